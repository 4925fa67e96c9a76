import PyProof.Rows.All
import Wide.All
import OpenK.AllK
import Wide.FinOn
import Lean
import PyProof.EqAt
import PyProof.EqKinds
import PyProof.TupleCall
import PySem.Challenge.RW_stepgrove_k49_orders_of_weighings
set_option Elab.async false
set_option linter.all false
set_option maxRecDepth 100000
abbrev MD:=List PySem.PyData→Option PySem.PyData
abbrev Fg:=PySem.W.Frag
abbrev Wb:=@PySem.wpAny_bind
abbrev PD:=PySem.PyData
abbrev SD:=PySem.Shared
abbrev VL:=PySem.Value
abbrev AD:=PySem.Addr
abbrev aA:=@Option.bind_eq_some_iff
abbrev aB:=@PySem.wpAny_pure
abbrev aC:=@PyProof.Rows.wpS_bind
abbrev aD:=@PyProof.Rows.wpS_pure
abbrev aE:=@Option.map_eq_some_iff
abbrev aF:=@PySem.Heap.get?_push_of_some
abbrev aG:=@PySem.Heap.lt_size
abbrev aH:=@Nat.le_refl
abbrev aI:=@Nat.ne_of_lt
abbrev aJ:=@Bool.false_ne_true
abbrev aK:=@Nat.lt_of_lt_of_le
abbrev aL:=@PySem.Heap.get?_push_size
abbrev aM:=@List.getElem?_eq_some_iff
abbrev aN:=@List.mem_cons
abbrev aO:=@List.mem_cons_of_mem
abbrev aP:=@List.mem_cons_self
abbrev aQ:=@PySem.wpAny_mono
abbrev aR:=@PySem.PassesOwn.never
abbrev aS:=@List.mem_append_right
abbrev aT:=@PySem.wpAny_call_entry
abbrev aU:=@PySem.wpAny_holding
abbrev aV:=@Option.some.inj
abbrev aW:=@PySem.wpAny_newObj_type
abbrev aX:=@Nat.lt_succ_of_lt
abbrev aY:=@PySem.wpAny_seqItems
abbrev aZ:=@Nat.le_trans
abbrev aa:=@Nat.zero_le
abbrev ae:=@PySem.wpAny_setState_of
abbrev af:=@PySem.W.kia_one
abbrev ag:=@PySem.wpAny_field
abbrev ah:=@PyProof.Rows.callWith_type1
abbrev ai:=@PySem.wpAny_callSpecial?_slot
abbrev aj:=@PyProof.Rows.wpS_modify
abbrev ak:=@PySem.Heap.SameBut.update
abbrev ao:=@PyProof.Rows.boot_isinstance
abbrev aq:=@of_decide_eq_true
abbrev ar:=@Nat.not_lt_zero
abbrev au:=@PySem.wpAny_rule
abbrev av:=@PySem.wpAny_setField_rec
abbrev aw:=@PySem.boot_len
abbrev ax:=@decide_eq_false
abbrev ay:=@congrArg
abbrev az:=@Nat.pow_le_pow_right
abbrev bA:=@PyProof.Rows.KeyOrd.kle_refl
abbrev bC:=@List.getElem?_eq_getElem
abbrev bD:=@List.size_toArray
abbrev bE:=@PySem.wpAny_newList
abbrev bF:=@Nat.le_of_lt
namespace L2
open PySem PySem.Spec PyProof.Rows
abbrev Key:=Sum Int Str
def U2:Key→VL→Bool
 |.inl k,v=>Value.isInt k v
 |.inr x,v=>Value.isStrOf x v
def bS(w:World):Key→Int
 |.inl k=>hashInt k
 |.inr x=>hashStr w x
def Bx:∀ {k:Key} {v:VL},U2 k v=true→(∃i t,k=Sum.inl i∧v=Value.int i t)∨(∃x t,k=Sum.inr x∧v=Value.str x t)
 |.inl i,v,h=>by
  obtain⟨t,e⟩:=Value.isInt_shape (k:=i) (v:=v) h;exact .inl ⟨i,t,rfl,e⟩
 |.inr x,v,h=>by
  obtain⟨t,e⟩:=Value.isStrOf_shape (x:=x) (v:=v) h;exact .inr ⟨x,t,rfl,e⟩
def Xq(a b:Int):decide ((Sum.inl a:Key)=Sum.inl b)=(a==b):=by
 by_cases e:a=b
 ·subst e;simp
 ·have h:¬(Sum.inl a:Key)=Sum.inl b:=fun q=>e (Sum.inl.inj q);rw[decide_eq_false h];exact(beq_eq_false_iff_ne.mpr e).symm
def XD(a b:Str):decide ((Sum.inr a:Key)=Sum.inr b)=decide (a=b):=by
 by_cases e:a=b
 ·subst e;simp
 ·have h:¬(Sum.inr a:Key)=Sum.inr b:=fun q=>e (Sum.inr.inj q);rw[decide_eq_false h,decide_eq_false e]
def Yy(a:Int)(b:Str):decide ((Sum.inl a:Key)=Sum.inr b)=false:=ax (fun q=>nomatch q)
def XC(a:Str)(b:Int):decide ((Sum.inr a:Key)=Sum.inl b)=false:=ax (fun q=>nomatch q)
def O7(prog:Program)(w:World):PySem.KeyKind prog w Key where
 is:=U2
 hash:=bS w
 inj:=fun v a b ha hb=>by
  rcases Bx ha with ⟨i,t,rfl,rfl⟩|⟨x,t,rfl,rfl⟩
  ·rcases Bx hb with ⟨j,u,rfl,e⟩|⟨y,u,rfl,e⟩
   ·injection e with e1 _;rw[e1]
   ·exact nomatch e
  ·rcases Bx hb with ⟨j,u,rfl,e⟩|⟨y,u,rfl,e⟩
   ·exact nomatch e
   ·injection e with e1 _;rw[e1]
 byValue:=fun k v h=>by
  rcases Bx h with ⟨i,t,rfl,rfl⟩|⟨x,t,rfl,rfl⟩<;>rfl
 pyHash:=fun hv h=>by
  rcases Bx hv with ⟨i,t,rfl,rfl⟩|⟨x,t,rfl,rfl⟩
  ·exact wpAny_pyHash_int h
  ·exact wpAny_pyHash_str h
 eqBool:=fun hu hv h=>by
  rcases Bx hu with ⟨i,t,rfl,rfl⟩|⟨x,t,rfl,rfl⟩
  ·rcases Bx hv with ⟨j,u,rfl,rfl⟩|⟨y,u,rfl,rfl⟩
   ·rw[Xq]at h;exact wpAny_eqBool_int h
   ·rw[Yy]at h;exact SeqAt.EqAt.int_str i t y u _ _ _ _ h
  ·rcases Bx hv with ⟨j,u,rfl,rfl⟩|⟨y,u,rfl,rfl⟩
   ·rw[XC]at h;exact SeqAt.EqAt.str_int x t j u _ _ _ _ h
   ·rw[XD]at h;exact wpAny_eqBool_str h
 «strs»:=fun k x t v h=>by
  rcases Bx h with ⟨i,u,rfl,e⟩|⟨y,u,rfl,e⟩
  ·exact nomatch e
  ·injection e with e1 _
   subst e1;cases v<;>rfl
inductive V where
 |Ao|bl (b:Bool)|int (i:Int)|str (x:Str)|JK (b:Array UInt8)|P4 (b:UInt64)|ref (a:Addr)|ty (n:String)
 deriving DecidableEq
def RelV:V→VL→Prop
 |.Ao,u=>u=Value.none
 |.bl b,u=>u=Value.bool b
 |.int i,u=>∃t,u=Value.int i t
 |.str x,u=>∃t,u=Value.str x t
 |.JK b,u=>∃t,u=Value.bytes b t
 |.P4 b,u=>∃t,u=Value.float b t
 |.ref a,u=>u=Value.ref a
 |.ty n,u=>u=Value.type n
abbrev Vals:List V→List VL→Prop:=Paired RelV
def Vals.length{xs:List V}{us:List VL}(r:Vals xs us):xs.length=us.length:=Paired.length r
def Vals.get:∀ {xs:List V} {us:List VL} {i:Nat} {x:V},Vals xs us→xs[i]? = some x→∃u,us[i]? = some u∧RelV x u
 |_,_,_,_,.nil,e=>by simp at e
 |_,_,0,_,.cons r _,e=>by simp at e;subst e;exact⟨_,rfl,r⟩
 |_,_,i+1,x,.cons _ t,e=>by
  obtain⟨u,h1,h2⟩:=Vals.get (i:=i) (x:=x) t (by simpa using e);exact⟨u,by simpa using h1,h2⟩
def Vals.set{x:V}{u:VL}(r:RelV x u):∀ {xs:List V} {us:List VL} (i:Nat),Vals xs us→Vals (xs.set i x) (us.set i u)
 |_,_,_,.nil=>.nil
 |_,_,0,.cons _ t=>.cons r t
 |_,_,i+1,.cons q t=>.cons q (Vals.set r i t)
def Vals.append:∀ {xs ys:List V} {us ws:List VL},Vals xs us→Vals ys ws→Vals (xs++ys) (us++ws)
 |_,_,_,_,.nil,s=>s
 |_,_,_,_,.cons r t,s=>.cons r (Vals.append t s)
def Vals.take:∀ {xs:List V} {us:List VL} (n:Nat),Vals xs us→Vals (xs.take n) (us.take n)
 |_,_,0,_=>.nil
 |_,_,_+1,.nil=>.nil
 |_,_,n+1,.cons r t=>.cons r (Vals.take n t)
def Vals.drop:∀ {xs:List V} {us:List VL} (n:Nat),Vals xs us→Vals (xs.drop n) (us.drop n)
 |_,_,0,r=>r
 |_,_,_+1,.nil=>.nil
 |_,_,n+1,.cons _ t=>Vals.drop n t
def UG:Option V→Option VL→Prop
 |some v,some u=>RelV v u
 |none,none=>True
 |_,_=>False
def KV{κ:Type}:List (κ×V)→List (κ×VL)→Prop:=Paired fun(p:κ×V) (q:κ×VL)=>p.1=q.1∧RelV p.2 q.2
def kV:Key→V
 |.inl i=>.int i
 |.inr x=>.str x
inductive HO where
 |lst (xs:List V)
 |tup (xs:List V)
 |dK (kvs:List (Key×V))|dT (kvs:List (List Key×V))
 |set (S:Int→Bool) (n:Nat)
 |ins (C dx:Addr) (fs:List (Str×V))
 |own (x:Addr)
 |xd (fs:List (Str×V))
 |met (f x:Addr)
 |Yz (lo hi:Int)
 |DP (o:Obj) (u:HO)
 |LR (ps:Array Value)
 |ext (φ:Heap→Prop)
abbrev Hp:=AD→Option HO
def upd(H:Hp)(a:AD)(o:HO):Hp:=fun b=>if b=a then some o else H b
def AX{H:Hp}{a:AD}{o:HO}:upd H a o a=some o:=by unfold upd;rw[if_pos rfl]
def AH{H:Hp}{a b:AD}{o:HO}(h:b≠a):upd H a o b=H b:=by unfold upd;rw[if_neg h]
def Ad{H:Hp}{a b:AD}{o:HO}(h:H a=some o)(h':H b=none):a≠b:=by
 intro e;subst e;rw[h]at h';cases h'
section
variable(P:Program)(w:World)
def Bq(H:Hp)(h:Heap)(a:AD):HO→Prop
 |.lst xs=>xs.length≤sizeLine∧∃(its:List VL) (n:Nat),Vals xs its∧h.get? a=some { cls:=.type "list",data:=.seq its.toArray n}
 |.tup xs=>xs.length≤sizeLine∧∃its:List VL,Vals xs its∧IsTup h a its.toArray
 |.dK kvs=>kvs.length≤sizeLine∧(a==sysModules)=false∧∃vs,KV kvs vs∧h.DictOf (O7 P w) a vs
 |.dT kvs=>kvs.length≤sizeLine∧(a==sysModules)=false∧∃xs:List (List Key×AD×VL),
   Paired (fun(p:List Key×V) (q:List Key×AD×VL)=>p.1=q.1∧H q.2.1=some (.tup (p.1.map kV))∧RelV p.2 q.2.2) kvs xs ∧
   ∃o es ep,h.get? a=some o∧o.ExactDict∧o.data=.dict es ep∧es.toList=xs.map (entryOfKey (tupleKind (O7 P w)))∧(xs.map (·.1)).Nodup
 |.set S n=>h.SetOf (intKind P w) a S n
 |.ins C dx fs=>H dx=some (.own a)∧fs.length≤1000∧dx≠a∧h.get? a=some (PySem.W.instObj C dx) ∧
   ∃mA,h.Ns1 dx mA∧(∀f,UG (fs.lookup f) (mA f))∧PySem.Within mA (fs.map (·.1))
 |.own _=>∃o,h.get? a=some o
 |.xd fs=>∃mA,h.Ns1 a mA∧∀f,UG (fs.lookup f) (mA f)
 |.Yz lo hi=>∃t u v,h.get? a=some { cls:=.type "range",data:=.fields #[.int lo t,.int hi u,.int 1 v]}
 |.DP o u=>h.get? a=some o∧Bq H h a u
 |.LR ps=>h.get? a=some { cls:=.none,data:=.fields ps}
 |.met f x=>h.get? a=some (PySem.W.methodObj (.ref f) (.ref x))
 |.ext φ=>φ h∧(∃o,h.get? a=some o)∧∀h1 h2:Heap,φ h1→(∀o,h1.get? a=some o→h2.get? a=some o)→φ h2
def Cp(H:Hp)(h:Heap):Prop:=∀a o,H a=some o→Bq P w H h a o
end
section
variable{P:Program}{w:World}{H H':Hp}{h h':Heap}{a:AD}{o:HO}
def Bq.lt(x:Bq P w H h a o):a<h.objs.size:=by
 cases o with
 |lst xs=>obtain⟨_,_,_,_,e⟩:=x;exact aG e
 |tup xs=>obtain⟨_,_,_,p⟩:=x;exact p.lt
 |dK kvs=>obtain⟨_,_,_,_,o,_,_,e,_⟩:=x;exact aG e
 |dT kvs=>obtain⟨_,_,_,_,o,_,_,e,_⟩:=x;exact aG e
 |set S n=>obtain⟨o,_,_,_,e,_⟩:=x;exact aG e
 |ins C dx fs=>obtain⟨_,_,_,e,_⟩:=x;exact aG e
 |own y=>obtain⟨_,e⟩:=x;exact aG e
 |xd fs=>obtain⟨_,⟨_,_,_,e,_⟩,_⟩:=x;exact aG e
 |Yz lo hi=>obtain⟨_,_,_,e⟩:=x;exact aG e
 |DP ob u=>obtain⟨e,_⟩:=x;exact aG e
 |LR ps=>exact aG (show h.get? a=some _ from x)
 |met f y=>exact aG (show h.get? a=some _ from x)
 |ext φ=>obtain⟨_,⟨_,e⟩,_⟩:=x;exact aG e
def Paired.YC{α β:Type}{F G:α→β→Prop}:∀ {l₁:List α} {l₂:List β},Paired F l₁ l₂→(∀a b,F a b→G a b)→Paired G l₁ l₂
 |_,_,.nil,_=>.nil
 |_,_,.cons r t,f=>.cons (f _ _ r) (Paired.YC t f)
def Bq.GV(x:Bq P w H h a o)(k:∀b u,(b=a∨H b=some (.own a))→h.get? b=some u→h'.get? b=some u)
 (ho:∀b,H b=some (.own a)→H' b=some (.own a))(ht:∀b xs,H b=some (.tup xs)→H' b=some (.tup xs)):Bq P w H' h' a o:=by
 induction o with
 |lst xs=>obtain⟨z,its,n,r,e⟩:=x;exact⟨z,its,n,r,k _ _ (.inl rfl) e⟩
 |tup xs=>obtain⟨z,its,r,ob,e,c⟩:=x;exact⟨z,its,r,ob,k _ _ (.inl rfl) e,c⟩
 |dK kvs=>obtain⟨z,y,vs,r,ob,es,ep,e,c⟩:=x;exact⟨z,y,vs,r,ob,es,ep,k _ _ (.inl rfl) e,c⟩
 |dT kvs =>
  obtain⟨z,y,xs,r,ob,es,ep,e,c⟩:=x;exact⟨z,y,xs,Paired.YC r fun p q z=>⟨z.1,ht _ _ z.2.1,z.2.2⟩,ob,es,ep,k _ _ (.inl rfl) e,c⟩
 |set S n=>obtain⟨ob,es,ep,t,e,c⟩:=x;exact⟨ob,es,ep,t,k _ _ (.inl rfl) e,c⟩
 |ins C dx fs =>
  obtain⟨d,z,ne,e,mA,⟨od,es,ep,e2,c⟩,r⟩:=x;exact⟨ho _ d,z,ne,k _ _ (.inl rfl) e,mA,⟨od,es,ep,k _ _ (.inr d) e2,c⟩,r⟩
 |own y=>obtain⟨ob,e⟩:=x;exact⟨ob,k _ _ (.inl rfl) e⟩
 |xd fs=>obtain⟨mA,⟨od,es,ep,e,c⟩,r⟩:=x;exact⟨mA,⟨od,es,ep,k _ _ (.inl rfl) e,c⟩,r⟩
 |Yz lo hi=>obtain⟨t,u,v,e⟩:=x;exact⟨t,u,v,k _ _ (.inl rfl) e⟩
 |DP ob u ih=>obtain⟨e,q⟩:=x;exact⟨k _ _ (.inl rfl) e,ih q⟩
 |LR ps =>
  have e:h.get? a=some { cls:=.none,data:=.fields ps}:=x;show h'.get? a=some { cls:=.none,data:=.fields ps};exact k a _ (.inl rfl) e
 |met f y =>
  have e:h.get? a=some (PySem.W.methodObj (.ref f) (.ref y)):=x;show h'.get? a=some (PySem.W.methodObj (.ref f) (.ref y));exact k a _ (.inl rfl) e
 |ext φ=>obtain⟨p,⟨o,e⟩,st⟩:=x;exact⟨st _ _ p fun o q=>k _ _ (.inl rfl) q,⟨o,k _ _ (.inl rfl) e⟩,st⟩
def Cp.lt(x:Cp P w H h)(e:H a=some o):a<h.objs.size:=(x a o e).lt
def Cp.fresh(x:Cp P w H h)(e:h.objs.size≤a):H a=none:=by
 cases q:H a with
 |none=>rfl
 |some u=>exact absurd (aK (x.lt q) e) (Nat.lt_irrefl _)
def Cp.kept(x:Cp P w H h)(k:∀b u,h.get? b=some u→h'.get? b=some u):Cp P w H h':=fun a o e =>
 (x a o e).GV (fun b u _ q=>k b u q) (fun _ q=>q) fun _ _ q=>q
def Cp.laid(x:Cp P w H h)(k:∀b u,h.get? b=some u→h'.get? b=some u)(hp:h.objs.size≤a)(new:Bq P w (upd H a o) h' a o):Cp P w (upd H a o) h':=fun b u e=>by
 have hn:=x.fresh hp;by_cases hb:b=a
 ·subst hb;rw[AX]at e;cases e;exact new
 ·rw[AH hb]at e;exact(x b u e).GV (fun c v _ q=>k c v q) (fun c q=>by rw[AH (Ad q hn)];exact q) fun c xs q=>by rw[AH (Ad q hn)];exact q
end
def Rd(H:Hp)(a:AD)(u:HO):Prop:=H a=some u∨∃o,H a=some (.DP o u)
def Rd.ok{P:Program}{w:World}{H:Hp}{h:Heap}{a:AD}{u:HO}(r:Rd H a u)(x:Cp P w H h):Bq P w H h a u:=by
 rcases r with r|⟨o,r⟩
 ·exact x a u r
 ·obtain⟨_,q⟩:=x a _ r;exact q
def U5:Option HO→Prop
 |some (.lst _)=>True
 |some (.dK _)=>True
 |some (.dT _)=>True
 |some (.set _ _)=>True
 |some (.ins _ _ _)=>True
 |some (.ext _)=>True
 |_=>False
section
variable{P:Program}{w:World}{H:Hp}{h h':Heap}{x e:AD}{o':HO}
def Cp.write(ok:Cp P w H h)(mu:U5 (H x))(he:e=x∨H e=some (.own x))(k:∀b u,b≠e→h.get? b=some u→h'.get? b=some u)(heo:∃u,h'.get? e=some u)
 (new:Bq P w (upd H x o') h' x o'):Cp P w (upd H x o') h':=fun b u q=>by
 have nown:∀c y,H c=some (.own y)→c≠x:=fun c y r z=>by subst z;rw[r]at mu;exact mu
 have NX:∀c xs,H c=some (.tup xs)→c≠x:=fun c xs r z=>by subst z;rw[r]at mu;exact mu
 by_cases hb:b=x
 ·subst hb;rw[AX]at q;cases q;exact new
 ·rw[AH hb]at q;by_cases hbe:b=e
  ·have q':H b=some (.own x):=by
    rcases he with z|z
    ·exact absurd (hbe.trans z) hb
    ·rw[hbe];exact z
   rw[q]at q';cases q';obtain⟨v,hv⟩:=heo;exact⟨v,by rw[hbe];exact hv⟩
  ·refine(ok b u q).GV (fun c v hc r=>k c v ?_ r) (fun c r=>by rw[AH (nown c b r)];exact r) fun c xs r=>by rw[AH (NX c xs r)];exact r
   rcases hc with rfl|hc
   ·exact hbe
   ·rintro rfl;rcases he with z|z
    ·exact nown c b hc z
    ·rw[hc]at z;cases z;exact hb rfl
end
structure Un(fs ex:List Addr)(H H':Hp)(h h':Heap):Prop where
 keep:∀b o,h.get? b=some o→H b=none→b ∉ fs→b ∉ ex→h'.get? b=some o
 slot:∀b o,h.get? b=some o→H b=none→b∈fs→b ∉ ex→∃sl,h'.get? b=some {o with slots:=sl}
 free:∀b o,h.get? b=some o→H b=none→b ∉ ex→H' b=none
 there:∀b o,h.get? b=some o→b ∉ ex→∃o',h'.get? b=some o'
 Bu:∀b xs,H b=some (.tup xs)→H' b=some (.tup xs)
 Ed:∀b o u,H b=some (.DP o u)→H' b=some (.DP o u)
 E9:∀b ps,H b=some (.LR ps)→∃more,H' b=some (.LR (ps++more))
section
variable{fs fs' ex ex':List AD}{H H1 H2:Hp}{h h1 h2 h':Heap}{a x e:AD}{o:HO}
def Un.any(u:Un fs ex H H1 h h1){b:AD}{ob:Obj}(q:h.get? b=some ob)(n:H b=none)(hx:b ∉ ex):∃sl,h1.get? b=some {ob with slots:=sl}:=by
 by_cases hb:b∈fs
 ·exact u.slot b ob q n hb hx
 ·exact⟨ob.slots,u.keep b ob q n hb hx⟩
def Un.kept(k:∀b u,h.get? b=some u→h'.get? b=some u):Un fs ex H H h h' :=
 ⟨fun b ob q _ _ _=>k b ob q,fun b ob q _ _ _=>⟨ob.slots,k b ob q⟩,fun _ _ _ n _=>n,fun b ob q _=>⟨ob,k b ob q⟩,fun _ _ q=>q,fun _ _ _ q=>q,fun _ ps q=>⟨#[],by rw[q];simp⟩⟩
def Un.refl:Un fs ex H H h h:=Un.kept fun _ _ q=>q
def Un.laid(k:∀b u,h.get? b=some u→h'.get? b=some u)(hp:h.objs.size≤a)(hn:H a=none):Un fs ex H (upd H a o) h h' where
 keep:=fun b u q _ _ _=>k b u q
 slot:=fun b u q _ _ _=>⟨u.slots,k b u q⟩
 free:=fun b u q n _=>by rw[AH (aI (aK (aG q) hp))];exact n
 there:=fun b u q _=>⟨u,k b u q⟩
 Bu:=fun b xs q=>by rw[AH (Ad q hn)];exact q
 Ed:=fun b u xs q=>by rw[AH (Ad q hn)];exact q
 E9:=fun b ps q=>⟨#[],by rw[AH (Ad q hn),q];simp⟩
def Un.write(mu:U5 (H x))(he:e=x∨H e=some (.own x))(k:∀b u,b≠e→h.get? b=some u→h'.get? b=some u)(heo:∃u,h'.get? e=some u):Un fs ex H (upd H x o) h h':=by
 have hx:∀b,H b=none→b≠x:=fun b n z=>by subst z;rw[n]at mu;exact mu
 have hb:∀b,H b=none→b≠e:=fun b n z=>by
  subst z;rcases he with r|r
  ·exact hx b n r
  ·rw[n]at r;cases r
 have hm:∀b u,H b=some u→¬U5 (some u)→b≠x:=fun b u q nm z=>by subst z;rw[q]at mu;exact nm mu
 refine⟨fun b u q n _ _=>k b u (hb b n) q,fun b u q n _ _=>⟨u.slots,k b u (hb b n) q⟩,fun b u q n _=>by rw[AH (hx b n)];exact n,fun b u q _=>?_,
  fun b xs q=>by rw[AH (hm b _ q fun z=>z)];exact q,fun b u xs q=>by rw[AH (hm b _ q fun z=>z)];exact q,fun b ps q=>⟨#[],by rw[AH (hm b _ q fun z=>z),q];simp⟩⟩
 by_cases hbe:b=e
 ·subst hbe;exact heo
 ·exact⟨u,k b u hbe q⟩
end
def EK(h:Heap)(H:Hp):List AD:=(List.range h.objs.size).filter fun a=>(H a).isSome
def Ig(h:Heap)(H:Hp):Heap:=PySem.W.hideAll h (EK h H)
def RS(h:Heap)(H:Hp):(Ig h H).objs.size=h.objs.size:=PySem.W.hideAll_size _ _
def UE{h:Heap}{H:Hp}{b:AD}{o:Obj}(e:h.get? b=some o)(n:H b=none):(Ig h H).get? b=some o :=
 PySem.W.hideAll_get _ e fun hm=>by
  have q:(H b).isSome=true:=(List.mem_filter.mp hm).2;rw[n]at q;simp at q
def V4{h:Heap}{H:Hp}{b:AD}{o:Obj}(e:(Ig h H).get? b=some o):h.get? b=some o∧H b=none:=by
 have e':h.get? b=some o:=PySem.W.of_hideAll (EK h H) e;refine⟨e',?_⟩;cases q:H b with
 |none=>rfl
 |some x =>
  have hm:b∈EK h H:=List.mem_filter.mpr ⟨List.mem_range.mpr (aG e'),by simp[q]⟩;have z:(Ig h H).get? b=none:=PySem.W.hideAll_none (EK h H) hm;rw[z]at e;cases e
structure Mod(K:Fg)(mg:Str→Option Value)(base:Heap):Prop where
 LI:K.In base
 glob:base.Ns mainGlobals mg
 blt:∃mb,base.Ns builtinsNs mb∧∀x:Str,x ≠ "__name__" → mb x=bootBuiltins x
 nolimit:base.NoLimit
structure Cx where
 prog:Program
 w:World
 K:Fg
 mg:Str→Option Value
 base:Heap
 A:Around
 N:List Str
 s₀:Shared
 H₀:Hp
 env:Env
 outer:List Env
 stack:List Env
 ex:List Addr
 fn:Str→Bool
 calm:Bool
 pn:List (Addr×Obj)
 xe:Value→Shared→Prop
def Dw(l:List Env):List AD:=l.filterMap (·.frame)
abbrev Cx.fs(X:Cx):List AD:=Dw X.outer
def YI(sc:Scope)(x:Str):Prop:=sc.names.lookup x=some .local∨sc.names.lookup x=some .cell∨sc.names.lookup x=some .free
def Loc(sc:Scope)(x:Str):Prop:=sc.names.lookup x=some .local∨sc.names.lookup x=some .cell
def Look(env:Env)(h:Heap)(m:Str→Option VL)(x:Str)(u:VL):Prop :=
 (env.kindOf x=some .local∧m x=some u)∨((env.kindOf x=some .cell∨env.kindOf x=some .free)∧∃c,env.cells.lookup x=some c∧h.IsCell c (some u))
structure Cx.Ok(X:Cx):Prop where
 mod:Mod X.K X.mg X.base
 kind:X.env.scope.kind=.function
 glob:X.env.globals=mainGlobals
 blt:X.env.builtins=builtinsNs
 above:X.s₀.heap.objs.size≤X.env.locals
 inj:∀x y c,X.env.cells.lookup x=some c→X.env.cells.lookup y=some c→x=y
 has:∀x,(X.env.kindOf x=some .cell∨X.env.kindOf x=some .free)→∃c,X.env.cells.lookup x=some c
 SY:∀x c,X.fn x=true→X.env.cells.lookup x=some c→X.s₀.heap.objs.size≤c
 hd:X.calm=true→X.A.handled=none
 frames:X.A.frames=some X.stack
 U7:X.stack=X.outer∨(X.stack=X.env::X.outer∧X.env.frame=some X.env.locals)
 bG:∀b∈X.ex,b≠X.env.locals∧∀x c,X.env.cells.lookup x=some c→c≠b
 bs:∀b o,X.base.get? b=some o→X.s₀.heap.get? b=some o∧X.H₀ b=none
 MF:X.base.objs.size≤X.s₀.heap.objs.size
 NA:∀b o,X.base.get? b=some o→b ∉ X.ex
 NF:∀b∈X.ex,b ∉ X.fs
 FA:X.s₀.heap.FunFrames X.base X.outer
 MO:∀b∈X.fs,X.H₀ b=none
structure Inv(X:Cx)(pins:List (Addr×Obj))(σ:List (Option V))(H:Hp)(s:Shared):Prop where
 ok:X.Ok
 os:s.os=X.s₀.os
 bare:AllBare s.gens
 base:Un X.fs X.ex X.H₀ H X.s₀.heap s.heap
 loc:∃m,s.heap.Ns X.env.locals m∧∀(i:Nat) (x:Str) (v:V),X.N[i]? = some x→σ[i]? = some (some v)→YI X.env.scope x→∃u,RelV v u∧Look X.env s.heap m x u
 cell:∀x c,X.env.cells.lookup x=some c→∃v,s.heap.IsCell c v
 free:H X.env.locals=none
 FL:∀x c,X.env.cells.lookup x=some c→H c=none
 pin:∀p∈X.pn++pins,s.heap.get? p.1=some p.2∧H p.1=none∧p.1≠X.env.locals∧p.1 ∉ X.fs∧∀v,p.2.data≠.cell v
 Ag:Cp X.prog X.w H s.heap
 len:σ.length=X.N.length
section
variable{X:Cx}{pins:List (AD×Obj)}{σ:List (Option V)}{H H':Hp}{s:SD}{h':Heap}
def Cx.Ok.cI(ok:X.Ok){b:AD}{o:Obj}(e:X.base.get? b=some o):b ∉ X.fs:=fun hb=>by
 have:=(ok.FA.mem hb).1;rw[e]at this;cases this
def Inv.bs(I:Inv X pins σ H s):∀b o,X.base.get? b=some o→s.heap.get? b=some o∧H b=none:=fun b o e =>
 ⟨I.base.keep b o (I.ok.bs b o e).1 (I.ok.bs b o e).2 (I.ok.cI e) (I.ok.NA b o e),I.base.free b o (I.ok.bs b o e).1 (I.ok.bs b o e).2 (I.ok.NA b o e)⟩
def Inv.bk(I:Inv X pins σ H s):∀b o,X.base.get? b=some o→s.heap.get? b=some o:=fun b o e=>(I.bs b o e).1
def Inv.mod(I:Inv X pins σ H s):Mod X.K X.mg X.base:=I.ok.mod
def Inv.FR(I:Inv X pins σ H s):X.K.In s.heap:=I.ok.mod.LI.keeps I.bk
def Inv.lt(I:Inv X pins σ H s):X.env.locals<s.heap.objs.size:=let⟨_,hn,_⟩:=I.loc;hn.lt
def Inv.sz(I:Inv X pins σ H s):X.s₀.heap.objs.size≤s.heap.objs.size:=aZ I.ok.above (bF I.lt)
def Inv.cV(I:Inv X pins σ H s){a:AD}(h:s.heap.objs.size≤a):a ∉ X.fs:=fun hb=>by
 obtain⟨_,o,ho,_⟩:=I.ok.FA.mem hb;exact absurd (aK (aG ho) (aZ I.sz h)) (Nat.lt_irrefl _)
def Inv.Na(I:Inv X pins σ H s):∀x c,X.env.cells.lookup x=some c→c≠X.env.locals:=fun x c e z=>by
 obtain⟨v,o,ho,hd⟩:=I.cell x c e;obtain⟨m,⟨o',es,ep,ho',hd',_⟩,_⟩:=I.loc;rw[z,ho']at ho;cases ho;rw[hd']at hd;cases hd
def Inv.FA(I:Inv X pins σ H s):s.heap.FunFrames X.base X.outer:=by
 have all:∀(l:List Env),(∀b∈Dw l,b∈X.fs)→X.s₀.heap.FunFrames X.base l→s.heap.FunFrames X.base l:=by
  intro l
  induction l with
  |nil=>intro _ _;trivial
  |cons env r ih =>
   intro hs hl;obtain⟨hk,⟨L,o,hf,hn,ho,hd⟩,hr⟩:=hl;have hL:L∈X.fs:=hs L (by unfold Dw;rw[List.filterMap_cons,hf];exact aP);obtain⟨sl,e⟩:=I.base.slot L o ho (I.ok.MO L hL) hL fun z=>I.ok.NF L z hL;exact⟨hk,⟨L,_,hf,hn,e,hd⟩,ih (fun b hb=>hs b (by unfold Dw;rw[List.filterMap_cons,hf];exact aO _ hb)) hr⟩
 exact all X.outer (fun _ hb=>hb) I.ok.FA
def Inv.stack(I:Inv X pins σ H s):s.heap.FunFrames X.base X.stack:=by
 rcases I.ok.U7 with e|⟨e,hf⟩
 ·rw[e];exact I.FA
 ·rw[e];obtain⟨m,hn,_⟩:=I.loc;refine .cons (by rw[I.ok.kind];decide) hf hn ?_ I.FA;exact Heap.get?_none_of_le (aZ I.ok.MF I.ok.above)
def Inv.JS(I:Inv X pins σ H s):∀b∈Dw X.stack,b∈X.env.locals::X.fs:=fun b hb=>by
 rcases I.ok.U7 with e|⟨e,hf⟩
 ·rw[e]at hb;exact aO _ hb
 ·rw[e]at hb;unfold Dw at hb;rw[List.filterMap_cons,hf]at hb;exact hb
def Inv.Lv(I:Inv X pins σ H s):∀b∈Dw X.stack,H b=none:=fun b hb=>by
 rcases aN.mp (I.JS b hb) with e|hb
 ·rw[e];exact I.free
 ·obtain⟨_,o,ho,_⟩:=I.ok.FA.mem hb;exact I.base.free b o ho (I.ok.MO b hb) fun z=>I.ok.NF b z hb
def Inv.step{g':Array GenState}{t':Nat}{d':Drawn}{ch:List AD}(I:Inv X pins σ H s)
 (hch:∀b∈ch,(b∈X.ex∨X.s₀.heap.objs.size≤b)∧b≠X.env.locals∧(∀x c,X.env.cells.lookup x=some c→c≠b)∧∀p∈X.pn++pins,p.1≠b)
 (keep:∀b o,b≠X.env.locals→b ∉ X.fs→b ∉ ch→s.heap.get? b=some o→H b=none→h'.get? b=some o)
 (slot:∀b o,b≠X.env.locals→b∈X.fs→b ∉ ch→s.heap.get? b=some o→H b=none→∃sl,h'.get? b=some {o with slots:=sl})(free:∀b o,b ∉ ch→s.heap.get? b=some o→H b=none→H' b=none)
 (there:∀b o,b ∉ ch→s.heap.get? b=some o→∃o',h'.get? b=some o')
 (Bu:∀b xs,H b=some (.tup xs)→H' b=some (.tup xs))(Ed:∀b o u,H b=some (.DP o u)→H' b=some (.DP o u))(E9:∀b ps,H b=some (.LR ps)→∃more,H' b=some (.LR (ps++more)))
 (ns:∀m,s.heap.Ns X.env.locals m→h'.Ns X.env.locals m)(Ag:Cp X.prog X.w H' h')(hg:AllBare g') :
  Inv X pins σ H' {s with heap:=h',gens:=g',drawn:=d',toks:=t'}:=by
 have neL:∀b o,X.s₀.heap.get? b=some o→b≠X.env.locals:=fun b o e=>aI (aK (aG e) I.ok.above);have neC:∀b o,X.s₀.heap.get? b=some o→b ∉ X.ex→b ∉ ch:=fun b o e hx hb=>by
  rcases(hch b hb).1 with z|z
  ·exact hx z
  ·exact absurd (aK (aG e) z) (Nat.lt_irrefl _)
 have cellK:∀x c,X.env.cells.lookup x=some c→∀v,s.heap.IsCell c v→h'.IsCell c v:=fun x c e v ⟨o,ho,hd⟩=>by
  have nch:c ∉ ch:=fun z=>(hch c z).2.2.1 x c e rfl;by_cases hc:c∈X.fs
  ·obtain⟨sl,q⟩:=slot c o (I.Na x c e) hc nch ho (I.FL x c e);exact⟨_,q,hd⟩
  ·exact⟨o,keep c o (I.Na x c e) hc nch ho (I.FL x c e),hd⟩
 refine⟨I.ok,I.os,hg,⟨fun b o e n hb hx=>?_,fun b o e n hb hx=>?_,fun b o e n hx=>?_,fun b o e hx=>?_,fun b xs e=>Bu b xs (I.base.Bu b xs e),fun b o xs e=>Ed b o xs (I.base.Ed b o xs e),fun b ps e=>?_⟩,?_,fun x c e=>?_,?_,fun x c e=>?_,fun p hp=>?_,Ag,I.len⟩
 ·exact keep b o (neL b o e) hb (neC b o e hx) (I.base.keep b o e n hb hx) (I.base.free b o e n hx)
 ·obtain⟨sl,e1⟩:=I.base.slot b o e n hb hx;obtain⟨sl',e2⟩:=slot b _ (neL b o e) hb (neC b o e hx) e1 (I.base.free b o e n hx);exact⟨sl',e2⟩
 ·obtain⟨o',e1⟩:=I.base.there b o e hx;exact free b o' (neC b o e hx) e1 (I.base.free b o e n hx)
 ·obtain⟨o',e1⟩:=I.base.there b o e hx;exact there b o' (neC b o e hx) e1
 ·obtain⟨m1,e1⟩:=I.base.E9 b ps e;obtain⟨m2,e2⟩:=E9 b _ e1;exact⟨m1++m2,by rw[e2,Array.append_assoc]⟩
 ·obtain⟨m,hn,hl⟩:=I.loc;refine⟨m,ns m hn,fun i x v e1 e2 e3=>?_⟩;obtain⟨u,r,l⟩:=hl i x v e1 e2 e3;refine⟨u,r,?_⟩;rcases l with l|⟨k,c,e,z⟩
  ·exact .inl l
  ·exact .inr ⟨k,c,e,cellK x c e _ z⟩
 ·obtain⟨v,z⟩:=I.cell x c e;exact⟨v,cellK x c e v z⟩
 ·obtain⟨m,⟨o,_,_,ho,_⟩,_⟩:=I.loc;exact free _ o (fun z=>(hch _ z).2.1 rfl) ho I.free
 ·obtain⟨v,o,ho,hd⟩:=I.cell x c e;exact free c o (fun z=>(hch c z).2.2.1 x c e rfl) ho (I.FL x c e)
 ·obtain⟨e,n,ne,nf,d⟩:=I.pin p hp;have nch:p.1 ∉ ch:=fun z=>(hch p.1 z).2.2.2 p hp rfl;exact⟨keep p.1 p.2 ne nf nch e n,free p.1 p.2 nch e n,ne,nf,d⟩
def Inv.un{t':Nat}(I:Inv X pins σ H s)(u:Un X.fs [] H H' s.heap h')(Ag:Cp X.prog X.w H' h'):Inv X pins σ H' {s with heap:=h',toks:=t'}:=by
 obtain⟨m,⟨o,es,ep,ho,r⟩,_⟩:=id I.loc;obtain⟨sl,hL⟩:=u.any ho I.free (by simp);exact I.step (g':=s.gens) (d':=s.drawn) (ch:=[]) (fun _ z=>nomatch z) (fun b o _ hb _ e n=>u.keep b o e n hb (by simp)) (fun b o _ hb _ e n=>u.slot b o e n hb (by simp)) (fun b o _ e n=>u.free b o e n (by simp)) (fun b o _ e=>u.there b o e (by simp)) u.Bu u.Ed u.E9 (fun m' hm=>by
  obtain⟨o',es',ep',ho',r'⟩:=hm;rw[ho]at ho';cases ho';exact⟨_,es',ep',hL,r'⟩) Ag I.bare
def Inv.call{g':Array GenState}{t':Nat}{d':Drawn}{ch:List AD}(I:Inv X pins σ H s)(u:Un (Dw X.stack) ch H H' s.heap h')(Ag:Cp X.prog X.w H' h')(hg:AllBare g')
 (hch:∀b∈ch,(b∈X.ex∨X.s₀.heap.objs.size≤b)∧b≠X.env.locals∧(∀x c,X.env.cells.lookup x=some c→c≠b)∧∀p∈X.pn++pins,p.1≠b) :
  Inv X pins σ H' {s with heap:=h',gens:=g',drawn:=d',toks:=t'}:=by
 obtain⟨m,⟨o,es,ep,ho,r⟩,_⟩:=id I.loc;obtain⟨sl,hL⟩:=u.any ho I.free fun z=>(hch _ z).2.1 rfl;exact I.step (ch:=ch) hch (fun b o hL hb hc e n=>u.keep b o e n (fun z=>(aN.mp (I.JS b z)).elim hL hb) hc) (fun b o _ _ hc e n=>u.any e n hc) (fun b o hc e n=>u.free b o e n hc) (fun b o hc e=>u.there b o e hc) u.Bu u.Ed u.E9 (fun m' hm=>by
  obtain⟨o',es',ep',ho',r'⟩:=hm;rw[ho]at ho';cases ho';exact⟨_,es',ep',hL,r'⟩) Ag hg
def Inv.turned{t':Nat}{it:AD}(I:Inv X pins σ H s)(k:∀b o,b≠it→s.heap.get? b=some o→h'.get? b=some o)(hn:H it=none)(hL:it≠X.env.locals)
 (h1:it∈X.ex∨X.s₀.heap.objs.size≤it)(h2:∀x c,X.env.cells.lookup x=some c→c≠it)(h3:∀p∈X.pn++pins,p.1≠it):Inv X pins σ H {s with heap:=h',toks:=t'}:=by
 have nit:∀b u,H b=some u→b≠it:=fun b u e z=>by rw[z,hn]at e;cases e
 refine I.step (g':=s.gens) (d':=s.drawn) (ch:=[it]) (fun b hb=>?_) (fun b o _ _ hc e _=>k b o (fun z=>hc (by simp[z])) e) (fun b o _ _ hc e _=>⟨o.slots,k b o (fun z=>hc (by simp[z])) e⟩) (fun _ _ _ _ n=>n)
  (fun b o hc e=>⟨o,k b o (fun z=>hc (by simp[z])) e⟩) (fun _ _ e=>e) (fun _ _ _ e=>e) (fun b ps e=>⟨#[],by rw[e];simp⟩) (fun m hm=>?_) (fun b u e=>?_) I.bare
 ·have e:b=it:=by simpa using hb
  subst e;exact⟨h1,hL,h2,h3⟩
 ·obtain⟨o,es,ep,ho,r⟩:=hm;exact⟨o,es,ep,k _ o (Ne.symm hL) ho,r⟩
 ·refine(I.Ag b u e).GV (fun c v hc q=>k c v ?_ q) (fun _ q=>q) fun _ _ q=>q;rcases hc with z|z
  ·rw[z];exact nit b u e
  ·exact nit c _ z
def Inv.tok(I:Inv X pins σ H s)(t:Nat):Inv X pins σ H {s with toks:=t}:=I.un (h':=s.heap) (t':=t) Un.refl I.Ag
def Inv.kept{t':Nat}(I:Inv X pins σ H s)(k:∀b u,s.heap.get? b=some u→h'.get? b=some u):Inv X pins σ H {s with heap:=h',toks:=t'}:=I.un (Un.kept k) (I.Ag.kept k)
def Inv.laid{a:AD}{o:HO}{t':Nat}(I:Inv X pins σ H s)(k:∀b u,s.heap.get? b=some u→h'.get? b=some u)(hp:s.heap.objs.size≤a)(new:Bq X.prog X.w (upd H a o) h' a o) :
  Inv X pins σ (upd H a o) {s with heap:=h',toks:=t'}:=I.un (Un.laid k hp (I.Ag.fresh hp)) (I.Ag.laid k hp new)
def Inv.write{x e:AD}{o:HO}{t':Nat}(I:Inv X pins σ H s)(mu:U5 (H x))(he:e=x∨H e=some (.own x))(k:∀b u,b≠e→s.heap.get? b=some u→h'.get? b=some u)(heo:∃u,h'.get? e=some u)
 (new:Bq X.prog X.w (upd H x o) h' x o):Inv X pins σ (upd H x o) {s with heap:=h',toks:=t'}:=I.un (Un.write mu he k heo) (I.Ag.write mu he k heo new)
def Inv.O3{pins':List (AD×Obj)}(I:Inv X pins σ H s)(h:∀p∈pins',s.heap.get? p.1=some p.2∧H p.1=none∧p.1≠X.env.locals∧p.1 ∉ X.fs∧∀v,p.2.data≠.cell v):Inv X pins' σ H s :=
 ⟨I.ok,I.os,I.bare,I.base,I.loc,I.cell,I.free,I.FL,fun p hp=>(List.mem_append.mp hp).elim (fun z=>I.pin p (List.mem_append_left _ z)) (h p),I.Ag,I.len⟩
def NT{N:List Str}(hN:N.Nodup){i j:Nat}{x:Str}(a:N[i]? = some x)(b:N[j]? = some x):i=j:=by
 obtain⟨h1,e1⟩:=aM.mp a;obtain⟨h2,e2⟩:=aM.mp b;exact(List.getElem_inj hN).mp (e1.trans e2.symm)
def MU{M:Model}{A:Around}{E:VL→SD→Prop}{i:Nat}{x:Str}{v:V}{u:VL}{Q:Unit→SD→Prop}(I:Inv X pins σ H s)(hN:X.N.Nodup)(hi:X.N[i]? = some x)(hx:Loc X.env.scope x)(r:RelV v u)
 (h:∀s',Inv X pins (σ.set i (some v)) H s'→(∃a,Heap.SameBut a s.heap s'.heap∧(a=X.env.locals∨X.env.cells.lookup x=some a))→Q () s')(hf:X.fn x=true∨X.env.scope.names.lookup x=some .local:=by first|exact .inl rfl|exact .inr rfl|assumption):wpAny M A (storeName X.env x u) Q E s:=by
 obtain⟨m,hn,hl⟩:=id I.loc;have hcls:(X.env.scope.kind==.class||(X.env.scope.kind==.module&&X.env.locals != X.env.globals))=false:=by rw[I.ok.kind];rfl
 have hiσ:i<σ.length:=by rw[I.len];exact(aM.mp hi).1
 have Na:=I.Na;have tracked:∀ {a:AD} {h':Heap},(∃o,s.heap.get? a=some o∧H a=none)→Heap.SameBut a s.heap h'→Cp X.prog X.w H h':=fun {a h'} ha hs b ob e=>by
  obtain⟨_,_,hfree⟩:=ha;refine(I.Ag b ob e).GV (fun c w' hc q=>(hs.2 c ?_).trans q) (fun _ q=>q) fun _ _ q=>q;rintro rfl;rcases hc with rfl|hc
  ·rw[hfree]at e;cases e
  ·rw[hfree]at hc;cases hc
 rcases hx with hk|hk
 ·refine wpAny_storeName_local hk hn (fun h' hn' hs=>?_) hcls;obtain⟨oL,_,_,hoL,_⟩:=id hn;refine h _ ⟨I.ok,I.os,I.bare,⟨fun b o e n hb hx=>?_,fun b o e n hb hx=>?_,I.base.free,fun b o e hx=>?_,I.base.Bu,I.base.Ed,I.base.E9⟩,⟨_,hn',fun j y v' e1 e2 e3=>?_⟩,fun y c e=>?_,I.free,I.FL,fun p hp=>?_,tracked ⟨oL,hoL,I.free⟩ hs,by simpa using I.len⟩ ⟨_,hs,.inl rfl⟩
  ·exact(hs.2 b (aI (aK (aG e) I.ok.above))).trans (I.base.keep b o e n hb hx)
  ·obtain⟨sl,e1⟩:=I.base.slot b o e n hb hx;exact⟨sl,(hs.2 b (aI (aK (aG e) I.ok.above))).trans e1⟩
  ·obtain⟨o',e1⟩:=I.base.there b o e hx;exact⟨o',(hs.2 b (aI (aK (aG e) I.ok.above))).trans e1⟩
  ·by_cases hj:j=i
   ·subst hj;rw[hi]at e1;cases e1;rw[List.getElem?_set_self hiσ]at e2;cases e2;exact⟨u,r,.inl ⟨hk,by simp⟩⟩
   ·rw[List.getElem?_set_ne (Ne.symm hj)]at e2;obtain⟨u',r',q⟩:=hl j y v' e1 e2 e3;refine⟨u',r',?_⟩;rcases q with ⟨k,e⟩|⟨k,c,e,z⟩
    ·refine .inl ⟨k,?_⟩;have:y≠x:=fun e=>hj (NT hN e1 (e ▸ hi));simp[this,e]
    ·exact .inr ⟨k,c,e,z.sameBut hs (Na y c e)⟩
  ·obtain⟨w',z⟩:=I.cell y c e;exact⟨w',z.sameBut hs (Na y c e)⟩
  ·obtain⟨e,n,ne,nf,d⟩:=I.pin p hp;exact⟨(hs.2 p.1 ne).trans e,n,ne,nf,d⟩
 ·have hfn:X.fn x=true:=by
   rcases hf with z|z
   ·exact z
   ·rw[z]at hk;cases hk
  obtain⟨c,hc⟩:=I.ok.has x (.inl hk);obtain⟨w',z⟩:=I.cell x c hc;refine wpAny_storeName_cell I.ok.kind hk hc z (fun h' hc' hs=>?_);obtain⟨oc,hoc,hocd⟩:=id z;refine h {s with heap:=h'} ⟨I.ok,I.os,I.bare,⟨fun b o e n hb hx=>?_,fun b o e n hb hx=>?_,I.base.free,fun b o e hx=>?_,I.base.Bu,I.base.Ed,I.base.E9⟩,⟨m,hn.sameBut hs (Ne.symm (Na x c hc)),fun j y v' e1 e2 e3=>?_⟩,fun y c' e=>?_,I.free,I.FL,fun p hp=>?_,tracked ⟨oc,hoc,I.FL x c hc⟩ hs,by simpa using I.len⟩ ⟨c,hs,.inr hc⟩
  ·exact(hs.2 b (aI (aK (aG e) (I.ok.SY x c hfn hc)))).trans (I.base.keep b o e n hb hx)
  ·obtain⟨sl,e1⟩:=I.base.slot b o e n hb hx;exact⟨sl,(hs.2 b (aI (aK (aG e) (I.ok.SY x c hfn hc)))).trans e1⟩
  ·obtain⟨o',e1⟩:=I.base.there b o e hx;exact⟨o',(hs.2 b (aI (aK (aG e) (I.ok.SY x c hfn hc)))).trans e1⟩
  ·by_cases hj:j=i
   ·subst hj;rw[hi]at e1;cases e1;rw[List.getElem?_set_self hiσ]at e2;cases e2;exact⟨u,r,.inr ⟨.inl hk,c,hc,hc'⟩⟩
   ·rw[List.getElem?_set_ne (Ne.symm hj)]at e2;obtain⟨u',r',q⟩:=hl j y v' e1 e2 e3;refine⟨u',r',?_⟩;rcases q with q|⟨k,c',e,z'⟩
    ·exact .inl q
    ·refine .inr ⟨k,c',e,z'.sameBut hs ?_⟩;rintro rfl;exact hj (NT hN e1 (I.ok.inj _ _ _ e hc ▸ hi))
  ·by_cases hcc:c'=c
   ·subst hcc;exact⟨_,hc'⟩
   ·obtain⟨w2,z2⟩:=I.cell y c' e;exact⟨w2,z2.sameBut hs hcc⟩
  ·obtain⟨e,n,ne,nf,d⟩:=I.pin p hp;refine⟨(hs.2 p.1 ?_).trans e,n,ne,nf,d⟩;intro q;rw[q,hoc]at e;have q':oc=p.2:=aV e;exact d w' (by rw[←q'];exact hocd)
def ID{M:Model}{A:Around}{E:VL→SD→Prop}{i:Nat}{x:Str}{v:V}{u:VL}{Q:Unit→SD→Prop}(I:Inv X pins σ H s)(hN:X.N.Nodup)(hi:X.N[i]? = some x)(hx:Loc X.env.scope x)(r:RelV v u)
 (h:∀s',Inv X pins (σ.set i (some v)) H s'→Q () s')(hf:X.fn x=true∨X.env.scope.names.lookup x=some .local:=by first|exact .inl rfl|exact .inr rfl|assumption):wpAny M A (storeName X.env x u) Q E s :=
 MU I hN hi hx r (fun s' I' _=>h s' I') hf
def Inv.Zb{s':SD}{ch:List AD}(I:Inv X pins σ H s)(ho:s'.os=s.os)(u:Un (Dw X.stack) ch H H' s.heap s'.heap)(Ag:Cp X.prog X.w H' s'.heap)(hg:AllBare s'.gens)
 (hch:∀b∈ch,(b∈X.ex∨X.s₀.heap.objs.size≤b)∧b≠X.env.locals∧(∀x c,X.env.cells.lookup x=some c→c≠b)∧∀p∈X.pn++pins,p.1≠b):Inv X pins σ H' s':=by
 obtain⟨h',g',d',t',o'⟩:=s';have e:o'=s.os:=ho;subst e;exact I.call (g':=g') (t':=t') (d':=d') u Ag hg hch
end
abbrev XK:=VL→Option AD→Hp→Prop
abbrev St:=List (Option V)
abbrev VK:=V→Hp→Prop
abbrev TE:=St→Hp→VK→Prop
abbrev TT:=St→Hp→(Bool→Hp→Prop)→Prop
abbrev TA:=St→Hp→(List V→Hp→Prop)→Prop
structure Ends where
 nx:St→Hp→Prop
 rt:VK
 bk:St→Hp→Prop:=fun _ _=>False
 ct:St→Hp→Prop:=fun _ _=>False
abbrev TS:=Ends→St→Hp→Prop
def EP(X:Cx)(pins:List (AD×Obj))(σ:St)(Q:VK)(u:VL)(s':SD):Prop:=∃v H',Inv X pins σ H' s'∧RelV v u∧Q v H'
def TP(X:Cx)(pins:List (AD×Obj))(σ:St)(Q:Bool→Hp→Prop)(b:Bool)(s':SD):Prop:=∃H',Inv X pins σ H' s'∧Q b H'
def AP(X:Cx)(pins:List (AD×Obj))(σ:St)(Q:List V→Hp→Prop)(us:List VL)(s':SD):Prop:=∃vs H',Inv X pins σ H' s'∧Vals vs us∧Q vs H'
def SP(X:Cx)(pins:List (AD×Obj))(D:Ends)(f:Flow)(s':SD):Prop :=
 match f with
 |.next=>∃σ' H',Inv X pins σ' H' s'∧D.nx σ' H'
 |.brk=>∃σ' H',Inv X pins σ' H' s'∧D.bk σ' H'
 |.cont=>∃σ' H',Inv X pins σ' H' s'∧D.ct σ' H'
 |.ret u=>∃v σ' H',Inv X pins σ' H' s'∧RelV v u∧D.rt v H'
def PE(X:Cx)(e:Expr)(t:TE):Prop :=
 ∀(pins:List (AD×Obj)) (s:SD) (σ:St) (H:Hp) (Q:VK),Inv X pins σ H s→t σ H Q→wpAny (model X.prog X.w) X.A (eval e X.env) (EP X pins σ Q) X.xe s
def PT(X:Cx)(e:Expr)(t:TT):Prop :=
 ∀(pins:List (AD×Obj)) (s:SD) (σ:St) (H:Hp) (Q:Bool→Hp→Prop),Inv X pins σ H s→t σ H Q→wpAny (model X.prog X.w) X.A (isTrue e X.env (eval e X.env)) (TP X pins σ Q) X.xe s
def PW(X:Cx)(e:Expr)(t:TT):Prop :=
 ∀(whole:Sem VL) (pins:List (AD×Obj)) (s:SD) (σ:St) (H:Hp) (Q:Bool→Hp→Prop),Inv X pins σ H s→t σ H Q→wpAny (model X.prog X.w) X.A (isTrue e X.env whole) (TP X pins σ Q) X.xe s
def PW.pt{X:Cx}{e:Expr}{t:TT}(h:PW X e t):PT X e t:=h _
def PA(X:Cx)(es:List Expr)(t:TA):Prop :=
 ∀(pos:Pos) (pins:List (AD×Obj)) (s:SD) (σ:St) (H:Hp) (Q:List V→Hp→Prop),Inv X pins σ H s→t σ H Q→wpAny (model X.prog X.w) X.A (spliced (backTo pos (starEach es X.env))) (AP X pins σ Q) X.xe s
def PS(X:Cx)(st:Stmt)(t:TS):Prop :=
 ∀(pins:List (AD×Obj)) (s:SD) (σ:St) (H:Hp) (D:Ends),Inv X pins σ H s→t D σ H→wpAny (model X.prog X.w) X.A (exec st X.env) (SP X pins D) X.xe s
def Ew(X:Cx)(st:List Stmt)(t:TS):Prop :=
 ∀(pins:List (AD×Obj)) (s:SD) (σ:St) (H:Hp) (D:Ends),Inv X pins σ H s→t D σ H→wpAny (model X.prog X.w) X.A (execs st X.env) (SP X pins D) X.xe s
def Au{α:Type}{t:Sem α}{Q Q':α→SD→Prop}{M:Model}{A:Around}{E:VL→SD→Prop}{s:SD}(h:wpAny M A t Q E s)(hQ:∀a s,Q a s→Q' a s):wpAny M A t Q' E s:=aQ h hQ fun _ _ x=>x
section
variable{X:Cx}
def JY(i:Nat):TE:=fun σ H Q=>∃v,σ[i]? = some (some v)∧Q v H
def tC(v:V):TE:=fun _ H Q=>Q v H
def XJ{i:Nat}{x:Str}{pos:Pos}(hN:X.N[i]? = some x)(hv:YI X.env.scope x)(hd:(x==("__debug__" : Str))=false:=by decide)(hcd:(x==("__classdict__" : Str))=false:=by decide):PE X (.Name x pos) (JY i):=by
 intro pins s σ H Q I h;obtain⟨v,e,h⟩:=h;obtain⟨m,hn,hl⟩:=I.loc;obtain⟨u,r,l⟩:=hl i x v hN e hv;have fin:EP X pins σ Q u s:=⟨v,H,I,r,h⟩;rcases l with ⟨hk,hm⟩|⟨hk,c,hc,hcell⟩
 ·exact wpAny_Name (wpAny_loadName_local I.ok.kind hk hn hm fin) hd
 ·rcases hk with hk|hk
  ·exact wpAny_Name (wpAny_loadName_cell I.ok.kind hk hc hcell fin) hd
  ·exact wpAny_Name (wpAny_loadName_free I.ok.kind hk hc hcell fin hcd) hd
def Cr{i j pos}:PE X (.Constant (.int i) j pos) (tC (.int i)):=fun _ _ _ H _ I h=>wpAny_Constant_int ⟨.int i,H,I.tok _,⟨_,rfl⟩,h⟩
def Jv{b j pos}:PE X (.Constant (.bool b) j pos) (tC (.bl b)):=fun _ _ _ H _ I h=>Constant_bool ⟨.bl b,H,I,rfl,h⟩
def Yx{j pos}:PE X (.Constant .none j pos) (tC .Ao):=fun _ _ _ H _ I h=>Constant_none ⟨.Ao,H,I,rfl,h⟩
def Xc{x j pos}:PE X (.Constant (.str x) j pos) (tC (.str x)):=fun _ _ _ H _ I h=>Calls.Constant_str ⟨.str x,H,I.tok _,⟨_,rfl⟩,h⟩
def Gl(X:Cx)(x:Str):Prop:=X.env.kindOf x=some .globalImplicit
def Lj{E:VL→SD→Prop}{pins:List (AD×Obj)}{s:SD}{σ:St}{H:Hp}{x:Str}{u:VL}{pos:Pos}{Q:VL→SD→Prop}(I:Inv X pins σ H s)(hg:Gl X x)(hm:X.mg x=some u)(h:Q u s)
 (hd:(x==("__debug__" : Str))=false:=by decide):wpAny (model X.prog X.w) X.A (eval (.Name x pos) X.env) Q E s :=
 Calls.Name_function_global I.ok.kind hg (Calls.loadGlobal_global (by rw[I.ok.glob];exact I.mod.glob.keeps I.bk) hm h) hd
def EX{E:VL→SD→Prop}{pins:List (AD×Obj)}{s:SD}{σ:St}{H:Hp}{x:Str}{u:VL}{pos:Pos}{Q:VL→SD→Prop}(I:Inv X pins σ H s)(hg:Gl X x)(hm:X.mg x=none)(hv:bootBuiltins x=some u)(h:Q u s)
 (hn:x ≠ "__name__" := by decide)(hd:(x==("__debug__" : Str))=false:=by decide):wpAny (model X.prog X.w) X.A (eval (.Name x pos) X.env) Q E s:=by
 obtain⟨mb,h1,h2⟩:=I.mod.blt;exact Calls.Name_function_global I.ok.kind hg (Calls.loadGlobal_builtin (by rw[I.ok.glob];exact I.mod.glob.keeps I.bk) hm (by rw[I.ok.blt];exact h1.keeps I.bk) ((h2 x hn).trans hv) h) hd
def L3{x:Str}{v:V}{u:VL}{pos:Pos}(hg:Gl X x)(hm:X.mg x=some u)(r:RelV v u)(hd:(x==("__debug__" : Str))=false:=by decide):PE X (.Name x pos) (tC v) :=
 fun _ _ _ H _ I h=>Lj I hg hm ⟨v,H,I,r,h⟩ hd
def Hg{x:Str}{v:V}{u:VL}{pos:Pos}(hg:Gl X x)(hm:X.mg x=none)(hv:bootBuiltins x=some u)(r:RelV v u)(hn:x ≠ "__name__" := by decide)(hd:(x==("__debug__" : Str))=false:=by decide):PE X (.Name x pos) (tC v) :=
 fun _ _ _ H _ I h=>EX I hg hm hv ⟨v,H,I,r,h⟩ hn hd
variable{a b:Expr}{ta tb:TE}{pos:Pos}
def tB(t:TE):TT:=fun σ H Q=>t σ H fun x H1=>∃c,x=.bl c∧Q c H1
def HW{e : Expr}{t : TE}(h : PE X e t)(he : ∀ whole,isTrue e X.env whole = (do let v ← whole; standAt e.pos; holding [v] (truthy v)) := by intro _; rfl) : PT X e (tB t) := by
  intro pins s σ H Q I hw
  refine isTrue_plain (Au (h pins s σ H _ I hw) fun v s1 ⟨x,H1,I1,r1,q1⟩ => ?_) (he _)
  obtain ⟨d,rfl,q⟩:=q1
  cases r1
  exact wpAny_truthy_bool ⟨H1,I1,q⟩
variable{tA tB':TT}{rest:List Expr}
def cU(t u:TT):TT:=fun σ H Q=>t σ H fun c H1=>if c=true then u σ H1 Q else Q false H1
def cf(t u:TT):TT:=fun σ H Q=>t σ H fun c H1=>if c=true then Q true H1 else u σ H1 Q
def cY(t:TT):TT:=fun σ H Q=>t σ H fun c H1=>Q (!c) H1
def V5(ha:PT X a tA):PW X (.BoolOp .And [a] pos) tA:=by
 intro wh pins s σ H Q I h;refine isTrue_and (Au (ha pins s σ H Q I h) fun c s1 e=>?_);cases c with
 |true=>exact isTrue_and_nil e
 |false=>exact e
def NJ(ha:PT X a tA):PW X (.BoolOp .Or [a] pos) tA:=by
 intro wh pins s σ H Q I h;refine isTrue_or (Au (ha pins s σ H Q I h) fun c s1 e=>?_);cases c with
 |false=>exact isTrue_or_nil e
 |true=>exact e
def Yh(ha:PT X a tA)(hb:PW X (.BoolOp .And (b::rest) pos) tB'):PW X (.BoolOp .And (a::b::rest) pos) (cU tA tB'):=by
 intro wh pins s σ H Q I h;refine isTrue_and (Au (ha pins s σ H _ I h) fun c s1 ⟨H1,I1,q1⟩=>?_);cases c with
 |true=>exact hb wh pins s1 σ H1 Q I1 q1
 |false=>exact⟨H1,I1,q1⟩
def Qh(ha:PT X a tA)(hb:PW X (.BoolOp .Or (b::rest) pos) tB'):PW X (.BoolOp .Or (a::b::rest) pos) (cf tA tB'):=by
 intro wh pins s σ H Q I h;refine isTrue_or (Au (ha pins s σ H _ I h) fun c s1 ⟨H1,I1,q1⟩=>?_);cases c with
 |true=>exact⟨H1,I1,q1⟩
 |false=>exact hb wh pins s1 σ H1 Q I1 q1
def IA(ha:PT X a tA):PT X (.UnaryOp .Not a pos) (cY tA):=by
 intro pins s σ H Q I h;exact isTrue_not (ha pins s σ H (fun c H1=>Q (!c) H1) I h)
def Zr(ta tb:TE):TE:=fun σ H Q=>ta σ H fun x H1=>∃c,x=.bl c∧if c=true then tb σ H1 Q else Q (.bl false) H1
def Zl(ta:TE):TE:=fun σ H Q=>ta σ H fun x H1=>∃c,x=.bl c∧Q (.bl (!c)) H1
def Nf{op}{t:TE}(h:PE X a t):PE X (.BoolOp op [a] pos) t:=fun pins s σ H Q I hw=>BoolOp_one (h pins s σ H Q I hw)
def N3(ha:PE X a ta)(hb:PE X (.BoolOp .And (b::rest) pos) tb):PE X (.BoolOp .And (a::b::rest) pos) (Zr ta tb):=by
 intro pins s σ H Q I h;refine BoolOp_and (Au (ha pins s σ H _ I h) fun v s1 ⟨x,H1,I1,r1,q1⟩=>?_);obtain⟨c,rfl,q1⟩:=q1;cases r1;refine wpAny_truthy_bool ?_;cases c with
 |true=>exact hb pins s1 σ H1 Q I1 q1
 |false=>exact⟨.bl false,H1,I1,rfl,q1⟩
def Yj(ha:PE X a ta):PE X (.UnaryOp .Not a pos) (Zl ta):=by
 intro pins s σ H Q I h;refine UnaryOp_ (Au (ha pins s σ H _ I h) fun v s1 ⟨x,H1,I1,r1,q1⟩=>?_);obtain⟨c,rfl,q1⟩:=q1;cases r1;exact not_of (wpAny_truthy_bool ⟨.bl (!c),H1,I1,rfl,q1⟩)
end
def A2(K:Fg)(H:Hp)(a:AD)(xs:List V):Prop :=
 Rd H a (.lst xs) ∨
  ∃(o:Obj) (its:Array VL) (n:Nat),K.lookup a=some o∧o.cls=.type "list" ∧ o.dict=none∧o.data=.seq its n∧its.size≤sizeLine∧Vals xs its.toList
def BF(K:Fg)(H:Hp)(a:AD)(xs:List V):Prop :=
 Rd H a (.tup xs) ∨
  ∃(o:Obj) (its:Array VL) (n:Nat),K.lookup a=some o∧o.cls=.type "tuple" ∧ o.data=.seq its n∧its.size≤sizeLine∧Vals xs its.toList
def NI:VL→Option V
 |.none=>some .Ao
 |.bool b=>some (.bl b)
 |.int i _=>some (.int i)
 |.str x _=>some (.str x)
 |.bytes b _=>some (.JK b)
 |.float b _=>some (.P4 b)
 |.ref a=>some (.ref a)
 |.type n=>some (.ty n)
 |_=>none
def RelV.abs{x:V}{u:VL}(r:RelV x u):NI u=some x:=by
 cases x with
 |Ao=>cases r;rfl
 |bl _=>cases r;rfl
 |int _=>obtain⟨t,rfl⟩:=r;rfl
 |str _=>obtain⟨t,rfl⟩:=r;rfl
 |JK _=>obtain⟨t,rfl⟩:=r;rfl
 |P4 _=>obtain⟨t,rfl⟩:=r;rfl
 |ref _=>cases r;rfl
 |ty _=>cases r;rfl
def RelV.inj{x y:V}{u:VL}(r:RelV x u)(q:RelV y u):x=y:=aV (r.abs.symm.trans q.abs)
def Vals.inj:∀ {xs ys:List V} {us:List VL},Vals xs us→Vals ys us→xs=ys
 |_,_,_,.nil,.nil=>rfl
 |_,_,_,.cons r t,.cons r' t'=>by rw[r.inj r',Vals.inj t t']
section
variable{X:Cx}{pins:List (AD×Obj)}{σ:St}{H:Hp}{s:SD}{a:AD}{xs ys:List V}
def A2.of{K:Fg}(h:H a=some (.lst xs)):A2 K H a xs:=.inl (.inl h)
def BF.of{K:Fg}(h:H a=some (.tup xs)):BF K H a xs:=.inl (.inl h)
def Inv.list(I:Inv X pins σ H s)(h:A2 X.K H a xs):∃its:List VL,Vals xs its∧PlainL s.heap a its.toArray∧xs.length≤sizeLine:=by
 rcases h with h|⟨o,its,n,hk,hc,hd,hs,hz,r⟩
 ·obtain⟨z,its,n,r,e⟩:=h.ok I.Ag;exact⟨its,r,⟨_,n,e,rfl,rfl,rfl⟩,z⟩
 ·refine⟨its.toList,r,⟨o,n,I.FR a o hk,hc,hd,by simpa using hs⟩,?_⟩;have e:=r.length;simp only[Array.length_toList]at e;omega
def Inv.tuple(I:Inv X pins σ H s)(h:BF X.K H a xs):∃its:List VL,Vals xs its∧IsTup s.heap a its.toArray∧xs.length≤sizeLine:=by
 rcases h with h|⟨o,its,n,hk,hc,hs,hz,r⟩
 ·obtain⟨z,its,r,p⟩:=h.ok I.Ag;exact⟨its,r,p,z⟩
 ·refine⟨its.toList,r,⟨o,I.FR a o hk,hc,n,by simpa using hs⟩,?_⟩;have e:=r.length;simp only[Array.length_toList]at e;omega
def Inv.M8(I:Inv X pins σ H s)(h:A2 X.K H a xs)(h':A2 X.K H a ys):xs=ys:=by
 obtain⟨its,r,⟨o,n,e,_,_,d⟩,_⟩:=I.list h;obtain⟨its',r',⟨o',n',e',_,_,d'⟩,_⟩:=I.list h';rw[e]at e';cases e';rw[d]at d'
 injection d' with d1 _
 have:its=its':=by simpa using ay Array.toList d1
 subst this;exact r.inj r'
def Inv.Mh(I:Inv X pins σ H s)(h:BF X.K H a xs)(h':BF X.K H a ys):xs=ys:=by
 obtain⟨its,r,⟨o,e,_,n,d⟩,_⟩:=I.tuple h;obtain⟨its',r',⟨o',e',_,n',d'⟩,_⟩:=I.tuple h';rw[e]at e';cases e';rw[d]at d'
 injection d' with d1 _
 have:its=its':=by simpa using ay Array.toList d1
 subst this;exact r.inj r'
end
abbrev Cx.Ec(X:Cx)(E:VL→SD→Prop):Cx:={X with xe:=E}
abbrev Cx.G8(X:Cx):Cx:=X.Ec fun _ _=>False
def Cx.Ok.Ec{X:Cx}(ok:X.Ok)(E:VL→SD→Prop):(X.Ec E).Ok :=
 ⟨ok.mod,ok.kind,ok.glob,ok.blt,ok.above,ok.inj,ok.has,ok.SY,ok.hd,ok.frames,ok.U7,ok.bG,ok.bs,ok.MF,ok.NA,ok.NF,ok.FA,ok.MO⟩
def Cx.Ok.DC{X:Cx}{E:VL→SD→Prop}(ok:(X.Ec E).Ok):X.Ok :=
 ⟨ok.mod,ok.kind,ok.glob,ok.blt,ok.above,ok.inj,ok.has,ok.SY,ok.hd,ok.frames,ok.U7,ok.bG,ok.bs,ok.MF,ok.NA,ok.NF,ok.FA,ok.MO⟩
section
variable{X:Cx}{pins:List (AD×Obj)}{σ:St}{H:Hp}{s:SD}{E:VL→SD→Prop}
def Inv.Ec(I:Inv X pins σ H s)(E:VL→SD→Prop):Inv (X.Ec E) pins σ H s:=⟨I.ok.Ec E,I.os,I.bare,I.base,I.loc,I.cell,I.free,I.FL,I.pin,I.Ag,I.len⟩
def Inv.DC(I:Inv (X.Ec E) pins σ H s):Inv X pins σ H s:=⟨I.ok.DC,I.os,I.bare,I.base,I.loc,I.cell,I.free,I.FL,I.pin,I.Ag,I.len⟩
def SP.DC{D:Ends}{f:Flow}{s':SD}(h:SP (X.Ec E) pins D f s'):SP X pins D f s':=by
 cases f with
 |next=>obtain⟨σ',H',I,q⟩:=h;exact⟨σ',H',I.DC,q⟩
 |brk=>obtain⟨σ',H',I,q⟩:=h;exact⟨σ',H',I.DC,q⟩
 |cont=>obtain⟨σ',H',I,q⟩:=h;exact⟨σ',H',I.DC,q⟩
 |ret u=>obtain⟨v,σ',H',I,r,q⟩:=h;exact⟨v,σ',H',I.DC,r,q⟩
def Ew.G8{st:List Stmt}{t:TS}(h:Ew X.G8 st t):Ew X st t:=fun pins s σ H D I hw =>
 aQ (h pins s σ H D (I.Ec _) hw) (fun _ _ q=>q.DC) fun _ _ z=>False.elim z
end
section
variable{X:Cx}{st:Stmt}{rest:List Stmt}{t u:TS}{e:Expr}{te:TE}{pos:Pos}
def ZY:TS:=fun D σ H=>D.nx σ H
def Yo(t u:TS):TS:=fun D σ H=>t {D with nx:=u D} σ H
def FC:Ew X [] ZY:=fun _ _ σ H _ I h=>wpAny_execs_nil ⟨σ,H,I,h⟩
def Bb(h1:PS X st t)(h2:Ew X rest u):Ew X (st::rest) (Yo t u):=by
 intro pins s σ H D I h;refine wpAny_execs_cons (Au (h1 pins s σ H {D with nx:=u D} I h) fun f s1 q=>?_);cases f with
 |next =>
  obtain⟨σ',H',I',q⟩:=q;exact h2 pins s1 σ' H' D I' q
 |ret v=>exact q
 |brk=>exact q
 |cont=>exact q
def Bt(h1:PS X st t):Ew X [st] t:=by
 intro pins s σ H D I h;refine wpAny_execs_cons (Au (h1 pins s σ H D I h) fun f s1 q=>?_);cases f with
 |next=>exact wpAny_execs_nil q
 |ret v=>exact q
 |brk=>exact q
 |cont=>exact q
def Inv.quiet{pins:List (AD×Obj)}{σ:St}{H:Hp}{s:SD}(I:Inv X pins σ H s):interactive X.env=false:=by simp[interactive,I.ok.kind]
def Mq(te:TE):TS:=fun D σ H=>te σ H fun _ H1=>D.nx σ H1
def J6(he:PE X e te)(hs:swapsWith e none pos.line X.env=pure false:=by rfl):PS X (.Expr e pos) (Mq te):=by
 intro pins s σ H D I h;exact wpAny_Expr_any (Au (he pins s σ H _ I h) fun v s1 ⟨x,H1,I1,r1,q1⟩=>⟨σ,H1,I1,q1⟩) I.quiet hs
def bz(te:TE):TS:=fun D σ H=>te σ H D.rt
def Cq(he:PE X e te):PS X (.Return (some e) pos) (bz te):=by
 intro pins s σ H D I h;exact wpAny_Return_some (Au (he pins s σ H _ I h) fun v s1 ⟨x,H1,I1,r1,q1⟩=>⟨x,σ,H1,I1,r1,q1⟩)
def cG(c:TT)(t u:TS):TS:=fun D σ H=>c σ H fun b H1=>if b=true then t D σ H1 else u D σ H1
def Ib{c:Expr}{a b:List Stmt}{tc:TT}(hc:PT X c tc)(ha:Ew X a t)(hb:Ew X b u):PS X (.If c a b pos) (cG tc t u):=by
 intro pins s σ H D I h;refine wpAny_If (Au (hc pins s σ H _ I h) fun d s1 ⟨H1,I1,q1⟩=>?_);cases d with
 |true=>exact ha pins s1 σ H1 D I1 q1
 |false=>exact hb pins s1 σ H1 D I1 q1
end
abbrev TG:=V→St→Hp→(St→Hp→Prop)→Prop
abbrev NY:=List V→St→Hp→(St→Hp→Prop)→Prop
def PG(X:Cx)(target:Expr)(t:TG):Prop :=
 ∀(pins:List (AD×Obj)) (s:SD) (σ:St) (H:Hp) (v:V) (u:VL) (Q:St→Hp→Prop),Inv X pins σ H s→RelV v u→t v σ H Q →
  wpAny (model X.prog X.w) X.A (assign target X.env u) (fun _ s'=>∃σ' H',Inv X pins σ' H' s'∧Q σ' H') X.xe s
def VF(X:Cx)(ts:List Expr)(t:NY):Prop :=
 ∀(pins:List (AD×Obj)) (s:SD) (σ:St) (H:Hp) (vs:List V) (us:List VL) (Q:St→Hp→Prop),Inv X pins σ H s→Vals vs us→t vs σ H Q →
  wpAny (model X.prog X.w) X.A (assignInOrder ((assignEach ts X.env).map (·.2)) us) (fun _ s'=>∃σ' H',Inv X pins σ' H' s'∧Q σ' H') X.xe s
abbrev Ua:=V→V→V→Hp→(Hp→Prop)→Prop
def Y0(X:Cx)(t:Ua):Prop :=
 ∀(pins:List (AD×Obj)) (s:SD) (σ:St) (H:Hp) (o i v:V) (ov iv u:VL) (Q:Hp→Prop),Inv X pins σ H s→RelV o ov→RelV i iv→RelV v u→t o i v H Q →
  wpAny (model X.prog X.w) X.A (setItem ov iv u) (fun _ s'=>∃H',Inv X pins σ H' s'∧Q H') X.xe s
section
variable{X:Cx}{pos:Pos}
def EA(i:Nat):TG:=fun v σ H Q=>Q (σ.set i (some v)) H
def BX{i:Nat}{x:Str}(hN:X.N.Nodup)(hi:X.N[i]? = some x)(hx:Loc X.env.scope x)(hf:X.fn x=true∨X.env.scope.names.lookup x=some .local:=by first|exact .inl rfl|exact .inr rfl|assumption):PG X (.Name x pos) (EA i):=by
 intro pins s σ H v u Q I r h;exact wpAny_assign_Name (ID I hN hi hx r (fun s' I'=>⟨_,H,I',h⟩) hf)
def UD:NY:=fun vs σ H Q=>vs=[]∧Q σ H
def KD(t:TG)(u:NY):NY:=fun vs σ H Q=>∃v r,vs=v::r∧t v σ H fun σ' H'=>u r σ' H' Q
def PZ:VF X [] UD:=by
 intro pins s σ H vs us Q I r h;obtain⟨e,h⟩:=h;subst e;cases r;exact assignInOrder_nil ⟨σ,H,I,h⟩
def Gb{e:Expr}{es:List Expr}{t:TG}{u:NY}(h1:PG X e t)(h2:VF X es u)
 (hs:(assignEach (e::es) X.env).map (·.2)=assign e X.env::(assignEach es X.env).map (·.2):=by rfl):VF X (e::es) (KD t u):=by
 intro pins s σ H vs us Q I r h;obtain⟨v,vr,e1,h⟩:=h;subst e1;cases r with
 |cons r rr =>
  rw[hs];refine assignInOrder_cons (Au (h1 pins s σ H _ _ _ I r h) fun _ s1 ⟨σ1,H1,I1,q1⟩=>?_);exact h2 pins s1 σ1 H1 _ _ Q I1 rr q1
def T1(K:Fg)(n:Nat)(t:NY):TG:=fun v σ H Q=>∃a xs,v=.ref a∧BF K H a xs∧xs.length=n∧t xs σ H Q
def Rl{es:List Expr}{k:Nat}{t:NY}{n:Nat}(hc:X.calm=true)(h:VF X es t)
 (hn:(assignEach es X.env).length=n:=by rfl)(hst:(assignEach es X.env).findIdx? (·.1)=none:=by rfl):PG X (.Tuple es k pos) (T1 X.K n t):=by
 intro pins s σ H v u Q I r hw;obtain⟨a,xs,e1,hq,hl,hw⟩:=hw;subst e1;cases r;obtain⟨its,rv,ht,hz⟩:=I.tuple hq;refine assign_Tuple_tuple (I.ok.hd hc) ht (by simp[hn,←hl,rv.length]) hst fun h' hx=>?_;have I1:Inv X pins σ H {s with heap:=h'}:=I.kept (t':=s.toks) fun b o e=>hx b o (aI (aG e)) e;exact h pins _ σ H xs _ Q I1 (by simpa using rv) hw
def W6(to ti:TE)(t:Ua):TG:=fun v σ H Q=>to σ H fun o H1=>ti σ H1 fun i H2=>t o i v H2 fun H3=>Q σ H3
def YQ{o i:Expr}{to ti:TE}{t:Ua}(ho:PE X o to)(hi:PE X i ti)(hs:Y0 X t)
 (ha:∀v,assign (.Subscript o i pos) X.env v=(do
      let ov ←holding [v] (eval o X.env)
      let iv ←holding [v,ov] (eval i X.env)
      standAt pos
      holding [v,ov,iv] (setItem ov iv v)
      release [v,ov,iv] []):=by intro _;rfl):PG X (.Subscript o i pos) (W6 to ti t):=by
  intro pins s σ H v u Q I r h
  rw[ha]
  refine Wb (aU (Au (ho pins s σ H _ I h) fun ov s1 ⟨x,H1,I1,r1,q1⟩=>?_))
  refine Wb (aU (Au (hi pins s1 σ H1 _ I1 q1) fun iv s2 ⟨y,H2,I2,r2,q2⟩=>?_))
  refine Wb (wpAny_standAt (Wb (aU (Au (hs pins s2 σ H2 x y v ov iv u _ I2 r1 r2 r q2) fun _ s3 ⟨H3,I3,q3⟩=>?_))))
  exact wpAny_release ⟨σ,H3,I3,q3⟩
def NK(te:TE)(g:TG):TS:=fun D σ H=>te σ H fun x H1=>g x σ H1 D.nx
def Xb{tg e:Expr}{te:TE}{g:TG}(he:PE X e te)(hg:PG X tg g)(hs:swapsWithSole [tg] e pos.line X.env=pure false:=by rfl)(hw:swappedStores [tg] e X.env=pure none:=by rfl)
 (h1:(assignEach [tg] X.env).map (·.2)=[assign tg X.env]:=by rfl):PS X (.Assign [tg] e pos) (NK te g):=by
 intro pins s σ H D I h;refine wpAny_Assign_stores (Au (he pins s σ H _ I h) fun v s1 ⟨x,H1,I1,r1,q1⟩=>?_) hs hw;rw[h1];exact Au (hg pins s1 σ H1 x v _ I1 r1 q1) fun _ s2 q=>q
def DZ{i:Nat}{x:Str}{e:Expr}{te:TE}{pos':Pos}(hN:X.N.Nodup)(hi:X.N[i]? = some x)(hx:Loc X.env.scope x)(he:PE X e te)(hs:swapsWith e (some (.Name x pos')) pos.line X.env=pure false:=by rfl)(hf:X.fn x=true∨X.env.scope.names.lookup x=some .local:=by first|exact .inl rfl|exact .inr rfl|assumption) :
  PS X (.Assign [.Name x pos'] e pos) (NK te (EA i)):=by
 intro pins s σ H D I h;refine wpAny_Assign_Name (Au (he pins s σ H _ I h) fun v s1 ⟨y,H1,I1,r1,q1⟩=>?_) hs;exact ID I1 hN hi hx r1 (fun s2 I2=>⟨_,H1,I2,q1⟩) hf
def cN(i j:Nat)(ta:TA):TS:=fun D σ H=>ta σ H fun vs H1=>∃v w,vs=[v,w]∧D.nx ((σ.set i (some v)).set j (some w)) H1
def Xn{i j:Nat}{x y:Str}{a b:Expr}{ta:TA}{px py pt:Pos}{kt k2 pt2}(hc:X.calm=true)(hN:X.N.Nodup)(hi:X.N[i]? = some x)(hj:X.N[j]? = some y)(hij:i≠j)
 (hx:X.env.scope.names.lookup x=some .local)(hy:X.env.scope.names.lookup y=some .local)(ha:PA X [a,b] ta)
 (hw:swappedStores [.Tuple [.Name x px,.Name y py] kt pt] (.Tuple [a,b] k2 pt2) X.env=pure (some [x,y]))
 (hs:swapsWithSole [.Tuple [.Name x px,.Name y py] kt pt] (.Tuple [a,b] k2 pt2) pos.line X.env=pure false:=by rfl) :
  PS X (.Assign [.Tuple [.Name x px,.Name y py] kt pt] (.Tuple [a,b] k2 pt2) pos) (cN i j ta):=by
 intro pins s σ H D I h;rw[exec_Assign_arm];refine Wb (wpAny_standAt ?_);rw[hs];refine Wb (aB ?_);rw[if_neg (by decide)];refine Wb (Tuple_ (Au (ha _ pins s σ H _ I h) fun us s1 ⟨vs,H1,I1,r1,q1⟩=>?_));obtain⟨v,w,e1,q1⟩:=q1;subst e1;obtain⟨u1,u2,rfl,rv,rw'⟩:∃u1 u2,us=[u1,u2]∧RelV v u1∧RelV w u2:=by
  cases r1 with
  |cons p q =>
   cases q with
   |cons p' q' =>
    cases q';exact⟨_,_,rfl,p,p'⟩
 refine aW ?_ (by show 2≤sizeLine;decide);have I2:Inv X pins σ H1 {s1 with heap:=s1.heap.push { cls:=.type "tuple",data:=.seq [u1,u2].toArray} }:=I1.kept (t':=s1.toks) fun b o e=>aF _ e;rw[hw];refine Wb (aB ?_);show wpAny (model X.prog X.w) X.A (do rule "assign.swapped-stores"; let items ←unpackItems (.ref s1.heap.objs.size) 2 none;assignInOrder [fun v=>bindName X.env y v,fun v=>bindName X.env x v] items.reverse;pure Flow.next) _ _ _;refine Wb (au (Wb (unpackItems_tuple (items:=#[u1,u2]) (I.ok.hd hc) (IsTup.new s1.heap _) fun h' hx'=>?_)));have I3:=I2.kept (h':=h') (t':=s1.toks) fun b o e=>hx' b o (aI (aG e)) e;show wpAny _ _ (assignInOrder [fun v=>bindName X.env y v,fun v=>bindName X.env x v] [u2,u1]>>=fun _=>pure Flow.next) _ _ _;refine Wb (assignInOrder_cons (wpAny_bindName (ID I3 hN hj (.inl hy) rw' (fun s2 I4=>?_) (.inr hy))));refine assignInOrder_cons (wpAny_bindName (ID I4 hN hi (.inl hx) rv (fun s3 I5=>assignInOrder_nil (aB ?_)) (.inr hx)));rw[List.set_comm _ _ (Ne.symm hij)]at I5;exact⟨_,H1,I5,q1⟩
end
section
variable{X:Cx}{pos:Pos}
def Sw(c:TT)(tb:TS):TS:=fun D σ H=>∃W:Nat→St→Hp→Prop,(∃m,W m σ H)∧∀m σ H,W m σ H →
 c σ H fun b H1=>if b=true then ∃N:St→Hp→Prop,(∀σ' H',N σ' H'→∃m',m'<m∧W m' σ' H')∧tb {D with nx:=N,ct:=N,bk:=D.nx} σ H1 else D.nx σ H1
def OU{c:Expr}{body:List Stmt}{tc:TT}{tb:TS}(hp:PassesOwn (model X.prog X.w) X.A X.env X.xe)(hc:PT X c tc)(hb:Ew X body tb):PS X (.While c body [] pos) (Sw tc tb):=by
 intro pins s σ H D I h;obtain⟨W,⟨m0,w0⟩,turn⟩:=h;refine wpAny_While (codeAny_whileLoop (fun n s'=>∃σ' H',Inv X pins σ' H' s'∧W n σ' H') ?_ m0 ⟨σ,H,I,w0⟩);rintro n s1 ⟨σ1,H1,I1,w1⟩;refine wpAny_passesOwn hp (Au (hc pins s1 σ1 H1 _ I1 (turn n σ1 H1 w1)) fun b s2 ⟨H2,I2,q2⟩=>?_);cases b with
 |true =>
  obtain⟨N,hN,q2⟩:=q2;rw[if_pos rfl];refine wpAny_passesOwn hp (Au (hb pins s2 σ1 H2 _ I2 q2) fun f s3 q3=>?_);cases f with
  |next =>
   obtain⟨σ3,H3,I3,n3⟩:=q3;obtain⟨m',hm,w3⟩:=hN σ3 H3 n3;exact⟨m',hm,σ3,H3,I3,w3⟩
  |cont =>
   obtain⟨σ3,H3,I3,n3⟩:=q3;obtain⟨m',hm,w3⟩:=hN σ3 H3 n3;exact⟨m',hm,σ3,H3,I3,w3⟩
  |brk=>exact q3
  |ret v=>exact q3
 |false =>
  rw[if_neg aJ];exact wpAny_execs_nil ⟨σ1,H2,I2,q2⟩
end
structure It where
 go:Nat→Hp→Prop
 Ex:Nat→Hp→V→Hp→Prop
 stop:Nat→Hp→Prop
def Io(X:Cx)(pins:List (AD×Obj))(H:Hp)(b:AD):Prop :=
 H b=none∧b≠X.env.locals∧b ∉ X.fs∧(b∈X.ex∨X.s₀.heap.objs.size≤b)∧(∀x c,X.env.cells.lookup x=some c→c≠b)∧∀p∈X.pn++pins,p.1≠b
def Inv.L6{X:Cx}{pins:List (AD×Obj)}{σ:St}{H H':Hp}{s:SD}{b:AD}(I:Inv X pins σ H s)(hb:s.heap.objs.size≤b)(hn:H' b=none):Io X pins H' b:=by
 refine⟨hn,Nat.ne_of_gt (aK I.lt hb),I.cV hb,.inr (aZ I.sz hb),fun x c e z=>?_,fun p hp z=>?_⟩
 ·obtain⟨v,q⟩:=I.cell x c e;exact absurd (aK q.lt (by rw[z];exact hb)) (Nat.lt_irrefl _)
 ·exact absurd (aK (aG (I.pin p hp).1) (by rw[z];exact hb)) (Nat.lt_irrefl _)
structure Turn(P:Program)(w:World)(K:Fg)(tg:Expr)(J:It)(fp:List Addr)(it:Addr)(tn:Nat→Heap→Prop):Prop where
 mem:it∈fp
 obj:∀i h,tn i h→∀b∈fp,∃o,h.get? b=some o∧∀v,o.data≠.cell v
 keep:∀i h h',tn i h→(∀b∈fp,∀o,h.get? b=some o→h'.get? b=some o)→tn i h'
 item:∀(X:Cx),X.prog=P→X.w=w→X.K=K→X.calm=true→∀(i:Nat) (pins:List (Addr×Obj)) (s:Shared) (σ:St) (H:Hp) (E:Value→Shared→Prop),Inv X pins σ H s→(∀b∈fp,Io X pins H b)→tn i s.heap→J.go i H →
  wpAny (model P w) X.A (pyNext (.ref it)) (fun r s1=>∃u,r=some u ∧
   wpAny (model P w) X.A (letOwnedTupleGo tg (.ref it) u) (fun _ s2=>∃x H',Inv X pins σ H' s2∧RelV x u∧J.Ex i H x H'∧tn (i+1) s2.heap∧∀b∈fp,H' b=none) E s1) E s
 done:∀(X:Cx),X.prog=P→X.w=w→X.K=K→X.calm=true→∀(i:Nat) (pins:List (Addr×Obj)) (s:Shared) (σ:St) (H:Hp) (E:Value→Shared→Prop),Inv X pins σ H s→(∀b∈fp,Io X pins H b)→tn i s.heap→J.stop i H →
  wpAny (model P w) X.A (pyNext (.ref it)) (fun r s1=>r=none∧Inv X pins σ H s1) E s
 self:∀(A:Around) (i:Nat) (s:Shared) (Q:Value→Shared→Prop) (E:Value→Shared→Prop),tn i s.heap→Q (.ref it) s→wpAny (model P w) A (pyIter (.ref it)) Q E s
abbrev TI:=St→Hp→(It→Hp→Prop)→Prop
def bO(X:Cx)(pins:List (AD×Obj))(σ:St)(tg:Expr)(R:It→Hp→Prop)(itv:VL)(s2:SD):Prop :=
 ∃(it:AD) (fp:List AD) (tn:Nat→Heap→Prop) (J:It) (H':Hp),itv=.ref it∧Inv X pins σ H' s2∧Turn X.prog X.w X.K tg J fp it tn∧tn 0 s2.heap∧(∀b∈fp,Io X pins H' b)∧R J H'
def PI(X:Cx)(tg iter:Expr)(wi:TI):Prop :=
 ∀(pins:List (AD×Obj)) (s:SD) (σ:St) (H:Hp) (R:It→Hp→Prop),Inv X pins σ H s→wi σ H R →
  wpAny (model X.prog X.w) X.A (eval iter X.env) (fun v s1=>wpAny (model X.prog X.w) X.A (pyIter v) (bO X pins σ tg R) X.xe s1) X.xe s
def QN{M:Model}{A:Around}{E:VL→SD→Prop}{s:SD}{tg:Expr}{it:AD}{u:VL}{o:Obj}{n:String}{vs:Array VL}{Q:Unit→SD→Prop}(ho:s.heap.get? it=some o)(hc:o.cls=.type n)(hd:o.data=.fields vs)
 (hn:["enumerate", "zip", "dict_itemiterator", "dict_reverseitemiterator", "odict_iterator", "itertools.zip_longest", "itertools.pairwise"].contains n=false)(hQ:Q () s):wpAny M A (letOwnedTupleGo tg (.ref it) u) Q E s:=by
 unfold letOwnedTupleGo;cases tg<;>first
  |exact aB hQ
  |(cases u<;>first
    |exact aB hQ
    |(refine Wb (wpAny_load ho ?_)
      rw[hc,hd];show wpAny M A (if(["enumerate", "zip", "dict_itemiterator", "dict_reverseitemiterator", "odict_iterator", "itertools.zip_longest", "itertools.pairwise"].contains n&&vs[0]? == some (rawInt _))=true then _ else _) Q E s;rw[if_neg (by intro h;rw[hn,Bool.false_and]at h;cases h)];exact aB hQ))
def PJ(K:Fg)(a:AD):It :=
 ⟨fun i H=>∃xs x,A2 K H a xs∧xs[i]? = some x,fun i H x H'=>H'=H∧∀xs,A2 K H a xs→xs[i]? = some x,fun i H=>∃xs,A2 K H a xs∧xs.length≤i⟩
def YN(K:Fg)(a:AD):It :=
 ⟨fun i H=>∃xs x,BF K H a xs∧xs[i]? = some x,fun i H x H'=>H'=H∧∀xs,BF K H a xs→xs[i]? = some x,fun i H=>∃xs,BF K H a xs∧xs.length≤i⟩
def Rj(lo:Int)(n:Nat):It:=⟨fun i _=>i<n,fun i H x H'=>H'=H∧x=.int (lo+i),fun i _=>n≤i⟩
def RI{P:Program}{w:World}{K:Fg}{tg:Expr}(a it:AD):Turn P w K tg (PJ K a) [it] it (fun i h=>h.IsListIter it a i) where
 mem:=by simp
 obj:=fun i h st b hb=>by
  have e:b=it:=by simpa using hb
  subst e;obtain⟨o,e,c,d⟩:=st;exact⟨o,e,fun v z=>by rw[d]at z;cases z⟩
 keep:=fun i h h' st k=>st.at fun o e=>k it (by simp) o e
 item:=by
  intro X hP hw hK hc i pins s σ H E I hf st hg;subst hP hw hK;obtain⟨xs,x,hq,hx⟩:=hg;obtain⟨its,rv,p,hz⟩:=I.list hq;obtain⟨u,hu,ru⟩:=rv.get hx;obtain⟨f0,f1,f2,f3,f4,f5⟩:=hf it (by simp);refine wpAny_pyNext_list_item st p.isList (x:=u) (by simpa using hu) fun h' st' sb=>?_;have I1:Inv X pins σ H {s with heap:=h'}:=I.turned (t':=s.toks) (fun b o hb e=>(sb.2 b hb).trans e) f0 f1 f3 f4 f5;obtain⟨o,e,c,d⟩:=id st';exact⟨u,rfl,QN (s:={s with heap:=h'}) e c d (by decide) ⟨x,H,I1,ru,⟨rfl,fun ys hy=>by rw[I.M8 hy hq];exact hx⟩,st',fun b hb=>(hf b hb).1⟩⟩
 done:=by
  intro X hP hw hK hc i pins s σ H E I hf st hg;subst hP hw hK;obtain⟨xs,hq,hx⟩:=hg;obtain⟨its,rv,p,hz⟩:=I.list hq;obtain⟨f0,f1,f2,f3,f4,f5⟩:=hf it (by simp);have hl:=rv.length;exact wpAny_pyNext_list_end (I.ok.hd hc) st p.isList (by simp;omega) fun h' eb=>⟨rfl,I.turned (t':=s.toks) (fun b o hb e=>eb b o hb e) f0 f1 f3 f4 f5⟩
 self:=fun _ _ _ _ _ st h=>wpAny_pyIter_listiter st h
def QR{P:Program}{w:World}{K:Fg}{tg:Expr}(a it:AD):Turn P w K tg (YN K a) [it] it (fun i h=>h.IsTupleIter it a i) where
 mem:=by simp
 obj:=fun i h st b hb=>by
  have e:b=it:=by simpa using hb
  subst e;obtain⟨o,e,c,d⟩:=st;exact⟨o,e,fun v z=>by rw[d]at z;cases z⟩
 keep:=fun i h h' st k=>st.at fun o e=>k it (by simp) o e
 item:=by
  intro X hP hw hK hc i pins s σ H E I hf st hg;subst hP hw hK;obtain⟨xs,x,hq,hx⟩:=hg;obtain⟨its,rv,p,hz⟩:=I.tuple hq;obtain⟨u,hu,ru⟩:=rv.get hx;obtain⟨f0,f1,f2,f3,f4,f5⟩:=hf it (by simp);refine wpAny_pyNext_tuple_item st (show s.heap.IsTuple a its.toArray from p) (x:=u) (by simpa using hu) fun h' st' sb=>?_;have I1:Inv X pins σ H {s with heap:=h'}:=I.turned (t':=s.toks) (fun b o hb e=>(sb.2 b hb).trans e) f0 f1 f3 f4 f5;obtain⟨o,e,c,d⟩:=id st';exact⟨u,rfl,QN (s:={s with heap:=h'}) e c d (by decide) ⟨x,H,I1,ru,⟨rfl,fun ys hy=>by rw[I.Mh hy hq];exact hx⟩,st',fun b hb=>(hf b hb).1⟩⟩
 done:=by
  intro X hP hw hK hc i pins s σ H E I hf st hg;subst hP hw hK;obtain⟨xs,hq,hx⟩:=hg;obtain⟨its,rv,p,hz⟩:=I.tuple hq;obtain⟨f0,f1,f2,f3,f4,f5⟩:=hf it (by simp);have hl:=rv.length;exact wpAny_pyNext_tuple_end (I.ok.hd hc) st (show s.heap.IsTuple a its.toArray from p) (by simp;omega) fun h' eb=>⟨rfl,I.turned (t':=s.toks) (fun b o hb e=>eb b o hb e) f0 f1 f3 f4 f5⟩
 self:=fun _ _ _ _ _ st h=>wpAny_pyIter_tupleiter st h
def QE{P:Program}{w:World}{K:Fg}{tg:Expr}(it:AD)(lo:Int)(n:Nat):Turn P w K tg (Rj lo n) [it] it (fun i h=>IsRangeIter h it (lo+(i:Nat)*1) ((n:Int)-(i:Nat)) 1) where
 mem:=by simp
 obj:=fun i h st b hb=>by
  have e:b=it:=by simpa using hb
  subst e;exact⟨_,st,fun v z=>by
   have z':Data.fields _=Data.cell v:=z;cases z'⟩
 keep:=fun i h h' st k=>k it (by simp) _ st
 item:=by
  intro X hP hw hK hc i pins s σ H E I hf st hg;subst hP hw hK;obtain⟨f0,f1,f2,f3,f4,f5⟩:=hf it (by simp);have W:=Walks.range (prog:=X.prog) (w:=X.w) (I.ok.hd hc) it lo 1 n;refine W.item i s _ _ hg st fun v h' tk hv st' kk=>?_;obtain⟨t,rfl⟩:=hv;have I1:Inv X pins σ H {s with heap:=h',toks:=tk}:=I.turned (fun b o hb e=>kk b o (by simpa using hb) e) f0 f1 f3 f4 f5;refine⟨_,rfl,QN (s:={s with heap:=h',toks:=tk}) (n := "range_iterator") st' rfl rfl (by decide) ⟨.int (lo+i),H,I1,⟨t,?_⟩,⟨rfl,rfl⟩,st',fun b hb=>(hf b hb).1⟩⟩;rw[Int.mul_one]
 done:=by
  intro X hP hw hK hc i pins s σ H E I hf st hg;subst hP hw hK;obtain⟨f0,f1,f2,f3,f4,f5⟩:=hf it (by simp);exact wpAny_pyNext_range_end (I.ok.hd hc) st (by have:n≤i:=hg;omega) fun h' eb=>⟨rfl,I.turned (t':=s.toks) (fun b o hb e=>eb b o hb e) f0 f1 f3 f4 f5⟩
 self:=fun _ _ _ _ _ st h=>wpAny_pyIter_rangeiter st h
section
variable{X:Cx}{tg:Expr}
def Z2(K:Fg)(tl:TE):TI:=fun σ H R=>tl σ H fun x H1=>∃a,x=.ref a∧(∃xs,A2 K H1 a xs)∧R (PJ K a) H1
def bZ(K:Fg)(tl:TE):TI:=fun σ H R=>tl σ H fun x H1=>∃a,x=.ref a∧(∃xs,BF K H1 a xs)∧R (YN K a) H1
def O5{l:Expr}{tl:TE}(hl:PE X l tl):PI X tg l (Z2 X.K tl):=by
 intro pins s σ H R I h;refine Au (hl pins s σ H _ I h) fun v s1 ⟨x,H1,I1,r1,q1⟩=>?_;obtain⟨a,e,⟨xs,hq⟩,q⟩:=q1;subst e;cases r1;obtain⟨its,rv,p,hz⟩:=I1.list hq;refine wpAny_pyIter_list p.isList ?_;refine⟨s1.heap.objs.size,[s1.heap.objs.size],_,_,H1,rfl,I1.kept (t':=s1.toks) fun b o e=>aF _ e,RI a _,⟨_,Heap.get?_push_size _ rfl,rfl,rfl⟩,fun b hb=>?_,q⟩;have e:b=s1.heap.objs.size:=by simpa using hb
 subst e;exact I1.L6 (aH _) (I1.Ag.fresh (aH _))
def Ye{l:Expr}{tl:TE}(hl:PE X l tl):PI X tg l (bZ X.K tl):=by
 intro pins s σ H R I h;refine Au (hl pins s σ H _ I h) fun v s1 ⟨x,H1,I1,r1,q1⟩=>?_;obtain⟨a,e,⟨xs,hq⟩,q⟩:=q1;subst e;cases r1;obtain⟨its,rv,p,hz⟩:=I1.tuple hq;refine wpAny_pyIter_tuple (show s1.heap.IsTuple a its.toArray from p) ?_;refine⟨s1.heap.objs.size,[s1.heap.objs.size],_,_,H1,rfl,I1.kept (t':=s1.toks) fun b o e=>aF _ e,QR a _,⟨_,Heap.get?_push_size _ rfl,rfl,rfl⟩,fun b hb=>?_,q⟩;have e:b=s1.heap.objs.size:=by simpa using hb
 subst e;exact I1.L6 (aH _) (I1.Ag.fresh (aH _))
def NU{pins:List (AD×Obj)}{σ:St}{H:Hp}{s:SD}{R:It→Hp→Prop}{E:VL→SD→Prop}{lo hi:Int}{t u v:Tok}{tk:Nat}(I:Inv X pins σ H s)(h1:-(2^62)≤lo)(h2:lo<2^62)(h3:-(2^62)≤hi)(h4:hi<2^62)
 (q:R (Rj lo (hi-lo).toNat) H):wpAny (model X.prog X.w) X.A (pyIter (.ref s.heap.objs.size)) (bO X pins σ tg R) E {s with heap:=s.heap.push { cls:=.type "range",data:=.fields #[.int lo t,.int hi u,.int 1 v]},toks:=tk}:=by
 refine wpAny_pyIter_range (IsRange.new ..) (small_one h1 h2 h3 h4) ?_;have I1:Inv X pins σ H {s with heap:=s.heap.push { cls:=.type "range",data:=.fields #[.int lo t,.int hi u,.int 1 v]},toks:=tk}:=I.kept fun b o e=>aF _ e;refine⟨(s.heap.push { cls:=.type "range",data:=.fields #[.int lo t,.int hi u,.int 1 v]}).objs.size,[(s.heap.push { cls:=.type "range",data:=.fields #[.int lo t,.int hi u,.int 1 v]}).objs.size],_,_,H,rfl,
  I1.kept (t':=tk) fun b o e=>aF _ e,QE _ lo (hi-lo).toNat,?_,fun b hb=>?_,q⟩
 ·have e1:lo+((0:Nat):Int)*1=lo:=by simp
  have e2:(((hi-lo).toNat:Nat):Int)-((0:Nat):Int)=Builtin.Range.rangeSize lo hi 1:=by rw[rangeSize_one];split<;>omega
  show IsRangeIter _ _ (lo+((0:Nat):Int)*1) ((((hi-lo).toNat:Nat):Int)-((0:Nat):Int)) 1;rw[e1,e2];exact aL _ rfl
 ·have e:b=(s.heap.push { cls:=.type "range",data:=.fields #[.int lo t,.int hi u,.int 1 v]}).objs.size:=by simpa using hb
  subst e;exact I1.L6 (aH _) (I1.Ag.fresh (aH _))
def ZO(ta:TA):TI:=fun σ H R=>ta σ H fun vs H1=>∃j:Int,vs=[.int j]∧-(2^62)≤j∧j<2^62∧R (Rj 0 j.toNat) H1
def ZV(ta:TA):TI:=fun σ H R=>ta σ H fun vs H1=>∃i j:Int,vs=[.int i,.int j]∧(-(2^62)≤i∧i<2^62∧-(2^62)≤j∧j<2^62)∧R (Rj i (j-i).toNat) H1
def R6{a:Expr}{ta:TA}{p pos:Pos}(hg:Gl X "range")(hm:X.mg "range" = none)(ha:PA X [a] ta)(hs:starEach [a] X.env=[(false,eval a X.env)]:=by rfl):PI X tg (.Call (.Name "range" p) [a] [] pos) (ZO ta):=by
 intro pins s σ H R I h;refine Call_ (EX I hg hm boot_range (ah (Au (ha pos pins s σ H _ I h) fun us s1 ⟨vs,H1,I1,r1,q1⟩=>?_) hs rfl));obtain⟨j,e,q1,q2,q⟩:=q1;subst e;cases r1 with
 |cons r rr =>
  cases rr;obtain⟨t,rfl⟩:=r;exact call_range_1 (NU I1 (by omega) (by omega) q1 q2 (by simpa using q))
def SW{a b:Expr}{ta:TA}{p pos:Pos}(hg:Gl X "range")(hm:X.mg "range" = none)(ha:PA X [a,b] ta)(hs:starEach [a,b] X.env=[(false,eval a X.env),(false,eval b X.env)]:=by rfl)(hs2:starEach [b] X.env=[(false,eval b X.env)]:=by rfl) :
  PI X tg (.Call (.Name "range" p) [a,b] [] pos) (ZV ta):=by
 intro pins s σ H R I h;refine Call_ (EX I hg hm boot_range (ah (Au (ha pos pins s σ H _ I h) fun us s1 ⟨vs,H1,I1,r1,q1⟩=>?_) (by rw[hs,hs2]) (by rw[hs2];rfl)));obtain⟨i,j,e,⟨q1,q2,q3,q4⟩,q⟩:=q1;subst e;cases r1 with
 |cons r rr =>
  cases rr with
  |cons r' rr =>
   cases rr;obtain⟨t,rfl⟩:=r;obtain⟨t',rfl⟩:=r';exact call_range_2 (NU I1 q1 q2 q3 q4 q)
def ba(wi:TI)(g:TG)(tb:TS):TS:=fun D σ H=>wi σ H fun J H1=>∃W:Nat→Nat→St→Hp→Prop,(∃m,W 0 m σ H1)∧∀i m σ H,W i m σ H →
 (J.stop i H∧D.nx σ H)∨(J.go i H∧∃N:St→Hp→Prop,(∀σ' H',N σ' H'→∃m',m'<m∧W (i+1) m' σ' H')∧∀x H',J.Ex i H x H'→g x σ H' fun σ2 H2=>tb {D with nx:=N,ct:=N,bk:=D.nx} σ2 H2)
def JN(fp:List AD)(h:Heap):List (AD×Obj):=fp.filterMap fun b=>(h.get? b).map fun o=>(b,o)
def F0{fp:List AD}{h:Heap}{b:AD}{o:Obj}(hb:b∈fp)(e:h.get? b=some o):(b,o)∈JN fp h:=List.mem_filterMap.mpr ⟨b,hb,by rw[e];rfl⟩
def Rp{fp:List AD}{h:Heap}{p:AD×Obj}(hp:p∈JN fp h):p.1∈fp∧h.get? p.1=some p.2:=by
 obtain⟨b,hb,e⟩:=List.mem_filterMap.mp hp;cases q:h.get? b with
 |none=>rw[q]at e;cases e
 |some o =>
  rw[q]at e;have e':(b,o)=p:=aV e;subst e';exact⟨hb,q⟩
def Inv.pinned{pins:List (AD×Obj)}{σ:St}{H:Hp}{s:SD}{fp:List AD}(I:Inv X pins σ H s)(hf:∀b∈fp,Io X pins H b)(ho:∀b∈fp,∃o,s.heap.get? b=some o∧∀v,o.data≠.cell v):Inv X (pins++JN fp s.heap) σ H s :=
 I.O3 fun p hp=>(List.mem_append.mp hp).elim (fun z=>I.pin p (aS _ z)) fun z=>by
  obtain⟨hb,e⟩:=Rp z;obtain⟨f0,f1,f2,_⟩:=hf p.1 hb;obtain⟨o,e',d⟩:=ho p.1 hb;rw[e]at e';cases e';exact⟨e,f0,f1,f2,d⟩
def Inv.Ic{pins pl:List (AD×Obj)}{σ:St}{H:Hp}{s:SD}(I:Inv X (pins++pl) σ H s):Inv X pins σ H s:=I.O3 fun p hp=>I.pin p (aS _ (List.mem_append_left _ hp))
def R9{iter:Expr}{body:List Stmt}{wi:TI}{g:TG}{tb:TS}{pos:Pos}(hp:PassesOwn (model X.prog X.w) X.A X.env X.xe)(hc:X.calm=true)(hi:PI X tg iter wi)(hg:PG X tg g)(hb:Ew X body tb)
 (hs:∀x,foldedSetIterable iter X.env x=pure x:=by intro _;rfl):PS X (.For tg iter body [] pos) (ba wi g tb):=by
 intro pins s σ H D I h;refine wpAny_For (Au (hi pins s σ H _ I h) fun v s1 h1=>Au h1 fun itv s2 h2=>?_) hs;obtain⟨it,fp,tn,J,H2,e,I2,T,st2,f2,W,⟨m0,w0⟩,turn⟩:=h2;subst e;have stat:∀ {H':Hp},(∀b∈fp,H' b=none)→∀b∈fp,Io X pins H' b:=fun hn b hb=>⟨hn b hb,(f2 b hb).2⟩;refine codeAny_forLoop_any (fun n s'=>∃i σ' H',Inv X pins σ' H' s'∧tn i s'.heap∧(∀b∈fp,H' b=none)∧W i n σ' H') ?_ m0 ⟨0,σ,H2,I2,st2,fun b hb=>(f2 b hb).1,w0⟩;rintro n s3 ⟨i,σ3,H3,I3,st3,fr3,w3⟩;rcases turn i n σ3 H3 w3 with ⟨stop,qn⟩|⟨go,N,hN,step⟩
 ·refine wpAny_passesOwn hp (Au (T.done X rfl rfl rfl hc i pins s3 σ3 H3 X.xe I3 (stat fr3) st3 stop) fun r s4 ⟨hr,I4⟩=>?_);subst hr;exact wpAny_execs_nil ⟨σ3,H3,I4,qn⟩
 ·refine wpAny_passesOwn hp (Au (T.item X rfl rfl rfl hc i pins s3 σ3 H3 X.xe I3 (stat fr3) st3 go) fun r s4 ⟨u,hr,h4⟩=>?_);subst hr;refine wpAny_passesOwn hp (Au h4 fun _ s5 ⟨x,H5,I5,r5,y5,st5,fr5⟩=>?_);have I5':=I5.pinned (stat fr5) (T.obj _ _ st5);refine wpAny_passesOwn hp (Au (hg _ s5 σ3 H5 x u _ I5' r5 (step x H5 y5)) fun _ s6 ⟨σ6,H6,I6,q6⟩=>?_);refine wpAny_passesOwn hp (Au (hb _ s6 σ6 H6 _ I6 q6) fun f s7 q7=>?_);have again:∀ {σ7:St} {H7:Hp},Inv X (pins++JN fp s5.heap) σ7 H7 s7→N σ7 H7→∃m,m<n∧∃i σ' H',Inv X pins σ' H' s7∧tn i s7.heap∧(∀b∈fp,H' b=none)∧W i m σ' H':=fun {σ7 H7} I7 n7=>by
   obtain⟨m',hm,w7⟩:=hN σ7 H7 n7;refine⟨m',hm,i+1,σ7,H7,I7.Ic,T.keep _ _ _ st5 fun b hb o e=>(I7.pin (b,o) (aS _ (aS _ (F0 hb e)))).1,fun b hb=>?_,w7⟩;obtain⟨o,e,d⟩:=T.obj _ _ st5 b hb;exact(I7.pin (b,o) (aS _ (aS _ (F0 hb e)))).2.1
  cases f with
  |next=>obtain⟨σ7,H7,I7,n7⟩:=q7;exact again I7 n7
  |cont=>obtain⟨σ7,H7,I7,n7⟩:=q7;exact again I7 n7
  |brk=>obtain⟨σ7,H7,I7,q7⟩:=q7;exact⟨σ7,H7,I7.Ic,q7⟩
  |ret v=>obtain⟨x7,σ7,H7,I7,r7,q7⟩:=q7;exact⟨x7,σ7,H7,I7.Ic,r7,q7⟩
end
def T3{K:Fg}{a:AD}{xs:List V}{g:TG}{tb:TS}{D:Ends}{σ:St}{H:Hp}(Pv:Nat→St→Hp→Prop)(h0:Pv 0 σ H)(hl:∀i σ H,i≤xs.length→Pv i σ H→A2 K H a xs)
 (hs:∀i x σ H,xs[i]? = some x→Pv i σ H→g x σ H fun σ2 H2=>tb {D with nx:=Pv (i+1),ct:=Pv (i+1),bk:=D.nx} σ2 H2)(hd:∀σ H,Pv xs.length σ H→D.nx σ H) :
  ∃W:Nat→Nat→St→Hp→Prop,(∃m,W 0 m σ H)∧∀i m σ H,W i m σ H →
   ((PJ K a).stop i H∧D.nx σ H)∨((PJ K a).go i H∧∃N:St→Hp→Prop,(∀σ' H',N σ' H'→∃m',m'<m∧W (i+1) m' σ' H')∧∀x H',(PJ K a).Ex i H x H'→g x σ H' fun σ2 H2=>tb {D with nx:=N,ct:=N,bk:=D.nx} σ2 H2):=by
 refine⟨fun i m σ H=>m=xs.length-i∧i≤xs.length∧Pv i σ H,⟨xs.length,by simp,Nat.zero_le _,h0⟩,?_⟩;rintro i m σ H ⟨rfl,hi,p⟩;have q:=hl i σ H hi p;by_cases hlt:i<xs.length
 ·refine .inr ⟨⟨xs,xs[i],q,by simp[hlt]⟩,Pv (i+1),fun σ' H' p'=>⟨xs.length-(i+1),by omega,rfl,hlt,p'⟩,fun x H' y=>?_⟩;obtain⟨e,y⟩:=y;subst e;exact hs i x σ _ (y xs q) p
 ·have e:i=xs.length:=by omega
  subst e;exact .inl ⟨⟨xs,q,Nat.le_refl _⟩,hd σ H p⟩
def N6{c:TT}{tb:TS}{D:Ends}{σ:St}{H:Hp}(Pv:St→Hp→Prop)(μ:St→Hp→Nat)(h0:Pv σ H)
 (hs:∀σ H,Pv σ H→c σ H fun b H1=>if b=true then tb {D with nx:=fun σ' H'=>Pv σ' H'∧μ σ' H'<μ σ H,ct:=fun σ' H'=>Pv σ' H'∧μ σ' H'<μ σ H,bk:=D.nx} σ H1 else D.nx σ H1)
 (mono:∀σ H Q Q',(∀b H1,Q b H1→Q' b H1)→c σ H Q→c σ H Q'):Sw c tb D σ H:=by
 refine⟨fun m σ H=>m=μ σ H∧Pv σ H,⟨_,rfl,h0⟩,?_⟩;rintro m σ H ⟨rfl,p⟩;refine mono σ H _ _ (fun b H1 q=>?_) (hs σ H p);cases b with
 |true=>exact⟨_,fun σ' H' ⟨p',l⟩=>⟨_,l,rfl,p'⟩,q⟩
 |false=>exact q
abbrev R2:=V→V→Hp→VK→Prop
def Bz(X:Cx)(f:VL→VL→Sem VL)(r:R2):Prop :=
 ∀(pins:List (AD×Obj)) (s:SD) (σ:St) (H:Hp) (x y:V) (v u:VL) (Q:VK),Inv X pins σ H s→RelV x v→RelV y u→r x y H Q →
  wpAny (model X.prog X.w) X.A (f v u) (EP X pins σ Q) X.xe s
def Yr(X:Cx)(f:VL→Sem VL)(r:V→Hp→VK→Prop):Prop :=
 ∀(pins:List (AD×Obj)) (s:SD) (σ:St) (H:Hp) (x:V) (v:VL) (Q:VK),Inv X pins σ H s→RelV x v→r x H Q →
  wpAny (model X.prog X.w) X.A (f v) (EP X pins σ Q) X.xe s
def CN(X:Cx)(f:VL)(r:List V→Hp→VK→Prop):Prop :=
 ∀(pins:List (AD×Obj)) (s:SD) (σ:St) (H:Hp) (xs:List V) (us:List VL) (Q:VK),Inv X pins σ H s→Vals xs us→r xs H Q →
  wpAny (model X.prog X.w) X.A (call f us) (EP X pins σ Q) X.xe s
def VB(r:R2)(ta tb:TE):TE:=fun σ H Q=>ta σ H fun x H1=>tb σ H1 fun y H2=>r x y H2 Q
def cn(r:V→Hp→VK→Prop)(ta:TE):TE:=fun σ H Q=>ta σ H fun x H1=>r x H1 Q
def rI(C:Int→Int→Prop)(g:Int→Int→V):R2:=fun x y H Q=>∃i j,x=.int i∧y=.int j∧C i j∧Q (g i j) H
def MX(g:Int→Int→V):R2:=fun x y H Q=>∃i j,x=.int i∧y=.int j∧Q (g i j) H
def rU(g:Int→V):V→Hp→VK→Prop:=fun x H Q=>∃i,x=.int i∧Q (g i) H
section
variable{X:Cx}{a b c:Expr}{ta tb tc:TE}{pos:Pos}
def HH(ha:PE X a ta)(hb:PE X b tb){pins:List (AD×Obj)}{s:SD}{σ:St}{H:Hp}{R:V→V→Hp→Prop}(I:Inv X pins σ H s)
 (h:ta σ H fun x H1=>tb σ H1 fun y H2=>R x y H2){Q:VL→SD→Prop}{f:VL→VL→Sem VL}
 (hf:∀v u s2 x y H2,Inv X pins σ H2 s2→RelV x v→RelV y u→R x y H2→wpAny (model X.prog X.w) X.A (f v u) Q X.xe s2) :
  wpAny (model X.prog X.w) X.A (eval a X.env) (fun v s₁=>wpAny (model X.prog X.w) X.A (eval b X.env) (fun u s₂=>wpAny (model X.prog X.w) X.A (f v u) Q X.xe s₂) X.xe s₁) X.xe s:=by
 refine Au (ha pins s σ H _ I h) fun v s1 ⟨x,H1,I1,r1,q1⟩=>?_;refine Au (hb pins s1 σ H1 _ I1 q1) fun u s2 ⟨y,H2,I2,r2,q2⟩=>?_;exact hf v u s2 x y H2 I2 r1 r2 q2
def KA{op:Operator}{r:R2}(ho:Bz X (binaryOp op) r)(ha:PE X a ta)(hb:PE X b tb):PE X (.BinOp a op b pos) (VB r ta tb):=by
 intro pins s σ H Q I h;exact wpAny_BinOp (HH ha hb I h fun v u s2 x y H2 I2 rx ry q=>ho pins s2 σ H2 x y v u Q I2 rx ry q)
def Zm{op:UnaryOp}{r:V→Hp→VK→Prop}(ho:Yr X (unaryOp op) r)(ha:PE X a ta):PE X (.UnaryOp op a pos) (cn r ta):=by
 intro pins s σ H Q I h;exact UnaryOp_ (Au (ha pins s σ H _ I h) fun v s1 ⟨x,H1,I1,r1,q1⟩=>ho pins s1 σ H1 x v Q I1 r1 q1)
def Ul{f:VL→VL→Sem VL}{C:Int→Int→Prop}{g:Int→Int→Int}
 (rule:∀(i j:Int) (t u:Tok) (s:SD) (Q:VL→SD→Prop) (E:VL→SD→Prop),C i j→Q (.int (g i j) s.toks) {s with toks:=s.toks+1}→wpAny (model X.prog X.w) X.A (f (.int i t) (.int j u)) Q E s) :
  Bz X f (rI C fun i j=>.int (g i j)):=by
 intro pins s σ H x y v u Q I rx ry h;obtain⟨i,j,rfl,rfl,hc,q⟩:=h;obtain⟨t,rfl⟩:=rx;obtain⟨t',rfl⟩:=ry;exact rule i j t t' s _ _ hc ⟨.int (g i j),H,I.tok _,⟨_,rfl⟩,q⟩
def Y4{f:VL→VL→Sem VL}{g:Int→Int→Int}
 (rule:∀(i j:Int) (t u:Tok) (s:SD) (Q:VL→SD→Prop) (E:VL→SD→Prop),Q (.int (g i j) s.toks) {s with toks:=s.toks+1}→wpAny (model X.prog X.w) X.A (f (.int i t) (.int j u)) Q E s) :
  Bz X f (MX fun i j=>.int (g i j)):=by
 intro pins s σ H x y v u Q I rx ry h;obtain⟨i,j,rfl,rfl,q⟩:=h;obtain⟨t,rfl⟩:=rx;obtain⟨t',rfl⟩:=ry;exact rule i j t t' s _ _ ⟨.int (g i j),H,I.tok _,⟨_,rfl⟩,q⟩
def UO{f:VL→VL→Sem VL}{g:Int→Int→Bool}
 (rule:∀(i j:Int) (t u:Tok) (s:SD) (Q:VL→SD→Prop) (E:VL→SD→Prop),Q (.bool (g i j)) s→wpAny (model X.prog X.w) X.A (f (.int i t) (.int j u)) Q E s) :
  Bz X f (MX fun i j=>.bl (g i j)):=by
 intro pins s σ H x y v u Q I rx ry h;obtain⟨i,j,rfl,rfl,q⟩:=h;obtain⟨t,rfl⟩:=rx;obtain⟨t',rfl⟩:=ry;exact rule i j t t' s _ _ ⟨.bl (g i j),H,I,rfl,q⟩
def cS(i j:Int):Prop:=0≤j∧j≤1000000∧i.natAbs<2^64
def Tf(i j:Int):Prop:=(-(2^64)<i∧i<2^64)∨(-(2^64)<j∧j<2^64)
def Tf.ok{i j:Int}(h:Tf i j):IntMulOk i j:=by
 rcases h with ⟨h1,h2⟩|⟨h1,h2⟩
 ·exact .of_left (intBits_le_64 h1 h2)
 ·exact .of_right (intBits_le_64 h1 h2)
def W4:Bz X (binaryOp .Add) (MX fun i j=>.int (i+j)):=Y4 fun _ _ _ _ _ _ _ q=>add_int q
def Sh:Bz X (binaryOp .Sub) (MX fun i j=>.int (i-j)):=Y4 fun _ _ _ _ _ _ _ q=>sub_int q
def MB:Bz X (binaryOp .Mod) (rI (fun _ j=>j≠0) fun i j=>.int (i.fmod j)):=Ul fun _ _ _ _ _ _ _ hc q=>mod_int' hc q
def Yu:Bz X (binaryOp .Pow) (rI cS fun i j=>.int (i^j.toNat)):=Ul fun _ _ _ _ _ _ _ hc q=>pow_int_small hc.1 hc.2.1 hc.2.2 q
def cj{f:VL→Sem VL}{g:Int→Int}
 (rule:∀(i:Int) (t:Tok) (s:SD) (Q:VL→SD→Prop) (E:VL→SD→Prop),Q (.int (g i) s.toks) {s with toks:=s.toks+1}→wpAny (model X.prog X.w) X.A (f (.int i t)) Q E s) :
  Yr X f (rU fun i=>.int (g i)):=by
 intro pins s σ H x v Q I rx h;obtain⟨i,rfl,q⟩:=h;obtain⟨t,rfl⟩:=rx;exact rule i t s _ _ ⟨.int (g i),H,I.tok _,⟨_,rfl⟩,q⟩
def YE:Yr X (unaryOp .USub) (rU fun i=>.int (-i)):=cj fun _ _ _ _ _ q=>neg_int q
end
def X4:V→V→Bool
 |.Ao,.Ao=>true|.Ao,.int _=>true|.int _,.Ao=>true|.Ao,.bl _=>true|.bl _,.Ao=>true|.Ao,.str _=>true|.str _,.Ao=>true
 |.int _,.int _=>true|.bl _,.bl _=>true|.str _,.str _=>true|.JK _,.JK _=>true
 |.int _,.str _=>true|.str _,.int _=>true|.bl _,.str _=>true|.str _,.bl _=>true
 |_,_=>false
def cm:R2:=fun x y H Q=>X4 x y=true∧Q (.bl (decide (x=y))) H
def cw:R2:=fun x y H Q=>X4 x y=true∧Q (.bl (!decide (x=y))) H
def PU{i j:Int}:decide (V.int i=V.int j)=(i==j):=by
 rw[Bool.eq_iff_iff];simp
def RM{i j:Bool}:decide (V.bl i=V.bl j)=(i==j):=by
 rw[Bool.eq_iff_iff];simp
def Pf{i j:Str}:decide (V.str i=V.str j)=(i==j):=by
 rw[Bool.eq_iff_iff];simp
def Pl{i j:Array UInt8}:decide (V.JK i=V.JK j)=(i.toList==j.toList):=by
 rw[Bool.eq_iff_iff];cases i;cases j;simp
section
variable{X:Cx}{a b c:Expr}{ta tb tc:TE}{pos:Pos}
def Av{pins:List (AD×Obj)}{σ:St}{H:Hp}{s:SD}{Q:VK}{k k':Bool}(I:Inv X pins σ H s)(q:Q (.bl k) H)(e:k=k'):EP X pins σ Q (.bool k') s:=by
 subst e;exact⟨.bl k,H,I,rfl,q⟩
def ZX:Bz X (compareOp .Eq) cm:=by
 intro pins s σ H x y v u Q I rx ry h;obtain⟨hs,q⟩:=h;cases x with
 |Ao =>
  cases rx;cases y with
  |Ao=>cases ry;exact PySem.EqNone.eq_none_none (Av I q (by simp))
  |bl j=>cases ry;exact PySem.EqNone.eq_none_bool (Av I q (by simp))
  |int j=>obtain⟨t',rfl⟩:=ry;exact PySem.EqNone.eq_none_int (Av I q (by simp))
  |str j=>obtain⟨t',rfl⟩:=ry;exact PySem.EqNone.eq_none_str (Av I q (by simp))
  |_=>exact absurd (show false=true from hs) aJ
 |bl i =>
  cases rx;cases y with
  |Ao=>cases ry;exact PySem.EqNone.eq_bool_none (Av I q (by simp))
  |bl j=>cases ry;exact eq_bool (Av I q RM)
  |str j=>obtain⟨t',rfl⟩:=ry;exact PySem.EqMixed.eq_bool_str (Av I q (by simp))
  |_=>exact absurd (show false=true from hs) aJ
 |int i =>
  obtain⟨t,rfl⟩:=rx;cases y with
  |Ao=>cases ry;exact PySem.EqNone.eq_int_none (Av I q (by simp))
  |int j=>obtain⟨t',rfl⟩:=ry;exact eq_int (Av I q PU)
  |str j=>obtain⟨t',rfl⟩:=ry;exact PySem.EqMixed.eq_int_str (Av I q (by simp))
  |_=>exact absurd (show false=true from hs) aJ
 |str i =>
  obtain⟨t,rfl⟩:=rx;cases y with
  |Ao=>cases ry;exact PySem.EqNone.eq_str_none (Av I q (by simp))
  |bl j=>cases ry;exact PySem.EqMixed.eq_str_bool (Av I q (by simp))
  |int j=>obtain⟨t',rfl⟩:=ry;exact PySem.EqMixed.eq_str_int (Av I q (by simp))
  |str j=>obtain⟨t',rfl⟩:=ry;exact eq_str (Av I q Pf)
  |_=>exact absurd (show false=true from hs) aJ
 |JK i =>
  obtain⟨t,rfl⟩:=rx;cases y with
  |JK j=>obtain⟨t',rfl⟩:=ry;exact PySem.W.eq_bytes (Av I q Pl)
  |_=>exact absurd (show false=true from hs) aJ
 |_=>cases y<;>exact absurd (show false=true from hs) aJ
def U1:Bz X (compareOp .NotEq) cw:=by
 intro pins s σ H x y v u Q I rx ry h;obtain⟨hs,q⟩:=h;cases x with
 |Ao =>
  cases rx;cases y with
  |Ao=>cases ry;exact PySem.EqNone.ne_none_none (Av I q (by simp))
  |bl j=>cases ry;exact PySem.EqNone.ne_none_bool (Av I q (by simp))
  |int j=>obtain⟨t',rfl⟩:=ry;exact PySem.EqNone.ne_none_int (Av I q (by simp))
  |str j=>obtain⟨t',rfl⟩:=ry;exact PySem.EqNone.ne_none_str (Av I q (by simp))
  |_=>exact absurd (show false=true from hs) aJ
 |bl i =>
  cases rx;cases y with
  |Ao=>cases ry;exact PySem.EqNone.ne_bool_none (Av I q (by simp))
  |bl j=>cases ry;exact ne_bool (Av I q (ay not RM))
  |str j=>obtain⟨t',rfl⟩:=ry;exact PySem.EqMixed.ne_bool_str (Av I q (by simp))
  |_=>exact absurd (show false=true from hs) aJ
 |int i =>
  obtain⟨t,rfl⟩:=rx;cases y with
  |Ao=>cases ry;exact PySem.EqNone.ne_int_none (Av I q (by simp))
  |int j=>obtain⟨t',rfl⟩:=ry;exact ne_int (Av I q (ay not PU))
  |str j=>obtain⟨t',rfl⟩:=ry;exact PySem.EqMixed.ne_int_str (Av I q (by simp))
  |_=>exact absurd (show false=true from hs) aJ
 |str i =>
  obtain⟨t,rfl⟩:=rx;cases y with
  |Ao=>cases ry;exact PySem.EqNone.ne_str_none (Av I q (by simp))
  |bl j=>cases ry;exact PySem.EqMixed.ne_str_bool (Av I q (by simp))
  |int j=>obtain⟨t',rfl⟩:=ry;exact PySem.EqMixed.ne_str_int (Av I q (by simp))
  |str j=>obtain⟨t',rfl⟩:=ry;exact ne_str (Av I q (ay not Pf))
  |_=>exact absurd (show false=true from hs) aJ
 |JK i =>
  obtain⟨t,rfl⟩:=rx;cases y with
  |JK j=>obtain⟨t',rfl⟩:=ry;exact PySem.W.ne_bytes (Av I q (ay not Pl))
  |_=>exact absurd (show false=true from hs) aJ
 |_=>cases y<;>exact absurd (show false=true from hs) aJ
def Uy:Bz X (compareOp .Lt) (MX fun i j=>.bl (decide (i<j))):=UO fun _ _ _ _ _ _ _ q=>lt_int q
def Uz:Bz X (compareOp .Gt) (MX fun i j=>.bl (decide (j<i))):=UO fun _ _ _ _ _ _ _ q=>gt_int q
def VI:Bz X (compareOp .GtE) (MX fun i j=>.bl (decide (j≤i))):=UO fun _ _ _ _ _ _ _ q=>ge_int q
def Xd:Bz X (compareOp .Is) (fun x y H Q=>y=.Ao∧Q (.bl (decide (x=.Ao))) H):=by
 intro pins s σ H x y v u Q I rx ry h;obtain⟨rfl,q⟩:=h;cases ry;refine is_none_gen (Av I q ?_);cases x<;>first
  |(cases rx;rfl)
  |(obtain⟨t,rfl⟩:=rx;rfl)
def Bz.or{f:VL→VL→Sem VL}{r r':R2}(h:Bz X f r)(h':Bz X f r'):Bz X f (fun x y H Q=>r x y H Q∨r' x y H Q):=by
 intro pins s σ H x y v u Q I rx ry q;rcases q with q|q
 ·exact h pins s σ H x y v u Q I rx ry q
 ·exact h' pins s σ H x y v u Q I rx ry q
def Bd(b:Expr){op:CmpOp}(h:op≠.In:=by decide)(h2:op≠.NotIn:=by decide):behindInMarks op b=false:=by
 have e1:(op==CmpOp.In)=false:=by cases op<;>first|rfl|exact absurd rfl h
 have e2:(op==CmpOp.NotIn)=false:=by cases op<;>first|rfl|exact absurd rfl h2
 cases b<;>simp[behindInMarks,e1,e2]
def Le{op:CmpOp}{r:R2}(ho:Bz X (compareOp op) r)(ha:PE X a ta)(hb:PE X b tb)(hm:behindInMarks op b=false):PE X (.Compare a [op] [b] pos) (VB r ta tb):=by
 intro pins s σ H Q I h;exact wpAny_Compare1 (HH ha hb I h fun v u s2 x y H2 I2 rx ry q=>ho pins s2 σ H2 x y v u Q I2 rx ry q) hm
def Zf(t:TE):TT:=fun σ H Q=>t σ H fun x H'=>∃k,x=.bl k∧Q k H'
def F5{op:CmpOp}{r:R2}(ho:Bz X (compareOp op) r)(ha:PE X a ta)(hb:PE X b tb)(hm:behindInMarks op b=false):PT X (.Compare a [op] [b] pos) (Zf (VB r ta tb)):=by
 intro pins s σ H Q I h;refine wpAny_isTrue_Compare1 (Au (ha pins s σ H _ I h) fun v s1 ⟨x,H1,I1,r1,q1⟩=>Au (hb pins s1 σ H1 _ I1 q1) fun u s2 ⟨y,H2,I2,r2,q2⟩ =>
  Au (ho pins s2 σ H2 x y v u _ I2 r1 r2 q2) fun c s3 ⟨z,H3,I3,r3,k,e,q3⟩=>?_) hm
 subst e;cases r3;exact wpAny_truthy_bool ⟨H3,I3,q3⟩
def JP:(sizeLine:Nat)<2^63:=by rw[sizeLine_eq];decide
def QK:Bz X (binaryOp .Add) (fun x y H Q=>∃i j,x=.str i∧y=.str j∧i.length+j.length≤sizeLine∧Q (.str (i++j)) H):=by
 intro pins s σ H x y v u Q I rx ry h;obtain⟨i,j,rfl,rfl,hz,q⟩:=h;obtain⟨t,rfl⟩:=rx;obtain⟨t',rfl⟩:=ry;exact add_str (fun t' tk=>⟨.str (i++j),H,I.tok _,⟨_,rfl⟩,q⟩) hz
def vals1{x:V}{us:List VL}(r:Vals [x] us):∃u,us=[u]∧RelV x u:=by
 cases r with
 |cons r1 r2=>cases r2;exact⟨_,rfl,r1⟩
def Iq:CN X (.builtin "abs") (fun xs H Q=>∃i,xs=[.int i]∧Q (.int (if i<0 then -i else i)) H):=by
 intro pins s σ H xs us Q I r h;obtain⟨i,rfl,q⟩:=h;obtain⟨u,rfl,t,rfl⟩:=vals1 r;exact call_abs_int fun u tk=>⟨.int (if i<0 then -i else i),H,I.tok _,⟨_,rfl⟩,q⟩
end
structure Uc(h:Heap)(x dx C:Addr)(mA:Str→Option Value):Prop where
 obj:h.get? x=some (PySem.W.instObj C dx)
 ns:h.Ns1 dx mA
 ne:dx≠x
def SE{h:Heap}{dx:AD}{mA:Str→Option VL}(n:h.Ns1 dx mA):∃od,h.get? dx=some od∧∀name,PySem.W.lookIn name od=some (mA name):=by
 obtain⟨o,es,ep,ho,hd,hk,_,hm⟩:=n;refine⟨o,ho,fun name=>?_⟩;have e:=hm name;unfold nsFind findBy at e;rw[←Array.find?_toList]at e;unfold PySem.W.lookIn;rw[hd];dsimp only;split
 ·rename_i y q;rw[q]at e;exact ay some e
 ·rename_i q;rw[q]at e;have a:es.toList.any (·.refKey)=false:=by
   rw[List.any_eq_false];intro y hy;obtain⟨z,t,hkey⟩:=hk y (Array.mem_toList_iff.mp hy);simp[DictEntry.refKey,hkey]
  have a':¬es.toList.any (·.refKey)=true:=by rw[a];exact aJ
  rw[if_neg a'];exact ay some e
def Uc.look{h:Heap}{x dx C:AD}{mA:Str→Option VL}(I:Uc h x dx C mA):∃od,PySem.W.InstAt h x (PySem.W.instObj C dx) C (some od)∧∀name,PySem.W.lookIn name od=some (mA name) :=
 let⟨od,ho,hl⟩:=SE I.ns
 ⟨od,⟨I.obj,rfl,rfl,ho⟩,hl⟩
section
variable{P:Program}{w:World}{H H':Hp}{h h':Heap}{a C dx:AD}{fs fs':List (Str×V)}
def Wa(Ag:Cp P w H h)(e:H a=some (.ins C dx fs)):∃mA,Uc h a dx C mA∧(∀f,UG (fs.lookup f) (mA f))∧PySem.Within mA (fs.map (·.1))∧fs.length≤1000∧H dx=some (.own a):=by
 obtain⟨d,z,ne,ob,mA,n,r,q⟩:=(show Bq P w H h a (.ins C dx fs) from Ag a _ e);exact⟨mA,⟨ob,n,ne⟩,r,q,z,d⟩
end
structure XR(K:Fg)(C:Addr):Prop where
 pg:PySem.W.plainGet K C Str.empty=true
 hd:PySem.W.hasDictIn K C=true
 po:PySem.W.plainOver K C=true
 sa:PySem.W.findIn K (.ref C) "__setattr__" = some (some (.builtin "object.__setattr__"))
def XR.get{K:Fg}{C:AD}(c:XR K C)(f:Str):PySem.W.plainGet K C f=true:=c.pg
section
variable{X:Cx}{pins:List (AD×Obj)}{σ:St}{H:Hp}{s:SD}{A:Around}{E:VL→SD→Prop}{Q:VL→SD→Prop}{c:VL}{b:Bool}
inductive ED(K:Fg)(H:Hp):V→Value→Prop where
 |Ao:ED K H .Ao (.type "NoneType")
 |bl (x:Bool):ED K H (.bl x) (.type "bool")
 |int (i:Int):ED K H (.int i) (.type "int")
 |str (x:Str):ED K H (.str x) (.type "str")
 |P4 (x:UInt64):ED K H (.P4 x) (.type "float")
 |lst {a:Addr} {xs:List V} (e:H a=some (.lst xs)):ED K H (.ref a) (.type "list")
 |DP {a:Addr} {o:Obj} {xs:List V} (e:H a=some (.DP o (.lst xs))):ED K H (.ref a) (.type "list")
 |tup {a:Addr} {xs:List V} (e:H a=some (.tup xs)):ED K H (.ref a) (.type "tuple")
 |dK {a:Addr} {kvs:List (Key×V)} (e:H a=some (.dK kvs)):ED K H (.ref a) (.type "dict")
 |dT {a:Addr} {kvs:List (List Key×V)} (e:H a=some (.dT kvs)):ED K H (.ref a) (.type "dict")
 |ins {a C dx:Addr} {fs:List (Str×V)} (e:H a=some (.ins C dx fs)) (cl:XR K C) (ha:PySem.W.findIn K (.ref C) "__class__" = some (some (.builtin "object.__class__")))
   (hn:PySem.W.specialIn K (.builtin "object.__class__") "__get__" = some (some (.builtin "getset_descriptor.__get__"))) (htk:PySem.W.takesIn K (.builtin "object.__class__")=some true)
   (hm:PySem.W.mroIn K C (.type "object")=some true):ED K H (.ref a) (.ref C)
def Ry{x:V}{u t:VL}(I:Inv X pins σ H s)(rx:RelV x u)(ty:ED X.K H x t)(e:PySem.W.kitOne X.K t c=some b)(h:∀tk,Q (.bool b) {s with toks:=tk}) :
  wpAny (model X.prog X.w) A (call (.builtin "isinstance") [u,c]) Q E s:=by
 cases ty with
 |Ao=>cases (show u=Value.none from rx);exact af PySem.W.kitx_none I.FR True.intro e (fun z=>nomatch z) h
 |bl y=>cases (show u=Value.bool y from rx);exact af PySem.W.kitx_bool I.FR True.intro e (fun z=>nomatch z) h
 |int i=>obtain⟨t,q⟩:=(show ∃t,u=Value.int i t from rx);cases q;exact af PySem.W.kitx_int I.FR True.intro e (fun z=>nomatch z) h
 |str y=>obtain⟨t,q⟩:=(show ∃t,u=Value.str y t from rx);cases q;exact af PySem.W.kitx_str I.FR True.intro e (fun z=>nomatch z) h
 |P4 y=>obtain⟨t,q⟩:=(show ∃t,u=Value.float y t from rx);cases q;exact af PySem.W.kitx_float I.FR True.intro e (fun z=>nomatch z) h
 | @lst a xs ea =>
  cases (show u=Value.ref a from rx);obtain⟨_,_,n,_,h1⟩:=(show Bq X.prog X.w H s.heap a (.lst xs) from I.Ag a _ ea);exact af PySem.W.kitx_list I.FR ⟨_,h1,rfl⟩ e (fun z=>nomatch z) h
 | @DP a ob xs ea =>
  cases (show u=Value.ref a from rx);obtain⟨_,_,_,n,_,h1⟩:=(show Bq X.prog X.w H s.heap a (.DP ob (.lst xs)) from I.Ag a _ ea);exact af PySem.W.kitx_list I.FR ⟨_,h1,rfl⟩ e (fun z=>nomatch z) h
 | @tup a xs ea =>
  cases (show u=Value.ref a from rx);obtain⟨_,_,_,p⟩:=(show Bq X.prog X.w H s.heap a (.tup xs) from I.Ag a _ ea);obtain⟨o,h1,h2,_⟩:=p;exact af PySem.W.kitx_tuple I.FR ⟨o,h1,h2⟩ e (fun z=>nomatch z) h
 | @dK a kvs ea =>
  cases (show u=Value.ref a from rx);obtain⟨_,_,vs,_,p⟩:=(show Bq X.prog X.w H s.heap a (.dK kvs) from I.Ag a _ ea);obtain⟨o,es,ep,h1,h2,_⟩:=p;exact af PySem.W.kitx_dict I.FR ⟨o,h1,h2.1⟩ e (fun z=>nomatch z) h
 | @dT a kvs ea =>
  cases (show u=Value.ref a from rx);obtain⟨_,_,xs,_,o,es,ep,h1,h2,_⟩:=(show Bq X.prog X.w H s.heap a (.dT kvs) from I.Ag a _ ea);exact af PySem.W.kitx_dict I.FR ⟨o,h1,h2.1⟩ e (fun z=>nomatch z) h
 | @ins a C dx fs ea cl ha hn htk hm =>
  cases (show u=Value.ref a from rx);obtain⟨mA,O,_⟩:=Wa I.Ag ea;obtain⟨od,J,_⟩:=O.look;exact af (PySem.W.kitx_own (cl.get _) cl.hd ha hn htk hm) I.FR J e (fun z=>nomatch z) h
end
structure B5(k:Nat)(A:Around):Prop where
 hd:A.handled=none
 dp:A.depth+3*k+5<recursionLimit
 un:A.units+16*k+200<cLine
def B5.mono{j k:Nat}{A:Around}(r:B5 k A)(h:j≤k):B5 j A:=⟨r.hd,by have:=r.dp;omega,by have:=r.un;omega⟩
def B5.deeper{k:Nat}{A:Around}(r:B5 (k+1) A)(env:Env):B5 k (A.deeper env) :=
 ⟨r.hd,by have:=r.dp;show A.depth+1+3*k+5<_;omega,by have:=r.un;show A.units+3+16*k+200<_;omega⟩
def B5.depth{k:Nat}{A:Around}(r:B5 k A):A.depth<recursionLimit:=by have:=r.dp;omega
def B5.units{k:Nat}{A:Around}(r:B5 k A):A.units+64<cLine:=by have:=r.un;omega
def bo:TA:=fun _ H Q=>Q [] H
def Zo(ta:TE)(tr:TA):TA:=fun σ H Q=>ta σ H fun x H1=>tr σ H1 fun xs H2=>Q (x::xs) H2
section
variable{X:Cx}{e:Expr}{es:List Expr}{te:TE}{t:TA}{pos:Pos}
def BJ:PA X [] bo:=fun _ _ _ _ H Q I h=>Calls.spliced_nil ⟨[],H,I,.nil,h⟩
def Ai(ha:PE X e te)(hr:PA X es t)(hs:starEach (e::es) X.env=(false,eval e X.env)::starEach es X.env:=by rfl):PA X (e::es) (Zo te t):=by
 intro pos pins s σ H Q I h;rw[hs];show wpAny _ _ (spliced ((false,eval e X.env)::backTo pos (starEach es X.env))) _ _ s;refine Calls.spliced_cons (Au (ha pins s σ H _ I h) fun u s1 ⟨x,H1,I1,r1,q1⟩=>?_);exact Au (hr pos pins s1 σ H1 _ I1 q1) fun us s2 ⟨xs,H2,I2,r2,q2⟩=>⟨x::xs,H2,I2,.cons r1 r2,q2⟩
def b7(t:TA):TE:=fun σ H Q=>t σ H fun xs H1=>xs.length≤sizeLine∧∀p,H1 p=none→Q (.ref p) (upd H1 p (.tup xs))
def bq(t:TA):TE:=fun σ H Q=>t σ H fun xs H1=>xs.length≤sizeLine∧∀p,H1 p=none→Q (.ref p) (upd H1 p (.lst xs))
def Rc{x1}(h:PA X es t):PE X (.Tuple es x1 pos) (b7 t):=by
 intro pins s σ H Q I hq;refine wpAny_Tuple_spliced (Au (h pos pins s σ H _ I hq) fun us s1 ⟨xs,H1,I1,r,z,q⟩=>⟨by rw[←r.length];exact z,?_⟩);have hf:H1 s1.heap.objs.size=none:=I1.Ag.fresh (aH _);refine⟨.ref s1.heap.objs.size,upd H1 s1.heap.objs.size (.tup xs),I1.laid (t':=s1.toks) (fun b u e=>aF _ e) (aH _) ?_,rfl,q _ hf⟩;exact⟨z,us,r,⟨_,Heap.get?_push_size _ rfl,rfl,_,rfl⟩⟩
def RF(h:PA X es t):PE X (.List es pos) (bq t):=by
 intro pins s σ H Q I hq;refine wpAny_List_spliced (Au (h pos pins s σ H _ I hq) fun us s1 ⟨xs,H1,I1,r,z,q⟩=>⟨by rw[←r.length];exact z,?_⟩);have hf:H1 s1.heap.objs.size=none:=I1.Ag.fresh (aH _);refine⟨.ref s1.heap.objs.size,upd H1 s1.heap.objs.size (.lst xs),I1.laid (t':=s1.toks) (fun b u e=>aF _ e) (aH _) ?_,rfl,q _ hf⟩;exact⟨z,us,0,r,Heap.get?_push_size _ rfl⟩
end
abbrev Sp:=List V→Hp→VK→XK→Prop
abbrev FX:=List Env→Hp→SD→XK→VL→SD→Prop
structure Qa(P:Program)(w:World)(K:Fg)(mg:Str→Option Value)(base:Heap)(A:Around)(outer:List Env)(s:Shared)(H:Hp):Prop where
 frames:A.frames=some outer
 mod:Mod K mg base
 bs:∀b o,base.get? b=some o→s.heap.get? b=some o∧H b=none
 MF:base.objs.size≤s.heap.objs.size
 FA:s.heap.FunFrames base outer
 MO:∀b∈Dw outer,H b=none
 Ag:Cp P w H s.heap
 bare:AllBare s.gens
def CE(outer:List Env)(P:Program)(w:World)(H:Hp)(s:SD)(Q:VK)(u:VL)(s':SD):Prop :=
 ∃v H',s'.os=s.os∧AllBare s'.gens∧Un (Dw outer) [] H H' s.heap s'.heap∧Cp P w H' s'.heap∧RelV v u∧Q v H'
def CR(CX:FX)(outer:List Env)(P:Program)(w:World)(H:Hp)(s:SD)(Q:VK)(E:XK)(r:Result)(s':SD):Prop :=
 match r with
 |.ok (.ret u)=>CE outer P w H s Q u s'
 |.ok _=>False
 |.error e=>CX outer H s E e s'
structure AM(P:Program)(w:World)(K:Fg)(mg:Str→Option Value)(base:Heap)(CX:FX)(k:Nat)(f:Addr)(fd:FuncData)(ps:List Str)(sp:Sp):Prop where
 len:∀vs H Q E,sp vs H Q E→vs.length=ps.length
 run:∀(A:Around) (outer:List Env) (s:Shared) (H:Hp) (args:Args) (us:List Value) (vs:List V) (Q:VK) (E:XK),B5 k A→Qa P w K mg base A outer s H→BindsTo s fd args (ps.zip us)→Vals vs us→sp vs H Q E →
  codeAny (model P w) A (.call (.ref f) args) (CR CX outer P w H s Q E) s
def AM.mono{P:Program}{w:World}{K:Fg}{mg:Str→Option VL}{base:Heap}{CX:FX}{j k:Nat}{f:AD}{fd:FuncData}{ps:List Str}{sp:Sp}(F:AM P w K mg base CX j f fd ps sp)(h:j≤k) :
  AM P w K mg base CX k f fd ps sp:=⟨F.len,fun A outer s H args us vs Q E hr=>F.run A outer s H args us vs Q E (hr.mono h)⟩
def AM.imp{P:Program}{w:World}{K:Fg}{mg:Str→Option VL}{base:Heap}{CX:FX}{k:Nat}{f:AD}{fd:FuncData}{ps:List Str}{sp sp':Sp}(F:AM P w K mg base CX k f fd ps sp)
 (h:∀vs H Q E,sp' vs H Q E→sp vs H Q E):AM P w K mg base CX k f fd ps sp' :=
 ⟨fun vs H Q E q=>F.len vs H Q E (h _ _ _ _ q),fun A outer s H args us vs Q E hr he hb hv hs=>F.run A outer s H args us vs Q E hr he hb hv (h _ _ _ _ hs)⟩
section
variable{X:Cx}{pins:List (AD×Obj)}{σ:St}{H:Hp}{s s':SD}
def Inv.cC(I:Inv X pins σ H s):Qa X.prog X.w X.K X.mg X.base X.A X.stack s H :=
 ⟨I.ok.frames,I.ok.mod,I.bs,Nat.le_trans I.ok.MF I.sz,I.stack,I.Lv,I.Ag,I.bare⟩
def Inv.after{Q:VK}{u:VL}(I:Inv X pins σ H s)(h:CE X.stack X.prog X.w H s Q u s'):EP X pins σ Q u s':=by
 obtain⟨v,H',os,bare,un,Ag,r,q⟩:=h;obtain⟨hh,g,d,t,os'⟩:=s';obtain rfl:os'=s.os:=os;exact⟨v,H',I.call (h':=hh) (g':=g) (d':=d) (t':=t) (ch:=[]) un Ag bare (fun b z=>absurd z (by simp)),r,q⟩
end
def QW(sp:Sp)(dvs:List V)(E:XK)(t:TA):TE:=fun σ H Q=>t σ H fun vs H1=>sp (vs++dvs) H1 Q E
def Binds(K:Fg)(fd:FuncData)(ps:List Str)(ds:List VL):Prop :=
 ∀(s:SD) (us:List VL),K.In s.heap→(us++ds).length=ps.length→BindsTo s fd ⟨us,[]⟩ (ps.zip (us++ds))
def Binds.all{K:Fg}{fd:FuncData}{ps:List Str}(h:∀us:List VL,us.length=ps.length→bindArgs fd ⟨us,[]⟩=pure (ps.zip us)):Binds K fd ps []:=fun s us _ hl=>by
 rw[List.append_nil]at hl ⊢;exact .of_eq (h us hl)
def Passes(CX:FX)(X:Cx)(E:XK):Prop:=∀(pins:List (AD×Obj)) (σ:St) (H:Hp) (s:SD) (e:VL) (s':SD),Inv X pins σ H s→CX X.stack H s E e s'→X.xe e s'
section
variable{X:Cx}{CX:FX}{k:Nat}{f C:AD}{fd:FuncData}{ps:List Str}{sp:Sp}{dvs:List V}{ds:List VL}{E:XK}{x m:Str}{p pos apos:Pos}{e o:Expr}{es:List Expr}{ta:TE}{t:TA}
def YZ{pins:List (AD×Obj)}{σ:St}{H:Hp}{s:SD}{Q:VK}{us:List VL}{vs:List V}(F:AM X.prog X.w X.K X.mg X.base CX k f fd ps sp)(hr:B5 k X.A)(hb:Binds X.K fd ps ds)(hd:Vals dvs ds)(hx:Passes CX X E)
 (I:Inv X pins σ H s)(r:Vals vs us)(h:sp (vs++dvs) H Q E):wpAny (model X.prog X.w) X.A (call (.ref f) us) (EP X pins σ Q) X.xe s:=by
 have r2:Vals (vs++dvs) (us++ds):=r.append hd;have hl:(us++ds).length=ps.length:=by rw[←r2.length];exact F.len _ _ _ _ h
 refine wpAny_call (codeAny_mono (F.run X.A X.stack s H ⟨us,[]⟩ (us++ds) (vs++dvs) Q E hr I.cC (hb s us I.FR hl) r2 h) fun r s' hq=>?_);cases r with
 |error e=>exact hx pins σ H s e s' I hq
 |ok fl =>
  cases fl with
  |ret u=>exact I.after hq
  |next=>exact False.elim hq
  |brk=>exact False.elim hq
  |cont=>exact False.elim hq
def Pp(F:AM X.prog X.w X.K X.mg X.base CX k f fd ps sp)(hr:B5 k X.A)(hg:Gl X x)(hm:X.mg x=some (.ref f))(hk:PySem.W.keepIn X.K (.ref f)=true)(hb:Binds X.K fd ps ds)(hd:Vals dvs ds)(hx:Passes CX X E)
 (ha:PA X (e::es) t)(hdb:(x==("__debug__" : Str))=false:=by decide)(he:starEach (e::es) X.env=(false,eval e X.env)::starEach es X.env:=by rfl)(hpl:(backTo pos (starEach es X.env)).any (·.1)=false:=by rfl) :
  PE X (.Call (.Name x p) (e::es) [] pos) (QW sp dvs E t):=by
 intro pins s σ H Q I h;refine wpAny_Call_Name_kw (Lj I hg hm ?_ hdb);refine PySem.W.callWith_K (h₀:=X.base) I.ok.mod.LI hk (Au (ha pos pins s σ H _ I h) fun us s1 ⟨vs,H1,I1,r,q⟩=>⟨I1.FR,?_⟩) he hpl;exact YZ F hr hb hd hx I1 r q
end
structure Aj(N P:List Str)(sc:Scope):Prop where
 kind:sc.kind=.function
 co:sc.isCoroutine=false
 gen:sc.isGenerator=false
 nd:N.Nodup
 pre:N.take P.length=P
 par:∀x∈P,sc.names.lookup x=some .local∨sc.names.lookup x=some .cell
 XW:∀y∈sc.names,y.2≠.free
def C6{N P:List Str}{sc:Scope}(a:sc.kind=.function:=by rfl)(b:sc.isCoroutine=false:=by rfl)(c:sc.isGenerator=false:=by rfl)(d:N.Nodup:=by decide +kernel)(e:N.take P.length=P:=by rfl)(f:∀x ∈ P, sc.names.lookup x=some .local ∨ sc.names.lookup x=some .cell:=by decide +kernel)(g:∀y ∈ sc.names, y.2 ≠ .free:=by decide +kernel):Aj N P sc:=⟨a, b, c, d, e, f, g⟩
def MK{kindOf:Str→Option NameKind}{x:Str}:∀ {binds:List (Str×VL)} {m:Str→Option VL},(∀v,(x,v) ∉ binds)→bindL kindOf binds m x=m x
 |[],_,_=>rfl
 |(n,v)::r,m,h=>by
  unfold bindL;rw[MK fun w hw=>h w (aO _ hw)];split
  ·have:x≠n:=by rintro rfl;exact h v aP
   simp[this]
  ·rfl
def Mb{kindOf:Str→Option NameKind}{x:Str}:∀ {binds:List (Str×VL)} {m:Str→Option VL},(∀v,(x,v) ∉ binds)→bindC kindOf binds m x=m x
 |[],_,_=>rfl
 |(n,v)::r,m,h=>by
  unfold bindC;rw[Mb fun w hw=>h w (aO _ hw)];split
  ·rfl
  ·have:x≠n:=by rintro rfl;exact h v aP
   simp[this]
def MP{kindOf:Str→Option NameKind}{x:Str}{v:VL}:∀ {P:List Str} {vs:List VL} {i:Nat} {m:Str→Option VL},P.Nodup→P[i]? = some x→vs[i]? = some v→kindOf x=some .local →
  bindL kindOf (P.zip vs) m x=some v
 |[],_,_,_,_,h,_,_=>by simp at h
 |_::_,[],_,_,_,_,h,_=>by simp at h
 |p::P,w::vs,0,m,nd,h1,h2,hk=>by
  simp at h1 h2;subst h1;subst h2;show bindL kindOf ((p,w)::P.zip vs) m p=_;unfold bindL;rw[MK fun v hv=>(List.nodup_cons.mp nd).1 (List.of_mem_zip hv).1,if_pos hk];simp
 |p::P,w::vs,i+1,m,nd,h1,h2,hk=>by
  show bindL kindOf ((p,w)::P.zip vs) m x=_;unfold bindL;exact MP (i:=i) (List.nodup_cons.mp nd).2 (by simpa using h1) (by simpa using h2) hk
def MZ{kindOf:Str→Option NameKind}{x:Str}{v:VL}:∀ {P:List Str} {vs:List VL} {i:Nat} {m:Str→Option VL},P.Nodup→P[i]? = some x→vs[i]? = some v→kindOf x≠some .local →
  bindC kindOf (P.zip vs) m x=some v
 |[],_,_,_,_,h,_,_=>by simp at h
 |_::_,[],_,_,_,_,h,_=>by simp at h
 |p::P,w::vs,0,m,nd,h1,h2,hk=>by
  simp at h1 h2;subst h1;subst h2;show bindC kindOf ((p,w)::P.zip vs) m p=_;unfold bindC;rw[Mb fun v hv=>(List.nodup_cons.mp nd).1 (List.of_mem_zip hv).1,if_neg hk];simp
 |p::P,w::vs,i+1,m,nd,h1,h2,hk=>by
  show bindC kindOf ((p,w)::P.zip vs) m x=_;unfold bindC;exact MZ (i:=i) (List.nodup_cons.mp nd).2 (by simpa using h1) (by simpa using h2) hk
def start(N:List Str)(vs:List V):St:=vs.map some++List.replicate (N.length-vs.length) none
def Bo(CX:FX)(P:Program)(w:World)(K:Fg)(mg:Str→Option VL)(base:Heap)(N:List Str)(qual:Str)(scope:Scope)(f:AD)(cd:VL)(A:Around)(outer:List Env)(s:SD)(H:Hp)(E:XK):Cx where
 prog:=P
 w:=w
 K:=K
 mg:=mg
 base:=base
 A:=A.deeper (envOfC qual scope s.heap.objs.size f cd)
 N:=N
 s₀:=s
 H₀:=H
 env:=envOfC qual scope s.heap.objs.size f cd
 outer:=outer
 stack:=envOfC qual scope s.heap.objs.size f cd::outer
 ex:=[]
 calm:=true
 fn:=fun _=>true
 pn:=[]
 xe:=fun e s'=>wpAny (model P w) (A.deeper (envOfC qual scope s.heap.objs.size f cd)) (leaving (envOfC qual scope s.heap.objs.size f cd) e) (fun _ s''=>CX outer H s E e s'') (fun e' s''=>CX outer H s E e' s'') s'
def N4{sc:Scope}{n:Nat}{x:Str}(h:sc.names.lookup x=some .cell):∃c,(cellsFrom n sc.names []).lookup x=some c:=by
 have q:=PySem.W.cellsFrom_some sc.names n [] (.inl h);exact Option.isSome_iff_exists.mp q
def Rh{CX:FX}{P:Program}{w:World}{K:Fg}{mg:Str→Option VL}{base:Heap}{N ps:List Str}{qual:Str}{scope:Scope}{f:AD}{cd:VL}{A:Around}{outer:List Env}{s s1:SD}{H:Hp}{E:XK}{us:List VL}{vs:List V}
 (S:Aj N ps scope)(hd:A.handled=none)(e0:Qa P w K mg base A outer s H)(hl:vs.length=ps.length)(r:Vals vs us)
 (x:InCallC s s.heap.objs.size (bindL (envOfC qual scope s.heap.objs.size f cd).kindOf (ps.zip us) fun _=>none) (cellsFrom (s.heap.objs.size+1) scope.names []) (bindC (envOfC qual scope s.heap.objs.size f cd).kindOf (ps.zip us) fun _=>none) s1) :
  Inv (Bo CX P w K mg base N qual scope f cd A outer s H E) [] (start N vs) H s1:=by
 have hpl:ps.length≤N.length:=by have:=ay List.length S.pre;rw[List.length_take]at this;omega
 obtain⟨h1,tk,rfl,hk⟩:=x.done;have noA:∀b:AD,b ∉ (Bo CX P w K mg base N qual scope f cd A outer s H E).ex:=fun b z=>absurd (show b∈([]:List AD) from z) (by simp);refine⟨⟨e0.mod,S.kind,rfl,rfl,Nat.le_refl _,fun y z c h1 h2=>?_,fun y hy=>?_,fun y c _ h=>?_,fun _=>hd,Around.frames_deeper e0.frames,.inr ⟨rfl,rfl⟩,fun b z=>absurd z (noA b),e0.bs,e0.MF,fun b _ _=>noA b,fun b z=>absurd z (noA b),e0.FA,e0.MO⟩,
  rfl,e0.bare,Un.kept hk,⟨_,x.toInCall.ns,fun i y v h1 h2 h3=>?_⟩,fun y c h=>⟨_,x.cell y c h⟩,e0.Ag.fresh (aH _),fun y c h=>?_,fun p hp=>absurd (show p∈([]:List (AD×Obj)) from hp) (by simp),e0.Ag.kept hk,?_⟩
 ·exact name_of_addr x.apart (PySem.mem_of_lookup h1) (PySem.mem_of_lookup h2)
 ·have hy:scope.names.lookup y=some .cell∨scope.names.lookup y=some .free:=hy;rcases hy with hy|hy
  ·exact N4 hy
  ·exact absurd rfl (S.XW _ (PySem.mem_of_lookup hy))
 ·exact bF (x.above y c (PySem.mem_of_lookup h))
 ·have hi:i<vs.length:=by
   unfold start at h2;by_cases hi:i<vs.length
   ·exact hi
   ·rw[List.getElem?_append_right (by simpa using hi)]at h2;rw[List.getElem?_replicate]at h2;split at h2<;>cases h2
  have ha:vs[i]? = some v:=by
   unfold start at h2;rw[List.getElem?_append_left (by simpa using hi),List.getElem?_map]at h2;cases e:vs[i]? with
   |none=>rw[e]at h2;cases h2
   |some a=>rw[e]at h2;cases h2;rfl
  obtain⟨u,hu,rv⟩:=r.get ha;have hp:ps[i]? = some y:=by
   rw[←S.pre,List.getElem?_take_of_lt (by omega)];exact h1
  have ndP:ps.Nodup:=by rw[←S.pre];exact S.nd.sublist (List.take_sublist _ _)
  refine⟨u,rv,?_⟩;rcases S.par y (List.mem_of_getElem? hp) with k|k
  ·exact .inl ⟨k,MP ndP hp hu k⟩
  ·obtain⟨c,e⟩:=N4 (n:=s.heap.objs.size+1) k;refine .inr ⟨.inl k,c,e,?_⟩;have q:=x.cell y c e;rw[MZ ndP hp hu (by show scope.names.lookup y≠_;rw[k];decide)]at q;exact q
 ·exact e0.Ag.fresh (bF (x.above y c (PySem.mem_of_lookup h)))
 ·unfold start;show _=N.length;rw[List.length_append,List.length_map,List.length_replicate];omega
def U3{CX:FX}{P:Program}{w:World}{K:Fg}{mg:Str→Option VL}{base:Heap}{k:Nat}{f:AD}{name qual:Str}{params:Arguments}{body:List Stmt}{scope:Scope}{dV kV doc pm cdv ct oc:VL}{an od:Option AD}
 {osl:Array (Option VL)}{N ps:List Str}{sp:Sp}(lk:K.lookup f=some ⟨oc,od,.func (PySem.W.fnOf name qual params body scope dV kV doc pm an cdv ct),osl⟩)(hcd:PySem.W.codeIn K cdv qual=true)(S:Aj N ps scope)
 (len:∀vs H Q E,sp vs H Q E→vs.length=ps.length)
 (hbody:∀(A:Around) (outer:List Env) (s:SD) (H:Hp) (vs:List V) (Q:VK) (E:XK),B5 k (A.deeper (envOfC qual scope s.heap.objs.size f cdv))→sp vs H Q E →
   ∃t,Ew (Bo CX P w K mg base N qual scope f cdv A outer s H E) body t∧t { nx:=fun _ H'=>Q .Ao H',rt:=Q} (start N vs) H) :
  AM P w K mg base CX (k+1) f (PySem.W.fnOf name qual params body scope dV kV doc pm an cdv ct) ps sp:=by
 refine⟨len,fun A outer s H args us vs Q E hr e0 hb r hsp=>?_⟩;have hl:=len _ _ _ _ hsp;have KX:K.In s.heap:=e0.mod.LI.keeps fun b o e=>(e0.bs b o e).1;have lim:s.heap.NoLimit:=e0.mod.nolimit.keeps fun b o e=>(e0.bs b o e).1;have hkind:∀y∈ps.zip us,scope.names.lookup y.1=some .local∨(scope.names.lookup y.1=some .cell∧((cellsFrom (s.heap.objs.size+1) scope.names []).lookup y.1).isSome=true):=fun⟨n,v⟩ hy=>by
  rcases S.par n (List.of_mem_zip hy).1 with q|q
  ·exact .inl q
  ·exact .inr ⟨q,PySem.W.cellsFrom_some _ _ _ (.inl q)⟩
 refine codeAny_call_function hr.depth (KX _ _ lk) rfl S.co S.gen rfl (PySem.W.codeRec_of KX hcd) (hb _ _ _ _ ?_);refine wpAny_newFunctionEnv_cells S.kind hkind fun env he s1 x=>?_;subst he;refine⟨lim.keeps x.toInCall.keep,codeAny_func ?_⟩;obtain⟨t,ht,hq⟩:=hbody A outer s H vs Q E (hr.deeper _) hsp;have I:Inv (Bo CX P w K mg base N qual scope f cdv A outer s H E) [] (start N vs) H s1:=Rh S hr.hd e0 hl r x;refine aQ (ht [] s1 (start N vs) H _ I hq) (fun fl s' hs=>?_) fun e s' hs=>hs;have fin:∀ {σ':St} {H':Hp} {v:V} {u:VL},Inv (Bo CX P w K mg base N qual scope f cdv A outer s H E) [] σ' H' s'→RelV v u→Q v H'→CE outer P w H s Q u s' :=
  fun {σ' H' v u} J rv q=>⟨v,H',J.os,J.bare,J.base,J.Ag,rv,q⟩
 cases fl with
 |ret u =>
  obtain⟨v,σ',H',J,rv,q⟩:=hs;exact fin J rv q
 |next =>
  obtain⟨σ',H',J,q⟩:=hs;exact fin (v:=V.Ao) (u:=Value.none) J rfl q
 |brk =>
  obtain⟨_,_,_,q⟩:=hs;exact False.elim q
 |cont =>
  obtain⟨_,_,_,q⟩:=hs;exact False.elim q
section
variable{X:Cx}{x:Str}{p pos:Pos}{e:Expr}{es:List Expr}{t:TA}{id T:String}{r:List V→Hp→VK→Prop}
def a7(r:List V→Hp→VK→Prop)(t:TA):TE:=fun σ H Q=>t σ H fun vs H1=>r vs H1 Q
def Bv(hc:CN X (.builtin id) r)(hg:Gl X x)(hm:X.mg x=none)(hv:bootBuiltins x=some (.builtin id))(ha:PA X (e::es) t)(hn:x ≠ "__name__" := by decide)(hdb:(x==("__debug__" : Str))=false:=by decide)
 (he:starEach (e::es) X.env=(false,eval e X.env)::starEach es X.env:=by rfl)(hpl:(backTo pos (starEach es X.env)).any (·.1)=false:=by rfl):PE X (.Call (.Name x p) (e::es) [] pos) (a7 r t):=by
 intro pins s σ H Q I h;refine wpAny_Call_Name_kw (EX I hg hm hv ?_ hn hdb);exact PyProof.Rows.callWith_builtin1 (Au (ha pos pins s σ H _ I h) fun us s1 ⟨vs,H1,I1,r1,q1⟩=>hc pins s1 σ H1 vs us Q I1 r1 q1) he hpl
def Jp(hc:CN X (.type T) r)(hg:Gl X x)(hm:X.mg x=none)(hv:bootBuiltins x=some (.type T))(ha:PA X (e::es) t)(hn:x ≠ "__name__" := by decide)(hdb:(x==("__debug__" : Str))=false:=by decide)
 (he:starEach (e::es) X.env=(false,eval e X.env)::starEach es X.env:=by rfl)(hpl:(backTo pos (starEach es X.env)).any (·.1)=false:=by rfl):PE X (.Call (.Name x p) (e::es) [] pos) (a7 r t):=by
 intro pins s σ H Q I h;refine wpAny_Call_Name_kw (EX I hg hm hv ?_ hn hdb);exact ah (Au (ha pos pins s σ H _ I h) fun us s1 ⟨vs,H1,I1,r1,q1⟩=>hc pins s1 σ H1 vs us Q I1 r1 q1) he hpl
end
end L2
namespace HT
open PySem PyProof.Rows
section
variable{prog:Program}{w:World}{A:Around}{E:VL→SD→Prop}{s:SD}
def Vz{t b:AD}{vs ws:List VL}{Q:VL→SD→Prop}(ht:IsTup s.heap t vs.toArray)(hb:IsTup s.heap b ws.toArray)(hv:vs≠[])
 (h1:ws=[]→Q (.ref t) s)(h2:ws≠[]→Q (.ref s.heap.objs.size) {s with heap:=s.heap.push { cls:=.type "tuple",data:=.seq (vs++ws).toArray} })
 (hsz:vs.length+ws.length≤sizeLine):wpAny (model prog w) A (binaryOp .Add (.ref t) (.ref b)) Q E s:=by
 obtain⟨⟨cls,dd,data,sl⟩,ho,hc,n,hd⟩:=id ht;obtain⟨⟨cls2,dd2,data2,sl2⟩,ho2,hc2,n2,hd2⟩:=id hb;simp only at hc hd hc2 hd2;subst hc hd hc2 hd2;have e:vs.toArray++ws.toArray=(vs++ws).toArray:=by simp
 by_cases hw:ws=[]
 ·exact concat_meets ⟨_,ho,rfl⟩ ⟨_,ho2,rfl⟩ noFill_tuple_add seq_tuple_add PySem.F.slot_tuple_add PySem.F.entry_tuple_add (PySem.F.args_tuple_add_2 _ _)
   (tuple_addW1 t b vs.toArray ws.toArray n n2 dd dd2 sl sl2 (by simpa using hv) (by simp[hw])) ⟨ho,ho2,h1 hw⟩
 ·refine concat_meets ⟨_,ho,rfl⟩ ⟨_,ho2,rfl⟩ noFill_tuple_add seq_tuple_add PySem.F.slot_tuple_add PySem.F.entry_tuple_add (PySem.F.args_tuple_add_2 _ _)
   (tuple_addW2 t b vs.toArray ws.toArray n n2 dd dd2 sl sl2 (by simpa using hv) (by simpa using hw) (by rw[List.size_toArray,List.size_toArray];exact hsz)) ⟨ho,ho2,?_⟩
  rw[e];exact h2 hw
def A8(n d:Nat):Option Int→Nat
 |none=>d
 |some v=>if v<0 then(v+(n:Int)).toNat else min v.toNat n
def Wm(n d:Nat)(hd:d≤n)(o:Option Int):A8 n d o≤n:=by
 cases o with
 |none=>exact hd
 |some v =>
  show(if v<0 then(v+(n:Int)).toNat else min v.toNat n)≤n;by_cases hv:v<0
  ·rw[if_pos hv];omega
  ·rw[if_neg hv];exact Nat.min_le_right _ _
def Pz(v:Int)(n d:Nat):(if v<0 then max (v+(n:Int)) 0 else min v (n:Int))=((A8 n d (some v):Nat):Int):=by
 show(if v<0 then max (v+(n:Int)) 0 else min v (n:Int))=(((if v<0 then(v+(n:Int)).toNat else min v.toNat n):Nat):Int);by_cases hv:v<0
 ·simp only[if_pos hv];omega
 ·simp only[if_neg hv];omega
def Qp(lo hi:Option Int)(n:Nat):Builtin.Slice.sliceAdjust lo hi 1 (n:Int)=(((A8 n 0 lo:Nat):Int),((A8 n n hi:Nat):Int)):=by
 have h1:¬((1:Int)<0):=by omega
 unfold Builtin.Slice.sliceAdjust;simp only[h1,if_false];refine Prod.ext ?_ ?_
 ·cases lo with
  |none=>rfl
  |some v=>exact Pz v n 0
 ·cases hi with
  |none=>rfl
  |some v=>exact Pz v n n
def QP(i j:Nat):Builtin.Slice.slicePlaces (i:Int) (j:Int) 1=j-i:=by
 unfold Builtin.Slice.slicePlaces;have h1:(1:Int) > 0:=by omega
 simp only[h1,if_true,Int.ediv_one];split<;>omega
def K5{v:VL}{o:Option Int}{Q:Option Int→SD→Prop}(p:IsPart v o)(h:Q o s):wpAny (model prog w) A (Builtin.Slice.slicePartIndex v) Q E s:=by
 cases p with
 |none=>exact slicePart_none h
 |int i t=>exact slicePart_int h
def Kv{sl:AD}{vl vu:VL}{lo hi:Option Int}{n:Nat}{Q:Int×Int×Nat→SD→Prop}(hs:s.heap.IsSliceOf sl vl vu .none)(pl:IsPart vl lo)(pu:IsPart vu hi)
 (h:Q (((A8 n 0 lo:Nat):Int),1,A8 n n hi-A8 n 0 lo) s):wpAny (model prog w) A (Builtin.Slice.sliceApplied (.ref sl) (pure (n:Int))) Q E s:=by
 obtain⟨os,hos,hcs,hds⟩:=id hs;unfold Builtin.Slice.sliceApplied Builtin.Slice.sliceFields;refine Wb (Wb (ag hos hds (x:=vl) rfl (Wb (ag hos hds (x:=vu) rfl (Wb (ag hos hds (x:=.none) rfl (aB ?_)))))));refine Wb (slicePart_none ?_);show wpAny _ _ (if((1:Int)==0)=true then _ else _) _ _ s;rw[if_neg (by decide)];refine Wb (K5 pl (Wb (K5 pu (Wb (aB ?_)))));show wpAny _ _ (match Builtin.Slice.sliceAdjust lo hi 1 (n:Int) with|(lo,hi)=>pure (lo,(1:Int),Builtin.Slice.slicePlaces lo hi 1)) _ _ s;rw[Qp lo hi n];show wpAny _ _ (pure (((A8 n 0 lo:Nat):Int),(1:Int),Builtin.Slice.slicePlaces ((A8 n 0 lo:Nat):Int) ((A8 n n hi:Nat):Int) 1)) _ _ s;rw[QP];exact aB h
def Ta(xs:Array VL)(i k:Nat):((List.range k).filterMap fun(m:Nat)=>xs[((i:Int)+(m:Int)*1).toNat]?).toArray=((xs.toList.drop i).take k).toArray:=by
 have e:(fun(m:Nat)=>xs[((i:Int)+(m:Int)*1).toNat]?)=fun m=>xs[i+m]? := by
  funext m
  have:((i:Int)+(m:Int)*1).toNat=i+m:=by omega
  rw[this]
 rw[e];have:=pick_run xs i k;rw[List.filterMap_map]at this;have e2:((fun x=>xs[x]?) ∘ fun x=>i+x)=fun m=>xs[i+m]?:=rfl;rw[e2]at this;rw[this]
def KJ{t sl:AD}{items:Array VL}{vl vu:VL}{lo hi:Option Int}{Q:VL→SD→Prop}(ht:IsTup s.heap t items)(hs:s.heap.IsSliceOf sl vl vu .none)(pl:IsPart vl lo)(pu:IsPart vu hi)
 (hw:¬(A8 items.size 0 lo=0∧A8 items.size items.size hi=items.size))
 (h:Q (.ref s.heap.objs.size) {s with heap:=s.heap.push { cls:=.type "tuple",data:=.seq ((items.toList.drop (A8 items.size 0 lo)).take (A8 items.size items.size hi-A8 items.size 0 lo)).toArray} })
 (hsz:items.size≤sizeLine):wpAny (model prog w) A (getItem (.ref t) (.ref sl)) Q E s:=by
 have htake:sizeOk (.seq ((items.toList.drop (A8 items.size 0 lo)).take (A8 items.size items.size hi-A8 items.size 0 lo)).toArray):=by
  show((items.toList.drop (A8 items.size 0 lo)).take (A8 items.size items.size hi-A8 items.size 0 lo)).toArray.size≤sizeLine;rw[List.size_toArray,List.length_take,List.length_drop,Array.length_toList];omega
 have hj:A8 items.size items.size hi≤items.size:=Wm _ _ (aH _) hi;obtain⟨os,hos,hcs,hds⟩:=id hs;have hTs:s.TypeIs (.ref sl) "slice" := ⟨os,hos,hcs⟩;unfold getItem
 try with_reducible refine aU ?_
 first|refine Wb (aB ?_)|skip
 refine Wb (wpAny_sequenceKey ht.typeIs (by decide) ?_);refine Wb (ai (name:=Str.ofString "__getitem__") ht.typeIs PyProof.Rows.slot_tuple_getitem
  (aT PyProof.Rows.slot_tuple_getitem ht.typeIs entry_tuple_getitem ?_ (args_tuple_getitem _ _)))
 show wpAny _ _ (Builtin.Tuple.tupleItemsOf (.ref t)>>=_) _ _ s;refine Wb (tupleItemsOf_ ht ?_);refine Wb (wpAny_typeOf hTs ?_);rw[if_pos (by decide)];refine Wb (Kv hs pl pu ?_);have hno:¬((((A8 items.size 0 lo:Nat):Int)==0&&(1:Int)==1&&(A8 items.size items.size hi-A8 items.size 0 lo)==items.size)=true):=by
  intro q;rw[Bool.and_eq_true,Bool.and_eq_true]at q;have q1:((A8 items.size 0 lo:Nat):Int)=0:=eq_of_beq q.1.1;have q2:A8 items.size items.size hi-A8 items.size 0 lo=items.size:=eq_of_beq q.2;exact hw ⟨by omega,by omega⟩
 show wpAny _ _ (if(((A8 items.size 0 lo:Nat):Int)==0&&(1:Int)==1&&(A8 items.size items.size hi-A8 items.size 0 lo)==items.size)=true then _ else _) _ _ s;rw[if_neg hno,Ta]
 first
  |exact Wb (m:=Builtin.Tuple.tupleExact _) (aW (aB ⟨_,rfl,wpAny_pure h⟩) htake)
  |exact Wb (m:=Builtin.Tuple.tupleExact _) (aW (Wb (aB (aB ⟨_,rfl,wpAny_pure h⟩))) htake)
  |exact Wb (Wb (m:=Builtin.Tuple.tupleExact _) (aW (aB (aB ⟨_,rfl,wpAny_pure h⟩)) htake))
  |exact Wb (Wb (m:=Builtin.Tuple.tupleExact _) (aW (aB ⟨_,rfl,wpAny_pure h⟩) htake))
end
end HT
namespace L2
open PySem PySem.Spec PyProof.Rows
abbrev TO:=St→Hp→(Option Int→Hp→Prop)→Prop
def PO(X:Cx)(e:Option Expr)(t:TO):Prop :=
 ∀(pins:List (AD×Obj)) (s:SD) (σ:St) (H:Hp) (Q:Option Int→Hp→Prop),Inv X pins σ H s→t σ H Q →
  wpAny (model X.prog X.w) X.A (evalPart e X.env) (fun u s'=>∃o H',Inv X pins σ H' s'∧IsPart u o∧Q o H') X.xe s
def WY:TO:=fun _ H Q=>Q none H
def Zc(t:TE):TO:=fun σ H Q=>t σ H fun x H1=>∃i,x=.int i∧Q (some i) H1
def intsAre_of{ns:List Int}:∀ {us:List VL},Vals (ns.map V.int) us→IntsAre us ns:=by
 induction ns with
 |nil=>intro us r;rw[List.map_nil]at r;cases r;exact .nil
 |cons n ns ih =>
  intro us r;rw[List.map_cons]at r;cases r with
  |cons r1 r2 =>
   obtain⟨t,e⟩:=r1;subst e;exact .cons n t (ih r2)
section
variable{X:Cx}{e:Expr}{te:TE}{lo hi:Option Expr}{tl th:TO}{pos p2:Pos}
def VQ:PO X none WY:=by
 intro pins s σ H Q I h;rw[evalPart_none];exact aB ⟨none,H,I,.none,h⟩
def Vg(h:PE X e te):PO X (some e) (Zc te):=by
 intro pins s σ H Q I hw;rw[evalPart_some];refine Au (h pins s σ H _ I hw) fun u s1 ⟨x,H1,I1,r1,q1⟩=>?_;obtain⟨i,rfl,q⟩:=q1;obtain⟨t,rfl⟩:=r1;exact⟨some i,H1,I1,.int i t,q⟩
def M5(X:Cx)(r:V→Option Int→Option Int→Hp→VK→Prop):Prop :=
 ∀(pins:List (AD×Obj)) (s:SD) (σ:St) (H:Hp) (x:V) (v vl vu:VL) (lo hi:Option Int) (sl:AD) (Q:VK),Inv X pins σ H s→RelV x v→s.heap.IsSliceOf sl vl vu .none→IsPart vl lo→IsPart vu hi→r x lo hi H Q →
  ∃T id,typeLookup (.type T) "__getitem__" = pure (some (.builtin id))∧s.TypeIs v T∧wpAny (model X.prog X.w) X.A (getItem v (.ref sl)) (EP X pins σ Q) X.xe s
def M5.or{r r':V→Option Int→Option Int→Hp→VK→Prop}(h:M5 X r)(h':M5 X r'):M5 X (fun x lo hi H Q=>r x lo hi H Q∨r' x lo hi H Q):=by
 intro pins s σ H x v vl vu lo hi sl Q I rx hs pl pu q;rcases q with q|q
 ·exact h pins s σ H x v vl vu lo hi sl Q I rx hs pl pu q
 ·exact h' pins s σ H x v vl vu lo hi sl Q I rx hs pl pu q
def cg(r:V→Option Int→Option Int→Hp→VK→Prop)(te:TE)(tl th:TO):TE:=fun σ H Q=>te σ H fun x H1=>tl σ H1 fun l H2=>th σ H2 fun u H3=>r x l u H3 Q
def Te{r:V→Option Int→Option Int→Hp→VK→Prop}(hr:M5 X r)(he:PE X e te)(hl:PO X lo tl)(hu:PO X hi th):PE X (.Subscript e (.Slice lo hi none p2) pos) (cg r te tl th):=by
 intro pins s σ H Q I h;refine Subscript_ (Au (he pins s σ H _ I h) fun v s1 ⟨x,H1,I1,r1,q1⟩=>?_);refine wpAny_Slice (Au (hl pins s1 σ H1 _ I1 q1) fun vl s2 ⟨l,H2,I2,pl,q2⟩=>Au (hu pins s2 σ H2 _ I2 q2) fun vu s3 ⟨u,H3,I3,pu,q3⟩=>?_);rw[evalPart_none];refine aB ?_;have I4:Inv X pins σ H3 {s3 with heap:=s3.heap.push { cls:=.type "slice",data:=.fields #[vl,vu,.none]} }:=I3.kept (t':=s3.toks) fun b ob q=>aF _ q;obtain⟨T,id,hT,ht,hg⟩:=hr pins {s3 with heap:=s3.heap.push { cls:=.type "slice",data:=.fields #[vl,vu,.none]} } σ H3 x v vl vu l u s3.heap.objs.size Q I4 r1 (Heap.IsSliceOf.new ..) pl pu q3;show wpAny (model X.prog X.w) X.A (subscriptTail e (.Slice lo hi none p2) v (.ref s3.heap.objs.size)) (EP X pins σ Q) X.xe {s3 with heap:=s3.heap.push { cls:=.type "slice",data:=.fields #[vl,vu,.none]} };exact tail_any (ops:=[.ref s3.heap.objs.size,v]) ht hT hg (by with_unfolding_all rfl)
def Jg(xs:List V)(lo hi:Option Int):List V:=(xs.drop (HT.A8 xs.length 0 lo)).take (HT.A8 xs.length xs.length hi-HT.A8 xs.length 0 lo)
def Kd(xs:List V)(lo hi:Option Int):(Jg xs lo hi).length≤xs.length:=by
 unfold Jg;rw[List.length_take,List.length_drop];omega
def cL(K:Fg):V→Option Int→Option Int→Hp→VK→Prop:=fun x lo hi H Q=>∃a xs,x=.ref a∧BF K H a xs ∧
 ¬(HT.A8 xs.length 0 lo=0∧HT.A8 xs.length xs.length hi=xs.length)∧∀p,H p=none→Q (.ref p) (upd H p (.tup (Jg xs lo hi)))
def YX:M5 X (cL X.K):=by
 intro pins s σ H x v vl vu lo hi sl Q I rx hs pl pu h;obtain⟨a,xs,rfl,hx,hw,q⟩:=h;cases rx;obtain⟨its,r,ht,hz⟩:=I.tuple hx;have hlen:its.toArray.size=xs.length:=by rw[List.size_toArray];exact r.length.symm
 refine⟨"tuple",_,PyProof.Rows.slot_tuple_getitem.lookup,ht.typeIs,?_⟩;refine HT.KJ ht hs pl pu (by rw[hlen];exact hw) ?_ (by rw[hlen];exact hz);rw[hlen];refine⟨.ref s.heap.objs.size,_,I.laid (t':=s.toks) (o:=.tup (Jg xs lo hi)) (fun b ob q=>aF _ q) (aH _) ?_,rfl,q _ (I.Ag.fresh (aH _))⟩;exact⟨aZ (Kd xs lo hi) hz,_,(r.drop (HT.A8 xs.length 0 lo)).take (HT.A8 xs.length xs.length hi-HT.A8 xs.length 0 lo),IsTup.new _ _⟩
def Vals.Px{xs:List V}{us:List VL}(r:Vals xs us):us=[] ↔ xs=[]:=by
 cases r with
 |nil=>simp
 |cons _ _=>simp
end
def Jn(n:Nat)(i:Int):Option Nat:=if 0≤i then(if i<n then some i.toNat else none) else if -(n:Int)≤i then some (i+n).toNat else none
def D6{α:Type}(xs:List α)(i:Int):Option α:=(Jn xs.length i).bind fun j=>xs[j]?
def Pe{n:Nat}{i:Int}{j:Nat}(h:Jn n i=some j):seqIndex? i n=some j∧j<n∧-(n:Int)≤i∧i<n:=by
 unfold Jn at h;by_cases h0:0≤i
 ·rw[if_pos h0]at h;by_cases h1:i<n
  ·rw[if_pos h1]at h;have e:i.toNat=j:=aV h;exact⟨by rw[seqIndex_of h0 h1,e],by omega,by omega,h1⟩
  ·rw[if_neg h1]at h;cases h
 ·rw[if_neg h0]at h;by_cases h1:-(n:Int)≤i
  ·rw[if_pos h1]at h;have e:(i+n).toNat=j:=aV h;exact⟨by rw[seqIndex_neg (by omega) h1,e],by omega,h1,by omega⟩
  ·rw[if_neg h1]at h;cases h
def Li{α:Type}{xs:List α}{i:Int}{v:α}(h:D6 xs i=some v):∃j,seqIndex? i xs.length=some j∧xs[j]? = some v∧j<xs.length∧-(xs.length:Int)≤i∧i<xs.length:=by
 unfold D6 at h;cases e:Jn xs.length i with
 |none=>rw[e]at h;cases h
 |some j =>
  rw[e]at h;obtain⟨h1,h2,h3,h4⟩:=Pe e;exact⟨j,h1,h,h2,h3,h4⟩
def Hy{α:Type}{xs:List α}{j:Nat}{v:α}(h:xs[j]? = some v):D6 xs (j:Int)=some v:=by
 have hj:j<xs.length:=(aM.mp h).1;have e:Jn xs.length (j:Int)=some j:=by
  unfold Jn;rw[if_pos (by omega),if_pos (by omega)];simp
 unfold D6;rw[e];exact h
def Lq(b:Expr):Prop:=∀o i,subscripted b false o i=operate [o,i] (getItem o i)
def LD(X:Cx)(r:R2):Prop :=
 ∀(value slice:Expr) (pins:List (AD×Obj)) (s:SD) (σ:St) (H:Hp) (x y:V) (v u:VL) (Q:VK),Inv X pins σ H s→RelV x v→RelV y u→r x y H Q →
  subscripted slice false v u=operate [v,u] (getItem v u)→wpAny (model X.prog X.w) X.A (subscriptTail value slice v u) (EP X pins σ Q) X.xe s
def bI(X:Cx)(id:String)(r:V→List V→Hp→VK→Prop):Prop :=
 ∀(pins:List (AD×Obj)) (s:SD) (σ:St) (H:Hp) (x:V) (xs:List V) (v:VL) (us:List VL) (Q:VK),Inv X pins σ H s→RelV x v→Vals xs us→r x xs H Q →
  wpAny (model X.prog X.w) X.A (call (.builtin id) (v::us)) (EP X pins σ Q) X.xe s
section
variable{X:Cx}{a b:Expr}{ta tb:TE}{pos:Pos}
def LD.or{r r':R2}(h:LD X r)(h':LD X r'):LD X (fun x y H Q=>r x y H Q∨r' x y H Q):=by
 intro value slice pins s σ H x y v u Q I rx ry q hs;rcases q with q|q
 ·exact h value slice pins s σ H x y v u Q I rx ry q hs
 ·exact h' value slice pins s σ H x y v u Q I rx ry q hs
def Il{r:R2}(hr:LD X r)(ha:PE X a ta)(hb:PE X b tb)(hs:Lq b):PE X (.Subscript a b pos) (VB r ta tb):=by
 intro pins s σ H Q I h;exact Subscript_ (HH ha hb I h fun v u s2 x y H2 I2 rx ry q=>hr a b pins s2 σ H2 x y v u Q I2 rx ry q (hs _ _))
def Y5(K:Fg):R2:=fun x y H Q=>∃p xs i v,x=.ref p∧y=.int i∧A2 K H p xs∧D6 xs i=some v∧Q v H
def Yv(K:Fg):R2:=fun x y H Q=>∃p xs i v,x=.ref p∧y=.int i∧BF K H p xs∧D6 xs i=some v∧Q v H
def Wy:R2:=fun x y H Q=>∃z i c,x=.str z∧y=.int i∧z.length≤sizeLine∧D6 z.cps.toList i=some c∧Q (.str ⟨#[c]⟩) H
def PV:LD X (Y5 X.K):=by
 intro value slice pins s σ H x y v u Q I rx ry h hs;obtain⟨p,xs,i,z,rfl,rfl,hq,he,q⟩:=h;cases rx;obtain⟨t,rfl⟩:=ry;obtain⟨its,r,pl,hz⟩:=I.list hq;obtain⟨j,h1,h2,h3,h4,h5⟩:=Li he;obtain⟨w,ew,rw'⟩:=r.get h2;have hl:=r.length;have hn:=JP;have fin:EP X pins σ Q w s:=⟨z,H,I,rw',q⟩;by_cases h0:0≤i
 ·have hj:i.toNat=j:=by
   rw[seqIndex_of h0 h5]at h1;exact aV h1
  exact item_listR pl.isList h0 (by omega) (by rw[hj];simpa using ew) fin hs
 ·have hj:(i+(its.toArray.size:Int)).toNat=j:=by
   rw[seqIndex_neg (by omega) h4]at h1;rw[List.size_toArray,←hl];exact aV h1
  exact subscriptTail_builtinR (x:=w) pl.isList.typeIs slot_list_getitem.lookup
   (wpAny_getItem_list_neg (Q:=fun r s'=>r=w∧EP X pins σ Q r s') pl.isList (by omega) (by rw[List.size_toArray]<;>omega) (by omega) (by rw[hj];simpa using ew) ⟨rfl,fin⟩) hs
def IB:LD X (Yv X.K):=by
 intro value slice pins s σ H x y v u Q I rx ry h hs;obtain⟨p,xs,i,z,rfl,rfl,hq,he,q⟩:=h;cases rx;obtain⟨t,rfl⟩:=ry;obtain⟨its,r,pl,hz⟩:=I.tuple hq;obtain⟨j,h1,h2,h3,h4,h5⟩:=Li he;obtain⟨w,ew,rw'⟩:=r.get h2;have hl:=r.length;have hn:=JP;have fin:EP X pins σ Q w s:=⟨z,H,I,rw',q⟩;exact subscriptTail_builtinR (x:=w) pl.typeIs slot_tuple_getitem.lookup
  (getItem_tuple (j:=j) (Q:=fun r s'=>r=w∧EP X pins σ Q r s') pl (by omega) (by omega) (by rw[List.size_toArray,←hl];exact h1) (by simpa using ew) ⟨rfl,fin⟩) hs
def YD:LD X Wy:=by
 intro value slice pins s σ H x y v u Q I rx ry h hs;obtain⟨z,i,c,rfl,rfl,hz,he,q⟩:=h;obtain⟨t,rfl⟩:=rx;obtain⟨t',rfl⟩:=ry;obtain⟨j,h1,h2,h3,h4,h5⟩:=Li he;have hl:z.cps.toList.length=z.length:=by simp[Str.length]
 rw[hl]at h1 h4 h5;have hn:=JP;exact tail_any (typeIs_str s z t) slot_str_getitem.lookup (getItem_str (c:=c) (by
  have e1:decide (i < -(2^63:Int))=false:=ax (by omega);have e2:decide (i ≥ 2^63)=false:=ax (by omega);rw[e1,e2,Bool.or_false]) (by rw[h1];simpa using h2) ⟨.str ⟨#[c]⟩,H,I.tok _,⟨_,rfl⟩,q⟩) hs
def cc(K:Fg):R2:=fun x y H Q=>Y5 K x y H Q∨Yv K x y H Q∨Wy x y H Q
def Xv:LD X (cc X.K):=PV.or (IB.or YD)
def Q7(its:List VL)(n j:Nat)(u:VL):Obj.mapSeq (·.setIfInBounds j u) { cls:=.type "list",data:=.seq its.toArray n}={ cls:=.type "list",data:=.seq (its.set j u).toArray n}:=by
 simp[Obj.mapSeq]
def Inv.lst{pins:List (AD×Obj)}{σ:St}{H:Hp}{s:SD}{p:AD}{xs:List V}(I:Inv X pins σ H s)(h:H p=some (.lst xs)) :
  ∃(its:List VL) (n:Nat),Vals xs its∧s.heap.get? p=some { cls:=.type "list",data:=.seq its.toArray n}∧xs.length≤sizeLine:=by
 obtain⟨z,its,n,r,e⟩:=I.Ag p _ h;exact⟨its,n,r,e,z⟩
def Inv.Y6{pins:List (AD×Obj)}{σ:St}{H:Hp}{s:SD}{p:AD}{xs ys:List V}{its its':List VL}{n n':Nat}{f:Obj→Obj}(I:Inv X pins σ H s)(h:H p=some (.lst xs))
 (ho:s.heap.get? p=some { cls:=.type "list",data:=.seq its.toArray n})(hf:f { cls:=.type "list",data:=.seq its.toArray n}={ cls:=.type "list",data:=.seq its'.toArray n'})(r:Vals ys its')(hz:ys.length≤sizeLine)(t:Nat) :
  Inv X pins σ (upd H p (.lst ys)) {s with heap:=s.heap.update p f,toks:=t}:=by
 have e:(s.heap.update p f).get? p=some { cls:=.type "list",data:=.seq its'.toArray n'}:=by
  rw[Heap.get?_update_self f ho (by rw[hf]<;>rfl),hf]
 refine I.write (x:=p) (e:=p) (by rw[h];trivial) (.inl rfl) (fun b u hb q=>(Heap.get?_update_other _ _ (Ne.symm hb)).trans q) ⟨_,e⟩ ?_;exact⟨hz,its',n',r,e⟩
def Uq:V→V→V→Hp→(Hp→Prop)→Prop:=fun o i v H Q=>∃p xs k j,o=.ref p∧i=.int k∧H p=some (.lst xs)∧Jn xs.length k=some j∧Q (upd H p (.lst (xs.set j v)))
def set_list:Y0 X Uq:=by
 intro pins s σ H o i v ov iv u Q I ro ri rv h;obtain⟨p,xs,k,j,rfl,rfl,hp,hj,q⟩:=h;cases ro;obtain⟨t,rfl⟩:=ri;obtain⟨its,n,r,ho,hz⟩:=I.lst hp;obtain⟨h1,h2,h3,h4⟩:=Pe hj;have hl:=r.length;have hn:=JP;have I':Inv X pins σ (upd H p (.lst (xs.set j v))) {s with heap:=s.heap.update p (Obj.mapSeq (·.setIfInBounds j u))} :=
  I.Y6 hp ho (Q7 its n j u) (r.set rv j) (by rw[List.length_set];exact hz) s.toks
 by_cases h0:0≤k
 ·have hk:k.toNat=j:=by
   rw[seqIndex_of h0 h4]at h1;exact aV h1
  exact PySem.W.ki_setAt ho h0 (by omega) (by rw[List.size_toArray,←hl];exact h4) (by rw[hk];exact⟨_,I',q⟩)
 ·have hk:(k+(its.toArray.size:Int)).toNat=j:=by
   rw[seqIndex_neg (by omega) h3]at h1;rw[List.size_toArray,←hl];exact aV h1
  exact PySem.W.ki_setBack ho (by omega) (by rw[List.size_toArray,←hl];exact h3) (by omega) (by rw[hk];exact⟨_,I',q⟩)
def Nm(lo hi:Option Int)(n:Nat):(sliceBounds lo hi none n).1=((HT.A8 n 0 lo:Nat):Int)∧(sliceBounds lo hi none n).2.1=((HT.A8 n n hi:Nat):Int)∧(sliceBounds lo hi none n).2.2=1:=by
 refine⟨?_,?_,rfl⟩
 ·cases lo with
  |none=>simp[sliceBounds,HT.A8]
  |some i =>
   simp only[sliceBounds,HT.A8,Option.getD_none,show(1:Int) > 0 by decide,if_true];by_cases h:i<0
   ·simp only[h,if_true]<;>omega
   ·simp only[h,if_false]<;>omega
 ·cases hi with
  |none=>simp[sliceBounds,HT.A8]
  |some i =>
   simp only[sliceBounds,HT.A8,Option.getD_none,show(1:Int) > 0 by decide,if_true];by_cases h:i<0
   ·simp only[h,if_true]<;>omega
   ·simp only[h,if_false]<;>omega
def Mn(its:List VL)(lo hi:Option Int):slicePick its.toArray lo hi none=((its.drop (HT.A8 its.length 0 lo)).take (HT.A8 its.length its.length hi-HT.A8 its.length 0 lo)).toArray:=by
 obtain⟨h1,h2,h3⟩:=Nm lo hi its.toArray.size;unfold slicePick;rw[h1,h2,h3];simp only[sliceRange_one,pick_run,List.size_toArray]<;>rfl
def bT(K:Fg):V→Option Int→Option Int→Hp→VK→Prop:=fun x lo hi H Q=>∃a xs,x=.ref a∧A2 K H a xs∧∀p,H p=none→Q (.ref p) (upd H p (.lst (Jg xs lo hi)))
def VT:M5 X (bT X.K):=by
 intro pins s σ H x v vl vu lo hi sl Q I rx hs pl pu h;obtain⟨a,xs,rfl,hx,q⟩:=h;cases rx;obtain⟨its,r,ht,hz⟩:=I.list hx;have hlen:=r.length;refine⟨"list",_,slot_list_getitem.lookup,ht.isList.typeIs,?_⟩;refine wpAny_getItem_list_slice ht.isList hs pl pu .none (by simp) ?_ (by rw[List.size_toArray]<;>omega);rw[Mn,←hlen];refine⟨.ref s.heap.objs.size,_,I.laid (t':=s.toks) (o:=.lst (Jg xs lo hi)) (fun b ob q=>aF _ q) (aH _) ?_,rfl,q _ (I.Ag.fresh (aH _))⟩;exact⟨aZ (Kd xs lo hi) hz,_,0,(r.drop (HT.A8 xs.length 0 lo)).take (HT.A8 xs.length xs.length hi-HT.A8 xs.length 0 lo),Heap.get?_push_size _ rfl⟩
def Fx:V→Bool
 |.Ao=>true
 |.bl _=>true
 |.int _=>true
 |.str _=>true
 |_=>false
def ML:V→V→Bool
 |.Ao,.Ao=>true
 |.bl a,.bl b=>a==b
 |.bl a,.int b=>(if a then 1 else 0)==b
 |.int a,.bl b=>a==(if b then 1 else 0)
 |.int a,.int b=>a==b
 |.str a,.str b=>a==b
 |_,_=>false
def ZI{A:Around}{s:SD}{y x:V}{u v:VL}(ry:RelV y u)(rx:RelV x v)(fy:Fx y=true)(fx:Fx x=true):SeqAt.EqAt A s u v (ML y x):=by
 cases y with
 |Ao =>
  cases ry;cases x with
  |Ao=>cases rx;exact SeqAt.EqAt.same _
  |bl b=>cases rx;exact SeqAt.EqAt.none_bool b
  |int b=>obtain⟨t,rfl⟩:=rx;exact SeqAt.EqAt.none_int b t
  |str b=>obtain⟨t,rfl⟩:=rx;exact SeqAt.EqAt.none_str b t
  |_=>exact absurd (show false=true from fx) aJ
 |bl a =>
  cases ry;cases x with
  |Ao=>cases rx;exact SeqAt.EqAt.bool_none a
  |bl b=>cases rx;exact SeqAt.EqAt.bool_bool a b
  |int b=>obtain⟨t,rfl⟩:=rx;exact SeqAt.EqAt.bool_int a b t
  |str b=>obtain⟨t,rfl⟩:=rx;exact SeqAt.EqAt.bool_str a b t
  |_=>exact absurd (show false=true from fx) aJ
 |int a =>
  obtain⟨t',rfl⟩:=ry;cases x with
  |Ao=>cases rx;exact SeqAt.EqAt.int_none a t'
  |bl b=>cases rx;exact SeqAt.EqAt.int_bool a t' b
  |int b=>obtain⟨t,rfl⟩:=rx;exact SeqAt.EqAt.int_int a t' b t
  |str b=>obtain⟨t,rfl⟩:=rx;exact SeqAt.EqAt.int_str a t' b t
  |_=>exact absurd (show false=true from fx) aJ
 |str a =>
  obtain⟨t',rfl⟩:=ry;cases x with
  |Ao=>cases rx;exact SeqAt.EqAt.str_none a t'
  |bl b=>cases rx;exact SeqAt.EqAt.str_bool a t' b
  |int b=>obtain⟨t,rfl⟩:=rx;exact SeqAt.EqAt.str_int a t' b t
  |str b=>obtain⟨t,rfl⟩:=rx;exact SeqAt.EqAt.str_str a t' b t
  |_=>exact absurd (show false=true from fx) aJ
 |_=>exact absurd (show false=true from fy) aJ
def LH(x:V)(u:VL):Bool:=match u with
 |.none=>ML .Ao x
 |.bool b=>ML (.bl b) x
 |.int i _=>ML (.int i) x
 |.str z _=>ML (.str z) x
 |_=>false
def SA{x y:V}{u:VL}(r:RelV y u)(f:Fx y=true):LH x u=ML y x:=by
 cases y with
 |Ao=>cases r;rfl
 |bl b=>cases r;rfl
 |int i=>obtain⟨t,rfl⟩:=r;rfl
 |str z=>obtain⟨t,rfl⟩:=r;rfl
 |_=>exact absurd (show false=true from f) aJ
def Lm{x:V}:∀ {xs:List V} {us:List VL},Vals xs us→xs.all Fx=true→us.any (LH x)=xs.any fun y=>ML y x
 |_,_,.nil,_=>rfl
 |y::xs,u::us,.cons r t,f=>by
  rw[List.all_cons,Bool.and_eq_true]at f;rw[List.any_cons,List.any_cons,SA r f.1,Lm t f.2]
def Kr{A:Around}{s:SD}{x:V}{v:VL}(rx:RelV x v)(fx:Fx x=true):∀ {xs:List V} {us:List VL},Vals xs us→xs.all Fx=true→∀u∈us,SeqAt.EqAt A s u v (LH x u)
 |_,_,.nil,_=>fun u hu=>by cases hu
 |y::xs,u::us,.cons r t,f=>fun u' hu=>by
  rw[List.all_cons,Bool.and_eq_true]at f;rcases aN.mp hu with rfl|hu
  ·rw[SA r f.1];exact ZI r rx f.1 fx
  ·exact Kr rx fx t f.2 u' hu
def Uv(x:V)(xs:List V):Bool:=xs.any fun y=>ML y x
def bM(K:Fg)(neg:Bool):R2:=fun x y H Q=>∃p xs,y=.ref p∧(A2 K H p xs∨BF K H p xs)∧Fx x=true∧xs.all Fx=true∧Q (.bl (if neg then !Uv x xs else Uv x xs)) H
def OQ:Bz X (compareOp .NotIn) (bM X.K true):=by
 intro pins s σ H x y v u Q I rx ry h;obtain⟨p,xs,rfl,hq,fx,fs,q⟩:=h;cases ry;rcases hq with hq|hq
 ·obtain⟨its,r,pl,hz⟩:=I.list hq;refine SeqAt.notIn_listAt (LH x) pl.isList (fun w hw=>Kr rx fx r fs w (by simpa using hw)) ⟨.bl _,H,I,rfl,?_⟩;rw[show its.toArray.any (LH x)=its.any (LH x) by simp,Lm r fs];exact q
 ·obtain⟨its,r,pl,hz⟩:=I.tuple hq;refine SeqAt.notIn_tupleAt (LH x) pl (fun w hw=>Kr rx fx r fs w (by simpa using hw)) ⟨.bl _,H,I,rfl,?_⟩;rw[show its.toArray.any (LH x)=its.any (LH x) by simp,Lm r fs];exact q
def Jd:CN X (.builtin "len") (fun xs H Q=>∃p ys,xs=[.ref p]∧(A2 X.K H p ys∨BF X.K H p ys)∧Q (.int ys.length) H):=by
 intro pins s σ H xs us Q I r h;obtain⟨p,ys,rfl,hq,q⟩:=h;obtain⟨u,rfl,rx⟩:=vals1 r;cases rx;have hn:=JP;rcases hq with hq|hq
 ·obtain⟨its,r',pl,hz⟩:=I.list hq;have hlen:=r'.length;exact Calls.call_len_list pl.isList (by simp only[List.size_toArray]<;>omega) ⟨.int ys.length,H,I.tok _,⟨s.toks+1,by rw[List.size_toArray,hlen]⟩,q⟩
 ·obtain⟨its,r',pl,hz⟩:=I.tuple hq;have hlen:=r'.length;exact len_tuple pl (by simp only[List.size_toArray]<;>omega) ⟨.int ys.length,H,I.tok _,⟨s.toks+1,by rw[List.size_toArray,hlen]⟩,q⟩
def CN.or{f:VL}{r r':List V→Hp→VK→Prop}(h:CN X f r)(h':CN X f r'):CN X f (fun xs H Q=>r xs H Q∨r' xs H Q):=by
 intro pins s σ H xs us Q I rs q;rcases q with q|q
 ·exact h pins s σ H xs us Q I rs q
 ·exact h' pins s σ H xs us Q I rs q
def OL:CN X (.type "list") (fun xs H Q=>∃p ys,xs=[.ref p]∧(A2 X.K H p ys∨BF X.K H p ys)∧∀l,H l=none→Q (.ref l) (upd H l (.lst ys))):=by
 intro pins s σ H xs us Q I r h;obtain⟨p,ys,rfl,hq,q⟩:=h;obtain⟨u,rfl,rx⟩:=vals1 r;cases rx;have fin:∀(its:List VL),Vals ys its→ys.length≤sizeLine→∀(h':Heap) (c':Nat),(∀b o',s.heap.get? b=some o'→h'.get? b=some o') →
   h'.get? s.heap.objs.size=some { cls:=.type "list",dict:=none,data:=.seq its.toArray c',slots:=#[]}→EP X pins σ Q (.ref s.heap.objs.size) {s with heap:=h'}:=fun its r' hz h' c' kp e =>
  ⟨.ref s.heap.objs.size,_,I.laid (t':=s.toks) kp (aH _) (show Bq X.prog X.w _ h' _ (.lst ys) from⟨hz,its,c',r',e⟩),rfl,q _ (I.Ag.fresh (aH _))⟩
 rcases hq with hq|hq
 ·obtain⟨its,r',pl,hz⟩:=I.list hq;have hlen:=r'.length;obtain⟨o,ho,hc,n,hd⟩:=pl.isList;exact call_list_seq p (.inl rfl) ho hc hd (fun h' c' kp e=>fin its r' hz h' c' kp e) (by simp only[List.size_toArray]<;>omega)
 ·obtain⟨its,r',pl,hz⟩:=I.tuple hq;have hlen:=r'.length;obtain⟨o,ho,hc,n,hd⟩:=pl;exact call_list_seq p (.inr rfl) ho hc hd (fun h' c' kp e=>fin its r' hz h' c' kp e) (by simp only[List.size_toArray]<;>omega)
def Mo:CN X (.type "tuple") (fun xs H Q=>∃p ys,xs=[.ref p]∧((A2 X.K H p ys∧∀l,H l=none→Q (.ref l) (upd H l (.tup ys)))∨(BF X.K H p ys∧Q (.ref p) H))):=by
 intro pins s σ H xs us Q I r h;obtain⟨p,ys,rfl,h⟩:=h;obtain⟨u,rfl,rx⟩:=vals1 r;cases rx;rcases h with ⟨hq,q⟩|⟨hq,q⟩
 ·obtain⟨its,r',pl,hz⟩:=I.list hq;have hlen:=r'.length;refine call_tuple_list pl.isList (fun h' kp=>?_) (by simp only[List.size_toArray]<;>omega);have I1:Inv X pins σ H {s with heap:=h'}:=I.kept (t':=s.toks) kp;have I2:Inv X pins σ (upd H h'.objs.size (.tup ys)) {s with heap:=h'.push { cls:=.type "tuple",data:=.seq its.toArray} } :=
   I1.laid (t':=s.toks) (fun b o e=>aF _ e) (aH _) (show Bq X.prog X.w _ _ _ (.tup ys) from⟨hz,its,r',IsTup.new _ _⟩)
  exact⟨.ref h'.objs.size,_,I2,rfl,q _ (I1.Ag.fresh (aH _))⟩
 ·obtain⟨its,r',pl,hz⟩:=I.tuple hq;exact call_tuple_same pl ⟨.ref p,H,I,rfl,q⟩
def a9(K:Fg)(T:String)(x:V)(H:Hp):Prop:=match x with
 |.str _=>T = "str"
 |.int _=>T = "int"
 |.ref p=>(T = "list" ∧ ∃xs,A2 K H p xs)∨(T = "tuple" ∧ ∃o,K.lookup p=some o∧o.cls=.type "tuple" ∧ o.dict=none) ∨
   (T = "dict" ∧((∃kvs,H p=some (.dK kvs))∨∃kvs,H p=some (.dT kvs)))∨(T = "set" ∧ ∃S n,H p=some (.set S n))
 |_=>False
def Yc{pins:List (AD×Obj)}{σ:St}{H:Hp}{s:SD}{T:String}{x:V}{v:VL}(I:Inv X pins σ H s)(r:RelV x v)(ty:a9 X.K T x H) :
  s.TypeIs v T∧∀a,v=.ref a→∃ob,s.heap.get? a=some ob∧ob.dict=none:=by
 cases x with
 |str z =>
  obtain⟨t,rfl⟩:=r;cases (show T = "str" from ty);exact⟨typeIs_str s z t,fun _ e=>nomatch e⟩
 |int i =>
  obtain⟨t,rfl⟩:=r;cases (show T = "int" from ty);exact⟨typeIs_int s i t,fun _ e=>nomatch e⟩
 |ref p =>
  cases r;rcases ty with ⟨rfl,xs,hq⟩|⟨rfl,o,hk,hc,hd⟩|⟨rfl,hk⟩|⟨rfl,S,n,hk⟩
  ·obtain⟨its,_,pl,_⟩:=I.list hq;refine⟨pl.isList.typeIs,fun a e=>?_⟩;cases e;obtain⟨o,n,e,c,hd,_⟩:=pl;exact⟨o,e,hd⟩
  ·refine⟨⟨o,I.FR p o hk,hc⟩,fun a e=>?_⟩;cases e;exact⟨o,I.FR _ o hk,hd⟩
  ·have z:∃o,s.heap.get? p=some o∧o.ExactDict:=by
    rcases hk with ⟨kvs,hk⟩|⟨kvs,hk⟩
    ·obtain⟨_,_,_,_,o,_,_,e,ex,_⟩:=I.Ag p _ hk;exact⟨o,e,ex⟩
    ·obtain⟨_,_,_,_,o,_,_,e,ex,_⟩:=I.Ag p _ hk;exact⟨o,e,ex⟩
   obtain⟨o,e,ex⟩:=z;refine⟨⟨o,e,ex.1⟩,fun a e2=>?_⟩;cases e2;exact⟨o,e,ex.2.1⟩
  ·obtain⟨o,_,_,_,e,ex,_⟩:=I.Ag p _ hk;refine⟨⟨o,e,ex.1⟩,fun a e2=>?_⟩;cases e2;exact⟨o,e,ex.2.1⟩
 |_=>exact False.elim ty
def XA(K:Fg)(T:String)(r:V→List V→Hp→VK→Prop)(to:TE)(t:TA):TE:=fun σ H Q=>to σ H fun x H1=>a9 K T x H1∧t σ H1 fun xs H2=>r x xs H2 Q
variable{o e:Expr}{es:List Expr}{to:TE}{t:TA}{name:Str}{apos cpos:Pos}{T id:String}{r:V→List V→Hp→VK→Prop}
def My(pa:PlainAttrs T)(slot:Slot T name id)(hty:typeOf (.builtin id)=pure (.type "method_descriptor"))(hm:bI X id r)(ho:PE X o to)(ha:PA X (e::es) t)
 (hbase:attributeBase o name X.env (eval o X.env)=eval o X.env:=by rfl)
 (hfew:((backTo cpos (starEach (e::es) X.env)).all (fun x=>!x.1)&&(backToKw cpos (keywordEach [] X.env)).all (fun x=>x.1.isSome)
   && decide ((e::es).length+([]:List Keyword).length+(if([]:List Keyword).isEmpty then 0 else 1)<30))=true:=by rfl)
 (hline:(apos.endLine==cpos.line)=true:=by rfl)(hs:starEach (e::es) X.env=(false,eval e X.env)::starEach es X.env:=by rfl)(hplain:(backTo cpos (starEach es X.env)).any (·.1)=false:=by rfl) :
  PE X (.Call (.Attribute o name apos) (e::es) [] cpos) (XA X.K T r to t):=by
 intro pins s σ H Q I h;refine wpAny_Call_method_late hbase hfew hline rfl (Au (ho pins s σ H _ I h) fun v s1 ⟨x,H1,I1,r1,ty,q1⟩=>?_);obtain⟨h1,h2⟩:=Yc I1 r1 ty;refine⟨T,id,pa,slot,hty,h1,h2,?_⟩;have hA:=ha cpos pins s1 σ H1 _ I1 q1;rw[hs]at hA ⊢;refine Calls.callWith_builtin (by show(false||(backTo cpos (starEach es X.env)).any (·.1))=false;rw[hplain]<;>rfl) (Calls.evalArgs_plain ?_);exact Au hA fun us s2 ⟨vs,H2,I2,r2,q2⟩=>hm pins s2 σ H2 x vs v us Q I2 r1 r2 q2
end
def bN(X:Cx)(id:String)(r:V→List V→Hp→VK→Prop):Prop :=
 ∀(pins:List (AD×Obj)) (s:SD) (σ:St) (H:Hp) (x:V) (xs:List V) (v:VL) (us:List VL) (Q:VK),Inv X pins σ H s→RelV x v→Vals xs us→r x xs H Q →
  wpAny (model X.prog X.w) X.A (call (.builtin id) (v::us)) (EP X pins σ Q) X.xe s
def Vals.one:∀ {x:V} {us:List VL},Vals [x] us→∃u,us=[u]∧RelV x u
 |_,_,.cons r .nil=>⟨_,rfl,r⟩
def Vals.two:∀ {x y:V} {us:List VL},Vals [x,y] us→∃u v,us=[u,v]∧RelV x u∧RelV y v
 |_,_,_,.cons r (.cons q .nil)=>⟨_,_,rfl,r,q⟩
def Vals.reverse{xs:List V}{us:List VL}(h:Vals xs us):Vals xs.reverse us.reverse:=by
 induction h with
 |nil=>exact .nil
 |cons r t ih=>rw[List.reverse_cons,List.reverse_cons];exact Vals.append ih (.cons r .nil)
def Vals.rep{xs:List V}{us:List VL}(h:Vals xs us):∀k:Nat,Vals (List.replicate k xs).flatten (List.replicate k us).flatten
 |0=>.nil
 |k+1=>by
  rw[List.replicate_succ,List.replicate_succ,List.flatten_cons,List.flatten_cons];exact Vals.append h (Vals.rep h k)
def foldl_rep(its:List VL):∀(k:Nat) (acc:List VL),
  List.foldl (fun x1 x2=>x1++x2) acc.toArray (List.replicate k its.toArray)=(acc++(List.replicate k its).flatten).toArray
 |0,acc=>by simp
 |k+1,acc=>by
  have e:acc.toArray++its.toArray=(acc++its).toArray:=by simp
  have e2:(acc++its)++(List.replicate k its).flatten=acc++(List.replicate (k+1) its).flatten:=by
   rw[List.replicate_succ,List.flatten_cons,List.append_assoc]
  rw[←e2,←foldl_rep its k (acc++its),←e,List.replicate_succ,List.foldl_cons]
section
variable{X:Cx}{pins:List (AD×Obj)}{σ:St}{H:Hp}{s:SD}{l b:AD}{xs ys zs:List V}
def Inv.Wq{its its':List VL}{n:Nat}{f:Array VL→Array VL}{t':Nat}(I:Inv X pins σ H s)(hH:H l=some (.lst xs))
 (e:s.heap.get? l=some { cls:=.type "list",data:=.seq its.toArray n})(hf:f its.toArray=its'.toArray)(hv:Vals ys its')(hz:ys.length≤sizeLine) :
  Inv X pins σ (upd H l (.lst ys)) {s with heap:=s.heap.update l (Obj.mapSeq f),toks:=t'}:=by
 have q:=PySem.IsL.update e f;rw[hf]at q;refine I.write (x:=l) (e:=l) (by rw[hH];exact trivial) (.inl rfl) (fun b' u hb hu=>(Heap.get?_update_other s.heap (Obj.mapSeq f) (Ne.symm hb)).trans hu) ⟨_,q⟩ ?_;exact⟨hz,its',_,hv,q⟩
def Inv.Xx{its:List VL}{t':Nat}(I:Inv X pins σ H s)(hv:Vals ys its)(hz:ys.length≤sizeLine) :
  Inv X pins σ (upd H s.heap.objs.size (.lst ys)) {s with heap:=s.heap.push { cls:=.type "list",data:=.seq its.toArray},toks:=t'} :=
 I.laid (fun _ _ q=>aF _ q) (aH _) ⟨hz,its,0,hv,Heap.get?_push_size _ rfl⟩
def Inv.fresh(I:Inv X pins σ H s):H s.heap.objs.size=none:=I.Ag.fresh (aH _)
def Inv.Lx(I:Inv X pins σ H s)(hH:H l=some (.lst xs)):xs.length≤sizeLine∧∃(its:List VL) (n:Nat),Vals xs its∧xs.length=its.length∧s.heap.get? l=some { cls:=.type "list",data:=.seq its.toArray n}:=by
 obtain⟨z,its,n,r,e⟩:=I.Ag l _ hH;exact⟨z,its,n,r,r.length,e⟩
def N7{n:Nat}(h:n≤sizeLine):Builtin.List.listTooLong n=false:=by
 unfold Builtin.List.listTooLong;exact ax (by omega)
end
section
variable{X:Cx}
def PL:V→List V→Hp→VK→Prop:=fun x vs H Q=>∃l xs y,x=.ref l∧vs=[y]∧H l=some (.lst xs)∧xs.length<sizeLine∧Q .Ao (upd H l (.lst (xs++[y])))
def Mf:bN X "list.append" PL:=by
 intro pins s σ H x vs v us Q I rx rv h;obtain⟨l,xs,y,rfl,rfl,hH,hz,q⟩:=h;cases rx;obtain⟨u,rfl,ru⟩:=rv.one;obtain⟨z,its,n,r,hl,e⟩:=I.Lx hH;refine call_meets F.slot_list_append ⟨_,e,rfl⟩ F.entry_list_append (F.args_list_append_2 _ _) (PySem.list_append l its.toArray n u (by rw[List.size_toArray];omega)) ⟨e,?_⟩;refine⟨.Ao,_,I.Wq (its':=its++[u]) hH e (by simp) (r.append (.cons ru .nil)) ?_,rfl,q⟩;rw[List.length_append,List.length_singleton];omega
def PX:V→List V→Hp→VK→Prop:=fun x vs H Q=>∃l b xs zs,x=.ref l∧vs=[.ref b]∧H l=some (.lst xs)∧H b=some (.lst zs)∧xs.length+zs.length≤sizeLine∧Q .Ao (upd H l (.lst (xs++zs)))
def Me:bN X "list.extend" PX:=by
 intro pins s σ H x vs v us Q I rx rv h;obtain⟨l,b,xs,zs,rfl,rfl,hH,hB,hz,q⟩:=h;cases rx;obtain⟨u,rfl,ru⟩:=rv.one;cases ru;obtain⟨z,its,n,r,hl,e⟩:=I.Lx hH;obtain⟨z2,its2,n2,r2,hl2,e2⟩:=I.Lx hB;have hsz:its.toArray.size+its2.toArray.size≤sizeLine:=by rw[List.size_toArray,List.size_toArray];omega
 have hlong:¬(!its.toArray.isEmpty&&Builtin.List.listTooLong (its.toArray.size+its2.toArray.size))=true:=by
  rw[N7 hsz,Bool.and_false];exact aJ
 refine call_meets F.slot_list_extend ⟨_,e,rfl⟩ F.entry_list_extend (F.args_list_extend_2 _ _)
  (AutoSeq1.list_extend_list_list_0 l its.toArray n b its2.toArray n2 hlong (by rw[List.size_toArray];omega) (by omega)) ⟨e,e2,?_⟩
 refine⟨.Ao,_,I.Wq (its':=its++its2) hH e (by simp) (r.append r2) ?_,rfl,q⟩;rw[List.length_append];omega
def cT:R2:=fun x y H Q=>∃l b xs zs,x=.ref l∧y=.ref b∧H l=some (.lst xs)∧H b=some (.lst zs)∧xs.length+zs.length≤sizeLine∧∀p,H p=none→Q (.ref p) (upd H p (.lst (xs++zs)))
def Wl:Bz X (binaryOp .Add) cT:=by
 intro pins s σ H x y v u Q I rx ry h;obtain⟨l,b,xs,zs,rfl,rfl,hH,hB,hz,q⟩:=h;cases rx;cases ry;obtain⟨z,its,n,r,hl,e⟩:=I.Lx hH;obtain⟨z2,its2,n2,r2,hl2,e2⟩:=I.Lx hB;refine PySem.P.add_list e e2 ?_ (by rw[List.size_toArray,List.size_toArray];omega);have ea:its.toArray++its2.toArray=(its++its2).toArray:=by simp
 rw[ea];exact⟨.ref _,_,I.Xx (t':=s.toks) (r.append r2) (by rw[List.length_append];omega),rfl,q _ I.fresh⟩
def cD:R2:=fun x y H Q=>∃l k xs,x=.ref l∧y=.int k∧H l=some (.lst xs)∧-(2^63)≤k∧k<2^63∧xs.length*k.toNat≤sizeLine ∧
 ∀p,H p=none→Q (.ref p) (upd H p (.lst (List.replicate k.toNat xs).flatten))
def len_rep{α:Type}(xs:List α)(k:Nat):(List.replicate k xs).flatten.length=k*xs.length:=by
 induction k with
 |zero=>simp
 |succ k ih=>rw[List.replicate_succ,List.flatten_cons,List.length_append,ih,Nat.succ_mul,Nat.add_comm]
def Ym:Bz X (binaryOp .Mult) cD:=by
 intro pins s σ H x y v u Q I rx ry h;obtain⟨l,k,xs,rfl,rfl,hH,h1,h2,hz,q⟩:=h;cases rx;obtain⟨t,rfl⟩:=ry;obtain⟨z,its,n,r,hl,e⟩:=I.Lx hH;have hlen:its.toArray.size*k.toNat≤sizeLine:=by rw[List.size_toArray,←hl];exact hz
 have hcap:¬its.toArray.size*k.toNat > (2^63-1) / 8:=by
  have:(sizeLine:Nat)≤(2^63-1) / 8:=by decide
  omega
 have hfit:¬(!Builtin.List.listFitsIndex k)=true:=by
  rw[fitsIndex_both h1 h2];exact aJ
 have hlong:¬Builtin.List.listTooLong (its.toArray.size*k.toNat)=true:=by
  rw[N7 hlen];exact aJ
 have hnew:List.foldl (fun x1 x2=>x1++x2) #[] (List.replicate (if its.toArray.isEmpty=true then 0 else k.toNat) its.toArray)=(List.replicate k.toNat its).flatten.toArray:=by
  have f0:∀m:Nat,List.foldl (fun x1 x2=>x1++x2) #[] (List.replicate m its.toArray)=(List.replicate m its).flatten.toArray:=fun m=>by
   have:=foldl_rep its m [];rw[List.nil_append]at this;exact this
  rw[f0];cases its with
  |nil=>simp
  |cons a r'=>rw[if_neg (by simp)]
 refine wpAny_binaryOp_repeat_ref (T := "list") (U := "int") (by decide) ⟨_,e,rfl⟩ (fun s'=>typeIs_int s' k t) noFill_list_mul F.fills_int_mul F.slot_int_rmul repeat_list F.slot_int_index.lookup
  (call_meets F.slot_int_rmul (typeIs_int s k t) F.entry_int_rmul (F.args_int_rmul_2 _ _) (int___rmul___int_list k t l its.toArray n)
   ⟨e,rfl,⟨_,e,rfl⟩,call_meets F.slot_list_mul ⟨_,e,rfl⟩ F.entry_list_mul (F.args_list_mul_2 _ _) (AutoListH.list___mul___list_int_3 l its.toArray n k t hfit hcap hlong) ⟨e,?_⟩⟩)
 rw[hnew];exact⟨.ref _,_,I.Xx (t':=s.toks) (r.rep k.toNat) (by rw[len_rep,Nat.mul_comm];exact hz),rfl,q _ I.fresh⟩
end
end L2
namespace Att
open PySem PySem.W PySem.Calls PyProof.Rows
def K9{P:Params}{h:Heap}:∀(ns:List Int) (vs:List VL),WellAll P h vs (ns.map WData.int)→IntsAre vs ns:=by
 intro ns
 induction ns with
 |nil =>
  intro vs w;rw[List.map_nil]at w;cases w;exact .nil
 |cons n ns ih =>
  intro vs w;rw[List.map_cons]at w;cases w with
  |cons a b =>
   cases a;exact .cons _ _ (ih _ b)
def SH{l:OpenLaw}{n:Nat}(hn:l.most=some n){P:Params}{h:Heap}{args:List WData}{vals:List VL}
 (hpre:l.row.toRowW.claim.pre args=true)(hwl:WellAll P h vals args) :
  ∃a vs ns,vals=[Value.ref a]∧args=[WData.list (ns.map WData.int)]∧h.get? a=some { cls:=.type "list",data:=.seq vs.toArray}∧IntsAre vs ns∧ns.length≤n:=by
 have hsh:WShape.hasAll [] args [.list .int]=true:=(pre_splitW hpre).1;have hc:l.pre.holds [] { args:=args}=true:=(pre_splitW hpre).2;obtain⟨d,r,rfl,h1,h2⟩:=hasAllW_cons hsh;obtain rfl:=hasAllW_nil h2;obtain⟨xs,rfl,h3⟩:=hasW_list h1;obtain⟨ns,rfl⟩:=items_int h3;have hlen:ns.length≤n:=by
  unfold OpenLaw.pre at hc;have h4:(WTm.not (.lt (.lit (.int (n:Int))) (.len (.arg 0)))).holds [] { args:=[.list (ns.map .int)]}=true:=by
   have h4:=(holds_andW hc).1;rw[hn]at h4;exact h4
  have h5:=condW_of h4 (w_not (w_lt w_lit (w_len_list (w_arg rfl))));rw[List.length_map]at h5;refine Nat.le_of_not_lt fun q=>?_;have q':(n:Int)<((ns.length:Nat):Int):=by omega
  first
   |(rw[decide_eq_true q']at h5;exact absurd h5 (by decide))
   |(simp at h5;omega)
 cases hwl with
 |cons w1 w2 =>
  cases w2;cases w1 with
  |list ho hall=>exact⟨_,_,ns,rfl,rfl,ho,K9 ns _ hall,hlen⟩
def R5(l:OpenLaw)(args:List WData):l.row.toRowW.claim.post args (.bool true) args=true :=
 postW_of (r:=l.row.toRowW) (X:=(true==true))
  (show WShape.has [] (.bool true) .bool=true by first|rfl|decide|simp[WShape.has,WShape.arms,WShape.armsAll])
  (show(WTm.eq .res (.lit (.bool true))).value [] { args:=args,res:=some (.bool true),after:=args}=some (.bool (true==true)) from w_eq_bool (w_res rfl) w_lit) rfl
def Oy{l:OpenLaw}{n:Nat}{q:Program}{loose:List Str}{XP:(Str→Option VL)→Heap→Prop}{YP:World→Heap→Prop}{d:DefRec}
 (hn:l.most=some n)(hdf:d.params.defaults=[])
 (call:∀(w:World) (s₀ s₁:SD) (mg mb:Str→Option VL) (fa:AD) (o:Obj) (pm cd doc:VL) (a:AD) (vs:List VL) (ns:List Int),
   Ground q loose [] XP w s₀ mg mb s₁.heap→YP w s₁.heap →
   s₁.heap.get? fa=some o→o.data=.func (docDef d.name d.params d.body d.scope pm cd doc)→s₁.heap.CodeRec cd d.name→mg d.name=some (.ref fa) →
   s₁.heap.get? a=some { cls:=.type "list",data:=.seq vs.toArray}→IntsAre vs ns→ns.length≤n→s₁.gens=#[] →
   codeAny (model l.prog w) callerA (.call (.ref fa) ⟨[.ref a],[]⟩) (fun r s'=>r=.ok (.ret (.bool true))∧OldK s₁.heap s'.heap∧s'.os=s₁.os∧AllBare s'.gens) s₁) :
  WalkO q loose XP YP l.row.toRowW d [] (fun f vs=>PySem.call f vs):=by
 intro w s₀ s₁ mg mb G Y fa o pm cd doc dV kV ho hd hcd hD hmg hg args vals as hpre hlay hrd hwl hlo;obtain rfl:dV=.none:=Dflts.none hD hdf;obtain rfl:kV=.none:=Dflts.noKw hD;obtain⟨a,vs,ns,rfl,rfl,hobj,hints,hlen⟩:=SH hn hpre hwl;refine enter_call (codeAny_mono (call w s₀ s₁ mg mb fa o pm cd doc a vs ns G Y ho (fd_plain hd) hcd hmg hobj hints hlen hg) fun r s' hq=>?_);obtain⟨rfl,h2,h3,h4⟩:=hq;exact⟨.inl ⟨.bool true,.bool true,[],rfl,fun _=>rfl,.bool true,R5 l _,fun _=>⟨List.Pairwise.nil,fun _ hm=>(nomatch hm)⟩⟩,h2,h3,h4⟩
end Att
namespace L2
open PySem PySem.Spec PyProof.Rows
def MM:∀ {vs:List VL} {ns:List Int},IntsAre vs ns→Vals (ns.map V.int) vs
 |_,_,.nil=>.nil
 |_,_,.cons n t h=>.cons ⟨t,rfl⟩ (MM h)
def TR(H:Hp):Prop:=∀b,H b=none∨∃o xs,H b=some (.DP o (.lst xs))
def TU{P:Program}{w:World}{K:Fg}{mg mb:Str→Option VL}{CX:FX}{k:Nat}{fa a:AD}{fd:FuncData}{x:Str}{sp:Sp}{s₁:SD}{vs:List VL}{ns:List Int}
 (KX:K.In s₁.heap)(hns:s₁.heap.Ns mainGlobals mg)(hb:s₁.heap.Ns builtinsNs mb)(hbb:∀x:Str,x ≠ "__name__" → mb x=bootBuiltins x)(hlim:s₁.heap.NoLimit)(hg:s₁.gens=#[])
 (ha:s₁.heap.get? a=some { cls:=.type "list",data:=.seq vs.toArray})(hi:IntsAre vs ns)(hl:ns.length≤sizeLine)(hr:B5 k callerA)
 (F:∀base:Heap,K.In base→base.Ns mainGlobals mg→AM P w K mg base CX k fa fd [x] sp)(hbind:∀(s:SD) (u:VL),BindsTo s fd ⟨[u],[]⟩ [(x,u)])
 (hsp:∀H:Hp,TR H→A2 K H a (ns.map V.int)→sp [.ref a] H (fun v _=>v=.bl true) fun _ _ _=>False)
 (hCX:∀H e s',CX [] H s₁ (fun _ _ _=>False) e s'→False) :
  codeAny (model P w) callerA (.call (.ref fa) ⟨[.ref a],[]⟩) (fun r s'=>r=.ok (.ret (.bool true))∧OldK s₁.heap s'.heap∧s'.os=s₁.os∧AllBare s'.gens) s₁:=by
 have rv:=MM hi;have lenV:=hi.length;have core:∀H:Hp,TR H→A2 K H a (ns.map V.int)→Cp P w H s₁.heap→(∀b,H b≠none→b=a)→(H a≠none→K.lookup a=none) →
   codeAny (model P w) callerA (.call (.ref fa) ⟨[.ref a],[]⟩) (fun r s'=>r=.ok (.ret (.bool true))∧OldK s₁.heap s'.heap∧s'.os=s₁.os∧AllBare s'.gens) s₁:=by
  intro H hO hS Ag hA hK;have base_of:∀ {b:AD} {o:Obj},s₁.heap.get? b=some o→H b=none→(Ig s₁.heap H).get? b=some o:=fun e n=>UE e n;have noA:∀ {b:AD} {o:Obj} {es:Array DictEntry} {ep:Nat},s₁.heap.get? b=some o→o.data=.dict es ep→H b=none:=fun {b o es ep} e d=>by
   cases q:H b with
   |none=>rfl
   |some u =>
    have e':b=a:=hA b (by rw[q];simp);subst e';rw[ha]at e;cases e;have d':Data.seq vs.toArray _=Data.dict es ep:=d;cases d'
  have nsK:∀ {b:AD} {m:Str→Option VL},s₁.heap.Ns b m→(Ig s₁.heap H).Ns b m:=fun {b m} ⟨o,es,ep,e,d,r⟩=>⟨o,es,ep,base_of e (noA e d),d,r⟩;have hKb:K.In (Ig s₁.heap H):=fun b o e=>base_of (KX b o e) (by
   cases q:H b with
   |none=>rfl
   |some u =>
    have e':b=a:=hA b (by rw[q];simp);subst e';rw[hK (by rw[q];simp)]at e;cases e)
  have hM:Mod K mg (Ig s₁.heap H):=⟨hKb,nsK hns,⟨mb,nsK hb,hbb⟩,let⟨mc,h1,h2⟩:=hlim;⟨mc,nsK h1,h2⟩⟩;have e0:Qa P w K mg (Ig s₁.heap H) callerA [] s₁ H:=⟨rfl,hM,fun b o e=>V4 e,Nat.le_of_eq (RS _ _),trivial,fun b hb=>absurd (show b∈([]:List AD) from hb) (by simp),Ag,.of_eq hg⟩;refine codeAny_mono ((F _ hKb (nsK hns)).run callerA [] s₁ H ⟨[.ref a],[]⟩ [.ref a] [.ref a] _ _ hr e0 (hbind s₁ (.ref a)) (.cons rfl .nil) (hsp H hO hS)) fun r s' h=>?_;cases r with
  |error e=>exact(hCX H e s' h).elim
  |ok fl =>
   cases fl with
   |next=>exact False.elim h
   |brk=>exact False.elim h
   |cont=>exact False.elim h
   |ret u =>
    obtain⟨v,H',os,bare,un,hok',r',q⟩:=h;have q':v=.bl true:=q;subst q';obtain rfl:u=Value.bool true:=r';refine⟨rfl,OldK.of_keep fun b o e=>?_,os,bare⟩;cases q:H b with
    |none=>exact un.keep b o e q (by intro z;exact absurd (show b∈([]:List AD) from z) (by simp)) (by simp)
    |some u =>
     rcases hO b with z|⟨ob,xs,z⟩
     ·rw[q]at z;cases z
     ·have z2:=un.Ed b ob _ z;obtain⟨e1,_⟩:=Ag b _ z;obtain⟨e2,_⟩:=hok' b _ z2;rw[e]at e1;cases e1;exact e2
 cases hk:K.lookup a with
 |some o =>
  have e:=KX a o hk;rw[ha]at e;cases e;refine core (fun _=>none) (fun _=>.inl rfl) (.inr ⟨_,vs.toArray,_,hk,rfl,rfl,rfl,by rw[List.size_toArray,lenV];exact hl,by simpa using rv⟩) (fun b u z=>by have z':(none:Option HO)=some u:=z;cases z') (fun b z=>absurd rfl z) fun z=>absurd rfl z
 |none =>
  refine core (fun b=>if b=a then some (.DP { cls:=.type "list",data:=.seq vs.toArray} (.lst (ns.map V.int))) else none) (fun b=>?_) (.inl (.inr ⟨{ cls:=.type "list",data:=.seq vs.toArray},if_pos rfl⟩)) (fun b u z=>?_) (fun b z=>?_) fun _=>hk
  ·by_cases hb:b=a
   ·exact .inr ⟨_,_,if_pos hb⟩
   ·exact .inl (if_neg hb)
  ·by_cases hb:b=a
   ·have z':=(if_pos hb).symm.trans z;cases z';subst hb;exact⟨ha,by rw[List.length_map];exact hl,vs,_,rv,ha⟩
   ·have z':=(if_neg hb).symm.trans z;cases z'
  ·by_cases hb:b=a
   ·exact hb
   ·exact absurd (if_neg hb) z
def Lb{l:PySem.W.OpenLaw}{n k:Nat}{q:Program}{loose:List Str}{XP:(Str→Option VL)→Heap→Prop}{YP:World→Heap→Prop}{d:DefRec}{K:Params→Fg}{CX:World→FX}{sp:World→Sp}{x:Str}
 (hn:l.most=some n)(hn2:n≤sizeLine)(hdf:d.params.defaults=[])(hr:B5 k callerA)
 (hY:∀(w:World) (h:Heap),YP w h→(K w.params).In h)
 (F:∀(w:World) (mg:Str→Option VL) (fa:AD) (h:Heap),(K w.params).In h→h.Ns mainGlobals mg→mg d.name=some (.ref fa) →
   ∃fd:FuncData,(∀(s:SD) (u:VL),BindsTo s fd ⟨[u],[]⟩ [(x,u)]) ∧
    ∀base:Heap,(K w.params).In base→base.Ns mainGlobals mg→AM l.prog w (K w.params) mg base (CX w) k fa fd [x] (sp w))
 (hsp:∀(w:World) (H:Hp) (a:AD) (ns:List Int),ns.length≤n→TR H→A2 (K w.params) H a (ns.map V.int)→sp w [.ref a] H (fun v _=>v=.bl true) fun _ _ _=>False)
 (hCX:∀(w:World) (H:Hp) (s:SD) (e:VL) (s':SD),CX w [] H s (fun _ _ _=>False) e s'→False) :
  PySem.W.WalkO q loose XP YP l.row.toRowW d [] (fun f vs=>PySem.call f vs):=by
 refine Att.Oy hn hdf fun w s₀ s₁ mg mb fa o pm cd doc a vs ns G Y ho hd hcd hmg hobj hints hlen hg=>?_;have KX:=hY w _ Y;obtain⟨fd,hb,hF⟩:=F w mg fa _ KX G.T.g hmg;exact TU KX G.T.g G.T.b G.T.builtins G.T.nolimit hg hobj hints (aZ hlen hn2) hr hF hb (fun H hO hS=>hsp w H a ns hlen hO hS) fun H e s'=>hCX w H s₁ e s'
def Ds(s:Stmt):Arguments:=match s with
 |.FunctionDef _ a _ _ _ _ _ _ _ _=>a
 |_=>{ posonlyargs:=[],args:=[],vararg:=none,kwonlyargs:=[],kw_defaults:=[],kwarg:=none,defaults:=[]}
def CD(s:Stmt):List Stmt:=match s with
 |.FunctionDef _ _ b _ _ _ _ _ _ _=>b
 |_=>[]
def AL(s:Stmt):Scope:=match s with
 |.FunctionDef _ _ _ _ _ _ sc _ _ _=>sc
 |_=>{ kind:=.function,names:=[],isGenerator:=false,isCoroutine:=false}
abbrev A6:FX:=fun _ _ _ _ _ _=>False
abbrev E0:XK:=fun _ _ _=>False
def Zy{X:Cx}:Passes A6 X E0:=fun _ _ _ _ _ _ _ h=>h.elim
structure Mi(K:Fg)(x qual:Str)(st:Stmt)(f:Addr)(fd:FuncData):Prop where
 ex:∃(oc:Value) (od:Option Addr) (kV doc pm:Value) (an:Option Addr) (cdv ct:Value) (osl:Array (Option Value)),
  fd=PySem.W.fnOf x qual (Ds st) (CD st) (AL st) .none kV doc pm an cdv ct∧K.lookup f=some ⟨oc,od,.func fd,osl⟩∧PySem.W.codeIn K cdv qual=true
 kp:PySem.W.keepIn K (.ref f)=true
section
variable{P:Program}{w:World}{K:Fg}{mg:Str→Option VL}{base:Heap}
def Mi.ok{x qual:Str}{st:Stmt}{f:AD}{fd:FuncData}{N ps:List Str}{k:Nat}{sp:Sp}(F:Mi K x qual st f fd)(S:Aj N ps (AL st))(len:∀vs H Q E,sp vs H Q E→vs.length=ps.length)
 (hbody:∀(cdv:VL) (A:Around) (outer:List Env) (s:SD) (H:Hp) (vs:List V) (Q:VK) (E:XK),B5 k (A.deeper (envOfC qual (AL st) s.heap.objs.size f cdv))→sp vs H Q E →
   ∃t,Ew (Bo A6 P w K mg base N qual (AL st) f cdv A outer s H E).G8 (CD st) t∧t { nx:=fun _ H'=>Q .Ao H',rt:=Q} (start N vs) H):AM P w K mg base A6 (k+1) f fd ps sp:=by
 obtain⟨oc,od,kV,doc,pm,an,cdv,ct,osl,rfl,lk,hcd⟩:=F.ex;refine U3 lk hcd S len fun A outer s H vs Q E hr hsp=>?_;obtain⟨t,h,q⟩:=hbody cdv A outer s H vs Q E hr hsp;exact⟨t,h.G8,q⟩
def Mi.binds{x qual:Str}{st:Stmt}{f:AD}{fd:FuncData}{ps:List Str}(F:Mi K x qual st f fd)
 (h:∀(kV doc pm:VL) (an:Option AD) (cdv ct:VL) (us:List VL),us.length=ps.length→bindArgs (PySem.W.fnOf x qual (Ds st) (CD st) (AL st) .none kV doc pm an cdv ct) ⟨us,[]⟩=pure (ps.zip us)):Binds K fd ps []:=by
 obtain⟨oc,od,kV,doc,pm,an,cdv,ct,osl,rfl,lk,hcd⟩:=F.ex;exact .all (h kV doc pm an cdv ct)
def SV{x qual:Str}{st:Stmt}{f:AD}{oc:VL}{od an:Option AD}{osl:Array (Option VL)}{kV doc pm cdv ct:VL}(l:K.lookup f=some ⟨oc,od,.func (PySem.W.fnOf x qual (Ds st) (CD st) (AL st) .none kV doc pm an cdv ct),osl⟩)
 (c:PySem.W.codeIn K cdv qual=true)(k:PySem.W.keepIn K (.ref f)=true):Mi K x qual st f (PySem.W.fnOf x qual (Ds st) (CD st) (AL st) .none kV doc pm an cdv ct):=⟨⟨oc,od,kV,doc,pm,an,cdv,ct,osl,rfl,l,c⟩,k⟩
end
def MI{n:Nat}(h:n≤1000):n<sizeLine:=Nat.lt_of_le_of_lt h (by decide)
section
variable{X:Cx}
def pv(i:Nat){x:Str}{pos:Pos}(hN:X.N[i]? = some x:=by rfl)(hv:YI X.env.scope x:=by first|exact Or.inl rfl|exact Or.inr (Or.inl rfl)|exact Or.inr (Or.inr rfl))(hd:(x==("__debug__" : Str))=false:=by decide)
 (hcd:(x==("__classdict__" : Str))=false:=by decide):PE X (.Name x pos) (JY i):=XJ hN hv hd hcd
end
def Xh{A B:Prop}(h:B):if false=true then A else B:=by
 rw[if_neg aJ];exact h
def Ug{A B:Prop}(h:A):if true=true then A else B:=by
 rw[if_pos rfl];exact h
def IM{c A B:Prop}[Decidable c](h1:c→A)(h2:¬c→B):if c then A else B:=by
 by_cases h:c
 ·rw[if_pos h];exact h1 h
 ·rw[if_neg h];exact h2 h
def AI(H H':Hp):Prop:=∀b o,H b=some o→H' b=some o
def AI.refl(H:Hp):AI H H:=fun _ _ h=>h
def AI.trans{H H1 H2:Hp}(a:AI H H1)(b:AI H1 H2):AI H H2:=fun c o h=>b c o (a c o h)
section
variable{X:Cx}
def Qn(i j:Int):Prop:=∃m:Nat,m≤1000000∧i.natAbs<2^m∧j.natAbs<2^m
def Qn.ok{i j:Int}(h:Qn i j):IntMulOk i j:=by
 obtain⟨m,hm,h1,h2⟩:=h;exact IntMulOk.of_le (intBits_le_iff.mpr h1) (intBits_le_iff.mpr h2) (by omega)
def Vm:Bz X (binaryOp .Mult) (rI (fun i j=>Tf i j∨Qn i j) fun i j=>.int (i*j)) :=
 Ul fun _ _ _ _ _ _ _ hc q=>mul_int q (hc.elim (fun z=>z.ok) fun z=>z.ok)
def ZU(_i j:Int):Prop:=j≠0∧∃m:Nat,m≤9000∧j.natAbs<2^m
def Kt:Bz X (binaryOp .FloorDiv) (rI ZU fun i j=>.int (i.fdiv j)):=Ul fun i j _ _ _ _ _ hc q=>by
 obtain⟨h0,m,hm,h1⟩:=hc;refine floordiv_int h0 q (.inl (PyProof.noPylong_of_log2 ?_));have hne:j.natAbs≠0:=by omega
 have:j.natAbs.log2<m:=(Nat.log2_lt hne).mpr h1;omega
mutual
def Br(K:Fg)(H:Hp):PD→V→Prop
 |.none,v=>v=.Ao
 |.bool b,v=>v=.bl b
 |.int i,v=>v=.int i
 |.str x,v=>v=.str x
 |.tuple ds,v=>∃a xs,v=.ref a∧BF K H a xs∧Dj K H ds xs
 |.list ds,v=>∃a xs,v=.ref a∧A2 K H a xs∧Dj K H ds xs
 |.dict _,_=>False
def Dj(K:Fg)(H:Hp):List PD→List V→Prop
 |[],xs=>xs=[]
 |d::ds,xs=>∃x r,xs=x::r∧Br K H d x∧Dj K H ds r
end
mutual
def Br.reads{pins:List (AD×Obj)}{σ:St}{H:Hp}{s:SD}(I:Inv X pins σ H s):∀ {d:PD} {v:V} {u:VL},Br X.K H d v→RelV v u→∃as,Reads s.heap u d as
 |.none,_,u,h,r=>by rw[Br]at h;subst h;cases r;exact⟨_,.none⟩
 |.bool b,_,u,h,r=>by rw[Br]at h;subst h;cases r;exact⟨_,.bool b⟩
 |.int i,_,u,h,r=>by rw[Br]at h;subst h;obtain⟨t,rfl⟩:=r;exact⟨_,.int i t⟩
 |.str x,_,u,h,r=>by rw[Br]at h;subst h;obtain⟨t,rfl⟩:=r;exact⟨_,.str x t⟩
 |.tuple ds,_,u,h,r=>by
  rw[Br]at h;obtain⟨a,xs,e1,h1,h2⟩:=h;subst e1;cases r;obtain⟨its,rv,⟨o,e,c,n,hd⟩,_⟩:=I.tuple h1;obtain⟨as,ra⟩:=Dj.reads I h2 rv;exact⟨_,.tuple e c hd (by simpa using ra)⟩
 |.list ds,_,u,h,r=>by
  rw[Br]at h;obtain⟨a,xs,e1,h1,h2⟩:=h;subst e1;cases r;obtain⟨its,rv,⟨o,n,e,c,_,hd⟩,_⟩:=I.list h1;obtain⟨as,ra⟩:=Dj.reads I h2 rv;exact⟨_,.list e c hd (by simpa using ra)⟩
 |.dict _,_,_,h,_=>by rw[Br]at h;exact h.elim
def Dj.reads{pins:List (AD×Obj)}{σ:St}{H:Hp}{s:SD}(I:Inv X pins σ H s):∀ {ds:List PD} {xs:List V} {us:List VL},Dj X.K H ds xs→Vals xs us→∃as,ReadsAll s.heap us ds as
 |[],_,us,h,r=>by rw[Dj]at h;subst h;cases r;exact⟨_,.nil⟩
 |_::_,_,us,h,r=>by
  rw[Dj]at h;obtain⟨x,q,e1,h1,h2⟩:=h;subst e1;cases r with
  |cons r1 r2 =>
   obtain⟨as,ra⟩:=Br.reads I h1 r1;obtain⟨bs,rb⟩:=Dj.reads I h2 r2;exact⟨_,.cons ra rb⟩
end
def UJ(K:Fg)(neg:Bool):R2:=fun x y H Q=>∃d e,Br K H d x∧Br K H e y∧SeqAt.shaped d=true∧SeqAt.shaped e=true∧Q (.bl (if neg then !PyData.eqv d e else PyData.eqv d e)) H
def Yq(hu:X.A.units+64<cLine):Bz X (compareOp .Eq) (UJ X.K false):=by
 intro pins s σ H x y v u Q I rx ry h;obtain⟨d,e,h1,h2,s1,s2,q⟩:=h;obtain⟨as,ra⟩:=Br.reads I h1 rx;obtain⟨bs,rb⟩:=Br.reads I h2 ry;exact eq_dataH ra rb s1 s2 hu ⟨.bl _,H,I,rfl,q⟩
def XE(hu:X.A.units+64<cLine):Bz X (compareOp .NotEq) (UJ X.K true):=by
 intro pins s σ H x y v u Q I rx ry h;obtain⟨d,e,h1,h2,s1,s2,q⟩:=h;obtain⟨as,ra⟩:=Br.reads I h1 rx;obtain⟨bs,rb⟩:=Br.reads I h2 ry;exact ne_dataH ra rb s1 s2 hu ⟨.bl _,H,I,rfl,q⟩
end
end L2
set_option maxHeartbeats 4000000
namespace L2
open PySem PySem.Spec PyProof.Rows
def MJ(X:Cx)(ifs:List Expr)(t:TT):Prop :=
 ∀(pins:List (AD×Obj)) (s:SD) (σ:St) (H:Hp) (Q:Bool→Hp→Prop),Inv X pins σ H s→t σ H Q →
  wpAny (model X.prog X.w) X.A (forIn ifs true fun c r=>if r=true then do let ok ←isTrue c X.env (eval c X.env);pure (ForInStep.yield ok) else pure (ForInStep.yield r)) (TP X pins σ Q) X.xe s
def ZS:TT:=fun _ H Q=>Q true H
def WN{X:Cx}:MJ X [] ZS:=fun _ _ σ H _ I h=>wpAny_tests_nil ⟨H,I,h⟩
def EV(N XN:List Str)(sc xsc:Scope):List (Option Nat)→Nat→Bool
 |[],_=>true
 |none::r,i=>EV N XN sc xsc r (i+1)
 |some j::r,i=>(match N[i]?,XN[j]? with
   |some n,some m=>n==m&&sc.names.lookup n==some .free&&xsc.names.lookup n==some .cell
   |_,_=>false)&&EV N XN sc xsc r (i+1)
def K3{N XN:List Str}{sc xsc:Scope}:∀ {fr:List (Option Nat)} {k:Nat},EV N XN sc xsc fr k=true→∀ {i j:Nat},fr[i]? = some (some j) →
  ∃n,N[k+i]? = some n∧XN[j]? = some n∧sc.names.lookup n=some .free∧xsc.names.lookup n=some .cell
 |[],_,_,i,j,e=>by simp at e
 |none::r,k,h,0,j,e=>by simp at e
 |none::r,k,h,i+1,j,e=>by
  have q:=K3 (fr:=r) (k:=k+1) h (i:=i) (j:=j) (by simpa using e);have z:k+(i+1)=k+1+i:=by omega
  rw[z];exact q
 |some j'::r,k,h,0,j,e=>by
  have e':j'=j:=by simpa using e
  subst e';rw[EV,Bool.and_eq_true]at h;have h1:=h.1;split at h1
  ·rename_i n m hn hm;simp only[Bool.and_eq_true,beq_iff_eq]at h1;obtain⟨⟨rfl,h2⟩,h3⟩:=h1;exact⟨n,by simpa using hn,hm,h2,h3⟩
  ·cases h1
 |some j'::r,k,h,i+1,j,e=>by
  rw[EV,Bool.and_eq_true]at h;have q:=K3 (fr:=r) (k:=k+1) h.2 (i:=i) (j:=j) (by simpa using e);have z:k+(i+1)=k+1+i:=by omega
  rw[z];exact q
def carry(fr:List (Option Nat))(σ:St):St:=fr.map fun o=>match o with
 |some j=>(σ[j]?).join
 |none=>none
def RT{fr:List (Option Nat)}{σ:St}{i:Nat}{v:V}(h:(carry fr σ)[i]? = some (some v)):∃j,fr[i]? = some (some j)∧σ[j]? = some (some v):=by
 unfold carry at h;rw[List.getElem?_map]at h;cases e:fr[i]? with
 |none=>rw[e]at h;cases h
 |some o =>
  rw[e]at h;cases o with
  |none=>simp at h
  |some j =>
   refine⟨j,rfl,?_⟩;simp only[Option.map_some,Option.some.injEq]at h;cases q:σ[j]? with
   |none=>rw[q]at h;cases h
   |some w=>rw[q]at h;simp at h;rw[h]
def Fw{env:Env}:∀(names:List (Str×NameKind)) (cs:List (Str×AD)),(∀x∈names,x.2=NameKind.free→∃c,env.cells.lookup x.1=some c)→(∀x c,cs.lookup x=some c→env.cells.lookup x=some c) →
  ∃cl,(forIn names cs (fun(x:Str×NameKind) (r:List (Str×AD))=>do if(x.2==NameKind.free)=true then do let a ←cellOf env x.1;pure (ForInStep.yield ((x.1,a)::r)) else pure (ForInStep.yield r)):Sem (List (Str×AD)))=pure cl ∧
   (∀x c,cl.lookup x=some c→env.cells.lookup x=some c)∧(∀x,(∃c,cs.lookup x=some c)→∃c,cl.lookup x=some c)∧∀x∈names,x.2=NameKind.free→∃c,cl.lookup x.1=some c
 |[],cs,_,h2=>⟨cs,rfl,h2,fun _ q=>q,fun _ z=>(by cases z)⟩
 |(n,k)::r,cs,h1,h2=>by
  rw[List.forIn_cons];by_cases hk:(k==NameKind.free)=true
  ·obtain⟨c,hc⟩:=h1 (n,k) aP (by simpa using hk);have h2':∀x c',((n,c)::cs).lookup x=some c'→env.cells.lookup x=some c':=fun x c' e=>by
    rw[List.lookup_cons]at e;cases hx:x==n with
    |true=>rw[hx]at e;have:=beq_iff_eq.mp hx;subst this;simp at e;rw[←e];exact hc
    |false=>rw[hx]at e;exact h2 x c' e
   obtain⟨cl,q1,q2,q3,q4⟩:=Fw r ((n,c)::cs) (fun x hx=>h1 x (aO _ hx)) h2';have hn:∃c',cl.lookup n=some c':=q3 n ⟨c,by rw[List.lookup_cons,beq_self_eq_true]⟩;refine⟨cl,?_,q2,fun x hx=>?_,fun x hx hf=>?_⟩
   ·simp only[hk,if_true];unfold cellOf;rw[hc];exact q1
   ·refine q3 x ?_;rw[List.lookup_cons];cases hxn:x==n with
    |true=>exact⟨c,rfl⟩
    |false=>exact hx
   ·rcases aN.mp hx with e|hx
    ·subst e;exact hn
    ·exact q4 x hx hf
  ·obtain⟨cl,q1,q2,q3,q4⟩:=Fw r cs (fun x hx=>h1 x (aO _ hx)) h2;refine⟨cl,?_,q2,q3,fun x hx hf=>?_⟩
   ·simp only[hk];exact q1
   ·rcases aN.mp hx with e|hx
    ·subst e;exact absurd (by simpa using hf) hk
    ·exact q4 x hx hf
def Aw(X:Cx)(scope:Scope)(cl:List (Str×AD))(N:List Str)(C:AD)(s₀:SD)(H₀:Hp)(fp:List AD):Cx where
 prog:=X.prog
 w:=X.w
 K:=X.K
 mg:=X.mg
 base:=X.base
 A:=X.A
 N:=N
 s₀:=s₀
 H₀:=H₀
 env:=compEnvC scope cl C X.env
 outer:=X.stack
 stack:=X.stack
 ex:=fp
 fn:=fun _=>false
 calm:=X.calm
 pn:=[]
 xe:=fun _ _=>False
def J7(wi:TI)(fr:List (Option Nat))(ix:Nat)(tif:TT)(te:TE):TE:=fun σ H Q=>wi σ H fun J H1=>∀D,H1 D=none→∃W:Nat→Nat→List V→Hp→Prop,(∃m,W 0 m [] (upd H1 D (.lst []))) ∧
 ∀i m ys H,W i m ys H→H D=some (.lst ys)∧((J.stop i H∧Q (.ref D) H)∨(J.go i H∧ys.length<sizeLine∧∀x H',J.Ex i H x H' →
  tif ((carry fr σ).set ix (some x)) H' fun b H2=>if b=true then te ((carry fr σ).set ix (some x)) H2 fun y H3=>H3 D=some (.lst ys)∧∃m',m'<m∧W (i+1) m' (ys++[y]) (upd H3 D (.lst (ys++[y])))
   else ∃m',m'<m∧W (i+1) m' ys H2))
structure FT(scope:Scope)(N:List Str)(x:Str)(ix:Nat):Prop where
 kind:scope.kind=.function
 cell:∀y∈scope.names,y.2≠.cell
 names:∀y∈scope.names,y.2=.local→scope.names.lookup y.1=some .local
 free:∀y∈scope.names,y.2=.free→scope.names.lookup y.1=some .free
 loc:scope.names.lookup x=some .local
 nd:N.Nodup
 at_:N[ix]? = some x
def lookup_mem{names:List (Str×NameKind)}{n:Str}{k:NameKind}:names.lookup n=some k→(n,k)∈names:=by
 induction names with
 |nil=>intro h;cases h
 |cons y r ih =>
  intro h;obtain⟨m,j⟩:=y;rw[List.lookup_cons]at h;cases e:n==m with
  |true=>rw[e]at h;have:=beq_iff_eq.mp e;subst this;simp at h;subst h;exact aP
  |false=>rw[e]at h;exact aO _ (ih h)
def Nh{scope:Scope}{env:Env}(hc:∀y∈scope.names,y.2≠.cell){n:Str}(h:(relabel scope env).names.lookup n=some .cell∨(relabel scope env).names.lookup n=some .free):∃k,(n,k)∈scope.names∧k=NameKind.free:=by
 have key:∀k',(relabel scope env).names.lookup n=some k'→(k'=.cell∨k'=.free)→∃k,(n,k)∈scope.names∧k=NameKind.free:=fun k' h hk=>by
  have hm:=lookup_mem h;unfold relabel at hm;obtain⟨⟨m,k⟩,hy,e⟩:=List.mem_map.mp hm;dsimp only at e;by_cases hcond:(k==NameKind.free&&env.scope.kind==.function&&env.kindOf m==some .cell)=true
  ·rw[if_pos hcond]at e
   injection e with e1 e2
   subst e1;refine⟨k,hy,?_⟩;simp only[Bool.and_eq_true,beq_iff_eq]at hcond;exact hcond.1.1
  ·rw[if_neg hcond]at e
   injection e with e1 e2
   subst e1 e2;rcases hk with rfl|rfl
   ·exact absurd rfl (hc _ hy)
   ·exact⟨_,hy,rfl⟩
 rcases h with h|h
 ·exact key _ h (.inl rfl)
 ·exact key _ h (.inr rfl)
section
variable{X:Cx}{elt iter:Expr}{x:Str}{px pos:Pos}{ifs:List Expr}{scope:Scope}{wi:TI}{fr:List (Option Nat)}{ix:Nat}{tif:TT}{te:TE}{N:List Str}
def Gn{prog:Program}{w:World}{A:Around}{R:Result→SD→Prop}{s:SD}{elt target iter:Expr}{ifs:List Expr}{scope:Scope}{pos:Pos}{it acc:VL}{env:Env}(I:Nat→SD→Prop)
 (turn:∀n s,I n s→wpAny (model prog w) A (pyNext it) (fun r s₁=>match r with
   |none=>R (.ok .next) s₁
   |some v=>wpAny (model prog w) A (letOwnedTupleGo target it v>>=fun _=>assign target env v) (fun _ s₂ =>
     wpAny (model prog w) A (forIn ifs true fun c r=>if r=true then do let ok ←isTrue c env (eval c env);pure (ForInStep.yield ok) else pure (ForInStep.yield r)) (fun ok s₃ =>
      if ok=true then wpAny (model prog w) A (eval elt env) (fun x s₄ =>
       wpAny (model prog w) A (call (.builtin "list.append") [acc,x]) (fun _ s₅=>∃m,m<n∧I m s₅) (notedBy (model prog w) A env fun e s'=>R (.error e) s') s₄) (notedBy (model prog w) A env fun e s'=>R (.error e) s') s₃
      else ∃m,m<n∧I m s₃) (notedBy (model prog w) A env fun e s'=>R (.error e) s') s₂) (notedBy (model prog w) A env fun e s'=>R (.error e) s') s₁) (notedBy (model prog w) A env fun e s'=>R (.error e) s') s)
 (n:Nat)(h:I n s) :
  codeAny (model prog w) A (.compLoop (.ListComp elt [⟨target,iter,ifs,0⟩] scope pos) 0 it acc env) R s:=by
 refine codeAny_loop rfl I (fun n s hI=>?_) n h;show wpAny _ A ((compTurn (.ListComp elt [⟨target,iter,ifs,0⟩] scope pos) 0 it acc env).onRaise (fun x=>do noteFrame x env;theTreesLotGoes x)) _ _ s;refine wpAny_noted ?_;rw[compTurn_list];refine Wb (wpAny_standAt (Wb (aQ (turn n s hI) (fun r s₁ h₁=>?_) fun _ _ h'=>h')));cases r with
 |none=>exact aB h₁
 |some v =>
  show wpAny (model prog w) A (letOwnedTupleGo target it v>>=fun _=>assign target env v>>=_) _ _ s₁;rw[←bind_assoc];refine Wb (aQ h₁ (fun _ s₂ h₂=>Wb (aQ h₂ (fun ok s₃ h₃=>?_) fun _ _ h'=>h')) fun _ _ h'=>h');cases ok with
  |false=>exact aB ⟨rfl,h₃⟩
  |true =>
   exact Wb (Wb (aQ h₃ (fun x s₄ h₄=>Wb (aQ h₄ (fun _ s₅ h₅=>aB (aB ⟨rfl,h₅⟩)) fun _ _ h'=>h')) fun _ _ h'=>h'))
def Od{pins:List (AD×Obj)}{σ:St}{H2:Hp}{s2:SD}{Q:VK}{it:AD}{fp:List AD}{tn:Nat→Heap→Prop}{J:It}{cl:List (Str×AD)}{E:VL→SD→Prop}{RR:VL→AD→Result→SD→Prop}
 (S:FT scope N x ix)(hcalm:X.calm=true){tgE:Expr}{g:TG}(Rv:St→Prop)(r0:Rv (carry fr σ))(hpg:∀C,PG (Aw X scope cl N C s2 H2 fp) tgE g)(hfr:EV N X.N scope X.env.scope fr 0=true)(hlen:fr.length=N.length)
 (hif:∀cl C s₀ H₀ fp,MJ (Aw X scope cl N C s₀ H₀ fp) ifs tif)(he:∀cl C s₀ H₀ fp,PE (Aw X scope cl N C s₀ H₀ fp) elt te)
 (I2:Inv X pins σ H2 s2)(T:Turn X.prog X.w X.K tgE J fp it tn)(st2:tn 0 s2.heap)(f2:∀b∈fp,Io X pins H2 b)
 (c1:∀x c,cl.lookup x=some c→X.env.cells.lookup x=some c)(c2:∀x∈scope.names,x.2=NameKind.free→∃c,cl.lookup x.1=some c)
 (W:∀D,H2 D=none→∃W:Nat→Nat→List V→Hp→Prop,(∃m,W 0 m [] (upd H2 D (.lst []))) ∧
   ∀i m ys H,W i m ys H→H D=some (.lst ys)∧((J.stop i H∧Q (.ref D) H)∨(J.go i H∧ys.length<sizeLine∧∀x H',J.Ex i H x H'→∀σ',Rv σ'→g x σ' H' fun σ6 H6=>Rv σ6 ∧
    tif σ6 H6 fun b H2=>if b=true then te σ6 H2 fun y H3=>H3 D=some (.lst ys)∧∃m',m'<m∧W (i+1) m' (ys++[y]) (upd H3 D (.lst (ys++[y])))
     else ∃m',m'<m∧W (i+1) m' ys H2)))
 (fin:∀(D C:AD) (s':SD) (H':Hp) m,s'.heap.Ns C m→Q (.ref D) H'→(∀h',Heap.SameBut C s'.heap h'→Inv X pins σ H' { s' with heap:=h'})→C≠D→(∀b o,s2.heap.get? b=some o→b≠C)→H' C=none→s2.heap.objs.size≤C→RR (.ref D) C (.ok .next) s') :
  wpAny (model X.prog X.w) X.A (newList []) (fun acc s₃=>wpAny (model X.prog X.w) X.A (newFunctionEnv scope X.env.globals cl [] X.env.qual none .none (some X.env)) (fun cenv s₄ =>
   codeAny (model X.prog X.w) X.A (.compStart (.ListComp elt [⟨tgE,iter,ifs,0⟩] scope pos) 0 (.ref it) acc {cenv with scope:=relabel scope X.env}) (RR acc cenv.locals) s₄) E s₃) E s2:=by
 refine aW (wpAny_newFunctionEnv S.cell (by intro y hy;simp at hy) (fun h₁ hns₁ hsb₁=>?_) S.kind);dsimp only at hns₁ hsb₁ ⊢;generalize hHp:s2.heap.push { cls:=.type "list",dict:=none,data:=.seq ([]:List VL).toArray}=Hq at hns₁ hsb₁ ⊢;have hC:Hq.objs.size=s2.heap.objs.size+1:=by rw[←hHp,Heap.size_push]
 have hDC:s2.heap.objs.size≠Hq.objs.size:=by rw[hC];exact aI (Nat.lt_succ_self _)
 have below:∀b,b<s2.heap.objs.size→b≠Hq.objs.size∧b≠s2.heap.objs.size:=fun b hb=>⟨by rw[hC];exact aI (aX hb),Nat.ne_of_lt hb⟩;have old:∀b o,s2.heap.get? b=some o→h₁.get? b=some o:=fun b o e=>hsb₁.extBut b o (below b (aG e)).1 (aF _ (hHp ▸ aF _ e));have hacc:h₁.get? s2.heap.objs.size=some { cls:=.type "list",data:=.seq ([]:List VL).toArray}:=hsb₁.extBut _ _ hDC (aF _ (hHp ▸ aL _ rfl));have hD2:H2 s2.heap.objs.size=none:=I2.Ag.fresh (aH _);have hC2:H2 Hq.objs.size=none:=I2.Ag.fresh (by rw[hC];exact Nat.le_succ _);have fpo:∀b∈fp,b<s2.heap.objs.size:=fun b hb=>by
  obtain⟨o,e,_⟩:=T.obj _ _ st2 b hb;exact aG e
 obtain⟨W,⟨m0,w0⟩,turn⟩:=W s2.heap.objs.size hD2;have ok:(Aw X scope cl N Hq.objs.size s2 H2 fp).Ok:=by
  refine⟨I2.ok.mod,S.kind,I2.ok.glob,I2.ok.blt,by show s2.heap.objs.size≤Hq.objs.size;rw[hC];exact Nat.le_succ _,?_,?_,?_,fun _=>I2.ok.hd hcalm,I2.ok.frames,.inl rfl,?_,I2.bs,Nat.le_trans I2.ok.MF I2.sz,?_,?_,I2.stack,I2.Lv⟩
  ·exact fun a b c h1 h2=>I2.ok.inj a b c (c1 _ _ h1) (c1 _ _ h2)
  ·intro y hy;obtain⟨k,hm,rfl⟩:=Nh S.cell hy;exact c2 _ hm rfl
  ·intro y c hf;cases hf
  ·intro b hb;refine⟨(below b (fpo b hb)).1,fun y c e=>?_⟩;obtain⟨_,_,_,_,f5,_⟩:=f2 b hb;exact f5 y c (c1 _ _ e)
  ·intro b o e hb;obtain⟨_,_,_,f4,_,_⟩:=f2 b hb;rcases f4 with z|z
   ·exact I2.ok.NA b o e z
   ·exact absurd (aK (aG e) (aZ I2.ok.MF z)) (Nat.lt_irrefl _)
  ·intro b hb hs;obtain⟨_,f1,f3,_⟩:=f2 b hb;rcases aN.mp (I2.JS b hs) with z|z
   ·exact f1 z
   ·exact f3 z
 have I4:Inv (Aw X scope cl N Hq.objs.size s2 H2 fp) [] (carry fr σ) (upd H2 s2.heap.objs.size (.lst [])) {s2 with heap:=h₁,toks:=s2.toks+([]:List (Str×VL)).length}:=by
  refine⟨ok,rfl,I2.bare,Un.laid old (aH _) hD2,⟨_,hns₁,fun i y v h1 h2 h3=>?_⟩,fun y c e=>?_,?_,fun y c e=>?_,fun p hp=>(by cases hp),I2.Ag.laid old (aH _) ⟨aa _,[],0,.nil,hacc⟩,?_⟩
  ·obtain⟨j,e1,e2⟩:=RT h2;obtain⟨n,n1,n2,n3,n4⟩:=K3 hfr e1;rw[Nat.zero_add]at n1;have:y=n:=by
    have h1':N[i]? = some y:=h1;rw[h1']at n1;exact aV n1
   subst this;obtain⟨m,hn,hl⟩:=I2.loc;obtain⟨u,ru,lk⟩:=hl j y v n2 e2 (.inr (.inl n4));refine⟨u,ru,?_⟩;obtain⟨c,hc⟩:=c2 _ (lookup_mem n3) rfl;rcases lk with ⟨k1,_⟩|⟨_,c',hc',hcell⟩
   ·have k1':X.env.scope.names.lookup y=some .local:=k1;rw[n4]at k1';cases k1'
   ·have:=c1 _ _ hc;rw[hc']at this;cases this;refine .inr ⟨?_,c,hc,hcell.keeps old⟩;rcases h3 with z|z|z
    ·obtain⟨k,hm⟩:∃k,(y,k)∈scope.names∧k=NameKind.local:=by
      have hm:=lookup_mem z;have hm':(y,NameKind.local)∈(relabel scope X.env).names:=hm;unfold relabel at hm';obtain⟨⟨m',k⟩,hy,e⟩:=List.mem_map.mp hm';dsimp only at e;by_cases hcond:(k==NameKind.free&&X.env.scope.kind==.function&&X.env.kindOf m'==some .cell)=true
      ·rw[if_pos hcond]at e;injection e with _ e2';cases e2'
      ·rw[if_neg hcond]at e;injection e with e1' e2';subst e1' e2';exact⟨_,hy,rfl⟩
     obtain⟨hm,rfl⟩:=hm;have:=S.names _ hm rfl;rw[n3]at this;cases this
    ·exact .inl z
    ·exact .inr z
  ·obtain⟨v,z⟩:=I2.cell y c (c1 _ _ e);exact⟨v,z.keeps old⟩
  ·show upd H2 s2.heap.objs.size _ Hq.objs.size=none;rw[AH (Ne.symm hDC)];exact hC2
  ·obtain⟨v,o,ho,_⟩:=I2.cell y c (c1 _ _ e);rw[AH (below c (aG ho)).2];exact I2.FL y c (c1 _ _ e)
  ·show(carry fr σ).length=N.length;unfold carry;rw[List.length_map];exact hlen
 have fpX:∀(p:List (AD×Obj)) (H':Hp),(∀q∈p,q.1∈fp→False)→(∀b∈fp,H' b=none)→∀b∈fp,Io (Aw X scope cl N Hq.objs.size s2 H2 fp) p H' b:=fun p H' hp hn b hb=>by
  obtain⟨_,f1,f3,f4,f5,_⟩:=f2 b hb;refine⟨hn b hb,(below b (fpo b hb)).1,fun hs=>ok.NF b hb hs,.inl hb,fun y c e=>f5 y c (c1 _ _ e),fun q hq e=>?_⟩;exact hp q hq (e ▸ hb)
 have hxv:(relabel scope X.env).names.lookup x=some .local:=lookup_relabel_local S.loc;have loop:∀s₃:SD,s₃={s2 with heap:=h₁,toks:=s2.toks+([]:List (Str×VL)).length} →
   codeAny (model X.prog X.w) X.A (.compLoop (.ListComp elt [⟨tgE,iter,ifs,0⟩] scope pos) 0 (.ref it) (.ref s2.heap.objs.size) (compEnvC scope cl Hq.objs.size X.env)) (RR (.ref s2.heap.objs.size) Hq.objs.size) s₃:=by
  rintro s₃ rfl;refine Gn (fun n s'=>∃i ys σ' H',Inv (Aw X scope cl N Hq.objs.size s2 H2 fp) [] σ' H' s'∧Rv σ'∧tn i s'.heap∧(∀b∈fp,H' b=none)∧W i n ys H') ?_ m0
   ⟨0,[],carry fr σ,_,I4,r0,T.keep _ _ _ st2 fun b _ o e=>old b o e,fun b hb=>by rw[AH (below b (fpo b hb)).2];exact(f2 b hb).1,w0⟩
  rintro n s3 ⟨i,ys,σ3,H3,I3,hσ,st3,fr3,w3⟩;obtain⟨hD3,way⟩:=turn i n ys H3 w3;rcases way with ⟨stop,qn⟩|⟨go,hsz,step⟩
  ·refine aQ (T.done (Aw X scope cl N Hq.objs.size s2 H2 fp) rfl rfl rfl hcalm i [] s3 σ3 H3 (fun _ _=>False) I3 (fpX [] H3 (fun _ z=>by cases z) fr3) st3 stop) (fun r s4 ⟨hr,I5⟩=>?_) fun _ _ z=>z.elim;subst hr;obtain⟨m,hn,_⟩:=id I5.loc;refine fin _ _ s4 H3 m hn qn (fun h' hs'=>?_) (Ne.symm hDC) (fun b o e=>(below b (aG e)).1) I5.free (by rw[hC];exact Nat.le_succ _);have nC:∀b u,H3 b=some u→b≠Hq.objs.size:=fun b u e z=>by
    have:=I5.free;rw[show(Aw X scope cl N Hq.objs.size s2 H2 fp).env.locals=Hq.objs.size from rfl,←z,e]at this;cases this
   have keepU:Un (Dw X.stack) fp H2 H3 s2.heap h':=by
    have u:=I5.base;refine⟨fun b o e n hb hx=>?_,fun b o e n hb hx=>?_,fun b o e n hx=>u.free b o e n hx,fun b o e hx=>?_,u.Bu,u.Ed,u.E9⟩
    ·exact(hs'.2 b (below b (aG e)).1).trans (u.keep b o e n hb hx)
    ·obtain⟨sl,e1⟩:=u.slot b o e n hb hx;exact⟨sl,(hs'.2 b (below b (aG e)).1).trans e1⟩
    ·obtain⟨o',e1⟩:=u.there b o e hx;exact⟨o',(hs'.2 b (below b (aG e)).1).trans e1⟩
   have hok':Cp X.prog X.w H3 h':=fun b u e=>(I5.Ag b u e).GV (fun c v hc q=>(hs'.2 c (by
    rcases hc with rfl|hc
    ·exact nC _ _ e
    ·exact nC _ _ hc)).trans q) (fun _ q=>q) fun _ _ q=>q
   refine I2.Zb (s':={s4 with heap:=h'}) (ch:=fp) I5.os keepU hok' I5.bare fun b hb=>?_;obtain⟨_,f1,_,f4,f5,f6⟩:=f2 b hb;exact⟨f4,f1,f5,f6⟩
  ·refine aQ (T.item (Aw X scope cl N Hq.objs.size s2 H2 fp) rfl rfl rfl hcalm i [] s3 σ3 H3 (fun _ _=>False) I3 (fpX [] H3 (fun _ z=>by cases z) fr3) st3 go) (fun r s4 ⟨u,hr,h4⟩=>?_) fun _ _ z=>z.elim;subst hr;show wpAny (model X.prog X.w) X.A (letOwnedTupleGo tgE (.ref it) u>>=fun _=>assign tgE (compEnvC scope cl Hq.objs.size X.env) u) _ _ s4;refine Wb (aQ h4 (fun _ s5 ⟨xv,H5,I5,r5,y5,st5,fr5⟩=>?_) fun _ _ z=>z.elim);have I5':=I5.pinned (fpX [] H5 (fun _ z=>by cases z) fr5) (T.obj _ _ st5);refine aQ (hpg _ _ s5 σ3 H5 xv u _ I5' r5 (step xv H5 y5 σ3 hσ)) (fun _ s6 ⟨σ6,H6,I6,rv6,step5⟩=>?_) fun _ _ z=>z.elim;refine aQ (hif _ _ _ _ _ _ s6 _ H6 _ I6 step5) (fun b s7 ⟨H7,I7,q7⟩=>?_) fun _ _ z=>z.elim;have again:∀ {s8:SD} {H8:Hp} {k:Nat} {zs:List V},Inv (Aw X scope cl N Hq.objs.size s2 H2 fp) ([]++JN fp s5.heap) σ6 H8 s8→W (i+1) k zs H8→k<n →
     ∃m,m<n∧∃i ys σ' H',Inv (Aw X scope cl N Hq.objs.size s2 H2 fp) [] σ' H' s8∧Rv σ'∧tn i s8.heap∧(∀b∈fp,H' b=none)∧W i m ys H':=fun {s8 H8 k zs} I8 w8 hk=>by
    refine⟨k,hk,i+1,zs,_,H8,I8.Ic,rv6,T.keep _ _ _ st5 fun b hb o e=>(I8.pin (b,o) (aS _ (aS _ (F0 hb e)))).1,fun b hb=>?_,w8⟩;obtain⟨o,e,d⟩:=T.obj _ _ st5 b hb;exact(I8.pin (b,o) (aS _ (aS _ (F0 hb e)))).2.1
   cases b with
   |false =>
    rw[if_neg aJ]at q7 ⊢;obtain⟨k,hk,w7⟩:=q7;exact again I7 w7 hk
   |true =>
    rw[if_pos rfl]at q7 ⊢;refine aQ (he _ _ _ _ _ _ s7 _ H7 _ I7 q7) (fun yv s8 ⟨y,H8,I8,r8,hD8,k,hk,w8⟩=>?_) fun _ _ z=>z.elim;refine aQ (Mf (X:=Aw X scope cl N Hq.objs.size s2 H2 fp) _ s8 _ H8 (.ref s2.heap.objs.size) [y] (.ref s2.heap.objs.size) [yv] (fun _ H9=>H9=upd H8 s2.heap.objs.size (.lst (ys++[y]))) I8 rfl (.cons r8 .nil) ⟨_,ys,y,rfl,rfl,hD8,hsz,rfl⟩) (fun _ s9 ⟨_,H9,I9,_,e9⟩=>?_) fun _ _ z=>z.elim;subst e9;exact again I9 w8 hk
 exact codeAny_compStart_list (loop _ rfl) (T.self X.A 0 _ _ _ (T.keep _ _ _ st2 fun b _ o e=>old b o e) (loop _ rfl))
def LV{pins:List (AD×Obj)}{σ:St}{H2:Hp}{s2:SD}{Q:VK}{it:AD}{fp:List AD}{tn:Nat→Heap→Prop}{J:It}{cl:List (Str×AD)}{E:VL→SD→Prop}{RR:VL→AD→Result→SD→Prop}
 (S:FT scope N x ix)(hcalm:X.calm=true)(hfr:EV N X.N scope X.env.scope fr 0=true)(hlen:fr.length=N.length)
 (hif:∀cl C s₀ H₀ fp,MJ (Aw X scope cl N C s₀ H₀ fp) ifs tif)(he:∀cl C s₀ H₀ fp,PE (Aw X scope cl N C s₀ H₀ fp) elt te)
 (I2:Inv X pins σ H2 s2)(T:Turn X.prog X.w X.K (.Name x px) J fp it tn)(st2:tn 0 s2.heap)(f2:∀b∈fp,Io X pins H2 b)
 (c1:∀x c,cl.lookup x=some c→X.env.cells.lookup x=some c)(c2:∀x∈scope.names,x.2=NameKind.free→∃c,cl.lookup x.1=some c)
 (W:∀D,H2 D=none→∃W:Nat→Nat→List V→Hp→Prop,(∃m,W 0 m [] (upd H2 D (.lst []))) ∧
   ∀i m ys H,W i m ys H→H D=some (.lst ys)∧((J.stop i H∧Q (.ref D) H)∨(J.go i H∧ys.length<sizeLine∧∀x H',J.Ex i H x H' →
    tif ((carry fr σ).set ix (some x)) H' fun b H2=>if b=true then te ((carry fr σ).set ix (some x)) H2 fun y H3=>H3 D=some (.lst ys)∧∃m',m'<m∧W (i+1) m' (ys++[y]) (upd H3 D (.lst (ys++[y])))
     else ∃m',m'<m∧W (i+1) m' ys H2)))
 (fin:∀(D C:AD) (s':SD) (H':Hp) m,s'.heap.Ns C m→Q (.ref D) H'→(∀h',Heap.SameBut C s'.heap h'→Inv X pins σ H' { s' with heap:=h'})→C≠D→(∀b o,s2.heap.get? b=some o→b≠C)→H' C=none→s2.heap.objs.size≤C→RR (.ref D) C (.ok .next) s') :
  wpAny (model X.prog X.w) X.A (newList []) (fun acc s₃=>wpAny (model X.prog X.w) X.A (newFunctionEnv scope X.env.globals cl [] X.env.qual none .none (some X.env)) (fun cenv s₄ =>
   codeAny (model X.prog X.w) X.A (.compStart (.ListComp elt [⟨.Name x px,iter,ifs,0⟩] scope pos) 0 (.ref it) acc {cenv with scope:=relabel scope X.env}) (RR acc cenv.locals) s₄) E s₃) E s2:=by
 have hxv:(relabel scope X.env).names.lookup x=some .local:=lookup_relabel_local S.loc;refine Od S hcalm (fun σ'=>∀v,σ'.set ix v=(carry fr σ).set ix v) (fun _=>rfl) (fun C=>BX (X:=Aw X scope cl N C s2 H2 fp) S.nd S.at_ (.inl hxv) (.inr hxv)) hfr hlen hif he I2 T st2 f2 c1 c2 (fun D hD=>?_) fin;obtain⟨W,w0,st⟩:=W D hD;refine⟨W,w0,fun i m ys H w=>?_⟩;obtain⟨h1,h2|⟨h2,h3,h4⟩⟩:=st i m ys H w
 ·exact⟨h1,.inl h2⟩
 ·refine⟨h1,.inr ⟨h2,h3,fun x H' hy σ' hr=>?_⟩⟩;have:=h4 x H' hy;rw[←hr]at this;exact⟨fun v=>by rw[List.set_set,hr],this⟩
def WI(S:FT scope N x ix)(hcalm:X.calm=true)(hfr:EV N X.N scope X.env.scope fr 0=true)(hlen:fr.length=N.length)(hfree:∀y∈scope.names,y.2=.free→X.env.scope.names.lookup y.1=some .cell∨X.env.scope.names.lookup y.1=some .free)
 (hi:PI X (.Name x px) iter wi)(hif:∀cl C s₀ H₀ fp,MJ (Aw X scope cl N C s₀ H₀ fp) ifs tif)(he:∀cl C s₀ H₀ fp,PE (Aw X scope cl N C s₀ H₀ fp) elt te)
 (hs:∀x,foldedSetIterable iter X.env x=pure x:=by intro _;rfl):PE X (.ListComp elt [⟨.Name x px,iter,ifs,0⟩] scope pos) (J7 wi fr ix tif te):=by
 intro pins s σ H Q I hw;obtain⟨cl,hclos,c1,_,c2⟩:=Fw (env:=X.env) scope.names [] (fun y hy hf=>I.ok.has y.1 (hfree y hy hf)) (fun y c z=>by cases z);have hclos':closureFor scope X.env=pure cl:=by
  have e:closureFor scope X.env=((forIn scope.names [] (fun(x:Str×NameKind) (r:List (Str×AD))=>do if(x.2==NameKind.free)=true then do let a ←cellOf X.env x.1;pure (ForInStep.yield ((x.1,a)::r)) else pure (ForInStep.yield r)):Sem (List (Str×AD)))>>=fun cs=>pure cs):=rfl;rw[e,hclos]
  rfl
 rw[eval_ListComp];refine wpAny_comprehension_free (use:=none) rfl hs hclos' S.kind S.names (Au (hi pins s σ H _ I hw) fun v s1 h1=>Au h1 fun itv s2 h2=>?_);obtain⟨it,fp,tn,J,H2,e,I2,T,st2,f2,W⟩:=h2;subst e;refine LV (RR:=fun acc C=>compPost (model X.prog X.w) X.A X.xe none (EP X pins σ Q) acc C) S hcalm hfr hlen hif he I2 T st2 f2 c1 c2 W ?_;intro D C s' H' m hn q hI _ _ _ _;exact⟨m,hn,fun h' hs'=>⟨.ref D,H',hI h' hs',rfl,q⟩⟩
def QB{i : Nat}{y : Str}{py spos : Pos}(hN : X.N.Nodup)(hy : X.N[i]? = some y)(hly : X.env.scope.names.lookup y = some .local)(S : FT scope N x ix)(hcalm : X.calm = true)(hfr : EV N X.N scope X.env.scope fr 0 = true)(hlen : fr.length = N.length)
 (hfree : ∀ y∈scope.names,y.2 = .free→X.env.scope.names.lookup y.1 = some .cell∨X.env.scope.names.lookup y.1 = some .free)
 (hi : PI X (.Name x px) iter wi)(hif : ∀ cl C s₀ H₀ fp,MJ (Aw X scope cl N C s₀ H₀ fp) ifs tif)(he : ∀ cl C s₀ H₀ fp,PE (Aw X scope cl N C s₀ H₀ fp) elt te)
 (hsw : swapsWith (.ListComp elt [⟨.Name x px,iter,ifs,0⟩] scope pos) (some (.Name y py)) spos.line X.env = pure true := by rfl)
 (hs : ∀ x,foldedSetIterable iter X.env x = pure x := by intro _; rfl) :
    PS X (.Assign [.Name y py] (.ListComp elt [⟨.Name x px,iter,ifs,0⟩] scope pos) spos) (NK (J7 wi fr ix tif te) (EA i)) := by
  intro pins s σ H D I hw
  obtain ⟨cl,hclos,c1,_,c2⟩:=Fw (env:=X.env) scope.names [] (fun y hy hf => I.ok.has y.1 (hfree y hy hf)) (fun y c z => by cases z)
  have hclos' : closureFor scope X.env = pure cl := by
    have e : closureFor scope X.env = ((forIn scope.names [] (fun (x : Str×NameKind) (r : List (Str×AD)) => do if (x.2 == NameKind.free) = true then do let a ← cellOf X.env x.1; pure (ForInStep.yield ((x.1,a) :: r)) else pure (ForInStep.yield r)) : Sem (List (Str×AD))) >>= fun cs => pure cs):=rfl
    rw [e,hclos]
    rfl
  rw [exec_Assign_Name_used _ _ _ _ hsw]
  refine Wb (wpAny_standAt (Wb ?_))
  show wpAny _ X.A (do let _ ← comprehension (.ListComp elt [⟨.Name x px,iter,ifs,0⟩] scope pos) scope X.env _ (newList []) false (eval iter X.env) (some (assign (.Name y py) X.env))) _ _ s
  refine Wb (aQ (wpAny_comprehension_free (use:=some (assign (.Name y py) X.env)) (Q:=fun _ s' => SP X pins D .next s') rfl hs hclos' S.kind S.names
    (Au (hi pins s σ H _ I hw) fun v s1 h1 => Au h1 fun itv s2 h2 => ?_)) (fun _ s' hq => aB (aB hq)) fun _ _ e => e)
  obtain ⟨it,fp,tn,J,H2,e,I2,T,st2,f2,W⟩:=h2
  subst e
  refine LV (Q:=fun x H1 => EA i x σ H1 D.nx) (RR:=fun acc C => compPost (model X.prog X.w) X.A X.xe (some (assign (.Name y py) X.env)) (fun _ s' => SP X pins D .next s') acc C) S hcalm hfr hlen hif he I2 T st2 f2 c1 c2 W ?_
  intro D' C s' H' m hn q hI hCD hold hfreeC hsz
  have I5 : Inv X pins σ H' s':=hI s'.heap (Heap.SameBut.refl ..)
  refine wpAny_assign_Name (MU I5 hN hy (.inl hly) (v:=.ref D') rfl (fun s'' I6 ⟨a,hsb,ha⟩ => ?_) (.inr hly))
  have hL : C≠X.env.locals:=fun z => by
    obtain ⟨_,⟨o,_,_,e,_⟩,_⟩:=I2.loc
    exact hold _ _ e z.symm
  have hcl : ∀ z c,X.env.cells.lookup z = some c→c≠C:=fun z c e => by
    obtain ⟨_,o,ho,_⟩:=I2.cell z c e
    exact hold _ _ ho
  have hCa : C≠a := by
    rcases ha with z | z
    · rw [z]; exact hL
    · exact Ne.symm (hcl _ _ z)
  refine ⟨m,hn.sameBut hsb hCa,fun h' hs' => ⟨_,H',I6.turned (t':=s''.toks) (it:=C) (fun b o hb e => (hs'.2 b hb).trans e) hfreeC hL (.inr (aZ I2.sz hsz)) hcl fun p hp => ?_,q⟩⟩
  obtain ⟨e,_⟩:=I2.pin p hp
  exact hold _ _ e
end
end L2
namespace FM
def gi(a b:Int):Int:=(Int.gcd a b:Int)
def Nr(a b:Int):Int.gcd b (a.fmod b)=Int.gcd a b:=by
 have e:a.fmod b=a-b*a.fdiv b:=Int.fmod_def a b;rw[e,Int.gcd_comm a b];exact Int.gcd_sub_mul_left_right b a (a.fdiv b)
def MR(a b:Int)(hb:b≠0):(a.fmod b).natAbs<b.natAbs:=by
 rcases Int.lt_or_gt_of_ne hb with h|h
 ·have h1:-(a.fmod b)=(-a).fmod (-b):=by
   rw[Int.fmod_def,Int.fmod_def,Int.neg_fdiv_neg];have:-b*a.fdiv b=-(b*a.fdiv b):=Int.neg_mul _ _;omega
  have h2:=Int.fmod_nonneg_of_pos (-a) (show 0 < -b by omega);have h3:=Int.fmod_lt_of_pos (-a) (show 0 < -b by omega);omega
 ·have h2:=Int.fmod_nonneg_of_pos a h;have h3:=Int.fmod_lt_of_pos a h;omega
def Nl{a b:Int}(hb:b≠0):0<gi a b:=by
 have:0<Int.gcd a b:=Int.gcd_pos_of_ne_zero_right a hb;unfold gi;omega
def Zx{a b:Int}(hb:b≠0):(gi a b).natAbs≤b.natAbs:=by
 have h:Int.gcd a b ∣ b.natAbs:=by
  have:=Int.gcd_dvd_right a b;exact Int.natAbs_dvd_natAbs.mpr this
 have h2:0<b.natAbs:=by omega
 have:=Nat.le_of_dvd h2 h;unfold gi;omega
def gs(t b:Int):Int:=if b<0 then -gi t b else gi t b
def Zu{t b:Int}(hb:b≠0):gs t b≠0:=by
 have:=Nl (a:=t) hb;unfold gs;split<;>omega
def Zj{t b:Int}(hb:b≠0):(gs t b).natAbs≤b.natAbs:=by
 have:=Zx (a:=t) hb;unfold gs;split<;>omega
def Fy{g x k:Int}(hg:g≠0)(e:x=g*k):x.fdiv g=k:=by
 subst e;exact Int.mul_fdiv_cancel_left k hg
def Ox(a b:Int):gi a b ∣ a:=Int.gcd_dvd_left a b
def Nq(a b:Int):gi a b ∣ b:=Int.gcd_dvd_right a b
def S6{t b:Int}(hb:b≠0):t.fdiv (gs t b)=(Rat.divInt t b).num:=by
 have hp:=Nl (a:=t) hb;obtain⟨k,hk⟩:=Ox t b;rw[Rat.num_divInt,Int.gcd_comm b t];show t.fdiv (gs t b)=b.sign*t / gi t b;unfold gs;generalize gi t b=g at hp hk ⊢;rcases Int.lt_or_gt_of_ne hb with h|h
 ·rw[if_pos h,Int.sign_eq_neg_one_of_neg h,Fy (k:=-k) (by omega) (by rw[hk];simp[Int.mul_neg,Int.neg_mul])];have:-1*t=g*(-k):=by rw[hk];simp[Int.mul_neg]
  rw[this,Int.mul_ediv_cancel_left _ (by omega)]
 ·rw[if_neg (by omega),Int.sign_eq_one_of_pos h,Fy (k:=k) (by omega) hk,Int.one_mul,hk,Int.mul_ediv_cancel_left _ (by omega)]
def RU{t b:Int}(hb:b≠0):b.fdiv (gs t b)=((Rat.divInt t b).den:Int):=by
 have hp:=Nl (a:=t) hb;obtain⟨k,hk⟩:=Nq t b;rw[Rat.den_divInt,if_neg hb,Int.gcd_comm b t];have e:(((b.natAbs / Int.gcd t b:Nat)):Int)=(b.natAbs:Int) / gi t b:=by unfold gi;simp
 rw[e];unfold gs;generalize gi t b=g at hp hk ⊢;rcases Int.lt_or_gt_of_ne hb with h|h
 ·rw[if_pos h,Fy (k:=-k) (by omega) (by rw[Int.neg_mul_neg];exact hk)];have:(b.natAbs:Int)=g*(-k):=by rw[Int.mul_neg,←hk];omega
  rw[this,Int.mul_ediv_cancel_left _ (by omega)]
 ·rw[if_neg (by omega),Fy (k:=k) (by omega) hk];have:(b.natAbs:Int)=g*k:=by rw[←hk];omega
  rw[this,Int.mul_ediv_cancel_left _ (by omega)]
def G5(a b:Int):(a.fdiv b).natAbs≤a.natAbs:=by
 cases a with
 |ofNat n =>
  cases n with
  |zero =>
   have e:Int.fdiv (.ofNat 0) b=0:=Int.zero_fdiv b;rw[e];exact aa _
  |succ k =>
   cases b with
   |ofNat j=>exact Nat.div_le_self (k+1) j
   |negSucc j=>exact Nat.succ_le_succ (Nat.div_le_self k (j+1))
 |negSucc k =>
  cases b with
  |ofNat j =>
   cases j with
   |zero=>exact aa _
   |succ j=>exact Nat.succ_le_succ (Nat.div_le_self k (j+1))
  |negSucc j=>exact Nat.div_le_self (k+1) (j+1)
def YS{t b:Int}(hb:b≠0):(Rat.divInt t b).num.natAbs≤t.natAbs:=by
 rw[←S6 hb];exact G5 _ _
def XB{t b:Int}(hb:b≠0):(Rat.divInt t b).den≤b.natAbs:=by
 have h:=G5 b (gs t b);rw[RU hb]at h
 simpa using h
def LW(p:Rat):(p.den:Int)≠0:=by
 have:=p.den_nz;omega
def KY(p:Rat):Rat.divInt p.num p.den=p:=Rat.num_divInt_den p
def RB(p q:Rat):Rat.divInt (p.num*q.den+q.num*p.den) (p.den*q.den)=p+q:=by
 rw[←Rat.divInt_add_divInt _ _ (LW p) (LW q),KY,KY]
def PH(p q:Rat):(p.den:Int)*q.den≠0:=Int.mul_ne_zero (LW p) (LW q)
def Vu{p q:Rat}(h1:p.num=q.num)(h2:(p.den:Int)=(q.den:Int)):p=q:=Rat.ext h1 (by omega)
def OI{x y:Int}{m n:Nat}(hx:x.natAbs<2^m)(hy:y.natAbs<2^n):(x*y).natAbs<2^(m+n):=by
 rw[Int.natAbs_mul,Nat.pow_add];exact Nat.mul_lt_mul'' hx hy
def Yp{x y:Int}{n:Nat}(hx:x.natAbs<2^n)(hy:y.natAbs<2^n):(x+y).natAbs<2^(n+1):=by
 rw[Nat.pow_succ];omega
def Lr{x:Nat}{m n:Nat}(hx:x<2^m)(h:m≤n):x<2^n:=aK hx (az (by decide) h)
def Fits(p:Rat)(n:Nat):Prop:=p.num.natAbs<2^n∧p.den<2^n
def Fits.mono{p:Rat}{m n:Nat}(h:Fits p m)(l:m≤n):Fits p n:=⟨Lr h.1 l,Lr h.2 l⟩
def Fits.d{p:Rat}{n:Nat}(h:Fits p n):((p.den:Int)).natAbs<2^n:=by simpa using h.2
def Fits.RA{t b:Int}{n:Nat}(hb:b≠0)(h1:t.natAbs<2^n)(h2:b.natAbs<2^n):Fits (Rat.divInt t b) n :=
 ⟨Nat.lt_of_le_of_lt (YS hb) h1,Nat.lt_of_le_of_lt (XB hb) h2⟩
def Vk{p q:Rat}{m n:Nat}(h:Fits p m)(k:Fits q n):(p.num*q.den+q.num*p.den).natAbs<2^(m+n+1) :=
 Yp (OI h.1 k.d) (by have:=OI k.1 h.d;rwa [Nat.add_comm n m]at this)
def dd{p q:Rat}{m n:Nat}(h:Fits p m)(k:Fits q n):((p.den:Int)*q.den).natAbs<2^(m+n):=OI h.d k.d
def Fits.sum{p q:Rat}{m n:Nat}(h:Fits p m)(k:Fits q n):Fits (p+q) (m+n+1):=by
 rw[←RB];exact .RA (PH p q) (Vk h k) (Lr (dd h k) (by omega))
end FM
namespace FM
def Pw(a b:Int):Int.gcd (if a<0 then -a else a) (if b<0 then -b else b)=Int.gcd a b:=by
 split<;>split<;>simp[Int.gcd_neg,Int.neg_gcd]
def abs_nonneg(a:Int):0≤(if a<0 then -a else a):=by split<;>omega
def Rr{g a b:Int}(h:Int.gcd g 0=Int.gcd a b)(h0:0≤g):g=gi a b:=by
 unfold gi;rw[←h,Int.gcd_zero_right];omega
def fmod_nonneg{g l:Int}(hl:l≠0)(h:0≤l):0≤g.fmod l:=Int.fmod_nonneg_of_pos g (by omega)
end FM
namespace L2
open PySem PySem.Spec PyProof.Rows
structure Fn(K:Fg)(mg:Str→Option Value)(x:Str)(st:Stmt)(ps:List Str)(f:Addr)(fd:FuncData):Prop where
 F:Mi K x x st f fd
 b:Binds K fd ps []
 m:mg x=some (.ref f)
section
variable{X:Cx}{k:Nat}{f:AD}{fd:FuncData}{ps:List Str}{sp:Sp}{x:Str}{st:Stmt}{p pos:Pos}{e:Expr}{es:List Expr}{t:TA}
def LL(T:Fn X.K X.mg x st ps f fd)(G:AM X.prog X.w X.K X.mg X.base A6 k f fd ps sp)(hr:B5 k X.A)(hg:Gl X x)(ha:PA X (e::es) t)
 (hdb:(x==("__debug__" : Str))=false:=by decide)(he:starEach (e::es) X.env=(false,eval e X.env)::starEach es X.env:=by rfl)(hpl:(backTo pos (starEach es X.env)).any (·.1)=false:=by rfl) :
  PE X (.Call (.Name x p) (e::es) [] pos) (QW sp [] E0 t):=Pp G hr hg T.m T.F.kp T.b .nil Zy ha hdb he hpl
end
def TJ{t u:TS}{D:Ends}{σ:St}{H:Hp}(P:St→Hp→Prop)(h1:∀nx:St→Hp→Prop,(∀σ' H',P σ' H'→nx σ' H')→t {D with nx:=nx} σ H)(h2:∀σ' H',P σ' H'→u D σ' H'):Yo t u D σ H:=h1 _ h2
def W7:2≤sizeLine:=by decide
def BQ{H:Hp}{p:AD}(h:H p=none)(o:HO):AI H (upd H p o):=fun b u q=>by rw[AH (Ad q h)];exact q
def cF(p:Rat):List V:=[.int p.num,.int (p.den:Int)]
structure bR(P:Program)(w:World)(outer:List Env)(H:Hp)(s:Shared)(ea:Addr)(cls a0:Value)(H':Hp)(s':Shared)(B:Heap):Prop where
 os:s'.os=s.os
 bare:AllBare s'.gens
 cu:Heap.FlyingW B outer ea cls a0 s'.heap
 keep:∀b o,s.heap.get? b=some o→H b=none→b ∉ Dw outer→B.get? b=some o
 there:∀b o,s.heap.get? b=some o→b ∉ Dw outer→∃o',B.get? b=some o'
 slot:∀b o,s.heap.get? b=some o→b∈Dw outer→∃sl,s'.heap.get? b=some {o with slots:=sl}
 free:∀b o,s.heap.get? b=some o→H b=none→H' b=none
 Bu:∀b xs,H b=some (.tup xs)→H' b=some (.tup xs)
 Ed:∀b o u,H b=some (.DP o u)→H' b=some (.DP o u)
 E9:∀b ps,H b=some (.LR ps)→∃more,H' b=some (.LR (ps++more))
 Ag:Cp P w H' B
 new:s.heap.get? ea=none
def B2(P:Program)(w:World):FX:=fun outer H s E e s'=>∃ea cls a0 H' B,e=.ref ea∧bR P w outer H s ea cls a0 H' s' B∧E cls none H'
def Nd{base h:Heap}{l:List Env}(F:h.FunFrames base l){b:AD}(hb:b∈Dw l):∃o,h.get? b=some o∧∀vs,o.data≠.fields vs:=(F.mem hb).2
section
variable{P:Program}{w:World}{K:Fg}{mg:Str→Option VL}{base:Heap}{N:List Str}{qual:Str}{scope:Scope}{f:AD}{cd:VL}{A:Around}{outer:List Env}{s:SD}{H:Hp}{E:XK}
def V1{pins:List (AD×Obj)}{σ:St}{H1:Hp}{s1:SD}{h':Heap}{ea:AD}{cls:VL}{args:List VL}(I:Inv (Bo (B2 P w) P w K mg base N qual scope f cd A outer s H E) pins σ H1 s1)
 (hx:Heap.MadeExcOf s1.heap h' ea cls args)(hE:E cls none H1):(Bo (B2 P w) P w K mg base N qual scope f cd A outer s H E).xe (.ref ea) {s1 with heap:=h'}:=by
 show wpAny (model P w) (A.deeper (envOfC qual scope s.heap.objs.size f cd)) (leaving (envOfC qual scope s.heap.objs.size f cd) (.ref ea)) _ _ _;have FF:=I.stack;have hfr:(A.deeper (envOfC qual scope s.heap.objs.size f cd)).frames=some (envOfC qual scope s.heap.objs.size f cd::outer):=I.ok.frames;have hin:∀env∈(envOfC qual scope s.heap.objs.size f cd::outer),∀b,env.frame=some b→b∈(envOfC qual scope s.heap.objs.size f cd::outer).filterMap (·.frame):=fun env he b hb=>List.mem_filterMap.mpr ⟨env,he,hb⟩;have notL:∀b o,s.heap.get? b=some o→b≠s.heap.objs.size:=fun b o e=>aI (aG e);have out:∀b,b≠s.heap.objs.size→b ∉ Dw outer→b ∉ (envOfC qual scope s.heap.objs.size f cd::outer).filterMap (·.frame):=fun b h1 h2 hm=>by
  rcases aN.mp (I.JS b hm) with z|z
  ·exact h1 z
  ·exact h2 z
 have outT:∀b u,H1 b=some u→b ∉ (envOfC qual scope s.heap.objs.size f cd::outer).filterMap (·.frame):=fun b u e hm=>by
  have:=I.Lv b hm;rw[e]at this;cases this
 refine wpAny_leaves_madeW (base:=PySem.W.hideAll s1.heap ((envOfC qual scope s.heap.objs.size f cd::outer).filterMap (·.frame))) hfr rfl (fun b o q=>PySem.W.of_hideAll _ q) (PySem.W.funFrames_hide FF hin) hx fun h2 t fl _ _ up=>?_;have hokB:Cp P w H1 (PySem.W.hideAll s1.heap ((envOfC qual scope s.heap.objs.size f cd::outer).filterMap (·.frame))):=fun b u e =>
  (I.Ag b u e).GV (fun c v hc q=>PySem.W.hideAll_get _ q (by
   rcases hc with rfl|hc
   ·exact outT _ _ e
   ·exact outT _ _ hc)) (fun _ q=>q) fun _ _ q=>q
 refine⟨ea,cls,.ref t,H1,_,rfl,⟨I.os,I.bare,fl,fun b o e n hb=>?_,fun b o e hb=>?_,fun b o e hb=>?_,fun b o e n=>I.base.free b o e n (by simp[Bo]),I.base.Bu,I.base.Ed,I.base.E9,hokB,?_⟩,hE⟩
 ·exact PySem.W.hideAll_get _ (I.base.keep b o e n hb (by simp[Bo])) (out b (notL b o e) hb)
 ·obtain⟨o',e1⟩:=I.base.there b o e (by simp[Bo]);exact⟨o',PySem.W.hideAll_get _ e1 (out b (notL b o e) hb)⟩
 ·obtain⟨sl,e1⟩:=I.base.slot b o e (I.ok.MO b hb) hb (by simp[Bo]);obtain⟨o',e2,hd⟩:=Nd I.FA hb;rw[e1]at e2;cases e2;obtain⟨sl',e3⟩:=up b _ (hx.keeps _ _ e1) hd;exact⟨sl',e3⟩
 ·cases q:s.heap.get? ea with
  |none=>rfl
  |some o =>
   obtain⟨o',e1⟩:=I.base.there ea o q (by simp[Bo]);have:=hx.new;rw[e1]at this;cases this
def ZL{E':XK}(hE:∀c a H',E' c a H'→E c a H'):Passes (B2 P w) (Bo (B2 P w) P w K mg base N qual scope f cd A outer s H E) E':=by
 intro pins σ H1 s1 e s2 I ⟨ea,cls,a0,H2,B,ee,F,hq⟩;subst ee;show wpAny (model P w) (A.deeper (envOfC qual scope s.heap.objs.size f cd)) (leaving (envOfC qual scope s.heap.objs.size f cd) (.ref ea)) _ _ _;have notL:∀b o,s.heap.get? b=some o→b≠s.heap.objs.size:=fun b o e=>aI (aG e);have out:∀b,b≠s.heap.objs.size→b ∉ Dw outer→b ∉ Dw (Bo (B2 P w) P w K mg base N qual scope f cd A outer s H E).stack:=fun b h1 h2 hm=>by
  rcases aN.mp (I.JS b hm) with z|z
  ·exact h1 z
  ·exact h2 z
 refine wpAny_leaves_onW I.ok.frames rfl F.cu fun h3 fl up=>?_;refine⟨ea,cls,a0,H2,B,rfl,⟨F.os.trans I.os,F.bare,fl,fun b o e n hb=>?_,fun b o e hb=>?_,fun b o e hb=>?_,fun b o e n=>?_,fun b xs q=>F.Bu b xs (I.base.Bu b xs q),fun b o u q=>F.Ed b o u (I.base.Ed b o u q),fun b ps q=>?_,F.Ag,?_⟩,hE _ _ _ hq⟩
 ·exact F.keep b o (I.base.keep b o e n hb (by simp[Bo])) (I.base.free b o e n (by simp[Bo])) (out b (notL b o e) hb)
 ·obtain⟨o',e1⟩:=I.base.there b o e (by simp[Bo]);exact F.there b o' e1 (out b (notL b o e) hb)
 ·obtain⟨sl,e1⟩:=I.base.slot b o e (I.ok.MO b hb) hb (by simp[Bo]);have hb':b∈Dw (Bo (B2 P w) P w K mg base N qual scope f cd A outer s H E).stack:=by
   show b∈Dw (envOfC qual scope s.heap.objs.size f cd::outer);unfold Dw;rw[List.filterMap_cons];exact aO _ hb
  obtain⟨sl2,e2⟩:=F.slot b _ e1 hb';obtain⟨o',e3,hd⟩:=Nd I.FA hb;rw[e1]at e3;cases e3;obtain⟨sl3,e4⟩:=up b _ e2 hd;exact⟨sl3,e4⟩
 ·obtain⟨o',e1⟩:=I.base.there b o e (by simp[Bo]);exact F.free b o' e1 (I.base.free b o e n (by simp[Bo]))
 ·obtain⟨m1,e1⟩:=I.base.E9 b ps q;obtain⟨m2,e2⟩:=F.E9 b _ e1;exact⟨m1++m2,by rw[e2,Array.append_assoc]⟩
 ·cases q:s.heap.get? ea with
  |none=>rfl
  |some o =>
   obtain⟨o',e1⟩:=I.base.there ea o q (by simp[Bo]);have:=F.new;rw[e1]at this;cases this
def Mi.cv{x:Str}{st:Stmt}{fd:FuncData}{ps:List Str}{k:Nat}{sp:Sp}(F:Mi K x x st f fd)(S:Aj N ps (AL st))(len:∀vs H Q E,sp vs H Q E→vs.length=ps.length)
 (hbody:∀(cdv:VL) (A:Around) (outer:List Env) (s:SD) (H:Hp) (vs:List V) (Q:VK) (E:XK),B5 k (A.deeper (envOfC x (AL st) s.heap.objs.size f cdv))→sp vs H Q E →
   ∃t,Ew (Bo (B2 P w) P w K mg base N x (AL st) f cdv A outer s H E) (CD st) t∧t { nx:=fun _ H'=>Q .Ao H',rt:=Q} (start N vs) H):AM P w K mg base (B2 P w) (k+1) f fd ps sp:=by
 obtain⟨oc,od,kV,doc,pm,an,cdv,ct,osl,rfl,lk,hcd⟩:=F.ex;exact U3 lk hcd S len fun A outer s H vs Q E hr hsp=>hbody cdv A outer s H vs Q E hr hsp
def AM.cb{fd:FuncData}{ps:List Str}{k:Nat}{sp:Sp}(F:AM P w K mg base A6 k f fd ps sp):AM P w K mg base (B2 P w) k f fd ps sp :=
 ⟨F.len,fun A outer s H args us vs Q E hr he hb hv hs=>codeAny_mono (F.run A outer s H args us vs Q E hr he hb hv hs) fun r s' h=>by
  cases r with
  |ok fl=>cases fl<;>exact h
  |error e=>exact False.elim h⟩
end
structure Exc(K:Fg)(mg:Str→Option Value)(x:Str)(C:Addr):Prop where
 m:mg x=some (.ref C)
 q:PySem.W.excIn K C [.type "ValueError",.type "Exception",.type "BaseException",.type "object"] "ValueError.__new__" = true
def WG{K:Fg}{h:Heap}{C:AD}{bB:List VL}{nid:String}(LI:K.In h)(hq:PySem.W.excIn K C bB nid=true) :
  ∃tl N nm qn bs hd sn sub ab col dd k0 k1 k2 k3 k5 mN,h.get? C=some (excClassObj nm qn C N bs tl hd sn sub ab col dd k0 k1 k2 k3 k5 nid)∧h.Ns N mN∧mN "__init__" = none∧OwnTail h bB tl:=by
 unfold PySem.W.excIn at hq;split at hq
 ·rename_i dd cd sl lk;split at hq
  ·rename_i C1 tl k0 k1 k2 k3 n1 k5 e1 e2;simp only[Bool.and_eq_true,beq_iff_eq,Bool.not_eq_true']at hq;obtain⟨⟨⟨⟨⟨y1,y2⟩,y3⟩,y4⟩,y5⟩,y6⟩:=hq;subst y1 y2;obtain⟨nm,bs,mro,N,qn,hd,sn,sub,ab,col,del⟩:=cd;dsimp only at e1 y3 y5 y6;subst e1 y3;have e3:sl=#[k0,k1,k2,k3,some (.builtin n1),k5]:=by
    cases sl with
    |mk l=>simp only at e2;rw[e2]
   subst e3;exact⟨tl,N,nm,qn,bs,hd,sn,sub,ab,col,dd,k0,k1,k2,k3,k5,_,LI _ _ lk,.of_isNs (PySem.W.isNs_of_in LI y5),PySem.W.nsMap_none_of_in LI y5 y6,PySem.W.tail_of_in LI y4⟩
  ·cases hq
 ·cases hq
section
variable{X:Cx}{x:Str}{C:AD}{np cpos pos:Pos}{e:Expr}{te:TE}{E:XK}
def Lets(X:Cx)(E:XK):Prop:=∀(pins:List (AD×Obj)) (σ:St) (H:Hp) (s:SD) (h':Heap) (ea:AD) (cls:VL) (args:List VL),Inv X pins σ H s→Heap.MadeExcOf s.heap h' ea cls args→E cls none H→X.xe (.ref ea) {s with heap:=h'}
def X8(C:AD)(E:XK)(te:TE):TS:=fun _ σ H=>te σ H fun _ H1=>E (.ref C) none H1
def UY(T:Exc X.K X.mg x C)(hL:Lets X E)(hcalm:X.calm=true)(hg:Gl X x)(he:PE X e te)(hd:(x==("__debug__" : Str))=false:=by decide)
 (hst:starEach [e] X.env=[(false,eval e X.env)]:=by rfl):PS X (.Raise (some (.Call (.Name x np) [e] [] cpos)) none pos) (X8 C E te):=by
 intro pins s σ H D I h;obtain⟨tl,N,nm,qn,bs,hdct,sn,sub,ab,col,dd,k0,k1,k2,k3,k5,mN,hC,hN,hni,TL⟩:=WG I.ok.mod.LI T.q;refine wpAny_Raise_call_subT (C:=C) (nm:=nm) (q:=qn) (N:=N) (bs:=bs) (bm:=tl) (hdct:=hdct) (sn:=sn) (sub:=sub) (ab:=ab) (col:=col) (dd:=dd) (k0:=k0) (k1:=k1) (k2:=k2) (k3:=k3) (k5:=k5)
  PySem.F.excBase_ValueError (mN:=mN) (TL.hasType (by decide)) (I.ok.hd hcalm) (by rw[hst];rfl) hni (Lj I hg T.m ⟨rfl,?_⟩ hd)
 rw[hst];refine Calls.evalArgs_plain (Calls.spliced_cons (Au (he pins s σ H _ I h) fun u s1 ⟨v,H1,I1,r1,q1⟩=>Calls.spliced_nil ?_));exact⟨rfl,by show 1≤sizeLine;decide,I1.bk _ _ hC,hN.keeps I1.bk,TL.keeps I1.bk,fun h' ea hm=>hL pins σ H1 s1 h' ea _ _ I1 hm q1⟩
end
def cX(ea:AD)(cls:VL):HO:=.ext fun h=>∃o vs,h.get? ea=some o∧o.cls=cls∧o.data=.fields vs
structure PQ(K:Fg)(C G:Addr)(b:Bool):Prop where
 cl:(PySem.W.clsIn K G).isSome=true
 ty:PySem.W.typeIn K (.ref G)=some (.type "type")
 ex:PySem.W.subIn K (.ref G) (.type "BaseException")=some true
 sub:PySem.W.subIn K (.ref C) (.ref G)=some b
open PySem PySem.Spec PyProof.Rows PySem.Builtin.ObjectAttr PySem.Builtin.Getset_descriptor
structure Xg(K:Fg)(C:Addr):Prop where
 cl:(PySem.W.clsIn K C).isSome=true
 ga:PySem.W.findIn K (.ref C) "__getattribute__" = some (some (.builtin "BaseException.__getattribute__"))
 gh:PySem.W.findIn K (.ref C) "__getattr__" = some none
 at_:PySem.W.findIn K (.ref C) "__class__" = some (some (.builtin "object.__class__"))
 gt:PySem.W.specialIn K (.builtin "object.__class__") "__get__" = some (some (.builtin "getset_descriptor.__get__"))
 tk:PySem.W.takesIn K (.builtin "object.__class__")=some true
 ob:PySem.W.mroIn K C (.type "object")=some true
 be:PySem.W.mroIn K C (.type "BaseException")=some true
def Lk:V→VL
 |.ref C=>.ref C
 |.ty n=>.type n
 |_=>.none
def WW{c:V}{u:VL}(r:RelV c u)(h:Lk c≠.none):u=Lk c:=by
 cases c with
 |ref C=>exact r
 |ty n=>exact r
 |_=>exact absurd rfl h
section
variable{X:Cx}
def b5(K:Fg):List V→Hp→VK→Prop:=fun xs H Q=>∃x c t b,xs=[x,c]∧Lk c≠.none∧ED K H x t∧PySem.W.kitOne K t (Lk c)=some b∧Q (.bl b) H
def GS:CN X (.builtin "isinstance") (b5 X.K):=by
 intro pins s σ H xs us Q I r h;obtain⟨x,c,t,b,rfl,hc,ty,e,q⟩:=h;obtain⟨u,v,rfl,r1,r2⟩:=r.two;rw[WW r2 hc];exact Ry I r1 ty e fun tk=>⟨.bl b,H,I.tok tk,rfl,q⟩
end
def Xe(K:Fg):PySem.W.kitOne K (.type "tuple") (.type "tuple")=some true:=rfl
def ZD(K:Fg):PySem.W.kitOne K (.type "int") (.type "int")=some true:=rfl
def ZF(K:Fg):PySem.W.kitOne K (.type "bool") (.type "bool")=some true:=rfl
def Yl(K:Fg):PySem.W.kitOne K (.type "int") (.type "bool")=some false:=by kernel_rfl
def Xs(K:Fg):PySem.W.kitOne K (.type "bool") (.type "int")=some true:=by kernel_rfl
def ZE(K:Fg):PySem.W.kitOne K (.type "list") (.type "tuple")=some false:=by kernel_rfl
def ZA(K:Fg):PySem.W.kitOne K (.type "tuple") (.type "list")=some false:=by kernel_rfl
def XO(K:Fg):PySem.W.kitOne K (.type "list") (.type "list")=some true:=rfl
def W3(K:Fg):PySem.W.kitOne K (.type "int") (.type "tuple")=some false:=by kernel_rfl
def X9(K:Fg):PySem.W.kitOne K (.type "bool") (.type "tuple")=some false:=by kernel_rfl
def XU(K:Fg):PySem.W.kitOne K (.type "NoneType") (.type "tuple")=some false:=by kernel_rfl
def Xa(K:Fg):PySem.W.kitOne K (.type "str") (.type "tuple")=some false:=by kernel_rfl
def Xp(K:Fg):PySem.W.kitOne K (.type "tuple") (.type "int")=some false:=by kernel_rfl
def Y3(K:Fg):PySem.W.kitOne K (.type "list") (.type "int")=some false:=by kernel_rfl
def Xl(K:Fg):PySem.W.kitOne K (.type "NoneType") (.type "int")=some false:=by kernel_rfl
def YU(K:Fg):PySem.W.kitOne K (.type "str") (.type "int")=some false:=by kernel_rfl
def XX(K:Fg):PySem.W.kitOne K (.type "int") (.type "list")=some false:=by kernel_rfl
def Xj(K:Fg):PySem.W.kitOne K (.type "bool") (.type "list")=some false:=by kernel_rfl
def YO(K:Fg):PySem.W.kitOne K (.type "NoneType") (.type "list")=some false:=by kernel_rfl
def W0(K:Fg):PySem.W.kitOne K (.type "str") (.type "list")=some false:=by kernel_rfl
def freeOk(xsc:Scope)(names:List (Str×NameKind)):Bool:=names.all fun y=>y.2 != .free||xsc.names.lookup y.1==some .cell||xsc.names.lookup y.1==some .free
def MG{xsc:Scope}{names:List (Str×NameKind)}(h:freeOk xsc names=true):∀y∈names,y.2=.free→xsc.names.lookup y.1=some .cell∨xsc.names.lookup y.1=some .free:=fun y hy hf=>by
 have q:=List.all_eq_true.mp h y hy;rw[hf]at q;simp only[bne_self_eq_false,Bool.false_or,Bool.or_eq_true,beq_iff_eq]at q;exact q
def Cd(scope:Scope)(N:List Str)(x:Str)(ix:Nat):Bool :=
 scope.kind==.function&&(scope.names.all fun y=>y.2 != .cell&&(y.2 != .local||scope.names.lookup y.1==some .local)&&(y.2 != .free||scope.names.lookup y.1==some .free))&&scope.names.lookup x==some .local&&decide N.Nodup&&N[ix]? == some x
def Jk{scope:Scope}{N:List Str}{x:Str}{ix:Nat}(h:Cd scope N x ix=true):FT scope N x ix:=by
 unfold Cd at h;simp only[Bool.and_eq_true,beq_iff_eq,decide_eq_true_eq,List.all_eq_true,bne_iff_ne,Bool.or_eq_true]at h;obtain⟨⟨⟨⟨h1,h2⟩,h3⟩,h4⟩,h5⟩:=h;exact⟨h1,fun y hy=>(h2 y hy).1.1,fun y hy hl=>(h2 y hy).1.2.resolve_left fun z=>z hl,fun y hy hl=>(h2 y hy).2.resolve_left fun z=>z hl,h3,h4,h5⟩
section
variable{X:Cx}{elt iter:Expr}{x:Str}{px pos:Pos}{ifs:List Expr}{scope:Scope}{wi:TI}{tif:TT}{te:TE}
def OP(N:List Str)(ix:Nat)(fr:List (Option Nat))(hi:PI X (.Name x px) iter wi)(hif:∀cl C s₀ H₀ fp,MJ (Aw X scope cl N C s₀ H₀ fp) ifs tif)(he:∀cl C s₀ H₀ fp,PE (Aw X scope cl N C s₀ H₀ fp) elt te)
 (h1:Cd scope N x ix=true:=by decide +kernel)(h2:X.calm=true:=by rfl)(h3:EV N X.N scope X.env.scope fr 0=true:=by rfl)(h4:fr.length=N.length:=by rfl)(h5:freeOk X.env.scope scope.names=true:=by rfl)
 (hs:∀x,foldedSetIterable iter X.env x=pure x:=by intro _;rfl):PE X (.ListComp elt [⟨.Name x px,iter,ifs,0⟩] scope pos) (J7 wi fr ix tif te) :=
 WI (Jk h1) h2 h3 h4 (MG h5) hi hif he hs
def Oq{i:Nat}{y:Str}{py spos:Pos}(N:List Str)(ix:Nat)(fr:List (Option Nat))(hN:X.N.Nodup)(hy:X.N[i]? = some y)(hly:X.env.scope.names.lookup y=some .local)
 (hi:PI X (.Name x px) iter wi)(hif:∀cl C s₀ H₀ fp,MJ (Aw X scope cl N C s₀ H₀ fp) ifs tif)(he:∀cl C s₀ H₀ fp,PE (Aw X scope cl N C s₀ H₀ fp) elt te)
 (h1:Cd scope N x ix=true:=by decide +kernel)(h2:X.calm=true:=by rfl)(h3:EV N X.N scope X.env.scope fr 0=true:=by rfl)(h4:fr.length=N.length:=by rfl)(h5:freeOk X.env.scope scope.names=true:=by rfl)
 (hsw:swapsWith (.ListComp elt [⟨.Name x px,iter,ifs,0⟩] scope pos) (some (.Name y py)) spos.line X.env=pure true:=by rfl)
 (hs:∀x,foldedSetIterable iter X.env x=pure x:=by intro _;rfl):PS X (.Assign [.Name y py] (.ListComp elt [⟨.Name x px,iter,ifs,0⟩] scope pos) spos) (NK (J7 wi fr ix tif te) (EA i)) :=
 QB hN hy hly (Jk h1) h2 h3 h4 (MG h5) hi hif he hsw hs
end
section
variable{X:Cx}{k:Nat}{f:AD}{fd:FuncData}{ps:List Str}{sp:Sp}{x:Str}{st:Stmt}{p pos:Pos}{e:Expr}{es:List Expr}{t:TA}{E:XK}
def Sr(T:Fn X.K X.mg x st ps f fd)(G:AM X.prog X.w X.K X.mg X.base (B2 X.prog X.w) k f fd ps sp)(hr:B5 k X.A)(hg:Gl X x)(hP:Passes (B2 X.prog X.w) X E)(ha:PA X (e::es) t)
 (hdb:(x==("__debug__" : Str))=false:=by decide)(he:starEach (e::es) X.env=(false,eval e X.env)::starEach es X.env:=by rfl)(hpl:(backTo pos (starEach es X.env)).any (·.1)=false:=by rfl) :
  PE X (.Call (.Name x p) (e::es) [] pos) (QW sp [] E t):=Pp G hr hg T.m T.F.kp T.b .nil hP ha hdb he hpl
end
end L2
inductive Tr where
 |nil
 |cons (b r:Tr)
 deriving DecidableEq
namespace Tr
def bs:Tr→List Tr
 |.nil=>[]
 |.cons b r=>b::r.bs
def of:List Tr→Tr
 |[]=>.nil
 |b::r=>.cons b (of r)
def Mz:∀t:Tr,of t.bs=t
 |.nil=>rfl
 |.cons b r=>by rw[bs,of,Mz r]
def Qj:∀l:List Tr,(of l).bs=l
 |[]=>rfl
 |b::r=>by rw[of,bs,Qj r]
def YV{t u:Tr}(h:t.bs=u.bs):t=u:=by rw[←Mz t,h,Mz]
def len:Tr→Nat
 |.nil=>0
 |.cons _ r=>r.len+1
def Ep:∀t:Tr,t.bs.length=t.len
 |.nil=>rfl
 |.cons _ r=>by rw[bs,List.length_cons,Ep r,len]
def CT:Tr→Nat
 |.nil=>1
 |.cons b r=>b.CT+r.CT
def deep:Tr→Nat
 |.nil=>0
 |.cons b r=>max (b.deep+1) r.deep
def lt:Tr→Tr→Bool
 |.nil,.nil=>false
 |.nil,.cons _ _=>true
 |.cons _ _,.nil=>false
 |.cons b r,.cons c q=>if b=c then lt r q else lt b c
def lt_irrefl:∀t:Tr,lt t t=false
 |.nil=>rfl
 |.cons b r=>by rw[lt,if_pos rfl];exact lt_irrefl r
def lt_trans:∀a b c:Tr,lt a b=true→lt b c=true→lt a c=true
 |.nil,.nil,_,h,_=>by cases h
 |.nil,.cons _ _,.nil,_,h=>by cases h
 |.nil,.cons _ _,.cons _ _,_,_=>rfl
 |.cons _ _,.nil,_,h,_=>by cases h
 |.cons _ _,.cons _ _,.nil,_,h=>by cases h
 |.cons a r,.cons b s,.cons c t,h1,h2=>by
  rw[lt]at h1 h2 ⊢;by_cases e1:a=b
  ·subst e1;rw[if_pos rfl]at h1;by_cases e2:a=c
   ·subst e2;rw[if_pos rfl]at h2 ⊢;exact lt_trans r s t h1 h2
   ·rw[if_neg e2]at h2 ⊢;exact h2
  ·rw[if_neg e1]at h1;by_cases e2:b=c
   ·subst e2;rw[if_neg e1];exact h1
   ·rw[if_neg e2]at h2;have h3:=lt_trans a b c h1 h2;by_cases e3:a=c
    ·subst e3;rw[lt_irrefl]at h3;cases h3
    ·rw[if_neg e3];exact h3
def GO:∀a b:Tr,lt a b=false→lt b a=false→a=b
 |.nil,.nil,_,_=>rfl
 |.nil,.cons _ _,h,_=>by cases h
 |.cons _ _,.nil,_,h=>by cases h
 |.cons a r,.cons b s,h1,h2=>by
  rw[lt]at h1 h2;by_cases e:a=b
  ·subst e;rw[if_pos rfl]at h1 h2;rw[GO r s h1 h2]
  ·rw[if_neg e]at h1;rw[if_neg (Ne.symm e)]at h2;exact absurd (GO a b h1 h2) e
def KU(a b c:Tr)(h:lt a c=true):lt a b=true∨lt b c=true:=by
 cases h1:lt a b with
 |true=>exact .inl rfl
 |false =>
  right
  cases h2:lt b a with
  |true=>exact lt_trans b a c h2 h
  |false=>rw[←GO a b h1 h2];exact h
def lt_asymm{a b:Tr}(h:lt a b=true):lt b a=false:=by
 cases h2:lt b a with
 |false=>rfl
 |true=>have:=lt_trans a b a h h2;rw[lt_irrefl]at this;cases this
def ins(x:Tr):List Tr→List Tr
 |[]=>[x]
 |y::r=>if lt x y=true then y::ins x r else x::y::r
def BV:List Tr→List Tr
 |[]=>[]
 |x::r=>ins x (BV r)
end Tr
namespace TH
open PySem PyProof.Rows PySem.SeqAt
def Vs(h:Heap):Tr→List VL→Prop
 |.nil,us=>us=[]
 |.cons b r,us=>∃(a:AD) (its rest:List VL),us=.ref a::rest∧h.IsTuple a its.toArray∧Vs h b its∧Vs h r rest
def Vs.length{h:Heap}:∀ {t:Tr} {us:List VL},Vs h t us→us.length=t.len
 |.nil,us,e=>by rw[Vs]at e;rw[e];rfl
 |.cons b r,us,e=>by
  rw[Vs]at e;obtain⟨a,its,rest,rfl,_,_,q⟩:=e;rw[List.length_cons,Tr.len,Vs.length q]
def LN{h:Heap}{a:AD}{x y:Array VL}(h1:h.IsTuple a x)(h2:h.IsTuple a y):x=y:=by
 obtain⟨o,e,_,n,d⟩:=h1;obtain⟨o',e',_,n',d'⟩:=h2;rw[e]at e';cases e';rw[d]at d';cases d';rfl
def Vs.inj{h:Heap}:∀ {t u:Tr} {us:List VL},Vs h t us→Vs h u us→t=u
 |.nil,.nil,_,_,_=>rfl
 |.nil,.cons _ _,us,e,f=>by
  rw[Vs]at e;rw[Vs]at f;obtain⟨_,_,_,f,_⟩:=f;rw[e]at f;cases f
 |.cons _ _,.nil,us,e,f=>by
  rw[Vs]at e;rw[Vs]at f;obtain⟨_,_,_,e,_⟩:=e;rw[f]at e;cases e
 |.cons b r,.cons c q,us,e,f=>by
  rw[Vs]at e f;obtain⟨a,its,rest,rfl,h1,h2,h3⟩:=e;obtain⟨a',its',rest',e',k1,k2,k3⟩:=f;cases e';have:=LN h1 k1;have e2:its=its':=by simpa using this
  subst e2;rw[Vs.inj h2 k2,Vs.inj h3 k3]
def Qr{s:SD}:∀(t u:Tr) (A:Around) (us vs:List VL),Vs s.heap t us→Vs s.heap u vs→A.units+t.deep≤cLine →
  ∀j (h1:j<us.length) (h2:j<vs.length),EqAt A s us[j] vs[j] (decide (t.bs[j]? = u.bs[j]?))
 |.nil,u,A,us,vs,e,f,_,j,h1,h2=>by
  rw[Vs]at e;subst e;exact absurd h1 (ar _)
 |.cons b r,.nil,A,us,vs,e,f,_,j,h1,h2=>by
  rw[Vs]at f;subst f;exact absurd h2 (ar _)
 |.cons b r,.cons c q,A,us,vs,e,f,hu,j,h1,h2=>by
  rw[Vs]at e f;obtain⟨a,its,rest,rfl,k1,k2,k3⟩:=e;obtain⟨a',its',rest',rfl,l1,l2,l3⟩:=f;have hd:(Tr.cons b r).deep=max (b.deep+1) r.deep:=rfl;cases j with
  |zero =>
   show EqAt A s (.ref a) (.ref a') (decide (some b=some c));by_cases ea:a=a'
   ·subst ea;have:=LN k1 l1;have e2:its=its':=by simpa using this
    subst e2;rw[Vs.inj k2 l2,decide_eq_true rfl];exact EqAt.same _
   ·refine EqAt.of_refs ea ?_;have key:=RcAt.tuples (s:=s) (A:=A) (e:=fun j=>decide (b.bs[j]? = c.bs[j]?)) k1 l1 (by omega) fun j x1 x2=>by
     have:=Qr b c A.in1 its its' k2 l2 (by rw[show A.in1.units=A.units+1 from rfl];omega) j (by simpa using x1) (by simpa using x2)
     simpa using this
    have ev:((List.range (min its.toArray.size its'.toArray.size)).all (fun j=>decide (b.bs[j]? = c.bs[j]?))&&its.toArray.size==its'.toArray.size)=decide (some b=some c):=by
     have z1:its.toArray.size=b.bs.length:=by rw[Tr.Ep,←Vs.length k2];simp
     have z2:its'.toArray.size=c.bs.length:=by rw[Tr.Ep,←Vs.length l2];simp
     rw[z1,z2];by_cases hbc:b=c
     ·subst hbc;simp
     ·rw[decide_eq_false (fun z=>hbc (aV z))];cases hl:b.bs.length==c.bs.length with
      |false=>rw[Bool.and_false]
      |true =>
       rw[Bool.and_true];have hl':b.bs.length=c.bs.length:=by simpa using hl
       refine Bool.eq_false_iff.mpr fun z=>hbc (Tr.YV (List.ext_getElem? fun i=>?_));by_cases hi:i<b.bs.length
       ·have:=List.all_eq_true.mp z i (List.mem_range.mpr (by omega))
        simpa using this
       ·rw[List.getElem?_eq_none (by omega),List.getElem?_eq_none (by omega)]
    rw[ev]at key;exact key
  |succ j =>
   exact Qr r q A rest rest' k3 l3 (by omega) j (by simpa using h1) (by simpa using h2)
def Qi{s:SD}{t u:Tr}{A:Around}{a b:AD}{its its':List VL}(h1:s.heap.IsTuple a its.toArray)(k1:Vs s.heap t its)(h2:s.heap.IsTuple b its'.toArray)(k2:Vs s.heap u its')(hu:A.units+t.deep<cLine) :
  EqAt A s (.ref a) (.ref b) (decide (t=u)):=by
 have:=Qr (.cons t .nil) (.cons u .nil) A [.ref a] [.ref b] ⟨a,its,[],rfl,h1,k1,by rw[Vs]⟩ ⟨b,its',[],rfl,h2,k2,by rw[Vs]⟩ (by show A.units+max (t.deep+1) 0≤cLine;omega) 0 (by simp) (by simp)
 simpa[Tr.bs]using this
section
open PySem.AutoSeq1 (wpAny_loadPart')
open PySem.MeetsSeq PySem.MeetsSeq2 PySem.MeetsSeq3
def OD(n0:Nat)(ih:∀(t u:Tr) (A:Around) (s:SD) (a b:AD) (its its':List VL),t.deep<n0→s.heap.IsTuple a its.toArray→Vs s.heap t its→s.heap.IsTuple b its'.toArray→Vs s.heap u its'→A.units+t.deep<cLine →
   ∀(prog:Program) (w:World) (E:VL→SD→Prop) (Q:VL→SD→Prop),Q (.bool (Tr.lt t u)) s→wpAny (model prog w) A (richCompare .Lt (.ref a) (.ref b)) Q E s)
 (l b:AD)(items items2:Array VL)(n n2:Nat)(dd dd2:Option AD)(sl sl2:Array (Option VL))(t u:Tr)(ht:t.deep≤n0) :
  Meets (Builtin.«tuple.__lt__» ⟨[.ref l,.ref b],[]⟩)
   (fun A R s=>s.heap.get? l=some { cls:=.type "tuple",dict:=dd,data:=.seq items n,slots:=sl}∧s.heap.get? b=some { cls:=.type "tuple",dict:=dd2,data:=.seq items2 n2,slots:=sl2} ∧
    Vs s.heap t items.toList∧Vs s.heap u items2.toList∧A.units+t.deep<cLine∧R (.ok (.ret (.bool (Tr.lt t u)))) s) :=
 .of_wp fun prog w A R s h=>by
  obtain⟨hp,g,d,tk,os⟩:=s;obtain⟨hl,hb,hi,hj,hun,h⟩:=h;have f2:=AutoSeq1.sub_tuple_tuple;have z1:items.size=t.len:=by rw[←Vs.length hi];simp
  have z2:items2.size=u.len:=by rw[←Vs.length hj];simp
  wp_walk using wpAny_loadPart' hl,wpAny_loadPart' hb,wpAny_forIn_list _ (fun rest b s'=>b.1=none∧s'=⟨hp,g,d,tk,os⟩∧∃(vs ws:List VL) (t' u':Tr),rest=vs.zip ws ∧
   Vs hp t' vs∧Vs hp u' ws∧t'.deep≤t.deep∧t'.len+items2.size=u'.len+items.size∧R (.ok (.ret (.bool (Tr.lt t' u')))) ⟨hp,g,d,tk,os⟩) _
  case turn =>
   rintro⟨y,x⟩ rest b s' ⟨hb',rfl,vs,ws,t',u',hz,hvi,hwi,hdp,hlen,hR⟩;cases t' with
   |nil=>rw[Vs]at hvi;subst hvi;rw[List.zip_nil_left]at hz;cases hz
   |cons bt rt =>
    cases u' with
    |nil=>rw[Vs]at hwi;subst hwi;rw[List.zip_nil_right]at hz;cases hz
    |cons bu ru =>
     rw[Vs]at hvi hwi;obtain⟨a1,i1,v1,rfl,p1,p2,p3⟩:=hvi;obtain⟨a2,i2,v2,rfl,q1,q2,q3⟩:=hwi;rw[List.zip_cons_cons]at hz
     injection hz with hyx hrest
     injection hyx with hy hx
     subst hy hx;have hdd:(Tr.cons bt rt).deep=max (bt.deep+1) rt.deep:=rfl;rw[Tr.lt]at hR;simp only[Tr.len]at hlen;have he:=Qi (s:=⟨hp,g,d,tk,os⟩) (A:=A.in1) p1 p2 q1 q2 (by rw[show A.in1.units=A.units+1 from rfl];omega);refine Wb (he prog w _ _ ?_);cases hc:decide (bt=bu) with
     |true =>
      rw[if_pos (aq hc)]at hR
      wp_walk
      exact⟨rfl,rfl,_,_,_,_,hrest,p3,q3,by omega,by omega,hR⟩
     |false =>
      rw[if_neg (of_decide_eq_false hc)]at hR;have hri:=ih bt bu A.in1 ⟨hp,g,d,tk,os⟩ a1 a2 i1 i2 (by omega) p1 p2 q1 q2 (by rw[show A.in1.units=A.units+1 from rfl];omega) prog w
      wp_walk using hri
      exact⟨_,rfl,by simpa using hR⟩
  case fin =>
   rintro⟨b1,b2⟩ s' ⟨hb',rfl,vs,ws,t',u',hz,hvi,hwi,hdp,hlen,hR⟩;simp only at hb';subst hb';have hv:Tr.lt t' u'=decide (items.size<items2.size):=by
    cases t' with
    |nil =>
     cases u' with
     |nil =>
      simp only[Tr.len]at hlen;exact(ax (by omega)).symm
     |cons c q =>
      simp only[Tr.len]at hlen;exact(decide_eq_true (by omega)).symm
    |cons bt rt =>
     cases u' with
     |nil =>
      simp only[Tr.len]at hlen;exact(ax (by omega)).symm
     |cons c q =>
      rw[Vs]at hvi hwi;obtain⟨_,_,_,rfl,_⟩:=hvi;obtain⟨_,_,_,rfl,_⟩:=hwi;rw[List.zip_cons_cons]at hz;cases hz
   rw[hv]at hR
   wp_walk
   exact⟨_,rfl,by simpa[Builtin.Tuple.tupleCompareSizes]using hR⟩
  case h =>
   exact⟨rfl,rfl,items.toList,items2.toList,t,u,rfl,hi,hj,Nat.le_refl _,by omega,h⟩
def Qg:∀(n0:Nat) (t u:Tr) (A:Around) (s:SD) (a b:AD) (its its':List VL),t.deep<n0→s.heap.IsTuple a its.toArray→Vs s.heap t its→s.heap.IsTuple b its'.toArray→Vs s.heap u its'→A.units+t.deep<cLine →
   ∀(prog:Program) (w:World) (E:VL→SD→Prop) (Q:VL→SD→Prop),Q (.bool (Tr.lt t u)) s→wpAny (model prog w) A (richCompare .Lt (.ref a) (.ref b)) Q E s
 |0,_,_,_,_,_,_,_,_,h,_,_,_,_,_=>absurd h (ar _)
 |n0+1,t,u,A,s,a,b,its,its',hd,hl,ht,hb,hu',hun=>fun prog w E Q h=>by
  obtain⟨⟨cls,dd,data,sl⟩,ho,hc,n,hdt⟩:=id hl;obtain⟨⟨cls2,dd2,data2,sl2⟩,ho2,hc2,n2,hdt2⟩:=id hb;simp only at hc hdt hc2 hdt2;subst hc hdt hc2 hdt2;exact richCompare_meets_room (op:=.Lt) ⟨_,ho,rfl⟩ ⟨_,ho2,rfl⟩ PySem.F.slot_tuple_lt PySem.F.entry_tuple_lt (PySem.F.args_tuple_lt_2 _ _) (OD n0 (Qg n0) a b its.toArray its'.toArray n n2 dd dd2 sl sl2 t u (by omega))
   ⟨ho,ho2,by simpa using ht,by simpa using hu',hun,show Value.bool (Tr.lt t u)≠Value.notImplemented∧Q (.bool (Tr.lt t u)) s from⟨(fun x=>nomatch x),h⟩⟩ (by omega)
end
end TH
namespace SM
open PySem.W PyProof.Rows
def Wp{α:Type}(lt:Nat→Nat→Bool)(n:Nat):KasT α→(α→Prop)→Prop
 |.ret a,Q=>Q a
 |.ask i j k,Q=>i<n∧j<n∧Wp lt n (k (lt i j)) Q
def Wp.mono{α:Type}{lt:Nat→Nat→Bool}{n:Nat}{Q Q':α→Prop}(hq:∀a,Q a→Q' a):∀t:KasT α,Wp lt n t Q→Wp lt n t Q'
 |.ret a,h=>hq a h
 |.ask i j k,h=>⟨h.1,h.2.1,Wp.mono hq (k (lt i j)) h.2.2⟩
def Wp.bind{α β:Type}{lt:Nat→Nat→Bool}{n:Nat}{f:α→KasT β}{Q:β→Prop}:∀t:KasT α,Wp lt n t (fun a=>Wp lt n (f a) Q)→Wp lt n (t.bind f) Q
 |.ret _,h=>h
 |.ask i j k,h=>⟨h.1,h.2.1,Wp.bind (k (lt i j)) h.2.2⟩
def Gk{p:Array Nat}{i j:Nat}(hj:j≤p.size)(k:Nat):(kas_rev p i j).getD k 0=if i≤k∧k<j then p.getD (i+j-1-k) 0 else p.getD k 0:=by
 have e:=getElem?_mirror_all (i:=i) hj k;unfold kas_rev;rw[Array.getD_eq_getD_getElem?,Array.getD_eq_getD_getElem?,Array.getD_eq_getD_getElem?,e];split<;>rfl
def Oi{p:Array Nat}{src d:Nat}(hs:src<p.size)(hd:d≤src)(k:Nat) :
  (bubble p src d).getD k 0=if k=src-d then p.getD src 0 else if src-d<k∧k≤src then p.getD (k-1) 0 else p.getD k 0:=by
 have e:=getElem?_bubble hs d hd k;simp only[Array.getD_eq_getD_getElem?,e];split
 ·rfl
 ·split<;>rfl
section
variable{O:KeyOrd}{key:Nat→O.α}{n:Nat}
def Key(key:Nat→O.α)(p:Array Nat)(i:Nat):O.α:=key (p.getD i 0)
def Up(key:Nat→O.α)(p:Array Nat)(m:Nat):Prop:=∀i j,i≤j→j<m→O.kle (Key key p i) (Key key p j)
def Dn(key:Nat→O.α)(p:Array Nat)(m:Nat):Prop:=∀i j,i≤j→j<m→O.kle (Key key p j) (Key key p i)
structure Pm(n:Nat)(p:Array Nat):Prop where
 perm:p.Perm (List.toArray (List.range n))
 pos:0<n
def Pm.size{p:Array Nat}(h:Pm n p):p.size=n:=by rw[h.perm.size_eq];simp
def Pm.lt{p:Array Nat}(h:Pm n p)(i:Nat):p.getD i 0<n:=by
 rw[Array.getD_eq_getD_getElem?];by_cases hi:i<p.size
 ·rw[Array.getElem?_eq_getElem hi];have hm:p[i]∈p:=Array.getElem_mem hi;have:=(h.perm.mem_iff).mp hm
  simpa using this
 ·rw[Array.getElem?_eq_none (by omega)];exact h.pos
def Pm.rev{p:Array Nat}(h:Pm n p)(i j:Nat):Pm n (kas_rev p i j):=⟨(mirror_perm _ _ _ _).trans h.perm,h.pos⟩
def Pm.bubble{p:Array Nat}(h:Pm n p)(i j:Nat):Pm n (bubble p i j):=⟨(bubble_perm _ _ _).trans h.perm,h.pos⟩
abbrev EE(key:Nat→O.α):Nat→Nat→Bool:=fun i j=>O.blt (key i) (key j)
def Up.one{p:Array Nat}:Up key p 1:=fun i j h1 h2=>by
 have:i=j:=by omega
 subst this;exact bA _
def Up.more{p:Array Nat}{m:Nat}(h:Up key p m)(h1:1≤m)(hk:O.kle (Key key p (m-1)) (Key key p m)):Up key p (m+1):=fun i j hij hj=>by
 by_cases e:j=m
 ·subst e;by_cases e2:i=j
  ·subst e2;exact bA _
  ·exact KeyOrd.kle_trans (h i (j-1) (by omega) (by omega)) hk
 ·exact h i j hij (by omega)
def Dn.more{p:Array Nat}{m:Nat}(h:Dn key p m)(h1:1≤m)(hk:O.kle (Key key p m) (Key key p (m-1))):Dn key p (m+1):=fun i j hij hj=>by
 by_cases e:j=m
 ·subst e;by_cases e2:i=j
  ·subst e2;exact bA _
  ·exact KeyOrd.kle_trans hk (h i (j-1) (by omega) (by omega))
 ·exact h i j hij (by omega)
def asc{p:Array Nat}(hp:Pm n p):∀(f m:Nat),1≤m→Up key p m→Wp (EE key) n (kas_asc p f m) fun r=>m≤r∧r≤m+f∧Up key p r∧(r=m+f∨O.klt (Key key p r) (Key key p (r-1)))
 |0,m,_,h=>⟨aH _,Nat.le_refl _,h,.inl rfl⟩
 |f+1,m,h1,h=>by
  refine⟨hp.lt _,hp.lt _,?_⟩;cases c:EE key (p.getD m 0) (p.getD (m-1) 0) with
  |true=>exact⟨aH _,by omega,h,.inr c⟩
  |false =>
   simp only[Bool.false_eq_true,if_false];refine Wp.mono (fun r hr=>?_) _ (asc hp f (m+1) (by omega) (h.more h1 c));exact⟨by omega,by omega,hr.2.2.1,hr.2.2.2.elim (fun z=>.inl (by omega)) .inr⟩
def Eq(key:Nat→O.α)(p:Array Nat)(m q:Nat):Prop:=q<m∧∀k,m-(q+1)≤k→k<m→Key key p k=Key key p (m-1)
def rev_eq{p:Array Nat}{m q:Nat}(h:Eq key p m q)(hm:m≤p.size)(k:Nat):Key key (kas_rev p (m-(q+1)) m) k=Key key p k:=by
 unfold Key;rw[Gk hm];split
 ·have a:=h.2 (m-(q+1)+m-1-k) (by have:=h.1;omega) (by have:=h.1;omega);have b:=h.2 k (by omega) (by omega);exact a.trans b.symm
 ·rfl
def desc:∀(f:Nat) (p:Array Nat) (m q:Nat),Pm n p→1≤m→m+f≤n→Dn key p m→Eq key p m q→Wp (EE key) n (kas_desc f p m q) fun r=>Pm n r.1∧m≤r.2.1∧r.2.1≤m+f∧Dn key r.1 r.2.1∧Eq key r.1 r.2.1 r.2.2
 |0,p,m,q,hp,_,_,h,e=>⟨hp,Nat.le_refl _,Nat.le_refl _,h,e⟩
 |f+1,p,m,q,hp,h1,hf,h,e=>by
  refine⟨hp.lt _,hp.lt _,?_⟩;have hm:m≤p.size:=by rw[hp.size];omega
  cases c:EE key (p.getD m 0) (p.getD (m-1) 0) with
  |true =>
   have ck:O.klt (Key key p m) (Key key p (m-1)):=c;simp only[if_true];have fin:∀p':Array Nat,Pm n p'→(∀k,Key key p' k=Key key p k)→Wp (EE key) n (kas_desc f p' (m+1) 0) fun r=>Pm n r.1∧m≤r.2.1∧r.2.1≤m+(f+1)∧Dn key r.1 r.2.1∧Eq key r.1 r.2.1 r.2.2:=fun p' hp' hk=>by
    have hd:Dn key p' (m+1):=fun i j hij hj=>by rw[hk,hk];exact h.more h1 (KeyOrd.kle_of_klt ck) i j hij hj
    have he:Eq key p' (m+1) 0:=⟨by omega,fun k h1 h2=>by rw[show k=m+1-1 by omega]⟩;exact Wp.mono (fun r hr=>⟨hr.1,by omega,by omega,hr.2.2.2.1,hr.2.2.2.2⟩) _ (desc f p' (m+1) 0 hp' (by omega) (by omega) hd he)
   split
   ·exact fin _ (hp.rev _ _) (rev_eq e hm)
   ·exact fin _ hp fun _=>rfl
  |false =>
   simp only[Bool.false_eq_true,if_false];refine⟨hp.lt _,hp.lt _,?_⟩;cases d:EE key (p.getD (m-1) 0) (p.getD m 0) with
   |true =>
    simp only[if_true];exact⟨hp,Nat.le_refl _,Nat.le_add_right _ _,h,e⟩
   |false =>
    simp only[Bool.false_eq_true,if_false];have ek:Key key p m=Key key p (m-1):=KeyOrd.kle_antisymm (show O.kle (Key key p m) (Key key p (m-1)) from d) (show O.kle (Key key p (m-1)) (Key key p m) from c);refine Wp.mono (fun r hr=>⟨hr.1,by omega,by omega,hr.2.2.2.1,hr.2.2.2.2⟩) _ (desc f p (m+1) (q+1) hp (by omega) (by omega) (h.more h1 (by rw[ek];exact bA _)) ⟨by have:=e.1;omega,fun k h2 h3=>?_⟩);rw[show m+1-1=m by omega,ek];by_cases z:k=m
    ·rw[z,ek]
    ·exact e.2 k (by omega) (by omega)
def YA{p:Array Nat}{m:Nat}(h:Dn key p m)(hm:m≤p.size):Up key (kas_rev p 0 m) m:=fun i j hij hj=>by
 unfold Key;rw[Gk hm,Gk hm,if_pos ⟨aa _,by omega⟩,if_pos ⟨aa _,by omega⟩];exact h (0+m-1-j) (0+m-1-i) (by omega) (by omega)
def tail3{p:Array Nat}{m:Nat}(hp:Pm n p)(h1:1≤m)(hm:m≤n)(h:Dn key p m):Wp (EE key) n (kas_tail3 m n p) fun r=>Pm n r.2∧1≤r.1∧r.1≤n∧Up key r.2 r.1:=by
 unfold kas_tail3;refine Wp.bind _ (Wp.mono (fun r hr=>?_) _ (asc (hp.rev 0 m) (n-m) m h1 (YA h (by rw[hp.size];exact hm))));exact⟨hp.rev 0 m,by omega,by omega,hr.2.2.1⟩
def descPart{p:Array Nat}{m:Nat}(hp:Pm n p)(h1:1≤m)(hm:m+1≤n)(h:Dn key p (m+1)):Wp (EE key) n (kas_descPart m n p) fun r=>Pm n r.2∧1≤r.1∧r.1≤n∧Up key r.2 r.1:=by
 unfold kas_descPart;refine Wp.bind _ (Wp.mono (fun r hr=>?_) _ (desc (n-(m+1)) p (m+1) 0 hp (by omega) (by omega) h ⟨by omega,fun k h1 h2=>by rw[show k=m+1-1 by omega]⟩));obtain⟨a,b,c,d,e⟩:=hr;have hz:r.2.1≤r.1.size:=by rw[a.size];omega
 split
 ·refine tail3 (a.rev _ _) (by omega) (by omega) fun i j hij hj=>?_;rw[rev_eq e hz,rev_eq e hz];exact d i j hij hj
 ·exact tail3 a (by omega) (by omega) d
def count{p:Array Nat}(hp:Pm n p):Wp (EE key) n (kas_count n p) fun r=>Pm n r.2∧1≤r.1∧r.1≤n∧Up key r.2 r.1:=by
 have hn:=hp.pos;unfold kas_count;refine Wp.bind _ (Wp.mono (fun m hm=>?_) _ (asc hp (n-1) 1 (aH _) Up.one));obtain⟨h1,h2,h3,h4⟩:=hm;split
 ·exact⟨hp,h1,by omega,h3⟩
 ·rename_i hne;have hne':m≠n:=by simpa using hne
  have hk:O.klt (Key key p m) (Key key p (m-1)):=by
   rcases h4 with z|z
   ·exact absurd (by omega) hne'
   ·exact z
  have hz:m≤p.size:=by rw[hp.size];omega
  split
  ·refine⟨hp.lt _,hp.lt _,?_⟩;cases c:EE key (p.getD 0 0) (p.getD (m-1) 0) with
   |true=>simp only[if_true];exact⟨hp,h1,by omega,h3⟩
   |false =>
    simp only[Bool.false_eq_true,if_false];have all:∀k,k<m→Key key p k=Key key p (m-1):=fun k hk'=>KeyOrd.kle_antisymm (h3 k (m-1) (by omega) (by omega)) (KeyOrd.kle_trans (show O.kle (Key key p (m-1)) (Key key p 0) from c) (h3 0 k (by omega) hk'));have ek:∀k,Key key (kas_rev p 0 m) k=Key key p k:=fun k=>by
     by_cases hk':k<m
     ·have:Key key (kas_rev p 0 m) k=Key key p (0+m-1-k):=by
       unfold Key;rw[Gk hz,if_pos ⟨aa _,hk'⟩]
      rw[this,all _ (by omega),all k hk']
     ·unfold Key;rw[Gk hz,if_neg (by omega)]
    refine descPart (hp.rev _ _) h1 (by omega) fun i j hij hj=>?_;rw[ek,ek];by_cases e:j=m
    ·subst e;by_cases e2:i=j
     ·subst e2;exact bA _
     ·rw[all i (by omega)];exact KeyOrd.kle_of_klt hk
    ·rw[all i (by omega),all j (by omega)];exact bA _
  ·have:m=1:=by omega
   subst this;refine descPart hp h1 (by omega) fun i j hij hj=>?_;by_cases e:i=j
   ·subst e;exact bA _
   ·rw[show i=0 by omega,show j=1 by omega];exact KeyOrd.kle_of_klt hk
def place{p:Array Nat}{k:Nat}(hp:Pm n p)(hs:Up key p k):∀(f l r:Nat),l≤r→r≤k→r-l≤f→(∀i,i<l→O.kle (Key key p i) (Key key p k))→(∀i,r≤i→i<k→O.klt (Key key p k) (Key key p i)) →
  Wp (EE key) n (kas_place p k f l r) fun x=>x≤k∧(∀i,i<x→O.kle (Key key p i) (Key key p k))∧∀i,x≤i→i<k→O.klt (Key key p k) (Key key p i)
 |0,l,r,h1,h2,h3,a,b=>by
  have:l=r:=by omega
  subst this;exact⟨h2,a,b⟩
 |f+1,l,r,h1,h2,h3,a,b=>by
  unfold kas_place;split
  ·have:l=r:=by omega
   subst this;exact⟨h2,a,b⟩
  ·refine⟨hp.lt _,hp.lt _,?_⟩;cases c:EE key (p.getD k 0) (p.getD ((l+r) / 2) 0) with
   |true =>
    simp only[if_true];exact place hp hs f l ((l+r) / 2) (by omega) (by omega) (by omega) a fun i x1 x2=>KeyOrd.klt_of_klt_of_kle (show O.klt (Key key p k) (Key key p ((l+r) / 2)) from c) (hs _ _ x1 x2)
   |false =>
    simp only[Bool.false_eq_true,if_false];exact place hp hs f ((l+r) / 2+1) r (by omega) h2 (by omega) (fun i x1=>KeyOrd.kle_trans (hs i ((l+r) / 2) (by omega) (by omega)) (show O.kle (Key key p ((l+r) / 2)) (Key key p k) from c)) b
def bin:∀(f:Nat) (p:Array Nat) (k:Nat),Pm n p→1≤k→k+f=n→Up key p k→Wp (EE key) n (kas_bin f p k) fun r=>Pm n r∧Up key r n
 |0,p,k,hp,_,hk,h=>by
  have:k=n:=by omega
  subst this;exact⟨hp,h⟩
 |f+1,p,k,hp,h1,hk,h=>by
  have hks:k<p.size:=by rw[hp.size];omega
  refine Wp.bind _ (Wp.mono (fun l hl=>?_) _ (place hp h k 0 k (aa _) (aH _) (by omega) (fun i z=>absurd z (by omega)) fun i z1 z2=>absurd z1 (by omega)));obtain⟨hlk,hlo,hhi⟩:=hl;refine bin f _ (k+1) (hp.bubble _ _) (by omega) (by omega) fun i j hij hj=>?_;have kb:∀x,Key key (PyProof.Rows.bubble p k (k-l)) x=if x=l then Key key p k else if l<x∧x≤k then Key key p (x-1) else Key key p x:=fun x=>by
   unfold Key;rw[Oi hks (by omega),show k-(k-l)=l by omega];split
   ·rfl
   ·split<;>rfl
  rw[kb,kb]
  repeat' split
  all_goals first
   |(exfalso;omega)
   |exact bA _
   |exact hlo _ (by omega)
   |exact KeyOrd.kle_of_klt (hhi _ (by omega) (by omega))
   |exact h _ _ (by omega) (by omega)
def sort(hn:0<n):Wp (EE key) n (kas_sort n) fun p=>Pm n p∧Up key p n:=by
 have hp:Pm n (List.toArray (List.range n)):=⟨Array.Perm.refl _,hn⟩;unfold kas_sort;refine Wp.bind _ (Wp.mono (fun r hr=>?_) _ (count hp));obtain⟨a,b,c,d⟩:=hr;split
 ·rw[show max r.1 1=r.1 by omega];exact bin _ _ _ a b (by omega) d
 ·have:r.1=n:=by omega
  rw[this]at d;exact⟨a,d⟩
end
end SM
namespace Tr
def Kj(x:Tr):∀l:List Tr,(ins x l).Perm (x::l)
 |[]=>.refl _
 |y::r=>by
  rw[ins];split
  ·exact((Kj x r).cons y).trans (.swap x y r)
  ·exact .refl _
def GK:∀l:List Tr,(BV l).Perm l
 |[]=>.refl _
 |x::r=>by
  rw[BV];exact(Kj x (BV r)).trans ((GK r).cons x)
abbrev MA(l:List Tr):Prop:=l.Pairwise fun a b=>lt a b=false
def OO(x:Tr):∀l:List Tr,MA l→MA (ins x l)
 |[],_=>List.pairwise_singleton _ _
 |y::r,h=>by
  obtain⟨h1,h2⟩:=List.pairwise_cons.mp h;rw[ins];split
  ·rename_i c;refine List.pairwise_cons.mpr ⟨fun z hz=>?_,OO x r h2⟩;rcases aN.mp ((Kj x r).mem_iff.mp hz) with rfl|hz
   ·exact lt_asymm c
   ·exact h1 z hz
  ·rename_i c;have c':lt x y=false:=by simpa using c
   refine List.pairwise_cons.mpr ⟨fun z hz=>?_,h⟩;rcases aN.mp hz with rfl|hz
   ·exact c'
   ·cases e:lt x z with
    |false=>rfl
    |true =>
     rcases KU x y z e with q|q
     ·rw[c']at q;cases q
     ·rw[h1 z hz]at q;cases q
def Gm:∀l:List Tr,MA (BV l)
 |[]=>List.Pairwise.nil
 |x::r=>by rw[BV];exact OO x _ (Gm r)
def HG:∀ {l m:List Tr},MA l→MA m→l.Perm m→l=m
 |[],m,_,_,p=>(List.nil_perm.mp p).symm
 |x::r,[],_,_,p=>absurd p.length_eq (by simp)
 |x::r,y::q,h1,h2,p=>by
  obtain⟨a1,a2⟩:=List.pairwise_cons.mp h1;obtain⟨b1,b2⟩:=List.pairwise_cons.mp h2;have hx:x∈y::q:=p.mem_iff.mp aP;have hy:y∈x::r:=p.mem_iff.mpr aP;have e:x=y:=by
   rcases aN.mp hx with e|hx
   ·exact e
   ·rcases aN.mp hy with e|hy
    ·exact e.symm
    ·exact GO x y (a1 y hy) (b1 x hx)
  subst e;rw[HG a2 b2 (List.Perm.cons_inv p)]
def SK{l m:List Tr}(h:MA m)(p:m.Perm l):m=BV l:=HG h (Gm l) (p.trans (GK l).symm)
def Qo{l m:List Tr}(h:m.Pairwise fun a b=>lt b a=false)(p:m.Perm l):m=(BV l).reverse:=by
 have:m.reverse=BV l:=SK (List.pairwise_reverse.mpr h) ((List.reverse_perm m).trans p);rw[←this,List.reverse_reverse]
def Hw(n:Nat):∀l:List Tr,(of l).deep≤n ↔ ∀c∈l,c.deep+1≤n
 |[]=>by simp[of,deep]
 |b::r=>by
  rw[of,deep,List.forall_mem_cons,←Hw n r];omega
def Rk{l m:List Tr}(p:l.Perm m):(of l).deep≤(of m).deep:=(Hw _ l).mpr fun c hc=>(Hw _ m).mp (aH _) c (p.mem_iff.mp hc)
def Tt(t:Tr):(of t.bs.reverse).deep≤t.deep:=by
 have:=Rk (List.reverse_perm t.bs)
 rwa [Mz]at this
def ord:PyProof.Rows.KeyOrd where
 α:=Tr
 blt:=lt
 irrefl:=lt_irrefl
 trans:=lt_trans
 negTrans:=KU
 total:=GO
end Tr
namespace TH
open PySem PySem.W PyProof.Rows PySem.SeqAt
def Vs.at{h:Heap}:∀ {t:Tr} {us:List VL} {i:Nat},Vs h t us→i<us.length→∃(a:AD) (its:List VL) (c:Tr),us.getD i Value.none=.ref a∧h.IsTuple a its.toArray∧Vs h c its∧t.bs[i]? = some c∧c.deep<t.deep
 |.nil,us,i,e,hi=>by rw[Vs]at e;subst e;exact absurd hi (ar _)
 |.cons b r,us,i,e,hi=>by
  rw[Vs]at e;obtain⟨a,its,rest,rfl,h1,h2,h3⟩:=e;have hd:(Tr.cons b r).deep=max (b.deep+1) r.deep:=rfl;cases i with
  |zero=>exact⟨a,its,b,rfl,h1,h2,rfl,by omega⟩
  |succ i =>
   obtain⟨a',its',c,q1,q2,q3,q4,q5⟩:=Vs.at (i:=i) h3 (by simpa using hi);exact⟨a',its',c,by simpa using q1,q2,q3,by simpa[Tr.bs]using q4,by omega⟩
def Vs.JU{h:Heap}:∀(ts:List Tr) (us:List VL),us.length=ts.length→(∀i,i<ts.length→∃(a:AD) (its:List VL) (c:Tr),us[i]? = some (.ref a)∧h.IsTuple a its.toArray∧Vs h c its∧ts[i]? = some c)→Vs h (Tr.of ts) us
 |[],us,hl,_=>by
  rw[Tr.of,Vs];exact List.eq_nil_of_length_eq_zero (by simpa using hl)
 |t::ts,[],hl,_=>by simp at hl
 |t::ts,u::us,hl,h=>by
  rw[Tr.of,Vs];obtain⟨a,its,c,e1,e2,e3,e4⟩:=h 0 (by simp);simp at e1 e4;subst e1 e4;refine⟨a,its,us,rfl,e2,e3,Vs.JU ts us (by simpa using hl) fun i hi=>?_⟩;obtain⟨a',its',c',q1,q2,q3,q4⟩:=h (i+1) (by simpa using hi);exact⟨a',its',c',by simpa using q1,q2,q3,by simpa using q4⟩
def Vs.all{h:Heap}{t:Tr}{us:List VL}(e:Vs h t us):∀i,i<t.bs.length→∃(a:AD) (its:List VL) (c:Tr),us[i]? = some (.ref a)∧h.IsTuple a its.toArray∧Vs h c its∧t.bs[i]? = some c:=fun i hi=>by
 have hl:i<us.length:=by rw[Vs.length e,←Tr.Ep];exact hi
 obtain⟨a,its,c,q1,q2,q3,q4,_⟩:=e.at hl;refine⟨a,its,c,?_,q2,q3,q4⟩;rw[List.getD_eq_getElem?_getD,List.getElem?_eq_getElem hl]at q1;rw[List.getElem?_eq_getElem hl]
 simpa using q1
section
variable{prog:Program}{w:World}{A:Around}{E:VL→SD→Prop}{s:SD}{t u:Tr}{a b:AD}{its its':List VL}{Q:Bool→SD→Prop}
def PY(h1:s.heap.IsTuple a its.toArray)(k1:Vs s.heap t its)(h2:s.heap.IsTuple b its'.toArray)(k2:Vs s.heap u its')(hu:A.units+t.deep<cLine)(h:Q (Tr.lt t u) s):wpAny (model prog w) A (oneLt' false (.ref a) (.ref b)) Q E s:=by
 rw[oneLt'_eq];simp only[Bool.false_eq_true,if_false];exact Wb (Qg (t.deep+1) t u A s a b its its' (Nat.lt_succ_self _) h1 k1 h2 k2 hu prog w E _ (wpAny_truthy_bool h))
def Vb(h1:s.heap.IsTuple a its.toArray)(k1:Vs s.heap t its)(h2:s.heap.IsTuple b its'.toArray)(k2:Vs s.heap u its')(hu:A.units+t.deep<cLine)(h:Q (Tr.lt t u) s):wpAny (model prog w) A (oneLt' true (.ref a) (.ref b)) Q E s:=by
 rw[oneLt'_eq];simp only[if_true];refine Wb (wpAny_cRoomFor (by omega) ?_);obtain⟨⟨cls,dd,data,sl⟩,ho,hc,n,hdt⟩:=id h1;obtain⟨⟨cls2,dd2,data2,sl2⟩,ho2,hc2,n2,hdt2⟩:=id h2;simp only at hc hdt hc2 hdt2;subst hc hdt hc2 hdt2;refine Wb (wpAny_callSpecialIfBound?_slot (T := "tuple") ⟨_,ho,rfl⟩ PySem.F.slot_tuple_lt (call_meets PySem.F.slot_tuple_lt ⟨_,ho,rfl⟩ PySem.F.entry_tuple_lt (PySem.F.args_tuple_lt_2 _ _)
  (OD t.deep (Qg t.deep) a b its.toArray its'.toArray n n2 dd dd2 sl sl2 t u (aH _)) ⟨ho,ho2,by simpa using k1,by simpa using k2,hu,?_⟩))
 exact wpAny_truthy_bool h
def PC:∀(t u:Tr) (us vs:List VL) (i:Nat),Vs s.heap t us→Vs s.heap u vs→A.units+t.deep≤cLine→Q (Tr.lt t u) s→KatLex prog w A false (decide (t.len<u.len)) Q (us.zip vs) i s
 |.nil,.nil,us,vs,i,e,f,_,h=>by
  rw[Vs]at e;subst e;rw[List.zip_nil_left];exact kat_nil h
 |.nil,.cons c q,us,vs,i,e,f,_,h=>by
  rw[Vs]at e;subst e;rw[List.zip_nil_left];refine kat_nil ?_;rw[show decide (Tr.nil.len<(Tr.cons c q).len)=true from decide_eq_true (Nat.zero_lt_succ _)];exact h
 |.cons b r,.nil,us,vs,i,e,f,_,h=>by
  rw[Vs]at f;subst f;rw[List.zip_nil_right];refine kat_nil ?_;rw[show decide ((Tr.cons b r).len<Tr.nil.len)=false from ax (ar _)];exact h
 |.cons b r,.cons c q,us,vs,i,e,f,hu,h=>by
  rw[Vs]at e f;obtain⟨a,its,rest,rfl,k1,k2,k3⟩:=e;obtain⟨a',its',rest',rfl,l1,l2,l3⟩:=f;have hd:(Tr.cons b r).deep=max (b.deep+1) r.deep:=rfl;rw[List.zip_cons_cons,show decide ((Tr.cons b r).len<(Tr.cons c q).len)=decide (r.len<q.len) from by simp[Tr.len]];rw[Tr.lt]at h;refine kat_cons (Qi k1 k2 l1 l2 (by omega) prog w _ _ ?_);by_cases hbc:b=c
  ·rw[decide_eq_true hbc];rw[if_pos hbc]at h;exact kat_yes (PC r q rest rest' (i+1) k3 l3 (by omega) h)
  ·rw[decide_eq_false hbc];rw[if_neg hbc]at h;exact kat_no (by rw[Bool.false_and];exact PY k1 k2 l1 l2 (by omega) h)
def Wf(h1:s.heap.IsTuple a its.toArray)(k1:Vs s.heap t its)(h2:s.heap.IsTuple b its'.toArray)(k2:Vs s.heap u its')(hu:A.units+t.deep<cLine)(h:Q (Tr.lt t u) s):wpAny (model prog w) A (keyLt' (tuples' false) (.ref a) (.ref b)) Q E s:=by
 obtain⟨o,ho,hc,n,hd⟩:=id h1;obtain⟨o2,ho2,hc2,n2,hd2⟩:=id h2;refine kat_lt ho hd ho2 hd2 ?_;have z1:its.toArray.size=t.len:=by rw[←Vs.length k1];simp
 have z2:its'.toArray.size=u.len:=by rw[←Vs.length k2];simp
 rw[z1,z2];exact PC t u its its' 0 k1 k2 (by omega) h
def LO(κ:SortKind):Prop:=κ=general'∨κ=oneType'∨κ=tuples' false
def O9{κ:SortKind}(hκ:LO κ)(h1:s.heap.IsTuple a its.toArray)(k1:Vs s.heap t its)(h2:s.heap.IsTuple b its'.toArray)(k2:Vs s.heap u its')(hu:A.units+t.deep<cLine)(h:Q (Tr.lt t u) s):wpAny (model prog w) A (keyLt' κ (.ref a) (.ref b)) Q E s:=by
 rcases hκ with rfl|rfl|rfl
 ·exact PY h1 k1 h2 k2 hu h
 ·rw[keyLt'_oneType];exact Vb h1 k1 h2 k2 hu h
 ·exact Wf h1 k1 h2 k2 hu h
def KP{M:Model}{h:Heap}{a:AD}{x:Array VL}(h1:h.IsTuple a x):Looks M h (typeOf (.ref a)) (.type "tuple"):=by
 obtain⟨o,ho,hc,_⟩:=h1;exact hc ▸ (Looks.ld ho).andThen .now
def MN{M:Model}:∀(t:Tr) (us:List VL) {Q:List (Option VL)→SD→Prop},Vs s.heap t us→(∀fs:List (Option VL),(∀v,some v∈fs→Looks M s.heap (typeOf v) (.type "tuple"))→Q fs s)→wpAny M A (us.mapM firstOfTuple') Q E s
 |.nil,us,Q,e,h=>by
  rw[Vs]at e;subst e;rw[List.mapM_nil];exact aB (h [] fun _ z=>by cases z)
 |.cons b r,us,Q,e,h=>by
  rw[Vs]at e;obtain⟨a,its,rest,rfl,h1,h2,h3⟩:=e;obtain⟨o,ho,hc,n,hd⟩:=id h1;rw[List.mapM_cons];refine Wb ?_;rw[kas_first_eq];refine Wb (Looks.here (show Looks M s.heap (typeOf (.ref a)) o.cls from(Looks.ld ho).andThen .now) ?_);rw[hc,if_neg (by first|decide|simp)];refine Wb (listItems_at ho hd (aB ?_));refine Wb (MN r rest (Q:=fun bs s'=>wpAny M A (pure (its.toArray[0]? :: bs)) Q E s') h3 fun fs hfs=>aB (h _ fun v hv=>?_));rcases aN.mp hv with z|z
  ·cases b with
   |nil=>rw[Vs]at h2;subst h2;simp at z
   |cons c q =>
    rw[Vs]at h2;obtain⟨a',its',rest',rfl,k1,_⟩:=h2;simp at z;subst z;exact KP k1
  ·exact hfs v z
def Pn{M:Model}{vs:List VL}{Q:Option VL→SD→Prop}(hT:∀v∈vs,Looks M s.heap (typeOf v) (.type "tuple"))(h0:vs=[]→Q none s)(h1:Q (some (.type "tuple")) s):wpAny M A (oneTypeOnly' vs.toArray) Q E s:=by
 rw[oneTypeOnly'_eq,List.mapM_toArray,map_eq_pure_bind];refine Wb (Wb (kas_mapM (r:=Value.type "tuple") _ (fun v hv Q' hq=>(hT v hv).here hq) (aB ?_)));cases vs with
 |nil=>exact aB (h0 rfl)
 |cons f r =>
  have hall:((List.map (fun _=>Value.type "tuple") (f::r)).toArray.all fun x=>x==Value.type "tuple")=true:=by
   simp only[List.all_toArray,List.all_map,List.all_eq_true];intro _ _
   rfl
  have e0:(List.map (fun _=>Value.type "tuple") (f::r)).toArray[0]? = some (Value.type "tuple"):=by simp
  rw[e0];simp only[hall,if_true];exact aB h1
def PN{M:Model}{t:Tr}{us:List VL}{Q:SortKind→SD→Prop}(e:Vs s.heap t us)(h:∀κ,LO κ→Q κ s):wpAny M A (keyKind' us.toArray) Q E s:=by
 rw[kat_kind_eq,List.mapM_toArray,map_eq_pure_bind];refine Wb (Wb (MN t us e fun fs hfs=>aB ?_));split
 ·refine Wb (au ?_);have e1:fs.toArray.filterMap id=(fs.filterMap id).toArray:=by simp
  rw[e1];have hl:∀v∈fs.filterMap id,Looks M s.heap (typeOf v) (.type "tuple"):=fun v hv=>hfs v (by simpa using hv);refine Wb (Pn hl (fun _=>?_) ?_)
  ·exact aB (h _ (.inr (.inr rfl)))
  ·exact aB (h _ (.inr (.inr rfl)))
 ·split
  ·exact aB (h _ (.inl rfl))
  ·have hl:∀v∈us,Looks M s.heap (typeOf v) (.type "tuple"):=fun v hv=>by
    obtain⟨i,hi,rfl⟩:=List.getElem_of_mem hv;obtain⟨a,its,c,q1,q2,_⟩:=e.at hi;rw[List.getD_eq_getElem?_getD,List.getElem?_eq_getElem hi]at q1;simp at q1;rw[q1];exact KP q2
   refine Wb (Pn hl (fun _=>?_) ?_)
   ·exact aB (h _ (.inl rfl))
   ·exact aB (h _ (.inr (.inl rfl)))
def N5{α:Type}{cmp:Nat→Nat→(Bool→SD→Prop)→SD→Prop}{lt:Nat→Nat→Bool}{n:Nat}{Q':α→Prop}(hc:∀i j C,i<n→j<n→C (lt i j) s→cmp i j C s):∀T:KasT α,SM.Wp lt n T Q'→T.kasWp cmp (fun a s'=>s'=s∧Q' a) s
 |.ret a,h=>⟨rfl,h⟩
 |.ask i j k,h=>hc i j _ h.1 h.2.1 (N5 hc (k (lt i j)) h.2.2)
end
end TH
namespace TH
open PySem PySem.W PyProof.Rows PySem.SeqAt
def Vs.keeps{h h':Heap}(k:∀b o,h.get? b=some o→o.cls=.type "tuple" → h'.get? b=some o):∀ {t:Tr} {us:List VL},Vs h t us→Vs h' t us
 |.nil,us,e=>by rw[Vs]at e ⊢;exact e
 |.cons b r,us,e=>by
  rw[Vs]at e ⊢;obtain⟨a,its,rest,rfl,⟨o,ho,hc,hd⟩,h2,h3⟩:=e;exact⟨a,its,rest,rfl,⟨o,k _ _ ho hc,hc,hd⟩,h2.keeps k,h3.keeps k⟩
def map_getD{α:Type}(d:α)(l:List α):(List.range l.length).map (fun i=>l.getD i d)=l:=by
 refine List.ext_getElem (by simp) fun i h1 h2=>?_;simp[h2]
def Vs.rev{h:Heap}{t:Tr}{us:List VL}(e:Vs h t us):Vs h (Tr.of t.bs.reverse) us.reverse:=by
 have hl:us.length=t.bs.length:=by rw[e.length,Tr.Ep]
 refine Vs.JU _ _ (by simp[hl]) fun i hi=>?_;rw[List.length_reverse]at hi;obtain⟨a,its,c,q1,q2,q3,q4⟩:=e.all (t.bs.length-1-i) (by omega);exact⟨a,its,c,by rw[List.getElem?_reverse (by omega),hl];exact q1,q2,q3,by rw[List.getElem?_reverse hi];exact q4⟩
section
variable{prog:Program}{w:World}{A:Around}{E:VL→SD→Prop}{s:SD}
def Ub{κ:SortKind}{t:Tr}{ws:List VL}(hκ:LO κ)(e:Vs s.heap t ws)(h2:2≤ws.length)(h64:ws.length<64)(hu:A.units+t.deep≤cLine) :
  wpAny (model prog w) A ((sortRuns').run (SortSt.mk' κ (ws.toArray.zip ws.toArray) #[] 7 none)) (fun r s'=>s'=s∧failedOf r.2=none∧∃ix:List Nat,ix.length=ws.length∧(∀i∈ix,i<ws.length) ∧
   (arrOf r.2).map (·.2)=(ix.map fun i=>ws.getD i Value.none).toArray∧(ix.map fun i=>t.bs.getD i .nil)=(Tr.BV t.bs).reverse) E s:=by
 have hl:ws.length=t.bs.length:=by rw[e.length,Tr.Ep]
 have key:∀i,i<ws.length→∃(a:AD) (its:List VL),ws.getD i Value.none=.ref a∧s.heap.IsTuple a its.toArray∧Vs s.heap (t.bs.getD i .nil) its∧(t.bs.getD i .nil).deep<t.deep:=fun i hi=>by
  obtain⟨a,its,c,q1,q2,q3,q4,q5⟩:=e.at hi;have:t.bs.getD i .nil=c:=by rw[List.getD_eq_getElem?_getD,q4];rfl
  rw[this];exact⟨a,its,q1,q2,q3,q5⟩
 refine kat_run (Q:=fun st' s'=>s'=s∧failedOf st'=none∧∃ix:List Nat,ix.length=ws.length∧(∀i∈ix,i<ws.length)∧(arrOf st').map (·.2)=(ix.map fun i=>ws.getD i Value.none).toArray∧(ix.map fun i=>t.bs.getD i .nil)=(Tr.BV t.bs).reverse)
  (G:=fun p s'=>s'=s∧SM.Pm ws.length p∧SM.Up (O:=Tr.ord) (fun i=>t.bs.getD i .nil) p ws.length) rfl h2 h64 (fun p st' s' hp har hf hG=>?_)
  (N5 (lt:=SM.EE (O:=Tr.ord) fun i=>t.bs.getD i .nil) (n:=ws.length) (fun i j C hi hj hC=>?_) _ (SM.sort (by omega)))
 ·obtain⟨rfl,hpm,hup⟩:=hG;have h1:p.toList.Perm (List.range ws.length):=by simpa using Array.perm_iff_toList_perm.mp hpm.perm
  refine⟨rfl,hf,p.toList,by rw[Array.length_toList,hp],fun i hi=>List.mem_range.mp (h1.mem_iff.mp hi),kat_snds rfl har,?_⟩;have perm:(p.toList.map fun i=>t.bs.getD i .nil).Perm t.bs:=by
   have h3:=h1.map fun i=>t.bs.getD i Tr.nil
   rwa [hl,map_getD]at h3
  refine Tr.Qo (List.pairwise_iff_getElem.mpr fun i j hi hj hij=>?_) perm;rw[List.length_map,Array.length_toList,hp]at hi hj;have:=hup i j (by omega) hj;have e1:∀k,k<ws.length→∀hk,(p.toList.map fun i=>t.bs.getD i Tr.nil)[k]'hk=t.bs.getD (p.getD k 0) .nil:=fun k hk hk'=>by
   rw[List.getElem_map,Array.getElem_toList,Array.getD,dif_pos (by omega)]
   rfl
  rw[e1 i hi,e1 j hj];exact this
 ·obtain⟨a,its,q1,q2,q3,q4⟩:=key i hi;obtain⟨a',its',r1,r2,r3,r4⟩:=key j hj;unfold kas_ask;rw[q1,r1];exact O9 hκ q2 q3 r2 r3 (by omega) hC
def Rz(b:Bool)(us:List VL)(hz:us.length<2):(if b=true then((if b=true then(us.toArray.zip us.toArray).reverse else us.toArray.zip us.toArray).map (·.2)).reverse else(if b=true then(us.toArray.zip us.toArray).reverse else us.toArray.zip us.toArray).map (·.2))=us.toArray:=by
 match us,hz with
 |[],_=>cases b<;>simp
 |[x],_=>cases b<;>simp
def Ge{a : AD}{us : List VL}{t : Tr}{n : Nat}{b : Bool}{P : PySem.Fin→SD→Prop}(ho : s.heap.get? a = some (seqObj "list" us.toArray n))(e : Vs s.heap t us)(h64 : us.length < 64)(hu : A.units + t.deep≤cLine)
 (h : ∀ ix : List Nat,ix.length = us.length→(∀ i∈ix,i < us.length)→(ix.map fun i => t.bs.getD i .nil) = (if b then Tr.BV t.bs else (Tr.BV t.bs).reverse)→P (.done (.ret .none)) { s with heap:=sortedHeap s.heap a us (ix.map fun i => us.getD i Value.none).toArray }) :
    wpAny (model prog w) A (Builtin.«list.sort» ⟨[.ref a],[(Str.ofString "reverse",.bool b)]⟩) P E s := by
  rw [list_sort_rev]
  have ha : a < s.heap.objs.size:=aG ho
  refine Wb (listItems_at ho rfl ?_)
  refine Wb (listUpdate_at ho rfl ?_ (by rw [List.size_toArray,sizeLine_eq]; omega) (aa _))
  obtain ⟨e1,ho1⟩ : ∃ e1,(s.heap.update a (Obj.mapSeq fun _ => #[])).get? a = some (seqObj "list" #[] e1):=⟨_,get?_update_seq ho (fun _ => #[])⟩
  refine Wb (seqEpoch_at ho1 rfl ?_)
  refine Wb (wpAny_newTuple ?_ (by show us.length≤_; rw [sizeLine_eq]; omega))
  refine Wb (bE ?_ (aa _))
  refine aU ?_
  have ho6 : (((s.heap.update a (Obj.mapSeq fun _ => #[])).push (seqObj "tuple" us.toArray 0)).push (seqObj "list" #[] 0)).get? a = some (seqObj "list" #[] e1) := by
    rw [Heap.get?_push_ne _ _ _ (by rw [size_push',Heap.size_update]; exact aI (aX ha)),Heap.get?_push_ne _ _ _ (by rw [Heap.size_update]; exact aI ha)]
    exact ho1
  have keep : ∀ c o,s.heap.get? c = some o→o.cls = .type "tuple" → (((s.heap.update a (Obj.mapSeq fun _ => #[])).push (seqObj "tuple" us.toArray 0)).push (seqObj "list" #[] 0)).get? c = some o:=fun c o hc hcl => by
    have hne : c≠a:=fun z => by
      rw [z,ho] at hc
      cases hc
      exact absurd (show Value.type "list" = Value.type "tuple" from hcl) (by decide)
    refine aF _ (aF _ ?_)
    rw [Heap.get?_update_ne _ _ _ _ hne]
    exact hc
  show wpAny (model prog w) A _ P E { s with heap:=((s.heap.update a (Obj.mapSeq fun _ => #[])).push (seqObj "tuple" us.toArray 0)).push (seqObj "list" #[] 0) }
  have e6:=e.keeps keep
  dsimp only
  have step : ∀ T : Sem PySem.Fin,wpAny (model prog w) A T P E { s with heap:=((s.heap.update a (Obj.mapSeq fun _ => #[])).push (seqObj "tuple" us.toArray 0)).push (seqObj "list" #[] 0) } →
      wpAny (model prog w) A (if b = true then (do let _ ← rule "list.sort.reverse"; T) else T) P E { s with heap:=((s.heap.update a (Obj.mapSeq fun _ => #[])).push (seqObj "tuple" us.toArray 0)).push (seqObj "list" #[] 0) } := by
    intro T hT
    split
    · exact Wb (au hT)
    · exact hT
  refine step _ ?_
  by_cases h2 : us.toArray.size < 2
  · rw [if_pos h2,if_pos h2]
    refine Wb (aB ?_)
    rw [StateT.run_pure]
    refine Wb (aB ?_)
    dsimp only
    have hz : us.length < 2 := by simpa using h2
    have hout:=Rz b us hz
    refine Wb (seqEpoch_at ho6 rfl ?_)
    refine Wb (listUpdate_at ho6 rfl ?_ (aa _) (by
      refine aZ (Nat.le_of_eq (ay Array.size hout)) ?_
      rw [List.size_toArray,sizeLine_eq]; omega))
    simp only [bne_self_eq_false,Bool.false_eq_true,if_false]
    have hl : us.length = t.bs.length := by rw [e.length,Tr.Ep]
    have fin:=h (List.range us.length) (by simp) (fun i hi => List.mem_range.mp hi) (by
      rw [hl,map_getD]
      match hbs : t.bs,(show t.bs.length < 2 by omega) with
      | [],_ => cases b <;> rfl
      | [_],_ => cases b <;> rfl)
    rw [map_getD] at fin
    rw [← hout] at fin
    exact aB fin
  · rw [if_neg h2,if_neg h2]
    have hz : 2≤us.length := by simpa using h2
    refine Wb (PN (s:={ s with heap:=((s.heap.update a (Obj.mapSeq fun _ => #[])).push (seqObj "tuple" us.toArray 0)).push (seqObj "list" #[] 0) }) e6 fun κ hκ => ?_)
    have hl : us.length = t.bs.length := by rw [e.length,Tr.Ep]
    obtain ⟨ws,tw,ew,hwl,hws,hdp,pick⟩ : ∃ (ws : List VL) (tw : Tr),Vs (((s.heap.update a (Obj.mapSeq fun _ => #[])).push (seqObj "tuple" us.toArray 0)).push (seqObj "list" #[] 0)) tw ws∧ws.length = us.length ∧
        (if b = true then (us.toArray.zip us.toArray).reverse else us.toArray.zip us.toArray) = ws.toArray.zip ws.toArray∧tw.deep≤t.deep ∧
        ∀ (_b : Bool) (ix : List Nat),ix.length = ws.length→(∀ i∈ix,i < ws.length)→(ix.map fun i => tw.bs.getD i .nil) = (Tr.BV tw.bs).reverse→∃ iy : List Nat,iy.length = us.length∧(∀ i∈iy,i < us.length)∧(iy.map fun i => t.bs.getD i .nil) = (if b then Tr.BV t.bs else (Tr.BV t.bs).reverse) ∧
          (if b = true then ((ix.map fun i => ws.getD i Value.none).toArray).reverse else (ix.map fun i => ws.getD i Value.none).toArray) = (iy.map fun i => us.getD i Value.none).toArray := by
      cases b with
      | false => exact ⟨us,t,e6,rfl,rfl,Nat.le_refl _,fun _ ix h1 h2 h3 => ⟨ix,h1,h2,h3,rfl⟩⟩
      | true =>
        have hsrt : Tr.BV t.bs.reverse = Tr.BV t.bs:=Tr.SK (Tr.Gm _) ((Tr.GK _).trans (List.reverse_perm _))
        refine ⟨us.reverse,Tr.of t.bs.reverse,e6.rev,by simp,kat_pairs (ks:=us) (vs:=us) true rfl,Tr.Tt t,fun _ ix h1 h2 h3 => ⟨(ix.map fun i => us.length - 1 - i).reverse,by simpa using h1,fun i hi => ?_,?_,?_⟩⟩
        · rw [List.mem_reverse,List.mem_map] at hi
          obtain ⟨k,hk,rfl⟩:=hi
          have:=h2 k hk
          rw [List.length_reverse] at this
          omega
        · rw [Tr.Qj,hsrt] at h3
          rw [List.map_reverse,List.map_map]
          have : (ix.map ((fun i => t.bs.getD i Tr.nil) ∘ fun i => us.length - 1 - i)) = ix.map fun i => t.bs.reverse.getD i .nil:=List.map_congr_left fun i hi => by
            have:=h2 i hi
            rw [List.length_reverse] at this
            show t.bs.getD (us.length - 1 - i) Tr.nil = _
            rw [List.getD_eq_getElem?_getD,List.getD_eq_getElem?_getD,List.getElem?_reverse (by omega),hl]
          rw [this,h3,List.reverse_reverse]
          rfl
        · rw [if_pos rfl,List.map_reverse,List.map_map,List.reverse_toArray]
          congr 2
          exact List.map_congr_left fun i hi => by
            have:=h2 i hi
            rw [List.length_reverse] at this
            show us.reverse.getD i Value.none = us.getD (us.length - 1 - i) Value.none
            rw [List.getD_eq_getElem?_getD,List.getD_eq_getElem?_getD,List.getElem?_reverse (by omega)]
    rw [hws]
    refine Wb (aQ (Ub (s:={ s with heap:=((s.heap.update a (Obj.mapSeq fun _ => #[])).push (seqObj "tuple" us.toArray 0)).push (seqObj "list" #[] 0) }) hκ ew (by omega) (by omega) (by omega)) ?_ fun _ _ z => z)
    rintro ⟨⟨⟩,st'⟩ s' ⟨rfl,hf,ix,hil,hix,hout,hst⟩
    dsimp only
    refine Wb (seqEpoch_at ho6 rfl ?_)
    obtain ⟨iy,y1,y2,y3,hfin⟩ : ∃ iy : List Nat,iy.length = us.length∧(∀ i∈iy,i < us.length)∧(iy.map fun i => t.bs.getD i .nil) = (if b then Tr.BV t.bs else (Tr.BV t.bs).reverse) ∧
        (if b = true then ((arrOf st').map (·.2)).reverse else (arrOf st').map (·.2)) = (iy.map fun i => us.getD i Value.none).toArray := by
      rw [show (arrOf st').map (·.2) = _ from hout]
      exact pick b ix hil hix hst
    refine Wb (listUpdate_at ho6 rfl ?_ (aa _) (by
      refine aZ (Nat.le_of_eq (ay Array.size hfin)) ?_
      rw [List.size_toArray,List.length_map,y1,sizeLine_eq]; omega))
    rw [show failedOf st' = none from hf]
    simp only [bne_self_eq_false,Bool.false_eq_true,if_false]
    have fin:=h iy y1 y2 y3
    rw [← hfin] at fin
    exact aB fin
end
end TH
namespace ET
open PySem
section
variable{prog:Program}{w:World}{A:Around}{E:VL→SD→Prop}{s:SD}
def next_item{it t:AD}{i:Nat}{items}{x:VL}{Q:VL→SD→Prop}(hit:s.heap.IsTupleIter it t i)(ht:s.heap.IsTuple t items)(hx:items[i]? = some x)
 (hQ:∀h',h'.IsTupleIter it t (i+1)→Heap.SameBut it s.heap h'→Q x {s with heap:=h'}):wpAny (model prog w) A (Builtin.SmallTypes.nextOf (.ref it)) Q E s:=by
 obtain⟨o,ho,hc,hd⟩:=id hit;obtain⟨ol,hol,_,nl,hdl⟩:=ht;unfold Builtin.SmallTypes.nextOf;refine Wb (ai (name:=Str.ofString "__next__") hit.typeIs F.slot_tuple_iterator_next
  (aT F.slot_tuple_iterator_next hit.typeIs F.entry_tuple_iterator_next ?_ (F.args_tuple_iterator_next_1 _)))
 show wpAny _ _ (field (.ref it) 0>>=_) _ _ s;refine Wb (ag ho hd (x:=.ref t) rfl ?_);show wpAny _ _ (if(Value.ref t==Value.none)=true then _ else _) _ _ s;rw[if_neg (show ¬((Value.ref t==Value.none)=true) from aJ)];show wpAny _ _ (field (.ref it) 1>>=_) _ _ s;refine Wb (ag ho hd (x:=.int i 0) rfl ?_);show wpAny _ _ (seqItems? (.ref t)>>=_) _ _ s;refine Wb (aY hol hdl ?_);simp only[Int.toNat_natCast,hx];refine Wb (wpAny_setField ho hd (by simp) (aB ⟨x,rfl,wpAny_pure (hQ _ ?_ (ak ..))⟩));exact⟨_,Heap.get?_update_self _ ho (Obj.isFreed_of_fields (Obj.data_mapFields hd _)),(Obj.cls_mapFields ..).trans hc,by
  rw[Obj.data_mapFields hd];simp[rawInt]⟩
def next_end{it t:AD}{i:Nat}{items}{Q:VL→SD→Prop}(hh:A.handled=none)(hit:s.heap.IsTupleIter it t i)(ht:s.heap.IsTuple t items)(hx:items[i]? = none)
 (hE:∀h' e,Heap.ExtBut it s.heap h'→(∃o,h'.get? e=some o∧o.cls=.type "StopIteration")→E (.ref e) {s with heap:=h'}):wpAny (model prog w) A (Builtin.SmallTypes.nextOf (.ref it)) Q E s:=by
 obtain⟨o,ho,hc,hd⟩:=id hit;obtain⟨ol,hol,_,nl,hdl⟩:=ht;unfold Builtin.SmallTypes.nextOf;refine Wb (ai (name:=Str.ofString "__next__") hit.typeIs F.slot_tuple_iterator_next
  (aT F.slot_tuple_iterator_next hit.typeIs F.entry_tuple_iterator_next ?_ (F.args_tuple_iterator_next_1 _)))
 show wpAny _ _ (field (.ref it) 0>>=_) _ _ s;refine Wb (ag ho hd (x:=.ref t) rfl ?_);show wpAny _ _ (if(Value.ref t==Value.none)=true then _ else _) _ _ s;rw[if_neg (show ¬((Value.ref t==Value.none)=true) from aJ)];show wpAny _ _ (field (.ref it) 1>>=_) _ _ s;refine Wb (ag ho hd (x:=.int i 0) rfl ?_);show wpAny _ _ (seqItems? (.ref t)>>=_) _ _ s;refine Wb (aY hol hdl ?_);simp only[Int.toNat_natCast,hx];refine Wb (au (Wb (wpAny_setField ho hd (by simp) ?_)));show wpAny _ _ (newExc (.type "StopIteration") []>>=_) _ _ _;refine Wb ?_;simp only[newExc,newTuple];refine Wb (aW ?_ (by size_fits));refine Wb (m:=firstArgMember _ _) (wpAny_of_eq (a:=Value.none) (by first|rfl|(simp only[firstArgMember];rfl)) ?_);refine aW ?_ (by size_fits);simp only[raiseNew];refine Wb (wpAny_handled ?_)
 first|rw[show A.in1.handled=none from hh]|rw[hh]
 refine Wb (aB (wpAny_throw ?_));exact hE _ _ (((ak ..).extBut.push _).push _) ⟨_,Heap.get?_push_size _ rfl,rfl⟩
end
section
open AutoSeq1 (wpAny_loadPart')
def Ru(l:AD)(items:Array VL)(n:Nat)(dct:Option AD)(sl:Array (Option VL)) :
  Meets (Builtin.«enumerate.__new__» ⟨[.type "enumerate",.ref l],[]⟩) (fun _ R s=>s.heap.get? l=some { cls:=.type "tuple",dict:=dct,data:=.seq items n,slots:=sl} ∧
   R (.ok (.ret (.ref (s.heap.push { cls:=.type "tuple_iterator",data:=.fields #[.ref l,.int 0 0]}).objs.size)))
    {s with heap:=(s.heap.push { cls:=.type "tuple_iterator",data:=.fields #[.ref l,.int 0 0]}).push { cls:=.type "enumerate",data:=.fields #[.none,.bool false,.ref s.heap.objs.size,rawInt 0,.none,.none]} }) :=
 .of_wp fun prog w A R s h=>by
  obtain⟨hp,g,d,tk,os⟩:=s;obtain⟨hl,h⟩:=h;have hsub:=sub_enumerate;have hL:Heap.IsTuple (Shared.heap ⟨hp,g,d,tk,os⟩) l items:=⟨_,hl,rfl,n,rfl⟩
  wp_walk using wpAny_loadPart' hl
  refine wpAny_stack_any fun st=>aB ?_;split
  ·rename_i c _ _ _ _ _;cases (c==Value.type "enumerate")
   ·wp_walk using wpAny_loadPart' hl,wpAny_pyIter_tuple hL
    exact⟨_,rfl,h⟩
   ·wp_walk using wpAny_loadPart' hl,wpAny_pyIter_tuple hL
    exact⟨_,rfl,h⟩
  ·wp_walk using wpAny_loadPart' hl,wpAny_pyIter_tuple hL
   exact⟨_,rfl,h⟩
def RP{prog:Program}{w:World}{A:Around}{E:VL→SD→Prop}{s:SD}{l:AD}{items:Array VL}{Q:VL→SD→Prop}(hL:s.heap.IsTuple l items)
 (h:∀h',IsEnum h' (s.heap.objs.size+1) s.heap.objs.size 0 .none→h'.IsTupleIter s.heap.objs.size l 0→h'.objs.size=s.heap.objs.size+2 →
   (∀b o,s.heap.get? b=some o→h'.get? b=some o)→Q (.ref (s.heap.objs.size+1)) {s with heap:=h'}) :
  wpAny (model prog w) A (call (.type "enumerate") [.ref l]) Q E s:=by
 obtain⟨⟨c,dct,dt,sl⟩,hl,hc,n,hd⟩:=hL
 replace hc:c=.type "tuple" := hc
 replace hd:dt=.seq items n:=hd
 subst hc hd;refine callType_new F.called_enumerate (by decide) (F.typeCall_enumerate_1 _) (F.newCall_enumerate_1 _) (fun obj=>F.args_object_init_2 obj _) F.entry_enumerate_new
  (Ru l items n dct sl) ⟨hl,?_⟩
 have hz:(s.heap.push { cls:=.type "tuple_iterator",data:=.fields #[.ref l,.int 0 0]}).objs.size=s.heap.objs.size+1:=Heap.size_push ..;show _∧_;rw[hz];have he:IsEnum ((s.heap.push { cls:=.type "tuple_iterator",data:=.fields #[.ref l,.int 0 0]}).push
   { cls:=.type "enumerate",data:=.fields #[.none,.bool false,.ref s.heap.objs.size,rawInt 0,.none,.none]}) (s.heap.objs.size+1) s.heap.objs.size 0 .none:=by
  have:=aL (s.heap.push { cls:=.type "tuple_iterator",data:=.fields #[.ref l,.int 0 0]})
   (o:={ cls:=.type "enumerate",data:=.fields #[.none,.bool false,.ref s.heap.objs.size,rawInt 0,.none,.none]}) rfl
  rw[hz]at this;exact this
 refine⟨⟨_,he,rfl⟩,h _ he ⟨_,Heap.get?_push_of_some _ (aL _ rfl),rfl,rfl⟩ (by rw[Heap.size_push,hz]) fun b o x=>aF _ (aF _ x)⟩
end
def draws{prog:Program}{w:World}{A:Around}(hh:A.handled=none)(it a:AD)(its:List VL)(hne:a≠it) :
  Draws prog w A it [it,a] its.length (fun i x=>its[i]? = some x) (fun i h=>h.IsTupleIter it a i∧h.IsTuple a its.toArray) where
 live:=fun i h st=>let⟨o,e,_⟩:=st.1;⟨o,e⟩
 frame:=fun i h h' st k=>by
  obtain⟨⟨o,e,r⟩,o2,e2,r2⟩:=st;exact⟨⟨o,k it (by simp) o e,r⟩,o2,k a (by simp) o2 e2,r2⟩
 item:=fun i s Q E hi st hQ=>next_item st.1 st.2 (x:=its[i]) (by simp[hi]) fun h' st' sb =>
  hQ _ h' s.toks (by simp[hi]) ⟨st',let⟨o,e,r⟩:=st.2;⟨o,(sb.2 a hne).trans e,r⟩⟩ sb
 done:=fun s Q E st hE=>next_end hh st.1 st.2 (by simp) hE
end ET
namespace L2
open PySem PySem.Spec PyProof.Rows
def Ts(H:Hp):Tr→List V→Prop
 |.nil,xs=>xs=[]
 |.cons b r,xs=>∃(a:AD) (ys zs:List V),xs=.ref a::zs∧H a=some (.tup ys)∧Ts H b ys∧Ts H r zs
def Tv(H:Hp)(t:Tr)(v:V):Prop:=∃(a:AD) (ys:List V),v=.ref a∧H a=some (.tup ys)∧Ts H t ys
def Ts.same{H H':Hp}(e:AI H H'):∀ {t:Tr} {xs:List V},Ts H t xs→Ts H' t xs
 |.nil,xs,h=>by rw[Ts]at h ⊢;exact h
 |.cons b r,xs,h=>by
  rw[Ts]at h ⊢;obtain⟨a,ys,zs,e1,h1,h2,h3⟩:=h;exact⟨a,ys,zs,e1,e _ _ h1,h2.same e,h3.same e⟩
def Tv.same{H H':Hp}{t:Tr}{v:V}(h:Tv H t v)(e:AI H H'):Tv H' t v:=let⟨a,ys,e1,h1,h2⟩:=h;⟨a,ys,e1,e _ _ h1,h2.same e⟩
def Ts.length{H:Hp}:∀ {t:Tr} {xs:List V},Ts H t xs→xs.length=t.len
 |.nil,xs,h=>by rw[Ts]at h;rw[h];rfl
 |.cons b r,xs,h=>by
  rw[Ts]at h;obtain⟨a,ys,zs,rfl,_,_,h3⟩:=h;rw[List.length_cons,Tr.len,h3.length]
def Ts.len{H:Hp}{t:Tr}{xs:List V}(h:Ts H t xs):xs.length=t.bs.length:=by rw[h.length,Tr.Ep]
def Ts.get{H:Hp}:∀ {t:Tr} {xs:List V} {i:Nat} {v:V},Ts H t xs→xs[i]? = some v→∃c,t.bs[i]? = some c∧Tv H c v
 |.nil,xs,i,v,h,e=>by rw[Ts]at h;subst h;simp at e
 |.cons b r,xs,i,v,h,e=>by
  rw[Ts]at h;obtain⟨a,ys,zs,rfl,h1,h2,h3⟩:=h;cases i with
  |zero=>simp at e;subst e;exact⟨b,rfl,a,ys,rfl,h1,h2⟩
  |succ i =>
   obtain⟨c,q1,q2⟩:=h3.get (i:=i) (v:=v) (by simpa using e);exact⟨c,by simpa[Tr.bs]using q1,q2⟩
def Ts.JU{H:Hp}:∀(ts:List Tr) (xs:List V),xs.length=ts.length→(∀(i:Nat) (v:V),xs[i]? = some v→∃c,ts[i]? = some c∧Tv H c v)→Ts H (Tr.of ts) xs
 |[],xs,hl,_=>by
  rw[Tr.of,Ts];exact List.eq_nil_of_length_eq_zero (by simpa using hl)
 |t::ts,[],hl,_=>by simp at hl
 |t::ts,x::xs,hl,h=>by
  rw[Tr.of,Ts];obtain⟨c,e1,a,ys,rfl,h1,h2⟩:=h 0 x rfl;simp at e1;subst e1;exact⟨a,ys,xs,rfl,h1,h2,Ts.JU ts xs (by simpa using hl) fun i v e=>by
   obtain⟨c,q1,q2⟩:=h (i+1) v (by simpa using e);exact⟨c,by simpa using q1,q2⟩⟩
def Ts.pick{H:Hp}{t:Tr}{xs:List V}(h:Ts H t xs)(ix:List Nat)(hi:∀i∈ix,i<xs.length):Ts H (Tr.of (ix.map fun i=>t.bs.getD i .nil)) (ix.map fun i=>xs.getD i .Ao):=by
 refine Ts.JU _ _ (by simp) fun i v e=>?_;rw[List.getElem?_map]at e ⊢;cases q:ix[i]? with
 |none=>rw[q]at e;cases e
 |some k =>
  rw[q]at e;have hk:k<xs.length:=hi k (List.mem_of_getElem? q);simp only[Option.map_some,Option.some.injEq]at e;obtain⟨c,q1,q2⟩:=h.get (i:=k) (v:=v) (by rw[←e,List.getD_eq_getElem?_getD,List.getElem?_eq_getElem hk];rfl);refine⟨c,?_,q2⟩;simp only[Option.map_some,List.getD_eq_getElem?_getD,q1]
  rfl
section
variable{X:Cx}{pins:List (AD×Obj)}{σ:St}{H:Hp}{s:SD}
def Ts.vs(I:Inv X pins σ H s):∀ {t:Tr} {xs:List V} {us:List VL},Ts H t xs→Vals xs us→TH.Vs s.heap t us
 |.nil,xs,us,h,r=>by
  rw[Ts]at h;subst h;cases r;rw[TH.Vs]
 |.cons b rr,xs,us,h,r=>by
  rw[Ts]at h;obtain⟨a,ys,zs,rfl,h1,h2,h3⟩:=h;cases r with
  |cons r1 r2 =>
   cases r1;obtain⟨its,rv,p,_⟩:=I.tuple (BF.of (K:=X.K) h1);rw[TH.Vs];exact⟨a,its,_,rfl,p,Ts.vs I h2 rv,Ts.vs I h3 r2⟩
end
def X6(K:Fg)(a:AD):It :=
 ⟨fun i H=>∃xs x,BF K H a xs∧xs[i]? = some x,fun i H v H'=>∃p x,v=.ref p∧H p=none∧H'=upd H p (.tup [.int i,x])∧∀xs,BF K H a xs→xs[i]? = some x,fun i H=>∃xs,BF K H a xs∧xs.length=i⟩
def RQ{P:Program}{w:World}{K:Fg}{elts:List Expr}{x1}{pos:Pos}(a e it:AD)(hne:e≠it) :
  Turn P w K (.Tuple elts x1 pos) (X6 K a) [e,it] e (fun i h=>(∃old,IsEnum h e it (i:Nat) old)∧h.IsTupleIter it a i) where
 mem:=by simp
 obj:=fun i h st b hb=>by
  rcases aN.mp hb with rfl|hb
  ·obtain⟨⟨old,q⟩,_⟩:=st;exact⟨_,q,fun v z=>by cases z⟩
  ·have e2:b=it:=by simpa using hb
   subst e2;obtain⟨_,o,q,c,d⟩:=st;exact⟨o,q,fun v z=>by rw[d]at z;cases z⟩
 keep:=fun i h h' st k=>by
  obtain⟨⟨old,q⟩,o,q2,r⟩:=st;exact⟨⟨old,k e (by simp) _ q⟩,o,k it (by simp) _ q2,r⟩
 item:=by
  intro X hP hw hK hc i pins s σ H E I hf st hg;subst hP hw hK;obtain⟨xs,x,hq,hx⟩:=hg;obtain⟨its,rv,p,hz⟩:=I.tuple hq;obtain⟨u,hu,ru⟩:=rv.get hx;obtain⟨⟨old,he⟩,hit⟩:=st;have hai:a≠it:=fun z=>by
   obtain⟨o,e1,c1,_⟩:=p;obtain⟨o2,e2,c2,_⟩:=hit;rw[z,e2]at e1;cases e1;rw[c1]at c2;exact absurd c2 (by decide)
  have hae:a≠e:=fun z=>by
   obtain⟨o,e1,c1,_⟩:=p;rw[z,he]at e1;cases e1;exact absurd (show Value.type "enumerate" = Value.type "tuple" from c1) (by decide)
  have hlt:i<its.length:=(aM.mp hu).1;have hE0:=hf e (by simp);have hI0:=hf it (by simp);refine wpAny_pyNext_enum_itemD (ET.draws (prog:=X.prog) (w:=X.w) (A:=X.A.in1) (I.ok.hd hc) it a its hai) he ⟨hit,p⟩ hlt hne (by simp[hne,Ne.symm hae]) fun y h' tk hy ho hs' hT hsz hk=>⟨_,rfl,wpAny_letOwnedTupleGo_enum (s:={s with heap:=h',toks:=tk+1}) ho fun h'' he'' sb=>?_⟩;have hyu:y=u:=by rw[hu]at hy;exact(aV hy).symm
  subst hyu;have keep:∀b o,b≠e→b≠it→s.heap.get? b=some o→h''.get? b=some o:=fun b o h1 h2 q=>(sb.2 b h1).trans (hk b o h1 h2 q);have hTe:s.heap.objs.size≠e:=Nat.ne_of_gt (aG he);have hTi:s.heap.objs.size≠it:=let⟨_,q,_⟩:=hit;Nat.ne_of_gt (aG q);have hT'':h''.get? s.heap.objs.size=some { cls:=.type "tuple",data:=.seq #[.int i tk,y]}:=(sb.2 _ hTe).trans hT;have hTn:H s.heap.objs.size=none:=I.Ag.fresh (aH _);have neT:∀b o,s.heap.get? b=some o→b≠s.heap.objs.size:=fun b o q=>aI (aG q);have EK:∀b o,H b=some o→b≠e∧b≠it:=fun b o q=>⟨(fun z=>by rw[z,hE0.1]at q;cases q),(fun z=>by rw[z,hI0.1]at q;cases q)⟩;refine⟨.ref s.heap.objs.size,upd H s.heap.objs.size (.tup [.int i,x]),?_,rfl,⟨_,x,rfl,hTn,rfl,fun ys hy=>by rw[I.Mh hy hq];exact hx⟩,⟨⟨_,by simpa using he''⟩,?_⟩,fun b hb=>?_⟩
  ·show Inv X pins σ _ {s with heap:=h'',gens:=s.gens,drawn:=s.drawn,toks:=tk+1};refine I.step (h':=h'') (g':=s.gens) (d':=s.drawn) (t':=tk+1) (ch:=[e,it]) (fun b hb=>?_) (fun b o _ _ hc q _=>keep b o (fun z=>hc (by simp[z])) (fun z=>hc (by simp[z])) q) (fun b o _ _ hc q _=>⟨o.slots,keep b o (fun z=>hc (by simp[z])) (fun z=>hc (by simp[z])) q⟩)
    (fun b o _ q n=>by rw[AH (neT b o q)];exact n) (fun b o hc q=>⟨o,keep b o (fun z=>hc (by simp[z])) (fun z=>hc (by simp[z])) q⟩) (fun b ys q=>by rw[AH (Ad q hTn)];exact q) (fun b o u q=>by rw[AH (Ad q hTn)];exact q)
    (fun b ps q=>⟨#[],by rw[AH (Ad q hTn),q];simp⟩) (fun m hm=>?_) (fun b o q=>?_) I.bare
   ·rcases aN.mp hb with rfl|hb
    ·exact⟨hE0.2.2.2.1,hE0.2.1,hE0.2.2.2.2.1,hE0.2.2.2.2.2⟩
    ·have e2:b=it:=by simpa using hb
     subst e2;exact⟨hI0.2.2.2.1,hI0.2.1,hI0.2.2.2.2.1,hI0.2.2.2.2.2⟩
   ·obtain⟨o,es,ep,ho,r⟩:=hm;exact⟨o,es,ep,keep _ o (Ne.symm hE0.2.1) (Ne.symm hI0.2.1) ho,r⟩
   ·by_cases hb:b=s.heap.objs.size
    ·subst hb;rw[AX]at q;cases q;exact⟨W7,[.int i tk,y],.cons ⟨tk,rfl⟩ (.cons ru .nil),_,hT'',rfl,_,rfl⟩
    ·rw[AH hb]at q;refine(I.Ag b o q).GV (fun c v hc r=>keep c v ?_ ?_ r) (fun c r=>by rw[AH (Ad r hTn)];exact r) fun c ys r=>by rw[AH (Ad r hTn)];exact r
     ·rcases hc with rfl|hc
      ·exact(EK _ _ q).1
      ·exact(EK _ _ hc).1
     ·rcases hc with rfl|hc
      ·exact(EK _ _ q).2
      ·exact(EK _ _ hc).2
  ·obtain⟨⟨o,q,r⟩,_⟩:=hs';exact⟨o,(sb.2 it (Ne.symm hne)).trans q,r⟩
  ·rcases aN.mp hb with rfl|hb
   ·rw[AH (Ne.symm hTe)];exact hE0.1
   ·have e2:b=it:=by simpa using hb
    subst e2;rw[AH (Ne.symm hTi)];exact hI0.1
 done:=by
  intro X hP hw hK hc i pins s σ H E I hf st hg;subst hP hw hK;obtain⟨xs,hq,hx⟩:=hg;obtain⟨its,rv,p,hz⟩:=I.tuple hq;obtain⟨⟨old,he⟩,hit⟩:=st;have hai:a≠it:=fun z=>by
   obtain⟨o,e1,c1,_⟩:=p;obtain⟨o2,e2,c2,_⟩:=hit;rw[z,e2]at e1;cases e1;rw[c1]at c2;exact absurd c2 (by decide)
  have hl:its.length=i:=by rw[←rv.length];exact hx
  subst hl;obtain⟨f0,f1,f2,f3,f4,f5⟩:=hf it (by simp);exact wpAny_pyNext_enum_endD (ET.draws (prog:=X.prog) (w:=X.w) (A:=X.A.in1) (I.ok.hd hc) it a its hai) he ⟨hit,p⟩ fun h' eb=>⟨rfl,I.turned (t':=s.toks) (fun b o hb q=>eb b o hb q) f0 f1 f3 f4 f5⟩
 self:=fun _ _ _ _ _ st h=>by
  obtain⟨⟨old,he⟩,_⟩:=st;exact wpAny_pyIter_enum he h
def Z1(K:Fg)(ta:TA):TI:=fun σ H R=>ta σ H fun vs H1=>∃a,vs=[.ref a]∧(∃xs,BF K H1 a xs)∧R (X6 K a) H1
def Vd{X:Cx}{elts:List Expr}{x1}{tpos:Pos}{a:Expr}{ta:TA}{p pos:Pos}(hg:Gl X "enumerate")(hm:X.mg "enumerate" = none)(ha:PA X [a] ta)(hs:starEach [a] X.env=[(false,eval a X.env)]:=by rfl) :
  PI X (.Tuple elts x1 tpos) (.Call (.Name "enumerate" p) [a] [] pos) (Z1 X.K ta):=by
 intro pins s σ H R I h;refine Call_ (EX I hg hm boot_enumerate (ah (Au (ha pos pins s σ H _ I h) fun us s1 ⟨vs,H1,I1,r1,q1⟩=>?_) hs rfl));obtain⟨t,e,⟨xs,hq⟩,q⟩:=q1;subst e;cases r1 with
 |cons r rr =>
  cases rr;cases r;obtain⟨its,rv,p',hz⟩:=I1.tuple hq;refine ET.RP (show s1.heap.IsTuple t its.toArray from p') fun h' he hit hsz hk=>wpAny_pyIter_enum he ?_;have I2:Inv X pins σ H1 {s1 with heap:=h'}:=I1.kept (t':=s1.toks) hk;have hn:s1.heap.objs.size+1≠s1.heap.objs.size:=by omega
  refine⟨s1.heap.objs.size+1,[s1.heap.objs.size+1,s1.heap.objs.size],_,_,H1,rfl,I2,RQ t _ _ hn,⟨⟨_,he⟩,hit⟩,fun b hb=>?_,q⟩;have hb':s1.heap.objs.size≤b:=by
   have hb2:b=s1.heap.objs.size+1∨b=s1.heap.objs.size:=by simpa using hb
   rcases hb2 with z|z
   ·rw[z];exact Nat.le_succ _
   ·rw[z];exact aH _
  exact I1.L6 hb' (I1.Ag.fresh hb')
end L2
namespace TH
open PySem PySem.W PyProof.Rows PySem.SeqAt
section
variable{prog:Program}{w:World}{A:Around}{E:VL→SD→Prop}{s:SD}
def HR(a:AD):Builtin.«list.sort» ⟨[.ref a],[]⟩=Builtin.«list.sort» ⟨[.ref a],[(Str.ofString "reverse",.bool false)]⟩:=by
 rw[list_sort_rev,list_sort_plain]
 rfl
def Fh{a:AD}{us:List VL}{t:Tr}{n:Nat}{P:PySem.Fin→SD→Prop}(ho:s.heap.get? a=some (seqObj "list" us.toArray n))(e:Vs s.heap t us)(h64:us.length<64)(hu:A.units+t.deep≤cLine)
 (h:∀ix:List Nat,ix.length=us.length→(∀i∈ix,i<us.length)→(ix.map fun i=>t.bs.getD i .nil)=(Tr.BV t.bs).reverse→P (.done (.ret .none)) {s with heap:=sortedHeap s.heap a us (ix.map fun i=>us.getD i Value.none).toArray}) :
  wpAny (model prog w) A (Builtin.«list.sort» ⟨[.ref a],[]⟩) P E s:=by
 rw[HR];exact Ge (b:=false) ho e h64 hu h
def KO{l:AD}{vs:List VL}{Q:List VL→SD→Prop}(hl:s.heap.IsTuple l vs.toArray)
 (h:Q vs {s with heap:=(s.heap.push (seqObj "list" #[] 0)).update s.heap.objs.size (Obj.mapSeq (· ++ vs.toArray))})(hsz:vs.length≤sizeLine) :
    wpAny (model prog w) A (collect (.ref l)) Q E s:=by
  obtain⟨o,ho,hc,n,hd⟩:=id hl
  unfold collect
  refine Wb (wpAny_runValue (codeAny_builtin entry_proto_collect' ?_))
  show wpAny _ _ (do again (.builtin "list.__iadd__" ⟨[←newList [],.ref l],[]⟩)) _ _ s
  refine Wb (bE (aB ⟨Code.quiet_builtin _ (by decide +kernel),codeAny_builtin entry_list_iadd' ?_⟩))
  show wpAny _ _ (Builtin.List.listExtendWith (.ref s.heap.objs.size) (.ref l) (.ref s.heap.objs.size)) _ _ {s with heap:=s.heap.push (seqObj "list" #[] 0)}
  unfold Builtin.List.listExtendWith
  have ho':(s.heap.push (seqObj "list" #[] 0)).get? l=some o:=aF _ ho
  refine Wb (wpAny_typeOf (T := "tuple") ⟨o,ho',hc⟩ ?_)
  have ht:(Value.type "tuple" == Value.type "tuple")=true:=by rfl
  rw[if_pos (by rw[ht];simp)]
  refine Wb (listItems_at ho' hd ?_)
  refine Wb (listItems_at (xs:=#[]) (n:=0) (aL _ rfl) rfl ?_)
  rw[if_neg (by simp)]
  refine Wb (listUpdate_at (xs:=#[]) (n:=0) (aL _ rfl) rfl ?_ (aa _) (by show(#[]++vs.toArray).size≤sizeLine+1;simp only[Array.size_append,List.size_toArray,List.length_nil];omega))
  refine aB ?_
  show wpAny (model prog w) A (do
      let o ←load s.heap.objs.size
      match o.data with
      |.seq xs _=>pure xs.toList
      |_=>unsupported "internal:collect") Q E {s with heap:=(s.heap.push (seqObj "list" #[] 0)).update s.heap.objs.size (Obj.mapSeq (· ++ vs.toArray))}
  refine Wb (wpAny_load (get?_update_seq (aL _ rfl) _) ?_)
  show wpAny _ _ (pure ((#[]:Array VL)++vs.toArray).toList) Q E _
  rw[show((#[]:Array VL)++vs.toArray).toList=vs by simp]
  exact aB h
def Oo{l:AD}{us:List VL}{t:Tr}{Q:VL→SD→Prop}(hl:s.heap.IsList l us.toArray)(e:Vs s.heap t us)(h64:us.length<64)(hu:A.units+2+t.deep≤cLine)
 (h:∀(h':Heap) (ix:List Nat) (e1:Nat),ix.length=us.length→(∀i∈ix,i<us.length)→(ix.map fun i=>t.bs.getD i .nil)=(Tr.BV t.bs).reverse→(∀c o,s.heap.get? c=some o→h'.get? c=some o) →
   h'.get? (s.heap.objs.size+1)=some (seqObj "list" (ix.map fun i=>us.getD i Value.none).toArray e1)→Q (.ref (s.heap.objs.size+1)) {s with heap:=h'}) :
  wpAny (model prog w) A (call (.builtin "sorted") [.ref l]) Q E s:=by
 refine Calls.call_function_entry kind_sorted plain_sorted entry_sorted (args_sorted1 _) ?_;unfold Builtin.«sorted»;refine Wb (m:=checkCount "sorted" 1 1 _) (aB ?_);refine Wb (collect_list hl ?_ (by rw[sizeLine_eq];omega));refine Wb (bE ?_ (by rw[sizeLine_eq];omega));have hsz:((s.heap.push (seqObj "list" #[] 0)).update s.heap.objs.size (Obj.mapSeq (· ++ us.toArray))).objs.size=s.heap.objs.size+1:=by
  rw[Heap.size_update,size_push']
 have hoL:(((s.heap.push (seqObj "list" #[] 0)).update s.heap.objs.size (Obj.mapSeq (· ++ us.toArray))).push (seqObj "list" us.toArray 0)).get? (s.heap.objs.size+1)=some (seqObj "list" us.toArray 0):=by
  rw[←hsz];exact aL _ rfl
 have keep:∀b o,s.heap.get? b=some o→o.cls=.type "tuple" →(((s.heap.push (seqObj "list" #[] 0)).update s.heap.objs.size (Obj.mapSeq (· ++ us.toArray))).push (seqObj "list" us.toArray 0)).get? b=some o:=fun b o q _=>by
  have hlt:b<s.heap.objs.size:=aG q;rw[Heap.get?_push_ne _ _ _ (by rw[hsz];exact aI (aX hlt)),Heap.get?_update_ne _ _ _ _ (aI hlt),Heap.get?_push_ne _ _ _ (aI hlt)];exact q
 show wpAny _ _ _ _ _ {s with heap:=((s.heap.push (seqObj "list" #[] 0)).update s.heap.objs.size (Obj.mapSeq (· ++ us.toArray))).push (seqObj "list" us.toArray 0)};rw[hsz];refine Wb (aU (aT slot_list_sort ⟨_,hoL,rfl⟩ entry_list_sort (Fh (s:={s with heap:=((s.heap.push (seqObj "list" #[] 0)).update s.heap.objs.size (Obj.mapSeq (· ++ us.toArray))).push (seqObj "list" us.toArray 0)}) hoL (e.keeps keep) h64 (by
  rw[show A.in1.in1.units=A.units+2 from rfl];omega) fun ix a1 a2 a3=>⟨_,rfl,?_⟩) (args_list_sort _)))
 obtain⟨e1,he1⟩:=sortedAll_at s.heap us (ix.map fun i=>us.getD i Value.none).toArray;exact aB ⟨_,rfl,h _ ix e1 a1 a2 a3 (fun _ _=>sortedAll_old) he1⟩
def NW{l:AD}{us:List VL}{t:Tr}{b:Bool}{Q:VL→SD→Prop}(hl:s.heap.IsList l us.toArray)(e:Vs s.heap t us)(h64:us.length<64)(hu:A.units+2+t.deep≤cLine)
 (h:∀(h':Heap) (ix:List Nat) (e1:Nat),ix.length=us.length→(∀i∈ix,i<us.length)→(ix.map fun i=>t.bs.getD i .nil)=(if b then Tr.BV t.bs else(Tr.BV t.bs).reverse)→(∀c o,s.heap.get? c=some o→h'.get? c=some o) →
   h'.get? (s.heap.objs.size+1)=some (seqObj "list" (ix.map fun i=>us.getD i Value.none).toArray e1)→Q (.ref (s.heap.objs.size+1)) {s with heap:=h'}) :
  wpAny (model prog w) A (call (.builtin "sorted") [.ref l] [(Str.ofString "reverse",.bool b)]) Q E s:=by
 refine call_function_entry_kw kind_sorted plain_sorted entry_sorted (args_sorted_rev _ _) ?_;unfold Builtin.«sorted»;refine Wb (m:=checkCount "sorted" 1 1 _) (aB ?_);refine Wb (collect_list hl ?_ (by rw[sizeLine_eq];omega));refine Wb (bE ?_ (by rw[sizeLine_eq];omega));have hsz:((s.heap.push (seqObj "list" #[] 0)).update s.heap.objs.size (Obj.mapSeq (· ++ us.toArray))).objs.size=s.heap.objs.size+1:=by
  rw[Heap.size_update,size_push']
 have hoL:(((s.heap.push (seqObj "list" #[] 0)).update s.heap.objs.size (Obj.mapSeq (· ++ us.toArray))).push (seqObj "list" us.toArray 0)).get? (s.heap.objs.size+1)=some (seqObj "list" us.toArray 0):=by
  rw[←hsz];exact aL _ rfl
 have keep:∀b o,s.heap.get? b=some o→o.cls=.type "tuple" →(((s.heap.push (seqObj "list" #[] 0)).update s.heap.objs.size (Obj.mapSeq (· ++ us.toArray))).push (seqObj "list" us.toArray 0)).get? b=some o:=fun b o q _=>by
  have hlt:b<s.heap.objs.size:=aG q;rw[Heap.get?_push_ne _ _ _ (by rw[hsz];exact aI (aX hlt)),Heap.get?_update_ne _ _ _ _ (aI hlt),Heap.get?_push_ne _ _ _ (aI hlt)];exact q
 show wpAny _ _ _ _ _ {s with heap:=((s.heap.push (seqObj "list" #[] 0)).update s.heap.objs.size (Obj.mapSeq (· ++ us.toArray))).push (seqObj "list" us.toArray 0)};rw[hsz];refine Wb (aU (wpAny_call_entry_kw slot_list_sort ⟨_,hoL,rfl⟩ entry_list_sort (Ge (b:=b) (s:={s with heap:=((s.heap.push (seqObj "list" #[] 0)).update s.heap.objs.size (Obj.mapSeq (· ++ us.toArray))).push (seqObj "list" us.toArray 0)}) hoL (e.keeps keep) h64 (by
  rw[show A.in1.in1.units=A.units+2 from rfl];omega) fun ix a1 a2 a3=>⟨_,rfl,?_⟩) (args_list_sort_rev _ _)))
 obtain⟨e1,he1⟩:=sortedAll_at s.heap us (ix.map fun i=>us.getD i Value.none).toArray;exact aB ⟨_,rfl,h _ ix e1 a1 a2 a3 (fun _ _=>sortedAll_old) he1⟩
def Qm{l:AD}{us:List VL}{t:Tr}{Q:VL→SD→Prop}(hl:s.heap.IsTuple l us.toArray)(e:Vs s.heap t us)(h64:us.length<64)(hu:A.units+2+t.deep≤cLine)
 (h:∀(h':Heap) (ix:List Nat) (e1:Nat),ix.length=us.length→(∀i∈ix,i<us.length)→(ix.map fun i=>t.bs.getD i .nil)=(Tr.BV t.bs).reverse→(∀c o,s.heap.get? c=some o→h'.get? c=some o) →
   h'.get? (s.heap.objs.size+1)=some (seqObj "list" (ix.map fun i=>us.getD i Value.none).toArray e1)→Q (.ref (s.heap.objs.size+1)) {s with heap:=h'}) :
  wpAny (model prog w) A (call (.builtin "sorted") [.ref l]) Q E s:=by
 refine Calls.call_function_entry kind_sorted plain_sorted entry_sorted (args_sorted1 _) ?_;unfold Builtin.«sorted»;refine Wb (m:=checkCount "sorted" 1 1 _) (aB ?_);refine Wb (KO hl ?_ (by rw[sizeLine_eq];omega));refine Wb (bE ?_ (by rw[sizeLine_eq];omega));have hsz:((s.heap.push (seqObj "list" #[] 0)).update s.heap.objs.size (Obj.mapSeq (· ++ us.toArray))).objs.size=s.heap.objs.size+1:=by
  rw[Heap.size_update,size_push']
 have hoL:(((s.heap.push (seqObj "list" #[] 0)).update s.heap.objs.size (Obj.mapSeq (· ++ us.toArray))).push (seqObj "list" us.toArray 0)).get? (s.heap.objs.size+1)=some (seqObj "list" us.toArray 0):=by
  rw[←hsz];exact aL _ rfl
 have keep:∀b o,s.heap.get? b=some o→o.cls=.type "tuple" →(((s.heap.push (seqObj "list" #[] 0)).update s.heap.objs.size (Obj.mapSeq (· ++ us.toArray))).push (seqObj "list" us.toArray 0)).get? b=some o:=fun b o q _=>by
  have hlt:b<s.heap.objs.size:=aG q;rw[Heap.get?_push_ne _ _ _ (by rw[hsz];exact aI (aX hlt)),Heap.get?_update_ne _ _ _ _ (aI hlt),Heap.get?_push_ne _ _ _ (aI hlt)];exact q
 show wpAny _ _ _ _ _ {s with heap:=((s.heap.push (seqObj "list" #[] 0)).update s.heap.objs.size (Obj.mapSeq (· ++ us.toArray))).push (seqObj "list" us.toArray 0)};rw[hsz];refine Wb (aU (aT slot_list_sort ⟨_,hoL,rfl⟩ entry_list_sort (Fh (s:={s with heap:=((s.heap.push (seqObj "list" #[] 0)).update s.heap.objs.size (Obj.mapSeq (· ++ us.toArray))).push (seqObj "list" us.toArray 0)}) hoL (e.keeps keep) h64 (by
  rw[show A.in1.in1.units=A.units+2 from rfl];omega) fun ix a1 a2 a3=>⟨_,rfl,?_⟩) (args_list_sort _)))
 obtain⟨e1,he1⟩:=sortedAll_at s.heap us (ix.map fun i=>us.getD i Value.none).toArray;exact aB ⟨_,rfl,h _ ix e1 a1 a2 a3 (fun _ _=>sortedAll_old) he1⟩
def Om{l:AD}{us:List VL}{t:Tr}{b:Bool}{Q:VL→SD→Prop}(hl:s.heap.IsTuple l us.toArray)(e:Vs s.heap t us)(h64:us.length<64)(hu:A.units+2+t.deep≤cLine)
 (h:∀(h':Heap) (ix:List Nat) (e1:Nat),ix.length=us.length→(∀i∈ix,i<us.length)→(ix.map fun i=>t.bs.getD i .nil)=(if b then Tr.BV t.bs else(Tr.BV t.bs).reverse)→(∀c o,s.heap.get? c=some o→h'.get? c=some o) →
   h'.get? (s.heap.objs.size+1)=some (seqObj "list" (ix.map fun i=>us.getD i Value.none).toArray e1)→Q (.ref (s.heap.objs.size+1)) {s with heap:=h'}) :
  wpAny (model prog w) A (call (.builtin "sorted") [.ref l] [(Str.ofString "reverse",.bool b)]) Q E s:=by
 refine call_function_entry_kw kind_sorted plain_sorted entry_sorted (args_sorted_rev _ _) ?_;unfold Builtin.«sorted»;refine Wb (m:=checkCount "sorted" 1 1 _) (aB ?_);refine Wb (KO hl ?_ (by rw[sizeLine_eq];omega));refine Wb (bE ?_ (by rw[sizeLine_eq];omega));have hsz:((s.heap.push (seqObj "list" #[] 0)).update s.heap.objs.size (Obj.mapSeq (· ++ us.toArray))).objs.size=s.heap.objs.size+1:=by
  rw[Heap.size_update,size_push']
 have hoL:(((s.heap.push (seqObj "list" #[] 0)).update s.heap.objs.size (Obj.mapSeq (· ++ us.toArray))).push (seqObj "list" us.toArray 0)).get? (s.heap.objs.size+1)=some (seqObj "list" us.toArray 0):=by
  rw[←hsz];exact aL _ rfl
 have keep:∀b o,s.heap.get? b=some o→o.cls=.type "tuple" →(((s.heap.push (seqObj "list" #[] 0)).update s.heap.objs.size (Obj.mapSeq (· ++ us.toArray))).push (seqObj "list" us.toArray 0)).get? b=some o:=fun b o q _=>by
  have hlt:b<s.heap.objs.size:=aG q;rw[Heap.get?_push_ne _ _ _ (by rw[hsz];exact aI (aX hlt)),Heap.get?_update_ne _ _ _ _ (aI hlt),Heap.get?_push_ne _ _ _ (aI hlt)];exact q
 show wpAny _ _ _ _ _ {s with heap:=((s.heap.push (seqObj "list" #[] 0)).update s.heap.objs.size (Obj.mapSeq (· ++ us.toArray))).push (seqObj "list" us.toArray 0)};rw[hsz];refine Wb (aU (wpAny_call_entry_kw slot_list_sort ⟨_,hoL,rfl⟩ entry_list_sort (Ge (b:=b) (s:={s with heap:=((s.heap.push (seqObj "list" #[] 0)).update s.heap.objs.size (Obj.mapSeq (· ++ us.toArray))).push (seqObj "list" us.toArray 0)}) hoL (e.keeps keep) h64 (by
  rw[show A.in1.in1.units=A.units+2 from rfl];omega) fun ix a1 a2 a3=>⟨_,rfl,?_⟩) (args_list_sort_rev _ _)))
 obtain⟨e1,he1⟩:=sortedAll_at s.heap us (ix.map fun i=>us.getD i Value.none).toArray;exact aB ⟨_,rfl,h _ ix e1 a1 a2 a3 (fun _ _=>sortedAll_old) he1⟩
end
end TH
namespace L2
open PySem PySem.Spec PyProof.Rows
def Vals.pick{xs:List V}{us:List VL}(r:Vals xs us):∀ix:List Nat,(∀i∈ix,i<xs.length)→Vals (ix.map fun i=>xs.getD i .Ao) (ix.map fun i=>us.getD i Value.none)
 |[],_=>.nil
 |i::ix,h=>by
  refine .cons ?_ (Vals.pick r ix fun k hk=>h k (aO _ hk));have hi:=h i aP;obtain⟨u,h1,h2⟩:=r.get (i:=i) (x:=xs[i]) (by simp[hi]);show RelV (xs.getD i .Ao) (us.getD i Value.none);rw[List.getD_eq_getElem?_getD,List.getD_eq_getElem?_getD,h1,List.getElem?_eq_getElem hi];exact h2
section
variable{X:Cx}
def Zi(K:Fg):List V→Hp→VK→Prop:=fun xs H Q=>∃(p:AD) (ys:List V) (t:Tr),xs=[.ref p]∧(A2 K H p ys∨BF K H p ys)∧Ts H t ys∧ys.length<64∧t.deep≤60 ∧
 ∀(l:AD) (zs:List V),H l=none→Ts H (Tr.of (Tr.BV t.bs).reverse) zs→Q (.ref l) (upd H l (.lst zs))
def RZ(K:Fg):List V→Hp→VK→Prop:=fun xs H Q=>∃(p:AD) (ys:List V) (t:Tr),xs=[.ref p]∧(A2 K H p ys∨BF K H p ys)∧Ts H t ys∧ys.length<64∧t.deep≤60 ∧
 ∀(l:AD) (zs:List V),H l=none→Ts H (Tr.of (Tr.BV t.bs)) zs→Q (.ref l) (upd H l (.lst zs))
def IG{pins:List (AD×Obj)}{σ:St}{H:Hp}{s:SD}{Q:VK}{t:Tr}{ts:List Tr}{ys:List V}{its:List VL}{h':Heap}{ix:List Nat}{e1:Nat}(I:Inv X pins σ H s)(ht:Ts H t ys)(rv:Vals ys its)(h64:ys.length<64)
 (a1:ix.length=its.length)(a2:∀i∈ix,i<its.length)(a3:(ix.map fun i=>t.bs.getD i .nil)=ts)(keep:∀c o,s.heap.get? c=some o→h'.get? c=some o)
 (hD:h'.get? (s.heap.objs.size+1)=some (seqObj "list" (ix.map fun i=>its.getD i Value.none).toArray e1))(q:∀(l:AD) (zs:List V),H l=none→Ts H (Tr.of ts) zs→Q (.ref l) (upd H l (.lst zs))) :
  EP X pins σ Q (.ref (s.heap.objs.size+1)) {s with heap:=h'}:=by
 have hl:=rv.length;have a2':∀i∈ix,i<ys.length:=fun i hi=>by rw[hl];exact a2 i hi
 refine⟨.ref (s.heap.objs.size+1),upd H (s.heap.objs.size+1) (.lst (ix.map fun i=>ys.getD i .Ao)),I.laid (t':=s.toks) keep (Nat.le_succ _) ⟨?_,_,e1,rv.pick ix a2',hD⟩,rfl,q _ _ (I.Ag.fresh (Nat.le_succ _)) ?_⟩
 ·rw[List.length_map,a1,←hl];exact bF (aK h64 (by rw[sizeLine_eq];decide))
 ·rw[←a3];exact ht.pick ix a2'
def SN(hu:X.A.units+64<cLine):CN X (.builtin "sorted") (Zi X.K):=by
 intro pins s σ H xs us Q I r h;obtain⟨p,ys,t,rfl,hq,ht,h64,hd,q⟩:=h;obtain⟨u,rfl,r1⟩:=r.one;cases r1;rcases hq with hq|hq
 ·obtain⟨its,rv,pl,hz⟩:=I.list hq;have hl:=rv.length;exact TH.Oo pl.isList (ht.vs I rv) (by omega) (by omega) fun h' ix e1 a1 a2 a3 keep hD=>IG I ht rv h64 a1 a2 a3 keep hD q
 ·obtain⟨its,rv,pl,hz⟩:=I.tuple hq;have hl:=rv.length;exact TH.Qm (show s.heap.IsTuple p its.toArray from pl) (ht.vs I rv) (by omega) (by omega) fun h' ix e1 a1 a2 a3 keep hD=>IG I ht rv h64 a1 a2 a3 keep hD q
def S8{e:Expr}{t:TA}{p pos kp kp2:Pos}{j}(hu:X.A.units+64<cLine)(hg:Gl X "sorted")(hm:X.mg "sorted" = none)(ha:PA X [e] t)
 (he:backTo pos (starEach [e] X.env)=(false,eval e X.env)::backTo pos (starEach [] X.env):=by rfl)(hplain:(backTo pos (starEach [e] X.env)).any (·.1)=false:=by rfl) :
  PE X (.Call (.Name "sorted" p) [e] [⟨some "reverse",.Constant (.bool true) j kp2,kp⟩] pos) (fun σ H Q=>t σ H fun vs H1=>RZ X.K vs H1 Q):=by
 intro pins s σ H Q I h;refine wpAny_Call_Name_kw (EX I hg hm boot_sorted ?_ (by decide) (by decide));refine callWith_kw (Au (ha pos pins s σ H _ I h) fun us s1 ⟨vs,H1,I1,r1,q1⟩=>kws_cons (Constant_bool (kws_nil ?_))) he hplain;obtain⟨p,ys,t,rfl,hq,ht,h64,hd,q⟩:=q1;obtain⟨u,rfl,r2⟩:=r1.one;cases r2;rcases hq with hq|hq
 ·obtain⟨its,rv,pl,hz⟩:=I1.list hq;have hl:=rv.length;exact TH.NW (b:=true) pl.isList (ht.vs I1 rv) (by omega) (by omega) fun h' ix e1 a1 a2 a3 keep hD=>IG I1 ht rv h64 a1 a2 a3 keep hD q
 ·obtain⟨its,rv,pl,hz⟩:=I1.tuple hq;have hl:=rv.length;exact TH.Om (b:=true) (show s1.heap.IsTuple p its.toArray from pl) (ht.vs I1 rv) (by omega) (by omega) fun h' ix e1 a1 a2 a3 keep hD=>IG I1 ht rv h64 a1 a2 a3 keep hD q
def YF{e k:Expr}{te tk:TE}{pos p2:Pos}(he:PE X e te)(hk:PE X k tk):PE X (.Subscript e (.Slice none none (some k) p2) pos)
  (fun σ H Q=>te σ H fun x H1=>tk σ H1 fun z H2=>∃(a:AD) (xs:List V),x=.ref a∧z=.int (-1)∧A2 X.K H2 a xs∧∀p,H2 p=none→Q (.ref p) (upd H2 p (.lst xs.reverse))):=by
 intro pins s σ H Q I h;refine Subscript_ (Au (he pins s σ H _ I h) fun v s1 ⟨x,H1,I1,r1,q1⟩=>?_);refine wpAny_Slice ?_;rw[evalPart_none];refine aB ?_;refine aB ?_;rw[evalPart_some];refine Au (hk pins s1 σ H1 _ I1 q1) fun vk s3 ⟨z,H3,I3,r3,q3⟩=>?_;obtain⟨a,xs,rfl,rfl,hq,q⟩:=q3;cases r1;obtain⟨tk',rfl⟩:=r3;have I4:Inv X pins σ H3 {s3 with heap:=s3.heap.push { cls:=.type "slice",data:=.fields #[.none,.none,.int (-1) tk']} }:=I3.kept (t':=s3.toks) fun b ob q=>aF _ q;obtain⟨its,rv,pl,hz⟩:=I4.list hq;have hlen:=rv.length;show wpAny (model X.prog X.w) X.A (subscriptTail e (.Slice none none (some k) p2) (.ref a) (.ref s3.heap.objs.size)) (EP X pins σ Q) X.xe {s3 with heap:=s3.heap.push { cls:=.type "slice",data:=.fields #[.none,.none,.int (-1) tk']} };refine tail_any (ops:=[.ref a,.ref s3.heap.objs.size]) (T := "list") pl.isList.typeIs slot_list_getitem.lookup ?_ (by with_unfolding_all rfl);refine wpAny_getItem_list_slice pl.isList (Heap.IsSliceOf.new ..) .none .none (.int (-1) tk') (by decide) ?_ (by rw[List.size_toArray]<;>omega);rw[PySem.W.krv_pick];refine⟨.ref _,_,I4.laid (t':=s3.toks) (o:=.lst xs.reverse) (fun b ob q=>aF _ q) (aH _) ?_,rfl,q _ (I4.Ag.fresh (aH _))⟩;exact⟨by rw[List.length_reverse];exact hz,its.reverse,0,rv.reverse,Heap.get?_push_size _ rfl⟩
end
def CW(Pv:Nat→List V→Hp→Prop)(n:Nat)(D:AD):Nat→Nat→List V→Hp→Prop:=fun i m ys H=>m=n-i∧i≤n∧H D=some (.lst ys)∧Pv i ys H
def WS{Pv:Nat→List V→Hp→Prop}{n i:Nat}{D:AD}{ys:List V}{y:V}{H:Hp}(hi:i<n)(p:Pv (i+1) (ys++[y]) (upd H D (.lst (ys++[y])))):∃m',m'<n-i∧CW Pv n D (i+1) m' (ys++[y]) (upd H D (.lst (ys++[y]))) :=
 ⟨n-(i+1),by omega,rfl,hi,AX,p⟩
def WK{Pv:Nat→List V→Hp→Prop}{n i:Nat}{D:AD}{ys:List V}{H:Hp}(hi:i<n)(hD:H D=some (.lst ys))(p:Pv (i+1) ys H):∃m',m'<n-i∧CW Pv n D (i+1) m' ys H:=⟨n-(i+1),by omega,rfl,hi,hD,p⟩
def V2{J:It}{n:Nat}{D:AD}{H1:Hp}{fr:List (Option Nat)}{σ:St}{ix:Nat}{tif:TT}{te:TE}{G:Hp→Prop}(Pv:Nat→List V→Hp→Prop)(h0:Pv 0 [] (upd H1 D (.lst [])))
 (hgo:∀i ys H,i<n→Pv i ys H→H D=some (.lst ys)→J.go i H∧ys.length<sizeLine∧∀x H',J.Ex i H x H' →
   tif ((carry fr σ).set ix (some x)) H' fun b H2=>if b=true then te ((carry fr σ).set ix (some x)) H2 fun y H3=>H3 D=some (.lst ys)∧∃m',m'<n-i∧CW Pv n D (i+1) m' (ys++[y]) (upd H3 D (.lst (ys++[y])))
    else ∃m',m'<n-i∧CW Pv n D (i+1) m' ys H2)
 (hstop:∀ys H,Pv n ys H→H D=some (.lst ys)→J.stop n H∧G H) :
  ∃W:Nat→Nat→List V→Hp→Prop,(∃m,W 0 m [] (upd H1 D (.lst []))) ∧
   ∀i m ys H,W i m ys H→H D=some (.lst ys)∧((J.stop i H∧G H)∨(J.go i H∧ys.length<sizeLine∧∀x H',J.Ex i H x H' →
    tif ((carry fr σ).set ix (some x)) H' fun b H2=>if b=true then te ((carry fr σ).set ix (some x)) H2 fun y H3=>H3 D=some (.lst ys)∧∃m',m'<m∧W (i+1) m' (ys++[y]) (upd H3 D (.lst (ys++[y])))
     else ∃m',m'<m∧W (i+1) m' ys H2)):=by
 refine⟨CW Pv n D,⟨n,by simp,Nat.zero_le _,AX,h0⟩,?_⟩;rintro i m ys H ⟨rfl,hi,hH,p⟩;refine⟨hH,?_⟩;by_cases hlt:i<n
 ·exact .inr (hgo i ys H hlt p hH)
 ·have e:i=n:=by omega
  subst e;exact .inl (hstop ys H p hH)
section
variable{X:Cx}
def Tn(hc:X.calm=true):CN X (.builtin "sum") (fun xs H Q=>∃(p:AD) (ns:List Int),xs=[.ref p]∧A2 X.K H p (ns.map V.int)∧Q (.int ns.sum) H):=by
 intro pins s σ H xs us Q I r h;obtain⟨p,ns,rfl,hq,q⟩:=h;obtain⟨u,rfl,r1⟩:=r.one;cases r1;obtain⟨its,rv,pl,hz⟩:=I.list hq;have hi:=intsAre_of rv;obtain⟨xs,hx⟩:=hi.allInts.items;have hl':s.heap.IsList p (intItems xs):=hx ▸ pl.isList
 refine sum_intListG (I.ok.hd hc) hl' fun h' tk t' hk=>?_;have e1:ns=xs.toList.map (·.1):=by
  rw[←nums_intItems,←hx];exact(show numsOf its.toArray.toList=ns from hi.numsOf).symm
 have e2:preSum (numAt xs) xs.size=ns.sum:=by
  rw[preSum_eq,List.take_of_length_le (by simp),e1]
 rw[e2];exact⟨.int _,H,I.kept (t':=tk) hk,⟨t',rfl⟩,q⟩
end
mutual
def Dt(l:AD)(H:Hp):PD→V→Prop
 |.none,v=>v=.Ao
 |.bool b,v=>v=.bl b
 |.int i,v=>v=.int i
 |.str x,v=>v=.str x
 |.tuple ds,v=>∃(a:AD) (xs:List V),v=.ref a∧a≠l∧H a=some (.tup xs)∧BZ l H ds xs
 |.list ds,v=>∃(a:AD) (xs:List V),v=.ref a∧a≠l∧H a=some (.lst xs)∧BZ l H ds xs
 |.dict _,_=>False
def BZ(l:AD)(H:Hp):List PD→List V→Prop
 |[],xs=>xs=[]
 |d::ds,xs=>∃x r,xs=x::r∧Dt l H d x∧BZ l H ds r
end
def BZ.len{l:AD}{H:Hp}:∀ {ds:List PD} {xs:List V},BZ l H ds xs→xs.length=ds.length
 |[],_,h=>by rw[BZ]at h;rw[h];rfl
 |_::_,_,h=>by
  rw[BZ]at h;obtain⟨x,r,rfl,_,h2⟩:=h;rw[List.length_cons,List.length_cons,BZ.len h2]
def BZ.get{l:AD}{H:Hp}:∀ {ds:List PD} {xs:List V} {i:Nat} {v:V},BZ l H ds xs→xs[i]? = some v→∃d,ds[i]? = some d∧Dt l H d v
 |[],_,i,v,h,e=>by rw[BZ]at h;subst h;simp at e
 |d::ds,_,i,v,h,e=>by
  rw[BZ]at h;obtain⟨x,r,rfl,h1,h2⟩:=h;cases i with
  |zero=>simp at e;subst e;exact⟨d,rfl,h1⟩
  |succ i =>
   obtain⟨c,q1,q2⟩:=h2.get (i:=i) (v:=v) (by simpa using e);exact⟨c,by simpa using q1,q2⟩
def BZ.nil{l:AD}{H:Hp}:BZ l H [] []:=by rw[BZ]
def BZ.cons{l:AD}{H:Hp}{d:PD}{ds:List PD}{x:V}{xs:List V}(h:Dt l H d x)(k:BZ l H ds xs):BZ l H (d::ds) (x::xs):=by
 rw[BZ];exact⟨x,xs,rfl,h,k⟩
def Dt.int{l:AD}{H:Hp}{i:Int}:Dt l H (.int i) (.int i):=by rw[Dt]
def Dt.bool{l:AD}{H:Hp}{b:Bool}:Dt l H (.bool b) (.bl b):=by rw[Dt]
def Dt.Ao{l:AD}{H:Hp}:Dt l H .none .Ao:=by rw[Dt]
def Dt.str{l:AD}{H:Hp}{x:Str}:Dt l H (.str x) (.str x):=by rw[Dt]
def Dt.tup{l a:AD}{H:Hp}{ds:List PD}{xs:List V}(n:a≠l)(h:H a=some (.tup xs))(k:BZ l H ds xs):Dt l H (.tuple ds) (.ref a):=by rw[Dt];exact⟨a,xs,rfl,n,h,k⟩
def Dt.lst{l a:AD}{H:Hp}{ds:List PD}{xs:List V}(n:a≠l)(h:H a=some (.lst xs))(k:BZ l H ds xs):Dt l H (.list ds) (.ref a):=by rw[Dt];exact⟨a,xs,rfl,n,h,k⟩
def Ok(n:Nat)(d:PD):Prop:=d.canLay0=true∧d.depth≤n
def Qf(n:Nat)(ds:List PD):Prop:=PyData.canLayAll0 ds=true∧PyData.depthAll ds≤n
def Ok.shaped{n:Nat}{d:PD}(h:Ok n d)(hn:n≤64):SeqAt.shaped d=true:=by
 unfold SeqAt.shaped;rw[h.1,Bool.true_and];exact decide_eq_true (aZ h.2 hn)
def Ok.tup{n:Nat}{ds:List PD}(h:Qf n ds):Ok (n+1) (.tuple ds):=⟨by simp only[PyData.canLay0];exact h.1,by simp only[PyData.depth];exact Nat.succ_le_succ h.2⟩
def Ok.lst{n:Nat}{ds:List PD}(h:Qf n ds):Ok (n+1) (.list ds):=⟨by simp only[PyData.canLay0];exact h.1,by simp only[PyData.depth];exact Nat.succ_le_succ h.2⟩
def Ok.int{n:Nat}{i:Int}:Ok n (.int i):=⟨by simp[PyData.canLay0],by simp[PyData.depth]⟩
def Ok.Ao{n:Nat}:Ok n .none:=⟨by simp[PyData.canLay0],by simp[PyData.depth]⟩
mutual
def IQ:∀d:PD,d.canLay0=true→PyData.eqv d d=true
 |.none,_=>by simp[PyData.eqv]
 |.bool _,_=>by simp[PyData.eqv]
 |.int _,_=>by simp[PyData.eqv]
 |.str _,_=>by simp[PyData.eqv]
 |.tuple ds,h=>by simp only[PyData.eqv];exact HI ds (by simpa only[PyData.canLay0]using h)
 |.list ds,h=>by simp only[PyData.eqv];exact HI ds (by simpa only[PyData.canLay0]using h)
 |.dict _,h=>by simp[PyData.canLay0]at h
def HI:∀ds:List PD,PyData.canLayAll0 ds=true→PyData.eqvAll ds ds=true
 |[],_=>by simp[PyData.eqvAll]
 |d::ds,h=>by
  simp only[PyData.canLayAll0,Bool.and_eq_true]at h;simp only[PyData.eqvAll,IQ d h.1,HI ds h.2,Bool.and_self]
end
def K2:PD→String
 |.none => "NoneType"
 |.bool _ => "bool"
 |.int _ => "int"
 |.str _ => "str"
 |.tuple _ => "tuple"
 |.list _ => "list"
 |.dict _ => "dict"
def Dt.ty{K:Fg}{l:AD}{H:Hp}:∀ {d:PD} {v:V},Dt l H d v→ED K H v (.type (K2 d))
 |.none,_,h=>by rw[Dt]at h;subst h;exact .Ao
 |.bool _,_,h=>by rw[Dt]at h;subst h;exact .bl _
 |.int _,_,h=>by rw[Dt]at h;subst h;exact .int _
 |.str _,_,h=>by rw[Dt]at h;subst h;exact .str _
 |.tuple _,_,h=>by rw[Dt]at h;obtain⟨a,xs,rfl,_,h1,_⟩:=h;exact .tup h1
 |.list _,_,h=>by rw[Dt]at h;obtain⟨a,xs,rfl,_,h1,_⟩:=h;exact .lst h1
 |.dict _,_,h=>by rw[Dt]at h;exact h.elim
def Hr:PD→Bool
 |.tuple _=>true
 |_=>false
def GG:PD→Bool
 |.list _=>true
 |_=>false
def GQ:PD→Bool
 |.int _=>true
 |.bool _=>true
 |_=>false
def EL:PD→Bool
 |.bool _=>true
 |_=>false
def OJ(K:Fg):∀d:PD,(∀kv,d≠.dict kv)→PySem.W.kitOne K (.type (K2 d)) (.type "tuple")=some (Hr d)
 |.none,_=>XU K
 |.bool _,_=>X9 K
 |.int _,_=>W3 K
 |.str _,_=>Xa K
 |.tuple _,_=>Xe K
 |.list _,_=>ZE K
 |.dict kv,h=>absurd rfl (h kv)
def UA(K:Fg):∀d:PD,(∀kv,d≠.dict kv)→PySem.W.kitOne K (.type (K2 d)) (.type "list")=some (GG d)
 |.none,_=>YO K
 |.bool _,_=>Xj K
 |.int _,_=>XX K
 |.str _,_=>W0 K
 |.tuple _,_=>ZA K
 |.list _,_=>XO K
 |.dict kv,h=>absurd rfl (h kv)
def Y1(K:Fg):PySem.W.kitOne K (.type "NoneType") (.type "bool")=some false:=by kernel_rfl
def XG(K:Fg):PySem.W.kitOne K (.type "str") (.type "bool")=some false:=by kernel_rfl
def W5(K:Fg):PySem.W.kitOne K (.type "tuple") (.type "bool")=some false:=by kernel_rfl
def X2(K:Fg):PySem.W.kitOne K (.type "list") (.type "bool")=some false:=by kernel_rfl
def Tc(K:Fg):∀d:PD,(∀kv,d≠.dict kv)→PySem.W.kitOne K (.type (K2 d)) (.type "int")=some (GQ d)
 |.none,_=>Xl K
 |.bool _,_=>Xs K
 |.int _,_=>ZD K
 |.str _,_=>YU K
 |.tuple _,_=>Xp K
 |.list _,_=>Y3 K
 |.dict kv,h=>absurd rfl (h kv)
def MQ(K:Fg):∀d:PD,(∀kv,d≠.dict kv)→PySem.W.kitOne K (.type (K2 d)) (.type "bool")=some (EL d)
 |.none,_=>Y1 K
 |.bool _,_=>ZF K
 |.int _,_=>Yl K
 |.str _,_=>XG K
 |.tuple _,_=>W5 K
 |.list _,_=>X2 K
 |.dict kv,h=>absurd rfl (h kv)
def Dt.nodict{l:AD}{H:Hp}{d:PD}{v:V}(h:Dt l H d v):∀kv,d≠.dict kv:=fun kv z=>by subst z;rw[Dt]at h;exact h
end L2
namespace Tr
def dp:Tr→Nat
 |.nil=>1
 |.cons b r=>b.CT*b.dp*r.dp
def Ij(t:Tr):Nat:=t.CT*t.dp
end Tr
namespace L2
open PySem PySem.Spec PyProof.Rows
mutual
def IV:PD→Option Tr
 |.tuple ds=>Gz ds
 |_=>none
def Gz:List PD→Option Tr
 |[]=>some .nil
 |d::ds=>(IV d).bind fun b=>(Gz ds).map fun r=>.cons b r
end
section
variable{X:Cx}
def ZZ:R2:=fun x y H Q=>∃a b xs ys,x=.ref a∧y=.ref b∧H a=some (.tup xs)∧H b=some (.tup ys)∧xs.length+ys.length≤sizeLine∧∀p H',AI H H'→H' p=some (.tup (xs++ys))→Q (.ref p) H'
def Vh:Bz X (binaryOp .Add) ZZ:=by
 intro pins s σ H x y v u Q I rx ry h;obtain⟨a,b,xs,ys,rfl,rfl,ha,hb,hz,q⟩:=h;cases rx;cases ry;obtain⟨its,r1,p1,_⟩:=I.tuple (BF.of (K:=X.K) ha);obtain⟨its2,r2,p2,_⟩:=I.tuple (BF.of (K:=X.K) hb);by_cases hv:its=[]
 ·have hx:=r1.Px.mp hv;subst hv hx;obtain⟨⟨cls,dd,data,sl⟩,ho,hc,n,hd⟩:=id p1;obtain⟨⟨cls2,dd2,data2,sl2⟩,ho2,hc2,n2,hd2⟩:=id p2;simp only at hc hd hc2 hd2;subst hc hd hc2 hd2;exact concat_meets ⟨_,ho,rfl⟩ ⟨_,ho2,rfl⟩ noFill_tuple_add seq_tuple_add PySem.F.slot_tuple_add PySem.F.entry_tuple_add (PySem.F.args_tuple_add_2 _ _)
   (tuple_addW0 a b _ _ n n2 dd dd2 sl sl2 (by simp)) ⟨ho,ho2,⟨.ref b,H,I,rfl,q b H (.refl H) (by simpa using hb)⟩⟩
 ·refine HT.Vz p1 p2 hv (fun z=>?_) (fun z=>?_) (by rw[←r1.length,←r2.length];exact hz)
  ·have hy:=r2.Px.mp z;subst hy;exact⟨.ref a,H,I,rfl,q a H (.refl H) (by simpa using ha)⟩
  ·refine⟨.ref s.heap.objs.size,_,I.laid (t':=s.toks) (o:=.tup (xs++ys)) (fun b ob q=>aF _ q) (aH _) ?_,rfl,q _ _ (BQ (I.Ag.fresh (aH _)) _) AX⟩;exact⟨by rw[List.length_append];exact hz,_,r1.append r2,IsTup.new _ _⟩
end
section
variable{P:Program}{w:World}{K:Fg}{mg:Str→Option VL}{base:Heap}{NN:List Str}{qual:Str}{fsc:Scope}{f:AD}{cd:VL}{A:Around}{outer:List Env}{s:SD}{H:Hp}{E:XK}
 {elt iter:Expr}{x:Str}{px pos:Pos}{ifs:List Expr}{scope:Scope}{wi:TI}{fr:List (Option Nat)}{ix:Nat}{tif:TT}{te:TE}{N:List Str}{pins pins0:List (AD×Obj)}{σ σ0:St}
end
end L2
namespace Tim
open PySem PyProof.Rows
def Pu:Bool→Keyed→Array Keyed→Nat→Nat→Nat→StateT SortSt Sem (Option Nat):=sortPriv% PySem.Builtin.gallop
def T6:Array Keyed→Array Keyed→StateT SortSt Sem (Array Keyed):=sortPriv% PySem.Builtin.mergeLo
def iter{T:Type}(step:T→Option (Bool×T)):Nat→T→Option T
 |0,t=>some t
 |n+1,t=>match step t with
  |none=>none
  |some (true,t')=>some t'
  |some (false,t')=>iter step n t'
section pure
variable(N:Nat)(lt:Nat→Nat→Bool)
def cmp(i j:Nat):Option Bool:=if i<N∧j<N then some (lt i j) else none
def at2(p:Array Nat)(i j:Nat):Option Bool:=match p[i]?,p[j]? with
 |some x,some y=>cmp N lt x y
 |_,_=>none
def turn(p:Array Nat)(i j:Nat):Array Nat:=mirror p i j ((j-i) / 2)
def Ea(p:Array Nat)(lo:Nat)(n:Nat):Option (Bool×Nat):=match at2 N lt p (lo+n) (lo+n-1) with
 |none=>none
 |some true=>some (true,n)
 |some false=>some (false,n+1)
def IX(lo:Nat)(t:Array Nat×Nat×Nat):Option (Bool×Array Nat×Nat×Nat):=match at2 N lt t.1 (lo+t.2.1) (lo+t.2.1-1) with
 |none=>none
 |some true=>some (false,(if t.2.2 > 0 then turn t.1 (lo+t.2.1-(t.2.2+1)) (lo+t.2.1) else t.1),t.2.1+1,0)
 |some false=>match at2 N lt t.1 (lo+t.2.1-1) (lo+t.2.1) with
  |none=>none
  |some true=>some (true,t)
  |some false=>some (false,t.1,t.2.1+1,t.2.2+1)
def J9(p:Array Nat)(lo nrem n:Nat):Option (Nat×Array Nat):=match iter (IX N lt lo) (nrem-(n+1)) (p,n+1,0) with
 |none=>none
 |some (p,n,q) =>
  let p:=if q > 0 then turn p (lo+n-(q+1)) (lo+n) else p
  let p:=turn p lo (lo+n)
  (iter (Ea N lt p lo) (nrem-n) n).map fun m=>(m,p)
def LA(p:Array Nat)(lo nrem:Nat):Option (Nat×Array Nat):=match iter (Ea N lt p lo) (nrem-1) 1 with
 |none=>none
 |some n=>if n==nrem then some (n,p) else if n > 1 then match at2 N lt p lo (lo+n-1) with
   |none=>none
   |some true=>some (n,p)
   |some false=>J9 N lt (turn p lo (lo+n)) lo nrem n
  else J9 N lt p lo nrem n
def Hs(p:Array Nat)(lo k:Nat)(t:Nat×Nat):Option (Bool×Nat×Nat):=if t.1 ≥ t.2 then some (true,t) else match at2 N lt p (lo+k) (lo+(t.1+t.2) / 2) with
 |none=>none
 |some true=>some (false,t.1,(t.1+t.2) / 2)
 |some false=>some (false,(t.1+t.2) / 2+1,t.2)
def HH(lo:Nat):Nat→Nat→Array Nat→Option (Array Nat)
 |0,_,p=>some p
 |f+1,k,p=>match iter (Hs N lt p lo k) k (0,k) with
  |none=>none
  |some (l,_)=>HH lo f (k+1) (bubble p (lo+k) (lo+k-(lo+l)))
def Gf(left:Bool)(key:Nat)(p:Array Nat)(base i:Nat):Option Bool:=match p[base+i]? with
 |none=>none
 |some x=>if left then cmp N lt x key else(cmp N lt key x).map (!·)
def Sd(b:Nat→Option Bool)(hint mx:Nat)(t:Nat×Nat):Option (Bool×Nat×Nat):=if t.2 ≥ mx then some (true,t) else match b (hint+t.2) with
 |none=>none
 |some true=>some (false,t.2,2*t.2+1)
 |some false=>some (true,t)
def Ro(b:Nat→Option Bool)(hint mx:Nat)(t:Nat×Nat):Option (Bool×Nat×Nat):=if t.2 ≥ mx then some (true,t) else match b (hint-t.2) with
 |none=>none
 |some true=>some (true,t)
 |some false=>some (false,t.2,2*t.2+1)
def Fe(b:Nat→Option Bool)(t:Nat×Nat):Option (Bool×Nat×Nat):=if t.1 ≥ t.2 then some (true,t) else match b (t.1+(t.2-t.1) / 2) with
 |none=>none
 |some true=>some (false,t.1+(t.2-t.1) / 2+1,t.2)
 |some false=>some (false,t.1,t.1+(t.2-t.1) / 2)
def Qz(b:Nat→Option Bool)(n hint:Nat):Option Nat:=match b hint with
 |none=>none
 |some true=>match iter (Sd b hint (n-hint)) n (0,1) with
  |none=>none
  |some (l,o)=>(iter (Fe b) n (hint+l+1,hint+min o (n-hint))).map (·.2)
 |some false=>match iter (Ro b hint (hint+1)) n (0,1) with
  |none=>none
  |some (l,o)=>(iter (Fe b) n (hint+1-min o (hint+1),hint-l)).map (·.2)
end pure
section
variable{M:Model}{A:Around}{E:VL→SD→Prop}{s:SD}{σ:Type}
def Nc{T β:Type}{body:Nat→β→StateT σ Sem (ForInStep β)}(step:T→Option (Bool×T))(Fv:T→β)(toS:T→σ){Q:β→σ→Prop}
 (hb:∀x t b t',step t=some (b,t')→∀R:ForInStep β→σ→Prop,R (if b=true then .done (Fv t') else .yield (Fv t')) (toS t')→wpS M A E s (body x (Fv t)) R (toS t)) :
  ∀(l:List Nat) (t t':T),iter step l.length t=some t'→Q (Fv t') (toS t')→wpS M A E s (forIn l (Fv t) body) Q (toS t)
 |[],t,t',h,q=>by
  cases h;rw[List.forIn_nil];exact aD q
 |x::l,t,t',h,q=>by
  rw[List.forIn_cons];rw[List.length_cons,iter]at h;cases e:step t with
  |none=>rw[e]at h;cases h
  |some r =>
   obtain⟨b,t2⟩:=r;rw[e]at h;refine aC (hb x t b t2 e _ ?_);cases b with
   |true =>
    simp only[if_true];cases h;exact aD q
   |false =>
    simp only[Bool.false_eq_true,if_false];exact Nc step Fv toS hb l t2 t' h q
def Bg{T β:Type}{a b:Nat}{body:Nat→β→StateT σ Sem (ForInStep β)}(step:T→Option (Bool×T))(Fv:T→β)(toS:T→σ){Q:β→σ→Prop}{t t':T}(h:iter step (b-a) t=some t')
 (hb:∀x t b t',step t=some (b,t')→∀R:ForInStep β→σ→Prop,R (if b=true then .done (Fv t') else .yield (Fv t')) (toS t')→wpS M A E s (body x (Fv t)) R (toS t))(q:Q (Fv t') (toS t')) :
  wpS M A E s (forIn [a:b] (Fv t) body) Q (toS t):=by
 rw[Std.Legacy.Range.forIn_eq_forIn_range'];have hsz:([a:b]:Std.Legacy.Range).size=b-a:=by simp[Std.Legacy.Range.size]
 show wpS M A E s (forIn (List.range' a ([a:b]:Std.Legacy.Range).size 1) (Fv t) body) Q (toS t);rw[hsz];exact Nc step Fv toS hb _ t t' (by rw[List.length_range'];exact h) q
end
section
variable{prog:Program}{w:World}{A:Around}{E:VL→SD→Prop}{s:SD}{N:Nat}{lt:Nat→Nat→Bool}{κ:SortKind}{it:Nat→Keyed}
def Cm(prog:Program)(w:World)(A:Around)(s:SD)(κ:SortKind)(it:Nat→Keyed)(N:Nat)(lt:Nat→Nat→Bool):Prop :=
 ∀(i j:Nat) (E:VL→SD→Prop) (Q:Bool→SD→Prop),i<N→j<N→Q (lt i j) s→wpAny (model prog w) A (keyLt' κ (it i).1 (it j).1) Q E s
abbrev St(κ:SortKind)(it:Nat→Keyed)(p:Array Nat)(pend:Array (Nat×Nat×Nat))(g:Nat):SortSt:=SortSt.mk' κ (p.map it) pend g none
variable{p:Array Nat}{pend:Array (Nat×Nat×Nat)}{g:Nat}
def Mu(hc:Cm prog w A s κ it N lt){i j:Nat}{b:Bool}(h:cmp N lt i j=some b){Q:Option Bool→SortSt→Prop}(q:Q (some b) (St κ it p pend g)):wpS (model prog w) A E s (lt' (it i) (it j)) Q (St κ it p pend g):=by
 unfold cmp at h;split at h
 ·rename_i hij;cases h;rw[lt'_eq];refine aC (wpS_get ?_);refine aC (wpS_lift (wpAny_attempt (hc i j _ _ hij.1 hij.2 ⟨rfl,?_⟩)));exact aD q
 ·cases h
def J3{xs:Array Nat}{k i:Nat}(h:xs[k]? = some i){Q:Keyed→SortSt→Prop}{st:SortSt}(q:Q (it i) st):wpS (model prog w) A E s (elem' (xs.map it) k) Q st:=by
 rw[elem'_eq,Array.getElem?_map,h];exact aD q
def B3(hc : Cm prog w A s κ it N lt){i j : Nat}{b : Bool}(h : at2 N lt p i j = some b){Q : Option Bool→SortSt→Prop}(q : Q (some b) (St κ it p pend g)) : wpS (model prog w) A E s (ltAt' i j) Q (St κ it p pend g) := by
  unfold at2 at h
  split at h
  · rename_i x y h1 h2
    rw [ltAt'_eq]
    refine aC (wpS_get ?_)
    show wpS _ _ _ _ (do let x ← elem' (p.map it) i; let y ← elem' (p.map it) j; lt' x y) Q _
    exact aC (J3 h1 (aC (J3 h2 (Mu hc h q))))
  · cases h
def Je{α β:Type}(f:α→β)(u v:Nat→Nat):∀(l:List Nat) (xs:Array α),l.foldl (fun a k=>a.swapIfInBounds (u k) (v k)) (xs.map f)=(l.foldl (fun a k=>a.swapIfInBounds (u k) (v k)) xs).map f
 |[],_=>rfl
 |k::l,xs=>by
  have e:(xs.map f).swapIfInBounds (u k) (v k)=(xs.swapIfInBounds (u k) (v k)).map f:=by
   apply Array.ext_getElem?;intro m;by_cases hi:u k<xs.size
   ·by_cases hj:v k<xs.size
    ·rw[getElem?_swapIB (by rw[Array.size_map];exact hi) (by rw[Array.size_map];exact hj)];simp only[Array.getElem?_map];rw[getElem?_swapIB hi hj];by_cases h1:v k=m<;>by_cases h2:u k=m<;>simp[h1,h2]
    ·rw[Array.swapIfInBounds_def,Array.swapIfInBounds_def];simp[hi,hj]
   ·rw[Array.swapIfInBounds_def,Array.swapIfInBounds_def];simp[hi]
  show l.foldl (fun a k=>a.swapIfInBounds (u k) (v k)) ((xs.map f).swapIfInBounds (u k) (v k))=_;rw[e];exact Je f u v l _
def Dm{i j:Nat}{Q:Unit→SortSt→Prop}(q:Q () (St κ it (turn p i j) pend g)):wpS (model prog w) A E s (reverseSlice' i j) Q (St κ it p pend g):=by
 rw[reverseSlice'_eq];refine aj ?_;have e:mirror (p.map it) i j ((j-i) / 2)=(mirror p i j ((j-i) / 2)).map it:=Je it (fun k=>i+k) (fun k=>j-1-k) _ p;show Q () (SortSt.mk' κ (mirror (p.map it) i j ((j-i) / 2)) pend g none);rw[e];exact q
def WX{i j:Nat}{Q:Unit→SortSt→Prop}(q:Q () (St κ it (bubble p i (i-j)) pend g)):wpS (model prog w) A E s (moveDown' i j) Q (St κ it p pend g):=by
 rw[moveDown'_eq];refine aj ?_;have e:bubble (p.map it) i (i-j)=(bubble p i (i-j)).map it:=Je it (fun k=>i-k) (fun k=>i-k-1) _ p;show Q () (SortSt.mk' κ (bubble (p.map it) i (i-j)) pend g none);rw[e];exact q
def GJ(hc:Cm prog w A s κ it N lt){left:Bool}{key:Nat}{xs:Array Nat}{base i:Nat}{b:Bool}(h:Gf N lt left key xs base i=some b){Q:Option Bool→SortSt→Prop}(q:Q (some b) (St κ it p pend g)) :
    wpS (model prog w) A E s (do
        let x ←elem' (xs.map it) (base+i)
        if left=true then lt' x (it key)
          else do
            let c ←lt' (it key) x
            pure (Option.map (fun x=>!x) c)) Q (St κ it p pend g):=by
  unfold Gf at h
  split at h
  · cases h
  · rename_i x hx
    refine aC (J3 hx ?_)
    cases left with
    |true =>
      simp only[if_true]at h ⊢
      exact Mu hc h q
    |false =>
      simp only[Bool.false_eq_true,if_false]at h ⊢
      cases e:cmp N lt key x with
      |none=>rw[e]at h;cases h
      |some c =>
        rw[e]at h
        cases h
        exact aC (Mu hc e (aD q))
def SQ(hc:Cm prog w A s κ it N lt){left:Bool}{key:Nat}{xs:Array Nat}{base n hint k:Nat}(h:Qz (Gf N lt left key xs base) n hint=some k){Q:Option Nat→SortSt→Prop}(q:Q (some k) (St κ it p pend g)) :
  wpS (model prog w) A E s (Pu left (it key) (xs.map it) base n hint) Q (St κ it p pend g):=by
 unfold Qz at h;refine aC ?_;have fin:∀ {lo hi:Nat},(iter (Fe (Gf N lt left key xs base)) n (lo,hi)).map (·.2)=some k→∃lo' ,iter (Fe (Gf N lt left key xs base)) n (lo,hi)=some (lo',k):=fun {lo hi} z=>by
  cases e:iter (Fe (Gf N lt left key xs base)) n (lo,hi) with
  |none=>rw[e]at z;cases z
  |some t=>rw[e]at z;cases z;exact⟨t.1,rfl⟩
 cases e0:Gf N lt left key xs base hint with
 |none=>rw[e0]at h;cases h
 |some right =>
  rw[e0]at h;refine GJ hc e0 ?_;have bis:∀(body:Nat→Option (Option Nat)×Nat×Nat→StateT SortSt Sem (ForInStep (Option (Option Nat)×Nat×Nat))) (K:Option (Option Nat)×Nat×Nat→StateT SortSt Sem (Option Nat)),
    (∀x lo hi (R:ForInStep (Option (Option Nat)×Nat×Nat)→SortSt→Prop),lo ≥ hi→R (.done (none,lo,hi)) (St κ it p pend g)→wpS (model prog w) A E s (body x (none,lo,hi)) R (St κ it p pend g)) →
    (∀x lo hi c (R:ForInStep (Option (Option Nat)×Nat×Nat)→SortSt→Prop),¬lo ≥ hi→Gf N lt left key xs base (lo+(hi-lo) / 2)=some c→R (.yield (if c=true then(none,lo+(hi-lo) / 2+1,hi) else(none,lo,lo+(hi-lo) / 2))) (St κ it p pend g)→wpS (model prog w) A E s (body x (none,lo,hi)) R (St κ it p pend g)) →
    (∀lo hi,K (none,lo,hi)=pure (some hi))→∀lo hi,(iter (Fe (Gf N lt left key xs base)) n (lo,hi)).map (·.2)=some k→wpS (model prog w) A E s (forIn [0:n] (none,lo,hi) body>>=K) Q (St κ it p pend g):=by
   intro body K h1 h2 h3 lo hi hz;obtain⟨lo',e⟩:=fin hz;refine aC (Bg (T:=Nat×Nat) (Fe (Gf N lt left key xs base)) (fun t=>(none,t.1,t.2)) (fun _=>St κ it p pend g) (t:=(lo,hi)) e (fun x t b t' hs R hR=>?_) ?_)
   ·unfold Fe at hs;split at hs
    ·rename_i hge;cases hs;exact h1 x t.1 t.2 R hge hR
    ·rename_i hge;split at hs
     ·cases hs
     ·rename_i hb;cases hs;exact h2 x t.1 t.2 true R hge hb hR
     ·rename_i hb;cases hs;exact h2 x t.1 t.2 false R hge hb hR
   ·show wpS _ _ _ _ (K (none,lo',k)) _ _;rw[h3];exact aD q
  cases right with
  |true =>
   simp only[if_true]at h ⊢;split at h
   ·cases h
   ·rename_i l o e1;refine aC (Bg (T:=Nat×Nat) (Sd (Gf N lt left key xs base) hint (n-hint)) (fun t=>(none,t.1,t.2)) (fun _=>St κ it p pend g) (t:=(0,1)) e1 (fun x t b t' hs R hR=>?_) ?_)
    ·unfold Sd at hs;split at hs
     ·rename_i hge;cases hs;show wpS _ _ _ _ (if t.2 ≥ n-hint then _ else _) _ _;rw[if_pos hge];exact aD hR
     ·rename_i hge;show wpS _ _ _ _ (if t.2 ≥ n-hint then _ else _) _ _;rw[if_neg hge];split at hs
      ·cases hs
      ·rename_i hb;cases hs;exact aC (GJ hc hb (aD hR))
      ·rename_i hb;cases hs;exact aC (GJ hc hb (aD hR))
    ·refine bis _ _ (fun x lo hi R hge hR=>?_) (fun x lo hi c R hge hb hR=>?_) (fun _ _=>rfl) _ _ h
     ·dsimp only;rw[if_pos hge];exact aD hR
     ·dsimp only;rw[if_neg hge];refine aC (GJ hc hb ?_);cases c with
      |true=>exact aD hR
      |false=>exact aD hR
  |false =>
   simp only[Bool.false_eq_true,if_false]at h ⊢;split at h
   ·cases h
   ·rename_i l o e1;refine aC (Bg (T:=Nat×Nat) (Ro (Gf N lt left key xs base) hint (hint+1)) (fun t=>(none,t.1,t.2)) (fun _=>St κ it p pend g) (t:=(0,1)) e1 (fun x t b t' hs R hR=>?_) ?_)
    ·unfold Ro at hs;split at hs
     ·rename_i hge;cases hs;show wpS _ _ _ _ (if t.2 ≥ hint+1 then _ else _) _ _;rw[if_pos hge];exact aD hR
     ·rename_i hge;show wpS _ _ _ _ (if t.2 ≥ hint+1 then _ else _) _ _;rw[if_neg hge];split at hs
      ·cases hs
      ·rename_i hb;cases hs;exact aC (GJ hc hb (aD hR))
      ·rename_i hb;cases hs;exact aC (GJ hc hb (aD hR))
    ·refine bis _ _ (fun x lo hi R hge hR=>?_) (fun x lo hi c R hge hb hR=>?_) (fun _ _=>rfl) _ _ h
     ·dsimp only;rw[if_pos hge];exact aD hR
     ·dsimp only;rw[if_neg hge];refine aC (GJ hc hb ?_);cases c with
      |true=>exact aD hR
      |false=>exact aD hR
def GW(hc:Cm prog w A s κ it N lt){lo n:Nat}{b:Bool}{t':Nat}(h:Ea N lt p lo n=some (b,t')){R:ForInStep (Option (Option Nat)×Nat)→SortSt→Prop}(hR:R (if b=true then .done (none,t') else .yield (none,t')) (St κ it p pend g)) :
    wpS (model prog w) A E s (do
      let x ←ltAt' (lo+n) (lo+n-1)
      match x with
      |some smaller=>if smaller=true then pure (ForInStep.done (none,n)) else pure (ForInStep.yield (none,n+1))
      |_=>pure (ForInStep.done (some none,n))) R (St κ it p pend g):=by
  unfold Ea at h
  split at h
  · cases h
  · rename_i hb
    cases h
    exact aC (B3 hc hb (aD hR))
  · rename_i hb
    cases h
    exact aC (B3 hc hb (aD hR))
def TK(hc:Cm prog w A s κ it N lt){lo nrem m:Nat}{p':Array Nat}(h:LA N lt p lo nrem=some (m,p')){Q:Option Nat→SortSt→Prop}(q:Q (some m) (St κ it p' pend g)):wpS (model prog w) A E s (countRun' lo nrem) Q (St κ it p pend g):=by
 unfold LA at h;split at h
 ·cases h
 ·rename_i n e1;refine aC (Bg (T:=Nat) (Ea N lt p lo) (fun t=>(none,t)) (fun _=>St κ it p pend g) e1 (fun x t b t' hs R hR=>GW hc hs hR) ?_);dsimp only;split at h
  ·rename_i hn;cases h;rw[if_pos hn];exact aD q
  ·rename_i hn;rw[if_neg hn];split at h
   ·rename_i hn1;rw[if_pos hn1];split at h
    ·cases h
    ·rename_i hb;cases h;exact aC (B3 hc hb (aD q))
    ·rename_i hb;refine aC (B3 hc hb ?_);dsimp only;rw[if_neg (by decide)];refine aC (Dm ?_);obtain⟨p1,hp1⟩:∃p1,p1=turn p lo (lo+n):=⟨_,rfl⟩;rw[←hp1]at h ⊢;refine aC (wpS_lift (au ⟨rfl,?_⟩));unfold J9 at h;split at h
     ·cases h
     ·rename_i p2 n2 q2 e2;refine aC (Bg (T:=Array Nat×Nat×Nat) (IX N lt lo) (fun t=>(none,t.2)) (fun t=>St κ it t.1 pend g) (t:=(p1,n+1,0)) e2 (fun x t b t' hs R hR=>?_) ?_)
      ·unfold IX at hs;split at hs
       ·cases hs
       ·rename_i hb;cases hs;refine aC (B3 hc hb ?_);dsimp only at hR ⊢;rw[if_pos rfl];by_cases hq:t.2.2 > 0
        ·rw[if_pos hq]at hR ⊢;exact aC (Dm (aD hR))
        ·rw[if_neg hq]at hR ⊢;exact aD hR
       ·rename_i hb;refine aC (B3 hc hb ?_);dsimp only;rw[if_neg (by decide)];split at hs
        ·cases hs
        ·rename_i hb2;cases hs;exact aC (B3 hc hb2 (aD hR))
        ·rename_i hb2;cases hs;exact aC (B3 hc hb2 (aD hR))
      ·dsimp only at h ⊢;obtain⟨p3,hp3⟩:∃p3,p3=turn (if q2 > 0 then turn p2 (lo+n2-(q2+1)) (lo+n2) else p2) lo (lo+n2):=⟨_,rfl⟩;rw[←hp3]at h;cases e3:iter (Ea N lt p3 lo) (nrem-n2) n2 with
       |none=>rw[e3]at h;cases h
       |some m' =>
        rw[e3]at h;obtain⟨rfl,h4⟩:m'=m∧p3=p':=by simpa using h
        rw[←h4]at q;by_cases hq:q2 > 0
        ·rw[if_pos hq]at hp3 ⊢;refine aC (Dm (aC (Dm ?_)));rw[←hp3];exact aC (Bg (T:=Nat) (Ea N lt p3 lo) (fun t=>(none,t)) (fun _=>St κ it p3 pend g) e3 (fun x t b t' hs R hR=>GW hc hs hR) (aD q))
        ·rw[if_neg hq]at hp3 ⊢;refine aC (Dm ?_);rw[←hp3];exact aC (Bg (T:=Nat) (Ea N lt p3 lo) (fun t=>(none,t)) (fun _=>St κ it p3 pend g) e3 (fun x t b t' hs R hR=>GW hc hs hR) (aD q))
   ·rename_i hn1;rw[if_neg hn1];refine aC (wpS_lift (au ⟨rfl,?_⟩));unfold J9 at h;split at h
    ·cases h
    ·rename_i p2 n2 q2 e2;refine aC (Bg (T:=Array Nat×Nat×Nat) (IX N lt lo) (fun t=>(none,t.2)) (fun t=>St κ it t.1 pend g) (t:=(p,n+1,0)) e2 (fun x t b t' hs R hR=>?_) ?_)
     ·unfold IX at hs;split at hs
      ·cases hs
      ·rename_i hb;cases hs;refine aC (B3 hc hb ?_);dsimp only at hR ⊢;rw[if_pos rfl];by_cases hq:t.2.2 > 0
       ·rw[if_pos hq]at hR ⊢;exact aC (Dm (aD hR))
       ·rw[if_neg hq]at hR ⊢;exact aD hR
      ·rename_i hb;refine aC (B3 hc hb ?_);dsimp only;rw[if_neg (by decide)];split at hs
       ·cases hs
       ·rename_i hb2;cases hs;exact aC (B3 hc hb2 (aD hR))
       ·rename_i hb2;cases hs;exact aC (B3 hc hb2 (aD hR))
     ·dsimp only at h ⊢;obtain⟨p3,hp3⟩:∃p3,p3=turn (if q2 > 0 then turn p2 (lo+n2-(q2+1)) (lo+n2) else p2) lo (lo+n2):=⟨_,rfl⟩;rw[←hp3]at h;cases e3:iter (Ea N lt p3 lo) (nrem-n2) n2 with
      |none=>rw[e3]at h;cases h
      |some m' =>
       rw[e3]at h;obtain⟨rfl,h4⟩:m'=m∧p3=p':=by simpa using h
       rw[←h4]at q;by_cases hq:q2 > 0
       ·rw[if_pos hq]at hp3 ⊢;refine aC (Dm (aC (Dm ?_)));rw[←hp3];exact aC (Bg (T:=Nat) (Ea N lt p3 lo) (fun t=>(none,t)) (fun _=>St κ it p3 pend g) e3 (fun x t b t' hs R hR=>GW hc hs hR) (aD q))
       ·rw[if_neg hq]at hp3 ⊢;refine aC (Dm ?_);rw[←hp3];exact aC (Bg (T:=Nat) (Ea N lt p3 lo) (fun t=>(none,t)) (fun _=>St κ it p3 pend g) e3 (fun x t b t' hs R hR=>GW hc hs hR) (aD q))
def Oa{R:Option Bool×Unit→SortSt→Prop}{body:Nat→Option Bool×Unit→StateT SortSt Sem (ForInStep (Option Bool×Unit))}{lo:Nat}{p':Array Nat}(hR:R (none,()) (St κ it p' pend g))
 (hb:∀(k:Nat) (p:Array Nat) (t:Nat×Nat),iter (Hs N lt p lo k) k (0,k)=some t→∀R':ForInStep (Option Bool×Unit)→SortSt→Prop,R' (.yield (none,())) (St κ it (bubble p (lo+k) (lo+k-(lo+t.1))) pend g)→wpS (model prog w) A E s (body k (none,())) R' (St κ it p pend g)) :
  ∀(f k:Nat) (p:Array Nat),HH N lt lo f k p=some p'→wpS (model prog w) A E s (forIn (List.range' k f 1) (none,()) body) R (St κ it p pend g)
 |0,k,p,h=>by
  cases h;exact aD hR
 |f+1,k,p,h=>by
  rw[List.range'_succ,List.forIn_cons];rw[HH]at h;split at h
  ·cases h
  ·rename_i l r e;exact aC (hb k p _ e _ (Oa hR hb f (k+1) _ h))
def ZH(hc:Cm prog w A s κ it N lt){lo n ok:Nat}{p':Array Nat}(h:HH N lt lo (n-max ok 1) (max ok 1) p=some p'){Q:Bool→SortSt→Prop}(q:Q true (St κ it p' pend g)):wpS (model prog w) A E s (binarySort' lo n ok) Q (St κ it p pend g):=by
 refine aC ?_;rw[Std.Legacy.Range.forIn_eq_forIn_range'];have hsz:([max ok 1:n]:Std.Legacy.Range).size=n-max ok 1:=by simp[Std.Legacy.Range.size]
 show wpS _ _ _ _ (forIn (List.range' (max ok 1) ([max ok 1:n]:Std.Legacy.Range).size 1) _ _) _ _;rw[hsz];refine Oa (N:=N) (lt:=lt) (lo:=lo) (aD q) (fun k p2 t e R' hR'=>?_) _ _ _ h;refine aC (Bg (T:=Nat×Nat) (Hs N lt p2 lo k) (fun t=>(none,t.1,t.2)) (fun _=>St κ it p2 pend g) (t:=(0,k)) e (fun x t b t' hs R hR=>?_) ?_)
 ·unfold Hs at hs;split at hs
  ·rename_i hge;cases hs;dsimp only;rw[if_pos hge];exact aD hR
  ·rename_i hge;dsimp only;rw[if_neg hge];split at hs
   ·cases hs
   ·rename_i hb;cases hs;exact aC (B3 hc hb (aD hR))
   ·rename_i hb;cases hs;exact aC (B3 hc hb (aD hR))
 ·exact aC (WX (aD hR'))
section pure
variable(N:Nat)(lt:Nat→Nat→Bool)(a b:Array Nat)
end pure
def Hz{M:Model}{σ α:Type}{c:Prop}[Decidable c]{x y:StateT σ Sem α}{Q:α→σ→Prop}{st:σ}(h:c)(k:wpS M A E s x Q st):wpS M A E s (if c then x else y) Q st:=by rw[if_pos h];exact k
def GA{M:Model}{σ α:Type}{c:Prop}[Decidable c]{x y:StateT σ Sem α}{Q:α→σ→Prop}{st:σ}(h:¬c)(k:wpS M A E s y Q st):wpS M A E s (if c then x else y) Q st:=by rw[if_neg h];exact k
def N1(p:Array Nat)(at_:Nat)(m:Array Nat):Array Nat:=m.toList.zipIdx.foldl (fun a x=>a.setIfInBounds (at_+x.2) x.1) p
section pure
variable(N:Nat)(lt:Nat→Nat→Bool)
end pure
def O2(p:Array Nat)(at_:Nat)(m:Array Nat):(m.map it).toList.zipIdx.foldl (fun a (x:Keyed×Nat)=>a.setIfInBounds (at_+x.2) x.1) (p.map it)=(N1 p at_ m).map it:=by
 unfold N1;rw[Array.toList_map];have key:∀(l:List Nat) (k:Nat) (p:Array Nat),((l.map it).zipIdx k).foldl (fun a (x:Keyed×Nat)=>a.setIfInBounds (at_+x.2) x.1) (p.map it)=((l.zipIdx k).foldl (fun a x=>a.setIfInBounds (at_+x.2) x.1) p).map it:=by
  intro l
  induction l with
  |nil=>intro k p;rfl
  |cons x l ih =>
   intro k p;rw[List.map_cons,List.zipIdx_cons,List.zipIdx_cons,List.foldl_cons,List.foldl_cons,←ih]
   congr 1
   simp
 exact key _ 0 p
def WV{M:Model}{σ:Type}{Q:PUnit→σ→Prop}{st st':σ}(h:Q ⟨⟩ st'):wpS M A E s (set st':StateT σ Sem PUnit) Q st:=by
 unfold wpS;rw[StateT.run_set];exact aB ⟨rfl,h⟩
end
end Tim
set_option maxHeartbeats 0
set_option maxHeartbeats 4000000
namespace ZT
open PySem PyProof.Rows
section
variable{prog:Program}{w:World}{A:Around}{E:VL→SD→Prop}{s:SD}{z TI TO i1 i2:AD}{f1 f2:List AD}{n1 n2 k:Nat}{P1 P2:Nat→VL→Prop}{S1 S2:Nat→Heap→Prop}{a b:VL}
def Am{f:List AD}{x:AD}{h h':Heap}(hx:x ∉ f)(e:Heap.SameBut x h h'):∀c∈f,∀o,h.get? c=some o→h'.get? c=some o:=fun c hc o q=>(e.2 c fun y=>hx (y ▸ hc)).trans q
end
end ZT
namespace ZT
open PySem PyProof.Rows
def Sq(b:Bool)(h:Heap)(l:AD)(xs:List VL):Prop:=if b then h.IsTuple l xs.toArray else h.IsList l xs.toArray
def BM(b:Bool)(l:AD):Obj:=if b then { cls:=.type "tuple_iterator",data:=.fields #[.ref l,.int 0 0]} else { cls:=.type "list_iterator",data:=.fields #[.ref l,.int 0 0]}
def JZ(b:Bool)(h:Heap)(it l:AD)(k:Nat):Prop:=if b then h.IsTupleIter it l k else h.IsListIter it l k
def Sq.push{b:Bool}{h:Heap}{l:AD}{xs:List VL}(o:Obj)(x:Sq b h l xs):Sq b (h.push o) l xs:=by
 cases b with
 |true=>obtain⟨u,e,r⟩:=(show h.IsTuple l xs.toArray from x);exact(show(h.push o).IsTuple l xs.toArray from⟨u,Heap.get?_push_of_some _ e,r⟩)
 |false=>obtain⟨u,e,r⟩:=(show h.IsList l xs.toArray from x);exact(show(h.push o).IsList l xs.toArray from⟨u,Heap.get?_push_of_some _ e,r⟩)
section
variable{prog:Program}{w:World}{A:Around}{E:VL→SD→Prop}{s:SD}
def Ln{b:Bool}{l:AD}{xs:List VL}{Q:VL→SD→Prop}(x:Sq b s.heap l xs)(h:Q (.ref s.heap.objs.size) {s with heap:=s.heap.push (BM b l)}):wpAny (model prog w) A (pyIter (.ref l)) Q E s:=by
 cases b with
 |true=>exact wpAny_pyIter_tuple x h
 |false=>exact wpAny_pyIter_list x h
def E3(hh:A.handled=none)(b:Bool)(it l:AD)(xs:List VL)(hne:l≠it):Draws prog w A it [it,l] xs.length (fun i v=>xs[i]? = some v) (fun i h=>JZ b h it l i∧Sq b h l xs):=by
 cases b with
 |true=>exact ET.draws hh it l xs hne
 |false =>
  have:=Draws.list (prog:=prog) (w:=w) hh it l hne xs.toArray
  simpa[JZ,Sq]using this
end
end ZT
namespace L2
open PySem PySem.Spec PyProof.Rows
def CI(b:Bool)(H:Hp)(a:AD)(xs:List V):Prop:=if b then H a=some (.tup xs) else H a=some (.lst xs)
def CI.inj{b:Bool}{H:Hp}{a:AD}{xs ys:List V}(h:CI b H a xs)(k:CI b H a ys):xs=ys:=by
 cases b with
 |true=>have h:H a=some (.tup xs):=h;have k:H a=some (.tup ys):=k;rw[h]at k;cases k;rfl
 |false=>have h:H a=some (.lst xs):=h;have k:H a=some (.lst ys):=k;rw[h]at k;cases k;rfl
def CI.none{b:Bool}{H:Hp}{a c:AD}{xs:List V}(h:CI b H a xs)(k:H c=none):a≠c:=fun z=>by
 subst z;cases b with
 |true=>have h:H a=some (.tup xs):=h;rw[k]at h;cases h
 |false=>have h:H a=some (.lst xs):=h;rw[k]at h;cases h
def CI.raw{X:Cx}{pins:List (AD×Obj)}{σ:St}{H:Hp}{s:SD}(I:Inv X pins σ H s){b:Bool}{a:AD}{xs:List V}(h:CI b H a xs):∃its,Vals xs its∧ZT.Sq b s.heap a its:=by
 cases b with
 |true =>
  obtain⟨its,rv,p,_⟩:=I.tuple (BF.of (K:=X.K) (show H a=some (.tup xs) from h));exact⟨its,rv,p⟩
 |false =>
  obtain⟨its,rv,p,_⟩:=I.list (A2.of (K:=X.K) (show H a=some (.lst xs) from h));exact⟨its,rv,p.isList⟩
def F8{b:Bool}{h:Heap}{it l:AD}{k:Nat}(x:ZT.JZ b h it l k):∃o,h.get? it=some o∧∀v,o.data≠.cell v:=by
 cases b with
 |true=>obtain⟨o,e,_,d⟩:=(show h.IsTupleIter it l k from x);exact⟨o,e,fun v z=>by rw[d]at z;cases z⟩
 |false=>obtain⟨o,e,_,d⟩:=(show h.IsListIter it l k from x);exact⟨o,e,fun v z=>by rw[d]at z;cases z⟩
def E4{b:Bool}{h h':Heap}{it l:AD}{k:Nat}(x:ZT.JZ b h it l k)(e:∀o,h.get? it=some o→h'.get? it=some o):ZT.JZ b h' it l k:=by
 cases b with
 |true=>obtain⟨o,q,r⟩:=(show h.IsTupleIter it l k from x);exact(show h'.IsTupleIter it l k from⟨o,e _ q,r⟩)
 |false=>obtain⟨o,q,r⟩:=(show h.IsListIter it l k from x);exact(show h'.IsListIter it l k from⟨o,e _ q,r⟩)
def YY(K:Fg)(a:AD):It :=
 ⟨fun i H=>∃xs x,A2 K H a xs∧xs[i]? = some x,fun i H v H'=>∃p x,v=.ref p∧H p=none∧H'=upd H p (.tup [.int i,x])∧∀xs,A2 K H a xs→xs[i]? = some x,fun i H=>∃xs,A2 K H a xs∧xs.length=i⟩
def Qu{P:Program}{w:World}{K:Fg}{elts:List Expr}{x1}{pos:Pos}(a e it:AD)(hne:e≠it) :
  Turn P w K (.Tuple elts x1 pos) (YY K a) [e,it] e (fun i h=>(∃old,IsEnum h e it (i:Nat) old)∧h.IsListIter it a i) where
 mem:=by simp
 obj:=fun i h st b hb=>by
  rcases aN.mp hb with rfl|hb
  ·obtain⟨⟨old,q⟩,_⟩:=st;exact⟨_,q,fun v z=>by cases z⟩
  ·have e2:b=it:=by simpa using hb
   subst e2;obtain⟨_,o,q,c,d⟩:=st;exact⟨o,q,fun v z=>by rw[d]at z;cases z⟩
 keep:=fun i h h' st k=>by
  obtain⟨⟨old,q⟩,o,q2,r⟩:=st;exact⟨⟨old,k e (by simp) _ q⟩,o,k it (by simp) _ q2,r⟩
 item:=by
  intro X hP hw hK hc i pins s σ H E I hf st hg;subst hP hw hK;obtain⟨xs,x,hq,hx⟩:=hg;obtain⟨its,rv,pL,hz⟩:=I.list hq;have p:=pL.isList;obtain⟨u,hu,ru⟩:=rv.get hx;obtain⟨⟨old,he⟩,hit⟩:=st;have hai:a≠it:=fun z=>by
   obtain⟨o,e1,c1,_⟩:=p;obtain⟨o2,e2,c2,_⟩:=hit;rw[z,e2]at e1;cases e1;rw[c1]at c2;exact absurd c2 (by decide)
  have hae:a≠e:=fun z=>by
   obtain⟨o,e1,c1,_⟩:=p;rw[z,he]at e1;cases e1;exact absurd (show Value.type "enumerate" = Value.type "list" from c1) (by decide)
  have hlt:i<its.length:=(aM.mp hu).1;have hE0:=hf e (by simp);have hI0:=hf it (by simp);refine wpAny_pyNext_enum_itemD (Draws.list (prog:=X.prog) (w:=X.w) (A:=X.A.in1) (I.ok.hd hc) it a hai its.toArray) he ⟨hit,p⟩ (by simpa using hlt) hne (by simp[hne,Ne.symm hae]) fun y h' tk hy ho hs' hT hsz hk=>⟨_,rfl,wpAny_letOwnedTupleGo_enum (s:={s with heap:=h',toks:=tk+1}) ho fun h'' he'' sb=>?_⟩;have hyu:y=u:=by
   have hy:its[i]? = some y:=by simpa using hy
   rw[hu]at hy;exact(aV hy).symm
  subst hyu;have keep:∀b o,b≠e→b≠it→s.heap.get? b=some o→h''.get? b=some o:=fun b o h1 h2 q=>(sb.2 b h1).trans (hk b o h1 h2 q);have hTe:s.heap.objs.size≠e:=Nat.ne_of_gt (aG he);have hTi:s.heap.objs.size≠it:=let⟨_,q,_⟩:=hit;Nat.ne_of_gt (aG q);have hT'':h''.get? s.heap.objs.size=some { cls:=.type "tuple",data:=.seq #[.int i tk,y]}:=(sb.2 _ hTe).trans hT;have hTn:H s.heap.objs.size=none:=I.Ag.fresh (aH _);have neT:∀b o,s.heap.get? b=some o→b≠s.heap.objs.size:=fun b o q=>aI (aG q);have EK:∀b o,H b=some o→b≠e∧b≠it:=fun b o q=>⟨(fun z=>by rw[z,hE0.1]at q;cases q),(fun z=>by rw[z,hI0.1]at q;cases q)⟩;refine⟨.ref s.heap.objs.size,upd H s.heap.objs.size (.tup [.int i,x]),?_,rfl,⟨_,x,rfl,hTn,rfl,fun ys hy=>by rw[I.M8 hy hq];exact hx⟩,⟨⟨_,by simpa using he''⟩,?_⟩,fun b hb=>?_⟩
  ·show Inv X pins σ _ {s with heap:=h'',gens:=s.gens,drawn:=s.drawn,toks:=tk+1};refine I.step (h':=h'') (g':=s.gens) (d':=s.drawn) (t':=tk+1) (ch:=[e,it]) (fun b hb=>?_) (fun b o _ _ hc q _=>keep b o (fun z=>hc (by simp[z])) (fun z=>hc (by simp[z])) q) (fun b o _ _ hc q _=>⟨o.slots,keep b o (fun z=>hc (by simp[z])) (fun z=>hc (by simp[z])) q⟩)
    (fun b o _ q n=>by rw[AH (neT b o q)];exact n) (fun b o hc q=>⟨o,keep b o (fun z=>hc (by simp[z])) (fun z=>hc (by simp[z])) q⟩) (fun b ys q=>by rw[AH (Ad q hTn)];exact q) (fun b o u q=>by rw[AH (Ad q hTn)];exact q)
    (fun b ps q=>⟨#[],by rw[AH (Ad q hTn),q];simp⟩) (fun m hm=>?_) (fun b o q=>?_) I.bare
   ·rcases aN.mp hb with rfl|hb
    ·exact⟨hE0.2.2.2.1,hE0.2.1,hE0.2.2.2.2.1,hE0.2.2.2.2.2⟩
    ·have e2:b=it:=by simpa using hb
     subst e2;exact⟨hI0.2.2.2.1,hI0.2.1,hI0.2.2.2.2.1,hI0.2.2.2.2.2⟩
   ·obtain⟨o,es,ep,ho,r⟩:=hm;exact⟨o,es,ep,keep _ o (Ne.symm hE0.2.1) (Ne.symm hI0.2.1) ho,r⟩
   ·by_cases hb:b=s.heap.objs.size
    ·subst hb;rw[AX]at q;cases q;exact⟨W7,[.int i tk,y],.cons ⟨tk,rfl⟩ (.cons ru .nil),_,hT'',rfl,_,rfl⟩
    ·rw[AH hb]at q;refine(I.Ag b o q).GV (fun c v hc r=>keep c v ?_ ?_ r) (fun c r=>by rw[AH (Ad r hTn)];exact r) fun c ys r=>by rw[AH (Ad r hTn)];exact r
     ·rcases hc with rfl|hc
      ·exact(EK _ _ q).1
      ·exact(EK _ _ hc).1
     ·rcases hc with rfl|hc
      ·exact(EK _ _ q).2
      ·exact(EK _ _ hc).2
  ·obtain⟨⟨o,q,r⟩,_⟩:=hs';exact⟨o,(sb.2 it (Ne.symm hne)).trans q,r⟩
  ·rcases aN.mp hb with rfl|hb
   ·rw[AH (Ne.symm hTe)];exact hE0.1
   ·have e2:b=it:=by simpa using hb
    subst e2;rw[AH (Ne.symm hTi)];exact hI0.1
 done:=by
  intro X hP hw hK hc i pins s σ H E I hf st hg;subst hP hw hK;obtain⟨xs,hq,hx⟩:=hg;obtain⟨its,rv,pL,hz⟩:=I.list hq;have p:=pL.isList;obtain⟨⟨old,he⟩,hit⟩:=st;have hai:a≠it:=fun z=>by
   obtain⟨o,e1,c1,_⟩:=p;obtain⟨o2,e2,c2,_⟩:=hit;rw[z,e2]at e1;cases e1;rw[c1]at c2;exact absurd c2 (by decide)
  have hl:its.length=i:=by rw[←rv.length];exact hx
  subst hl;obtain⟨f0,f1,f2,f3,f4,f5⟩:=hf it (by simp);exact wpAny_pyNext_enum_endD (Draws.list (prog:=X.prog) (w:=X.w) (A:=X.A.in1) (I.ok.hd hc) it a hai its.toArray) he ⟨hit,p⟩ fun h' eb=>⟨rfl,I.turned (t':=s.toks) (fun b o hb q=>eb b o hb q) f0 f1 f3 f4 f5⟩
 self:=fun _ _ _ _ _ st h=>by
  obtain⟨⟨old,he⟩,_⟩:=st;exact wpAny_pyIter_enum he h
def Yd(K:Fg)(ta:TA):TI:=fun σ H R=>ta σ H fun vs H1=>∃a,vs=[.ref a]∧(∃xs,A2 K H1 a xs)∧R (YY K a) H1
def Tj{X:Cx}{elts:List Expr}{x1}{tpos:Pos}{a:Expr}{ta:TA}{p pos:Pos}(hg:Gl X "enumerate")(hm:X.mg "enumerate" = none)(ha:PA X [a] ta)(hs:starEach [a] X.env=[(false,eval a X.env)]:=by rfl) :
  PI X (.Tuple elts x1 tpos) (.Call (.Name "enumerate" p) [a] [] pos) (Yd X.K ta):=by
 intro pins s σ H R I h;refine Call_ (EX I hg hm boot_enumerate (ah (Au (ha pos pins s σ H _ I h) fun us s1 ⟨vs,H1,I1,r1,q1⟩=>?_) hs rfl));obtain⟨t,e,⟨xs,hq⟩,q⟩:=q1;subst e;cases r1 with
 |cons r rr =>
  cases rr;cases r;obtain⟨its,rv,p',hz⟩:=I1.list hq;refine call_enumerate_list (show s1.heap.IsList t its.toArray from p'.isList) fun h' he hit hsz hk=>wpAny_pyIter_enum he ?_;have I2:Inv X pins σ H1 {s1 with heap:=h'}:=I1.kept (t':=s1.toks) hk;have hn:s1.heap.objs.size+1≠s1.heap.objs.size:=by omega
  refine⟨s1.heap.objs.size+1,[s1.heap.objs.size+1,s1.heap.objs.size],_,_,H1,rfl,I2,Qu t _ _ hn,⟨⟨_,he⟩,hit⟩,fun b hb=>?_,q⟩;have hb':s1.heap.objs.size≤b:=by
   have hb2:b=s1.heap.objs.size+1∨b=s1.heap.objs.size:=by simpa using hb
   rcases hb2 with z|z
   ·rw[z];exact Nat.le_succ _
   ·rw[z];exact aH _
  exact I1.L6 hb' (I1.Ag.fresh hb')
end L2
namespace TH
open PySem PyProof.Rows PySem.SeqAt
def Jx:Tr→List Int
 |.nil=>[]
 |.cons b r=>reduceHash (Builtin.Tuple.tupleHashOf (Jx b))::Jx r
def AW(t:Tr):Int:=reduceHash (Builtin.Tuple.tupleHashOf (Jx t))
section
variable{prog:Program}{w:World}{E:VL→SD→Prop}
def IsTuple.ty{h:Heap}{a:AD}{x:Array VL}{s:SD}(e:s.heap=h)(k:h.IsTuple a x):s.TypeIs (.ref a) "tuple" := by
 subst e;obtain⟨o,ho,hc,_⟩:=k;exact⟨o,ho,hc⟩
def Pc(prog:Program)(w:World)(E:VL→SD→Prop)(t:Tr):Prop:=∀(us:List VL) (A:Around) (s:SD) (b:Array Int) (Q:Array Int→SD→Prop),Vs s.heap t us→A.units+t.deep≤cLine →
 (∀tk b',b'.toList=b.toList++Jx t→Q b' {s with toks:=tk})→wpAny (model prog w) A (forIn us b fun x r=>do let h ←pyHash x;pure PUnit.unit;pure (ForInStep.yield (r.push h))) Q E s
def KZ{t:Tr}(row:Pc prog w E t){a:AD}{its:List VL}{A:Around}{s:SD}{Q:Int→SD→Prop}(h1:s.heap.IsTuple a its.toArray)(h2:Vs s.heap t its)(hu:A.units+t.deep<cLine)
 (h:∀tk,Q (AW t) {s with toks:=tk}):wpAny (model prog w) A (pyHash (.ref a)) Q E s:=by
 have hT:=IsTuple.ty rfl h1;obtain⟨o,ho,hc,n,hd⟩:=id h1;refine PySem.W.pyHash_slot (T := "tuple") hT F.slot_tuple_hash F.entry_tuple_hash (F.args_tuple_hash_1 _) (beq_builtin_none _) (.inr (by omega)) ?_;show wpAny _ _ (Builtin.Tuple.tupleItemsOf (.ref a)>>=_) _ _ s;refine Wb (wpAny_tupleItemsOf ho hd ?_);refine Wb ?_;rw[←Array.forIn_toList];refine row its A.in1 s #[] _ h2 (by rw[Around.in1_units];omega) fun tk b hb=>?_;show wpAny _ _ (retInt (Builtin.Tuple.tupleHashOf b.toList)) _ _ _;rw[hb];exact Wb (wpAny_mkInt (aB ⟨_,_,rfl,h _⟩))
def Km:∀t:Tr,Pc prog w E t
 |.nil=>fun us A s b Q e _ h=>by rw[Vs]at e;subst e;exact aB (h s.toks b (by simp[Jx]))
 |.cons c r=>fun us A s b Q e hu h=>by
  rw[Vs]at e;obtain⟨a,its,rest,rfl,h1,h2,h3⟩:=e;have hd:(Tr.cons c r).deep=max (c.deep+1) r.deep:=rfl;rw[List.forIn_cons];refine Wb (Wb (KZ (Km c) h1 h2 (by omega) fun tk=>?_));refine Wb (aB (aB ?_));exact Km r rest A _ _ Q h3 (by omega) fun tk' b' hb=>h tk' b' (by simp[hb,Jx,AW])
def Va{t:Tr}{a:AD}{its:List VL}{A:Around}{s:SD}{Q:Int→SD→Prop}(h1:s.heap.IsTuple a its.toArray)(h2:Vs s.heap t its)(hu:A.units+t.deep<cLine)
 (h:∀tk,Q (AW t) {s with toks:=tk}):wpAny (model prog w) A (pyHash (.ref a)) Q E s:=KZ (Km t) h1 h2 hu h
def Good(h:Heap)(n:Nat)(v:VL):Prop:=∃a its t,v=.ref a∧h.IsTuple a its.toArray∧Vs h t its∧t.deep<n
def II{h:Heap}:∀ {t:Tr} {us:List VL} {n:Nat},Vs h t us→t.deep≤n→∀v∈us,Good h n v
 |.nil,us,n,e,_,v,hv=>by rw[Vs]at e;subst e;cases hv
 |.cons c r,us,n,e,hd,v,hv=>by
  rw[Vs]at e;obtain⟨a,its,rest,rfl,h1,h2,h3⟩:=e;rw[Tr.deep]at hd;rcases aN.mp hv with rfl|hv
  ·exact⟨a,its,c,rfl,h1,h2,by omega⟩
  ·exact II h3 (by omega) v hv
def N9:∀(n:Nat) {v:VL} {A:Around} {s:SD} {Q:Bool→SD→Prop},Good s.heap n v→Q true s→wpAny (model prog w) A (hashByValue n v) Q E s
 |0,v,A,s,Q,⟨_,_,_,_,_,_,z⟩,_=>absurd z (ar _)
 |n+1,v,A,s,Q,⟨a,its,t,e,h1,h2,hd⟩,h=>by
  subst e;have hT:=IsTuple.ty rfl h1;obtain⟨o,ho,hc,k,hdt⟩:=id h1;unfold hashByValue;refine Wb (wpAny_specialOf hT F.slot_tuple_hash.lookup ?_);refine Wb (aY ho hdt ?_);refine Wb ?_;show wpAny _ _ (forIn its.toArray _ _) _ _ s;rw[←Array.forIn_toList];refine wpAny_forIn_list _ (fun rest r s'=>r.1=none∧s'=s∧∀v∈rest,Good s.heap n v) _ ?_ ?_ _ _ ⟨rfl,rfl,II h2 (by omega)⟩
  ·rintro v rest r s' ⟨hr,rfl,hall⟩;refine Wb (N9 n (hall v aP) ?_);simp only[Bool.not_true,Bool.false_eq_true,if_false];exact aB ⟨rfl,rfl,fun u hu'=>hall u (aO _ hu')⟩
  ·rintro⟨r1,r2⟩ s' ⟨hr,rfl,_⟩;simp only at hr;subst hr;exact aB h
def quiet:∀(n:Nat) {v:VL} {A:Around} {s:SD} {Q:Bool→SD→Prop},Good s.heap n v→Q true s→wpAny (model prog w) A (eqIsQuiet n v) Q E s
 |0,v,A,s,Q,⟨_,_,_,_,_,_,z⟩,_=>absurd z (ar _)
 |n+1,v,A,s,Q,⟨a,its,t,e,h1,h2,hd⟩,h=>by
  subst e;have hT:=IsTuple.ty rfl h1;obtain⟨o,ho,hc,k,hdt⟩:=id h1;unfold eqIsQuiet;refine Wb (wpAny_specialOf hT F.slot_tuple_eq.lookup ?_);show wpAny _ _ (isInstance (.ref a) (.type "tuple")>>=_) _ _ s;refine Wb (wpAny_isInstance hT isSubtype_tuple_tuple ?_);simp only[Bool.not_true,Bool.false_eq_true,if_false];refine Wb (aY ho hdt ?_);refine Wb ?_;show wpAny _ _ (forIn its.toArray _ _) _ _ s;rw[←Array.forIn_toList];refine wpAny_forIn_list _ (fun rest r s'=>r.1=none∧s'=s∧∀v∈rest,Good s.heap n v) _ ?_ ?_ _ _ ⟨rfl,rfl,II h2 (by omega)⟩
  ·rintro v rest r s' ⟨hr,rfl,hall⟩;refine Wb (quiet n (hall v aP) ?_);simp only[Bool.not_true,Bool.false_eq_true,if_false];exact aB ⟨rfl,rfl,fun u hu'=>hall u (aO _ hu')⟩
  ·rintro⟨r1,r2⟩ s' ⟨hr,rfl,_⟩;simp only at hr;subst hr;exact aB h
def K1:∀(n:Nat) {v:VL} {A:Around} {s:SD} {Q:Bool→SD→Prop},Good s.heap n v→Q false s→wpAny (model prog w) A (ofAClassStatement n v) Q E s
 |0,v,A,s,Q,⟨_,_,_,_,_,_,z⟩,_=>absurd z (ar _)
 |n+1,v,A,s,Q,⟨a,its,t,e,h1,h2,hd⟩,h=>by
  subst e;have hT:=IsTuple.ty rfl h1;obtain⟨o,ho,hc,k,hdt⟩:=id h1;unfold ofAClassStatement;refine Wb (wpAny_typeOf hT ?_);have ht:("tuple" == "tuple")=true:=by rfl
  dsimp only;rw[if_pos ht];refine Wb (aB ?_);simp only[Bool.not_true,Bool.false_eq_true,if_false];refine Wb (aY ho hdt ?_);refine Wb ?_;rw[←Array.forIn_toList];refine wpAny_forIn_list _ (fun rest r s'=>r.1=none∧s'=s∧∀v∈rest,Good s.heap n v) _ ?_ ?_ _ _ ⟨rfl,rfl,II h2 (by omega)⟩
  ·rintro v rest r s' ⟨hr,rfl,hall⟩;refine Wb (K1 n (hall v aP) ?_);simp only[Bool.false_eq_true,if_false];exact aB ⟨rfl,rfl,fun u hu'=>hall u (aO _ hu')⟩
  ·rintro⟨r1,r2⟩ s' ⟨hr,rfl,_⟩;simp only at hr;subst hr;exact aB h
def TV{x:VL}{l:List VL}{A:Around}{s:SD}{Q:Bool→SD→Prop}(hx:Good s.heap 8 x)(hl:∀y∈l,Good s.heap 8 y)(h:Q false s):wpAny (model prog w) A (searchCouldBeSeen x l) Q E s:=by
  unfold searchCouldBeSeen
  refine Wb ?_
  refine wpAny_forIn_list _ (fun rest r s'=>r.1=none∧s'=s∧∀v∈rest,Good s.heap 8 v) _ ?_ ?_ _ _ ⟨rfl,rfl,hl⟩
  · rintro v rest r s' ⟨hr,rfl,hall⟩
    have go:∀b:Bool,wpAny (model prog w) A (if b=true then pure (ForInStep.yield (none,())) else do
        let q ←eqIsQuiet 8 x
        if(!q)=true then pure (ForInStep.done (some true,())) else do
          let q ←eqIsQuiet 8 v
          if(!q)=true then pure (ForInStep.done (some true,())) else do
            let q ←ofAClassStatement 8 x
            if q=true then pure (ForInStep.done (some true,())) else do
              let q ←ofAClassStatement 8 v
              if q=true then pure (ForInStep.done (some true,())) else pure (ForInStep.yield (none,())))
        (fun st s''=>match st with
          |ForInStep.yield r=>r.1=none∧s''=s'∧∀v∈rest,Good s'.heap 8 v
          |ForInStep.done r=>False) E s':=fun b=>by
      cases b with
      |true=>rw[if_pos rfl];exact aB ⟨rfl,rfl,fun u hu'=>hall u (aO _ hu')⟩
      |false =>
        rw[if_neg aJ]
        refine Wb (quiet 8 hx ?_)
        simp only[Bool.not_true,Bool.false_eq_true,if_false]
        refine Wb (quiet 8 (hall v aP) ?_)
        simp only[Bool.not_true,Bool.false_eq_true,if_false]
        refine Wb (K1 8 hx ?_)
        simp only[Bool.false_eq_true,if_false]
        refine Wb (K1 8 (hall v aP) ?_)
        simp only[Bool.false_eq_true,if_false]
        exact aB ⟨rfl,rfl,fun u hu'=>hall u (aO _ hu')⟩
    refine aQ (go _) (fun st s'' z=>?_) fun _ _ z=>z
    cases st with
    |yield r=>exact z
    |done r=>exact z.elim
  · rintro⟨r1,r2⟩ s' ⟨hr,rfl,_⟩
    simp only at hr
    subst hr
    exact aB h
end
end TH
namespace TH
open PySem PyProof.Rows PySem.SeqAt
abbrev ES:=Array (Int×Tr)
def Hb(et:ES)(i:Nat):Int:=(et[i]?.map (·.1)).getD 0
def Kn(et:ES)(t:SetTable)(x:Tr)(h:Int):Option (Option Nat) :=
 if t.gaveWay then none else
 match t.probe (Hb et) h (t.probeStart h) with
 |some (.empty j none)=>some (some j)
 |some (.candidate _ i _)=>match et[i]? with
  |some (_,y)=>if y=x then some none else none
  |none=>none
 |_=>none
def Kz(st:ES×SetTable)(x:Tr):Option (ES×SetTable) :=
 if(st.2.fits st.1.size&&decide (st.1.size≤1000)&&st.2.plain)=false then none else
 match Kn st.1 st.2 x (AW x) with
 |none=>none
 |some none=>some st
 |some (some slot) =>
  if(st.2.put slot).1.tooFull=false then some (SetTable.insertAt st.1 (st.2.put slot).2 (AW x,x),(st.2.put slot).1) else
  if((st.2.put slot).1.fits (SetTable.insertAt st.1 (st.2.put slot).2 (AW x,x)).size&&decide (SetTable.sizeAbove (SetTable.grown (st.1.size+1))≤100000))=false then none else
  match (st.2.put slot).1.relaid ((SetTable.insertAt st.1 (st.2.put slot).2 (AW x,x)).map (·.1)) (SetTable.grown (st.1.size+1)) with
  |none=>none
  |some (t',order) =>
   if(order.filterMap ((SetTable.insertAt st.1 (st.2.put slot).2 (AW x,x))[·]?)).size=(SetTable.insertAt st.1 (st.2.put slot).2 (AW x,x)).size then
    some (order.filterMap ((SetTable.insertAt st.1 (st.2.put slot).2 (AW x,x))[·]?),t') else none
def Kp(G:VL→Tr→Prop)(h:Heap)(p:Int×VL)(q:Int×Tr):Prop:=p.1=q.1∧q.2.deep<8∧G p.2 q.2∧∃a its,p.2=.ref a∧h.IsTuple a its.toArray∧Vs h q.2 its
abbrev B0(G:VL→Tr→Prop)(h:Heap)(ev:Array (Int×VL))(et:ES):Prop:=Paired (Kp G h) ev.toList et.toList
variable{G:VL→Tr→Prop}
section
variable{α β:Type}{F:α→β→Prop}
def Paired.get:∀ {l:List α} {m:List β},Paired F l m→∀ {i:Nat} {y:β},m[i]? = some y→∃x,l[i]? = some x∧F x y
 |_,_,.nil,i,y,h=>by simp at h
 |_,_,.cons h1 r,0,y,h=>by simp at h;subst h;exact⟨_,rfl,h1⟩
 |_,_,.cons h1 r,i+1,y,h=>Paired.get r (by simpa using h)
def Paired.none:∀ {l:List α} {m:List β},Paired F l m→∀ {i:Nat},m[i]? = Option.none→l[i]? = Option.none:=fun {l m} r i h=>by
 have:=r.length;rw[List.getElem?_eq_none_iff]at h ⊢;omega
def Paired.app{l2:List α}{m2:List β}(k:Paired F l2 m2):∀ {l:List α} {m:List β},Paired F l m→Paired F (l++l2) (m++m2)
 |_,_,.nil=>k
 |_,_,.cons h r=>.cons h (Paired.app k r)
def Paired.take:∀ {l:List α} {m:List β} (n:Nat),Paired F l m→Paired F (l.take n) (m.take n)
 |_,_,0,_=>by simpa using Paired.nil
 |_,_,n+1,.nil=>by simpa using Paired.nil
 |_,_,n+1,.cons h r=>.cons h (Paired.take n r)
def Paired.drop:∀ {l:List α} {m:List β} (n:Nat),Paired F l m→Paired F (l.drop n) (m.drop n)
 |_,_,0,h=>h
 |_,_,n+1,.nil=>by simpa using Paired.nil
 |_,_,n+1,.cons h r=>Paired.drop n r
def Paired.pick{l:List α}{m:List β}(r:Paired F l m):∀(o:List Nat),Paired F (o.filterMap (l[·]?)) (o.filterMap (m[·]?))
 |[]=>.nil
 |i::o=>by
  rw[List.filterMap_cons,List.filterMap_cons];cases e:m[i]? with
  |none=>rw[Paired.none r e];exact Paired.pick r o
  |some y =>
   obtain⟨x,e2,h⟩:=Paired.get r e;rw[e2];exact .cons h (Paired.pick r o)
def Paired.imp{G:α→β→Prop}(h:∀a b,F a b→G a b):∀ {l:List α} {m:List β},Paired F l m→Paired G l m
 |_,_,.nil=>.nil
 |_,_,.cons k r=>.cons (h _ _ k) (Paired.imp h r)
end
def Fc{α:Type}(xs:Array α)(p:Nat)(x:α):(SetTable.insertAt xs p x).toList=xs.toList.take p++x::xs.toList.drop p:=by
 unfold SetTable.insertAt;simp[List.extract];rw[List.take_of_length_le (by simp)]
def B0.fst{h:Heap}{ev:Array (Int×VL)}{et:ES}(r:B0 G h ev et):ev.map (·.1)=et.map (·.1):=by
 have key:∀ {l:List (Int×VL)} {m:List (Int×Tr)},Paired (Kp G h) l m→l.map (·.1)=m.map (·.1):=fun r=>by
  induction r with
  |nil=>rfl
  |cons k _ ih=>rw[List.map_cons,List.map_cons,ih,k.1]
 apply Array.toList_inj.mp
 simpa using key r
def B0.size{h:Heap}{ev:Array (Int×VL)}{et:ES}(r:B0 G h ev et):ev.size=et.size:=by simpa using Paired.length r
def B0.Hb{h:Heap}{ev:Array (Int×VL)}{et:ES}(r:B0 G h ev et)(i:Nat):(ev[i]?.map (·.1)).getD 0=Hb et i:=by
 have:=ay (fun a:Array Int=>a[i]?) r.fst;simp only[Array.getElem?_map]at this;rw[TH.Hb,this]
def B0.good{h:Heap}{ev:Array (Int×VL)}{et:ES}(r:B0 G h ev et):∀p∈ev.toList,Good h 8 p.2:=by
 have key:∀ {l:List (Int×VL)} {m:List (Int×Tr)},Paired (Kp G h) l m→∀p∈l,Good h 8 p.2:=fun r=>by
  induction r with
  |nil=>intro p hp;cases hp
  |cons k _ ih =>
   intro p hp;rcases aN.mp hp with rfl|hp
   ·obtain⟨_,hd,_,a,its,e,h1,h2⟩:=k;exact⟨a,its,_,e,h1,h2,hd⟩
   ·exact ih p hp
 exact key r
def B0.at{h:Heap}{ev:Array (Int×VL)}{et:ES}(r:B0 G h ev et){i:Nat}{z:Int}{y:Tr}(e:et[i]? = some (z,y)):∃a its,ev[i]? = some (z,.ref a)∧h.IsTuple a its.toArray∧Vs h y its∧y.deep<8:=by
 obtain⟨⟨z',v⟩,h1,h2,hd,_,a,its,e2,h3,h4⟩:=Paired.get r (by simpa using e);have h2:z'=z:=h2;have e2:v=.ref a:=e2;subst h2 e2;exact⟨a,its,by simpa using h1,h3,h4,hd⟩
def B0.keeps{h h':Heap}{ev:Array (Int×VL)}{et:ES}(k:∀b o,h.get? b=some o→o.cls=.type "tuple" → h'.get? b=some o)(r:B0 G h ev et):B0 G h' ev et :=
 Paired.imp (fun p q ⟨e,hd,hg,a,its,e2,h1,h2⟩=>⟨e,hd,hg,a,its,e2,(by obtain⟨o,ho,hc,n,hdt⟩:=h1;exact⟨o,k _ _ ho hc,hc,n,hdt⟩),h2.keeps k⟩) r
section
variable{prog:Program}{w:World}{E:VL→SD→Prop}{A:Around}{s:SD}{a xa:AD}{o:Obj}{ev:Array (Int×VL)}{et:ES}{ep:Nat}{t:SetTable}{x:Tr}{its:List VL}{h:Int}
def Sa{r:Option Nat}{Q:SetFound→SD→Prop}(ho:s.heap.get? a=some o)(hd:o.data=.set ev ep t)(hf:t.fits et.size=true)(R:B0 G s.heap ev et)(hx1:s.heap.IsTuple xa its.toArray)(hx2:Vs s.heap x its)(hxd:x.deep<8)
 (hu:A.units+8<cLine)(hs:Kn et t x h=some r)(h0:r=none→Q (.there none) s)(h1:∀j,r=some j→Q (.free j false) s):wpAny (model prog w) A (setSearch a (.ref xa) h true) Q E s:=by
 have hf':t.fits ev.size=true:=by rw[R.size];exact hf
 unfold Kn at hs;by_cases hg:t.gaveWay=true
 ·rw[if_pos hg]at hs;cases hs
 rw[if_neg hg]at hs;unfold setSearch;rw[show(100000:Nat)=99999+1 from rfl,setSearchFrom];refine Wb (ae ho hd hf' ?_);dsimp only;rw[if_neg hg];have hpr:∀f:Nat→Int,(∀i,f i=Hb et i)→t.probe f h ((none:Option SetTable.Probe).getD (t.probeStart h))=t.probe (Hb et) h (t.probeStart h):=fun f hf=>by
  rw[show f=Hb et from funext hf];rfl
 generalize hst:t.probe _ h ((none:Option SetTable.Probe).getD (t.probeStart h))=pr;have hpr':pr=t.probe (Hb et) h (t.probeStart h):=hst.symm.trans (hpr _ fun i=>R.Hb i);clear hst hpr;subst hpr';cases hp:t.probe (Hb et) h (t.probeStart h) with
 |none=>rw[hp]at hs;cases hs
 |some met =>
  rw[hp]at hs;cases met with
  |empty j dummy =>
   cases dummy with
   |none=>cases hs;exact aB (h1 j rfl)
   |some d=>cases hs
  |candidate j i next =>
   cases he:et[i]? with
   |none=>simp only[he]at hs;cases hs
   |some zy =>
    obtain⟨z,y⟩:=zy;simp only[he]at hs;by_cases hy:y=x
    ·rw[if_pos hy]at hs;cases hs;subst hy;obtain⟨b,its2,e1,e2,e3,e4⟩:=R.at he;cases hl:t.led with
     |true =>
      simp only[Bool.not_true,Bool.false_eq_true,if_false];rw[e1];refine Wb (aU (Qi e2 e3 hx1 hx2 (by omega) prog w E _ ?_));rw[decide_eq_true rfl];refine Wb (ae ho hd hf' ?_);exact aB (h0 rfl)
     |false =>
      simp only[Bool.not_false,if_true];refine Wb (TV ⟨xa,its,_,rfl,hx1,hx2,hxd⟩ (fun v hv=>?_) ?_)
      ·obtain⟨p,hp1,rfl⟩:=List.mem_map.mp hv;exact R.good p (Array.mem_toList_iff.mpr (Array.mem_filter.mp (Array.mem_toList_iff.mp hp1)).1)
      simp only[Bool.false_eq_true,if_false];rw[e1];refine Wb (aU (Qi e2 e3 hx1 hx2 (by omega) prog w E _ ?_));rw[decide_eq_true rfl];refine Wb (ae ho hd hf' ?_);exact aB (h0 rfl)
    ·rw[if_neg hy]at hs;cases hs
def Cy{n:Nat}(h:n≤100000):n≤sizeLine:=aZ h (by rw[sizeLine_eq];decide)
def P0{hp:Heap}(ho:hp.get? a=some o)(hd:o.data=.set ev ep t)(ev':Array (Int×VL))(t':SetTable):(hp.update a (Obj.putSet ev' t')).get? a=some {o with data:=.set ev' (ep+1) t'}:=by
 have:=Heap.get?_update_self (Obj.putSet ev' t') ho (by rw[putSet_of ev' t' hd];rfl);rw[putSet_of ev' t' hd]at this;exact this
def NL{hp:Heap}(ho:hp.get? a=some o)(hc:o.cls=.type "set")(g:Obj→Obj):∀b u,hp.get? b=some u→u.cls=.type "tuple" →(hp.update a g).get? b=some u:=fun b u q hu=>by
 have:a≠b:=fun z=>by
  subst z;rw[ho]at q;cases q;rw[hc]at hu
  injection hu with z
  exact absurd z (by decide)
 rw[Heap.get?_update_other _ _ this];exact q
def YG{et' : ES}{t' : SetTable}{Q : Bool→SD→Prop}(ho : s.heap.get? a = some o)(hc : o.cls = .type "set")(hd : o.data = .set ev ep t)(R : B0 G s.heap ev et)(hx1 : s.heap.IsTuple xa its.toArray)(hx2 : Vs s.heap x its)(hxd : x.deep < 8)(hxg : G (.ref xa) x)
 (hu : A.units + 8 < cLine)(hs : Kz (et,t) x = some (et',t'))
 (k : ∀ (b : Bool) (h' : Heap) (tk : Nat) (ev' : Array (Int×VL)) (ep' : Nat),Heap.SameBut a s.heap h'→h'.get? a = some { o with data:=.set ev' ep' t' }→B0 G h' ev' et'→Q b { s with heap:=h',toks:=tk }) :
    wpAny (model prog w) A (setAdd a (.ref xa)) Q E s := by
  unfold setAdd
  refine aU (Wb (Va hx1 hx2 (by omega) fun tk => ?_))
  unfold setAddHashed
  refine aU ?_
  unfold Kz at hs
  by_cases h1 : (t.fits et.size && decide (et.size≤1000) && t.plain) = false
  · rw [if_pos h1] at hs; cases hs
  rw [if_neg h1] at hs
  simp only [Bool.not_eq_false,Bool.and_eq_true,decide_eq_true_eq] at h1
  obtain ⟨⟨hf,hz⟩,hpl⟩:=h1
  have hf' : t.fits ev.size = true := by rw [R.size]; exact hf
  cases hsr : Kn et t x (AW x) with
  | none => simp only [hsr] at hs; cases hs
  | some r =>
    simp only [hsr] at hs
    rw [show (100000 : Nat) = 99999 + 1 from rfl,setAddHashedIn]
    refine Wb (ae (s:={ s with toks:=tk }) ho hd hf' ?_)
    dsimp only
    have hbs : byScan (.ref xa) ev = false:=rfl
    rw [hbs,if_neg aJ]
    refine Wb (Sa (s:={ s with toks:=tk }) ho hd hf R hx1 hx2 hxd hu hsr (fun hr => ?_) fun j hr => ?_)
    · subst hr
      cases hs
      exact aB (k _ s.heap tk ev ep (Heap.SameBut.refl ..) (by rw [ho,← hd]) R)
    · subst hr
      dsimp only at hs ⊢
      refine Wb (ae (s:={ s with toks:=tk }) ho hd hf' ?_)
      dsimp only
      have hpl2 : (t.put j).1.plain = true:=hpl
      rw [if_pos hpl2]
      refine Wb (N9 8 (s:={ s with toks:=tk }) ⟨xa,its,x,rfl,hx1,hx2,hxd⟩ ?_)
      simp only [if_true]
      have R1 : B0 G s.heap (SetTable.insertAt ev (t.put j).2 (AW x,.ref xa)) (SetTable.insertAt et (t.put j).2 (AW x,x)) := by
        unfold B0
        rw [Fc,Fc]
        exact Paired.app (.cons ⟨rfl,hxd,hxg,xa,its,rfl,hx1,hx2⟩ (Paired.drop _ R)) (Paired.take _ R)
      have hz1 : (SetTable.insertAt ev (t.put j).2 (AW x,Value.ref xa)).size≤1001 := by
        have h2:=ay List.length (Fc ev (t.put j).2 (AW x,Value.ref xa))
        simp only [Array.length_toList,List.length_append,List.length_take,List.length_cons,List.length_drop] at h2
        have:=R.size
        omega
      have hz2 : (SetTable.insertAt et (t.put j).2 (AW x,x)).size = (SetTable.insertAt ev (t.put j).2 (AW x,Value.ref xa)).size:=R1.size.symm
      refine Wb (wpAny_storeSet_of (s:={ s with toks:=tk }) ho hd ?_ (Cy (by omega)))
      have g1:=P0 ho hd (SetTable.insertAt ev (t.put j).2 (AW x,.ref xa)) (t.put j).1
      have k1:=NL ho hc (Obj.putSet (SetTable.insertAt ev (t.put j).2 (AW x,.ref xa)) (t.put j).1)
      have sb1:=ak s.heap a (Obj.putSet (SetTable.insertAt ev (t.put j).2 (AW x,.ref xa)) (t.put j).1)
      by_cases hfull : (t.put j).1.tooFull = false
      · rw [if_pos hfull] at hs
        cases hs
        rw [hfull]
        simp only [Bool.and_false,Bool.false_eq_true,if_false]
        exact aB (k _ _ tk _ _ sb1 g1 (R1.keeps k1))
      · rw [if_neg hfull] at hs
        have hfull : (t.put j).1.tooFull = true := by simpa using hfull
        rw [hfull]
        simp only [Bool.not_false,Bool.and_true,if_true]
        by_cases h2 : ((t.put j).1.fits (SetTable.insertAt et (t.put j).2 (AW x,x)).size && decide (SetTable.sizeAbove (SetTable.grown (et.size + 1))≤100000)) = false
        · rw [if_pos h2] at hs; cases hs
        rw [if_neg h2] at hs
        simp only [Bool.not_eq_false,Bool.and_eq_true,decide_eq_true_eq] at h2
        obtain ⟨hfit,hsa⟩:=h2
        cases hrl : (t.put j).1.relaid ((SetTable.insertAt et (t.put j).2 (AW x,x)).map (·.1)) (SetTable.grown (et.size + 1)) with
        | none => simp only [hrl] at hs; cases hs
        | some to =>
          obtain ⟨t2,order⟩:=to
          simp only [hrl] at hs
          by_cases h3 : (order.filterMap ((SetTable.insertAt et (t.put j).2 (AW x,x))[·]?)).size = (SetTable.insertAt et (t.put j).2 (AW x,x)).size
          · rw [if_pos h3] at hs
            cases hs
            have R2 : B0 G s.heap (order.filterMap ((SetTable.insertAt ev (t.put j).2 (AW x,Value.ref xa))[·]?)) (order.filterMap ((SetTable.insertAt et (t.put j).2 (AW x,x))[·]?)) := by
              unfold B0
              have:=Paired.pick R1 order.toList
              simpa using this
            have g2:=P0 g1 rfl (order.filterMap ((SetTable.insertAt ev (t.put j).2 (AW x,Value.ref xa))[·]?)) t'
            have k2:=NL g1 hc (Obj.putSet (order.filterMap ((SetTable.insertAt ev (t.put j).2 (AW x,Value.ref xa))[·]?)) t')
            have sb2:=ak (s.heap.update a (Obj.putSet (SetTable.insertAt ev (t.put j).2 (AW x,.ref xa)) (t.put j).1)) a (Obj.putSet (order.filterMap ((SetTable.insertAt ev (t.put j).2 (AW x,Value.ref xa))[·]?)) t')
            refine Wb ?_
            unfold setRelay
            refine Wb (ae g1 rfl (by rw [← hz2]; exact hfit) ?_)
            dsimp only
            rw [R.size,if_neg (Nat.not_lt.mpr (Cy hsa))]
            refine Wb ?_
            rw [R1.fst,hrl]
            have hsz : (order.filterMap ((SetTable.insertAt ev (t.put j).2 (AW x,Value.ref xa))[·]?)).size = (SetTable.insertAt ev (t.put j).2 (AW x,Value.ref xa)).size := by rw [R2.size,h3,hz2]
            have hne : ¬ ((order.filterMap ((SetTable.insertAt ev (t.put j).2 (AW x,Value.ref xa))[·]?)).size != (SetTable.insertAt ev (t.put j).2 (AW x,Value.ref xa)).size) = true := by simp [hsz]
            show wpAny _ _ (do if (order.filterMap ((SetTable.insertAt ev (t.put j).2 (AW x,Value.ref xa))[·]?)).size != (SetTable.insertAt ev (t.put j).2 (AW x,Value.ref xa)).size then unsupported "internal:set-table-lost-an-element"
                               pure (order.filterMap ((SetTable.insertAt ev (t.put j).2 (AW x,Value.ref xa))[·]?),t')) _ _ _
            rw [if_neg hne]
            refine aB ?_
            refine wpAny_storeSet_of g1 rfl ?_ (Cy (by rw [hsz]; omega))
            exact aB (k _ _ tk _ _ (sb1.trans sb2) g2 ((R2.keeps k1).keeps k2))
          · rw [if_neg h3] at hs; cases hs
end
end TH
namespace TH
open PySem
def grow:List Tr→Tr→List Tr
 |_,.nil=>[]
 |pre,.cons b r=>((Tr.of (Tr.BV (b.bs++[.nil]))::grow [] b).map fun g=>Tr.of (Tr.BV (pre++g::r.bs)))++grow (pre++[b]) r
def bh(t:Tr):List Tr:=Tr.of (Tr.BV (t.bs++[.nil]))::grow [] t
def ups(l:List Tr):List Tr:=l.flatMap bh
def GY(st:ES×SetTable):List Tr→Option (ES×SetTable)
 |[]=>some st
 |x::r=>(Kz st x).bind fun st'=>GY st' r
def Gg(led:Bool):ES×SetTable:=(#[],.fresh 0 0 led)
def Jo(st:ES×SetTable):List Tr:=st.1.toList.map (·.2)
def tz:Nat→List Tr
 |0=>[.nil]
 |n+1=>(Tr.BV ((ups (tz n)).eraseDups)).reverse
end TH
namespace TH
open PySem PyProof.Rows PySem.SeqAt
def Mt(G:VL→Tr→Prop)(h:Heap)(v:VL)(x:Tr):Prop:=x.deep<8∧G v x∧∃a its,v=.ref a∧h.IsTuple a its.toArray∧Vs h x its
abbrev GB(G:VL→Tr→Prop)(h:Heap)(vs:List VL)(xs:List Tr):Prop:=Paired (Mt G h) vs xs
variable{G:VL→Tr→Prop}
def Mt.keeps{h h':Heap}(k:∀b o,h.get? b=some o→o.cls=.type "tuple" → h'.get? b=some o){v:VL}{x:Tr}(r:Mt G h v x):Mt G h' v x:=by
 obtain⟨hd,hg,a,its,e,h1,h2⟩:=r;exact⟨hd,hg,a,its,e,(by obtain⟨o,ho,hc,n,hdt⟩:=h1;exact⟨o,k _ _ ho hc,hc,n,hdt⟩),h2.keeps k⟩
def GB.keeps{h h':Heap}(k:∀b o,h.get? b=some o→o.cls=.type "tuple" → h'.get? b=some o){vs:List VL}{xs:List Tr}(r:GB G h vs xs):GB G h' vs xs:=Paired.imp (fun _ _ z=>z.keeps k) r
def IK(G:VL→Tr→Prop)(h:Heap)(S:AD)(st:ES×SetTable):Prop:=∃o ev ep,h.get? S=some o∧o.ExactSet∧o.data=.set ev ep st.2∧B0 G h ev st.1
def IK.keeps{h h':Heap}{S:AD}{st:ES×SetTable}(x:IK G h S st)(kS:∀o,h.get? S=some o→h'.get? S=some o)(k:∀b o,h.get? b=some o→o.cls=.type "tuple" → h'.get? b=some o):IK G h' S st:=by
 obtain⟨o,ev,ep,h1,h2,h3,h4⟩:=x;exact⟨o,ev,ep,kS _ h1,h2,h3,h4.keeps k⟩
section
variable{prog:Program}{w:World}{A:Around}{R:Result→SD→Prop}{I S:AD}{fp wr:List AD}{St:Nat→Heap→Prop}{items:Array VL}{xs:List Tr}{st':ES×SetTable}
def Vo(W:Walks prog w A.in1 I fp wr items.size (fun i v=>items[i]? = some v) St)(hSf:S ∉ fp)(hcl:∀i h b o,St i h→b∈wr→h.get? b=some o→o.cls≠.type "tuple")(hu:A.units+10<cLine) :
  ∀(k i:Nat) (s:SD) (st:ES×SetTable),items.size-i=k→i≤items.size→St i s.heap→IK G s.heap S st→GB G s.heap items.toList xs→GY st (xs.drop i)=some st' →
   (∀(h':Heap) (tk:Nat),(∀b o,b≠S→b ∉ wr→s.heap.get? b=some o→h'.get? b=some o)→(∀b o,s.heap.get? b=some o→o.cls=.type "tuple" → h'.get? b=some o)→IK G h' S st'→R (.ok (.ret .none)) {s with heap:=h',toks:=tk}) →
   codeAny (model prog w) A (.builtin "set.update.loop" ⟨[.ref S,.ref I],[]⟩) R s:=by
 have hSw:S ∉ wr:=fun h=>hSf (W.sub _ h);intro k
 induction k with
 |zero =>
  intro i s st hk hi hst hS hT hrun hR;have hin:i=items.size:=by omega
  subst hin;have hlen:=Paired.length hT;rw[List.drop_of_length_le (by rw[←hlen];simp)]at hrun;cases hrun;refine codeAny_builtin F.entry_set_update_loop ?_;rw[Around.under_plainId F.plain_set_update_loop _];show wpAny _ A.in1 (pyNext (.ref I)>>=_) _ _ s;refine Wb (W.done s _ _ hst fun h' tk hm=>?_);show wpAny _ A.in1 (ret Value.none) _ _ _;have kt:∀b o,s.heap.get? b=some o→o.cls=.type "tuple" → h'.get? b=some o:=fun b o e hc=>hm b o (fun hb=>hcl _ _ b o hst hb e hc) e;exact aB (hR h' tk (fun b o _ hb e=>hm b o hb e) kt (hS.keeps (fun o e=>hm S o hSw e) kt))
 |succ k ih =>
  intro i s st hk hi hst hS hT hrun hR;have hlt:i<items.size:=by omega
  refine codeAny_builtin F.entry_set_update_loop ?_;rw[Around.under_plainId F.plain_set_update_loop _];show wpAny _ A.in1 (pyNext (.ref I)>>=_) _ _ s;refine Wb (W.item i s _ _ hlt hst fun v h1 tk hP hst' hm=>?_);have kt:∀b o,s.heap.get? b=some o→o.cls=.type "tuple" → h1.get? b=some o:=fun b o e hc=>hm b o (fun hb=>hcl _ _ b o hst hb e hc) e;have hS1:=hS.keeps (fun o e=>hm S o hSw e) kt;have hT1:=hT.keeps kt;have hlen:=Paired.length hT;have hxi:i<xs.length:=by rw[←hlen];simpa using hlt
  have hx:xs[i]? = some xs[i]:=bC hxi;obtain⟨v',hv',hxd,hxg,xa,its,e1,e2,e3⟩:=Paired.get hT1 hx;have hvv:v'=v:=by
   have h2:items.toList[i]? = some v:=by simpa using hP
   rw[h2]at hv';exact(aV hv').symm
  subst hvv;subst e1;rw[List.drop_eq_getElem_cons hxi,GY]at hrun;cases hadd:Kz st xs[i]with
  |none=>rw[hadd]at hrun;cases hrun
  |some st1 =>
   rw[hadd]at hrun;obtain⟨o,ev,ep,g1,g2,g3,g4⟩:=hS1;obtain⟨et,t⟩:=st;obtain⟨et1,t1⟩:=st1;show wpAny _ A.in1 (holding [Value.ref xa] (setAdd S (.ref xa))>>=_) _ _ _;refine Wb (aU (YG (s:={s with heap:=h1,toks:=tk}) g1 g2.1 g3 g4 e2 e3 hxd hxg (by rw[Around.in1_units];omega) hadd fun b h2 tk2 ev2 ep2 sb gS R2=>?_));have kt2:∀b o,h1.get? b=some o→o.cls=.type "tuple" → h2.get? b=some o:=fun b o' e hc=>by
    rw[sb.2 b fun z=>?_]
    ·exact e
    ·subst z;rw[g1]at e;cases e;rw[g2.1]at hc
     injection hc with hc
     exact absurd hc (by decide)
   refine aB ⟨plainId_quiet F.plain_set_update_loop _,ih (i+1) {s with heap:=h2,toks:=tk2} (et1,t1) (by omega) hlt (W.frame _ _ _ hst' fun b hb o' e=>?_) ⟨_,ev2,ep2,gS,g2,rfl,R2⟩ (hT1.keeps kt2) hrun fun h3 tk3 m3 kt3 S3=>?_⟩
   ·rw[sb.2 b fun z=>hSf (z ▸ hb)];exact e
   ·refine hR h3 tk3 (fun b o' hbS hb e=>?_) (fun b o' e hc=>kt3 b o' (kt2 b o' (kt b o' e hc) hc) hc) S3;refine m3 b o' hbS hb ?_;show h2.get? b=some o';rw[sb.2 b hbS];exact hm b o' hb e
end
end TH
namespace TH
open PySem PyProof.Rows PySem.SeqAt
section
variable{G:VL→Tr→Prop}{prog:Program}{w:World}{A:Around}{E:VL→SD→Prop}{s:SD}{l:AD}{us:List VL}{xs:List Tr}
abbrev Dh(led:Bool):Obj:={ cls:=.type "set",dict:=none,data:=.set #[] 0 (.fresh 0 0 led)}
def Q0(v:VL){Q1:VL→SD→Prop}(k:Q1 (.ref s.heap.objs.size) {s with heap:=s.heap.push (Dh (!w.params.followText "set-order"))}) :
  codeAny (model prog w) A (.call (.builtin "set.__new__") ⟨[.type "set",v],[]⟩) (wants Q1 E) s:=by
 refine codeAny_of_tree (show wpAny _ A.in1 (checkBuiltinCall "set.__new__" ⟨[.type "set",v],[]⟩>>=fun _=>again (.builtin "set.__new__" ⟨[.type "set",v],[]⟩)) _ _ s from ?_);refine Wb (wpAny_of_eq (F.newCall_set_1 v) (aB ⟨plainId_quiet F.plain_set_new _,codeAny_builtin F.entry_set_new ?_⟩));rw[Around.under_plainId F.plain_set_new _];unfold Builtin.«set.__new__»;unfold Builtin.Frozenset.newClass;have q:=sub_set_self;obtain⟨h0,g0,d0,t0,o0⟩:=s;dsimp only
 wp_walk
 refine wpAny_askSetting (aB ?_);dsimp only;simp only[newObj];exact Wb (wpAny_alloc (aB (aB k)))
def Oz{Q:VL→SD→Prop}(hA:A.handled=none)(hL:s.heap.IsList l us.toArray)(hT:GB G s.heap us xs)(hu:A.units+20<cLine){st:ES×SetTable}(hst:GY (Gg (!w.params.followText "set-order")) xs=some st)
 (k:∀(h2:Heap) (tk:Nat),IK G h2 s.heap.objs.size st→(∀b u,s.heap.get? b=some u→h2.get? b=some u)→Q (.ref s.heap.objs.size) {s with heap:=h2,toks:=tk}) :
  wpAny (model prog w) A (call (.type "set") [.ref l]) Q E s:=by
 obtain⟨mc,mt,hmro⟩:=F.called_set.mro;have q1:=F.called_set.made;have q2:=F.called_set.sub;have q3:=F.called_set.notType;have q4:=F.called_set.canCreate;have q5:=F.typeCall_set_1 (.ref l);refine wpAny_call (codeAny_of_tree (show wpAny _ _ (callAny (.type "set") _) _ _ _ from ?_));refine aB ⟨Code.quiet_builtin _ (by decide +kernel),codeAny_builtin F.entry_type_call ?_⟩;rw[Around.under_plain (weight_type_call_type "set" [.ref l] []) rfl]
 repeat (any_goals (first|assumption|wp_step))
 have hnew:=Q0 (prog:=prog) (w:=w) (s:=s) (A:=A.in1) (E:=E) (.ref l) (Q1:=fun v s1=>v=.ref s.heap.objs.size∧s1={s with heap:=s.heap.push (Dh (!w.params.followText "set-order"))}) ⟨rfl,rfl⟩;refine codeAny_mono hnew fun r s1 hr=>?_;cases r with
 |error e=>exact hr
 |ok fl =>
  cases fl with
  |next=>exact hr.elim
  |brk=>exact hr.elim
  |cont=>exact hr.elim
  |ret obj =>
   obtain⟨rfl,rfl⟩:=hr;generalize (!w.params.followText "set-order")=led at hst;have gS:(s.heap.push (Dh led)).get? s.heap.objs.size=some (Dh led):=aL _ rfl;have tS:Shared.TypeIs {s with heap:=s.heap.push (Dh led)} (.ref s.heap.objs.size) "set" := ⟨_,gS,rfl⟩;have q6:=F.called_set.init.lookup;have q7:=F.called_set.init.bind (.ref s.heap.objs.size)
   repeat (any_goals (first|assumption|wp_step))
   have hinit:codeAny (model prog w) A.in1 (.call (.builtin "set.__init__") ⟨[.ref s.heap.objs.size,.ref l],[]⟩)
     (wants (fun v s2=>v=.none∧∃h2 tk,s2={s with heap:=h2,toks:=tk}∧IK G h2 s.heap.objs.size st∧∀b u,s.heap.get? b=some u→h2.get? b=some u) E) {s with heap:=s.heap.push (Dh led)}:=by
    refine codeAny_call_builtin F.called_set.init.plain F.entry_set_init (check_set_init_1 tS ?_);obtain⟨⟨c0,d0,dt0,sl0⟩,gl,c1,n0,dt1⟩:=id hL;simp only at c1 dt1;subst c1 dt1;have gl1:(s.heap.push (Dh led)).get? l=some ⟨.type "list",d0,.seq us.toArray n0,sl0⟩:=aF _ gl;have isl:(s.heap.push (Dh led)).IsList l us.toArray:=⟨_,gl1,rfl,n0,rfl⟩;have s1:=F.sub_list_set;have s2:=F.sub_list_frozenset;have s3:(Value.type "list" == Value.type "dict")=false:=by decide
    unfold Builtin.«set.__init__» noKeywords Builtin.Frozenset.updateFrom;generalize ePI:pyIter=PI
    wp_walk
    subst ePI;refine wpAny_pyIter_list isl (Wb (wpAny_runValue ?_));have ll:l<s.heap.objs.size:=aG gl;have zI:(s.heap.push (Dh led)).objs.size=s.heap.objs.size+1:=Heap.size_push ..;have neI:l≠(s.heap.push (Dh led)).objs.size:=by rw[zI];exact aI (aX ll)
    have nfp:s.heap.objs.size ∉ [(s.heap.push (Dh led)).objs.size,l]:=by
     simp only[List.mem_cons,List.not_mem_nil,or_false,not_or];exact⟨by rw[zI];exact aI (Nat.lt_succ_self _),Nat.ne_of_gt ll⟩
    have hA3:A.in1.in1.in1.handled=none:=by simp[hA]
    refine Vo (G:=G) (xs:=xs) (st':=st) (Walks.list hA3 _ l neI us.toArray) nfp (fun i h b o hit hb e hc=>?_) (by simp only[Around.in1_units];omega) _ 0 _ (Gg led) rfl (aa _) ⟨⟨_,Heap.get?_push_size _ rfl,rfl,rfl⟩,isl.push _⟩ ?_ ?_ hst fun h2 tk m2 kt2 S2=>?_
    ·obtain⟨⟨oi,gi,ci,_⟩,_⟩:=hit;have:b=(s.heap.push (Dh led)).objs.size:=by simpa using hb
     subst this;rw[gi]at e;cases e;rw[ci]at hc
     injection hc with hc
     exact absurd hc (by decide)
    ·exact⟨Dh led,#[],0,Heap.get?_push_of_some _ gS,⟨rfl,rfl,rfl⟩,rfl,.nil⟩
    ·exact hT.keeps fun b o e _=>aF _ (aF _ e)
    ·refine aB ?_;show wpAny _ _ (ret Value.none) _ _ _;refine aB ⟨rfl,h2,tk,rfl,S2,fun b u e=>?_⟩;have lb:b<s.heap.objs.size:=aG e;refine m2 b u (aI lb) ?_ (aF _ (aF _ e));simp only[List.mem_cons,List.not_mem_nil,or_false];rw[zI];exact aI (aX lb)
   refine codeAny_mono hinit fun r2 s2 hr2=>?_;cases r2 with
   |error e=>exact hr2
   |ok f2 =>
    cases f2 with
    |next=>exact hr2.elim
    |brk=>exact hr2.elim
    |cont=>exact hr2.elim
    |ret v2 =>
     obtain⟨rfl,h2,tk,rfl,S2,k2⟩:=hr2
     repeat (any_goals (first|assumption|wp_step))
     exact k h2 tk S2 k2
end
end TH
namespace TH
open PySem PyProof.Rows PySem.SeqAt
def L8:entryFor table "set.__iter__" = some Builtin.«frozenset.__iter__» :=
 entryFor_alias (id' := "frozenset.__iter__") (by kernel_rfl) rfl (by decide +kernel) (by kernel_rfl)
def CS:Slot "set_iterator" "__next__" "set_iterator.__next__" :=
 .of (owner := "set_iterator") (n := "__next__") (by rw[typeLookup_type,builtinLookup_eq_fast];kernel_rfl) (by decide +kernel)
  (by decide +kernel) (by decide +kernel) (by first|exact .inl (by decide +kernel)|exact .inr (by decide +kernel)) (by rw[isSubtype_type];kernel_rfl)
def HP:entryFor table "set_iterator.__next__" = some Builtin.«set_iterator.__next__»:=entryFor_of_fast (by kernel_rfl)
def Iz(a:VL):argsOk "set_iterator.__next__" ⟨[a],[]⟩:=by unfold argsOk;kernel_rfl
def JA:Slot "set_iterator" "__iter__" "set_iterator.__iter__" :=
 .of (owner := "set_iterator") (n := "__iter__") (by rw[typeLookup_type,builtinLookup_eq_fast];kernel_rfl) (by decide +kernel)
  (by decide +kernel) (by decide +kernel) (by first|exact .inl (by decide +kernel)|exact .inr (by decide +kernel)) (by rw[isSubtype_type];kernel_rfl)
def L0:entryFor table "set_iterator.__iter__" = some Builtin.«dict_keyiterator.__iter__» :=
 entryFor_alias (id' := "dict_keyiterator.__iter__") (by kernel_rfl) rfl (by decide +kernel) (by kernel_rfl)
def Mk(a:VL):argsOk "set_iterator.__iter__" ⟨[a],[]⟩:=by unfold argsOk;kernel_rfl
section
variable{α:Type}{next:Nat→Nat}
def Po:∀(n k:Nat) (left:List α) (out:Array α),left.length=n→(pickOrder.go next n k left out).toList.Perm (out.toList++left)
 |0,k,left,out,h=>by
  have:left=[]:=List.eq_nil_of_length_eq_zero h;subst this;rw[pickOrder.go];simp
 |n+1,k,left,out,h=>by
  rw[pickOrder.go];have hlt:next k % left.length<left.length:=Nat.mod_lt _ (by omega);rw[List.getElem?_eq_getElem hlt];refine(Po n (k+1) _ _ (by rw[List.length_eraseIdx_of_lt hlt];omega)).trans ?_;rw[Array.toList_push,List.append_assoc];refine List.Perm.append_left _ ?_;rw[List.eraseIdx_eq_take_drop_succ];have e:left.take (next k % left.length)++left[next k % left.length]::left.drop (next k % left.length+1)=left:=by rw[←List.drop_eq_getElem_cons hlt,List.take_append_drop]
  have p:=List.perm_middle (a:=left[next k % left.length]) (l₁:=left.take (next k % left.length)) (l₂:=left.drop (next k % left.length+1));rw[e]at p;exact p.symm
def SR(xs:Array α):(pickOrder next xs).toList.Perm xs.toList:=by
 unfold pickOrder
 simpa using Po xs.size 0 xs.toList #[] (by simp)
end
end TH
namespace TH
open PySem PyProof.Rows PySem.SeqAt
def C4(w:World)(S:AD)(ep:Nat)(ev:Array (Int×VL)):Array (Int×VL):=if w.params.followText "set-order" = true then pickOrder (w.params.setOrder S ep) ev else ev
def Jj(w:World)(S:AD)(ep:Nat)(ev:Array (Int×VL)):(C4 w S ep ev).toList.Perm ev.toList:=by
 unfold C4;split
 ·exact SR ev
 ·exact .refl _
def FV(w:World)(S:AD)(ep:Nat)(ev:Array (Int×VL)):(C4 w S ep ev).size=ev.size:=by simpa using (Jj w S ep ev).length_eq
def Dz(t:SetTable):Nat→Nat
 |0=>0
 |i+1=>t.place.getD i 0+1
def CZ(w:World)(t:SetTable)(i:Nat):Nat:=if w.params.followText "set-order" = true then 0 else Dz t i
def EW(t:SetTable)(n:Nat):Bool:=(List.range (n+1)).all fun i=>decide (SetTable.below t.place (Dz t i)=i)
abbrev HC(w:World)(S:AD)(t:SetTable)(ep n i:Nat):Obj:={ cls:=.type "set_iterator",data:=.fields #[rawInt ((CZ w t i:Nat):Int),rawInt (i:Int),.ref S,rawInt (n:Int),rawInt (ep:Int)]}
structure CU(w:World)(o:Obj)(ev:Array (Int×Value))(ep:Nat)(t:SetTable):Prop where
 ex:o.ExactSet
 dat:o.data=.set ev ep t
 fit:t.fits ev.size=true
 plain:t.plain=true
 led:t.led=!w.params.followText "set-order"
 walk:EW t ev.size=true
section
variable{prog:Program}{w:World}{A:Around}{E:VL→SD→Prop}{s:SD}{S I:AD}{o:Obj}{ev:Array (Int×VL)}{ep i:Nat}{t:SetTable}
def Lh{Q:Bool→SD→Prop}(h:Q (w.params.followText "set-order") s):wpAny (model prog w) A setsByText Q E s:=by
 unfold setsByText;exact Wb (wpAny_askSetting (aB h))
def CU.Sn(W:CU w o ev ep t):(!t.plain&&decide (ev.size > 1))=false:=by rw[W.plain];rfl
def CU.place(W:CU w o ev ep t):t.place.size=ev.size:=by
 have:=W.fit;unfold SetTable.fits at this;simp only[Bool.and_eq_true,beq_iff_eq]at this;exact this.1
def Ny{Q:Option (VL×Nat)→SD→Prop}(W:CU w o ev ep t)(ho:s.heap.get? S=some o)(hi:i≤ev.size)(h:Q ((C4 w S ep ev)[i]?.map fun e=>(e.2,CZ w t (i+1))) s) :
  wpAny (model prog w) A (setNext S (CZ w t i) i ep) Q E s:=by
 unfold setNext;refine Wb (ae ho W.dat W.fit ?_);refine Wb (Lh ?_);cases hb:w.params.followText "set-order" with
 |true =>
  rw[if_pos rfl];have hne:¬(ep != ep)=true:=by simp
  rw[if_neg hne];unfold setWalk;refine Wb (Wb (ae ho W.dat W.fit ?_));refine Wb (Lh ?_);rw[if_pos hb];refine Wb (wpAny_askSetting (aB ?_));refine aB ?_;have e:C4 w S ep ev=pickOrder (w.params.setOrder S ep) ev:=by unfold C4;rw[if_pos hb]
  rw[e]at h;have e2:CZ w t i=CZ w t (i+1):=by unfold CZ;rw[if_pos hb,if_pos hb]
  rw[e2];exact h
 |false =>
  rw[if_neg aJ];refine wpAny_ite_split (fun hd=>?_) fun _=>?_
  ·have:(!t.plain&&decide (ev.size > 1))=true:=hd;rw[W.Sn]at this;cases this
  ·refine Wb ?_;have hl:t.led=true:=by rw[W.led,hb];rfl
   have hn:¬(!t.led && !ev.isEmpty)=true:=by rw[hl];simp
   show wpAny _ _ (if(!t.led && !ev.isEmpty)=true then unsupported "set:maker-not-led" else pure ()) _ _ _;rw[if_neg hn];refine aB (aB ?_);have hw:=W.walk;unfold EW at hw;have hw:=List.all_eq_true.mp hw i (List.mem_range.mpr (by omega));have hw:SetTable.below t.place (Dz t i)=i:=by simpa using hw
   have e1:CZ w t i=Dz t i:=by unfold CZ;rw[hb];rfl
   have e2:CZ w t (i+1)=Dz t (i+1):=by unfold CZ;rw[hb];rfl
   have e3:C4 w S ep ev=ev:=by unfold C4;rw[hb];rfl
   rw[e2,e3]at h;rw[e1,hw];by_cases hlt:i<ev.size
   ·have hp:i<t.place.size:=by rw[W.place];exact hlt
    rw[Array.getElem?_eq_getElem hlt]at h ⊢;rw[Array.getElem?_eq_getElem hp];have e4:Dz t (i+1)=t.place[i]+1:=by
     rw[Dz,Array.getD_eq_getD_getElem?,Array.getElem?_eq_getElem hp]
     rfl
    rw[e4]at h;exact h
   ·rw[Array.getElem?_eq_none (by omega)]at h ⊢;exact h
def Ud{Q:Option VL→SD→Prop}{z:Int}{v:VL}(W:CU w o ev ep t)(ho:s.heap.get? S=some o)(hI:s.heap.get? I=some (HC w S t ep ev.size i))(hx:(C4 w S ep ev)[i]? = some (z,v))
 (h:∀h',h'.get? I=some (HC w S t ep ev.size (i+1))→Heap.SameBut I s.heap h'→Q (some v) {s with heap:=h'}):wpAny (model prog w) A (pyNext (.ref I)) Q E s:=by
 have hT:s.TypeIs (.ref I) "set_iterator" := ⟨_,hI,rfl⟩;have hlt:i<ev.size:=by
  have:=(Array.getElem?_eq_some_iff.mp hx).1;rw[FV]at this;exact this
 unfold pyNext;refine Wb (wpAny_attempt (ai (name:=Str.ofString "__next__") hT CS (aT CS hT HP ?_ (Iz _))));unfold Builtin.«set_iterator.__next__»;refine Wb (wpAny_of_eq (a:=(Value.ref I,[])) rfl ?_);refine Wb (wpAny_fieldsOf hI rfl ?_);show wpAny _ _ (setEntries S>>=_) _ _ s;refine Wb (wpAny_setEntries_of ho W.dat W.fit ?_);have hne:¬((ev.size:Int) != (ev.size:Int))=true:=by simp
 dsimp only;rw[if_neg hne];refine Wb ?_;show wpAny _ _ (setNext S (CZ w t i) i ep) _ _ _;refine Ny W ho (by omega) ?_;rw[hx];show wpAny _ _ (setField (.ref I) 0 (rawInt ((CZ w t (i+1):Nat):Int))>>=_) _ _ _;refine Wb (wpAny_setField hI rfl (by simp) ?_);have g1:(s.heap.update I (Obj.mapFields (·.setIfInBounds 0 (rawInt ((CZ w t (i+1):Nat):Int))))).get? I=some { cls:=.type "set_iterator",data:=.fields #[rawInt ((CZ w t (i+1):Nat):Int),rawInt (i:Int),.ref S,rawInt (ev.size:Int),rawInt (ep:Int)]} :=
  Heap.get?_update_self _ hI rfl
 refine Wb (wpAny_setField g1 rfl (by simp) ?_);refine aB ⟨_,rfl,wpAny_pure (h _ ?_ ((ak ..).trans (ak ..)))⟩;exact Heap.get?_update_self _ g1 rfl
def UK{Q:Option VL→SD→Prop}(hh:A.handled=none)(W:CU w o ev ep t)(ho:s.heap.get? S=some o)(hI:s.heap.get? I=some (HC w S t ep ev.size ev.size))
 (h:∀h',Heap.ExtBut I s.heap h'→Q none {s with heap:=h'}):wpAny (model prog w) A (pyNext (.ref I)) Q E s:=by
 have hT:s.TypeIs (.ref I) "set_iterator" := ⟨_,hI,rfl⟩;unfold pyNext;refine Wb (wpAny_attempt (ai (name:=Str.ofString "__next__") hT CS (aT CS hT HP ?_ (Iz _))));unfold Builtin.«set_iterator.__next__»;refine Wb (wpAny_of_eq (a:=(Value.ref I,[])) rfl ?_);refine Wb (wpAny_fieldsOf hI rfl ?_);show wpAny _ _ (setEntries S>>=_) _ _ s;refine Wb (wpAny_setEntries_of ho W.dat W.fit ?_);have hne:¬((ev.size:Int) != (ev.size:Int))=true:=by simp
 dsimp only;rw[if_neg hne];refine Wb ?_;show wpAny _ _ (setNext S (CZ w t ev.size) ev.size ep) _ _ _;refine Ny W ho (aH _) ?_;rw[Array.getElem?_eq_none (by rw[FV];exact aH _)];show wpAny _ _ (setField (.ref I) 2 Value.none>>=_) _ _ _;refine Wb (wpAny_setField hI rfl (by simp) ?_);refine Wb ?_;simp only[newExc,newTuple];refine Wb (aW ?_ (by size_fits));refine Wb (m:=firstArgMember _ _) (wpAny_of_eq (a:=Value.none) (by first|rfl|(simp only[firstArgMember];rfl)) (aW ?_ (by size_fits)));simp only[raiseNew];refine Wb (wpAny_handled ?_);have hh1:A.in1.handled=none:=hh;rw[hh1];refine Wb (aB (wpAny_throw ?_));refine Wb (wpAny_isInstance (b:=true) (T := "StopIteration") ⟨_,Heap.get?_push_size _ rfl,rfl⟩ isSubtype_stop ?_);exact aB (h _ (((ak ..).extBut.push _).push _))
def Tb{Q:VL→SD→Prop}(hI:s.heap.get? I=some (HC w S t ep ev.size i))(h:Q (.ref I) s):wpAny (model prog w) A (pyIter (.ref I)) Q E s:=by
 have hT:s.TypeIs (.ref I) "set_iterator" := ⟨_,hI,rfl⟩;refine wpAny_pyIter_slot hT JA (aT JA hT L0 ?_ (Mk _));show wpAny _ _ (ret (.ref I)) _ _ s;exact aB ⟨_,rfl, "set_iterator",_,hT,CS.lookup,h⟩
def Sf(hh:A.handled=none)(hne:S≠I)(W:CU w o ev ep t) :
  Walks prog w A I [I,S] [I] ev.size (fun i v=>∃z,(C4 w S ep ev)[i]? = some (z,v)) (fun i h=>h.get? I=some (HC w S t ep ev.size i)∧h.get? S=some o) where
 sub:=fun b hb=>by simp at hb;simp[hb]
 frame:=fun _ _ _ x k=>⟨k I (by simp) _ x.1,k S (by simp) _ x.2⟩
 item:=fun i s Q E hi x hQ=>by
  have hi':i<(C4 w S ep ev).size:=by rw[FV];exact hi
  obtain⟨z,v,hx⟩:∃z v,(C4 w S ep ev)[i]? = some (z,v):=⟨(C4 w S ep ev)[i].1,(C4 w S ep ev)[i].2,by rw[Array.getElem?_eq_getElem hi']⟩;refine Ud W x.2 x.1 hx fun h' g sb=>hQ v h' s.toks ⟨z,hx⟩ ⟨g,(sb.2 S hne).trans x.2⟩ fun b u hb e=>?_;rw[sb.2 b fun q=>hb (by simp[q])];exact e
 done:=fun s Q E x hQ=>UK hh W x.2 x.1 fun h' eb=>hQ h' s.toks fun b u hb e=>eb b u (fun q=>hb (by simp[q])) e
 self:=fun _ _ _ _ x hQ=>Tb x.1 hQ
def TB{Q:Bool→SD→Prop}(hT:s.TypeIs (.ref S) "set")(h:Q false s):wpAny (model prog w) A (Builtin.List.listLengthHint (.ref S)) Q E s:=by
 unfold Builtin.List.listLengthHint;refine Wb (wpAny_specialOf hT PySem.F.slot_set_len.lookup ?_);generalize hid:("set.__len__" : String)=id0
 wp_delta
 rw[show splitId id0=some ("set", "__len__") from by subst hid;decide +kernel];subst hid;refine Wb (wpAny_isInstance (b:=true) (T := "set") hT (by rw[isSubtype_type];kernel_rfl) ?_);refine wpAny_ite_split (fun z=>absurd z (by decide)) fun _=>?_;refine wpAny_ite_split (fun _=>?_) fun z=>absurd (by decide +kernel) z;exact Wb (wpAny_typeOf hT (aB h))
def UB{Q:VL→SD→Prop}(W:CU w o ev ep t)(ho:s.heap.get? S=some o)(h:Q (.ref s.heap.objs.size) {s with heap:=s.heap.push (HC w S t ep ev.size 0)}) :
  wpAny (model prog w) A (pyIter (.ref S)) Q E s:=by
 have hT:s.TypeIs (.ref S) "set" := ⟨o,ho,W.ex.1⟩;refine wpAny_pyIter_slot hT PySem.F.slot_set_iter (aT PySem.F.slot_set_iter hT L8 ?_ (PySem.F.args_set_iter_1 _));unfold Builtin.«frozenset.__iter__»;refine Wb (wpAny_of_eq (a:=S) rfl ?_);unfold Builtin.Frozenset.sizeOf;refine Wb (Wb (wpAny_setEntries_of ho W.dat W.fit (aB ?_)));unfold setDrawn;refine Wb (Wb (ae ho W.dat W.fit (Wb (Lh (aB ?_)))));have hd:(!w.params.followText "set-order" && (!t.plain&&decide (ev.size > 1)))=false:=by rw[W.Sn];simp
 refine wpAny_ite_split (fun z=>?_) fun _=>?_
 ·have:(!w.params.followText "set-order" && (!t.plain&&decide (ev.size > 1)))=true:=z;rw[hd]at this;cases this
 refine Wb (aB ?_);unfold setEpoch;refine Wb (Wb (ae ho W.dat W.fit (aB ?_)));have e0:CZ w t 0=0:=by unfold CZ Dz;split<;>rfl
 refine Wb (aW (aB ⟨_,rfl, "set_iterator",_,⟨_,Heap.get?_push_size _ rfl,rfl⟩,CS.lookup,?_⟩));unfold HC at h;rw[e0]at h;exact h
def Pq(W:CU w o ev ep t):PySem.W.KdlSrc prog w "set" S S ev.size (fun i v=>∃z,(C4 w S ep ev)[i]? = some (z,v)) (fun h=>h.get? S=some o) where
 type:=fun _ ho=>⟨o,ho,W.ex.1⟩
 there:=fun _ ho=>⟨aG ho,Heap.lt_size ho⟩
 keep:=fun _ _ ho k=>k S (.inl rfl) _ ho
 notList:=by decide
 notTuple:=by decide
 hint:=fun _ _ s _ ho h=>TB ⟨o,ho,W.ex.1⟩ h
 iter:=fun A s hh ho=>⟨HC w S t ep ev.size 0,_,(fun E Q h=>UB W ho h),Sf hh (aI (aG ho)) W,⟨aL _ rfl,Heap.get?_push_of_some _ ho⟩⟩
end
end TH
namespace TH
open PySem PyProof.Rows PySem.SeqAt
def Paired.perm{α β:Type}{F:α→β→Prop}{l l':List α}(p:l'.Perm l):∀ {m:List β},Paired F l m→∃m',m'.Perm m∧Paired F l' m':=by
 induction p with
 |nil=>intro m r;exact⟨m,.refl _,r⟩
 |cons x _ ih =>
  intro m r;cases r with
  |cons h r' =>
   obtain⟨m',p',q⟩:=ih r';exact⟨_::m',p'.cons _,.cons h q⟩
 |swap x y l =>
  intro m r;cases r with
  |cons h r' =>
   cases r' with
   |cons h' r''=>exact⟨_::_::_,List.Perm.swap ..,.cons h' (.cons h r'')⟩
 |trans _ _ ih1 ih2 =>
  intro m r;obtain⟨m1,p1,q1⟩:=ih2 r;obtain⟨m2,p2,q2⟩:=ih1 q1;exact⟨m2,p2.trans p1,q2⟩
variable{G:VL→Tr→Prop}
def L9{h:Heap}:∀ {l:List (Int×VL)} {m:List (Int×Tr)},Paired (Kp G h) l m→Vs h (Tr.of (m.map (·.2))) (l.map (·.2))
 |_,_,.nil=>by rw[List.map_nil,List.map_nil,Tr.of,Vs]
 |_,_,.cons (a:=(z,v)) ⟨_,_,_,a,its,e,h1,h2⟩ r=>by
  have e:v=.ref a:=e;subst e;rw[List.map_cons,List.map_cons,Tr.of,Vs];exact⟨a,its,_,rfl,h1,h2,L9 r⟩
def Jq{h:Heap}:∀ {l:List (Int×VL)} {m:List (Int×Tr)},Paired (Kp G h) l m→∀c∈m.map (·.2),c.deep<8
 |_,_,.nil,c,hc=>by cases hc
 |_,_,.cons ⟨_,hd,_⟩ r,c,hc=>by
  rw[List.map_cons]at hc;rcases aN.mp hc with rfl|hc
  ·exact hd
  ·exact Jq r c hc
def OG{h:Heap}:∀ {l:List (Int×VL)} {m:List (Int×Tr)},Paired (Kp G h) l m→Paired G (l.map (·.2)) (m.map (·.2))
 |_,_,.nil=>.nil
 |_,_,.cons ⟨_,_,hg,_⟩ r=>.cons hg (OG r)
def Paired.Qt{α β:Type}{F:α→β→Prop}{l:List α}{m:List β}(r:Paired F l m)(d:α)(e:β):∀(ix:List Nat),(∀i∈ix,i<l.length)→Paired F (ix.map fun i=>l.getD i d) (ix.map fun i=>m.getD i e)
 |[],_=>.nil
 |i::ix,h=>by
  have hl:=r.length;have hi:=h i aP;have hm:m[i]? = some m[i]:=bC (by omega);obtain⟨x,e1,e2⟩:=Paired.get r hm;rw[List.map_cons,List.map_cons];refine .cons ?_ (Paired.Qt r d e ix fun j hj=>h j (aO _ hj));rw[List.getD_eq_getElem?_getD,List.getD_eq_getElem?_getD,e1,hm];exact e2
def UT{l m:List Tr}(p:l.Perm m):Tr.BV l=Tr.BV m:=Tr.HG (Tr.Gm l) (Tr.Gm m) ((Tr.GK l).trans (p.trans (Tr.GK m).symm))
section
variable{prog:Program}{w:World}{A:Around}{E:VL→SD→Prop}{s:SD}
def gather{T:String}{r d:AD}{n:Nat}{P:Nat→VL→Prop}{OK:Heap→Prop}{R:List VL→SD→Prop}(K:PySem.W.KdlSrc prog w T r d n P OK)(hA:A.handled=none)(Ag:OK s.heap)(hn:n≤sizeLine)
 (k:∀(h1:Heap) (tk:Nat) (acc:Array VL),s.heap.objs.size<h1.objs.size→(∀b u,s.heap.get? b=some u→h1.get? b=some u)→ItemsOf P acc n→R acc.toList {s with heap:=h1,toks:=tk}) :
  wpAny (model prog w) A (collect (.ref r)) R E s:=by
 obtain⟨lr,ld⟩:=K.there _ Ag;unfold collect;refine Wb (wpAny_runValue (codeAny_builtin entry_proto_collect' ?_));rw[Around.under_plainId PySem.F.plain_proto_collect _];show wpAny _ A.in1 (newList []>>=fun v=>again (.builtin "list.__iadd__" ⟨[v,.ref r],[]⟩)) _ _ s;refine Wb (aW (aB ⟨plainId_quiet PySem.F.plain_list_iadd _,codeAny_builtin entry_list_iadd' ?_⟩));rw[Around.under_plainId PySem.F.plain_list_iadd _];have g0:(s.heap.push { cls:=.type "list",data:=.seq ([]:List VL).toArray}).get? s.heap.objs.size=some { cls:=.type "list",data:=.seq #[]}:=aL _ rfl;have main:=PySem.W.kdl_extend (A:=A) (s:={s with heap:=s.heap.push { cls:=.type "list",data:=.seq ([]:List VL).toArray} }) K hA
  (K.keep _ _ Ag fun _ _ _ e=>aF _ e) s.heap.objs.size (Nat.ne_of_gt lr) (Nat.ne_of_gt ld) (.ref s.heap.objs.size) 0 g0
  (R:=fun q s1=>∃h1 tk acc c,q=.ok (.ret (.ref s.heap.objs.size))∧s1={s with heap:=h1,toks:=tk}∧(∀b u,s.heap.get? b=some u→h1.get? b=some u)∧h1.get? s.heap.objs.size=some { cls:=.type "list",dict:=none,data:=.seq acc c,slots:=#[]}∧ItemsOf P acc n)
  (fun h1 tk acc c k1 g1 ha=>⟨h1,tk,acc,c,rfl,rfl,fun b u e=>k1 b u (aI (aG e)) (aF _ e),g1,ha⟩) hn
 refine aQ main (fun fin s1 x=>?_) fun e s1 x=>?_
 ·cases fin with
  |done f =>
   obtain⟨h1,tk,acc,c,e,rfl,k1,g1,ha⟩:=x;cases e;show wpAny _ A (load s.heap.objs.size>>=_) _ _ _;exact Wb (wpAny_load g1 (aB (k h1 tk acc (aG g1) k1 ha)))
  |again c1 =>
   refine⟨x.1,codeAny_mono x.2 fun q s2 y=>?_⟩;obtain⟨h1,tk,acc,c,rfl,rfl,k1,g1,ha⟩:=y;show wpAny _ A (load s.heap.objs.size>>=_) _ _ _;exact Wb (wpAny_load g1 (aB (k h1 tk acc (aG g1) k1 ha)))
 ·obtain⟨_,_,_,_,z,_⟩:=x;cases z
end
section
variable{prog:Program}{w:World}{A:Around}{E:VL→SD→Prop}{s:SD}{S:AD}{o:Obj}{ev:Array (Int×VL)}{et:ES}{ep:Nat}{t:SetTable}
def QX{Q:VL→SD→Prop}(hA:A.handled=none)(W:CU w o ev ep t)(ho:s.heap.get? S=some o)(R:B0 G s.heap ev et)(h64:et.size<64)(hu:A.units+20<cLine)
 (h:∀(h':Heap) (D tk e1:Nat) (us:List VL),s.heap.objs.size≤D→(∀b u,s.heap.get? b=some u→h'.get? b=some u)→h'.get? D=some (seqObj "list" us.toArray e1)→Paired G us (Tr.BV (et.toList.map (·.2))).reverse→us.length<64 →
   Q (.ref D) {s with heap:=h',toks:=tk}):wpAny (model prog w) A (call (.builtin "sorted") [.ref S]) Q E s:=by
 have hsz:=R.size;refine Calls.call_function_entry kind_sorted plain_sorted entry_sorted (args_sorted1 _) ?_;unfold Builtin.«sorted»;refine Wb (m:=checkCount "sorted" 1 1 _) (aB ?_);refine Wb (gather (A:=A.in1) (Pq W) hA ho (Cy (by omega)) fun h1 tk acc z1 k1 hacc=>?_);have hal:acc.toList=(C4 w S ep ev).toList.map (·.2):=by
  apply List.ext_getElem?;intro j;rw[List.getElem?_map];by_cases hj:j<acc.size
  ·have e1:acc[j]? = some acc[j]:=Array.getElem?_eq_getElem hj;obtain⟨z,e2⟩:=hacc.2 j _ e1;rw[Array.getElem?_toList,e1,Array.getElem?_toList,e2]
   rfl
  ·have hj2:¬j<(C4 w S ep ev).size:=by rw[FV,←hacc.1];exact hj
   rw[List.getElem?_eq_none (by simpa using hj),List.getElem?_eq_none (by simpa using hj2)]
   rfl
 obtain⟨m,pm,rm⟩:=Paired.perm (Jj w S ep ev) R;have hvs:=L9 rm;rw[←hal]at hvs;have hd:(Tr.of (m.map (·.2))).deep≤8:=(Tr.Hw 8 _).mpr fun c hc=>by have:=Jq rm c hc;omega
 have hlen:acc.toList.length<64:=by rw[Array.length_toList,hacc.1,hsz];exact h64
 refine Wb (bE ?_ (Cy (by omega)));have g1:(h1.push (seqObj "list" acc.toList.toArray 0)).get? h1.objs.size=some (seqObj "list" acc.toList.toArray 0):=aL _ rfl;have k2:∀b u,s.heap.get? b=some u→(h1.push (seqObj "list" acc.toList.toArray 0)).get? b=some u:=fun b u e=>aF _ (k1 b u e);refine Wb (aU (aT slot_list_sort ⟨_,g1,rfl⟩ entry_list_sort (Fh (s:={s with heap:=h1.push (seqObj "list" acc.toList.toArray 0),toks:=tk}) g1 (hvs.keeps fun b u e _=>k2 b u e) hlen
  (by rw[show A.in1.in1.units=A.units+2 from rfl];omega) fun ix a1 a2 a3=>⟨_,rfl,?_⟩) (args_list_sort _)))
 obtain⟨e1,he1⟩:=sortedHeap_at (vs:=acc.toList) (out:=(ix.map fun i=>acc.toList.getD i Value.none).toArray) g1;refine aB ⟨_,rfl,h _ h1.objs.size tk e1 (ix.map fun i=>acc.toList.getD i Value.none) ?_ (fun b u e=>?_) he1 ?_ (by rw[List.length_map,a1];exact hlen)⟩
 ·exact bF z1
 ·have lb:b<h1.objs.size:=aG (k1 b u e);rw[sortedHeap_old (aI lb) (by rw[Heap.size_push];exact aX lb)];exact k2 b u e
 ·have hg:=OG rm;rw[←hal]at hg;have:=Paired.Qt hg Value.none Tr.nil ix a2;rw[Tr.Qj]at a3;rw[a3,UT (pm.map (·.2))]at this;exact this
end
end TH
namespace TH
open PySem PyProof.Rows
def Zd:Option Tr→Int
 |none=>4238894112
 |some t=>AW t
abbrev KE:=Option Tr×VL×VL
def cW(x:KE):DictEntry:=⟨Zd x.1,x.2.1,x.2.2⟩
end TH
namespace L2
open PySem PySem.Spec PyProof.Rows
abbrev KR:=Option Tr×V×V
def cZ(q:KR)(x:TH.KE):Prop:=x.1=q.1∧RelV q.2.1 x.2.1∧RelV q.2.2 x.2.2
def dN(d:AD)(r:List KR):HO:=.ext fun h=>(d==sysModules)=false∧∃o es ep xs,h.get? d=some o∧o.ExactDict∧o.data=.dict es ep∧es.toList=xs.map TH.cW∧PySem.Paired cZ r xs
def Q3(H:Hp):Option Tr→V→Prop
 |none,v=>v=.Ao
 |some t,v=>t.deep<8∧Tv H t v
def Q3.same{H H':Hp}{k:Option Tr}{v:V}(h:Q3 H k v)(e:AI H H'):Q3 H' k v:=by
 cases k with
 |none=>exact h
 |some t=>exact⟨h.1,h.2.same e⟩
section
variable{X:Cx}
def RX(hc:X.calm=true):CN X (.builtin "sum") (fun xs H Q=>∃(p:AD) (ns:List Int),xs=[.ref p]∧BF X.K H p (ns.map V.int)∧Q (.int ns.sum) H):=by
 intro pins s σ H xs us Q I r h;obtain⟨p,ns,rfl,hq,q⟩:=h;obtain⟨u,rfl,r1⟩:=r.one;cases r1;obtain⟨its,rv,pl,hz⟩:=I.tuple hq;have hi:=intsAre_of rv;obtain⟨xs,hx⟩:=hi.allInts.items;have hl':s.heap.IsTuple p (intItems xs):=hx ▸ pl
 have hlt:p<s.heap.objs.size:=by obtain⟨_,e,_⟩:=hl';exact aG e
 have e1:ns=xs.toList.map (·.1):=by
  rw[←nums_intItems,←hx];exact(show numsOf its.toArray.toList=ns from hi.numsOf).symm
 have e2:preSum (numAt xs) xs.size=ns.sum:=by
  rw[preSum_eq,List.take_of_length_le (by simp),e1]
 refine call_sum_walkG (wpAny_pyIter_tuple hl' ?_);refine⟨_,[_,p],[_],_,_,_,numAt xs,rfl,Walks.tuple (A:=X.A.in1) (I.ok.hd hc) _ p (aI hlt) (intItems xs),
  ⟨⟨_,Heap.get?_push_size _ rfl,rfl,rfl⟩,hl'.push _⟩,fun c hcc=>?_,(fun _ _=>intItems_at),fun h' tk t' hk=>?_⟩
 ·show c<(s.heap.push _).objs.size;rw[Heap.size_push];rcases aN.mp hcc with rfl|hcc
  ·exact Nat.lt_succ_self _
  ·rw[List.mem_singleton.mp hcc];exact aX hlt
 ·have e3:preSum (numAt xs) (intItems xs).size=ns.sum:=by
   rw[←e2];simp[intItems]
  rw[e3];exact⟨.int _,H,I.kept (t':=tk) (PyProof.Rows.LSm.kept_iter hk),⟨t',rfl⟩,q⟩
end
end L2
set_option maxHeartbeats 1000000
namespace L2
open PySem PySem.Spec PyProof.Rows
def Rd.same{H H':Hp}{a:AD}{u:HO}(e:AI H H')(h:Rd H a u):Rd H' a u:=by
 rcases h with h|⟨o,h⟩
 ·exact .inl (e _ _ h)
 ·exact .inr ⟨o,e _ _ h⟩
def B8:Tr→List PD
 |.nil=>[]
 |.cons b r=>.tuple (B8 b)::B8 r
def Wv:Option Tr→PD
 |none=>.none
 |some t=>.tuple (B8 t)
mutual
def Du(H:Hp):PD→V→Prop
 |.none,v=>v=.Ao
 |.bool b,v=>v=.bl b
 |.int i,v=>v=.int i
 |.str x,v=>v=.str x
 |.tuple ds,v=>∃a xs,v=.ref a∧H a=some (.tup xs)∧AZ H ds xs
 |.list ds,v=>∃a xs,v=.ref a∧H a=some (.lst xs)∧AZ H ds xs
 |.dict kv,v=>(∃ea C:AD,kv=[(.int (C:Nat),.none)]∧v=.ref ea∧H ea=some (cX ea (.ref C)))∨(∃(a:AD) (ns:List Int),kv=[(.none,.list (ns.map .int))]∧v=.ref a∧Rd H a (.lst (ns.map V.int)))∨HX H kv v
def AZ(H:Hp):List PD→List V→Prop
 |[],xs=>xs=[]
 |d::ds,xs=>∃x r,xs=x::r∧Du H d x∧AZ H ds r
def HX(H:Hp):List (PD×PD)→V→Prop
 |[],_=>False
 |(k0,d0)::t,v=>k0=.bool true∧d0=.none∧∃a r,v=.ref a∧H a=some (dN a r)∧(r.map (·.1)).Nodup∧Hv H t r
def Hv(H:Hp):List (PD×PD)→List KR→Prop
 |[],r=>r=[]
 |(k,d)::t,r=>∃q r',r=q::r'∧k=Wv q.1∧Q3 H q.1 q.2.1∧Du H d q.2.2∧Hv H t r'
end
mutual
def Du.same{H H':Hp}(e:AI H H'):∀ {d:PD} {v:V},Du H d v→Du H' d v
 |.none,_,h=>by rw[Du]at h ⊢;exact h
 |.bool _,_,h=>by rw[Du]at h ⊢;exact h
 |.int _,_,h=>by rw[Du]at h ⊢;exact h
 |.str _,_,h=>by rw[Du]at h ⊢;exact h
 |.tuple _,_,h=>by
  rw[Du]at h ⊢;obtain⟨a,xs,e1,h1,h2⟩:=h;exact⟨a,xs,e1,e _ _ h1,AZ.same e h2⟩
 |.list _,_,h=>by
  rw[Du]at h ⊢;obtain⟨a,xs,e1,h1,h2⟩:=h;exact⟨a,xs,e1,e _ _ h1,AZ.same e h2⟩
 |.dict _,_,h=>by
  rw[Du]at h ⊢;rcases h with ⟨ea,C,e1,e2,h1⟩|⟨a,ns,e1,e2,h1⟩|h
  ·exact .inl ⟨ea,C,e1,e2,e _ _ h1⟩
  ·exact .inr (.inl ⟨a,ns,e1,e2,h1.same e⟩)
  ·exact .inr (.inr (HX.same e h))
def AZ.same{H H':Hp}(e:AI H H'):∀ {ds:List PD} {xs:List V},AZ H ds xs→AZ H' ds xs
 |[],_,h=>by rw[AZ]at h ⊢;exact h
 |_::_,_,h=>by
  rw[AZ]at h ⊢;obtain⟨x,r,e1,h1,h2⟩:=h;exact⟨x,r,e1,Du.same e h1,AZ.same e h2⟩
def HX.same{H H':Hp}(e:AI H H'):∀ {kv:List (PD×PD)} {v:V},HX H kv v→HX H' kv v
 |[],_,h=>by rw[HX]at h;exact h.elim
 |(_,_)::_,_,h=>by
  rw[HX]at h ⊢;obtain⟨h1,h2,a,r,h3,h4,h5,h6⟩:=h;exact⟨h1,h2,a,r,h3,e _ _ h4,h5,Hv.same e h6⟩
def Hv.same{H H':Hp}(e:AI H H'):∀ {kv:List (PD×PD)} {r:List KR},Hv H kv r→Hv H' kv r
 |[],_,h=>by rw[Hv]at h ⊢;exact h
 |(_,_)::_,_,h=>by
  rw[Hv]at h ⊢;obtain⟨q,r',h1,h2,h3,h4,h5⟩:=h;exact⟨q,r',h1,h2,h3.same e,Du.same e h4,Hv.same e h5⟩
end
mutual
def Du.br{K:Fg}{H:Hp}:∀ {d:PD} {v:V},d.canLay0=true→Du H d v→Br K H d v
 |.none,_,_,h=>by rw[Du]at h;rw[Br];exact h
 |.bool _,_,_,h=>by rw[Du]at h;rw[Br];exact h
 |.int _,_,_,h=>by rw[Du]at h;rw[Br];exact h
 |.str _,_,_,h=>by rw[Du]at h;rw[Br];exact h
 |.tuple _,_,c,h=>by
  rw[Du]at h;rw[Br];obtain⟨a,xs,e1,h1,h2⟩:=h;exact⟨a,xs,e1,BF.of h1,AZ.br (by simp only[PyData.canLay0,Bool.and_eq_true]at c;first|exact c|exact c.2|exact c.1) h2⟩
 |.list _,_,c,h=>by
  rw[Du]at h;rw[Br];obtain⟨a,xs,e1,h1,h2⟩:=h;exact⟨a,xs,e1,A2.of h1,AZ.br (by simp only[PyData.canLay0,Bool.and_eq_true]at c;first|exact c|exact c.2|exact c.1) h2⟩
 |.dict _,_,c,h=>by simp[PyData.canLay0]at c
def AZ.br{K:Fg}{H:Hp}:∀ {ds:List PD} {xs:List V},PyData.canLayAll0 ds=true→AZ H ds xs→Dj K H ds xs
 |[],_,_,h=>by rw[AZ]at h;rw[Dj];exact h
 |_::_,_,c,h=>by
  rw[AZ]at h;rw[Dj];obtain⟨x,r,e1,h1,h2⟩:=h;simp only[PyData.canLayAll0,Bool.and_eq_true]at c;exact⟨x,r,e1,Du.br c.1 h1,AZ.br c.2 h2⟩
end
def AZ.nil{H:Hp}:AZ H [] []:=by rw[AZ]
def AZ.cons{H:Hp}{d:PD}{ds:List PD}{x:V}{xs:List V}(h:Du H d x)(k:AZ H ds xs):AZ H (d::ds) (x::xs):=by rw[AZ];exact⟨x,xs,rfl,h,k⟩
def AZ.un{H:Hp}{d:PD}{ds:List PD}{xs:List V}(h:AZ H (d::ds) xs):∃x r,xs=x::r∧Du H d x∧AZ H ds r:=by rw[AZ]at h;exact h
def AZ.nil_eq{H:Hp}{xs:List V}(h:AZ H [] xs):xs=[]:=by rw[AZ]at h;exact h
def AZ.len{H:Hp}:∀ {ds:List PD} {xs:List V},AZ H ds xs→xs.length=ds.length
 |[],_,h=>by rw[h.nil_eq];rfl
 |_::_,_,h=>by obtain⟨x,r,rfl,_,h2⟩:=h.un;simp[h2.len]
def AZ.get{H:Hp}:∀ {ds:List PD} {xs:List V} {i:Nat} {d:PD},AZ H ds xs→ds[i]? = some d→∃v,xs[i]? = some v∧Du H d v
 |[],_,i,_,_,e=>by simp at e
 |_::_,_,0,_,h,e=>by
  obtain⟨x,r,rfl,h1,_⟩:=h.un;simp at e;subst e;exact⟨x,rfl,h1⟩
 |_::_,_,i+1,_,h,e=>by
  obtain⟨x,r,rfl,_,h2⟩:=h.un;obtain⟨v,k1,k2⟩:=h2.get (i:=i) (by simpa using e);exact⟨v,by simpa using k1,k2⟩
def AZ.back{H:Hp}{ds:List PD}{xs:List V}{i:Nat}{v:V}(h:AZ H ds xs)(e:xs[i]? = some v):∃d,ds[i]? = some d∧Du H d v:=by
 have hl:=h.len;have hi:i<ds.length:=by rw[←hl];exact(aM.mp e).1
 have hd:ds[i]? = some ds[i]:=by simp[hi]
 obtain⟨w,k1,k2⟩:=h.get hd;rw[e]at k1;cases k1;exact⟨_,hd,k2⟩
def AZ.app{H:Hp}:∀ {ds es:List PD} {xs ys:List V},AZ H ds xs→AZ H es ys→AZ H (ds++es) (xs++ys)
 |[],_,_,_,h,k=>by rw[h.nil_eq];exact k
 |_::_,_,_,_,h,k=>by obtain⟨x,r,rfl,h1,h2⟩:=h.un;exact .cons h1 (h2.app k)
def AZ.take{H:Hp}:∀ {ds:List PD} {xs:List V} (i:Nat),AZ H ds xs→AZ H (ds.take i) (xs.take i)
 |_,_,0,_=>by rw[List.take_zero,List.take_zero];exact .nil
 |[],_,i+1,h=>by rw[h.nil_eq];exact .nil
 |_::_,_,i+1,h=>by obtain⟨x,r,rfl,h1,h2⟩:=h.un;exact .cons h1 (h2.take i)
def AZ.drop{H:Hp}:∀ {ds:List PD} {xs:List V} (i:Nat),AZ H ds xs→AZ H (ds.drop i) (xs.drop i)
 |_,_,0,h=>h
 |[],_,i+1,h=>by rw[h.nil_eq];exact .nil
 |_::_,_,i+1,h=>by obtain⟨x,r,rfl,h1,h2⟩:=h.un;exact h2.drop i
def AZ.rev{H:Hp}:∀ {ds:List PD} {xs:List V},AZ H ds xs→AZ H ds.reverse xs.reverse
 |[],_,h=>by rw[h.nil_eq];exact .nil
 |_::_,_,h=>by
  obtain⟨x,r,rfl,h1,h2⟩:=h.un;rw[List.reverse_cons,List.reverse_cons];exact h2.rev.app (.cons h1 .nil)
inductive Oc where
 |lst (xs:List PyData)|S7 (kvs:List (List Key×PyData))|OM (kvs:List (Option Tr×PyData))
inductive L where
 |no|d (x:PyData)|own (c:Oc)
abbrev Dv:=List L
def L1(G:Hp):List (List Key×PD)→List (List Key×V)→Prop
 |[],r=>r=[]
 |q::t,r=>∃v r',r=(q.1,v)::r'∧Du G q.2 v∧L1 G t r'
def L1.same{G G':Hp}(e:AI G G'):∀ {t:List (List Key×PD)} {r:List (List Key×V)},L1 G t r→L1 G' t r
 |[],r,h=>h
 |q::t,r,h=>by
  obtain⟨v,r',rfl,h1,h2⟩:=h;exact⟨v,r',rfl,h1.same e,L1.same e h2⟩
abbrev VE(kvs:List (Option Tr×PD)):List (PD×PD):=kvs.map fun q=>(Wv q.1,q.2)
abbrev Mv(kvs:List (Option Tr×PD)):PD:=.dict ((.bool true,.none)::VE kvs)
def FE(G:Hp)(a:AD):Oc→HO→Prop
 |.lst xs,o=>∃ys,o=.lst ys∧AZ G xs ys
 |.S7 kvs,o=>∃r,o=.dT r∧L1 G kvs r
 |.OM kvs,o=>∃r,o=dN a r∧(r.map (·.1)).Nodup∧Hv G (VE kvs) r
def FE.same{G G':Hp}{a:AD}{c:Oc}{o:HO}(h:FE G a c o)(e:AI G G'):FE G' a c o:=by
 cases c with
 |OM kvs=>obtain⟨r,h1,h2,h3⟩:=h;exact⟨r,h1,h2,Hv.same e h3⟩
 |lst xs=>obtain⟨ys,h1,h2⟩:=h;exact⟨ys,h1,h2.same e⟩
 |S7 kvs=>obtain⟨ys,h1,h2⟩:=h;exact⟨ys,h1,h2.same e⟩
def FE.NX{G:Hp}{a:AD}{c:Oc}{xs:List V}(h:FE G a c (.tup xs)):False:=by
 cases c with
 |OM kvs=>obtain⟨r,h1,h2,h3⟩:=h;unfold dN at h1;cases h1
 |lst xs=>obtain⟨ys,h1,h2⟩:=h;cases h1
 |S7 kvs=>obtain⟨ys,h1,h2⟩:=h;cases h1
def Nw(G0 H0 G:Hp):Prop:=∀a o,G a=some o→G0 a=some o∨H0 a=none∨∃xs,o=HO.tup xs
structure Rw(G0 H0 G H:Hp)(σ:St)(δ:Dv)(ts:List (PyData×V)):Prop where
 ext:AI G0 G
 new:Nw G0 H0 G
 ins:AI G H
 keep:AI H0 H
 len:σ.length=δ.length
 dat:∀(i:Nat) (x:PyData),δ[i]? = some (L.d x)→∃v,σ[i]? = some (some v)∧Du G x v
 own:∀(i:Nat) (xs:Oc),δ[i]? = some (L.own xs)→∃(a:Addr) (ys:HO),σ[i]? = some (some (V.ref a))∧G a=none∧H0 a=none∧H a=some ys∧FE G a xs ys
 apart:∀(i j:Nat) (xs ys:Oc),i≠j→δ[i]? = some (L.own xs)→δ[j]? = some (L.own ys)→σ[i]?≠σ[j]?
 BA:∀p∈ts,Du G p.1 p.2
def DE(X:Cx)(e:Expr)(f:Dv→Option PD):Prop:=∃t,PE X e t∧∀δ x,f δ=some x→∀G0 H0 G H σ ts (Q:VK),Rw G0 H0 G H σ δ ts→(∀v G' H',Rw G0 H0 G' H' σ δ ((x,v)::ts)→Q v H')→t σ H Q
def DA(X:Cx)(es:List Expr)(f:Dv→Option (List PD)):Prop:=∃t,PA X es t∧∀δ xs,f δ=some xs→∀G0 H0 G H σ ts (Q:List V→Hp→Prop),Rw G0 H0 G H σ δ ts→(∀vs G' H',Rw G0 H0 G' H' σ δ (xs.zip vs++ts)→vs.length=xs.length→Q vs H')→t σ H Q
def DT(X:Cx)(e:Expr)(f:Dv→Option Bool):Prop:=∃t,PT X e t∧∀δ b,f δ=some b→∀G0 H0 G H σ ts (Q:Bool→Hp→Prop),Rw G0 H0 G H σ δ ts→(∀G' H',Rw G0 H0 G' H' σ δ ts→Q b H')→t σ H Q
section
variable{G0 H0 G H:Hp}{σ:St}{δ:Dv}{ts:List (PD×V)}
def Rw.drop{p:PD×V}(r:Rw G0 H0 G H σ δ (p::ts)):Rw G0 H0 G H σ δ ts:={r with BA:=fun q hq=>r.BA q (.tail _ hq)}
def Rw.less{us:List (PD×V)}(r:Rw G0 H0 G H σ δ ts)(h:∀p∈us,p∈ts):Rw G0 H0 G H σ δ us:={r with BA:=fun q hq=>r.BA q (h q hq)}
def Rw.put{x:PD}{v:V}(r:Rw G0 H0 G H σ δ ts)(h:Du G x v):Rw G0 H0 G H σ δ ((x,v)::ts):={r with BA:=fun q hq=>by rcases aN.mp hq with rfl|hq;exact h;exact r.BA q hq}
def Rw.newObj{p:AD}{o:HO}(r:Rw G0 H0 G H σ δ ts)(hp:H p=none):Rw G0 H0 (upd G p o) (upd H p o) σ δ ts:=by
 have hG:G p=none:=by
  cases q:G p with
  |none=>rfl
  |some u=>rw[r.ins _ _ q]at hp;cases hp
 have h0:H0 p=none:=by
  cases q:H0 p with
  |none=>rfl
  |some u=>rw[r.keep _ _ q]at hp;cases hp
 have e:AI G (upd G p o):=BQ hG o;refine⟨r.ext.trans e,fun a u h=>?_,fun a u h=>?_,r.keep.trans (BQ hp o),r.len,fun i x h=>?_,fun i xs h=>?_,r.apart,fun q hq=>(r.BA q hq).same e⟩
 ·by_cases ha:a=p
  ·subst ha;exact .inr (.inl h0)
  ·rw[AH ha]at h;exact r.new _ _ h
 ·by_cases ha:a=p
  ·subst ha;rw[AX]at h ⊢;exact h
  ·rw[AH ha]at h ⊢;exact r.ins _ _ h
 ·obtain⟨v,k1,k2⟩:=r.dat i x h;exact⟨v,k1,k2.same e⟩
 ·obtain⟨a,ys,k1,k2,k3,k4,k5⟩:=r.own i xs h;have ha:a≠p:=fun z=>by subst z;rw[k4]at hp;cases hp
  exact⟨a,ys,k1,by rw[AH ha];exact k2,k3,by rw[AH ha];exact k4,k5.same e⟩
def Rw.Xm{p:AD}{xs:List V}{H':Hp}(r:Rw G0 H0 G H σ δ ts)(e:AI H H')(hp:H' p=some (.tup xs)):Rw G0 H0 (upd G p (.tup xs)) H' σ δ ts:=by
 have e1:AI G (upd G p (.tup xs)):=fun a o h=>by
  by_cases ha:a=p
  ·subst ha;have:=e _ _ (r.ins _ _ h);rw[hp]at this;rw[AX];exact this
  ·rw[AH ha];exact h
 refine⟨r.ext.trans e1,fun a u h=>?_,fun a u h=>?_,r.keep.trans e,r.len,fun i x h=>?_,fun i xs h=>?_,r.apart,fun q hq=>(r.BA q hq).same e1⟩
 ·by_cases ha:a=p
  ·subst ha;rw[AX]at h;cases h;exact .inr (.inr ⟨_,rfl⟩)
  ·rw[AH ha]at h;exact r.new _ _ h
 ·by_cases ha:a=p
  ·subst ha;rw[AX]at h;rw[hp];exact h
  ·rw[AH ha]at h;exact e _ _ (r.ins _ _ h)
 ·obtain⟨v,k1,k2⟩:=r.dat i x h;exact⟨v,k1,k2.same e1⟩
 ·obtain⟨a,ys,k1,k2,k3,k4,k5⟩:=r.own i xs h;have ha:a≠p:=fun z=>by subst z;rw[e _ _ k4]at hp;cases hp;exact k5.NX
  exact⟨a,ys,k1,by rw[AH ha];exact k2,k3,e _ _ k4,k5.same e1⟩
def Rw.lift{G' H':Hp}(r:Rw G0 H0 G H σ δ ts)(h1:AI G G')(h2:Nw G H G')(h3:AI G' H')(h4:AI H H'):Rw G0 H0 G' H' σ δ ts:=by
 refine⟨r.ext.trans h1,fun a o h=>?_,h3,r.keep.trans h4,r.len,fun i x h=>?_,fun i xs h=>?_,r.apart,fun q hq=>(r.BA q hq).same h1⟩
 ·rcases h2 a o h with k|k|k
  ·exact r.new a o k
  ·right;left
   cases q:H0 a with
   |none=>rfl
   |some u=>rw[r.keep _ _ q]at k;cases k
  ·exact .inr (.inr k)
 ·obtain⟨v,k1,k2⟩:=r.dat i x h;exact⟨v,k1,k2.same h1⟩
 ·obtain⟨a,ys,k1,k2,k3,k4,k5⟩:=r.own i xs h;refine⟨a,ys,k1,?_,k3,h4 _ _ k4,k5.same h1⟩;cases q:G' a with
  |none=>rfl
  |some u =>
   rcases h2 a u q with z|z|⟨xs',z⟩
   ·rw[k2]at z;cases z
   ·rw[k4]at z;cases z
   ·have:=h3 _ _ q;rw[h4 _ _ k4,z]at this;cases this;exact k5.NX.elim
end
section
variable{X:Cx}{a b c e:Expr}{es:List Expr}{f g h:Dv→Option PD}{pos:Pos}
def AV{i j pos}:DE X (.Constant (.int i) j pos) (fun _=>some (.int i)):=⟨_,Cr,fun δ x h G0 H0 G H σ ts Q r k=>by cases h;exact k _ _ _ (r.put (by rw[Du]))⟩
def Zw{i j pos}:DE X (.Constant (.bool i) j pos) (fun _=>some (.bool i)):=⟨_,Jv,fun δ x h G0 H0 G H σ ts Q r k=>by cases h;exact k _ _ _ (r.put (by rw[Du]))⟩
def JR{j pos}:DE X (.Constant .none j pos) (fun _=>some .none):=⟨_,Yx,fun δ x h G0 H0 G H σ ts Q r k=>by cases h;exact k _ _ _ (r.put (by rw[Du]))⟩
def Nx{i j pos}:DE X (.Constant (.str i) j pos) (fun _=>some (.str i)):=⟨_,Xc,fun δ x h G0 H0 G H σ ts Q r k=>by cases h;exact k _ _ _ (r.put (by rw[Du]))⟩
def nm(i:Nat)(δ:Dv):Option PD:=match δ[i]? with|some (.d x)=>some x|_=>none
def Zn{i:Nat}{δ:Dv}{x:PD}(h:nm i δ=some x):δ[i]? = some (.d x):=by
 unfold nm at h;split at h
 ·rename_i y e;cases h;exact e
 ·cases h
def AA{i:Nat}{x:Str}(h:PE X (.Name x pos) (JY i)):DE X (.Name x pos) (nm i):=⟨_,h,fun δ y hy G0 H0 G H σ ts Q r k=>by
 obtain⟨v,h1,h2⟩:=r.dat _ _ (Zn hy);exact⟨v,h1,k _ _ _ (r.put h2)⟩⟩
def AQ(o:PD→PD→Option PD)(f g:Dv→Option PD)(δ:Dv):Option PD:=(f δ).bind fun x=>(g δ).bind fun y=>o x y
def Cf(X:Cx)(m:VL→VL→Sem VL)(o:PD→PD→Option PD):Prop:=∃r:R2,Bz X m r∧∀x y z,o x y=some z→∀G0 H0 G H σ δ ts u v (Q:VK),Rw G0 H0 G H σ δ ts→Du G x u→Du G y v→(∀w G' H',Rw G0 H0 G' H' σ δ ((z,w)::ts)→Q w H')→r u v H Q
def two{x y:PD}{f g:Dv→Option PD}{δ:Dv}{o:PD→PD→Option PD}{z:PD}(h:AQ o f g δ=some z):∃x y,f δ=some x∧g δ=some y∧o x y=some z:=by
 unfold AQ at h;obtain⟨x,h1,h2⟩:=aA.mp h;obtain⟨y,h3,h4⟩:=aA.mp h2;exact⟨x,y,h1,h3,h4⟩
def Ac{op:Operator}{o:PD→PD→Option PD}(ho:Cf X (binaryOp op) o)(ha:DE X a f)(hb:DE X b g):DE X (.BinOp a op b pos) (AQ o f g):=by
 obtain⟨r,hr,kr⟩:=ho;obtain⟨ta,pa,ka⟩:=ha;obtain⟨tb,pb,kb⟩:=hb;refine⟨_,KA hr pa pb,fun δ z hz G0 H0 G H σ ts Q R0 k=>?_⟩;obtain⟨x,y,h1,h2,h3⟩:=two (x:=.none) (y:=.none) hz;refine ka δ x h1 G0 H0 G H σ ts _ R0 fun u G1 H1 R1=>?_;refine kb δ y h2 G0 H0 G1 H1 σ _ _ R1 fun v G2 H2 R2=>?_;exact kr x y z h3 G0 H0 G2 H2 σ δ ts u v Q (R2.drop.drop) (R2.BA (x,u) (.tail _ (.head _))) (R2.BA (y,v) (.head _)) k
def Sk{op:CmpOp}{o:PD→PD→Option PD}(ho:Cf X (compareOp op) o)(ha:DE X a f)(hb:DE X b g)(hm:behindInMarks op b=false):DE X (.Compare a [op] [b] pos) (AQ o f g):=by
 obtain⟨r,hr,kr⟩:=ho;obtain⟨ta,pa,ka⟩:=ha;obtain⟨tb,pb,kb⟩:=hb;refine⟨_,Le hr pa pb hm,fun δ z hz G0 H0 G H σ ts Q R0 k=>?_⟩;obtain⟨x,y,h1,h2,h3⟩:=two (x:=.none) (y:=.none) hz;refine ka δ x h1 G0 H0 G H σ ts _ R0 fun u G1 H1 R1=>?_;refine kb δ y h2 G0 H0 G1 H1 σ _ _ R1 fun v G2 H2 R2=>?_;exact kr x y z h3 G0 H0 G2 H2 σ δ ts u v Q (R2.drop.drop) (R2.BA (x,u) (.tail _ (.head _))) (R2.BA (y,v) (.head _)) k
end
section
variable{X:Cx}
def Mc(o o':PD→PD→Option PD)(x y:PD):Option PD:=match o x y with|some z=>some z|none=>o' x y
def Cf.or{m:VL→VL→Sem VL}{o o':PD→PD→Option PD}(h:Cf X m o)(h':Cf X m o'):Cf X m (Mc o o'):=by
 obtain⟨r,hr,kr⟩:=h;obtain⟨r',hr',kr'⟩:=h';refine⟨_,Bz.or hr hr',fun x y z hz G0 H0 G H σ δ ts u v Q R0 du dv k=>?_⟩;unfold Mc at hz;split at hz
 ·rename_i z' e;cases hz;exact .inl (kr x y z e G0 H0 G H σ δ ts u v Q R0 du dv k)
 ·exact .inr (kr' x y z hz G0 H0 G H σ δ ts u v Q R0 du dv k)
def Jw{m:VL→VL→Sem VL}{C:Int→Int→Prop}{gv:Int→Int→V}{o:Int→Int→Option PD}(ho:Bz X m (rI C gv))(hC:∀i j z,o i j=some z→C i j∧∀H,Du H z (gv i j)) :
  Cf X m (fun x y=>match x,y with|.int i,.int j=>o i j|_,_=>none):=by
 refine⟨_,ho,fun x y z hz G0 H0 G H σ δ ts u v Q R0 du dv k=>?_⟩;dsimp only at hz;split at hz
 ·rename_i i j;rw[Du]at du dv;obtain⟨h1,h2⟩:=hC i j z hz;exact⟨i,j,du,dv,h1,k _ _ _ (R0.put (h2 _))⟩
 ·cases hz
def GF{m:VL→VL→Sem VL}{gv:Int→Int→V}{o:Int→Int→PD}(ho:Bz X m (MX gv))(hC:∀i j H,Du H (o i j) (gv i j)) :
  Cf X m (fun x y=>match x,y with|.int i,.int j=>some (o i j)|_,_=>none):=by
 refine⟨_,ho,fun x y z hz G0 H0 G H σ δ ts u v Q R0 du dv k=>?_⟩;dsimp only at hz;split at hz
 ·rename_i i j;cases hz;rw[Du]at du dv;exact⟨i,j,du,dv,k _ _ _ (R0.put (hC _ _ _))⟩
 ·cases hz
def Cj:Nat:=1000
def Ph{n:Nat}(h:n≤Cj):n<sizeLine:=MI h
def Dr{n:Nat}(h:n≤Cj):n≤sizeLine:=bF (MI h)
def Wh:PD→PD→Option PD:=fun x y=>match x,y with|.int i,.int j=>some (.int (i+j))|_,_=>none
def FY:PD→PD→Option PD:=fun x y=>match x,y with|.int i,.int j=>some (.int (i-j))|_,_=>none
def Fj(n:Nat)(i:Int):Bool:=decide (i.natAbs<2^n)
def J5(i j:Int):Bool:=Fj 64 i||Fj 64 j||(Fj 9000 i&&Fj 9000 j)
def P9:PD→PD→Option PD:=fun x y=>match x,y with|.int i,.int j=>(if J5 i j=true then some (.int (i*j)) else none)|_,_=>none
def Fm:PD→PD→Option PD:=fun x y=>match x,y with|.int i,.int j=>(if j≠0∧Fj 9000 j=true then some (.int (i.fdiv j)) else none)|_,_=>none
def Cu:PD→PD→Option PD:=fun x y=>match x,y with|.int i,.int j=>(if j≠0 then some (.int (i.fmod j)) else none)|_,_=>none
def JX:PD→PD→Option PD:=fun x y=>match x,y with|.int i,.int j=>(if 0≤j∧j≤1000∧Fj 64 i=true then some (.int (i^j.toNat)) else none)|_,_=>none
def VR:Cf X (binaryOp .Add) Wh:=GF W4 fun _ _ _=>by rw[Du]
def F6:Cf X (binaryOp .Sub) FY:=GF Sh fun _ _ _=>by rw[Du]
def Us{i:Int}(h:Fj 64 i=true):-(2^64)<i∧i<2^64:=by
 have:=aq h;omega
def Vr:Cf X (binaryOp .Mult) P9:=Jw (o:=fun i j=>if J5 i j=true then some (.int (i*j)) else none) Vm fun i j z h=>by
 split at h
 ·rename_i q;cases h;refine⟨?_,fun _=>by rw[Du]⟩;unfold J5 at q;rw[Bool.or_eq_true,Bool.or_eq_true,Bool.and_eq_true]at q;rcases q with (q|q)|q
  ·exact .inl (.inl (Us q))
  ·exact .inl (.inr (Us q))
  ·exact .inr ⟨9000,by decide,of_decide_eq_true q.1,of_decide_eq_true q.2⟩
 ·cases h
def Lg:Cf X (binaryOp .FloorDiv) Fm:=Jw (o:=fun i j=>if j≠0∧Fj 9000 j=true then some (.int (i.fdiv j)) else none) Kt fun i j z h=>by
 split at h
 ·rename_i q;cases h;exact⟨⟨q.1,9000,Nat.le_refl _,of_decide_eq_true q.2⟩,fun _=>by rw[Du]⟩
 ·cases h
def Dl:Cf X (binaryOp .Mod) Cu:=Jw (o:=fun i j=>if j≠0 then some (.int (i.fmod j)) else none) MB fun i j z h=>by
 split at h
 ·rename_i q;cases h;exact⟨q,fun _=>by rw[Du]⟩
 ·cases h
def Lc:Cf X (binaryOp .Pow) JX:=Jw (o:=fun i j=>if 0≤j∧j≤1000∧Fj 64 i=true then some (.int (i^j.toNat)) else none) Yu fun i j z h=>by
 split at h
 ·rename_i q;cases h;exact⟨⟨q.1,by omega,of_decide_eq_true q.2.2⟩,fun _=>by rw[Du]⟩
 ·cases h
def EC(p:Int→Int→Bool):PD→PD→Option PD:=fun x y=>match x,y with|.int i,.int j=>some (.bool (p i j))|_,_=>none
def QV:Cf X (compareOp .Lt) (EC fun i j=>decide (i<j)):=GF (o:=fun i j=>.bool (decide (i<j))) Uy fun _ _ _=>by rw[Du]
def QG:Cf X (compareOp .Gt) (EC fun i j=>decide (j<i)):=GF (o:=fun i j=>.bool (decide (j<i))) Uz fun _ _ _=>by rw[Du]
def Za:Cf X (compareOp .GtE) (EC fun i j=>decide (j≤i)):=GF (o:=fun i j=>.bool (decide (j≤i))) VI fun _ _ _=>by rw[Du]
def TM:PD→PD→Option PD:=fun x y=>match x,y with|.list a,.list b=>(if a.length+b.length≤Cj then some (.list (a++b)) else none)|_,_=>none
def Wc:Cf X (binaryOp .Add) TM:=by
 refine⟨_,Wl,fun x y z hz G0 H0 G H σ δ ts u v Q R0 du dv k=>?_⟩;unfold TM at hz;split at hz
 ·rename_i a b;split at hz
  ·rename_i hl;cases hz;rw[Du]at du dv;obtain⟨p,xs,rfl,h1,h2⟩:=du;obtain⟨q,ys,rfl,h3,h4⟩:=dv;refine⟨p,q,xs,ys,rfl,rfl,R0.ins _ _ h1,R0.ins _ _ h3,Dr (by rw[h2.len,h4.len];exact hl),fun l hl'=>?_⟩;have R1:=R0.newObj (o:=.lst (xs++ys)) hl';refine k _ _ _ (R1.put ?_);rw[Du];have e:AI G (upd G l (.lst (xs++ys))):=fun a o h=>by
    have:=R0.ins _ _ h;rw[AH (Ad this hl')];exact h
   exact⟨l,xs++ys,rfl,AX,(h2.same e).app (h4.same e)⟩
  ·cases hz
 ·cases hz
def QJ:PD→PD→Option PD:=fun x y=>match x,y with|.tuple a,.tuple b=>(if a.length+b.length≤Cj then some (.tuple (a++b)) else none)|_,_=>none
def VP:Cf X (binaryOp .Add) QJ:=by
 refine⟨_,Vh,fun x y z hz G0 H0 G H σ δ ts u v Q R0 du dv k=>?_⟩;unfold QJ at hz;split at hz
 ·rename_i a b;split at hz
  ·rename_i hl;cases hz;rw[Du]at du dv;obtain⟨p,xs,rfl,h1,h2⟩:=du;obtain⟨q,ys,rfl,h3,h4⟩:=dv;refine⟨p,q,xs,ys,rfl,rfl,R0.ins _ _ h1,R0.ins _ _ h3,Dr (by rw[h2.len,h4.len];exact hl),fun l H' e hp=>?_⟩;have R1:=R0.Xm e hp;refine k _ _ _ (R1.put ?_);rw[Du];have e1:AI G (upd G l (.tup (xs++ys))):=fun a o h=>by
    by_cases ha:a=l
    ·subst ha;have:=e _ _ (R0.ins _ _ h);rw[hp]at this;rw[AX];exact this
    ·rw[AH ha];exact h
   exact⟨l,xs++ys,rfl,AX,(h2.same e1).app (h4.same e1)⟩
  ·cases hz
 ·cases hz
def UP:PD→PD→Option PD:=fun x y=>match x,y with|.str a,.str b=>(if a.length+b.length≤Cj then some (.str (a++b)) else none)|_,_=>none
def Vx:Cf X (binaryOp .Add) UP:=by
 refine⟨_,QK,fun x y z hz G0 H0 G H σ δ ts u v Q R0 du dv k=>?_⟩;unfold UP at hz;split at hz
 ·rename_i a b;split at hz
  ·rename_i hl;cases hz;rw[Du]at du dv;exact⟨a,b,du,dv,Dr hl,k _ _ _ (R0.put (by rw[Du]))⟩
  ·cases hz
 ·cases hz
def B6:PD→PD→Option PD:=Mc Wh (Mc TM (Mc QJ UP))
def Bc:Cf X (binaryOp .Add) B6:=VR.or (Wc.or (VP.or Vx))
def Qb:PD→PD→Option PD:=fun x y=>match x,y with|.list a,.int k=>(if a.length*k.toNat≤Cj∧-1000000≤k∧k≤1000000 then some (.list (List.replicate k.toNat a).flatten) else none)|_,_=>none
def AZ.rep{H:Hp}{ds:List PD}{xs:List V}(h:AZ H ds xs):∀n,AZ H (List.replicate n ds).flatten (List.replicate n xs).flatten
 |0=>.nil
 |n+1=>by rw[List.replicate_succ,List.replicate_succ,List.flatten_cons,List.flatten_cons];exact h.app (h.rep n)
def V8:Cf X (binaryOp .Mult) Qb:=by
 refine⟨_,Ym,fun x y z hz G0 H0 G H σ δ ts u v Q R0 du dv k=>?_⟩;unfold Qb at hz;split at hz
 ·rename_i a n;split at hz
  ·rename_i hl;cases hz;rw[Du]at du;rw[Du]at dv;obtain⟨p,xs,rfl,h1,h2⟩:=du;subst dv;refine⟨p,n,xs,rfl,rfl,R0.ins _ _ h1,by omega,by omega,Dr (by rw[h2.len];exact hl.1),fun l hl'=>?_⟩;have R1:=R0.newObj (o:=.lst (List.replicate n.toNat xs).flatten) hl';refine k _ _ _ (R1.put ?_);rw[Du];have e:AI G (upd G l (.lst (List.replicate n.toNat xs).flatten)):=fun a o h=>by
    have:=R0.ins _ _ h;rw[AH (Ad this hl')];exact h
   exact⟨l,_,rfl,AX,(h2.same e).rep _⟩
  ·cases hz
 ·cases hz
def Eh:PD→PD→Option PD:=Mc P9 Qb
def D5:Cf X (binaryOp .Mult) Eh:=Vr.or V8
def Mj{d:PD}(h:SeqAt.shaped d=true):d.canLay0=true:=by unfold SeqAt.shaped at h;rw[Bool.and_eq_true]at h;exact h.1
def D4(neg:Bool):PD→PD→Option PD:=fun x y=>if SeqAt.shaped x=true∧SeqAt.shaped y=true then some (.bool (if neg then !PyData.eqv x y else PyData.eqv x y)) else none
def RY{m:VL→VL→Sem VL}{neg:Bool}(ho:Bz X m (UJ X.K neg)):Cf X m (D4 neg):=by
 refine⟨_,ho,fun x y z hz G0 H0 G H σ δ ts u v Q R0 du dv k=>?_⟩;unfold D4 at hz;split at hz
 ·rename_i hs;cases hz;exact⟨x,y,(du.same R0.ins).br (Mj hs.1),(dv.same R0.ins).br (Mj hs.2),hs.1,hs.2,k _ _ _ (R0.put (by rw[Du]))⟩
 ·cases hz
def U8(hu:X.A.units+64<cLine):Cf X (compareOp .Eq) (D4 false):=RY (Yq hu)
def Qy(hu:X.A.units+64<cLine):Cf X (compareOp .NotEq) (D4 true):=RY (XE hu)
def PyData.TQ:PD→Bool
 |.none=>true
 |_=>false
def ZC{H:Hp}:∀ {x:PD} {u:V},Du H x u→decide (u=.Ao)=PyData.TQ x
 |.none,u,h=>by rw[Du]at h;subst h;rfl
 |.bool _,u,h=>by rw[Du]at h;subst h;rfl
 |.int _,u,h=>by rw[Du]at h;subst h;rfl
 |.str _,u,h=>by rw[Du]at h;subst h;rfl
 |.tuple _,u,h=>by rw[Du]at h;obtain⟨a,xs,rfl,_⟩:=h;rfl
 |.list _,u,h=>by rw[Du]at h;obtain⟨a,xs,rfl,_⟩:=h;rfl
 |.dict [],u,h=>by rw[Du,HX]at h;rcases h with ⟨ea,C,_,rfl,_⟩|⟨a,ns,_,rfl,_⟩|h;rfl;rfl;exact h.elim
 |.dict ((_,_)::_),u,h=>by rw[Du,HX]at h;rcases h with ⟨ea,C,_,rfl,_⟩|⟨a,ns,_,rfl,_⟩|⟨_,_,a,r,rfl,_⟩<;>rfl
def O6(neg:Bool):PD→PD→Option PD:=fun x y=>match y with
 |.none=>some (.bool (if neg then !PyData.TQ x else PyData.TQ x))
 |_=>none
def Uw:Cf X (compareOp .Is) (O6 false):=by
 refine⟨_,Xd,fun x y z hz G0 H0 G H σ δ ts u v Q R0 du dv k=>?_⟩;unfold O6 at hz;split at hz
 ·cases hz;rw[Du]at dv;refine⟨dv,?_⟩;rw[ZC du];exact k _ _ _ (R0.put (by rw[Du];rfl))
 ·cases hz
end
section
variable{X:Cx}{a b c e:Expr}{es:List Expr}{f g h:Dv→Option PD}{pos p:Pos}
def Jb:PD→Option Bool
 |.bool b=>some b
 |_=>none
def LU:PD→Option Int
 |.int b=>some b
 |_=>none
def K7{x:PD}{b:Bool}(h:Jb x=some b):x=.bool b:=by
 unfold Jb at h;split at h
 ·cases h;rfl
 ·cases h
def LQ{x:PD}{b:Int}(h:LU x=some b):x=.int b:=by
 unfold LU at h;split at h
 ·cases h;rfl
 ·cases h
def Wi(ha:DE X a f):DE X (.UnaryOp .USub a pos) (fun δ=>(f δ).bind fun x=>(LU x).map fun i=>.int (-i)):=by
 obtain⟨ta,pa,ka⟩:=ha;refine⟨_,Zm YE pa,fun δ z hz G0 H0 G H σ ts Q R0 k=>?_⟩;obtain⟨x,h1,h2⟩:=aA.mp hz;obtain⟨i,h3,rfl⟩:=aE.mp h2;have:=LQ h3;subst this;refine ka δ _ h1 G0 H0 G H σ ts _ R0 fun u G1 H1 R1=>?_;have:=R1.BA _ (.head _);rw[Du]at this;exact⟨i,this,k _ _ _ (R1.drop.put (by rw[Du]))⟩
def YB{op}(ha:DE X a f):DE X (.BoolOp op [a] pos) f:=by
 obtain⟨ta,pa,ka⟩:=ha;exact⟨_,Nf pa,ka⟩
def Yw{rest:List Expr}(ha:DE X a f)(hb:DE X (.BoolOp .And (b::rest) pos) g):DE X (.BoolOp .And (a::b::rest) pos) (fun δ=>(f δ).bind fun x=>(Jb x).bind fun c=>if c=true then g δ else some (.bool false)):=by
 obtain⟨ta,pa,ka⟩:=ha;obtain⟨tb,pb,kb⟩:=hb;refine⟨_,N3 pa pb,fun δ z hz G0 H0 G H σ ts Q R0 k=>?_⟩;obtain⟨x,h1,h2⟩:=aA.mp hz;obtain⟨i,h3,h4⟩:=aA.mp h2;have:=K7 h3;subst this;refine ka δ _ h1 G0 H0 G H σ ts _ R0 fun u G1 H1 R1=>?_;have hu:=R1.BA _ (.head _);rw[Du]at hu;refine⟨i,hu,?_⟩;split
 ·rename_i hc;rw[if_pos hc]at h4;exact kb δ z h4 G0 H0 G1 H1 σ ts Q R1.drop k
 ·rename_i hc;rw[if_neg hc]at h4;cases h4;exact k _ _ _ (R1.drop.put (by rw[Du]))
variable{fa fb:Dv→Option Bool}
def DW(X:Cx)(e:Expr)(f:Dv→Option Bool):Prop:=∃t,PW X e t∧∀δ b,f δ=some b→∀G0 H0 G H σ ts (Q:Bool→Hp→Prop),Rw G0 H0 G H σ δ ts→(∀G' H',Rw G0 H0 G' H' σ δ ts→Q b H')→t σ H Q
def DW.dt(h:DW X e fa):DT X e fa:=let⟨t,p,k⟩:=h;⟨t,p.pt,k⟩
def C8{op:CmpOp}{o:PD→PD→Option PD}(ho:Cf X (compareOp op) o)(ha:DE X a f)(hb:DE X b g)(hm:behindInMarks op b=false):DT X (.Compare a [op] [b] pos) (fun δ=>(AQ o f g δ).bind Jb):=by
 obtain⟨r,hr,kr⟩:=ho;obtain⟨ta,pa,ka⟩:=ha;obtain⟨tb,pb,kb⟩:=hb;refine⟨_,F5 hr pa pb hm,fun δ z hz G0 H0 G H σ ts Q R0 k=>?_⟩;obtain⟨q,h0,h4⟩:=aA.mp hz;have:=K7 h4;subst this;obtain⟨x,y,h1,h2,h3⟩:=two (x:=.none) (y:=.none) h0;refine ka δ x h1 G0 H0 G H σ ts _ R0 fun u G1 H1 R1=>?_;refine kb δ y h2 G0 H0 G1 H1 σ _ _ R1 fun v G2 H2 R2=>?_;refine kr x y _ h3 G0 H0 G2 H2 σ δ ts u v _ (R2.drop.drop) (R2.BA (x,u) (.tail _ (.head _))) (R2.BA (y,v) (.head _)) fun w G3 H3 R3=>?_;have hu:=R3.BA _ (.head _);rw[Du]at hu;exact⟨z,hu,k _ _ R3.drop⟩
def OA(ha : DE X e f)(he : ∀ whole,isTrue e X.env whole = (do let v ← whole; standAt e.pos; holding [v] (truthy v)) := by intro _; rfl) : DT X e (fun δ => (f δ).bind Jb) := by
  obtain ⟨ta,pa,ka⟩:=ha
  refine ⟨_,HW pa he,fun δ z hz G0 H0 G H σ ts Q R0 k => ?_⟩
  obtain ⟨q,h0,h4⟩:=aA.mp hz
  have:=K7 h4; subst this
  refine ka δ _ h0 G0 H0 G H σ ts _ R0 fun u G1 H1 R1 => ?_
  have hu:=R1.BA _ (.head _)
  rw [Du] at hu
  exact ⟨z,hu,k _ _ R1.drop⟩
def RL(ha:DT X a fa):DT X (.UnaryOp .Not a pos) (fun δ=>(fa δ).map fun c=>!c):=by
 obtain⟨ta,pa,ka⟩:=ha;refine⟨_,IA pa,fun δ z hz G0 H0 G H σ ts Q R0 k=>?_⟩;obtain⟨i,h3,rfl⟩:=aE.mp hz;exact ka δ _ h3 G0 H0 G H σ ts _ R0 fun G1 H1 R1=>k _ _ R1
def Jh{op:BoolOp}(ha:DT X a fa):DW X (.BoolOp op [a] pos) fa:=by
 obtain⟨ta,pa,ka⟩:=ha;cases op
 ·exact⟨_,V5 pa,ka⟩
 ·exact⟨_,NJ pa,ka⟩
def Xk{rest:List Expr}(ha:DT X a fa)(hb:DW X (.BoolOp .And (b::rest) pos) fb):DW X (.BoolOp .And (a::b::rest) pos) (fun δ=>(fa δ).bind fun c=>if c=true then fb δ else some false):=by
 obtain⟨ta,pa,ka⟩:=ha;obtain⟨tb,pb,kb⟩:=hb;refine⟨_,Yh pa pb,fun δ z hz G0 H0 G H σ ts Q R0 k=>?_⟩;obtain⟨i,h3,h4⟩:=aA.mp hz;refine ka δ _ h3 G0 H0 G H σ ts _ R0 fun G1 H1 R1=>?_;split
 ·rename_i hc;rw[if_pos hc]at h4;exact kb δ z h4 G0 H0 G1 H1 σ ts Q R1 k
 ·rename_i hc;rw[if_neg hc]at h4;cases h4;exact k _ _ R1
def LC{rest:List Expr}(ha:DT X a fa)(hb:DW X (.BoolOp .Or (b::rest) pos) fb):DW X (.BoolOp .Or (a::b::rest) pos) (fun δ=>(fa δ).bind fun c=>if c=true then some true else fb δ):=by
 obtain⟨ta,pa,ka⟩:=ha;obtain⟨tb,pb,kb⟩:=hb;refine⟨_,Qh pa pb,fun δ z hz G0 H0 G H σ ts Q R0 k=>?_⟩;obtain⟨i,h3,h4⟩:=aA.mp hz;refine ka δ _ h3 G0 H0 G H σ ts _ R0 fun G1 H1 R1=>?_;split
 ·rename_i hc;rw[if_pos hc]at h4;cases h4;exact k _ _ R1
 ·rename_i hc;rw[if_neg hc]at h4;exact kb δ z h4 G0 H0 G1 H1 σ ts Q R1 k
variable{fs:Dv→Option (List PD)}
def AG:DA X [] (fun _=>some []):=⟨_,BJ,fun δ xs h G0 H0 G H σ ts Q R0 k=>by cases h;exact k [] G H (by simpa using R0) rfl⟩
def AE(ha:DE X e f)(hr:DA X es fs)(hs:starEach (e::es) X.env=(false,eval e X.env)::starEach es X.env:=by rfl):DA X (e::es) (fun δ=>(f δ).bind fun x=>(fs δ).map fun xs=>x::xs):=by
 obtain⟨ta,pa,ka⟩:=ha;obtain⟨tr,pr,kr⟩:=hr;refine⟨_,Ai pa pr hs,fun δ z hz G0 H0 G H σ ts Q R0 k=>?_⟩;obtain⟨x,h1,h2⟩:=aA.mp hz;obtain⟨xs,h3,rfl⟩:=aE.mp h2;refine ka δ x h1 G0 H0 G H σ ts _ R0 fun u G1 H1 R1=>?_;refine kr δ xs h3 G0 H0 G1 H1 σ _ _ R1 fun vs G2 H2 R2 hl=>?_;refine k (u::vs) G2 H2 (R2.less fun q hq=>?_) (by simp[hl]);simp only[List.zip_cons_cons,List.cons_append,List.mem_cons,List.mem_append]at hq ⊢;rcases hq with h|h|h
 ·exact .inr (.inl h)
 ·exact .inl h
 ·exact .inr (.inr h)
def R8{G:Hp}:∀ {xs:List PD} {vs:List V},vs.length=xs.length→(∀q∈xs.zip vs,Du G q.1 q.2)→AZ G xs vs
 |[],vs,hl,_=>by rw[List.eq_nil_of_length_eq_zero hl];exact .nil
 |x::xs,[],hl,_=>by simp at hl
 |x::xs,v::vs,hl,h=>.cons (h (x,v) (by simp)) (R8 (by simpa using hl) fun q hq=>h q (by simp[hq]))
def Rw.args{G0 H0 G H:Hp}{σ:St}{δ:Dv}{ts:List (PD×V)}{xs:List PD}{vs:List V}(r:Rw G0 H0 G H σ δ (xs.zip vs++ts))(hl:vs.length=xs.length):AZ G xs vs∧Rw G0 H0 G H σ δ ts :=
 ⟨R8 hl fun q hq=>r.BA q (List.mem_append_left _ hq),r.less fun q hq=>aS _ hq⟩
def Rw.Ji{G0 H0 G H:Hp}{σ:St}{δ:Dv}{ts:List (PD×V)}{xs:List PD}{vs:List V}{p:AD}(r:Rw G0 H0 G H σ δ ts)(d:AZ G xs vs)(hp:H p=none):Rw G0 H0 (upd G p (.lst vs)) (upd H p (.lst vs)) σ δ ((.list xs,.ref p)::ts):=by
 refine(r.newObj hp).put ?_;have e:AI G (upd G p (.lst vs)):=fun a o h=>by rw[AH (Ad (r.ins _ _ h) hp)];exact h
 rw[Du];exact⟨p,vs,rfl,AX,d.same e⟩
def Rw.TY{G0 H0 G H:Hp}{σ:St}{δ:Dv}{ts:List (PD×V)}{xs:List PD}{vs:List V}{p:AD}(r:Rw G0 H0 G H σ δ ts)(d:AZ G xs vs)(hp:H p=none):Rw G0 H0 (upd G p (.tup vs)) (upd H p (.tup vs)) σ δ ((.tuple xs,.ref p)::ts):=by
 refine(r.newObj hp).put ?_;have e:AI G (upd G p (.tup vs)):=fun a o h=>by rw[AH (Ad (r.ins _ _ h) hp)];exact h
 rw[Du];exact⟨p,vs,rfl,AX,d.same e⟩
def He(xs:List PD):Option (List PD):=if xs.length≤Cj then some xs else none
def LF{xs ys:List PD}(h:He xs=some ys):xs=ys∧xs.length≤Cj:=by
 unfold He at h;split at h
 ·rename_i q;cases h;exact⟨rfl,q⟩
 ·cases h
def CK{x1}(ha:DA X es fs):DE X (.Tuple es x1 pos) (fun δ=>((fs δ).bind He).map .tuple):=by
 obtain⟨ta,pa,ka⟩:=ha;refine⟨_,Rc pa,fun δ z hz G0 H0 G H σ ts Q R0 k=>?_⟩;obtain⟨ys,h1,rfl⟩:=aE.mp hz;obtain⟨xs,h2,h3⟩:=aA.mp h1;obtain⟨rfl,hl⟩:=LF h3;refine ka δ _ h2 G0 H0 G H σ ts _ R0 fun vs G1 H1 R1 hv=>?_;obtain⟨d,R2⟩:=R1.args hv;exact⟨Dr (by rw[hv];exact hl),fun q hq=>k _ _ _ (R2.TY d hq)⟩
def JT(ha:DA X es fs):DE X (.List es pos) (fun δ=>((fs δ).bind He).map .list):=by
 obtain⟨ta,pa,ka⟩:=ha;refine⟨_,RF pa,fun δ z hz G0 H0 G H σ ts Q R0 k=>?_⟩;obtain⟨ys,h1,rfl⟩:=aE.mp hz;obtain⟨xs,h2,h3⟩:=aA.mp h1;obtain⟨rfl,hl⟩:=LF h3;refine ka δ _ h2 G0 H0 G H σ ts _ R0 fun vs G1 H1 R1 hv=>?_;obtain⟨d,R2⟩:=R1.args hv;exact⟨Dr (by rw[hv];exact hl),fun q hq=>k _ _ _ (R2.Ji d hq)⟩
def AZ.D6{H:Hp}{ds:List PD}{xs:List V}{i:Int}{d:PD}(h:AZ H ds xs)(e:D6 ds i=some d):∃v,D6 xs i=some v∧Du H d v:=by
 unfold L2.D6 at e ⊢;rw[h.len];obtain⟨j,h1,h2⟩:=aA.mp e;obtain⟨v,h3,h4⟩:=h.get h2;exact⟨v,by rw[h1];exact h3,h4⟩
def MT{G:Hp}:∀ns:List Int,AZ G (ns.map .int) (ns.map V.int)
 |[]=>.nil
 |n::ns=>.cons (by rw[Du]) (MT ns)
def Ct:PD→PD→Option PD:=fun x y=>match x,y with
 |.list xs,.int i=>D6 xs i
 |.tuple xs,.int i=>D6 xs i
 |.dict [(.none,.list xs)],.int i=>D6 xs i
 |.str z,.int i=>if z.length≤Cj then(D6 z.cps.toList i).map fun c=>.str ⟨#[c]⟩ else none
 |_,_=>none
def DN(ha:DE X a f)(hb:DE X b g)(hs:Lq b):DE X (.Subscript a b pos) (AQ Ct f g):=by
 obtain⟨ta,pa,ka⟩:=ha;obtain⟨tb,pb,kb⟩:=hb;refine⟨_,Il Xv pa pb hs,fun δ z hz G0 H0 G H σ ts Q R0 k=>?_⟩;obtain⟨x,y,h1,h2,h3⟩:=two (x:=.none) (y:=.none) hz;refine ka δ x h1 G0 H0 G H σ ts _ R0 fun u G1 H1 R1=>?_;refine kb δ y h2 G0 H0 G1 H1 σ _ _ R1 fun v G2 H2 R2=>?_;have du:=R2.BA (x,u) (.tail _ (.head _));have dv:=R2.BA (y,v) (.head _);unfold Ct at h3;split at h3
 ·rw[Du]at du;rw[Du]at dv;obtain⟨p,xs,rfl,h4,h5⟩:=du;obtain⟨w,h6,h7⟩:=h5.D6 h3;exact .inl ⟨p,xs,_,w,rfl,dv,A2.of (R2.ins _ _ h4),h6,k _ _ _ (R2.drop.drop.put h7)⟩
 ·rw[Du]at du;rw[Du]at dv;obtain⟨p,xs,rfl,h4,h5⟩:=du;obtain⟨w,h6,h7⟩:=h5.D6 h3;exact .inr (.inl ⟨p,xs,_,w,rfl,dv,BF.of (R2.ins _ _ h4),h6,k _ _ _ (R2.drop.drop.put h7)⟩)
 ·rw[Du]at du;rw[Du]at dv;rcases du with ⟨ea,C,e1,_⟩|⟨p,ns,e1,rfl,h4⟩|z
  rotate_left 2
  ·rw[HX]at z;cases z.1
  ·simp at e1
  ·obtain rfl:_=ns.map PyData.int:=by simpa using e1
   obtain⟨w,h6,h7⟩:=(MT (G:=_) ns).D6 h3;exact .inl ⟨p,_,_,w,rfl,dv,.inl (h4.same R2.ins),h6,k _ _ _ (R2.drop.drop.put h7)⟩
 ·rw[Du]at du;rw[Du]at dv;split at h3
  ·rename_i hl;obtain⟨ch,h6,rfl⟩:=aE.mp h3;exact .inr (.inr ⟨_,_,ch,du,dv,Dr hl,h6,k _ _ _ (R2.drop.drop.put (by rw[Du]))⟩)
  ·cases h3
 ·cases h3
end
def Ba(g:MD):Sp:=fun vs H Q _=>∃ds x G,g ds=some x∧AZ G ds vs∧AI G H∧∀v G' H',AI G G'→Nw G H G'→AI G' H'→AI H H'→Du G' x v→Q v H'
section
variable{X:Cx}{a b c e:Expr}{es:List Expr}{f g h:Dv→Option PD}{fs:Dv→Option (List PD)}{pos p:Pos}
def Ah{k:Nat}{fA:AD}{fd:FuncData}{ps:List Str}{m:MD}{x:Str}{st:Stmt}(T:Fn X.K X.mg x st ps fA fd)(F:AM X.prog X.w X.K X.mg X.base A6 k fA fd ps (Ba m))(hr:B5 k X.A)(hg:Gl X x)(ha:DA X (e::es) fs)
 (hdb:(x==("__debug__" : Str))=false:=by decide)(he:starEach (e::es) X.env=(false,eval e X.env)::starEach es X.env:=by rfl)(hpl:(backTo pos (starEach es X.env)).any (·.1)=false:=by rfl) :
  DE X (.Call (.Name x p) (e::es) [] pos) (fun δ=>(fs δ).bind m):=by
 obtain⟨ta,pa,ka⟩:=ha;refine⟨_,LL T F hr hg pa hdb he hpl,fun δ z hz G0 H0 G H σ ts Q R0 k=>?_⟩;obtain⟨xs,h1,h2⟩:=aA.mp hz;refine ka δ _ h1 G0 H0 G H σ ts _ R0 fun vs G1 H1 R1 hv=>?_;obtain⟨d,R2⟩:=R1.args hv;refine⟨xs,z,G1,h2,by rw[List.append_nil];exact d,R2.ins,fun v G' H' h3 h4 h5 h6 h7=>?_⟩;exact k _ _ _ ((R2.lift h3 h4 h5 h6).put h7)
def Ik(X:Cx)(v:VL)(o:MD):Prop:=∃r,CN X v r∧∀xs z,o xs=some z→∀G0 H0 G H σ δ ts us (Q:VK),Rw G0 H0 G H σ δ ts→AZ G xs us→(∀w G' H',Rw G0 H0 G' H' σ δ ((z,w)::ts)→Q w H')→r us H Q
def CG{x:Str}{id:String}{o:MD}(hc:Ik X (.builtin id) o)(hg:Gl X x)(hm:X.mg x=none)(hv:bootBuiltins x=some (.builtin id))(ha:DA X (e::es) fs)(hn:x ≠ "__name__" := by decide)(hdb:(x==("__debug__" : Str))=false:=by decide)
 (he:starEach (e::es) X.env=(false,eval e X.env)::starEach es X.env:=by rfl)(hpl:(backTo pos (starEach es X.env)).any (·.1)=false:=by rfl):DE X (.Call (.Name x p) (e::es) [] pos) (fun δ=>(fs δ).bind o):=by
 obtain⟨r,hr,kr⟩:=hc;obtain⟨ta,pa,ka⟩:=ha;refine⟨_,Bv hr hg hm hv pa hn hdb he hpl,fun δ z hz G0 H0 G H σ ts Q R0 k=>?_⟩;obtain⟨xs,h1,h2⟩:=aA.mp hz;refine ka δ _ h1 G0 H0 G H σ ts _ R0 fun vs G1 H1 R1 hv=>?_;obtain⟨d,R2⟩:=R1.args hv;exact kr xs z h2 G0 H0 G1 H1 σ δ ts vs Q R2 d k
def JQ{x:Str}{T:String}{o:MD}(hc:Ik X (.type T) o)(hg:Gl X x)(hm:X.mg x=none)(hv:bootBuiltins x=some (.type T))(ha:DA X (e::es) fs)(hn:x ≠ "__name__" := by decide)(hdb:(x==("__debug__" : Str))=false:=by decide)
 (he:starEach (e::es) X.env=(false,eval e X.env)::starEach es X.env:=by rfl)(hpl:(backTo pos (starEach es X.env)).any (·.1)=false:=by rfl):DE X (.Call (.Name x p) (e::es) [] pos) (fun δ=>(fs δ).bind o):=by
 obtain⟨r,hr,kr⟩:=hc;obtain⟨ta,pa,ka⟩:=ha;refine⟨_,Jp hr hg hm hv pa hn hdb he hpl,fun δ z hz G0 H0 G H σ ts Q R0 k=>?_⟩;obtain⟨xs,h1,h2⟩:=aA.mp hz;refine ka δ _ h1 G0 H0 G H σ ts _ R0 fun vs G1 H1 R1 hv=>?_;obtain⟨d,R2⟩:=R1.args hv;exact kr xs z h2 G0 H0 G1 H1 σ δ ts vs Q R2 d k
def AZ.E1{H:Hp}{d:PD}{xs:List V}(h:AZ H [d] xs):∃x,xs=[x]∧Du H d x:=by
 obtain⟨x,r,rfl,h1,h2⟩:=h.un;rw[h2.nil_eq];exact⟨x,rfl,h1⟩
def AZ.Wr{H:Hp}{d e:PD}{xs:List V}(h:AZ H [d,e] xs):∃x y,xs=[x,y]∧Du H d x∧Du H e y:=by
 obtain⟨x,r,rfl,h1,h2⟩:=h.un;obtain⟨y,rfl,h3⟩:=h2.E1;exact⟨x,y,rfl,h1,h3⟩
def Ce:MD
 |[.list xs]=>some (.int xs.length)
 |[.tuple xs]=>some (.int xs.length)
 |[.dict [(.none,.list xs)]]=>some (.int xs.length)
 |_=>none
def FO:Ik X (.builtin "len") Ce:=by
 refine⟨_,Jd,fun xs z hz G0 H0 G H σ δ ts us Q R0 d k=>?_⟩;unfold Ce at hz;split at hz
 ·cases hz;obtain⟨u,rfl,du⟩:=d.E1;rw[Du]at du;obtain⟨p,ys,rfl,h4,h5⟩:=du;refine⟨p,ys,rfl,.inl (A2.of (R0.ins _ _ h4)),?_⟩;rw[h5.len];exact k _ _ _ (R0.put (by rw[Du]))
 ·cases hz;obtain⟨u,rfl,du⟩:=d.E1;rw[Du]at du;obtain⟨p,ys,rfl,h4,h5⟩:=du;refine⟨p,ys,rfl,.inr (BF.of (R0.ins _ _ h4)),?_⟩;rw[h5.len];exact k _ _ _ (R0.put (by rw[Du]))
 ·cases hz;obtain⟨u,rfl,du⟩:=d.E1;rw[Du]at du;rcases du with ⟨ea,C,e1,_⟩|⟨p,ns,e1,rfl,h4⟩|z
  rotate_left 2
  ·rw[HX]at z;cases z.1
  ·simp at e1
  ·obtain rfl:_=ns.map PyData.int:=by simpa using e1
   refine⟨p,_,rfl,.inl (.inl (h4.same R0.ins)),?_⟩;rw[List.length_map]at k ⊢;exact k _ _ _ (R0.put (by rw[Du]))
 ·cases hz
def Im:MD
 |[.list xs]=>some (.tuple xs)
 |[.tuple xs]=>some (.tuple xs)
 |_=>none
def OB:Ik X (.type "tuple") Im:=by
 refine⟨_,Mo,fun xs z hz G0 H0 G H σ δ ts us Q R0 d k=>?_⟩;unfold Im at hz;split at hz
 ·cases hz;obtain⟨u,rfl,du⟩:=d.E1;rw[Du]at du;obtain⟨p,ys,rfl,h4,h5⟩:=du;exact⟨p,ys,rfl,.inl ⟨A2.of (R0.ins _ _ h4),fun l hl=>k _ _ _ (R0.TY h5 hl)⟩⟩
 ·cases hz;obtain⟨u,rfl,du⟩:=d.E1;have du':=du;rw[Du]at du;obtain⟨p,ys,rfl,h4,h5⟩:=du;exact⟨p,ys,rfl,.inr ⟨BF.of (R0.ins _ _ h4),k _ _ _ (R0.put du')⟩⟩
 ·cases hz
def Ls:MD
 |[.list xs]=>some (.list xs)
 |[.tuple xs]=>some (.list xs)
 |_=>none
def Vl:Ik X (.type "list") Ls:=by
 refine⟨_,OL,fun xs z hz G0 H0 G H σ δ ts us Q R0 d k=>?_⟩;unfold Ls at hz;split at hz
 ·cases hz;obtain⟨u,rfl,du⟩:=d.E1;rw[Du]at du;obtain⟨p,ys,rfl,h4,h5⟩:=du;exact⟨p,ys,rfl,.inl (A2.of (R0.ins _ _ h4)),fun l hl=>k _ _ _ (R0.Ji h5 hl)⟩
 ·cases hz;obtain⟨u,rfl,du⟩:=d.E1;rw[Du]at du;obtain⟨p,ys,rfl,h4,h5⟩:=du;exact⟨p,ys,rfl,.inr (BF.of (R0.ins _ _ h4)),fun l hl=>k _ _ _ (R0.Ji h5 hl)⟩
 ·cases hz
def Du.ty{K:Fg}{H:Hp}:∀ {d:PD} {v:V},(∀kv,d≠.dict kv)→Du H d v→ED K H v (.type (K2 d))∧∀kv,d≠.dict kv
 |.none,_,_,h=>by rw[Du]at h;subst h;exact⟨.Ao,by simp⟩
 |.bool _,_,_,h=>by rw[Du]at h;subst h;exact⟨.bl _,by simp⟩
 |.int _,_,_,h=>by rw[Du]at h;subst h;exact⟨.int _,by simp⟩
 |.str _,_,_,h=>by rw[Du]at h;subst h;exact⟨.str _,by simp⟩
 |.tuple _,_,_,h=>by rw[Du]at h;obtain⟨a,xs,rfl,h1,_⟩:=h;exact⟨.tup h1,by simp⟩
 |.list _,_,_,h=>by rw[Du]at h;obtain⟨a,xs,rfl,h1,_⟩:=h;exact⟨.lst h1,by simp⟩
 |.dict _,_,n,h=>absurd rfl (n _)
def P7(q:PD→Bool):PD→Option PD
 |.dict _=>none
 |x=>some (.bool (q x))
def WL{q:PD→Bool}{x z:PD}(h:P7 q x=some z):(∀kv,x≠.dict kv)∧z=.bool (q x):=by
 unfold P7 at h;split at h
 ·cases h
 ·rename_i n;cases h;exact⟨fun kv e=>n kv e,rfl⟩
def RV{T:String}{q:PD→Bool}{xT:Str}{p1 p2:Pos}(hk:∀d:PD,(∀kv,d≠.dict kv)→PySem.W.kitOne X.K (.type (K2 d)) (.type T)=some (q d))(hg:Gl X "isinstance")(hm:X.mg "isinstance" = none)(hgT:Gl X xT)(hmT:X.mg xT=none)(hvT:bootBuiltins xT=some (.type T))(ha:DE X a f)
 (hnT:xT ≠ "__name__" := by decide)(hdT:(xT==("__debug__" : Str))=false:=by decide)(hs1:starEach [a,.Name xT p2] X.env=(false,eval a X.env)::starEach [.Name xT p2] X.env:=by rfl)(hpl:(backTo pos (starEach [.Name xT p2] X.env)).any (·.1)=false:=by rfl) :
  DE X (.Call (.Name "isinstance" p1) [a,.Name xT p2] [] pos) (fun δ=>(f δ).bind (P7 q)):=by
 obtain⟨ta,pa,ka⟩:=ha;have pT:PE X (.Name xT p2) (tC (.ty T)):=Hg hgT hmT hvT rfl hnT hdT;refine⟨_,Bv GS hg hm ao (Ai pa (Ai pT BJ) hs1) (by decide) (by decide) hs1 hpl,fun δ z hz G0 H0 G H σ ts Q R0 k=>?_⟩;obtain⟨x,h1,h2⟩:=aA.mp hz;obtain⟨n1,rfl⟩:=WL h2;refine ka δ _ h1 G0 H0 G H σ ts _ R0 fun u G1 H1 R1=>?_;have du:=R1.BA _ (.head _);obtain⟨t1,t2⟩:=(du.same R1.ins).ty (K:=X.K) n1;exact⟨u,.ty T,_,q x,rfl,by simp[Lk],t1,hk x t2,k _ _ _ (R1.drop.put (by rw[Du]))⟩
end
inductive Ou where
 |nx (δ:Dv)|rt (x:PyData)|bk (δ:Dv)|ct (δ:Dv)|rn (xs:List PyData)
def Fin(G0 H0:Hp)(D:Ends):Ou→Prop
 |.nx δ=>∀σ G H,Rw G0 H0 G H σ δ []→D.nx σ H
 |.rt x=>∀v G H,AI G0 G→Nw G0 H0 G→AI G H→AI H0 H→Du G x v→D.rt v H
 |.bk δ=>∀σ G H,Rw G0 H0 G H σ δ []→D.bk σ H
 |.ct δ=>∀σ G H,Rw G0 H0 G H σ δ []→D.ct σ H
 |.rn xs=>∀a ys G H,AI G0 G→Nw G0 H0 G→AI G H→AI H0 H→H0 a=none→G a=none→H a=some (.lst ys)→AZ G xs ys→D.rt (.ref a) H
abbrev DF:=Dv→Option Ou
def DS(X:Cx)(st:Stmt)(F:DF):Prop:=∃t,PS X st t∧∀δ r,F δ=some r→∀G0 H0 G H σ D,Rw G0 H0 G H σ δ []→Fin G0 H0 D r→t D σ H
def LY(X:Cx)(st:List Stmt)(F:DF):Prop:=∃t,Ew X st t∧∀δ r,F δ=some r→∀G0 H0 G H σ D,Rw G0 H0 G H σ δ []→Fin G0 H0 D r→t D σ H
def Aq(F1 F2:DF)(δ:Dv):Option Ou:=match F1 δ with
 |some (.nx δ')=>F2 δ'
 |o=>o
section
variable{X:Cx}{a b c e:Expr}{es:List Expr}{f g h:Dv→Option PD}{fs:Dv→Option (List PD)}{fa:Dv→Option Bool}{pos p:Pos}{st:Stmt}{sts sts':List Stmt}{F F1 F2:DF}
def FH:LY X [] (fun δ=>some (.nx δ)):=⟨_,FC,fun δ r h G0 H0 G H σ D R k=>by cases h;exact k _ _ _ R⟩
def AR(h1:DS X st F1)(h2:LY X sts F2):LY X (st::sts) (Aq F1 F2):=by
 obtain⟨t1,p1,k1⟩:=h1;obtain⟨t2,p2,k2⟩:=h2;refine⟨_,Bb p1 p2,fun δ r h G0 H0 G H σ D R k=>?_⟩;unfold Aq at h;split at h
 ·rename_i δ' e1;exact k1 δ _ e1 G0 H0 G H σ _ R fun σ' G' H' R'=>k2 δ' r h G0 H0 G' H' σ' D R' k
 ·rename_i hne;refine k1 δ r h G0 H0 G H σ _ R ?_;cases r with
  |nx δ'=>exact absurd h (hne δ')
  |rt x=>exact k
  |bk δ'=>exact k
  |ct δ'=>exact k
  |rn xs=>exact k
def Ab(h1:DS X st F1):LY X [st] F1:=by
 obtain⟨t1,p1,k1⟩:=h1;exact⟨_,Bt p1,k1⟩
def Bj(he:DE X e f):DS X (.Return (some e) pos) (fun δ=>(f δ).map .rt):=by
 obtain⟨t,p,k⟩:=he;refine⟨_,Cq p,fun δ r h G0 H0 G H σ D R q=>?_⟩;obtain⟨x,h1,rfl⟩:=aE.mp h;exact k δ x h1 G0 H0 G H σ [] _ R fun v G' H' R'=>q v G' H' R'.ext R'.new R'.ins R'.keep (R'.BA _ (.head _))
def Ih(hc:DT X c fa)(h1:LY X sts F1)(h2:LY X sts' F2):DS X (.If c sts sts' pos) (fun δ=>(fa δ).bind fun c=>if c=true then F1 δ else F2 δ):=by
 obtain⟨tc,pc,kc⟩:=hc;obtain⟨t1,p1,k1⟩:=h1;obtain⟨t2,p2,k2⟩:=h2;refine⟨_,Ib pc p1 p2,fun δ r h G0 H0 G H σ D R q=>?_⟩;obtain⟨i,h3,h4⟩:=aA.mp h;refine kc δ i h3 G0 H0 G H σ [] _ R fun G' H' R'=>?_;split
 ·rename_i hc;rw[if_pos hc]at h4;exact k1 δ r h4 G0 H0 G' H' σ D R' q
 ·rename_i hc;rw[if_neg hc]at h4;exact k2 δ r h4 G0 H0 G' H' σ D R' q
end
section
variable{G0 H0 G H:Hp}{σ:St}{δ:Dv}{ts:List (PD×V)}
def Rw.Dx{i:Nat}{x:PD}{v:V}(r:Rw G0 H0 G H σ δ ((x,v)::ts)):Rw G0 H0 G H (σ.set i (some v)) (δ.set i (.d x)) ts:=by
 have hl:=r.len;refine⟨r.ext,r.new,r.ins,r.keep,by simp[hl],fun j y h=>?_,fun j ys h=>?_,fun j l ys zs hjl h1 h2=>?_,fun q hq=>r.BA q (.tail _ hq)⟩
 ·by_cases hj:i=j
  ·subst hj;by_cases hi:i<δ.length
   ·rw[List.getElem?_set_self hi]at h;cases h;exact⟨v,by rw[List.getElem?_set_self (by omega)],r.BA _ (.head _)⟩
   ·rw[List.getElem?_eq_none (by simp;omega)]at h;cases h
  ·rw[List.getElem?_set_ne hj]at h;obtain⟨w,k1,k2⟩:=r.dat j y h;exact⟨w,by rw[List.getElem?_set_ne hj];exact k1,k2⟩
 ·by_cases hj:i=j
  ·subst hj;by_cases hi:i<δ.length
   ·rw[List.getElem?_set_self hi]at h;cases h
   ·rw[List.getElem?_eq_none (by simp;omega)]at h;cases h
  ·rw[List.getElem?_set_ne hj]at h;obtain⟨w,k1,k2,k3⟩:=r.own j ys h;exact⟨w,k1,by rw[List.getElem?_set_ne hj];exact k2,k3⟩
 ·have nj:i≠j:=fun z=>by
   subst z;by_cases hi:i<δ.length
   ·rw[List.getElem?_set_self hi]at h1;cases h1
   ·rw[List.getElem?_eq_none (by simp;omega)]at h1;cases h1
  have nl:i≠l:=fun z=>by
   subst z;by_cases hi:i<δ.length
   ·rw[List.getElem?_set_self hi]at h2;cases h2
   ·rw[List.getElem?_eq_none (by simp;omega)]at h2;cases h2
  rw[List.getElem?_set_ne nj]at h1 ⊢;rw[List.getElem?_set_ne nl]at h2 ⊢;exact r.apart j l ys zs hjl h1 h2
end
section
variable{X:Cx}{e:Expr}{f:Dv→Option PD}{pos p:Pos}
def A5{i:Nat}{x:Str}{pos':Pos}(hN:X.N.Nodup)(hi:X.N[i]? = some x)(hx:Loc X.env.scope x)(he:DE X e f)(hs:swapsWith e (some (.Name x pos')) pos.line X.env=pure false:=by rfl)(hf:X.fn x=true∨X.env.scope.names.lookup x=some .local:=by first|exact .inl rfl|exact .inr rfl|assumption) :
  DS X (.Assign [.Name x pos'] e pos) (fun δ=>(f δ).map fun y=>.nx (δ.set i (.d y))):=by
 obtain⟨t,p,k⟩:=he;refine⟨_,DZ hN hi hx p hs hf,fun δ r h G0 H0 G H σ D R q=>?_⟩;obtain⟨y,h1,rfl⟩:=aE.mp h;exact k δ y h1 G0 H0 G H σ [] _ R fun v G' H' R'=>q _ _ _ R'.Dx
end
section
variable{G0 H0 G H:Hp}{σ:St}{δ:Dv}{ts:List (PD×V)}
def Rw.base(r:Rw G0 H0 G H σ δ ts):Rw G H0 G H σ δ ts:={r with ext:=AI.refl G,new:=fun _ _ h=>.inl h}
def Nw.trans{G1 G2:Hp}(a:Nw G0 H0 G1)(b:Nw G1 H0 G2):Nw G0 H0 G2:=fun c o h=>by
 rcases b c o h with z|z|z
 ·exact a c o z
 ·exact .inr (.inl z)
 ·exact .inr (.inr z)
def Rw.N2{G' H':Hp}{σ':St}{δ':Dv}{ts':List (PD×V)}(r:Rw G0 H0 G H σ δ ts)(q:Rw G H0 G' H' σ' δ' ts'):Rw G0 H0 G' H' σ' δ' ts':={q with ext:=r.ext.trans q.ext,new:=r.new.trans q.new}
def DP(i:Nat)(δ:Dv):Dv:=match δ[i]? with
 |some (.own (.lst xs))=>δ.set i (.d (.list xs))
 |some (.own (.OM kvs))=>δ.set i (.d (Mv kvs))
 |_=>δ
def Rw.letGo{i:Nat}{c:Oc}{x:PD}(r:Rw G0 H0 G H σ δ ts)(hi:δ[i]? = some (.own c))(hx:∀a o,G a=none→FE G a c o→Du (upd G a o) x (.ref a)):∃a o,σ[i]? = some (some (.ref a))∧G a=none∧H0 a=none∧H a=some o∧FE G a c o∧Rw G0 H0 (upd G a o) H σ (δ.set i (.d x)) ts:=by
 obtain⟨a,o,k1,k2,k3,k4,k5⟩:=r.own i _ hi;have e:AI G (upd G a o):=BQ k2 _;have hlt:i<δ.length:=(aM.mp hi).1;refine⟨a,o,k1,k2,k3,k4,k5,r.ext.trans e,fun b o' h=>?_,fun b o' h=>?_,r.keep,by simp[r.len],fun j y h=>?_,fun j zs h=>?_,fun j l us ws hjl h1 h2=>?_,fun q hq=>(r.BA q hq).same e⟩
 ·by_cases hb:b=a
  ·subst hb;exact .inr (.inl k3)
  ·rw[AH hb]at h;exact r.new _ _ h
 ·by_cases hb:b=a
  ·subst hb;rw[AX]at h;rw[k4];exact h
  ·rw[AH hb]at h;exact r.ins _ _ h
 ·by_cases hj:i=j
  ·subst hj;rw[List.getElem?_set_self hlt]at h;cases h;exact⟨.ref a,k1,hx a o k2 k5⟩
  ·rw[List.getElem?_set_ne hj]at h;obtain⟨w,m1,m2⟩:=r.dat j y h;exact⟨w,m1,m2.same e⟩
 ·by_cases hj:i=j
  ·subst hj;rw[List.getElem?_set_self hlt]at h;cases h
  ·rw[List.getElem?_set_ne hj]at h;obtain⟨b,us,m1,m2,m3,m4,m5⟩:=r.own j zs h;have nb:b≠a:=fun z=>by subst z;exact r.apart i j _ zs hj hi h (by rw[k1,m1])
   exact⟨b,us,m1,by rw[AH nb];exact m2,m3,m4,m5.same e⟩
 ·have nj:i≠j:=fun z=>by subst z;rw[List.getElem?_set_self hlt]at h1;cases h1
  have nl:i≠l:=fun z=>by subst z;rw[List.getElem?_set_self hlt]at h2;cases h2
  rw[List.getElem?_set_ne nj]at h1;rw[List.getElem?_set_ne nl]at h2;exact r.apart j l us ws hjl h1 h2
def XI{a:AD}{o:HO}{xs:List PD}(hG:G a=none)(h:FE G a (.lst xs) o):Du (upd G a o) (.list xs) (.ref a):=by
 obtain⟨ys,rfl,k5⟩:=h;rw[Du];exact⟨a,ys,rfl,AX,k5.same (BQ hG _)⟩
def XT{a:AD}{o:HO}{kvs:List (Option Tr×PD)}(hG:G a=none)(h:FE G a (.OM kvs) o):Du (upd G a o) (Mv kvs) (.ref a):=by
 obtain⟨r,rfl,n,k5⟩:=h;rw[Du,HX];exact .inr (.inr ⟨rfl,rfl,a,r,rfl,AX,n,Hv.same (BQ hG _) k5⟩)
def Rw.DP(i:Nat)(r:Rw G0 H0 G H σ δ ts):∃G',Rw G0 H0 G' H σ (L2.DP i δ) ts:=by
 unfold L2.DP;split
 ·rename_i xs hi;obtain⟨a,o,_,_,_,_,_,R⟩:=r.letGo (x:=.list xs) hi fun a o h=>XI h;exact⟨_,R⟩
 ·rename_i kvs hi;obtain⟨a,o,_,_,_,_,_,R⟩:=r.letGo (x:=Mv kvs) hi fun a o h=>XT h;exact⟨_,R⟩
 ·exact⟨G,r⟩
def Rw.YJ{i:Nat}{xs:Oc}{ys:HO}{a:AD}(r:Rw G0 H0 G H σ δ ts)(d:FE G a xs ys)(ha:H a=none):Rw G0 H0 G (upd H a ys) (σ.set i (some (.ref a))) (δ.set i (.own xs)) ts:=by
 have hG:G a=none:=by
  cases q:G a with
  |none=>rfl
  |some u=>rw[r.ins _ _ q]at ha;cases ha
 have h0:H0 a=none:=by
  cases q:H0 a with
  |none=>rfl
  |some u=>rw[r.keep _ _ q]at ha;cases ha
 have e:AI H (upd H a ys):=BQ ha _;have hl:=r.len;have other:∀(j:Nat) (zs:Oc),i≠j→(δ.set i (.own xs))[j]? = some (L.own zs)→δ[j]? = some (L.own zs):=fun j zs hj h=>by rw[List.getElem?_set_ne hj]at h;exact h
 have nota:∀(j:Nat) (zs:Oc),δ[j]? = some (L.own zs)→σ[j]?≠some (some (V.ref a)):=fun j zs h z=>by
  obtain⟨b,us,m1,m2,m3,m4,m5⟩:=r.own j zs h;rw[z]at m1;cases m1;rw[m4]at ha;cases ha
 refine⟨r.ext,r.new,r.ins.trans e,r.keep.trans e,by simp[hl],fun j y h=>?_,fun j zs h=>?_,fun j l us ws hjl h1 h2=>?_,r.BA⟩
 ·by_cases hj:i=j
  ·subst hj;by_cases hi:i<δ.length
   ·rw[List.getElem?_set_self hi]at h;cases h
   ·rw[List.getElem?_eq_none (by simp;omega)]at h;cases h
  ·rw[List.getElem?_set_ne hj]at h;obtain⟨w,m1,m2⟩:=r.dat j y h;exact⟨w,by rw[List.getElem?_set_ne hj];exact m1,m2⟩
 ·by_cases hj:i=j
  ·subst hj;by_cases hi:i<δ.length
   ·rw[List.getElem?_set_self hi]at h;cases h;exact⟨a,ys,by rw[List.getElem?_set_self (by omega)],hG,h0,AX,d⟩
   ·rw[List.getElem?_eq_none (by simp;omega)]at h;cases h
  ·have h:=other j zs hj h;obtain⟨b,us,m1,m2,m3,m4,m5⟩:=r.own j zs h;exact⟨b,us,by rw[List.getElem?_set_ne hj];exact m1,m2,m3,e _ _ m4,m5⟩
 ·by_cases hj:i=j
  ·subst hj;have hl2:i≠l:=hjl;have h2:=other l ws hl2 h2;by_cases hi:i<δ.length
   ·rw[List.getElem?_set_self (by omega),List.getElem?_set_ne hl2];exact fun z=>nota l ws h2 z.symm
   ·rw[List.getElem?_eq_none (by simp;omega)]at h1;cases h1
  ·have h1:=other j us hj h1;by_cases hk:i=l
   ·subst hk;by_cases hi:i<δ.length
    ·rw[List.getElem?_set_self (by omega),List.getElem?_set_ne hj];exact fun z=>nota j us h1 z
    ·rw[List.getElem?_eq_none (by simp;omega)]at h2;cases h2
   ·have h2:=other l ws hk h2;rw[List.getElem?_set_ne hj,List.getElem?_set_ne hk];exact r.apart j l us ws hjl h1 h2
def Rw.Qc{i:Nat}{xs xs':Oc}{ys:HO}{a:AD}(r:Rw G0 H0 G H σ δ ts)(hi:δ[i]? = some (.own xs))(ha:σ[i]? = some (some (.ref a)))(d:FE G a xs' ys):Rw G0 H0 G (upd H a ys) σ (δ.set i (.own xs')) ts:=by
 obtain⟨a',ys0,k1,k2,k3,k4,k5⟩:=r.own i xs hi;rw[ha]at k1;cases k1;have hlt:i<δ.length:=(aM.mp hi).1;have hl:=r.len;refine⟨r.ext,r.new,fun b o h=>?_,fun b o h=>?_,by simp[hl],fun j y h=>?_,fun j zs h=>?_,fun j l us ws hjl h1 h2=>?_,r.BA⟩
 ·rw[AH (fun z=>by subst z;rw[k2]at h;cases h)];exact r.ins _ _ h
 ·rw[AH (fun z=>by subst z;rw[k3]at h;cases h)];exact r.keep _ _ h
 ·by_cases hj:i=j
  ·subst hj;rw[List.getElem?_set_self hlt]at h;cases h
  ·rw[List.getElem?_set_ne hj]at h;exact r.dat j y h
 ·by_cases hj:i=j
  ·subst hj;rw[List.getElem?_set_self hlt]at h;cases h;exact⟨a,ys,ha,k2,k3,AX,d⟩
  ·rw[List.getElem?_set_ne hj]at h;obtain⟨b,us,m1,m2,m3,m4,m5⟩:=r.own j zs h;have nb:b≠a:=fun z=>by subst z;exact r.apart i j xs zs hj hi h (by rw[ha,m1])
   exact⟨b,us,m1,m2,m3,by rw[AH nb];exact m4,m5⟩
 ·have f:∀(j:Nat) (us:Oc),(δ.set i (.own xs'))[j]? = some (L.own us)→∃us',δ[j]? = some (L.own us'):=fun j us h=>by
   by_cases hj:i=j
   ·subst hj;exact⟨xs,hi⟩
   ·rw[List.getElem?_set_ne hj]at h;exact⟨us,h⟩
  obtain⟨us',h1⟩:=f j us h1;obtain⟨ws',h2⟩:=f l ws h2;exact r.apart j l us' ws' hjl h1 h2
end
section
variable{X:Cx}{a b c e:Expr}{es:List Expr}{f g h:Dv→Option PD}{fs:Dv→Option (List PD)}{fa:Dv→Option Bool}{pos p:Pos}{st:Stmt}{sts sts':List Stmt}{F F1 F2:DF}
def Nz(i:Nat)(h1:DS X st F):DS X st (fun δ=>F (DP i δ)):=by
 obtain⟨t,p,k⟩:=h1;refine⟨t,p,fun δ r h G0 H0 G H σ D R q=>?_⟩;obtain⟨G',R'⟩:=R.DP i;exact k _ r h G0 H0 G' H σ D R' q
def M9{i:Nat}{x:Str}{pos' lp:Pos}(hN:X.N.Nodup)(hi:X.N[i]? = some x)(hx:Loc X.env.scope x)(ha:DA X es fs)(hs:swapsWith (.List es lp) (some (.Name x pos')) pos.line X.env=pure false:=by rfl)(hf:X.fn x=true∨X.env.scope.names.lookup x=some .local:=by first|exact .inl rfl|exact .inr rfl|assumption) :
  DS X (.Assign [.Name x pos'] (.List es lp) pos) (fun δ=>((fs δ).bind He).map fun ys=>.nx (δ.set i (.own (.lst ys)))):=by
 obtain⟨t,p,k⟩:=ha;refine⟨_,DZ hN hi hx (RF p) hs hf,fun δ r h G0 H0 G H σ D R q=>?_⟩;obtain⟨y,h1,rfl⟩:=aE.mp h;obtain⟨xs,h2,h3⟩:=aA.mp h1;obtain⟨rfl,hl⟩:=LF h3;refine k δ _ h2 G0 H0 G H σ [] _ R fun vs G1 H1 R1 hv=>?_;obtain⟨d,R2⟩:=R1.args hv;exact⟨Dr (by rw[hv];exact hl),fun l hl'=>q _ _ _ (R2.YJ ⟨_,rfl,d⟩ hl')⟩
def ow(i:Nat)(δ:Dv):Option (List PD):=match δ[i]? with
 |some (.own (.lst xs))=>some xs
 |_=>none
def J8{i:Nat}{δ:Dv}{xs:List PD}(h:ow i δ=some xs):δ[i]? = some (.own (.lst xs)):=by
 unfold ow at h;split at h
 ·rename_i y e;cases h;exact e
 ·cases h
def RH{i:Nat}{x:Str}{np ap cp:Pos}(hv:PE X (.Name x np) (JY i))(he:DE X e f)
 (hP:∀ {to:TE} {t:TA},PE X (.Name x np) to→PA X [e] t→PS X (.Expr (.Call (.Attribute (.Name x np) "append" ap) [e] [] cp) pos) (Mq (XA X.K "list" PL to t)))(hs1:starEach [e] X.env=(false,eval e X.env)::starEach [] X.env:=by rfl) :
  DS X (.Expr (.Call (.Attribute (.Name x np) "append" ap) [e] [] cp) pos) (fun δ=>(f δ).bind fun y=>(ow i δ).bind fun xs=>if xs.length<Cj then some (.nx (δ.set i (.own (.lst (xs++[y]))))) else none):=by
 obtain⟨t,p,k⟩:=he;refine⟨_,hP hv (Ai p BJ hs1),fun δ r h G0 H0 G H σ D R q=>?_⟩;obtain⟨y,h1,h2⟩:=aA.mp h;obtain⟨xs,h3,h4⟩:=aA.mp h2;split at h4
 ·rename_i hl;cases h4;have hi:=J8 h3;obtain⟨a,_,k1,k2,k3,k4,⟨ys,rfl,k5⟩⟩:=R.own i _ hi;refine⟨.ref a,k1,.inl ⟨rfl,ys,A2.of k4⟩,?_⟩;refine k δ y h1 G0 H0 G H σ [] _ R fun u G1 H1 R1=>?_;obtain⟨a',_,m1,m2,m3,m4,⟨zs,rfl,m5⟩⟩:=R1.own i _ hi;rw[k1]at m1;cases m1;refine⟨a,zs,u,rfl,rfl,m4,Ph (by rw[m5.len];omega),?_⟩;exact q _ _ _ (R1.drop.Qc hi k1 ⟨_,rfl,m5.app (.cons (R1.BA _ (.head _)) .nil)⟩)
 ·cases h4
def MW{i:Nat}{x:Str}{np ap cp:Pos}(hv:PE X (.Name x np) (JY i))(he:DE X e f)
 (hP:∀ {to:TE} {t:TA},PE X (.Name x np) to→PA X [e] t→PS X (.Expr (.Call (.Attribute (.Name x np) "extend" ap) [e] [] cp) pos) (Mq (XA X.K "list" PX to t)))(hs1:starEach [e] X.env=(false,eval e X.env)::starEach [] X.env:=by rfl) :
  DS X (.Expr (.Call (.Attribute (.Name x np) "extend" ap) [e] [] cp) pos) (fun δ=>(f δ).bind fun y=>(ow i δ).bind fun xs=>match y with|.list zs=>(if xs.length+zs.length≤Cj then some (.nx (δ.set i (.own (.lst (xs++zs))))) else none)|_=>none):=by
 obtain⟨t,p,k⟩:=he;refine⟨_,hP hv (Ai p BJ hs1),fun δ r h G0 H0 G H σ D R q=>?_⟩;obtain⟨y,h1,h2⟩:=aA.mp h;obtain⟨xs,h3,h4⟩:=aA.mp h2;split at h4
 ·rename_i zs;split at h4
  ·rename_i hl;cases h4;have hi:=J8 h3;obtain⟨a,_,k1,k2,k3,k4,⟨ys,rfl,k5⟩⟩:=R.own i _ hi;refine⟨.ref a,k1,.inl ⟨rfl,ys,A2.of k4⟩,?_⟩;refine k δ _ h1 G0 H0 G H σ [] _ R fun u G1 H1 R1=>?_;obtain⟨a',_,m1,m2,m3,m4,⟨us,rfl,m5⟩⟩:=R1.own i _ hi;rw[k1]at m1;cases m1;have du:=R1.BA _ (.head _);rw[Du]at du;obtain⟨b,ws,rfl,n1,n2⟩:=du;refine⟨a,b,us,ws,rfl,rfl,m4,R1.ins _ _ n1,Dr (by rw[m5.len,n2.len];exact hl),?_⟩;exact q _ _ _ (R1.drop.Qc hi k1 ⟨_,rfl,m5.app n2⟩)
  ·cases h4
 ·cases h4
def Tu{i:Nat}{x:Str}{np:Pos}(hv:PE X (.Name x np) (JY i))(hb:DE X b g)(hs:Lq b):DE X (.Subscript (.Name x np) b pos) (fun δ=>(g δ).bind fun y=>(ow i δ).bind fun xs=>(LU y).bind fun k=>D6 xs k):=by
 obtain⟨tb,pb,kb⟩:=hb;refine⟨_,Il PV hv pb hs,fun δ z hz G0 H0 G H σ ts Q R0 k=>?_⟩;obtain⟨y,h1,h2⟩:=aA.mp hz;obtain⟨xs,h3,h4⟩:=aA.mp h2;obtain⟨j,h5,h6⟩:=aA.mp h4;have:=LQ h5;subst this;obtain⟨a,_,k1,k2,k3,k4,⟨ys,rfl,k5⟩⟩:=R0.own i _ (J8 h3);refine⟨.ref a,k1,?_⟩;refine kb δ _ h1 G0 H0 G H σ ts _ R0 fun v G1 H1 R1=>?_;have dv:=R1.BA _ (.head _);rw[Du]at dv;obtain⟨a',_,m1,m2,m3,m4,⟨us,rfl,m5⟩⟩:=R1.own i _ (J8 h3);rw[k1]at m1;cases m1;obtain⟨w,h7,h8⟩:=m5.D6 h6;exact⟨a,us,j,w,rfl,dv,A2.of m4,h7,k _ _ _ (R1.drop.put h8)⟩
end
structure IJ(J:It)(xs:List PyData)(G:Hp):Prop where
 stop:∀H,AI G H→J.stop xs.length H
 go:∀(i:Nat) (d:PyData) H,xs[i]? = some d→AI G H→J.go i H
 Ex:∀(i:Nat) (d:PyData) H x H',xs[i]? = some d→AI G H→J.Ex i H x H'→∀Gc,AI G Gc→AI Gc H→∃Gc',AI Gc Gc'∧Nw Gc H Gc'∧AI Gc' H'∧AI H H'∧Du Gc' d x
def Nw.refl{G H:Hp}:Nw G H G:=fun _ _ h=>.inl h
def We{K:Fg}{G:Hp}{a:AD}{ys:List V}{xs:List PD}(ha:G a=some (.lst ys))(d:AZ G xs ys):IJ (PJ K a) xs G where
 stop:=fun H e=>⟨ys,A2.of (e _ _ ha),by rw[d.len];exact aH _⟩
 go:=fun i x H hx e=>by
  obtain⟨v,h1,_⟩:=d.get hx;exact⟨ys,v,A2.of (e _ _ ha),h1⟩
 Ex:=fun i x H v H' hx e y Gc e1 e2=>by
  obtain⟨rfl,y⟩:=y;have h1:=y ys (A2.of (e _ _ ha));obtain⟨x',h2,h3⟩:=d.back h1;rw[hx]at h2;cases h2;exact⟨Gc,AI.refl _,Nw.refl,e2,AI.refl _,h3.same e1⟩
def X3{K:Fg}{G:Hp}{a:AD}{ys:List V}{xs:List PD}(ha:G a=some (.tup ys))(d:AZ G xs ys):IJ (YN K a) xs G where
 stop:=fun H e=>⟨ys,BF.of (e _ _ ha),by rw[d.len];exact aH _⟩
 go:=fun i x H hx e=>by
  obtain⟨v,h1,_⟩:=d.get hx;exact⟨ys,v,BF.of (e _ _ ha),h1⟩
 Ex:=fun i x H v H' hx e y Gc e1 e2=>by
  obtain⟨rfl,y⟩:=y;have h1:=y ys (BF.of (e _ _ ha));obtain⟨x',h2,h3⟩:=d.back h1;rw[hx]at h2;cases h2;exact⟨Gc,AI.refl _,Nw.refl,e2,AI.refl _,h3.same e1⟩
def Ek(lo:Int)(n:Nat):List PD:=(List.range n).map fun k=>.int (lo+(k:Nat))
def S0{G:Hp}{lo:Int}{n:Nat}:IJ (Rj lo n) (Ek lo n) G where
 stop:=fun H e=>by show n≤_;simp[Ek]
 go:=fun i x H hx e=>by
  have:=(aM.mp hx).1;show i<n
  simpa[Ek]using this
 Ex:=fun i x H v H' hx e y Gc e1 e2=>by
  obtain⟨rfl,rfl⟩:=y;unfold Ek at hx;rw[List.getElem?_map]at hx;obtain⟨k,h1,rfl⟩:=aE.mp hx;have hk:k=i:=by
   have:=(aM.mp h1).1;rw[List.getElem?_range (by simpa using this)]at h1;cases h1;rfl
  subst hk;exact⟨Gc,AI.refl _,Nw.refl,e2,AI.refl _,by rw[Du]⟩
def M4{Gc H:Hp}{p:AD}{d1 d2:PD}{v1 v2:V}(e2:AI Gc H)(hp:H p=none)(h1:Du Gc d1 v1)(h2:Du Gc d2 v2) :
  ∃Gc',AI Gc Gc'∧Nw Gc H Gc'∧AI Gc' (upd H p (.tup [v1,v2]))∧AI H (upd H p (.tup [v1,v2]))∧Du Gc' (.tuple [d1,d2]) (.ref p):=by
 have hG:Gc p=none:=by
  cases q:Gc p with
  |none=>rfl
  |some u=>rw[e2 _ _ q]at hp;cases hp
 have e:AI Gc (upd Gc p (.tup [v1,v2])):=BQ hG _;refine⟨upd Gc p (.tup [v1,v2]),e,fun a o h=>?_,fun a o h=>?_,BQ hp _,?_⟩
 ·by_cases ha:a=p
  ·subst ha;exact .inr (.inl hp)
  ·rw[AH ha]at h;exact .inl h
 ·by_cases ha:a=p
  ·subst ha;rw[AX]at h ⊢;exact h
  ·rw[AH ha]at h ⊢;exact e2 _ _ h
 ·rw[Du];exact⟨p,[v1,v2],rfl,AX,.cons (h1.same e) (.cons (h2.same e) .nil)⟩
def Gp(xs:List PD):List PD:=xs.zipIdx.map fun q=>.tuple [.int (q.2:Nat),q.1]
def Gq{xs:List PD}{i:Nat}{d:PD}(h:(Gp xs)[i]? = some d):∃x,xs[i]? = some x∧d=.tuple [.int (i:Nat),x]:=by
 unfold Gp at h;rw[List.getElem?_map]at h;obtain⟨q,h1,rfl⟩:=aE.mp h;rw[List.getElem?_zipIdx]at h1;obtain⟨x,h2,rfl⟩:=aE.mp h1;exact⟨x,h2,by simp⟩
def S9{K:Fg}{G:Hp}{a:AD}{ys:List V}{xs:List PD}(ha:G a=some (.tup ys))(d:AZ G xs ys):IJ (X6 K a) (Gp xs) G where
 stop:=fun H e=>⟨ys,BF.of (e _ _ ha),by rw[d.len];simp[Gp]⟩
 go:=fun i x H hx e=>by
  obtain⟨x',h0,rfl⟩:=Gq hx;obtain⟨v,h1,_⟩:=d.get h0;exact⟨ys,v,BF.of (e _ _ ha),h1⟩
 Ex:=fun i x H v H' hx e y Gc e1 e2=>by
  obtain⟨x',h0,rfl⟩:=Gq hx;obtain⟨p,u,rfl,hp,rfl,y⟩:=y;have h1:=y ys (BF.of (e _ _ ha));obtain⟨x2,h2,h3⟩:=d.back h1;rw[h0]at h2;cases h2;exact M4 e2 hp (by rw[Du]) (h3.same e1)
def Td{K:Fg}{G:Hp}{a:AD}{ys:List V}{xs:List PD}(ha:G a=some (.lst ys))(d:AZ G xs ys):IJ (YY K a) (Gp xs) G where
 stop:=fun H e=>⟨ys,A2.of (e _ _ ha),by rw[d.len];simp[Gp]⟩
 go:=fun i x H hx e=>by
  obtain⟨x',h0,rfl⟩:=Gq hx;obtain⟨v,h1,_⟩:=d.get h0;exact⟨ys,v,A2.of (e _ _ ha),h1⟩
 Ex:=fun i x H v H' hx e y Gc e1 e2=>by
  obtain⟨x',h0,rfl⟩:=Gq hx;obtain⟨p,u,rfl,hp,rfl,y⟩:=y;have h1:=y ys (A2.of (e _ _ ha));obtain⟨x2,h2,h3⟩:=d.back h1;rw[h0]at h2;cases h2;exact M4 e2 hp (by rw[Du]) (h3.same e1)
def DI(X:Cx)(tg iter:Expr)(f:Dv→Option (List PD)):Prop:=∃wi,PI X tg iter wi∧∀δ xs,f δ=some xs→∀G0 H0 G H σ ts (R:It→Hp→Prop),Rw G0 H0 G H σ δ ts→(∀J G' H',Rw G0 H0 G' H' σ δ ts→IJ J xs G'→R J H')→wi σ H R
section
variable{X:Cx}{tg a b c e:Expr}{es:List Expr}{f g h:Dv→Option PD}{fs:Dv→Option (List PD)}{fa:Dv→Option Bool}{pos p:Pos}{st:Stmt}{sts sts':List Stmt}{F F1 F2:DF}
def PI.or{wi wi':TI}(h:PI X tg e wi)(h':PI X tg e wi'):PI X tg e (fun σ H R=>wi σ H R∨wi' σ H R):=fun pins s σ H R I q=>by
 rcases q with q|q
 ·exact h pins s σ H R I q
 ·exact h' pins s σ H R I q
def Es:PD→Option (List PD)
 |.list xs=>some xs
 |.tuple xs=>some xs
 |_=>none
def Df(he:DE X e f):DI X tg e (fun δ=>(f δ).bind Es):=by
 obtain⟨t,p,k⟩:=he;refine⟨_,(O5 p).or (Ye p),fun δ xs h G0 H0 G H σ ts R R0 q=>?_⟩;obtain⟨x,h1,h2⟩:=aA.mp h;unfold Es at h2;split at h2
 ·cases h2
  left
  refine k δ _ h1 G0 H0 G H σ ts _ R0 fun v G' H' R'=>?_;have du:=R'.BA _ (.head _);rw[Du]at du;obtain⟨a,ys,rfl,n1,n2⟩:=du;exact⟨a,rfl,⟨ys,A2.of (R'.ins _ _ n1)⟩,q _ _ _ R'.drop (We n1 n2)⟩
 ·cases h2
  right
  refine k δ _ h1 G0 H0 G H σ ts _ R0 fun v G' H' R'=>?_;have du:=R'.BA _ (.head _);rw[Du]at du;obtain⟨a,ys,rfl,n1,n2⟩:=du;exact⟨a,rfl,⟨ys,BF.of (R'.ins _ _ n1)⟩,q _ _ _ R'.drop (X3 n1 n2)⟩
 ·cases h2
def Fl:List PD→Option (List PD)
 |[.int j]=>if -1000000≤j∧j≤1000000 then some (Ek 0 j.toNat) else none
 |_=>none
def QD:List PD→Option (List PD)
 |[.int i,.int j]=>if -1000000≤i∧i≤1000000∧-1000000≤j∧j≤1000000 then some (Ek i (j-i).toNat) else none
 |_=>none
def Gy(hg:Gl X "range")(hm:X.mg "range" = none)(ha:DA X [a] fs)(hs:starEach [a] X.env=[(false,eval a X.env)]:=by rfl):DI X tg (.Call (.Name "range" p) [a] [] pos) (fun δ=>(fs δ).bind Fl):=by
 obtain⟨t,p,k⟩:=ha;refine⟨_,R6 hg hm p hs,fun δ xs h G0 H0 G H σ ts R R0 q=>?_⟩;obtain⟨x,h1,h2⟩:=aA.mp h;refine k δ _ h1 G0 H0 G H σ ts _ R0 fun vs G' H' R' hv=>?_;obtain⟨d,R2⟩:=R'.args hv;unfold Fl at h2;split at h2
 ·split at h2
  ·cases h2;obtain⟨u,rfl,du⟩:=d.E1;rw[Du]at du;subst du;exact⟨_,rfl,by omega,by omega,q _ _ _ R2 S0⟩
  ·cases h2
 ·cases h2
def MY(hg:Gl X "range")(hm:X.mg "range" = none)(ha:DA X [a,b] fs)(hs:starEach [a,b] X.env=[(false,eval a X.env),(false,eval b X.env)]:=by rfl)(hs2:starEach [b] X.env=[(false,eval b X.env)]:=by rfl):DI X tg (.Call (.Name "range" p) [a,b] [] pos) (fun δ=>(fs δ).bind QD):=by
 obtain⟨t,p,k⟩:=ha;refine⟨_,SW hg hm p hs hs2,fun δ xs h G0 H0 G H σ ts R R0 q=>?_⟩;obtain⟨x,h1,h2⟩:=aA.mp h;refine k δ _ h1 G0 H0 G H σ ts _ R0 fun vs G' H' R' hv=>?_;obtain⟨d,R2⟩:=R'.args hv;unfold QD at h2;split at h2
 ·split at h2
  ·cases h2;obtain⟨u,v,rfl,du,dv⟩:=d.Wr;rw[Du]at du dv;subst du dv;exact⟨_,_,rfl,⟨by omega,by omega,by omega,by omega⟩,q _ _ _ R2 S0⟩
  ·cases h2
 ·cases h2
def Ql:List PD→Option (List PD)
 |[.list xs]=>some (Gp xs)
 |[.tuple xs]=>some (Gp xs)
 |_=>none
def Vw{elts:List Expr}{x1}{tpos:Pos}(hg:Gl X "enumerate")(hm:X.mg "enumerate" = none)(ha:DA X [a] fs)(hs:starEach [a] X.env=[(false,eval a X.env)]:=by rfl):DI X (.Tuple elts x1 tpos) (.Call (.Name "enumerate" p) [a] [] pos) (fun δ=>(fs δ).bind Ql):=by
 obtain⟨t,p,k⟩:=ha;refine⟨_,(Tj hg hm p hs).or (Vd hg hm p hs),fun δ xs h G0 H0 G H σ ts R R0 q=>?_⟩;obtain⟨x,h1,h2⟩:=aA.mp h;unfold Ql at h2;split at h2
 ·cases h2
  left
  refine k δ _ h1 G0 H0 G H σ ts _ R0 fun vs G' H' R' hv=>?_;obtain⟨d,R2⟩:=R'.args hv;obtain⟨u,rfl,du⟩:=d.E1;rw[Du]at du;obtain⟨a,ys,rfl,n1,n2⟩:=du;exact⟨a,rfl,⟨ys,A2.of (R2.ins _ _ n1)⟩,q _ _ _ R2 (Td n1 n2)⟩
 ·cases h2
  right
  refine k δ _ h1 G0 H0 G H σ ts _ R0 fun vs G' H' R' hv=>?_;obtain⟨d,R2⟩:=R'.args hv;obtain⟨u,rfl,du⟩:=d.E1;rw[Du]at du;obtain⟨a,ys,rfl,n1,n2⟩:=du;exact⟨a,rfl,⟨ys,BF.of (R2.ins _ _ n1)⟩,q _ _ _ R2 (S9 n1 n2)⟩
 ·cases h2
def Hn{G:Hp}{x:PD}{v:V}{xs:List PD}(h:Du G x v)(e:Es x=some xs):∃(b:Bool) (a:AD) (ys:List V),v=.ref a∧G a=some (if b then .tup ys else .lst ys)∧AZ G xs ys:=by
 unfold Es at e;split at e
 ·cases e;rw[Du]at h;obtain⟨a,ys,rfl,n1,n2⟩:=h;exact⟨false,a,ys,rfl,n1,n2⟩
 ·cases e;rw[Du]at h;obtain⟨a,ys,rfl,n1,n2⟩:=h;exact⟨true,a,ys,rfl,n1,n2⟩
 ·cases e
def DG(X:Cx)(tg:Expr)(set:PD→Dv→Option Dv):Prop:=∃g,PG X tg g∧∀δ x δ',set x δ=some δ'→∀G0 H0 G H σ v (Q:St→Hp→Prop),Rw G0 H0 G H σ δ [(x,v)]→(∀σ' G' H',Rw G0 H0 G' H' σ' δ' []→Q σ' H')→g v σ H Q
def Cn{i:Nat}{x:Str}(h:PG X (.Name x pos) (EA i)):DG X (.Name x pos) (fun y δ=>some (δ.set i (.d y))) :=
 ⟨_,h,fun δ y δ' e G0 H0 G H σ v Q R k=>by cases e;exact k _ _ _ R.Dx⟩
def Tp(i j:Nat)(y:PD)(δ:Dv):Option Dv:=match y with
 |.tuple [u,v]=>some ((δ.set i (.d u)).set j (.d v))
 |_=>none
def Y7{x y:Str}{i j:Nat}{px py:Pos}{k1}(h:PG X (.Tuple [.Name x px,.Name y py] k1 pos) (T1 X.K 2 (KD (EA i) (KD (EA j) UD)))):DG X (.Tuple [.Name x px,.Name y py] k1 pos) (Tp i j):=by
 refine⟨_,h,fun δ z δ' e G0 H0 G H σ v Q R k=>?_⟩;unfold Tp at e;split at e
 ·cases e;have du:=R.BA _ (.head _);rw[Du]at du;obtain⟨a,ys,rfl,n1,n2⟩:=du;obtain⟨w1,w2,rfl,m1,m2⟩:=n2.Wr;refine⟨a,[w1,w2],rfl,BF.of (R.ins _ _ n1),rfl,w1,[w2],rfl,w2,[],rfl,rfl,?_⟩;exact k _ _ _ (((R.drop.put m2).put m1).Dx.Dx)
 ·cases e
def GI(set:PD→Dv→Option Dv)(body:DF):List PD→Dv→Option Ou
 |[],δ=>some (.nx δ)
 |x::xs,δ=>match (set x δ).bind body with
  |some (.nx δ')=>GI set body xs δ'
  |some (.ct δ')=>GI set body xs δ'
  |some (.bk δ')=>some (.nx δ')
  |some (.rt v)=>some (.rt v)
  |some (.rn v)=>some (.rn v)
  |none=>none
def Cs{set:PD→Dv→Option Dv}(hp:PassesOwn (model X.prog X.w) X.A X.env X.xe)(hc:X.calm=true)(hi:DI X tg e fs)(hg:DG X tg set)(hb:LY X sts F)(hs:∀x,foldedSetIterable e X.env x=pure x:=by intro _;rfl) :
  DS X (.For tg e sts [] pos) (fun δ=>(fs δ).bind fun xs=>GI set F xs δ):=by
 obtain⟨wi,pi,ki⟩:=hi;obtain⟨g,pg,kg⟩:=hg;obtain⟨tb,pb,kb⟩:=hb;refine⟨_,R9 hp hc pi pg pb hs,fun δ r h G0 H0 G H σ D R q=>?_⟩;obtain⟨xs,h1,h2⟩:=aA.mp h;refine ki δ xs h1 G0 H0 G H σ [] _ R fun J Ga Ha Ra it=>?_;refine⟨fun i m σ' H'=>m=xs.length-i∧i≤xs.length∧∃δ' G',GI set F (xs.drop i) δ'=some r∧Rw G0 H0 G' H' σ' δ' []∧AI Ga G',⟨xs.length,by simp,Nat.zero_le _,δ,Ga,by simpa using h2,Ra,AI.refl _⟩,?_⟩;rintro i m σ1 H1 ⟨rfl,hi,δ1,G1,f1,R1,s1⟩;have sH:AI Ga H1:=s1.trans R1.ins;by_cases hlt:i<xs.length
 ·right
  have hx:xs[i]? = some xs[i]:=by simp[hlt]
  refine⟨it.go i _ H1 hx sH,fun σ' H'=>i+1≤xs.length∧∃δ' G',GI set F (xs.drop (i+1)) δ'=some r∧Rw G0 H0 G' H' σ' δ' []∧AI Ga G',fun σ' H' n=>⟨xs.length-(i+1),by omega,rfl,n⟩,fun x H' y=>?_⟩;obtain⟨G2,e1,e2,e3,e4,e5⟩:=it.Ex i _ H1 x H' hx sH y G1 s1 R1.ins;have R2:=(R1.lift e1 e2 e3 e4).put e5;have s2:=s1.trans e1;rw[List.drop_eq_getElem_cons hlt]at f1;unfold GI at f1;cases hb2:(set xs[i] δ1).bind F with
  |none=>rw[hb2]at f1;cases f1
  |some o =>
   obtain⟨δ2,k1,k2⟩:=aA.mp hb2;rw[hb2]at f1;have R2b:=R2.base;refine kg δ1 _ δ2 k1 G2 H0 G2 H' σ1 x _ R2b fun σ3 G3 H3 R3=>?_;refine kb δ2 o k2 G2 H0 G3 H3 σ3 _ R3 ?_;cases o with
   |nx δ3=>exact fun σ4 G4 H4 R4=>⟨hlt,δ3,G4,f1,R2.drop.N2 R4,s2.trans R4.ext⟩
   |ct δ3=>exact fun σ4 G4 H4 R4=>⟨hlt,δ3,G4,f1,R2.drop.N2 R4,s2.trans R4.ext⟩
   |bk δ3=>cases f1;exact fun σ4 G4 H4 R4=>q σ4 G4 H4 (R2.drop.N2 R4)
   |rt v=>cases f1;exact fun w G4 H4 h1 h2 h3 h4 h5=>q w G4 H4 (R2.ext.trans h1) (R2.new.trans h2) h3 h4 h5
   |rn v=>cases f1;exact fun w ys G4 H4 h1 h2=>q w ys G4 H4 (R2.ext.trans h1) (R2.new.trans h2)
 ·left
  have e:i=xs.length:=by omega
  subst e;refine⟨it.stop H1 sH,?_⟩;rw[List.drop_length]at f1;unfold GI at f1;cases f1;exact q _ _ _ R1
end
def tD(f:Dv→Option PD):TE:=fun σ H Q=>∃δ x G0 H0 G ts,f δ=some x∧Rw G0 H0 G H σ δ ts∧∀v G' H',Rw G0 H0 G' H' σ δ ((x,v)::ts)→Q v H'
def X7(f:Dv→Option Bool):TT:=fun σ H Q=>∃δ x G0 H0 G ts,f δ=some x∧Rw G0 H0 G H σ δ ts∧∀G' H',Rw G0 H0 G' H' σ δ ts→Q x H'
def DE.pe{X:Cx}{e:Expr}{f:Dv→Option PD}(h:DE X e f):PE X e (tD f):=by
 obtain⟨t,p,k⟩:=h;intro pins s σ H Q I q;obtain⟨δ,x,G0,H0,G,ts,h1,h2,h3⟩:=q;exact p pins s σ H Q I (k δ x h1 G0 H0 G H σ ts Q h2 h3)
def Uj(X:Cx)(ifs:List Expr)(f:Dv→Option Bool):Prop:=MJ X ifs (X7 f)
def F7{X:Cx}:Uj X [] (fun _=>some true):=by
 intro pins s σ H Q I q;obtain⟨δ,x,G0,H0,G,ts,h1,h2,h3⟩:=q;cases h1;exact WN pins s σ H Q I (h3 _ _ h2)
def DV(fr:List (Option Nat))(δ:Dv):Dv:=fr.map fun o=>match o with
 |some j=>(match δ[j]? with|some (.d x)=>.d x|_=>.no)
 |none=>.no
def Rw.inner{G0 H0 G H:Hp}{σ:St}{δ:Dv}{ts:List (PD×V)}(fr:List (Option Nat))(r:Rw G0 H0 G H σ δ ts):Rw G H G H (carry fr σ) (DV fr δ) ts:=by
 have key:∀(i:Nat) (l:L),(DV fr δ)[i]? = some l→∃o,fr[i]? = some o∧l=(match o with|some j=>(match δ[j]? with|some (.d x)=>.d x|_=>.no)|none=>.no):=fun i l h=>by
  unfold DV at h;rw[List.getElem?_map]at h;obtain⟨o,h1,rfl⟩:=aE.mp h;exact⟨o,h1,rfl⟩
 have noown:∀(i:Nat) (xs:Oc),(DV fr δ)[i]?≠some (L.own xs):=fun i xs h=>by
  obtain⟨o,_,h2⟩:=key i _ h;split at h2
  ·split at h2<;>cases h2
  ·cases h2
 refine⟨AI.refl _,Nw.refl,r.ins,AI.refl _,by simp[carry,DV],fun i x h=>?_,fun i xs h=>absurd h (noown i xs),fun i j xs ys _ h=>absurd h (noown i xs),r.BA⟩;obtain⟨o,h1,h2⟩:=key i _ h;split at h2
 ·rename_i j;split at h2
  ·rename_i y hy;cases h2;obtain⟨v,k1,k2⟩:=r.dat j _ hy;refine⟨v,?_,k2⟩;unfold carry;rw[List.getElem?_map,h1];simp[k1]
  ·cases h2
 ·cases h2
def Rw.other{G0 H0 G H:Hp}{σ:St}{δ:Dv}{ts:List (PD×V)}{D:AD}{o:HO}(r:Rw G0 H0 G H σ δ ts)(hG:G D=none)(h0:H0 D=none)(ho:∀(i:Nat) (xs:Oc),δ[i]? = some (L.own xs)→σ[i]?≠some (some (V.ref D))):Rw G0 H0 G (upd H D o) σ δ ts:=by
 refine⟨r.ext,r.new,fun a u h=>?_,fun a u h=>?_,r.len,r.dat,fun i xs h=>?_,r.apart,r.BA⟩
 ·rw[AH (fun z=>by subst z;rw[hG]at h;cases h)];exact r.ins _ _ h
 ·rw[AH (fun z=>by subst z;rw[h0]at h;cases h)];exact r.keep _ _ h
 ·obtain⟨a,ys,k1,k2,k3,k4,k5⟩:=r.own i xs h;exact⟨a,ys,k1,k2,k3,by rw[AH (fun z=>by subst z;exact ho i xs h k1)];exact k4,k5⟩
def Rw.adopt{G0 H0 G H:Hp}{σ:St}{δ:Dv}{ts:List (PD×V)}{D:AD}{ys:List V}(r:Rw G0 H0 G H σ δ ts)(hD:H D=some (.lst ys))(hG:G D=none)(h0:H0 D=none)(ho:∀(i:Nat) (xs:Oc),δ[i]? = some (L.own xs)→σ[i]?≠some (some (V.ref D))):Rw G0 H0 (upd G D (.lst ys)) H σ δ ts:=by
 have e:AI G (upd G D (.lst ys)):=BQ hG _;refine⟨r.ext.trans e,fun a u h=>?_,fun a u h=>?_,r.keep,r.len,fun i x h=>?_,fun i xs h=>?_,r.apart,fun q hq=>(r.BA q hq).same e⟩
 ·by_cases ha:a=D
  ·subst ha;exact .inr (.inl h0)
  ·rw[AH ha]at h;exact r.new _ _ h
 ·by_cases ha:a=D
  ·subst ha;rw[AX]at h;rw[hD];exact h
  ·rw[AH ha]at h;exact r.ins _ _ h
 ·obtain⟨v,k1,k2⟩:=r.dat i x h;exact⟨v,k1,k2.same e⟩
 ·obtain⟨a,zs,k1,k2,k3,k4,k5⟩:=r.own i xs h;have ha:a≠D:=fun z=>by subst z;exact ho i xs h k1
  exact⟨a,zs,k1,by rw[AH ha];exact k2,k3,k4,k5.same e⟩
def Lu(set:PD→Dv→Option Dv)(tif:Dv→Option Bool)(f:Dv→Option PD)(δ:Dv)(x:PD):Option (Option PD) :=
 (set x δ).bind fun δ1=>(tif δ1).bind fun b=>if b=true then(f δ1).map some else some none
def collect(one:PD→Option (Option PD)):List PD→Option (List PD)
 |[]=>some []
 |x::xs=>(one x).bind fun o=>(collect one xs).map fun r=>o.toList++r
def Eg(set:PD→Dv→Option Dv)(tif:Dv→Option Bool)(f:Dv→Option PD)(fr:List (Option Nat))(fs:Dv→Option (List PD))(δ:Dv):Option (List PD) :=
 (fs δ).bind fun xs=>(collect (Lu set tif f (DV fr δ)) xs).bind He
def IZ(set:PD→Dv→Option Dv)(tif:Dv→Option Bool)(f:Dv→Option PD)(fr:List (Option Nat))(fs:Dv→Option (List PD))(δ:Dv):Option PD :=
 (Eg set tif f fr fs δ).map .list
structure VZ(G0 H0 Ga:Hp)(σ:St)(δ:Dv)(ts:List (PyData×V))(one:PyData→Option (Option PyData))(xs full:List PyData)(D:Addr)(i:Nat)(ys:List V)(H:Hp):Prop where
 ex:∃G done rest,Rw G0 H0 G H σ δ ts∧AI Ga G∧G D=none∧collect one (xs.drop i)=some rest∧done++rest=full∧AZ G done ys
 h0:H0 D=none
 ap:∀(j:Nat) (us:Oc),δ[j]? = some (L.own us)→σ[j]?≠some (some (V.ref D))
def Ue{G0 H0 G H:Hp}{D:AD}{ys:List V}(hG:G0 D=none)(hD:H0 D=some (.lst ys))(n:Nw G0 H0 G)(e:AI G H)(k:AI H0 H):G D=none:=by
 cases q:G D with
 |none=>rfl
 |some o =>
  rcases n _ _ q with z|z|⟨us,z⟩
  ·rw[hG]at z;cases z
  ·rw[hD]at z;cases z
  ·have:=e _ _ q;rw[k _ _ hD,z]at this;cases this
section
variable{X:Cx}{elt iter:Expr}{x y:Str}{px py tp pos:Pos}{tk:Nat}{ifs:List Expr}{scope:Scope}{fs:Dv→Option (List PD)}{tif:Dv→Option Bool}{f:Dv→Option PD}
def Dc(i:Nat)(y:PD)(δ:Dv):Option Dv:=some (δ.set i (.d y))
def Ip{wi:TI}{ix:Nat}{fr:List (Option Nat)}(ki:∀(δ:Dv) (xs:List PD),fs δ=some xs→∀(G0 H0 G H:Hp) (σ:St) (ts:List (PD×V)) (R:It→Hp→Prop),Rw G0 H0 G H σ δ ts→(∀J G' H',Rw G0 H0 G' H' σ δ ts→IJ J xs G'→R J H')→wi σ H R){δ:Dv}{zs:List PD}(hz:Eg (Dc ix) tif f fr fs δ=some zs){G0 H0 G H:Hp}{σ:St}{ts:List (PD×V)}{Q:VK}(R0:Rw G0 H0 G H σ δ ts)(k:∀D ys G' H',Rw G0 H0 G' H' σ δ ts→H' D=some (.lst ys)→G' D=none→H0 D=none→(∀(j:Nat) (us:Oc),δ[j]? = some (L.own us)→σ[j]?≠some (some (V.ref D)))→AZ G' zs ys→Q (.ref D) H') :
  J7 wi fr ix (X7 tif) (tD f) σ H Q:=by
 unfold Eg at hz;obtain⟨xs,m2,m3⟩:=aA.mp hz;obtain⟨full,m4,m5⟩:=aA.mp m3;obtain⟨rfl,hfew⟩:=LF m5;refine ki δ xs m2 G0 H0 G H σ ts _ R0 fun J Ga Ha Ra it D hD=>?_;have hGD:Ga D=none:=by
  cases q:Ga D with
  |none=>rfl
  |some u=>rw[Ra.ins _ _ q]at hD;cases hD
 have hHD:H0 D=none:=by
  cases q:H0 D with
  |none=>rfl
  |some u=>rw[Ra.keep _ _ q]at hD;cases hD
 have hap:∀(j:Nat) (us:Oc),δ[j]? = some (L.own us)→σ[j]?≠some (some (V.ref D)):=fun j us h z=>by
  obtain⟨a,ys,k1,k2,k3,k4,k5⟩:=Ra.own j us h;rw[z]at k1;cases k1;rw[k4]at hD;cases hD
 refine V2 (n:=xs.length) (VZ G0 H0 Ga σ δ ts (Lu (Dc ix) tif f (DV fr δ)) xs full D) ⟨⟨Ga,[],full,Ra.other hGD hHD hap,AI.refl _,hGD,by simpa using m4,rfl,.nil⟩,hHD,hap⟩ ?_ ?_
 ·rintro i ys H1 hlt ⟨⟨G1,done,rest,R1,s1,g1,c1,e1,d1⟩,_,_⟩ hD1;have hx:xs[i]? = some xs[i]:=by simp[hlt]
  have sH:=s1.trans R1.ins;have hyl:ys.length<sizeLine:=Ph (by
   rw[d1.len];have:done.length≤full.length:=by rw[←e1];simp
   omega)
  refine⟨it.go i _ H1 hx sH,hyl,fun v H' y=>?_⟩;obtain⟨G2,n1,n2,n3,n4,n5⟩:=it.Ex i _ H1 v H' hx sH y G1 s1 R1.ins;have R2:=R1.lift n1 n2 n3 n4;have hD2:=n4 _ _ hD1;have g2:G2 D=none:=Ue g1 hD1 n2 n3 n4;rw[List.drop_eq_getElem_cons hlt]at c1;unfold collect at c1;obtain⟨o,c2,c3⟩:=aA.mp c1;obtain⟨rest',c4,rfl⟩:=aE.mp c3;unfold Lu Dc at c2;simp only[Option.bind_some]at c2;obtain⟨b,c5,c6⟩:=aA.mp c2;have Ri:=((R2.inner fr).put n5).Dx (i:=ix);have Ri0:Rw G2 H' G2 H' ((carry fr σ).set ix (some v)) ((DV fr δ).set ix (.d xs[i])) []:=Ri.less fun q hq=>by cases hq
  refine⟨_,b,G2,H',G2,[],c5,Ri0,fun G3 H3 R3=>?_⟩;have R3o:=R2.lift R3.ext R3.new R3.ins R3.keep;have hD3:=R3.keep _ _ hD2;have g3:G3 D=none:=Ue g2 hD2 R3.new R3.ins R3.keep;dsimp only;split
  ·rename_i hb;rw[if_pos hb]at c6;obtain⟨w,c7,rfl⟩:=aE.mp c6;refine⟨_,w,G2,H',G3,[],c7,R3,fun u G4 H4 R4=>?_⟩;have R4o:=R2.lift R4.ext R4.new R4.ins R4.keep;have hD4:=R4.keep _ _ hD2;have g4:G4 D=none:=Ue g2 hD2 R4.new R4.ins R4.keep;refine⟨hD4,WS hlt ⟨⟨G4,done++[w],rest',R4o.other g4 hHD hap,s1.trans (n1.trans R4.ext),g4,c4,by simpa using e1,(d1.same (n1.trans R4.ext)).app (.cons (R4.BA _ (.head _)) .nil)⟩,hHD,hap⟩⟩
  ·rename_i hb;rw[if_neg hb]at c6;cases c6;exact WK hlt hD3 ⟨⟨G3,done,rest',R3o,s1.trans (n1.trans R3.ext),g3,c4,by simpa using e1,d1.same (n1.trans R3.ext)⟩,hHD,hap⟩
 ·rintro ys H1 ⟨⟨G1,done,rest,R1,s1,g1,c1,e1,d1⟩,_,_⟩ hD1;refine⟨it.stop H1 (s1.trans R1.ins),?_⟩;rw[List.drop_length]at c1;cases c1;rw[List.append_nil]at e1;subst e1;exact k _ _ _ _ R1 hD1 g1 hHD hap d1
def SX{wi:TI}{ix:Nat}{fr:List (Option Nat)}(ki:∀(δ:Dv) (xs:List PD),fs δ=some xs→∀(G0 H0 G H:Hp) (σ:St) (ts:List (PD×V)) (R:It→Hp→Prop),Rw G0 H0 G H σ δ ts→(∀J G' H',Rw G0 H0 G' H' σ δ ts→IJ J xs G'→R J H')→wi σ H R){δ:Dv}{z:PD}(hz:IZ (Dc ix) tif f fr fs δ=some z){G0 H0 G H:Hp}{σ:St}{ts:List (PD×V)}{Q:VK}(R0:Rw G0 H0 G H σ δ ts)(k:∀v G' H',Rw G0 H0 G' H' σ δ ((z,v)::ts)→Q v H') :
  J7 wi fr ix (X7 tif) (tD f) σ H Q:=by
 unfold IZ at hz;obtain⟨full,m1,rfl⟩:=aE.mp hz;refine Ip ki m1 R0 fun D ys G1 H1 R1 hD1 g1 hHD hap d1=>?_;have e:AI G1 (upd G1 D (.lst ys)):=BQ g1 _;have R2:=R1.adopt hD1 g1 hHD hap;refine k _ _ _ (R2.put ?_);rw[Du];exact⟨D,ys,rfl,AX,d1.same e⟩
def Jy(N:List Str)(ix:Nat)(fr:List (Option Nat))(hi:DI X (.Name x px) iter fs)(hif:∀cl C s₀ H₀ fp,Uj (Aw X scope cl N C s₀ H₀ fp) ifs tif)(he:∀cl C s₀ H₀ fp,DE (Aw X scope cl N C s₀ H₀ fp) elt f)
 (h1:Cd scope N x ix=true:=by decide +kernel)(h2:X.calm=true:=by rfl)(h3:EV N X.N scope X.env.scope fr 0=true:=by rfl)(h4:fr.length=N.length:=by rfl)(h5:freeOk X.env.scope scope.names=true:=by rfl)
 (hs:∀x,foldedSetIterable iter X.env x=pure x:=by intro _;rfl):DE X (.ListComp elt [⟨.Name x px,iter,ifs,0⟩] scope pos) (IZ (Dc ix) tif f fr fs):=by
 obtain⟨wi,pi,ki⟩:=hi;exact⟨_,OP N ix fr pi hif (fun cl C s₀ H₀ fp=>(he cl C s₀ H₀ fp).pe) h1 h2 h3 h4 h5 hs,fun δ z hz G0 H0 G H σ ts Q R0 k=>SX ki hz R0 k⟩
end
section
variable{X:Cx}{elt iter:Expr}{x y:Str}{px py tp pos:Pos}{tk:Nat}{ifs:List Expr}{scope:Scope}{fs:Dv→Option (List PD)}{tif:Dv→Option Bool}{f:Dv→Option PD}
def Fb(N:List Str)(ds:List PD):Dv:=ds.map .d++List.replicate (N.length-ds.length) .no
def CQ(ps N:List Str)(F:DF)(ds:List PD):Option PD:=if ds.length=ps.length then(match F (Fb N ds) with
 |some (.rt x)=>some x
 |some (.nx _)=>some .none
 |some (.rn xs)=>some (.list xs)
 |_=>none) else none
def Rw.start{N:List Str}{ds:List PD}{vs:List V}{G H:Hp}(d:AZ G ds vs)(e:AI G H):Rw G H G H (start N vs) (Fb N ds) []:=by
 have hl:=d.len;refine⟨AI.refl _,Nw.refl,e,AI.refl _,by simp[L2.start,Fb,hl],fun i x h=>?_,fun i xs h=>?_,fun i j xs ys _ h=>?_,fun q hq=>by cases hq⟩
 ·unfold Fb at h;by_cases hi:i<ds.length
  ·rw[List.getElem?_append_left (by simpa using hi),List.getElem?_map]at h;obtain⟨y,h1,h2⟩:=aE.mp h;cases h2;obtain⟨v,h3,h4⟩:=d.get h1;refine⟨v,?_,h4⟩;unfold L2.start;rw[List.getElem?_append_left (by simp;omega),List.getElem?_map,h3];rfl
  ·rw[List.getElem?_append_right (by simpa using hi),List.getElem?_replicate]at h;split at h<;>cases h
 ·unfold Fb at h;by_cases hi:i<ds.length
  ·rw[List.getElem?_append_left (by simpa using hi),List.getElem?_map]at h;obtain⟨y,h1,h2⟩:=aE.mp h;cases h2
  ·rw[List.getElem?_append_right (by simpa using hi),List.getElem?_replicate]at h;split at h<;>cases h
 ·unfold Fb at h;by_cases hi:i<ds.length
  ·rw[List.getElem?_append_left (by simpa using hi),List.getElem?_map]at h;obtain⟨y,h1,h2⟩:=aE.mp h;cases h2
  ·rw[List.getElem?_append_right (by simpa using hi),List.getElem?_replicate]at h;split at h<;>cases h
def Uk{G H G' H':Hp}{a:AD}{ys:List V}{xs:List PD}(m1:AI G G')(m2:Nw G H G')(m3:AI G' H')(m5:H a=none)(m6:G' a=none)(m7:H' a=some (.lst ys))(m8:AZ G' xs ys) :
  AI G (upd G' a (.lst ys))∧Nw G H (upd G' a (.lst ys))∧AI (upd G' a (.lst ys)) H'∧Du (upd G' a (.lst ys)) (.list xs) (.ref a):=by
 refine⟨m1.trans (BQ m6 _),fun b o hb=>?_,fun b o hb=>?_,?_⟩
 ·by_cases z:b=a
  ·subst z;exact .inr (.inl m5)
  ·rw[AH z]at hb;exact m2 _ _ hb
 ·by_cases z:b=a
  ·subst z;rw[AX]at hb;rw[m7];exact hb
  ·rw[AH z]at hb;exact m3 _ _ hb
 ·rw[Du];exact⟨a,ys,rfl,AX,m8.same (BQ m6 _)⟩
def GH{P:Program}{w:World}{K:Fg}{mg:Str→Option VL}{base:Heap}{x:Str}{st:Stmt}{fA:AD}{fd:FuncData}{N ps:List Str}{k:Nat}{F:DF}(T:Fn K mg x st ps fA fd)(S:Aj N ps (AL st))
 (hb:∀(cdv:VL) (A:Around) (outer:List Env) (s:SD) (H:Hp) (E:XK),B5 k (A.deeper (envOfC x (AL st) s.heap.objs.size fA cdv))→LY (Bo A6 P w K mg base N x (AL st) fA cdv A outer s H E).G8 (CD st) F) :
  AM P w K mg base A6 (k+1) fA fd ps (Ba (CQ ps N F)):=by
 refine T.F.ok S (fun vs H Q E h=>?_) fun cdv A outer s H vs Q E hr h=>?_
 ·obtain⟨ds,y,G,h1,h2,_⟩:=h;unfold CQ at h1;split at h1
  ·rename_i hl;rw[h2.len];exact hl
  ·cases h1
 ·obtain⟨ds,y,G,h1,h2,h3,h4⟩:=h;obtain⟨t,p,kk⟩:=hb cdv A outer s H E hr;refine⟨t,p,?_⟩;unfold CQ at h1;split at h1
  ·split at h1
   ·rename_i z e1;cases h1;exact kk _ _ e1 G H G H _ _ (Rw.start h2 h3) fun v G' H' m1 m2 m3 m4 m5=>h4 v G' H' m1 m2 m3 m4 m5
   ·rename_i δ e1;cases h1;exact kk _ _ e1 G H G H _ _ (Rw.start h2 h3) fun σ' G' H' R=>h4 .Ao G' H' R.ext R.new R.ins R.keep (by rw[Du])
   ·rename_i xs e1;cases h1;exact kk _ _ e1 G H G H _ _ (Rw.start h2 h3) fun a ys G' H' m1 m2 m3 m4 m5 m6 m7 m8=>let⟨n1,n2,n3,n4⟩:=Uk m1 m2 m3 m5 m6 m7 m8;h4 _ _ H' n1 n2 n3 m4 n4
   ·cases h1
  ·cases h1
end
section
variable{X:Cx}{tg a b c e:Expr}{es:List Expr}{f g h:Dv→Option PD}{fs:Dv→Option (List PD)}{fa:Dv→Option Bool}{pos p p2:Pos}{st:Stmt}{sts sts':List Stmt}{F F1 F2:DF}
def N8{x:Str}{i:Int}{tk:Tok}(hg:Gl X x)(hm:X.mg x=some (.int i tk))(hd:(x==("__debug__" : Str))=false:=by decide):DE X (.Name x pos) (fun _=>some (.int i)) :=
 ⟨_,L3 (v:=.int i) hg hm ⟨tk,rfl⟩ hd,fun δ x h G0 H0 G H σ ts Q r k=>by cases h;exact k _ _ _ (r.put (by rw[Du]))⟩
def DO(X:Cx)(o:Option Expr)(f:Dv→Option (Option Int)):Prop:=∃t,PO X o t∧∀δ x,f δ=some x→∀G0 H0 G H σ ts (Q:Option Int→Hp→Prop),Rw G0 H0 G H σ δ ts→(∀G' H',Rw G0 H0 G' H' σ δ ts→Q x H')→t σ H Q
variable{fo fu:Dv→Option (Option Int)}{lo hi:Option Expr}
def Jz:DO X none (fun _=>some none):=⟨_,VQ,fun δ x h G0 H0 G H σ ts Q r k=>by cases h;exact k _ _ r⟩
def J4(he:DE X e f):DO X (some e) (fun δ=>(f δ).bind fun x=>(LU x).map some):=by
 obtain⟨t,p,k⟩:=he;refine⟨_,Vg p,fun δ z h G0 H0 G H σ ts Q r q=>?_⟩;obtain⟨x,h1,h2⟩:=aA.mp h;obtain⟨i,h3,rfl⟩:=aE.mp h2;have:=LQ h3;subst this;refine k δ _ h1 G0 H0 G H σ ts _ r fun v G' H' R'=>?_;have hv:=R'.BA _ (.head _);rw[Du]at hv;exact⟨i,hv,q _ _ R'.drop⟩
def cutD(xs:List PD)(lo hi:Option Int):List PD:=(xs.drop (HT.A8 xs.length 0 lo)).take (HT.A8 xs.length xs.length hi-HT.A8 xs.length 0 lo)
def AZ.cut{H:Hp}{ds:List PD}{xs:List V}(h:AZ H ds xs)(lo hi:Option Int):AZ H (cutD ds lo hi) (Jg xs lo hi):=by
 unfold cutD Jg;rw[h.len];exact(h.drop _).take _
def T8(x:PD)(lo hi:Option Int):Option PD:=match x with
 |.list xs=>some (.list (cutD xs lo hi))
 |.tuple xs=>if ¬(HT.A8 xs.length 0 lo=0∧HT.A8 xs.length xs.length hi=xs.length) then some (.tuple (cutD xs lo hi)) else none
 |_=>none
def Ii(he:DE X e f)(hl:DO X lo fo)(hh:DO X hi fu):DE X (.Subscript e (.Slice lo hi none p2) pos) (fun δ=>(f δ).bind fun x=>(fo δ).bind fun l=>(fu δ).bind fun u=>T8 x l u):=by
 obtain⟨te,pe,ke⟩:=he;obtain⟨tl,pl,kl⟩:=hl;obtain⟨th,ph,kh⟩:=hh;refine⟨_,Te (VT.or YX) pe pl ph,fun δ z hz G0 H0 G H σ ts Q R0 k=>?_⟩;obtain⟨x,h1,h2⟩:=aA.mp hz;obtain⟨l,h3,h4⟩:=aA.mp h2;obtain⟨u,h5,h6⟩:=aA.mp h4;refine ke δ x h1 G0 H0 G H σ ts _ R0 fun v G1 H1 R1=>?_;refine kl δ l h3 G0 H0 G1 H1 σ _ _ R1 fun G2 H2 R2=>?_;refine kh δ u h5 G0 H0 G2 H2 σ _ _ R2 fun G3 H3 R3=>?_;have du:=R3.BA _ (.head _);unfold T8 at h6;split at h6
 ·cases h6;rw[Du]at du;obtain⟨a,ys,rfl,n1,n2⟩:=du;exact .inl ⟨a,ys,rfl,A2.of (R3.ins _ _ n1),fun q hq=>k _ _ _ (R3.drop.Ji (n2.cut l u) hq)⟩
 ·split at h6
  ·rename_i hc;cases h6;rw[Du]at du;obtain⟨a,ys,rfl,n1,n2⟩:=du;exact .inr ⟨a,ys,rfl,BF.of (R3.ins _ _ n1),by rw[n2.len];exact hc,fun q hq=>k _ _ _ (R3.drop.TY (n2.cut l u) hq)⟩
  ·cases h6
 ·cases h6
def NG:List PD→Option (List Int)
 |[]=>some []
 |.int i::r=>(NG r).map fun l=>i::l
 |_::_=>none
def AZ.ints{H:Hp}:∀ {ds:List PD} {xs:List V} {ns:List Int},AZ H ds xs→NG ds=some ns→xs=ns.map V.int
 |[],xs,ns,h,e=>by cases e;rw[h.nil_eq];rfl
 |.int i::r,xs,ns,h,e=>by
  unfold NG at e;obtain⟨l,h1,rfl⟩:=aE.mp e;obtain⟨x,q,rfl,k1,k2⟩:=h.un;rw[Du]at k1;subst k1;rw[List.map_cons,k2.ints h1]
 |.none::_,_,_,_,e=>by cases e
 |.bool _::_,_,_,_,e=>by cases e
 |.str _::_,_,_,_,e=>by cases e
 |.tuple _::_,_,_,_,e=>by cases e
 |.list _::_,_,_,_,e=>by cases e
 |.dict _::_,_,_,_,e=>by cases e
def Qw:MD
 |[.list xs]=>(NG xs).map fun ns=>.int ns.sum
 |[.tuple xs]=>(NG xs).map fun ns=>.int ns.sum
 |_=>none
def Sl(hc:X.calm=true):Ik X (.builtin "sum") Qw:=by
 refine⟨_,(Tn hc).or (RX hc),fun xs z hz G0 H0 G H σ δ ts us Q R0 d k=>?_⟩;unfold Qw at hz;split at hz
 ·obtain⟨ns,h1,rfl⟩:=aE.mp hz;obtain⟨u,rfl,du⟩:=d.E1;rw[Du]at du;obtain⟨q,ys,rfl,h4,h5⟩:=du;refine .inl ⟨q,ns,rfl,by rw[←h5.ints h1];exact A2.of (R0.ins _ _ h4),k _ _ _ (R0.put (by rw[Du]))⟩
 ·obtain⟨ns,h1,rfl⟩:=aE.mp hz;obtain⟨u,rfl,du⟩:=d.E1;rw[Du]at du;obtain⟨q,ys,rfl,h4,h5⟩:=du;refine .inr ⟨q,ns,rfl,by rw[←h5.ints h1];exact BF.of (R0.ins _ _ h4),k _ _ _ (R0.put (by rw[Du]))⟩
 ·cases hz
end
open PySem
abbrev fC(x:PD):Dv→Option PD:=fun _=>some x
abbrev bw(f:Dv→Option PD):Dv→Option PD:=fun δ=>(f δ).bind fun x=>(LU x).map fun i=>.int (-i)
abbrev XM(f g:Dv→Option PD):Dv→Option PD:=fun δ=>(f δ).bind fun x=>(Jb x).bind fun c=>if c=true then g δ else some (.bool false)
abbrev AF:Dv→Option (List PD):=fun _=>some []
abbrev AB(f:Dv→Option PD)(fs:Dv→Option (List PD)):Dv→Option (List PD):=fun δ=>(f δ).bind fun x=>(fs δ).map fun xs=>x::xs
abbrev CL(fs:Dv→Option (List PD)):Dv→Option PD:=fun δ=>((fs δ).bind He).map .tuple
abbrev Ni(fs:Dv→Option (List PD)):Dv→Option PD:=fun δ=>((fs δ).bind He).map .list
abbrev AK(m:MD)(fs:Dv→Option (List PD)):Dv→Option PD:=fun δ=>(fs δ).bind m
abbrev Y2(q:PD→Bool)(f:Dv→Option PD):Dv→Option PD:=fun δ=>(f δ).bind (P7 q)
abbrev Sj(i:Nat)(g:Dv→Option PD):Dv→Option PD:=fun δ=>(g δ).bind fun y=>(ow i δ).bind fun xs=>(LU y).bind fun k=>D6 xs k
abbrev Mx:Dv→Option (Option Int):=fun _=>some none
abbrev M1(f:Dv→Option PD):Dv→Option (Option Int):=fun δ=>(f δ).bind fun x=>(LU x).map some
abbrev QS(f:Dv→Option PD)(fo fu:Dv→Option (Option Int)):Dv→Option PD:=fun δ=>(f δ).bind fun x=>(fo δ).bind fun l=>(fu δ).bind fun u=>T8 x l u
abbrev OX(f:Dv→Option PD):Dv→Option Bool:=fun δ=>(f δ).bind Jb
abbrev CH(o:PD→PD→Option PD)(f g:Dv→Option PD):Dv→Option Bool:=fun δ=>(AQ o f g δ).bind Jb
abbrev UL(f:Dv→Option Bool):Dv→Option Bool:=fun δ=>(f δ).map fun c=>!c
abbrev QF(f g:Dv→Option Bool):Dv→Option Bool:=fun δ=>(f δ).bind fun c=>if c=true then g δ else some false
abbrev Pr(f g:Dv→Option Bool):Dv→Option Bool:=fun δ=>(f δ).bind fun c=>if c=true then some true else g δ
abbrev FG(f:Dv→Option PD):Dv→Option (List PD):=fun δ=>(f δ).bind Es
abbrev Cg(m:List PD→Option (List PD))(fs:Dv→Option (List PD)):Dv→Option (List PD):=fun δ=>(fs δ).bind m
abbrev IH:Dv→Option Bool:=fun _=>some true
abbrev EG(i:Nat):PD→Dv→Option Dv:=fun y δ=>some (δ.set i (.d y))
abbrev Ee:DF:=fun δ=>some (.nx δ)
abbrev CP(f:Dv→Option PD):DF:=fun δ=>(f δ).map .rt
abbrev Hd(c:Dv→Option Bool)(F G:DF):DF:=fun δ=>(c δ).bind fun c=>if c=true then F δ else G δ
abbrev BW(i:Nat)(f:Dv→Option PD):DF:=fun δ=>(f δ).map fun y=>.nx (δ.set i (.d y))
abbrev UR(i:Nat)(fs:Dv→Option (List PD)):DF:=fun δ=>((fs δ).bind He).map fun ys=>.nx (δ.set i (.own (.lst ys)))
abbrev b0(i:Nat)(f:Dv→Option PD):DF:=fun δ=>(f δ).bind fun y=>(ow i δ).bind fun xs=>if xs.length<Cj then some (.nx (δ.set i (.own (.lst (xs++[y]))))) else none
abbrev Xw(i:Nat)(f:Dv→Option PD):DF:=fun δ=>(f δ).bind fun y=>(ow i δ).bind fun xs=>match y with|.list zs=>(if xs.length+zs.length≤Cj then some (.nx (δ.set i (.own (.lst (xs++zs))))) else none)|_=>none
abbrev DH(fs:Dv→Option (List PD))(set:PD→Dv→Option Dv)(F:DF):DF:=fun δ=>(fs δ).bind fun xs=>GI set F xs δ
abbrev T5(i:Nat)(F:DF):DF:=fun δ=>F (DP i δ)
def Dg{P:Program}{w:World}{K:Fg}{mg:Str→Option VL}{base:Heap}{CX:FX}{k:Nat}{f:AD}{fd:FuncData}{ps:List Str}{sp:Sp}(h:∀vs H Q E,¬sp vs H Q E):AM P w K mg base CX k f fd ps sp :=
 ⟨fun _ _ _ _ z=>(h _ _ _ _ z).elim,fun _ _ _ _ _ _ _ _ _ _ _ _ _ z=>(h _ _ _ _ z).elim⟩
def O1{P:Program}{w:World}{K:Fg}{mg:Str→Option VL}{base:Heap}{CX:FX}{k:Nat}{f:AD}{fd:FuncData}{ps:List Str}{sp:Sp}{m:MD}(F:AM P w K mg base CX k f fd ps sp)
 (h:∀ds x,m ds=some x→∀(G H:Hp) (vs:List V) (Q:VK) (E:XK),AZ G ds vs→AI G H→(∀v G' H',AI G G'→Nw G H G'→AI G' H'→AI H H'→Du G' x v→Q v H')→sp vs H Q E):AM P w K mg base CX k f fd ps (Ba m) :=
 F.imp fun vs H Q E z=>by
  obtain⟨ds,x,G,h1,h2,h3,h4⟩:=z;exact h ds x h1 G H vs Q E h2 h3 h4
def Bu(G H:Hp):Hp:=fun a=>match H a with
 |some (.tup xs)=>some (.tup xs)
 |_=>G a
def TN{G H:Hp}{a:AD}{xs:List V}(h:H a=some (.tup xs)):Bu G H a=some (.tup xs):=by unfold Bu;rw[h]
section
variable{G0 H0 G H:Hp}{σ:St}{δ:Dv}{ts:List (PD×V)}
def Rw.Bu(r:Rw G0 H0 G H σ δ ts):Rw G0 H0 (L2.Bu G H) H σ δ ts:=by
 have e:AI G (L2.Bu G H):=fun a o h=>by
  unfold L2.Bu;split
  ·rename_i xs hx;rw[r.ins _ _ h]at hx;exact hx.symm ▸ rfl
  ·exact h
 refine⟨r.ext.trans e,fun a o h=>?_,fun a o h=>?_,r.keep,r.len,fun i x h=>?_,fun i xs h=>?_,r.apart,fun q hq=>(r.BA q hq).same e⟩
 ·unfold L2.Bu at h;split at h
  ·cases h;exact .inr (.inr ⟨_,rfl⟩)
  ·exact r.new _ _ h
 ·unfold L2.Bu at h;split at h
  ·rename_i xs hx;rw[hx];exact h
  ·exact r.ins _ _ h
 ·obtain⟨v,k1,k2⟩:=r.dat i x h;exact⟨v,k1,k2.same e⟩
 ·obtain⟨a,ys,k1,k2,k3,k4,k5⟩:=r.own i xs h;refine⟨a,ys,k1,?_,k3,k4,k5.same e⟩;unfold L2.Bu;rw[k4];split
  ·rename_i q;cases q;exact k5.NX.elim
  ·exact k2
end
def JW{G:Hp}:∀ {t:Tr} {xs:List V},AZ G (B8 t) xs→Ts G t xs
 |.nil,xs,h=>by rw[B8]at h;rw[Ts];exact h.nil_eq
 |.cons b r,xs,h=>by
  rw[B8]at h;obtain⟨x,q,rfl,h1,h2⟩:=h.un;rw[Du]at h1;obtain⟨a,ys,rfl,h3,h4⟩:=h1;rw[Ts];exact⟨a,ys,q,rfl,h3,JW h4,JW h2⟩
def JV{G H:Hp}:∀ {t:Tr} {xs:List V},Ts H t xs→AZ (Bu G H) (B8 t) xs
 |.nil,xs,h=>by rw[Ts]at h;rw[B8,h];exact .nil
 |.cons b r,xs,h=>by
  rw[Ts]at h;obtain⟨a,ys,zs,rfl,h1,h2,h3⟩:=h;rw[B8];refine .cons ?_ (JV h3);rw[Du];exact⟨a,ys,rfl,TN h1,JV h2⟩
mutual
def JI:∀ {ds:List PD} {t:Tr},Gz ds=some t→ds=B8 t
 |[],t,h=>by rw[Gz]at h;cases h;rw[B8]
 |d::ds,t,h=>by
  rw[Gz]at h;obtain⟨b,h1,h2⟩:=aA.mp h;obtain⟨r,h3,rfl⟩:=aE.mp h2;rw[B8,←WC h1,←JI h3]
def WC:∀ {d:PD} {t:Tr},IV d=some t→d=.tuple (B8 t)
 |.tuple ds,t,h=>by rw[IV]at h;rw[JI h]
 |.none,_,h=>by simp[IV]at h
 |.bool _,_,h=>by simp[IV]at h
 |.int _,_,h=>by simp[IV]at h
 |.str _,_,h=>by simp[IV]at h
 |.list _,_,h=>by simp[IV]at h
 |.dict _,_,h=>by simp[IV]at h
end
def X1(rev:Bool)(t:Tr):Option PD:=if t.bs.length<64∧t.deep≤60 then some (.list (B8 (Tr.of (if rev then Tr.BV t.bs else(Tr.BV t.bs).reverse)))) else none
def HM(rev:Bool):MD
 |[x]=>(Es x).bind fun ds=>(Gz ds).bind (X1 rev)
 |_=>none
section
variable{X:Cx}{a b c e:Expr}{es:List Expr}{f g h:Dv→Option PD}{fs:Dv→Option (List PD)}{fa:Dv→Option Bool}{pos p:Pos}
def P5{rev:Bool}{G0 H0 G H:Hp}{σ:St}{δ:Dv}{ts:List (PD×V)}{x z:PD}{u:V}{Q:VK}(R0:Rw G0 H0 G H σ δ ts)(du:Du G x u)(hz:HM rev [x]=some z)(k:∀w G' H',Rw G0 H0 G' H' σ δ ((z,w)::ts)→Q w H') :
  ∃(p:AD) (ys:List V) (t:Tr),[u]=[.ref p]∧(A2 X.K H p ys∨BF X.K H p ys)∧Ts H t ys∧ys.length<64∧t.deep≤60∧∀(l:AD) (zs:List V),H l=none→Ts H (Tr.of (if rev then Tr.BV t.bs else(Tr.BV t.bs).reverse)) zs→Q (.ref l) (upd H l (.lst zs)):=by
 unfold HM at hz;obtain⟨ds,h1,h2⟩:=aA.mp hz;obtain⟨t,h3,h4⟩:=aA.mp h2;unfold X1 at h4;split at h4
 ·rename_i hc;cases h4;have hds:=JI h3;obtain⟨bb,a,ys,rfl,n1,n2⟩:=Hn du h1;rw[hds]at n2;have ht:=(JW n2).same R0.ins;have hl:ys.length=t.bs.length:=by rw[ht.len]
  refine⟨a,ys,t,rfl,?_,ht,by omega,hc.2,fun l zs hl' hz'=>?_⟩
  ·have:=R0.ins _ _ n1;cases bb
   ·exact .inl (A2.of (by simpa using this))
   ·exact .inr (BF.of (by simpa using this))
  ·have R1:=R0.Bu;exact k _ _ _ (R1.Ji (JV hz') hl')
 ·cases h4
def Vi(hu:X.A.units+64<cLine):Ik X (.builtin "sorted") (HM false):=by
 refine⟨_,SN hu,fun xs z hz G0 H0 G H σ δ ts us Q R0 d k=>?_⟩;cases xs with
 |nil=>cases hz
 |cons x r =>
  cases r with
  |cons y q=>cases hz
  |nil =>
   obtain⟨u,rfl,du⟩:=d.E1;exact P5 R0 du hz k
def UZ{e:Expr}{p pos kp kp2:Pos}{j}(hu:X.A.units+64<cLine)(hg:Gl X "sorted")(hm:X.mg "sorted" = none)(ha:DA X [e] fs)
 (hP:∀ {t:TA},PA X [e] t→PE X (.Call (.Name "sorted" p) [e] [⟨some "reverse",.Constant (.bool true) j kp2,kp⟩] pos) (fun σ H Q=>t σ H fun vs H1=>RZ X.K vs H1 Q)) :
  DE X (.Call (.Name "sorted" p) [e] [⟨some "reverse",.Constant (.bool true) j kp2,kp⟩] pos) (AK (HM true) fs):=by
 obtain⟨t,p,k⟩:=ha;refine⟨_,hP p,fun δ z hz G0 H0 G H σ ts Q R0 q=>?_⟩;obtain⟨xs,h1,h2⟩:=aA.mp hz;refine k δ _ h1 G0 H0 G H σ ts _ R0 fun vs G1 H1 R1 hv=>?_;obtain⟨d,R2⟩:=R1.args hv;cases xs with
 |nil=>cases h2
 |cons x r =>
  cases r with
  |cons y q=>cases h2
  |nil =>
   obtain⟨u,rfl,du⟩:=d.E1;exact P5 (rev:=true) R2 du h2 q
def Ys(x k:PD):Option PD:=match x,k with
 |.list xs,.int i=>if i=-1 then some (.list xs.reverse) else none
 |_,_=>none
abbrev XH(f g:Dv→Option PD):Dv→Option PD:=AQ Ys f g
def Wj{p2:Pos}{k:Expr}(he:DE X e f)(hk:DE X k g):DE X (.Subscript e (.Slice none none (some k) p2) pos) (XH f g):=by
 obtain⟨te,pe,ke⟩:=he;obtain⟨tk,pk,kk⟩:=hk;refine⟨_,YF pe pk,fun δ z hz G0 H0 G H σ ts Q R0 k=>?_⟩;obtain⟨x,y,h1,h2,h3⟩:=two (x:=.none) (y:=.none) hz;refine ke δ x h1 G0 H0 G H σ ts _ R0 fun u G1 H1 R1=>?_;refine kk δ y h2 G0 H0 G1 H1 σ _ _ R1 fun v G2 H2 R2=>?_;have du:=R2.BA (x,u) (.tail _ (.head _));have dv:=R2.BA (y,v) (.head _);unfold Ys at h3;split at h3
 ·split at h3
  ·rename_i hi;cases h3;subst hi;rw[Du]at du;rw[Du]at dv;obtain⟨a,ys,rfl,n1,n2⟩:=du;exact⟨a,ys,rfl,dv,A2.of (R2.ins _ _ n1),fun q hq=>k _ _ _ (R2.drop.drop.Ji n2.rev hq)⟩
  ·cases h3
 ·cases h3
abbrev QY(i:Nat)(f g:Dv→Option PD):DF:=fun δ=>(f δ).bind fun y=>(g δ).bind fun k=>(ow i δ).bind fun xs=>(LU k).bind fun n=>(Jn xs.length n).map fun j=>.nx (δ.set i (.own (.lst (xs.set j y))))
def AZ.set{H:Hp}{d:PD}{v:V}(hd:Du H d v):∀ {ds:List PD} {xs:List V} (j:Nat),AZ H ds xs→AZ H (ds.set j d) (xs.set j v)
 |[],_,_,h=>by rw[h.nil_eq];exact .nil
 |_::_,_,0,h=>by obtain⟨x,r,rfl,_,h2⟩:=h.un;exact .cons hd h2
 |_::_,_,j+1,h=>by obtain⟨x,r,rfl,h1,h2⟩:=h.un;exact .cons h1 (AZ.set hd j h2)
def YW{i:Nat}{x:Str}{np sp:Pos}(hv:PE X (.Name x np) (JY i))(hk:DE X a g)(he:DE X e f)
 (hP:∀ {te to ti:TE},PE X e te→PE X (.Name x np) to→PE X a ti→PS X (.Assign [.Subscript (.Name x np) a sp] e pos) (NK te (W6 to ti Uq))):DS X (.Assign [.Subscript (.Name x np) a sp] e pos) (QY i f g):=by
 obtain⟨te,pe,ke⟩:=he;obtain⟨tk,pk,kk⟩:=hk;refine⟨_,hP pe hv pk,fun δ r h G0 H0 G H σ D R q=>?_⟩;obtain⟨y,h1,h2⟩:=aA.mp h;obtain⟨n,h3,h4⟩:=aA.mp h2;obtain⟨xs,h5,h6⟩:=aA.mp h4;obtain⟨m,h7,h8⟩:=aA.mp h6;obtain⟨j,h9,rfl⟩:=aE.mp h8;have:=LQ h7;subst this;have hi:=J8 h5;refine ke δ y h1 G0 H0 G H σ [] _ R fun u G1 H1 R1=>?_;obtain⟨ad,_,k1,k2,k3,k4,⟨ys,rfl,k5⟩⟩:=R1.own i _ hi;refine⟨.ref ad,k1,?_⟩;refine kk δ _ h3 G0 H0 G1 H1 σ _ _ R1 fun v G2 H2 R2=>?_;have dv:=R2.BA (.int m,v) (.head _);rw[Du]at dv;obtain⟨ad',_,m1,m2,m3,m4,⟨zs,rfl,m5⟩⟩:=R2.own i _ hi;rw[k1]at m1;cases m1;refine⟨ad,zs,m,j,rfl,dv,m4,by rw[m5.len];exact h9,?_⟩;exact q _ _ _ (R2.drop.drop.Qc hi k1 ⟨_,rfl,m5.set (R2.BA (y,u) (.tail _ (.head _))) j⟩)
end
def US:L→L
 |.own (.lst xs)=>.d (.list xs)
 |.own (.OM kvs)=>.d (Mv kvs)
 |.own _=>.no
 |l=>l
def Ef(δ:Dv):Dv:=δ.map US
section
variable{G0 H0 G H:Hp}{σ:St}{δ:Dv}{ts:List (PD×V)}
def Rw.Ef(r:Rw G0 H0 G H σ δ ts):Rw H H H H σ (L2.Ef δ) ts:=by
 refine⟨AI.refl _,fun _ _ h=>.inl h,AI.refl _,AI.refl _,by rw[L2.Ef,List.length_map];exact r.len,fun i x h=>?_,fun i xs h=>?_,fun i j xs ys _ h=>?_,fun q hq=>(r.BA q hq).same r.ins⟩
 ·unfold L2.Ef at h;rw[List.getElem?_map]at h;obtain⟨l,h1,h2⟩:=aE.mp h;unfold US at h2;split at h2
  ·rename_i xs;cases h2;obtain⟨a,_,k1,k2,k3,k4,⟨ys,rfl,k5⟩⟩:=r.own i _ h1;refine⟨.ref a,k1,?_⟩;rw[Du];exact⟨a,ys,rfl,k4,k5.same r.ins⟩
  ·rename_i kvs;cases h2;obtain⟨a,_,k1,k2,k3,k4,⟨rr,rfl,k5,k6⟩⟩:=r.own i _ h1;refine⟨.ref a,k1,?_⟩;rw[Du,HX];exact .inr (.inr ⟨rfl,rfl,a,rr,rfl,k4,k5,Hv.same r.ins k6⟩)
  ·cases h2
  ·subst h2;obtain⟨v,k1,k2⟩:=r.dat i x h1;exact⟨v,k1,k2.same r.ins⟩
 all_goals
  unfold L2.Ef at h;rw[List.getElem?_map]at h;obtain⟨l,h1,h2⟩:=aE.mp h;unfold US at h2;split at h2
  ·cases h2
  ·cases h2
  ·cases h2
  ·rename_i n1 n3 n2;subst h2;cases xs with
   |lst zs=>exact(n1 zs rfl).elim
   |OM zs=>exact(n3 zs rfl).elim
   |S7 zs=>exact(n2 (.S7 zs) rfl).elim
def Rw.on{H':Hp}(r:Rw G0 H0 G H σ δ ts)(e:AI H H'):Rw G0 H0 G H' σ δ ts:=r.lift (AI.refl _) Nw.refl (r.ins.trans e) e
def Rw.WE{i:Nat}{xs:Oc}{ys:HO}{a:AD}(r:Rw G0 H0 G H σ δ ts)(d:FE G a xs ys)(ha:H a=some ys)(hG:G a=none)(h0:H0 a=none)(nota:∀(j:Nat) (zs:Oc),δ[j]? = some (L.own zs)→σ[j]?≠some (some (V.ref a))):Rw G0 H0 G H (σ.set i (some (.ref a))) (δ.set i (.own xs)) ts:=by
 have hl:=r.len;have other:∀(j:Nat) (zs:Oc),i≠j→(δ.set i (.own xs))[j]? = some (L.own zs)→δ[j]? = some (L.own zs):=fun j zs hj h=>by rw[List.getElem?_set_ne hj]at h;exact h
 refine⟨r.ext,r.new,r.ins,r.keep,by simp[hl],fun j y h=>?_,fun j zs h=>?_,fun j l us ws hjl h1 h2=>?_,r.BA⟩
 ·by_cases hj:i=j
  ·subst hj;by_cases hi:i<δ.length
   ·rw[List.getElem?_set_self hi]at h;cases h
   ·rw[List.getElem?_eq_none (by simp;omega)]at h;cases h
  ·rw[List.getElem?_set_ne hj]at h;obtain⟨w,m1,m2⟩:=r.dat j y h;exact⟨w,by rw[List.getElem?_set_ne hj];exact m1,m2⟩
 ·by_cases hj:i=j
  ·subst hj;by_cases hi:i<δ.length
   ·rw[List.getElem?_set_self hi]at h;cases h;exact⟨a,ys,by rw[List.getElem?_set_self (by omega)],hG,h0,ha,d⟩
   ·rw[List.getElem?_eq_none (by simp;omega)]at h;cases h
  ·have h:=other j zs hj h;obtain⟨b,us,m1,m2,m3,m4,m5⟩:=r.own j zs h;exact⟨b,us,by rw[List.getElem?_set_ne hj];exact m1,m2,m3,m4,m5⟩
 ·by_cases hj:i=j
  ·subst hj;have hl2:i≠l:=hjl;have h2:=other l ws hl2 h2;by_cases hi:i<δ.length
   ·rw[List.getElem?_set_self (by omega),List.getElem?_set_ne hl2];exact fun z=>nota l ws h2 z.symm
   ·rw[List.getElem?_eq_none (by simp;omega)]at h1;cases h1
  ·have h1:=other j us hj h1;by_cases hk:i=l
   ·subst hk;by_cases hi:i<δ.length
    ·rw[List.getElem?_set_self (by omega),List.getElem?_set_ne hj];exact fun z=>nota j us h1 z
    ·rw[List.getElem?_eq_none (by simp;omega)]at h2;cases h2
   ·have h2:=other l ws hk h2;rw[List.getElem?_set_ne hj,List.getElem?_set_ne hk];exact r.apart j l us ws hjl h1 h2
end
section
variable{X:Cx}{a b c e:Expr}{es:List Expr}{f g h:Dv→Option PD}{fs:Dv→Option (List PD)}{fa:Dv→Option Bool}{pos p:Pos}
abbrev Qq(f:Dv→Option Bool):Dv→Option Bool:=fun δ=>f (Ef δ)
def V7(h:DT X e fa):DT X e (Qq fa):=by
 obtain⟨t,p,k⟩:=h;refine⟨t,p,fun δ z hz G0 H0 G H σ ts Q R q=>?_⟩;exact k _ z hz H H H H σ ts Q R.Ef fun G' H' R'=>q _ _ (R.on R'.keep)
end
section
variable{F F1 F2:DF}{δ δ':Dv}{r:Option Ou}{c:Dv→Option Bool}{f g:Dv→Option PD}{fs:Dv→Option (List PD)}
def BB(h:F1 δ=some (.nx δ'))(k:F2 δ'=r):Aq F1 F2 δ=r:=by unfold Aq;rw[h];exact k
def Lp{x:PD}(h:F1 δ=some (.rt x)):Aq F1 F2 δ=some (.rt x):=by unfold Aq;rw[h]
def KC(h:c δ=some true)(k:F1 δ=r):Hd c F1 F2 δ=r:=by show(c δ).bind _=r;rw[h];exact k
def HE(h:c δ=some false)(k:F2 δ=r):Hd c F1 F2 δ=r:=by show(c δ).bind _=r;rw[h];exact k
def CC{i:Nat}{y:PD}(h:f δ=some y):BW i f δ=some (.nx (δ.set i (.d y))):=by show(f δ).map _=_;rw[h];rfl
def F9{y:PD}(h:f δ=some y):CP f δ=some (.rt y):=by show(f δ).map _=_;rw[h];rfl
def Af{o:PD→PD→Option PD}{x y:PD}{z:Option PD}(h1:f δ=some x)(h2:g δ=some y)(h3:o x y=z):AQ o f g δ=z:=by unfold AQ;rw[h1,h2];exact h3
def BN{m:MD}{xs:List PD}{z:Option PD}(h1:fs δ=some xs)(h2:m xs=z):AK m fs δ=z:=by show(fs δ).bind m=z;rw[h1];exact h2
def Ap{x:PD}{xs:List PD}(h1:f δ=some x)(h2:fs δ=some xs):AB f fs δ=some (x::xs):=by show(f δ).bind _=_;rw[h1];show(fs δ).map _=_;rw[h2];rfl
def HU{xs:List PD}(h:fs δ=some xs)(hl:xs.length≤Cj):CL fs δ=some (.tuple xs):=by show((fs δ).bind He).map _=_;rw[h];show(He xs).map _=_;unfold He;rw[if_pos hl];rfl
def Co{o:PD→PD→Option PD}{x y:PD}{b:Bool}(h1:f δ=some x)(h2:g δ=some y)(h3:o x y=some (.bool b)):CH o f g δ=some b:=by show(AQ o f g δ).bind Jb=_;rw[Af h1 h2 h3];rfl
def Q5{a b:Dv→Option Bool}{q:Option Bool}(h:a δ=some false)(k:b δ=q):Pr a b δ=q:=by show(a δ).bind _=q;rw[h];exact k
def WH{a:Dv→Option Bool}{b:Bool}(h:a δ=some b):UL a δ=some (!b):=by show(a δ).map _=_;rw[h];rfl
def O4{b:Bool}(h:f δ=some (.bool b)):OX f δ=some b:=by show(f δ).bind Jb=_;rw[h];rfl
def N0{set:PD→Dv→Option Dv}(Iv:Nat→Dv→Prop):∀(xs:List PD) (δ:Dv) (n:Nat),Iv n δ→(∀(i:Nat) (x:PD) (δ:Dv),xs[i]? = some x→Iv (n+i) δ→∃δ1 δ2,set x δ=some δ1∧F δ1=some (.nx δ2)∧Iv (n+i+1) δ2) →
  ∃δ',GI set F xs δ=some (.nx δ')∧Iv (n+xs.length) δ'
 |[],δ,n,h,_=>⟨δ,rfl,h⟩
 |x::xs,δ,n,h,k=>by
  obtain⟨δ1,δ2,h1,h2,h3⟩:=k 0 x δ rfl h;obtain⟨δ',h4,h5⟩:=N0 Iv xs δ2 (n+1) h3 fun i y δ hy hv=>by
   have:=k (i+1) y δ (by simpa using hy) (by rw[show n+(i+1)=n+1+i by omega];exact hv);rw[show n+(i+1)+1=n+1+i+1 by omega]at this;exact this
  refine⟨δ',?_,by rw[List.length_cons,show n+(xs.length+1)=n+1+xs.length by omega];exact h5⟩;unfold GI;rw[h1,Option.bind_some,h2];exact h4
def Tw{set:PD→Dv→Option Dv}{xs:List PD}(Iv:Nat→Dv→Prop)(hx:fs δ=some xs)(h0:Iv 0 δ)(hs:∀(i:Nat) (x:PD) (δ:Dv),xs[i]? = some x→Iv i δ→∃δ1 δ2,set x δ=some δ1∧F δ1=some (.nx δ2)∧Iv (i+1) δ2) :
  ∃δ',DH fs set F δ=some (.nx δ')∧Iv xs.length δ':=by
 obtain⟨δ',h1,h2⟩:=N0 (F:=F) (set:=set) Iv xs δ 0 h0 fun i x δ hx hv=>by
  have:=hs i x δ hx (by simpa using hv)
  simpa using this
 refine⟨δ',?_,by simpa using h2⟩;show(fs δ).bind _=_;rw[hx];exact h1
end
def HY{ps N:List Str}{F:DF}{ds:List PD}{x:PD}(hl:ds.length=ps.length)(h:F (Fb N ds)=some (.rt x)):CQ ps N F ds=some x:=by unfold CQ;rw[if_pos hl,h]
def Py{lo:Int}{n i:Nat}{x:PD}(h:(Ek lo n)[i]? = some x):x=.int (lo+(i:Nat))∧i<n:=by
 unfold Ek at h;rw[List.getElem?_map]at h;obtain⟨j,hj,rfl⟩:=aE.mp h;have hl:=(aM.mp hj).1;rw[List.getElem?_range (by simpa using hl)]at hj;cases hj;exact⟨rfl,by simpa using hl⟩
def R7{δ:Dv}{f:Dv→Option PD}{j:Int}(h:f δ=some (.int j))(h0:-1000000≤j)(h1:j≤1000000):Cg Fl (AB f AF) δ=some (Ek 0 j.toNat):=by
 show(AB f AF δ).bind Fl=_;rw[Ap h (show AF δ=some [] from rfl)];exact if_pos ⟨h0,h1⟩
def LB{n:Nat}{i:Int}(h:i.natAbs<2^n):Fj n i=true:=decide_eq_true h
def SO{i j:Int}(h:J5 i j=true):Eh (.int i) (.int j)=some (.int (i*j)):=by
 show Mc P9 Qb (.int i) (.int j)=_;unfold Mc;rw[show P9 (.int i) (.int j)=some (.int (i*j)) from if_pos h]
def mul_r{i j:Int}(h:j.natAbs<2^64):Eh (.int i) (.int j)=some (.int (i*j)):=SO (by unfold J5;rw[LB h];simp)
def mod_is{i j:Int}(h:0<j):Cu (.int i) (.int j)=some (.int (i % j)):=by
 show(if j≠0 then some (PyData.int (i.fmod j)) else none)=_;rw[if_pos (by omega),Int.fmod_eq_emod_of_nonneg _ (by omega)]
def RJ{i:Int}{n:Nat}(hn:n≤1000)(hi:Fj 64 i=true):JX (.int i) (.int (n:Int))=some (.int (i^n)):=by
 show(if 0≤(n:Int)∧(n:Int)≤1000∧Fj 64 i=true then some (PyData.int (i^(n:Int).toNat)) else none)=_;rw[if_pos ⟨by omega,by omega,hi⟩,Int.toNat_natCast]
def A7(ns:List Int):PD:=.dict [(.none,.list (ns.map .int))]
def Xf{H:Hp}{a:AD}{ns:List Int}(h:Rd H a (.lst (ns.map V.int))):Du H (A7 ns) (.ref a):=by unfold A7;rw[Du];exact .inr (.inl ⟨a,ns,rfl,rfl,h⟩)
def Mw(K:Fg):Bool:=K.all fun p=>match p.2.cls with|.type n=>n != "list" |_=>true
def Kb{a:AD}{o:Obj}:∀ {K:Fg},K.lookup a=some o→(a,o)∈K
 |[],h=>by cases h
 |(b,u)::K,h=>by
  rw[List.lookup_cons]at h;split at h
  ·rename_i e;cases h;rw[show a=b from by simpa using e];exact .head _
  ·exact .tail _ (Kb h)
def Y8{K:Fg}{H:Hp}{a:AD}{xs:List V}(hK:Mw K=true)(h:A2 K H a xs):Rd H a (.lst xs):=by
 rcases h with h|⟨o,its,n,h1,h2,_⟩
 ·exact h
 ·unfold Mw at hK;rw[List.all_eq_true]at hK;have:=hK _ (Kb h1);rw[h2]at this;exact absurd this (by decide)
abbrev Xr:=PD ⊕ AD
def FU(g:List PD→Option Xr):Sp:=fun vs H Q E=>∃ds r G,g ds=some r∧AZ G ds vs∧AI G H∧match r with
 |.inl x=>∀v G' H',AI G G'→Nw G H G'→AI G' H'→AI H H'→Du G' x v→Q v H'
 |.inr C=>∀H',AI H H'→E (.ref C) none H'
abbrev Ui:=Ou ⊕ AD
abbrev EN:=Dv→Option Ui
def Wg(G0 H0:Hp)(D:Ends)(E:XK):Ui→Prop
 |.inl o=>Fin G0 H0 D o
 |.inr C=>∀H',AI H0 H'→E (.ref C) none H'
def DX(X:Cx)(E:XK)(st:Stmt)(F:EN):Prop:=∃t,PS X st t∧∀δ r,F δ=some r→∀G0 H0 G H σ D,Rw G0 H0 G H σ δ []→Wg G0 H0 D E r→t D σ H
def MC(X:Cx)(E:XK)(sts:List Stmt)(F:EN):Prop:=∃t,Ew X sts t∧∀δ r,F δ=some r→∀G0 H0 G H σ D,Rw G0 H0 G H σ δ []→Wg G0 H0 D E r→t D σ H
section
variable{X:Cx}{E:XK}{a b c e:Expr}{es:List Expr}{f g h:Dv→Option PD}{fs:Dv→Option (List PD)}{fa:Dv→Option Bool}{pos p:Pos}{st:Stmt}{sts sts':List Stmt}{F F1 F2:DF}{J J1 J2:EN}
def T2{t:TS}(h:Ew X.G8 sts t):Ew X sts t:=fun pins s σ H D I k=>aQ (h pins s σ H D (I.Ec _) k) (fun _ _ z=>z.DC) fun _ _ z=>z.elim
def Ws{t:TE}(h:PE X.G8 e t):PE X e t:=fun pins s σ H Q I k=>aQ (h pins s σ H Q (I.Ec _) k) (fun _ _ ⟨v,H',I',r,q⟩=>⟨v,H',I'.DC,r,q⟩) fun _ _ z=>z.elim
def YM{t:TT}(h:PT X.G8 e t):PT X e t:=fun pins s σ H Q I k=>aQ (h pins s σ H Q (I.Ec _) k) (fun _ _ ⟨H',I',q⟩=>⟨H',I'.DC,q⟩) fun _ _ z=>z.elim
def Rx{t:TA}(h:PA X.G8 es t):PA X es t:=fun p pins s σ H Q I k=>aQ (h p pins s σ H Q (I.Ec _) k) (fun _ _ ⟨v,H',I',r,q⟩=>⟨v,H',I'.DC,r,q⟩) fun _ _ z=>z.elim
abbrev S5(F:DF):EN:=fun δ=>(F δ).map .inl
def Np(h:LY X.G8 sts F):MC X E sts (S5 F):=by
 obtain⟨t,p,k⟩:=h;refine⟨t,T2 p,fun δ r h G0 H0 G H σ D R q=>?_⟩;obtain⟨o,h1,rfl⟩:=aE.mp h;exact k δ o h1 G0 H0 G H σ D R q
def Kx(J1 J2:EN)(δ:Dv):Option Ui:=match J1 δ with
 |some (.inl (.nx δ'))=>J2 δ'
 |o=>o
def Lz:MC X E [] (fun δ=>some (.inl (.nx δ))):=⟨_,FC,fun δ r h G0 H0 G H σ D R k=>by cases h;exact k _ _ _ R⟩
def HZ(h:DX X E st J):MC X E [st] J:=by
 obtain⟨t,p,k⟩:=h;exact⟨t,Bt p,k⟩
def Ky(h1:DX X E st J1)(h2:MC X E sts J2):MC X E (st::sts) (Kx J1 J2):=by
 obtain⟨t1,p1,k1⟩:=h1;obtain⟨t2,p2,k2⟩:=h2;refine⟨_,Bb p1 p2,fun δ r h G0 H0 G H σ D R q=>?_⟩;unfold Kx at h;split at h
 ·rename_i δ' e1;exact k1 δ _ e1 G0 H0 G H σ _ R fun σ' G' H' R'=>k2 δ' r h G0 H0 G' H' σ' D R' q
 ·rename_i o hn;cases r with
  |inr C=>exact k1 δ _ h G0 H0 G H σ _ R q
  |inl o' =>
   cases o' with
   |nx δ'=>exact absurd h (hn δ')
   |rt x=>exact k1 δ _ h G0 H0 G H σ _ R q
   |bk x=>exact k1 δ _ h G0 H0 G H σ _ R q
   |ct x=>exact k1 δ _ h G0 H0 G H σ _ R q
   |rn x=>exact k1 δ _ h G0 H0 G H σ _ R q
abbrev Rb(c:Dv→Option Bool)(J1 J2:EN):EN:=fun δ=>(c δ).bind fun b=>if b=true then J1 δ else J2 δ
def QU(hc:DT X.G8 c fa)(h1:MC X E sts J1)(h2:MC X E sts' J2):DX X E (.If c sts sts' pos) (Rb fa J1 J2):=by
 obtain⟨tc,pc,kc⟩:=hc;obtain⟨t1,p1,k1⟩:=h1;obtain⟨t2,p2,k2⟩:=h2;refine⟨_,Ib (YM pc) p1 p2,fun δ r h G0 H0 G H σ D R q=>?_⟩;obtain⟨b,h3,h4⟩:=aA.mp h;refine kc δ _ h3 G0 H0 G H σ [] _ R fun G1 H1 R1=>?_;split
 ·rename_i hb;rw[if_pos hb]at h4;exact k1 δ r h4 G0 H0 G1 H1 σ D R1 q
 ·rename_i hb;rw[if_neg hb]at h4;exact k2 δ r h4 G0 H0 G1 H1 σ D R1 q
abbrev K4(C:AD)(f:Dv→Option PD):EN:=fun δ=>(f δ).map fun _=>.inr C
def Ki{x:Str}{C:AD}{np cpos:Pos}(T:Exc X.K X.mg x C)(hL:Lets X E)(he:DE X.G8 e f)(hcalm:X.calm=true:=by rfl)(hg:Gl X x:=by rfl)(hd:(x==("__debug__" : Str))=false:=by decide)
 (hst:starEach [e] X.env=[(false,eval e X.env)]:=by rfl):DX X E (.Raise (some (.Call (.Name x np) [e] [] cpos)) none pos) (K4 C f):=by
 obtain⟨t,p,k⟩:=he;refine⟨_,UY T hL hcalm hg (Ws p) hd hst,fun δ r h G0 H0 G H σ D R q=>?_⟩;obtain⟨y,h1,rfl⟩:=aE.mp h;exact k δ y h1 G0 H0 G H σ [] _ R fun v G' H' R'=>q _ R'.keep
def Yg{k:Nat}{m:List PD→Option Xr}{ta:TA}(ka:∀δ xs,fs δ=some xs→∀G0 H0 G H σ ts (Q:List V→Hp→Prop),Rw G0 H0 G H σ δ ts→(∀vs G' H',Rw G0 H0 G' H' σ δ (xs.zip vs++ts)→vs.length=xs.length→Q vs H')→ta σ H Q)
 {δ:Dv}{r:Xr}(hz:(fs δ).bind m=some r){G0 H0 G H:Hp}{σ:St}{Q:VK}{E':XK}(R:Rw G0 H0 G H σ δ [])(q1:∀x,r=.inl x→∀v G' H',Rw G0 H0 G' H' σ δ [(x,v)]→Q v H')(q2:∀C,r=.inr C→∀G' H',Rw G0 H0 G' H' σ δ []→E' (.ref C) none H') :
  ta σ H fun vs H1=>FU m (vs++[]) H1 Q E':=by
 obtain⟨xs,h1,h2⟩:=aA.mp hz;refine ka δ _ h1 G0 H0 G H σ [] _ R fun vs G1 H1 R1 hv=>?_;obtain⟨d,R2⟩:=R1.args hv;refine⟨xs,r,G1,h2,by rw[List.append_nil];exact d,R2.ins,?_⟩;cases r with
 |inl x=>exact fun v G' H' h3 h4 h5 h6 h7=>q1 x rfl _ _ _ ((R2.lift h3 h4 h5 h6).put h7)
 |inr C=>exact fun H' h=>q2 C rfl _ _ (R2.on h)
section
variable{k:Nat}{fA:AD}{fd:FuncData}{ps:List Str}{m:List PD→Option Xr}{x:Str}{st':Stmt}
abbrev Qv(m:List PD→Option Xr)(fs:Dv→Option (List PD))(nx:PD→Dv→Ou):EN:=fun δ=>((fs δ).bind m).map fun r=>match r with
 |.inl x=>.inl (nx x δ)
 |.inr C=>.inr C
def WO(T:Fn X.K X.mg x st' ps fA fd)(F:AM X.prog X.w X.K X.mg X.base (B2 X.prog X.w) k fA fd ps (FU m))(hr:B5 k X.A)(hP:Passes (B2 X.prog X.w) X E)(ha:DA X.G8 (e::es) fs)
 {pos2:Pos}(hP2:∀ {t:TE},PE X (.Call (.Name x p) (e::es) [] pos) t→PS X (.Expr (.Call (.Name x p) (e::es) [] pos) pos2) (Mq t))
 (hg:Gl X x:=by rfl)(hdb:(x==("__debug__" : Str))=false:=by decide)(he:starEach (e::es) X.env=(false,eval e X.env)::starEach es X.env:=by rfl)(hpl:(backTo pos (starEach es X.env)).any (·.1)=false:=by rfl) :
  DX X E (.Expr (.Call (.Name x p) (e::es) [] pos) pos2) (Qv m fs fun _ δ=>.nx δ):=by
 obtain⟨ta,pa,ka⟩:=ha;refine⟨_,hP2 (Sr T F hr hg hP (Rx pa) hdb he hpl),fun δ r h G0 H0 G H σ D R q=>?_⟩;obtain⟨z,h1,rfl⟩:=aE.mp h;refine Yg (k:=k) ka h1 R (fun x hx v G' H' R'=>?_) (fun C hC G' H' R'=>?_)
 ·subst hx;exact q _ _ _ R'.drop
 ·subst hC;exact q _ R'.keep
end
end
def Rw.ZN{G0 H0 G H:Hp}{σ:St}{δ:Dv}{ts:List (PD×V)}(k:Nat)(o:Option V)(r:Rw G0 H0 G H σ δ ts):Rw G0 H0 G H (σ.set k o) (δ.set k .no) ts:=by
 have ne:∀(j:Nat) (l:L),l≠.no→(δ.set k .no)[j]? = some l→k≠j∧δ[j]? = some l:=fun j l hl h=>by
  by_cases hj:k=j
  ·subst hj;by_cases hi:k<δ.length
   ·rw[List.getElem?_set_self hi]at h;cases h;exact absurd rfl hl
   ·rw[List.getElem?_eq_none (by simp;omega)]at h;cases h
  ·rw[List.getElem?_set_ne hj]at h;exact⟨hj,h⟩
 refine⟨r.ext,r.new,r.ins,r.keep,by simp[r.len],fun j y h=>?_,fun j zs h=>?_,fun j l us ws hjl h1 h2=>?_,r.BA⟩
 ·obtain⟨n,h⟩:=ne j _ (by simp) h;obtain⟨w,m1,m2⟩:=r.dat j y h;exact⟨w,by rw[List.getElem?_set_ne n];exact m1,m2⟩
 ·obtain⟨n,h⟩:=ne j _ (by simp) h;obtain⟨b,us,m1,m2⟩:=r.own j zs h;exact⟨b,us,by rw[List.getElem?_set_ne n];exact m1,m2⟩
 ·obtain⟨n1,h1⟩:=ne j _ (by simp) h1;obtain⟨n2,h2⟩:=ne l _ (by simp) h2;rw[List.getElem?_set_ne n1,List.getElem?_set_ne n2];exact r.apart j l us ws hjl h1 h2
def Fd(ps N:List Str)(J:EN)(ds:List PD):Option Xr:=if ds.length=ps.length then(match J (Fb N ds) with
 |some (.inl (.rt x))=>some (.inl x)
 |some (.inl (.nx _))=>some (.inl .none)
 |some (.inl (.rn xs))=>some (.inl (.list xs))
 |some (.inr C)=>some (.inr C)
 |_=>none) else none
section
variable{P:Program}{w:World}{K:Fg}{mg:Str→Option VL}{base:Heap}{x:Str}{st:Stmt}{fA:AD}{fd:FuncData}{N ps:List Str}{k:Nat}
def QL{qual:Str}{scope:Scope}{cd:VL}{A:Around}{outer:List Env}{s:SD}{H:Hp}{E:XK} :
  Lets (Bo (B2 P w) P w K mg base N qual scope fA cd A outer s H E) E:=fun _ _ _ _ _ _ _ _ I hx hE=>V1 I hx hE
def P8{qual:Str}{scope:Scope}{cd:VL}{A:Around}{outer:List Env}{s:SD}{H:Hp}{E:XK}:Passes (B2 P w) (Bo (B2 P w) P w K mg base N qual scope fA cd A outer s H E) E:=ZL fun _ _ _ z=>z
def OS{J:EN}(T:Fn K mg x st ps fA fd)(S:Aj N ps (AL st))
 (hb:∀(cdv:VL) (A:Around) (outer:List Env) (s:SD) (H:Hp) (E:XK),B5 k (A.deeper (envOfC x (AL st) s.heap.objs.size fA cdv))→MC (Bo (B2 P w) P w K mg base N x (AL st) fA cdv A outer s H E) E (CD st) J) :
  AM P w K mg base (B2 P w) (k+1) fA fd ps (FU (Fd ps N J)):=by
 refine T.F.cv S (fun vs H Q E h=>?_) fun cdv A outer s H vs Q E hr h=>?_
 ·obtain⟨ds,y,G,h1,h2,_⟩:=h;unfold Fd at h1;split at h1
  ·rename_i hl;rw[h2.len];exact hl
  ·cases h1
 ·obtain⟨ds,y,G,h1,h2,h3,h4⟩:=h;obtain⟨t,p,kk⟩:=hb cdv A outer s H E hr;refine⟨t,p,?_⟩;unfold Fd at h1;split at h1
  ·split at h1
   ·rename_i z e1;cases h1;exact kk _ _ e1 G H G H _ _ (Rw.start h2 h3) fun v G' H' m1 m2 m3 m4 m5=>h4 v G' H' m1 m2 m3 m4 m5
   ·rename_i δ e1;cases h1;exact kk _ _ e1 G H G H _ _ (Rw.start h2 h3) fun σ' G' H' R=>h4 .Ao G' H' R.ext R.new R.ins R.keep (by rw[Du])
   ·rename_i xs e1;cases h1;exact kk _ _ e1 G H G H _ _ (Rw.start h2 h3) fun a ys G' H' m1 m2 m3 m4 m5 m6 m7 m8=>let⟨n1,n2,n3,n4⟩:=Uk m1 m2 m3 m5 m6 m7 m8;h4 _ _ H' n1 n2 n3 m4 n4
   ·rename_i C e1;cases h1;exact kk _ _ e1 G H G H _ _ (Rw.start h2 h3) h4
   ·cases h1
  ·cases h1
def AM.cx{sp sp':Sp}(F:AM P w K mg base (B2 P w) k fA fd ps sp)(h:∀vs H Q E,sp' vs H Q E→sp vs H Q fun _ _ _=>False):AM P w K mg base A6 k fA fd ps sp' :=
 ⟨fun vs H Q E z=>F.len _ _ _ _ (h _ _ _ _ z),fun A outer s H args us vs Q E hr he hb hv hs=>codeAny_mono (F.run A outer s H args us vs Q _ hr he hb hv (h _ _ _ _ hs)) fun r s' z=>by
  cases r with
  |ok fl=>cases fl<;>exact z
  |error e=>obtain⟨_,_,_,_,_,_,_,z⟩:=z;exact z.elim⟩
def good(m:List PD→Option Xr)(ds:List PD):Option PD:=match m ds with
 |some (.inl x)=>some x
 |_=>none
def M3{m:List PD→Option Xr}(F:AM P w K mg base (B2 P w) k fA fd ps (FU m)):AM P w K mg base A6 k fA fd ps (Ba (good m)):=F.cx fun vs H Q E z=>by
 obtain⟨ds,x,G,h1,h2,h3,h4⟩:=z;unfold good at h1;split at h1
 ·rename_i y e;cases h1;exact⟨ds,.inl x,G,e,h2,h3,h4⟩
 ·cases h1
end
abbrev U6(fs:Dv→Option (List PD)):DF:=fun δ=>(fs δ).map .rn
abbrev QA(i:Nat):DF:=fun δ=>(ow i δ).map .rn
abbrev VA(i:Nat)(fs:Dv→Option (List PD)):DF:=fun δ=>(fs δ).map fun ys=>.nx (δ.set i (.own (.lst ys)))
section
variable{X:Cx}{a b c e:Expr}{es:List Expr}{f g h:Dv→Option PD}{fs:Dv→Option (List PD)}{fa:Dv→Option Bool}{pos p:Pos}
def PB{i:Nat}{x:Str}{np:Pos}(hv:PE X (.Name x np) (JY i)):DS X (.Return (some (.Name x np)) pos) (QA i):=by
 refine⟨_,Cq hv,fun δ r h G0 H0 G H σ D R q=>?_⟩;obtain⟨xs,h1,rfl⟩:=aE.mp h;obtain⟨a,_,k1,k2,k3,k4,⟨ys,rfl,k5⟩⟩:=R.own i _ (J8 h1);exact⟨.ref a,k1,q a ys G H R.ext R.new R.ins R.keep k3 k2 k4 k5⟩
end
section
variable{X:Cx}{elt iter:Expr}{x y:Str}{px py tp pos spos:Pos}{tk:Nat}{ifs:List Expr}{scope:Scope}{fs:Dv→Option (List PD)}{tif:Dv→Option Bool}{f:Dv→Option PD}
def Ve(N:List Str)(ix:Nat)(fr:List (Option Nat))(hi:DI X (.Name x px) iter fs)(hif:∀cl C s₀ H₀ fp,Uj (Aw X scope cl N C s₀ H₀ fp) ifs tif)(he:∀cl C s₀ H₀ fp,DE (Aw X scope cl N C s₀ H₀ fp) elt f)
 (h1:Cd scope N x ix=true:=by decide +kernel)(h2:X.calm=true:=by rfl)(h3:EV N X.N scope X.env.scope fr 0=true:=by rfl)(h4:fr.length=N.length:=by rfl)(h5:freeOk X.env.scope scope.names=true:=by rfl)
 (hs:∀x,foldedSetIterable iter X.env x=pure x:=by intro _;rfl):DS X (.Return (some (.ListComp elt [⟨.Name x px,iter,ifs,0⟩] scope pos)) spos) (U6 (Eg (Dc ix) tif f fr fs)):=by
 obtain⟨wi,pi,ki⟩:=hi;refine⟨_,Cq (OP N ix fr pi hif (fun cl C s₀ H₀ fp=>(he cl C s₀ H₀ fp).pe) h1 h2 h3 h4 h5 hs),fun δ r h G0 H0 G H σ D R q=>?_⟩;obtain⟨zs,m1,rfl⟩:=aE.mp h;exact Ip ki m1 R fun D' ys G' H' R' n1 n2 n3 n4 n5=>q _ _ _ _ R'.ext R'.new R'.ins R'.keep n3 n2 n1 n5
def VS{i:Nat}{z:Str}{pz spos:Pos}(N:List Str)(ix:Nat)(fr:List (Option Nat))(hN:X.N.Nodup)(hy:X.N[i]? = some z)(hly:X.env.scope.names.lookup z=some .local)(hi:DI X (.Name x px) iter fs)(hif:∀cl C s₀ H₀ fp,Uj (Aw X scope cl N C s₀ H₀ fp) ifs tif)(he:∀cl C s₀ H₀ fp,DE (Aw X scope cl N C s₀ H₀ fp) elt f)
 (h1:Cd scope N x ix=true:=by decide +kernel)(h2:X.calm=true:=by rfl)(h3:EV N X.N scope X.env.scope fr 0=true:=by rfl)(h4:fr.length=N.length:=by rfl)(h5:freeOk X.env.scope scope.names=true:=by rfl)
 (hsw:swapsWith (.ListComp elt [⟨.Name x px,iter,ifs,0⟩] scope pos) (some (.Name z pz)) spos.line X.env=pure true:=by rfl)
 (hs:∀x,foldedSetIterable iter X.env x=pure x:=by intro _;rfl):DS X (.Assign [.Name z pz] (.ListComp elt [⟨.Name x px,iter,ifs,0⟩] scope pos) spos) (VA i (Eg (Dc ix) tif f fr fs)):=by
 obtain⟨wi,pi,ki⟩:=hi;refine⟨_,Oq N ix fr hN hy hly pi hif (fun cl C s₀ H₀ fp=>(he cl C s₀ H₀ fp).pe) h1 h2 h3 h4 h5 hsw hs,fun δ r h G0 H0 G H σ D R q=>?_⟩;obtain⟨zs,m1,rfl⟩:=aE.mp h;exact Ip ki m1 R fun D' ys G' H' R' n1 n2 n3 n4 n5=>q _ _ _ (R'.WE ⟨_,rfl,n5⟩ n1 n2 n3 n4)
end
section
variable{P:Program}{w:World}{K:Fg}{mg:Str→Option VL}{base:Heap}{x:Str}{st:Stmt}{fA:AD}{fd:FuncData}{N ps:List Str}{k:Nat}
def Vj{F:DF}{ds xs:List PD}(hl:ds.length=ps.length)(h:F (Fb N ds)=some (.rn xs)):CQ ps N F ds=some (.list xs):=by unfold CQ;rw[if_pos hl,h]
def O8{J:EN}{ds:List PD}{y:PD}(hl:ds.length=ps.length)(h:J (Fb N ds)=some (.inl (.rt y))):Fd ps N J ds=some (.inl y):=by unfold Fd;rw[if_pos hl,h]
def Vf{J:EN}{ds:List PD}{δ:Dv}(hl:ds.length=ps.length)(h:J (Fb N ds)=some (.inl (.nx δ))):Fd ps N J ds=some (.inl .none):=by unfold Fd;rw[if_pos hl,h]
end
section
variable{J J1 J2:EN}{δ δ':Dv}{r:Option Ui}{c:Dv→Option Bool}{fs:Dv→Option (List PD)}{m:List PD→Option Xr}{ds xs:List PD}{f:Dv→Option PD}{fr:List (Option Nat)}{g:PD→PD}
def VW(h:J1 δ=some (.inl (.nx δ')))(k:J2 δ'=r):Kx J1 J2 δ=r:=by unfold Kx;rw[h];exact k
def ZW(h:c δ=some false)(k:J2 δ=r):Rb c J1 J2 δ=r:=by show(c δ).bind _=r;rw[h];exact k
def UX{nx:PD→Dv→Ou}{y:PD}(h:fs δ=some ds)(k:m ds=some (.inl y)):Qv m fs nx δ=some (.inl (nx y δ)):=by show((fs δ).bind m).map _=_;rw[h];show(m ds).map _=_;rw[k];rfl
def L4{y:PD}(q:m ds=some (.inl y)):good m ds=some y:=by unfold good;rw[q]
end
section
variable{F F1 F2:DF}{δ δ':Dv}{fs:Dv→Option (List PD)}{xs:List PD}{set:PD→Dv→Option Dv}{r:Option Ou}
def SI(Iv:Nat→Dv→Prop)(hx:fs δ=some xs)(h0:Iv 0 δ)(hs:∀(i:Nat) (x:PD) (δ:Dv),xs[i]? = some x→Iv i δ→∃δ1,set x δ=some δ1∧∃δ2,F δ1=some (.nx δ2)∧Iv (i+1) δ2) :
  ∃δ',DH fs set F δ=some (.nx δ')∧Iv xs.length δ':=Tw Iv hx h0 fun i x δ a b=>let⟨δ1,c,δ2,e,g⟩:=hs i x δ a b;⟨δ1,δ2,c,e,g⟩
end
abbrev PK:=List PD ⊕ AD
def Wk(X:Cx)(E:XK)(e:Expr)(f:Dv→Option Xr):Prop:=∃t,PE X e t∧∀δ r,f δ=some r→∀G0 H0 G H σ ts (Q:VK),Rw G0 H0 G H σ δ ts→(∀x,r=.inl x→∀v G' H',Rw G0 H0 G' H' σ δ ((x,v)::ts)→Q v H')→(∀C,r=.inr C→∀H',AI H0 H'→E (.ref C) none H')→t σ H Q
def U4(X:Cx)(E:XK)(es:List Expr)(f:Dv→Option PK):Prop:=∃t,PA X es t∧∀δ r,f δ=some r→∀G0 H0 G H σ ts (Q:List V→Hp→Prop),Rw G0 H0 G H σ δ ts→(∀xs,r=.inl xs→∀vs G' H',Rw G0 H0 G' H' σ δ (xs.zip vs++ts)→vs.length=xs.length→Q vs H')→(∀C,r=.inr C→∀H',AI H0 H'→E (.ref C) none H')→t σ H Q
section
variable{X:Cx}{E:XK}{a b c e:Expr}{es:List Expr}{f:Dv→Option PD}{fx:Dv→Option Xr}{gx:Dv→Option PK}{fs:Dv→Option (List PD)}{pos p:Pos}
abbrev KS(f:Dv→Option (List PD)):Dv→Option PK:=fun δ=>(f δ).map .inl
def Sm(h:DA X.G8 es fs):U4 X E es (KS fs):=by
 obtain⟨t,p,k⟩:=h;refine⟨t,Rx p,fun δ r h G0 H0 G H σ ts Q R q1 q2=>?_⟩;obtain⟨o,h1,rfl⟩:=aE.mp h;exact k δ o h1 G0 H0 G H σ ts Q R (q1 o rfl)
def IE(fx:Dv→Option Xr)(gx:Dv→Option PK)(δ:Dv):Option PK:=match fx δ with
 |some (.inl x)=>(match gx δ with
  |some (.inl xs)=>some (.inl (x::xs))
  |some (.inr C)=>some (.inr C)
  |none=>none)
 |some (.inr C)=>some (.inr C)
 |none=>none
def UM(ha:Wk X E e fx)(hr:U4 X E es gx)(hs:starEach (e::es) X.env=(false,eval e X.env)::starEach es X.env:=by rfl):U4 X E (e::es) (IE fx gx):=by
 obtain⟨ta,pa,ka⟩:=ha;obtain⟨tr,pr,kr⟩:=hr;refine⟨_,Ai pa pr hs,fun δ r hz G0 H0 G H σ ts Q R q1 q2=>?_⟩;unfold IE at hz;cases hf:fx δ with
 |none=>rw[hf]at hz;cases hz
 |some u =>
  rw[hf]at hz;cases u with
  |inr C =>
   cases hz;exact ka δ _ hf G0 H0 G H σ ts _ R (fun x hx=>by cases hx) fun C' hC=>by cases hC;exact q2 C rfl
  |inl x =>
   refine ka δ _ hf G0 H0 G H σ ts _ R (fun x' hx v G1 H1 R1=>?_) (fun C hC=>by cases hC);cases hx;cases hg:gx δ with
   |none=>rw[hg]at hz;cases hz
   |some w =>
    rw[hg]at hz;refine kr δ _ hg G0 H0 G1 H1 σ _ _ R1 (fun xs hxs vs G2 H2 R2 hl=>?_) (fun C hC H' h'=>?_)
    ·subst hxs;cases hz;refine q1 _ rfl (v::vs) G2 H2 (R2.less fun q hq=>?_) (by simp[hl]);simp only[List.zip_cons_cons,List.cons_append,List.mem_cons,List.mem_append]at hq ⊢;rcases hq with h|h|h
     ·exact .inr (.inl h)
     ·exact .inl h
     ·exact .inr (.inr h)
    ·subst hC;cases hz;exact q2 C rfl H' h'
def IL(gx:Dv→Option PK)(m:List PD→Option Xr)(δ:Dv):Option Xr:=match gx δ with
 |some (.inl xs)=>m xs
 |some (.inr C)=>some (.inr C)
 |none=>none
def NQ{k:Nat}{fA:AD}{fd:FuncData}{ps:List Str}{m:List PD→Option Xr}{x:Str}{st':Stmt}(T:Fn X.K X.mg x st' ps fA fd)(F:AM X.prog X.w X.K X.mg X.base (B2 X.prog X.w) k fA fd ps (FU m))(hr:B5 k X.A)(hP:Passes (B2 X.prog X.w) X E)(ha:U4 X E (e::es) gx)
 (hg:Gl X x:=by rfl)(hdb:(x==("__debug__" : Str))=false:=by decide)(he:starEach (e::es) X.env=(false,eval e X.env)::starEach es X.env:=by rfl)(hpl:(backTo pos (starEach es X.env)).any (·.1)=false:=by rfl) :
  Wk X E (.Call (.Name x p) (e::es) [] pos) (IL gx m):=by
 obtain⟨ta,pa,ka⟩:=ha;refine⟨_,Sr T F hr hg hP pa hdb he hpl,fun δ r hz G0 H0 G H σ ts Q R q1 q2=>?_⟩;unfold IL at hz;cases hg:gx δ with
 |none=>rw[hg]at hz;cases hz
 |some w =>
  rw[hg]at hz;refine ka δ _ hg G0 H0 G H σ ts _ R (fun xs hxs vs G1 H1 R1 hv=>?_) (fun C hC H' h'=>?_)
  ·subst hxs;obtain⟨d,R2⟩:=R1.args hv;refine⟨xs,r,G1,hz,by rw[List.append_nil];exact d,R2.ins,?_⟩;cases r with
   |inl y=>exact fun v G' H' h3 h4 h5 h6 h7=>q1 y rfl _ _ _ ((R2.lift h3 h4 h5 h6).put h7)
   |inr C=>exact fun H' h=>q2 C rfl H' (R2.keep.trans h)
  ·subst hC;cases hz;exact q2 C rfl H' h'
abbrev xE(fx:Dv→Option Xr)(nx:PD→Dv→Ou):EN:=fun δ=>(fx δ).map fun r=>match r with
 |.inl x=>.inl (nx x δ)
 |.inr C=>.inr C
def Vp(he:Wk X E e fx):DX X E (.Return (some e) pos) (xE fx fun x _=>.rt x):=by
 obtain⟨t,p,k⟩:=he;refine⟨_,Cq p,fun δ r h G0 H0 G H σ D R q=>?_⟩;obtain⟨z,h1,rfl⟩:=aE.mp h;refine k δ z h1 G0 H0 G H σ [] _ R (fun x hx v G' H' R'=>?_) (fun C hC H' h'=>?_)
 ·subst hx;exact q _ _ _ R'.ext R'.new R'.ins R'.keep (R'.BA _ (.head _))
 ·subst hC;exact q _ h'
end
end L2
set_option maxHeartbeats 2000000
set_option maxHeartbeats 1000000
namespace L2
open PySem PySem.Spec PyProof.Rows
def Rq(ns:List Int):(ns.map V.int).all Fx=true:=by
 rw[List.all_eq_true];intro x hx;obtain⟨i,_,rfl⟩:=List.mem_map.mp hx
 rfl
def Nj(i:Int):∀ns:List Int,Uv (.int i) (ns.map V.int)=ns.contains i
 |[]=>rfl
 |n::ns=>by
  have ih:=Nj i ns;unfold Uv at ih ⊢;rw[List.map_cons,List.any_cons,ih,List.contains_cons]
  congr 1
  show(n==i)=(i==n);rw[Bool.eq_iff_iff,beq_iff_eq,beq_iff_eq];exact eq_comm
def Z9{P:Program}{w:World}{K:Fg}{mg:Str→Option VL}{base:Heap}{k:Nat}{f:AD}{fd:FuncData}{ps:List Str}{m:MD}(F:AM P w K mg base A6 k f fd ps (Ba m)):AM P w K mg base (B2 P w) k f fd ps (FU fun ds=>(m ds).map .inl) :=
 F.cb.imp fun vs H Q E z=>by
  obtain⟨ds,r,G,h1,h2,h3,h4⟩:=z;obtain⟨x,h5,rfl⟩:=aE.mp h1;exact⟨ds,x,G,h5,h2,h3,h4⟩
end L2
set_option maxHeartbeats 4000000
namespace L2
open PySem PySem.Spec PyProof.Rows
def GT(H:Hp)(v:VL)(x:Tr):Prop:=∃a ys,v=.ref a∧H a=some (.tup ys)∧Ts H x ys
def M6(S:AD)(ev:Array (Int×VL))(ep:Nat)(t:SetTable):HO:=.ext fun h=>∃o,h.get? S=some o∧o.ExactSet∧o.data=.set ev ep t
abbrev Wt(H:Hp)(p:Int×VL)(q:Int×Tr):Prop:=p.1=q.1∧q.2.deep<8∧GT H p.2 q.2
def QM(H:Hp)(S:AD)(st:TH.ES×SetTable):Prop:=∃ev ep,H S=some (M6 S ev ep st.2)∧PySem.Paired (Wt H) ev.toList st.1.toList
def GT.same{H H':Hp}{v:VL}{x:Tr}(h:GT H v x)(e:AI H H'):GT H' v x:=let⟨a,ys,e1,e2,e3⟩:=h;⟨a,ys,e1,e _ _ e2,e3.same e⟩
structure Qd(w:World)(st:TH.ES×SetTable):Prop where
 fit:st.2.fits st.1.size=true
 plain:st.2.plain=true
 led:st.2.led=!w.params.followText "set-order"
 walk:TH.EW st.2 st.1.size=true
 small:st.1.size<64
section
variable{X:Cx}{pins:List (AD×Obj)}{σ:St}{H:Hp}{s:SD}
def SU(I:Inv X pins σ H s){v:VL}{x:Tr}(g:GT H v x):∃a its,v=.ref a∧s.heap.IsTuple a its.toArray∧TH.Vs s.heap x its:=by
 obtain⟨a,ys,rfl,h1,h2⟩:=g;obtain⟨its,r,p,_⟩:=I.tuple (BF.of (K:=X.K) h1);exact⟨a,its,rfl,p,h2.vs I r⟩
def NH(I:Inv X pins σ H s):∀ {t:Tr} {ys:List V} {us:List VL},Ts H t ys→Vals ys us→t.deep≤8→TH.GB (GT H) s.heap us t.bs
 |.nil,ys,us,h,r,_=>by
  rw[Ts]at h;subst h;cases r;exact .nil
 |.cons b q,ys,us,h,r,hd=>by
  rw[Ts]at h;obtain⟨a,zs,rest,rfl,h1,h2,h3⟩:=h;rw[Tr.deep]at hd;cases r with
  |cons r1 r2 =>
   cases r1;have g:GT H (.ref a) b:=⟨a,zs,rfl,h1,h2⟩;exact .cons ⟨by omega,g,SU I g⟩ (NH I h3 r2 (by omega))
def NZ(I:Inv X pins σ H s){l:List (Int×VL)}{m:List (Int×Tr)}(h:PySem.Paired (Wt H) l m):PySem.Paired (TH.Kp (GT H) s.heap) l m :=
 TH.Paired.imp (fun _ _ ⟨a,b,c⟩=>⟨a,b,c,SU I c⟩) h
def TC:∀ {us:List VL} {ts:List Tr},PySem.Paired (GT H) us ts→∃zs,Vals zs us∧Ts H (Tr.of ts) zs
 |_,_,.nil=>⟨[],.nil,by rw[Tr.of,Ts]⟩
 |_,_,.cons ⟨a,ys,e,h1,h2⟩ r=>by
  obtain⟨zs,r1,r2⟩:=TC r;subst e;exact⟨.ref a::zs,.cons rfl r1,by rw[Tr.of,Ts];exact⟨a,ys,zs,rfl,h1,h2,r2⟩⟩
def Zv(w:World)(K:Fg):List V→Hp→VK→Prop:=fun xs H Q=>∃p ys t st,xs=[.ref p]∧A2 K H p ys∧Ts H t ys∧t.deep≤8∧TH.GY (TH.Gg (!w.params.followText "set-order")) t.bs=some st ∧
 ∀S H',AI H H'→QM H' S st→Q (.ref S) H'
def MS(hc:X.calm=true)(hu:X.A.units+64<cLine):CN X (.type "set") (Zv X.w X.K):=by
 intro pins s σ H xs us Q I r h;obtain⟨p,ys,t,st,rfl,hq,ht,hd,hst,q⟩:=h;obtain⟨u,rfl,r1⟩:=r.one;cases r1;obtain⟨its,rv,pl,hz⟩:=I.list hq;refine TH.Oz (G:=GT H) (I.ok.hd hc) pl.isList (NH I ht rv hd) (by omega) hst fun h2 tk S2 k2=>?_;obtain⟨o,ev,ep,g1,g2,g3,g4⟩:=S2;have hf:=I.Ag.fresh (aH s.heap.objs.size);have es:=BQ hf (M6 s.heap.objs.size ev ep st.2);refine⟨.ref s.heap.objs.size,upd H s.heap.objs.size (M6 s.heap.objs.size ev ep st.2),I.laid (t':=tk) k2 (aH _) ?_,rfl,q _ _ es ⟨ev,ep,AX,TH.Paired.imp (fun _ _ ⟨a,b,c,_⟩=>⟨a,b,c.same es⟩) g4⟩⟩;exact⟨⟨o,g1,g2,g3⟩,⟨o,g1⟩,fun h1 h2 ⟨o,q1,q2⟩ k=>⟨o,k _ q1,q2⟩⟩
def Vc(I:Inv X pins σ H s){S:AD}{st:TH.ES×SetTable}(h:QM H S st)(ok:Qd X.w st):∃o ev ep,s.heap.get? S=some o∧TH.CU X.w o ev ep st.2∧TH.B0 (GT H) s.heap ev st.1:=by
 obtain⟨ev,ep,h1,h2⟩:=h;obtain⟨⟨o,g1,g2,g3⟩,_,_⟩:=(show Bq X.prog X.w H s.heap S (M6 S ev ep st.2) from I.Ag S _ h1);have R:=NZ I h2;have hz:ev.size=st.1.size:=TH.B0.size R;exact⟨o,ev,ep,g1,⟨g2,g3,by rw[hz];exact ok.fit,ok.plain,ok.led,by rw[hz];exact ok.walk⟩,R⟩
def Wz(w:World):List V→Hp→VK→Prop:=fun xs H Q=>∃S st,xs=[.ref S]∧QM H S st∧Qd w st∧∀(l:AD) (zs:List V),H l=none→zs.length<64→Ts H (Tr.of (Tr.BV (TH.Jo st)).reverse) zs→Q (.ref l) (upd H l (.lst zs))
def K6(hc:X.calm=true)(hu:X.A.units+64<cLine):CN X (.builtin "sorted") (Wz X.w):=by
 intro pins s σ H xs us Q I r h;obtain⟨S,st,rfl,hS,ok,q⟩:=h;obtain⟨u,rfl,r1⟩:=r.one;cases r1;obtain⟨o,ev,ep,g1,W,R⟩:=Vc I hS ok;refine TH.QX (I.ok.hd hc) W g1 R ok.small (by omega) fun h' D tk e1 us hD k1 gD hp hl=>?_;obtain⟨zs,r1,r2⟩:=TC hp;have hz:zs.length<64:=by rw[r1.length];exact hl
 refine⟨.ref D,upd H D (.lst zs),I.laid (t':=tk) k1 hD ⟨bF (aK hz (by rw[sizeLine_eq];decide)),us,e1,r1,gD⟩,rfl,q D zs (I.Ag.fresh hD) hz r2⟩
end
open PySem PyProof.Rows
section
variable{prog:Program}{w:World}{A:Around}{E:VL→SD→Prop}{s:SD}
def Wd{k:Int}{t:Tok}{Q:Option PySem.Fin×Unit→SD→Prop}(xs:List VL)(f:Nat→Option PySem.Fin×Unit→Sem (ForInStep (Option PySem.Fin×Unit)))
 (hf:∀i y st,xs.toArray[i]? = some y→f i st=(do
      let b ←eqBool y (.int k t)
      if b=true then do
          let r ←retInt ↑i
          pure (ForInStep.done (some r,()))
        else pure (ForInStep.yield (none,())))):∀ {vs:List VL} {ns:List Int},IntsAre vs ns→∀(pre:List VL),pre++vs=xs→k∈ns →
    (∀t' s',s'={s with toks:=s'.toks}→s.toks≤s'.toks→Q (some (.done (.ret (.int ((pre.length+ns.idxOf k:Nat):Int) t'))),()) s') →
    wpAny (model prog w) A (forIn (List.range' pre.length vs.length) (none,()) f) Q E s:=by
  intro vs ns hi
  induction hi with
  |nil=>intro _ _ hk;cases hk
  | @cons n u vs ns r ih =>
    intro pre hx hk h
    rw[List.length_cons,List.range'_succ,List.forIn_cons]
    refine Wb ?_
    rw[hf pre.length (.int n u) _ (by rw[←hx];simp)]
    refine Wb (wpAny_eqBool_int ?_)
    by_cases z:n=k
    · subst z
      rw[if_pos (by simp)]
      refine Wb ?_
      refine Wb (wpAny_mkInt (aB ?_))
      refine aB (aB ?_)
      have:=h s.toks {s with toks:=s.toks+1} rfl (Nat.le_succ _)
      rw[List.idxOf_cons_self]at this
      exact this
    · rw[if_neg (by simpa using z)]
      refine aB ?_
      have hk':k∈ns:=(aN.mp hk).resolve_left fun e=>z e.symm
      have:=ih (pre++[.int n u]) (by rw[←hx,List.append_assoc];rfl) hk' (fun t' s' e1 e2=>by
        have:=h t' s' e1 e2
        rw[List.idxOf_cons,show(n==k)=false by simpa using z]at this
        rw[List.length_append,List.length_singleton,Nat.add_assoc,Nat.add_comm 1]
        exact this)
      rw[List.length_append,List.length_singleton]at this
      exact this
def Ks{l:AD}{vs:List VL}{ns:List Int}{k:Int}{t:Tok}{Q:VL→SD→Prop}(hl:IsTup s.heap l vs.toArray)(hi:IntsAre vs ns)
 (hk:k∈ns)(h:∀t' s',s'={s with toks:=s'.toks}→s.toks≤s'.toks→Q (.int (ns.idxOf k:Nat) t') s') :
  wpAny (model prog w) A (call (.builtin "tuple.index") [.ref l,.int k t]) Q E s:=by
 refine aT F.slot_tuple_index hl.typeIs F.entry_tuple_index ?_ (F.args_tuple_index_2 _ _);unfold Builtin.«tuple.index»;refine Wb (m:=selfAndSome _ _ _ _ _) (aB ?_);refine Wb (tupleItemsOf_ hl ?_);refine Wb (aB (Wb (aB (Wb ?_))));rw[Nat.min_self,Std.Legacy.Range.forIn_eq_forIn_range'];have z:Std.Legacy.Range.size [0:vs.toArray.size]=vs.length:=by simp[Std.Legacy.Range.size]
 rw[z];refine Wd (k:=k) (t:=t) vs _ (fun i y st e=>by simp only[e]) hi [] rfl hk (fun t' s' e1 e2=>aB ⟨_,rfl,?_⟩);have:=h t' s' e1 e2;rw[List.length_nil,Nat.zero_add];exact this
end
end L2
set_option maxHeartbeats 1000000
namespace L2
open PySem PySem.Spec PyProof.Rows
def VN(K:Fg):V→List V→Hp→VK→Prop:=fun x xs H Q=>∃(p:AD) (ns:List Int) (k:Int),x=.ref p∧xs=[.int k]∧BF K H p (List.map V.int ns)∧k∈ns∧Q (.int (ns.idxOf k:Nat)) H
structure Own(K:Fg)(a:Addr)(ns:List Int):Prop where
 sq:∀H,BF K H a (ns.map V.int)
 ty:∃o,K.lookup a=some o∧o.cls=.type "tuple" ∧ o.dict=none
section
variable{X:Cx}{a e:Expr}{f:Dv→Option PD}{pos p p2:Pos}
def Sv:bI X "tuple.index" (VN X.K):=by
 intro pins s σ H x xs v us Q I rx rv h;obtain⟨q,ns,k,rfl,rfl,hq,hk,h⟩:=h;cases rx;obtain⟨u,rfl,t,rfl⟩:=vals1 rv;obtain⟨its,r',pl,hz⟩:=I.tuple hq;refine Ks pl (intsAre_of r') hk fun t' s' e1 e2=>?_;rw[e1];exact⟨.int (ns.idxOf k:Nat),H,I.tok _,⟨t',rfl⟩,h⟩
def VH(neg:Bool)(ns:List Int)(x:PD):Option PD:=match x with
 |.int i=>some (.bool (if neg then !(ns.contains i) else ns.contains i))
 |_=>none
def RG(ns:List Int)(x:PD):Option PD:=match x with
 |.int i=>if i∈ns then some (.int (ns.idxOf i:Nat)) else none
 |_=>none
def Xy{op:CmpOp}{neg:Bool}{x:Str}{c:AD}{ns:List Int}(ho:Bz X (compareOp op) (bM X.K neg))(ha:DE X a f)(hg:Gl X x)(hm:X.mg x=some (.ref c))(hn:Own X.K c ns)(hk:behindInMarks op (.Name x p)=false:=by rfl)(hd:(x==("__debug__" : Str))=false:=by decide) :
  DT X (.Compare a [op] [.Name x p] pos) (fun δ=>((f δ).bind (VH neg ns)).bind Jb):=by
 obtain⟨ta,pa,ka⟩:=ha;refine⟨_,F5 ho pa (L3 (v:=.ref c) hg hm rfl hd) hk,fun δ z hz G0 H0 G H σ ts Q R0 k=>?_⟩;obtain⟨q,h0,h4⟩:=aA.mp hz;have:=K7 h4;subst this;obtain⟨y,h1,h2⟩:=aA.mp h0;refine ka δ y h1 G0 H0 G H σ ts _ R0 fun u G1 H1 R1=>?_;unfold VH at h2;split at h2
 ·cases h2;have du:=R1.BA (_,u) (.head _);rw[Du]at du;subst du;refine⟨c,_,rfl,.inr (hn.sq _),rfl,Rq ns,?_⟩;rw[Nj];exact⟨_,rfl,k _ _ R1.drop⟩
 ·cases h2
def Ss{x:Str}{c:AD}{ns:List Int}{cp ap:Pos}(ha:DE X e f)(hg:Gl X x)(hm:X.mg x=some (.ref c))(hn:Own X.K c ns)(hd:(x==("__debug__" : Str))=false:=by decide)
 (hbase:attributeBase (.Name x p) "index" X.env (eval (.Name x p) X.env)=eval (.Name x p) X.env:=by rfl)
 (hfew:((backTo cp (starEach [e] X.env)).all (fun x=>!x.1)&&(backToKw cp (keywordEach [] X.env)).all (fun x=>x.1.isSome)
   && decide (([e]:List Expr).length+([]:List Keyword).length+(if([]:List Keyword).isEmpty then 0 else 1)<30))=true:=by rfl)
 (hline:(ap.endLine==cp.line)=true:=by rfl)(hs:starEach [e] X.env=(false,eval e X.env)::starEach [] X.env:=by rfl)(hplain:(backTo cp (starEach [] X.env)).any (·.1)=false:=by rfl) :
  DE X (.Call (.Attribute (.Name x p) "index" ap) [e] [] cp) (fun δ=>(f δ).bind (RG ns)):=by
 obtain⟨ta,pa,ka⟩:=ha;refine⟨_,My PySem.F.plainAttrs_tuple PySem.F.slot_tuple_index PySem.F.type_tuple_index Sv (L3 (v:=.ref c) hg hm rfl hd) (Ai pa BJ hs) hbase hfew hline hs hplain,fun δ z hz G0 H0 G H σ ts Q R0 k=>?_⟩;obtain⟨y,h1,h2⟩:=aA.mp hz;refine⟨.inr (.inl ⟨rfl,hn.ty⟩),?_⟩;refine ka δ y h1 G0 H0 G H σ ts _ R0 fun u G1 H1 R1=>?_;unfold RG at h2;split at h2
 ·split at h2
  ·rename_i hi;cases h2;have du:=R1.BA (_,u) (.head _);rw[Du]at du;subst du;exact⟨c,ns,_,rfl,rfl,hn.sq _,hi,k _ _ _ (R1.drop.put (by rw[Du]))⟩
  ·cases h2
 ·cases h2
end
def Js(led:Bool)(l z:List Tr):Bool:=match TH.GY (TH.Gg led) l with
 |some st=>decide ((Tr.BV (TH.Jo st)).reverse=z)&&st.2.fits st.1.size&&st.2.plain&&decide (st.2.led=led)&&TH.EW st.2 st.1.size&&decide (st.1.size<64)
 |none=>false
def NS{led:Bool}{l z:List Tr}(h:Js led l z=true):∃st,TH.GY (TH.Gg led) l=some st∧(Tr.BV (TH.Jo st)).reverse=z∧st.2.fits st.1.size=true∧st.2.plain=true∧st.2.led=led∧TH.EW st.2 st.1.size=true∧st.1.size<64:=by
 unfold Js at h;split at h
 ·rename_i st e;simp only[Bool.and_eq_true,decide_eq_true_eq]at h;obtain⟨⟨⟨⟨⟨h1,h2⟩,h3⟩,h4⟩,h5⟩,h6⟩:=h;exact⟨st,e,h1,h2,h3,h4,h5,h6⟩
 ·cases h
def OC(l:List Tr):List Tr:=match TH.GY (TH.Gg true) l with
 |some st=>(Tr.BV (TH.Jo st)).reverse
 |none=>[]
def Dx(t:Tr):Option PD:=if t.deep≤8∧Js true t.bs (OC t.bs)=true∧Js false t.bs (OC t.bs)=true then some (.list (B8 (Tr.of (OC t.bs)))) else none
def Ku:PD→Option PD
 |.list ds=>(Gz ds).bind Dx
 |_=>none
section
variable{X:Cx}{e:Expr}{f:Dv→Option PD}{pos p p2 pos2:Pos}
def QZ(hc:X.calm=true)(hu:X.A.units+64<cLine)(hg:Gl X "sorted")(hm:X.mg "sorted" = none)(hg2:Gl X "set")(hm2:X.mg "set" = none)(ha:DE X e f)
 (hs1:starEach [e] X.env=(false,eval e X.env)::starEach [] X.env:=by rfl)(hs2:starEach [.Call (.Name "set" p2) [e] [] pos2] X.env=(false,eval (.Call (.Name "set" p2) [e] [] pos2) X.env)::starEach [] X.env:=by rfl)
 (hq1:(backTo pos2 (starEach [] X.env)).any (·.1)=false:=by rfl)(hq2:(backTo pos (starEach [] X.env)).any (·.1)=false:=by rfl) :
  DE X (.Call (.Name "sorted" p) [.Call (.Name "set" p2) [e] [] pos2] [] pos) (fun δ=>(f δ).bind Ku):=by
 obtain⟨ta,pa,ka⟩:=ha;refine⟨_,Bv (K6 hc hu) hg hm PyProof.Rows.boot_sorted (Ai (Jp (MS hc hu) hg2 hm2 PyProof.Rows.boot_set (Ai pa BJ hs1) (by decide) (by decide) hs1 hq1) BJ hs2) (by decide) (by decide) hs2 hq2,fun δ z hz G0 H0 G H σ ts Q R0 k=>?_⟩;obtain⟨y,h1,h2⟩:=aA.mp hz;refine ka δ y h1 G0 H0 G H σ ts _ R0 fun u G1 H1 R1=>?_;unfold Ku at h2;split at h2
 ·rename_i ds;obtain⟨t,h3,h4⟩:=aA.mp h2;unfold Dx at h4;split at h4
  ·rename_i hh;cases h4;have hds:=JI h3;have du:=R1.BA (_,u) (.head _);obtain⟨bb,a,ys,rfl,n1,n2⟩:=Hn du (show Es (.list ds)=some ds from rfl);have n1':H1 a=some (.lst ys):=by
    have:=R1.ins _ _ n1;cases bb
    ·simpa using this
    ·exact absurd n1 (by
      have du':=du;intro n1;rw[Du]at du';obtain⟨a',ys',e1,e2,_⟩:=du';cases e1;rw[e2]at n1;cases n1)
   rw[hds]at n2;have ht:=(JW n2).same R1.ins;have both:∀led,Js led t.bs (OC t.bs)=true:=fun led=>by cases led;exact hh.2.2;exact hh.2.1
   obtain⟨st,r1,r2,r3,r4,r5,r6,r7⟩:=NS (both (!X.w.params.followText "set-order"));refine⟨a,ys,t,st,rfl,A2.of n1',ht,hh.1,r1,fun S H' e1 hS=>⟨S,st,rfl,hS,⟨r3,r4,r5,r6,r7⟩,fun l zs hl hz ht'=>?_⟩⟩;rw[r2]at ht';have R2:=(R1.drop.on e1).Bu;exact k _ _ _ (R2.Ji (JV ht') hl)
  ·cases h4
 ·cases h2
end
end L2
set_option maxHeartbeats 4000000
namespace ZT
open PySem PyProof.Rows
abbrev Ca(h:Heap)(T:AD)(a b c:VL):Prop:=h.get? T=some { cls:=.type "tuple",data:=.seq #[a,b,c]}
section
variable{prog:Program}{w:World}{A:Around}{E:VL→SD→Prop}{s:SD}{z TI TO i1 i2 i3:AD}{f1 f2 f3:List AD}{n1 n2 n3 k:Nat}{P1 P2 P3:Nat→VL→Prop}{S1 S2 S3:Nat→Heap→Prop}{a b c:VL}
def put3{T:AD}{x:VL}{k:Nat}{Q:Unit→SD→Prop}(hT:Ca s.heap T a b c)
 (h:∀h',h'.get? T=some { cls:=.type "tuple",data:=.seq ((#[a,b,c]:Array VL).setIfInBounds k x)}→Heap.SameBut T s.heap h'→Q () {s with heap:=h'}):wpAny (model prog w) A (updateSeq T (·.setIfInBounds k x)) Q E s:=by
 refine wpAny_updateSeq hT rfl (h _ ?_ (ak ..));rw[Heap.get?_update_self _ hT rfl];simp[Obj.mapSeq]
structure Jl(z TI TO i1 i2 i3:Addr)(f1 f2 f3:List Addr):Prop where
 a1:TO≠z∧TO≠i1∧TO≠i2∧TO≠i3
 a2:i1≠z∧i2≠z∧i3≠z
 b1:z ∉ f1∧TO ∉ f1∧i2 ∉ f1∧i3 ∉ f1
 b2:z ∉ f2∧TO ∉ f2∧i1 ∉ f2∧i3 ∉ f2
 b3:z ∉ f3∧TO ∉ f3∧i1 ∉ f3∧i2 ∉ f3
def Z0{Q:VL→SD→Prop}(D1:Draws prog w A i1 f1 n1 P1 S1)(D2:Draws prog w A i2 f2 n2 P2 S2)(D3:Draws prog w A i3 f3 n3 P3 S3)(ap:Jl z TI TO i1 i2 i3 f1 f2 f3)(hz:IsZip s.heap z TI TO .none)(hI:Ca s.heap TI (.ref i1) (.ref i2) (.ref i3))(hO:Ca s.heap TO a b c)
 (t1:S1 k s.heap)(t2:S2 k s.heap)(t3:S3 k s.heap)(l1:k<n1)(l2:k<n2)(l3:k<n3)
 (q:∀x y u h' tk,P1 k x→P2 k y→P3 k u→IsZip h' z TI TO (rawInt s.heap.objs.size)→Ca h' TO x y u→S1 (k+1) h'→S2 (k+1) h'→S3 (k+1) h'→Ca h' s.heap.objs.size x y u→h'.objs.size=s.heap.objs.size+1 →
   (∀c o,c≠z→c≠TO→c≠i1→c≠i2→c≠i3→s.heap.get? c=some o→h'.get? c=some o)→Q (.ref s.heap.objs.size) {s with heap:=h',toks:=tk}) :
  wpAny (model prog w) A (Builtin.«zip.__next__» ⟨[.ref z],[]⟩) (fun fin s'=>∃v,fin=.done (.ret v)∧Q v s') E s:=by
 obtain⟨⟨c5,c6,c7,c7'⟩,⟨c8,c9,c9'⟩,⟨d1,d2,d3,d3'⟩,⟨d4,d5,d6,d6'⟩,e4,e5,e6,e6'⟩:=ap;show wpAny _ _ (field (.ref z) 2>>=_) _ _ _;refine Wb (ag hz rfl (x:=.bool false) rfl ?_);show wpAny _ _ (field (.ref z) 3>>=_) _ _ _;refine Wb (ag hz rfl (x:=.ref TI) rfl (Wb (aY hI rfl ?_)));show wpAny _ _ (Builtin.SmallTypes.ownedTupleIsFree (.ref z)>>=_) _ _ _;unfold Builtin.SmallTypes.ownedTupleIsFree;refine Wb (Wb (ag hz rfl (x:=.none) rfl (aB ?_)));simp only[if_true];refine Wb (au (Wb (ag hz rfl (x:=.ref TO) rfl (Wb (av hz (by simp) fun g1 z1 m1=>Wb ?_)))));have m1:Heap.SameBut z s.heap g1:=m1;have z1:IsZip g1 z TI TO .ellipsis:=z1;simp only[List.zipIdx_cons,List.zipIdx_nil,List.forIn_cons,List.forIn_nil];refine Wb (Wb (wpAny_onRaise ?_));show wpAny _ _ (Builtin.SmallTypes.nextOf (.ref i1)>>=_) _ _ _;refine Wb (D1.item k _ _ _ l1 (D1.frame _ _ _ t1 (Am d1 m1)) fun x g2 tk2 p1 u1 m2=>aB ?_);have m2:Heap.SameBut i1 g1 g2:=m2;have o2:Ca g2 TO a b c:=(m2.2 _ c6).trans ((m1.2 _ c5).trans hO);refine Wb (aY o2 rfl (Wb (put3 o2 fun g3 o3 m3=>Wb (wpAny_letGo (aB ?_)))));have o3:Ca g3 TO x b c:=o3;have m3:Heap.SameBut TO g2 g3:=m3;refine Wb (Wb (wpAny_onRaise ?_));show wpAny _ _ (Builtin.SmallTypes.nextOf (.ref i2)>>=_) _ _ _;have t2':S2 k g3:=D2.frame _ _ _ (D2.frame _ _ _ (D2.frame _ _ _ t2 (Am d4 m1)) (Am d6 m2)) (Am d5 m3);refine Wb (D2.item k _ _ _ l2 t2' fun y g4 tk4 p2 u2 m4=>aB ?_);have m4:Heap.SameBut i2 g3 g4:=m4;have o4:Ca g4 TO x b c:=(m4.2 _ c7).trans o3;refine Wb (aY o4 rfl (Wb (put3 o4 fun g5 o5 m5=>Wb (wpAny_letGo (aB ?_)))));have m5:Heap.SameBut TO g4 g5:=m5;have o5:Ca g5 TO x y c:=o5;refine Wb (Wb (wpAny_onRaise ?_));show wpAny _ _ (Builtin.SmallTypes.nextOf (.ref i3)>>=_) _ _ _;have t3':S3 k g5:=D3.frame _ _ _ (D3.frame _ _ _ (D3.frame _ _ _ (D3.frame _ _ _ (D3.frame _ _ _ t3 (Am e4 m1)) (Am e6 m2)) (Am e5 m3)) (Am e6' m4)) (Am e5 m5);refine Wb (D3.item k _ _ _ l3 t3' fun u g6 tk6 p3 u3 m6=>aB ?_);have m6:Heap.SameBut i3 g5 g6:=m6;have o6:Ca g6 TO x y c:=(m6.2 _ c7').trans o5;refine Wb (aY o6 rfl (Wb (put3 o6 fun g7 o7 m7=>Wb (wpAny_letGo (aB (aB ?_))))));have m7:Heap.SameBut TO g6 g7:=m7;have o7:Ca g7 TO x y u:=o7;refine Wb (aY o7 rfl (Wb (wpAny_newTuple ?_)));have sz:g7.objs.size=s.heap.objs.size:=by rw[m7.1,m6.1,m5.1,m4.1,m3.1,m2.1,m1.1]
 have z7:IsZip g7 z TI TO .ellipsis:=(m7.2 _ c5.symm).trans ((m6.2 _ c9'.symm).trans ((m5.2 _ c5.symm).trans ((m4.2 _ c9.symm).trans ((m3.2 _ c5.symm).trans ((m2.2 _ c8.symm).trans z1)))));have kp:∀c o,c≠z→c≠TO→c≠i1→c≠i2→c≠i3→s.heap.get? c=some o→g7.get? c=some o:=fun c o e1 e2 e3 e4 e5 e=>(m7.2 _ e2).trans ((m6.2 _ e5).trans ((m5.2 _ e2).trans ((m4.2 _ e4).trans ((m3.2 _ e2).trans ((m2.2 _ e3).trans ((m1.2 _ e1).trans e))))));have v1:S1 (k+1) g7:=D1.frame _ _ _ (D1.frame _ _ _ (D1.frame _ _ _ (D1.frame _ _ _ (D1.frame _ _ _ u1 (Am d2 m3)) (Am d3 m4)) (Am d2 m5)) (Am d3' m6)) (Am d2 m7);have v2:S2 (k+1) g7:=D2.frame _ _ _ (D2.frame _ _ _ (D2.frame _ _ _ u2 (Am d5 m5)) (Am d6' m6)) (Am d5 m7);have v3:S3 (k+1) g7:=D3.frame _ _ _ u3 (Am e5 m7);show wpAny _ _ (Builtin.SmallTypes.ownedTupleHandOut (.ref z) (.ref g7.objs.size)>>=_) _ _ _;unfold Builtin.SmallTypes.ownedTupleHandOut;have z8:IsZip (g7.push { cls:=.type "tuple",data:=.seq #[x,y,u]}) z TI TO .ellipsis:=aF _ z7;refine Wb (Wb (av z8 (by simp) fun g8 w8 m8=>av (show IsZip g8 z TI TO (rawInt g7.objs.size) from w8) (by simp) fun g9 w9 m9=>?_));have w9:IsZip g9 z TI TO (rawInt g7.objs.size):=w9;have up:∀c o,c≠z→(g7.push { cls:=.type "tuple",data:=.seq #[x,y,u]}).get? c=some o→g9.get? c=some o:=fun c o e1 e=>(m9.2 _ e1).trans ((m8.2 _ e1).trans e);have zl:z<g7.objs.size:=aG z7;refine aB ⟨_,rfl,?_⟩;show Q (.ref g7.objs.size) _;have fin:=q x y u g9 tk6 p1 p2 p3 (by rw[←sz];exact w9) (up _ _ c5 (aF _ o7)) (D1.frame _ _ _ v1 fun c hc o e=>up c o (fun y=>d1 (y ▸ hc)) (aF _ e)) (D2.frame _ _ _ v2 fun c hc o e=>up c o (fun y=>d4 (y ▸ hc)) (aF _ e)) (D3.frame _ _ _ v3 fun c hc o e=>up c o (fun y=>e4 (y ▸ hc)) (aF _ e))
  (by rw[←sz];exact up _ _ (Nat.ne_of_gt zl) (aL _ rfl)) (by rw[←sz,m9.1,m8.1,Heap.size_push]) fun c o e1 e2 e3 e4 e5 e=>up c o e1 (aF _ (kp c o e1 e2 e3 e4 e5 e))
 rw[sz];exact fin
def X0{Q:Fin→SD→Prop}(D1:Draws prog w A i1 f1 n1 P1 S1)(D2:Draws prog w A i2 f2 n2 P2 S2)(D3:Draws prog w A i3 f3 n3 P3 S3)(ap:Jl z TI TO i1 i2 i3 f1 f2 f3)(hz:IsZip s.heap z TI TO .none)(hI:Ca s.heap TI (.ref i1) (.ref i2) (.ref i3))(hO:Ca s.heap TO a b c)
 (t1:S1 k s.heap)(t2:S2 k s.heap)(t3:S3 k s.heap)(he:k=n1∨(k<n1∧k=n2)∨(k<n1∧k<n2∧k=n3))
 (q:∀h' e tk,(∀c o,c≠z→c≠TO→c≠i1→c≠i2→c≠i3→s.heap.get? c=some o→h'.get? c=some o)→(∃o,h'.get? e=some o∧o.cls=.type "StopIteration")→E (.ref e) {s with heap:=h',toks:=tk}) :
  wpAny (model prog w) A (Builtin.«zip.__next__» ⟨[.ref z],[]⟩) Q E s:=by
 obtain⟨⟨c5,c6,c7,c7'⟩,⟨c8,c9,c9'⟩,⟨d1,d2,d3,d3'⟩,⟨d4,d5,d6,d6'⟩,e4,e5,e6,e6'⟩:=ap;show wpAny _ _ (field (.ref z) 2>>=_) _ _ _;refine Wb (ag hz rfl (x:=.bool false) rfl ?_);show wpAny _ _ (field (.ref z) 3>>=_) _ _ _;refine Wb (ag hz rfl (x:=.ref TI) rfl (Wb (aY hI rfl ?_)));show wpAny _ _ (Builtin.SmallTypes.ownedTupleIsFree (.ref z)>>=_) _ _ _;unfold Builtin.SmallTypes.ownedTupleIsFree;refine Wb (Wb (ag hz rfl (x:=.none) rfl (aB ?_)));simp only[if_true];refine Wb (au (Wb (ag hz rfl (x:=.ref TO) rfl (Wb (av hz (by simp) fun g1 z1 m1=>Wb ?_)))));have m1:Heap.SameBut z s.heap g1:=m1;have z1:IsZip g1 z TI TO .ellipsis:=z1;simp only[List.zipIdx_cons,List.zipIdx_nil,List.forIn_cons,List.forIn_nil];refine Wb (Wb (wpAny_onRaise ?_));show wpAny _ _ (Builtin.SmallTypes.nextOf (.ref i1)>>=_) _ _ _;have t1':=D1.frame _ _ _ t1 (Am d1 m1);rcases he with he|⟨he1,he2⟩|⟨he1,he2,he3⟩
 ·rw[he]at t1';refine Wb (D1.done _ _ _ t1' fun g2 e m2 ho=>?_);obtain⟨o,ho,hc⟩:=ho;have z2:IsZip g2 z TI TO .ellipsis:=m2 _ _ c8.symm z1;have ez:e≠z:=fun y=>by subst y;rw[z2]at ho;cases ho;simp at hc
  exact av z2 (by simp) fun g3 _ m3=>q g3 e _ (fun c o e1 e2 e3 e4 e5 y=>(m3.2 _ e1).trans (m2 _ _ e3 ((m1.2 _ e1).trans y))) ⟨o,(m3.2 _ ez).trans ho,hc⟩
 ·refine Wb (D1.item k _ _ _ he1 t1' fun x g2 tk2 p1 u1 m2=>aB ?_);have m2:Heap.SameBut i1 g1 g2:=m2;have o2:Ca g2 TO a b c:=(m2.2 _ c6).trans ((m1.2 _ c5).trans hO);refine Wb (aY o2 rfl (Wb (put3 o2 fun g3 o3 m3=>Wb (wpAny_letGo (aB ?_)))));have m3:Heap.SameBut TO g2 g3:=m3;have t2':S2 k g3:=D2.frame _ _ _ (D2.frame _ _ _ (D2.frame _ _ _ t2 (Am d4 m1)) (Am d6 m2)) (Am d5 m3);rw[he2]at t2';refine Wb (Wb (wpAny_onRaise ?_));show wpAny _ _ (Builtin.SmallTypes.nextOf (.ref i2)>>=_) _ _ _;refine Wb (D2.done _ _ _ t2' fun g4 e m4 ho=>?_);obtain⟨o,ho,hc⟩:=ho;have z4:IsZip g4 z TI TO .ellipsis:=m4 _ _ c9.symm ((m3.2 _ c5.symm).trans ((m2.2 _ c8.symm).trans z1));have ez:e≠z:=fun y=>by subst y;rw[z4]at ho;cases ho;simp at hc
  exact av z4 (by simp) fun g5 _ m5=>q g5 e _ (fun c o e1 e2 e3 e4 e5 y=>(m5.2 _ e1).trans (m4 _ _ e4 ((m3.2 _ e2).trans ((m2.2 _ e3).trans ((m1.2 _ e1).trans y))))) ⟨o,(m5.2 _ ez).trans ho,hc⟩
 ·refine Wb (D1.item k _ _ _ he1 t1' fun x g2 tk2 p1 u1 m2=>aB ?_);have m2:Heap.SameBut i1 g1 g2:=m2;have o2:Ca g2 TO a b c:=(m2.2 _ c6).trans ((m1.2 _ c5).trans hO);refine Wb (aY o2 rfl (Wb (put3 o2 fun g3 o3 m3=>Wb (wpAny_letGo (aB ?_)))));have m3:Heap.SameBut TO g2 g3:=m3;have o3:Ca g3 TO x b c:=o3;have t2':S2 k g3:=D2.frame _ _ _ (D2.frame _ _ _ (D2.frame _ _ _ t2 (Am d4 m1)) (Am d6 m2)) (Am d5 m3);refine Wb (Wb (wpAny_onRaise ?_));show wpAny _ _ (Builtin.SmallTypes.nextOf (.ref i2)>>=_) _ _ _;refine Wb (D2.item k _ _ _ he2 t2' fun y g4 tk4 p2 u2 m4=>aB ?_);have m4:Heap.SameBut i2 g3 g4:=m4;have o4:Ca g4 TO x b c:=(m4.2 _ c7).trans o3;refine Wb (aY o4 rfl (Wb (put3 o4 fun g5 o5 m5=>Wb (wpAny_letGo (aB ?_)))));have m5:Heap.SameBut TO g4 g5:=m5;have t3':S3 k g5:=D3.frame _ _ _ (D3.frame _ _ _ (D3.frame _ _ _ (D3.frame _ _ _ (D3.frame _ _ _ t3 (Am e4 m1)) (Am e6 m2)) (Am e5 m3)) (Am e6' m4)) (Am e5 m5);rw[he3]at t3';refine Wb (Wb (wpAny_onRaise ?_));show wpAny _ _ (Builtin.SmallTypes.nextOf (.ref i3)>>=_) _ _ _;refine Wb (D3.done _ _ _ t3' fun g6 e m6 ho=>?_);obtain⟨o,ho,hc⟩:=ho;have z6:IsZip g6 z TI TO .ellipsis:=m6 _ _ c9'.symm ((m5.2 _ c5.symm).trans ((m4.2 _ c9.symm).trans ((m3.2 _ c5.symm).trans ((m2.2 _ c8.symm).trans z1))));have ez:e≠z:=fun y=>by subst y;rw[z6]at ho;cases ho;simp at hc
  exact av z6 (by simp) fun g7 _ m7=>q g7 e _ (fun c o e1 e2 e3 e4 e5 y=>(m7.2 _ e1).trans (m6 _ _ e5 ((m5.2 _ e2).trans ((m4.2 _ e4).trans ((m3.2 _ e2).trans ((m2.2 _ e3).trans ((m1.2 _ e1).trans y))))))) ⟨o,(m7.2 _ ez).trans ho,hc⟩
def Qx{Q:Option VL→SD→Prop}(D1:Draws prog w A.in1 i1 f1 n1 P1 S1)(D2:Draws prog w A.in1 i2 f2 n2 P2 S2)(D3:Draws prog w A.in1 i3 f3 n3 P3 S3)(ap:Jl z TI TO i1 i2 i3 f1 f2 f3)(hz:IsZip s.heap z TI TO .none)(hI:Ca s.heap TI (.ref i1) (.ref i2) (.ref i3))(hO:Ca s.heap TO a b c)
 (t1:S1 k s.heap)(t2:S2 k s.heap)(t3:S3 k s.heap)(l1:k<n1)(l2:k<n2)(l3:k<n3)
 (q:∀x y u h' tk,P1 k x→P2 k y→P3 k u→IsZip h' z TI TO (rawInt s.heap.objs.size)→Ca h' TO x y u→S1 (k+1) h'→S2 (k+1) h'→S3 (k+1) h'→Ca h' s.heap.objs.size x y u→h'.objs.size=s.heap.objs.size+1 →
   (∀c o,c≠z→c≠TO→c≠i1→c≠i2→c≠i3→s.heap.get? c=some o→h'.get? c=some o)→Q (some (.ref s.heap.objs.size)) {s with heap:=h',toks:=tk}) :
  wpAny (model prog w) A (pyNext (.ref z)) Q E s:=by
 have hT:s.TypeIs (.ref z) "zip" := ⟨_,hz,rfl⟩;unfold pyNext;exact Wb (wpAny_attempt (ai (name:=Str.ofString "__next__") hT F.slot_zip_next
  (aT F.slot_zip_next hT F.entry_zip_next (Z0 D1 D2 D3 ap hz hI hO t1 t2 t3 l1 l2 l3 fun x y u h' tk r1 r2 r3 r4 r5 r6 r7 r8 r9 r10 r11=>aB (q x y u h' tk r1 r2 r3 r4 r5 r6 r7 r8 r9 r10 r11)) (F.args_zip_next_1 _))))
def SJ{Q:Option VL→SD→Prop}(D1:Draws prog w A.in1 i1 f1 n1 P1 S1)(D2:Draws prog w A.in1 i2 f2 n2 P2 S2)(D3:Draws prog w A.in1 i3 f3 n3 P3 S3)(ap:Jl z TI TO i1 i2 i3 f1 f2 f3)(hz:IsZip s.heap z TI TO .none)(hI:Ca s.heap TI (.ref i1) (.ref i2) (.ref i3))(hO:Ca s.heap TO a b c)
 (t1:S1 k s.heap)(t2:S2 k s.heap)(t3:S3 k s.heap)(he:k=n1∨(k<n1∧k=n2)∨(k<n1∧k<n2∧k=n3))
 (q:∀h' tk,(∀c o,c≠z→c≠TO→c≠i1→c≠i2→c≠i3→s.heap.get? c=some o→h'.get? c=some o)→Q none {s with heap:=h',toks:=tk}) :
  wpAny (model prog w) A (pyNext (.ref z)) Q E s:=by
 have hT:s.TypeIs (.ref z) "zip" := ⟨_,hz,rfl⟩;unfold pyNext;refine Wb (wpAny_attempt (ai (name:=Str.ofString "__next__") hT F.slot_zip_next
  (aT F.slot_zip_next hT F.entry_zip_next (X0 D1 D2 D3 ap hz hI hO t1 t2 t3 he fun h' e tk kp ho=>?_) (F.args_zip_next_1 _))))
 obtain⟨o,ho,hc⟩:=ho;exact Wb (wpAny_isInstance (T := "StopIteration") (b:=true) ⟨o,ho,hc⟩ isSubtype_stop (aB (q _ _ kp)))
abbrev Jm(a b c:VL):Obj:={ cls:=.type "tuple",data:=.seq #[a,b,c]}
def Xi(b1 b2 b3:Bool)(h:Heap)(l1 l2 l3:AD):Heap :=
 (((((h.push (BM b1 l1)).push (BM b2 l2)).push (BM b3 l3)).push (Jm (.ref h.objs.size) (.ref (h.push (BM b1 l1)).objs.size) (.ref ((h.push (BM b1 l1)).push (BM b2 l2)).objs.size))).push (Jm .none .none .none)).push
  { cls:=.type "zip",data:=.fields #[.none,.bool false,.bool false,.ref (((h.push (BM b1 l1)).push (BM b2 l2)).push (BM b3 l3)).objs.size,.ref ((((h.push (BM b1 l1)).push (BM b2 l2)).push (BM b3 l3)).push (Jm (.ref h.objs.size) (.ref (h.push (BM b1 l1)).objs.size) (.ref ((h.push (BM b1 l1)).push (BM b2 l2)).objs.size))).objs.size]}
def UU(b1 b2 b3:Bool)(l1 l2 l3:AD)(xs ys zs:List VL) :
  Meets (Builtin.«zip.__new__» ⟨[.type "zip",.ref l1,.ref l2,.ref l3],[]⟩) (fun _ R s=>Sq b1 s.heap l1 xs∧Sq b2 s.heap l2 ys∧Sq b3 s.heap l3 zs ∧
   R (.ok (.ret (.ref (((((s.heap.push (BM b1 l1)).push (BM b2 l2)).push (BM b3 l3)).push (Jm (.ref s.heap.objs.size) (.ref (s.heap.push (BM b1 l1)).objs.size) (.ref ((s.heap.push (BM b1 l1)).push (BM b2 l2)).objs.size))).push (Jm .none .none .none)).objs.size))) {s with heap:=Xi b1 b2 b3 s.heap l1 l2 l3}) :=
 .of_wp fun prog w A R s h=>by
  obtain⟨hp,g,d,tk,os⟩:=s;obtain⟨h1,h2,h3,h⟩:=h;have hsub:=sub_zip;have i1:∀(A:Around) (E:VL→SD→Prop) (Q:VL→SD→Prop),Q (.ref hp.objs.size) ⟨hp.push (BM b1 l1),g,d,tk,os⟩→wpAny (model prog w) A (pyIter (.ref l1)) Q E ⟨hp,g,d,tk,os⟩:=fun A E Q q=>Ln (s:=⟨hp,g,d,tk,os⟩) h1 q;have i2:∀(A:Around) (E:VL→SD→Prop) (Q:VL→SD→Prop),Q (.ref (hp.push (BM b1 l1)).objs.size) ⟨(hp.push (BM b1 l1)).push (BM b2 l2),g,d,tk,os⟩→wpAny (model prog w) A (pyIter (.ref l2)) Q E ⟨hp.push (BM b1 l1),g,d,tk,os⟩:=fun A E Q q=>Ln (s:=⟨hp.push (BM b1 l1),g,d,tk,os⟩) (h2.push _) q;have i3:∀(A:Around) (E:VL→SD→Prop) (Q:VL→SD→Prop),Q (.ref ((hp.push (BM b1 l1)).push (BM b2 l2)).objs.size) ⟨((hp.push (BM b1 l1)).push (BM b2 l2)).push (BM b3 l3),g,d,tk,os⟩→wpAny (model prog w) A (pyIter (.ref l3)) Q E ⟨(hp.push (BM b1 l1)).push (BM b2 l2),g,d,tk,os⟩:=fun A E Q q=>Ln (s:=⟨(hp.push (BM b1 l1)).push (BM b2 l2),g,d,tk,os⟩) ((h3.push _).push _) q
  wp_walk using i1,i2,i3
  exact⟨_,rfl,h⟩
def V0(a b c:VL):checkTypeCall "zip" ⟨[a,b,c],[]⟩=pure ():=by kernel_rfl
def VU(a b c:VL):checkBuiltinCall "zip.__new__" ⟨[.type "zip",a,b,c],[]⟩=pure ():=by kernel_rfl
def Vv(a b c d:VL):argsOk "object.__init__" ⟨[a,b,c,d],[]⟩:=by
 unfold argsOk;rw[signature?_of (n:=['_','_','t','i','n','i','_','_']) (o:=['t','c','e','j','b','o']) (by kernel_rfl) F.owner_object]
 kernel_rfl
def RE{b1 b2 b3:Bool}{l1 l2 l3:AD}{xs ys zs:List VL}{Q:VL→SD→Prop}(h1:Sq b1 s.heap l1 xs)(h2:Sq b2 s.heap l2 ys)(h3:Sq b3 s.heap l3 zs)
 (h:∀h',IsZip h' (s.heap.objs.size+5) (s.heap.objs.size+3) (s.heap.objs.size+4) .none→Ca h' (s.heap.objs.size+3) (.ref s.heap.objs.size) (.ref (s.heap.objs.size+1)) (.ref (s.heap.objs.size+2))→Ca h' (s.heap.objs.size+4) .none .none .none →
   JZ b1 h' s.heap.objs.size l1 0→JZ b2 h' (s.heap.objs.size+1) l2 0→JZ b3 h' (s.heap.objs.size+2) l3 0→(∀c o,s.heap.get? c=some o→h'.get? c=some o)→Q (.ref (s.heap.objs.size+5)) {s with heap:=h'}) :
  wpAny (model prog w) A (call (.type "zip") [.ref l1,.ref l2,.ref l3]) Q E s:=by
 refine callType_new F.called_zip (by decide) (V0 _ _ _) (VU _ _ _) (fun obj=>Vv obj _ _ _) F.entry_zip_new (UU b1 b2 b3 l1 l2 l3 xs ys zs) ⟨h1,h2,h3,?_⟩;have up:∀(g:Heap) (o:Obj) (c:AD) (u:Obj),g.get? c=some u→(g.push o).get? c=some u:=fun g o c u e=>aF _ e;have n1:(s.heap.push (BM b1 l1)).objs.size=s.heap.objs.size+1:=Heap.size_push ..;have a0:(s.heap.push (BM b1 l1)).get? s.heap.objs.size=some (BM b1 l1):=aL _ (by cases b1<;>rfl);generalize hg1:s.heap.push (BM b1 l1)=g1 at n1 a0;have k1:∀c o,s.heap.get? c=some o→g1.get? c=some o:=fun c o e=>by rw[←hg1];exact up _ _ _ _ e
 have n2:(g1.push (BM b2 l2)).objs.size=s.heap.objs.size+2:=by rw[Heap.size_push,n1]
 have a1:(g1.push (BM b2 l2)).get? (s.heap.objs.size+1)=some (BM b2 l2):=by rw[←n1];exact aL _ (by cases b2<;>rfl)
 generalize hg2:g1.push (BM b2 l2)=g2 at n2 a1;have k2:∀c o,g1.get? c=some o→g2.get? c=some o:=fun c o e=>by rw[←hg2];exact up _ _ _ _ e
 have n3:(g2.push (BM b3 l3)).objs.size=s.heap.objs.size+3:=by rw[Heap.size_push,n2]
 have a2:(g2.push (BM b3 l3)).get? (s.heap.objs.size+2)=some (BM b3 l3):=by rw[←n2];exact aL _ (by cases b3<;>rfl)
 generalize hg3:g2.push (BM b3 l3)=g3 at n3 a2;have k3:∀c o,g2.get? c=some o→g3.get? c=some o:=fun c o e=>by rw[←hg3];exact up _ _ _ _ e
 have n4:(g3.push (Jm (.ref s.heap.objs.size) (.ref (s.heap.objs.size+1)) (.ref (s.heap.objs.size+2)))).objs.size=s.heap.objs.size+4:=by rw[Heap.size_push,n3]
 have a3:Ca (g3.push (Jm (.ref s.heap.objs.size) (.ref (s.heap.objs.size+1)) (.ref (s.heap.objs.size+2)))) (s.heap.objs.size+3) (.ref s.heap.objs.size) (.ref (s.heap.objs.size+1)) (.ref (s.heap.objs.size+2)):=by rw[←n3];exact aL _ rfl
 generalize hg4:g3.push (Jm (.ref s.heap.objs.size) (.ref (s.heap.objs.size+1)) (.ref (s.heap.objs.size+2)))=g4 at n4 a3;have k4:∀c o,g3.get? c=some o→g4.get? c=some o:=fun c o e=>by rw[←hg4];exact up _ _ _ _ e
 have n5:(g4.push (Jm .none .none .none)).objs.size=s.heap.objs.size+5:=by rw[Heap.size_push,n4]
 have a4:Ca (g4.push (Jm .none .none .none)) (s.heap.objs.size+4) .none .none .none:=by rw[←n4];exact aL _ rfl
 generalize hg5:g4.push (Jm .none .none .none)=g5 at n5 a4;have k5:∀c o,g4.get? c=some o→g5.get? c=some o:=fun c o e=>by rw[←hg5];exact up _ _ _ _ e
 have ez:Xi b1 b2 b3 s.heap l1 l2 l3=g5.push { cls:=.type "zip",data:=.fields #[.none,.bool false,.bool false,.ref (s.heap.objs.size+3),.ref (s.heap.objs.size+4)]}:=by
  unfold Xi;rw[hg1,hg2,hg3,n1,n2,hg4,hg5,n3,n4]
 have a5:IsZip (g5.push { cls:=.type "zip",data:=.fields #[.none,.bool false,.bool false,.ref (s.heap.objs.size+3),.ref (s.heap.objs.size+4)]}) (s.heap.objs.size+5) (s.heap.objs.size+3) (s.heap.objs.size+4) .none:=by rw[←n5];exact aL _ rfl
 rw[n1,n2,hg4,hg5,n5,ez];show _∧_;have k6:∀c o,g5.get? c=some o→(g5.push { cls:=.type "zip",data:=.fields #[.none,.bool false,.bool false,.ref (s.heap.objs.size+3),.ref (s.heap.objs.size+4)]}).get? c=some o:=fun c o e=>up _ _ _ _ e;refine⟨⟨_,a5,rfl⟩,h _ a5 (k6 _ _ (k5 _ _ a3)) (k6 _ _ a4) ?_ ?_ ?_ fun c o e=>k6 _ _ (k5 _ _ (k4 _ _ (k3 _ _ (k2 _ _ (k1 _ _ e)))))⟩
 ·have:=k6 _ _ (k5 _ _ (k4 _ _ (k3 _ _ (k2 _ _ a0))));cases b1 with
  |true=>exact⟨_,this,rfl,rfl⟩
  |false=>exact⟨_,this,rfl,rfl⟩
 ·have:=k6 _ _ (k5 _ _ (k4 _ _ (k3 _ _ a1)));cases b2 with
  |true=>exact⟨_,this,rfl,rfl⟩
  |false=>exact⟨_,this,rfl,rfl⟩
 ·have:=k6 _ _ (k5 _ _ (k4 _ _ a2));cases b3 with
  |true=>exact⟨_,this,rfl,rfl⟩
  |false=>exact⟨_,this,rfl,rfl⟩
end
end ZT
namespace L2
open PySem PySem.Spec PyProof.Rows
def TZ(b1 b2 b3:Bool)(a1 a2 a3:AD):It :=
 ⟨fun i H=>∃xs x ys y zs u,CI b1 H a1 xs∧CI b2 H a2 ys∧CI b3 H a3 zs∧xs[i]? = some x∧ys[i]? = some y∧zs[i]? = some u,
  fun i H v H'=>∃p x y u,v=.ref p∧H p=none∧H'=upd H p (.tup [x,y,u])∧(∀xs,CI b1 H a1 xs→xs[i]? = some x)∧(∀ys,CI b2 H a2 ys→ys[i]? = some y)∧∀zs,CI b3 H a3 zs→zs[i]? = some u,
  fun i H=>∃xs ys zs,CI b1 H a1 xs∧CI b2 H a2 ys∧CI b3 H a3 zs∧(i=xs.length∨(i<xs.length∧i=ys.length)∨(i<xs.length∧i<ys.length∧i=zs.length))⟩
def cQ(b1 b2 b3:Bool)(a1 a2 a3 z TI TO i1 i2 i3:AD):Nat→Heap→Prop:=fun i h=>IsZip h z TI TO .none∧ZT.Ca h TI (.ref i1) (.ref i2) (.ref i3)∧(∃a b c,ZT.Ca h TO a b c)∧ZT.JZ b1 h i1 a1 i∧ZT.JZ b2 h i2 a2 i∧ZT.JZ b3 h i3 a3 i
def Sb{z TI TO i1 i2 i3 a1 a2 a3:AD}(ne:[z,TI,TO,i1,i2,i3].Nodup)(e1:∀b∈[z,TI,TO,i1,i2,i3],a1≠b)(e2:∀b∈[z,TI,TO,i1,i2,i3],a2≠b)(e3:∀b∈[z,TI,TO,i1,i2,i3],a3≠b):ZT.Jl z TI TO i1 i2 i3 [i1,a1] [i2,a2] [i3,a3]:=by
 simp only[List.nodup_cons,List.mem_cons,List.not_mem_nil,or_false,not_or]at ne;obtain⟨⟨n1,n2,n3,n4,n4'⟩,⟨n5,n6,n7,n7'⟩,⟨n8,n9,n9'⟩,⟨n10,n11⟩,n12,_⟩:=ne;have x:∀ {a:AD},(∀b∈[z,TI,TO,i1,i2,i3],a≠b)→z≠a∧TO≠a∧i1≠a∧i2≠a∧i3≠a:=fun h=>⟨Ne.symm (h z (by simp)),Ne.symm (h TO (by simp)),Ne.symm (h i1 (by simp)),Ne.symm (h i2 (by simp)),Ne.symm (h i3 (by simp))⟩;have m:∀ {b i a:AD},b≠i→b≠a→b ∉ [i,a]:=fun h1 h2=>by simp[h1,h2]
 obtain⟨x1,x2,x3,x4,x5⟩:=x e1;obtain⟨y1,y2,y3,y4,y5⟩:=x e2;obtain⟨w1,w2,w3,w4,w5⟩:=x e3;exact⟨⟨Ne.symm n2,n8,n9,n9'⟩,⟨Ne.symm n3,Ne.symm n4,Ne.symm n4'⟩,⟨m n3 x1,m n8 x2,m (Ne.symm n10) x4,m (Ne.symm n11) x5⟩,⟨m n4 y1,m n9 y2,m n10 y3,m (Ne.symm n12) y5⟩,⟨m n4' w1,m n9' w2,m n11 w3,m n12 w4⟩⟩
def Si{P:Program}{w:World}{K:Fg}{elts:List Expr}{x1}{pos:Pos}{b1 b2 b3:Bool}{a1 a2 a3 z TI TO i1 i2 i3:AD}(ne:[z,TI,TO,i1,i2,i3].Nodup) :
  Turn P w K (.Tuple elts x1 pos) (TZ b1 b2 b3 a1 a2 a3) [z,TI,TO,i1,i2,i3] z (cQ b1 b2 b3 a1 a2 a3 z TI TO i1 i2 i3) where
 mem:=by simp
 obj:=fun i h st b hb=>by
  obtain⟨h1,h2,⟨u,v,w,h3⟩,h4,h5,h6⟩:=st;have hb:b=z∨b=TI∨b=TO∨b=i1∨b=i2∨b=i3:=by simpa using hb
  rcases hb with rfl|rfl|rfl|rfl|rfl|rfl
  ·exact⟨_,h1,fun v y=>by cases y⟩
  ·exact⟨_,h2,fun v y=>by cases y⟩
  ·exact⟨_,h3,fun v y=>by cases y⟩
  ·exact F8 h4
  ·exact F8 h5
  ·exact F8 h6
 keep:=fun i h h' st k=>by
  obtain⟨h1,h2,⟨u,v,w,h3⟩,h4,h5,h6⟩:=st;exact⟨k z (by simp) _ h1,k TI (by simp) _ h2,⟨u,v,w,k TO (by simp) _ h3⟩,E4 h4 fun o e=>k i1 (by simp) o e,E4 h5 fun o e=>k i2 (by simp) o e,E4 h6 fun o e=>k i3 (by simp) o e⟩
 item:=by
  intro X hP hw hK hc i pins s σ H E I hf st hg;subst hP hw hK;obtain⟨xs,x,ys,y,zs,t,q1,q2,q3,hx,hy,ht⟩:=hg;obtain⟨us,rv1,p1⟩:=q1.raw I;obtain⟨vs,rv2,p2⟩:=q2.raw I;obtain⟨ws,rv3,p3⟩:=q3.raw I;obtain⟨u,hu,ru⟩:=rv1.get hx;obtain⟨v,hv,rv⟩:=rv2.get hy;obtain⟨o3,hw,rw'⟩:=rv3.get ht;obtain⟨t1,t2,⟨ta,tb,tc,t3⟩,t4,t5,t6⟩:=st;have e1:∀b∈[z,TI,TO,i1,i2,i3],a1≠b:=fun b hb=>q1.none (hf b hb).1;have e2:∀b∈[z,TI,TO,i1,i2,i3],a2≠b:=fun b hb=>q2.none (hf b hb).1;have e3:∀b∈[z,TI,TO,i1,i2,i3],a3≠b:=fun b hb=>q3.none (hf b hb).1;refine ZT.Qx (ZT.E3 (prog:=X.prog) (w:=X.w) (A:=X.A.in1) (I.ok.hd hc) b1 i1 a1 us (e1 i1 (by simp))) (ZT.E3 (prog:=X.prog) (w:=X.w) (A:=X.A.in1) (I.ok.hd hc) b2 i2 a2 vs (e2 i2 (by simp))) (ZT.E3 (prog:=X.prog) (w:=X.w) (A:=X.A.in1) (I.ok.hd hc) b3 i3 a3 ws (e3 i3 (by simp))) (Sb ne e1 e2 e3) t1 t2 t3 ⟨t4,p1⟩ ⟨t5,p2⟩ ⟨t6,p3⟩ (aM.mp hu).1 (aM.mp hv).1 (aM.mp hw).1
   fun u' v' w' h' tk r1 r2 r2' r3 r4 r5 r6 r6' r7 r8 r9=>⟨_,rfl,wpAny_letOwnedTupleGo_zip (s:={s with heap:=h',toks:=tk}) r3 fun h'' z'' sb=>?_⟩
  rw[hu]at r1;rw[hv]at r2;rw[hw]at r2';cases r1;cases r2;cases r2';have ne':=ne;simp only[List.nodup_cons,List.mem_cons,List.not_mem_nil,or_false,not_or]at ne';obtain⟨⟨n1,n2,n3,n4,n4'⟩,⟨n5,n6,n7,n7'⟩,⟨n8,n9,n9'⟩,⟨n10,n11⟩,n12,_⟩:=ne';have keep:∀b o,b ∉ [z,TI,TO,i1,i2,i3]→s.heap.get? b=some o→h''.get? b=some o:=fun b o hb q=>by
   simp only[List.mem_cons,List.not_mem_nil,or_false,not_or]at hb;exact(sb.2 b hb.1).trans (r9 b o hb.1 hb.2.2.1 hb.2.2.2.1 hb.2.2.2.2.1 hb.2.2.2.2.2 q)
  have lt:∀b∈[z,TI,TO,i1,i2,i3],b<s.heap.objs.size:=fun b hb=>by
   have hb:b=z∨b=TI∨b=TO∨b=i1∨b=i2∨b=i3:=by simpa using hb
   rcases hb with rfl|rfl|rfl|rfl|rfl|rfl
   ·exact aG t1
   ·exact aG t2
   ·exact aG t3
   ·obtain⟨o,e,_⟩:=F8 t4;exact aG e
   ·obtain⟨o,e,_⟩:=F8 t5;exact aG e
   ·obtain⟨o,e,_⟩:=F8 t6;exact aG e
  have hTn:H s.heap.objs.size=none:=I.Ag.fresh (aH _);have hT'':h''.get? s.heap.objs.size=some { cls:=.type "tuple",data:=.seq #[u,v,o3]}:=(sb.2 _ (Nat.ne_of_gt (lt z (by simp)))).trans r7;have neT:∀b o,s.heap.get? b=some o→b≠s.heap.objs.size:=fun b o q=>aI (aG q);have EK:∀b o,H b=some o→b ∉ [z,TI,TO,i1,i2,i3]:=fun b o q hb=>by rw[(hf b hb).1]at q;cases q
  refine⟨.ref s.heap.objs.size,upd H s.heap.objs.size (.tup [x,y,t]),?_,rfl,⟨_,x,y,t,rfl,hTn,rfl,fun zs hz=>by rw[hz.inj q1];exact hx,fun zs hz=>by rw[hz.inj q2];exact hy,fun zs hz=>by rw[hz.inj q3];exact ht⟩,⟨z'',?_,⟨u,v,o3,?_⟩,?_,?_,?_⟩,fun b hb=>?_⟩
  ·show Inv X pins σ _ {s with heap:=h'',gens:=s.gens,drawn:=s.drawn,toks:=tk};refine I.step (h':=h'') (g':=s.gens) (d':=s.drawn) (t':=tk) (ch:=[z,TI,TO,i1,i2,i3]) (fun b hb=>?_) (fun b o _ _ hc q _=>keep b o hc q) (fun b o _ _ hc q _=>⟨o.slots,keep b o hc q⟩)
    (fun b o _ q n=>by rw[AH (neT b o q)];exact n) (fun b o hc q=>⟨o,keep b o hc q⟩) (fun b ys q=>by rw[AH (Ad q hTn)];exact q) (fun b o u q=>by rw[AH (Ad q hTn)];exact q)
    (fun b ps q=>⟨#[],by rw[AH (Ad q hTn),q];simp⟩) (fun m hm=>?_) (fun b o q=>?_) I.bare
   ·obtain⟨_,f1,_,f3,f4,f5⟩:=hf b hb;exact⟨f3,f1,f4,f5⟩
   ·obtain⟨o,es,ep,ho,r⟩:=hm;exact⟨o,es,ep,keep _ o (fun hb=>(hf _ hb).2.1 rfl) ho,r⟩
   ·by_cases hb:b=s.heap.objs.size
    ·subst hb;rw[AX]at q;cases q;exact⟨show 3≤sizeLine by decide,[u,v,o3],.cons ru (.cons rv (.cons rw' .nil)),_,hT'',rfl,_,rfl⟩
    ·rw[AH hb]at q;refine(I.Ag b o q).GV (fun c w hc r=>keep c w ?_ r) (fun c r=>by rw[AH (Ad r hTn)];exact r) fun c ys r=>by rw[AH (Ad r hTn)];exact r
     rcases hc with rfl|hc
     ·exact EK _ _ q
     ·exact EK _ _ hc
  ·exact(sb.2 _ (Ne.symm n1)).trans (r9 _ _ (Ne.symm n1) n5 n6 n7 n7' t2)
  ·exact(sb.2 _ (Ne.symm n2)).trans r4
  ·exact E4 r5.1 fun o e=>(sb.2 _ (Ne.symm n3)).trans e
  ·exact E4 r6.1 fun o e=>(sb.2 _ (Ne.symm n4)).trans e
  ·exact E4 r6'.1 fun o e=>(sb.2 _ (Ne.symm n4')).trans e
  ·rw[AH (aI (lt b hb))];exact(hf b hb).1
 done:=by
  intro X hP hw hK hc i pins s σ H E I hf st hg;subst hP hw hK;obtain⟨xs,ys,zs,q1,q2,q3,he⟩:=hg;obtain⟨us,rv1,p1⟩:=q1.raw I;obtain⟨vs,rv2,p2⟩:=q2.raw I;obtain⟨ws,rv3,p3⟩:=q3.raw I;obtain⟨t1,t2,⟨ta,tb,tc,t3⟩,t4,t5,t6⟩:=st;have e1:∀b∈[z,TI,TO,i1,i2,i3],a1≠b:=fun b hb=>q1.none (hf b hb).1;have e2:∀b∈[z,TI,TO,i1,i2,i3],a2≠b:=fun b hb=>q2.none (hf b hb).1;have e3:∀b∈[z,TI,TO,i1,i2,i3],a3≠b:=fun b hb=>q3.none (hf b hb).1;have he':i=us.length∨(i<us.length∧i=vs.length)∨(i<us.length∧i<vs.length∧i=ws.length):=by rw[←rv1.length,←rv2.length,←rv3.length];exact he
  refine ZT.SJ (ZT.E3 (prog:=X.prog) (w:=X.w) (A:=X.A.in1) (I.ok.hd hc) b1 i1 a1 us (e1 i1 (by simp))) (ZT.E3 (prog:=X.prog) (w:=X.w) (A:=X.A.in1) (I.ok.hd hc) b2 i2 a2 vs (e2 i2 (by simp))) (ZT.E3 (prog:=X.prog) (w:=X.w) (A:=X.A.in1) (I.ok.hd hc) b3 i3 a3 ws (e3 i3 (by simp))) (Sb ne e1 e2 e3) t1 t2 t3 ⟨t4,p1⟩ ⟨t5,p2⟩ ⟨t6,p3⟩ he' fun h' tk kp=>⟨rfl,?_⟩;have keep:∀b o,b ∉ [z,TI,TO,i1,i2,i3]→s.heap.get? b=some o→h'.get? b=some o:=fun b o hb q=>by
   simp only[List.mem_cons,List.not_mem_nil,or_false,not_or]at hb;exact kp b o hb.1 hb.2.2.1 hb.2.2.2.1 hb.2.2.2.2.1 hb.2.2.2.2.2 q
  have EK:∀b o,H b=some o→b ∉ [z,TI,TO,i1,i2,i3]:=fun b o q hb=>by rw[(hf b hb).1]at q;cases q
  show Inv X pins σ _ {s with heap:=h',gens:=s.gens,drawn:=s.drawn,toks:=tk};refine I.step (h':=h') (g':=s.gens) (d':=s.drawn) (t':=tk) (ch:=[z,TI,TO,i1,i2,i3]) (fun b hb=>?_) (fun b o _ _ hc q _=>keep b o hc q) (fun b o _ _ hc q _=>⟨o.slots,keep b o hc q⟩)
    (fun b o _ q n=>n) (fun b o hc q=>⟨o,keep b o hc q⟩) (fun b ys q=>q) (fun b o u q=>q)
    (fun b ps q=>⟨#[],by rw[q];simp⟩) (fun m hm=>?_) (fun b o q=>?_) I.bare
  ·obtain⟨_,f1,_,f3,f4,f5⟩:=hf b hb;exact⟨f3,f1,f4,f5⟩
  ·obtain⟨o,es,ep,ho,r⟩:=hm;exact⟨o,es,ep,keep _ o (fun hb=>(hf _ hb).2.1 rfl) ho,r⟩
  ·refine(I.Ag b o q).GV (fun c w hc r=>keep c w ?_ r) (fun c r=>r) fun c ys r=>r;rcases hc with rfl|hc
   ·exact EK _ _ q
   ·exact EK _ _ hc
 self:=fun _ _ _ _ _ st h=>wpAny_pyIter_zip st.1 h
def Zk(ta:TA):TI:=fun σ H R=>ta σ H fun vs H1=>∃(b1 b2 b3:Bool) (a1 a2 a3:AD),vs=[.ref a1,.ref a2,.ref a3]∧(∃xs,CI b1 H1 a1 xs)∧(∃ys,CI b2 H1 a2 ys)∧(∃zs,CI b3 H1 a3 zs)∧R (TZ b1 b2 b3 a1 a2 a3) H1
def VM{X:Cx}{elts:List Expr}{x1}{tpos:Pos}{a b c:Expr}{ta:TA}{p pos:Pos}(hg:Gl X "zip")(hm:X.mg "zip" = none)(ha:PA X [a,b,c] ta)(hs:starEach [a,b,c] X.env=[(false,eval a X.env),(false,eval b X.env),(false,eval c X.env)]:=by rfl)(hs2:starEach [b,c] X.env=[(false,eval b X.env),(false,eval c X.env)]:=by rfl) :
  PI X (.Tuple elts x1 tpos) (.Call (.Name "zip" p) [a,b,c] [] pos) (Zk ta):=by
 intro pins s σ H R I h;refine Call_ (EX I hg hm boot_zip (ah (Au (ha pos pins s σ H _ I h) fun us s1 ⟨vs,H1,I1,r1,q1⟩=>?_) (by rw[hs,hs2]) (by rw[hs2];rfl)));obtain⟨b1,b2,b3,l1,l2,l3,e,⟨xs,h1⟩,⟨ys,h2⟩,⟨zs,h3⟩,q⟩:=q1;subst e;cases r1 with
 |cons r rr =>
  cases rr with
  |cons r' rr =>
   cases rr with
   |cons r'' rr =>
    cases rr;cases r;cases r';cases r'';obtain⟨us,_,p1⟩:=h1.raw I1;obtain⟨vs,_,p2⟩:=h2.raw I1;obtain⟨ws,_,p3⟩:=h3.raw I1;refine ZT.RE p1 p2 p3 fun h' z1 z2 z3 z4 z5 z6 hk=>wpAny_pyIter_zip z1 ?_;have I2:Inv X pins σ H1 {s1 with heap:=h'}:=I1.kept (t':=s1.toks) hk;refine⟨_,[s1.heap.objs.size+5,s1.heap.objs.size+3,s1.heap.objs.size+4,s1.heap.objs.size,s1.heap.objs.size+1,s1.heap.objs.size+2],_,_,H1,rfl,I2,Si ?_,⟨z1,z2,⟨_,_,_,z3⟩,z4,z5,z6⟩,fun b hb=>?_,q⟩
    ·simp
    have hb':s1.heap.objs.size≤b:=by
     have hb2:b=s1.heap.objs.size+5∨b=s1.heap.objs.size+3∨b=s1.heap.objs.size+4∨b=s1.heap.objs.size∨b=s1.heap.objs.size+1∨b=s1.heap.objs.size+2:=by simpa using hb
     rcases hb2 with h|h|h|h|h|h<;>rw[h]<;>first|exact aH _|exact Nat.le_add_right _ _
    exact I1.L6 hb' (I1.Ag.fresh hb')
def HA(xs ys zs:List PD):List PD:=(xs.zip (ys.zip zs)).map fun q=>.tuple [q.1,q.2.1,q.2.2]
def MH{xs ys zs:List PD}{i:Nat}{d:PD}(h:(HA xs ys zs)[i]? = some d):∃x y z,xs[i]? = some x∧ys[i]? = some y∧zs[i]? = some z∧d=.tuple [x,y,z]:=by
 unfold HA at h;rw[List.getElem?_map]at h;obtain⟨q,h1,rfl⟩:=aE.mp h;obtain⟨k1,k2⟩:=List.getElem?_zip_eq_some.mp h1;obtain⟨k3,k4⟩:=List.getElem?_zip_eq_some.mp k2;exact⟨q.1,q.2.1,q.2.2,k1,k3,k4,rfl⟩
def Vn{Gc H:Hp}{p:AD}{x y z:PD}{u v w:V}(e2:AI Gc H)(hp:H p=none)(d1:Du Gc x u)(d2:Du Gc y v)(d3:Du Gc z w):∃Gc',AI Gc Gc'∧Nw Gc H Gc'∧AI Gc' (upd H p (.tup [u,v,w]))∧AI H (upd H p (.tup [u,v,w]))∧Du Gc' (.tuple [x,y,z]) (.ref p):=by
 have hG:Gc p=none:=by
  cases q:Gc p with
  |none=>rfl
  |some o=>rw[e2 _ _ q]at hp;cases hp
 have e:AI Gc (upd Gc p (.tup [u,v,w])):=BQ hG _;refine⟨upd Gc p (.tup [u,v,w]),e,fun b o h=>?_,fun b o h=>?_,BQ hp _,?_⟩
 ·by_cases hb:b=p
  ·subst hb;exact .inr (.inl hp)
  ·rw[AH hb]at h;exact .inl h
 ·by_cases hb:b=p
  ·subst hb;rw[AX]at h ⊢;exact h
  ·rw[AH hb]at h ⊢;exact e2 _ _ h
 ·rw[Du];exact⟨p,_,rfl,AX,.cons (d1.same e) (.cons (d2.same e) (.cons (d3.same e) .nil))⟩
def VO{G:Hp}{b1 b2 b3:Bool}{a1 a2 a3:AD}{us vs ws:List V}{xs ys zs:List PD}(h1:G a1=some (if b1 then .tup us else .lst us))(h2:G a2=some (if b2 then .tup vs else .lst vs))(h3:G a3=some (if b3 then .tup ws else .lst ws))(d1:AZ G xs us)(d2:AZ G ys vs)(d3:AZ G zs ws):IJ (TZ b1 b2 b3 a1 a2 a3) (HA xs ys zs) G where
 stop:=fun H e=>by
  have k1:=e _ _ h1;have k2:=e _ _ h2;have k3:=e _ _ h3;refine⟨us,vs,ws,?_,?_,?_,?_⟩
  ·cases b1<;>simpa[CI]using k1
  ·cases b2<;>simpa[CI]using k2
  ·cases b3<;>simpa[CI]using k3
  ·rw[d1.len,d2.len,d3.len];simp[HA];omega
 go:=fun i x H hx e=>by
  obtain⟨x1,x2,x3,k1,k2,k3,rfl⟩:=MH hx;obtain⟨v1,j1,_⟩:=d1.get k1;obtain⟨v2,j2,_⟩:=d2.get k2;obtain⟨v3,j3,_⟩:=d3.get k3;have m1:=e _ _ h1;have m2:=e _ _ h2;have m3:=e _ _ h3;refine⟨us,v1,vs,v2,ws,v3,?_,?_,?_,j1,j2,j3⟩
  ·cases b1<;>simpa[CI]using m1
  ·cases b2<;>simpa[CI]using m2
  ·cases b3<;>simpa[CI]using m3
 Ex:=fun i x H v H' hx e y Gc e1 e2=>by
  obtain⟨x1,x2,x3,k1,k2,k3,rfl⟩:=MH hx;obtain⟨p,v1,v2,v3,rfl,hp,rfl,y1,y2,y3⟩:=y;have m1:=e _ _ h1;have m2:=e _ _ h2;have m3:=e _ _ h3;have z1:=y1 us (by cases b1<;>simpa[CI]using m1);have z2:=y2 vs (by cases b2<;>simpa[CI]using m2);have z3:=y3 ws (by cases b3<;>simpa[CI]using m3);obtain⟨w1,n1,n2⟩:=d1.back z1;obtain⟨w2,n3,n4⟩:=d2.back z2;obtain⟨w3,n5,n6⟩:=d3.back z3;rw[k1]at n1;cases n1;rw[k2]at n3;cases n3;rw[k3]at n5;cases n5;exact Vn e2 hp (n2.same e1) (n4.same e1) (n6.same e1)
def Lo:List PD→Option (List PD)
 |[x,y,z]=>(Es x).bind fun xs=>(Es y).bind fun ys=>(Es z).map fun zs=>HA xs ys zs
 |_=>none
section
variable{X:Cx}{a b c:Expr}{fs:Dv→Option (List PD)}{pos p:Pos}
def VV{elts:List Expr}{x1}{tpos:Pos}(hg:Gl X "zip")(hm:X.mg "zip" = none)(ha:DA X [a,b,c] fs)(hs:starEach [a,b,c] X.env=[(false,eval a X.env),(false,eval b X.env),(false,eval c X.env)]:=by rfl)(hs2:starEach [b,c] X.env=[(false,eval b X.env),(false,eval c X.env)]:=by rfl) :
  DI X (.Tuple elts x1 tpos) (.Call (.Name "zip" p) [a,b,c] [] pos) (fun δ=>(fs δ).bind Lo):=by
 obtain⟨t,p,k⟩:=ha;refine⟨_,VM hg hm p hs hs2,fun δ xs h G0 H0 G H σ ts R R0 q=>?_⟩;obtain⟨x,h1,h2⟩:=aA.mp h;refine k δ _ h1 G0 H0 G H σ ts _ R0 fun vs G' H' R' hv=>?_;obtain⟨d,R2⟩:=R'.args hv;unfold Lo at h2;split at h2
 ·obtain⟨xs1,h3,h4⟩:=aA.mp h2;obtain⟨ys1,h5,h6⟩:=aA.mp h4;obtain⟨zs1,h7,rfl⟩:=aE.mp h6;obtain⟨v1,r1,rfl,du,d⟩:=d.un;obtain⟨v2,r2,rfl,dv,d⟩:=d.un;obtain⟨w,rfl,dw⟩:=d.E1;obtain⟨b1,a1,us,rfl,n1,n2⟩:=Hn du h3;obtain⟨b2,a2,vs,rfl,m1,m2⟩:=Hn dv h5;obtain⟨b3,a3,ws,rfl,o1,o2⟩:=Hn dw h7;have s1:=R2.ins _ _ n1;have s2:=R2.ins _ _ m1;have s3:=R2.ins _ _ o1;exact⟨b1,b2,b3,a1,a2,a3,rfl,⟨us,by cases b1<;>simpa[CI]using s1⟩,⟨vs,by cases b2<;>simpa[CI]using s2⟩,⟨ws,by cases b3<;>simpa[CI]using s3⟩,q _ _ _ R2 (VO n1 m1 o1 n2 m2 o2)⟩
 ·cases h2
def ND(i j l:Nat)(y:PD)(δ:Dv):Option Dv:=match y with
 |.tuple [u,v,w]=>some (((δ.set i (.d u)).set j (.d v)).set l (.d w))
 |_=>none
def Tz{x y z:Str}{i j l:Nat}{px py pz:Pos}{k1}(h:PG X (.Tuple [.Name x px,.Name y py,.Name z pz] k1 pos) (T1 X.K 3 (KD (EA i) (KD (EA j) (KD (EA l) UD))))):DG X (.Tuple [.Name x px,.Name y py,.Name z pz] k1 pos) (ND i j l):=by
 refine⟨_,h,fun δ z δ' e G0 H0 G H σ v Q R k=>?_⟩;unfold ND at e;split at e
 ·cases e;have du:=R.BA _ (.head _);rw[Du]at du;obtain⟨a,ys,rfl,n1,n2⟩:=du;obtain⟨w1,r1,rfl,m1,n2⟩:=n2.un;obtain⟨w2,r2,rfl,m2,n2⟩:=n2.un;obtain⟨w3,rfl,m3⟩:=n2.E1;refine⟨a,[w1,w2,w3],rfl,BF.of (R.ins _ _ n1),rfl,w1,[w2,w3],rfl,w2,[w3],rfl,w3,[],rfl,rfl,?_⟩;exact k _ _ _ ((((R.drop.put m3).put m2).put m1).Dx.Dx.Dx)
 ·cases e
end
end L2
set_option maxHeartbeats 1000000
set_option maxHeartbeats 4000000
set_option maxHeartbeats 1000000
set_option maxHeartbeats 4000000
set_option maxHeartbeats 1000000
set_option maxHeartbeats 4000000
set_option maxHeartbeats 1000000
set_option maxHeartbeats 2000000
set_option maxHeartbeats 4000000
namespace Tim
open PySem PyProof.Rows
def UI:Array Keyed→Array Keyed→StateT SortSt Sem (Array Keyed):=sortPriv% PySem.Builtin.mergeHi
def En(N:Nat)(a:Array Nat):Prop:=∀(i:Nat) (x:Nat),a[i]? = some x→x<N
section
variable{N:Nat}{a b:Array Nat}
def En.get(h:En N a){i:Nat}(hi:i<a.size):∃x,a[i]? = some x∧x<N:=⟨a[i],Array.getElem?_eq_getElem hi,h i _ (Array.getElem?_eq_getElem hi)⟩
def C7:En N a ↔ ∀x∈a,x<N:=by
 constructor
 ·intro h x hx;obtain⟨i,hi,rfl⟩:=Array.getElem_of_mem hx;exact h i _ (Array.getElem?_eq_getElem hi)
 ·intro h i x hx;exact h x (Array.mem_of_getElem? hx)
def En.push(h:En N a){x:Nat}(hx:x<N):En N (a.push x):=C7.mpr fun y hy=>by
 rcases Array.mem_push.mp hy with z|z
 ·exact C7.mp h y z
 ·rw[z];exact hx
def En.app(h:En N a)(k:En N b):En N (a++b):=C7.mpr fun y hy=>by
 rcases Array.mem_append.mp hy with z|z
 ·exact C7.mp h y z
 ·exact C7.mp k y z
def En.ext(h:En N a){i j:Nat}:En N (a.extract i j):=fun k x hx=>by
 have hk:=(Array.getElem?_eq_some_iff.mp hx).1;rw[Array.getElem?_extract]at hx;split at hx
 ·exact h _ _ hx
 ·cases hx
def En.rev(h:En N a):En N a.reverse:=C7.mpr fun y hy=>C7.mp h y (Array.mem_reverse.mp hy)
def En.one{x:Nat}(hx:x<N):En N #[x]:=C7.mpr fun y hy=>by
 simp at hy;rw[hy];exact hx
end
section
variable{M:Model}{A:Around}{E:VL→SD→Prop}{s:SD}{σ:Type}
def Nk{β:Type}{body:Nat→β→StateT σ Sem (ForInStep β)}(I:Nat→β→σ→Prop){Q:β→σ→Prop}{n:Nat}
 (hs:∀x i b st,i<n→I i b st→wpS M A E s (body x b) (fun r st'=>match r with|.yield b'=>I (i+1) b' st'|.done b'=>Q b' st') st)(he:∀b st,I n b st→Q b st) :
  ∀(l:List Nat) (i:Nat) (b:β) (st:σ),i+l.length=n→I i b st→wpS M A E s (forIn l b body) Q st
 |[],i,b,st,h,q=>by
  rw[List.forIn_nil];exact aD (he b st (by rw[←h];exact q))
 |x::l,i,b,st,h,q=>by
  rw[List.forIn_cons];rw[List.length_cons]at h;refine aC (wpS_mono (hs x i b st (by omega) q) fun r st' k=>?_);cases r with
  |done b'=>exact aD k
  |yield b'=>exact Nk I hs he l (i+1) b' st' (by omega) k
def ER{β:Type}{lo hi:Nat}{body:Nat→β→StateT σ Sem (ForInStep β)}(I:Nat→β→σ→Prop){Q:β→σ→Prop}{b:β}{st:σ}(h0:I 0 b st)
 (hs:∀x i b st,i<hi-lo→I i b st→wpS M A E s (body x b) (fun r st'=>match r with|.yield b'=>I (i+1) b' st'|.done b'=>Q b' st') st)(he:∀b st,I (hi-lo) b st→Q b st) :
  wpS M A E s (forIn [lo:hi] b body) Q st:=by
 rw[Std.Legacy.Range.forIn_eq_forIn_range'];have hsz:([lo:hi]:Std.Legacy.Range).size=hi-lo:=by simp[Std.Legacy.Range.size]
 show wpS M A E s (forIn (List.range' lo ([lo:hi]:Std.Legacy.Range).size 1) b body) Q st;rw[hsz];exact Nk I hs he _ 0 b st (by rw[List.length_range'];omega) h0
end
def iter_inv{T:Type}{step:T→Option (Bool×T)}(I:Nat→T→Prop)(R:T→Prop)(hs:∀f t,I (f+1) t→∃b t',step t=some (b,t')∧(if b=true then R t' else I f t'))(he:∀t,I 0 t→R t):∀n t,I n t→∃t',iter step n t=some t'∧R t'
 |0,t,h=>⟨t,rfl,he t h⟩
 |n+1,t,h=>by
  obtain⟨b,t',h1,h2⟩:=hs n t h;cases b with
  |true=>exact⟨t',by rw[iter,h1],by simpa using h2⟩
  |false =>
   obtain⟨t2,h3,h4⟩:=iter_inv I R hs he n t' (by simpa using h2);exact⟨t2,by rw[iter,h1];exact h3,h4⟩
def UH{b:Nat→Option Bool}{n hint:Nat}(hb:∀i,i<n→∃x,b i=some x)(hh:hint<n):∃k,Qz b n hint=some k∧k≤n:=by
 have bis:∀t:Nat×Nat,t.2≤n→∃t',iter (Fe b) n t=some t'∧t'.2≤n:=fun t ht=>by
  refine iter_inv (fun _ t=>t.2≤n) (fun t=>t.2≤n) (fun f t h=>?_) (fun t h=>h) n t ht;unfold Fe;by_cases z:t.1 ≥ t.2
  ·exact⟨true,t,if_pos z,by simpa using h⟩
  ·rw[if_neg z];obtain⟨x,hx⟩:=hb (t.1+(t.2-t.1) / 2) (by omega);rw[hx];cases x with
   |true=>exact⟨false,_,rfl,by simpa using h⟩
   |false=>exact⟨false,_,rfl,by simp;omega⟩
 obtain⟨x,hx⟩:=hb hint hh;unfold Qz;rw[hx];cases x with
 |true =>
  obtain⟨t,h1,_⟩:=iter_inv (step:=Sd b hint (n-hint)) (fun _ _=>True) (fun _=>True) (fun f t _=>by
   unfold Sd;by_cases z:t.2 ≥ n-hint
   ·exact⟨true,t,if_pos z,trivial⟩
   ·rw[if_neg z];obtain⟨y,hy⟩:=hb (hint+t.2) (by omega);rw[hy];cases y with
    |true=>exact⟨false,_,rfl,trivial⟩
    |false=>exact⟨true,_,rfl,trivial⟩) (fun _ _=>trivial) n (0,1) trivial
  dsimp only;rw[h1];obtain⟨t2,h2,h3⟩:=bis (hint+t.1+1,hint+min t.2 (n-hint)) (by show hint+min t.2 (n-hint)≤n;omega);refine⟨t2.2,?_,h3⟩;show(iter (Fe b) n (hint+t.1+1,hint+min t.2 (n-hint))).map (·.2)=_;rw[h2];rfl
 |false =>
  obtain⟨t,h1,_⟩:=iter_inv (step:=Ro b hint (hint+1)) (fun _ _=>True) (fun _=>True) (fun f t _=>by
   unfold Ro;by_cases z:t.2 ≥ hint+1
   ·exact⟨true,t,if_pos z,trivial⟩
   ·rw[if_neg z];obtain⟨y,hy⟩:=hb (hint-t.2) (by omega);rw[hy];cases y with
    |true=>exact⟨true,_,rfl,trivial⟩
    |false=>exact⟨false,_,rfl,trivial⟩) (fun _ _=>trivial) n (0,1) trivial
  dsimp only;rw[h1];obtain⟨t2,h2,h3⟩:=bis (hint+1-min t.2 (hint+1),hint-t.1) (by show hint-t.1≤n;omega);refine⟨t2.2,?_,h3⟩;show(iter (Fe b) n (hint+1-min t.2 (hint+1),hint-t.1)).map (·.2)=_;rw[h2];rfl
section
variable{N:Nat}{lt:Nat→Nat→Bool}{p:Array Nat}
def IT{i j:Nat}(hi:i<N)(hj:j<N):cmp N lt i j=some (lt i j):=if_pos ⟨hi,hj⟩
def Hc(h:En N p){i j:Nat}(hi:i<p.size)(hj:j<p.size):∃x,at2 N lt p i j=some x:=by
 obtain⟨x,h1,h2⟩:=h.get hi;obtain⟨y,h3,h4⟩:=h.get hj;exact⟨lt x y,by unfold at2;rw[h1,h3];exact IT h2 h4⟩
def UQ(h:En N p){left:Bool}{key base i:Nat}(hk:key<N)(hi:base+i<p.size):∃x,Gf N lt left key p base i=some x:=by
 obtain⟨x,h1,h2⟩:=h.get hi;unfold Gf;rw[h1];cases left with
 |true=>exact⟨_,IT h2 hk⟩
 |false=>exact⟨_,by show(cmp N lt key x).map _=_;rw[IT hk h2];rfl⟩
end
section
variable{prog:Program}{w:World}{A:Around}{E:VL→SD→Prop}{s:SD}{N:Nat}{lt:Nat→Nat→Bool}{κ:SortKind}{it:Nat→Keyed}{p:Array Nat}{pend:Array (Nat×Nat×Nat)}{g:Nat}
def BK(hc:Cm prog w A s κ it N lt){left:Bool}{key:Nat}{xs:Array Nat}{base n hint:Nat}(hx:En N xs)(hk:key<N)(hn:base+n≤xs.size)(hh:hint<n){Q:Option Nat→SortSt→Prop}(q:∀k,k≤n→Q (some k) (St κ it p pend g)) :
  wpS (model prog w) A E s (Pu left (it key) (xs.map it) base n hint) Q (St κ it p pend g):=by
 obtain⟨k,h1,h2⟩:=UH (b:=Gf N lt left key xs base) (n:=n) (hint:=hint) (fun i hi=>UQ hx hk (by omega)) hh;exact SQ hc h1 (q k h2)
def SG(hc:Cm prog w A s κ it N lt){i j:Nat}(hi:i<N)(hj:j<N){Q:Option Bool→SortSt→Prop}(q:∀b,Q (some b) (St κ it p pend g)):wpS (model prog w) A E s (lt' (it i) (it j)) Q (St κ it p pend g):=Mu hc (IT hi hj) (q _)
def AJ{xs:Array Nat}{k:Nat}(hx:En N xs)(hk:k<xs.size){Q:Keyed→SortSt→Prop}{st:SortSt}(q:∀x,x<N→Q (it x) st):wpS (model prog w) A E s (elem' (xs.map it) k) Q st:=by
 obtain⟨x,h1,h2⟩:=hx.get hk;exact J3 h1 (q x h2)
end
end Tim
namespace Tim
open PySem PyProof.Rows
def Mg(N:Nat)(it:Nat→Keyed)(x:Array Keyed):Prop:=∃r:Array Nat,En N r∧x=r.map it
section
variable{N:Nat}{it:Nat→Keyed}{x y:Array Keyed}
def Mg.of{a:Array Nat}(h:En N a):Mg N it (a.map it):=⟨a,h,rfl⟩
def Mg.push(h:Mg N it x){i:Nat}(hi:i<N):Mg N it (x.push (it i)):=by
 obtain⟨r,h1,rfl⟩:=h;exact⟨r.push i,h1.push hi,by rw[Array.map_push]⟩
def Mg.app(h:Mg N it x)(k:Mg N it y):Mg N it (x++y):=by
 obtain⟨r,h1,rfl⟩:=h;obtain⟨r',h2,rfl⟩:=k;exact⟨r++r',h1.app h2,by rw[Array.map_append]⟩
def Mg.ext(h:Mg N it x){i j:Nat}:Mg N it (x.extract i j):=by
 obtain⟨r,h1,rfl⟩:=h;exact⟨r.extract i j,h1.ext,by rw[Array.map_extract]⟩
def Mg.rev(h:Mg N it x):Mg N it x.reverse:=by
 obtain⟨r,h1,rfl⟩:=h;exact⟨r.reverse,h1.rev,by rw[Array.map_reverse]⟩
def Mg.one{i:Nat}(hi:i<N):Mg N it #[it i]:=⟨#[i],.one hi,by simp⟩
end
section
variable{prog:Program}{w:World}{A:Around}{E:VL→SD→Prop}{s:SD}{N:Nat}{lt:Nat→Nat→Bool}{κ:SortKind}{it:Nat→Keyed}{p:Array Nat}{pend:Array (Nat×Nat×Nat)}{g:Nat}
def Ov(hc:Cm prog w A s κ it N lt){a b:Array Nat}(ha:En N a)(hb:En N b)(a1:1≤a.size)(b1:1≤b.size){Q:Array Keyed→SortSt→Prop}(q:∀r g',Mg N it r→Q r (St κ it p pend g')):wpS (model prog w) A E s (UI (a.map it) (b.map it)) Q (St κ it p pend g):=by
 have ma:=Mg.of (it:=it) ha;have mb:=Mg.of (it:=it) hb;refine aC (wpS_lift (au ⟨rfl,?_⟩));dsimp only;refine aC (AJ ha (by rw[Array.size_map];omega) fun y hy=>?_);simp only[Array.size_map];by_cases z1:(a.size-1==0)=true
 ·rw[if_pos z1];exact aD (q _ _ ((ma.ext.app mb.ext).app (Mg.one hy).rev))
 rw[if_neg z1];have z1':a.size-1≠0:=by simpa using z1
 by_cases z2:(b.size==1)=true
 ·rw[if_pos z2];exact aD (q _ _ ((mb.ext.app ma.ext).app (Mg.one hy).rev))
 rw[if_neg z2];have z2':b.size≠1:=by simpa using z2
 refine aC (wpS_get ?_);dsimp only;refine aC (wpS_mono (ER (fun i (t:Option (Array Keyed)×Nat×Nat×Array Keyed×Nat) st=>(∃g',st=St κ it p pend g')∧t.1=none∧1≤t.2.1∧t.2.1≤a.size∧2≤t.2.2.1∧t.2.2.1≤b.size∧Mg N it t.2.2.2.1∧t.2.1+t.2.2.1+i≤a.size+b.size)
  (Q:=fun t st=>(∃g',st=St κ it p pend g')∧∃r,t.1=some r∧Mg N it r) ?_ ?_ ?_) fun t st' hq=>?_)
 ·exact⟨⟨_,rfl⟩,rfl,by show 1≤a.size-1;omega,by show a.size-1≤a.size;omega,by show 2≤b.size;omega,Nat.le_refl _,Mg.one hy,by show a.size-1+b.size+0≤_;omega⟩
 ·rintro x i ⟨res,na,nb,out,mg⟩ st hi ⟨⟨g0,rfl⟩,h1,n1,n2,n3,n4,mo,hs⟩;dsimp only at h1 n1 n2 n3 n4 mo hs ⊢;subst h1;refine aC (wpS_mono (ER (fun j (t:Option (Array Keyed)×Nat×Nat×Array Keyed×Nat×Nat) st=>st=St κ it p pend g0∧t.1=none∧1≤t.2.1∧t.2.1≤a.size∧2≤t.2.2.1∧t.2.2.1≤b.size∧Mg N it t.2.2.2.1∧t.2.1+t.2.2.1+j≤na+nb)
   (Q:=fun t st=>st=St κ it p pend g0∧match t.1 with
    |some r=>Mg N it r
    |none=>1≤t.2.1∧t.2.1≤a.size∧2≤t.2.2.1∧t.2.2.1≤b.size∧Mg N it t.2.2.2.1∧t.2.1+t.2.2.1<na+nb) ?_ ?_ ?_) fun t st' hq=>?_)
  ·exact⟨rfl,rfl,n1,n2,n3,n4,mo,Nat.le_refl _⟩
  ·rintro x2 j ⟨res2,na2,nb2,out2,ac2,bc2⟩ st2 hj ⟨rfl,h2,k1,k2,k3,k4,mo2,hs2⟩;dsimp only at h2 k1 k2 k3 k4 mo2 hs2 ⊢;subst h2;refine aC (AJ hb (by omega) fun y1 hy1=>aC (AJ ha (by omega) fun x1 hx1=>aC (SG hc hy1 hx1 fun bb=>?_)));dsimp only;cases bb with
   |true =>
    rw[if_pos rfl];refine aC (AJ ha (by omega) fun x3 hx3=>?_);by_cases c1:(na2-1==0)=true
    ·rw[if_pos c1];exact aD ⟨rfl,(ma.ext.app mb.ext).app (mo2.push hx3).rev⟩
    rw[if_neg c1];have c1':na2-1≠0:=by simpa using c1
    by_cases c2:ac2+1 ≥ mg
    ·rw[if_pos c2];exact aD ⟨rfl,by show 1≤na2-1;omega,by show na2-1≤a.size;omega,k3,k4,mo2.push hx3,by show na2-1+nb2<na+nb;omega⟩
    ·rw[if_neg c2];exact aD ⟨rfl,rfl,by show 1≤na2-1;omega,by show na2-1≤a.size;omega,k3,k4,mo2.push hx3,by show na2-1+nb2+(j+1)≤na+nb;omega⟩
   |false =>
    rw[if_neg (by decide)];refine aC (AJ hb (by omega) fun x3 hx3=>?_);by_cases c1:(nb2-1==1)=true
    ·rw[if_pos c1];exact aD ⟨rfl,(mb.ext.app ma.ext).app (mo2.push hx3).rev⟩
    rw[if_neg c1];have c1':nb2-1≠1:=by simpa using c1
    by_cases c2:bc2+1 ≥ mg
    ·rw[if_pos c2];exact aD ⟨rfl,k1,k2,by show 2≤nb2-1;omega,by show nb2-1≤b.size;omega,mo2.push hx3,by show na2+(nb2-1)<na+nb;omega⟩
    ·rw[if_neg c2];exact aD ⟨rfl,rfl,k1,k2,by show 2≤nb2-1;omega,by show nb2-1≤b.size;omega,mo2.push hx3,by show na2+(nb2-1)+(j+1)≤na+nb;omega⟩
  ·rintro⟨res2,na2,nb2,out2,ac2,bc2⟩ st2 ⟨rfl,h2,k1,k2,k3,k4,mo2,hs2⟩;dsimp only at h2 k1 k2 k3 k4 mo2 hs2 ⊢;subst h2;exact⟨rfl,k1,k2,k3,k4,mo2,by omega⟩
  obtain⟨res1,na1,nb1,out1,ac1,bc1⟩:=t;obtain⟨rfl,hq⟩:=hq;cases res1 with
  |some r=>exact aD ⟨⟨_,rfl⟩,r,rfl,hq⟩
  |none =>
   dsimp only at hq ⊢;obtain⟨l1,l2,l3,l4,mo1,hs1⟩:=hq;refine aC (wpS_lift (au ⟨rfl,?_⟩));refine aC (wpS_mono (ER (fun j (t:Option (Array Keyed)×Nat×Nat×Array Keyed×Nat×Nat×Nat) st=>(∃g',st=St κ it p pend g')∧t.1=none∧1≤t.2.1∧t.2.1≤a.size∧2≤t.2.2.1∧t.2.2.1≤b.size∧Mg N it t.2.2.2.1∧t.2.1+t.2.2.1≤na1+nb1)
    (Q:=fun t st=>(∃g',st=St κ it p pend g')∧match t.1 with
     |some r=>Mg N it r
     |none=>1≤t.2.1∧t.2.1≤a.size∧2≤t.2.2.1∧t.2.2.1≤b.size∧Mg N it t.2.2.2.1∧t.2.1+t.2.2.1≤na1+nb1) ?_ ?_ ?_) fun t st' hq=>?_)
   ·exact⟨⟨_,rfl⟩,rfl,l1,l2,l3,l4,mo1,Nat.le_refl _⟩
   ·rintro x2 j ⟨res2,na2,nb2,out2,mg2,ac2,bc2⟩ st2 hj ⟨⟨g2,rfl⟩,h2,k1,k2,k3,k4,mo2,hs2⟩;dsimp only at h2 k1 k2 k3 k4 mo2 hs2 ⊢;subst h2;by_cases hmg:mg2 > 1
    ·rw[if_pos hmg];refine aC (aj ?_);refine aC (AJ hb (by omega) fun y1 hy1=>?_);refine aC (BK (pend:=pend) hc ha hy1 (by omega) (by omega) fun k hk=>?_);dsimp only;by_cases c0:na2-k > 0
     ·rw[if_pos c0];by_cases c1:(k==0)=true
      ·rw[if_pos c1];exact aD ⟨⟨_,rfl⟩,(ma.ext.app mb.ext).app (mo2.app ma.ext.rev).rev⟩
      rw[if_neg c1];have c1':k≠0:=by simpa using c1
      refine aC (AJ hb (by omega) fun y2 hy2=>?_);by_cases c2:(nb2-1==1)=true
      ·rw[if_pos c2];exact aD ⟨⟨_,rfl⟩,(mb.ext.app ma.ext).app ((mo2.app ma.ext.rev).push hy2).rev⟩
      rw[if_neg c2];have c2':nb2-1≠1:=by simpa using c2
      refine aC (AJ ha (by omega) fun x2 hx2=>?_);refine aC (BK (pend:=pend) hc hb hx2 (by omega) (by omega) fun m hm=>?_);dsimp only;by_cases c3:nb2-1-m > 0
      ·rw[if_pos c3];by_cases c4:(m==1)=true
       ·rw[if_pos c4];exact aD ⟨⟨_,rfl⟩,(mb.ext.app ma.ext).app (((mo2.app ma.ext.rev).push hy2).app mb.ext.rev).rev⟩
       rw[if_neg c4];by_cases c5:(m==0)=true
       ·rw[if_pos c5];exact aD ⟨⟨_,rfl⟩,(ma.ext.app mb.ext).app (((mo2.app ma.ext.rev).push hy2).app mb.ext.rev).rev⟩
       rw[if_neg c5];have c4':m≠1:=by simpa using c4
       have c5':m≠0:=by simpa using c5
       refine aC (AJ ha (by omega) fun x4 hx4=>?_);by_cases c6:(k-1==0)=true
       ·rw[if_pos c6];exact aD ⟨⟨_,rfl⟩,(ma.ext.app mb.ext).app ((((mo2.app ma.ext.rev).push hy2).app mb.ext.rev).push hx4).rev⟩
       rw[if_neg c6];have c6':k-1≠0:=by simpa using c6
       split
       ·exact aD ⟨⟨_,rfl⟩,by show 1≤k-1;omega,by show k-1≤a.size;omega,by show 2≤m;omega,by show m≤b.size;omega,(((mo2.app ma.ext.rev).push hy2).app mb.ext.rev).push hx4,by show k-1+(m)≤na1+nb1;omega⟩
       ·exact aD ⟨⟨_,rfl⟩,rfl,by show 1≤k-1;omega,by show k-1≤a.size;omega,by show 2≤m;omega,by show m≤b.size;omega,(((mo2.app ma.ext.rev).push hy2).app mb.ext.rev).push hx4,by show k-1+(m)≤na1+nb1;omega⟩
      ·rw[if_neg c3];refine aC (AJ ha (by omega) fun x4 hx4=>?_);by_cases c6:(k-1==0)=true
       ·rw[if_pos c6];exact aD ⟨⟨_,rfl⟩,(ma.ext.app mb.ext).app (((mo2.app ma.ext.rev).push hy2).push hx4).rev⟩
       rw[if_neg c6];have c6':k-1≠0:=by simpa using c6
       split
       ·exact aD ⟨⟨_,rfl⟩,by show 1≤k-1;omega,by show k-1≤a.size;omega,by show 2≤nb2-1;omega,by show nb2-1≤b.size;omega,((mo2.app ma.ext.rev).push hy2).push hx4,by show k-1+(nb2-1)≤na1+nb1;omega⟩
       ·exact aD ⟨⟨_,rfl⟩,rfl,by show 1≤k-1;omega,by show k-1≤a.size;omega,by show 2≤nb2-1;omega,by show nb2-1≤b.size;omega,((mo2.app ma.ext.rev).push hy2).push hx4,by show k-1+(nb2-1)≤na1+nb1;omega⟩
     ·rw[if_neg c0];refine aC (AJ hb (by omega) fun y2 hy2=>?_);by_cases c2:(nb2-1==1)=true
      ·rw[if_pos c2];exact aD ⟨⟨_,rfl⟩,(mb.ext.app ma.ext).app ((mo2).push hy2).rev⟩
      rw[if_neg c2];have c2':nb2-1≠1:=by simpa using c2
      refine aC (AJ ha (by omega) fun x2 hx2=>?_);refine aC (BK (pend:=pend) hc hb hx2 (by omega) (by omega) fun m hm=>?_);dsimp only;by_cases c3:nb2-1-m > 0
      ·rw[if_pos c3];by_cases c4:(m==1)=true
       ·rw[if_pos c4];exact aD ⟨⟨_,rfl⟩,(mb.ext.app ma.ext).app (((mo2).push hy2).app mb.ext.rev).rev⟩
       rw[if_neg c4];by_cases c5:(m==0)=true
       ·rw[if_pos c5];exact aD ⟨⟨_,rfl⟩,(ma.ext.app mb.ext).app (((mo2).push hy2).app mb.ext.rev).rev⟩
       rw[if_neg c5];have c4':m≠1:=by simpa using c4
       have c5':m≠0:=by simpa using c5
       refine aC (AJ ha (by omega) fun x4 hx4=>?_);by_cases c6:(na2-1==0)=true
       ·rw[if_pos c6];exact aD ⟨⟨_,rfl⟩,(ma.ext.app mb.ext).app ((((mo2).push hy2).app mb.ext.rev).push hx4).rev⟩
       rw[if_neg c6];have c6':na2-1≠0:=by simpa using c6
       split
       ·exact aD ⟨⟨_,rfl⟩,by show 1≤na2-1;omega,by show na2-1≤a.size;omega,by show 2≤m;omega,by show m≤b.size;omega,(((mo2).push hy2).app mb.ext.rev).push hx4,by show na2-1+(m)≤na1+nb1;omega⟩
       ·exact aD ⟨⟨_,rfl⟩,rfl,by show 1≤na2-1;omega,by show na2-1≤a.size;omega,by show 2≤m;omega,by show m≤b.size;omega,(((mo2).push hy2).app mb.ext.rev).push hx4,by show na2-1+(m)≤na1+nb1;omega⟩
      ·rw[if_neg c3];refine aC (AJ ha (by omega) fun x4 hx4=>?_);by_cases c6:(na2-1==0)=true
       ·rw[if_pos c6];exact aD ⟨⟨_,rfl⟩,(ma.ext.app mb.ext).app (((mo2).push hy2).push hx4).rev⟩
       rw[if_neg c6];have c6':na2-1≠0:=by simpa using c6
       split
       ·exact aD ⟨⟨_,rfl⟩,by show 1≤na2-1;omega,by show na2-1≤a.size;omega,by show 2≤nb2-1;omega,by show nb2-1≤b.size;omega,((mo2).push hy2).push hx4,by show na2-1+(nb2-1)≤na1+nb1;omega⟩
       ·exact aD ⟨⟨_,rfl⟩,rfl,by show 1≤na2-1;omega,by show na2-1≤a.size;omega,by show 2≤nb2-1;omega,by show nb2-1≤b.size;omega,((mo2).push hy2).push hx4,by show na2-1+(nb2-1)≤na1+nb1;omega⟩
    ·rw[if_neg hmg];refine aC (aj ?_);refine aC (AJ hb (by omega) fun y1 hy1=>?_);refine aC (BK (pend:=pend) hc ha hy1 (by omega) (by omega) fun k hk=>?_);dsimp only;by_cases c0:na2-k > 0
     ·rw[if_pos c0];by_cases c1:(k==0)=true
      ·rw[if_pos c1];exact aD ⟨⟨_,rfl⟩,(ma.ext.app mb.ext).app (mo2.app ma.ext.rev).rev⟩
      rw[if_neg c1];have c1':k≠0:=by simpa using c1
      refine aC (AJ hb (by omega) fun y2 hy2=>?_);by_cases c2:(nb2-1==1)=true
      ·rw[if_pos c2];exact aD ⟨⟨_,rfl⟩,(mb.ext.app ma.ext).app ((mo2.app ma.ext.rev).push hy2).rev⟩
      rw[if_neg c2];have c2':nb2-1≠1:=by simpa using c2
      refine aC (AJ ha (by omega) fun x2 hx2=>?_);refine aC (BK (pend:=pend) hc hb hx2 (by omega) (by omega) fun m hm=>?_);dsimp only;by_cases c3:nb2-1-m > 0
      ·rw[if_pos c3];by_cases c4:(m==1)=true
       ·rw[if_pos c4];exact aD ⟨⟨_,rfl⟩,(mb.ext.app ma.ext).app (((mo2.app ma.ext.rev).push hy2).app mb.ext.rev).rev⟩
       rw[if_neg c4];by_cases c5:(m==0)=true
       ·rw[if_pos c5];exact aD ⟨⟨_,rfl⟩,(ma.ext.app mb.ext).app (((mo2.app ma.ext.rev).push hy2).app mb.ext.rev).rev⟩
       rw[if_neg c5];have c4':m≠1:=by simpa using c4
       have c5':m≠0:=by simpa using c5
       refine aC (AJ ha (by omega) fun x4 hx4=>?_);by_cases c6:(k-1==0)=true
       ·rw[if_pos c6];exact aD ⟨⟨_,rfl⟩,(ma.ext.app mb.ext).app ((((mo2.app ma.ext.rev).push hy2).app mb.ext.rev).push hx4).rev⟩
       rw[if_neg c6];have c6':k-1≠0:=by simpa using c6
       split
       ·exact aD ⟨⟨_,rfl⟩,by show 1≤k-1;omega,by show k-1≤a.size;omega,by show 2≤m;omega,by show m≤b.size;omega,(((mo2.app ma.ext.rev).push hy2).app mb.ext.rev).push hx4,by show k-1+(m)≤na1+nb1;omega⟩
       ·exact aD ⟨⟨_,rfl⟩,rfl,by show 1≤k-1;omega,by show k-1≤a.size;omega,by show 2≤m;omega,by show m≤b.size;omega,(((mo2.app ma.ext.rev).push hy2).app mb.ext.rev).push hx4,by show k-1+(m)≤na1+nb1;omega⟩
      ·rw[if_neg c3];refine aC (AJ ha (by omega) fun x4 hx4=>?_);by_cases c6:(k-1==0)=true
       ·rw[if_pos c6];exact aD ⟨⟨_,rfl⟩,(ma.ext.app mb.ext).app (((mo2.app ma.ext.rev).push hy2).push hx4).rev⟩
       rw[if_neg c6];have c6':k-1≠0:=by simpa using c6
       split
       ·exact aD ⟨⟨_,rfl⟩,by show 1≤k-1;omega,by show k-1≤a.size;omega,by show 2≤nb2-1;omega,by show nb2-1≤b.size;omega,((mo2.app ma.ext.rev).push hy2).push hx4,by show k-1+(nb2-1)≤na1+nb1;omega⟩
       ·exact aD ⟨⟨_,rfl⟩,rfl,by show 1≤k-1;omega,by show k-1≤a.size;omega,by show 2≤nb2-1;omega,by show nb2-1≤b.size;omega,((mo2.app ma.ext.rev).push hy2).push hx4,by show k-1+(nb2-1)≤na1+nb1;omega⟩
     ·rw[if_neg c0];refine aC (AJ hb (by omega) fun y2 hy2=>?_);by_cases c2:(nb2-1==1)=true
      ·rw[if_pos c2];exact aD ⟨⟨_,rfl⟩,(mb.ext.app ma.ext).app ((mo2).push hy2).rev⟩
      rw[if_neg c2];have c2':nb2-1≠1:=by simpa using c2
      refine aC (AJ ha (by omega) fun x2 hx2=>?_);refine aC (BK (pend:=pend) hc hb hx2 (by omega) (by omega) fun m hm=>?_);dsimp only;by_cases c3:nb2-1-m > 0
      ·rw[if_pos c3];by_cases c4:(m==1)=true
       ·rw[if_pos c4];exact aD ⟨⟨_,rfl⟩,(mb.ext.app ma.ext).app (((mo2).push hy2).app mb.ext.rev).rev⟩
       rw[if_neg c4];by_cases c5:(m==0)=true
       ·rw[if_pos c5];exact aD ⟨⟨_,rfl⟩,(ma.ext.app mb.ext).app (((mo2).push hy2).app mb.ext.rev).rev⟩
       rw[if_neg c5];have c4':m≠1:=by simpa using c4
       have c5':m≠0:=by simpa using c5
       refine aC (AJ ha (by omega) fun x4 hx4=>?_);by_cases c6:(na2-1==0)=true
       ·rw[if_pos c6];exact aD ⟨⟨_,rfl⟩,(ma.ext.app mb.ext).app ((((mo2).push hy2).app mb.ext.rev).push hx4).rev⟩
       rw[if_neg c6];have c6':na2-1≠0:=by simpa using c6
       split
       ·exact aD ⟨⟨_,rfl⟩,by show 1≤na2-1;omega,by show na2-1≤a.size;omega,by show 2≤m;omega,by show m≤b.size;omega,(((mo2).push hy2).app mb.ext.rev).push hx4,by show na2-1+(m)≤na1+nb1;omega⟩
       ·exact aD ⟨⟨_,rfl⟩,rfl,by show 1≤na2-1;omega,by show na2-1≤a.size;omega,by show 2≤m;omega,by show m≤b.size;omega,(((mo2).push hy2).app mb.ext.rev).push hx4,by show na2-1+(m)≤na1+nb1;omega⟩
      ·rw[if_neg c3];refine aC (AJ ha (by omega) fun x4 hx4=>?_);by_cases c6:(na2-1==0)=true
       ·rw[if_pos c6];exact aD ⟨⟨_,rfl⟩,(ma.ext.app mb.ext).app (((mo2).push hy2).push hx4).rev⟩
       rw[if_neg c6];have c6':na2-1≠0:=by simpa using c6
       split
       ·exact aD ⟨⟨_,rfl⟩,by show 1≤na2-1;omega,by show na2-1≤a.size;omega,by show 2≤nb2-1;omega,by show nb2-1≤b.size;omega,((mo2).push hy2).push hx4,by show na2-1+(nb2-1)≤na1+nb1;omega⟩
       ·exact aD ⟨⟨_,rfl⟩,rfl,by show 1≤na2-1;omega,by show na2-1≤a.size;omega,by show 2≤nb2-1;omega,by show nb2-1≤b.size;omega,((mo2).push hy2).push hx4,by show na2-1+(nb2-1)≤na1+nb1;omega⟩
   ·rintro⟨res2,na2,nb2,out2,mg2,ac2,bc2⟩ st2 ⟨hg2,h2,k1,k2,k3,k4,mo2,hs2⟩;dsimp only at h2 k1 k2 k3 k4 mo2 hs2 ⊢;subst h2;exact⟨hg2,k1,k2,k3,k4,mo2,hs2⟩
   obtain⟨res2,na2,nb2,out2,mg2,ac2,bc2⟩:=t;obtain⟨⟨g2,rfl⟩,hq⟩:=hq;cases res2 with
   |some r=>exact aD ⟨⟨_,rfl⟩,r,rfl,hq⟩
   |none =>
    dsimp only at hq ⊢;obtain⟨k1,k2,k3,k4,mo2,hs2⟩:=hq;refine aC (aj ?_);exact aD ⟨⟨_,rfl⟩,rfl,k1,k2,k3,k4,mo2,by show na2+nb2+(i+1)≤a.size+b.size;omega⟩
 ·rintro⟨res,na,nb,out,mg⟩ st ⟨_,h1,n1,n2,n3,n4,mo,hs⟩;dsimp only at h1 n1 n2 n3 n4 mo hs;omega
 obtain⟨⟨g',rfl⟩,r,h1,h2⟩:=hq;rw[h1];exact aD (q r g' h2)
end
end Tim
namespace Tim
open PySem PyProof.Rows
section
variable{prog:Program}{w:World}{A:Around}{E:VL→SD→Prop}{s:SD}{N:Nat}{lt:Nat→Nat→Bool}{κ:SortKind}{it:Nat→Keyed}{p:Array Nat}{pend:Array (Nat×Nat×Nat)}{g:Nat}
def Ot(hc:Cm prog w A s κ it N lt){a b:Array Nat}(ha:En N a)(hb:En N b)(a1:1≤a.size)(b1:1≤b.size){Q:Array Keyed→SortSt→Prop}(q:∀r g',Mg N it r→Q r (St κ it p pend g')):wpS (model prog w) A E s (T6 (a.map it) (b.map it)) Q (St κ it p pend g):=by
 have ma:=Mg.of (it:=it) ha;have mb:=Mg.of (it:=it) hb;refine aC (wpS_lift (au ⟨rfl,?_⟩));dsimp only;refine aC (AJ hb (by omega) fun y hy=>?_);simp only[Array.size_map];by_cases z1:(1==b.size)=true
 ·rw[if_pos z1];exact aD (q _ _ (((Mg.one hy).app ma.ext).app mb.ext))
 rw[if_neg z1];have z1':1≠b.size:=by simpa using z1
 by_cases z2:(0+1==a.size)=true
 ·rw[if_pos z2];exact aD (q _ _ (((Mg.one hy).app mb.ext).app ma.ext))
 rw[if_neg z2];have z2':0+1≠a.size:=by simpa using z2
 refine aC (wpS_get ?_);dsimp only;refine aC (wpS_mono (ER (fun i (t:Option (Array Keyed)×Array Keyed×Nat×Nat×Nat) st=>(∃g',st=St κ it p pend g')∧t.1=none∧t.2.2.1+1<a.size∧t.2.2.2.1<b.size∧Mg N it t.2.1∧i+1≤t.2.2.1+t.2.2.2.1)
  (Q:=fun t st=>(∃g',st=St κ it p pend g')∧∃r,t.1=some r∧Mg N it r) ?_ ?_ ?_) fun t st' hq=>?_)
 ·exact⟨⟨_,rfl⟩,rfl,by show 0+1<a.size;omega,by show 1<b.size;omega,Mg.one hy,by show 0+1≤0+1;omega⟩
 ·rintro x i ⟨res,out,ia,ib,mg⟩ st hi ⟨⟨g0,rfl⟩,h1,n1,n2,mo,hs⟩;dsimp only at h1 n1 n2 mo hs ⊢;subst h1;refine aC (wpS_mono (ER (fun j (t:Option (Array Keyed)×Array Keyed×Nat×Nat×Nat×Nat) st=>st=St κ it p pend g0∧t.1=none∧t.2.2.1+1<a.size∧t.2.2.2.1<b.size∧Mg N it t.2.1∧ia+ib+j≤t.2.2.1+t.2.2.2.1)
   (Q:=fun t st=>st=St κ it p pend g0∧match t.1 with
    |some r=>Mg N it r
    |none=>t.2.2.1+1<a.size∧t.2.2.2.1<b.size∧Mg N it t.2.1∧ia+ib<t.2.2.1+t.2.2.2.1) ?_ ?_ ?_) fun t st' hq=>?_)
  ·exact⟨rfl,rfl,n1,n2,mo,Nat.le_refl _⟩
  ·rintro x2 j ⟨res2,out2,ia2,ib2,ac2,bc2⟩ st2 hj ⟨rfl,h2,k1,k2,mo2,hs2⟩;dsimp only at h2 k1 k2 mo2 hs2 ⊢;subst h2;refine aC (AJ hb (by omega) fun y1 hy1=>aC (AJ ha (by omega) fun x1 hx1=>aC (SG hc hy1 hx1 fun bb=>?_)));dsimp only;cases bb with
   |true =>
    rw[if_pos rfl];refine aC (AJ hb (by omega) fun x3 hx3=>?_);by_cases c1:(ib2+1==b.size)=true
    ·rw[if_pos c1];exact aD ⟨rfl,((mo2.push hx3).app ma.ext).app mb.ext⟩
    rw[if_neg c1];have c1':ib2+1≠b.size:=by simpa using c1
    by_cases c2:bc2+1 ≥ mg
    ·rw[if_pos c2];exact aD ⟨rfl,k1,by show ib2+1<b.size;omega,mo2.push hx3,by show ia+ib<ia2+(ib2+1);omega⟩
    ·rw[if_neg c2];exact aD ⟨rfl,rfl,k1,by show ib2+1<b.size;omega,mo2.push hx3,by show ia+ib+(j+1)≤ia2+(ib2+1);omega⟩
   |false =>
    rw[if_neg (by decide)];refine aC (AJ ha (by omega) fun x3 hx3=>?_);by_cases c1:(ia2+1+1==a.size)=true
    ·rw[if_pos c1];exact aD ⟨rfl,((mo2.push hx3).app mb.ext).app ma.ext⟩
    rw[if_neg c1];have c1':ia2+1+1≠a.size:=by simpa using c1
    by_cases c2:ac2+1 ≥ mg
    ·rw[if_pos c2];exact aD ⟨rfl,by show ia2+1+1<a.size;omega,k2,mo2.push hx3,by show ia+ib<ia2+1+ib2;omega⟩
    ·rw[if_neg c2];exact aD ⟨rfl,rfl,by show ia2+1+1<a.size;omega,k2,mo2.push hx3,by show ia+ib+(j+1)≤ia2+1+ib2;omega⟩
  ·rintro⟨res2,out2,ia2,ib2,ac2,bc2⟩ st2 ⟨rfl,h2,k1,k2,mo2,hs2⟩;dsimp only at h2 k1 k2 mo2 hs2 ⊢;subst h2;exact⟨rfl,k1,k2,mo2,by omega⟩
  obtain⟨res1,out1,ia1,ib1,ac1,bc1⟩:=t;obtain⟨rfl,hq⟩:=hq;cases res1 with
  |some r=>exact aD ⟨⟨_,rfl⟩,r,rfl,hq⟩
  |none =>
   dsimp only at hq ⊢;obtain⟨l1,l2,mo1,hs1⟩:=hq;refine aC (wpS_lift (au ⟨rfl,?_⟩));refine aC (wpS_mono (ER (fun j (t:Option (Array Keyed)×Array Keyed×Nat×Nat×Nat×Nat×Nat) st=>(∃g',st=St κ it p pend g')∧t.1=none∧t.2.2.1+1<a.size∧t.2.2.2.1<b.size∧Mg N it t.2.1∧ia1+ib1≤t.2.2.1+t.2.2.2.1)
    (Q:=fun t st=>(∃g',st=St κ it p pend g')∧match t.1 with
     |some r=>Mg N it r
     |none=>t.2.2.1+1<a.size∧t.2.2.2.1<b.size∧Mg N it t.2.1∧ia1+ib1≤t.2.2.1+t.2.2.2.1) ?_ ?_ ?_) fun t st' hq=>?_)
   ·exact⟨⟨_,rfl⟩,rfl,l1,l2,mo1,Nat.le_refl _⟩
   ·rintro x2 j ⟨res2,out2,ia2,ib2,mg2,ac2,bc2⟩ st2 hj ⟨⟨g2,rfl⟩,h2,k1,k2,mo2,hs2⟩;dsimp only at h2 k1 k2 mo2 hs2 ⊢;subst h2;by_cases hmg:mg2 > 1
    ·rw[if_pos hmg];refine aC (aj ?_);refine aC (AJ hb (by omega) fun y1 hy1=>?_);refine aC (BK (pend:=pend) hc ha hy1 (by omega) (by omega) fun k hk=>?_);dsimp only;by_cases c0:k > 0
     ·rw[if_pos c0];by_cases c1:(ia2+k+1==a.size)=true
      ·rw[if_pos c1];exact aD ⟨⟨_,rfl⟩,((mo2.app ma.ext).app mb.ext).app ma.ext⟩
      rw[if_neg c1];by_cases c8:(ia2+k==a.size)=true
      ·rw[if_pos c8];exact aD ⟨⟨_,rfl⟩,((mo2.app ma.ext).app ma.ext).app mb.ext⟩
      rw[if_neg c8];have c1':ia2+k+1≠a.size:=by simpa using c1
      have c8':ia2+k≠a.size:=by simpa using c8
      refine aC (AJ hb (by omega) fun y2 hy2=>?_);by_cases c2:(ib2+1==b.size)=true
      ·rw[if_pos c2];exact aD ⟨⟨_,rfl⟩,(((mo2.app ma.ext).push hy2).app ma.ext).app mb.ext⟩
      rw[if_neg c2];have c2':ib2+1≠b.size:=by simpa using c2
      refine aC (AJ ha (by omega) fun x2 hx2=>?_);refine aC (BK (pend:=pend) hc hb hx2 (by omega) (by omega) fun m hm=>?_);dsimp only;by_cases c3:m > 0
      ·rw[if_pos c3];by_cases c4:(ib2+1+m==b.size)=true
       ·rw[if_pos c4];exact aD ⟨⟨_,rfl⟩,((((mo2.app ma.ext).push hy2).app mb.ext).app ma.ext).app mb.ext⟩
       rw[if_neg c4];have c4':ib2+1+m≠b.size:=by simpa using c4
       refine aC (AJ ha (by omega) fun x4 hx4=>?_);by_cases c6:(ia2+k+1+1==a.size)=true
       ·rw[if_pos c6];exact aD ⟨⟨_,rfl⟩,(((((mo2.app ma.ext).push hy2).app mb.ext).push hx4).app mb.ext).app ma.ext⟩
       rw[if_neg c6];have c6':ia2+k+1+1≠a.size:=by simpa using c6
       split
       ·exact aD ⟨⟨_,rfl⟩,by show ia2+k+1+1<a.size;omega,by show ib2+1+m<b.size;omega,(((mo2.app ma.ext).push hy2).app mb.ext).push hx4,by show ia1+ib1≤ia2+k+1+(ib2+1+m);omega⟩
       ·exact aD ⟨⟨_,rfl⟩,rfl,by show ia2+k+1+1<a.size;omega,by show ib2+1+m<b.size;omega,(((mo2.app ma.ext).push hy2).app mb.ext).push hx4,by show ia1+ib1≤ia2+k+1+(ib2+1+m);omega⟩
      ·rw[if_neg c3];refine aC (AJ ha (by omega) fun x4 hx4=>?_);by_cases c6:(ia2+k+1+1==a.size)=true
       ·rw[if_pos c6];exact aD ⟨⟨_,rfl⟩,((((mo2.app ma.ext).push hy2).push hx4).app mb.ext).app ma.ext⟩
       rw[if_neg c6];have c6':ia2+k+1+1≠a.size:=by simpa using c6
       split
       ·exact aD ⟨⟨_,rfl⟩,by show ia2+k+1+1<a.size;omega,by show ib2+1<b.size;omega,((mo2.app ma.ext).push hy2).push hx4,by show ia1+ib1≤ia2+k+1+(ib2+1);omega⟩
       ·exact aD ⟨⟨_,rfl⟩,rfl,by show ia2+k+1+1<a.size;omega,by show ib2+1<b.size;omega,((mo2.app ma.ext).push hy2).push hx4,by show ia1+ib1≤ia2+k+1+(ib2+1);omega⟩
     ·rw[if_neg c0];refine aC (AJ hb (by omega) fun y2 hy2=>?_);by_cases c2:(ib2+1==b.size)=true
      ·rw[if_pos c2];exact aD ⟨⟨_,rfl⟩,(((mo2).push hy2).app ma.ext).app mb.ext⟩
      rw[if_neg c2];have c2':ib2+1≠b.size:=by simpa using c2
      refine aC (AJ ha (by omega) fun x2 hx2=>?_);refine aC (BK (pend:=pend) hc hb hx2 (by omega) (by omega) fun m hm=>?_);dsimp only;by_cases c3:m > 0
      ·rw[if_pos c3];by_cases c4:(ib2+1+m==b.size)=true
       ·rw[if_pos c4];exact aD ⟨⟨_,rfl⟩,((((mo2).push hy2).app mb.ext).app ma.ext).app mb.ext⟩
       rw[if_neg c4];have c4':ib2+1+m≠b.size:=by simpa using c4
       refine aC (AJ ha (by omega) fun x4 hx4=>?_);by_cases c6:(ia2+1+1==a.size)=true
       ·rw[if_pos c6];exact aD ⟨⟨_,rfl⟩,(((((mo2).push hy2).app mb.ext).push hx4).app mb.ext).app ma.ext⟩
       rw[if_neg c6];have c6':ia2+1+1≠a.size:=by simpa using c6
       split
       ·exact aD ⟨⟨_,rfl⟩,by show ia2+1+1<a.size;omega,by show ib2+1+m<b.size;omega,(((mo2).push hy2).app mb.ext).push hx4,by show ia1+ib1≤ia2+1+(ib2+1+m);omega⟩
       ·exact aD ⟨⟨_,rfl⟩,rfl,by show ia2+1+1<a.size;omega,by show ib2+1+m<b.size;omega,(((mo2).push hy2).app mb.ext).push hx4,by show ia1+ib1≤ia2+1+(ib2+1+m);omega⟩
      ·rw[if_neg c3];refine aC (AJ ha (by omega) fun x4 hx4=>?_);by_cases c6:(ia2+1+1==a.size)=true
       ·rw[if_pos c6];exact aD ⟨⟨_,rfl⟩,((((mo2).push hy2).push hx4).app mb.ext).app ma.ext⟩
       rw[if_neg c6];have c6':ia2+1+1≠a.size:=by simpa using c6
       split
       ·exact aD ⟨⟨_,rfl⟩,by show ia2+1+1<a.size;omega,by show ib2+1<b.size;omega,((mo2).push hy2).push hx4,by show ia1+ib1≤ia2+1+(ib2+1);omega⟩
       ·exact aD ⟨⟨_,rfl⟩,rfl,by show ia2+1+1<a.size;omega,by show ib2+1<b.size;omega,((mo2).push hy2).push hx4,by show ia1+ib1≤ia2+1+(ib2+1);omega⟩
    ·rw[if_neg hmg];refine aC (aj ?_);refine aC (AJ hb (by omega) fun y1 hy1=>?_);refine aC (BK (pend:=pend) hc ha hy1 (by omega) (by omega) fun k hk=>?_);dsimp only;by_cases c0:k > 0
     ·rw[if_pos c0];by_cases c1:(ia2+k+1==a.size)=true
      ·rw[if_pos c1];exact aD ⟨⟨_,rfl⟩,((mo2.app ma.ext).app mb.ext).app ma.ext⟩
      rw[if_neg c1];by_cases c8:(ia2+k==a.size)=true
      ·rw[if_pos c8];exact aD ⟨⟨_,rfl⟩,((mo2.app ma.ext).app ma.ext).app mb.ext⟩
      rw[if_neg c8];have c1':ia2+k+1≠a.size:=by simpa using c1
      have c8':ia2+k≠a.size:=by simpa using c8
      refine aC (AJ hb (by omega) fun y2 hy2=>?_);by_cases c2:(ib2+1==b.size)=true
      ·rw[if_pos c2];exact aD ⟨⟨_,rfl⟩,(((mo2.app ma.ext).push hy2).app ma.ext).app mb.ext⟩
      rw[if_neg c2];have c2':ib2+1≠b.size:=by simpa using c2
      refine aC (AJ ha (by omega) fun x2 hx2=>?_);refine aC (BK (pend:=pend) hc hb hx2 (by omega) (by omega) fun m hm=>?_);dsimp only;by_cases c3:m > 0
      ·rw[if_pos c3];by_cases c4:(ib2+1+m==b.size)=true
       ·rw[if_pos c4];exact aD ⟨⟨_,rfl⟩,((((mo2.app ma.ext).push hy2).app mb.ext).app ma.ext).app mb.ext⟩
       rw[if_neg c4];have c4':ib2+1+m≠b.size:=by simpa using c4
       refine aC (AJ ha (by omega) fun x4 hx4=>?_);by_cases c6:(ia2+k+1+1==a.size)=true
       ·rw[if_pos c6];exact aD ⟨⟨_,rfl⟩,(((((mo2.app ma.ext).push hy2).app mb.ext).push hx4).app mb.ext).app ma.ext⟩
       rw[if_neg c6];have c6':ia2+k+1+1≠a.size:=by simpa using c6
       split
       ·exact aD ⟨⟨_,rfl⟩,by show ia2+k+1+1<a.size;omega,by show ib2+1+m<b.size;omega,(((mo2.app ma.ext).push hy2).app mb.ext).push hx4,by show ia1+ib1≤ia2+k+1+(ib2+1+m);omega⟩
       ·exact aD ⟨⟨_,rfl⟩,rfl,by show ia2+k+1+1<a.size;omega,by show ib2+1+m<b.size;omega,(((mo2.app ma.ext).push hy2).app mb.ext).push hx4,by show ia1+ib1≤ia2+k+1+(ib2+1+m);omega⟩
      ·rw[if_neg c3];refine aC (AJ ha (by omega) fun x4 hx4=>?_);by_cases c6:(ia2+k+1+1==a.size)=true
       ·rw[if_pos c6];exact aD ⟨⟨_,rfl⟩,((((mo2.app ma.ext).push hy2).push hx4).app mb.ext).app ma.ext⟩
       rw[if_neg c6];have c6':ia2+k+1+1≠a.size:=by simpa using c6
       split
       ·exact aD ⟨⟨_,rfl⟩,by show ia2+k+1+1<a.size;omega,by show ib2+1<b.size;omega,((mo2.app ma.ext).push hy2).push hx4,by show ia1+ib1≤ia2+k+1+(ib2+1);omega⟩
       ·exact aD ⟨⟨_,rfl⟩,rfl,by show ia2+k+1+1<a.size;omega,by show ib2+1<b.size;omega,((mo2.app ma.ext).push hy2).push hx4,by show ia1+ib1≤ia2+k+1+(ib2+1);omega⟩
     ·rw[if_neg c0];refine aC (AJ hb (by omega) fun y2 hy2=>?_);by_cases c2:(ib2+1==b.size)=true
      ·rw[if_pos c2];exact aD ⟨⟨_,rfl⟩,(((mo2).push hy2).app ma.ext).app mb.ext⟩
      rw[if_neg c2];have c2':ib2+1≠b.size:=by simpa using c2
      refine aC (AJ ha (by omega) fun x2 hx2=>?_);refine aC (BK (pend:=pend) hc hb hx2 (by omega) (by omega) fun m hm=>?_);dsimp only;by_cases c3:m > 0
      ·rw[if_pos c3];by_cases c4:(ib2+1+m==b.size)=true
       ·rw[if_pos c4];exact aD ⟨⟨_,rfl⟩,((((mo2).push hy2).app mb.ext).app ma.ext).app mb.ext⟩
       rw[if_neg c4];have c4':ib2+1+m≠b.size:=by simpa using c4
       refine aC (AJ ha (by omega) fun x4 hx4=>?_);by_cases c6:(ia2+1+1==a.size)=true
       ·rw[if_pos c6];exact aD ⟨⟨_,rfl⟩,(((((mo2).push hy2).app mb.ext).push hx4).app mb.ext).app ma.ext⟩
       rw[if_neg c6];have c6':ia2+1+1≠a.size:=by simpa using c6
       split
       ·exact aD ⟨⟨_,rfl⟩,by show ia2+1+1<a.size;omega,by show ib2+1+m<b.size;omega,(((mo2).push hy2).app mb.ext).push hx4,by show ia1+ib1≤ia2+1+(ib2+1+m);omega⟩
       ·exact aD ⟨⟨_,rfl⟩,rfl,by show ia2+1+1<a.size;omega,by show ib2+1+m<b.size;omega,(((mo2).push hy2).app mb.ext).push hx4,by show ia1+ib1≤ia2+1+(ib2+1+m);omega⟩
      ·rw[if_neg c3];refine aC (AJ ha (by omega) fun x4 hx4=>?_);by_cases c6:(ia2+1+1==a.size)=true
       ·rw[if_pos c6];exact aD ⟨⟨_,rfl⟩,((((mo2).push hy2).push hx4).app mb.ext).app ma.ext⟩
       rw[if_neg c6];have c6':ia2+1+1≠a.size:=by simpa using c6
       split
       ·exact aD ⟨⟨_,rfl⟩,by show ia2+1+1<a.size;omega,by show ib2+1<b.size;omega,((mo2).push hy2).push hx4,by show ia1+ib1≤ia2+1+(ib2+1);omega⟩
       ·exact aD ⟨⟨_,rfl⟩,rfl,by show ia2+1+1<a.size;omega,by show ib2+1<b.size;omega,((mo2).push hy2).push hx4,by show ia1+ib1≤ia2+1+(ib2+1);omega⟩
   ·rintro⟨res2,out2,ia2,ib2,mg2,ac2,bc2⟩ st2 ⟨hg2,h2,k1,k2,mo2,hs2⟩;dsimp only at h2 k1 k2 mo2 hs2 ⊢;subst h2;exact⟨hg2,k1,k2,mo2,hs2⟩
   obtain⟨res2,out2,ia2,ib2,mg2,ac2,bc2⟩:=t;obtain⟨⟨g2,rfl⟩,hq⟩:=hq;cases res2 with
   |some r=>exact aD ⟨⟨_,rfl⟩,r,rfl,hq⟩
   |none =>
    dsimp only at hq ⊢;obtain⟨k1,k2,mo2,hs2⟩:=hq;refine aC (aj ?_);exact aD ⟨⟨_,rfl⟩,rfl,k1,k2,mo2,by show i+1+1≤ia2+ib2;omega⟩
 ·rintro⟨res,out,ia,ib,mg⟩ st ⟨_,h1,n1,n2,mo,hs⟩;dsimp only at h1 n1 n2 mo hs;omega
 obtain⟨⟨g',rfl⟩,r,h1,h2⟩:=hq;rw[h1];exact aD (q r g' h2)
end
end Tim
namespace Tim
open PySem PyProof.Rows
section
variable{N:Nat}{lt:Nat→Nat→Bool}{p:Array Nat}
def En.perm{a b:Array Nat}(h:En N a)(k:b.Perm a):En N b:=C7.mpr fun x hx=>C7.mp h x (by
 have:=k.mem_iff (a:=x);exact this.mp hx)
def J0(h:En N p)(i j:Nat):En N (turn p i j)∧(turn p i j).size=p.size:=⟨h.perm (mirror_perm _ _ _ _),mirror_size _ _ _ _⟩
def NR(h:En N p){lo nrem n:Nat}(hz:lo+nrem≤p.size)(h1:1≤n){f:Nat}(hf:n+f≤nrem):∃m,iter (Ea N lt p lo) f n=some m∧1≤m∧m≤nrem:=by
 obtain⟨m,h2,h3⟩:=iter_inv (step:=Ea N lt p lo) (fun f n=>1≤n∧n+f≤nrem) (fun n=>1≤n∧n≤nrem) (fun f n ⟨k1,k2⟩=>by
  obtain⟨x,hx⟩:=Hc (lt:=lt) h (i:=lo+n) (j:=lo+n-1) (by omega) (by omega);unfold Ea;rw[hx];cases x with
  |true=>exact⟨true,n,rfl,by simp;omega⟩
  |false=>exact⟨false,n+1,rfl,by simp;omega⟩) (fun n ⟨k1,k2⟩=>⟨k1,by omega⟩) f n ⟨h1,hf⟩
 exact⟨m,h2,h3⟩
def MV(h:En N p){lo nrem n:Nat}(hz:lo+nrem≤p.size)(hn:n+1≤nrem):∃m p',J9 N lt p lo nrem n=some (m,p')∧1≤m∧m≤nrem∧En N p'∧p'.size=p.size:=by
 obtain⟨t,h2,h3,h4,h5,h6⟩:=iter_inv (step:=IX N lt lo) (fun f (t:Array Nat×Nat×Nat)=>En N t.1∧t.1.size=p.size∧1≤t.2.1∧t.2.1+f≤nrem) (fun t=>En N t.1∧t.1.size=p.size∧1≤t.2.1∧t.2.1≤nrem) (fun f t ⟨k1,k2,k3,k4⟩=>by
  obtain⟨q,n,c⟩:=t;dsimp only at k1 k2 k3 k4;obtain⟨x,hx⟩:=Hc (lt:=lt) k1 (i:=lo+n) (j:=lo+n-1) (by omega) (by omega);obtain⟨y,hy⟩:=Hc (lt:=lt) k1 (i:=lo+n-1) (j:=lo+n) (by omega) (by omega);unfold IX;dsimp only;rw[hx];cases x with
  |true =>
   refine⟨false,_,rfl,?_⟩;rw[if_neg (by decide)];dsimp only;split
   ·obtain⟨z1,z2⟩:=J0 k1 (lo+n-(c+1)) (lo+n);exact⟨z1,by rw[z2];exact k2,by omega,by omega⟩
   ·exact⟨k1,k2,by omega,by omega⟩
  |false =>
   dsimp only;rw[hy];cases y with
   |true=>exact⟨true,_,rfl,by rw[if_pos rfl];exact⟨k1,k2,k3,by show n≤nrem;omega⟩⟩
   |false=>exact⟨false,_,rfl,by rw[if_neg (by decide)];exact⟨k1,k2,by show 1≤n+1;omega,by show n+1+f≤nrem;omega⟩⟩) (fun t ⟨k1,k2,k3,k4⟩=>⟨k1,k2,k3,by omega⟩) (nrem-(n+1)) (p,n+1,0) ⟨h,rfl,by show 1≤n+1;omega,by show n+1+(nrem-(n+1))≤nrem;omega⟩
 obtain⟨q,m,c⟩:=t;dsimp only at h3 h4 h5 h6;unfold J9;rw[h2];dsimp only;have k:En N (if c > 0 then turn q (lo+m-(c+1)) (lo+m) else q)∧(if c > 0 then turn q (lo+m-(c+1)) (lo+m) else q).size=p.size:=by
  split
  ·obtain⟨z1,z2⟩:=J0 h3 (lo+m-(c+1)) (lo+m);exact⟨z1,by rw[z2];exact h4⟩
  ·exact⟨h3,h4⟩
 generalize (if c > 0 then turn q (lo+m-(c+1)) (lo+m) else q)=q2 at k;obtain⟨z1,z2⟩:=J0 k.1 lo (lo+m);obtain⟨m2,y1,y2,y3⟩:=NR (lt:=lt) z1 (lo:=lo) (nrem:=nrem) (n:=m) (f:=nrem-m) (by rw[z2,k.2];exact hz) h5 (by omega);exact⟨m2,_,by rw[y1];rfl,y2,y3,z1,by rw[z2];exact k.2⟩
def QC(h:En N p){lo nrem:Nat}(hz:lo+nrem≤p.size)(h1:1≤nrem):∃m p',LA N lt p lo nrem=some (m,p')∧1≤m∧m≤nrem∧En N p'∧p'.size=p.size:=by
 obtain⟨n,h2,h3,h4⟩:=NR (lt:=lt) h (lo:=lo) (nrem:=nrem) (n:=1) (f:=nrem-1) hz (aH _) (by omega);unfold LA;rw[h2];dsimp only;by_cases c1:(n==nrem)=true
 ·rw[if_pos c1];exact⟨n,p,rfl,h3,h4,h,rfl⟩
 rw[if_neg c1];have c1':n≠nrem:=by simpa using c1
 by_cases c2:n > 1
 ·rw[if_pos c2];obtain⟨x,hx⟩:=Hc (lt:=lt) h (i:=lo) (j:=lo+n-1) (by omega) (by omega);rw[hx];cases x with
  |true=>exact⟨n,p,rfl,h3,h4,h,rfl⟩
  |false =>
   obtain⟨z1,z2⟩:=J0 h lo (lo+n);obtain⟨m,p',y1,y2,y3,y4,y5⟩:=MV (lt:=lt) z1 (lo:=lo) (nrem:=nrem) (n:=n) (by rw[z2];exact hz) (by omega);exact⟨m,p',y1,y2,y3,y4,by rw[y5,z2]⟩
 ·rw[if_neg c2];exact MV h hz (by omega)
def Nn:∀ {f k:Nat} {p:Array Nat} {lo:Nat},En N p→lo+k+f≤p.size→∃p',HH N lt lo f k p=some p'∧En N p'∧p'.size=p.size
 |0,k,p,lo,h,_=>⟨p,rfl,h,rfl⟩
 |f+1,k,p,lo,h,hz=>by
  obtain⟨t,h2,_⟩:=iter_inv (step:=Hs N lt p lo k) (fun _ (t:Nat×Nat)=>t.2≤k) (fun _=>True) (fun f t k1=>by
   unfold Hs;by_cases c:t.1 ≥ t.2
   ·exact⟨true,t,if_pos c,trivial⟩
   ·rw[if_neg c];obtain⟨x,hx⟩:=Hc (lt:=lt) h (i:=lo+k) (j:=lo+(t.1+t.2) / 2) (by omega) (by omega);rw[hx];cases x with
    |true=>exact⟨false,_,rfl,by rw[if_neg (by decide)];show(t.1+t.2) / 2≤k;omega⟩
    |false=>exact⟨false,_,rfl,by rw[if_neg (by decide)];exact k1⟩) (fun _ _=>trivial) k (0,k) (aH _)
  obtain⟨l,r⟩:=t;rw[HH,h2];dsimp only;obtain⟨p',y1,y2,y3⟩:=Nn (f:=f) (k:=k+1) (p:=bubble p (lo+k) (lo+k-(lo+l))) (lo:=lo) (h.perm (bubble_perm _ _ _)) (by rw[bubble_size];omega);exact⟨p',y1,y2,by rw[y3,bubble_size]⟩
def Rf(h:En N p){at_:Nat}{m:Array Nat}(hm:En N m):En N (N1 p at_ m)∧(N1 p at_ m).size=p.size:=by
 unfold N1;have:∀(l:List (Nat×Nat)) (p:Array Nat),En N p→(∀x∈l,x.1<N)→En N (l.foldl (fun a x=>a.setIfInBounds (at_+x.2) x.1) p)∧(l.foldl (fun a x=>a.setIfInBounds (at_+x.2) x.1) p).size=p.size:=by
  intro l
  induction l with
  |nil=>intro p h _;exact⟨h,rfl⟩
  |cons y l ih =>
   intro p h k;have h':En N (p.setIfInBounds (at_+y.2) y.1):=fun i x hx=>by
    rw[Array.getElem?_setIfInBounds]at hx;split at hx
    ·split at hx
     ·cases hx;exact k y (.head _)
     ·cases hx
    ·exact h i x hx
   obtain⟨z1,z2⟩:=ih (p.setIfInBounds (at_+y.2) y.1) h' fun x hx=>k x (.tail _ hx);exact⟨z1,by rw[List.foldl_cons,z2,Array.size_setIfInBounds]⟩
 refine this _ p h fun x hx=>?_;obtain⟨i,hi,hx2⟩:=List.mem_iff_getElem.mp hx;have hm2:=List.mem_zipIdx hx;have:x.1∈m.toList:=by
  have:=List.fst_mem_of_mem_zipIdx hx;exact this
 exact C7.mp hm x.1 (Array.mem_toList_iff.mp this)
end
end Tim
namespace Tim
open PySem PyProof.Rows
section
variable{prog:Program}{w:World}{A:Around}{E:VL→SD→Prop}{s:SD}{N:Nat}{lt:Nat→Nat→Bool}{κ:SortKind}{it:Nat→Keyed}{p:Array Nat}{pend:Array (Nat×Nat×Nat)}{g:Nat}
def Ow(hc:Cm prog w A s κ it N lt)(hp:En N p){sa na pw sb nb pw2:Nat}(h0:pend[0]? = some (sa,na,pw))(h1:pend[1]? = some (sb,nb,pw2))(hs:sa+na=sb)(hz:sb+nb≤p.size)(n1:1≤na)(n2:1≤nb){Q:Bool→SortSt→Prop}
 (q:∀p' g',En N p'→p'.size=p.size→Q true (St κ it p' ((pend.setIfInBounds 0 (sa,na+nb,pw)).eraseIdxIfInBounds 1) g')):wpS (model prog w) A E s (mergeAt' 0) Q (St κ it p pend g):=by
 refine aC (wpS_get ?_);have e0:(pendingOf (St κ it p pend g))[0]? = some (sa,na,pw):=h0;have e1:(pendingOf (St κ it p pend g))[0+1]? = some (sb,nb,pw2):=h1;rw[e0,e1];dsimp only;refine aC (WV ?_);refine aC (AJ hp (by omega) fun y hy=>?_);refine aC (BK (p:=p) (pend:=(pend.setIfInBounds 0 (sa,na+nb,pw)).eraseIdxIfInBounds 1) (g:=g) hc hp hy (by omega) (by omega) fun k hk=>?_);dsimp only;by_cases c1:(na-k==0)=true
 ·exact Hz c1 (aD (q _ _ hp rfl))
 refine GA c1 ?_;have c1':na-k≠0:=by simpa using c1
 refine aC (AJ hp (by omega) fun z hz'=>?_);refine aC (BK (p:=p) (pend:=(pend.setIfInBounds 0 (sa,na+nb,pw)).eraseIdxIfInBounds 1) (g:=g) hc hp hz' (by omega) (by omega) fun nb2 hk2=>?_);dsimp only;by_cases c2:(nb2==0)=true
 ·exact Hz c2 (aD (q _ _ hp rfl))
 refine GA c2 ?_;have c2':nb2≠0:=by simpa using c2
 have sx:(p.extract (sa+k) sb).size=sb-(sa+k):=by simp;omega
 have sy:(p.extract sb (sb+nb2)).size=nb2:=by simp;omega
 split
 ·rw[←Array.map_extract,←Array.map_extract];refine aC (Ot (p:=p) (pend:=(pend.setIfInBounds 0 (sa,na+nb,pw)).eraseIdxIfInBounds 1) hc hp.ext hp.ext (by rw[sx];omega) (by rw[sy];omega) fun r g' hr=>?_);obtain⟨m,hm,rfl⟩:=hr;refine aC (aj ?_);refine aC (wpS_get ?_);refine aD ?_;obtain⟨z1,z2⟩:=Rf hp (at_:=sa+k) hm;have q':=q _ g' z1 z2;have e3:=O2 (it:=it) p (sa+k) m;unfold St at q';rw[←e3]at q';exact q'
 ·rw[←Array.map_extract,←Array.map_extract];refine aC (Ov (p:=p) (pend:=(pend.setIfInBounds 0 (sa,na+nb,pw)).eraseIdxIfInBounds 1) hc hp.ext hp.ext (by rw[sx];omega) (by rw[sy];omega) fun r g' hr=>?_);obtain⟨m,hm,rfl⟩:=hr;refine aC (aj ?_);refine aC (wpS_get ?_);refine aD ?_;obtain⟨z1,z2⟩:=Rf hp (at_:=sa+k) hm;have q':=q _ g' z1 z2;have e3:=O2 (it:=it) p (sa+k) m;unfold St at q';rw[←e3]at q';exact q'
end
end Tim
namespace Tim
open PySem PyProof.Rows
def Oh{n:Nat}(h1:64≤n)(h2:n<128):minRun' n n 0=n / 2+n % 2:=by
 obtain⟨m,rfl⟩:∃m,n=m+2:=⟨n-2,by omega⟩;rw[minRun'_succ,if_neg (by omega),minRun'_succ,if_pos (by omega),Nat.zero_max]
section
variable{prog:Program}{w:World}{A:Around}{E:VL→SD→Prop}{s:SD}{N:Nat}{lt:Nat→Nat→Bool}{κ:SortKind}{it:Nat→Keyed}{p:Array Nat}{pend:Array (Nat×Nat×Nat)}{g:Nat}
def Pd(size lo:Nat)(pend:Array (Nat×Nat×Nat)):Prop:=(lo=0∧pend=#[])∨(∃n1:Nat,lo=n1∧pend=#[(0,n1,0)]∧size / 2+size % 2≤n1∧n1≤size)∨(lo=size∧∃n1 n2 x y:Nat,pend=#[(0,n1,x),(n1,n2,y)]∧n1+n2=size∧1≤n1∧1≤n2)
def Th(hc:Cm prog w A s κ it N lt)(hp:En N p)(h1:64≤p.size)(h2:p.size<128){Q:SortSt→Prop}(q:∀p' pend g,En N p'→p'.size=p.size→Q (St κ it p' pend g)):wpS (model prog w) A E s sortRuns' (fun _ st=>Q st) (St κ it p #[] 7):=by
 refine aC (wpS_get ?_);dsimp only;simp only[Array.size_map];generalize hz:p.size=size at h1 h2 q ⊢;have hmr:=Oh h1 h2;have hit:iter (fun _:Unit=>some (true,())) (size-0) ()=some ():=by
  cases size with
  |zero=>omega
  |succ f=>rfl
 refine aC (wpS_mono (ER (fun j (t:Option Unit×Nat) st=>t.1=none∧∃p' pend g,st=St κ it p' pend g∧En N p'∧p'.size=size∧Pd size t.2 pend)
  (Q:=fun t st=>t.1=none∧∃p' pend g,st=St κ it p' pend g∧En N p'∧p'.size=size∧Pd size t.2 pend) ?_ ?_ ?_) fun t st' hq=>?_)
 ·exact⟨rfl,p,#[],7,rfl,hp,hz,.inl ⟨rfl,rfl⟩⟩
 ·rintro x j ⟨res,lo⟩ st hj ⟨r1,p2,pend2,g2,rfl,hp2,hz2,pd⟩;dsimp only at r1 pd ⊢;subst r1;by_cases hge:lo ≥ size
  ·exact Hz hge (aD ⟨rfl,p2,pend2,g2,rfl,hp2,hz2,pd⟩)
  refine GA hge ?_;obtain⟨m,p3,hm,m1,m2,hp3,hz3⟩:=QC (lt:=lt) hp2 (lo:=lo) (nrem:=size-lo) (by omega) (by omega);refine aC (TK hc hm ?_);dsimp only;by_cases hlt:m<minRun' size size 0
  ·refine Hz hlt ?_;refine aC (wpS_lift (au ⟨rfl,?_⟩));have hmr':min (size-lo) (minRun' size size 0)=min (size-lo) (size / 2+size % 2):=by rw[hmr]
   obtain⟨p4,hp4,k1,k2⟩:=Nn (lt:=lt) (f:=min (size-lo) (minRun' size size 0)-max m 1) (k:=max m 1) (lo:=lo) hp3 (by omega);refine aC (ZH hc hp4 ?_);refine GA (by decide) ?_;have k2:p4.size=size:=by omega
   refine aC (wpS_get ?_);rcases pd with ⟨a1,a2⟩|⟨n1,a1,a2,a3,a4⟩|⟨a1,_⟩
   ·subst a1 a2;exact aC (aj (aD ⟨rfl,p4,#[(0,(min (size-0) (minRun' size size 0)),0)],g2,rfl,k1,k2,.inr (.inl ⟨(min (size-0) (minRun' size size 0)),by show 0+(min (size-0) (minRun' size size 0))=(min (size-0) (minRun' size size 0));omega,rfl,by omega,by omega⟩)⟩))
   ·subst a1 a2;refine aC (Bg (T:=Unit) (fun _=>some (true,())) (fun _=>(none,())) (fun _=>St κ it p4 #[(0,lo,0)] g2) (t:=()) (t':=()) hit (fun x t b t' hs2 R2 hR2=>?_) ?_)
    ·cases hs2;refine aC (wpS_get ?_);have hn:(if(pendingOf (St κ it p4 #[(0,lo,0)] g2)).size > 1 then(pendingOf (St κ it p4 #[(0,lo,0)] g2))[(pendingOf (St κ it p4 #[(0,lo,0)] g2)).size-2]? else none)=none:=if_neg (by show ¬1 > 1;decide);rw[hn];exact aD hR2
    ·exact aC (aj (aC (aj (aD ⟨rfl,p4,#[(0,lo,_),(lo,(min (size-lo) (minRun' size size 0)),0)],g2,rfl,k1,k2,.inr (.inr ⟨by show lo+(min (size-lo) (minRun' size size 0))=size;omega,lo,(min (size-lo) (minRun' size size 0)),_,_,rfl,by omega,by omega,by omega⟩)⟩))))
   ·omega
  ·refine GA hlt ?_;have k1:=hp3;have k2:p3.size=size:=by omega
   rw[hmr]at hlt;refine aC (wpS_get ?_);rcases pd with ⟨a1,a2⟩|⟨n1,a1,a2,a3,a4⟩|⟨a1,_⟩
   ·subst a1 a2;exact aC (aj (aD ⟨rfl,p3,#[(0,m,0)],g2,rfl,k1,k2,.inr (.inl ⟨m,by show 0+(m)=m;omega,rfl,by omega,by omega⟩)⟩))
   ·subst a1 a2;refine aC (Bg (T:=Unit) (fun _=>some (true,())) (fun _=>(none,())) (fun _=>St κ it p3 #[(0,lo,0)] g2) (t:=()) (t':=()) hit (fun x t b t' hs2 R2 hR2=>?_) ?_)
    ·cases hs2;refine aC (wpS_get ?_);have hn:(if(pendingOf (St κ it p3 #[(0,lo,0)] g2)).size > 1 then(pendingOf (St κ it p3 #[(0,lo,0)] g2))[(pendingOf (St κ it p3 #[(0,lo,0)] g2)).size-2]? else none)=none:=if_neg (by show ¬1 > 1;decide);rw[hn];exact aD hR2
    ·exact aC (aj (aC (aj (aD ⟨rfl,p3,#[(0,lo,_),(lo,m,0)],g2,rfl,k1,k2,.inr (.inr ⟨by show lo+(m)=size;omega,lo,m,_,_,rfl,by omega,by omega,by omega⟩)⟩))))
   ·omega
 ·exact fun b st h=>h
 obtain⟨res,lo⟩:=t;obtain⟨r1,p1,pend1,g1,rfl,hp1,hz1,pd⟩:=hq;dsimp only at r1 pd ⊢;subst r1;dsimp only;refine aC (wpS_mono (ER (fun j (t:Option Unit×Unit) st=>t.1=none∧∃p' pend g,st=St κ it p' pend g∧En N p'∧p'.size=size∧(pend.size≤1∨∃n1 n2 x y:Nat,pend=#[(0,n1,x),(n1,n2,y)]∧n1+n2=size∧1≤n1∧1≤n2))
  (Q:=fun t st=>t.1=none∧∃p' pend g,st=St κ it p' pend g∧En N p'∧p'.size=size) ?_ ?_ ?_) fun t st' hq=>?_)
 ·refine⟨rfl,p1,pend1,g1,rfl,hp1,hz1,?_⟩;rcases pd with ⟨_,a2⟩|⟨n1,_,a2,_⟩|⟨_,a2⟩
  ·exact .inl (by rw[a2];decide)
  ·exact .inl (by rw[a2];exact aH 1)
  ·exact .inr a2
 ·rintro x j ⟨res,u⟩ st hj ⟨r1,p5,pend5,g5,rfl,hp5,hz5,c5⟩;dsimp only at r1 ⊢;subst r1;refine aC (wpS_get ?_);dsimp only;by_cases hle:pend5.size≤1
  ·exact Hz hle (aD ⟨rfl,p5,pend5,g5,rfl,hp5,hz5⟩)
  refine GA hle ?_;rcases c5 with c5|⟨n1,n2,y1,y2,rfl,e1,e2,e3⟩
  ·exact absurd c5 hle
  refine aC (Ow (p:=p5) (pend:=#[(0,n1,y1),(n1,n2,y2)]) (sa:=0) (na:=n1) (pw:=y1) (sb:=n1) (nb:=n2) (pw2:=y2) hc hp5 rfl rfl (by omega) (by omega) e2 e3 fun p6 g6 hp6 hz6=>?_);exact aD ⟨rfl,p6,_,g6,rfl,hp6,by omega,.inl (by simp[Array.eraseIdxIfInBounds])⟩
 ·rintro b st ⟨r1,p5,pend5,g5,h5,hp5,hz5,_⟩;exact⟨r1,p5,pend5,g5,h5,hp5,hz5⟩
 obtain⟨r1,p5,pend5,g5,rfl,hp5,hz5⟩:=hq;rw[r1];exact aD (q p5 pend5 g5 hp5 hz5)
end
end Tim
namespace TH
open PySem PySem.W PyProof.Rows PySem.SeqAt
section
variable{prog:Program}{w:World}{A:Around}{E:VL→SD→Prop}{s:SD}
def SS{κ:SortKind}{t:Tr}{ws:List VL}(hκ:LO κ)(e:Vs s.heap t ws)(h2:64≤ws.length)(h64:ws.length<128)(hu:A.units+t.deep≤cLine) :
  wpAny (model prog w) A ((sortRuns').run (SortSt.mk' κ (ws.toArray.zip ws.toArray) #[] 7 none)) (fun r s'=>s'=s∧failedOf r.2=none∧∃ix:List Nat,ix.length=ws.length∧(∀i∈ix,i<ws.length) ∧
   (arrOf r.2).map (·.2)=(ix.map fun i=>ws.getD i Value.none).toArray) E s:=by
 have key:∀i,i<ws.length→∃(a:AD) (its:List VL),ws.getD i Value.none=.ref a∧s.heap.IsTuple a its.toArray∧Vs s.heap (t.bs.getD i .nil) its∧(t.bs.getD i .nil).deep<t.deep:=fun i hi=>by
  obtain⟨a,its,c,q1,q2,q3,q4,q5⟩:=e.at hi;have:t.bs.getD i .nil=c:=by rw[List.getD_eq_getElem?_getD,q4];rfl
  rw[this];exact⟨a,its,q1,q2,q3,q5⟩
 have hz:ws.toArray.zip ws.toArray=(List.range ws.length).toArray.map fun i=>(ws.getD i Value.none,ws.getD i Value.none):=by
  apply Array.ext_getElem?;intro i;by_cases hi:i<ws.length
  ·simp[hi]
  ·simp[hi]
 have hc:Tim.Cm prog w A s κ (fun i=>(ws.getD i Value.none,ws.getD i Value.none)) ws.length (fun i j=>Tr.lt (t.bs.getD i .nil) (t.bs.getD j .nil)):=fun i j E Q hi hj q=>by
  obtain⟨a,its,q1,q2,q3,q4⟩:=key i hi;obtain⟨a',its',r1,r2,r3,r4⟩:=key j hj;show wpAny _ _ (keyLt' κ (ws.getD i Value.none) (ws.getD j Value.none)) _ _ _;rw[q1,r1];exact O9 hκ q2 q3 r2 r3 (by omega) q
 rw[hz];have hp:Tim.En ws.length (List.range ws.length).toArray:=fun i x hx=>by
  rw[List.getElem?_toArray]at hx;exact List.mem_range.mp (List.mem_of_getElem? hx)
 refine aQ (Tim.Th (p:=(List.range ws.length).toArray) hc hp (by simpa using h2) (by simpa using h64) (Q:=fun st=>failedOf st=none∧∃ix:List Nat,ix.length=ws.length∧(∀i∈ix,i<ws.length)∧(arrOf st).map (·.2)=(ix.map fun i=>ws.getD i Value.none).toArray) fun p pend g hp2 hz2=>⟨rfl,p.toList,by simpa using hz2,fun i hi=>?_,?_⟩) (fun r s' z=>z) fun _ _ z=>z
 ·exact Tim.C7.mp hp2 i (by simpa using hi)
 ·show(p.map _).map _=_;rw[Array.map_map];apply Array.toList_inj.mp;rw[Array.toList_map]
  rfl
def QO{a:AD}{us:List VL}{t:Tr}{n:Nat}{P:PySem.Fin→SD→Prop}(ho:s.heap.get? a=some (seqObj "list" us.toArray n))(e:Vs s.heap t us)(h2:64≤us.length)(h64:us.length<128)(hu:A.units+t.deep≤cLine)
 (h:∀ix:List Nat,ix.length=us.length→(∀i∈ix,i<us.length)→P (.done (.ret .none)) {s with heap:=sortedHeap s.heap a us (ix.map fun i=>us.getD i Value.none).toArray}) :
  wpAny (model prog w) A (Builtin.«list.sort» ⟨[.ref a],[]⟩) P E s:=by
 rw[HR,list_sort_rev];have ha:a<s.heap.objs.size:=aG ho;refine Wb (listItems_at ho rfl ?_);refine Wb (listUpdate_at ho rfl ?_ (by rw[List.size_toArray,sizeLine_eq];omega) (aa _));obtain⟨e1,ho1⟩:∃e1,(s.heap.update a (Obj.mapSeq fun _=>#[])).get? a=some (seqObj "list" #[] e1):=⟨_,get?_update_seq ho (fun _=>#[])⟩;refine Wb (seqEpoch_at ho1 rfl ?_);refine Wb (wpAny_newTuple ?_ (by show us.length≤_;rw[sizeLine_eq];omega));refine Wb (bE ?_ (aa _));refine aU ?_;have ho6:(((s.heap.update a (Obj.mapSeq fun _=>#[])).push (seqObj "tuple" us.toArray 0)).push (seqObj "list" #[] 0)).get? a=some (seqObj "list" #[] e1):=by
  rw[Heap.get?_push_ne _ _ _ (by rw[size_push',Heap.size_update];exact aI (aX ha)),Heap.get?_push_ne _ _ _ (by rw[Heap.size_update];exact aI ha)];exact ho1
 have keep:∀c o,s.heap.get? c=some o→o.cls=.type "tuple" →(((s.heap.update a (Obj.mapSeq fun _=>#[])).push (seqObj "tuple" us.toArray 0)).push (seqObj "list" #[] 0)).get? c=some o:=fun c o hc hcl=>by
  have hne:c≠a:=fun z=>by
   rw[z,ho]at hc;cases hc;exact absurd (show Value.type "list" = Value.type "tuple" from hcl) (by decide)
  refine aF _ (aF _ ?_);rw[Heap.get?_update_ne _ _ _ _ hne];exact hc
 show wpAny (model prog w) A _ P E {s with heap:=((s.heap.update a (Obj.mapSeq fun _=>#[])).push (seqObj "tuple" us.toArray 0)).push (seqObj "list" #[] 0)};have e6:=e.keeps keep;dsimp only;rw[if_neg (by decide:¬false=true)];have hz:¬us.toArray.size<2:=by simp;omega
 rw[if_neg hz,if_neg hz];refine Wb (PN (s:={s with heap:=((s.heap.update a (Obj.mapSeq fun _=>#[])).push (seqObj "tuple" us.toArray 0)).push (seqObj "list" #[] 0)}) e6 fun κ hκ=>?_);rw[if_neg (by decide:¬false=true)];refine Wb (aQ (SS (s:={s with heap:=((s.heap.update a (Obj.mapSeq fun _=>#[])).push (seqObj "tuple" us.toArray 0)).push (seqObj "list" #[] 0)}) hκ e6 h2 h64 hu) ?_ fun _ _ z=>z);rintro⟨⟨⟩,st'⟩ s' ⟨rfl,hf,ix,hil,hix,hout⟩;dsimp only;refine Wb (seqEpoch_at ho6 rfl ?_);rw[if_neg (by decide:¬false=true)];have hfin:(arrOf st').map (·.2)=(ix.map fun i=>us.getD i Value.none).toArray:=hout;refine Wb (listUpdate_at ho6 rfl ?_ (aa _) (by
  refine aZ (Nat.le_of_eq (ay Array.size hfin)) ?_;rw[List.size_toArray,List.length_map,hil,sizeLine_eq];omega))
 rw[show failedOf st'=none from hf];simp only[bne_self_eq_false,Bool.false_eq_true,if_false];have fin:=h ix hil hix;rw[←hfin]at fin;exact aB fin
end
section
variable{G:VL→Tr→Prop}{prog:Program}{w:World}{A:Around}{E:VL→SD→Prop}{s:SD}{S:AD}{o:Obj}{ev:Array (Int×VL)}{et:ES}{ep:Nat}{t:SetTable}
def Ob{Q:VL→SD→Prop}(hA:A.handled=none)(W:CU w o ev ep t)(ho:s.heap.get? S=some o)(R:B0 G s.heap ev et)(h1:64≤et.size)(h64:et.size<128)(hu:A.units+20<cLine)
 (h:∀(h':Heap) (D tk e1:Nat) (us:List VL) (bs:List Tr),s.heap.objs.size≤D→(∀b u,s.heap.get? b=some u→h'.get? b=some u)→h'.get? D=some (seqObj "list" us.toArray e1)→Paired G us bs→us.length<128 →
   Q (.ref D) {s with heap:=h',toks:=tk}):wpAny (model prog w) A (call (.builtin "sorted") [.ref S]) Q E s:=by
 have hsz:=R.size;refine Calls.call_function_entry kind_sorted plain_sorted entry_sorted (args_sorted1 _) ?_;unfold Builtin.«sorted»;refine Wb (m:=checkCount "sorted" 1 1 _) (aB ?_);refine Wb (gather (A:=A.in1) (Pq W) hA ho (Cy (by omega)) fun h1 tk acc z1 k1 hacc=>?_);have hal:acc.toList=(C4 w S ep ev).toList.map (·.2):=by
  apply List.ext_getElem?;intro j;rw[List.getElem?_map];by_cases hj:j<acc.size
  ·have e1:acc[j]? = some acc[j]:=Array.getElem?_eq_getElem hj;obtain⟨z,e2⟩:=hacc.2 j _ e1;rw[Array.getElem?_toList,e1,Array.getElem?_toList,e2]
   rfl
  ·have hj2:¬j<(C4 w S ep ev).size:=by rw[FV,←hacc.1];exact hj
   rw[List.getElem?_eq_none (by simpa using hj),List.getElem?_eq_none (by simpa using hj2)]
   rfl
 obtain⟨m,pm,rm⟩:=Paired.perm (Jj w S ep ev) R;have hvs:=L9 rm;rw[←hal]at hvs;have hd:(Tr.of (m.map (·.2))).deep≤8:=(Tr.Hw 8 _).mpr fun c hc=>by have:=Jq rm c hc;omega
 have hl1:acc.toList.length=et.size:=by rw[Array.length_toList,hacc.1,hsz]
 have hlen:acc.toList.length<128:=by omega
 refine Wb (bE ?_ (Cy (by omega)));have g1:(h1.push (seqObj "list" acc.toList.toArray 0)).get? h1.objs.size=some (seqObj "list" acc.toList.toArray 0):=aL _ rfl;have k2:∀b u,s.heap.get? b=some u→(h1.push (seqObj "list" acc.toList.toArray 0)).get? b=some u:=fun b u e=>aF _ (k1 b u e);refine Wb (aU (aT slot_list_sort ⟨_,g1,rfl⟩ entry_list_sort (QO (s:={s with heap:=h1.push (seqObj "list" acc.toList.toArray 0),toks:=tk}) g1 (hvs.keeps fun b u e _=>k2 b u e) (by omega) hlen
  (by rw[show A.in1.in1.units=A.units+2 from rfl];omega) fun ix a1 a2=>⟨_,rfl,?_⟩) (args_list_sort _)))
 obtain⟨e1,he1⟩:=sortedHeap_at (vs:=acc.toList) (out:=(ix.map fun i=>acc.toList.getD i Value.none).toArray) g1;have hg:=OG rm;rw[←hal]at hg;refine aB ⟨_,rfl,h _ h1.objs.size tk e1 (ix.map fun i=>acc.toList.getD i Value.none) _ ?_ (fun b u e=>?_) he1 (Paired.Qt hg Value.none Tr.nil ix a2) (by rw[List.length_map,a1];exact hlen)⟩
 ·exact bF z1
 ·have lb:b<h1.objs.size:=aG (k1 b u e);rw[sortedHeap_old (aI lb) (by rw[Heap.size_push];exact aX lb)];exact k2 b u e
end
end TH
set_option maxHeartbeats 1000000
namespace TH
open PySem
def lk:List (Nat×Nat)→Nat→Option Nat
 |[],_=>none
 |(a,k)::r,j=>bif Nat.beq a j then some k else lk r j
def Q9(mask:Nat)(tk:List (Nat×Nat))(j:Nat):Bool:=Nat.ble j mask&&(lk tk j).isNone
def IC(mask:Nat)(tk:List (Nat×Nat)):Nat→Nat→Nat→Option Nat
 |0,_,_=>none
 |fuel+1,i,perturb =>
  match (List.range (SetTable.runEnd mask i+1-i)).find? fun k=>Q9 mask tk (i+k) with
  |some k=>some (i+k)
  |none=>let(i,perturb):=SetTable.leap mask i perturb;IC mask tk fuel i perturb
def K0(mask:Nat):List (Nat×Nat)→Nat→List Int→Option (List (Nat×Nat))
 |tk,_,[]=>some tk
 |tk,k,h::r=>match IC mask tk (SetTable.turns mask) (SetTable.bits h % (mask+1)) (SetTable.bits h) with
  |none=>none
  |some 0=>K0 mask ((0,k)::tk) (k+1) r
  |some (j+1)=>K0 mask ((j+1,k)::tk) (k+1) r
def IU(mask:Nat)(owner:Array (Option Nat))(tk:List (Nat×Nat)):Prop:=owner.size=mask+1∧∀j,j≤mask→owner[j]? = some (lk tk j)
def WT{mask:Nat}{owner:Array (Option Nat)}{tk:List (Nat×Nat)}(h:IU mask owner tk)(j:Nat):(owner.getD j (some 0)).isNone=Q9 mask tk j:=by
 unfold Q9;by_cases hj:j≤mask
 ·have:=h.2 j hj;rw[Array.getD_eq_getD_getElem?,this,Nat.ble_eq.mpr hj]
  rfl
 ·rw[Array.getD_eq_getD_getElem?,Array.getElem?_eq_none (by have:=h.1;omega)];have:Nat.ble j mask=false:=by
   cases hb:Nat.ble j mask
   ·rfl
   ·exact absurd (Nat.ble_eq.mp hb) hj
  rw[this]
  rfl
def free_eq{mask:Nat}{owner:Array (Option Nat)}{tk:List (Nat×Nat)}(h:IU mask owner tk):∀fuel i p,SetTable.layClean.free mask owner fuel i p=IC mask tk fuel i p
 |0,_,_=>rfl
 |fuel+1,i,p=>by
  unfold SetTable.layClean.free IC;have:(fun k=>(owner.getD (i+k) (some 0)).isNone)=fun k=>Q9 mask tk (i+k):=funext fun k=>WT h _;rw[this];split
  ·rename_i k e;rw[e]
  ·rename_i e;rw[e];exact free_eq h fuel _ _
def WB{mask:Nat}{owner:Array (Option Nat)}{tk:List (Nat×Nat)}(h:IU mask owner tk)(j k:Nat):IU mask (owner.setIfInBounds j (some k)) ((j,k)::tk):=by
 refine⟨by rw[Array.size_setIfInBounds];exact h.1,fun i hi=>?_⟩;have:=h.2 i hi;rw[Array.getElem?_setIfInBounds,lk];by_cases e:j=i
 ·subst e;have hb:Nat.beq j j=true:=Nat.beq_refl j;rw[if_pos rfl,if_pos (by have:=h.1;omega),hb]
  rfl
 ·have hb:Nat.beq j i=false:=by
   cases hb:Nat.beq j i
   ·rfl
   ·exact absurd (Nat.eq_of_beq_eq_true hb) e
  rw[if_neg e,hb];exact this
def ME(mask:Nat):∀l:List Int,(l.foldl (init:=none) fun(acc:Option (Array (Option Nat)×Nat)) h=>do
    let(owner,k) ←acc
    let j ←SetTable.layClean.free mask owner (SetTable.turns mask) (SetTable.bits h % (mask+1)) (SetTable.bits h)
    pure (owner.setIfInBounds j (some k),k+1))=none
  |[]=>rfl
  |h::r=>ME mask r
def fold_eq{mask:Nat}:∀(l:List Int) {owner:Array (Option Nat)} {tk:List (Nat×Nat)} {k:Nat},IU mask owner tk →
    match K0 mask tk k l with
    |none=>(l.foldl (init:=some (owner,k)) fun acc h=>do
        let(owner,k) ←acc
        let j ←SetTable.layClean.free mask owner (SetTable.turns mask) (SetTable.bits h % (mask+1)) (SetTable.bits h)
        pure (owner.setIfInBounds j (some k),k+1))=none
    |some tk'=>∃o' k',(l.foldl (init:=some (owner,k)) fun acc h=>do
        let(owner,k) ←acc
        let j ←SetTable.layClean.free mask owner (SetTable.turns mask) (SetTable.bits h % (mask+1)) (SetTable.bits h)
        pure (owner.setIfInBounds j (some k),k+1))=some (o',k')∧IU mask o' tk'
  |[],owner,tk,k,h=>⟨owner,k,rfl,h⟩
  |x::r,owner,tk,k,h=>by
    rw[K0]
    have e:((some (owner,k)).bind fun(q:Array (Option Nat)×Nat)=>(SetTable.layClean.free mask q.1 (SetTable.turns mask) (SetTable.bits x % (mask+1)) (SetTable.bits x)).bind fun j=>some (q.1.setIfInBounds j (some q.2),q.2+1))=(IC mask tk (SetTable.turns mask) (SetTable.bits x % (mask+1)) (SetTable.bits x)).bind fun j=>some (owner.setIfInBounds j (some k),k+1):=by
      rw[←free_eq h]
      rfl
    have key:∀j,IC mask tk (SetTable.turns mask) (SetTable.bits x % (mask+1)) (SetTable.bits x)=some j→∀R:Option (Array (Option Nat)×Nat)→Prop,R ((r.foldl (init:=some (owner.setIfInBounds j (some k),k+1)) fun acc h=>do
        let(owner,k) ←acc
        let j ←SetTable.layClean.free mask owner (SetTable.turns mask) (SetTable.bits h % (mask+1)) (SetTable.bits h)
        pure (owner.setIfInBounds j (some k),k+1)))→R (((x::r).foldl (init:=some (owner,k)) fun acc h=>do
        let(owner,k) ←acc
        let j ←SetTable.layClean.free mask owner (SetTable.turns mask) (SetTable.bits h % (mask+1)) (SetTable.bits h)
        pure (owner.setIfInBounds j (some k),k+1))):=fun j hj R hR=>by
      rw[hj]at e
      rw[List.foldl_cons]
      have e':(do
        let(owner,k) ←some (owner,k)
        let j ←SetTable.layClean.free mask owner (SetTable.turns mask) (SetTable.bits x % (mask+1)) (SetTable.bits x)
        pure (owner.setIfInBounds j (some k),k+1))=some (owner.setIfInBounds j (some k),k+1):=e
      rw[e']
      exact hR
    cases hj:IC mask tk (SetTable.turns mask) (SetTable.bits x % (mask+1)) (SetTable.bits x) with
    |none =>
      dsimp only
      rw[hj]at e
      rw[List.foldl_cons]
      have e':(do
        let(owner,k) ←some (owner,k)
        let j ←SetTable.layClean.free mask owner (SetTable.turns mask) (SetTable.bits x % (mask+1)) (SetTable.bits x)
        pure (owner.setIfInBounds j (some k),k+1))=none:=e
      rw[e']
      exact ME mask r
    |some j =>
      have ih:=fold_eq r (k:=k+1) (WB h j k)
      cases j with
      |zero =>
        dsimp only
        split
        · rename_i e2;rw[e2]at ih;exact key 0 hj (fun z=>z=none) ih
        · rename_i tk' e2;rw[e2]at ih;exact key 0 hj (fun z=>∃o' k',z=some (o',k')∧IU mask o' tk') ih
      |succ j =>
        dsimp only
        split
        · rename_i e2;rw[e2]at ih;exact key (j+1) hj (fun z=>z=none) ih
        · rename_i tk' e2;rw[e2]at ih;exact key (j+1) hj (fun z=>∃o' k',z=some (o',k')∧IU mask o' tk') ih
def Kl{α β:Type}{f g:α→Option β}:∀l:List α,(∀x∈l,f x=g x)→l.filterMap f=l.filterMap g
 |[],_=>rfl
 |a::r,h=>by rw[List.filterMap_cons,List.filterMap_cons,h a aP,Kl r fun x hx=>h x (aO _ hx)]
def Jt(mask:Nat)(tk:List (Nat×Nat)):List (Nat×Nat):=(List.range (mask+1)).filterMap fun j=>(lk tk j).map (j,·)
def Ms(mask finger moves:Nat)(led plain:Bool)(hashes:Array Int):Option (SetTable×Array Nat):=match K0 mask [] 0 hashes.toList with
 |none=>none
 |some tk=>some ({ mask,place:=((Jt mask tk).map (·.1)).toArray,dummies:=#[],finger,led,moves,plain},((Jt mask tk).map (·.2)).toArray)
def V3(mask finger moves:Nat)(led plain:Bool)(hashes:Array Int):SetTable.laid mask finger moves led plain hashes=Ms mask finger moves led plain hashes:=by
 have h0:IU mask (Array.replicate (mask+1) none) []:=⟨by simp,fun j hj=>by rw[Array.getElem?_replicate,if_pos (by omega)];rfl⟩;have:=fold_eq hashes.toList (k:=0) h0;unfold SetTable.laid SetTable.layClean Ms;rw[←Array.foldl_toList];cases hl:K0 mask [] 0 hashes.toList with
 |none =>
  rw[hl]at this;dsimp only at this;rw[this]
  rfl
 |some tk =>
  rw[hl]at this;dsimp only at this;obtain⟨o',k',e1,e2⟩:=this;rw[e1];have live:((List.range (mask+1)).filterMap fun j=>(o'.getD j none).map (j,·))=Jt mask tk:=by
   refine Kl _ fun j hj=>?_;have hj:=List.mem_range.mp hj;rw[Array.getD_eq_getD_getElem?,e2.2 j (by omega)]
   rfl
  show some (_,_)=_;dsimp only;rw[live]
def addQ(st:ES×SetTable)(x:Tr):Option (ES×SetTable) :=
 if(st.2.fits st.1.size&&decide (st.1.size≤1000)&&st.2.plain)=false then none else
 match Kn st.1 st.2 x (AW x) with
 |none=>none
 |some none=>some st
 |some (some slot) =>
  if(st.2.put slot).1.tooFull=false then some (SetTable.insertAt st.1 (st.2.put slot).2 (AW x,x),(st.2.put slot).1) else
  if((st.2.put slot).1.fits (SetTable.insertAt st.1 (st.2.put slot).2 (AW x,x)).size&&decide (SetTable.sizeAbove (SetTable.grown (st.1.size+1))≤100000))=false then none else
  match Ms (SetTable.sizeAbove (SetTable.grown (st.1.size+1))-1) (st.2.put slot).1.finger ((st.2.put slot).1.movedTo (SetTable.sizeAbove (SetTable.grown (st.1.size+1))-1)) (st.2.put slot).1.led (st.2.put slot).1.plain ((SetTable.insertAt st.1 (st.2.put slot).2 (AW x,x)).map (·.1)) with
  |none=>none
  |some (t',order) =>
   if(order.filterMap ((SetTable.insertAt st.1 (st.2.put slot).2 (AW x,x))[·]?)).size=(SetTable.insertAt st.1 (st.2.put slot).2 (AW x,x)).size then
    some (order.filterMap ((SetTable.insertAt st.1 (st.2.put slot).2 (AW x,x))[·]?),t') else none
def add_eq(st:ES×SetTable)(x:Tr):Kz st x=addQ st x:=by
 unfold Kz addQ SetTable.relaid;simp only[V3]
 all_goals rfl
end TH
namespace TH
open PySem
structure LS where
 es:List (Int×Tr)
 pl:List Nat
 mask:Nat
 moves:Nat
 deriving DecidableEq
def LS.st(led:Bool)(q:LS):ES×SetTable:=(q.es.toArray,{ mask:=q.mask,place:=q.pl.toArray,dummies:=#[],finger:=0,led,moves:=q.moves,plain:=true})
def JM(l:List Nat)(j:Nat):Nat→Nat→Nat→Nat
 |0,lo,_=>lo
 |fuel+1,lo,hi=>if lo<hi then(if l.getD ((lo+hi) / 2) j<j then JM l j fuel ((lo+hi) / 2+1) hi else JM l j fuel lo ((lo+hi) / 2)) else lo
def Jr(l:List Nat)(j:Nat):∀fuel lo hi,SetTable.below.go l.toArray j fuel lo hi=JM l j fuel lo hi
 |0,_,_=>rfl
 |fuel+1,lo,hi=>by
  unfold SetTable.below.go JM;have e:l.toArray.getD ((lo+hi) / 2) j=l.getD ((lo+hi) / 2) j:=by rw[Array.getD_eq_getD_getElem?,List.getElem?_toArray,List.getD_eq_getElem?_getD]
  dsimp only;rw[e,Jr l j fuel,Jr l j fuel]
def EJ(l:List Nat)(j:Nat):Nat:=JM l j l.length 0 l.length
def NM(l:List Nat)(j:Nat):SetTable.below l.toArray j=EJ l j:=by
 unfold SetTable.below EJ;rw[List.size_toArray];exact Jr l j _ _ _
def Mr(pl:List Nat)(j:Nat):Option Nat:=if pl[EJ pl j]? = some j then some (EJ pl j) else none
def ins{α:Type}:List α→Nat→α→List α
 |l,0,x=>x::l
 |[],_+1,x=>[x]
 |a::l,p+1,x=>a::ins l p x
def Rt{α:Type}(x:α):∀(l:List α) (p:Nat),ins l p x=l.take p++x::l.drop p
 |l,0=>by cases l<;>rfl
 |[],p+1=>rfl
 |a::l,p+1=>by rw[ins,Rt x l p];rfl
def KN{α:Type}(l:List α)(p:Nat)(x:α):SetTable.insertAt l.toArray p x=(ins l p x).toArray:=by
 rw[Rt];apply Array.toList_inj.mp;unfold SetTable.insertAt;simp[List.extract_eq_drop_take];exact List.take_of_length_le (by simp)
def UW(mask:Nat)(p:SetTable.Probe):SetTable.Probe :=
 if p.more > 0 then {p with j:=p.j+1,more:=p.more-1} else
 {p with j:=(SetTable.leap mask p.i p.perturb).1,more:=SetTable.runEnd mask (SetTable.leap mask p.i p.perturb).1-(SetTable.leap mask p.i p.perturb).1,i:=(SetTable.leap mask p.i p.perturb).1,perturb:=(SetTable.leap mask p.i p.perturb).2}
def Hx(q:LS)(h:Int)(x:Tr):Nat→SetTable.Probe→Option (Option Nat)
 |0,_=>none
 |fuel+1,p=>match Mr q.pl p.j with
  |none=>some (some p.j)
  |some i=>match q.es[i]? with
   |none=>none
   |some (h',y)=>if h'=h then(if y=x then some none else none) else Hx q h x fuel (UW q.mask p)
def ZR(et:ES)(x:Tr):Option SetTable.Met→Option (Option Nat)
 |some (.empty j none)=>some (some j)
 |some (.candidate _ i _)=>match et[i]? with
  |some (_,y)=>if y=x then some none else none
  |none=>none
 |_=>none
def slot_of(led:Bool)(q:LS)(j:Nat):(q.st led).2.slot j=match Mr q.pl j with|some i=>.live i|none=>.empty:=by
 unfold SetTable.slot Mr LS.st;dsimp only;rw[NM,List.getElem?_toArray];have hd:SetTable.has #[] j=false:=by
  unfold SetTable.has;simp
 by_cases h:q.pl[EJ q.pl j]? = some j
 ·rw[if_pos (by rw[h];exact beq_self_eq_true _),if_pos h]
 ·rw[if_neg (by simpa using h),if_neg h,if_neg (by rw[hd];decide)]
def Rg{mask:Nat}{p:SetTable.Probe}(h:p.dummy=none):(UW mask p).dummy=none:=by
 unfold UW;split<;>exact h
def OH(led:Bool)(q:LS)(h:Int)(x:Tr){r:Option Nat}:∀(fuel:Nat) (p:SetTable.Probe),p.dummy=none→Hx q h x fuel p=some r→ZR (q.st led).1 x (SetTable.probe.go (q.st led).2 (Hb (q.st led).1) h fuel p)=some r
 |0,_,_,e=>by cases e
 |fuel+1,p,hd,e=>by
  unfold SetTable.probe.go;unfold Hx at e;rw[slot_of];cases hs:Mr q.pl p.j with
  |none =>
   rw[hs]at e;dsimp only at e ⊢;rw[hd];exact e
  |some i =>
   rw[hs]at e;dsimp only at e ⊢;have ge:(q.st led).1[i]? = q.es[i]? := by show q.es.toArray[i]? = _;rw[List.getElem?_toArray]
   split at e
   ·cases e
   ·rename_i h' y hi;have hh:Hb (q.st led).1 i=h':=by unfold Hb;rw[ge,hi];rfl
    rw[hh];by_cases c:h'=h
    ·rw[if_pos c]at e;rw[if_pos (by rw[c];exact beq_self_eq_true _)];show(match (q.st led).1[i]? with|some (_,y)=>if y=x then some none else none|none=>none)=_;rw[ge,hi];exact e
    ·rw[if_neg c]at e;rw[if_neg (by simpa using c)];exact OH led q h x fuel _ (Rg hd) e
def YK(q:LS):Bool:=decide (q.pl.length=q.es.length)&&decide (q.pl.length≤q.mask)&&decide (q.es.length≤1000)
def La(mask:Nat)(h:Int):SetTable.Probe:={ j:=SetTable.bits h % (mask+1),more:=SetTable.runEnd mask (SetTable.bits h % (mask+1))-SetTable.bits h % (mask+1),i:=SetTable.bits h % (mask+1),perturb:=SetTable.bits h,dummy:=none}
def Uh(es':List (Int×Tr))(mask moves mask':Nat):Option LS:=match K0 mask' [] 0 (es'.map (·.1)) with
 |none=>none
 |some tk=>if((Jt mask' tk).filterMap fun jk=>es'[jk.2]?).length=es'.length then some ⟨(Jt mask' tk).filterMap fun jk=>es'[jk.2]?,(Jt mask' tk).map (·.1),mask',if mask==7&&mask'==7 then moves else moves+1⟩ else none
def T4(q:LS)(x:Tr):Option LS :=
 if(YK q&&decide (q.mask % 2≠0))=false then none else
 match Hx q (AW x) x (10*SetTable.turns q.mask) (La q.mask (AW x)) with
 |none=>none
 |some none=>some q
 |some (some j) =>
  if(q.pl.length+1)*5<q.mask*3 then some ⟨ins q.es (EJ q.pl j) (AW x,x),ins q.pl (EJ q.pl j) j,q.mask,q.moves⟩ else
  if(decide (q.pl.length+1≤q.mask)&&decide (SetTable.sizeAbove (SetTable.grown (q.es.length+1))≤100000))=false then none else
  Uh (ins q.es (EJ q.pl j) (AW x,x)) q.mask q.moves (SetTable.sizeAbove (SetTable.grown (q.es.length+1))-1)
def Ho{α:Type}(x:α):∀(l:List α) (p:Nat),(ins l p x).length=l.length+1
 |l,0=>by cases l<;>rfl
 |[],p+1=>rfl
 |a::l,p+1=>by rw[ins,List.length_cons,Ho x l p];rfl
def W9(led:Bool)(q:LS)(j:Nat):(q.st led).2.put j=((LS.st led ⟨q.es,ins q.pl (EJ q.pl j) j,q.mask,q.moves⟩).2,EJ q.pl j):=by
 unfold SetTable.put LS.st;dsimp only;have hd:SetTable.has #[] j=false:=by
  unfold SetTable.has;simp
 rw[NM,KN,hd]
 rfl
def Xo(led:Bool){q q':LS}{x:Tr}(e:T4 q x=some q'):Kz (q.st led) x=some (q'.st led):=by
 unfold T4 at e;by_cases h0:(YK q&&decide (q.mask % 2≠0))=false
 ·rw[if_pos h0]at e;cases e
 rw[if_neg h0]at e;simp only[Bool.not_eq_false,Bool.and_eq_true,decide_eq_true_eq,YK]at h0;obtain⟨⟨⟨o1,o2⟩,o3⟩,o4⟩:=h0;have fit:∀pl:List Nat,(LS.st led ⟨q.es,pl,q.mask,q.moves⟩).2.fill=pl.length:=fun pl=>by unfold SetTable.fill LS.st;simp
 rw[add_eq];unfold addQ;have g0:¬((q.st led).2.fits (q.st led).1.size&&decide ((q.st led).1.size≤1000)&&(q.st led).2.plain)=false:=by
  have f1:(q.st led).1.size=q.es.length:=bD;have f2:(q.st led).2.place.size=q.pl.length:=bD;have f3:(q.st led).2.fill=q.pl.length:=fit q.pl;unfold SetTable.fits;rw[f1,f2,f3];have f4:(q.st led).2.mask=q.mask:=rfl;have f5:(q.st led).2.plain=true:=rfl;rw[f4,f5];simp[o1,o3];omega
 rw[if_neg g0];have hs:∀r,Hx q (AW x) x (10*SetTable.turns q.mask) (La q.mask (AW x))=some r→Kn (q.st led).1 (q.st led).2 x (AW x)=some r:=fun r hr=>by
  unfold Kn;have:(q.st led).2.gaveWay=false:=by
   unfold SetTable.gaveWay;show(q.mask % 2==0)=false
   simpa using o4
  rw[this,if_neg (by decide)];exact OH led q (AW x) x _ (La q.mask (AW x)) rfl hr
 cases hp:Hx q (AW x) x (10*SetTable.turns q.mask) (La q.mask (AW x)) with
 |none=>rw[hp]at e;cases e
 |some r =>
  rw[hp]at e;rw[hs r hp];cases r with
  |none=>cases e;rfl
  |some j =>
   dsimp only at e ⊢;rw[W9];dsimp only;have es1:SetTable.insertAt (q.st led).1 (EJ q.pl j) (AW x,x)=(ins q.es (EJ q.pl j) (AW x,x)).toArray:=KN _ _ _;have tf:(LS.st led ⟨q.es,ins q.pl (EJ q.pl j) j,q.mask,q.moves⟩).2.tooFull=decide ((q.pl.length+1)*5 ≥ q.mask*3):=by
    unfold SetTable.tooFull;rw[fit,Ho]
    rfl
   rw[es1,tf];by_cases c:(q.pl.length+1)*5<q.mask*3
   ·rw[if_pos c]at e;cases e;rw[if_pos (by simp;omega)]
    rfl
   rw[if_neg c]at e;rw[if_neg (by simp;omega)];have sz:(q.st led).1.size=q.es.length:=bD;rw[sz];split at e
   ·cases e
   rename_i c2;simp only[Bool.not_eq_false,Bool.and_eq_true,decide_eq_true_eq]at c2;have g1:¬((LS.st led ⟨q.es,ins q.pl (EJ q.pl j) j,q.mask,q.moves⟩).2.fits (ins q.es (EJ q.pl j) (AW x,x)).toArray.size&&decide (SetTable.sizeAbove (SetTable.grown (q.es.length+1))≤100000))=false:=by
    unfold SetTable.fits;rw[fit,Ho];have f2:(LS.st led ⟨q.es,ins q.pl (EJ q.pl j) j,q.mask,q.moves⟩).2.place.size=q.pl.length+1:=(bD).trans (Ho _ _ _);rw[f2,List.size_toArray,Ho];have f4:(LS.st led ⟨q.es,ins q.pl (EJ q.pl j) j,q.mask,q.moves⟩).2.mask=q.mask:=rfl;rw[f4];simp[o1,c2.1,c2.2];omega
   rw[if_neg g1];generalize hm:SetTable.sizeAbove (SetTable.grown (q.es.length+1))-1=mask' at e ⊢;generalize he:ins q.es (EJ q.pl j) (AW x,x)=es' at e ⊢;unfold Uh at e;unfold Ms;have hm2:(es'.toArray.map (·.1)).toList=es'.map (·.1):=by simp
   rw[hm2];split at e
   ·cases e
   ·rename_i tk htk;dsimp only;have ho:∀l:List (Nat×Nat),((l.map (·.2)).toArray.filterMap (es'.toArray[·]?))=(l.filterMap fun jk=>es'[jk.2]?).toArray:=fun l=>by
     apply Array.toList_inj.mp;rw[Array.toList_filterMap];simp only[List.filterMap_map];exact Kl _ fun jk _=>by simp
    rw[ho];split at e
    ·rename_i hl;cases e;rw[if_pos (by simpa using hl)]
     rfl
    ·cases e
def Qs(q:LS):List Tr→Option LS
 |[]=>some q
 |x::r=>match T4 q x with
  |none=>none
  |some q'=>Qs q' r
def P6(led:Bool):∀ {l:List Tr} {q q':LS},Qs q l=some q'→GY (q.st led) l=some (q'.st led)
 |[],q,q',e=>by cases e;rfl
 |x::r,q,q',e=>by
  unfold Qs at e;split at e
  ·cases e
  ·rename_i q2 e2;rw[GY,Xo led e2];exact P6 led e
def Wo(pl:List Nat):Nat→Nat
 |0=>0
 |i+1=>pl.getD i 0+1
def Qe(q:LS):Bool:=(List.range (q.es.length+1)).all fun i=>decide (EJ q.pl (Wo q.pl i)=i)
def Lb(led:Bool){q:LS}(h:Qe q=true):EW (q.st led).2 (q.st led).1.size=true:=by
 unfold Qe at h;unfold EW;have sz:(q.st led).1.size=q.es.length:=bD;rw[sz];rw[List.all_eq_true]at h ⊢;intro i hi;have:=h i hi;have e:SetTable.below (q.st led).2.place (Dz (q.st led).2 i)=EJ q.pl (Wo q.pl i):=by
  have e1:Dz (q.st led).2 i=Wo q.pl i:=by
   cases i with
   |zero=>rfl
   |succ i =>
    show q.pl.toArray.getD i 0+1=q.pl.getD i 0+1;rw[Array.getD_eq_getD_getElem?,List.getElem?_toArray,List.getD_eq_getElem?_getD]
  rw[e1];exact NM _ _
 rw[e];exact this
def T7(l:List Tr):Bool:=match Qs ⟨[],[],7,0⟩ l with
 |some q=>decide (q.pl.length=q.es.length)&&decide (q.pl.length≤q.mask)&&Qe q&&decide (64≤q.es.length)&&decide (q.es.length<128)
 |none=>false
def V6{l:List Tr}(h:T7 l=true)(led:Bool):∃st,GY (Gg led) l=some st∧st.2.fits st.1.size=true∧st.2.plain=true∧st.2.led=led∧EW st.2 st.1.size=true∧64≤st.1.size∧st.1.size<128:=by
 unfold T7 at h;split at h
 ·rename_i q e;simp only[Bool.and_eq_true,decide_eq_true_eq]at h;obtain⟨⟨⟨⟨h1,h2⟩,h3⟩,h4⟩,h5⟩:=h;have sz:(q.st led).1.size=q.es.length:=bD;refine⟨q.st led,P6 led e,?_,rfl,rfl,Lb led h3,by omega,by omega⟩;unfold SetTable.fits SetTable.fill;have f2:(q.st led).2.place.size=q.pl.length:=bD;have f3:(q.st led).2.dummies.size=0:=rfl;have f4:(q.st led).2.mask=q.mask:=rfl;rw[sz,f2,f3,f4];simp[h1];omega
 ·cases h
end TH
namespace L2
open PySem PySem.Spec PyProof.Rows
section
variable{X:Cx}
structure XF(w:World)(st:TH.ES×SetTable):Prop where
 fit:st.2.fits st.1.size=true
 plain:st.2.plain=true
 led:st.2.led=!w.params.followText "set-order"
 walk:TH.EW st.2 st.1.size=true
 lo:64≤st.1.size
 hi:st.1.size<128
def Y9(w:World):List V→Hp→VK→Prop:=fun xs H Q=>∃S st,xs=[.ref S]∧QM H S st∧((Qd w st∧∀(l:AD) (zs:List V),H l=none→zs.length<64→Ts H (Tr.of (Tr.BV (TH.Jo st)).reverse) zs→Q (.ref l) (upd H l (.lst zs))) ∨
 (XF w st∧∀(l:AD) (zs:List V),H l=none→Q (.ref l) (upd H l (.lst zs))))
def QH(hc:X.calm=true)(hu:X.A.units+64<cLine):CN X (.builtin "sorted") (Y9 X.w):=by
 intro pins s σ H xs us Q I r h;obtain⟨S,st,rfl,hS,⟨ok,q⟩|⟨ok,q⟩⟩:=h
 ·exact K6 hc hu _ _ _ _ _ _ _ I r ⟨S,st,rfl,hS,ok,q⟩
 obtain⟨u,rfl,r1⟩:=r.one;cases r1;obtain⟨ev,ep,h1,h2⟩:=hS;obtain⟨⟨o,g1,g2,g3⟩,_,_⟩:=(show Bq X.prog X.w H s.heap S (M6 S ev ep st.2) from I.Ag S _ h1);have R:=NZ I h2;have hz:ev.size=st.1.size:=TH.B0.size R;have W:TH.CU X.w o ev ep st.2:=⟨g2,g3,by rw[hz];exact ok.fit,ok.plain,ok.led,by rw[hz];exact ok.walk⟩;refine TH.Ob (I.ok.hd hc) W g1 R ok.lo ok.hi (by omega) fun h' D tk e1 us bs hD k1 gD hp hl=>?_;obtain⟨zs,r1,r2⟩:=TC hp;have hz:zs.length<128:=by rw[r1.length];exact hl
 exact⟨.ref D,upd H D (.lst zs),I.laid (t':=tk) k1 hD ⟨bF (aK hz (by rw[sizeLine_eq];decide)),us,e1,r1,gD⟩,rfl,q D zs (I.Ag.fresh hD)⟩
end
def UN(t:Tr):Bool:=decide (t.deep≤8)&&TH.T7 t.bs
def NP(t:Tr):Option L:=if t.bs.length<200 then(Dx t).map .d else if UN t then some .no else(Dx t).map .d
def RK{t:Tr}{l:L}(h:NP t=some l):(Dx t).map L.d=some l∨(UN t=true∧l=.no):=by
 unfold NP at h;split at h
 ·exact .inl h
 ·split at h
  ·rename_i hb;cases h;exact .inr ⟨hb,rfl⟩
  ·exact .inl h
def OT(i:Nat)(f:Dv→Option PD):DF:=fun δ=>(f δ).bind fun y=>match y with
 |.list ds=>(Gz ds).bind fun t=>(NP t).map fun l=>.nx (δ.set i l)
 |_=>none
section
variable{X:Cx}{e:Expr}{f:Dv→Option PD}{pos p p2 pos2 pos3:Pos}
def Q8{i:Nat}{x:Str}{pos':Pos}(hc:X.calm=true)(hu:X.A.units+64<cLine)(hg:Gl X "sorted")(hm:X.mg "sorted" = none)(hg2:Gl X "set")(hm2:X.mg "set" = none)(ha:DE X e f)(hN:X.N.Nodup)(hi:X.N[i]? = some x)(hx:Loc X.env.scope x)
 (hs1:starEach [e] X.env=(false,eval e X.env)::starEach [] X.env:=by rfl)(hs2:starEach [.Call (.Name "set" p2) [e] [] pos2] X.env=(false,eval (.Call (.Name "set" p2) [e] [] pos2) X.env)::starEach [] X.env:=by rfl)
 (hq1:(backTo pos2 (starEach [] X.env)).any (·.1)=false:=by rfl)(hq2:(backTo pos (starEach [] X.env)).any (·.1)=false:=by rfl)
 (hs:swapsWith (.Call (.Name "sorted" p) [.Call (.Name "set" p2) [e] [] pos2] [] pos) (some (.Name x pos')) pos3.line X.env=pure false:=by rfl)(hf:X.fn x=true∨X.env.scope.names.lookup x=some .local:=by first|exact .inl rfl|exact .inr rfl|assumption) :
  DS X (.Assign [.Name x pos'] (.Call (.Name "sorted" p) [.Call (.Name "set" p2) [e] [] pos2] [] pos) pos3) (OT i f):=by
 obtain⟨ta,pa,ka⟩:=ha;refine⟨_,DZ hN hi hx (Bv (QH hc hu) hg hm PyProof.Rows.boot_sorted (Ai (Jp (MS hc hu) hg2 hm2 PyProof.Rows.boot_set (Ai pa BJ hs1) (by decide) (by decide) hs1 hq1) BJ hs2) (by decide) (by decide) hs2 hq2) hs hf,fun δ r hz G0 H0 G H σ D R0 q=>?_⟩;obtain⟨y,h1,h2⟩:=aA.mp hz;refine ka δ y h1 G0 H0 G H σ [] _ R0 fun u G1 H1 R1=>?_;split at h2
 ·rename_i ds;obtain⟨t,h3,h4⟩:=aA.mp h2;obtain⟨l,h5,rfl⟩:=aE.mp h4;have hds:=JI h3;have du:=R1.BA (_,u) (.head _);obtain⟨bb,a,ys,rfl,n1,n2⟩:=Hn du (show Es (.list ds)=some ds from rfl);have n1':H1 a=some (.lst ys):=by
   have:=R1.ins _ _ n1;cases bb
   ·simpa using this
   ·exact absurd n1 (by
     have du':=du;intro n1;rw[Du]at du';obtain⟨a',ys',e1,e2,_⟩:=du';cases e1;rw[e2]at n1;cases n1)
  rw[hds]at n2;have ht:=(JW n2).same R1.ins;rcases RK h5 with h5|⟨hb,rfl⟩
  ·obtain⟨z,h6,rfl⟩:=aE.mp h5;unfold Dx at h6;split at h6
   ·rename_i hh;cases h6;have both:∀led,Js led t.bs (OC t.bs)=true:=fun led=>by cases led;exact hh.2.2;exact hh.2.1
    obtain⟨st,r1,r2,r3,r4,r5,r6,r7⟩:=NS (both (!X.w.params.followText "set-order"));refine⟨a,ys,t,st,rfl,A2.of n1',ht,hh.1,r1,fun S H' e1 hS=>⟨S,st,rfl,hS,.inl ⟨⟨r3,r4,r5,r6,r7⟩,fun l zs hl hz ht'=>?_⟩⟩⟩;rw[r2]at ht';have R2:=(R1.drop.on e1).Bu;exact q _ _ _ (R2.Ji (JV ht') hl).Dx
   ·cases h6
  ·simp only[UN,Bool.and_eq_true,decide_eq_true_eq]at hb;obtain⟨st,r1,r3,r4,r5,r6,r7,r8⟩:=TH.V6 hb.2 (!X.w.params.followText "set-order");exact⟨a,ys,t,st,rfl,A2.of n1',ht,hb.1,r1,fun S H' e1 hS=>⟨S,st,rfl,hS,.inr ⟨⟨r3,r4,r5,r6,r7,r8⟩,fun l zs hl=>q _ _ _ (((R1.drop.on e1).newObj hl).ZN i (some (.ref l)))⟩⟩⟩
 ·cases h2
end
end L2
set_option maxHeartbeats 4000000
namespace Opn
open PySem PySem.W PyProof.Rows PySem.Calls
noncomputable def q0:Pos:=⟨0,0,0,0⟩
noncomputable def a8:Obj:={ cls:=.type "tuple",data:=.seq #[]}
noncomputable def bJ:Obj:={ cls:=.none,data:=.fields #[]}
noncomputable def bH:Obj:={ cls:=.type "code",data:=.fields #[.str (Str.ofString "<module>") 182,.str (Str.ofString "<module>") 183,.str (Str.ofString "/claim/cut.py") 184,.int 1 0,.int 0 0,.int 0 0,.int 0 0,.int 0 0,.ref 11,.bool false,.int 181 0,.ref 12,.none,.none,.none,.none,.int 185 0,.int 1 0,.str (Str.ofString "/claim/cut.py") 186]}
noncomputable def a6:Obj:={ cls:=.type "frame",slots:=#[some (.ref 13),some (.ref 3),some (.ref 3),none,some (.str (Str.ofString "__main__") 164),none,some (.ref 0)]}
noncomputable def Z4(P:Params):List Obj:=(boot_heap P).objs.toList++[a8,bJ,bH,a6]
noncomputable def nN(P:Params)(o:Params→Obj)(l r:BT):BT:=.node (o P) l r
noncomputable def lN(P:Params)(o:Params→Obj):BT:=.node (o P) .nil .nil
noncomputable def Z6(P:Params):BT :=
 nN P boot_o_0 (nN P boot_o_1 (nN P boot_o_3 (lN P boot_o_7) (.node a8 .nil .nil)) (nN P boot_o_5 (lN P boot_o_9) (.node bH .nil .nil)))
  (nN P boot_o_2 (nN P boot_o_4 (lN P boot_o_8) (.node bJ .nil .nil)) (nN P boot_o_6 (lN P boot_o_10) (.node a6 .nil .nil)))
noncomputable def Ut:Life:=Life.mk [] [] [] 0 [] [] false #[] [] 0 false false false 0 [2000,10,10] false 0 true [] [] 0 false
noncomputable def sA(w:World)(os:OsState):SD:=⟨⟨⟨Z4 w.params⟩,Ut⟩,#[],boot_drawn,187,os⟩
noncomputable def sB(w:World)(os:OsState):SharedT:=⟨Z6 w.params,15,Ut,#[],boot_drawn,187,os⟩
noncomputable def Kq(p:Program):Env:={ scope:=p.main.scope,locals:=mainNs,globals:=mainNs,cells:=[],code:=.ref 13,frame:=some 14}
noncomputable def cB(p:Program):Code:=.body (behindTheImports p) (Kq p)
noncomputable abbrev Fi:Option VL:=some (.ref 6)
noncomputable abbrev bB:List Frame:=[topFrame q0]
noncomputable def Q6(p:Program)(M:Nat)(w:World)(os:OsState):Option (Flow×SharedT×Code×Pos) :=
 PySem.W.Fast.tw10110043849684766642 PySem.W.Fast.tw14364793385576792824 p w 11 Fi 1 M (sB w os) (piecesOf (behindTheImports p) (Kq p) (cB p) q0 bB)
noncomputable def Qk(p:Program)(M:Nat)(w:World)(os:OsState):SharedT:=match Q6 p M w os with|some (_,s,_)=>s|none=>sB w os
def VY{p:Program}{M:Nat}{w:World}{os:OsState}{r:Option (Flow×SharedT×Code×Pos)}(h:Q6 p M w os=r) :
  segRunT treeTable p w 11 Fi 1 M (sB w os) (piecesOf (behindTheImports p) (Kq p) (cB p) q0 bB)=r:=by
 have e:segRunT treeTable=PySem.W.Fast.tw10110043849684766642 PySem.W.Fast.tw14364793385576792824:=congr PySem.W.Fast.te10110043849684766642 PySem.W.Fast.te14364793385576792824;rw[e];exact h
def W2{p:Program}{M M0:Nat}{posE:Pos}{w:World}{os:OsState}
 (pre:topGo treeTable p w 11 Fi 12 ⟨boot_heap w.params,#[],boot_drawn,boot_toks,os⟩ (topStub p)=some (sA w os,⟨denote treeTable (cB p),cB p,q0,bB⟩))
 (blk:segRun treeTable p w 11 Fi 1 1 (sA w os) (blockOf (behindTheImports p) (Kq p) (cB p) q0 bB)=some (.next,(sB w os).abs,cB p,q0))
 (seg:Q6 p M w os=some (.next,Qk p M w os,cB p,posE))
 (fin:∀s,topRun treeTable p w 11 Fi 2 s (restOf [] (Kq p) (cB p) posE bB)=some s)(hM:M0=12+(1+(M+2))) :
  topRun treeTable p w 11 Fi M0 ⟨boot_heap w.params,#[],boot_drawn,boot_toks,os⟩ (topStub p)=some (Qk p M w os).abs:=by
 subst hM;refine go_top pre (piece_block blk ?_);have h:=piece_app (rest:=[]) (segRun_of (VY seg)) (fin _);rw[List.append_nil]at h;exact h
def WD{p q:Program}{loose:List Str}{Xt:SD→Bool}{α:Type}{Yf:SD→α}{Ya:World→α}{N M:Nat}{S:World→OsState→SD}
 (open_:∀w:World,(fencedOpening treeTable p w N).map (fun s=>(s.heap,s.gens,s.drawn,s.toks))=some (boot_heap w.params,#[],boot_drawn,boot_toks))
 (size:∀w:World,((boot_heap w.params).isNs mainGlobals&&(#[]:Array GenState).size==0,(boot_heap w.params).objs.size,(boot_heap w.params).nsMap mainGlobals "__annotations__")=(true,11,Fi))
 (run:∀w os,topRun treeTable p w 11 Fi M ⟨boot_heap w.params,#[],boot_drawn,boot_toks,os⟩ (topStub p)=some (S w os))(le:Nat.ble M N=true)
 (ok:∀w os,(staticsOk (importedModules p.main.body) (boot_heap w.params) (S w os).heap&&namesBound p (S w os).heap&&gensDone (S w os)&&laidKept (boot_heap w.params) (S w os).heap)=true)
 (seen:∀w os,openSeen q loose (importedModules p.main.body) Xt true (S w os)=openGood q loose)
 (hY:∀w os,Yf (S w os)=Ya w):LeftO p q loose Xt Yf Ya N:=fun w=>by
 obtain⟨⟨h,gs,d,k,os⟩,e,e'⟩:=aE.mp (open_ w);obtain⟨rfl,rfl,rfl,rfl⟩:h=boot_heap w.params∧gs=#[]∧d=boot_drawn∧k=boot_toks:=by simpa using e'
 obtain⟨z1,z2,z3⟩:_∧_∧_:=by simpa only[Prod.mk.injEq]using size w
 have l1:=ok w os;have r:=topRun_mono (N-M) _ _ _ _ (run w os);rw[show M+(N-M)=N by have:=Nat.le_of_ble_eq_true le;omega]at r;have t:topFrom treeTable p w N ⟨boot_heap w.params,#[],boot_drawn,boot_toks,os⟩=some (S w os):=by
  unfold topFrom;dsimp only;rw[z1,z2,z3,r];show(match staticsOk (importedModules p.main.body) (boot_heap w.params) (S w os).heap&&namesBound p (S w os).heap&&gensDone (S w os)&&laidKept (boot_heap w.params) (S w os).heap with|true=>_|false=>_)=_;rw[l1]
 unfold openEnds;rw[e];show(topFrom treeTable p w N _).map _=_;rw[t];exact ay some (Prod.ext (seen w os) (hY w os))
def ZM(w:World):((boot_heap w.params).isNs mainGlobals&&(#[]:Array GenState).size==0,(boot_heap w.params).objs.size,(boot_heap w.params).nsMap mainGlobals "__annotations__")=(true,11,Fi):=by kernel_rfl
end Opn
namespace Q49
open PySem L2
def top(i:Nat):Stmt:=PySem.Challenge.pw_stepgrove_k49_orders_of_weighings.main.body.getD i (.Pass ⟨0,0,0,0⟩)
abbrev FZ:Stmt:=top 5
abbrev Et:Stmt:=top 6
abbrev Ia:Stmt:=top 7
abbrev DQ:Stmt:=top 8
abbrev IW:Stmt:=top 11
abbrev Fz:Stmt:=top 12
abbrev DR:Stmt:=top 13
abbrev Di:Stmt:=top 14
abbrev EF:Stmt:=top 15
abbrev De:Stmt:=top 16
abbrev Er:Stmt:=top 19
abbrev EH:Stmt:=top 20
abbrev Cz:Stmt:=top 21
abbrev E5:Stmt:=top 22
abbrev EI:Stmt:=top 24
abbrev E7:Stmt:=top 25
abbrev HK:Stmt:=top 27
abbrev FN:Stmt:=top 28
abbrev IP:Stmt:=top 29
abbrev HL:Stmt:=top 32
abbrev Ff:Stmt:=top 33
abbrev Gi:Stmt:=top 34
abbrev EY:Stmt:=top 35
abbrev E6:Stmt:=top 36
abbrev VC:Stmt:=top 37
def Ur{n:String}:Lk (.ty n)≠.none:=fun z=>nomatch z
def XS:Sp:=fun vs H Q _=>∃a b,vs=[.int a,.int b]∧Q (.int (FM.gi a b)) H
def XZ:Sp:=fun vs H Q _=>∃t b m,vs=[.int t,.int b]∧b≠0∧m≤9000∧b.natAbs<2^m∧∀l H',AI H H'→H' l=some (.tup (cF (Rat.divInt t b)))→Q (.ref l) H'
section
variable{P:Program}{w:World}{K:Fg}{mg:Str→Option VL}{base:Heap}{f g:AD}{fd gd:FuncData}
def JE:Aj ["one", "other", "greater", "lesser", "rest"] ["one", "other"] (AL DQ):=C6
def bL(σ:St):Nat:=match σ[3]? with|some (some (V.int l))=>l.natAbs|_=>0
def JD(F:Fn K mg "greatest_divisor" DQ ["one", "other"] f fd)(G9:mg "abs" = none):AM P w K mg base A6 1 f fd ["one", "other"] XS:=by
 have sc:=JE;refine F.F.ok (k:=0) sc (fun vs H Q E h=>?_) (fun cdv A outer s H vs Q E hr h=>?_)
 ·obtain⟨a,b,rfl,_⟩:=h
  rfl
 obtain⟨a,b,rfl,q⟩:=h;refine⟨_,(Bb (DZ (i:=2) sc.nd rfl (Or.inl rfl) (Bv Iq rfl G9 PyProof.Rows.boot_abs (Ai (pv 0) BJ)))
 (Bb (DZ (i:=3) sc.nd rfl (Or.inl rfl) (Bv Iq rfl G9 PyProof.Rows.boot_abs (Ai (pv 1) BJ)))
 (Bb (OU aR (F5 U1 (pv 3) Cr (Bd _))
  (Bb (DZ (i:=4) sc.nd rfl (Or.inl rfl) (KA MB (pv 2) (pv 3)))
  (Bb (DZ (i:=2) sc.nd rfl (Or.inl rfl) (pv 3))
  (Bt (DZ (i:=3) sc.nd rfl (Or.inl rfl) (pv 4))))))
 (Bt (Cq (pv 2)))))),?_⟩
 refine⟨_,rfl,_,rfl,_,rfl,_,rfl,?_⟩;refine N6 (fun σ H'=>∃g l r,σ=[some (.int a),some (.int b),some (.int g),some (.int l),r]∧H=H'∧Int.gcd g l=Int.gcd a b∧0≤g∧0≤l) (fun σ _=>bL σ) ?_ ?_ ?_
 ·exact⟨_,_,_,rfl,rfl,FM.Pw a b,FM.abs_nonneg a,FM.abs_nonneg b⟩
 ·rintro σ H' ⟨g,l,r,rfl,rfl,hg,h0,h1⟩;refine⟨_,rfl,rfl,_,rfl,IM (fun c=>?_) (fun c=>?_)⟩
  ·have hl:l≠0:=fun z=>by subst z;simp at c
   refine⟨_,rfl,_,rfl,_,_,rfl,rfl,hl,_,rfl,_,rfl,⟨_,_,_,rfl,rfl,?_,h1,FM.fmod_nonneg hl h1⟩,?_⟩
   ·rw[FM.Nr];exact hg
   ·exact FM.MR g l hl
  ·have hl:l=0:=by simpa using c
   subst hl;refine⟨_,rfl,?_⟩;rw[FM.Rr hg h0];exact q
 ·exact fun σ H Q Q' hq ⟨v,e,s,k,e2,q⟩=>⟨v,e,s,k,e2,hq _ _ q⟩
end
def DJ:PD→Bool
 |.tuple [.int a,.int b]=>decide (1≤b)&&(FM.gi a b==1)
 |_=>false
def Kh{ds:List PD}(h:ds.length≠2∨∃d0 d1,ds=[d0,d1]∧((GQ d0 && !EL d0)=false∨(GQ d1 && !EL d1)=false)):DJ (.tuple ds)=false:=by
 rcases h with h|⟨d0,d1,rfl,h⟩
 ·match ds,h with
  |[],_=>rfl
  |[a],_=>cases a<;>rfl
  |[_,_],h=>exact absurd rfl h
  |a::b::_::_,_=>cases a<;>first|rfl|(cases b<;>rfl)
 ·cases d0<;>first|rfl|(cases d1<;>first|rfl|(exfalso;rcases h with h|h<;>exact absurd h (by simp[GQ,EL])))
def Sy:Sp:=fun vs H Q _=>∃l d v,vs=[v]∧Dt l H d v∧Q (.bl (GQ d && !EL d)) H
def Se:Sp:=fun vs H Q _=>∃l d v,vs=[v]∧Dt l H d v∧Q (.bl (DJ d)) H
def Ma{d:PD}(h:(GQ d && !EL d)=true):∃i,d=.int i:=by
 cases d<;>first|exact⟨_,rfl⟩|(exact absurd h (by simp[GQ,EL]))|(rename_i b;cases b<;>exact absurd h (by decide))
section
variable{P:Program}{w:World}{K:Fg}{mg:Str→Option VL}{base:Heap}{f g g1 g2 g3 g4 g5:AD}{fd gd gd1 gd2 gd3 gd4 gd5:FuncData}
def Oe:Aj ["thing"] ["thing"] (AL Ia):=C6
def Oj(F:Fn K mg "is_whole" Ia ["thing"] f fd)(A3:mg "isinstance" = none)(QQ:mg "int" = none)(HQ:mg "bool" = none):AM P w K mg base A6 1 f fd ["thing"] Sy:=by
 have sc:=Oe;refine F.F.ok (k:=0) sc (fun vs H Q E h=>?_) (fun cdv A outer s H vs Q E hr h=>?_)
 ·obtain⟨l,d,v,rfl,_⟩:=h
  rfl
 obtain⟨l,d,v,rfl,hd,q⟩:=h;refine⟨_,(Bt (Cq (N3 (Bv GS rfl A3 ao (Ai (pv 0) (Ai (Hg (v:=.ty "int") rfl QQ PyProof.Rows.boot_int rfl) BJ))) (Nf (Yj (Bv GS rfl A3 ao (Ai (pv 0) (Ai (Hg (v:=.ty "bool") rfl HQ PyProof.Rows.boot_bool rfl) BJ)))))))),?_⟩;refine⟨_,rfl,_,_,_,_,rfl,Ur,hd.ty,Tc K d hd.nodict,_,rfl,IM (fun c=>⟨_,rfl,_,_,_,_,rfl,Ur,hd.ty,MQ K d hd.nodict,_,rfl,?_⟩) (fun c=>?_)⟩
 ·rw[c,Bool.true_and]at q;exact q
 ·rw[Bool.eq_false_iff.mpr c,Bool.false_and]at q;exact q
def Lf:Aj ["thing"] ["thing"] (AL FZ):=C6
def Ld(F:Fn K mg "is_fraction" FZ ["thing"] f fd)(El:Fn K mg "is_whole" Ia ["thing"] g1 gd1)(CV:Fn K mg "greatest_divisor" DQ ["one", "other"] g2 gd2)
 (LZ:AM P w K mg base A6 1 g1 gd1 ["thing"] Sy)(JH:AM P w K mg base A6 1 g2 gd2 ["one", "other"] XS)(A3:mg "isinstance" = none)(CB:mg "tuple" = none)(Bp:mg "len" = none):AM P w K mg base A6 2 f fd ["thing"] Se:=by
 have sc:=Lf;refine F.F.ok (k:=1) sc (fun vs H Q E h=>?_) (fun cdv A outer s H vs Q E hr h=>?_)
 ·obtain⟨l,d,v,rfl,_⟩:=h
  rfl
 obtain⟨l,d,v,rfl,hd,q⟩:=h;refine⟨_,(Bb (Ib (PW.pt (Qh (IA (HW (Bv GS rfl A3 ao (Ai (pv 0) (Ai (Hg (v:=.ty "tuple") rfl CB PyProof.Rows.boot_tuple rfl) BJ))))) (NJ (F5 U1 (Bv Jd rfl Bp aw (Ai (pv 0) BJ)) Cr (Bd _)))))
  (Bt (Cq Jv))
  FC)
 (Bb (Ib (PW.pt (Qh (IA (HW (LL El LZ hr rfl (Ai (Il IB (pv 0) Cr (fun _ _=>rfl)) BJ)))) (NJ (IA (HW (LL El LZ hr rfl (Ai (Il IB (pv 0) Cr (fun _ _=>rfl)) BJ)))))))
  (Bt (Cq Jv))
  FC)
 (Bt (Cq (N3 (Le VI (Il IB (pv 0) Cr (fun _ _=>rfl)) Cr (Bd _)) (Nf (Le ZX (LL CV JH hr rfl (Ai (Il IB (pv 0) Cr (fun _ _=>rfl)) (Ai (Il IB (pv 0) Cr (fun _ _=>rfl)) BJ))) Cr (Bd _)))))))),?_⟩
 refine⟨_,rfl,_,_,_,_,rfl,Ur,hd.ty,OJ K d hd.nodict,_,rfl,?_⟩;have no:Hr d=false→DJ d=false:=fun z=>by cases d<;>first|rfl|exact absurd z (by simp[Hr])
 by_cases ht:Hr d=true
 ·rw[ht];obtain⟨ds,rfl⟩:∃ds,d=.tuple ds:=by cases d<;>first|exact⟨_,rfl⟩|exact absurd ht (by simp[Hr])
  rw[Dt]at hd;obtain⟨a,xs,rfl,na,ha,hx⟩:=hd;have hlen:=hx.len;have s1:BF K H a xs:=BF.of ha;refine Xh ⟨_,rfl,a,xs,rfl,.inr s1,rfl,_,rfl,IM (fun c=>?_) (fun c=>?_)⟩
  ·have:ds.length≠2:=by
    rw[←hlen];intro z;rw[z]at c;exact absurd c (by decide)
   rw[Kh (.inl this)]at q;exact q
  ·have h2:xs.length=2:=by
    by_cases z:xs.length=2
    ·exact z
    ·exfalso
     refine c ?_;have:¬(V.int (xs.length:Nat)=V.int 2):=by simp;omega
     rw[decide_eq_false this];rfl
   obtain⟨d0,d1,rfl⟩:∃d0 d1,ds=[d0,d1]:=by
    match ds,(show ds.length=2 by omega) with
    |[x,y],_=>exact⟨x,y,rfl⟩
   rw[BZ]at hx;obtain⟨x0,r,rfl,hx0,hx⟩:=hx;rw[BZ]at hx;obtain⟨x1,r,rfl,hx1,hx⟩:=hx;rw[BZ]at hx;subst hx;refine⟨_,rfl,_,_,_,_,rfl,rfl,s1,rfl,l,d0,x0,rfl,hx0,_,rfl,IM (fun c0=>?_) (fun c0=>?_)⟩
   ·rw[Kh (.inr ⟨d0,d1,rfl,.inl (by simp at c0;rcases c0 with c|c<;>simp[c])⟩)]at q;exact q
   refine⟨_,rfl,_,_,_,_,rfl,rfl,s1,rfl,l,d1,x1,rfl,hx1,_,rfl,IM (fun c1=>?_) (fun c1=>?_)⟩
   ·rw[Kh (.inr ⟨d0,d1,rfl,.inr (by simp at c1;rcases c1 with c|c<;>simp[c])⟩)]at q;exact q
   obtain⟨i,rfl⟩:=Ma (d:=d0) (by simpa using c0);obtain⟨j,rfl⟩:=Ma (d:=d1) (by simpa using c1);rw[Dt]at hx0 hx1;subst hx0 hx1;refine⟨_,rfl,_,_,_,_,rfl,rfl,s1,rfl,_,_,rfl,rfl,_,rfl,IM (fun c=>?_) (fun c=>?_)⟩
   ·refine⟨_,rfl,_,_,_,_,rfl,rfl,s1,rfl,_,rfl,_,_,_,_,rfl,rfl,s1,rfl,i,j,rfl,rfl,?_⟩;have hj:1≤j:=by have:=aq c;omega
    have e:DJ (.tuple [.int i,.int j])=decide (V.int (FM.gi i j)=V.int 1):=by
     rw[DJ,decide_eq_true hj,Bool.true_and,Bool.eq_iff_iff];simp
    rw[e]at q;exact q
   ·have hj:¬1≤j:=fun z=>c (decide_eq_true (by omega));have e:DJ (.tuple [.int i,.int j])=false:=by rw[DJ,decide_eq_false hj,Bool.false_and]
    rw[e]at q;exact q
 ·rw[Bool.eq_false_iff.mpr ht];rw[no (Bool.eq_false_iff.mpr ht)]at q;exact Ug (Ug q)
end
def Ei:PD→Bool
 |.list ds=>ds.all DJ
 |_=>false
def Sg{d:PD}(h:GG d=false):Ei d=false:=by cases d<;>first|rfl|exact absurd h (by simp[GG])
def TF{d:PD}(h:GG d=true):∃ds,d=.list ds:=by cases d<;>first|exact⟨_,rfl⟩|exact absurd h (by simp[GG])
def WA:Sp:=fun vs H Q _=>∃l d v,vs=[v]∧Dt l H d v∧Q (.bl (Ei d)) H
section
variable{P:Program}{w:World}{K:Fg}{mg:Str→Option VL}{base:Heap}{f g g1 g2 g3 g4 g5:AD}{fd gd gd1 gd2 gd3 gd4 gd5:FuncData}
def Kw:Aj ["thing", "part"] ["thing"] (AL Et):=C6
def Ko(F:Fn K mg "are_fractions" Et ["thing"] f fd)(D9:Fn K mg "is_fraction" FZ ["thing"] g1 gd1)
 (Mm:AM P w K mg base A6 2 g1 gd1 ["thing"] Se)(A3:mg "isinstance" = none)(Ht:mg "list" = none):AM P w K mg base A6 3 f fd ["thing"] WA:=by
 have sc:=Kw;refine F.F.ok (k:=2) sc (fun vs H Q E h=>?_) (fun cdv A outer s H vs Q E hr h=>?_)
 ·obtain⟨l,d,v,rfl,_⟩:=h
  rfl
 obtain⟨l,d,v,rfl,hd,q⟩:=h;refine⟨_,(Bb (Ib (IA (HW (Bv GS rfl A3 ao (Ai (pv 0) (Ai (Hg (v:=.ty "list") rfl Ht PyProof.Rows.boot_list rfl) BJ)))))
  (Bt (Cq Jv))
  FC)
 (Bb (R9 aR rfl (O5 (pv 0)) (BX (i:=1) sc.nd rfl (Or.inl rfl))
  (Bt (Ib (IA (HW (LL D9 Mm hr rfl (Ai (pv 1) BJ))))
   (Bt (Cq Jv))
   FC)))
 (Bt (Cq Jv)))),?_⟩
 refine⟨_,rfl,_,_,_,_,rfl,Ur,hd.ty,UA K d hd.nodict,_,rfl,?_⟩;by_cases hL:GG d=false
 ·rw[hL];rw[Sg hL]at q;exact Ug q
 have hL:GG d=true:=by simpa using hL
 rw[hL];refine Xh ?_;obtain⟨ds,rfl⟩:=TF hL;rw[Dt]at hd;obtain⟨a,xs,rfl,na,ha,ht⟩:=hd;have hlen:=ht.len;refine⟨_,rfl,a,rfl,⟨_,A2.of ha⟩,T3 (xs:=xs) (fun i σ H'=>∃r1,σ=[some (.ref a),r1]∧H=H'∧∀j c,j<i→ds[j]? = some c→DJ c=true) ?_ ?_ ?_ ?_⟩
 ·exact⟨_,rfl,rfl,fun j c h=>absurd h (ar _)⟩
 ·rintro i σ H' _ ⟨r1,rfl,rfl,_⟩;exact A2.of ha
 ·rintro i x σ H' hx ⟨r1,rfl,rfl,hf⟩;obtain⟨c,hc,tc⟩:=ht.get hx;refine⟨_,rfl,l,c,x,rfl,tc,_,rfl,IM (fun b=>?_) (fun b=>?_)⟩
  ·have hb:DJ c=false:=by simpa using b
   have e:Ei (.list ds)=false:=Bool.eq_false_iff.mpr fun z=>by
    rw[Ei,List.all_eq_true]at z;rw[z c (List.mem_of_getElem? hc)]at hb;cases hb
   rw[e]at q;exact q
  ·have hb:DJ c=true:=by simpa using b
   refine⟨_,rfl,rfl,fun j e hj he=>?_⟩;by_cases z:j=i
   ·subst z;rw[hc]at he;cases he;exact hb
   ·exact hf j e (by omega) he
 ·rintro σ H' ⟨r1,rfl,rfl,hf⟩;have e:Ei (.list ds)=true:=by
   rw[Ei,List.all_eq_true];intro c hc;obtain⟨j,hj⟩:=List.getElem?_of_mem hc;exact hf j c (by rw[hlen];exact(aM.mp hj).1) hj
  rw[e]at q;exact q
end
def DU(H:Hp)(d:PD)(v:V):Prop:=∃N:Nat,∀l,N≤l→Dt l H d v
def Md(H:Hp)(ds:List PD)(xs:List V):Prop:=∃N:Nat,∀l,N≤l→BZ l H ds xs
def DU.int{H:Hp}{i:Int}:DU H (.int i) (.int i):=⟨0,fun _ _=>.int⟩
def DU.bool{H:Hp}{i:Bool}:DU H (.bool i) (.bl i):=⟨0,fun _ _=>.bool⟩
def DU.Ao{H:Hp}:DU H .none .Ao:=⟨0,fun _ _=>.Ao⟩
def DU.str{H:Hp}{x:Str}:DU H (.str x) (.str x):=⟨0,fun _ _=>.str⟩
def Md.nil{H:Hp}:Md H [] []:=⟨0,fun _ _=>.nil⟩
def Md.cons{H:Hp}{d:PD}{ds:List PD}{x:V}{xs:List V}(h:DU H d x)(k:Md H ds xs):Md H (d::ds) (x::xs) :=
 let⟨N,a⟩:=h;let⟨M,b⟩:=k;⟨max N M,fun l hl=>.cons (a l (by omega)) (b l (by omega))⟩
def DU.lst{H:Hp}{a:AD}{ds:List PD}{xs:List V}(h:H a=some (.lst xs))(k:Md H ds xs):DU H (.list ds) (.ref a) :=
 let⟨N,b⟩:=k;⟨max N (a+1),fun l hl=>.lst (aI (show a<l from aK (Nat.lt_succ_self a) (aZ (Nat.le_max_right _ _) hl))) h (b l (by omega))⟩
def DU.tup{H:Hp}{a:AD}{ds:List PD}{xs:List V}(h:H a=some (.tup xs))(k:Md H ds xs):DU H (.tuple ds) (.ref a) :=
 let⟨N,b⟩:=k;⟨max N (a+1),fun l hl=>.tup (aI (show a<l from aK (Nat.lt_succ_self a) (aZ (Nat.le_max_right _ _) hl))) h (b l (by omega))⟩
mutual
def Uo{H:Hp}:∀ {d:PD} {v:V},d.canLay0=true→Du H d v→DU H d v
 |.none,_,_,h=>by rw[Du]at h;subst h;exact .Ao
 |.bool _,_,_,h=>by rw[Du]at h;subst h;exact .bool
 |.int _,_,_,h=>by rw[Du]at h;subst h;exact .int
 |.str _,_,_,h=>by rw[Du]at h;subst h;exact .str
 |.tuple _,_,c,h=>by
  rw[Du]at h;obtain⟨a,xs,rfl,h1,h2⟩:=h;exact .tup h1 (Ll (by simpa only[PyData.canLay0]using c) h2)
 |.list _,_,c,h=>by
  rw[Du]at h;obtain⟨a,xs,rfl,h1,h2⟩:=h;exact .lst h1 (Ll (by simpa only[PyData.canLay0]using c) h2)
 |.dict _,_,c,h=>by simp[PyData.canLay0]at c
def Ll{H:Hp}:∀ {ds:List PD} {xs:List V},PyData.canLayAll0 ds=true→AZ H ds xs→Md H ds xs
 |[],_,_,h=>by rw[h.nil_eq];exact .nil
 |_::_,_,c,h=>by
  obtain⟨x,r,rfl,h1,h2⟩:=h.un;simp only[PyData.canLayAll0,Bool.and_eq_true]at c;exact .cons (Uo c.1 h1) (Ll c.2 h2)
end
def Z7{G H H':Hp}{l:AD}{vs:List V}{ds:List PD}(e0:AI G H)(e:AI H H')(hl:H' l=some (.tup vs))(d:AZ G ds vs):∃G',AI G G'∧Nw G H G'∧AI G' H'∧Du G' (.tuple ds) (.ref l):=by
 have e1:AI G (upd G l (.tup vs)):=fun a o h=>by
  by_cases ha:a=l
  ·subst ha;have:=e _ _ (e0 _ _ h);rw[hl]at this;rw[AX];exact this
  ·rw[AH ha];exact h
 refine⟨upd G l (.tup vs),e1,fun a u h=>?_,fun a u h=>?_,?_⟩
 ·by_cases ha:a=l
  ·subst ha;rw[AX]at h;cases h;exact .inr (.inr ⟨_,rfl⟩)
  ·rw[AH ha]at h;exact .inl h
 ·by_cases ha:a=l
  ·subst ha;rw[AX]at h;rw[hl];exact h
  ·rw[AH ha]at h;exact e _ _ (e0 _ _ h)
 ·rw[Du];exact⟨l,vs,rfl,AX,d.same e1⟩
def NB{G:Hp}:∀ps:List Int,AZ G (ps.map .int) (ps.map V.int)
 |[]=>.nil
 |p::ps=>.cons (by rw[Du]) (NB ps)
section
variable{P:Program}{w:World}{K:Fg}{mg:Str→Option VL}{base:Heap}{CX:FX}{k:Nat}{f:AD}{fd:FuncData}{ps:List Str}
def mB(q:PD→Bool):MD
 |[d]=>if d.canLay0=true then some (.bool (q d)) else none
 |_=>none
def ZP{q:PD→Bool}{d:PD}(h:d.canLay0=true):mB q [d]=some (.bool (q d)):=if_pos h
def cR{q:PD→Bool}{d:PD}{b:Bool}(h:d.canLay0=true)(e:q d=b):mB q [d]=some (.bool b):=(ZP h).trans (by rw[e])
def Fv{sp:Sp}{q:PD→Bool}(F:AM P w K mg base CX k f fd ps sp)(h:∀(l:AD) d v H Q E,Dt l H d v→(∀H',AI H H'→Q (.bl (q d)) H')→sp [v] H Q E):AM P w K mg base CX k f fd ps (Ba (mB q)) :=
 O1 F fun ds x hm G H vs Q E d e kk=>by
  unfold mB at hm;split at hm
  ·split at hm
   ·rename_i dd hc;cases hm;obtain⟨v,rfl,d1⟩:=d.E1;obtain⟨N,b⟩:=Uo hc (d1.same e);exact h N _ v H Q E (b N (aH _)) fun H' e'=>kk _ G H' (.refl _) Nw.refl (e.trans e') e' (by rw[Du])
   ·cases hm
  ·cases hm
end
def OW:∀ps:List Int,PyData.canLayAll0 (ps.map .int)=true
 |[]=>by simp[PyData.canLayAll0]
 |p::ps=>by rw[List.map_cons];simp only[PyData.canLayAll0,PyData.canLay0];rw[OW ps];rfl
def RO{ds:List PD}(h:∀d∈ds,d.canLay0=true):PyData.canLayAll0 ds=true:=by
 induction ds with
 |nil=>simp[PyData.canLayAll0]
 |cons d ds ih=>simp only[PyData.canLayAll0];rw[h d (.head _),ih fun e he=>h e (.tail _ he)];rfl
def Zs{ds:List PD}(h:∀d∈ds,d.canLay0=true):(PyData.list ds).canLay0=true:=by simp only[PyData.canLay0];exact RO h
section
variable{P:Program}{w:World}{K:Fg}{mg:Str→Option VL}{base:Heap}{f g:AD}{fd gd:FuncData}
def Ng:Aj ["_law_top", "_law_bottom", "_law_one", "_law_other"] ["_law_top", "_law_bottom"] (AL FN):=C6
def OE(F:Fn K mg "_law_frac" FN ["_law_top", "_law_bottom"] f fd)(G9:mg "abs" = none):AM P w K mg base A6 1 f fd ["_law_top", "_law_bottom"] XZ:=by
 have sc:=Ng;refine F.F.ok (k:=0) sc (fun vs H Q E h=>?_) (fun cdv A outer s H vs Q E hr h=>?_)
 ·obtain⟨t,b,m,rfl,_⟩:=h
  rfl
 obtain⟨t,b,m,rfl,hb,hm,hs,q⟩:=h;refine⟨_,(Bb (DZ (i:=2) sc.nd rfl (Or.inl rfl) (Bv Iq rfl G9 PyProof.Rows.boot_abs (Ai (pv 0) BJ)))
 (Bb (DZ (i:=3) sc.nd rfl (Or.inl rfl) (Bv Iq rfl G9 PyProof.Rows.boot_abs (Ai (pv 1) BJ)))
 (Bb (OU aR (F5 Uz (pv 3) Cr (Bd _))
  (Bt (Xn (i:=2) (j:=3) rfl sc.nd rfl rfl (by decide) rfl rfl (Ai (pv 3) (Ai (KA MB (pv 2) (pv 3)) BJ)) rfl)))
 (Bb (Ib (F5 Uy (pv 1) Cr (Bd _))
  (Bt (DZ (i:=2) sc.nd rfl (Or.inl rfl) (KA Sh Cr (pv 2))))
  FC)
 (Bt (Cq (Rc (Ai (KA Kt (pv 0) (pv 2)) (Ai (KA Kt (pv 1) (pv 2)) BJ))))))))),?_⟩
 refine⟨_,rfl,_,rfl,_,rfl,_,rfl,?_⟩;refine N6 (fun σ H'=>∃g l,σ=[some (.int t),some (.int b),some (.int g),some (.int l)]∧H=H'∧Int.gcd g l=Int.gcd t b∧0≤g∧0≤l) (fun σ _=>bL σ) ?_ ?_ ?_
 ·exact⟨_,_,rfl,rfl,FM.Pw t b,FM.abs_nonneg t,FM.abs_nonneg b⟩
 ·rintro σ H' ⟨g,l,rfl,rfl,hg,h0,h1⟩;refine⟨_,rfl,_,_,rfl,rfl,_,rfl,IM (fun c=>?_) (fun c=>?_)⟩
  ·have hl':0<l:=aq c;have hl:l≠0:=by omega
   refine⟨_,rfl,_,rfl,_,rfl,_,_,rfl,rfl,hl,_,_,rfl,⟨_,_,rfl,rfl,?_,h1,FM.fmod_nonneg hl h1⟩,?_⟩
   ·rw[FM.Nr];exact hg
   ·exact FM.MR g l hl
  ·have hl':¬0<l:=of_decide_eq_false (Bool.eq_false_iff.mpr c);have hl:l=0:=by omega
   subst hl;rw[FM.Rr hg h0]
   try dsimp only[EA]
   refine TJ (fun σ' H'=>σ'=[some (.int t),some (.int b),some (.int (FM.gs t b)),some (.int 0)]∧H=H') (fun nx hn=>?_) ?_
   ·refine⟨_,rfl,_,_,rfl,rfl,_,rfl,IM (fun c=>?_) (fun c=>?_)⟩
    ·have c':b<0:=aq c;refine⟨_,rfl,_,_,rfl,rfl,hn _ _ ⟨?_,rfl⟩⟩;show [some (V.int t),some (V.int b),some (V.int (0-FM.gi t b)),some (V.int 0)]=_;unfold FM.gs;rw[if_pos c',Int.zero_sub]
    ·have c':¬b<0:=of_decide_eq_false (Bool.eq_false_iff.mpr c);refine hn _ _ ⟨?_,rfl⟩;unfold FM.gs;rw[if_neg c']
   ·rintro σ' H' ⟨rfl,rfl⟩;have h0:FM.gs t b≠0:=FM.Zu hb;have h1:(FM.gs t b).natAbs<2^m:=Nat.lt_of_le_of_lt (FM.Zj hb) hs;refine⟨_,rfl,_,rfl,_,_,rfl,rfl,⟨h0,m,hm,h1⟩,_,rfl,_,rfl,_,_,rfl,rfl,⟨h0,m,hm,h1⟩,W7,fun p hp=>?_⟩;refine q p _ (BQ hp _) ?_;rw[AX];show some (HO.tup [V.int (t.fdiv (FM.gs t b)),V.int (b.fdiv (FM.gs t b))])=_;rw[FM.S6 hb,FM.RU hb]
    rfl
 ·exact fun σ H Q Q' hq ⟨v,e,i,j,e1,e2,k,e3,q⟩=>⟨v,e,i,j,e1,e2,k,e3,hq _ _ q⟩
end
section
variable{P:Program}{w:World}{K:Fg}{mg:Str→Option VL}{base:Heap}{f:AD}{fd:FuncData}
def Ey:Aj ["boughs"] ["boughs"] (AL DR):=C6
def JL:DF :=
 (CP (AK Im (AB (AK (HM true) (AB (nm 0) AF)) AF)))
def Aa:MD:=CQ ["boughs"] ["boughs"] (JL)
def JC{k:Nat}(F:Fn K mg "in_falling_order" DR ["boughs"] f fd)(Bm:mg "sorted" = none)(CB:mg "tuple" = none) :
  AM P w K mg base A6 (k+1) f fd ["boughs"] (Ba (Aa)):=GH F Ey fun cdv A outer s H E hr=>by
 have sc:=Ey;exact(Ab (Bj (JQ OB rfl CB PyProof.Rows.boot_tuple (AE (UZ (by have:=hr.units;exact this) rfl Bm (AE (AA (pv 0)) AG) (fun h=>S8 (by have:=hr.units;exact this) rfl Bm h)) AG))))
def LX:Aj ["tree"] ["tree"] (AL Di):=C6
def HS(AN:MD):DF :=
 (CP (AQ B6 (fC (.int 1)) (AK Qw (AB (IZ (Dc 1) IH (AK AN (AB (nm 1) AF)) [none,none] (FG (nm 0))) AF))))
def AN:Nat→MD
 |0=>fun _=>none
 |n+1=>CQ ["tree"] ["tree"] (HS (AN n))
def HB{k:Nat}(Ay:Fn K mg "knots_within" Di ["tree"] f fd)(Gr:mg "sum" = none):∀n,
  AM P w K mg base A6 (k+n+1) f fd ["tree"] (Ba (AN n))
 |0=>Dg fun _ _ _ _ ⟨_,_,_,h,_⟩=>by cases h
 |n+1=>by
  have sc:=LX;have BC:=HB (k:=k) Ay Gr n;refine GH (k:=k+n+1) (F:=HS (AN n)) Ay sc fun cdv A outer s H E hr=>?_;exact(Ab (Bj (Ac Bc AV (CG (Sl rfl) rfl Gr PyProof.Rows.boot_sum (AE (Jy [".0", "bough"] 1 [none,none] (Df (AA (pv 0))) (fun _ _ _ _ _=>F7) (fun _ _ _ _ _=>(Ah Ay BC hr rfl (AE (AA (pv 1)) AG)))) AG)))))
def KI:Aj ["tree", "density", "bough"] ["tree"] (AL EF):=C6
def Gh(AN:MD)(Ak:MD):DF :=
 (Aq (BW 1 (AK AN (AB (nm 0) AF)))
 (Aq (DH (FG (nm 0)) (EG 2)
  (BW 1 (AQ Eh (nm 1) (AK Ak (AB (nm 2) AF)))))
 (CP (nm 1))))
def Ak(AN:MD):Nat→MD
 |0=>fun _=>none
 |n+1=>CQ ["tree"] ["tree", "density", "bough"] (Gh AN (Ak AN n))
def Fq{k:Nat}{AN:MD}(BO:Fn K mg "density_within" EF ["tree"] f fd)
 {Ck:AD}{Cb:FuncData}(Ay:Fn K mg "knots_within" Di ["tree"] Ck Cb)(BC:AM P w K mg base A6 k Ck Cb ["tree"] (Ba AN)):∀n,
  AM P w K mg base A6 (k+n+1) f fd ["tree"] (Ba (Ak AN n))
 |0=>Dg fun _ _ _ _ ⟨_,_,_,h,_⟩=>by cases h
 |n+1=>by
  have sc:=KI;have CM:=Fq (k:=k) (AN:=AN) BO Ay BC n;have BC:=BC.mono (show k≤k+n+1 by omega);refine GH (k:=k+n+1) (F:=Gh AN (Ak AN n)) BO sc fun cdv A outer s H E hr=>?_;exact(AR (A5 (i:=1) sc.nd rfl (Or.inl rfl) (Ah Ay BC hr rfl (AE (AA (pv 0)) AG)))
 (AR (Cs aR rfl (Df (AA (pv 0))) (Cn (BX (i:=2) sc.nd rfl (Or.inl rfl)))
  (Ab (A5 (i:=1) sc.nd rfl (Or.inl rfl) (Ac D5 (AA (pv 1)) (Ah BO CM hr rfl (AE (AA (pv 2)) AG))))))
 (Ab (Bj (AA (pv 1))))))
def JB:Aj ["tree", "larger", "k", "bough", "grown"] ["tree"] (AL De):=C6
def FP(Aa:MD)(Ae:MD):DF :=
 (Aq (UR 1 (AB (AK Aa (AB (AQ B6 (nm 0) (CL (AB (CL AF) AF))) AF)) AF))
 (Aq (DH (Cg Ql (AB (nm 0) AF)) (Tp 2 3)
  (DH (FG (AK Ae (AB (nm 3) AF))) (EG 4)
   (b0 1 (AK Aa (AB (AQ B6 (AQ B6 (QS (nm 0) Mx (M1 (nm 2))) (CL (AB (nm 4) AF))) (QS (nm 0) (M1 (AQ B6 (nm 2) (fC (.int 1)))) Mx)) AF)))))
 (QA 1)))
def Ae(Aa:MD):Nat→MD
 |0=>fun _=>none
 |n+1=>CQ ["tree"] ["tree", "larger", "k", "bough", "grown"] (FP Aa (Ae Aa n))
def Eu{k:Nat}{Aa:MD}(BD:Fn K mg "trees_one_larger" De ["tree"] f fd)
 {FQ:AD}{E2:FuncData}(Bh:Fn K mg "in_falling_order" DR ["boughs"] FQ E2)(BR:AM P w K mg base A6 k FQ E2 ["boughs"] (Ba Aa))(FK:mg "enumerate" = none):∀n,
  AM P w K mg base A6 (k+n+1) f fd ["tree"] (Ba (Ae Aa n))
 |0=>Dg fun _ _ _ _ ⟨_,_,_,h,_⟩=>by cases h
 |n+1=>by
  have sc:=JB;have B1:=Eu (k:=k) (Aa:=Aa) BD Bh BR FK n;have BR:=BR.mono (show k≤k+n+1 by omega);refine GH (k:=k+n+1) (F:=FP Aa (Ae Aa n)) BD sc fun cdv A outer s H E hr=>?_;exact(AR (M9 (i:=1) sc.nd rfl (Or.inl rfl) (AE (Ah Bh BR hr rfl (AE (Ac Bc (AA (pv 0)) (CK (AE (CK AG) AG))) AG)) AG))
 (AR (Cs aR rfl (Vw rfl FK (AE (AA (pv 0)) AG)) (Y7 (Rl rfl (Gb (BX (i:=2) sc.nd rfl (Or.inl rfl)) (Gb (BX (i:=3) sc.nd rfl (Or.inl rfl)) PZ))))
  (Ab (Cs aR rfl (Df (Ah BD B1 hr rfl (AE (AA (pv 3)) AG))) (Cn (BX (i:=4) sc.nd rfl (Or.inl rfl)))
   (Ab (RH (pv 1) (Ah Bh BR hr rfl (AE (Ac Bc (Ac Bc (Ii (AA (pv 0)) Jz (J4 (AA (pv 2)))) (CK (AE (AA (pv 4)) AG))) (Ii (AA (pv 0)) (J4 (Ac Bc (AA (pv 2)) AV)) Jz)) AG)) (fun ho ha=>J6 (My PySem.F.plainAttrs_list PySem.F.slot_list_append PySem.F.type_list_append Mf ho ha)))))))
 (Ab (PB (pv 1)))))
def Kg:Aj ["many", "trees", "knots", "larger", "tree"] ["many"] (AL IW):=C6
def QT(Ae:MD)(C_TooMany:AD):EN :=
 (Kx (Rb (Pr (CH (EC fun i j=>decide (i<j)) (nm 0) (fC (.int 1))) (CH (EC fun i j=>decide (j<i)) (nm 0) (fC (.int 7))))
  (K4 C_TooMany (fC (.str (Str.ofString "trees are listed for 1 to 7 knots"))))
  (fun δ=>some (.inl (.nx δ))))
 (S5 (Aq (BW 1 (Ni (AB (CL AF) AF)))
 (Aq (DH (Cg QD (AB (fC (.int 1)) (AB (nm 0) AF))) (EG 2)
  (Aq (UR 3 AF)
  (Aq (DH (FG (nm 1)) (EG 4)
   (Xw 3 (AK Ae (AB (nm 4) AF))))
  (T5 3 (BW 1 (fun δ=>((nm 3) δ).bind Ku))))))
 (CP (nm 1))))))
def CA(Ae:MD)(C_TooMany:AD):List PD→Option Xr:=Fd ["many"] ["many", "trees", "knots", "larger", "tree"] (QT Ae C_TooMany)
def Ol{k:Nat}{Ae:MD}{C_TooMany:AD}(F:Fn K mg "trees_of" IW ["many"] f fd)
 {FW:AD}{Ez:FuncData}(BD:Fn K mg "trees_one_larger" De ["tree"] FW Ez)(B1:AM P w K mg base A6 k FW Ez ["tree"] (Ba Ae))(Bf:mg "range" = none)(Ju:mg "set" = none)(Bm:mg "sorted" = none){tk_MOST_KNOTS:Tok}(Ci:mg "MOST_KNOTS" = some (.int 7 tk_MOST_KNOTS))(X_TooMany:Exc K mg "TooMany" C_TooMany) :
  AM P w K mg base (B2 P w) (k+1) f fd ["many"] (FU (CA Ae C_TooMany)):=OS F Kg fun cdv A outer s H E hr=>by
 have sc:=Kg;exact(Ky (QU (DW.dt (LC (C8 QV (AA (pv 0)) AV (Bd _)) (Jh (C8 QG (AA (pv 0)) (N8 rfl Ci) (Bd _)))))
  (HZ (by exact Ki X_TooMany QL Nx))
  Lz)
 (Np (AR (A5 (i:=1) sc.nd rfl (Or.inl rfl) (JT (AE (CK AG) AG)))
 (AR (Cs aR rfl (MY rfl Bf (AE AV (AE (AA (pv 0)) AG))) (Cn (BX (i:=2) sc.nd rfl (Or.inl rfl)))
  (AR (M9 (i:=3) sc.nd rfl (Or.inl rfl) AG)
  (AR (Cs aR rfl (Df (AA (pv 1))) (Cn (BX (i:=4) sc.nd rfl (Or.inl rfl)))
   (Ab (MW (pv 3) (Ah BD B1 hr rfl (AE (AA (pv 4)) AG)) (fun ho ha=>J6 (My PySem.F.plainAttrs_list PySem.F.slot_list_extend PySem.F.type_list_extend Me ho ha)))))
  (Ab (Nz 3 (A5 (i:=1) sc.nd rfl (Or.inl rfl) (QZ rfl (by have:=hr.units;exact this) rfl Bm rfl Ju (AA (pv 3)))))))))
 (Ab (Bj (AA (pv 1))))))))
def KL:Aj ["most", "trees", "many"] ["most"] (AL Fz):=C6
def QI(CA:List PD→Option Xr)(C_TooMany:AD):EN :=
 (Kx (Rb (Pr (CH (EC fun i j=>decide (i<j)) (nm 0) (fC (.int 0))) (CH (EC fun i j=>decide (j<i)) (nm 0) (fC (.int 7))))
  (K4 C_TooMany (fC (.str (Str.ofString "trees are listed up to 0 to 7 knots"))))
  (fun δ=>some (.inl (.nx δ))))
 (S5 (Aq (UR 1 AF)
 (Aq (DH (Cg QD (AB (fC (.int 1)) (AB (AQ B6 (nm 0) (fC (.int 1))) AF))) (EG 2)
  (Xw 1 (AK (good CA) (AB (nm 2) AF))))
 (QA 1)))))
def A9(CA:List PD→Option Xr)(C_TooMany:AD):List PD→Option Xr:=Fd ["most"] ["most", "trees", "many"] (QI CA C_TooMany)
def Og{k:Nat}{CA:List PD→Option Xr}{C_TooMany:AD}(F:Fn K mg "trees_to" Fz ["most"] f fd)
 {LP:AD}{KQ:FuncData}(F4:Fn K mg "trees_of" IW ["many"] LP KQ)(IY:AM P w K mg base (B2 P w) k LP KQ ["many"] (FU CA))(Bf:mg "range" = none){tk_MOST_KNOTS:Tok}(Ci:mg "MOST_KNOTS" = some (.int 7 tk_MOST_KNOTS))(X_TooMany:Exc K mg "TooMany" C_TooMany) :
  AM P w K mg base (B2 P w) (k+1) f fd ["most"] (FU (A9 CA C_TooMany)):=OS F KL fun cdv A outer s H E hr=>by
 have sc:=KL;exact(Ky (QU (DW.dt (LC (C8 QV (AA (pv 0)) AV (Bd _)) (Jh (C8 QG (AA (pv 0)) (N8 rfl Ci) (Bd _)))))
  (HZ (by exact Ki X_TooMany QL Nx))
  Lz)
 (Np (AR (M9 (i:=1) sc.nd rfl (Or.inl rfl) AG)
 (AR (Cs aR rfl (MY rfl Bf (AE AV (AE (Ac Bc (AA (pv 0)) AV) AG))) (Cn (BX (i:=2) sc.nd rfl (Or.inl rfl)))
  (Ab (MW (pv 1) (Ah F4 (M3 IY) hr rfl (AE (AA (pv 2)) AG)) (fun ho ha=>J6 (My PySem.F.plainAttrs_list PySem.F.slot_list_extend PySem.F.type_list_extend Me ho ha)))))
 (Ab (PB (pv 1)))))))
def EM:Aj ["thing"] ["thing"] (AL Cz):=C6
def Em(B4:MD)(C_NoWeighing:AD):EN :=
 (Rb (Pr (UL (OX (AK B4 (AB (nm 0) AF)))) (OX (fun δ=>((AK Ce (AB (nm 0) AF)) δ).bind (VH true [0,1,2,4,8,17,37,85]))))
  (K4 C_NoWeighing (fC (.str (Str.ofString "a weighing is a list of a fraction for each tree of at most 0 to 7 knots"))))
  (fun δ=>some (.inl (.nx δ))))
def Ar(B4:MD)(C_NoWeighing:AD):List PD→Option Xr:=Fd ["thing"] ["thing"] (Em B4 C_NoWeighing)
def Hf{k:Nat}{B4:MD}{C_NoWeighing:AD}(F:Fn K mg "refuse_no_weighing" Cz ["thing"] f fd)
 {Gu:AD}{GP:FuncData}(DM:Fn K mg "are_fractions" Et ["thing"] Gu GP)(EU:AM P w K mg base A6 k Gu GP ["thing"] (Ba B4))(Bp:mg "len" = none){c_WEIGHING_LENGTHS:AD}(Be:mg "WEIGHING_LENGTHS" = some (.ref c_WEIGHING_LENGTHS))(o_WEIGHING_LENGTHS:Own K c_WEIGHING_LENGTHS [0,1,2,4,8,17,37,85])(X_NoWeighing:Exc K mg "NoWeighing" C_NoWeighing) :
  AM P w K mg base (B2 P w) (k+1) f fd ["thing"] (FU (Ar B4 C_NoWeighing)):=OS F EM fun cdv A outer s H E hr=>by
 have sc:=EM;exact(HZ (QU (DW.dt (LC (RL (OA (Ah DM EU hr rfl (AE (AA (pv 0)) AG)))) (Jh (Xy OQ (CG FO rfl Bp aw (AE (AA (pv 0)) AG)) rfl Be o_WEIGHING_LENGTHS))))
  (HZ (by exact Ki X_NoWeighing QL Nx))
  Lz))
def Ft:Aj ["weighing"] ["weighing"] (AL EH):=C6
def GX(Ar:List PD→Option Xr):EN :=
 (Kx (Qv Ar (AB (nm 0) AF) fun _ δ=>.nx δ)
 (S5 (CP (fun δ=>((AK Ce (AB (nm 0) AF)) δ).bind (RG [0,1,2,4,8,17,37,85])))))
def BE(Ar:List PD→Option Xr):List PD→Option Xr:=Fd ["weighing"] ["weighing"] (GX Ar)
def KH{k:Nat}{Ar:List PD→Option Xr}(F:Fn K mg "weighing_reach" EH ["weighing"] f fd)
 {EZ:AD}{EO:FuncData}(B9:Fn K mg "refuse_no_weighing" Cz ["thing"] EZ EO)(C0:AM P w K mg base (B2 P w) k EZ EO ["thing"] (FU Ar))(Bp:mg "len" = none){c_WEIGHING_LENGTHS:AD}(Be:mg "WEIGHING_LENGTHS" = some (.ref c_WEIGHING_LENGTHS))(o_WEIGHING_LENGTHS:Own K c_WEIGHING_LENGTHS [0,1,2,4,8,17,37,85]) :
  AM P w K mg base (B2 P w) (k+1) f fd ["weighing"] (FU (BE Ar)):=OS F Ft fun cdv A outer s H E hr=>by
 have sc:=Ft;exact(Ky (by exact WO B9 C0 hr P8 (by exact(AE (AA (pv 0)) AG)) (fun h=>J6 h))
 (Np (Ab (Bj (Ss (CG FO rfl Bp aw (AE (AA (pv 0)) AG)) rfl Be o_WEIGHING_LENGTHS)))))
def Gw:Aj ["trees"] ["trees"] (AL E5):=C6
def Hh(Ak:MD):DF :=
 (U6 (Eg (Dc 1) IH (CL (AB (fC (.int 1)) (AB (AK Ak (AB (nm 1) AF)) AF))) [none,none] (FG (nm 0))))
def Az(Ak:MD):MD:=CQ ["trees"] ["trees"] (Hh Ak)
def LK{k:Nat}{Ak:MD}(F:Fn K mg "true_weights" E5 ["trees"] f fd)
 {Gd:AD}{Fo:FuncData}(BO:Fn K mg "density_within" EF ["tree"] Gd Fo)(CM:AM P w K mg base A6 k Gd Fo ["tree"] (Ba Ak)) :
  AM P w K mg base A6 (k+1) f fd ["trees"] (Ba (Az Ak)):=GH F Gw fun cdv A outer s H E hr=>by
 have sc:=Gw;exact(Ab (Ve [".0", "tree"] 1 [none,none] (Df (AA (pv 0))) (fun _ _ _ _ _=>F7) (fun _ _ _ _ _=>(CK (AE AV (AE (Ah BO CM hr rfl (AE (AA (pv 1)) AG)) AG))))))
def GL:Aj ["most"] ["most"] (AL Er):=C6
def Gx(A9:List PD→Option Xr)(Az:MD):EN :=
 (xE (IL (IE (IL (KS (AB (nm 0) AF)) A9) (KS AF)) fun ds=>(Az ds).map .inl) fun x _=>.rt x)
def BL(A9:List PD→Option Xr)(Az:MD):List PD→Option Xr:=Fd ["most"] ["most"] (Gx A9 Az)
def Kk{k:Nat}{A9:List PD→Option Xr}{Az:MD}(F:Fn K mg "true_weighing" Er ["most"] f fd)
 {Eb:AD}{Dy:FuncData}(Cw:Fn K mg "trees_to" Fz ["most"] Eb Dy)(Dk:AM P w K mg base (B2 P w) k Eb Dy ["most"] (FU A9))
 {Hm:AD}{Gv:FuncData}(Dq:Fn K mg "true_weights" E5 ["trees"] Hm Gv)(FI:AM P w K mg base A6 k Hm Gv ["trees"] (Ba Az)) :
  AM P w K mg base (B2 P w) (k+1) f fd ["most"] (FU (BL A9 Az)):=OS F GL fun cdv A outer s H E hr=>by
 have sc:=GL;exact(HZ (by exact Vp (NQ Dq (Z9 FI) hr P8 (UM (NQ Cw Dk hr P8 (Sm (by exact(AE (AA (pv 0)) AG)))) (Sm (by exact AG))))))
def G7:Aj ["trees", "one", "other", "tree", "weight", "due"] ["trees", "one", "other"] (AL E7):=C6
def HN:DF :=
 (Aq (DH (Cg Lo (AB (nm 0) (AB (nm 1) (AB (nm 2) AF)))) (ND 3 4 5)
  (Hd (CH (D4 true) (nm 4) (nm 5))
   (CP (nm 3))
   Ee))
 (CP (fC .none)))
def BH:MD:=CQ ["trees", "one", "other"] ["trees", "one", "other", "tree", "weight", "due"] (HN)
def K8{k:Nat}(F:Fn K mg "first_unlike" E7 ["trees", "one", "other"] f fd)(Q2:mg "zip" = none) :
  AM P w K mg base A6 (k+1) f fd ["trees", "one", "other"] (Ba (BH)):=GH F G7 fun cdv A outer s H E hr=>by
 have sc:=G7;exact(AR (Cs aR rfl (VV rfl Q2 (AE (AA (pv 0)) (AE (AA (pv 1)) (AE (AA (pv 2)) AG)))) (Tz (Rl rfl (Gb (BX (i:=3) sc.nd rfl (Or.inl rfl)) (Gb (BX (i:=4) sc.nd rfl (Or.inl rfl)) (Gb (BX (i:=5) sc.nd rfl (Or.inl rfl)) PZ)))))
  (Ab (Ih (C8 (Qy (by have:=hr.units;exact this)) (AA (pv 4)) (AA (pv 5)) (Bd _))
   (Ab (Bj (AA (pv 3))))
   FH)))
 (Ab (Bj JR)))
def Fu:Aj ["weighing", "reach", "tree"] ["weighing"] (AL EI):=C6
def GU(BH:MD)(AN:MD)(A9:List PD→Option Xr)(BL:List PD→Option Xr)(BE:List PD→Option Xr):DF :=
 (Aq (BW 1 (AK (good BE) (AB (nm 0) AF)))
 (Aq (BW 2 (AK BH (AB (AK (good A9) (AB (nm 1) AF)) (AB (nm 0) (AB (AK (good BL) (AB (nm 1) AF)) AF)))))
 (Aq (Hd (CH (O6 false) (nm 2) (fC .none))
  (CP (CL (AB (nm 1) (AB (fC .none) AF))))
  Ee)
 (CP (CL (AB (AQ FY (AK AN (AB (nm 2) AF)) (fC (.int 1))) (AB (nm 2) AF)))))))
def A4(BH:MD)(AN:MD)(A9:List PD→Option Xr)(BL:List PD→Option Xr)(BE:List PD→Option Xr):MD:=CQ ["weighing"] ["weighing", "reach", "tree"] (GU BH AN A9 BL BE)
def KG{k:Nat}{BH:MD}{AN:MD}{A9:List PD→Option Xr}{BL:List PD→Option Xr}{BE:List PD→Option Xr}(F:Fn K mg "weighing_order" EI ["weighing"] f fd)
 {Hl:AD}{HD:FuncData}(Dp:Fn K mg "first_unlike" E7 ["trees", "one", "other"] Hl HD)(FD:AM P w K mg base A6 k Hl HD ["trees", "one", "other"] (Ba BH))
 {Ck:AD}{Cb:FuncData}(Ay:Fn K mg "knots_within" Di ["tree"] Ck Cb)(BC:AM P w K mg base A6 k Ck Cb ["tree"] (Ba AN))
 {Eb:AD}{Dy:FuncData}(Cw:Fn K mg "trees_to" Fz ["most"] Eb Dy)(Dk:AM P w K mg base (B2 P w) k Eb Dy ["most"] (FU A9))
 {HF:AD}{GR:FuncData}(DL:Fn K mg "true_weighing" Er ["most"] HF GR)(Eo:AM P w K mg base (B2 P w) k HF GR ["most"] (FU BL))
 {Gj:AD}{Fs:FuncData}(Cv:Fn K mg "weighing_reach" EH ["weighing"] Gj Fs)(EB:AM P w K mg base (B2 P w) k Gj Fs ["weighing"] (FU BE)) :
  AM P w K mg base A6 (k+1) f fd ["weighing"] (Ba (A4 BH AN A9 BL BE)):=GH F Fu fun cdv A outer s H E hr=>by
 have sc:=Fu;exact(AR (A5 (i:=1) sc.nd rfl (Or.inl rfl) (Ah Cv (M3 EB) hr rfl (AE (AA (pv 0)) AG)))
 (AR (A5 (i:=2) sc.nd rfl (Or.inl rfl) (Ah Dp FD hr rfl (AE (Ah Cw (M3 Dk) hr rfl (AE (AA (pv 1)) AG)) (AE (AA (pv 0)) (AE (Ah DL (M3 Eo) hr rfl (AE (AA (pv 1)) AG)) AG)))))
 (AR (Ih (C8 Uw (AA (pv 2)) JR (Bd _))
  (Ab (Bj (CK (AE (AA (pv 1)) (AE JR AG)))))
  FH)
 (Ab (Bj (CK (AE (Ac F6 (Ah Ay BC hr rfl (AE (AA (pv 2)) AG)) AV) (AE (AA (pv 2)) AG))))))))
def Jc:Aj ["_law_script", "_law_k", "_law_cell_here", "_law_number"] ["_law_script", "_law_k"] (AL HK):=C6
def HJ:DF :=
 (Aq (BW 2 (fC (.int 0)))
 (Aq (Hd (CH (EC fun i j=>decide (i<j)) (nm 1) (AK Ce (AB (nm 0) AF)))
  (BW 2 (AQ Ct (nm 0) (nm 1)))
  Ee)
 (Aq (Hd (CH (EC fun i j=>decide (j≤i)) (nm 2) (AQ JX (fC (.int 10)) (fC (.int 18))))
  (CP (AQ Cu (AQ FY (nm 2) (AQ JX (fC (.int 10)) (fC (.int 18)))) (AQ JX (fC (.int 10)) (fC (.int 60)))))
  Ee)
 (Aq (BW 3 (AQ Cu (AQ B6 (AQ B6 (AQ Eh (nm 2) (fC (.int 48271))) (AQ Eh (nm 1) (fC (.int 69621)))) (fC (.int 11))) (fC (.int 2147483629))))
 (Aq (BW 3 (AQ Cu (AQ Eh (nm 3) (nm 3)) (fC (.int 2147483587))))
 (CP (AQ B6 (AQ Eh (nm 3) (fC (.int 2147483563))) (AQ Cu (AQ Eh (nm 3) (nm 3)) (fC (.int 2147483563))))))))))
def BS:MD:=CQ ["_law_script", "_law_k"] ["_law_script", "_law_k", "_law_cell_here", "_law_number"] (HJ)
def OZ{k:Nat}(F:Fn K mg "_law_cell" HK ["_law_script", "_law_k"] f fd)(Bp:mg "len" = none) :
  AM P w K mg base A6 (k+1) f fd ["_law_script", "_law_k"] (Ba (BS)):=GH F Jc fun cdv A outer s H E hr=>by
 have sc:=Jc;exact(AR (A5 (i:=2) sc.nd rfl (Or.inl rfl) AV)
 (AR (Ih (C8 QV (AA (pv 1)) (CG FO rfl Bp aw (AE (AA (pv 0)) AG)) (Bd _))
  (Ab (A5 (i:=2) sc.nd rfl (Or.inl rfl) (DN (AA (pv 0)) (AA (pv 1)) (fun _ _=>rfl))))
  FH)
 (AR (Ih (C8 Za (AA (pv 2)) (Ac Lc AV AV) (Bd _))
  (Ab (Bj (Ac Dl (Ac F6 (AA (pv 2)) (Ac Lc AV AV)) (Ac Lc AV AV))))
  FH)
 (AR (A5 (i:=3) sc.nd rfl (Or.inl rfl) (Ac Dl (Ac Bc (Ac Bc (Ac D5 (AA (pv 2)) AV) (Ac D5 (AA (pv 1)) AV)) AV) AV))
 (AR (A5 (i:=3) sc.nd rfl (Or.inl rfl) (Ac Dl (Ac D5 (AA (pv 3)) (AA (pv 3))) AV))
 (Ab (Bj (Ac Bc (Ac D5 (AA (pv 3)) AV) (Ac Dl (Ac D5 (AA (pv 3)) (AA (pv 3))) AV)))))))))
def Kf:Aj ["_law_one", "_law_other"] ["_law_one", "_law_other"] (AL IP):=C6
def LJ(BI:MD):DF :=
 (CP (AK BI (AB (AQ B6 (AQ Eh (AQ Ct (nm 0) (fC (.int 0))) (AQ Ct (nm 1) (fC (.int 1)))) (AQ Eh (AQ Ct (nm 1) (fC (.int 0))) (AQ Ct (nm 0) (fC (.int 1))))) (AB (AQ Eh (AQ Ct (nm 0) (fC (.int 1))) (AQ Ct (nm 1) (fC (.int 1)))) AF))))
def B7(BI:MD):MD:=CQ ["_law_one", "_law_other"] ["_law_one", "_law_other"] (LJ BI)
def O0{k:Nat}{BI:MD}(F:Fn K mg "_law_add" IP ["_law_one", "_law_other"] f fd)
 {D7:AD}{DY:FuncData}(Cc:Fn K mg "_law_frac" FN ["_law_top", "_law_bottom"] D7 DY)(DD:AM P w K mg base A6 k D7 DY ["_law_top", "_law_bottom"] (Ba BI)) :
  AM P w K mg base A6 (k+1) f fd ["_law_one", "_law_other"] (Ba (B7 BI)):=GH F Kf fun cdv A outer s H E hr=>by
 have sc:=Kf;exact(Ab (Bj (Ah Cc DD hr rfl (AE (Ac Bc (Ac D5 (DN (AA (pv 0)) AV (fun _ _=>rfl)) (DN (AA (pv 1)) AV (fun _ _=>rfl))) (Ac D5 (DN (AA (pv 1)) AV (fun _ _=>rfl)) (DN (AA (pv 0)) AV (fun _ _=>rfl)))) (AE (Ac D5 (DN (AA (pv 0)) AV (fun _ _=>rfl)) (DN (AA (pv 1)) AV (fun _ _=>rfl))) AG)))))
def Nb:Aj ["_law_tree"] ["_law_tree"] (AL HL):=C6
def KW(Al:MD):DF :=
 (CP (AK Im (AB (XH (AK (HM false) (AB (IZ (Dc 1) IH (AK Al (AB (nm 1) AF)) [none,none] (FG (nm 0))) AF)) (bw (fC (.int 1)))) AF)))
def Al:Nat→MD
 |0=>fun _=>none
 |n+1=>CQ ["_law_tree"] ["_law_tree"] (KW (Al n))
def Jf{k:Nat}(Bi:Fn K mg "_law_kept" HL ["_law_tree"] f fd)(Bm:mg "sorted" = none)(CB:mg "tuple" = none):∀n,
  AM P w K mg base A6 (k+n+1) f fd ["_law_tree"] (Ba (Al n))
 |0=>Dg fun _ _ _ _ ⟨_,_,_,h,_⟩=>by cases h
 |n+1=>by
  have sc:=Nb;have Bw:=Jf (k:=k) Bi Bm CB n;refine GH (k:=k+n+1) (F:=KW (Al n)) Bi sc fun cdv A outer s H E hr=>?_;exact(Ab (Bj (JQ OB rfl CB PyProof.Rows.boot_tuple (AE (Wj (CG (Vi (by have:=hr.units;exact this)) rfl Bm PyProof.Rows.boot_sorted (AE (Jy [".0", "_law_bough"] 1 [none,none] (Df (AA (pv 0))) (fun _ _ _ _ _=>F7) (fun _ _ _ _ _=>(Ah Bi Bw hr rfl (AE (AA (pv 1)) AG)))) AG)) (Wi AV)) AG))))
def L7:Aj ["_law_tree", "_law_found", "_law_k"] ["_law_tree"] (AL Ff):=C6
def Iw(Al:MD)(A0:MD):DF :=
 (Aq (BW 1 (Ni (AB (AK Al (AB (AQ B6 (nm 0) (CL (AB (CL AF) AF))) AF)) AF)))
 (Aq (DH (Cg Fl (AB (AK Ce (AB (nm 0) AF)) AF)) (EG 2)
  (BW 1 (AQ B6 (nm 1) (IZ (Dc 1) IH (AK Al (AB (AQ B6 (AQ B6 (QS (nm 2) Mx (M1 (nm 3))) (CL (AB (nm 1) AF))) (QS (nm 2) (M1 (AQ B6 (nm 3) (fC (.int 1)))) Mx)) AF)) [none,none,some 0,some 2] (FG (AK A0 (AB (AQ Ct (nm 0) (nm 2)) AF)))))))
 (CP (nm 1))))
def A0(Al:MD):Nat→MD
 |0=>fun _=>none
 |n+1=>CQ ["_law_tree"] ["_law_tree", "_law_found", "_law_k"] (Iw Al (A0 Al n))
def Hu{k:Nat}{Al:MD}(Bn:Fn K mg "_law_longer" Ff ["_law_tree"] f fd)
 {Ke:AD}{JG:FuncData}(Bi:Fn K mg "_law_kept" HL ["_law_tree"] Ke JG)(Bw:AM P w K mg base A6 k Ke JG ["_law_tree"] (Ba Al))(Bp:mg "len" = none)(Bf:mg "range" = none):∀n,
  AM P w K mg base A6 (k+n+1) f fd ["_law_tree"] (Ba (A0 Al n))
 |0=>Dg fun _ _ _ _ ⟨_,_,_,h,_⟩=>by cases h
 |n+1=>by
  have sc:=L7;have DB:=Hu (k:=k) (Al:=Al) Bn Bi Bw Bp Bf n;have Bw:=Bw.mono (show k≤k+n+1 by omega);refine GH (k:=k+n+1) (F:=Iw Al (A0 Al n)) Bn sc fun cdv A outer s H E hr=>?_;exact(AR (A5 (i:=1) sc.nd rfl (Or.inl rfl) (JT (AE (Ah Bi Bw hr rfl (AE (Ac Bc (AA (pv 0)) (CK (AE (CK AG) AG))) AG)) AG)))
 (AR (Cs aR rfl (Gy rfl Bf (AE (CG FO rfl Bp aw (AE (AA (pv 0)) AG)) AG)) (Cn (BX (i:=2) sc.nd rfl (Or.inr rfl)))
  (Ab (A5 (i:=1) sc.nd rfl (Or.inl rfl) (Ac Bc (AA (pv 1)) (Jy [".0", "_law_more", "_law_tree", "_law_k"] 1 [none,none,some 0,some 2] (Df (Ah Bn DB hr rfl (AE (DN (AA (pv 0)) (AA (pv 2)) (fun _ _=>rfl)) AG))) (fun _ _ _ _ _=>F7) (fun _ _ _ _ _=>(Ah Bi Bw hr rfl (AE (Ac Bc (Ac Bc (Ii (AA (pv 2)) Jz (J4 (AA (pv 3)))) (CK (AE (AA (pv 1)) AG))) (Ii (AA (pv 2)) (J4 (Ac Bc (AA (pv 3)) AV)) Jz)) AG))))))))
 (Ab (Bj (AA (pv 1))))))
def Iu:Aj ["_law_most", "_law_found", "_law_row", "_law_many", "_law_wider", "_law_tree"] ["_law_most"] (AL Gi):=C6
def Nv(A0:MD):DF :=
 (Aq (BW 1 (Ni AF))
 (Aq (BW 2 (Ni (AB (CL AF) AF)))
 (Aq (DH (Cg Fl (AB (nm 0) AF)) (EG 3)
  (Aq (BW 1 (AQ B6 (nm 1) (nm 2)))
  (Aq (BW 4 (Ni AF))
  (Aq (DH (FG (nm 2)) (EG 5)
   (BW 4 (AQ B6 (nm 4) (AK A0 (AB (nm 5) AF)))))
  (OT 2 (nm 4))))))
 (CP (nm 1)))))
def Bk(A0:MD):MD:=CQ ["_law_most"] ["_law_most", "_law_found", "_law_row", "_law_many", "_law_wider", "_law_tree"] (Nv A0)
def Mp{k:Nat}{A0:MD}(F:Fn K mg "_law_trees" Gi ["_law_most"] f fd)
 {Iy:AD}{HV:FuncData}(Bn:Fn K mg "_law_longer" Ff ["_law_tree"] Iy HV)(DB:AM P w K mg base A6 k Iy HV ["_law_tree"] (Ba A0))(Bf:mg "range" = none)(Ju:mg "set" = none)(Bm:mg "sorted" = none) :
  AM P w K mg base A6 (k+1) f fd ["_law_most"] (Ba (Bk A0)):=GH F Iu fun cdv A outer s H E hr=>by
 have sc:=Iu;exact(AR (A5 (i:=1) sc.nd rfl (Or.inl rfl) (JT AG))
 (AR (A5 (i:=2) sc.nd rfl (Or.inl rfl) (JT (AE (CK AG) AG)))
 (AR (Cs aR rfl (Gy rfl Bf (AE (AA (pv 0)) AG)) (Cn (BX (i:=3) sc.nd rfl (Or.inl rfl)))
  (AR (A5 (i:=1) sc.nd rfl (Or.inl rfl) (Ac Bc (AA (pv 1)) (AA (pv 2))))
  (AR (A5 (i:=4) sc.nd rfl (Or.inl rfl) (JT AG))
  (AR (Cs aR rfl (Df (AA (pv 2))) (Cn (BX (i:=5) sc.nd rfl (Or.inl rfl)))
   (Ab (A5 (i:=4) sc.nd rfl (Or.inl rfl) (Ac Bc (AA (pv 4)) (Ah Bn DB hr rfl (AE (AA (pv 5)) AG))))))
  (Ab (Q8 (i:=2) rfl (by have:=hr.units;exact this) rfl Bm rfl Ju (AA (pv 4)) sc.nd rfl (Or.inl rfl)))))))
 (Ab (Bj (AA (pv 1)))))))
def Ml:Aj ["_law_tree"] ["_law_tree"] (AL EY):=C6
def JJ(AU:MD):DF :=
 (CP (AQ B6 (fC (.int 1)) (AK Qw (AB (IZ (Dc 1) IH (AK AU (AB (nm 1) AF)) [none,none] (FG (nm 0))) AF))))
def AU:Nat→MD
 |0=>fun _=>none
 |n+1=>CQ ["_law_tree"] ["_law_tree"] (JJ (AU n))
def Ir{k:Nat}(BG:Fn K mg "_law_knots" EY ["_law_tree"] f fd)(Gr:mg "sum" = none):∀n,
  AM P w K mg base A6 (k+n+1) f fd ["_law_tree"] (Ba (AU n))
 |0=>Dg fun _ _ _ _ ⟨_,_,_,h,_⟩=>by cases h
 |n+1=>by
  have sc:=Ml;have BP:=Ir (k:=k) BG Gr n;refine GH (k:=k+n+1) (F:=JJ (AU n)) BG sc fun cdv A outer s H E hr=>?_;exact(Ab (Bj (Ac Bc AV (CG (Sl rfl) rfl Gr PyProof.Rows.boot_sum (AE (Jy [".0", "_law_bough"] 1 [none,none] (Df (AA (pv 0))) (fun _ _ _ _ _=>F7) (fun _ _ _ _ _=>(Ah BG BP hr rfl (AE (AA (pv 1)) AG)))) AG)))))
def LM:Aj ["_law_tree", "_law_found", "_law_bough"] ["_law_tree"] (AL E6):=C6
def Hi(AU:MD)(An:MD):DF :=
 (Aq (BW 1 (AK AU (AB (nm 0) AF)))
 (Aq (DH (FG (nm 0)) (EG 2)
  (BW 1 (AQ Eh (nm 1) (AK An (AB (nm 2) AF)))))
 (CP (nm 1))))
def An(AU:MD):Nat→MD
 |0=>fun _=>none
 |n+1=>CQ ["_law_tree"] ["_law_tree", "_law_found", "_law_bough"] (Hi AU (An AU n))
def G6{k:Nat}{AU:MD}(BU:Fn K mg "_law_density" E6 ["_law_tree"] f fd)
 {Dd:AD}{C9:FuncData}(BG:Fn K mg "_law_knots" EY ["_law_tree"] Dd C9)(BP:AM P w K mg base A6 k Dd C9 ["_law_tree"] (Ba AU)):∀n,
  AM P w K mg base A6 (k+n+1) f fd ["_law_tree"] (Ba (An AU n))
 |0=>Dg fun _ _ _ _ ⟨_,_,_,h,_⟩=>by cases h
 |n+1=>by
  have sc:=LM;have CF:=G6 (k:=k) (AU:=AU) BU BG BP n;have BP:=BP.mono (show k≤k+n+1 by omega);refine GH (k:=k+n+1) (F:=Hi AU (An AU n)) BU sc fun cdv A outer s H E hr=>?_;exact(AR (A5 (i:=1) sc.nd rfl (Or.inl rfl) (Ah BG BP hr rfl (AE (AA (pv 0)) AG)))
 (AR (Cs aR rfl (Df (AA (pv 0))) (Cn (BX (i:=2) sc.nd rfl (Or.inl rfl)))
  (Ab (A5 (i:=1) sc.nd rfl (Or.inl rfl) (Ac D5 (AA (pv 1)) (Ah BU CF hr rfl (AE (AA (pv 2)) AG))))))
 (Ab (Bj (AA (pv 1))))))
def Sz:Aj ["_law_script", "_law_cell_here", "_law_most", "_law_trees_here", "_law_weighing", "_law_k", "_law_number", "_law_at", "_law_due", "_law_handed", "_law_found"] ["_law_script"] (AL VC):=C6
def VD(B7:MD)(BS:MD)(An:MD)(BI:MD)(AU:MD)(Bk:MD)(A4:MD):DF :=
 (Aq (BW 1 (AK BS (AB (nm 0) (AB (fC (.int 0)) AF))))
 (Aq (BW 2 (AQ Cu (nm 1) (fC (.int 8))))
 (Aq (BW 3 (AK Bk (AB (nm 2) AF)))
 (Aq (VA 4 (Eg (Dc 1) IH (CL (AB (fC (.int 1)) (AB (AK An (AB (nm 1) AF)) AF))) [none,none] (FG (nm 3))))
 (Aq (DH (Cg Fl (AB (AQ Cu (AQ Fm (nm 1) (fC (.int 8))) (fC (.int 4))) AF)) (EG 5)
  (Hd (CH (EC fun i j=>decide (j<i)) (AK Ce (AB (nm 3) AF)) (fC (.int 0)))
   (Aq (BW 6 (AK BS (AB (nm 0) (AB (AQ B6 (fC (.int 1)) (nm 5)) AF))))
   (Aq (BW 7 (AQ FY (AQ FY (AK Ce (AB (nm 3) AF)) (fC (.int 1))) (AQ Cu (nm 6) (AK Ce (AB (nm 3) AF)))))
   (QY 4 (AK B7 (AB (Sj 4 (nm 7)) (AB (AK BI (AB (AQ FY (AQ Cu (AQ Fm (nm 6) (fC (.int 85))) (fC (.int 3))) (fC (.int 1))) (AB (AQ B6 (fC (.int 1)) (AQ Cu (AQ Fm (nm 6) (fC (.int 255))) (fC (.int 5)))) AF))) AF))) (nm 7))))
   Ee))
 (Aq (BW 8 (CL (AB (nm 2) (AB (fC .none) AF))))
 (Aq (DH (Cg Fl (AB (AK Ce (AB (nm 3) AF)) AF)) (EG 5)
  (Hd (Qq (QF (CH (O6 false) (AQ Ct (nm 8) (fC (.int 1))) (fC .none)) (CH (D4 true) (AQ Ct (nm 4) (nm 5)) (CL (AB (fC (.int 1)) (AB (AK An (AB (AQ Ct (nm 3) (nm 5)) AF)) AF))))))
   (BW 8 (CL (AB (AQ FY (AK AU (AB (AQ Ct (nm 3) (nm 5)) AF)) (fC (.int 1))) (AB (AQ Ct (nm 3) (nm 5)) AF))))
   Ee))
 (Aq (T5 4 (BW 9 (AK Ls (AB (nm 4) AF))))
 (Aq (BW 10 (AK A4 (AB (nm 9) AF)))
 (Aq (Hd (Pr (UL (OX (Y2 Hr (nm 10)))) (Pr (CH (D4 true) (nm 10) (nm 8)) (OX (Y2 EL (AQ Ct (nm 10) (fC (.int 0)))))))
  (CP (fC (.bool false)))
  Ee)
 (T5 4 (CP (XM (AQ (D4 false) (nm 9) (nm 4)) (AQ (D4 false) (AK A4 (AB (nm 9) AF)) (nm 8)))))))))))))))
def Ux(B7:MD)(BS:MD)(An:MD)(BI:MD)(AU:MD)(Bk:MD)(A4:MD):MD:=CQ ["_law_script"] ["_law_script", "_law_cell_here", "_law_most", "_law_trees_here", "_law_weighing", "_law_k", "_law_number", "_law_at", "_law_due", "_law_handed", "_law_found"] (VD B7 BS An BI AU Bk A4)
def YL{k:Nat}{B7:MD}{BS:MD}{An:MD}{BI:MD}{AU:MD}{Bk:MD}{A4:MD}(F:Fn K mg "law" VC ["_law_script"] f fd)
 {LG:AD}{Ka:FuncData}(F3:Fn K mg "_law_add" IP ["_law_one", "_law_other"] LG Ka)(Ie:AM P w K mg base A6 k LG Ka ["_law_one", "_law_other"] (Ba B7))
 {Kc:AD}{JO:FuncData}(D8:Fn K mg "_law_cell" HK ["_law_script", "_law_k"] Kc JO)(FJ:AM P w K mg base A6 k Kc JO ["_law_script", "_law_k"] (Ba BS))
 {Hj:AD}{Gs:FuncData}(BU:Fn K mg "_law_density" E6 ["_law_tree"] Hj Gs)(CF:AM P w K mg base A6 k Hj Gs ["_law_tree"] (Ba An))
 {D7:AD}{DY:FuncData}(Cc:Fn K mg "_law_frac" FN ["_law_top", "_law_bottom"] D7 DY)(DD:AM P w K mg base A6 k D7 DY ["_law_top", "_law_bottom"] (Ba BI))
 {Dd:AD}{C9:FuncData}(BG:Fn K mg "_law_knots" EY ["_law_tree"] Dd C9)(BP:AM P w K mg base A6 k Dd C9 ["_law_tree"] (Ba AU))
 {Ja:AD}{I0:FuncData}(Ej:Fn K mg "_law_trees" Gi ["_law_most"] Ja I0)(GZ:AM P w K mg base A6 k Ja I0 ["_law_most"] (Ba Bk))
 {GD:AD}{Fp:FuncData}(CJ:Fn K mg "weighing_order" EI ["weighing"] GD Fp)(C3:AM P w K mg base A6 k GD Fp ["weighing"] (Ba A4))(HQ:mg "bool" = none)(A3:mg "isinstance" = none)(Bp:mg "len" = none)(Ht:mg "list" = none)(Bf:mg "range" = none)(CB:mg "tuple" = none) :
  AM P w K mg base A6 (k+1) f fd ["_law_script"] (Ba (Ux B7 BS An BI AU Bk A4)):=GH F Sz fun cdv A outer s H E hr=>by
 have sc:=Sz;exact(AR (A5 (i:=1) sc.nd rfl (Or.inl rfl) (Ah D8 FJ hr rfl (AE (AA (pv 0)) (AE AV AG))))
 (AR (A5 (i:=2) sc.nd rfl (Or.inl rfl) (Ac Dl (AA (pv 1)) AV))
 (AR (A5 (i:=3) sc.nd rfl (Or.inl rfl) (Ah Ej GZ hr rfl (AE (AA (pv 2)) AG)))
 (AR (VS (i:=4) [".0", "_law_tree"] 1 [none,none] sc.nd rfl rfl (Df (AA (pv 3))) (fun _ _ _ _ _=>F7) (fun _ _ _ _ _=>(CK (AE AV (AE (Ah BU CF hr rfl (AE (AA (pv 1)) AG)) AG)))))
 (AR (Cs aR rfl (Gy rfl Bf (AE (Ac Dl (Ac Lg (AA (pv 1)) AV) AV) AG)) (Cn (BX (i:=5) sc.nd rfl (Or.inl rfl)))
  (Ab (Ih (C8 QG (CG FO rfl Bp aw (AE (AA (pv 3)) AG)) AV (Bd _))
   (AR (A5 (i:=6) sc.nd rfl (Or.inl rfl) (Ah D8 FJ hr rfl (AE (AA (pv 0)) (AE (Ac Bc AV (AA (pv 5))) AG))))
   (AR (A5 (i:=7) sc.nd rfl (Or.inl rfl) (Ac F6 (Ac F6 (CG FO rfl Bp aw (AE (AA (pv 3)) AG)) AV) (Ac Dl (AA (pv 6)) (CG FO rfl Bp aw (AE (AA (pv 3)) AG)))))
   (Ab (YW (pv 4) (AA (pv 7)) (Ah F3 Ie hr rfl (AE (Tu (pv 4) (AA (pv 7)) (fun _ _=>rfl)) (AE (Ah Cc DD hr rfl (AE (Ac F6 (Ac Dl (Ac Lg (AA (pv 6)) AV) AV) AV) (AE (Ac Bc AV (Ac Dl (Ac Lg (AA (pv 6)) AV) AV)) AG))) AG))) (fun h1 h2 h3=>Xb h1 (YQ h2 h3 set_list))))))
   FH)))
 (AR (A5 (i:=8) sc.nd rfl (Or.inl rfl) (CK (AE (AA (pv 2)) (AE JR AG))))
 (AR (Cs aR rfl (Gy rfl Bf (AE (CG FO rfl Bp aw (AE (AA (pv 3)) AG)) AG)) (Cn (BX (i:=5) sc.nd rfl (Or.inl rfl)))
  (Ab (Ih (V7 (DW.dt (Xk (C8 Uw (DN (AA (pv 8)) AV (fun _ _=>rfl)) JR (Bd _)) (Jh (C8 (Qy (by have:=hr.units;exact this)) (DN (AA (pv 4)) (AA (pv 5)) (fun _ _=>rfl)) (CK (AE AV (AE (Ah BU CF hr rfl (AE (DN (AA (pv 3)) (AA (pv 5)) (fun _ _=>rfl)) AG)) AG))) (Bd _))))))
   (Ab (A5 (i:=8) sc.nd rfl (Or.inl rfl) (CK (AE (Ac F6 (Ah BG BP hr rfl (AE (DN (AA (pv 3)) (AA (pv 5)) (fun _ _=>rfl)) AG)) AV) (AE (DN (AA (pv 3)) (AA (pv 5)) (fun _ _=>rfl)) AG)))))
   FH)))
 (AR (Nz 4 (A5 (i:=9) sc.nd rfl (Or.inl rfl) (JQ Vl rfl Ht PyProof.Rows.boot_list (AE (AA (pv 4)) AG))))
 (AR (A5 (i:=10) sc.nd rfl (Or.inl rfl) (Ah CJ C3 hr rfl (AE (AA (pv 9)) AG)))
 (AR (Ih (DW.dt (LC (RL (OA (RV (OJ _) rfl A3 rfl CB PyProof.Rows.boot_tuple (AA (pv 10))))) (LC (C8 (Qy (by have:=hr.units;exact this)) (AA (pv 10)) (AA (pv 8)) (Bd _)) (Jh (OA (RV (MQ _) rfl A3 rfl HQ PyProof.Rows.boot_bool (DN (AA (pv 10)) AV (fun _ _=>rfl))))))))
  (Ab (Bj Zw))
  FH)
 (Ab (Nz 4 (Bj (Yw (Sk (U8 (by have:=hr.units;exact this)) (AA (pv 9)) (AA (pv 4)) (Bd _)) (YB (Sk (U8 (by have:=hr.units;exact this)) (Ah CJ C3 hr rfl (AE (AA (pv 9)) AG)) (AA (pv 8)) (Bd _)))))))))))))))))
end
abbrev ZQ:MD:=Al 9
abbrev WR:MD:=A0 ZQ 9
abbrev D0:MD:=Bk WR
abbrev bQ:MD:=Ae Aa 9
abbrev GN(C:AD):List PD→Option Xr:=A9 (CA bQ C) C
def Ax:Nat→List Tr
 |0=>[]
 |n+1=>Ax n++TH.tz n
abbrev AO(n:Nat):PD:=.list (B8 (Tr.of (Ax n)))
def Vq:D0 [.int 0]=some (AO 0):=by kernel_rfl
def WJ:D0 [.int 1]=some (AO 1):=by kernel_rfl
def Vt:D0 [.int 2]=some (AO 2):=by kernel_rfl
def WQ:D0 [.int 3]=some (AO 3):=by kernel_rfl
def VX:D0 [.int 4]=some (AO 4):=by kernel_rfl
def Vy:D0 [.int 5]=some (AO 5):=by kernel_rfl
def WM:D0 [.int 6]=some (AO 6):=by kernel_rfl
def V9:D0 [.int 7]=some (AO 7):=by kernel_rfl
def cM(C:AD):GN C [.int 0]=some (.inl (AO 0)):=by kernel_rfl
def bf(C:AD):GN C [.int 1]=some (.inl (AO 1)):=by kernel_rfl
def bc(C:AD):GN C [.int 2]=some (.inl (AO 2)):=by kernel_rfl
def cJ(C:AD):GN C [.int 3]=some (.inl (AO 3)):=by kernel_rfl
def bj(C:AD):GN C [.int 4]=some (.inl (AO 4)):=by kernel_rfl
def b9(C:AD):GN C [.int 5]=some (.inl (AO 5)):=by kernel_rfl
def cP(C:AD):GN C [.int 6]=some (.inl (AO 6)):=by kernel_rfl
def cH(C:AD):GN C [.int 7]=some (.inl (AO 7)):=by kernel_rfl
def Ti{n:Nat}(h:n≤7):D0 [.int (n:Nat)]=some (AO n):=by
 rcases n with _|_|_|_|_|_|_|_|n
 ·exact Vq
 ·exact WJ
 ·exact Vt
 ·exact WQ
 ·exact VX
 ·exact Vy
 ·exact WM
 ·exact V9
 ·omega
def Uu{n:Nat}(h:n≤7)(C:AD):GN C [.int (n:Nat)]=some (.inl (AO n)):=by
 rcases n with _|_|_|_|_|_|_|_|n
 ·exact cM C
 ·exact bf C
 ·exact bc C
 ·exact cJ C
 ·exact bj C
 ·exact b9 C
 ·exact cP C
 ·exact cH C
 ·omega
def A1:Nat→Nat
 |0=>0|1=>1|2=>2|3=>4|4=>8|5=>17|6=>37|_=>85
def OV:∀n,n≤7→(Ax n).length=A1 n:=by decide +kernel
def RN(n:Nat):∀k,∃us,Ax (n+k)=Ax n++us
 |0=>⟨[],by rw[List.append_nil];rfl⟩
 |k+1=>by
  obtain⟨us,h⟩:=RN n k;exact⟨us++TH.tz (n+k),by rw[←List.append_assoc,←h];rfl⟩
def JF{n:Nat}(h:n≤7){t:Tr}(ht:t∈Ax n):t∈Ax 7:=by
 obtain⟨us,e⟩:=RN n (7-n);rw[show n+(7-n)=7 by omega]at e;rw[e];exact List.mem_append_left _ ht
def AY(r:Rat):PD:=.tuple [.int r.num,.int (r.den:Int)]
def Wn(r:Rat):DJ (AY r)=true:=by
 have h:=r.den_nz;have k:=r.reduced;rw[AY,DJ,decide_eq_true (show(1:Int)≤(r.den:Int) by omega),Bool.true_and];rw[beq_iff_eq];unfold FM.gi;unfold Nat.Coprime at k;rw[show r.num.gcd (r.den:Int)=1 from k]
 rfl
def Pt(r:Rat):(AY r).canLay0=true:=by unfold AY;simp only[PyData.canLay0];exact OW [r.num,(r.den:Int)]
open Classical in
section
variable{P:Program}{w:World}{K:Fg}{mg:Str→Option VL}{base:Heap}{CX:FX}{k:Nat}{f:AD}{fd:FuncData}{ps:List Str}
def Nt(ds:List PD):Option PD:=match ds with
 |[.int t,.int b]=>if b≠0∧b.natAbs<2^400 then some (AY (Rat.divInt t b)) else none
 |_=>none
def bx(F:AM P w K mg base CX k f fd ps XZ):AM P w K mg base CX k f fd ps (Ba Nt) :=
 O1 F fun ds x hm G H vs Q E d e kk=>by
  unfold Nt at hm;split at hm
  ·split at hm
   ·rename_i hh;cases hm;obtain⟨v1,v2,rfl,d1,d2⟩:=d.Wr;rw[Du]at d1 d2;subst d1 d2;refine⟨_,_,400,rfl,hh.1,by decide,hh.2,fun l H' e' hl'=>?_⟩;obtain⟨G',n1,n2,n3,n4⟩:=Z7 e e' hl' (NB [(Rat.divInt _ _).num,((Rat.divInt _ _).den:Int)]);exact kk _ G' H' n1 n2 n3 e' n4
   ·cases hm
  ·cases hm
end
def Nu{n:Nat}{ds:List PD}(h:∀d∈ds,Ok n d):Qf n ds:=by
 induction ds with
 |nil=>exact⟨by simp[PyData.canLayAll0],by simp[PyData.depthAll]⟩
 |cons d ds ih =>
  obtain⟨a,b⟩:=h d (.head _);obtain⟨a',b'⟩:=ih fun e he=>h e (.tail _ he);exact⟨by simp only[PyData.canLayAll0];rw[a,a'];rfl,by simp only[PyData.depthAll];omega⟩
def bU{n:Nat}{ds:List PD}(h:∀d∈ds,Ok n d):Ok (n+1) (.list ds):=.lst (Nu h)
def YR{n:Nat}{ds:List PD}(h:∀d∈ds,Ok n d):Ok (n+1) (.tuple ds):=.tup (Nu h)
def NC(r:Rat):Ok 1 (AY r):=YR (n:=0) fun d hd=>by
 rcases aN.mp hd with rfl|hd
 ·exact .int
 ·rw[List.mem_singleton.mp hd];exact .int
def Tg{x:PD}{n:Nat}(h:Ok n x)(hn:n≤64):D4 false x x=some (.bool true):=by
 refine(if_pos ⟨h.shaped hn,h.shaped hn⟩).trans ?_;rw[IQ x h.1];rfl
def W8{i:Nat}{f g:Dv→Option PD}{δ:Dv}{y:PD}{p:Nat}{xs:List PD}(h:f δ=some y)(k:g δ=some (.int (p:Nat)))(o:ow i δ=some xs)(hp:p<xs.length):QY i f g δ=some (.nx (δ.set i (.own (.lst (xs.set p y))))):=by
 show(f δ).bind _=_;rw[h];show(g δ).bind _=_;rw[k];show(ow i δ).bind _=_;rw[o];show(Jn xs.length (p:Int)).map _=_;have:Jn xs.length (p:Int)=some p:=by
  unfold Jn;rw[if_pos (by omega)]
  first|rfl|(rw[if_pos (by omega)];simp)|simp[hp]
 rw[this];rfl
def TX{i j:Int}{n:Nat}(h1:i.natAbs<2^n)(h2:j.natAbs<2^n)(hn:n≤9000):Eh (.int i) (.int j)=some (.int (i*j)):=SO (by
 unfold J5;rw[LB (n:=9000) (aK h1 (az (by decide) hn)),LB (n:=9000) (aK h2 (az (by decide) hn))];simp)
def div_is{i j:Int}(h:0<j)(h2:j.natAbs<2^64):Fm (.int i) (.int j)=some (.int (i / j)):=by
 refine(if_pos ⟨by omega,LB (aK h2 (az (by decide) (by decide)))⟩).trans ?_;rw[Int.fdiv_eq_ediv_of_nonneg _ (by omega)]
def RD{t b:Int}(h:b≠0)(h2:b.natAbs<2^400):Nt [.int t,.int b]=some (AY (Rat.divInt t b)):=if_pos ⟨h,h2⟩
def YH{F:DF}{δ:Dv}{o:Ou}(h:F δ=some o):S5 F δ=some (.inl o):=by show(F δ).map _=_;rw[h];rfl
def GC:∀ts:List Tr,B8 (Tr.of ts)=ts.map fun t=>.tuple (B8 t)
 |[]=>rfl
 |t::ts=>by rw[List.map_cons,←GC ts];rfl
abbrev Bl(ws:List Rat):PD:=.list (ws.map AY)
def Xz(ws:List Rat):Ei (Bl ws)=true:=by
 show(ws.map AY).all DJ=true;rw[List.all_eq_true];intro d hd;obtain⟨r,_,rfl⟩:=List.mem_map.mp hd;exact Wn r
def Yi(ws:List Rat):(Bl ws).canLay0=true:=Zs fun d hd=>by obtain⟨t,_,rfl⟩:=List.mem_map.mp hd;exact Pt t
abbrev YT(C:AD):List PD→Option Xr:=Ar (mB Ei) C
abbrev Sx(C:AD):List PD→Option Xr:=BE (YT C)
def XY{n:Nat}(hn:n≤7){ws:List Rat}(hl:ws.length=A1 n)(C:AD):YT C [Bl ws]=some (.inl .none):=by
 refine Vf (δ:=[.d (Bl ws)]) rfl ?_;unfold Em;refine ZW (Q5 (WH (O4 (BN (xs:=[Bl ws]) rfl (cR (Yi ws) (Xz ws))))) ?_) rfl;refine O4 ?_;show VH true _ (.int ((ws.map AY).length:Nat))=_;rw[List.length_map,hl];rcases n with _|_|_|_|_|_|_|_|n<;>first|rfl|omega
def T9{n:Nat}(hn:n≤7){ws:List Rat}(hl:ws.length=A1 n)(C:AD):Sx C [Bl ws]=some (.inl (.int (n:Nat))):=by
 refine O8 rfl ?_;unfold GX;refine VW (UX (ds:=[Bl ws]) rfl (XY hn hl C)) ?_;have e:CP (fun δ=>((AK Ce (AB (nm 0) AF)) δ).bind (RG [0,1,2,4,8,17,37,85])) [.d (Bl ws)]=some (.rt (.int (n:Nat))):=by
  refine F9 ?_;show RG _ (.int ((ws.map AY).length:Nat))=_;rw[List.length_map,hl];rcases n with _|_|_|_|_|_|_|_|n<;>first|rfl|omega
 exact YH e
def Zt(ws:List Rat):Ok 2 (Bl ws):=bU fun d hd=>by obtain⟨q,_,rfl⟩:=List.mem_map.mp hd;exact NC q
def Pg(ns:List Int)(k:Nat):∃c,BS [A7 ns,.int (k:Nat)]=some (.int c):=by
 suffices hh:∃c,HJ [.d (A7 ns),.d (.int (k:Nat)),.no,.no]=some (.rt (.int c)) by
  obtain⟨c,h⟩:=hh;exact⟨c,HY rfl h⟩
 unfold HJ;have e1:∃c0,(Hd (CH (EC fun i j=>decide (i<j)) (nm 1) (AK Ce (AB (nm 0) AF))) (BW 2 (AQ Ct (nm 0) (nm 1))) Ee) [.d (A7 ns),.d (.int (k:Nat)),.d (.int 0),.no]=some (.nx [.d (A7 ns),.d (.int (k:Nat)),.d (.int c0),.no]):=by
  have t:CH (EC fun i j=>decide (i<j)) (nm 1) (AK Ce (AB (nm 0) AF)) [.d (A7 ns),.d (.int (k:Nat)),.d (.int 0),.no]=some (decide ((k:Int)<((ns.map PyData.int).length:Nat))):=Co (x:=.int (k:Nat)) (y:=.int ((ns.map PyData.int).length:Nat)) rfl rfl rfl;rw[List.length_map]at t;by_cases z:k<ns.length
  ·rw[decide_eq_true (show(k:Int)<(ns.length:Nat) by omega)]at t;exact⟨ns[k],KC t (CC (Af (x:=A7 ns) (y:=.int (k:Nat)) rfl rfl (Hy (by rw[List.getElem?_map,List.getElem?_eq_getElem z];rfl))))⟩
  ·rw[decide_eq_false (show ¬(k:Int)<(ns.length:Nat) by omega)]at t;exact⟨0,HE t rfl⟩
 obtain⟨c0,e1⟩:=e1;have p18:AQ JX (fC (.int 10)) (fC (.int 18)) [.d (A7 ns),.d (.int (k:Nat)),.d (.int c0),.no]=some (.int ((10:Int)^18)):=Af (x:=.int 10) (y:=.int 18) rfl rfl (RJ (n:=18) (by decide) (by decide));have p60:AQ JX (fC (.int 10)) (fC (.int 60)) [.d (A7 ns),.d (.int (k:Nat)),.d (.int c0),.no]=some (.int ((10:Int)^60)):=Af (x:=.int 10) (y:=.int 60) rfl rfl (RJ (n:=60) (by decide) (by decide));have t2:CH (EC fun i j=>decide (j≤i)) (nm 2) (AQ JX (fC (.int 10)) (fC (.int 18))) [.d (A7 ns),.d (.int (k:Nat)),.d (.int c0),.no]=some (decide ((10:Int)^18≤c0)):=Co (x:=.int c0) (y:=.int ((10:Int)^18)) rfl p18 rfl;by_cases z:(10:Int)^18≤c0
 ·rw[decide_eq_true z]at t2;exact⟨_,BB rfl (BB e1 (Lp (KC t2 (F9 (Af (x:=.int (c0-(10:Int)^18)) (Af (x:=.int c0) rfl p18 rfl) p60 (mod_is (Int.pow_pos (by decide))))))))⟩
 ·rw[decide_eq_false z]at t2;have hn:∀(a:Int) (m:Int),0<m→m<2^60→(a % m).natAbs<2^64:=fun a m h0 h1=>by
   have:=Int.emod_nonneg a (by omega:m≠0);have:=Int.emod_lt_of_pos a h0;omega
  generalize hv:(c0*48271+(k:Int)*69621+11) % 2147483629=v;have v1:v.natAbs<2^64:=by rw[←hv];exact hn _ _ (by decide) (by decide)
  generalize hu:v*v % 2147483587=u;have u1:u.natAbs<2^64:=by rw[←hu];exact hn _ _ (by decide) (by decide)
  refine⟨_,BB rfl (BB e1 (BB (HE t2 rfl) (BB (CC (y:=.int v) ?_) (BB (CC (y:=.int u) ?_) (F9 (Af (x:=.int (u*2147483563)) (y:=.int (u*u % 2147483563)) (Af (x:=.int u) (y:=.int 2147483563) rfl rfl (mul_r (by decide))) (Af (x:=.int (u*u)) (y:=.int 2147483563) (Af (x:=.int u) (y:=.int u) rfl rfl (mul_r u1)) rfl (mod_is (by decide))) rfl))))))⟩
  ·refine Af (x:=.int (c0*48271+(k:Int)*69621+11)) (y:=.int 2147483629) (Af (x:=.int (c0*48271+(k:Int)*69621)) (y:=.int 11) (Af (x:=.int (c0*48271)) (y:=.int ((k:Int)*69621)) (Af (x:=.int c0) (y:=.int 48271) rfl rfl (mul_r (by decide))) (Af (x:=.int (k:Nat)) (y:=.int 69621) rfl rfl (mul_r (by decide))) rfl) rfl rfl) rfl ((mod_is (by decide)).trans ?_);rw[hv]
  ·refine Af (x:=.int (v*v)) (y:=.int 2147483587) (Af (x:=.int v) (y:=.int v) rfl rfl (mul_r v1)) rfl ((mod_is (by decide)).trans ?_);rw[hu]
abbrev UC:MD:=B7 Nt
def Yb{p q:Rat}(hp:FM.Fits p 190)(hq:FM.Fits q 190):UC [AY p,AY q]=some (AY (p+q)):=by
 refine HY rfl ?_;unfold LJ;refine F9 (BN (xs:=[.int (p.num*q.den+q.num*p.den),.int ((p.den:Int)*q.den)]) (Ap (Af (x:=.int (p.num*q.den)) (y:=.int (q.num*p.den)) (Af (x:=.int p.num) (y:=.int (q.den:Int)) rfl rfl (TX hp.1 hq.d (by decide))) (Af (x:=.int q.num) (y:=.int (p.den:Int)) rfl rfl (TX hq.1 hp.d (by decide))) rfl) (Ap (Af (x:=.int (p.den:Int)) (y:=.int (q.den:Int)) rfl rfl (TX hp.d hq.d (by decide))) rfl)) ?_);refine(RD (FM.PH p q) (aK (FM.dd hp hq) (az (by decide) (by decide)))).trans ?_;rw[FM.RB]
def Tx(p q:Rat):PyData.eqv (AY p) (AY q)=decide (p=q):=by
 by_cases h:p=q
 ·subst h;rw[decide_eq_true rfl];exact IQ _ (Pt p)
 ·rw[decide_eq_false h];refine Bool.eq_false_iff.mpr fun z=>h ?_;unfold AY at z;simp[PyData.eqv,PyData.eqvAll]at z;exact FM.Vu z.1 (by omega)
def L5(p q:Rat):D4 true (AY p) (AY q)=some (.bool (!decide (p=q))):=by
 refine(if_pos ⟨(NC p).shaped (by decide),(NC q).shaped (by decide)⟩).trans ?_;rw[Tx];rfl
abbrev tD(t:Tr):PD:=.tuple (B8 t)
def Um:Option Tr→PD
 |none=>.none
 |some t=>tD t
def CY:List Tr→List Rat→List Rat→Option Tr
 |t::ts,w::ws,v::vs=>if w=v then CY ts ws vs else some t
 |_,_,_=>none
def Ly:∀ {ts:List Tr} {ws vs:List Rat} {t:Tr},CY ts ws vs=some t→t∈ts
 |[],_,_,_,h=>by cases h
 |_::_,[],[],_,h=>by cases h
 |_::_,[],_::_,_,h=>by cases h
 |_::_,_::_,[],_,h=>by cases h
 |s::ts,w::ws,v::vs,t,h=>by
  unfold CY at h;split at h
  ·exact .tail _ (Ly h)
  ·cases h;exact .head _
def NO:∀ {ts:List Tr} {ws vs:List Rat} {i:Nat} {t:Tr} {w v:Rat},ts[i]? = some t→ws[i]? = some w→vs[i]? = some v→CY (ts.take (i+1)) ws vs=match CY (ts.take i) ws vs with
  |some u=>some u
  |none=>if w=v then none else some t
 |s::ts,x::ws,y::vs,0,t,w,v,h1,h2,h3=>by
  cases h1;cases h2;cases h3
  rfl
 |s::ts,x::ws,y::vs,i+1,t,w,v,h1,h2,h3=>by
  have ih:=NO (ts:=ts) (ws:=ws) (vs:=vs) (i:=i) (t:=t) (w:=w) (v:=v) (by simpa using h1) (by simpa using h2) (by simpa using h3);rw[List.take_succ_cons,List.take_succ_cons];unfold CY;by_cases h:x=y
  ·rw[if_pos h,if_pos h];exact ih
  ·rw[if_neg h,if_neg h]
 |[],_,_,_,_,_,_,h1,_,_=>by simp at h1
 |_::_,[],_,_,_,_,_,_,h2,_=>by simp at h2
 |_::_,_::_,[],_,_,_,_,_,_,h3=>by simp at h3
abbrev Hk:DF:=Hd (CH (D4 true) (nm 4) (nm 5)) (CP (nm 3)) Ee
abbrev PR(ts:List Tr)(ws vs:List Rat)(δ:Dv):Option Ou:=GI (ND 3 4 5) Hk (HA (ts.map tD) (ws.map AY) (vs.map AY)) δ
def NV{t:Tr}{ts:List Tr}{w v:Rat}{ws vs:List Rat}(a b c d e f:L)(h:w=v):PR (t::ts) (w::ws) (v::vs) [a,b,c,d,e,f]=PR ts ws vs [a,b,c,.d (tD t),.d (AY w),.d (AY v)]:=by
 have e1:Hk [a,b,c,.d (tD t),.d (AY w),.d (AY v)]=some (.nx [a,b,c,.d (tD t),.d (AY w),.d (AY v)]):=HE (Co (x:=AY w) (y:=AY v) rfl rfl ((L5 w v).trans (by rw[decide_eq_true h];rfl))) rfl;show(match Hk [a,b,c,.d (tD t),.d (AY w),.d (AY v)]with|some (.nx δ')=>_|some (.ct δ')=>_|some (.bk δ')=>_|some (.rt x)=>_|some (.rn x)=>_|none=>_)=_;rw[e1];rfl
def Su{t:Tr}{ts:List Tr}{w v:Rat}{ws vs:List Rat}(a b c d e f:L)(h:w≠v):PR (t::ts) (w::ws) (v::vs) [a,b,c,d,e,f]=some (.rt (tD t)):=by
 have e1:Hk [a,b,c,.d (tD t),.d (AY w),.d (AY v)]=some (.rt (tD t)):=KC (Co (x:=AY w) (y:=AY v) rfl rfl ((L5 w v).trans (by rw[decide_eq_false h];rfl))) rfl;show(match Hk [a,b,c,.d (tD t),.d (AY w),.d (AY v)]with|some (.nx δ')=>_|some (.ct δ')=>_|some (.bk δ')=>_|some (.rt x)=>_|some (.rn x)=>_|none=>_)=_;rw[e1]
def PF:∀ {ts:List Tr} {ws vs:List Rat} {t:Tr} (a b c d e f:L),CY ts ws vs=some t→PR ts ws vs [a,b,c,d,e,f]=some (.rt (tD t))
 |[],_,_,_,_,_,_,_,_,_,h=>by cases h
 |_::_,[],[],_,_,_,_,_,_,_,h=>by cases h
 |_::_,[],_::_,_,_,_,_,_,_,_,h=>by cases h
 |_::_,_::_,[],_,_,_,_,_,_,_,h=>by cases h
 |s::ts,w::ws,v::vs,t,a,b,c,d,e,f,h=>by
  unfold CY at h;split at h
  ·rename_i z;rw[NV a b c d e f z];exact PF a b c _ _ _ h
  ·rename_i z;cases h;exact Su a b c d e f z
def Pj:∀ {ts:List Tr} {ws vs:List Rat} (a b c d e f:L),CY ts ws vs=none→∃δ',PR ts ws vs [a,b,c,d,e,f]=some (.nx δ')
 |[],_,_,_,_,_,_,_,_,_=>⟨_,rfl⟩
 |_::_,[],[],_,_,_,_,_,_,_=>⟨_,rfl⟩
 |_::_,[],_::_,_,_,_,_,_,_,_=>⟨_,rfl⟩
 |_::_,_::_,[],_,_,_,_,_,_,_=>⟨_,rfl⟩
 |s::ts,w::ws,v::vs,a,b,c,d,e,f,h=>by
  unfold CY at h;split at h
  ·rename_i z;rw[NV a b c d e f z];exact Pj a b c _ _ _ h
  ·cases h
def first_is(n:Nat)(ws vs:List Rat):BH [AO n,Bl ws,Bl vs]=some (Um (CY (Ax n) ws vs)):=by
 refine HY rfl ?_;unfold HN;have hz:Cg Lo (AB (nm 0) (AB (nm 1) (AB (nm 2) AF))) [.d (AO n),.d (Bl ws),.d (Bl vs),.no,.no,.no]=some (HA ((Ax n).map tD) (ws.map AY) (vs.map AY)):=by
  show some (HA (B8 (Tr.of (Ax n))) (ws.map AY) (vs.map AY))=_;rw[GC]
 have hf:DH (Cg Lo (AB (nm 0) (AB (nm 1) (AB (nm 2) AF)))) (ND 3 4 5) Hk [.d (AO n),.d (Bl ws),.d (Bl vs),.no,.no,.no]=PR (Ax n) ws vs [.d (AO n),.d (Bl ws),.d (Bl vs),.no,.no,.no]:=by
  show(Cg Lo _ _).bind _=_;rw[hz];rfl
 cases h:CY (Ax n) ws vs with
 |some t=>exact Lp (hf.trans (PF _ _ _ _ _ _ h))
 |none =>
  obtain⟨δ',k⟩:=Pj (.d (AO n)) (.d (Bl ws)) (.d (Bl vs)) .no .no .no h;exact BB (hf.trans k) rfl
def ZK{a b:Dv→Option Bool}{δ:Dv}(h:a δ=some false):QF a b δ=some false:=by show(a δ).bind _=_;rw[h];rfl
def So{a b:Dv→Option Bool}{δ:Dv}{q:Option Bool}(h:a δ=some true)(k:b δ=q):QF a b δ=q:=by show(a δ).bind _=_;rw[h];exact k
abbrev SF:MD:=AU 9
abbrev Pa:MD:=An SF 9
abbrev U0:MD:=AN 9
abbrev Pb:MD:=Ak U0 9
def wq(t:Tr):Rat:=Rat.divInt 1 (t.Ij:Int)
def Rn(t:Tr):Bool:=(match Pa [tD t]with|some (.int a)=>decide (a=(t.Ij:Int))|_=>false)&&(match Pb [tD t]with|some (.int a)=>decide (a=(t.Ij:Int))|_=>false)&&(match SF [tD t]with|some (.int a)=>decide (a=(t.CT:Int))|_=>false)&&(match U0 [tD t]with|some (.int a)=>decide (a=(t.CT:Int))|_=>false)&&decide ((wq t).num=1)&&decide ((wq t).den=t.Ij)&&decide (t.Ij<2^13)&&SeqAt.shaped (.tuple [.int ((t.CT:Int)-1),tD t])&&PyData.eqv (.tuple [.int ((t.CT:Int)-1),tD t]) (.tuple [.int ((t.CT:Int)-1),tD t])
def Tq:(Ax 7).all Rn=true:=by decide +kernel
def isInt{o:Option PD}{z:Int}(h:(match o with|some (.int a)=>decide (a=z)|_=>false)=true):o=some (.int z):=by
 split at h
 ·rw[of_decide_eq_true h]
 ·cases h
def E8{t:Tr}(h:t∈Ax 7):Pa [tD t]=some (.int (t.Ij:Int))∧Pb [tD t]=some (.int (t.Ij:Int))∧SF [tD t]=some (.int (t.CT:Int))∧U0 [tD t]=some (.int (t.CT:Int))∧AY (wq t)=.tuple [.int 1,.int (t.Ij:Int)]∧FM.Fits (wq t) 13∧SeqAt.shaped (.tuple [.int ((t.CT:Int)-1),tD t])=true∧PyData.eqv (.tuple [.int ((t.CT:Int)-1),tD t]) (.tuple [.int ((t.CT:Int)-1),tD t])=true:=by
 have:=List.all_eq_true.mp Tq t h;unfold Rn at this;simp only[Bool.and_eq_true]at this;obtain⟨⟨⟨⟨⟨⟨⟨⟨h1,h2⟩,h3⟩,h4⟩,h5⟩,h6⟩,h7⟩,h8⟩,h9⟩:=this;have h5:=aq h5;have h6:=aq h6;have h7:=aq h7;refine⟨isInt h1,isInt h2,isInt h3,isInt h4,?_,⟨?_,?_⟩,h8,h9⟩
 ·unfold AY;rw[h5,h6]
 ·rw[h5];decide
 ·rw[h6];exact h7
abbrev DK(n:Nat):List Rat:=(Ax n).map wq
def Lw{n:Nat}(h:n≤7):(DK n).length=A1 n:=by rw[List.length_map,OV n h]
def WU{n:Nat}(h:n≤7):∀q∈DK n,FM.Fits q 13:=fun q hq=>by
 obtain⟨t,ht,rfl⟩:=List.mem_map.mp hq;exact(E8 (JF h ht)).2.2.2.2.2.1
def RC{n:Nat}(h:n≤7):A1 n≤85:=by
 rcases n with _|_|_|_|_|_|_|_|n<;>first|decide|omega
def PM{m:MD}{n:Nat}(hn:n≤7)(hm:∀t∈Ax 7,m [tD t]=some (.int (t.Ij:Int))){δ:Dv}{fs:Dv→Option (List PD)}(hx:fs δ=some (B8 (Tr.of (Ax n)))) :
  Eg (Dc 1) IH (CL (AB (fC (.int 1)) (AB (AK m (AB (nm 1) AF)) AF))) [none,none] fs δ=some ((DK n).map AY):=by
 have key:∀ts:List Tr,(∀t∈ts,t∈Ax 7)→collect (Lu (Dc 1) IH (CL (AB (fC (.int 1)) (AB (AK m (AB (nm 1) AF)) AF))) (DV [none,none] δ)) (ts.map tD)=some ((ts.map wq).map AY):=by
  intro ts hts
  induction ts with
  |nil=>rfl
  |cons t ts ih =>
   have ht:=hts t (.head _);have hf:CL (AB (fC (.int 1)) (AB (AK m (AB (nm 1) AF)) AF)) ((DV [none,none] δ).set 1 (.d (tD t)))=some (AY (wq t)):=by
    rw[(E8 ht).2.2.2.2.1];exact HU (Ap rfl (Ap (BN (xs:=[tD t]) rfl (hm t ht)) rfl)) (by show(2:Nat)≤Cj;decide)
   have h1:Lu (Dc 1) IH (CL (AB (fC (.int 1)) (AB (AK m (AB (nm 1) AF)) AF))) (DV [none,none] δ) (tD t)=some (some (AY (wq t))):=by
    unfold Lu Dc;rw[Option.bind_some];show(some true).bind _=_;rw[Option.bind_some,if_pos rfl,hf]
    rfl
   rw[List.map_cons];unfold L2.collect;rw[h1,Option.bind_some,ih fun u hu=>hts u (.tail _ hu)]
   rfl
 unfold Eg;rw[hx,Option.bind_some,GC,key _ fun t ht=>JF hn ht,Option.bind_some,He,if_pos];rw[List.length_map,Lw hn];have:=RC hn;unfold Cj;omega
def ZJ{n:Nat}(hn:n≤7):Az Pb [AO n]=some (Bl (DK n)):=by
 refine Vj rfl ?_;unfold Hh;show(Eg _ _ _ _ _ _).map _=_;have:=PM (δ:=Fb ["trees"] [AO n]) (fs:=FG (nm 0)) hn (fun t h=>(E8 h).2.1) rfl;rw[this]
 rfl
abbrev bK(C:AD):List PD→Option Xr:=BL (GN C) (Az Pb)
def ZG{n:Nat}(hn:n≤7)(C:AD):bK C [.int (n:Nat)]=some (.inl (Bl (DK n))):=by
 refine O8 rfl ?_;unfold Gx;have e1:IL (KS (AB (nm 0) AF)) (GN C) [.d (.int (n:Nat))]=some (.inl (AO n)):=Uu hn C;have e2:IE (IL (KS (AB (nm 0) AF)) (GN C)) (KS AF) [.d (.int (n:Nat))]=some (.inl [AO n]):=by
  unfold IE;rw[e1]
  rfl
 have e3:IL (IE (IL (KS (AB (nm 0) AF)) (GN C)) (KS AF)) (fun ds=>(Az Pb ds).map .inl) [.d (.int (n:Nat))]=some (.inl (Bl (DK n))):=by
  show(match IE (IL (KS (AB (nm 0) AF)) (GN C)) (KS AF) [.d (.int (n:Nat))]with|some (.inl xs)=>_|some (.inr C)=>_|none=>_)=_;rw[e2];show(Az Pb [AO n]).map _=_;rw[ZJ hn]
  rfl
 show xE _ _ [.d (.int (n:Nat))]=_;unfold xE;rw[e3]
 rfl
def CO(n:Nat):Option Tr→PD
 |none=>.tuple [.int (n:Nat),.none]
 |some t=>.tuple [.int ((t.CT:Int)-1),tD t]
abbrev VG(C1 C2:AD):MD:=A4 BH U0 (GN C2) (bK C2) (Sx C1)
def Zq{n:Nat}(hn:n≤7){ws:List Rat}(hl:ws.length=A1 n)(C1 C2:AD):VG C1 C2 [Bl ws]=some (CO n (CY (Ax n) ws (DK n))):=by
 refine HY rfl ?_;unfold GU;refine BB (CC (y:=.int (n:Nat)) (BN (xs:=[Bl ws]) rfl (L4 (T9 hn hl C1)))) ?_;refine BB (CC (y:=Um (CY (Ax n) ws (DK n))) (BN (xs:=[AO n,Bl ws,Bl (DK n)]) (Ap (BN (xs:=[.int (n:Nat)]) rfl (L4 (Uu hn C2))) (Ap rfl (Ap (BN (xs:=[.int (n:Nat)]) rfl (L4 (ZG hn C2))) rfl))) (first_is n ws (DK n)))) ?_;cases h:CY (Ax n) ws (DK n) with
 |none=>exact Lp (KC (Co (x:=.none) (y:=.none) rfl rfl rfl) rfl)
 |some t =>
  have ht:=E8 (JF hn (Ly h));refine BB (HE (Co (x:=tD t) (y:=.none) rfl rfl rfl) rfl) ?_;exact F9 (HU (Ap (Af (x:=.int (t.CT:Int)) (y:=.int 1) (BN (xs:=[tD t]) rfl ht.2.2.2.1) rfl rfl) (Ap rfl rfl)) (by show(2:Nat)≤Cj;decide))
def WZ{n:Nat}(hn:n≤7){ws vs:List Rat}:SeqAt.shaped (CO n (CY (Ax n) ws vs))=true∧PyData.eqv (CO n (CY (Ax n) ws vs)) (CO n (CY (Ax n) ws vs))=true:=by
 cases h:CY (Ax n) ws vs with
 |none =>
  have:Ok 1 (CO n none):=YR (n:=0) fun d hd=>by
   rcases aN.mp hd with rfl|hd
   ·exact .int
   ·rw[List.mem_singleton.mp hd];exact .Ao
  exact⟨this.shaped (by decide),IQ _ this.1⟩
 |some t=>exact(E8 (JF hn (Ly h))).2.2.2.2.2.2
abbrev U9:DF:=(Hd (CH (EC fun i j=>decide (j<i)) (AK Ce (AB (nm 3) AF)) (fC (.int 0)))
   (Aq (BW 6 (AK BS (AB (nm 0) (AB (AQ B6 (fC (.int 1)) (nm 5)) AF))))
   (Aq (BW 7 (AQ FY (AQ FY (AK Ce (AB (nm 3) AF)) (fC (.int 1))) (AQ Cu (nm 6) (AK Ce (AB (nm 3) AF)))))
   (QY 4 (AK UC (AB (Sj 4 (nm 7)) (AB (AK Nt (AB (AQ FY (AQ Cu (AQ Fm (nm 6) (fC (.int 85))) (fC (.int 3))) (fC (.int 1))) (AB (AQ B6 (fC (.int 1)) (AQ Cu (AQ Fm (nm 6) (fC (.int 255))) (fC (.int 5)))) AF))) AF))) (nm 7))))
   Ee)
abbrev Wx:DF:=(Hd (Qq (QF (CH (O6 false) (AQ Ct (nm 8) (fC (.int 1))) (fC .none)) (CH (D4 true) (AQ Ct (nm 4) (nm 5)) (CL (AB (fC (.int 1)) (AB (AK Pa (AB (AQ Ct (nm 3) (nm 5)) AF)) AF))))))
   (BW 8 (CL (AB (AQ FY (AK SF (AB (AQ Ct (nm 3) (nm 5)) AF)) (fC (.int 1))) (AB (AQ Ct (nm 3) (nm 5)) AF))))
   Ee)
abbrev Xu(C1 C2:AD):MD:=Ux UC BS Pa Nt SF D0 (VG C1 C2)
section
variable{ns:List Int}{c:Int}{n:Nat}
def Pk(hn:n≤7):(B8 (Tr.of (Ax n))).length=A1 n:=by rw[GC,List.length_map,OV n hn]
def S4(hn:n≤7){vs:List Rat}(hl:vs.length=A1 n)(hv:∀q∈vs,FM.Fits q 13):∃(us:List Rat) (l5 l6 l7:L),DH (Cg Fl (AB (AQ Cu (AQ Fm (nm 1) (fC (.int 8))) (fC (.int 4))) AF)) (EG 5)
  U9 [.d (A7 ns),.d (.int c),.d (.int (n:Nat)),.d (AO n),.own (.lst (vs.map AY)),.no,.no,.no,.no,.no,.no]=some (.nx [.d (A7 ns),.d (.int c),.d (.int (n:Nat)),.d (AO n),.own (.lst (us.map AY)),l5,l6,l7,.no,.no,.no])
  ∧ us.length=A1 n:=by
 obtain⟨k,ek⟩:∃k:Nat,c / 8 % 4=(k:Int):=⟨(c / 8 % 4).toNat,by omega⟩;have hk:k≤3:=by omega
 have hr:Cg Fl (AB (AQ Cu (AQ Fm (nm 1) (fC (.int 8))) (fC (.int 4))) AF) [.d (A7 ns),.d (.int c),.d (.int (n:Nat)),.d (AO n),.own (.lst (vs.map AY)),.no,.no,.no,.no,.no,.no]=some (Ek 0 k):=by
  have:AQ Cu (AQ Fm (nm 1) (fC (.int 8))) (fC (.int 4)) [.d (A7 ns),.d (.int c),.d (.int (n:Nat)),.d (AO n),.own (.lst (vs.map AY)),.no,.no,.no,.no,.no,.no]=some (.int (k:Nat)):=Af (x:=.int (c / 8)) (y:=.int 4) (Af (x:=.int c) (y:=.int 8) rfl rfl (div_is (by decide) (by decide))) rfl ((mod_is (by decide)).trans (by rw[ek]));exact(R7 this (by omega) (by omega)).trans (by rw[Int.toNat_natCast])
 let Iv:Nat→Dv→Prop:=fun i δ=>∃(us:List Rat) (l5 l6 l7:L),δ=[.d (A7 ns),.d (.int c),.d (.int (n:Nat)),.d (AO n),.own (.lst (us.map AY)),l5,l6,l7,.no,.no,.no]∧us.length=A1 n∧∀q∈us,FM.Fits q (13+20*i)
 have lr:=Pk hn;obtain⟨δ',f1,us,l5,l6,l7,rfl,h1,_⟩:=SI (set:=EG 5) (F:=U9) Iv hr ⟨vs,.no,.no,.no,rfl,hl,hv⟩ (fun i x δ hx hI=>by
  obtain⟨us,l5,l6,l7,rfl,hu,hf⟩:=hI;obtain⟨rfl,hi⟩:=Py hx;rw[Int.zero_add];refine⟨[.d (A7 ns),.d (.int c),.d (.int (n:Nat)),.d (AO n),.own (.lst (us.map AY)),.d (.int (i:Nat)),l6,l7,.no,.no,.no],rfl,?_⟩;have el:∀(l5 l6 l7:L),AK Ce (AB (nm 3) AF) [.d (A7 ns),.d (.int c),.d (.int (n:Nat)),.d (AO n),.own (.lst (us.map AY)),l5,l6,l7,.no,.no,.no]=some (.int (A1 n:Nat)):=fun _ _ _=>by
   show some (PyData.int ((B8 (Tr.of (Ax n))).length:Nat))=_;rw[lr]
  have et:CH (EC fun i j=>decide (j<i)) (AK Ce (AB (nm 3) AF)) (fC (.int 0)) [.d (A7 ns),.d (.int c),.d (.int (n:Nat)),.d (AO n),.own (.lst (us.map AY)),.d (.int (i:Nat)),l6,l7,.no,.no,.no]=some (decide ((0:Int)<(A1 n:Nat))):=Co (x:=.int (A1 n:Nat)) (y:=.int 0) (el _ _ _) rfl rfl;by_cases z:0<A1 n
  ·rw[decide_eq_true (show(0:Int)<(A1 n:Nat) by omega)]at et;obtain⟨b,hb⟩:=Pg ns (1+i);have hb0:=Int.emod_nonneg b (show((A1 n:Nat):Int)≠0 by omega);have hb1:=Int.emod_lt_of_pos b (show(0:Int)<(A1 n:Nat) by omega);obtain⟨p,ep⟩:∃p:Nat,(A1 n:Int)-1-b % (A1 n:Nat)=(p:Int):=⟨((A1 n:Int)-1-b % (A1 n:Nat)).toNat,by omega⟩;have hp:p<A1 n:=by omega
   have hd:1+b / 255 % 5≠0:=by omega
   have hq:FM.Fits (Rat.divInt (b / 85 % 3-1) (1+b / 255 % 5)) 10:=.RA hd (by omega) (by omega);have efr:∀(l5 l7:L),AK Nt (AB (AQ FY (AQ Cu (AQ Fm (nm 6) (fC (.int 85))) (fC (.int 3))) (fC (.int 1))) (AB (AQ B6 (fC (.int 1)) (AQ Cu (AQ Fm (nm 6) (fC (.int 255))) (fC (.int 5)))) AF)) [.d (A7 ns),.d (.int c),.d (.int (n:Nat)),.d (AO n),.own (.lst (us.map AY)),l5,.d (.int b),l7,.no,.no,.no]=some (AY (Rat.divInt (b / 85 % 3-1) (1+b / 255 % 5))):=fun _ _=>by
    refine BN (xs:=[.int (b / 85 % 3-1),.int (1+b / 255 % 5)]) (Ap (Af (x:=.int (b / 85 % 3)) (y:=.int 1) (Af (x:=.int (b / 85)) (y:=.int 3) (Af (x:=.int b) (y:=.int 85) rfl rfl (div_is (by decide) (by decide))) rfl (mod_is (by decide))) rfl rfl) (Ap (Af (x:=.int 1) (y:=.int (b / 255 % 5)) rfl (Af (x:=.int (b / 255)) (y:=.int 5) (Af (x:=.int b) (y:=.int 255) rfl rfl (div_is (by decide) (by decide))) rfl (mod_is (by decide))) rfl) rfl)) (RD hd ?_);exact aK (show(1+b / 255 % 5).natAbs<2^4 by omega) (az (by decide) (by decide))
   generalize Rat.divInt (b / 85 % 3-1) (1+b / 255 % 5)=q at hq efr;have hg:us[p]? = some (us[p]'(by omega)):=bC _;have hm':us[p]'(by omega)∈us:=List.getElem_mem _;generalize us[p]'(by omega)=v at hg hm';refine⟨_,KC et (BB (δ':=[.d (A7 ns),.d (.int c),.d (.int (n:Nat)),.d (AO n),.own (.lst (us.map AY)),.d (.int (i:Nat)),.d (.int b),l7,.no,.no,.no]) (CC (BN (xs:=[A7 ns,.int ((1+i:Nat):Int)]) ?_ hb)) (BB (δ':=[.d (A7 ns),.d (.int c),.d (.int (n:Nat)),.d (AO n),.own (.lst (us.map AY)),.d (.int (i:Nat)),.d (.int b),.d (.int (p:Nat)),.no,.no,.no]) (CC (y:=.int (p:Nat)) (Af (x:=.int ((A1 n:Int)-1)) (y:=.int (b % (A1 n:Nat))) (Af (x:=.int (A1 n:Nat)) (y:=.int 1) (el _ _ _) rfl rfl) (Af (x:=.int b) (y:=.int (A1 n:Nat)) rfl (el _ _ _) (mod_is (by omega))) (by show some (PyData.int ((A1 n:Int)-1-b % (A1 n:Nat)))=_;rw[ep]))) (W8 (y:=AY (v+q)) (p:=p) (xs:=us.map AY) (BN (xs:=[AY v,AY q]) (Ap ?_ (Ap (efr _ _) rfl)) (Yb ((hf v hm').mono (by omega)) (hq.mono (by decide)))) rfl rfl (by rw[List.length_map];omega)))),us.set p (v+q),.d (.int (i:Nat)),.d (.int b),.d (.int (p:Nat)),?_,by rw[List.length_set];exact hu,fun u hu'=>?_⟩
   ·exact Ap rfl (Ap (Af (x:=.int 1) (y:=.int (i:Nat)) rfl rfl (by show some (PyData.int (1+(i:Int)))=_;rw[Int.natCast_add];rfl)) rfl)
   ·show(some (PyData.int (p:Nat))).bind _=_;exact Hy (by rw[List.getElem?_map,hg];rfl)
   ·rw[List.map_set];rfl
   ·rcases List.mem_or_eq_of_mem_set hu' with h|h
    ·exact(hf u h).mono (by omega)
    ·rw[h];exact((hf v hm').sum hq).mono (by omega)
  ·rw[decide_eq_false (show ¬(0:Int)<(A1 n:Nat) by omega)]at et;exact⟨_,HE et rfl,us,.d (.int (i:Nat)),l6,l7,rfl,hu,fun q hq=>(hf q hq).mono (by omega)⟩)
 exact⟨us,l5,l6,l7,f1,h1⟩
def Yn(hn:n≤7){vs:List Rat}(hl:vs.length=A1 n)(l5 l6 l7:L):∃l5',DH (Cg Fl (AB (AK Ce (AB (nm 3) AF)) AF)) (EG 5)
  Wx [.d (A7 ns),.d (.int c),.d (.int (n:Nat)),.d (AO n),.own (.lst (vs.map AY)),l5,l6,l7,.d (CO n none),.no,.no]=some (.nx [.d (A7 ns),.d (.int c),.d (.int (n:Nat)),.d (AO n),.own (.lst (vs.map AY)),l5',l6,l7,.d (CO n (CY (Ax n) vs (DK n))),.no,.no]):=by
 have k85:=RC hn;have lr:=Pk hn;have hr:Cg Fl (AB (AK Ce (AB (nm 3) AF)) AF) [.d (A7 ns),.d (.int c),.d (.int (n:Nat)),.d (AO n),.own (.lst (vs.map AY)),l5,l6,l7,.d (CO n none),.no,.no]=some (Ek 0 (A1 n)):=by
  have:AK Ce (AB (nm 3) AF) [.d (A7 ns),.d (.int c),.d (.int (n:Nat)),.d (AO n),.own (.lst (vs.map AY)),l5,l6,l7,.d (CO n none),.no,.no]=some (.int (A1 n:Nat)):=by
   show some (PyData.int ((B8 (Tr.of (Ax n))).length:Nat))=_;rw[lr]
  exact(R7 this (by omega) (by omega)).trans (by rw[Int.toNat_natCast])
 let Iv:Nat→Dv→Prop:=fun i δ=>∃l5,δ=[.d (A7 ns),.d (.int c),.d (.int (n:Nat)),.d (AO n),.own (.lst (vs.map AY)),l5,l6,l7,.d (CO n (CY ((Ax n).take i) vs (DK n))),.no,.no]
 have tl:=OV n hn;have wl:=Lw hn;obtain⟨δ',f1,l5',rfl⟩:=SI (set:=EG 5) (F:=Wx) Iv hr ⟨l5,rfl⟩ (fun i x δ hx hI=>by
  obtain⟨l5,rfl⟩:=hI;obtain⟨rfl,hi⟩:=Py hx;rw[Int.zero_add];refine⟨[.d (A7 ns),.d (.int c),.d (.int (n:Nat)),.d (AO n),.own (.lst (vs.map AY)),.d (.int (i:Nat)),l6,l7,.d (CO n (CY ((Ax n).take i) vs (DK n))),.no,.no],rfl,?_⟩;have h1:(Ax n)[i]? = some ((Ax n)[i]'(by omega)):=bC _;have ht:(Ax n)[i]'(by omega)∈Ax n:=List.getElem_mem _;have h2:vs[i]? = some (vs[i]'(by omega)):=bC _;generalize (Ax n)[i]'(by omega)=t at h1 ht;generalize vs[i]'(by omega)=u at h2;have h3:(DK n)[i]? = some (wq t):=by rw[List.getElem?_map,h1];rfl
  have dt:=E8 (JF hn ht);have st:=NO h1 h2 h3;have ex:∀(l4 l8:L),AQ Ct (nm 3) (nm 5) [.d (A7 ns),.d (.int c),.d (.int (n:Nat)),.d (AO n),l4,.d (.int (i:Nat)),l6,l7,l8,.no,.no]=some (tD t):=fun _ _=>Af (x:=AO n) (y:=.int (i:Nat)) rfl rfl (Hy (by rw[GC,List.getElem?_map,h1];rfl));cases hf:CY ((Ax n).take i) vs (DK n) with
  |some s =>
   rw[hf]at st;refine⟨_,HE (ZK (Co (x:=tD s) (y:=.none) rfl rfl rfl)) rfl,.d (.int (i:Nat)),?_⟩;rw[st]
  |none =>
   rw[hf]at st;have e1:CH (O6 false) (AQ Ct (nm 8) (fC (.int 1))) (fC .none) (Ef [.d (A7 ns),.d (.int c),.d (.int (n:Nat)),.d (AO n),.own (.lst (vs.map AY)),.d (.int (i:Nat)),l6,l7,.d (CO n none),.no,.no])=some true:=Co (x:=.none) (y:=.none) rfl rfl rfl;have e2:CH (D4 true) (AQ Ct (nm 4) (nm 5)) (CL (AB (fC (.int 1)) (AB (AK Pa (AB (AQ Ct (nm 3) (nm 5)) AF)) AF))) (Ef [.d (A7 ns),.d (.int c),.d (.int (n:Nat)),.d (AO n),.own (.lst (vs.map AY)),.d (.int (i:Nat)),l6,l7,.d (CO n none),.no,.no])=some (!decide (u=wq t)) :=
    Co (x:=AY u) (y:=AY (wq t)) (Af (x:=Bl vs) (y:=.int (i:Nat)) rfl rfl (Hy (by rw[List.getElem?_map,h2];rfl))) (by rw[dt.2.2.2.2.1];exact HU (Ap rfl (Ap (BN (xs:=[tD t]) (Ap (Af (x:=AO n) (y:=.int (i:Nat)) rfl rfl (Hy (by rw[GC,List.getElem?_map,h1];rfl))) rfl) dt.1) rfl)) (by show(2:Nat)≤Cj;decide)) (L5 u (wq t))
   by_cases z:u=wq t
   ·rw[decide_eq_true z]at e2;refine⟨_,HE (So e1 e2) rfl,.d (.int (i:Nat)),?_⟩;rw[st,if_pos z]
   ·rw[decide_eq_false z]at e2;refine⟨_,KC (So e1 e2) (CC (y:=CO n (some t)) (HU (Ap (Af (x:=.int (t.CT:Int)) (y:=.int 1) (BN (xs:=[tD t]) (Ap (ex _ _) rfl) dt.2.2.1) rfl rfl) (Ap (ex _ _) rfl)) (by show(2:Nat)≤Cj;decide))),.d (.int (i:Nat)),?_⟩;rw[st,if_neg z]
    rfl)
 refine⟨l5',f1.trans ?_⟩;have e:(Ax n).take (Ek 0 (A1 n)).length=Ax n:=by
  have:(Ek 0 (A1 n)).length=A1 n:=by unfold Ek;simp
  rw[this,←tl,List.take_length]
 rw[e]
end
def Wu(ns:List Int)(C1 C2:AD):Xu C1 C2 [A7 ns]=some (.bool true):=by
 refine HY rfl ?_;obtain⟨c,hc⟩:=Pg ns 0;obtain⟨n,en⟩:∃n:Nat,c % 8=(n:Int):=⟨(c % 8).toNat,by omega⟩;have hn:n≤7:=by omega
 unfold VD;refine BB (CC (BN (xs:=[A7 ns,.int 0]) rfl hc)) ?_;refine BB (CC (y:=.int (n:Nat)) (Af (x:=.int c) (y:=.int 8) rfl rfl ((mod_is (by decide)).trans (by rw[en])))) ?_;refine BB (CC (y:=AO n) (BN (xs:=[.int (n:Nat)]) rfl (Ti hn))) ?_;refine BB (δ':=[.d (A7 ns),.d (.int c),.d (.int (n:Nat)),.d (AO n),.own (.lst ((DK n).map AY)),.no,.no,.no,.no,.no,.no]) ?_ ?_
 ·have:=PM (m:=Pa) (δ:=[.d (A7 ns),.d (.int c),.d (.int (n:Nat)),.d (AO n),.no,.no,.no,.no,.no,.no,.no]) (fs:=FG (nm 3)) hn (fun t h=>(E8 h).1) rfl;show(Eg _ _ _ _ _ [.d (A7 ns),.d (.int c),.d (.int (n:Nat)),.d (AO n),.no,.no,.no,.no,.no,.no,.no]).map _=_;rw[this]
  rfl
 obtain⟨us,l5,l6,l7,f2,hul⟩:=S4 (ns:=ns) (c:=c) hn (Lw hn) (WU hn);refine BB f2 ?_;refine BB (CC (y:=CO n none) (HU (Ap rfl (Ap rfl rfl)) (by show(2:Nat)≤Cj;decide))) ?_;obtain⟨l5',f3⟩:=Yn (ns:=ns) (c:=c) hn hul l5 l6 l7;refine BB f3 ?_;refine BB (δ':=[.d (A7 ns),.d (.int c),.d (.int (n:Nat)),.d (AO n),.d (Bl us),l5',l6,l7,.d (CO n (CY (Ax n) us (DK n))),.d (Bl us),.no]) rfl ?_;have w1:=Zq hn hul C1 C2;obtain⟨s1,s2⟩:=WZ (n:=n) hn (ws:=us) (vs:=DK n);refine BB (CC (BN (xs:=[Bl us]) rfl w1)) ?_;have q1:D4 true (CO n (CY (Ax n) us (DK n))) (CO n (CY (Ax n) us (DK n)))=some (.bool false):=by
  refine(if_pos ⟨s1,s1⟩).trans ?_;rw[s2];rfl
 have q2:D4 false (CO n (CY (Ax n) us (DK n))) (CO n (CY (Ax n) us (DK n)))=some (.bool true):=by
  refine(if_pos ⟨s1,s1⟩).trans ?_;rw[s2];rfl
 generalize hw:CY (Ax n) us (DK n)=o at w1 q1 q2;refine BB (HE (Q5 ?_ (Q5 (Co (x:=CO n o) (y:=CO n o) rfl rfl q1) ?_)) rfl) ?_
 ·cases o<;>rfl
 ·cases o<;>rfl
 ·have g1:AQ (D4 false) (nm 9) (nm 4) [.d (A7 ns),.d (.int c),.d (.int (n:Nat)),.d (AO n),.d (Bl us),l5',l6,l7,.d (CO n o),.d (Bl us),.d (CO n o)]=some (.bool true):=Af (x:=Bl us) (y:=Bl us) rfl rfl (Tg (Zt us) (by decide));have g2:AQ (D4 false) (AK (VG C1 C2) (AB (nm 9) AF)) (nm 8) [.d (A7 ns),.d (.int c),.d (.int (n:Nat)),.d (AO n),.d (Bl us),l5',l6,l7,.d (CO n o),.d (Bl us),.d (CO n o)]=some (.bool true):=Af (x:=CO n o) (y:=CO n o) (BN (xs:=[Bl us]) rfl w1) rfl q2;have g3:XM (AQ (D4 false) (nm 9) (nm 4)) (AQ (D4 false) (AK (VG C1 C2) (AB (nm 9) AF)) (nm 8)) [.d (A7 ns),.d (.int c),.d (.int (n:Nat)),.d (AO n),.d (Bl us),l5',l6,l7,.d (CO n o),.d (Bl us),.d (CO n o)]=some (.bool true):=by
   show(AQ (D4 false) (nm 9) (nm 4) _).bind _=_;rw[g1];exact g2
  exact F9 g3
def VJ(K:Fg)(a:AD)(ns:List Int):Bool:=match K.lookup a with
 |some o=>(match o.cls with|.type n=>n == "tuple" |_=>false)&&o.dict.isNone&&(match o.data with
  |.seq its _=>decide (its.size≤1000)&&decide (its.toList.map NI=ns.map fun i=>some (V.int i))
  |_=>false)
 |none=>false
def OY:∀ {ns:List Int} {us:List VL},us.map NI=ns.map (fun i=>some (V.int i))→Vals (ns.map V.int) us
 |[],[],_=>.nil
 |[],u::us,h=>by simp at h
 |n::ns,[],h=>by simp at h
 |n::ns,u::us,h=>by
  rw[List.map_cons,List.map_cons,List.cons.injEq]at h;refine .cons ?_ (OY h.2);cases u with
  |int i t =>
   have:=h.1;simp[NI]at this;subst this;exact⟨t,rfl⟩
  |_=>have:=h.1;simp[NI]at this
def XQ{K:Fg}{a:AD}{ns:List Int}(h:VJ K a ns=true):Own K a ns:=by
 unfold VJ at h;split at h
 ·rename_i o e;rw[Bool.and_eq_true,Bool.and_eq_true]at h;obtain⟨⟨h1,h2⟩,h3⟩:=h;have c1:o.cls=.type "tuple" := by
   split at h1
   ·rename_i n e';rw[e',eq_of_beq h1]
   ·cases h1
  have c2:o.dict=none:=by simpa using h2
  split at h3
  ·rename_i its n e';rw[Bool.and_eq_true,decide_eq_true_eq,decide_eq_true_eq]at h3;exact⟨fun H=>.inr ⟨o,its,n,e,c1,e',Nat.le_trans h3.1 (by rw[sizeLine_eq];decide),OY h3.2⟩,o,e,c1,c2⟩
  ·cases h3
 ·cases h
def Q4(K:Fg):Sp:=fun vs H Q _=>∃(a:AD) (ns:List Int),vs=[.ref a]∧A2 K H a (ns.map V.int)∧ns.length≤63∧∀H',Q (.bl true) H'
def Yt{P:Program}{w:World}{K:Fg}{mg:Str→Option VL}{base:Heap}{f:AD}{fd:FuncData}{k:Nat}{C1 C2:AD}(hK:Mw K=true)(F:AM P w K mg base A6 k f fd ["_law_script"] (Ba (Xu C1 C2))):AM P w K mg base A6 k f fd ["_law_script"] (Q4 K) :=
 F.imp fun vs H Q E z=>by
  obtain⟨a,ns,rfl,hS,_,q⟩:=z;refine⟨[A7 ns],.bool true,H,Wu ns C1 C2,.cons (Xf (Y8 hK hS)) .nil,.refl _,fun v G' H' _ _ _ _ dv=>?_⟩;rw[Du]at dv;subst dv;exact q H'
section
open PySem.W PyProof.Rows PySem.Calls
abbrev C5:Program:=PySem.Challenge.pw_stepgrove_k49_orders_of_weighings
abbrev Bs:OpenLaw:=PySem.Challenge.rw_stepgrove_k49_orders_of_weighings
noncomputable abbrev dE(P:Params)(x:String)(t:Nat)(v:VL):DictEntry:=⟨PyData.keyHash P (Str.ofString x),.str (Str.ofString x) t,v⟩
noncomputable abbrev sV(x:String)(t:Nat):VL:=.str (Str.ofString x) t
noncomputable abbrev fO(n:String)(i:Nat)(m:String)(t c:Nat):Obj:=⟨.type "function",none,.func (fnOf n n (Ds (top i)) (CD (top i)) (AL (top i)) .none .none .none (.str (Str.ofString m) t) none (.ref c) .none),#[]⟩
noncomputable abbrev cO(n:String)(t l a k r:Nat)(b:Bool)(r2:Nat)(v1 v2 v3 v4:VL)(t2:Nat):Obj:=⟨.type "code",none,.fields #[sV n t,sV n (t+1),sV "/claim/cut.py" (t+2),.int l 0,.int a 0,.int 0 0,.int 0 0,.int k 0,.ref r,.bool b,.int 181 0,.ref r2,v1,v2,v3,v4,.int t2 0,.int l 0,sV "/claim/cut.py" (t2+1)],#[]⟩
noncomputable def kH:Params→Frag:=fun P =>
 (nat_lit 2,⟨.none,none,(.dict #[] 0),#[]⟩) ::
 (nat_lit 3,⟨(.type "dict"),none,(.dict #[dE P "__name__" 165 (sV "law_stepgrove_k49_orders_of_weighings" 392),dE P "__doc__" 166 .none,dE P "__package__" 167 .none,dE P "__loader__" 168 (.builtin "__main__.__loader__#opaque"),dE P "__spec__" 169 .none,dE P "__annotations__" 170 (.ref 6),dE P "__builtins__" 171 (.ref 4),dE P "__file__" 173 (sV "/claim/cut.py" 172),dE P "__cached__" 174 .none,dE P "GroveError" 206 (.ref 24),dE P "NoWeighing" 222 (.ref 37),dE P "TooMany" 238 (.ref 49),dE P "is_fraction" 247 (.ref 58),dE P "are_fractions" 255 (.ref 65),dE P "is_whole" 262 (.ref 72),dE P "greatest_divisor" 273 (.ref 79),dE P "MOST_KNOTS" 277 (.int 7 276),dE P "trees_of" 288 (.ref 86),dE P "trees_to" 297 (.ref 93),dE P "in_falling_order" 304 (.ref 100),dE P "knots_within" 310 (.ref 105),dE P "density_within" 319 (.ref 112),dE P "trees_one_larger" 330 (.ref 119),dE P "WEIGHING_LENGTHS" 341 (.ref 120),dE P "true_weighing" 348 (.ref 127),dE P "weighing_reach" 355 (.ref 134),dE P "refuse_no_weighing" 362 (.ref 141),dE P "true_weights" 368 (.ref 146),dE P "weighing_order" 379 (.ref 153),dE P "first_unlike" 391 (.ref 160),dE P "_law_cell" 403 (.ref 167),dE P "_law_frac" 413 (.ref 174),dE P "_law_add" 421 (.ref 181),dE P "_law_mul" 429 (.ref 188),dE P "_law_all" 438 (.ref 195),dE P "_law_kept" 444 (.ref 200),dE P "_law_longer" 450 (.ref 205),dE P "_law_trees" 462 (.ref 212),dE P "_law_knots" 468 (.ref 217),dE P "_law_density" 477 (.ref 224),dE P "law" 483 (.ref 229)] 41),#[]⟩) ::
 (nat_lit 15,⟨(.type "tuple"),none,(.seq #[(.type "ValueError")] 0),#[]⟩) ::
 (nat_lit 22,⟨(.type "tuple"),none,(.seq #[] 0),#[]⟩) ::
 (nat_lit 23,⟨(.type "dict"),none,(.dict #[dE P "__module__" 196 (sV "stepgrove.errors" 187),dE P "__firstlineno__" 200 (.int 2 199),dE P "__static_attributes__" 201 (.ref 22),dE P "__weakref__" 203 (.ref 25),dE P "__doc__" 204 .none] 3),#[]⟩) ::
 (nat_lit 24,⟨(.type "type"),none,(.cls ⟨Str.ofString "GroveError",[(.type "ValueError")],[(.ref 24),(.type "ValueError"),(.type "Exception"),(.type "BaseException"),(.type "object")],23,Str.ofString "GroveError",true,[],[(.ref 37),(.ref 49)],false,none,false⟩),#[some (.ref 15),none,some (sV "GroveError" 189),some (sV "GroveError" 197),some (.builtin "ValueError.__new__"),some (.bool true)]⟩) ::
 (nat_lit 25,⟨(.type "getset_descriptor"),none,(.fields #[(sV "__weakref__" 202),(.ref 24),(.builtin "ExceptionGroup.__weakref__"),.none]),#[]⟩) ::
 (nat_lit 28,⟨(.type "tuple"),none,(.seq #[(.ref 24)] 0),#[]⟩) ::
 (nat_lit 35,⟨(.type "tuple"),none,(.seq #[] 0),#[]⟩) ::
 (nat_lit 36,⟨(.type "dict"),none,(.dict #[dE P "__module__" 214 (sV "stepgrove.errors" 187),dE P "__firstlineno__" 218 (.int 4 217),dE P "__static_attributes__" 219 (.ref 35),dE P "__doc__" 220 .none] 2),#[]⟩) ::
 (nat_lit 37,⟨(.type "type"),none,(.cls ⟨Str.ofString "NoWeighing",[(.ref 24)],[(.ref 37),(.ref 24),(.type "ValueError"),(.type "Exception"),(.type "BaseException"),(.type "object")],36,Str.ofString "NoWeighing",true,[],[],false,none,false⟩),#[some (.ref 28),none,some (sV "NoWeighing" 207),some (sV "NoWeighing" 215),some (.builtin "ValueError.__new__"),some (.bool true)]⟩) ::
 (nat_lit 40,⟨(.type "tuple"),none,(.seq #[(.ref 24)] 0),#[]⟩) ::
 (nat_lit 47,⟨(.type "tuple"),none,(.seq #[] 0),#[]⟩) ::
 (nat_lit 48,⟨(.type "dict"),none,(.dict #[dE P "__module__" 230 (sV "stepgrove.errors" 187),dE P "__firstlineno__" 234 (.int 6 233),dE P "__static_attributes__" 235 (.ref 47),dE P "__doc__" 236 .none] 2),#[]⟩) ::
 (nat_lit 49,⟨(.type "type"),none,(.cls ⟨Str.ofString "TooMany",[(.ref 24)],[(.ref 49),(.ref 24),(.type "ValueError"),(.type "Exception"),(.type "BaseException"),(.type "object")],48,Str.ofString "TooMany",true,[],[],false,none,false⟩),#[some (.ref 40),none,some (sV "TooMany" 223),some (sV "TooMany" 231),some (.builtin "ValueError.__new__"),some (.bool true)]⟩) ::
 (nat_lit 57,cO "is_fraction" 241 9 1 3 52 true 53 .none (.ref 54) (.ref 55) (.ref 56) 245) ::
 (nat_lit 58,fO "is_fraction" 5 "stepgrove.fracs" 239 57) ::
 (nat_lit 64,cO "are_fractions" 248 15 1 3 59 true 60 .none (.ref 61) (.ref 62) (.ref 63) 253) ::
 (nat_lit 65,fO "are_fractions" 6 "stepgrove.fracs" 239 64) ::
 (nat_lit 71,cO "is_whole" 256 22 1 3 66 true 67 .none (.ref 68) (.ref 69) (.ref 70) 260) ::
 (nat_lit 72,fO "is_whole" 7 "stepgrove.fracs" 239 71) ::
 (nat_lit 78,cO "greatest_divisor" 263 24 2 3 73 true 74 .none (.ref 75) (.ref 76) (.ref 77) 271) ::
 (nat_lit 79,fO "greatest_divisor" 8 "stepgrove.fracs" 239 78) ::
 (nat_lit 85,cO "trees_of" 278 34 1 3 80 true 81 .none (.ref 82) (.ref 83) (.ref 84) 286) ::
 (nat_lit 86,fO "trees_of" 11 "stepgrove.trees" 274 85) ::
 (nat_lit 92,cO "trees_to" 289 44 1 3 87 true 88 .none (.ref 89) (.ref 90) (.ref 91) 295) ::
 (nat_lit 93,fO "trees_to" 12 "stepgrove.trees" 274 92) ::
 (nat_lit 99,cO "in_falling_order" 298 51 1 3 94 true 95 .none (.ref 96) (.ref 97) (.ref 98) 302) ::
 (nat_lit 100,fO "in_falling_order" 13 "stepgrove.trees" 274 99) ::
 (nat_lit 104,cO "knots_within" 305 53 1 3 101 true 102 .none .none .none (.ref 103) 308) ::
 (nat_lit 105,fO "knots_within" 14 "stepgrove.trees" 274 104) ::
 (nat_lit 111,cO "density_within" 311 55 1 3 106 true 107 .none (.ref 108) (.ref 109) (.ref 110) 317) ::
 (nat_lit 112,fO "density_within" 15 "stepgrove.trees" 274 111) ::
 (nat_lit 118,cO "trees_one_larger" 320 60 1 3 113 true 114 .none (.ref 115) (.ref 116) (.ref 117) 328) ::
 (nat_lit 119,fO "trees_one_larger" 16 "stepgrove.trees" 274 118) ::
 (nat_lit 120,⟨(.type "tuple"),none,(.seq #[(.int 0 333),(.int 1 334),(.int 2 335),(.int 4 336),(.int 8 337),(.int 17 338),(.int 37 339),(.int 85 340)] 0),#[]⟩) ::
 (nat_lit 126,cO "true_weighing" 342 68 1 3 121 true 122 .none (.ref 123) (.ref 124) (.ref 125) 346) ::
 (nat_lit 127,fO "true_weighing" 19 "stepgrove.weights" 331 126) ::
 (nat_lit 133,cO "weighing_reach" 349 70 1 3 128 true 129 .none (.ref 130) (.ref 131) (.ref 132) 353) ::
 (nat_lit 134,fO "weighing_reach" 20 "stepgrove.weights" 331 133) ::
 (nat_lit 140,cO "refuse_no_weighing" 356 73 1 3 135 true 136 .none (.ref 137) (.ref 138) (.ref 139) 360) ::
 (nat_lit 141,fO "refuse_no_weighing" 21 "stepgrove.weights" 331 140) ::
 (nat_lit 145,cO "true_weights" 363 76 1 3 142 true 143 .none .none .none (.ref 144) 366) ::
 (nat_lit 146,fO "true_weights" 22 "stepgrove.weights" 331 145) ::
 (nat_lit 152,cO "weighing_order" 371 79 1 3 147 true 148 .none (.ref 149) (.ref 150) (.ref 151) 377) ::
 (nat_lit 153,fO "weighing_order" 24 "stepgrove.orders" 369 152) ::
 (nat_lit 159,cO "first_unlike" 380 85 3 3 154 true 155 .none (.ref 156) (.ref 157) (.ref 158) 389) ::
 (nat_lit 160,fO "first_unlike" 25 "stepgrove.orders" 369 159) ::
 (nat_lit 166,cO "_law_cell" 394 91 2 3 161 true 162 .none (.ref 163) (.ref 164) (.ref 165) 401) ::
 (nat_lit 167,fO "_law_cell" 27 "law_stepgrove_k49_orders_of_weighings" 392 166) ::
 (nat_lit 173,cO "_law_frac" 404 100 2 3 168 true 169 .none (.ref 170) (.ref 171) (.ref 172) 411) ::
 (nat_lit 174,fO "_law_frac" 28 "law_stepgrove_k49_orders_of_weighings" 392 173) ::
 (nat_lit 180,cO "_law_add" 414 108 2 3 175 true 176 .none (.ref 177) (.ref 178) (.ref 179) 419) ::
 (nat_lit 181,fO "_law_add" 29 "law_stepgrove_k49_orders_of_weighings" 392 180) ::
 (nat_lit 199,cO "_law_kept" 439 117 1 3 196 true 197 .none .none .none (.ref 198) 442) ::
 (nat_lit 200,fO "_law_kept" 32 "law_stepgrove_k49_orders_of_weighings" 392 199) ::
 (nat_lit 204,cO "_law_longer" 445 119 1 3 201 true 202 .none .none .none (.ref 203) 448) ::
 (nat_lit 205,fO "_law_longer" 33 "law_stepgrove_k49_orders_of_weighings" 392 204) ::
 (nat_lit 211,cO "_law_trees" 451 124 1 3 206 true 207 .none (.ref 208) (.ref 209) (.ref 210) 460) ::
 (nat_lit 212,fO "_law_trees" 34 "law_stepgrove_k49_orders_of_weighings" 392 211) ::
 (nat_lit 216,cO "_law_knots" 463 134 1 3 213 true 214 .none .none .none (.ref 215) 466) ::
 (nat_lit 217,fO "_law_knots" 35 "law_stepgrove_k49_orders_of_weighings" 392 216) ::
 (nat_lit 223,cO "_law_density" 469 136 1 3 218 true 219 .none (.ref 220) (.ref 221) (.ref 222) 475) ::
 (nat_lit 224,fO "_law_density" 36 "law_stepgrove_k49_orders_of_weighings" 392 223) ::
 (nat_lit 228,cO "law" 478 141 1 3 225 true 226 .none .none .none (.ref 227) 481) ::
 (nat_lit 229,fO "law" 37 "law_stepgrove_k49_orders_of_weighings" 392 228)::[]
abbrev qX:Program:=view C5 [1,2,3,5,6,7,8,10,11,12,13,14,15,16,18,19,20,21,22,24,25,27,28,29,30,31,32,33,34,35,36,37]
noncomputable abbrev hX:Hook:=kHook kH [nat_lit 2,nat_lit 3,nat_lit 15,nat_lit 22,nat_lit 23,nat_lit 24,nat_lit 25,nat_lit 28,nat_lit 35,nat_lit 36,nat_lit 37,nat_lit 40,nat_lit 47,nat_lit 48,nat_lit 49,nat_lit 57,nat_lit 58,nat_lit 64,nat_lit 65,nat_lit 71,nat_lit 72,nat_lit 78,nat_lit 79,nat_lit 85,nat_lit 86,nat_lit 92,nat_lit 93,nat_lit 99,nat_lit 100,nat_lit 104,nat_lit 105,nat_lit 111,nat_lit 112,nat_lit 118,nat_lit 119,nat_lit 120,nat_lit 126,nat_lit 127,nat_lit 133,nat_lit 134,nat_lit 140,nat_lit 141,nat_lit 145,nat_lit 146,nat_lit 152,nat_lit 153,nat_lit 159,nat_lit 160,nat_lit 166,nat_lit 167,nat_lit 173,nat_lit 174,nat_lit 180,nat_lit 181,nat_lit 199,nat_lit 200,nat_lit 204,nat_lit 205,nat_lit 211,nat_lit 212,nat_lit 216,nat_lit 217,nat_lit 223,nat_lit 224,nat_lit 228,nat_lit 229] (fun _=>by kernel_rfl)
noncomputable def dX:DefRec:=⟨Str.ofString "law",Ds (top 37),CD (top 37),AL (top 37),⟨141,0,159,83⟩⟩
def Ze:Bs.wellSaid=true:=(congrFun PySem.W.Fast.te9446332074065402090 _).trans (by kernel_rfl)
def b6(w:World)(os:OsState):topGo treeTable C5 w 11 Opn.Fi 12 ⟨boot_heap w.params,#[],boot_drawn,boot_toks,os⟩ (topStub C5)=some (Opn.sA w os,⟨denote treeTable (Opn.cB C5),Opn.cB C5,Opn.q0,Opn.bB⟩):=by kernel_rfl
def bP(w:World)(os:OsState):segRun treeTable C5 w 11 Opn.Fi 1 1 (Opn.sA w os) (blockOf (behindTheImports C5) (Opn.Kq C5) (Opn.cB C5) Opn.q0 Opn.bB)=some (.next,(Opn.sB w os).abs,Opn.cB C5,Opn.q0):=by kernel_rfl
def b8(w:World)(s:SD):topRun treeTable C5 w 11 Opn.Fi 2 s (restOf [] (Opn.Kq C5) (Opn.cB C5) ⟨141,0,159,83⟩ Opn.bB)=some s:=by kernel_rfl
def bV(w:World)(os:OsState):Opn.Q6 C5 1500 w os=some (.next,Opn.Qk C5 1500 w os,Opn.cB C5,⟨141,0,159,83⟩):=by kernel_rfl
noncomputable abbrev sX(w:World)(os:OsState):SD:=(Opn.Qk C5 1500 w os).abs
def OS(w:World)(os:OsState):(staticsOk (importedModules C5.main.body) (boot_heap w.params) (sX w os).heap&&namesBound C5 (sX w os).heap&&gensDone (sX w os)&&laidKept (boot_heap w.params) (sX w os).heap)=true:=by kernel_rfl
def Z8(w:World)(os:OsState):hX.obs (sX w os)=hX.val w:=by kernel_rfl
noncomputable abbrev Yk:SD→Bool:=fun s=>xlAt qX [] s&&recOk (RowW.records Bs.row.toRowW) s
def Z5(w:World)(os:OsState):openSeen qX [] (importedModules C5.main.body) Yk true (sX w os)=openGood qX []:=by kernel_rfl
def Zz(w:World):(fencedOpening treeTable C5 w 3124).map (fun s=>(s.heap,s.gens,s.drawn,s.toks))=some (boot_heap w.params,#[],boot_drawn,boot_toks):=boot_open (p:=C5) (N:=3124) (by kernel_rfl) (by kernel_rfl) (fun _=>by kernel_rfl) w
def Zg:LeftO C5 qX [] Yk hX.obs hX.val 3124:=Opn.WD (M:=1515) (S:=sX) Zz Opn.ZM (fun w os=>Opn.W2 (b6 w os) (bP w os) (bV w os) (b8 w) (by kernel_rfl)) (by kernel_rfl) OS Z5 Z8
def b4:defOf qX Bs.row.name=some (dX,[]):=by kernel_rfl
def cK:C5.theDef Bs.row.name=some (dX.params,dX.body,dX.scope):=by kernel_rfl
def cq:kwWritten? dX.params.kwonlyargs dX.params.kw_defaults=some []:=by kernel_rfl
def cE:(chainsOk qX&&opensWell Bs.row.prog&&(frees Bs.row.toRowW&&Bs.row.within.isEmpty))=true:=by kernel_rfl
def Zh:C5.bare:=⟨rfl,rfl,rfl,rfl,rfl,by decide +kernel⟩
def openX(hw:Bs.row.toRowW.promised)(hc:WalkO qX [] (XL qX []) hX.says Bs.row.toRowW dX [] (fun f vs=>PySem.call f vs)):Bs.Holds :=
 holds_law Ze fun said=>holds_open (r:=Bs.row) (q:=qX) (loose:=[]) (Xt:=Yk) (XP:=XL qX []) (Yf:=hX.obs) (Ya:=hX.val) (YP:=hX.says) (d:=dX) (kwd:=[]) (N:=3124) Zg hX.of hX.keeps (fun s e=>xl_of s (Bool.and_eq_true_iff.mp e).1) XL.keeps b4 cK cq (fun s e=>recFacts_of (Bool.and_eq_true_iff.mp e).2) rfl said cE Zh hw hc
end
section
open PySem.W
def fnX{w:World}{mg:Str→Option VL}{h:Heap}(X:(kH w.params).In h)(G:h.Ns mainGlobals mg)(n:String)(i:Nat)(m:String)(t c f:Nat)(ps:List Str)
 (ha:nsIn (kH w.params) mainGlobals (Str.ofString n)=some (some (.ref f)):=by kernel_rfl)(hl:(kH w.params).lookup f=some (fO n i m t c):=by kernel_rfl)(hc:codeIn (kH w.params) (.ref c) (Str.ofString n)=true:=by kernel_rfl)(hk:keepIn (kH w.params) (.ref f)=true:=by kernel_rfl)
 (hb:∀(kV doc pm:VL) (an:Option AD) (cdv ct:VL) (us:List VL),us.length=ps.length→bindArgs (fnOf (Str.ofString n) (Str.ofString n) (Ds (top i)) (CD (top i)) (AL (top i)) .none kV doc pm an cdv ct) ⟨us,[]⟩=pure (ps.zip us):=by first|(exact fun _ _ _ _ _ _ us hl=>match us,hl with|[_],_=>rfl)|(exact fun _ _ _ _ _ _ us hl=>match us,hl with|[_,_],_=>rfl)|(exact fun _ _ _ _ _ _ us hl=>match us,hl with|[_,_,_],_=>rfl)|(exact fun _ _ _ _ _ _ us hl=>match us,hl with|[_,_,_,_],_=>rfl)|(exact fun _ _ _ _ _ _ us hl=>match us,hl with|[_,_,_,_,_],_=>rfl)|(exact fun _ _ _ _ _ _ us hl=>match us,hl with|[],_=>rfl)) :
  Fn (kH w.params) mg (Str.ofString n) (top i) ps f (fnOf (Str.ofString n) (Str.ofString n) (Ds (top i)) (CD (top i)) (AL (top i)) .none .none .none (.str (Str.ofString m) t) none (.ref c) .none) :=
 ⟨SV hl hc hk,(SV (st:=top i) hl hc hk).binds hb,mg_of X G ha⟩
set_option maxHeartbeats 4000000 in
def bp(w:World)(mg:Str→Option VL)(fa:AD)(h:Heap)(X:(kH w.params).In h)(G:h.Ns mainGlobals mg)(hfa:mg "law" = some (.ref fa)) :
  ∃fd:FuncData,(∀(s:SD) (v:VL),BindsTo s fd ⟨[v],[]⟩ [("_law_script",v)])∧∀base:Heap,(kH w.params).In base→base.Ns mainGlobals mg→AM Bs.prog w (kH w.params) mg base A6 24 fa fd ["_law_script"] (Q4 (kH w.params)):=by
 have e:=hfa.symm.trans (mg_of X G (v:=.ref 229) (by kernel_rfl));cases e;have D9:=fnX X G "is_fraction" 5 "stepgrove.fracs" 239 57 58 ["thing"];have DM:=fnX X G "are_fractions" 6 "stepgrove.fracs" 239 64 65 ["thing"];have El:=fnX X G "is_whole" 7 "stepgrove.fracs" 239 71 72 ["thing"];have CV:=fnX X G "greatest_divisor" 8 "stepgrove.fracs" 239 78 79 ["one", "other"];have F4:=fnX X G "trees_of" 11 "stepgrove.trees" 274 85 86 ["many"];have Cw:=fnX X G "trees_to" 12 "stepgrove.trees" 274 92 93 ["most"];have Bh:=fnX X G "in_falling_order" 13 "stepgrove.trees" 274 99 100 ["boughs"];have Ay:=fnX X G "knots_within" 14 "stepgrove.trees" 274 104 105 ["tree"];have BO:=fnX X G "density_within" 15 "stepgrove.trees" 274 111 112 ["tree"];have BD:=fnX X G "trees_one_larger" 16 "stepgrove.trees" 274 118 119 ["tree"];have DL:=fnX X G "true_weighing" 19 "stepgrove.weights" 331 126 127 ["most"];have Cv:=fnX X G "weighing_reach" 20 "stepgrove.weights" 331 133 134 ["weighing"];have B9:=fnX X G "refuse_no_weighing" 21 "stepgrove.weights" 331 140 141 ["thing"];have Dq:=fnX X G "true_weights" 22 "stepgrove.weights" 331 145 146 ["trees"];have CJ:=fnX X G "weighing_order" 24 "stepgrove.orders" 369 152 153 ["weighing"];have Dp:=fnX X G "first_unlike" 25 "stepgrove.orders" 369 159 160 ["trees", "one", "other"];have D8:=fnX X G "_law_cell" 27 "law_stepgrove_k49_orders_of_weighings" 392 166 167 ["_law_script", "_law_k"];have Cc:=fnX X G "_law_frac" 28 "law_stepgrove_k49_orders_of_weighings" 392 173 174 ["_law_top", "_law_bottom"];have F3:=fnX X G "_law_add" 29 "law_stepgrove_k49_orders_of_weighings" 392 180 181 ["_law_one", "_law_other"];have Bi:=fnX X G "_law_kept" 32 "law_stepgrove_k49_orders_of_weighings" 392 199 200 ["_law_tree"];have Bn:=fnX X G "_law_longer" 33 "law_stepgrove_k49_orders_of_weighings" 392 204 205 ["_law_tree"];have Ej:=fnX X G "_law_trees" 34 "law_stepgrove_k49_orders_of_weighings" 392 211 212 ["_law_most"];have BG:=fnX X G "_law_knots" 35 "law_stepgrove_k49_orders_of_weighings" 392 216 217 ["_law_tree"];have BU:=fnX X G "_law_density" 36 "law_stepgrove_k49_orders_of_weighings" 392 223 224 ["_law_tree"];have Zp:=fnX X G "law" 37 "law_stepgrove_k49_orders_of_weighings" 392 228 229 ["_law_script"];have Bp:mg "len" = none:=mg_none_of X G (by kernel_rfl);have Bf:mg "range" = none:=mg_none_of X G (by kernel_rfl);have G9:mg "abs" = none:=mg_none_of X G (by kernel_rfl);have A3:mg "isinstance" = none:=mg_none_of X G (by kernel_rfl);have QQ:mg "int" = none:=mg_none_of X G (by kernel_rfl);have HQ:mg "bool" = none:=mg_none_of X G (by kernel_rfl);have CB:mg "tuple" = none:=mg_none_of X G (by kernel_rfl);have Ht:mg "list" = none:=mg_none_of X G (by kernel_rfl);have FK:mg "enumerate" = none:=mg_none_of X G (by kernel_rfl);have Gr:mg "sum" = none:=mg_none_of X G (by kernel_rfl);have Q2:mg "zip" = none:=mg_none_of X G (by kernel_rfl);have Bm:mg "sorted" = none:=mg_none_of X G (by kernel_rfl);have Ju:mg "set" = none:=mg_none_of X G (by kernel_rfl);have a_MK:nsIn (kH w.params) mainGlobals "MOST_KNOTS" = some (some (.int 7 276)):=by kernel_rfl
 have a_WL:nsIn (kH w.params) mainGlobals "WEIGHING_LENGTHS" = some (some (.ref 120)):=by kernel_rfl
 have a_GroveError:PySem.W.nsIn (kH w.params) mainGlobals "GroveError" = some (some (.ref 24)):=by kernel_rfl
 have a_NoWeighing:PySem.W.nsIn (kH w.params) mainGlobals "NoWeighing" = some (some (.ref 37)):=by kernel_rfl
 have a_TooMany:PySem.W.nsIn (kH w.params) mainGlobals "TooMany" = some (some (.ref 49)):=by kernel_rfl
 have X5:=PySem.W.mg_of X G a_GroveError;have M7:=PySem.W.mg_of X G a_NoWeighing;have Rm:=PySem.W.mg_of X G a_TooMany;have X_TooMany:Exc (kH w.params) mg "TooMany" 49:=⟨Rm,by kernel_rfl⟩;have be_TooMany:PQ (kH w.params) 49 24 true:=⟨by kernel_rfl,by kernel_rfl,by kernel_rfl,by kernel_rfl⟩;have xk_TooMany:Xg (kH w.params) 49:=⟨by kernel_rfl,by kernel_rfl,by kernel_rfl,by kernel_rfl,by kernel_rfl,by kernel_rfl,by kernel_rfl,by kernel_rfl⟩;have tV_TooMany:PySem.W.kitOne (kH w.params) (.ref 49) (.type "ValueError")=some true:=by kernel_rfl
 have t_TooMany_GroveError:PySem.W.kitOne (kH w.params) (.ref 49) (.ref 24)=some true:=by kernel_rfl
 have t_TooMany_NoWeighing:PySem.W.kitOne (kH w.params) (.ref 49) (.ref 37)=some false:=by kernel_rfl
 have t_TooMany_TooMany:PySem.W.kitOne (kH w.params) (.ref 49) (.ref 49)=some true:=by kernel_rfl
 have X_NoWeighing:Exc (kH w.params) mg "NoWeighing" 37:=⟨M7,by kernel_rfl⟩;have be_NoWeighing:PQ (kH w.params) 37 24 true:=⟨by kernel_rfl,by kernel_rfl,by kernel_rfl,by kernel_rfl⟩;have xk_NoWeighing:Xg (kH w.params) 37:=⟨by kernel_rfl,by kernel_rfl,by kernel_rfl,by kernel_rfl,by kernel_rfl,by kernel_rfl,by kernel_rfl,by kernel_rfl⟩;have tV_NoWeighing:PySem.W.kitOne (kH w.params) (.ref 37) (.type "ValueError")=some true:=by kernel_rfl
 have t_NoWeighing_GroveError:PySem.W.kitOne (kH w.params) (.ref 37) (.ref 24)=some true:=by kernel_rfl
 have t_NoWeighing_NoWeighing:PySem.W.kitOne (kH w.params) (.ref 37) (.ref 37)=some true:=by kernel_rfl
 have t_NoWeighing_TooMany:PySem.W.kitOne (kH w.params) (.ref 37) (.ref 49)=some false:=by kernel_rfl
 have hK:Mw (kH w.params)=true:=by kernel_rfl
 refine⟨fnOf (Str.ofString "law") (Str.ofString "law") (Ds (top 37)) (CD (top 37)) (AL (top 37)) .none .none .none (.str (Str.ofString "law_stepgrove_k49_orders_of_weighings") 392) none (.ref 228) .none,fun s v=>.of_eq rfl,fun base _ _=>?_⟩;have Ci:=PySem.W.mg_of X G a_MK;have Be:=PySem.W.mg_of X G a_WL;have o_WEIGHING_LENGTHS:Own (kH w.params) 120 [0,1,2,4,8,17,37,85]:=XQ (by kernel_rfl);have bX:=JD (P:=Bs.prog) (w:=w) (base:=base) CV G9;have bW:=Oj (P:=Bs.prog) (w:=w) (base:=base) El A3 QQ HQ;have Ww:=Ld D9 El CV bW bX A3 CB Bp;have bg:=Ko DM D9 Ww A3 Ht;have cA:=OE (P:=Bs.prog) (w:=w) (base:=base) Cc G9;have EU:=Fv (q:=Ei) bg (fun l d v H Q E hd hq=>⟨l,d,v,rfl,hd,hq H (.refl H)⟩);have DD:=bx cA;have BR:=JC (P:=Bs.prog) (w:=w) (base:=base) (k:=0) Bh Bm CB;have B1:=Eu (P:=Bs.prog) (w:=w) (base:=base) (k:=1) BD Bh (BR.mono (by decide)) FK 9;have IY:=Ol (P:=Bs.prog) (w:=w) (base:=base) (k:=11) F4 BD (B1.mono (by decide)) Bf Ju Bm Ci X_TooMany;have Dk:=Og (P:=Bs.prog) (w:=w) (base:=base) (k:=12) Cw F4 (IY.mono (by decide)) Bf Ci X_TooMany;have C0:=Hf (P:=Bs.prog) (w:=w) (base:=base) (k:=3) B9 DM (EU.mono (by decide)) Bp Be o_WEIGHING_LENGTHS X_NoWeighing;have EB:=KH (P:=Bs.prog) (w:=w) (base:=base) (k:=4) Cv B9 (C0.mono (by decide)) Bp Be o_WEIGHING_LENGTHS;have FD:=K8 (P:=Bs.prog) (w:=w) (base:=base) (k:=0) Dp Q2;have BC:=HB (P:=Bs.prog) (w:=w) (base:=base) (k:=0) Ay Gr 9;have CM:=Fq (P:=Bs.prog) (w:=w) (base:=base) (k:=10) BO Ay (BC.mono (by decide)) 9;have FI:=LK (P:=Bs.prog) (w:=w) (base:=base) (k:=20) Dq BO (CM.mono (by decide));have Eo:=Kk (P:=Bs.prog) (w:=w) (base:=base) (k:=21) DL Cw (Dk.mono (by decide)) Dq (FI.mono (by decide));have C3:=KG (P:=Bs.prog) (w:=w) (base:=base) (k:=22) CJ Dp (FD.mono (by decide)) Ay (BC.mono (by decide)) Cw (Dk.mono (by decide)) DL (Eo.mono (by decide)) Cv (EB.mono (by decide));have FJ:=OZ (P:=Bs.prog) (w:=w) (base:=base) (k:=0) D8 Bp;have Ie:=O0 (P:=Bs.prog) (w:=w) (base:=base) (k:=1) F3 Cc (DD.mono (by decide));have Bw:=Jf (P:=Bs.prog) (w:=w) (base:=base) (k:=0) Bi Bm CB 9;have DB:=Hu (P:=Bs.prog) (w:=w) (base:=base) (k:=10) Bn Bi (Bw.mono (by decide)) Bp Bf 9;have GZ:=Mp (P:=Bs.prog) (w:=w) (base:=base) (k:=20) Ej Bn (DB.mono (by decide)) Bf Ju Bm;have BP:=Ir (P:=Bs.prog) (w:=w) (base:=base) (k:=0) BG Gr 9;have CF:=G6 (P:=Bs.prog) (w:=w) (base:=base) (k:=10) BU BG (BP.mono (by decide)) 9;have Z3:=YL (P:=Bs.prog) (w:=w) (base:=base) (k:=23) Zp F3 (Ie.mono (by decide)) D8 (FJ.mono (by decide)) BU (CF.mono (by decide)) Cc (DD.mono (by decide)) BG (BP.mono (by decide)) Ej (GZ.mono (by decide)) CJ (C3.mono (by decide)) HQ A3 Bp Ht Bf CB;exact Yt hK Z3
def walkX:WalkO qX [] (XL qX []) hX.says Bs.row.toRowW dX [] (fun f vs=>PySem.call f vs) :=
 L2.Lb (l:=Bs) (n:=63) (k:=24) (x := "_law_script") (CX:=fun _=>A6) (K:=kH) (sp:=fun w=>Q4 (kH w.params)) rfl (by decide) rfl ⟨rfl,by decide,by decide⟩ (fun w h Y=>kIn_of Y) bp (fun _ _ a ns hl _ hS=>⟨a,ns,rfl,hS,hl,fun _=>rfl⟩) fun _ _ _ _ _ z=>z
end
end Q49
open PySem PySem.W PyProof.Rows
set_option maxRecDepth 100000 in
theorem PySem.Challenge.cw_stepgrove_k49_orders_of_weighings_holds : PySem.Challenge.rw_stepgrove_k49_orders_of_weighings.Holds := by
  refine Q49.openX ?hw Q49.walkX
  w_witness2
#print axioms PySem.Challenge.cw_stepgrove_k49_orders_of_weighings_holds
