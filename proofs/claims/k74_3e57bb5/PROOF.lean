import PyProof.Rows.All
import Wide.All
import OpenK.AllK
import Wide.FinOn
import Lean
import PyProof.EqAt
import PyProof.EqKinds
import PyProof.TupleCall
import PySem.Challenge.RW_stepgrove_k74_whole_flows_in_a_row
set_option Elab.async false
set_option linter.all false
set_option maxRecDepth 100000
abbrev MD:=List PySem.PyData→Option PySem.PyData
abbrev Fg:=PySem.W.Frag
abbrev Wb:=@PySem.wpAny_bind
abbrev PD:=PySem.PyData
abbrev SD:=PySem.Shared
abbrev VL:=PySem.Value
abbrev AD:=PySem.Addr
abbrev aA:=@PySem.wpAny_pure
abbrev aB:=@Option.bind_eq_some_iff
abbrev aC:=@Option.map_eq_some_iff
abbrev aD:=@PySem.Heap.get?_push_of_some
abbrev aE:=@List.getElem?_eq_some_iff
abbrev aF:=@PySem.Heap.lt_size
abbrev aG:=@Nat.ne_of_lt
abbrev aH:=@Nat.lt_of_lt_of_le
abbrev aI:=@Nat.le_refl
abbrev aJ:=@Bool.false_ne_true
abbrev aK:=@List.mem_cons
abbrev aL:=@List.all_eq_true
abbrev aM:=@List.mem_of_getElem?
abbrev aN:=@PySem.Heap.get?_push_size
abbrev aO:=@of_decide_eq_true
abbrev aP:=@PySem.wpAny_holding
abbrev aQ:=@List.mem_map
abbrev aR:=@List.getElem?_eq_getElem
abbrev aS:=@Nat.pow_le_pow_right
abbrev aT:=@List.map_congr_left
abbrev aU:=@List.mem_cons_of_mem
abbrev aV:=@List.mem_append_right
abbrev aW:=@Option.some.inj
abbrev aX:=@Nat.lt_of_le_of_lt
abbrev aY:=@PySem.Heap.SameBut.update
abbrev aZ:=@List.mem_iff_getElem?
abbrev aa:=@PySem.PassesOwn.never
abbrev ae:=@Nat.le_trans
abbrev af:=@PySem.wpAny_call_entry
abbrev ag:=@PySem.wpAny_mono
abbrev ah:=@Nat.ne_of_gt
abbrev ai:=@List.mem_cons_self
abbrev aj:=@PySem.wpAny_callSpecial?_slot
abbrev ak:=@PySem.wpAny_field
abbrev ao:=@PySem.F.plainAttrs_list
abbrev aq:=@Nat.not_lt_zero
abbrev ar:=@Nat.lt_succ_of_lt
abbrev au:=@Nat.zero_le
abbrev av:=@PyProof.Rows.callWith_type1
abbrev ax:=@List.mem_map_of_mem
abbrev ay:=@PySem.wpAny_newObj_type
abbrev az:=@List.mem_range
abbrev bA:=@PySem.wpAny_seqItems
abbrev bC:=@PySem.F.slot_list_append
abbrev bD:=@PySem.F.type_list_append
abbrev bE:=@decide_eq_false
abbrev bF:=@congrArg
abbrev bG:=@PySem.wpAny_setState_of
abbrev bH:=@decide_eq_true
abbrev bI:=@PySem.W.kia_one
abbrev bJ:=@PySem.wpAny_rule
abbrev bK:=@Bool.eq_false_iff
abbrev bL:=@Nat.le_of_lt
abbrev bM:=@Nat.lt_succ_self
abbrev bN:=@List.mem_append_left
abbrev bO:=@PyProof.Rows.boot_isinstance
abbrev bQ:=@PySem.wpAny_setField_rec
abbrev bR:=@PyProof.Rows.KeyOrd.kle_refl
abbrev bT:=@PySem.F.slot_zip_next
abbrev bU:=@Nat.lt_trans
abbrev bV:=@List.idxOf_lt_length_iff
abbrev bW:=@List.ext_getElem?
abbrev bX:=@PySem.wpAny_newList
abbrev bY:=@Nat.le_succ
abbrev bZ:=@of_decide_eq_false
abbrev ba:=@List.mem_append
namespace L2
open PySem PySem.Spec PyProof.Rows
abbrev Key:=Sum Int Str
def bp:Key→VL→Bool
 |.inl k,v=>Value.isInt k v
 |.inr x,v=>Value.isStrOf x v
def nI(w:World):Key→Int
 |.inl k=>hashInt k
 |.inr x=>hashStr w x
def C5:∀ {k:Key} {v:VL},bp k v=true→(∃i t,k=Sum.inl i∧v=Value.int i t)∨(∃x t,k=Sum.inr x∧v=Value.str x t)
 |.inl i,v,h=>by
  obtain⟨t,e⟩:=Value.isInt_shape (k:=i) (v:=v) h;exact .inl ⟨i,t,rfl,e⟩
 |.inr x,v,h=>by
  obtain⟨t,e⟩:=Value.isStrOf_shape (x:=x) (v:=v) h;exact .inr ⟨x,t,rfl,e⟩
def jj(a b:Int):decide ((Sum.inl a:Key)=Sum.inl b)=(a==b):=by
 by_cases e:a=b
 ·subst e;simp
 ·have h:¬(Sum.inl a:Key)=Sum.inl b:=fun q=>e (Sum.inl.inj q);rw [decide_eq_false h];exact(beq_eq_false_iff_ne.mpr e).symm
def iJ(a b:Str):decide ((Sum.inr a:Key)=Sum.inr b)=decide (a=b):=by
 by_cases e:a=b
 ·subst e;simp
 ·have h:¬(Sum.inr a:Key)=Sum.inr b:=fun q=>e (Sum.inr.inj q);rw [decide_eq_false h,decide_eq_false e]
def gg(a:Int)(b:Str):decide ((Sum.inl a:Key)=Sum.inr b)=false:=bE (fun q=>nomatch q)
def ff(a:Str)(b:Int):decide ((Sum.inr a:Key)=Sum.inl b)=false:=bE (fun q=>nomatch q)
def Va(prog:Program)(w:World):PySem.KeyKind prog w Key where
 is:=bp
 hash:=nI w
 inj:=fun v a b ha hb=>by
  rcases C5 ha with ⟨i,t,rfl,rfl⟩|⟨x,t,rfl,rfl⟩
  ·rcases C5 hb with ⟨j,u,rfl,e⟩|⟨y,u,rfl,e⟩
   ·injection e with e1 _;rw [e1]
   ·exact nomatch e
  ·rcases C5 hb with ⟨j,u,rfl,e⟩|⟨y,u,rfl,e⟩
   ·exact nomatch e
   ·injection e with e1 _;rw [e1]
 byValue:=fun k v h=>by
  rcases C5 h with ⟨i,t,rfl,rfl⟩|⟨x,t,rfl,rfl⟩<;>rfl
 pyHash:=fun hv h=>by
  rcases C5 hv with ⟨i,t,rfl,rfl⟩|⟨x,t,rfl,rfl⟩
  ·exact wpAny_pyHash_int h
  ·exact wpAny_pyHash_str h
 eqBool:=fun hu hv h=>by
  rcases C5 hu with ⟨i,t,rfl,rfl⟩|⟨x,t,rfl,rfl⟩
  ·rcases C5 hv with ⟨j,u,rfl,rfl⟩|⟨y,u,rfl,rfl⟩
   ·rw [jj]at h;exact wpAny_eqBool_int h
   ·rw [gg]at h;exact SeqAt.EqAt.int_str i t y u _ _ _ _ h
  ·rcases C5 hv with ⟨j,u,rfl,rfl⟩|⟨y,u,rfl,rfl⟩
   ·rw [ff]at h;exact SeqAt.EqAt.str_int x t j u _ _ _ _ h
   ·rw [iJ]at h;exact wpAny_eqBool_str h
 «strs»:=fun k x t v h=>by
  rcases C5 h with ⟨i,u,rfl,e⟩|⟨y,u,rfl,e⟩
  ·exact nomatch e
  ·injection e with e1 _
   subst e1;cases v<;>rfl
inductive V where
 |A8|bl (b:Bool)|int (i:Int)|str (x:Str)|L9 (b:Array UInt8)|U7 (b:UInt64)|ref (a:Addr)|ty (n:String)
 deriving DecidableEq
def RelV:V→VL→Prop
 |.A8,u=>u=Value.none
 |.bl b,u=>u=Value.bool b
 |.int i,u=>∃t,u=Value.int i t
 |.str x,u=>∃t,u=Value.str x t
 |.L9 b,u=>∃t,u=Value.bytes b t
 |.U7 b,u=>∃t,u=Value.float b t
 |.ref a,u=>u=Value.ref a
 |.ty n,u=>u=Value.type n
abbrev Vals:List V→List VL→Prop:=Paired RelV
def Vals.length{xs:List V}{us:List VL}(r:Vals xs us):xs.length=us.length:=Paired.length r
def Vals.get:∀ {xs:List V} {us:List VL} {i:Nat} {x:V},Vals xs us→xs[i]? = some x→∃u,us[i]? = some u∧RelV x u
 |_,_,_,_,.nil,e=>by simp at e
 |_,_,0,_,.cons r _,e=>by simp at e;subst e;exact⟨_,rfl,r⟩
 |_,_,i+1,x,.cons _ t,e=>by
  obtain⟨u,h1,h2⟩:=Vals.get (i:=i) (x:=x) t (by simpa using e);exact⟨u,by simpa using h1,h2⟩
def Vals.set{x:V}{u:VL}(r:RelV x u):∀ {xs:List V} {us:List VL} (i:Nat),Vals xs us→Vals (xs.set i x) (us.set i u)
 |_,_,_,.nil=>.nil
 |_,_,0,.cons _ t=>.cons r t
 |_,_,i+1,.cons q t=>.cons q (Vals.set r i t)
def Vals.append:∀ {xs ys:List V} {us ws:List VL},Vals xs us→Vals ys ws→Vals (xs++ys) (us++ws)
 |_,_,_,_,.nil,s=>s
 |_,_,_,_,.cons r t,s=>.cons r (Vals.append t s)
def Vals.take:∀ {xs:List V} {us:List VL} (n:Nat),Vals xs us→Vals (xs.take n) (us.take n)
 |_,_,0,_=>.nil
 |_,_,_+1,.nil=>.nil
 |_,_,n+1,.cons r t=>.cons r (Vals.take n t)
def Vals.drop:∀ {xs:List V} {us:List VL} (n:Nat),Vals xs us→Vals (xs.drop n) (us.drop n)
 |_,_,0,r=>r
 |_,_,_+1,.nil=>.nil
 |_,_,n+1,.cons _ t=>Vals.drop n t
def Za:Option V→Option VL→Prop
 |some v,some u=>RelV v u
 |none,none=>True
 |_,_=>False
def KV{κ:Type}:List (κ×V)→List (κ×VL)→Prop:=Paired fun(p:κ×V) (q:κ×VL)=>p.1=q.1∧RelV p.2 q.2
def kV:Key→V
 |.inl i=>.int i
 |.inr x=>.str x
inductive HO where
 |lst (xs:List V)
 |tup (xs:List V)
 |dK (kvs:List (Key×V))|dT (kvs:List (List Key×V))
 |set (S:Int→Bool) (n:Nat)
 |ins (C dx:Addr) (fs:List (Str×V))
 |own (x:Addr)
 |xd (fs:List (Str×V))
 |met (f x:Addr)
 |fv (lo hi:Int)
 |Ef (o:Obj) (u:HO)
 |PC (ps:Array Value)
 |ext (φ:Heap→Prop)
abbrev Hp:=AD→Option HO
def upd(H:Hp)(a:AD)(o:HO):Hp:=fun b=>if b=a then some o else H b
def AZ{H:Hp}{a:AD}{o:HO}:upd H a o a=some o:=by unfold upd;rw [if_pos rfl]
def AM{H:Hp}{a b:AD}{o:HO}(h:b≠a):upd H a o b=H b:=by unfold upd;rw [if_neg h]
def Ah{H:Hp}{a b:AD}{o:HO}(h:H a=some o)(h':H b=none):a≠b:=by
 intro e;subst e;rw [h]at h';cases h'
section
variable(P:Program)(w:World)
def C6(H:Hp)(h:Heap)(a:AD):HO→Prop
 |.lst xs=>xs.length≤sizeLine∧∃(its:List VL) (n:Nat),Vals xs its∧h.get? a=some { cls:=.type "list",data:=.seq its.toArray n }
 |.tup xs=>xs.length≤sizeLine∧∃its:List VL,Vals xs its∧IsTup h a its.toArray
 |.dK kvs=>kvs.length≤sizeLine∧(a==sysModules)=false∧∃vs,KV kvs vs∧h.DictOf (Va P w) a vs
 |.dT kvs=>kvs.length≤sizeLine∧(a==sysModules)=false∧∃xs:List (List Key×AD×VL),
   Paired (fun(p:List Key×V) (q:List Key×AD×VL)=>p.1=q.1∧H q.2.1=some (.tup (p.1.map kV))∧RelV p.2 q.2.2) kvs xs ∧
   ∃o es ep,h.get? a=some o∧o.ExactDict∧o.data=.dict es ep∧es.toList=xs.map (entryOfKey (tupleKind (Va P w)))∧(xs.map (·.1)).Nodup
 |.set S n=>h.SetOf (intKind P w) a S n
 |.ins C dx fs=>H dx=some (.own a)∧fs.length≤1000∧dx≠a∧h.get? a=some (PySem.W.instObj C dx) ∧
   ∃mA,h.Ns1 dx mA∧(∀f,Za (fs.lookup f) (mA f))∧PySem.Within mA (fs.map (·.1))
 |.own _=>∃o,h.get? a=some o
 |.xd fs=>∃mA,h.Ns1 a mA∧∀f,Za (fs.lookup f) (mA f)
 |.fv lo hi=>∃t u v,h.get? a=some { cls:=.type "range",data:=.fields #[.int lo t,.int hi u,.int 1 v] }
 |.Ef o u=>h.get? a=some o∧C6 H h a u
 |.PC ps=>h.get? a=some { cls:=.none,data:=.fields ps }
 |.met f x=>h.get? a=some (PySem.W.methodObj (.ref f) (.ref x))
 |.ext φ=>φ h∧(∃o,h.get? a=some o)∧∀h1 h2:Heap,φ h1→(∀o,h1.get? a=some o→h2.get? a=some o)→φ h2
def EV(H:Hp)(h:Heap):Prop:=∀a o,H a=some o→C6 P w H h a o
end
section
variable{P:Program}{w:World}{H H':Hp}{h h':Heap}{a:AD}{o:HO}
def C6.lt(x:C6 P w H h a o):a<h.objs.size:=by
 cases o with
 |lst xs=>obtain⟨_,_,_,_,e⟩:=x;exact aF e
 |tup xs=>obtain⟨_,_,_,p⟩:=x;exact p.lt
 |dK kvs=>obtain⟨_,_,_,_,o,_,_,e,_⟩:=x;exact aF e
 |dT kvs=>obtain⟨_,_,_,_,o,_,_,e,_⟩:=x;exact aF e
 |set S n=>obtain⟨o,_,_,_,e,_⟩:=x;exact aF e
 |ins C dx fs=>obtain⟨_,_,_,e,_⟩:=x;exact aF e
 |own y=>obtain⟨_,e⟩:=x;exact aF e
 |xd fs=>obtain⟨_,⟨_,_,_,e,_⟩,_⟩:=x;exact aF e
 |fv lo hi=>obtain⟨_,_,_,e⟩:=x;exact aF e
 |Ef ob u=>obtain⟨e,_⟩:=x;exact aF e
 |PC ps=>exact aF (show h.get? a=some _ from x)
 |met f y=>exact aF (show h.get? a=some _ from x)
 |ext φ=>obtain⟨_,⟨_,e⟩,_⟩:=x;exact aF e
def Paired.jT{α β:Type}{F G:α→β→Prop}:∀ {l₁:List α} {l₂:List β},Paired F l₁ l₂→(∀a b,F a b→G a b)→Paired G l₁ l₂
 |_,_,.nil,_=>.nil
 |_,_,.cons r t,f=>.cons (f _ _ r) (Paired.jT t f)
def C6.IC(x:C6 P w H h a o)(k:∀b u,(b=a∨H b=some (.own a))→h.get? b=some u→h'.get? b=some u)
 (ho:∀b,H b=some (.own a)→H' b=some (.own a))(ht:∀b xs,H b=some (.tup xs)→H' b=some (.tup xs)):C6 P w H' h' a o:=by
 induction o with
 |lst xs=>obtain⟨z,its,n,r,e⟩:=x;exact⟨z,its,n,r,k _ _ (.inl rfl) e⟩
 |tup xs=>obtain⟨z,its,r,ob,e,c⟩:=x;exact⟨z,its,r,ob,k _ _ (.inl rfl) e,c⟩
 |dK kvs=>obtain⟨z,y,vs,r,ob,es,ep,e,c⟩:=x;exact⟨z,y,vs,r,ob,es,ep,k _ _ (.inl rfl) e,c⟩
 |dT kvs =>
  obtain⟨z,y,xs,r,ob,es,ep,e,c⟩:=x;exact⟨z,y,xs,Paired.jT r fun p q z=>⟨z.1,ht _ _ z.2.1,z.2.2⟩,ob,es,ep,k _ _ (.inl rfl) e,c⟩
 |set S n=>obtain⟨ob,es,ep,t,e,c⟩:=x;exact⟨ob,es,ep,t,k _ _ (.inl rfl) e,c⟩
 |ins C dx fs =>
  obtain⟨d,z,ne,e,mA,⟨od,es,ep,e2,c⟩,r⟩:=x;exact⟨ho _ d,z,ne,k _ _ (.inl rfl) e,mA,⟨od,es,ep,k _ _ (.inr d) e2,c⟩,r⟩
 |own y=>obtain⟨ob,e⟩:=x;exact⟨ob,k _ _ (.inl rfl) e⟩
 |xd fs=>obtain⟨mA,⟨od,es,ep,e,c⟩,r⟩:=x;exact⟨mA,⟨od,es,ep,k _ _ (.inl rfl) e,c⟩,r⟩
 |fv lo hi=>obtain⟨t,u,v,e⟩:=x;exact⟨t,u,v,k _ _ (.inl rfl) e⟩
 |Ef ob u ih=>obtain⟨e,q⟩:=x;exact⟨k _ _ (.inl rfl) e,ih q⟩
 |PC ps =>
  have e:h.get? a=some { cls:=.none,data:=.fields ps }:=x;show h'.get? a=some { cls:=.none,data:=.fields ps };exact k a _ (.inl rfl) e
 |met f y =>
  have e:h.get? a=some (PySem.W.methodObj (.ref f) (.ref y)):=x;show h'.get? a=some (PySem.W.methodObj (.ref f) (.ref y));exact k a _ (.inl rfl) e
 |ext φ=>obtain⟨p,⟨o,e⟩,st⟩:=x;exact⟨st _ _ p fun o q=>k _ _ (.inl rfl) q,⟨o,k _ _ (.inl rfl) e⟩,st⟩
def EV.lt(x:EV P w H h)(e:H a=some o):a<h.objs.size:=(x a o e).lt
def EV.fresh(x:EV P w H h)(e:h.objs.size≤a):H a=none:=by
 cases q:H a with
 |none=>rfl
 |some u=>exact absurd (aH (x.lt q) e) (Nat.lt_irrefl _)
def EV.kept(x:EV P w H h)(k:∀b u,h.get? b=some u→h'.get? b=some u):EV P w H h':=fun a o e =>
 (x a o e).IC (fun b u _ q=>k b u q) (fun _ q=>q) fun _ _ q=>q
def EV.laid(x:EV P w H h)(k:∀b u,h.get? b=some u→h'.get? b=some u)(hp:h.objs.size≤a)(new:C6 P w (upd H a o) h' a o):EV P w (upd H a o) h':=fun b u e=>by
 have hn:=x.fresh hp;by_cases hb:b=a
 ·subst hb;rw [AZ]at e;cases e;exact new
 ·rw [AM hb]at e;exact(x b u e).IC (fun c v _ q=>k c v q) (fun c q=>by rw [AM (Ah q hn)];exact q) fun c xs q=>by rw [AM (Ah q hn)];exact q
end
def Rd(H:Hp)(a:AD)(u:HO):Prop:=H a=some u∨∃o,H a=some (.Ef o u)
def Rd.ok{P:Program}{w:World}{H:Hp}{h:Heap}{a:AD}{u:HO}(r:Rd H a u)(x:EV P w H h):C6 P w H h a u:=by
 rcases r with r|⟨o,r⟩
 ·exact x a u r
 ·obtain⟨_,q⟩:=x a _ r;exact q
def cM:Option HO→Prop
 |some (.lst _)=>True
 |some (.dK _)=>True
 |some (.dT _)=>True
 |some (.set _ _)=>True
 |some (.ins _ _ _)=>True
 |some (.ext _)=>True
 |_=>False
section
variable{P:Program}{w:World}{H:Hp}{h h':Heap}{x e:AD}{o':HO}
def EV.write(ok:EV P w H h)(mu:cM (H x))(he:e=x∨H e=some (.own x))(k:∀b u,b≠e→h.get? b=some u→h'.get? b=some u)(heo:∃u,h'.get? e=some u)
 (new:C6 P w (upd H x o') h' x o'):EV P w (upd H x o') h':=fun b u q=>by
 have nown:∀c y,H c=some (.own y)→c≠x:=fun c y r z=>by subst z;rw [r]at mu;exact mu
 have UE:∀c xs,H c=some (.tup xs)→c≠x:=fun c xs r z=>by subst z;rw [r]at mu;exact mu
 by_cases hb:b=x
 ·subst hb;rw [AZ]at q;cases q;exact new
 ·rw [AM hb]at q;by_cases hbe:b=e
  ·have q':H b=some (.own x):=by
    rcases he with z|z
    ·exact absurd (hbe.trans z) hb
    ·rw [hbe];exact z
   rw [q]at q';cases q';obtain⟨v,hv⟩:=heo;exact⟨v,by rw [hbe];exact hv⟩
  ·refine(ok b u q).IC (fun c v hc r=>k c v ?_ r) (fun c r=>by rw [AM (nown c b r)];exact r) fun c xs r=>by rw [AM (UE c xs r)];exact r
   rcases hc with rfl|hc
   ·exact hbe
   ·rintro rfl;rcases he with z|z
    ·exact nown c b hc z
    ·rw [hc]at z;cases z;exact hb rfl
end
structure Un(fs ex:List Addr)(H H':Hp)(h h':Heap):Prop where
 keep:∀b o,h.get? b=some o→H b=none→b ∉ fs→b ∉ ex→h'.get? b=some o
 slot:∀b o,h.get? b=some o→H b=none→b∈fs→b ∉ ex→∃sl,h'.get? b=some { o with slots:=sl }
 free:∀b o,h.get? b=some o→H b=none→b ∉ ex→H' b=none
 there:∀b o,h.get? b=some o→b ∉ ex→∃o',h'.get? b=some o'
 DH:∀b xs,H b=some (.tup xs)→H' b=some (.tup xs)
 HC:∀b o u,H b=some (.Ef o u)→H' b=some (.Ef o u)
 HQ:∀b ps,H b=some (.PC ps)→∃more,H' b=some (.PC (ps++more))
section
variable{fs fs' ex ex':List AD}{H H1 H2:Hp}{h h1 h2 h':Heap}{a x e:AD}{o:HO}
def Un.any(u:Un fs ex H H1 h h1){b:AD}{ob:Obj}(q:h.get? b=some ob)(n:H b=none)(hx:b ∉ ex):∃sl,h1.get? b=some { ob with slots:=sl }:=by
 by_cases hb:b∈fs
 ·exact u.slot b ob q n hb hx
 ·exact⟨ob.slots,u.keep b ob q n hb hx⟩
def Un.kept(k:∀b u,h.get? b=some u→h'.get? b=some u):Un fs ex H H h h' :=
 ⟨fun b ob q _ _ _=>k b ob q,fun b ob q _ _ _=>⟨ob.slots,k b ob q⟩,fun _ _ _ n _=>n,fun b ob q _=>⟨ob,k b ob q⟩,fun _ _ q=>q,fun _ _ _ q=>q,fun _ ps q=>⟨#[],by rw [q];simp⟩⟩
def Un.refl:Un fs ex H H h h:=Un.kept fun _ _ q=>q
def Un.laid(k:∀b u,h.get? b=some u→h'.get? b=some u)(hp:h.objs.size≤a)(hn:H a=none):Un fs ex H (upd H a o) h h' where
 keep:=fun b u q _ _ _=>k b u q
 slot:=fun b u q _ _ _=>⟨u.slots,k b u q⟩
 free:=fun b u q n _=>by rw [AM (aG (aH (aF q) hp))];exact n
 there:=fun b u q _=>⟨u,k b u q⟩
 DH:=fun b xs q=>by rw [AM (Ah q hn)];exact q
 HC:=fun b u xs q=>by rw [AM (Ah q hn)];exact q
 HQ:=fun b ps q=>⟨#[],by rw [AM (Ah q hn),q];simp⟩
def Un.write(mu:cM (H x))(he:e=x∨H e=some (.own x))(k:∀b u,b≠e→h.get? b=some u→h'.get? b=some u)(heo:∃u,h'.get? e=some u):Un fs ex H (upd H x o) h h':=by
 have hx:∀b,H b=none→b≠x:=fun b n z=>by subst z;rw [n]at mu;exact mu
 have hb:∀b,H b=none→b≠e:=fun b n z=>by
  subst z;rcases he with r|r
  ·exact hx b n r
  ·rw [n]at r;cases r
 have hm:∀b u,H b=some u→¬cM (some u)→b≠x:=fun b u q nm z=>by subst z;rw [q]at mu;exact nm mu
 refine⟨fun b u q n _ _=>k b u (hb b n) q,fun b u q n _ _=>⟨u.slots,k b u (hb b n) q⟩,fun b u q n _=>by rw [AM (hx b n)];exact n,fun b u q _=>?_,
  fun b xs q=>by rw [AM (hm b _ q fun z=>z)];exact q,fun b u xs q=>by rw [AM (hm b _ q fun z=>z)];exact q,fun b ps q=>⟨#[],by rw [AM (hm b _ q fun z=>z),q];simp⟩⟩
 by_cases hbe:b=e
 ·subst hbe;exact heo
 ·exact⟨u,k b u hbe q⟩
end
def E2(h:Heap)(H:Hp):List AD:=(List.range h.objs.size).filter fun a=>(H a).isSome
def LJ(h:Heap)(H:Hp):Heap:=PySem.W.hideAll h (E2 h H)
def W5(h:Heap)(H:Hp):(LJ h H).objs.size=h.objs.size:=PySem.W.hideAll_size _ _
def Ys{h:Heap}{H:Hp}{b:AD}{o:Obj}(e:h.get? b=some o)(n:H b=none):(LJ h H).get? b=some o :=
 PySem.W.hideAll_get _ e fun hm=>by
  have q:(H b).isSome=true:=(List.mem_filter.mp hm).2;rw [n]at q;simp at q
def dI{h:Heap}{H:Hp}{b:AD}{o:Obj}(e:(LJ h H).get? b=some o):h.get? b=some o∧H b=none:=by
 have e':h.get? b=some o:=PySem.W.of_hideAll (E2 h H) e;refine⟨e',?_⟩;cases q:H b with
 |none=>rfl
 |some x =>
  have hm:b∈E2 h H:=List.mem_filter.mpr ⟨az.mpr (aF e'),by simp [q]⟩;have z:(LJ h H).get? b=none:=PySem.W.hideAll_none (E2 h H) hm;rw [z]at e;cases e
structure Mod(K:Fg)(mg:Str→Option Value)(base:Heap):Prop where
 Po:K.In base
 glob:base.Ns mainGlobals mg
 blt:∃mb,base.Ns builtinsNs mb∧∀x:Str,x ≠ "__name__" → mb x=bootBuiltins x
 nolimit:base.NoLimit
structure Cx where
 prog:Program
 w:World
 K:Fg
 mg:Str→Option Value
 base:Heap
 A:Around
 N:List Str
 s₀:Shared
 H₀:Hp
 env:Env
 outer:List Env
 stack:List Env
 ex:List Addr
 fn:Str→Bool
 calm:Bool
 pn:List (Addr×Obj)
 xe:Value→Shared→Prop
def Fu(l:List Env):List AD:=l.filterMap (·.frame)
abbrev Cx.fs(X:Cx):List AD:=Fu X.outer
def iV(sc:Scope)(x:Str):Prop:=sc.names.lookup x=some .local∨sc.names.lookup x=some .cell∨sc.names.lookup x=some .free
def Loc(sc:Scope)(x:Str):Prop:=sc.names.lookup x=some .local∨sc.names.lookup x=some .cell
def Look(env:Env)(h:Heap)(m:Str→Option VL)(x:Str)(u:VL):Prop :=
 (env.kindOf x=some .local∧m x=some u)∨((env.kindOf x=some .cell∨env.kindOf x=some .free)∧∃c,env.cells.lookup x=some c∧h.IsCell c (some u))
structure Cx.Ok(X:Cx):Prop where
 mod:Mod X.K X.mg X.base
 kind:X.env.scope.kind=.function
 glob:X.env.globals=mainGlobals
 blt:X.env.builtins=builtinsNs
 above:X.s₀.heap.objs.size≤X.env.locals
 inj:∀x y c,X.env.cells.lookup x=some c→X.env.cells.lookup y=some c→x=y
 has:∀x,(X.env.kindOf x=some .cell∨X.env.kindOf x=some .free)→∃c,X.env.cells.lookup x=some c
 YO:∀x c,X.fn x=true→X.env.cells.lookup x=some c→X.s₀.heap.objs.size≤c
 hd:X.calm=true→X.A.handled=none
 frames:X.A.frames=some X.stack
 cP:X.stack=X.outer∨(X.stack=X.env::X.outer∧X.env.frame=some X.env.locals)
 lV:∀b∈X.ex,b≠X.env.locals∧∀x c,X.env.cells.lookup x=some c→c≠b
 bs:∀b o,X.base.get? b=some o→X.s₀.heap.get? b=some o∧X.H₀ b=none
 RL:X.base.objs.size≤X.s₀.heap.objs.size
 Sh:∀b o,X.base.get? b=some o→b ∉ X.ex
 Tg:∀b∈X.ex,b ∉ X.fs
 HP:X.s₀.heap.FunFrames X.base X.outer
 RI:∀b∈X.fs,X.H₀ b=none
structure Inv(X:Cx)(pins:List (Addr×Obj))(σ:List (Option V))(H:Hp)(s:Shared):Prop where
 ok:X.Ok
 os:s.os=X.s₀.os
 bare:AllBare s.gens
 base:Un X.fs X.ex X.H₀ H X.s₀.heap s.heap
 loc:∃m,s.heap.Ns X.env.locals m∧∀(i:Nat) (x:Str) (v:V),X.N[i]? = some x→σ[i]? = some (some v)→iV X.env.scope x→∃u,RelV v u∧Look X.env s.heap m x u
 cell:∀x c,X.env.cells.lookup x=some c→∃v,s.heap.IsCell c v
 free:H X.env.locals=none
 Hh:∀x c,X.env.cells.lookup x=some c→H c=none
 pin:∀p∈X.pn++pins,s.heap.get? p.1=some p.2∧H p.1=none∧p.1≠X.env.locals∧p.1 ∉ X.fs∧∀v,p.2.data≠.cell v
 Av:EV X.prog X.w H s.heap
 len:σ.length=X.N.length
section
variable{X:Cx}{pins:List (AD×Obj)}{σ:List (Option V)}{H H':Hp}{s:SD}{h':Heap}
def Cx.Ok.mC(ok:X.Ok){b:AD}{o:Obj}(e:X.base.get? b=some o):b ∉ X.fs:=fun hb=>by
 have:=(ok.HP.mem hb).1;rw [e]at this;cases this
def Inv.bs(I:Inv X pins σ H s):∀b o,X.base.get? b=some o→s.heap.get? b=some o∧H b=none:=fun b o e =>
 ⟨I.base.keep b o (I.ok.bs b o e).1 (I.ok.bs b o e).2 (I.ok.mC e) (I.ok.Sh b o e),I.base.free b o (I.ok.bs b o e).1 (I.ok.bs b o e).2 (I.ok.Sh b o e)⟩
def Inv.bk(I:Inv X pins σ H s):∀b o,X.base.get? b=some o→s.heap.get? b=some o:=fun b o e=>(I.bs b o e).1
def Inv.mod(I:Inv X pins σ H s):Mod X.K X.mg X.base:=I.ok.mod
def Inv.Hm(I:Inv X pins σ H s):X.K.In s.heap:=I.ok.mod.Po.keeps I.bk
def Inv.lt(I:Inv X pins σ H s):X.env.locals<s.heap.objs.size:=let⟨_,hn,_⟩:=I.loc;hn.lt
def Inv.sz(I:Inv X pins σ H s):X.s₀.heap.objs.size≤s.heap.objs.size:=ae I.ok.above (bL I.lt)
def Inv.my(I:Inv X pins σ H s){a:AD}(h:s.heap.objs.size≤a):a ∉ X.fs:=fun hb=>by
 obtain⟨_,o,ho,_⟩:=I.ok.HP.mem hb;exact absurd (aH (aF ho) (ae I.sz h)) (Nat.lt_irrefl _)
def Inv.Ti(I:Inv X pins σ H s):∀x c,X.env.cells.lookup x=some c→c≠X.env.locals:=fun x c e z=>by
 obtain⟨v,o,ho,hd⟩:=I.cell x c e;obtain⟨m,⟨o',es,ep,ho',hd',_⟩,_⟩:=I.loc;rw [z,ho']at ho;cases ho;rw [hd']at hd;cases hd
def Inv.HP(I:Inv X pins σ H s):s.heap.FunFrames X.base X.outer:=by
 have all:∀(l:List Env),(∀b∈Fu l,b∈X.fs)→X.s₀.heap.FunFrames X.base l→s.heap.FunFrames X.base l:=by
  intro l
  induction l with
  |nil=>intro _ _;trivial
  |cons env r ih =>
   intro hs hl;obtain⟨hk,⟨L,o,hf,hn,ho,hd⟩,hr⟩:=hl;have hL:L∈X.fs:=hs L (by unfold Fu;rw [List.filterMap_cons,hf];exact ai);obtain⟨sl,e⟩:=I.base.slot L o ho (I.ok.RI L hL) hL fun z=>I.ok.Tg L z hL;exact⟨hk,⟨L,_,hf,hn,e,hd⟩,ih (fun b hb=>hs b (by unfold Fu;rw [List.filterMap_cons,hf];exact aU _ hb)) hr⟩
 exact all X.outer (fun _ hb=>hb) I.ok.HP
def Inv.stack(I:Inv X pins σ H s):s.heap.FunFrames X.base X.stack:=by
 rcases I.ok.cP with e|⟨e,hf⟩
 ·rw [e];exact I.HP
 ·rw [e];obtain⟨m,hn,_⟩:=I.loc;refine .cons (by rw [I.ok.kind];decide) hf hn ?_ I.HP;exact Heap.get?_none_of_le (ae I.ok.RL I.ok.above)
def Inv.Mo(I:Inv X pins σ H s):∀b∈Fu X.stack,b∈X.env.locals::X.fs:=fun b hb=>by
 rcases I.ok.cP with e|⟨e,hf⟩
 ·rw [e]at hb;exact aU _ hb
 ·rw [e]at hb;unfold Fu at hb;rw [List.filterMap_cons,hf]at hb;exact hb
def Inv.P0(I:Inv X pins σ H s):∀b∈Fu X.stack,H b=none:=fun b hb=>by
 rcases aK.mp (I.Mo b hb) with e|hb
 ·rw [e];exact I.free
 ·obtain⟨_,o,ho,_⟩:=I.ok.HP.mem hb;exact I.base.free b o ho (I.ok.RI b hb) fun z=>I.ok.Tg b z hb
def Inv.step{g':Array GenState}{t':Nat}{d':Drawn}{ch:List AD}(I:Inv X pins σ H s)
 (hch:∀b∈ch,(b∈X.ex∨X.s₀.heap.objs.size≤b)∧b≠X.env.locals∧(∀x c,X.env.cells.lookup x=some c→c≠b)∧∀p∈X.pn++pins,p.1≠b)
 (keep:∀b o,b≠X.env.locals→b ∉ X.fs→b ∉ ch→s.heap.get? b=some o→H b=none→h'.get? b=some o)
 (slot:∀b o,b≠X.env.locals→b∈X.fs→b ∉ ch→s.heap.get? b=some o→H b=none→∃sl,h'.get? b=some { o with slots:=sl })(free:∀b o,b ∉ ch→s.heap.get? b=some o→H b=none→H' b=none)
 (there:∀b o,b ∉ ch→s.heap.get? b=some o→∃o',h'.get? b=some o')
 (DH:∀b xs,H b=some (.tup xs)→H' b=some (.tup xs))(HC:∀b o u,H b=some (.Ef o u)→H' b=some (.Ef o u))(HQ:∀b ps,H b=some (.PC ps)→∃more,H' b=some (.PC (ps++more)))
 (ns:∀m,s.heap.Ns X.env.locals m→h'.Ns X.env.locals m)(Av:EV X.prog X.w H' h')(hg:AllBare g') :
  Inv X pins σ H' { s with heap:=h',gens:=g',drawn:=d',toks:=t' }:=by
 have neL:∀b o,X.s₀.heap.get? b=some o→b≠X.env.locals:=fun b o e=>aG (aH (aF e) I.ok.above);have neC:∀b o,X.s₀.heap.get? b=some o→b ∉ X.ex→b ∉ ch:=fun b o e hx hb=>by
  rcases(hch b hb).1 with z|z
  ·exact hx z
  ·exact absurd (aH (aF e) z) (Nat.lt_irrefl _)
 have cellK:∀x c,X.env.cells.lookup x=some c→∀v,s.heap.IsCell c v→h'.IsCell c v:=fun x c e v ⟨o,ho,hd⟩=>by
  have nch:c ∉ ch:=fun z=>(hch c z).2.2.1 x c e rfl;by_cases hc:c∈X.fs
  ·obtain⟨sl,q⟩:=slot c o (I.Ti x c e) hc nch ho (I.Hh x c e);exact⟨_,q,hd⟩
  ·exact⟨o,keep c o (I.Ti x c e) hc nch ho (I.Hh x c e),hd⟩
 refine⟨I.ok,I.os,hg,⟨fun b o e n hb hx=>?_,fun b o e n hb hx=>?_,fun b o e n hx=>?_,fun b o e hx=>?_,fun b xs e=>DH b xs (I.base.DH b xs e),fun b o xs e=>HC b o xs (I.base.HC b o xs e),fun b ps e=>?_⟩,?_,fun x c e=>?_,?_,fun x c e=>?_,fun p hp=>?_,Av,I.len⟩
 ·exact keep b o (neL b o e) hb (neC b o e hx) (I.base.keep b o e n hb hx) (I.base.free b o e n hx)
 ·obtain⟨sl,e1⟩:=I.base.slot b o e n hb hx;obtain⟨sl',e2⟩:=slot b _ (neL b o e) hb (neC b o e hx) e1 (I.base.free b o e n hx);exact⟨sl',e2⟩
 ·obtain⟨o',e1⟩:=I.base.there b o e hx;exact free b o' (neC b o e hx) e1 (I.base.free b o e n hx)
 ·obtain⟨o',e1⟩:=I.base.there b o e hx;exact there b o' (neC b o e hx) e1
 ·obtain⟨m1,e1⟩:=I.base.HQ b ps e;obtain⟨m2,e2⟩:=HQ b _ e1;exact⟨m1++m2,by rw [e2,Array.append_assoc]⟩
 ·obtain⟨m,hn,hl⟩:=I.loc;refine⟨m,ns m hn,fun i x v e1 e2 e3=>?_⟩;obtain⟨u,r,l⟩:=hl i x v e1 e2 e3;refine⟨u,r,?_⟩;rcases l with l|⟨k,c,e,z⟩
  ·exact .inl l
  ·exact .inr ⟨k,c,e,cellK x c e _ z⟩
 ·obtain⟨v,z⟩:=I.cell x c e;exact⟨v,cellK x c e v z⟩
 ·obtain⟨m,⟨o,_,_,ho,_⟩,_⟩:=I.loc;exact free _ o (fun z=>(hch _ z).2.1 rfl) ho I.free
 ·obtain⟨v,o,ho,hd⟩:=I.cell x c e;exact free c o (fun z=>(hch c z).2.2.1 x c e rfl) ho (I.Hh x c e)
 ·obtain⟨e,n,ne,nf,d⟩:=I.pin p hp;have nch:p.1 ∉ ch:=fun z=>(hch p.1 z).2.2.2 p hp rfl;exact⟨keep p.1 p.2 ne nf nch e n,free p.1 p.2 nch e n,ne,nf,d⟩
def Inv.un{t':Nat}(I:Inv X pins σ H s)(u:Un X.fs [] H H' s.heap h')(Av:EV X.prog X.w H' h'):Inv X pins σ H' { s with heap:=h',toks:=t' }:=by
 obtain⟨m,⟨o,es,ep,ho,r⟩,_⟩:=id I.loc;obtain⟨sl,hL⟩:=u.any ho I.free (by simp);exact I.step (g':=s.gens) (d':=s.drawn) (ch:=[]) (fun _ z=>nomatch z) (fun b o _ hb _ e n=>u.keep b o e n hb (by simp)) (fun b o _ hb _ e n=>u.slot b o e n hb (by simp)) (fun b o _ e n=>u.free b o e n (by simp)) (fun b o _ e=>u.there b o e (by simp)) u.DH u.HC u.HQ (fun m' hm=>by
  obtain⟨o',es',ep',ho',r'⟩:=hm;rw [ho]at ho';cases ho';exact⟨_,es',ep',hL,r'⟩) Av I.bare
def Inv.call{g':Array GenState}{t':Nat}{d':Drawn}{ch:List AD}(I:Inv X pins σ H s)(u:Un (Fu X.stack) ch H H' s.heap h')(Av:EV X.prog X.w H' h')(hg:AllBare g')
 (hch:∀b∈ch,(b∈X.ex∨X.s₀.heap.objs.size≤b)∧b≠X.env.locals∧(∀x c,X.env.cells.lookup x=some c→c≠b)∧∀p∈X.pn++pins,p.1≠b) :
  Inv X pins σ H' { s with heap:=h',gens:=g',drawn:=d',toks:=t' }:=by
 obtain⟨m,⟨o,es,ep,ho,r⟩,_⟩:=id I.loc;obtain⟨sl,hL⟩:=u.any ho I.free fun z=>(hch _ z).2.1 rfl;exact I.step (ch:=ch) hch (fun b o hL hb hc e n=>u.keep b o e n (fun z=>(aK.mp (I.Mo b z)).elim hL hb) hc) (fun b o _ _ hc e n=>u.any e n hc) (fun b o hc e n=>u.free b o e n hc) (fun b o hc e=>u.there b o e hc) u.DH u.HC u.HQ (fun m' hm=>by
  obtain⟨o',es',ep',ho',r'⟩:=hm;rw [ho]at ho';cases ho';exact⟨_,es',ep',hL,r'⟩) Av hg
def Inv.turned{t':Nat}{it:AD}(I:Inv X pins σ H s)(k:∀b o,b≠it→s.heap.get? b=some o→h'.get? b=some o)(hn:H it=none)(hL:it≠X.env.locals)
 (h1:it∈X.ex∨X.s₀.heap.objs.size≤it)(h2:∀x c,X.env.cells.lookup x=some c→c≠it)(h3:∀p∈X.pn++pins,p.1≠it):Inv X pins σ H { s with heap:=h',toks:=t' }:=by
 have nit:∀b u,H b=some u→b≠it:=fun b u e z=>by rw [z,hn]at e;cases e
 refine I.step (g':=s.gens) (d':=s.drawn) (ch:=[it]) (fun b hb=>?_) (fun b o _ _ hc e _=>k b o (fun z=>hc (by simp [z])) e) (fun b o _ _ hc e _=>⟨o.slots,k b o (fun z=>hc (by simp [z])) e⟩) (fun _ _ _ _ n=>n)
  (fun b o hc e=>⟨o,k b o (fun z=>hc (by simp [z])) e⟩) (fun _ _ e=>e) (fun _ _ _ e=>e) (fun b ps e=>⟨#[],by rw [e];simp⟩) (fun m hm=>?_) (fun b u e=>?_) I.bare
 ·have e:b=it:=by simpa using hb
  subst e;exact⟨h1,hL,h2,h3⟩
 ·obtain⟨o,es,ep,ho,r⟩:=hm;exact⟨o,es,ep,k _ o (Ne.symm hL) ho,r⟩
 ·refine(I.Av b u e).IC (fun c v hc q=>k c v ?_ q) (fun _ q=>q) fun _ _ q=>q;rcases hc with z|z
  ·rw [z];exact nit b u e
  ·exact nit c _ z
def Inv.tok(I:Inv X pins σ H s)(t:Nat):Inv X pins σ H { s with toks:=t }:=I.un (h':=s.heap) (t':=t) Un.refl I.Av
def Inv.kept{t':Nat}(I:Inv X pins σ H s)(k:∀b u,s.heap.get? b=some u→h'.get? b=some u):Inv X pins σ H { s with heap:=h',toks:=t' }:=I.un (Un.kept k) (I.Av.kept k)
def Inv.laid{a:AD}{o:HO}{t':Nat}(I:Inv X pins σ H s)(k:∀b u,s.heap.get? b=some u→h'.get? b=some u)(hp:s.heap.objs.size≤a)(new:C6 X.prog X.w (upd H a o) h' a o) :
  Inv X pins σ (upd H a o) { s with heap:=h',toks:=t' }:=I.un (Un.laid k hp (I.Av.fresh hp)) (I.Av.laid k hp new)
def Inv.write{x e:AD}{o:HO}{t':Nat}(I:Inv X pins σ H s)(mu:cM (H x))(he:e=x∨H e=some (.own x))(k:∀b u,b≠e→s.heap.get? b=some u→h'.get? b=some u)(heo:∃u,h'.get? e=some u)
 (new:C6 X.prog X.w (upd H x o) h' x o):Inv X pins σ (upd H x o) { s with heap:=h',toks:=t' }:=I.un (Un.write mu he k heo) (I.Av.write mu he k heo new)
def Inv.VG{pins':List (AD×Obj)}(I:Inv X pins σ H s)(h:∀p∈pins',s.heap.get? p.1=some p.2∧H p.1=none∧p.1≠X.env.locals∧p.1 ∉ X.fs∧∀v,p.2.data≠.cell v):Inv X pins' σ H s :=
 ⟨I.ok,I.os,I.bare,I.base,I.loc,I.cell,I.free,I.Hh,fun p hp=>(ba.mp hp).elim (fun z=>I.pin p (bN _ z)) (h p),I.Av,I.len⟩
def T8{N:List Str}(hN:N.Nodup){i j:Nat}{x:Str}(a:N[i]? = some x)(b:N[j]? = some x):i=j:=by
 obtain⟨h1,e1⟩:=aE.mp a;obtain⟨h2,e2⟩:=aE.mp b;exact(List.getElem_inj hN).mp (e1.trans e2.symm)
def Mf{M:Model}{A:Around}{E:VL→SD→Prop}{i:Nat}{x:Str}{v:V}{u:VL}{Q:Unit→SD→Prop}(I:Inv X pins σ H s)(hN:X.N.Nodup)(hi:X.N[i]? = some x)(hx:Loc X.env.scope x)(r:RelV v u)
 (h:∀s',Inv X pins (σ.set i (some v)) H s'→(∃a,Heap.SameBut a s.heap s'.heap∧(a=X.env.locals∨X.env.cells.lookup x=some a))→Q () s')(hf:X.fn x=true∨X.env.scope.names.lookup x=some .local:=by first|exact .inl rfl|exact .inr rfl|assumption):wpAny M A (storeName X.env x u) Q E s:=by
 obtain⟨m,hn,hl⟩:=id I.loc;have hcls:(X.env.scope.kind==.class||(X.env.scope.kind==.module&&X.env.locals != X.env.globals))=false:=by rw [I.ok.kind];rfl
 have hiσ:i<σ.length:=by rw [I.len];exact(aE.mp hi).1
 have Ti:=I.Ti;have tracked:∀ {a:AD} {h':Heap},(∃o,s.heap.get? a=some o∧H a=none)→Heap.SameBut a s.heap h'→EV X.prog X.w H h':=fun {a h'} ha hs b ob e=>by
  obtain⟨_,_,hfree⟩:=ha;refine(I.Av b ob e).IC (fun c w' hc q=>(hs.2 c ?_).trans q) (fun _ q=>q) fun _ _ q=>q;rintro rfl;rcases hc with rfl|hc
  ·rw [hfree]at e;cases e
  ·rw [hfree]at hc;cases hc
 rcases hx with hk|hk
 ·refine wpAny_storeName_local hk hn (fun h' hn' hs=>?_) hcls;obtain⟨oL,_,_,hoL,_⟩:=id hn;refine h _ ⟨I.ok,I.os,I.bare,⟨fun b o e n hb hx=>?_,fun b o e n hb hx=>?_,I.base.free,fun b o e hx=>?_,I.base.DH,I.base.HC,I.base.HQ⟩,⟨_,hn',fun j y v' e1 e2 e3=>?_⟩,fun y c e=>?_,I.free,I.Hh,fun p hp=>?_,tracked ⟨oL,hoL,I.free⟩ hs,by simpa using I.len⟩ ⟨_,hs,.inl rfl⟩
  ·exact(hs.2 b (aG (aH (aF e) I.ok.above))).trans (I.base.keep b o e n hb hx)
  ·obtain⟨sl,e1⟩:=I.base.slot b o e n hb hx;exact⟨sl,(hs.2 b (aG (aH (aF e) I.ok.above))).trans e1⟩
  ·obtain⟨o',e1⟩:=I.base.there b o e hx;exact⟨o',(hs.2 b (aG (aH (aF e) I.ok.above))).trans e1⟩
  ·by_cases hj:j=i
   ·subst hj;rw [hi]at e1;cases e1;rw [List.getElem?_set_self hiσ]at e2;cases e2;exact⟨u,r,.inl ⟨hk,by simp⟩⟩
   ·rw [List.getElem?_set_ne (Ne.symm hj)]at e2;obtain⟨u',r',q⟩:=hl j y v' e1 e2 e3;refine⟨u',r',?_⟩;rcases q with ⟨k,e⟩|⟨k,c,e,z⟩
    ·refine .inl ⟨k,?_⟩;have:y≠x:=fun e=>hj (T8 hN e1 (e ▸ hi));simp [this,e]
    ·exact .inr ⟨k,c,e,z.sameBut hs (Ti y c e)⟩
  ·obtain⟨w',z⟩:=I.cell y c e;exact⟨w',z.sameBut hs (Ti y c e)⟩
  ·obtain⟨e,n,ne,nf,d⟩:=I.pin p hp;exact⟨(hs.2 p.1 ne).trans e,n,ne,nf,d⟩
 ·have hfn:X.fn x=true:=by
   rcases hf with z|z
   ·exact z
   ·rw [z]at hk;cases hk
  obtain⟨c,hc⟩:=I.ok.has x (.inl hk);obtain⟨w',z⟩:=I.cell x c hc;refine wpAny_storeName_cell I.ok.kind hk hc z (fun h' hc' hs=>?_);obtain⟨oc,hoc,hocd⟩:=id z;refine h { s with heap:=h' } ⟨I.ok,I.os,I.bare,⟨fun b o e n hb hx=>?_,fun b o e n hb hx=>?_,I.base.free,fun b o e hx=>?_,I.base.DH,I.base.HC,I.base.HQ⟩,⟨m,hn.sameBut hs (Ne.symm (Ti x c hc)),fun j y v' e1 e2 e3=>?_⟩,fun y c' e=>?_,I.free,I.Hh,fun p hp=>?_,tracked ⟨oc,hoc,I.Hh x c hc⟩ hs,by simpa using I.len⟩ ⟨c,hs,.inr hc⟩
  ·exact(hs.2 b (aG (aH (aF e) (I.ok.YO x c hfn hc)))).trans (I.base.keep b o e n hb hx)
  ·obtain⟨sl,e1⟩:=I.base.slot b o e n hb hx;exact⟨sl,(hs.2 b (aG (aH (aF e) (I.ok.YO x c hfn hc)))).trans e1⟩
  ·obtain⟨o',e1⟩:=I.base.there b o e hx;exact⟨o',(hs.2 b (aG (aH (aF e) (I.ok.YO x c hfn hc)))).trans e1⟩
  ·by_cases hj:j=i
   ·subst hj;rw [hi]at e1;cases e1;rw [List.getElem?_set_self hiσ]at e2;cases e2;exact⟨u,r,.inr ⟨.inl hk,c,hc,hc'⟩⟩
   ·rw [List.getElem?_set_ne (Ne.symm hj)]at e2;obtain⟨u',r',q⟩:=hl j y v' e1 e2 e3;refine⟨u',r',?_⟩;rcases q with q|⟨k,c',e,z'⟩
    ·exact .inl q
    ·refine .inr ⟨k,c',e,z'.sameBut hs ?_⟩;rintro rfl;exact hj (T8 hN e1 (I.ok.inj _ _ _ e hc ▸ hi))
  ·by_cases hcc:c'=c
   ·subst hcc;exact⟨_,hc'⟩
   ·obtain⟨w2,z2⟩:=I.cell y c' e;exact⟨w2,z2.sameBut hs hcc⟩
  ·obtain⟨e,n,ne,nf,d⟩:=I.pin p hp;refine⟨(hs.2 p.1 ?_).trans e,n,ne,nf,d⟩;intro q;rw [q,hoc]at e;have q':oc=p.2:=aW e;exact d w' (by rw [←q'];exact hocd)
def LB{M:Model}{A:Around}{E:VL→SD→Prop}{i:Nat}{x:Str}{v:V}{u:VL}{Q:Unit→SD→Prop}(I:Inv X pins σ H s)(hN:X.N.Nodup)(hi:X.N[i]? = some x)(hx:Loc X.env.scope x)(r:RelV v u)
 (h:∀s',Inv X pins (σ.set i (some v)) H s'→Q () s')(hf:X.fn x=true∨X.env.scope.names.lookup x=some .local:=by first|exact .inl rfl|exact .inr rfl|assumption):wpAny M A (storeName X.env x u) Q E s :=
 Mf I hN hi hx r (fun s' I' _=>h s' I') hf
def Inv.jo{s':SD}{ch:List AD}(I:Inv X pins σ H s)(ho:s'.os=s.os)(u:Un (Fu X.stack) ch H H' s.heap s'.heap)(Av:EV X.prog X.w H' s'.heap)(hg:AllBare s'.gens)
 (hch:∀b∈ch,(b∈X.ex∨X.s₀.heap.objs.size≤b)∧b≠X.env.locals∧(∀x c,X.env.cells.lookup x=some c→c≠b)∧∀p∈X.pn++pins,p.1≠b):Inv X pins σ H' s':=by
 obtain⟨h',g',d',t',o'⟩:=s';have e:o'=s.os:=ho;subst e;exact I.call (g':=g') (t':=t') (d':=d') u Av hg hch
end
abbrev XK:=VL→Option AD→Hp→Prop
abbrev St:=List (Option V)
abbrev VK:=V→Hp→Prop
abbrev TE:=St→Hp→VK→Prop
abbrev TT:=St→Hp→(Bool→Hp→Prop)→Prop
abbrev TA:=St→Hp→(List V→Hp→Prop)→Prop
structure Ends where
 nx:St→Hp→Prop
 rt:VK
 bk:St→Hp→Prop:=fun _ _=>False
 ct:St→Hp→Prop:=fun _ _=>False
abbrev TS:=Ends→St→Hp→Prop
def EP(X:Cx)(pins:List (AD×Obj))(σ:St)(Q:VK)(u:VL)(s':SD):Prop:=∃v H',Inv X pins σ H' s'∧RelV v u∧Q v H'
def TP(X:Cx)(pins:List (AD×Obj))(σ:St)(Q:Bool→Hp→Prop)(b:Bool)(s':SD):Prop:=∃H',Inv X pins σ H' s'∧Q b H'
def AP(X:Cx)(pins:List (AD×Obj))(σ:St)(Q:List V→Hp→Prop)(us:List VL)(s':SD):Prop:=∃vs H',Inv X pins σ H' s'∧Vals vs us∧Q vs H'
def SP(X:Cx)(pins:List (AD×Obj))(D:Ends)(f:Flow)(s':SD):Prop :=
 match f with
 |.next=>∃σ' H',Inv X pins σ' H' s'∧D.nx σ' H'
 |.brk=>∃σ' H',Inv X pins σ' H' s'∧D.bk σ' H'
 |.cont=>∃σ' H',Inv X pins σ' H' s'∧D.ct σ' H'
 |.ret u=>∃v σ' H',Inv X pins σ' H' s'∧RelV v u∧D.rt v H'
def PE(X:Cx)(e:Expr)(t:TE):Prop :=
 ∀(pins:List (AD×Obj)) (s:SD) (σ:St) (H:Hp) (Q:VK),Inv X pins σ H s→t σ H Q→wpAny (model X.prog X.w) X.A (eval e X.env) (EP X pins σ Q) X.xe s
def PT(X:Cx)(e:Expr)(t:TT):Prop :=
 ∀(pins:List (AD×Obj)) (s:SD) (σ:St) (H:Hp) (Q:Bool→Hp→Prop),Inv X pins σ H s→t σ H Q→wpAny (model X.prog X.w) X.A (isTrue e X.env (eval e X.env)) (TP X pins σ Q) X.xe s
def PW(X:Cx)(e:Expr)(t:TT):Prop :=
 ∀(whole:Sem VL) (pins:List (AD×Obj)) (s:SD) (σ:St) (H:Hp) (Q:Bool→Hp→Prop),Inv X pins σ H s→t σ H Q→wpAny (model X.prog X.w) X.A (isTrue e X.env whole) (TP X pins σ Q) X.xe s
def PW.pt{X:Cx}{e:Expr}{t:TT}(h:PW X e t):PT X e t:=h _
def PA(X:Cx)(es:List Expr)(t:TA):Prop :=
 ∀(pos:Pos) (pins:List (AD×Obj)) (s:SD) (σ:St) (H:Hp) (Q:List V→Hp→Prop),Inv X pins σ H s→t σ H Q→wpAny (model X.prog X.w) X.A (spliced (backTo pos (starEach es X.env))) (AP X pins σ Q) X.xe s
def PS(X:Cx)(st:Stmt)(t:TS):Prop :=
 ∀(pins:List (AD×Obj)) (s:SD) (σ:St) (H:Hp) (D:Ends),Inv X pins σ H s→t D σ H→wpAny (model X.prog X.w) X.A (exec st X.env) (SP X pins D) X.xe s
def HI(X:Cx)(st:List Stmt)(t:TS):Prop :=
 ∀(pins:List (AD×Obj)) (s:SD) (σ:St) (H:Hp) (D:Ends),Inv X pins σ H s→t D σ H→wpAny (model X.prog X.w) X.A (execs st X.env) (SP X pins D) X.xe s
def A6{α:Type}{t:Sem α}{Q Q':α→SD→Prop}{M:Model}{A:Around}{E:VL→SD→Prop}{s:SD}(h:wpAny M A t Q E s)(hQ:∀a s,Q a s→Q' a s):wpAny M A t Q' E s:=ag h hQ fun _ _ x=>x
section
variable{X:Cx}
def Lk(i:Nat):TE:=fun σ H Q=>∃v,σ[i]? = some (some v)∧Q v H
def tC(v:V):TE:=fun _ H Q=>Q v H
def gV{i:Nat}{x:Str}{pos:Pos}(hN:X.N[i]? = some x)(hv:iV X.env.scope x)(hd:(x==("__debug__" : Str))=false:=by decide)(hcd:(x==("__classdict__" : Str))=false:=by decide):PE X (.Name x pos) (Lk i):=by
 intro pins s σ H Q I h;obtain⟨v,e,h⟩:=h;obtain⟨m,hn,hl⟩:=I.loc;obtain⟨u,r,l⟩:=hl i x v hN e hv;have fin:EP X pins σ Q u s:=⟨v,H,I,r,h⟩;rcases l with ⟨hk,hm⟩|⟨hk,c,hc,hcell⟩
 ·exact wpAny_Name (wpAny_loadName_local I.ok.kind hk hn hm fin) hd
 ·rcases hk with hk|hk
  ·exact wpAny_Name (wpAny_loadName_cell I.ok.kind hk hc hcell fin) hd
  ·exact wpAny_Name (wpAny_loadName_free I.ok.kind hk hc hcell fin hcd) hd
def A7{i j pos}:PE X (.Constant (.int i) j pos) (tC (.int i)):=fun _ _ _ H _ I h=>wpAny_Constant_int ⟨.int i,H,I.tok _,⟨_,rfl⟩,h⟩
def IX{b j pos}:PE X (.Constant (.bool b) j pos) (tC (.bl b)):=fun _ _ _ H _ I h=>Constant_bool ⟨.bl b,H,I,rfl,h⟩
def jU{j pos}:PE X (.Constant .none j pos) (tC .A8):=fun _ _ _ H _ I h=>Constant_none ⟨.A8,H,I,rfl,h⟩
def jW{x j pos}:PE X (.Constant (.str x) j pos) (tC (.str x)):=fun _ _ _ H _ I h=>Calls.Constant_str ⟨.str x,H,I.tok _,⟨_,rfl⟩,h⟩
def Gl(X:Cx)(x:Str):Prop:=X.env.kindOf x=some .globalImplicit
def QP{E:VL→SD→Prop}{pins:List (AD×Obj)}{s:SD}{σ:St}{H:Hp}{x:Str}{u:VL}{pos:Pos}{Q:VL→SD→Prop}(I:Inv X pins σ H s)(hg:Gl X x)(hm:X.mg x=some u)(h:Q u s)
 (hd:(x==("__debug__" : Str))=false:=by decide):wpAny (model X.prog X.w) X.A (eval (.Name x pos) X.env) Q E s :=
 Calls.Name_function_global I.ok.kind hg (Calls.loadGlobal_global (by rw [I.ok.glob];exact I.mod.glob.keeps I.bk) hm h) hd
def Er{E:VL→SD→Prop}{pins:List (AD×Obj)}{s:SD}{σ:St}{H:Hp}{x:Str}{u:VL}{pos:Pos}{Q:VL→SD→Prop}(I:Inv X pins σ H s)(hg:Gl X x)(hm:X.mg x=none)(hv:bootBuiltins x=some u)(h:Q u s)
 (hn:x ≠ "__name__" := by decide)(hd:(x==("__debug__" : Str))=false:=by decide):wpAny (model X.prog X.w) X.A (eval (.Name x pos) X.env) Q E s:=by
 obtain⟨mb,h1,h2⟩:=I.mod.blt;exact Calls.Name_function_global I.ok.kind hg (Calls.loadGlobal_builtin (by rw [I.ok.glob];exact I.mod.glob.keeps I.bk) hm (by rw [I.ok.blt];exact h1.keeps I.bk) ((h2 x hn).trans hv) h) hd
def Pt{x:Str}{v:V}{u:VL}{pos:Pos}(hg:Gl X x)(hm:X.mg x=some u)(r:RelV v u)(hd:(x==("__debug__" : Str))=false:=by decide):PE X (.Name x pos) (tC v) :=
 fun _ _ _ H _ I h=>QP I hg hm ⟨v,H,I,r,h⟩ hd
def Kl{x:Str}{v:V}{u:VL}{pos:Pos}(hg:Gl X x)(hm:X.mg x=none)(hv:bootBuiltins x=some u)(r:RelV v u)(hn:x ≠ "__name__" := by decide)(hd:(x==("__debug__" : Str))=false:=by decide):PE X (.Name x pos) (tC v) :=
 fun _ _ _ H _ I h=>Er I hg hm hv ⟨v,H,I,r,h⟩ hn hd
variable{a b:Expr}{ta tb:TE}{pos:Pos}
def tB(t:TE):TT:=fun σ H Q=>t σ H fun x H1=>∃c,x=.bl c∧Q c H1
def HA{e : Expr}{t : TE}(h : PE X e t)(he : ∀ whole,isTrue e X.env whole = (do let v ← whole; standAt e.pos; holding [v] (truthy v)) := by intro _; rfl) : PT X e (tB t) := by
  intro pins s σ H Q I hw
  refine isTrue_plain (A6 (h pins s σ H _ I hw) fun v s1 ⟨x,H1,I1,r1,q1⟩ => ?_) (he _)
  obtain ⟨d,rfl,q⟩:=q1
  cases r1
  exact wpAny_truthy_bool ⟨H1,I1,q⟩
variable{tA tB':TT}{rest:List Expr}
def ly(t u:TT):TT:=fun σ H Q=>t σ H fun c H1=>if c=true then u σ H1 Q else Q false H1
def nM(t u:TT):TT:=fun σ H Q=>t σ H fun c H1=>if c=true then Q true H1 else u σ H1 Q
def m9(t:TT):TT:=fun σ H Q=>t σ H fun c H1=>Q (!c) H1
def P6(ha:PT X a tA):PW X (.BoolOp .And [a] pos) tA:=by
 intro wh pins s σ H Q I h;refine isTrue_and (A6 (ha pins s σ H Q I h) fun c s1 e=>?_);cases c with
 |true=>exact isTrue_and_nil e
 |false=>exact e
def O0(ha:PT X a tA):PW X (.BoolOp .Or [a] pos) tA:=by
 intro wh pins s σ H Q I h;refine isTrue_or (A6 (ha pins s σ H Q I h) fun c s1 e=>?_);cases c with
 |false=>exact isTrue_or_nil e
 |true=>exact e
def XG(ha:PT X a tA)(hb:PW X (.BoolOp .And (b::rest) pos) tB'):PW X (.BoolOp .And (a::b::rest) pos) (ly tA tB'):=by
 intro wh pins s σ H Q I h;refine isTrue_and (A6 (ha pins s σ H _ I h) fun c s1 ⟨H1,I1,q1⟩=>?_);cases c with
 |true=>exact hb wh pins s1 σ H1 Q I1 q1
 |false=>exact⟨H1,I1,q1⟩
def Rf(ha:PT X a tA)(hb:PW X (.BoolOp .Or (b::rest) pos) tB'):PW X (.BoolOp .Or (a::b::rest) pos) (nM tA tB'):=by
 intro wh pins s σ H Q I h;refine isTrue_or (A6 (ha pins s σ H _ I h) fun c s1 ⟨H1,I1,q1⟩=>?_);cases c with
 |true=>exact⟨H1,I1,q1⟩
 |false=>exact hb wh pins s1 σ H1 Q I1 q1
def G8(ha:PT X a tA):PT X (.UnaryOp .Not a pos) (m9 tA):=by
 intro pins s σ H Q I h;exact isTrue_not (ha pins s σ H (fun c H1=>Q (!c) H1) I h)
def k8(ta tb:TE):TE:=fun σ H Q=>ta σ H fun x H1=>∃c,x=.bl c∧if c=true then tb σ H1 Q else Q (.bl false) H1
def jx(ta:TE):TE:=fun σ H Q=>ta σ H fun x H1=>∃c,x=.bl c∧Q (.bl (!c)) H1
def Yh{op}{t:TE}(h:PE X a t):PE X (.BoolOp op [a] pos) t:=fun pins s σ H Q I hw=>BoolOp_one (h pins s σ H Q I hw)
def XO(ha:PE X a ta)(hb:PE X (.BoolOp .And (b::rest) pos) tb):PE X (.BoolOp .And (a::b::rest) pos) (k8 ta tb):=by
 intro pins s σ H Q I h;refine BoolOp_and (A6 (ha pins s σ H _ I h) fun v s1 ⟨x,H1,I1,r1,q1⟩=>?_);obtain⟨c,rfl,q1⟩:=q1;cases r1;refine wpAny_truthy_bool ?_;cases c with
 |true=>exact hb pins s1 σ H1 Q I1 q1
 |false=>exact⟨.bl false,H1,I1,rfl,q1⟩
def i3(ha:PE X a ta):PE X (.UnaryOp .Not a pos) (jx ta):=by
 intro pins s σ H Q I h;refine UnaryOp_ (A6 (ha pins s σ H _ I h) fun v s1 ⟨x,H1,I1,r1,q1⟩=>?_);obtain⟨c,rfl,q1⟩:=q1;cases r1;exact not_of (wpAny_truthy_bool ⟨.bl (!c),H1,I1,rfl,q1⟩)
end
def A3(K:Fg)(H:Hp)(a:AD)(xs:List V):Prop :=
 Rd H a (.lst xs) ∨
  ∃(o:Obj) (its:Array VL) (n:Nat),K.lookup a=some o∧o.cls=.type "list" ∧ o.dict=none∧o.data=.seq its n∧its.size≤sizeLine∧Vals xs its.toList
def BF(K:Fg)(H:Hp)(a:AD)(xs:List V):Prop :=
 Rd H a (.tup xs) ∨
  ∃(o:Obj) (its:Array VL) (n:Nat),K.lookup a=some o∧o.cls=.type "tuple" ∧ o.data=.seq its n∧its.size≤sizeLine∧Vals xs its.toList
def SH:VL→Option V
 |.none=>some .A8
 |.bool b=>some (.bl b)
 |.int i _=>some (.int i)
 |.str x _=>some (.str x)
 |.bytes b _=>some (.L9 b)
 |.float b _=>some (.U7 b)
 |.ref a=>some (.ref a)
 |.type n=>some (.ty n)
 |_=>none
def RelV.abs{x:V}{u:VL}(r:RelV x u):SH u=some x:=by
 cases x with
 |A8=>cases r;rfl
 |bl _=>cases r;rfl
 |int _=>obtain⟨t,rfl⟩:=r;rfl
 |str _=>obtain⟨t,rfl⟩:=r;rfl
 |L9 _=>obtain⟨t,rfl⟩:=r;rfl
 |U7 _=>obtain⟨t,rfl⟩:=r;rfl
 |ref _=>cases r;rfl
 |ty _=>cases r;rfl
def RelV.inj{x y:V}{u:VL}(r:RelV x u)(q:RelV y u):x=y:=aW (r.abs.symm.trans q.abs)
def Vals.inj:∀ {xs ys:List V} {us:List VL},Vals xs us→Vals ys us→xs=ys
 |_,_,_,.nil,.nil=>rfl
 |_,_,_,.cons r t,.cons r' t'=>by rw [r.inj r',Vals.inj t t']
section
variable{X:Cx}{pins:List (AD×Obj)}{σ:St}{H:Hp}{s:SD}{a:AD}{xs ys:List V}
def A3.of{K:Fg}(h:H a=some (.lst xs)):A3 K H a xs:=.inl (.inl h)
def BF.of{K:Fg}(h:H a=some (.tup xs)):BF K H a xs:=.inl (.inl h)
def Inv.list(I:Inv X pins σ H s)(h:A3 X.K H a xs):∃its:List VL,Vals xs its∧PlainL s.heap a its.toArray∧xs.length≤sizeLine:=by
 rcases h with h|⟨o,its,n,hk,hc,hd,hs,hz,r⟩
 ·obtain⟨z,its,n,r,e⟩:=h.ok I.Av;exact⟨its,r,⟨_,n,e,rfl,rfl,rfl⟩,z⟩
 ·refine⟨its.toList,r,⟨o,n,I.Hm a o hk,hc,hd,by simpa using hs⟩,?_⟩;have e:=r.length;simp only [Array.length_toList]at e;omega
def Inv.tuple(I:Inv X pins σ H s)(h:BF X.K H a xs):∃its:List VL,Vals xs its∧IsTup s.heap a its.toArray∧xs.length≤sizeLine:=by
 rcases h with h|⟨o,its,n,hk,hc,hs,hz,r⟩
 ·obtain⟨z,its,r,p⟩:=h.ok I.Av;exact⟨its,r,p,z⟩
 ·refine⟨its.toList,r,⟨o,I.Hm a o hk,hc,n,by simpa using hs⟩,?_⟩;have e:=r.length;simp only [Array.length_toList]at e;omega
def Inv.OO(I:Inv X pins σ H s)(h:A3 X.K H a xs)(h':A3 X.K H a ys):xs=ys:=by
 obtain⟨its,r,⟨o,n,e,_,_,d⟩,_⟩:=I.list h;obtain⟨its',r',⟨o',n',e',_,_,d'⟩,_⟩:=I.list h';rw [e]at e';cases e';rw [d]at d'
 injection d' with d1 _
 have:its=its':=by simpa using bF Array.toList d1
 subst this;exact r.inj r'
def Inv.RH(I:Inv X pins σ H s)(h:BF X.K H a xs)(h':BF X.K H a ys):xs=ys:=by
 obtain⟨its,r,⟨o,e,_,n,d⟩,_⟩:=I.tuple h;obtain⟨its',r',⟨o',e',_,n',d'⟩,_⟩:=I.tuple h';rw [e]at e';cases e';rw [d]at d'
 injection d' with d1 _
 have:its=its':=by simpa using bF Array.toList d1
 subst this;exact r.inj r'
end
abbrev Cx.Gw(X:Cx)(E:VL→SD→Prop):Cx:={ X with xe:=E }
abbrev Cx.JW(X:Cx):Cx:=X.Gw fun _ _=>False
def Cx.Ok.Gw{X:Cx}(ok:X.Ok)(E:VL→SD→Prop):(X.Gw E).Ok :=
 ⟨ok.mod,ok.kind,ok.glob,ok.blt,ok.above,ok.inj,ok.has,ok.YO,ok.hd,ok.frames,ok.cP,ok.lV,ok.bs,ok.RL,ok.Sh,ok.Tg,ok.HP,ok.RI⟩
def Cx.Ok.Ey{X:Cx}{E:VL→SD→Prop}(ok:(X.Gw E).Ok):X.Ok :=
 ⟨ok.mod,ok.kind,ok.glob,ok.blt,ok.above,ok.inj,ok.has,ok.YO,ok.hd,ok.frames,ok.cP,ok.lV,ok.bs,ok.RL,ok.Sh,ok.Tg,ok.HP,ok.RI⟩
section
variable{X:Cx}{pins:List (AD×Obj)}{σ:St}{H:Hp}{s:SD}{E:VL→SD→Prop}
def Inv.Gw(I:Inv X pins σ H s)(E:VL→SD→Prop):Inv (X.Gw E) pins σ H s:=⟨I.ok.Gw E,I.os,I.bare,I.base,I.loc,I.cell,I.free,I.Hh,I.pin,I.Av,I.len⟩
def Inv.Ey(I:Inv (X.Gw E) pins σ H s):Inv X pins σ H s:=⟨I.ok.Ey,I.os,I.bare,I.base,I.loc,I.cell,I.free,I.Hh,I.pin,I.Av,I.len⟩
def SP.Ey{D:Ends}{f:Flow}{s':SD}(h:SP (X.Gw E) pins D f s'):SP X pins D f s':=by
 cases f with
 |next=>obtain⟨σ',H',I,q⟩:=h;exact⟨σ',H',I.Ey,q⟩
 |brk=>obtain⟨σ',H',I,q⟩:=h;exact⟨σ',H',I.Ey,q⟩
 |cont=>obtain⟨σ',H',I,q⟩:=h;exact⟨σ',H',I.Ey,q⟩
 |ret u=>obtain⟨v,σ',H',I,r,q⟩:=h;exact⟨v,σ',H',I.Ey,r,q⟩
def HI.JW{st:List Stmt}{t:TS}(h:HI X.JW st t):HI X st t:=fun pins s σ H D I hw =>
 ag (h pins s σ H D (I.Gw _) hw) (fun _ _ q=>q.Ey) fun _ _ z=>False.elim z
end
section
variable{X:Cx}{st:Stmt}{rest:List Stmt}{t u:TS}{e:Expr}{te:TE}{pos:Pos}
def k9:TS:=fun D σ H=>D.nx σ H
def iD(t u:TS):TS:=fun D σ H=>t { D with nx:=u D } σ H
def Dw:HI X [] k9:=fun _ _ σ H _ I h=>wpAny_execs_nil ⟨σ,H,I,h⟩
def BG(h1:PS X st t)(h2:HI X rest u):HI X (st::rest) (iD t u):=by
 intro pins s σ H D I h;refine wpAny_execs_cons (A6 (h1 pins s σ H { D with nx:=u D } I h) fun f s1 q=>?_);cases f with
 |next =>
  obtain⟨σ',H',I',q⟩:=q;exact h2 pins s1 σ' H' D I' q
 |ret v=>exact q
 |brk=>exact q
 |cont=>exact q
def A5(h1:PS X st t):HI X [st] t:=by
 intro pins s σ H D I h;refine wpAny_execs_cons (A6 (h1 pins s σ H D I h) fun f s1 q=>?_);cases f with
 |next=>exact wpAny_execs_nil q
 |ret v=>exact q
 |brk=>exact q
 |cont=>exact q
def kK:TS:=fun D σ H=>D.ct σ H
def Ur:PS X (.Continue pos) kK:=fun _ _ σ H _ I h=>wpAny_Continue ⟨σ,H,I,h⟩
def Inv.quiet{pins:List (AD×Obj)}{σ:St}{H:Hp}{s:SD}(I:Inv X pins σ H s):interactive X.env=false:=by simp [interactive,I.ok.kind]
def Ry(te:TE):TS:=fun D σ H=>te σ H fun _ H1=>D.nx σ H1
def D9(he:PE X e te)(hs:swapsWith e none pos.line X.env=pure false:=by rfl):PS X (.Expr e pos) (Ry te):=by
 intro pins s σ H D I h;exact wpAny_Expr_any (A6 (he pins s σ H _ I h) fun v s1 ⟨x,H1,I1,r1,q1⟩=>⟨σ,H1,I1,q1⟩) I.quiet hs
def mE(te:TE):TS:=fun D σ H=>te σ H D.rt
def CN(he:PE X e te):PS X (.Return (some e) pos) (mE te):=by
 intro pins s σ H D I h;exact wpAny_Return_some (A6 (he pins s σ H _ I h) fun v s1 ⟨x,H1,I1,r1,q1⟩=>⟨x,σ,H1,I1,r1,q1⟩)
def mI(c:TT)(t u:TS):TS:=fun D σ H=>c σ H fun b H1=>if b=true then t D σ H1 else u D σ H1
def Fe{c:Expr}{a b:List Stmt}{tc:TT}(hc:PT X c tc)(ha:HI X a t)(hb:HI X b u):PS X (.If c a b pos) (mI tc t u):=by
 intro pins s σ H D I h;refine wpAny_If (A6 (hc pins s σ H _ I h) fun d s1 ⟨H1,I1,q1⟩=>?_);cases d with
 |true=>exact ha pins s1 σ H1 D I1 q1
 |false=>exact hb pins s1 σ H1 D I1 q1
def jB:TS:=fun _ _ _=>False
def S5:PS X st jB:=fun _ _ _ _ _ _ h=>h.elim
end
abbrev TG:=V→St→Hp→(St→Hp→Prop)→Prop
abbrev UA:=List V→St→Hp→(St→Hp→Prop)→Prop
def PG(X:Cx)(target:Expr)(t:TG):Prop :=
 ∀(pins:List (AD×Obj)) (s:SD) (σ:St) (H:Hp) (v:V) (u:VL) (Q:St→Hp→Prop),Inv X pins σ H s→RelV v u→t v σ H Q →
  wpAny (model X.prog X.w) X.A (assign target X.env u) (fun _ s'=>∃σ' H',Inv X pins σ' H' s'∧Q σ' H') X.xe s
def b0(X:Cx)(ts:List Expr)(t:UA):Prop :=
 ∀(pins:List (AD×Obj)) (s:SD) (σ:St) (H:Hp) (vs:List V) (us:List VL) (Q:St→Hp→Prop),Inv X pins σ H s→Vals vs us→t vs σ H Q →
  wpAny (model X.prog X.w) X.A (assignInOrder ((assignEach ts X.env).map (·.2)) us) (fun _ s'=>∃σ' H',Inv X pins σ' H' s'∧Q σ' H') X.xe s
abbrev Vx:=V→V→V→Hp→(Hp→Prop)→Prop
def Zh(X:Cx)(t:Vx):Prop :=
 ∀(pins:List (AD×Obj)) (s:SD) (σ:St) (H:Hp) (o i v:V) (ov iv u:VL) (Q:Hp→Prop),Inv X pins σ H s→RelV o ov→RelV i iv→RelV v u→t o i v H Q →
  wpAny (model X.prog X.w) X.A (setItem ov iv u) (fun _ s'=>∃H',Inv X pins σ H' s'∧Q H') X.xe s
section
variable{X:Cx}{pos:Pos}
def Em(i:Nat):TG:=fun v σ H Q=>Q (σ.set i (some v)) H
def BE{i:Nat}{x:Str}(hN:X.N.Nodup)(hi:X.N[i]? = some x)(hx:Loc X.env.scope x)(hf:X.fn x=true∨X.env.scope.names.lookup x=some .local:=by first|exact .inl rfl|exact .inr rfl|assumption):PG X (.Name x pos) (Em i):=by
 intro pins s σ H v u Q I r h;exact wpAny_assign_Name (LB I hN hi hx r (fun s' I'=>⟨_,H,I',h⟩) hf)
def Yw:UA:=fun vs σ H Q=>vs=[]∧Q σ H
def Pk(t:TG)(u:UA):UA:=fun vs σ H Q=>∃v r,vs=v::r∧t v σ H fun σ' H'=>u r σ' H' Q
def GR:b0 X [] Yw:=by
 intro pins s σ H vs us Q I r h;obtain⟨e,h⟩:=h;subst e;cases r;exact assignInOrder_nil ⟨σ,H,I,h⟩
def CH{e:Expr}{es:List Expr}{t:TG}{u:UA}(h1:PG X e t)(h2:b0 X es u)
 (hs:(assignEach (e::es) X.env).map (·.2)=assign e X.env::(assignEach es X.env).map (·.2):=by rfl):b0 X (e::es) (Pk t u):=by
 intro pins s σ H vs us Q I r h;obtain⟨v,vr,e1,h⟩:=h;subst e1;cases r with
 |cons r rr =>
  rw [hs];refine assignInOrder_cons (A6 (h1 pins s σ H _ _ _ I r h) fun _ s1 ⟨σ1,H1,I1,q1⟩=>?_);exact h2 pins s1 σ1 H1 _ _ Q I1 rr q1
def Yx(K:Fg)(n:Nat)(t:UA):TG:=fun v σ H Q=>∃a xs,v=.ref a∧BF K H a xs∧xs.length=n∧t xs σ H Q
def Ht{es:List Expr}{k:Nat}{t:UA}{n:Nat}(hc:X.calm=true)(h:b0 X es t)
 (hn:(assignEach es X.env).length=n:=by rfl)(hst:(assignEach es X.env).findIdx? (·.1)=none:=by rfl):PG X (.Tuple es k pos) (Yx X.K n t):=by
 intro pins s σ H v u Q I r hw;obtain⟨a,xs,e1,hq,hl,hw⟩:=hw;subst e1;cases r;obtain⟨its,rv,ht,hz⟩:=I.tuple hq;refine assign_Tuple_tuple (I.ok.hd hc) ht (by simp [hn,←hl,rv.length]) hst fun h' hx=>?_;have I1:Inv X pins σ H { s with heap:=h' }:=I.kept (t':=s.toks) fun b o e=>hx b o (aG (aF e)) e;exact h pins _ σ H xs _ Q I1 (by simpa using rv) hw
def Ym(to ti:TE)(t:Vx):TG:=fun v σ H Q=>to σ H fun o H1=>ti σ H1 fun i H2=>t o i v H2 fun H3=>Q σ H3
def MT{o i:Expr}{to ti:TE}{t:Vx}(ho:PE X o to)(hi:PE X i ti)(hs:Zh X t)
 (ha:∀v,assign (.Subscript o i pos) X.env v=(do
      let ov ←holding [v] (eval o X.env)
      let iv ←holding [v,ov] (eval i X.env)
      standAt pos
      holding [v,ov,iv] (setItem ov iv v)
      release [v,ov,iv] []):=by intro _;rfl):PG X (.Subscript o i pos) (Ym to ti t):=by
  intro pins s σ H v u Q I r h
  rw [ha]
  refine Wb (aP (A6 (ho pins s σ H _ I h) fun ov s1 ⟨x,H1,I1,r1,q1⟩=>?_))
  refine Wb (aP (A6 (hi pins s1 σ H1 _ I1 q1) fun iv s2 ⟨y,H2,I2,r2,q2⟩=>?_))
  refine Wb (wpAny_standAt (Wb (aP (A6 (hs pins s2 σ H2 x y v ov iv u _ I2 r1 r2 r q2) fun _ s3 ⟨H3,I3,q3⟩=>?_))))
  exact wpAny_release ⟨σ,H3,I3,q3⟩
def MQ(te:TE)(g:TG):TS:=fun D σ H=>te σ H fun x H1=>g x σ H1 D.nx
def MX{tg e:Expr}{te:TE}{g:TG}(he:PE X e te)(hg:PG X tg g)(hs:swapsWithSole [tg] e pos.line X.env=pure false:=by rfl)(hw:swappedStores [tg] e X.env=pure none:=by rfl)
 (h1:(assignEach [tg] X.env).map (·.2)=[assign tg X.env]:=by rfl):PS X (.Assign [tg] e pos) (MQ te g):=by
 intro pins s σ H D I h;refine wpAny_Assign_stores (A6 (he pins s σ H _ I h) fun v s1 ⟨x,H1,I1,r1,q1⟩=>?_) hs hw;rw [h1];exact A6 (hg pins s1 σ H1 x v _ I1 r1 q1) fun _ s2 q=>q
def CV{i:Nat}{x:Str}{e:Expr}{te:TE}{pos':Pos}(hN:X.N.Nodup)(hi:X.N[i]? = some x)(hx:Loc X.env.scope x)(he:PE X e te)(hs:swapsWith e (some (.Name x pos')) pos.line X.env=pure false:=by rfl)(hf:X.fn x=true∨X.env.scope.names.lookup x=some .local:=by first|exact .inl rfl|exact .inr rfl|assumption) :
  PS X (.Assign [.Name x pos'] e pos) (MQ te (Em i)):=by
 intro pins s σ H D I h;refine wpAny_Assign_Name (A6 (he pins s σ H _ I h) fun v s1 ⟨y,H1,I1,r1,q1⟩=>?_) hs;exact LB I1 hN hi hx r1 (fun s2 I2=>⟨_,H1,I2,q1⟩) hf
def ml(i j:Nat)(ta:TA):TS:=fun D σ H=>ta σ H fun vs H1=>∃v w,vs=[v,w]∧D.nx ((σ.set i (some v)).set j (some w)) H1
def fT{i j:Nat}{x y:Str}{a b:Expr}{ta:TA}{px py pt:Pos}{kt k2 pt2}(hc:X.calm=true)(hN:X.N.Nodup)(hi:X.N[i]? = some x)(hj:X.N[j]? = some y)(hij:i≠j)
 (hx:X.env.scope.names.lookup x=some .local)(hy:X.env.scope.names.lookup y=some .local)(ha:PA X [a,b] ta)
 (hw:swappedStores [.Tuple [.Name x px,.Name y py] kt pt] (.Tuple [a,b] k2 pt2) X.env=pure (some [x,y]))
 (hs:swapsWithSole [.Tuple [.Name x px,.Name y py] kt pt] (.Tuple [a,b] k2 pt2) pos.line X.env=pure false:=by rfl) :
  PS X (.Assign [.Tuple [.Name x px,.Name y py] kt pt] (.Tuple [a,b] k2 pt2) pos) (ml i j ta):=by
 intro pins s σ H D I h;rw [exec_Assign_arm];refine Wb (wpAny_standAt ?_);rw [hs];refine Wb (aA ?_);rw [if_neg (by decide)];refine Wb (Tuple_ (A6 (ha _ pins s σ H _ I h) fun us s1 ⟨vs,H1,I1,r1,q1⟩=>?_));obtain⟨v,w,e1,q1⟩:=q1;subst e1;obtain⟨u1,u2,rfl,rv,rw'⟩:∃u1 u2,us=[u1,u2]∧RelV v u1∧RelV w u2:=by
  cases r1 with
  |cons p q =>
   cases q with
   |cons p' q' =>
    cases q';exact⟨_,_,rfl,p,p'⟩
 refine ay ?_ (by show 2≤sizeLine;decide);have I2:Inv X pins σ H1 { s1 with heap:=s1.heap.push { cls:=.type "tuple",data:=.seq [u1,u2].toArray } }:=I1.kept (t':=s1.toks) fun b o e=>aD _ e;rw [hw];refine Wb (aA ?_);show wpAny (model X.prog X.w) X.A (do rule "assign.swapped-stores"; let items ←unpackItems (.ref s1.heap.objs.size) 2 none;assignInOrder [fun v=>bindName X.env y v,fun v=>bindName X.env x v] items.reverse;pure Flow.next) _ _ _;refine Wb (bJ (Wb (unpackItems_tuple (items:=#[u1,u2]) (I.ok.hd hc) (IsTup.new s1.heap _) fun h' hx'=>?_)));have I3:=I2.kept (h':=h') (t':=s1.toks) fun b o e=>hx' b o (aG (aF e)) e;show wpAny _ _ (assignInOrder [fun v=>bindName X.env y v,fun v=>bindName X.env x v] [u2,u1]>>=fun _=>pure Flow.next) _ _ _;refine Wb (assignInOrder_cons (wpAny_bindName (LB I3 hN hj (.inl hy) rw' (fun s2 I4=>?_) (.inr hy))));refine assignInOrder_cons (wpAny_bindName (LB I4 hN hi (.inl hx) rv (fun s3 I5=>assignInOrder_nil (aA ?_)) (.inr hx)));rw [List.set_comm _ _ (Ne.symm hij)]at I5;exact⟨_,H1,I5,q1⟩
end
section
variable{X:Cx}{pos:Pos}
def XJ(c:TT)(tb:TS):TS:=fun D σ H=>∃W:Nat→St→Hp→Prop,(∃m,W m σ H)∧∀m σ H,W m σ H →
 c σ H fun b H1=>if b=true then ∃N:St→Hp→Prop,(∀σ' H',N σ' H'→∃m',m'<m∧W m' σ' H')∧tb { D with nx:=N,ct:=N,bk:=D.nx } σ H1 else D.nx σ H1
def Sv{c:Expr}{body:List Stmt}{tc:TT}{tb:TS}(hp:PassesOwn (model X.prog X.w) X.A X.env X.xe)(hc:PT X c tc)(hb:HI X body tb):PS X (.While c body [] pos) (XJ tc tb):=by
 intro pins s σ H D I h;obtain⟨W,⟨m0,w0⟩,turn⟩:=h;refine wpAny_While (codeAny_whileLoop (fun n s'=>∃σ' H',Inv X pins σ' H' s'∧W n σ' H') ?_ m0 ⟨σ,H,I,w0⟩);rintro n s1 ⟨σ1,H1,I1,w1⟩;refine wpAny_passesOwn hp (A6 (hc pins s1 σ1 H1 _ I1 (turn n σ1 H1 w1)) fun b s2 ⟨H2,I2,q2⟩=>?_);cases b with
 |true =>
  obtain⟨N,hN,q2⟩:=q2;rw [if_pos rfl];refine wpAny_passesOwn hp (A6 (hb pins s2 σ1 H2 _ I2 q2) fun f s3 q3=>?_);cases f with
  |next =>
   obtain⟨σ3,H3,I3,n3⟩:=q3;obtain⟨m',hm,w3⟩:=hN σ3 H3 n3;exact⟨m',hm,σ3,H3,I3,w3⟩
  |cont =>
   obtain⟨σ3,H3,I3,n3⟩:=q3;obtain⟨m',hm,w3⟩:=hN σ3 H3 n3;exact⟨m',hm,σ3,H3,I3,w3⟩
  |brk=>exact q3
  |ret v=>exact q3
 |false =>
  rw [if_neg aJ];exact wpAny_execs_nil ⟨σ1,H2,I2,q2⟩
end
structure It where
 go:Nat→Hp→Prop
 Ep:Nat→Hp→V→Hp→Prop
 stop:Nat→Hp→Prop
def KU(X:Cx)(pins:List (AD×Obj))(H:Hp)(b:AD):Prop :=
 H b=none∧b≠X.env.locals∧b ∉ X.fs∧(b∈X.ex∨X.s₀.heap.objs.size≤b)∧(∀x c,X.env.cells.lookup x=some c→c≠b)∧∀p∈X.pn++pins,p.1≠b
def Inv.OT{X:Cx}{pins:List (AD×Obj)}{σ:St}{H H':Hp}{s:SD}{b:AD}(I:Inv X pins σ H s)(hb:s.heap.objs.size≤b)(hn:H' b=none):KU X pins H' b:=by
 refine⟨hn,Nat.ne_of_gt (aH I.lt hb),I.my hb,.inr (ae I.sz hb),fun x c e z=>?_,fun p hp z=>?_⟩
 ·obtain⟨v,q⟩:=I.cell x c e;exact absurd (aH q.lt (by rw [z];exact hb)) (Nat.lt_irrefl _)
 ·exact absurd (aH (aF (I.pin p hp).1) (by rw [z];exact hb)) (Nat.lt_irrefl _)
structure Turn(P:Program)(w:World)(K:Fg)(tg:Expr)(J:It)(fp:List Addr)(it:Addr)(tn:Nat→Heap→Prop):Prop where
 mem:it∈fp
 obj:∀i h,tn i h→∀b∈fp,∃o,h.get? b=some o∧∀v,o.data≠.cell v
 keep:∀i h h',tn i h→(∀b∈fp,∀o,h.get? b=some o→h'.get? b=some o)→tn i h'
 item:∀(X:Cx),X.prog=P→X.w=w→X.K=K→X.calm=true→∀(i:Nat) (pins:List (Addr×Obj)) (s:Shared) (σ:St) (H:Hp) (E:Value→Shared→Prop),Inv X pins σ H s→(∀b∈fp,KU X pins H b)→tn i s.heap→J.go i H →
  wpAny (model P w) X.A (pyNext (.ref it)) (fun r s1=>∃u,r=some u ∧
   wpAny (model P w) X.A (letOwnedTupleGo tg (.ref it) u) (fun _ s2=>∃x H',Inv X pins σ H' s2∧RelV x u∧J.Ep i H x H'∧tn (i+1) s2.heap∧∀b∈fp,H' b=none) E s1) E s
 done:∀(X:Cx),X.prog=P→X.w=w→X.K=K→X.calm=true→∀(i:Nat) (pins:List (Addr×Obj)) (s:Shared) (σ:St) (H:Hp) (E:Value→Shared→Prop),Inv X pins σ H s→(∀b∈fp,KU X pins H b)→tn i s.heap→J.stop i H →
  wpAny (model P w) X.A (pyNext (.ref it)) (fun r s1=>r=none∧Inv X pins σ H s1) E s
 self:∀(A:Around) (i:Nat) (s:Shared) (Q:Value→Shared→Prop) (E:Value→Shared→Prop),tn i s.heap→Q (.ref it) s→wpAny (model P w) A (pyIter (.ref it)) Q E s
abbrev TI:=St→Hp→(It→Hp→Prop)→Prop
def lg(X:Cx)(pins:List (AD×Obj))(σ:St)(tg:Expr)(R:It→Hp→Prop)(itv:VL)(s2:SD):Prop :=
 ∃(it:AD) (fp:List AD) (tn:Nat→Heap→Prop) (J:It) (H':Hp),itv=.ref it∧Inv X pins σ H' s2∧Turn X.prog X.w X.K tg J fp it tn∧tn 0 s2.heap∧(∀b∈fp,KU X pins H' b)∧R J H'
def PI(X:Cx)(tg iter:Expr)(wi:TI):Prop :=
 ∀(pins:List (AD×Obj)) (s:SD) (σ:St) (H:Hp) (R:It→Hp→Prop),Inv X pins σ H s→wi σ H R →
  wpAny (model X.prog X.w) X.A (eval iter X.env) (fun v s1=>wpAny (model X.prog X.w) X.A (pyIter v) (lg X pins σ tg R) X.xe s1) X.xe s
def V0{M:Model}{A:Around}{E:VL→SD→Prop}{s:SD}{tg:Expr}{it:AD}{u:VL}{o:Obj}{n:String}{vs:Array VL}{Q:Unit→SD→Prop}(ho:s.heap.get? it=some o)(hc:o.cls=.type n)(hd:o.data=.fields vs)
 (hn:["enumerate", "zip", "dict_itemiterator", "dict_reverseitemiterator", "odict_iterator", "itertools.zip_longest", "itertools.pairwise"].contains n=false)(hQ:Q () s):wpAny M A (letOwnedTupleGo tg (.ref it) u) Q E s:=by
 unfold letOwnedTupleGo;cases tg<;>first
  |exact aA hQ
  |(cases u<;>first
    |exact aA hQ
    |(refine Wb (wpAny_load ho ?_)
      rw [hc,hd];show wpAny M A (if(["enumerate", "zip", "dict_itemiterator", "dict_reverseitemiterator", "odict_iterator", "itertools.zip_longest", "itertools.pairwise"].contains n&&vs[0]? == some (rawInt _))=true then _ else _) Q E s;rw [if_neg (by intro h;rw [hn,Bool.false_and]at h;cases h)];exact aA hQ))
def Vh(K:Fg)(a:AD):It :=
 ⟨fun i H=>∃xs x,A3 K H a xs∧xs[i]? = some x,fun i H x H'=>H'=H∧∀xs,A3 K H a xs→xs[i]? = some x,fun i H=>∃xs,A3 K H a xs∧xs.length≤i⟩
def i6(K:Fg)(a:AD):It :=
 ⟨fun i H=>∃xs x,BF K H a xs∧xs[i]? = some x,fun i H x H'=>H'=H∧∀xs,BF K H a xs→xs[i]? = some x,fun i H=>∃xs,BF K H a xs∧xs.length≤i⟩
def Xo(lo:Int)(n:Nat):It:=⟨fun i _=>i<n,fun i H x H'=>H'=H∧x=.int (lo+i),fun i _=>n≤i⟩
def XQ{P:Program}{w:World}{K:Fg}{tg:Expr}(a it:AD):Turn P w K tg (Vh K a) [it] it (fun i h=>h.IsListIter it a i) where
 mem:=by simp
 obj:=fun i h st b hb=>by
  have e:b=it:=by simpa using hb
  subst e;obtain⟨o,e,c,d⟩:=st;exact⟨o,e,fun v z=>by rw [d]at z;cases z⟩
 keep:=fun i h h' st k=>st.at fun o e=>k it (by simp) o e
 item:=by
  intro X hP hw hK hc i pins s σ H E I hf st hg;subst hP hw hK;obtain⟨xs,x,hq,hx⟩:=hg;obtain⟨its,rv,p,hz⟩:=I.list hq;obtain⟨u,hu,ru⟩:=rv.get hx;obtain⟨f0,f1,f2,f3,f4,f5⟩:=hf it (by simp);refine wpAny_pyNext_list_item st p.isList (x:=u) (by simpa using hu) fun h' st' sb=>?_;have I1:Inv X pins σ H { s with heap:=h' }:=I.turned (t':=s.toks) (fun b o hb e=>(sb.2 b hb).trans e) f0 f1 f3 f4 f5;obtain⟨o,e,c,d⟩:=id st';exact⟨u,rfl,V0 (s:={ s with heap:=h' }) e c d (by decide) ⟨x,H,I1,ru,⟨rfl,fun ys hy=>by rw [I.OO hy hq];exact hx⟩,st',fun b hb=>(hf b hb).1⟩⟩
 done:=by
  intro X hP hw hK hc i pins s σ H E I hf st hg;subst hP hw hK;obtain⟨xs,hq,hx⟩:=hg;obtain⟨its,rv,p,hz⟩:=I.list hq;obtain⟨f0,f1,f2,f3,f4,f5⟩:=hf it (by simp);have hl:=rv.length;exact wpAny_pyNext_list_end (I.ok.hd hc) st p.isList (by simp;omega) fun h' eb=>⟨rfl,I.turned (t':=s.toks) (fun b o hb e=>eb b o hb e) f0 f1 f3 f4 f5⟩
 self:=fun _ _ _ _ _ st h=>wpAny_pyIter_listiter st h
def V4{P:Program}{w:World}{K:Fg}{tg:Expr}(a it:AD):Turn P w K tg (i6 K a) [it] it (fun i h=>h.IsTupleIter it a i) where
 mem:=by simp
 obj:=fun i h st b hb=>by
  have e:b=it:=by simpa using hb
  subst e;obtain⟨o,e,c,d⟩:=st;exact⟨o,e,fun v z=>by rw [d]at z;cases z⟩
 keep:=fun i h h' st k=>st.at fun o e=>k it (by simp) o e
 item:=by
  intro X hP hw hK hc i pins s σ H E I hf st hg;subst hP hw hK;obtain⟨xs,x,hq,hx⟩:=hg;obtain⟨its,rv,p,hz⟩:=I.tuple hq;obtain⟨u,hu,ru⟩:=rv.get hx;obtain⟨f0,f1,f2,f3,f4,f5⟩:=hf it (by simp);refine wpAny_pyNext_tuple_item st (show s.heap.IsTuple a its.toArray from p) (x:=u) (by simpa using hu) fun h' st' sb=>?_;have I1:Inv X pins σ H { s with heap:=h' }:=I.turned (t':=s.toks) (fun b o hb e=>(sb.2 b hb).trans e) f0 f1 f3 f4 f5;obtain⟨o,e,c,d⟩:=id st';exact⟨u,rfl,V0 (s:={ s with heap:=h' }) e c d (by decide) ⟨x,H,I1,ru,⟨rfl,fun ys hy=>by rw [I.RH hy hq];exact hx⟩,st',fun b hb=>(hf b hb).1⟩⟩
 done:=by
  intro X hP hw hK hc i pins s σ H E I hf st hg;subst hP hw hK;obtain⟨xs,hq,hx⟩:=hg;obtain⟨its,rv,p,hz⟩:=I.tuple hq;obtain⟨f0,f1,f2,f3,f4,f5⟩:=hf it (by simp);have hl:=rv.length;exact wpAny_pyNext_tuple_end (I.ok.hd hc) st (show s.heap.IsTuple a its.toArray from p) (by simp;omega) fun h' eb=>⟨rfl,I.turned (t':=s.toks) (fun b o hb e=>eb b o hb e) f0 f1 f3 f4 f5⟩
 self:=fun _ _ _ _ _ st h=>wpAny_pyIter_tupleiter st h
def Vy{P:Program}{w:World}{K:Fg}{tg:Expr}(it:AD)(lo:Int)(n:Nat):Turn P w K tg (Xo lo n) [it] it (fun i h=>IsRangeIter h it (lo+(i:Nat)*1) ((n:Int)-(i:Nat)) 1) where
 mem:=by simp
 obj:=fun i h st b hb=>by
  have e:b=it:=by simpa using hb
  subst e;exact⟨_,st,fun v z=>by
   have z':Data.fields _=Data.cell v:=z;cases z'⟩
 keep:=fun i h h' st k=>k it (by simp) _ st
 item:=by
  intro X hP hw hK hc i pins s σ H E I hf st hg;subst hP hw hK;obtain⟨f0,f1,f2,f3,f4,f5⟩:=hf it (by simp);have W:=Walks.range (prog:=X.prog) (w:=X.w) (I.ok.hd hc) it lo 1 n;refine W.item i s _ _ hg st fun v h' tk hv st' kk=>?_;obtain⟨t,rfl⟩:=hv;have I1:Inv X pins σ H { s with heap:=h',toks:=tk }:=I.turned (fun b o hb e=>kk b o (by simpa using hb) e) f0 f1 f3 f4 f5;refine⟨_,rfl,V0 (s:={ s with heap:=h',toks:=tk }) (n := "range_iterator") st' rfl rfl (by decide) ⟨.int (lo+i),H,I1,⟨t,?_⟩,⟨rfl,rfl⟩,st',fun b hb=>(hf b hb).1⟩⟩;rw [Int.mul_one]
 done:=by
  intro X hP hw hK hc i pins s σ H E I hf st hg;subst hP hw hK;obtain⟨f0,f1,f2,f3,f4,f5⟩:=hf it (by simp);exact wpAny_pyNext_range_end (I.ok.hd hc) st (by have:n≤i:=hg;omega) fun h' eb=>⟨rfl,I.turned (t':=s.toks) (fun b o hb e=>eb b o hb e) f0 f1 f3 f4 f5⟩
 self:=fun _ _ _ _ _ st h=>wpAny_pyIter_rangeiter st h
section
variable{X:Cx}{tg:Expr}
def jt(K:Fg)(tl:TE):TI:=fun σ H R=>tl σ H fun x H1=>∃a,x=.ref a∧(∃xs,A3 K H1 a xs)∧R (Vh K a) H1
def lq(K:Fg)(tl:TE):TI:=fun σ H R=>tl σ H fun x H1=>∃a,x=.ref a∧(∃xs,BF K H1 a xs)∧R (i6 K a) H1
def Kb{l:Expr}{tl:TE}(hl:PE X l tl):PI X tg l (jt X.K tl):=by
 intro pins s σ H R I h;refine A6 (hl pins s σ H _ I h) fun v s1 ⟨x,H1,I1,r1,q1⟩=>?_;obtain⟨a,e,⟨xs,hq⟩,q⟩:=q1;subst e;cases r1;obtain⟨its,rv,p,hz⟩:=I1.list hq;refine wpAny_pyIter_list p.isList ?_;refine⟨s1.heap.objs.size,[s1.heap.objs.size],_,_,H1,rfl,I1.kept (t':=s1.toks) fun b o e=>aD _ e,XQ a _,⟨_,Heap.get?_push_size _ rfl,rfl,rfl⟩,fun b hb=>?_,q⟩;have e:b=s1.heap.objs.size:=by simpa using hb
 subst e;exact I1.OT (aI _) (I1.Av.fresh (aI _))
def iA{l:Expr}{tl:TE}(hl:PE X l tl):PI X tg l (lq X.K tl):=by
 intro pins s σ H R I h;refine A6 (hl pins s σ H _ I h) fun v s1 ⟨x,H1,I1,r1,q1⟩=>?_;obtain⟨a,e,⟨xs,hq⟩,q⟩:=q1;subst e;cases r1;obtain⟨its,rv,p,hz⟩:=I1.tuple hq;refine wpAny_pyIter_tuple (show s1.heap.IsTuple a its.toArray from p) ?_;refine⟨s1.heap.objs.size,[s1.heap.objs.size],_,_,H1,rfl,I1.kept (t':=s1.toks) fun b o e=>aD _ e,V4 a _,⟨_,Heap.get?_push_size _ rfl,rfl,rfl⟩,fun b hb=>?_,q⟩;have e:b=s1.heap.objs.size:=by simpa using hb
 subst e;exact I1.OT (aI _) (I1.Av.fresh (aI _))
def UJ{pins:List (AD×Obj)}{σ:St}{H:Hp}{s:SD}{R:It→Hp→Prop}{E:VL→SD→Prop}{lo hi:Int}{t u v:Tok}{tk:Nat}(I:Inv X pins σ H s)(h1:-(2^62)≤lo)(h2:lo<2^62)(h3:-(2^62)≤hi)(h4:hi<2^62)
 (q:R (Xo lo (hi-lo).toNat) H):wpAny (model X.prog X.w) X.A (pyIter (.ref s.heap.objs.size)) (lg X pins σ tg R) E { s with heap:=s.heap.push { cls:=.type "range",data:=.fields #[.int lo t,.int hi u,.int 1 v] },toks:=tk }:=by
 refine wpAny_pyIter_range (IsRange.new ..) (small_one h1 h2 h3 h4) ?_;have I1:Inv X pins σ H { s with heap:=s.heap.push { cls:=.type "range",data:=.fields #[.int lo t,.int hi u,.int 1 v] },toks:=tk }:=I.kept fun b o e=>aD _ e;refine⟨(s.heap.push { cls:=.type "range",data:=.fields #[.int lo t,.int hi u,.int 1 v] }).objs.size,[(s.heap.push { cls:=.type "range",data:=.fields #[.int lo t,.int hi u,.int 1 v] }).objs.size],_,_,H,rfl,
  I1.kept (t':=tk) fun b o e=>aD _ e,Vy _ lo (hi-lo).toNat,?_,fun b hb=>?_,q⟩
 ·have e1:lo+((0:Nat):Int)*1=lo:=by simp
  have e2:(((hi-lo).toNat:Nat):Int)-((0:Nat):Int)=Builtin.Range.rangeSize lo hi 1:=by rw [rangeSize_one];split<;>omega
  show IsRangeIter _ _ (lo+((0:Nat):Int)*1) ((((hi-lo).toNat:Nat):Int)-((0:Nat):Int)) 1;rw [e1,e2];exact aN _ rfl
 ·have e:b=(s.heap.push { cls:=.type "range",data:=.fields #[.int lo t,.int hi u,.int 1 v] }).objs.size:=by simpa using hb
  subst e;exact I1.OT (aI _) (I1.Av.fresh (aI _))
def ju(ta:TA):TI:=fun σ H R=>ta σ H fun vs H1=>∃j:Int,vs=[.int j]∧-(2^62)≤j∧j<2^62∧R (Xo 0 j.toNat) H1
def kT(ta:TA):TI:=fun σ H R=>ta σ H fun vs H1=>∃i j:Int,vs=[.int i,.int j]∧(-(2^62)≤i∧i<2^62∧-(2^62)≤j∧j<2^62)∧R (Xo i (j-i).toNat) H1
def X1{a:Expr}{ta:TA}{p pos:Pos}(hg:Gl X "range")(hm:X.mg "range" = none)(ha:PA X [a] ta)(hs:starEach [a] X.env=[(false,eval a X.env)]:=by rfl):PI X tg (.Call (.Name "range" p) [a] [] pos) (ju ta):=by
 intro pins s σ H R I h;refine Call_ (Er I hg hm boot_range (av (A6 (ha pos pins s σ H _ I h) fun us s1 ⟨vs,H1,I1,r1,q1⟩=>?_) hs rfl));obtain⟨j,e,q1,q2,q⟩:=q1;subst e;cases r1 with
 |cons r rr =>
  cases rr;obtain⟨t,rfl⟩:=r;exact call_range_1 (UJ I1 (by omega) (by omega) q1 q2 (by simpa using q))
def XR{a b:Expr}{ta:TA}{p pos:Pos}(hg:Gl X "range")(hm:X.mg "range" = none)(ha:PA X [a,b] ta)(hs:starEach [a,b] X.env=[(false,eval a X.env),(false,eval b X.env)]:=by rfl)(hs2:starEach [b] X.env=[(false,eval b X.env)]:=by rfl) :
  PI X tg (.Call (.Name "range" p) [a,b] [] pos) (kT ta):=by
 intro pins s σ H R I h;refine Call_ (Er I hg hm boot_range (av (A6 (ha pos pins s σ H _ I h) fun us s1 ⟨vs,H1,I1,r1,q1⟩=>?_) (by rw [hs,hs2]) (by rw [hs2];rfl)));obtain⟨i,j,e,⟨q1,q2,q3,q4⟩,q⟩:=q1;subst e;cases r1 with
 |cons r rr =>
  cases rr with
  |cons r' rr =>
   cases rr;obtain⟨t,rfl⟩:=r;obtain⟨t',rfl⟩:=r';exact call_range_2 (UJ I1 q1 q2 q3 q4 q)
def lx(wi:TI)(g:TG)(tb:TS):TS:=fun D σ H=>wi σ H fun J H1=>∃W:Nat→Nat→St→Hp→Prop,(∃m,W 0 m σ H1)∧∀i m σ H,W i m σ H →
 (J.stop i H∧D.nx σ H)∨(J.go i H∧∃N:St→Hp→Prop,(∀σ' H',N σ' H'→∃m',m'<m∧W (i+1) m' σ' H')∧∀x H',J.Ep i H x H'→g x σ H' fun σ2 H2=>tb { D with nx:=N,ct:=N,bk:=D.nx } σ2 H2)
def Mq(fp:List AD)(h:Heap):List (AD×Obj):=fp.filterMap fun b=>(h.get? b).map fun o=>(b,o)
def Ij{fp:List AD}{h:Heap}{b:AD}{o:Obj}(hb:b∈fp)(e:h.get? b=some o):(b,o)∈Mq fp h:=List.mem_filterMap.mpr ⟨b,hb,by rw [e];rfl⟩
def XI{fp:List AD}{h:Heap}{p:AD×Obj}(hp:p∈Mq fp h):p.1∈fp∧h.get? p.1=some p.2:=by
 obtain⟨b,hb,e⟩:=List.mem_filterMap.mp hp;cases q:h.get? b with
 |none=>rw [q]at e;cases e
 |some o =>
  rw [q]at e;have e':(b,o)=p:=aW e;subst e';exact⟨hb,q⟩
def Inv.pinned{pins:List (AD×Obj)}{σ:St}{H:Hp}{s:SD}{fp:List AD}(I:Inv X pins σ H s)(hf:∀b∈fp,KU X pins H b)(ho:∀b∈fp,∃o,s.heap.get? b=some o∧∀v,o.data≠.cell v):Inv X (pins++Mq fp s.heap) σ H s :=
 I.VG fun p hp=>(ba.mp hp).elim (fun z=>I.pin p (aV _ z)) fun z=>by
  obtain⟨hb,e⟩:=XI z;obtain⟨f0,f1,f2,_⟩:=hf p.1 hb;obtain⟨o,e',d⟩:=ho p.1 hb;rw [e]at e';cases e';exact⟨e,f0,f1,f2,d⟩
def Inv.LA{pins pl:List (AD×Obj)}{σ:St}{H:Hp}{s:SD}(I:Inv X (pins++pl) σ H s):Inv X pins σ H s:=I.VG fun p hp=>I.pin p (aV _ (bN _ hp))
def Ow{iter:Expr}{body:List Stmt}{wi:TI}{g:TG}{tb:TS}{pos:Pos}(hp:PassesOwn (model X.prog X.w) X.A X.env X.xe)(hc:X.calm=true)(hi:PI X tg iter wi)(hg:PG X tg g)(hb:HI X body tb)
 (hs:∀x,foldedSetIterable iter X.env x=pure x:=by intro _;rfl):PS X (.For tg iter body [] pos) (lx wi g tb):=by
 intro pins s σ H D I h;refine wpAny_For (A6 (hi pins s σ H _ I h) fun v s1 h1=>A6 h1 fun itv s2 h2=>?_) hs;obtain⟨it,fp,tn,J,H2,e,I2,T,st2,f2,W,⟨m0,w0⟩,turn⟩:=h2;subst e;have stat:∀ {H':Hp},(∀b∈fp,H' b=none)→∀b∈fp,KU X pins H' b:=fun hn b hb=>⟨hn b hb,(f2 b hb).2⟩;refine codeAny_forLoop_any (fun n s'=>∃i σ' H',Inv X pins σ' H' s'∧tn i s'.heap∧(∀b∈fp,H' b=none)∧W i n σ' H') ?_ m0 ⟨0,σ,H2,I2,st2,fun b hb=>(f2 b hb).1,w0⟩;rintro n s3 ⟨i,σ3,H3,I3,st3,fr3,w3⟩;rcases turn i n σ3 H3 w3 with ⟨stop,qn⟩|⟨go,N,hN,step⟩
 ·refine wpAny_passesOwn hp (A6 (T.done X rfl rfl rfl hc i pins s3 σ3 H3 X.xe I3 (stat fr3) st3 stop) fun r s4 ⟨hr,I4⟩=>?_);subst hr;exact wpAny_execs_nil ⟨σ3,H3,I4,qn⟩
 ·refine wpAny_passesOwn hp (A6 (T.item X rfl rfl rfl hc i pins s3 σ3 H3 X.xe I3 (stat fr3) st3 go) fun r s4 ⟨u,hr,h4⟩=>?_);subst hr;refine wpAny_passesOwn hp (A6 h4 fun _ s5 ⟨x,H5,I5,r5,y5,st5,fr5⟩=>?_);have I5':=I5.pinned (stat fr5) (T.obj _ _ st5);refine wpAny_passesOwn hp (A6 (hg _ s5 σ3 H5 x u _ I5' r5 (step x H5 y5)) fun _ s6 ⟨σ6,H6,I6,q6⟩=>?_);refine wpAny_passesOwn hp (A6 (hb _ s6 σ6 H6 _ I6 q6) fun f s7 q7=>?_);have again:∀ {σ7:St} {H7:Hp},Inv X (pins++Mq fp s5.heap) σ7 H7 s7→N σ7 H7→∃m,m<n∧∃i σ' H',Inv X pins σ' H' s7∧tn i s7.heap∧(∀b∈fp,H' b=none)∧W i m σ' H':=fun {σ7 H7} I7 n7=>by
   obtain⟨m',hm,w7⟩:=hN σ7 H7 n7;refine⟨m',hm,i+1,σ7,H7,I7.LA,T.keep _ _ _ st5 fun b hb o e=>(I7.pin (b,o) (aV _ (aV _ (Ij hb e)))).1,fun b hb=>?_,w7⟩;obtain⟨o,e,d⟩:=T.obj _ _ st5 b hb;exact(I7.pin (b,o) (aV _ (aV _ (Ij hb e)))).2.1
  cases f with
  |next=>obtain⟨σ7,H7,I7,n7⟩:=q7;exact again I7 n7
  |cont=>obtain⟨σ7,H7,I7,n7⟩:=q7;exact again I7 n7
  |brk=>obtain⟨σ7,H7,I7,q7⟩:=q7;exact⟨σ7,H7,I7.LA,q7⟩
  |ret v=>obtain⟨x7,σ7,H7,I7,r7,q7⟩:=q7;exact⟨x7,σ7,H7,I7.LA,r7,q7⟩
end
def Sk{K:Fg}{a:AD}{xs:List V}{g:TG}{tb:TS}{D:Ends}{σ:St}{H:Hp}(Pv:Nat→St→Hp→Prop)(h0:Pv 0 σ H)(hl:∀i σ H,i≤xs.length→Pv i σ H→A3 K H a xs)
 (hs:∀i x σ H,xs[i]? = some x→Pv i σ H→g x σ H fun σ2 H2=>tb { D with nx:=Pv (i+1),ct:=Pv (i+1),bk:=D.nx } σ2 H2)(hd:∀σ H,Pv xs.length σ H→D.nx σ H) :
  ∃W:Nat→Nat→St→Hp→Prop,(∃m,W 0 m σ H)∧∀i m σ H,W i m σ H →
   ((Vh K a).stop i H∧D.nx σ H)∨((Vh K a).go i H∧∃N:St→Hp→Prop,(∀σ' H',N σ' H'→∃m',m'<m∧W (i+1) m' σ' H')∧∀x H',(Vh K a).Ep i H x H'→g x σ H' fun σ2 H2=>tb { D with nx:=N,ct:=N,bk:=D.nx } σ2 H2):=by
 refine⟨fun i m σ H=>m=xs.length-i∧i≤xs.length∧Pv i σ H,⟨xs.length,by simp,Nat.zero_le _,h0⟩,?_⟩;rintro i m σ H ⟨rfl,hi,p⟩;have q:=hl i σ H hi p;by_cases hlt:i<xs.length
 ·refine .inr ⟨⟨xs,xs[i],q,by simp [hlt]⟩,Pv (i+1),fun σ' H' p'=>⟨xs.length-(i+1),by omega,rfl,hlt,p'⟩,fun x H' y=>?_⟩;obtain⟨e,y⟩:=y;subst e;exact hs i x σ _ (y xs q) p
 ·have e:i=xs.length:=by omega
  subst e;exact .inl ⟨⟨xs,q,Nat.le_refl _⟩,hd σ H p⟩
def S4{c:TT}{tb:TS}{D:Ends}{σ:St}{H:Hp}(Pv:St→Hp→Prop)(μ:St→Hp→Nat)(h0:Pv σ H)
 (hs:∀σ H,Pv σ H→c σ H fun b H1=>if b=true then tb { D with nx:=fun σ' H'=>Pv σ' H'∧μ σ' H'<μ σ H,ct:=fun σ' H'=>Pv σ' H'∧μ σ' H'<μ σ H,bk:=D.nx } σ H1 else D.nx σ H1)
 (mono:∀σ H Q Q',(∀b H1,Q b H1→Q' b H1)→c σ H Q→c σ H Q'):XJ c tb D σ H:=by
 refine⟨fun m σ H=>m=μ σ H∧Pv σ H,⟨_,rfl,h0⟩,?_⟩;rintro m σ H ⟨rfl,p⟩;refine mono σ H _ _ (fun b H1 q=>?_) (hs σ H p);cases b with
 |true=>exact⟨_,fun σ' H' ⟨p',l⟩=>⟨_,l,rfl,p'⟩,q⟩
 |false=>exact q
abbrev R2:=V→V→Hp→VK→Prop
def C4(X:Cx)(f:VL→VL→Sem VL)(r:R2):Prop :=
 ∀(pins:List (AD×Obj)) (s:SD) (σ:St) (H:Hp) (x y:V) (v u:VL) (Q:VK),Inv X pins σ H s→RelV x v→RelV y u→r x y H Q →
  wpAny (model X.prog X.w) X.A (f v u) (EP X pins σ Q) X.xe s
def fm(X:Cx)(f:VL→Sem VL)(r:V→Hp→VK→Prop):Prop :=
 ∀(pins:List (AD×Obj)) (s:SD) (σ:St) (H:Hp) (x:V) (v:VL) (Q:VK),Inv X pins σ H s→RelV x v→r x H Q →
  wpAny (model X.prog X.w) X.A (f v) (EP X pins σ Q) X.xe s
def ED(X:Cx)(f:VL)(r:List V→Hp→VK→Prop):Prop :=
 ∀(pins:List (AD×Obj)) (s:SD) (σ:St) (H:Hp) (xs:List V) (us:List VL) (Q:VK),Inv X pins σ H s→Vals xs us→r xs H Q →
  wpAny (model X.prog X.w) X.A (call f us) (EP X pins σ Q) X.xe s
def Xy(r:R2)(ta tb:TE):TE:=fun σ H Q=>ta σ H fun x H1=>tb σ H1 fun y H2=>r x y H2 Q
def nR(r:V→Hp→VK→Prop)(ta:TE):TE:=fun σ H Q=>ta σ H fun x H1=>r x H1 Q
def rI(C:Int→Int→Prop)(g:Int→Int→V):R2:=fun x y H Q=>∃i j,x=.int i∧y=.int j∧C i j∧Q (g i j) H
def RC(g:Int→Int→V):R2:=fun x y H Q=>∃i j,x=.int i∧y=.int j∧Q (g i j) H
def rU(g:Int→V):V→Hp→VK→Prop:=fun x H Q=>∃i,x=.int i∧Q (g i) H
section
variable{X:Cx}{a b c:Expr}{ta tb tc:TE}{pos:Pos}
def ZQ(ha:PE X a ta)(hb:PE X b tb){pins:List (AD×Obj)}{s:SD}{σ:St}{H:Hp}{R:V→V→Hp→Prop}(I:Inv X pins σ H s)
 (h:ta σ H fun x H1=>tb σ H1 fun y H2=>R x y H2){Q:VL→SD→Prop}{f:VL→VL→Sem VL}
 (hf:∀v u s2 x y H2,Inv X pins σ H2 s2→RelV x v→RelV y u→R x y H2→wpAny (model X.prog X.w) X.A (f v u) Q X.xe s2) :
  wpAny (model X.prog X.w) X.A (eval a X.env) (fun v s₁=>wpAny (model X.prog X.w) X.A (eval b X.env) (fun u s₂=>wpAny (model X.prog X.w) X.A (f v u) Q X.xe s₂) X.xe s₁) X.xe s:=by
 refine A6 (ha pins s σ H _ I h) fun v s1 ⟨x,H1,I1,r1,q1⟩=>?_;refine A6 (hb pins s1 σ H1 _ I1 q1) fun u s2 ⟨y,H2,I2,r2,q2⟩=>?_;exact hf v u s2 x y H2 I2 r1 r2 q2
def DP{op:Operator}{r:R2}(ho:C4 X (binaryOp op) r)(ha:PE X a ta)(hb:PE X b tb):PE X (.BinOp a op b pos) (Xy r ta tb):=by
 intro pins s σ H Q I h;exact wpAny_BinOp (ZQ ha hb I h fun v u s2 x y H2 I2 rx ry q=>ho pins s2 σ H2 x y v u Q I2 rx ry q)
def cC{op:UnaryOp}{r:V→Hp→VK→Prop}(ho:fm X (unaryOp op) r)(ha:PE X a ta):PE X (.UnaryOp op a pos) (nR r ta):=by
 intro pins s σ H Q I h;exact UnaryOp_ (A6 (ha pins s σ H _ I h) fun v s1 ⟨x,H1,I1,r1,q1⟩=>ho pins s1 σ H1 x v Q I1 r1 q1)
def cz{f:VL→VL→Sem VL}{C:Int→Int→Prop}{g:Int→Int→Int}
 (rule:∀(i j:Int) (t u:Tok) (s:SD) (Q:VL→SD→Prop) (E:VL→SD→Prop),C i j→Q (.int (g i j) s.toks) { s with toks:=s.toks+1 }→wpAny (model X.prog X.w) X.A (f (.int i t) (.int j u)) Q E s) :
  C4 X f (rI C fun i j=>.int (g i j)):=by
 intro pins s σ H x y v u Q I rx ry h;obtain⟨i,j,rfl,rfl,hc,q⟩:=h;obtain⟨t,rfl⟩:=rx;obtain⟨t',rfl⟩:=ry;exact rule i j t t' s _ _ hc ⟨.int (g i j),H,I.tok _,⟨_,rfl⟩,q⟩
def i9{f:VL→VL→Sem VL}{g:Int→Int→Int}
 (rule:∀(i j:Int) (t u:Tok) (s:SD) (Q:VL→SD→Prop) (E:VL→SD→Prop),Q (.int (g i j) s.toks) { s with toks:=s.toks+1 }→wpAny (model X.prog X.w) X.A (f (.int i t) (.int j u)) Q E s) :
  C4 X f (RC fun i j=>.int (g i j)):=by
 intro pins s σ H x y v u Q I rx ry h;obtain⟨i,j,rfl,rfl,q⟩:=h;obtain⟨t,rfl⟩:=rx;obtain⟨t',rfl⟩:=ry;exact rule i j t t' s _ _ ⟨.int (g i j),H,I.tok _,⟨_,rfl⟩,q⟩
def ZP{f:VL→VL→Sem VL}{g:Int→Int→Bool}
 (rule:∀(i j:Int) (t u:Tok) (s:SD) (Q:VL→SD→Prop) (E:VL→SD→Prop),Q (.bool (g i j)) s→wpAny (model X.prog X.w) X.A (f (.int i t) (.int j u)) Q E s) :
  C4 X f (RC fun i j=>.bl (g i j)):=by
 intro pins s σ H x y v u Q I rx ry h;obtain⟨i,j,rfl,rfl,q⟩:=h;obtain⟨t,rfl⟩:=rx;obtain⟨t',rfl⟩:=ry;exact rule i j t t' s _ _ ⟨.bl (g i j),H,I,rfl,q⟩
def mQ(i j:Int):Prop:=0≤j∧j≤1000000∧i.natAbs<2^64
def Wc(i j:Int):Prop:=(-(2^64)<i∧i<2^64)∨(-(2^64)<j∧j<2^64)
def Wc.ok{i j:Int}(h:Wc i j):IntMulOk i j:=by
 rcases h with ⟨h1,h2⟩|⟨h1,h2⟩
 ·exact .of_left (intBits_le_64 h1 h2)
 ·exact .of_right (intBits_le_64 h1 h2)
def XX:C4 X (binaryOp .Add) (RC fun i j=>.int (i+j)):=i9 fun _ _ _ _ _ _ _ q=>add_int q
def Pn:C4 X (binaryOp .Sub) (RC fun i j=>.int (i-j)):=i9 fun _ _ _ _ _ _ _ q=>sub_int q
def Py:C4 X (binaryOp .Mod) (rI (fun _ j=>j≠0) fun i j=>.int (i.fmod j)):=cz fun _ _ _ _ _ _ _ hc q=>mod_int' hc q
def gw:C4 X (binaryOp .Pow) (rI mQ fun i j=>.int (i^j.toNat)):=cz fun _ _ _ _ _ _ _ hc q=>pow_int_small hc.1 hc.2.1 hc.2.2 q
def nW{f:VL→Sem VL}{g:Int→Int}
 (rule:∀(i:Int) (t:Tok) (s:SD) (Q:VL→SD→Prop) (E:VL→SD→Prop),Q (.int (g i) s.toks) { s with toks:=s.toks+1 }→wpAny (model X.prog X.w) X.A (f (.int i t)) Q E s) :
  fm X f (rU fun i=>.int (g i)):=by
 intro pins s σ H x v Q I rx h;obtain⟨i,rfl,q⟩:=h;obtain⟨t,rfl⟩:=rx;exact rule i t s _ _ ⟨.int (g i),H,I.tok _,⟨_,rfl⟩,q⟩
def XS:fm X (unaryOp .USub) (rU fun i=>.int (-i)):=nW fun _ _ _ _ _ q=>neg_int q
end
def jX:V→V→Bool
 |.A8,.A8=>true|.A8,.int _=>true|.int _,.A8=>true|.A8,.bl _=>true|.bl _,.A8=>true|.A8,.str _=>true|.str _,.A8=>true
 |.int _,.int _=>true|.bl _,.bl _=>true|.str _,.str _=>true|.L9 _,.L9 _=>true
 |.int _,.str _=>true|.str _,.int _=>true|.bl _,.str _=>true|.str _,.bl _=>true
 |_,_=>false
def nc:R2:=fun x y H Q=>jX x y=true∧Q (.bl (decide (x=y))) H
def ng:R2:=fun x y H Q=>jX x y=true∧Q (.bl (!decide (x=y))) H
def U8{i j:Int}:decide (V.int i=V.int j)=(i==j):=by
 rw [Bool.eq_iff_iff];simp
def XB{i j:Bool}:decide (V.bl i=V.bl j)=(i==j):=by
 rw [Bool.eq_iff_iff];simp
def VE{i j:Str}:decide (V.str i=V.str j)=(i==j):=by
 rw [Bool.eq_iff_iff];simp
def Vq{i j:Array UInt8}:decide (V.L9 i=V.L9 j)=(i.toList==j.toList):=by
 rw [Bool.eq_iff_iff];cases i;cases j;simp
section
variable{X:Cx}{a b c:Expr}{ta tb tc:TE}{pos:Pos}
def BQ{pins:List (AD×Obj)}{σ:St}{H:Hp}{s:SD}{Q:VK}{k k':Bool}(I:Inv X pins σ H s)(q:Q (.bl k) H)(e:k=k'):EP X pins σ Q (.bool k') s:=by
 subst e;exact⟨.bl k,H,I,rfl,q⟩
def cn:C4 X (compareOp .Eq) nc:=by
 intro pins s σ H x y v u Q I rx ry h;obtain⟨hs,q⟩:=h;cases x with
 |A8 =>
  cases rx;cases y with
  |A8=>cases ry;exact PySem.EqNone.eq_none_none (BQ I q (by simp))
  |bl j=>cases ry;exact PySem.EqNone.eq_none_bool (BQ I q (by simp))
  |int j=>obtain⟨t',rfl⟩:=ry;exact PySem.EqNone.eq_none_int (BQ I q (by simp))
  |str j=>obtain⟨t',rfl⟩:=ry;exact PySem.EqNone.eq_none_str (BQ I q (by simp))
  |_=>exact absurd (show false=true from hs) aJ
 |bl i =>
  cases rx;cases y with
  |A8=>cases ry;exact PySem.EqNone.eq_bool_none (BQ I q (by simp))
  |bl j=>cases ry;exact eq_bool (BQ I q XB)
  |str j=>obtain⟨t',rfl⟩:=ry;exact PySem.EqMixed.eq_bool_str (BQ I q (by simp))
  |_=>exact absurd (show false=true from hs) aJ
 |int i =>
  obtain⟨t,rfl⟩:=rx;cases y with
  |A8=>cases ry;exact PySem.EqNone.eq_int_none (BQ I q (by simp))
  |int j=>obtain⟨t',rfl⟩:=ry;exact eq_int (BQ I q U8)
  |str j=>obtain⟨t',rfl⟩:=ry;exact PySem.EqMixed.eq_int_str (BQ I q (by simp))
  |_=>exact absurd (show false=true from hs) aJ
 |str i =>
  obtain⟨t,rfl⟩:=rx;cases y with
  |A8=>cases ry;exact PySem.EqNone.eq_str_none (BQ I q (by simp))
  |bl j=>cases ry;exact PySem.EqMixed.eq_str_bool (BQ I q (by simp))
  |int j=>obtain⟨t',rfl⟩:=ry;exact PySem.EqMixed.eq_str_int (BQ I q (by simp))
  |str j=>obtain⟨t',rfl⟩:=ry;exact eq_str (BQ I q VE)
  |_=>exact absurd (show false=true from hs) aJ
 |L9 i =>
  obtain⟨t,rfl⟩:=rx;cases y with
  |L9 j=>obtain⟨t',rfl⟩:=ry;exact PySem.W.eq_bytes (BQ I q Vq)
  |_=>exact absurd (show false=true from hs) aJ
 |_=>cases y<;>exact absurd (show false=true from hs) aJ
def cG:C4 X (compareOp .NotEq) ng:=by
 intro pins s σ H x y v u Q I rx ry h;obtain⟨hs,q⟩:=h;cases x with
 |A8 =>
  cases rx;cases y with
  |A8=>cases ry;exact PySem.EqNone.ne_none_none (BQ I q (by simp))
  |bl j=>cases ry;exact PySem.EqNone.ne_none_bool (BQ I q (by simp))
  |int j=>obtain⟨t',rfl⟩:=ry;exact PySem.EqNone.ne_none_int (BQ I q (by simp))
  |str j=>obtain⟨t',rfl⟩:=ry;exact PySem.EqNone.ne_none_str (BQ I q (by simp))
  |_=>exact absurd (show false=true from hs) aJ
 |bl i =>
  cases rx;cases y with
  |A8=>cases ry;exact PySem.EqNone.ne_bool_none (BQ I q (by simp))
  |bl j=>cases ry;exact ne_bool (BQ I q (bF not XB))
  |str j=>obtain⟨t',rfl⟩:=ry;exact PySem.EqMixed.ne_bool_str (BQ I q (by simp))
  |_=>exact absurd (show false=true from hs) aJ
 |int i =>
  obtain⟨t,rfl⟩:=rx;cases y with
  |A8=>cases ry;exact PySem.EqNone.ne_int_none (BQ I q (by simp))
  |int j=>obtain⟨t',rfl⟩:=ry;exact ne_int (BQ I q (bF not U8))
  |str j=>obtain⟨t',rfl⟩:=ry;exact PySem.EqMixed.ne_int_str (BQ I q (by simp))
  |_=>exact absurd (show false=true from hs) aJ
 |str i =>
  obtain⟨t,rfl⟩:=rx;cases y with
  |A8=>cases ry;exact PySem.EqNone.ne_str_none (BQ I q (by simp))
  |bl j=>cases ry;exact PySem.EqMixed.ne_str_bool (BQ I q (by simp))
  |int j=>obtain⟨t',rfl⟩:=ry;exact PySem.EqMixed.ne_str_int (BQ I q (by simp))
  |str j=>obtain⟨t',rfl⟩:=ry;exact ne_str (BQ I q (bF not VE))
  |_=>exact absurd (show false=true from hs) aJ
 |L9 i =>
  obtain⟨t,rfl⟩:=rx;cases y with
  |L9 j=>obtain⟨t',rfl⟩:=ry;exact PySem.W.ne_bytes (BQ I q (bF not Vq))
  |_=>exact absurd (show false=true from hs) aJ
 |_=>cases y<;>exact absurd (show false=true from hs) aJ
def WE:C4 X (compareOp .Lt) (RC fun i j=>.bl (decide (i<j))):=ZP fun _ _ _ _ _ _ _ q=>lt_int q
def Rk:C4 X (compareOp .Gt) (RC fun i j=>.bl (decide (j<i))):=ZP fun _ _ _ _ _ _ _ q=>gt_int q
def cI:C4 X (compareOp .GtE) (RC fun i j=>.bl (decide (j≤i))):=ZP fun _ _ _ _ _ _ _ q=>ge_int q
def C4.or{f:VL→VL→Sem VL}{r r':R2}(h:C4 X f r)(h':C4 X f r'):C4 X f (fun x y H Q=>r x y H Q∨r' x y H Q):=by
 intro pins s σ H x y v u Q I rx ry q;rcases q with q|q
 ·exact h pins s σ H x y v u Q I rx ry q
 ·exact h' pins s σ H x y v u Q I rx ry q
def Bn(b:Expr){op:CmpOp}(h:op≠.In:=by decide)(h2:op≠.NotIn:=by decide):behindInMarks op b=false:=by
 have e1:(op==CmpOp.In)=false:=by cases op<;>first|rfl|exact absurd rfl h
 have e2:(op==CmpOp.NotIn)=false:=by cases op<;>first|rfl|exact absurd rfl h2
 cases b<;>simp [behindInMarks,e1,e2]
def QD{op:CmpOp}{r:R2}(ho:C4 X (compareOp op) r)(ha:PE X a ta)(hb:PE X b tb)(hm:behindInMarks op b=false):PE X (.Compare a [op] [b] pos) (Xy r ta tb):=by
 intro pins s σ H Q I h;exact wpAny_Compare1 (ZQ ha hb I h fun v u s2 x y H2 I2 rx ry q=>ho pins s2 σ H2 x y v u Q I2 rx ry q) hm
def ky(t:TE):TT:=fun σ H Q=>t σ H fun x H'=>∃k,x=.bl k∧Q k H'
def EA{op:CmpOp}{r:R2}(ho:C4 X (compareOp op) r)(ha:PE X a ta)(hb:PE X b tb)(hm:behindInMarks op b=false):PT X (.Compare a [op] [b] pos) (ky (Xy r ta tb)):=by
 intro pins s σ H Q I h;refine wpAny_isTrue_Compare1 (A6 (ha pins s σ H _ I h) fun v s1 ⟨x,H1,I1,r1,q1⟩=>A6 (hb pins s1 σ H1 _ I1 q1) fun u s2 ⟨y,H2,I2,r2,q2⟩ =>
  A6 (ho pins s2 σ H2 x y v u _ I2 r1 r2 q2) fun c s3 ⟨z,H3,I3,r3,k,e,q3⟩=>?_) hm
 subst e;cases r3;exact wpAny_truthy_bool ⟨H3,I3,q3⟩
def Ms:(sizeLine:Nat)<2^63:=by rw [sizeLine_eq];decide
def V2:C4 X (binaryOp .Add) (fun x y H Q=>∃i j,x=.str i∧y=.str j∧i.length+j.length≤sizeLine∧Q (.str (i++j)) H):=by
 intro pins s σ H x y v u Q I rx ry h;obtain⟨i,j,rfl,rfl,hz,q⟩:=h;obtain⟨t,rfl⟩:=rx;obtain⟨t',rfl⟩:=ry;exact add_str (fun t' tk=>⟨.str (i++j),H,I.tok _,⟨_,rfl⟩,q⟩) hz
def vals1{x:V}{us:List VL}(r:Vals [x] us):∃u,us=[u]∧RelV x u:=by
 cases r with
 |cons r1 r2=>cases r2;exact⟨_,rfl,r1⟩
def LF:ED X (.builtin "abs") (fun xs H Q=>∃i,xs=[.int i]∧Q (.int (if i<0 then -i else i)) H):=by
 intro pins s σ H xs us Q I r h;obtain⟨i,rfl,q⟩:=h;obtain⟨u,rfl,t,rfl⟩:=vals1 r;exact call_abs_int fun u tk=>⟨.int (if i<0 then -i else i),H,I.tok _,⟨_,rfl⟩,q⟩
end
structure Zt(h:Heap)(x dx C:Addr)(mA:Str→Option Value):Prop where
 obj:h.get? x=some (PySem.W.instObj C dx)
 ns:h.Ns1 dx mA
 ne:dx≠x
def Xk{h:Heap}{dx:AD}{mA:Str→Option VL}(n:h.Ns1 dx mA):∃od,h.get? dx=some od∧∀name,PySem.W.lookIn name od=some (mA name):=by
 obtain⟨o,es,ep,ho,hd,hk,_,hm⟩:=n;refine⟨o,ho,fun name=>?_⟩;have e:=hm name;unfold nsFind findBy at e;rw [←Array.find?_toList]at e;unfold PySem.W.lookIn;rw [hd];dsimp only;split
 ·rename_i y q;rw [q]at e;exact bF some e
 ·rename_i q;rw [q]at e;have a:es.toList.any (·.refKey)=false:=by
   rw [List.any_eq_false];intro y hy;obtain⟨z,t,hkey⟩:=hk y (Array.mem_toList_iff.mp hy);simp [DictEntry.refKey,hkey]
  have a':¬es.toList.any (·.refKey)=true:=by rw [a];exact aJ
  rw [if_neg a'];exact bF some e
def Zt.look{h:Heap}{x dx C:AD}{mA:Str→Option VL}(I:Zt h x dx C mA):∃od,PySem.W.InstAt h x (PySem.W.instObj C dx) C (some od)∧∀name,PySem.W.lookIn name od=some (mA name) :=
 let⟨od,ho,hl⟩:=Xk I.ns
 ⟨od,⟨I.obj,rfl,rfl,ho⟩,hl⟩
section
variable{P:Program}{w:World}{H H':Hp}{h h':Heap}{a C dx:AD}{fs fs':List (Str×V)}
def de(Av:EV P w H h)(e:H a=some (.ins C dx fs)):∃mA,Zt h a dx C mA∧(∀f,Za (fs.lookup f) (mA f))∧PySem.Within mA (fs.map (·.1))∧fs.length≤1000∧H dx=some (.own a):=by
 obtain⟨d,z,ne,ob,mA,n,r,q⟩:=(show C6 P w H h a (.ins C dx fs) from Av a _ e);exact⟨mA,⟨ob,n,ne⟩,r,q,z,d⟩
end
structure gp(K:Fg)(C:Addr):Prop where
 pg:PySem.W.plainGet K C Str.empty=true
 hd:PySem.W.hasDictIn K C=true
 po:PySem.W.plainOver K C=true
 sa:PySem.W.findIn K (.ref C) "__setattr__" = some (some (.builtin "object.__setattr__"))
def gp.get{K:Fg}{C:AD}(c:gp K C)(f:Str):PySem.W.plainGet K C f=true:=c.pg
section
variable{X:Cx}{pins:List (AD×Obj)}{σ:St}{H:Hp}{s:SD}{A:Around}{E:VL→SD→Prop}{Q:VL→SD→Prop}{c:VL}{b:Bool}
inductive GF(K:Fg)(H:Hp):V→Value→Prop where
 |A8:GF K H .A8 (.type "NoneType")
 |bl (x:Bool):GF K H (.bl x) (.type "bool")
 |int (i:Int):GF K H (.int i) (.type "int")
 |str (x:Str):GF K H (.str x) (.type "str")
 |U7 (x:UInt64):GF K H (.U7 x) (.type "float")
 |lst {a:Addr} {xs:List V} (e:H a=some (.lst xs)):GF K H (.ref a) (.type "list")
 |Ef {a:Addr} {o:Obj} {xs:List V} (e:H a=some (.Ef o (.lst xs))):GF K H (.ref a) (.type "list")
 |tup {a:Addr} {xs:List V} (e:H a=some (.tup xs)):GF K H (.ref a) (.type "tuple")
 |dK {a:Addr} {kvs:List (Key×V)} (e:H a=some (.dK kvs)):GF K H (.ref a) (.type "dict")
 |dT {a:Addr} {kvs:List (List Key×V)} (e:H a=some (.dT kvs)):GF K H (.ref a) (.type "dict")
 |ins {a C dx:Addr} {fs:List (Str×V)} (e:H a=some (.ins C dx fs)) (cl:gp K C) (ha:PySem.W.findIn K (.ref C) "__class__" = some (some (.builtin "object.__class__")))
   (hn:PySem.W.specialIn K (.builtin "object.__class__") "__get__" = some (some (.builtin "getset_descriptor.__get__"))) (htk:PySem.W.takesIn K (.builtin "object.__class__")=some true)
   (hm:PySem.W.mroIn K C (.type "object")=some true):GF K H (.ref a) (.ref C)
def YL{x:V}{u t:VL}(I:Inv X pins σ H s)(rx:RelV x u)(ty:GF X.K H x t)(e:PySem.W.kitOne X.K t c=some b)(h:∀tk,Q (.bool b) { s with toks:=tk }) :
  wpAny (model X.prog X.w) A (call (.builtin "isinstance") [u,c]) Q E s:=by
 cases ty with
 |A8=>cases (show u=Value.none from rx);exact bI PySem.W.kitx_none I.Hm True.intro e (fun z=>nomatch z) h
 |bl y=>cases (show u=Value.bool y from rx);exact bI PySem.W.kitx_bool I.Hm True.intro e (fun z=>nomatch z) h
 |int i=>obtain⟨t,q⟩:=(show ∃t,u=Value.int i t from rx);cases q;exact bI PySem.W.kitx_int I.Hm True.intro e (fun z=>nomatch z) h
 |str y=>obtain⟨t,q⟩:=(show ∃t,u=Value.str y t from rx);cases q;exact bI PySem.W.kitx_str I.Hm True.intro e (fun z=>nomatch z) h
 |U7 y=>obtain⟨t,q⟩:=(show ∃t,u=Value.float y t from rx);cases q;exact bI PySem.W.kitx_float I.Hm True.intro e (fun z=>nomatch z) h
 | @lst a xs ea =>
  cases (show u=Value.ref a from rx);obtain⟨_,_,n,_,h1⟩:=(show C6 X.prog X.w H s.heap a (.lst xs) from I.Av a _ ea);exact bI PySem.W.kitx_list I.Hm ⟨_,h1,rfl⟩ e (fun z=>nomatch z) h
 | @Ef a ob xs ea =>
  cases (show u=Value.ref a from rx);obtain⟨_,_,_,n,_,h1⟩:=(show C6 X.prog X.w H s.heap a (.Ef ob (.lst xs)) from I.Av a _ ea);exact bI PySem.W.kitx_list I.Hm ⟨_,h1,rfl⟩ e (fun z=>nomatch z) h
 | @tup a xs ea =>
  cases (show u=Value.ref a from rx);obtain⟨_,_,_,p⟩:=(show C6 X.prog X.w H s.heap a (.tup xs) from I.Av a _ ea);obtain⟨o,h1,h2,_⟩:=p;exact bI PySem.W.kitx_tuple I.Hm ⟨o,h1,h2⟩ e (fun z=>nomatch z) h
 | @dK a kvs ea =>
  cases (show u=Value.ref a from rx);obtain⟨_,_,vs,_,p⟩:=(show C6 X.prog X.w H s.heap a (.dK kvs) from I.Av a _ ea);obtain⟨o,es,ep,h1,h2,_⟩:=p;exact bI PySem.W.kitx_dict I.Hm ⟨o,h1,h2.1⟩ e (fun z=>nomatch z) h
 | @dT a kvs ea =>
  cases (show u=Value.ref a from rx);obtain⟨_,_,xs,_,o,es,ep,h1,h2,_⟩:=(show C6 X.prog X.w H s.heap a (.dT kvs) from I.Av a _ ea);exact bI PySem.W.kitx_dict I.Hm ⟨o,h1,h2.1⟩ e (fun z=>nomatch z) h
 | @ins a C dx fs ea cl ha hn htk hm =>
  cases (show u=Value.ref a from rx);obtain⟨mA,O,_⟩:=de I.Av ea;obtain⟨od,J,_⟩:=O.look;exact bI (PySem.W.kitx_own (cl.get _) cl.hd ha hn htk hm) I.Hm J e (fun z=>nomatch z) h
end
structure DN(k:Nat)(A:Around):Prop where
 hd:A.handled=none
 dp:A.depth+3*k+5<recursionLimit
 un:A.units+16*k+200<cLine
def DN.mono{j k:Nat}{A:Around}(r:DN k A)(h:j≤k):DN j A:=⟨r.hd,by have:=r.dp;omega,by have:=r.un;omega⟩
def DN.deeper{k:Nat}{A:Around}(r:DN (k+1) A)(env:Env):DN k (A.deeper env) :=
 ⟨r.hd,by have:=r.dp;show A.depth+1+3*k+5<_;omega,by have:=r.un;show A.units+3+16*k+200<_;omega⟩
def DN.depth{k:Nat}{A:Around}(r:DN k A):A.depth<recursionLimit:=by have:=r.dp;omega
def DN.units{k:Nat}{A:Around}(r:DN k A):A.units+64<cLine:=by have:=r.un;omega
def mH:TA:=fun _ H Q=>Q [] H
def lH(ta:TE)(tr:TA):TA:=fun σ H Q=>ta σ H fun x H1=>tr σ H1 fun xs H2=>Q (x::xs) H2
section
variable{X:Cx}{e:Expr}{es:List Expr}{te:TE}{t:TA}{pos:Pos}
def BB:PA X [] mH:=fun _ _ _ _ H Q I h=>Calls.spliced_nil ⟨[],H,I,.nil,h⟩
def Ac(ha:PE X e te)(hr:PA X es t)(hs:starEach (e::es) X.env=(false,eval e X.env)::starEach es X.env:=by rfl):PA X (e::es) (lH te t):=by
 intro pos pins s σ H Q I h;rw [hs];show wpAny _ _ (spliced ((false,eval e X.env)::backTo pos (starEach es X.env))) _ _ s;refine Calls.spliced_cons (A6 (ha pins s σ H _ I h) fun u s1 ⟨x,H1,I1,r1,q1⟩=>?_);exact A6 (hr pos pins s1 σ H1 _ I1 q1) fun us s2 ⟨xs,H2,I2,r2,q2⟩=>⟨x::xs,H2,I2,.cons r1 r2,q2⟩
def mq(t:TA):TE:=fun σ H Q=>t σ H fun xs H1=>xs.length≤sizeLine∧∀p,H1 p=none→Q (.ref p) (upd H1 p (.tup xs))
def me(t:TA):TE:=fun σ H Q=>t σ H fun xs H1=>xs.length≤sizeLine∧∀p,H1 p=none→Q (.ref p) (upd H1 p (.lst xs))
def Oz{x1}(h:PA X es t):PE X (.Tuple es x1 pos) (mq t):=by
 intro pins s σ H Q I hq;refine wpAny_Tuple_spliced (A6 (h pos pins s σ H _ I hq) fun us s1 ⟨xs,H1,I1,r,z,q⟩=>⟨by rw [←r.length];exact z,?_⟩);have hf:H1 s1.heap.objs.size=none:=I1.Av.fresh (aI _);refine⟨.ref s1.heap.objs.size,upd H1 s1.heap.objs.size (.tup xs),I1.laid (t':=s1.toks) (fun b u e=>aD _ e) (aI _) ?_,rfl,q _ hf⟩;exact⟨z,us,r,⟨_,Heap.get?_push_size _ rfl,rfl,_,rfl⟩⟩
def Yi(h:PA X es t):PE X (.List es pos) (me t):=by
 intro pins s σ H Q I hq;refine wpAny_List_spliced (A6 (h pos pins s σ H _ I hq) fun us s1 ⟨xs,H1,I1,r,z,q⟩=>⟨by rw [←r.length];exact z,?_⟩);have hf:H1 s1.heap.objs.size=none:=I1.Av.fresh (aI _);refine⟨.ref s1.heap.objs.size,upd H1 s1.heap.objs.size (.lst xs),I1.laid (t':=s1.toks) (fun b u e=>aD _ e) (aI _) ?_,rfl,q _ hf⟩;exact⟨z,us,0,r,Heap.get?_push_size _ rfl⟩
end
abbrev Sp:=List V→Hp→VK→XK→Prop
abbrev GN:=List Env→Hp→SD→XK→VL→SD→Prop
structure Wv(P:Program)(w:World)(K:Fg)(mg:Str→Option Value)(base:Heap)(A:Around)(outer:List Env)(s:Shared)(H:Hp):Prop where
 frames:A.frames=some outer
 mod:Mod K mg base
 bs:∀b o,base.get? b=some o→s.heap.get? b=some o∧H b=none
 RL:base.objs.size≤s.heap.objs.size
 HP:s.heap.FunFrames base outer
 RI:∀b∈Fu outer,H b=none
 Av:EV P w H s.heap
 bare:AllBare s.gens
def CE(outer:List Env)(P:Program)(w:World)(H:Hp)(s:SD)(Q:VK)(u:VL)(s':SD):Prop :=
 ∃v H',s'.os=s.os∧AllBare s'.gens∧Un (Fu outer) [] H H' s.heap s'.heap∧EV P w H' s'.heap∧RelV v u∧Q v H'
def CR(CX:GN)(outer:List Env)(P:Program)(w:World)(H:Hp)(s:SD)(Q:VK)(E:XK)(r:Result)(s':SD):Prop :=
 match r with
 |.ok (.ret u)=>CE outer P w H s Q u s'
 |.ok _=>False
 |.error e=>CX outer H s E e s'
structure AN(P:Program)(w:World)(K:Fg)(mg:Str→Option Value)(base:Heap)(CX:GN)(k:Nat)(f:Addr)(fd:FuncData)(ps:List Str)(sp:Sp):Prop where
 len:∀vs H Q E,sp vs H Q E→vs.length=ps.length
 run:∀(A:Around) (outer:List Env) (s:Shared) (H:Hp) (args:Args) (us:List Value) (vs:List V) (Q:VK) (E:XK),DN k A→Wv P w K mg base A outer s H→BindsTo s fd args (ps.zip us)→Vals vs us→sp vs H Q E →
  codeAny (model P w) A (.call (.ref f) args) (CR CX outer P w H s Q E) s
def AN.mono{P:Program}{w:World}{K:Fg}{mg:Str→Option VL}{base:Heap}{CX:GN}{j k:Nat}{f:AD}{fd:FuncData}{ps:List Str}{sp:Sp}(F:AN P w K mg base CX j f fd ps sp)(h:j≤k) :
  AN P w K mg base CX k f fd ps sp:=⟨F.len,fun A outer s H args us vs Q E hr=>F.run A outer s H args us vs Q E (hr.mono h)⟩
def AN.imp{P:Program}{w:World}{K:Fg}{mg:Str→Option VL}{base:Heap}{CX:GN}{k:Nat}{f:AD}{fd:FuncData}{ps:List Str}{sp sp':Sp}(F:AN P w K mg base CX k f fd ps sp)
 (h:∀vs H Q E,sp' vs H Q E→sp vs H Q E):AN P w K mg base CX k f fd ps sp' :=
 ⟨fun vs H Q E q=>F.len vs H Q E (h _ _ _ _ q),fun A outer s H args us vs Q E hr he hb hv hs=>F.run A outer s H args us vs Q E hr he hb hv (h _ _ _ _ hs)⟩
section
variable{X:Cx}{pins:List (AD×Obj)}{σ:St}{H:Hp}{s s':SD}
def Inv.mx(I:Inv X pins σ H s):Wv X.prog X.w X.K X.mg X.base X.A X.stack s H :=
 ⟨I.ok.frames,I.ok.mod,I.bs,Nat.le_trans I.ok.RL I.sz,I.stack,I.P0,I.Av,I.bare⟩
def Inv.after{Q:VK}{u:VL}(I:Inv X pins σ H s)(h:CE X.stack X.prog X.w H s Q u s'):EP X pins σ Q u s':=by
 obtain⟨v,H',os,bare,un,Av,r,q⟩:=h;obtain⟨hh,g,d,t,os'⟩:=s';obtain rfl:os'=s.os:=os;exact⟨v,H',I.call (h':=hh) (g':=g) (d':=d) (t':=t) (ch:=[]) un Av bare (fun b z=>absurd z (by simp)),r,q⟩
end
def Wf(sp:Sp)(dvs:List V)(E:XK)(t:TA):TE:=fun σ H Q=>t σ H fun vs H1=>sp (vs++dvs) H1 Q E
def Binds(K:Fg)(fd:FuncData)(ps:List Str)(ds:List VL):Prop :=
 ∀(s:SD) (us:List VL),K.In s.heap→(us++ds).length=ps.length→BindsTo s fd ⟨us,[]⟩ (ps.zip (us++ds))
def Binds.all{K:Fg}{fd:FuncData}{ps:List Str}(h:∀us:List VL,us.length=ps.length→bindArgs fd ⟨us,[]⟩=pure (ps.zip us)):Binds K fd ps []:=fun s us _ hl=>by
 rw [List.append_nil]at hl ⊢;exact .of_eq (h us hl)
def Passes(CX:GN)(X:Cx)(E:XK):Prop:=∀(pins:List (AD×Obj)) (σ:St) (H:Hp) (s:SD) (e:VL) (s':SD),Inv X pins σ H s→CX X.stack H s E e s'→X.xe e s'
section
variable{X:Cx}{CX:GN}{k:Nat}{f C:AD}{fd:FuncData}{ps:List Str}{sp:Sp}{dvs:List V}{ds:List VL}{E:XK}{x m:Str}{p pos apos:Pos}{e o:Expr}{es:List Expr}{ta:TE}{t:TA}
def i5{pins:List (AD×Obj)}{σ:St}{H:Hp}{s:SD}{Q:VK}{us:List VL}{vs:List V}(F:AN X.prog X.w X.K X.mg X.base CX k f fd ps sp)(hr:DN k X.A)(hb:Binds X.K fd ps ds)(hd:Vals dvs ds)(hx:Passes CX X E)
 (I:Inv X pins σ H s)(r:Vals vs us)(h:sp (vs++dvs) H Q E):wpAny (model X.prog X.w) X.A (call (.ref f) us) (EP X pins σ Q) X.xe s:=by
 have r2:Vals (vs++dvs) (us++ds):=r.append hd;have hl:(us++ds).length=ps.length:=by rw [←r2.length];exact F.len _ _ _ _ h
 refine wpAny_call (codeAny_mono (F.run X.A X.stack s H ⟨us,[]⟩ (us++ds) (vs++dvs) Q E hr I.mx (hb s us I.Hm hl) r2 h) fun r s' hq=>?_);cases r with
 |error e=>exact hx pins σ H s e s' I hq
 |ok fl =>
  cases fl with
  |ret u=>exact I.after hq
  |next=>exact False.elim hq
  |brk=>exact False.elim hq
  |cont=>exact False.elim hq
def Vj(F:AN X.prog X.w X.K X.mg X.base CX k f fd ps sp)(hr:DN k X.A)(hg:Gl X x)(hm:X.mg x=some (.ref f))(hk:PySem.W.keepIn X.K (.ref f)=true)(hb:Binds X.K fd ps ds)(hd:Vals dvs ds)(hx:Passes CX X E)
 (ha:PA X (e::es) t)(hdb:(x==("__debug__" : Str))=false:=by decide)(he:starEach (e::es) X.env=(false,eval e X.env)::starEach es X.env:=by rfl)(hpl:(backTo pos (starEach es X.env)).any (·.1)=false:=by rfl) :
  PE X (.Call (.Name x p) (e::es) [] pos) (Wf sp dvs E t):=by
 intro pins s σ H Q I h;refine wpAny_Call_Name_kw (QP I hg hm ?_ hdb);refine PySem.W.callWith_K (h₀:=X.base) I.ok.mod.Po hk (A6 (ha pos pins s σ H _ I h) fun us s1 ⟨vs,H1,I1,r,q⟩=>⟨I1.Hm,?_⟩) he hpl;exact i5 F hr hb hd hx I1 r q
end
structure Ak(N P:List Str)(sc:Scope):Prop where
 kind:sc.kind=.function
 co:sc.isCoroutine=false
 gen:sc.isGenerator=false
 nd:N.Nodup
 pre:N.take P.length=P
 par:∀x∈P,sc.names.lookup x=some .local∨sc.names.lookup x=some .cell
 f9:∀y∈sc.names,y.2≠.free
def Cq{N P:List Str}{sc:Scope}(a:sc.kind=.function:=by rfl)(b:sc.isCoroutine=false:=by rfl)(c:sc.isGenerator=false:=by rfl)(d:N.Nodup:=by decide +kernel)(e:N.take P.length=P:=by rfl)(f:∀x ∈ P, sc.names.lookup x=some .local ∨ sc.names.lookup x=some .cell:=by decide +kernel)(g:∀y ∈ sc.names, y.2 ≠ .free:=by decide +kernel):Ak N P sc:=⟨a, b, c, d, e, f, g⟩
def Qu{kindOf:Str→Option NameKind}{x:Str}:∀ {binds:List (Str×VL)} {m:Str→Option VL},(∀v,(x,v) ∉ binds)→bindL kindOf binds m x=m x
 |[],_,_=>rfl
 |(n,v)::r,m,h=>by
  unfold bindL;rw [Qu fun w hw=>h w (aU _ hw)];split
  ·have:x≠n:=by rintro rfl;exact h v ai
   simp [this]
  ·rfl
def RN{kindOf:Str→Option NameKind}{x:Str}:∀ {binds:List (Str×VL)} {m:Str→Option VL},(∀v,(x,v) ∉ binds)→bindC kindOf binds m x=m x
 |[],_,_=>rfl
 |(n,v)::r,m,h=>by
  unfold bindC;rw [RN fun w hw=>h w (aU _ hw)];split
  ·rfl
  ·have:x≠n:=by rintro rfl;exact h v ai
   simp [this]
def RE{kindOf:Str→Option NameKind}{x:Str}{v:VL}:∀ {P:List Str} {vs:List VL} {i:Nat} {m:Str→Option VL},P.Nodup→P[i]? = some x→vs[i]? = some v→kindOf x=some .local →
  bindL kindOf (P.zip vs) m x=some v
 |[],_,_,_,_,h,_,_=>by simp at h
 |_::_,[],_,_,_,_,h,_=>by simp at h
 |p::P,w::vs,0,m,nd,h1,h2,hk=>by
  simp at h1 h2;subst h1;subst h2;show bindL kindOf ((p,w)::P.zip vs) m p=_;unfold bindL;rw [Qu fun v hv=>(List.nodup_cons.mp nd).1 (List.of_mem_zip hv).1,if_pos hk];simp
 |p::P,w::vs,i+1,m,nd,h1,h2,hk=>by
  show bindL kindOf ((p,w)::P.zip vs) m x=_;unfold bindL;exact RE (i:=i) (List.nodup_cons.mp nd).2 (by simpa using h1) (by simpa using h2) hk
def Qo{kindOf:Str→Option NameKind}{x:Str}{v:VL}:∀ {P:List Str} {vs:List VL} {i:Nat} {m:Str→Option VL},P.Nodup→P[i]? = some x→vs[i]? = some v→kindOf x≠some .local →
  bindC kindOf (P.zip vs) m x=some v
 |[],_,_,_,_,h,_,_=>by simp at h
 |_::_,[],_,_,_,_,h,_=>by simp at h
 |p::P,w::vs,0,m,nd,h1,h2,hk=>by
  simp at h1 h2;subst h1;subst h2;show bindC kindOf ((p,w)::P.zip vs) m p=_;unfold bindC;rw [RN fun v hv=>(List.nodup_cons.mp nd).1 (List.of_mem_zip hv).1,if_neg hk];simp
 |p::P,w::vs,i+1,m,nd,h1,h2,hk=>by
  show bindC kindOf ((p,w)::P.zip vs) m x=_;unfold bindC;exact Qo (i:=i) (List.nodup_cons.mp nd).2 (by simpa using h1) (by simpa using h2) hk
def start(N:List Str)(vs:List V):St:=vs.map some++List.replicate (N.length-vs.length) none
def Cn(CX:GN)(P:Program)(w:World)(K:Fg)(mg:Str→Option VL)(base:Heap)(N:List Str)(qual:Str)(scope:Scope)(f:AD)(cd:VL)(A:Around)(outer:List Env)(s:SD)(H:Hp)(E:XK):Cx where
 prog:=P
 w:=w
 K:=K
 mg:=mg
 base:=base
 A:=A.deeper (envOfC qual scope s.heap.objs.size f cd)
 N:=N
 s₀:=s
 H₀:=H
 env:=envOfC qual scope s.heap.objs.size f cd
 outer:=outer
 stack:=envOfC qual scope s.heap.objs.size f cd::outer
 ex:=[]
 calm:=true
 fn:=fun _=>true
 pn:=[]
 xe:=fun e s'=>wpAny (model P w) (A.deeper (envOfC qual scope s.heap.objs.size f cd)) (leaving (envOfC qual scope s.heap.objs.size f cd) e) (fun _ s''=>CX outer H s E e s'') (fun e' s''=>CX outer H s E e' s'') s'
def Tf{sc:Scope}{n:Nat}{x:Str}(h:sc.names.lookup x=some .cell):∃c,(cellsFrom n sc.names []).lookup x=some c:=by
 have q:=PySem.W.cellsFrom_some sc.names n [] (.inl h);exact Option.isSome_iff_exists.mp q
def YI{CX:GN}{P:Program}{w:World}{K:Fg}{mg:Str→Option VL}{base:Heap}{N ps:List Str}{qual:Str}{scope:Scope}{f:AD}{cd:VL}{A:Around}{outer:List Env}{s s1:SD}{H:Hp}{E:XK}{us:List VL}{vs:List V}
 (S:Ak N ps scope)(hd:A.handled=none)(e0:Wv P w K mg base A outer s H)(hl:vs.length=ps.length)(r:Vals vs us)
 (x:InCallC s s.heap.objs.size (bindL (envOfC qual scope s.heap.objs.size f cd).kindOf (ps.zip us) fun _=>none) (cellsFrom (s.heap.objs.size+1) scope.names []) (bindC (envOfC qual scope s.heap.objs.size f cd).kindOf (ps.zip us) fun _=>none) s1) :
  Inv (Cn CX P w K mg base N qual scope f cd A outer s H E) [] (start N vs) H s1:=by
 have hpl:ps.length≤N.length:=by have:=bF List.length S.pre;rw [List.length_take]at this;omega
 obtain⟨h1,tk,rfl,hk⟩:=x.done;have noA:∀b:AD,b ∉ (Cn CX P w K mg base N qual scope f cd A outer s H E).ex:=fun b z=>absurd (show b∈([]:List AD) from z) (by simp);refine⟨⟨e0.mod,S.kind,rfl,rfl,Nat.le_refl _,fun y z c h1 h2=>?_,fun y hy=>?_,fun y c _ h=>?_,fun _=>hd,Around.frames_deeper e0.frames,.inr ⟨rfl,rfl⟩,fun b z=>absurd z (noA b),e0.bs,e0.RL,fun b _ _=>noA b,fun b z=>absurd z (noA b),e0.HP,e0.RI⟩,
  rfl,e0.bare,Un.kept hk,⟨_,x.toInCall.ns,fun i y v h1 h2 h3=>?_⟩,fun y c h=>⟨_,x.cell y c h⟩,e0.Av.fresh (aI _),fun y c h=>?_,fun p hp=>absurd (show p∈([]:List (AD×Obj)) from hp) (by simp),e0.Av.kept hk,?_⟩
 ·exact name_of_addr x.apart (PySem.mem_of_lookup h1) (PySem.mem_of_lookup h2)
 ·have hy:scope.names.lookup y=some .cell∨scope.names.lookup y=some .free:=hy;rcases hy with hy|hy
  ·exact Tf hy
  ·exact absurd rfl (S.f9 _ (PySem.mem_of_lookup hy))
 ·exact bL (x.above y c (PySem.mem_of_lookup h))
 ·have hi:i<vs.length:=by
   unfold start at h2;by_cases hi:i<vs.length
   ·exact hi
   ·rw [List.getElem?_append_right (by simpa using hi)]at h2;rw [List.getElem?_replicate]at h2;split at h2<;>cases h2
  have ha:vs[i]? = some v:=by
   unfold start at h2;rw [List.getElem?_append_left (by simpa using hi),List.getElem?_map]at h2;cases e:vs[i]? with
   |none=>rw [e]at h2;cases h2
   |some a=>rw [e]at h2;cases h2;rfl
  obtain⟨u,hu,rv⟩:=r.get ha;have hp:ps[i]? = some y:=by
   rw [←S.pre,List.getElem?_take_of_lt (by omega)];exact h1
  have ndP:ps.Nodup:=by rw [←S.pre];exact S.nd.sublist (List.take_sublist _ _)
  refine⟨u,rv,?_⟩;rcases S.par y (aM hp) with k|k
  ·exact .inl ⟨k,RE ndP hp hu k⟩
  ·obtain⟨c,e⟩:=Tf (n:=s.heap.objs.size+1) k;refine .inr ⟨.inl k,c,e,?_⟩;have q:=x.cell y c e;rw [Qo ndP hp hu (by show scope.names.lookup y≠_;rw [k];decide)]at q;exact q
 ·exact e0.Av.fresh (bL (x.above y c (PySem.mem_of_lookup h)))
 ·unfold start;show _=N.length;rw [List.length_append,List.length_map,List.length_replicate];omega
def cV{CX:GN}{P:Program}{w:World}{K:Fg}{mg:Str→Option VL}{base:Heap}{k:Nat}{f:AD}{name qual:Str}{params:Arguments}{body:List Stmt}{scope:Scope}{dV kV doc pm cdv ct oc:VL}{an od:Option AD}
 {osl:Array (Option VL)}{N ps:List Str}{sp:Sp}(lk:K.lookup f=some ⟨oc,od,.func (PySem.W.fnOf name qual params body scope dV kV doc pm an cdv ct),osl⟩)(hcd:PySem.W.codeIn K cdv qual=true)(S:Ak N ps scope)
 (len:∀vs H Q E,sp vs H Q E→vs.length=ps.length)
 (hbody:∀(A:Around) (outer:List Env) (s:SD) (H:Hp) (vs:List V) (Q:VK) (E:XK),DN k (A.deeper (envOfC qual scope s.heap.objs.size f cdv))→sp vs H Q E →
   ∃t,HI (Cn CX P w K mg base N qual scope f cdv A outer s H E) body t∧t { nx:=fun _ H'=>Q .A8 H',rt:=Q } (start N vs) H) :
  AN P w K mg base CX (k+1) f (PySem.W.fnOf name qual params body scope dV kV doc pm an cdv ct) ps sp:=by
 refine⟨len,fun A outer s H args us vs Q E hr e0 hb r hsp=>?_⟩;have hl:=len _ _ _ _ hsp;have KX:K.In s.heap:=e0.mod.Po.keeps fun b o e=>(e0.bs b o e).1;have lim:s.heap.NoLimit:=e0.mod.nolimit.keeps fun b o e=>(e0.bs b o e).1;have hkind:∀y∈ps.zip us,scope.names.lookup y.1=some .local∨(scope.names.lookup y.1=some .cell∧((cellsFrom (s.heap.objs.size+1) scope.names []).lookup y.1).isSome=true):=fun⟨n,v⟩ hy=>by
  rcases S.par n (List.of_mem_zip hy).1 with q|q
  ·exact .inl q
  ·exact .inr ⟨q,PySem.W.cellsFrom_some _ _ _ (.inl q)⟩
 refine codeAny_call_function hr.depth (KX _ _ lk) rfl S.co S.gen rfl (PySem.W.codeRec_of KX hcd) (hb _ _ _ _ ?_);refine wpAny_newFunctionEnv_cells S.kind hkind fun env he s1 x=>?_;subst he;refine⟨lim.keeps x.toInCall.keep,codeAny_func ?_⟩;obtain⟨t,ht,hq⟩:=hbody A outer s H vs Q E (hr.deeper _) hsp;have I:Inv (Cn CX P w K mg base N qual scope f cdv A outer s H E) [] (start N vs) H s1:=YI S hr.hd e0 hl r x;refine ag (ht [] s1 (start N vs) H _ I hq) (fun fl s' hs=>?_) fun e s' hs=>hs;have fin:∀ {σ':St} {H':Hp} {v:V} {u:VL},Inv (Cn CX P w K mg base N qual scope f cdv A outer s H E) [] σ' H' s'→RelV v u→Q v H'→CE outer P w H s Q u s' :=
  fun {σ' H' v u} J rv q=>⟨v,H',J.os,J.bare,J.base,J.Av,rv,q⟩
 cases fl with
 |ret u =>
  obtain⟨v,σ',H',J,rv,q⟩:=hs;exact fin J rv q
 |next =>
  obtain⟨σ',H',J,q⟩:=hs;exact fin (v:=V.A8) (u:=Value.none) J rfl q
 |brk =>
  obtain⟨_,_,_,q⟩:=hs;exact False.elim q
 |cont =>
  obtain⟨_,_,_,q⟩:=hs;exact False.elim q
section
variable{X:Cx}{x:Str}{p pos:Pos}{e:Expr}{es:List Expr}{t:TA}{id T:String}{r:List V→Hp→VK→Prop}
def la(r:List V→Hp→VK→Prop)(t:TA):TE:=fun σ H Q=>t σ H fun vs H1=>r vs H1 Q
def Cy(hc:ED X (.builtin id) r)(hg:Gl X x)(hm:X.mg x=none)(hv:bootBuiltins x=some (.builtin id))(ha:PA X (e::es) t)(hn:x ≠ "__name__" := by decide)(hdb:(x==("__debug__" : Str))=false:=by decide)
 (he:starEach (e::es) X.env=(false,eval e X.env)::starEach es X.env:=by rfl)(hpl:(backTo pos (starEach es X.env)).any (·.1)=false:=by rfl):PE X (.Call (.Name x p) (e::es) [] pos) (la r t):=by
 intro pins s σ H Q I h;refine wpAny_Call_Name_kw (Er I hg hm hv ?_ hn hdb);exact PyProof.Rows.callWith_builtin1 (A6 (ha pos pins s σ H _ I h) fun us s1 ⟨vs,H1,I1,r1,q1⟩=>hc pins s1 σ H1 vs us Q I1 r1 q1) he hpl
def RA(hc:ED X (.type T) r)(hg:Gl X x)(hm:X.mg x=none)(hv:bootBuiltins x=some (.type T))(ha:PA X (e::es) t)(hn:x ≠ "__name__" := by decide)(hdb:(x==("__debug__" : Str))=false:=by decide)
 (he:starEach (e::es) X.env=(false,eval e X.env)::starEach es X.env:=by rfl)(hpl:(backTo pos (starEach es X.env)).any (·.1)=false:=by rfl):PE X (.Call (.Name x p) (e::es) [] pos) (la r t):=by
 intro pins s σ H Q I h;refine wpAny_Call_Name_kw (Er I hg hm hv ?_ hn hdb);exact av (A6 (ha pos pins s σ H _ I h) fun us s1 ⟨vs,H1,I1,r1,q1⟩=>hc pins s1 σ H1 vs us Q I1 r1 q1) he hpl
end
end L2
namespace HT
open PySem PyProof.Rows
section
variable{prog:Program}{w:World}{A:Around}{E:VL→SD→Prop}{s:SD}
def dw{t b:AD}{vs ws:List VL}{Q:VL→SD→Prop}(ht:IsTup s.heap t vs.toArray)(hb:IsTup s.heap b ws.toArray)(hv:vs≠[])
 (h1:ws=[]→Q (.ref t) s)(h2:ws≠[]→Q (.ref s.heap.objs.size) { s with heap:=s.heap.push { cls:=.type "tuple",data:=.seq (vs++ws).toArray } })
 (hsz:vs.length+ws.length≤sizeLine):wpAny (model prog w) A (binaryOp .Add (.ref t) (.ref b)) Q E s:=by
 obtain⟨⟨cls,dd,data,sl⟩,ho,hc,n,hd⟩:=id ht;obtain⟨⟨cls2,dd2,data2,sl2⟩,ho2,hc2,n2,hd2⟩:=id hb;simp only at hc hd hc2 hd2;subst hc hd hc2 hd2;have e:vs.toArray++ws.toArray=(vs++ws).toArray:=by simp
 by_cases hw:ws=[]
 ·exact concat_meets ⟨_,ho,rfl⟩ ⟨_,ho2,rfl⟩ noFill_tuple_add seq_tuple_add PySem.F.slot_tuple_add PySem.F.entry_tuple_add (PySem.F.args_tuple_add_2 _ _)
   (tuple_addW1 t b vs.toArray ws.toArray n n2 dd dd2 sl sl2 (by simpa using hv) (by simp [hw])) ⟨ho,ho2,h1 hw⟩
 ·refine concat_meets ⟨_,ho,rfl⟩ ⟨_,ho2,rfl⟩ noFill_tuple_add seq_tuple_add PySem.F.slot_tuple_add PySem.F.entry_tuple_add (PySem.F.args_tuple_add_2 _ _)
   (tuple_addW2 t b vs.toArray ws.toArray n n2 dd dd2 sl sl2 (by simpa using hv) (by simpa using hw) (by rw [List.size_toArray,List.size_toArray];exact hsz)) ⟨ho,ho2,?_⟩
  rw [e];exact h2 hw
def Bc(n d:Nat):Option Int→Nat
 |none=>d
 |some v=>if v<0 then(v+(n:Int)).toNat else min v.toNat n
def jD(n d:Nat)(hd:d≤n)(o:Option Int):Bc n d o≤n:=by
 cases o with
 |none=>exact hd
 |some v =>
  show(if v<0 then(v+(n:Int)).toNat else min v.toNat n)≤n;by_cases hv:v<0
  ·rw [if_pos hv];omega
  ·rw [if_neg hv];exact Nat.min_le_right _ _
def VC(v:Int)(n d:Nat):(if v<0 then max (v+(n:Int)) 0 else min v (n:Int))=((Bc n d (some v):Nat):Int):=by
 show(if v<0 then max (v+(n:Int)) 0 else min v (n:Int))=(((if v<0 then(v+(n:Int)).toNat else min v.toNat n):Nat):Int);by_cases hv:v<0
 ·simp only [if_pos hv];omega
 ·simp only [if_neg hv];omega
def Wh(lo hi:Option Int)(n:Nat):Builtin.Slice.sliceAdjust lo hi 1 (n:Int)=(((Bc n 0 lo:Nat):Int),((Bc n n hi:Nat):Int)):=by
 have h1:¬((1:Int)<0):=by omega
 unfold Builtin.Slice.sliceAdjust;simp only [h1,if_false];refine Prod.ext ?_ ?_
 ·cases lo with
  |none=>rfl
  |some v=>exact VC v n 0
 ·cases hi with
  |none=>rfl
  |some v=>exact VC v n n
def V7(i j:Nat):Builtin.Slice.slicePlaces (i:Int) (j:Int) 1=j-i:=by
 unfold Builtin.Slice.slicePlaces;have h1:(1:Int) > 0:=by omega
 simp only [h1,if_true,Int.ediv_one];split<;>omega
def Pl{v:VL}{o:Option Int}{Q:Option Int→SD→Prop}(p:IsPart v o)(h:Q o s):wpAny (model prog w) A (Builtin.Slice.slicePartIndex v) Q E s:=by
 cases p with
 |none=>exact slicePart_none h
 |int i t=>exact slicePart_int h
def Nx{sl:AD}{vl vu:VL}{lo hi:Option Int}{n:Nat}{Q:Int×Int×Nat→SD→Prop}(hs:s.heap.IsSliceOf sl vl vu .none)(pl:IsPart vl lo)(pu:IsPart vu hi)
 (h:Q (((Bc n 0 lo:Nat):Int),1,Bc n n hi-Bc n 0 lo) s):wpAny (model prog w) A (Builtin.Slice.sliceApplied (.ref sl) (pure (n:Int))) Q E s:=by
 obtain⟨os,hos,hcs,hds⟩:=id hs;unfold Builtin.Slice.sliceApplied Builtin.Slice.sliceFields;refine Wb (Wb (ak hos hds (x:=vl) rfl (Wb (ak hos hds (x:=vu) rfl (Wb (ak hos hds (x:=.none) rfl (aA ?_)))))));refine Wb (slicePart_none ?_);show wpAny _ _ (if((1:Int)==0)=true then _ else _) _ _ s;rw [if_neg (by decide)];refine Wb (Pl pl (Wb (Pl pu (Wb (aA ?_)))));show wpAny _ _ (match Builtin.Slice.sliceAdjust lo hi 1 (n:Int) with|(lo,hi)=>pure (lo,(1:Int),Builtin.Slice.slicePlaces lo hi 1)) _ _ s;rw [Wh lo hi n];show wpAny _ _ (pure (((Bc n 0 lo:Nat):Int),(1:Int),Builtin.Slice.slicePlaces ((Bc n 0 lo:Nat):Int) ((Bc n n hi:Nat):Int) 1)) _ _ s;rw [V7];exact aA h
def ZN(xs:Array VL)(i k:Nat):((List.range k).filterMap fun(m:Nat)=>xs[((i:Int)+(m:Int)*1).toNat]?).toArray=((xs.toList.drop i).take k).toArray:=by
 have e:(fun(m:Nat)=>xs[((i:Int)+(m:Int)*1).toNat]?)=fun m=>xs[i+m]? := by
  funext m
  have:((i:Int)+(m:Int)*1).toNat=i+m:=by omega
  rw [this]
 rw [e];have:=pick_run xs i k;rw [List.filterMap_map]at this;have e2:((fun x=>xs[x]?) ∘ fun x=>i+x)=fun m=>xs[i+m]?:=rfl;rw [e2]at this;rw [this]
def NK{t sl:AD}{items:Array VL}{vl vu:VL}{lo hi:Option Int}{Q:VL→SD→Prop}(ht:IsTup s.heap t items)(hs:s.heap.IsSliceOf sl vl vu .none)(pl:IsPart vl lo)(pu:IsPart vu hi)
 (hw:¬(Bc items.size 0 lo=0∧Bc items.size items.size hi=items.size))
 (h:Q (.ref s.heap.objs.size) { s with heap:=s.heap.push { cls:=.type "tuple",data:=.seq ((items.toList.drop (Bc items.size 0 lo)).take (Bc items.size items.size hi-Bc items.size 0 lo)).toArray } })
 (hsz:items.size≤sizeLine):wpAny (model prog w) A (getItem (.ref t) (.ref sl)) Q E s:=by
 have htake:sizeOk (.seq ((items.toList.drop (Bc items.size 0 lo)).take (Bc items.size items.size hi-Bc items.size 0 lo)).toArray):=by
  show((items.toList.drop (Bc items.size 0 lo)).take (Bc items.size items.size hi-Bc items.size 0 lo)).toArray.size≤sizeLine;rw [List.size_toArray,List.length_take,List.length_drop,Array.length_toList];omega
 have hj:Bc items.size items.size hi≤items.size:=jD _ _ (aI _) hi;obtain⟨os,hos,hcs,hds⟩:=id hs;have hTs:s.TypeIs (.ref sl) "slice" := ⟨os,hos,hcs⟩;unfold getItem
 try with_reducible refine aP ?_
 first|refine Wb (aA ?_)|skip
 refine Wb (wpAny_sequenceKey ht.typeIs (by decide) ?_);refine Wb (aj (name:=Str.ofString "__getitem__") ht.typeIs PyProof.Rows.slot_tuple_getitem
  (af PyProof.Rows.slot_tuple_getitem ht.typeIs entry_tuple_getitem ?_ (args_tuple_getitem _ _)))
 show wpAny _ _ (Builtin.Tuple.tupleItemsOf (.ref t)>>=_) _ _ s;refine Wb (tupleItemsOf_ ht ?_);refine Wb (wpAny_typeOf hTs ?_);rw [if_pos (by decide)];refine Wb (Nx hs pl pu ?_);have hno:¬((((Bc items.size 0 lo:Nat):Int)==0&&(1:Int)==1&&(Bc items.size items.size hi-Bc items.size 0 lo)==items.size)=true):=by
  intro q;rw [Bool.and_eq_true,Bool.and_eq_true]at q;have q1:((Bc items.size 0 lo:Nat):Int)=0:=eq_of_beq q.1.1;have q2:Bc items.size items.size hi-Bc items.size 0 lo=items.size:=eq_of_beq q.2;exact hw ⟨by omega,by omega⟩
 show wpAny _ _ (if(((Bc items.size 0 lo:Nat):Int)==0&&(1:Int)==1&&(Bc items.size items.size hi-Bc items.size 0 lo)==items.size)=true then _ else _) _ _ s;rw [if_neg hno,ZN]
 first
  |exact Wb (m:=Builtin.Tuple.tupleExact _) (ay (aA ⟨_,rfl,wpAny_pure h⟩) htake)
  |exact Wb (m:=Builtin.Tuple.tupleExact _) (ay (Wb (aA (aA ⟨_,rfl,wpAny_pure h⟩))) htake)
  |exact Wb (Wb (m:=Builtin.Tuple.tupleExact _) (ay (aA (aA ⟨_,rfl,wpAny_pure h⟩)) htake))
  |exact Wb (Wb (m:=Builtin.Tuple.tupleExact _) (ay (aA ⟨_,rfl,wpAny_pure h⟩) htake))
end
end HT
namespace L2
open PySem PySem.Spec PyProof.Rows
abbrev TO:=St→Hp→(Option Int→Hp→Prop)→Prop
def PO(X:Cx)(e:Option Expr)(t:TO):Prop :=
 ∀(pins:List (AD×Obj)) (s:SD) (σ:St) (H:Hp) (Q:Option Int→Hp→Prop),Inv X pins σ H s→t σ H Q →
  wpAny (model X.prog X.w) X.A (evalPart e X.env) (fun u s'=>∃o H',Inv X pins σ H' s'∧IsPart u o∧Q o H') X.xe s
def dh:TO:=fun _ H Q=>Q none H
def lL(t:TE):TO:=fun σ H Q=>t σ H fun x H1=>∃i,x=.int i∧Q (some i) H1
def intsAre_of{ns:List Int}:∀ {us:List VL},Vals (ns.map V.int) us→IntsAre us ns:=by
 induction ns with
 |nil=>intro us r;rw [List.map_nil]at r;cases r;exact .nil
 |cons n ns ih =>
  intro us r;rw [List.map_cons]at r;cases r with
  |cons r1 r2 =>
   obtain⟨t,e⟩:=r1;subst e;exact .cons n t (ih r2)
section
variable{X:Cx}{e:Expr}{te:TE}{lo hi:Option Expr}{tl th:TO}{pos p2:Pos}
def dQ:PO X none dh:=by
 intro pins s σ H Q I h;rw [evalPart_none];exact aA ⟨none,H,I,.none,h⟩
def eC(h:PE X e te):PO X (some e) (lL te):=by
 intro pins s σ H Q I hw;rw [evalPart_some];refine A6 (h pins s σ H _ I hw) fun u s1 ⟨x,H1,I1,r1,q1⟩=>?_;obtain⟨i,rfl,q⟩:=q1;obtain⟨t,rfl⟩:=r1;exact⟨some i,H1,I1,.int i t,q⟩
def Sw(X:Cx)(r:V→Option Int→Option Int→Hp→VK→Prop):Prop :=
 ∀(pins:List (AD×Obj)) (s:SD) (σ:St) (H:Hp) (x:V) (v vl vu:VL) (lo hi:Option Int) (sl:AD) (Q:VK),Inv X pins σ H s→RelV x v→s.heap.IsSliceOf sl vl vu .none→IsPart vl lo→IsPart vu hi→r x lo hi H Q →
  ∃T id,typeLookup (.type T) "__getitem__" = pure (some (.builtin id))∧s.TypeIs v T∧wpAny (model X.prog X.w) X.A (getItem v (.ref sl)) (EP X pins σ Q) X.xe s
def Sw.or{r r':V→Option Int→Option Int→Hp→VK→Prop}(h:Sw X r)(h':Sw X r'):Sw X (fun x lo hi H Q=>r x lo hi H Q∨r' x lo hi H Q):=by
 intro pins s σ H x v vl vu lo hi sl Q I rx hs pl pu q;rcases q with q|q
 ·exact h pins s σ H x v vl vu lo hi sl Q I rx hs pl pu q
 ·exact h' pins s σ H x v vl vu lo hi sl Q I rx hs pl pu q
def nX(r:V→Option Int→Option Int→Hp→VK→Prop)(te:TE)(tl th:TO):TE:=fun σ H Q=>te σ H fun x H1=>tl σ H1 fun l H2=>th σ H2 fun u H3=>r x l u H3 Q
def Y0{r:V→Option Int→Option Int→Hp→VK→Prop}(hr:Sw X r)(he:PE X e te)(hl:PO X lo tl)(hu:PO X hi th):PE X (.Subscript e (.Slice lo hi none p2) pos) (nX r te tl th):=by
 intro pins s σ H Q I h;refine Subscript_ (A6 (he pins s σ H _ I h) fun v s1 ⟨x,H1,I1,r1,q1⟩=>?_);refine wpAny_Slice (A6 (hl pins s1 σ H1 _ I1 q1) fun vl s2 ⟨l,H2,I2,pl,q2⟩=>A6 (hu pins s2 σ H2 _ I2 q2) fun vu s3 ⟨u,H3,I3,pu,q3⟩=>?_);rw [evalPart_none];refine aA ?_;have I4:Inv X pins σ H3 { s3 with heap:=s3.heap.push { cls:=.type "slice",data:=.fields #[vl,vu,.none] } }:=I3.kept (t':=s3.toks) fun b ob q=>aD _ q;obtain⟨T,id,hT,ht,hg⟩:=hr pins { s3 with heap:=s3.heap.push { cls:=.type "slice",data:=.fields #[vl,vu,.none] } } σ H3 x v vl vu l u s3.heap.objs.size Q I4 r1 (Heap.IsSliceOf.new ..) pl pu q3;show wpAny (model X.prog X.w) X.A (subscriptTail e (.Slice lo hi none p2) v (.ref s3.heap.objs.size)) (EP X pins σ Q) X.xe { s3 with heap:=s3.heap.push { cls:=.type "slice",data:=.fields #[vl,vu,.none] } };exact tail_any (ops:=[.ref s3.heap.objs.size,v]) ht hT hg (by with_unfolding_all rfl)
def ME(xs:List V)(lo hi:Option Int):List V:=(xs.drop (HT.Bc xs.length 0 lo)).take (HT.Bc xs.length xs.length hi-HT.Bc xs.length 0 lo)
def Ng(xs:List V)(lo hi:Option Int):(ME xs lo hi).length≤xs.length:=by
 unfold ME;rw [List.length_take,List.length_drop];omega
def nB(K:Fg):V→Option Int→Option Int→Hp→VK→Prop:=fun x lo hi H Q=>∃a xs,x=.ref a∧BF K H a xs ∧
 ¬(HT.Bc xs.length 0 lo=0∧HT.Bc xs.length xs.length hi=xs.length)∧∀p,H p=none→Q (.ref p) (upd H p (.tup (ME xs lo hi)))
def gm:Sw X (nB X.K):=by
 intro pins s σ H x v vl vu lo hi sl Q I rx hs pl pu h;obtain⟨a,xs,rfl,hx,hw,q⟩:=h;cases rx;obtain⟨its,r,ht,hz⟩:=I.tuple hx;have hlen:its.toArray.size=xs.length:=by rw [List.size_toArray];exact r.length.symm
 refine⟨"tuple",_,PyProof.Rows.slot_tuple_getitem.lookup,ht.typeIs,?_⟩;refine HT.NK ht hs pl pu (by rw [hlen];exact hw) ?_ (by rw [hlen];exact hz);rw [hlen];refine⟨.ref s.heap.objs.size,_,I.laid (t':=s.toks) (o:=.tup (ME xs lo hi)) (fun b ob q=>aD _ q) (aI _) ?_,rfl,q _ (I.Av.fresh (aI _))⟩;exact⟨ae (Ng xs lo hi) hz,_,(r.drop (HT.Bc xs.length 0 lo)).take (HT.Bc xs.length xs.length hi-HT.Bc xs.length 0 lo),IsTup.new _ _⟩
def Vals.Ux{xs:List V}{us:List VL}(r:Vals xs us):us=[] ↔ xs=[]:=by
 cases r with
 |nil=>simp
 |cons _ _=>simp
end
def MM(n:Nat)(i:Int):Option Nat:=if 0≤i then(if i<n then some i.toNat else none) else if -(n:Int)≤i then some (i+n).toNat else none
def FP{α:Type}(xs:List α)(i:Int):Option α:=(MM xs.length i).bind fun j=>xs[j]?
def Uv{n:Nat}{i:Int}{j:Nat}(h:MM n i=some j):seqIndex? i n=some j∧j<n∧-(n:Int)≤i∧i<n:=by
 unfold MM at h;by_cases h0:0≤i
 ·rw [if_pos h0]at h;by_cases h1:i<n
  ·rw [if_pos h1]at h;have e:i.toNat=j:=aW h;exact⟨by rw [seqIndex_of h0 h1,e],by omega,by omega,h1⟩
  ·rw [if_neg h1]at h;cases h
 ·rw [if_neg h0]at h;by_cases h1:-(n:Int)≤i
  ·rw [if_pos h1]at h;have e:(i+n).toNat=j:=aW h;exact⟨by rw [seqIndex_neg (by omega) h1,e],by omega,h1,by omega⟩
  ·rw [if_neg h1]at h;cases h
def QH{α:Type}{xs:List α}{i:Int}{v:α}(h:FP xs i=some v):∃j,seqIndex? i xs.length=some j∧xs[j]? = some v∧j<xs.length∧-(xs.length:Int)≤i∧i<xs.length:=by
 unfold FP at h;cases e:MM xs.length i with
 |none=>rw [e]at h;cases h
 |some j =>
  rw [e]at h;obtain⟨h1,h2,h3,h4⟩:=Uv e;exact⟨j,h1,h,h2,h3,h4⟩
def HR{α:Type}{xs:List α}{j:Nat}{v:α}(h:xs[j]? = some v):FP xs (j:Int)=some v:=by
 have hj:j<xs.length:=(aE.mp h).1;have e:MM xs.length (j:Int)=some j:=by
  unfold MM;rw [if_pos (by omega),if_pos (by omega)];simp
 unfold FP;rw [e];exact h
def Qi(b:Expr):Prop:=∀o i,subscripted b false o i=operate [o,i] (getItem o i)
def Na(X:Cx)(r:R2):Prop :=
 ∀(value slice:Expr) (pins:List (AD×Obj)) (s:SD) (σ:St) (H:Hp) (x y:V) (v u:VL) (Q:VK),Inv X pins σ H s→RelV x v→RelV y u→r x y H Q →
  subscripted slice false v u=operate [v,u] (getItem v u)→wpAny (model X.prog X.w) X.A (subscriptTail value slice v u) (EP X pins σ Q) X.xe s
def lZ(X:Cx)(id:String)(r:V→List V→Hp→VK→Prop):Prop :=
 ∀(pins:List (AD×Obj)) (s:SD) (σ:St) (H:Hp) (x:V) (xs:List V) (v:VL) (us:List VL) (Q:VK),Inv X pins σ H s→RelV x v→Vals xs us→r x xs H Q →
  wpAny (model X.prog X.w) X.A (call (.builtin id) (v::us)) (EP X pins σ Q) X.xe s
section
variable{X:Cx}{a b:Expr}{ta tb:TE}{pos:Pos}
def Na.or{r r':R2}(h:Na X r)(h':Na X r'):Na X (fun x y H Q=>r x y H Q∨r' x y H Q):=by
 intro value slice pins s σ H x y v u Q I rx ry q hs;rcases q with q|q
 ·exact h value slice pins s σ H x y v u Q I rx ry q hs
 ·exact h' value slice pins s σ H x y v u Q I rx ry q hs
def Cp{r:R2}(hr:Na X r)(ha:PE X a ta)(hb:PE X b tb)(hs:Qi b):PE X (.Subscript a b pos) (Xy r ta tb):=by
 intro pins s σ H Q I h;exact Subscript_ (ZQ ha hb I h fun v u s2 x y H2 I2 rx ry q=>hr a b pins s2 σ H2 x y v u Q I2 rx ry q (hs _ _))
def gG(K:Fg):R2:=fun x y H Q=>∃p xs i v,x=.ref p∧y=.int i∧A3 K H p xs∧FP xs i=some v∧Q v H
def Y5(K:Fg):R2:=fun x y H Q=>∃p xs i v,x=.ref p∧y=.int i∧BF K H p xs∧FP xs i=some v∧Q v H
def jm:R2:=fun x y H Q=>∃z i c,x=.str z∧y=.int i∧z.length≤sizeLine∧FP z.cps.toList i=some c∧Q (.str ⟨#[c]⟩) H
def U4:Na X (gG X.K):=by
 intro value slice pins s σ H x y v u Q I rx ry h hs;obtain⟨p,xs,i,z,rfl,rfl,hq,he,q⟩:=h;cases rx;obtain⟨t,rfl⟩:=ry;obtain⟨its,r,pl,hz⟩:=I.list hq;obtain⟨j,h1,h2,h3,h4,h5⟩:=QH he;obtain⟨w,ew,rw'⟩:=r.get h2;have hl:=r.length;have hn:=Ms;have fin:EP X pins σ Q w s:=⟨z,H,I,rw',q⟩;by_cases h0:0≤i
 ·have hj:i.toNat=j:=by
   rw [seqIndex_of h0 h5]at h1;exact aW h1
  exact item_listR pl.isList h0 (by omega) (by rw [hj];simpa using ew) fin hs
 ·have hj:(i+(its.toArray.size:Int)).toNat=j:=by
   rw [seqIndex_neg (by omega) h4]at h1;rw [List.size_toArray,←hl];exact aW h1
  exact subscriptTail_builtinR (x:=w) pl.isList.typeIs slot_list_getitem.lookup
   (wpAny_getItem_list_neg (Q:=fun r s'=>r=w∧EP X pins σ Q r s') pl.isList (by omega) (by rw [List.size_toArray]<;>omega) (by omega) (by rw [hj];simpa using ew) ⟨rfl,fin⟩) hs
def Ci:Na X (Y5 X.K):=by
 intro value slice pins s σ H x y v u Q I rx ry h hs;obtain⟨p,xs,i,z,rfl,rfl,hq,he,q⟩:=h;cases rx;obtain⟨t,rfl⟩:=ry;obtain⟨its,r,pl,hz⟩:=I.tuple hq;obtain⟨j,h1,h2,h3,h4,h5⟩:=QH he;obtain⟨w,ew,rw'⟩:=r.get h2;have hl:=r.length;have hn:=Ms;have fin:EP X pins σ Q w s:=⟨z,H,I,rw',q⟩;exact subscriptTail_builtinR (x:=w) pl.typeIs slot_tuple_getitem.lookup
  (getItem_tuple (j:=j) (Q:=fun r s'=>r=w∧EP X pins σ Q r s') pl (by omega) (by omega) (by rw [List.size_toArray,←hl];exact h1) (by simpa using ew) ⟨rfl,fin⟩) hs
def ik:Na X jm:=by
 intro value slice pins s σ H x y v u Q I rx ry h hs;obtain⟨z,i,c,rfl,rfl,hz,he,q⟩:=h;obtain⟨t,rfl⟩:=rx;obtain⟨t',rfl⟩:=ry;obtain⟨j,h1,h2,h3,h4,h5⟩:=QH he;have hl:z.cps.toList.length=z.length:=by simp [Str.length]
 rw [hl]at h1 h4 h5;have hn:=Ms;exact tail_any (typeIs_str s z t) slot_str_getitem.lookup (getItem_str (c:=c) (by
  have e1:decide (i < -(2^63:Int))=false:=bE (by omega);have e2:decide (i ≥ 2^63)=false:=bE (by omega);rw [e1,e2,Bool.or_false]) (by rw [h1];simpa using h2) ⟨.str ⟨#[c]⟩,H,I.tok _,⟨_,rfl⟩,q⟩) hs
def ni(K:Fg):R2:=fun x y H Q=>gG K x y H Q∨Y5 K x y H Q∨jm x y H Q
def fh:Na X (ni X.K):=U4.or (Ci.or ik)
def Wu(its:List VL)(n j:Nat)(u:VL):Obj.mapSeq (·.setIfInBounds j u) { cls:=.type "list",data:=.seq its.toArray n }={ cls:=.type "list",data:=.seq (its.set j u).toArray n }:=by
 simp [Obj.mapSeq]
def Inv.lst{pins:List (AD×Obj)}{σ:St}{H:Hp}{s:SD}{p:AD}{xs:List V}(I:Inv X pins σ H s)(h:H p=some (.lst xs)) :
  ∃(its:List VL) (n:Nat),Vals xs its∧s.heap.get? p=some { cls:=.type "list",data:=.seq its.toArray n }∧xs.length≤sizeLine:=by
 obtain⟨z,its,n,r,e⟩:=I.Av p _ h;exact⟨its,n,r,e,z⟩
def Inv.iq{pins:List (AD×Obj)}{σ:St}{H:Hp}{s:SD}{p:AD}{xs ys:List V}{its its':List VL}{n n':Nat}{f:Obj→Obj}(I:Inv X pins σ H s)(h:H p=some (.lst xs))
 (ho:s.heap.get? p=some { cls:=.type "list",data:=.seq its.toArray n })(hf:f { cls:=.type "list",data:=.seq its.toArray n }={ cls:=.type "list",data:=.seq its'.toArray n' })(r:Vals ys its')(hz:ys.length≤sizeLine)(t:Nat) :
  Inv X pins σ (upd H p (.lst ys)) { s with heap:=s.heap.update p f,toks:=t }:=by
 have e:(s.heap.update p f).get? p=some { cls:=.type "list",data:=.seq its'.toArray n' }:=by
  rw [Heap.get?_update_self f ho (by rw [hf]<;>rfl),hf]
 refine I.write (x:=p) (e:=p) (by rw [h];trivial) (.inl rfl) (fun b u hb q=>(Heap.get?_update_other _ _ (Ne.symm hb)).trans q) ⟨_,e⟩ ?_;exact⟨hz,its',n',r,e⟩
def dA:V→V→V→Hp→(Hp→Prop)→Prop:=fun o i v H Q=>∃p xs k j,o=.ref p∧i=.int k∧H p=some (.lst xs)∧MM xs.length k=some j∧Q (upd H p (.lst (xs.set j v)))
def set_list:Zh X dA:=by
 intro pins s σ H o i v ov iv u Q I ro ri rv h;obtain⟨p,xs,k,j,rfl,rfl,hp,hj,q⟩:=h;cases ro;obtain⟨t,rfl⟩:=ri;obtain⟨its,n,r,ho,hz⟩:=I.lst hp;obtain⟨h1,h2,h3,h4⟩:=Uv hj;have hl:=r.length;have hn:=Ms;have I':Inv X pins σ (upd H p (.lst (xs.set j v))) { s with heap:=s.heap.update p (Obj.mapSeq (·.setIfInBounds j u)) } :=
  I.iq hp ho (Wu its n j u) (r.set rv j) (by rw [List.length_set];exact hz) s.toks
 by_cases h0:0≤k
 ·have hk:k.toNat=j:=by
   rw [seqIndex_of h0 h4]at h1;exact aW h1
  exact PySem.W.ki_setAt ho h0 (by omega) (by rw [List.size_toArray,←hl];exact h4) (by rw [hk];exact⟨_,I',q⟩)
 ·have hk:(k+(its.toArray.size:Int)).toNat=j:=by
   rw [seqIndex_neg (by omega) h3]at h1;rw [List.size_toArray,←hl];exact aW h1
  exact PySem.W.ki_setBack ho (by omega) (by rw [List.size_toArray,←hl];exact h3) (by omega) (by rw [hk];exact⟨_,I',q⟩)
def Sx(lo hi:Option Int)(n:Nat):(sliceBounds lo hi none n).1=((HT.Bc n 0 lo:Nat):Int)∧(sliceBounds lo hi none n).2.1=((HT.Bc n n hi:Nat):Int)∧(sliceBounds lo hi none n).2.2=1:=by
 refine⟨?_,?_,rfl⟩
 ·cases lo with
  |none=>simp [sliceBounds,HT.Bc]
  |some i =>
   simp only [sliceBounds,HT.Bc,Option.getD_none,show(1:Int) > 0 by decide,if_true];by_cases h:i<0
   ·simp only [h,if_true]<;>omega
   ·simp only [h,if_false]<;>omega
 ·cases hi with
  |none=>simp [sliceBounds,HT.Bc]
  |some i =>
   simp only [sliceBounds,HT.Bc,Option.getD_none,show(1:Int) > 0 by decide,if_true];by_cases h:i<0
   ·simp only [h,if_true]<;>omega
   ·simp only [h,if_false]<;>omega
def RY(its:List VL)(lo hi:Option Int):slicePick its.toArray lo hi none=((its.drop (HT.Bc its.length 0 lo)).take (HT.Bc its.length its.length hi-HT.Bc its.length 0 lo)).toArray:=by
 obtain⟨h1,h2,h3⟩:=Sx lo hi its.toArray.size;unfold slicePick;rw [h1,h2,h3];simp only [sliceRange_one,pick_run,List.size_toArray]<;>rfl
def nA(K:Fg):V→Option Int→Option Int→Hp→VK→Prop:=fun x lo hi H Q=>∃a xs,x=.ref a∧A3 K H a xs∧∀p,H p=none→Q (.ref p) (upd H p (.lst (ME xs lo hi)))
def eQ:Sw X (nA X.K):=by
 intro pins s σ H x v vl vu lo hi sl Q I rx hs pl pu h;obtain⟨a,xs,rfl,hx,q⟩:=h;cases rx;obtain⟨its,r,ht,hz⟩:=I.list hx;have hlen:=r.length;refine⟨"list",_,slot_list_getitem.lookup,ht.isList.typeIs,?_⟩;refine wpAny_getItem_list_slice ht.isList hs pl pu .none (by simp) ?_ (by rw [List.size_toArray]<;>omega);rw [RY,←hlen];refine⟨.ref s.heap.objs.size,_,I.laid (t':=s.toks) (o:=.lst (ME xs lo hi)) (fun b ob q=>aD _ q) (aI _) ?_,rfl,q _ (I.Av.fresh (aI _))⟩;exact⟨ae (Ng xs lo hi) hz,_,0,(r.drop (HT.Bc xs.length 0 lo)).take (HT.Bc xs.length xs.length hi-HT.Bc xs.length 0 lo),Heap.get?_push_size _ rfl⟩
def Ie:V→Bool
 |.A8=>true
 |.bl _=>true
 |.int _=>true
 |.str _=>true
 |_=>false
def RM:V→V→Bool
 |.A8,.A8=>true
 |.bl a,.bl b=>a==b
 |.bl a,.int b=>(if a then 1 else 0)==b
 |.int a,.bl b=>a==(if b then 1 else 0)
 |.int a,.int b=>a==b
 |.str a,.str b=>a==b
 |_,_=>false
def jK{A:Around}{s:SD}{y x:V}{u v:VL}(ry:RelV y u)(rx:RelV x v)(fy:Ie y=true)(fx:Ie x=true):SeqAt.EqAt A s u v (RM y x):=by
 cases y with
 |A8 =>
  cases ry;cases x with
  |A8=>cases rx;exact SeqAt.EqAt.same _
  |bl b=>cases rx;exact SeqAt.EqAt.none_bool b
  |int b=>obtain⟨t,rfl⟩:=rx;exact SeqAt.EqAt.none_int b t
  |str b=>obtain⟨t,rfl⟩:=rx;exact SeqAt.EqAt.none_str b t
  |_=>exact absurd (show false=true from fx) aJ
 |bl a =>
  cases ry;cases x with
  |A8=>cases rx;exact SeqAt.EqAt.bool_none a
  |bl b=>cases rx;exact SeqAt.EqAt.bool_bool a b
  |int b=>obtain⟨t,rfl⟩:=rx;exact SeqAt.EqAt.bool_int a b t
  |str b=>obtain⟨t,rfl⟩:=rx;exact SeqAt.EqAt.bool_str a b t
  |_=>exact absurd (show false=true from fx) aJ
 |int a =>
  obtain⟨t',rfl⟩:=ry;cases x with
  |A8=>cases rx;exact SeqAt.EqAt.int_none a t'
  |bl b=>cases rx;exact SeqAt.EqAt.int_bool a t' b
  |int b=>obtain⟨t,rfl⟩:=rx;exact SeqAt.EqAt.int_int a t' b t
  |str b=>obtain⟨t,rfl⟩:=rx;exact SeqAt.EqAt.int_str a t' b t
  |_=>exact absurd (show false=true from fx) aJ
 |str a =>
  obtain⟨t',rfl⟩:=ry;cases x with
  |A8=>cases rx;exact SeqAt.EqAt.str_none a t'
  |bl b=>cases rx;exact SeqAt.EqAt.str_bool a t' b
  |int b=>obtain⟨t,rfl⟩:=rx;exact SeqAt.EqAt.str_int a t' b t
  |str b=>obtain⟨t,rfl⟩:=rx;exact SeqAt.EqAt.str_str a t' b t
  |_=>exact absurd (show false=true from fx) aJ
 |_=>exact absurd (show false=true from fy) aJ
def Oy(x:V)(u:VL):Bool:=match u with
 |.none=>RM .A8 x
 |.bool b=>RM (.bl b) x
 |.int i _=>RM (.int i) x
 |.str z _=>RM (.str z) x
 |_=>false
def Xv{x y:V}{u:VL}(r:RelV y u)(f:Ie y=true):Oy x u=RM y x:=by
 cases y with
 |A8=>cases r;rfl
 |bl b=>cases r;rfl
 |int i=>obtain⟨t,rfl⟩:=r;rfl
 |str z=>obtain⟨t,rfl⟩:=r;rfl
 |_=>exact absurd (show false=true from f) aJ
def Qj{x:V}:∀ {xs:List V} {us:List VL},Vals xs us→xs.all Ie=true→us.any (Oy x)=xs.any fun y=>RM y x
 |_,_,.nil,_=>rfl
 |y::xs,u::us,.cons r t,f=>by
  rw [List.all_cons,Bool.and_eq_true]at f;rw [List.any_cons,List.any_cons,Xv r f.1,Qj t f.2]
def Nz{A:Around}{s:SD}{x:V}{v:VL}(rx:RelV x v)(fx:Ie x=true):∀ {xs:List V} {us:List VL},Vals xs us→xs.all Ie=true→∀u∈us,SeqAt.EqAt A s u v (Oy x u)
 |_,_,.nil,_=>fun u hu=>by cases hu
 |y::xs,u::us,.cons r t,f=>fun u' hu=>by
  rw [List.all_cons,Bool.and_eq_true]at f;rcases aK.mp hu with rfl|hu
  ·rw [Xv r f.1];exact jK r rx f.1 fx
  ·exact Nz rx fx t f.2 u' hu
def cT(x:V)(xs:List V):Bool:=xs.any fun y=>RM y x
def lU(K:Fg)(neg:Bool):R2:=fun x y H Q=>∃p xs,y=.ref p∧(A3 K H p xs∨BF K H p xs)∧Ie x=true∧xs.all Ie=true∧Q (.bl (if neg then !cT x xs else cT x xs)) H
def UP:C4 X (compareOp .NotIn) (lU X.K true):=by
 intro pins s σ H x y v u Q I rx ry h;obtain⟨p,xs,rfl,hq,fx,fs,q⟩:=h;cases ry;rcases hq with hq|hq
 ·obtain⟨its,r,pl,hz⟩:=I.list hq;refine SeqAt.notIn_listAt (Oy x) pl.isList (fun w hw=>Nz rx fx r fs w (by simpa using hw)) ⟨.bl _,H,I,rfl,?_⟩;rw [show its.toArray.any (Oy x)=its.any (Oy x) by simp,Qj r fs];exact q
 ·obtain⟨its,r,pl,hz⟩:=I.tuple hq;refine SeqAt.notIn_tupleAt (Oy x) pl (fun w hw=>Nz rx fx r fs w (by simpa using hw)) ⟨.bl _,H,I,rfl,?_⟩;rw [show its.toArray.any (Oy x)=its.any (Oy x) by simp,Qj r fs];exact q
def Mc:ED X (.builtin "len") (fun xs H Q=>∃p ys,xs=[.ref p]∧(A3 X.K H p ys∨BF X.K H p ys)∧Q (.int ys.length) H):=by
 intro pins s σ H xs us Q I r h;obtain⟨p,ys,rfl,hq,q⟩:=h;obtain⟨u,rfl,rx⟩:=vals1 r;cases rx;have hn:=Ms;rcases hq with hq|hq
 ·obtain⟨its,r',pl,hz⟩:=I.list hq;have hlen:=r'.length;exact Calls.call_len_list pl.isList (by simp only [List.size_toArray]<;>omega) ⟨.int ys.length,H,I.tok _,⟨s.toks+1,by rw [List.size_toArray,hlen]⟩,q⟩
 ·obtain⟨its,r',pl,hz⟩:=I.tuple hq;have hlen:=r'.length;exact len_tuple pl (by simp only [List.size_toArray]<;>omega) ⟨.int ys.length,H,I.tok _,⟨s.toks+1,by rw [List.size_toArray,hlen]⟩,q⟩
def ED.or{f:VL}{r r':List V→Hp→VK→Prop}(h:ED X f r)(h':ED X f r'):ED X f (fun xs H Q=>r xs H Q∨r' xs H Q):=by
 intro pins s σ H xs us Q I rs q;rcases q with q|q
 ·exact h pins s σ H xs us Q I rs q
 ·exact h' pins s σ H xs us Q I rs q
def RP:ED X (.type "tuple") (fun xs H Q=>∃p ys,xs=[.ref p]∧((A3 X.K H p ys∧∀l,H l=none→Q (.ref l) (upd H l (.tup ys)))∨(BF X.K H p ys∧Q (.ref p) H))):=by
 intro pins s σ H xs us Q I r h;obtain⟨p,ys,rfl,h⟩:=h;obtain⟨u,rfl,rx⟩:=vals1 r;cases rx;rcases h with ⟨hq,q⟩|⟨hq,q⟩
 ·obtain⟨its,r',pl,hz⟩:=I.list hq;have hlen:=r'.length;refine call_tuple_list pl.isList (fun h' kp=>?_) (by simp only [List.size_toArray]<;>omega);have I1:Inv X pins σ H { s with heap:=h' }:=I.kept (t':=s.toks) kp;have I2:Inv X pins σ (upd H h'.objs.size (.tup ys)) { s with heap:=h'.push { cls:=.type "tuple",data:=.seq its.toArray } } :=
   I1.laid (t':=s.toks) (fun b o e=>aD _ e) (aI _) (show C6 X.prog X.w _ _ _ (.tup ys) from⟨hz,its,r',IsTup.new _ _⟩)
  exact⟨.ref h'.objs.size,_,I2,rfl,q _ (I1.Av.fresh (aI _))⟩
 ·obtain⟨its,r',pl,hz⟩:=I.tuple hq;exact call_tuple_same pl ⟨.ref p,H,I,rfl,q⟩
def lQ(K:Fg)(T:String)(x:V)(H:Hp):Prop:=match x with
 |.str _=>T = "str"
 |.int _=>T = "int"
 |.ref p=>(T = "list" ∧ ∃xs,A3 K H p xs)∨(T = "tuple" ∧ ∃o,K.lookup p=some o∧o.cls=.type "tuple" ∧ o.dict=none) ∨
   (T = "dict" ∧((∃kvs,H p=some (.dK kvs))∨∃kvs,H p=some (.dT kvs)))∨(T = "set" ∧ ∃S n,H p=some (.set S n))
 |_=>False
def jF{pins:List (AD×Obj)}{σ:St}{H:Hp}{s:SD}{T:String}{x:V}{v:VL}(I:Inv X pins σ H s)(r:RelV x v)(ty:lQ X.K T x H) :
  s.TypeIs v T∧∀a,v=.ref a→∃ob,s.heap.get? a=some ob∧ob.dict=none:=by
 cases x with
 |str z =>
  obtain⟨t,rfl⟩:=r;cases (show T = "str" from ty);exact⟨typeIs_str s z t,fun _ e=>nomatch e⟩
 |int i =>
  obtain⟨t,rfl⟩:=r;cases (show T = "int" from ty);exact⟨typeIs_int s i t,fun _ e=>nomatch e⟩
 |ref p =>
  cases r;rcases ty with ⟨rfl,xs,hq⟩|⟨rfl,o,hk,hc,hd⟩|⟨rfl,hk⟩|⟨rfl,S,n,hk⟩
  ·obtain⟨its,_,pl,_⟩:=I.list hq;refine⟨pl.isList.typeIs,fun a e=>?_⟩;cases e;obtain⟨o,n,e,c,hd,_⟩:=pl;exact⟨o,e,hd⟩
  ·refine⟨⟨o,I.Hm p o hk,hc⟩,fun a e=>?_⟩;cases e;exact⟨o,I.Hm _ o hk,hd⟩
  ·have z:∃o,s.heap.get? p=some o∧o.ExactDict:=by
    rcases hk with ⟨kvs,hk⟩|⟨kvs,hk⟩
    ·obtain⟨_,_,_,_,o,_,_,e,ex,_⟩:=I.Av p _ hk;exact⟨o,e,ex⟩
    ·obtain⟨_,_,_,_,o,_,_,e,ex,_⟩:=I.Av p _ hk;exact⟨o,e,ex⟩
   obtain⟨o,e,ex⟩:=z;refine⟨⟨o,e,ex.1⟩,fun a e2=>?_⟩;cases e2;exact⟨o,e,ex.2.1⟩
  ·obtain⟨o,_,_,_,e,ex,_⟩:=I.Av p _ hk;refine⟨⟨o,e,ex.1⟩,fun a e2=>?_⟩;cases e2;exact⟨o,e,ex.2.1⟩
 |_=>exact False.elim ty
def fP(K:Fg)(T:String)(r:V→List V→Hp→VK→Prop)(to:TE)(t:TA):TE:=fun σ H Q=>to σ H fun x H1=>lQ K T x H1∧t σ H1 fun xs H2=>r x xs H2 Q
variable{o e:Expr}{es:List Expr}{to:TE}{t:TA}{name:Str}{apos cpos:Pos}{T id:String}{r:V→List V→Hp→VK→Prop}
def Gv(pa:PlainAttrs T)(slot:Slot T name id)(hty:typeOf (.builtin id)=pure (.type "method_descriptor"))(hm:lZ X id r)(ho:PE X o to)(ha:PA X (e::es) t)
 (hbase:attributeBase o name X.env (eval o X.env)=eval o X.env:=by rfl)
 (hfew:((backTo cpos (starEach (e::es) X.env)).all (fun x=>!x.1)&&(backToKw cpos (keywordEach [] X.env)).all (fun x=>x.1.isSome)
   && decide ((e::es).length+([]:List Keyword).length+(if([]:List Keyword).isEmpty then 0 else 1)<30))=true:=by rfl)
 (hline:(apos.endLine==cpos.line)=true:=by rfl)(hs:starEach (e::es) X.env=(false,eval e X.env)::starEach es X.env:=by rfl)(hplain:(backTo cpos (starEach es X.env)).any (·.1)=false:=by rfl) :
  PE X (.Call (.Attribute o name apos) (e::es) [] cpos) (fP X.K T r to t):=by
 intro pins s σ H Q I h;refine wpAny_Call_method_late hbase hfew hline rfl (A6 (ho pins s σ H _ I h) fun v s1 ⟨x,H1,I1,r1,ty,q1⟩=>?_);obtain⟨h1,h2⟩:=jF I1 r1 ty;refine⟨T,id,pa,slot,hty,h1,h2,?_⟩;have hA:=ha cpos pins s1 σ H1 _ I1 q1;rw [hs]at hA ⊢;refine Calls.callWith_builtin (by show(false||(backTo cpos (starEach es X.env)).any (·.1))=false;rw [hplain]<;>rfl) (Calls.evalArgs_plain ?_);exact A6 hA fun us s2 ⟨vs,H2,I2,r2,q2⟩=>hm pins s2 σ H2 x vs v us Q I2 r1 r2 q2
end
def lY(X:Cx)(id:String)(r:V→List V→Hp→VK→Prop):Prop :=
 ∀(pins:List (AD×Obj)) (s:SD) (σ:St) (H:Hp) (x:V) (xs:List V) (v:VL) (us:List VL) (Q:VK),Inv X pins σ H s→RelV x v→Vals xs us→r x xs H Q →
  wpAny (model X.prog X.w) X.A (call (.builtin id) (v::us)) (EP X pins σ Q) X.xe s
def Vals.one:∀ {x:V} {us:List VL},Vals [x] us→∃u,us=[u]∧RelV x u
 |_,_,.cons r .nil=>⟨_,rfl,r⟩
def Vals.two:∀ {x y:V} {us:List VL},Vals [x,y] us→∃u v,us=[u,v]∧RelV x u∧RelV y v
 |_,_,_,.cons r (.cons q .nil)=>⟨_,_,rfl,r,q⟩
def Vals.rep{xs:List V}{us:List VL}(h:Vals xs us):∀k:Nat,Vals (List.replicate k xs).flatten (List.replicate k us).flatten
 |0=>.nil
 |k+1=>by
  rw [List.replicate_succ,List.replicate_succ,List.flatten_cons,List.flatten_cons];exact Vals.append h (Vals.rep h k)
def foldl_rep(its:List VL):∀(k:Nat) (acc:List VL),
  List.foldl (fun x1 x2=>x1++x2) acc.toArray (List.replicate k its.toArray)=(acc++(List.replicate k its).flatten).toArray
 |0,acc=>by simp
 |k+1,acc=>by
  have e:acc.toArray++its.toArray=(acc++its).toArray:=by simp
  have e2:(acc++its)++(List.replicate k its).flatten=acc++(List.replicate (k+1) its).flatten:=by
   rw [List.replicate_succ,List.flatten_cons,List.append_assoc]
  rw [←e2,←foldl_rep its k (acc++its),←e,List.replicate_succ,List.foldl_cons]
section
variable{X:Cx}{pins:List (AD×Obj)}{σ:St}{H:Hp}{s:SD}{l b:AD}{xs ys zs:List V}
def Inv.iW{its its':List VL}{n:Nat}{f:Array VL→Array VL}{t':Nat}(I:Inv X pins σ H s)(hH:H l=some (.lst xs))
 (e:s.heap.get? l=some { cls:=.type "list",data:=.seq its.toArray n })(hf:f its.toArray=its'.toArray)(hv:Vals ys its')(hz:ys.length≤sizeLine) :
  Inv X pins σ (upd H l (.lst ys)) { s with heap:=s.heap.update l (Obj.mapSeq f),toks:=t' }:=by
 have q:=PySem.IsL.update e f;rw [hf]at q;refine I.write (x:=l) (e:=l) (by rw [hH];exact trivial) (.inl rfl) (fun b' u hb hu=>(Heap.get?_update_other s.heap (Obj.mapSeq f) (Ne.symm hb)).trans hu) ⟨_,q⟩ ?_;exact⟨hz,its',_,hv,q⟩
def Inv.gz{its:List VL}{t':Nat}(I:Inv X pins σ H s)(hv:Vals ys its)(hz:ys.length≤sizeLine) :
  Inv X pins σ (upd H s.heap.objs.size (.lst ys)) { s with heap:=s.heap.push { cls:=.type "list",data:=.seq its.toArray },toks:=t' } :=
 I.laid (fun _ _ q=>aD _ q) (aI _) ⟨hz,its,0,hv,Heap.get?_push_size _ rfl⟩
def Inv.fresh(I:Inv X pins σ H s):H s.heap.objs.size=none:=I.Av.fresh (aI _)
def Inv.QW(I:Inv X pins σ H s)(hH:H l=some (.lst xs)):xs.length≤sizeLine∧∃(its:List VL) (n:Nat),Vals xs its∧xs.length=its.length∧s.heap.get? l=some { cls:=.type "list",data:=.seq its.toArray n }:=by
 obtain⟨z,its,n,r,e⟩:=I.Av l _ hH;exact⟨z,its,n,r,r.length,e⟩
def TN{n:Nat}(h:n≤sizeLine):Builtin.List.listTooLong n=false:=by
 unfold Builtin.List.listTooLong;exact bE (by omega)
end
section
variable{X:Cx}
def VX:V→List V→Hp→VK→Prop:=fun x vs H Q=>∃l xs y,x=.ref l∧vs=[y]∧H l=some (.lst xs)∧xs.length<sizeLine∧Q .A8 (upd H l (.lst (xs++[y])))
def EE:lY X "list.append" VX:=by
 intro pins s σ H x vs v us Q I rx rv h;obtain⟨l,xs,y,rfl,rfl,hH,hz,q⟩:=h;cases rx;obtain⟨u,rfl,ru⟩:=rv.one;obtain⟨z,its,n,r,hl,e⟩:=I.QW hH;refine call_meets F.slot_list_append ⟨_,e,rfl⟩ F.entry_list_append (F.args_list_append_2 _ _) (PySem.list_append l its.toArray n u (by rw [List.size_toArray];omega)) ⟨e,?_⟩;refine⟨.A8,_,I.iW (its':=its++[u]) hH e (by simp) (r.append (.cons ru .nil)) ?_,rfl,q⟩;rw [List.length_append,List.length_singleton];omega
def VJ:V→List V→Hp→VK→Prop:=fun x vs H Q=>∃l b xs zs,x=.ref l∧vs=[.ref b]∧H l=some (.lst xs)∧H b=some (.lst zs)∧xs.length+zs.length≤sizeLine∧Q .A8 (upd H l (.lst (xs++zs)))
def Q7:lY X "list.extend" VJ:=by
 intro pins s σ H x vs v us Q I rx rv h;obtain⟨l,b,xs,zs,rfl,rfl,hH,hB,hz,q⟩:=h;cases rx;obtain⟨u,rfl,ru⟩:=rv.one;cases ru;obtain⟨z,its,n,r,hl,e⟩:=I.QW hH;obtain⟨z2,its2,n2,r2,hl2,e2⟩:=I.QW hB;have hsz:its.toArray.size+its2.toArray.size≤sizeLine:=by rw [List.size_toArray,List.size_toArray];omega
 have hlong:¬(!its.toArray.isEmpty&&Builtin.List.listTooLong (its.toArray.size+its2.toArray.size))=true:=by
  rw [TN hsz,Bool.and_false];exact aJ
 refine call_meets F.slot_list_extend ⟨_,e,rfl⟩ F.entry_list_extend (F.args_list_extend_2 _ _)
  (AutoSeq1.list_extend_list_list_0 l its.toArray n b its2.toArray n2 hlong (by rw [List.size_toArray];omega) (by omega)) ⟨e,e2,?_⟩
 refine⟨.A8,_,I.iW (its':=its++its2) hH e (by simp) (r.append r2) ?_,rfl,q⟩;rw [List.length_append];omega
def mh:R2:=fun x y H Q=>∃l b xs zs,x=.ref l∧y=.ref b∧H l=some (.lst xs)∧H b=some (.lst zs)∧xs.length+zs.length≤sizeLine∧∀p,H p=none→Q (.ref p) (upd H p (.lst (xs++zs)))
def gT:C4 X (binaryOp .Add) mh:=by
 intro pins s σ H x y v u Q I rx ry h;obtain⟨l,b,xs,zs,rfl,rfl,hH,hB,hz,q⟩:=h;cases rx;cases ry;obtain⟨z,its,n,r,hl,e⟩:=I.QW hH;obtain⟨z2,its2,n2,r2,hl2,e2⟩:=I.QW hB;refine PySem.P.add_list e e2 ?_ (by rw [List.size_toArray,List.size_toArray];omega);have ea:its.toArray++its2.toArray=(its++its2).toArray:=by simp
 rw [ea];exact⟨.ref _,_,I.gz (t':=s.toks) (r.append r2) (by rw [List.length_append];omega),rfl,q _ I.fresh⟩
def mZ:R2:=fun x y H Q=>∃l k xs,x=.ref l∧y=.int k∧H l=some (.lst xs)∧-(2^63)≤k∧k<2^63∧xs.length*k.toNat≤sizeLine ∧
 ∀p,H p=none→Q (.ref p) (upd H p (.lst (List.replicate k.toNat xs).flatten))
def len_rep{α:Type}(xs:List α)(k:Nat):(List.replicate k xs).flatten.length=k*xs.length:=by
 induction k with
 |zero=>simp
 |succ k ih=>rw [List.replicate_succ,List.flatten_cons,List.length_append,ih,Nat.succ_mul,Nat.add_comm]
def ig:C4 X (binaryOp .Mult) mZ:=by
 intro pins s σ H x y v u Q I rx ry h;obtain⟨l,k,xs,rfl,rfl,hH,h1,h2,hz,q⟩:=h;cases rx;obtain⟨t,rfl⟩:=ry;obtain⟨z,its,n,r,hl,e⟩:=I.QW hH;have hlen:its.toArray.size*k.toNat≤sizeLine:=by rw [List.size_toArray,←hl];exact hz
 have hcap:¬its.toArray.size*k.toNat > (2^63-1) / 8:=by
  have:(sizeLine:Nat)≤(2^63-1) / 8:=by decide
  omega
 have hfit:¬(!Builtin.List.listFitsIndex k)=true:=by
  rw [fitsIndex_both h1 h2];exact aJ
 have hlong:¬Builtin.List.listTooLong (its.toArray.size*k.toNat)=true:=by
  rw [TN hlen];exact aJ
 have hnew:List.foldl (fun x1 x2=>x1++x2) #[] (List.replicate (if its.toArray.isEmpty=true then 0 else k.toNat) its.toArray)=(List.replicate k.toNat its).flatten.toArray:=by
  have f0:∀m:Nat,List.foldl (fun x1 x2=>x1++x2) #[] (List.replicate m its.toArray)=(List.replicate m its).flatten.toArray:=fun m=>by
   have:=foldl_rep its m [];rw [List.nil_append]at this;exact this
  rw [f0];cases its with
  |nil=>simp
  |cons a r'=>rw [if_neg (by simp)]
 refine wpAny_binaryOp_repeat_ref (T := "list") (U := "int") (by decide) ⟨_,e,rfl⟩ (fun s'=>typeIs_int s' k t) noFill_list_mul F.fills_int_mul F.slot_int_rmul repeat_list F.slot_int_index.lookup
  (call_meets F.slot_int_rmul (typeIs_int s k t) F.entry_int_rmul (F.args_int_rmul_2 _ _) (int___rmul___int_list k t l its.toArray n)
   ⟨e,rfl,⟨_,e,rfl⟩,call_meets F.slot_list_mul ⟨_,e,rfl⟩ F.entry_list_mul (F.args_list_mul_2 _ _) (AutoListH.list___mul___list_int_3 l its.toArray n k t hfit hcap hlong) ⟨e,?_⟩⟩)
 rw [hnew];exact⟨.ref _,_,I.gz (t':=s.toks) (r.rep k.toNat) (by rw [len_rep,Nat.mul_comm];exact hz),rfl,q _ I.fresh⟩
end
end L2
namespace Att
open PySem PySem.W PySem.Calls PyProof.Rows
def Oo{P:Params}{h:Heap}:∀(ns:List Int) (vs:List VL),WellAll P h vs (ns.map WData.int)→IntsAre vs ns:=by
 intro ns
 induction ns with
 |nil =>
  intro vs w;rw [List.map_nil]at w;cases w;exact .nil
 |cons n ns ih =>
  intro vs w;rw [List.map_cons]at w;cases w with
  |cons a b =>
   cases a;exact .cons _ _ (ih _ b)
def W2{l:OpenLaw}{n:Nat}(hn:l.most=some n){P:Params}{h:Heap}{args:List WData}{vals:List VL}
 (hpre:l.row.toRowW.claim.pre args=true)(hwl:WellAll P h vals args) :
  ∃a vs ns,vals=[Value.ref a]∧args=[WData.list (ns.map WData.int)]∧h.get? a=some { cls:=.type "list",data:=.seq vs.toArray }∧IntsAre vs ns∧ns.length≤n:=by
 have hsh:WShape.hasAll [] args [.list .int]=true:=(pre_splitW hpre).1;have hc:l.pre.holds [] { args:=args }=true:=(pre_splitW hpre).2;obtain⟨d,r,rfl,h1,h2⟩:=hasAllW_cons hsh;obtain rfl:=hasAllW_nil h2;obtain⟨xs,rfl,h3⟩:=hasW_list h1;obtain⟨ns,rfl⟩:=items_int h3;have hlen:ns.length≤n:=by
  unfold OpenLaw.pre at hc;have h4:(WTm.not (.lt (.lit (.int (n:Int))) (.len (.arg 0)))).holds [] { args:=[.list (ns.map .int)] }=true:=by
   have h4:=(holds_andW hc).1;rw [hn]at h4;exact h4
  have h5:=condW_of h4 (w_not (w_lt w_lit (w_len_list (w_arg rfl))));rw [List.length_map]at h5;refine Nat.le_of_not_lt fun q=>?_;have q':(n:Int)<((ns.length:Nat):Int):=by omega
  first
   |(rw [decide_eq_true q']at h5;exact absurd h5 (by decide))
   |(simp at h5;omega)
 cases hwl with
 |cons w1 w2 =>
  cases w2;cases w1 with
  |list ho hall=>exact⟨_,_,ns,rfl,rfl,ho,Oo ns _ hall,hlen⟩
def YK(l:OpenLaw)(args:List WData):l.row.toRowW.claim.post args (.bool true) args=true :=
 postW_of (r:=l.row.toRowW) (X:=(true==true))
  (show WShape.has [] (.bool true) .bool=true by first|rfl|decide|simp [WShape.has,WShape.arms,WShape.armsAll])
  (show(WTm.eq .res (.lit (.bool true))).value [] { args:=args,res:=some (.bool true),after:=args }=some (.bool (true==true)) from w_eq_bool (w_res rfl) w_lit) rfl
def Um{l:OpenLaw}{n:Nat}{q:Program}{loose:List Str}{XP:(Str→Option VL)→Heap→Prop}{YP:World→Heap→Prop}{d:DefRec}
 (hn:l.most=some n)(hdf:d.params.defaults=[])
 (call:∀(w:World) (s₀ s₁:SD) (mg mb:Str→Option VL) (fa:AD) (o:Obj) (pm cd doc:VL) (a:AD) (vs:List VL) (ns:List Int),
   Ground q loose [] XP w s₀ mg mb s₁.heap→YP w s₁.heap →
   s₁.heap.get? fa=some o→o.data=.func (docDef d.name d.params d.body d.scope pm cd doc)→s₁.heap.CodeRec cd d.name→mg d.name=some (.ref fa) →
   s₁.heap.get? a=some { cls:=.type "list",data:=.seq vs.toArray }→IntsAre vs ns→ns.length≤n→s₁.gens=#[] →
   codeAny (model l.prog w) callerA (.call (.ref fa) ⟨[.ref a],[]⟩) (fun r s'=>r=.ok (.ret (.bool true))∧OldK s₁.heap s'.heap∧s'.os=s₁.os∧AllBare s'.gens) s₁) :
  WalkO q loose XP YP l.row.toRowW d [] (fun f vs=>PySem.call f vs):=by
 intro w s₀ s₁ mg mb G Y fa o pm cd doc dV kV ho hd hcd hD hmg hg args vals as hpre hlay hrd hwl hlo;obtain rfl:dV=.none:=Dflts.none hD hdf;obtain rfl:kV=.none:=Dflts.noKw hD;obtain⟨a,vs,ns,rfl,rfl,hobj,hints,hlen⟩:=W2 hn hpre hwl;refine enter_call (codeAny_mono (call w s₀ s₁ mg mb fa o pm cd doc a vs ns G Y ho (fd_plain hd) hcd hmg hobj hints hlen hg) fun r s' hq=>?_);obtain⟨rfl,h2,h3,h4⟩:=hq;exact⟨.inl ⟨.bool true,.bool true,[],rfl,fun _=>rfl,.bool true,YK l _,fun _=>⟨List.Pairwise.nil,fun _ hm=>(nomatch hm)⟩⟩,h2,h3,h4⟩
end Att
namespace L2
open PySem PySem.Spec PyProof.Rows
def RF:∀ {vs:List VL} {ns:List Int},IntsAre vs ns→Vals (ns.map V.int) vs
 |_,_,.nil=>.nil
 |_,_,.cons n t h=>.cons ⟨t,rfl⟩ (RF h)
def ZU(H:Hp):Prop:=∀b,H b=none∨∃o xs,H b=some (.Ef o (.lst xs))
def Yr{P:Program}{w:World}{K:Fg}{mg mb:Str→Option VL}{CX:GN}{k:Nat}{fa a:AD}{fd:FuncData}{x:Str}{sp:Sp}{s₁:SD}{vs:List VL}{ns:List Int}
 (KX:K.In s₁.heap)(hns:s₁.heap.Ns mainGlobals mg)(hb:s₁.heap.Ns builtinsNs mb)(hbb:∀x:Str,x ≠ "__name__" → mb x=bootBuiltins x)(hlim:s₁.heap.NoLimit)(hg:s₁.gens=#[])
 (ha:s₁.heap.get? a=some { cls:=.type "list",data:=.seq vs.toArray })(hi:IntsAre vs ns)(hl:ns.length≤sizeLine)(hr:DN k callerA)
 (F:∀base:Heap,K.In base→base.Ns mainGlobals mg→AN P w K mg base CX k fa fd [x] sp)(hbind:∀(s:SD) (u:VL),BindsTo s fd ⟨[u],[]⟩ [(x,u)])
 (hsp:∀H:Hp,ZU H→A3 K H a (ns.map V.int)→sp [.ref a] H (fun v _=>v=.bl true) fun _ _ _=>False)
 (hCX:∀H e s',CX [] H s₁ (fun _ _ _=>False) e s'→False) :
  codeAny (model P w) callerA (.call (.ref fa) ⟨[.ref a],[]⟩) (fun r s'=>r=.ok (.ret (.bool true))∧OldK s₁.heap s'.heap∧s'.os=s₁.os∧AllBare s'.gens) s₁:=by
 have rv:=RF hi;have lenV:=hi.length;have core:∀H:Hp,ZU H→A3 K H a (ns.map V.int)→EV P w H s₁.heap→(∀b,H b≠none→b=a)→(H a≠none→K.lookup a=none) →
   codeAny (model P w) callerA (.call (.ref fa) ⟨[.ref a],[]⟩) (fun r s'=>r=.ok (.ret (.bool true))∧OldK s₁.heap s'.heap∧s'.os=s₁.os∧AllBare s'.gens) s₁:=by
  intro H hO hS Av hA hK;have base_of:∀ {b:AD} {o:Obj},s₁.heap.get? b=some o→H b=none→(LJ s₁.heap H).get? b=some o:=fun e n=>Ys e n;have noA:∀ {b:AD} {o:Obj} {es:Array DictEntry} {ep:Nat},s₁.heap.get? b=some o→o.data=.dict es ep→H b=none:=fun {b o es ep} e d=>by
   cases q:H b with
   |none=>rfl
   |some u =>
    have e':b=a:=hA b (by rw [q];simp);subst e';rw [ha]at e;cases e;have d':Data.seq vs.toArray _=Data.dict es ep:=d;cases d'
  have nsK:∀ {b:AD} {m:Str→Option VL},s₁.heap.Ns b m→(LJ s₁.heap H).Ns b m:=fun {b m} ⟨o,es,ep,e,d,r⟩=>⟨o,es,ep,base_of e (noA e d),d,r⟩;have hKb:K.In (LJ s₁.heap H):=fun b o e=>base_of (KX b o e) (by
   cases q:H b with
   |none=>rfl
   |some u =>
    have e':b=a:=hA b (by rw [q];simp);subst e';rw [hK (by rw [q];simp)]at e;cases e)
  have hM:Mod K mg (LJ s₁.heap H):=⟨hKb,nsK hns,⟨mb,nsK hb,hbb⟩,let⟨mc,h1,h2⟩:=hlim;⟨mc,nsK h1,h2⟩⟩;have e0:Wv P w K mg (LJ s₁.heap H) callerA [] s₁ H:=⟨rfl,hM,fun b o e=>dI e,Nat.le_of_eq (W5 _ _),trivial,fun b hb=>absurd (show b∈([]:List AD) from hb) (by simp),Av,.of_eq hg⟩;refine codeAny_mono ((F _ hKb (nsK hns)).run callerA [] s₁ H ⟨[.ref a],[]⟩ [.ref a] [.ref a] _ _ hr e0 (hbind s₁ (.ref a)) (.cons rfl .nil) (hsp H hO hS)) fun r s' h=>?_;cases r with
  |error e=>exact(hCX H e s' h).elim
  |ok fl =>
   cases fl with
   |next=>exact False.elim h
   |brk=>exact False.elim h
   |cont=>exact False.elim h
   |ret u =>
    obtain⟨v,H',os,bare,un,hok',r',q⟩:=h;have q':v=.bl true:=q;subst q';obtain rfl:u=Value.bool true:=r';refine⟨rfl,OldK.of_keep fun b o e=>?_,os,bare⟩;cases q:H b with
    |none=>exact un.keep b o e q (by intro z;exact absurd (show b∈([]:List AD) from z) (by simp)) (by simp)
    |some u =>
     rcases hO b with z|⟨ob,xs,z⟩
     ·rw [q]at z;cases z
     ·have z2:=un.HC b ob _ z;obtain⟨e1,_⟩:=Av b _ z;obtain⟨e2,_⟩:=hok' b _ z2;rw [e]at e1;cases e1;exact e2
 cases hk:K.lookup a with
 |some o =>
  have e:=KX a o hk;rw [ha]at e;cases e;refine core (fun _=>none) (fun _=>.inl rfl) (.inr ⟨_,vs.toArray,_,hk,rfl,rfl,rfl,by rw [List.size_toArray,lenV];exact hl,by simpa using rv⟩) (fun b u z=>by have z':(none:Option HO)=some u:=z;cases z') (fun b z=>absurd rfl z) fun z=>absurd rfl z
 |none =>
  refine core (fun b=>if b=a then some (.Ef { cls:=.type "list",data:=.seq vs.toArray } (.lst (ns.map V.int))) else none) (fun b=>?_) (.inl (.inr ⟨{ cls:=.type "list",data:=.seq vs.toArray },if_pos rfl⟩)) (fun b u z=>?_) (fun b z=>?_) fun _=>hk
  ·by_cases hb:b=a
   ·exact .inr ⟨_,_,if_pos hb⟩
   ·exact .inl (if_neg hb)
  ·by_cases hb:b=a
   ·have z':=(if_pos hb).symm.trans z;cases z';subst hb;exact⟨ha,by rw [List.length_map];exact hl,vs,_,rv,ha⟩
   ·have z':=(if_neg hb).symm.trans z;cases z'
  ·by_cases hb:b=a
   ·exact hb
   ·exact absurd (if_neg hb) z
def eu{l:PySem.W.OpenLaw}{n k:Nat}{q:Program}{loose:List Str}{XP:(Str→Option VL)→Heap→Prop}{YP:World→Heap→Prop}{d:DefRec}{K:Params→Fg}{CX:World→GN}{sp:World→Sp}{x:Str}
 (hn:l.most=some n)(hn2:n≤sizeLine)(hdf:d.params.defaults=[])(hr:DN k callerA)
 (hY:∀(w:World) (h:Heap),YP w h→(K w.params).In h)
 (F:∀(w:World) (mg:Str→Option VL) (fa:AD) (h:Heap),(K w.params).In h→h.Ns mainGlobals mg→mg d.name=some (.ref fa) →
   ∃fd:FuncData,(∀(s:SD) (u:VL),BindsTo s fd ⟨[u],[]⟩ [(x,u)]) ∧
    ∀base:Heap,(K w.params).In base→base.Ns mainGlobals mg→AN l.prog w (K w.params) mg base (CX w) k fa fd [x] (sp w))
 (hsp:∀(w:World) (H:Hp) (a:AD) (ns:List Int),ns.length≤n→ZU H→A3 (K w.params) H a (ns.map V.int)→sp w [.ref a] H (fun v _=>v=.bl true) fun _ _ _=>False)
 (hCX:∀(w:World) (H:Hp) (s:SD) (e:VL) (s':SD),CX w [] H s (fun _ _ _=>False) e s'→False) :
  PySem.W.WalkO q loose XP YP l.row.toRowW d [] (fun f vs=>PySem.call f vs):=by
 refine Att.Um hn hdf fun w s₀ s₁ mg mb fa o pm cd doc a vs ns G Y ho hd hcd hmg hobj hints hlen hg=>?_;have KX:=hY w _ Y;obtain⟨fd,hb,hF⟩:=F w mg fa _ KX G.T.g hmg;exact Yr KX G.T.g G.T.b G.T.builtins G.T.nolimit hg hobj hints (ae hlen hn2) hr hF hb (fun H hO hS=>hsp w H a ns hlen hO hS) fun H e s'=>hCX w H s₁ e s'
def Fp(s:Stmt):Arguments:=match s with
 |.FunctionDef _ a _ _ _ _ _ _ _ _=>a
 |_=>{ posonlyargs:=[],args:=[],vararg:=none,kwonlyargs:=[],kw_defaults:=[],kwarg:=none,defaults:=[] }
def Ds(s:Stmt):List Stmt:=match s with
 |.FunctionDef _ _ b _ _ _ _ _ _ _=>b
 |_=>[]
def AV(s:Stmt):Scope:=match s with
 |.FunctionDef _ _ _ _ _ _ sc _ _ _=>sc
 |_=>{ kind:=.function,names:=[],isGenerator:=false,isCoroutine:=false }
abbrev Ar:GN:=fun _ _ _ _ _ _=>False
abbrev E0:XK:=fun _ _ _=>False
def lD{X:Cx}:Passes Ar X E0:=fun _ _ _ _ _ _ _ h=>h.elim
structure Q9(K:Fg)(x qual:Str)(st:Stmt)(f:Addr)(fd:FuncData):Prop where
 ex:∃(oc:Value) (od:Option Addr) (kV doc pm:Value) (an:Option Addr) (cdv ct:Value) (osl:Array (Option Value)),
  fd=PySem.W.fnOf x qual (Fp st) (Ds st) (AV st) .none kV doc pm an cdv ct∧K.lookup f=some ⟨oc,od,.func fd,osl⟩∧PySem.W.codeIn K cdv qual=true
 kp:PySem.W.keepIn K (.ref f)=true
section
variable{P:Program}{w:World}{K:Fg}{mg:Str→Option VL}{base:Heap}
def Q9.ok{x qual:Str}{st:Stmt}{f:AD}{fd:FuncData}{N ps:List Str}{k:Nat}{sp:Sp}(F:Q9 K x qual st f fd)(S:Ak N ps (AV st))(len:∀vs H Q E,sp vs H Q E→vs.length=ps.length)
 (hbody:∀(cdv:VL) (A:Around) (outer:List Env) (s:SD) (H:Hp) (vs:List V) (Q:VK) (E:XK),DN k (A.deeper (envOfC qual (AV st) s.heap.objs.size f cdv))→sp vs H Q E →
   ∃t,HI (Cn Ar P w K mg base N qual (AV st) f cdv A outer s H E).JW (Ds st) t∧t { nx:=fun _ H'=>Q .A8 H',rt:=Q } (start N vs) H):AN P w K mg base Ar (k+1) f fd ps sp:=by
 obtain⟨oc,od,kV,doc,pm,an,cdv,ct,osl,rfl,lk,hcd⟩:=F.ex;refine cV lk hcd S len fun A outer s H vs Q E hr hsp=>?_;obtain⟨t,h,q⟩:=hbody cdv A outer s H vs Q E hr hsp;exact⟨t,h.JW,q⟩
def Q9.binds{x qual:Str}{st:Stmt}{f:AD}{fd:FuncData}{ps:List Str}(F:Q9 K x qual st f fd)
 (h:∀(kV doc pm:VL) (an:Option AD) (cdv ct:VL) (us:List VL),us.length=ps.length→bindArgs (PySem.W.fnOf x qual (Fp st) (Ds st) (AV st) .none kV doc pm an cdv ct) ⟨us,[]⟩=pure (ps.zip us)):Binds K fd ps []:=by
 obtain⟨oc,od,kV,doc,pm,an,cdv,ct,osl,rfl,lk,hcd⟩:=F.ex;exact .all (h kV doc pm an cdv ct)
def YZ{x qual:Str}{st:Stmt}{f:AD}{oc:VL}{od an:Option AD}{osl:Array (Option VL)}{kV doc pm cdv ct:VL}(l:K.lookup f=some ⟨oc,od,.func (PySem.W.fnOf x qual (Fp st) (Ds st) (AV st) .none kV doc pm an cdv ct),osl⟩)
 (c:PySem.W.codeIn K cdv qual=true)(k:PySem.W.keepIn K (.ref f)=true):Q9 K x qual st f (PySem.W.fnOf x qual (Fp st) (Ds st) (AV st) .none kV doc pm an cdv ct):=⟨⟨oc,od,kV,doc,pm,an,cdv,ct,osl,rfl,l,c⟩,k⟩
end
def Q4{n:Nat}(h:n≤1000):n<sizeLine:=aX h (by decide)
section
variable{X:Cx}
def pv(i:Nat){x:Str}{pos:Pos}(hN:X.N[i]? = some x:=by rfl)(hv:iV X.env.scope x:=by first|exact Or.inl rfl|exact Or.inr (Or.inl rfl)|exact Or.inr (Or.inr rfl))(hd:(x==("__debug__" : Str))=false:=by decide)
 (hcd:(x==("__classdict__" : Str))=false:=by decide):PE X (.Name x pos) (Lk i):=gV hN hv hd hcd
end
def Td{A B:Prop}(h:B):if false=true then A else B:=by
 rw [if_neg aJ];exact h
def UQ{A B:Prop}(h:A):if true=true then A else B:=by
 rw [if_pos rfl];exact h
def En{c A B:Prop}[Decidable c](h1:c→A)(h2:¬c→B):if c then A else B:=by
 by_cases h:c
 ·rw [if_pos h];exact h1 h
 ·rw [if_neg h];exact h2 h
def AO(H H':Hp):Prop:=∀b o,H b=some o→H' b=some o
def AO.refl(H:Hp):AO H H:=fun _ _ h=>h
def AO.trans{H H1 H2:Hp}(a:AO H H1)(b:AO H1 H2):AO H H2:=fun c o h=>b c o (a c o h)
section
variable{X:Cx}
def Ru(i j:Int):Prop:=∃m:Nat,m≤1000000∧i.natAbs<2^m∧j.natAbs<2^m
def Ru.ok{i j:Int}(h:Ru i j):IntMulOk i j:=by
 obtain⟨m,hm,h1,h2⟩:=h;exact IntMulOk.of_le (intBits_le_iff.mpr h1) (intBits_le_iff.mpr h2) (by omega)
def GO:C4 X (binaryOp .Mult) (rI (fun i j=>Wc i j∨Ru i j) fun i j=>.int (i*j)) :=
 cz fun _ _ _ _ _ _ _ hc q=>mul_int q (hc.elim (fun z=>z.ok) fun z=>z.ok)
def kN(_i j:Int):Prop:=j≠0∧∃m:Nat,m≤9000∧j.natAbs<2^m
def GH:C4 X (binaryOp .FloorDiv) (rI kN fun i j=>.int (i.fdiv j)):=cz fun i j _ _ _ _ _ hc q=>by
 obtain⟨h0,m,hm,h1⟩:=hc;refine floordiv_int h0 q (.inl (PyProof.noPylong_of_log2 ?_));have hne:j.natAbs≠0:=by omega
 have:j.natAbs.log2<m:=(Nat.log2_lt hne).mpr h1;omega
mutual
def Br(K:Fg)(H:Hp):PD→V→Prop
 |.none,v=>v=.A8
 |.bool b,v=>v=.bl b
 |.int i,v=>v=.int i
 |.str x,v=>v=.str x
 |.tuple ds,v=>∃a xs,v=.ref a∧BF K H a xs∧Fh K H ds xs
 |.list ds,v=>∃a xs,v=.ref a∧A3 K H a xs∧Fh K H ds xs
 |.dict _,_=>False
def Fh(K:Fg)(H:Hp):List PD→List V→Prop
 |[],xs=>xs=[]
 |d::ds,xs=>∃x r,xs=x::r∧Br K H d x∧Fh K H ds r
end
def AO.tup{K:Fg}{H H':Hp}{a:AD}{xs:List V}(e:AO H H')(h:BF K H a xs):BF K H' a xs:=by
 rcases h with (h|⟨o,h⟩)|h
 ·exact .inl (.inl (e _ _ h))
 ·exact .inl (.inr ⟨o,e _ _ h⟩)
 ·exact .inr h
mutual
def Br.reads{pins:List (AD×Obj)}{σ:St}{H:Hp}{s:SD}(I:Inv X pins σ H s):∀ {d:PD} {v:V} {u:VL},Br X.K H d v→RelV v u→∃as,Reads s.heap u d as
 |.none,_,u,h,r=>by rw [Br]at h;subst h;cases r;exact⟨_,.none⟩
 |.bool b,_,u,h,r=>by rw [Br]at h;subst h;cases r;exact⟨_,.bool b⟩
 |.int i,_,u,h,r=>by rw [Br]at h;subst h;obtain⟨t,rfl⟩:=r;exact⟨_,.int i t⟩
 |.str x,_,u,h,r=>by rw [Br]at h;subst h;obtain⟨t,rfl⟩:=r;exact⟨_,.str x t⟩
 |.tuple ds,_,u,h,r=>by
  rw [Br]at h;obtain⟨a,xs,e1,h1,h2⟩:=h;subst e1;cases r;obtain⟨its,rv,⟨o,e,c,n,hd⟩,_⟩:=I.tuple h1;obtain⟨as,ra⟩:=Fh.reads I h2 rv;exact⟨_,.tuple e c hd (by simpa using ra)⟩
 |.list ds,_,u,h,r=>by
  rw [Br]at h;obtain⟨a,xs,e1,h1,h2⟩:=h;subst e1;cases r;obtain⟨its,rv,⟨o,n,e,c,_,hd⟩,_⟩:=I.list h1;obtain⟨as,ra⟩:=Fh.reads I h2 rv;exact⟨_,.list e c hd (by simpa using ra)⟩
 |.dict _,_,_,h,_=>by rw [Br]at h;exact h.elim
def Fh.reads{pins:List (AD×Obj)}{σ:St}{H:Hp}{s:SD}(I:Inv X pins σ H s):∀ {ds:List PD} {xs:List V} {us:List VL},Fh X.K H ds xs→Vals xs us→∃as,ReadsAll s.heap us ds as
 |[],_,us,h,r=>by rw [Fh]at h;subst h;cases r;exact⟨_,.nil⟩
 |_::_,_,us,h,r=>by
  rw [Fh]at h;obtain⟨x,q,e1,h1,h2⟩:=h;subst e1;cases r with
  |cons r1 r2 =>
   obtain⟨as,ra⟩:=Br.reads I h1 r1;obtain⟨bs,rb⟩:=Fh.reads I h2 r2;exact⟨_,.cons ra rb⟩
end
def Yt(K:Fg)(neg:Bool):R2:=fun x y H Q=>∃d e,Br K H d x∧Br K H e y∧SeqAt.shaped d=true∧SeqAt.shaped e=true∧Q (.bl (if neg then !PyData.eqv d e else PyData.eqv d e)) H
def jd(hu:X.A.units+64<cLine):C4 X (compareOp .Eq) (Yt X.K false):=by
 intro pins s σ H x y v u Q I rx ry h;obtain⟨d,e,h1,h2,s1,s2,q⟩:=h;obtain⟨as,ra⟩:=Br.reads I h1 rx;obtain⟨bs,rb⟩:=Br.reads I h2 ry;exact eq_dataH ra rb s1 s2 hu ⟨.bl _,H,I,rfl,q⟩
def gn(hu:X.A.units+64<cLine):C4 X (compareOp .NotEq) (Yt X.K true):=by
 intro pins s σ H x y v u Q I rx ry h;obtain⟨d,e,h1,h2,s1,s2,q⟩:=h;obtain⟨as,ra⟩:=Br.reads I h1 rx;obtain⟨bs,rb⟩:=Br.reads I h2 ry;exact ne_dataH ra rb s1 s2 hu ⟨.bl _,H,I,rfl,q⟩
end
end L2
set_option maxHeartbeats 4000000
namespace L2
open PySem PySem.Spec PyProof.Rows
def J4(X:Cx)(ifs:List Expr)(t:TT):Prop :=
 ∀(pins:List (AD×Obj)) (s:SD) (σ:St) (H:Hp) (Q:Bool→Hp→Prop),Inv X pins σ H s→t σ H Q →
  wpAny (model X.prog X.w) X.A (forIn ifs true fun c r=>if r=true then do let ok ←isTrue c X.env (eval c X.env);pure (ForInStep.yield ok) else pure (ForInStep.yield r)) (TP X pins σ Q) X.xe s
def Wm:TT:=fun _ H Q=>Q true H
def QV{X:Cx}:J4 X [] Wm:=fun _ _ σ H _ I h=>wpAny_tests_nil ⟨H,I,h⟩
def eV{X:Cx}{c:Expr}{t:TT}(h:PT X c t):J4 X [c] t:=by
 intro pins s σ H Q I hw;simp only [List.forIn_cons,List.forIn_nil,if_true];refine Wb (Wb (A6 (h pins s σ H Q I hw) fun b s1 q=>?_));exact aA (aA q)
def D8(N XN:List Str)(sc xsc:Scope):List (Option Nat)→Nat→Bool
 |[],_=>true
 |none::r,i=>D8 N XN sc xsc r (i+1)
 |some j::r,i=>(match N[i]?,XN[j]? with
   |some n,some m=>n==m&&sc.names.lookup n==some .free&&xsc.names.lookup n==some .cell
   |_,_=>false)&&D8 N XN sc xsc r (i+1)
def Nq{N XN:List Str}{sc xsc:Scope}:∀ {fr:List (Option Nat)} {k:Nat},D8 N XN sc xsc fr k=true→∀ {i j:Nat},fr[i]? = some (some j) →
  ∃n,N[k+i]? = some n∧XN[j]? = some n∧sc.names.lookup n=some .free∧xsc.names.lookup n=some .cell
 |[],_,_,i,j,e=>by simp at e
 |none::r,k,h,0,j,e=>by simp at e
 |none::r,k,h,i+1,j,e=>by
  have q:=Nq (fr:=r) (k:=k+1) h (i:=i) (j:=j) (by simpa using e);have z:k+(i+1)=k+1+i:=by omega
  rw [z];exact q
 |some j'::r,k,h,0,j,e=>by
  have e':j'=j:=by simpa using e
  subst e';rw [D8,Bool.and_eq_true]at h;have h1:=h.1;split at h1
  ·rename_i n m hn hm;simp only [Bool.and_eq_true,beq_iff_eq]at h1;obtain⟨⟨rfl,h2⟩,h3⟩:=h1;exact⟨n,by simpa using hn,hm,h2,h3⟩
  ·cases h1
 |some j'::r,k,h,i+1,j,e=>by
  rw [D8,Bool.and_eq_true]at h;have q:=Nq (fr:=r) (k:=k+1) h.2 (i:=i) (j:=j) (by simpa using e);have z:k+(i+1)=k+1+i:=by omega
  rw [z];exact q
def carry(fr:List (Option Nat))(σ:St):St:=fr.map fun o=>match o with
 |some j=>(σ[j]?).join
 |none=>none
def XD{fr:List (Option Nat)}{σ:St}{i:Nat}{v:V}(h:(carry fr σ)[i]? = some (some v)):∃j,fr[i]? = some (some j)∧σ[j]? = some (some v):=by
 unfold carry at h;rw [List.getElem?_map]at h;cases e:fr[i]? with
 |none=>rw [e]at h;cases h
 |some o =>
  rw [e]at h;cases o with
  |none=>simp at h
  |some j =>
   refine⟨j,rfl,?_⟩;simp only [Option.map_some,Option.some.injEq]at h;cases q:σ[j]? with
   |none=>rw [q]at h;cases h
   |some w=>rw [q]at h;simp at h;rw [h]
def Fq{env:Env}:∀(names:List (Str×NameKind)) (cs:List (Str×AD)),(∀x∈names,x.2=NameKind.free→∃c,env.cells.lookup x.1=some c)→(∀x c,cs.lookup x=some c→env.cells.lookup x=some c) →
  ∃cl,(forIn names cs (fun(x:Str×NameKind) (r:List (Str×AD))=>do if(x.2==NameKind.free)=true then do let a ←cellOf env x.1;pure (ForInStep.yield ((x.1,a)::r)) else pure (ForInStep.yield r)):Sem (List (Str×AD)))=pure cl ∧
   (∀x c,cl.lookup x=some c→env.cells.lookup x=some c)∧(∀x,(∃c,cs.lookup x=some c)→∃c,cl.lookup x=some c)∧∀x∈names,x.2=NameKind.free→∃c,cl.lookup x.1=some c
 |[],cs,_,h2=>⟨cs,rfl,h2,fun _ q=>q,fun _ z=>(by cases z)⟩
 |(n,k)::r,cs,h1,h2=>by
  rw [List.forIn_cons];by_cases hk:(k==NameKind.free)=true
  ·obtain⟨c,hc⟩:=h1 (n,k) ai (by simpa using hk);have h2':∀x c',((n,c)::cs).lookup x=some c'→env.cells.lookup x=some c':=fun x c' e=>by
    rw [List.lookup_cons]at e;cases hx:x==n with
    |true=>rw [hx]at e;have:=beq_iff_eq.mp hx;subst this;simp at e;rw [←e];exact hc
    |false=>rw [hx]at e;exact h2 x c' e
   obtain⟨cl,q1,q2,q3,q4⟩:=Fq r ((n,c)::cs) (fun x hx=>h1 x (aU _ hx)) h2';have hn:∃c',cl.lookup n=some c':=q3 n ⟨c,by rw [List.lookup_cons,beq_self_eq_true]⟩;refine⟨cl,?_,q2,fun x hx=>?_,fun x hx hf=>?_⟩
   ·simp only [hk,if_true];unfold cellOf;rw [hc];exact q1
   ·refine q3 x ?_;rw [List.lookup_cons];cases hxn:x==n with
    |true=>exact⟨c,rfl⟩
    |false=>exact hx
   ·rcases aK.mp hx with e|hx
    ·subst e;exact hn
    ·exact q4 x hx hf
  ·obtain⟨cl,q1,q2,q3,q4⟩:=Fq r cs (fun x hx=>h1 x (aU _ hx)) h2;refine⟨cl,?_,q2,q3,fun x hx hf=>?_⟩
   ·simp only [hk];exact q1
   ·rcases aK.mp hx with e|hx
    ·subst e;exact absurd (by simpa using hf) hk
    ·exact q4 x hx hf
def Am(X:Cx)(scope:Scope)(cl:List (Str×AD))(N:List Str)(C:AD)(s₀:SD)(H₀:Hp)(fp:List AD):Cx where
 prog:=X.prog
 w:=X.w
 K:=X.K
 mg:=X.mg
 base:=X.base
 A:=X.A
 N:=N
 s₀:=s₀
 H₀:=H₀
 env:=compEnvC scope cl C X.env
 outer:=X.stack
 stack:=X.stack
 ex:=fp
 fn:=fun _=>false
 calm:=X.calm
 pn:=[]
 xe:=fun _ _=>False
def ND(wi:TI)(fr:List (Option Nat))(ix:Nat)(tif:TT)(te:TE):TE:=fun σ H Q=>wi σ H fun J H1=>∀D,H1 D=none→∃W:Nat→Nat→List V→Hp→Prop,(∃m,W 0 m [] (upd H1 D (.lst []))) ∧
 ∀i m ys H,W i m ys H→H D=some (.lst ys)∧((J.stop i H∧Q (.ref D) H)∨(J.go i H∧ys.length<sizeLine∧∀x H',J.Ep i H x H' →
  tif ((carry fr σ).set ix (some x)) H' fun b H2=>if b=true then te ((carry fr σ).set ix (some x)) H2 fun y H3=>H3 D=some (.lst ys)∧∃m',m'<m∧W (i+1) m' (ys++[y]) (upd H3 D (.lst (ys++[y])))
   else ∃m',m'<m∧W (i+1) m' ys H2))
structure DC(scope:Scope)(N:List Str)(x:Str)(ix:Nat):Prop where
 kind:scope.kind=.function
 cell:∀y∈scope.names,y.2≠.cell
 names:∀y∈scope.names,y.2=.local→scope.names.lookup y.1=some .local
 free:∀y∈scope.names,y.2=.free→scope.names.lookup y.1=some .free
 loc:scope.names.lookup x=some .local
 nd:N.Nodup
 at_:N[ix]? = some x
def lookup_mem{names:List (Str×NameKind)}{n:Str}{k:NameKind}:names.lookup n=some k→(n,k)∈names:=by
 induction names with
 |nil=>intro h;cases h
 |cons y r ih =>
  intro h;obtain⟨m,j⟩:=y;rw [List.lookup_cons]at h;cases e:n==m with
  |true=>rw [e]at h;have:=beq_iff_eq.mp e;subst this;simp at h;subst h;exact ai
  |false=>rw [e]at h;exact aU _ (ih h)
def TY{scope:Scope}{env:Env}(hc:∀y∈scope.names,y.2≠.cell){n:Str}(h:(relabel scope env).names.lookup n=some .cell∨(relabel scope env).names.lookup n=some .free):∃k,(n,k)∈scope.names∧k=NameKind.free:=by
 have key:∀k',(relabel scope env).names.lookup n=some k'→(k'=.cell∨k'=.free)→∃k,(n,k)∈scope.names∧k=NameKind.free:=fun k' h hk=>by
  have hm:=lookup_mem h;unfold relabel at hm;obtain⟨⟨m,k⟩,hy,e⟩:=aQ.mp hm;dsimp only at e;by_cases hcond:(k==NameKind.free&&env.scope.kind==.function&&env.kindOf m==some .cell)=true
  ·rw [if_pos hcond]at e
   injection e with e1 e2
   subst e1;refine⟨k,hy,?_⟩;simp only [Bool.and_eq_true,beq_iff_eq]at hcond;exact hcond.1.1
  ·rw [if_neg hcond]at e
   injection e with e1 e2
   subst e1 e2;rcases hk with rfl|rfl
   ·exact absurd rfl (hc _ hy)
   ·exact⟨_,hy,rfl⟩
 rcases h with h|h
 ·exact key _ h (.inl rfl)
 ·exact key _ h (.inr rfl)
section
variable{X:Cx}{elt iter:Expr}{x:Str}{px pos:Pos}{ifs:List Expr}{scope:Scope}{wi:TI}{fr:List (Option Nat)}{ix:Nat}{tif:TT}{te:TE}{N:List Str}
def Jm{prog:Program}{w:World}{A:Around}{R:Result→SD→Prop}{s:SD}{elt target iter:Expr}{ifs:List Expr}{scope:Scope}{pos:Pos}{it acc:VL}{env:Env}(I:Nat→SD→Prop)
 (turn:∀n s,I n s→wpAny (model prog w) A (pyNext it) (fun r s₁=>match r with
   |none=>R (.ok .next) s₁
   |some v=>wpAny (model prog w) A (letOwnedTupleGo target it v>>=fun _=>assign target env v) (fun _ s₂ =>
     wpAny (model prog w) A (forIn ifs true fun c r=>if r=true then do let ok ←isTrue c env (eval c env);pure (ForInStep.yield ok) else pure (ForInStep.yield r)) (fun ok s₃ =>
      if ok=true then wpAny (model prog w) A (eval elt env) (fun x s₄ =>
       wpAny (model prog w) A (call (.builtin "list.append") [acc,x]) (fun _ s₅=>∃m,m<n∧I m s₅) (notedBy (model prog w) A env fun e s'=>R (.error e) s') s₄) (notedBy (model prog w) A env fun e s'=>R (.error e) s') s₃
      else ∃m,m<n∧I m s₃) (notedBy (model prog w) A env fun e s'=>R (.error e) s') s₂) (notedBy (model prog w) A env fun e s'=>R (.error e) s') s₁) (notedBy (model prog w) A env fun e s'=>R (.error e) s') s)
 (n:Nat)(h:I n s) :
  codeAny (model prog w) A (.compLoop (.ListComp elt [⟨target,iter,ifs,0⟩] scope pos) 0 it acc env) R s:=by
 refine codeAny_loop rfl I (fun n s hI=>?_) n h;show wpAny _ A ((compTurn (.ListComp elt [⟨target,iter,ifs,0⟩] scope pos) 0 it acc env).onRaise (fun x=>do noteFrame x env;theTreesLotGoes x)) _ _ s;refine wpAny_noted ?_;rw [compTurn_list];refine Wb (wpAny_standAt (Wb (ag (turn n s hI) (fun r s₁ h₁=>?_) fun _ _ h'=>h')));cases r with
 |none=>exact aA h₁
 |some v =>
  show wpAny (model prog w) A (letOwnedTupleGo target it v>>=fun _=>assign target env v>>=_) _ _ s₁;rw [←bind_assoc];refine Wb (ag h₁ (fun _ s₂ h₂=>Wb (ag h₂ (fun ok s₃ h₃=>?_) fun _ _ h'=>h')) fun _ _ h'=>h');cases ok with
  |false=>exact aA ⟨rfl,h₃⟩
  |true =>
   exact Wb (Wb (ag h₃ (fun x s₄ h₄=>Wb (ag h₄ (fun _ s₅ h₅=>aA (aA ⟨rfl,h₅⟩)) fun _ _ h'=>h')) fun _ _ h'=>h'))
def NY{pins:List (AD×Obj)}{σ:St}{H2:Hp}{s2:SD}{Q:VK}{it:AD}{fp:List AD}{tn:Nat→Heap→Prop}{J:It}{cl:List (Str×AD)}{E:VL→SD→Prop}{RR:VL→AD→Result→SD→Prop}
 (S:DC scope N x ix)(hcalm:X.calm=true){tgE:Expr}{g:TG}(Rv:St→Prop)(r0:Rv (carry fr σ))(hpg:∀C,PG (Am X scope cl N C s2 H2 fp) tgE g)(hfr:D8 N X.N scope X.env.scope fr 0=true)(hlen:fr.length=N.length)
 (hif:∀cl C s₀ H₀ fp,J4 (Am X scope cl N C s₀ H₀ fp) ifs tif)(he:∀cl C s₀ H₀ fp,PE (Am X scope cl N C s₀ H₀ fp) elt te)
 (I2:Inv X pins σ H2 s2)(T:Turn X.prog X.w X.K tgE J fp it tn)(st2:tn 0 s2.heap)(f2:∀b∈fp,KU X pins H2 b)
 (c1:∀x c,cl.lookup x=some c→X.env.cells.lookup x=some c)(c2:∀x∈scope.names,x.2=NameKind.free→∃c,cl.lookup x.1=some c)
 (W:∀D,H2 D=none→∃W:Nat→Nat→List V→Hp→Prop,(∃m,W 0 m [] (upd H2 D (.lst []))) ∧
   ∀i m ys H,W i m ys H→H D=some (.lst ys)∧((J.stop i H∧Q (.ref D) H)∨(J.go i H∧ys.length<sizeLine∧∀x H',J.Ep i H x H'→∀σ',Rv σ'→g x σ' H' fun σ6 H6=>Rv σ6 ∧
    tif σ6 H6 fun b H2=>if b=true then te σ6 H2 fun y H3=>H3 D=some (.lst ys)∧∃m',m'<m∧W (i+1) m' (ys++[y]) (upd H3 D (.lst (ys++[y])))
     else ∃m',m'<m∧W (i+1) m' ys H2)))
 (fin:∀(D C:AD) (s':SD) (H':Hp) m,s'.heap.Ns C m→Q (.ref D) H'→(∀h',Heap.SameBut C s'.heap h'→Inv X pins σ H' { s' with heap:=h' })→C≠D→(∀b o,s2.heap.get? b=some o→b≠C)→H' C=none→s2.heap.objs.size≤C→RR (.ref D) C (.ok .next) s') :
  wpAny (model X.prog X.w) X.A (newList []) (fun acc s₃=>wpAny (model X.prog X.w) X.A (newFunctionEnv scope X.env.globals cl [] X.env.qual none .none (some X.env)) (fun cenv s₄ =>
   codeAny (model X.prog X.w) X.A (.compStart (.ListComp elt [⟨tgE,iter,ifs,0⟩] scope pos) 0 (.ref it) acc { cenv with scope:=relabel scope X.env }) (RR acc cenv.locals) s₄) E s₃) E s2:=by
 refine ay (wpAny_newFunctionEnv S.cell (by intro y hy;simp at hy) (fun h₁ hns₁ hsb₁=>?_) S.kind);dsimp only at hns₁ hsb₁ ⊢;generalize hHp:s2.heap.push { cls:=.type "list",dict:=none,data:=.seq ([]:List VL).toArray }=Hq at hns₁ hsb₁ ⊢;have hC:Hq.objs.size=s2.heap.objs.size+1:=by rw [←hHp,Heap.size_push]
 have hDC:s2.heap.objs.size≠Hq.objs.size:=by rw [hC];exact aG (bM _)
 have below:∀b,b<s2.heap.objs.size→b≠Hq.objs.size∧b≠s2.heap.objs.size:=fun b hb=>⟨by rw [hC];exact aG (ar hb),Nat.ne_of_lt hb⟩;have old:∀b o,s2.heap.get? b=some o→h₁.get? b=some o:=fun b o e=>hsb₁.extBut b o (below b (aF e)).1 (aD _ (hHp ▸ aD _ e));have hacc:h₁.get? s2.heap.objs.size=some { cls:=.type "list",data:=.seq ([]:List VL).toArray }:=hsb₁.extBut _ _ hDC (aD _ (hHp ▸ aN _ rfl));have hD2:H2 s2.heap.objs.size=none:=I2.Av.fresh (aI _);have hC2:H2 Hq.objs.size=none:=I2.Av.fresh (by rw [hC];exact bY _);have fpo:∀b∈fp,b<s2.heap.objs.size:=fun b hb=>by
  obtain⟨o,e,_⟩:=T.obj _ _ st2 b hb;exact aF e
 obtain⟨W,⟨m0,w0⟩,turn⟩:=W s2.heap.objs.size hD2;have ok:(Am X scope cl N Hq.objs.size s2 H2 fp).Ok:=by
  refine⟨I2.ok.mod,S.kind,I2.ok.glob,I2.ok.blt,by show s2.heap.objs.size≤Hq.objs.size;rw [hC];exact bY _,?_,?_,?_,fun _=>I2.ok.hd hcalm,I2.ok.frames,.inl rfl,?_,I2.bs,Nat.le_trans I2.ok.RL I2.sz,?_,?_,I2.stack,I2.P0⟩
  ·exact fun a b c h1 h2=>I2.ok.inj a b c (c1 _ _ h1) (c1 _ _ h2)
  ·intro y hy;obtain⟨k,hm,rfl⟩:=TY S.cell hy;exact c2 _ hm rfl
  ·intro y c hf;cases hf
  ·intro b hb;refine⟨(below b (fpo b hb)).1,fun y c e=>?_⟩;obtain⟨_,_,_,_,f5,_⟩:=f2 b hb;exact f5 y c (c1 _ _ e)
  ·intro b o e hb;obtain⟨_,_,_,f4,_,_⟩:=f2 b hb;rcases f4 with z|z
   ·exact I2.ok.Sh b o e z
   ·exact absurd (aH (aF e) (ae I2.ok.RL z)) (Nat.lt_irrefl _)
  ·intro b hb hs;obtain⟨_,f1,f3,_⟩:=f2 b hb;rcases aK.mp (I2.Mo b hs) with z|z
   ·exact f1 z
   ·exact f3 z
 have I4:Inv (Am X scope cl N Hq.objs.size s2 H2 fp) [] (carry fr σ) (upd H2 s2.heap.objs.size (.lst [])) { s2 with heap:=h₁,toks:=s2.toks+([]:List (Str×VL)).length }:=by
  refine⟨ok,rfl,I2.bare,Un.laid old (aI _) hD2,⟨_,hns₁,fun i y v h1 h2 h3=>?_⟩,fun y c e=>?_,?_,fun y c e=>?_,fun p hp=>(by cases hp),I2.Av.laid old (aI _) ⟨au _,[],0,.nil,hacc⟩,?_⟩
  ·obtain⟨j,e1,e2⟩:=XD h2;obtain⟨n,n1,n2,n3,n4⟩:=Nq hfr e1;rw [Nat.zero_add]at n1;have:y=n:=by
    have h1':N[i]? = some y:=h1;rw [h1']at n1;exact aW n1
   subst this;obtain⟨m,hn,hl⟩:=I2.loc;obtain⟨u,ru,lk⟩:=hl j y v n2 e2 (.inr (.inl n4));refine⟨u,ru,?_⟩;obtain⟨c,hc⟩:=c2 _ (lookup_mem n3) rfl;rcases lk with ⟨k1,_⟩|⟨_,c',hc',hcell⟩
   ·have k1':X.env.scope.names.lookup y=some .local:=k1;rw [n4]at k1';cases k1'
   ·have:=c1 _ _ hc;rw [hc']at this;cases this;refine .inr ⟨?_,c,hc,hcell.keeps old⟩;rcases h3 with z|z|z
    ·obtain⟨k,hm⟩:∃k,(y,k)∈scope.names∧k=NameKind.local:=by
      have hm:=lookup_mem z;have hm':(y,NameKind.local)∈(relabel scope X.env).names:=hm;unfold relabel at hm';obtain⟨⟨m',k⟩,hy,e⟩:=aQ.mp hm';dsimp only at e;by_cases hcond:(k==NameKind.free&&X.env.scope.kind==.function&&X.env.kindOf m'==some .cell)=true
      ·rw [if_pos hcond]at e;injection e with _ e2';cases e2'
      ·rw [if_neg hcond]at e;injection e with e1' e2';subst e1' e2';exact⟨_,hy,rfl⟩
     obtain⟨hm,rfl⟩:=hm;have:=S.names _ hm rfl;rw [n3]at this;cases this
    ·exact .inl z
    ·exact .inr z
  ·obtain⟨v,z⟩:=I2.cell y c (c1 _ _ e);exact⟨v,z.keeps old⟩
  ·show upd H2 s2.heap.objs.size _ Hq.objs.size=none;rw [AM (Ne.symm hDC)];exact hC2
  ·obtain⟨v,o,ho,_⟩:=I2.cell y c (c1 _ _ e);rw [AM (below c (aF ho)).2];exact I2.Hh y c (c1 _ _ e)
  ·show(carry fr σ).length=N.length;unfold carry;rw [List.length_map];exact hlen
 have fpX:∀(p:List (AD×Obj)) (H':Hp),(∀q∈p,q.1∈fp→False)→(∀b∈fp,H' b=none)→∀b∈fp,KU (Am X scope cl N Hq.objs.size s2 H2 fp) p H' b:=fun p H' hp hn b hb=>by
  obtain⟨_,f1,f3,f4,f5,_⟩:=f2 b hb;refine⟨hn b hb,(below b (fpo b hb)).1,fun hs=>ok.Tg b hb hs,.inl hb,fun y c e=>f5 y c (c1 _ _ e),fun q hq e=>?_⟩;exact hp q hq (e ▸ hb)
 have hxv:(relabel scope X.env).names.lookup x=some .local:=lookup_relabel_local S.loc;have loop:∀s₃:SD,s₃={ s2 with heap:=h₁,toks:=s2.toks+([]:List (Str×VL)).length } →
   codeAny (model X.prog X.w) X.A (.compLoop (.ListComp elt [⟨tgE,iter,ifs,0⟩] scope pos) 0 (.ref it) (.ref s2.heap.objs.size) (compEnvC scope cl Hq.objs.size X.env)) (RR (.ref s2.heap.objs.size) Hq.objs.size) s₃:=by
  rintro s₃ rfl;refine Jm (fun n s'=>∃i ys σ' H',Inv (Am X scope cl N Hq.objs.size s2 H2 fp) [] σ' H' s'∧Rv σ'∧tn i s'.heap∧(∀b∈fp,H' b=none)∧W i n ys H') ?_ m0
   ⟨0,[],carry fr σ,_,I4,r0,T.keep _ _ _ st2 fun b _ o e=>old b o e,fun b hb=>by rw [AM (below b (fpo b hb)).2];exact(f2 b hb).1,w0⟩
  rintro n s3 ⟨i,ys,σ3,H3,I3,hσ,st3,fr3,w3⟩;obtain⟨hD3,way⟩:=turn i n ys H3 w3;rcases way with ⟨stop,qn⟩|⟨go,hsz,step⟩
  ·refine ag (T.done (Am X scope cl N Hq.objs.size s2 H2 fp) rfl rfl rfl hcalm i [] s3 σ3 H3 (fun _ _=>False) I3 (fpX [] H3 (fun _ z=>by cases z) fr3) st3 stop) (fun r s4 ⟨hr,I5⟩=>?_) fun _ _ z=>z.elim;subst hr;obtain⟨m,hn,_⟩:=id I5.loc;refine fin _ _ s4 H3 m hn qn (fun h' hs'=>?_) (Ne.symm hDC) (fun b o e=>(below b (aF e)).1) I5.free (by rw [hC];exact bY _);have nC:∀b u,H3 b=some u→b≠Hq.objs.size:=fun b u e z=>by
    have:=I5.free;rw [show(Am X scope cl N Hq.objs.size s2 H2 fp).env.locals=Hq.objs.size from rfl,←z,e]at this;cases this
   have keepU:Un (Fu X.stack) fp H2 H3 s2.heap h':=by
    have u:=I5.base;refine⟨fun b o e n hb hx=>?_,fun b o e n hb hx=>?_,fun b o e n hx=>u.free b o e n hx,fun b o e hx=>?_,u.DH,u.HC,u.HQ⟩
    ·exact(hs'.2 b (below b (aF e)).1).trans (u.keep b o e n hb hx)
    ·obtain⟨sl,e1⟩:=u.slot b o e n hb hx;exact⟨sl,(hs'.2 b (below b (aF e)).1).trans e1⟩
    ·obtain⟨o',e1⟩:=u.there b o e hx;exact⟨o',(hs'.2 b (below b (aF e)).1).trans e1⟩
   have hok':EV X.prog X.w H3 h':=fun b u e=>(I5.Av b u e).IC (fun c v hc q=>(hs'.2 c (by
    rcases hc with rfl|hc
    ·exact nC _ _ e
    ·exact nC _ _ hc)).trans q) (fun _ q=>q) fun _ _ q=>q
   refine I2.jo (s':={ s4 with heap:=h' }) (ch:=fp) I5.os keepU hok' I5.bare fun b hb=>?_;obtain⟨_,f1,_,f4,f5,f6⟩:=f2 b hb;exact⟨f4,f1,f5,f6⟩
  ·refine ag (T.item (Am X scope cl N Hq.objs.size s2 H2 fp) rfl rfl rfl hcalm i [] s3 σ3 H3 (fun _ _=>False) I3 (fpX [] H3 (fun _ z=>by cases z) fr3) st3 go) (fun r s4 ⟨u,hr,h4⟩=>?_) fun _ _ z=>z.elim;subst hr;show wpAny (model X.prog X.w) X.A (letOwnedTupleGo tgE (.ref it) u>>=fun _=>assign tgE (compEnvC scope cl Hq.objs.size X.env) u) _ _ s4;refine Wb (ag h4 (fun _ s5 ⟨xv,H5,I5,r5,y5,st5,fr5⟩=>?_) fun _ _ z=>z.elim);have I5':=I5.pinned (fpX [] H5 (fun _ z=>by cases z) fr5) (T.obj _ _ st5);refine ag (hpg _ _ s5 σ3 H5 xv u _ I5' r5 (step xv H5 y5 σ3 hσ)) (fun _ s6 ⟨σ6,H6,I6,rv6,step5⟩=>?_) fun _ _ z=>z.elim;refine ag (hif _ _ _ _ _ _ s6 _ H6 _ I6 step5) (fun b s7 ⟨H7,I7,q7⟩=>?_) fun _ _ z=>z.elim;have again:∀ {s8:SD} {H8:Hp} {k:Nat} {zs:List V},Inv (Am X scope cl N Hq.objs.size s2 H2 fp) ([]++Mq fp s5.heap) σ6 H8 s8→W (i+1) k zs H8→k<n →
     ∃m,m<n∧∃i ys σ' H',Inv (Am X scope cl N Hq.objs.size s2 H2 fp) [] σ' H' s8∧Rv σ'∧tn i s8.heap∧(∀b∈fp,H' b=none)∧W i m ys H':=fun {s8 H8 k zs} I8 w8 hk=>by
    refine⟨k,hk,i+1,zs,_,H8,I8.LA,rv6,T.keep _ _ _ st5 fun b hb o e=>(I8.pin (b,o) (aV _ (aV _ (Ij hb e)))).1,fun b hb=>?_,w8⟩;obtain⟨o,e,d⟩:=T.obj _ _ st5 b hb;exact(I8.pin (b,o) (aV _ (aV _ (Ij hb e)))).2.1
   cases b with
   |false =>
    rw [if_neg aJ]at q7 ⊢;obtain⟨k,hk,w7⟩:=q7;exact again I7 w7 hk
   |true =>
    rw [if_pos rfl]at q7 ⊢;refine ag (he _ _ _ _ _ _ s7 _ H7 _ I7 q7) (fun yv s8 ⟨y,H8,I8,r8,hD8,k,hk,w8⟩=>?_) fun _ _ z=>z.elim;refine ag (EE (X:=Am X scope cl N Hq.objs.size s2 H2 fp) _ s8 _ H8 (.ref s2.heap.objs.size) [y] (.ref s2.heap.objs.size) [yv] (fun _ H9=>H9=upd H8 s2.heap.objs.size (.lst (ys++[y]))) I8 rfl (.cons r8 .nil) ⟨_,ys,y,rfl,rfl,hD8,hsz,rfl⟩) (fun _ s9 ⟨_,H9,I9,_,e9⟩=>?_) fun _ _ z=>z.elim;subst e9;exact again I9 w8 hk
 exact codeAny_compStart_list (loop _ rfl) (T.self X.A 0 _ _ _ (T.keep _ _ _ st2 fun b _ o e=>old b o e) (loop _ rfl))
def PL{pins:List (AD×Obj)}{σ:St}{H2:Hp}{s2:SD}{Q:VK}{it:AD}{fp:List AD}{tn:Nat→Heap→Prop}{J:It}{cl:List (Str×AD)}{E:VL→SD→Prop}{RR:VL→AD→Result→SD→Prop}
 (S:DC scope N x ix)(hcalm:X.calm=true)(hfr:D8 N X.N scope X.env.scope fr 0=true)(hlen:fr.length=N.length)
 (hif:∀cl C s₀ H₀ fp,J4 (Am X scope cl N C s₀ H₀ fp) ifs tif)(he:∀cl C s₀ H₀ fp,PE (Am X scope cl N C s₀ H₀ fp) elt te)
 (I2:Inv X pins σ H2 s2)(T:Turn X.prog X.w X.K (.Name x px) J fp it tn)(st2:tn 0 s2.heap)(f2:∀b∈fp,KU X pins H2 b)
 (c1:∀x c,cl.lookup x=some c→X.env.cells.lookup x=some c)(c2:∀x∈scope.names,x.2=NameKind.free→∃c,cl.lookup x.1=some c)
 (W:∀D,H2 D=none→∃W:Nat→Nat→List V→Hp→Prop,(∃m,W 0 m [] (upd H2 D (.lst []))) ∧
   ∀i m ys H,W i m ys H→H D=some (.lst ys)∧((J.stop i H∧Q (.ref D) H)∨(J.go i H∧ys.length<sizeLine∧∀x H',J.Ep i H x H' →
    tif ((carry fr σ).set ix (some x)) H' fun b H2=>if b=true then te ((carry fr σ).set ix (some x)) H2 fun y H3=>H3 D=some (.lst ys)∧∃m',m'<m∧W (i+1) m' (ys++[y]) (upd H3 D (.lst (ys++[y])))
     else ∃m',m'<m∧W (i+1) m' ys H2)))
 (fin:∀(D C:AD) (s':SD) (H':Hp) m,s'.heap.Ns C m→Q (.ref D) H'→(∀h',Heap.SameBut C s'.heap h'→Inv X pins σ H' { s' with heap:=h' })→C≠D→(∀b o,s2.heap.get? b=some o→b≠C)→H' C=none→s2.heap.objs.size≤C→RR (.ref D) C (.ok .next) s') :
  wpAny (model X.prog X.w) X.A (newList []) (fun acc s₃=>wpAny (model X.prog X.w) X.A (newFunctionEnv scope X.env.globals cl [] X.env.qual none .none (some X.env)) (fun cenv s₄ =>
   codeAny (model X.prog X.w) X.A (.compStart (.ListComp elt [⟨.Name x px,iter,ifs,0⟩] scope pos) 0 (.ref it) acc { cenv with scope:=relabel scope X.env }) (RR acc cenv.locals) s₄) E s₃) E s2:=by
 have hxv:(relabel scope X.env).names.lookup x=some .local:=lookup_relabel_local S.loc;refine NY S hcalm (fun σ'=>∀v,σ'.set ix v=(carry fr σ).set ix v) (fun _=>rfl) (fun C=>BE (X:=Am X scope cl N C s2 H2 fp) S.nd S.at_ (.inl hxv) (.inr hxv)) hfr hlen hif he I2 T st2 f2 c1 c2 (fun D hD=>?_) fin;obtain⟨W,w0,st⟩:=W D hD;refine⟨W,w0,fun i m ys H w=>?_⟩;obtain⟨h1,h2|⟨h2,h3,h4⟩⟩:=st i m ys H w
 ·exact⟨h1,.inl h2⟩
 ·refine⟨h1,.inr ⟨h2,h3,fun x H' hy σ' hr=>?_⟩⟩;have:=h4 x H' hy;rw [←hr]at this;exact⟨fun v=>by rw [List.set_set,hr],this⟩
def dH(S:DC scope N x ix)(hcalm:X.calm=true)(hfr:D8 N X.N scope X.env.scope fr 0=true)(hlen:fr.length=N.length)(hfree:∀y∈scope.names,y.2=.free→X.env.scope.names.lookup y.1=some .cell∨X.env.scope.names.lookup y.1=some .free)
 (hi:PI X (.Name x px) iter wi)(hif:∀cl C s₀ H₀ fp,J4 (Am X scope cl N C s₀ H₀ fp) ifs tif)(he:∀cl C s₀ H₀ fp,PE (Am X scope cl N C s₀ H₀ fp) elt te)
 (hs:∀x,foldedSetIterable iter X.env x=pure x:=by intro _;rfl):PE X (.ListComp elt [⟨.Name x px,iter,ifs,0⟩] scope pos) (ND wi fr ix tif te):=by
 intro pins s σ H Q I hw;obtain⟨cl,hclos,c1,_,c2⟩:=Fq (env:=X.env) scope.names [] (fun y hy hf=>I.ok.has y.1 (hfree y hy hf)) (fun y c z=>by cases z);have hclos':closureFor scope X.env=pure cl:=by
  have e:closureFor scope X.env=((forIn scope.names [] (fun(x:Str×NameKind) (r:List (Str×AD))=>do if(x.2==NameKind.free)=true then do let a ←cellOf X.env x.1;pure (ForInStep.yield ((x.1,a)::r)) else pure (ForInStep.yield r)):Sem (List (Str×AD)))>>=fun cs=>pure cs):=rfl;rw [e,hclos]
  rfl
 rw [eval_ListComp];refine wpAny_comprehension_free (use:=none) rfl hs hclos' S.kind S.names (A6 (hi pins s σ H _ I hw) fun v s1 h1=>A6 h1 fun itv s2 h2=>?_);obtain⟨it,fp,tn,J,H2,e,I2,T,st2,f2,W⟩:=h2;subst e;refine PL (RR:=fun acc C=>compPost (model X.prog X.w) X.A X.xe none (EP X pins σ Q) acc C) S hcalm hfr hlen hif he I2 T st2 f2 c1 c2 W ?_;intro D C s' H' m hn q hI _ _ _ _;exact⟨m,hn,fun h' hs'=>⟨.ref D,H',hI h' hs',rfl,q⟩⟩
def Wg{i : Nat}{y : Str}{py spos : Pos}(hN : X.N.Nodup)(hy : X.N[i]? = some y)(hly : X.env.scope.names.lookup y = some .local)(S : DC scope N x ix)(hcalm : X.calm = true)(hfr : D8 N X.N scope X.env.scope fr 0 = true)(hlen : fr.length = N.length)
 (hfree : ∀ y∈scope.names,y.2 = .free→X.env.scope.names.lookup y.1 = some .cell∨X.env.scope.names.lookup y.1 = some .free)
 (hi : PI X (.Name x px) iter wi)(hif : ∀ cl C s₀ H₀ fp,J4 (Am X scope cl N C s₀ H₀ fp) ifs tif)(he : ∀ cl C s₀ H₀ fp,PE (Am X scope cl N C s₀ H₀ fp) elt te)
 (hsw : swapsWith (.ListComp elt [⟨.Name x px,iter,ifs,0⟩] scope pos) (some (.Name y py)) spos.line X.env = pure true := by rfl)
 (hs : ∀ x,foldedSetIterable iter X.env x = pure x := by intro _; rfl) :
    PS X (.Assign [.Name y py] (.ListComp elt [⟨.Name x px,iter,ifs,0⟩] scope pos) spos) (MQ (ND wi fr ix tif te) (Em i)) := by
  intro pins s σ H D I hw
  obtain ⟨cl,hclos,c1,_,c2⟩:=Fq (env:=X.env) scope.names [] (fun y hy hf => I.ok.has y.1 (hfree y hy hf)) (fun y c z => by cases z)
  have hclos' : closureFor scope X.env = pure cl := by
    have e : closureFor scope X.env = ((forIn scope.names [] (fun (x : Str×NameKind) (r : List (Str×AD)) => do if (x.2 == NameKind.free) = true then do let a ← cellOf X.env x.1; pure (ForInStep.yield ((x.1,a) :: r)) else pure (ForInStep.yield r)) : Sem (List (Str×AD))) >>= fun cs => pure cs):=rfl
    rw [e,hclos]
    rfl
  rw [exec_Assign_Name_used _ _ _ _ hsw]
  refine Wb (wpAny_standAt (Wb ?_))
  show wpAny _ X.A (do let _ ← comprehension (.ListComp elt [⟨.Name x px,iter,ifs,0⟩] scope pos) scope X.env _ (newList []) false (eval iter X.env) (some (assign (.Name y py) X.env))) _ _ s
  refine Wb (ag (wpAny_comprehension_free (use:=some (assign (.Name y py) X.env)) (Q:=fun _ s' => SP X pins D .next s') rfl hs hclos' S.kind S.names
    (A6 (hi pins s σ H _ I hw) fun v s1 h1 => A6 h1 fun itv s2 h2 => ?_)) (fun _ s' hq => aA (aA hq)) fun _ _ e => e)
  obtain ⟨it,fp,tn,J,H2,e,I2,T,st2,f2,W⟩:=h2
  subst e
  refine PL (Q:=fun x H1 => Em i x σ H1 D.nx) (RR:=fun acc C => compPost (model X.prog X.w) X.A X.xe (some (assign (.Name y py) X.env)) (fun _ s' => SP X pins D .next s') acc C) S hcalm hfr hlen hif he I2 T st2 f2 c1 c2 W ?_
  intro D' C s' H' m hn q hI hCD hold hfreeC hsz
  have I5 : Inv X pins σ H' s':=hI s'.heap (Heap.SameBut.refl ..)
  refine wpAny_assign_Name (Mf I5 hN hy (.inl hly) (v:=.ref D') rfl (fun s'' I6 ⟨a,hsb,ha⟩ => ?_) (.inr hly))
  have hL : C≠X.env.locals:=fun z => by
    obtain ⟨_,⟨o,_,_,e,_⟩,_⟩:=I2.loc
    exact hold _ _ e z.symm
  have hcl : ∀ z c,X.env.cells.lookup z = some c→c≠C:=fun z c e => by
    obtain ⟨_,o,ho,_⟩:=I2.cell z c e
    exact hold _ _ ho
  have hCa : C≠a := by
    rcases ha with z | z
    · rw [z]; exact hL
    · exact Ne.symm (hcl _ _ z)
  refine ⟨m,hn.sameBut hsb hCa,fun h' hs' => ⟨_,H',I6.turned (t':=s''.toks) (it:=C) (fun b o hb e => (hs'.2 b hb).trans e) hfreeC hL (.inr (ae I2.sz hsz)) hcl fun p hp => ?_,q⟩⟩
  obtain ⟨e,_⟩:=I2.pin p hp
  exact hold _ _ e
end
end L2
namespace FM
def gi(a b:Int):Int:=(Int.gcd a b:Int)
def TJ(a b:Int):Int.gcd b (a.fmod b)=Int.gcd a b:=by
 have e:a.fmod b=a-b*a.fdiv b:=Int.fmod_def a b;rw [e,Int.gcd_comm a b];exact Int.gcd_sub_mul_left_right b a (a.fdiv b)
def Qy(a b:Int)(hb:b≠0):(a.fmod b).natAbs<b.natAbs:=by
 rcases Int.lt_or_gt_of_ne hb with h|h
 ·have h1:-(a.fmod b)=(-a).fmod (-b):=by
   rw [Int.fmod_def,Int.fmod_def,Int.neg_fdiv_neg];have:-b*a.fdiv b=-(b*a.fdiv b):=Int.neg_mul _ _;omega
  have h2:=Int.fmod_nonneg_of_pos (-a) (show 0 < -b by omega);have h3:=Int.fmod_lt_of_pos (-a) (show 0 < -b by omega);omega
 ·have h2:=Int.fmod_nonneg_of_pos a h;have h3:=Int.fmod_lt_of_pos a h;omega
def Mm{a b:Int}(hb:b≠0):0<gi a b:=by
 have:0<Int.gcd a b:=Int.gcd_pos_of_ne_zero_right a hb;unfold gi;omega
def cw{a b:Int}(hb:b≠0):(gi a b).natAbs≤b.natAbs:=by
 have h:Int.gcd a b ∣ b.natAbs:=by
  have:=Int.gcd_dvd_right a b;exact Int.natAbs_dvd_natAbs.mpr this
 have h2:0<b.natAbs:=by omega
 have:=Nat.le_of_dvd h2 h;unfold gi;omega
def gs(t b:Int):Int:=if b<0 then -gi t b else gi t b
def cD{t b:Int}(hb:b≠0):gs t b≠0:=by
 have:=Mm (a:=t) hb;unfold gs;split<;>omega
def cK{t b:Int}(hb:b≠0):(gs t b).natAbs≤b.natAbs:=by
 have:=cw (a:=t) hb;unfold gs;split<;>omega
def Fm{g x k:Int}(hg:g≠0)(e:x=g*k):x.fdiv g=k:=by
 subst e;exact Int.mul_fdiv_cancel_left k hg
def NP(a b:Int):gi a b ∣ a:=Int.gcd_dvd_left a b
def MF(a b:Int):gi a b ∣ b:=Int.gcd_dvd_right a b
def Tc{t b:Int}(hb:b≠0):t.fdiv (gs t b)=(Rat.divInt t b).num:=by
 have hp:=Mm (a:=t) hb;obtain⟨k,hk⟩:=NP t b;rw [Rat.num_divInt,Int.gcd_comm b t];show t.fdiv (gs t b)=b.sign*t / gi t b;unfold gs;generalize gi t b=g at hp hk ⊢;rcases Int.lt_or_gt_of_ne hb with h|h
 ·rw [if_pos h,Int.sign_eq_neg_one_of_neg h,Fm (k:=-k) (by omega) (by rw [hk];simp [Int.mul_neg,Int.neg_mul])];have:-1*t=g*(-k):=by rw [hk];simp [Int.mul_neg]
  rw [this,Int.mul_ediv_cancel_left _ (by omega)]
 ·rw [if_neg (by omega),Int.sign_eq_one_of_pos h,Fm (k:=k) (by omega) hk,Int.one_mul,hk,Int.mul_ediv_cancel_left _ (by omega)]
def Tu{t b:Int}(hb:b≠0):b.fdiv (gs t b)=((Rat.divInt t b).den:Int):=by
 have hp:=Mm (a:=t) hb;obtain⟨k,hk⟩:=MF t b;rw [Rat.den_divInt,if_neg hb,Int.gcd_comm b t];have e:(((b.natAbs / Int.gcd t b:Nat)):Int)=(b.natAbs:Int) / gi t b:=by unfold gi;simp
 rw [e];unfold gs;generalize gi t b=g at hp hk ⊢;rcases Int.lt_or_gt_of_ne hb with h|h
 ·rw [if_pos h,Fm (k:=-k) (by omega) (by rw [Int.neg_mul_neg];exact hk)];have:(b.natAbs:Int)=g*(-k):=by rw [Int.mul_neg,←hk];omega
  rw [this,Int.mul_ediv_cancel_left _ (by omega)]
 ·rw [if_neg (by omega),Fm (k:=k) (by omega) hk];have:(b.natAbs:Int)=g*k:=by rw [←hk];omega
  rw [this,Int.mul_ediv_cancel_left _ (by omega)]
def FO(a b:Int):(a.fdiv b).natAbs≤a.natAbs:=by
 cases a with
 |ofNat n =>
  cases n with
  |zero =>
   have e:Int.fdiv (.ofNat 0) b=0:=Int.zero_fdiv b;rw [e];exact au _
  |succ k =>
   cases b with
   |ofNat j=>exact Nat.div_le_self (k+1) j
   |negSucc j=>exact Nat.succ_le_succ (Nat.div_le_self k (j+1))
 |negSucc k =>
  cases b with
  |ofNat j =>
   cases j with
   |zero=>exact au _
   |succ j=>exact Nat.succ_le_succ (Nat.div_le_self k (j+1))
  |negSucc j=>exact Nat.div_le_self (k+1) (j+1)
def g6{t b:Int}(hb:b≠0):(Rat.divInt t b).num.natAbs≤t.natAbs:=by
 rw [←Tc hb];exact FO _ _
def jC{t b:Int}(hb:b≠0):(Rat.divInt t b).den≤b.natAbs:=by
 have h:=FO b (gs t b);rw [Tu hb]at h
 simpa using h
def Pe(p:Rat):(p.den:Int)≠0:=by
 have:=p.den_nz;omega
def DB(p:Rat):Rat.divInt p.num p.den=p:=Rat.num_divInt_den p
def Xz(p q:Rat):Rat.divInt (p.num*q.den+q.num*p.den) (p.den*q.den)=p+q:=by
 rw [←Rat.divInt_add_divInt _ _ (Pe p) (Pe q),DB,DB]
def OW(p q:Rat):Rat.divInt (p.num*q.num) (p.den*q.den)=p*q:=by
 rw [←Rat.divInt_mul_divInt,DB,DB]
def NH(p q:Rat):(p.den:Int)*q.den≠0:=Int.mul_ne_zero (Pe p) (Pe q)
def Hu{x y:Int}{m n:Nat}(hx:x.natAbs<2^m)(hy:y.natAbs<2^n):(x*y).natAbs<2^(m+n):=by
 rw [Int.natAbs_mul,Nat.pow_add];exact Nat.mul_lt_mul'' hx hy
def NB{x:Nat}{m n:Nat}(hx:x<2^m)(h:m≤n):x<2^n:=aH hx (aS (by decide) h)
def Fits(p:Rat)(n:Nat):Prop:=p.num.natAbs<2^n∧p.den<2^n
def Fits.mono{p:Rat}{m n:Nat}(h:Fits p m)(l:m≤n):Fits p n:=⟨NB h.1 l,NB h.2 l⟩
def Fits.d{p:Rat}{n:Nat}(h:Fits p n):((p.den:Int)).natAbs<2^n:=by simpa using h.2
def Fits.gR{t b:Int}{n:Nat}(hb:b≠0)(h1:t.natAbs<2^n)(h2:b.natAbs<2^n):Fits (Rat.divInt t b) n :=
 ⟨aX (g6 hb) h1,Nat.lt_of_le_of_lt (jC hb) h2⟩
def dd{p q:Rat}{m n:Nat}(h:Fits p m)(k:Fits q n):((p.den:Int)*q.den).natAbs<2^(m+n):=Hu h.d k.d
def nn{p q:Rat}{m n:Nat}(h:Fits p m)(k:Fits q n):(p.num*q.num).natAbs<2^(m+n):=Hu h.1 k.1
end FM
namespace FM
def Vd(a b:Int):Int.gcd (if a<0 then -a else a) (if b<0 then -b else b)=Int.gcd a b:=by
 split<;>split<;>simp [Int.gcd_neg,Int.neg_gcd]
def abs_nonneg(a:Int):0≤(if a<0 then -a else a):=by split<;>omega
def Xq{g a b:Int}(h:Int.gcd g 0=Int.gcd a b)(h0:0≤g):g=gi a b:=by
 unfold gi;rw [←h,Int.gcd_zero_right];omega
def fmod_nonneg{g l:Int}(hl:l≠0)(h:0≤l):0≤g.fmod l:=Int.fmod_nonneg_of_pos g (by omega)
end FM
namespace L2
open PySem PySem.Spec PyProof.Rows
structure Fn(K:Fg)(mg:Str→Option Value)(x:Str)(st:Stmt)(ps:List Str)(f:Addr)(fd:FuncData):Prop where
 F:Q9 K x x st f fd
 b:Binds K fd ps []
 m:mg x=some (.ref f)
section
variable{X:Cx}{k:Nat}{f:AD}{fd:FuncData}{ps:List Str}{sp:Sp}{x:Str}{st:Stmt}{p pos:Pos}{e:Expr}{es:List Expr}{t:TA}
def Fo(T:Fn X.K X.mg x st ps f fd)(G:AN X.prog X.w X.K X.mg X.base Ar k f fd ps sp)(hr:DN k X.A)(hg:Gl X x)(ha:PA X (e::es) t)
 (hdb:(x==("__debug__" : Str))=false:=by decide)(he:starEach (e::es) X.env=(false,eval e X.env)::starEach es X.env:=by rfl)(hpl:(backTo pos (starEach es X.env)).any (·.1)=false:=by rfl) :
  PE X (.Call (.Name x p) (e::es) [] pos) (Wf sp [] E0 t):=Vj G hr hg T.m T.F.kp T.b .nil lD ha hdb he hpl
end
def TV{t u:TS}{D:Ends}{σ:St}{H:Hp}(P:St→Hp→Prop)(h1:∀nx:St→Hp→Prop,(∀σ' H',P σ' H'→nx σ' H')→t { D with nx:=nx } σ H)(h2:∀σ' H',P σ' H'→u D σ' H'):iD t u D σ H:=h1 _ h2
def Vo:2≤sizeLine:=by decide
def Bg{H:Hp}{p:AD}(h:H p=none)(o:HO):AO H (upd H p o):=fun b u q=>by rw [AM (Ah q h)];exact q
def QN(p:Rat):List V:=[.int p.num,.int (p.den:Int)]
def Rt(K:Fg)(H:Hp)(p:Rat)(v:V):Prop:=∃a,v=.ref a∧BF K H a (QN p)
def Rt.of{K:Fg}{H:Hp}{p:Rat}{a:AD}(h:H a=some (.tup (QN p))):Rt K H p (.ref a):=⟨a,rfl,.of h⟩
def OS{i j:Int}{m n:Nat}(h1:i.natAbs<2^m)(h2:j.natAbs<2^n)(h:m+n≤1000000):Wc i j∨Ru i j :=
 .inr ⟨m+n,h,FM.NB h1 (Nat.le_add_right _ _),FM.NB h2 (Nat.le_add_left _ _)⟩
structure mV(P:Program)(w:World)(outer:List Env)(H:Hp)(s:Shared)(ea:Addr)(cls a0:Value)(H':Hp)(s':Shared)(B:Heap):Prop where
 os:s'.os=s.os
 bare:AllBare s'.gens
 nK:Heap.FlyingW B outer ea cls a0 s'.heap
 keep:∀b o,s.heap.get? b=some o→H b=none→b ∉ Fu outer→B.get? b=some o
 there:∀b o,s.heap.get? b=some o→b ∉ Fu outer→∃o',B.get? b=some o'
 slot:∀b o,s.heap.get? b=some o→b∈Fu outer→∃sl,s'.heap.get? b=some { o with slots:=sl }
 free:∀b o,s.heap.get? b=some o→H b=none→H' b=none
 DH:∀b xs,H b=some (.tup xs)→H' b=some (.tup xs)
 HC:∀b o u,H b=some (.Ef o u)→H' b=some (.Ef o u)
 HQ:∀b ps,H b=some (.PC ps)→∃more,H' b=some (.PC (ps++more))
 Av:EV P w H' B
 new:s.heap.get? ea=none
def CS(P:Program)(w:World):GN:=fun outer H s E e s'=>∃ea cls a0 H' B,e=.ref ea∧mV P w outer H s ea cls a0 H' s' B∧E cls none H'
def S7{base h:Heap}{l:List Env}(F:h.FunFrames base l){b:AD}(hb:b∈Fu l):∃o,h.get? b=some o∧∀vs,o.data≠.fields vs:=(F.mem hb).2
section
variable{P:Program}{w:World}{K:Fg}{mg:Str→Option VL}{base:Heap}{N:List Str}{qual:Str}{scope:Scope}{f:AD}{cd:VL}{A:Around}{outer:List Env}{s:SD}{H:Hp}{E:XK}
def dZ{pins:List (AD×Obj)}{σ:St}{H1:Hp}{s1:SD}{h':Heap}{ea:AD}{cls:VL}{args:List VL}(I:Inv (Cn (CS P w) P w K mg base N qual scope f cd A outer s H E) pins σ H1 s1)
 (hx:Heap.MadeExcOf s1.heap h' ea cls args)(hE:E cls none H1):(Cn (CS P w) P w K mg base N qual scope f cd A outer s H E).xe (.ref ea) { s1 with heap:=h' }:=by
 show wpAny (model P w) (A.deeper (envOfC qual scope s.heap.objs.size f cd)) (leaving (envOfC qual scope s.heap.objs.size f cd) (.ref ea)) _ _ _;have FF:=I.stack;have hfr:(A.deeper (envOfC qual scope s.heap.objs.size f cd)).frames=some (envOfC qual scope s.heap.objs.size f cd::outer):=I.ok.frames;have hin:∀env∈(envOfC qual scope s.heap.objs.size f cd::outer),∀b,env.frame=some b→b∈(envOfC qual scope s.heap.objs.size f cd::outer).filterMap (·.frame):=fun env he b hb=>List.mem_filterMap.mpr ⟨env,he,hb⟩;have notL:∀b o,s.heap.get? b=some o→b≠s.heap.objs.size:=fun b o e=>aG (aF e);have out:∀b,b≠s.heap.objs.size→b ∉ Fu outer→b ∉ (envOfC qual scope s.heap.objs.size f cd::outer).filterMap (·.frame):=fun b h1 h2 hm=>by
  rcases aK.mp (I.Mo b hm) with z|z
  ·exact h1 z
  ·exact h2 z
 have outT:∀b u,H1 b=some u→b ∉ (envOfC qual scope s.heap.objs.size f cd::outer).filterMap (·.frame):=fun b u e hm=>by
  have:=I.P0 b hm;rw [e]at this;cases this
 refine wpAny_leaves_madeW (base:=PySem.W.hideAll s1.heap ((envOfC qual scope s.heap.objs.size f cd::outer).filterMap (·.frame))) hfr rfl (fun b o q=>PySem.W.of_hideAll _ q) (PySem.W.funFrames_hide FF hin) hx fun h2 t fl _ _ up=>?_;have hokB:EV P w H1 (PySem.W.hideAll s1.heap ((envOfC qual scope s.heap.objs.size f cd::outer).filterMap (·.frame))):=fun b u e =>
  (I.Av b u e).IC (fun c v hc q=>PySem.W.hideAll_get _ q (by
   rcases hc with rfl|hc
   ·exact outT _ _ e
   ·exact outT _ _ hc)) (fun _ q=>q) fun _ _ q=>q
 refine⟨ea,cls,.ref t,H1,_,rfl,⟨I.os,I.bare,fl,fun b o e n hb=>?_,fun b o e hb=>?_,fun b o e hb=>?_,fun b o e n=>I.base.free b o e n (by simp [Cn]),I.base.DH,I.base.HC,I.base.HQ,hokB,?_⟩,hE⟩
 ·exact PySem.W.hideAll_get _ (I.base.keep b o e n hb (by simp [Cn])) (out b (notL b o e) hb)
 ·obtain⟨o',e1⟩:=I.base.there b o e (by simp [Cn]);exact⟨o',PySem.W.hideAll_get _ e1 (out b (notL b o e) hb)⟩
 ·obtain⟨sl,e1⟩:=I.base.slot b o e (I.ok.RI b hb) hb (by simp [Cn]);obtain⟨o',e2,hd⟩:=S7 I.HP hb;rw [e1]at e2;cases e2;obtain⟨sl',e3⟩:=up b _ (hx.keeps _ _ e1) hd;exact⟨sl',e3⟩
 ·cases q:s.heap.get? ea with
  |none=>rfl
  |some o =>
   obtain⟨o',e1⟩:=I.base.there ea o q (by simp [Cn]);have:=hx.new;rw [e1]at this;cases this
def j0{E':XK}(hE:∀c a H',E' c a H'→E c a H'):Passes (CS P w) (Cn (CS P w) P w K mg base N qual scope f cd A outer s H E) E':=by
 intro pins σ H1 s1 e s2 I ⟨ea,cls,a0,H2,B,ee,F,hq⟩;subst ee;show wpAny (model P w) (A.deeper (envOfC qual scope s.heap.objs.size f cd)) (leaving (envOfC qual scope s.heap.objs.size f cd) (.ref ea)) _ _ _;have notL:∀b o,s.heap.get? b=some o→b≠s.heap.objs.size:=fun b o e=>aG (aF e);have out:∀b,b≠s.heap.objs.size→b ∉ Fu outer→b ∉ Fu (Cn (CS P w) P w K mg base N qual scope f cd A outer s H E).stack:=fun b h1 h2 hm=>by
  rcases aK.mp (I.Mo b hm) with z|z
  ·exact h1 z
  ·exact h2 z
 refine wpAny_leaves_onW I.ok.frames rfl F.nK fun h3 fl up=>?_;refine⟨ea,cls,a0,H2,B,rfl,⟨F.os.trans I.os,F.bare,fl,fun b o e n hb=>?_,fun b o e hb=>?_,fun b o e hb=>?_,fun b o e n=>?_,fun b xs q=>F.DH b xs (I.base.DH b xs q),fun b o u q=>F.HC b o u (I.base.HC b o u q),fun b ps q=>?_,F.Av,?_⟩,hE _ _ _ hq⟩
 ·exact F.keep b o (I.base.keep b o e n hb (by simp [Cn])) (I.base.free b o e n (by simp [Cn])) (out b (notL b o e) hb)
 ·obtain⟨o',e1⟩:=I.base.there b o e (by simp [Cn]);exact F.there b o' e1 (out b (notL b o e) hb)
 ·obtain⟨sl,e1⟩:=I.base.slot b o e (I.ok.RI b hb) hb (by simp [Cn]);have hb':b∈Fu (Cn (CS P w) P w K mg base N qual scope f cd A outer s H E).stack:=by
   show b∈Fu (envOfC qual scope s.heap.objs.size f cd::outer);unfold Fu;rw [List.filterMap_cons];exact aU _ hb
  obtain⟨sl2,e2⟩:=F.slot b _ e1 hb';obtain⟨o',e3,hd⟩:=S7 I.HP hb;rw [e1]at e3;cases e3;obtain⟨sl3,e4⟩:=up b _ e2 hd;exact⟨sl3,e4⟩
 ·obtain⟨o',e1⟩:=I.base.there b o e (by simp [Cn]);exact F.free b o' e1 (I.base.free b o e n (by simp [Cn]))
 ·obtain⟨m1,e1⟩:=I.base.HQ b ps q;obtain⟨m2,e2⟩:=F.HQ b _ e1;exact⟨m1++m2,by rw [e2,Array.append_assoc]⟩
 ·cases q:s.heap.get? ea with
  |none=>rfl
  |some o =>
   obtain⟨o',e1⟩:=I.base.there ea o q (by simp [Cn]);have:=F.new;rw [e1]at this;cases this
def Q9.nQ{x:Str}{st:Stmt}{fd:FuncData}{ps:List Str}{k:Nat}{sp:Sp}(F:Q9 K x x st f fd)(S:Ak N ps (AV st))(len:∀vs H Q E,sp vs H Q E→vs.length=ps.length)
 (hbody:∀(cdv:VL) (A:Around) (outer:List Env) (s:SD) (H:Hp) (vs:List V) (Q:VK) (E:XK),DN k (A.deeper (envOfC x (AV st) s.heap.objs.size f cdv))→sp vs H Q E →
   ∃t,HI (Cn (CS P w) P w K mg base N x (AV st) f cdv A outer s H E) (Ds st) t∧t { nx:=fun _ H'=>Q .A8 H',rt:=Q } (start N vs) H):AN P w K mg base (CS P w) (k+1) f fd ps sp:=by
 obtain⟨oc,od,kV,doc,pm,an,cdv,ct,osl,rfl,lk,hcd⟩:=F.ex;exact cV lk hcd S len fun A outer s H vs Q E hr hsp=>hbody cdv A outer s H vs Q E hr hsp
end
structure Exc(K:Fg)(mg:Str→Option Value)(x:Str)(C:Addr):Prop where
 m:mg x=some (.ref C)
 q:PySem.W.excIn K C [.type "ValueError",.type "Exception",.type "BaseException",.type "object"] "ValueError.__new__" = true
def dW{K:Fg}{h:Heap}{C:AD}{bB:List VL}{nid:String}(Po:K.In h)(hq:PySem.W.excIn K C bB nid=true) :
  ∃tl N nm qn bs hd sn sub ab col dd k0 k1 k2 k3 k5 mN,h.get? C=some (excClassObj nm qn C N bs tl hd sn sub ab col dd k0 k1 k2 k3 k5 nid)∧h.Ns N mN∧mN "__init__" = none∧OwnTail h bB tl:=by
 unfold PySem.W.excIn at hq;split at hq
 ·rename_i dd cd sl lk;split at hq
  ·rename_i C1 tl k0 k1 k2 k3 n1 k5 e1 e2;simp only [Bool.and_eq_true,beq_iff_eq,Bool.not_eq_true']at hq;obtain⟨⟨⟨⟨⟨y1,y2⟩,y3⟩,y4⟩,y5⟩,y6⟩:=hq;subst y1 y2;obtain⟨nm,bs,mro,N,qn,hd,sn,sub,ab,col,del⟩:=cd;dsimp only at e1 y3 y5 y6;subst e1 y3;have e3:sl=#[k0,k1,k2,k3,some (.builtin n1),k5]:=by
    cases sl with
    |mk l=>simp only at e2;rw [e2]
   subst e3;exact⟨tl,N,nm,qn,bs,hd,sn,sub,ab,col,dd,k0,k1,k2,k3,k5,_,Po _ _ lk,.of_isNs (PySem.W.isNs_of_in Po y5),PySem.W.nsMap_none_of_in Po y5 y6,PySem.W.tail_of_in Po y4⟩
  ·cases hq
 ·cases hq
section
variable{X:Cx}{x:Str}{C:AD}{np cpos pos:Pos}{e:Expr}{te:TE}{E:XK}
def Lets(X:Cx)(E:XK):Prop:=∀(pins:List (AD×Obj)) (σ:St) (H:Hp) (s:SD) (h':Heap) (ea:AD) (cls:VL) (args:List VL),Inv X pins σ H s→Heap.MadeExcOf s.heap h' ea cls args→E cls none H→X.xe (.ref ea) { s with heap:=h' }
def gr(C:AD)(E:XK)(te:TE):TS:=fun _ σ H=>te σ H fun _ H1=>E (.ref C) none H1
def bc(T:Exc X.K X.mg x C)(hL:Lets X E)(hcalm:X.calm=true)(hg:Gl X x)(he:PE X e te)(hd:(x==("__debug__" : Str))=false:=by decide)
 (hst:starEach [e] X.env=[(false,eval e X.env)]:=by rfl):PS X (.Raise (some (.Call (.Name x np) [e] [] cpos)) none pos) (gr C E te):=by
 intro pins s σ H D I h;obtain⟨tl,N,nm,qn,bs,hdct,sn,sub,ab,col,dd,k0,k1,k2,k3,k5,mN,hC,hN,hni,TL⟩:=dW I.ok.mod.Po T.q;refine wpAny_Raise_call_subT (C:=C) (nm:=nm) (q:=qn) (N:=N) (bs:=bs) (bm:=tl) (hdct:=hdct) (sn:=sn) (sub:=sub) (ab:=ab) (col:=col) (dd:=dd) (k0:=k0) (k1:=k1) (k2:=k2) (k3:=k3) (k5:=k5)
  PySem.F.excBase_ValueError (mN:=mN) (TL.hasType (by decide)) (I.ok.hd hcalm) (by rw [hst];rfl) hni (QP I hg T.m ⟨rfl,?_⟩ hd)
 rw [hst];refine Calls.evalArgs_plain (Calls.spliced_cons (A6 (he pins s σ H _ I h) fun u s1 ⟨v,H1,I1,r1,q1⟩=>Calls.spliced_nil ?_));exact⟨rfl,by show 1≤sizeLine;decide,I1.bk _ _ hC,hN.keeps I1.bk,TL.keeps I1.bk,fun h' ea hm=>hL pins σ H1 s1 h' ea _ _ I1 hm q1⟩
end
def nD(ea:AD)(cls:VL):HO:=.ext fun h=>∃o vs,h.get? ea=some o∧o.cls=cls∧o.data=.fields vs
structure Qk(K:Fg)(C G:Addr)(b:Bool):Prop where
 cl:(PySem.W.clsIn K G).isSome=true
 ty:PySem.W.typeIn K (.ref G)=some (.type "type")
 ex:PySem.W.subIn K (.ref G) (.type "BaseException")=some true
 sub:PySem.W.subIn K (.ref C) (.ref G)=some b
open PySem PySem.Spec PyProof.Rows PySem.Builtin.ObjectAttr PySem.Builtin.Getset_descriptor
structure Zc(K:Fg)(C:Addr):Prop where
 cl:(PySem.W.clsIn K C).isSome=true
 ga:PySem.W.findIn K (.ref C) "__getattribute__" = some (some (.builtin "BaseException.__getattribute__"))
 gh:PySem.W.findIn K (.ref C) "__getattr__" = some none
 at_:PySem.W.findIn K (.ref C) "__class__" = some (some (.builtin "object.__class__"))
 gt:PySem.W.specialIn K (.builtin "object.__class__") "__get__" = some (some (.builtin "getset_descriptor.__get__"))
 tk:PySem.W.takesIn K (.builtin "object.__class__")=some true
 ob:PySem.W.mroIn K C (.type "object")=some true
 be:PySem.W.mroIn K C (.type "BaseException")=some true
def Sm:V→VL
 |.ref C=>.ref C
 |.ty n=>.type n
 |_=>.none
def dP{c:V}{u:VL}(r:RelV c u)(h:Sm c≠.none):u=Sm c:=by
 cases c with
 |ref C=>exact r
 |ty n=>exact r
 |_=>exact absurd rfl h
section
variable{X:Cx}
def mJ(K:Fg):List V→Hp→VK→Prop:=fun xs H Q=>∃x c t b,xs=[x,c]∧Sm c≠.none∧GF K H x t∧PySem.W.kitOne K t (Sm c)=some b∧Q (.bl b) H
def Jj:ED X (.builtin "isinstance") (mJ X.K):=by
 intro pins s σ H xs us Q I r h;obtain⟨x,c,t,b,rfl,hc,ty,e,q⟩:=h;obtain⟨u,v,rfl,r1,r2⟩:=r.two;rw [dP r2 hc];exact YL I r1 ty e fun tk=>⟨.bl b,H,I.tok tk,rfl,q⟩
end
def XY(K:Fg):PySem.W.kitOne K (.type "tuple") (.type "tuple")=some true:=rfl
def ip(K:Fg):PySem.W.kitOne K (.type "int") (.type "int")=some true:=rfl
def hV(K:Fg):PySem.W.kitOne K (.type "bool") (.type "bool")=some true:=rfl
def fz(K:Fg):PySem.W.kitOne K (.type "int") (.type "bool")=some false:=by kernel_rfl
def jH(K:Fg):PySem.W.kitOne K (.type "bool") (.type "int")=some true:=by kernel_rfl
def ir(K:Fg):PySem.W.kitOne K (.type "list") (.type "tuple")=some false:=by kernel_rfl
def iK(K:Fg):PySem.W.kitOne K (.type "tuple") (.type "list")=some false:=by kernel_rfl
def gE(K:Fg):PySem.W.kitOne K (.type "list") (.type "list")=some true:=rfl
def hJ(K:Fg):PySem.W.kitOne K (.type "int") (.type "tuple")=some false:=by kernel_rfl
def iw(K:Fg):PySem.W.kitOne K (.type "bool") (.type "tuple")=some false:=by kernel_rfl
def jR(K:Fg):PySem.W.kitOne K (.type "NoneType") (.type "tuple")=some false:=by kernel_rfl
def fU(K:Fg):PySem.W.kitOne K (.type "str") (.type "tuple")=some false:=by kernel_rfl
def g9(K:Fg):PySem.W.kitOne K (.type "tuple") (.type "int")=some false:=by kernel_rfl
def iZ(K:Fg):PySem.W.kitOne K (.type "list") (.type "int")=some false:=by kernel_rfl
def fQ(K:Fg):PySem.W.kitOne K (.type "NoneType") (.type "int")=some false:=by kernel_rfl
def jP(K:Fg):PySem.W.kitOne K (.type "str") (.type "int")=some false:=by kernel_rfl
def gc(K:Fg):PySem.W.kitOne K (.type "int") (.type "list")=some false:=by kernel_rfl
def gy(K:Fg):PySem.W.kitOne K (.type "bool") (.type "list")=some false:=by kernel_rfl
def jk(K:Fg):PySem.W.kitOne K (.type "NoneType") (.type "list")=some false:=by kernel_rfl
def fR(K:Fg):PySem.W.kitOne K (.type "str") (.type "list")=some false:=by kernel_rfl
def freeOk(xsc:Scope)(names:List (Str×NameKind)):Bool:=names.all fun y=>y.2 != .free||xsc.names.lookup y.1==some .cell||xsc.names.lookup y.1==some .free
def J3{xsc:Scope}{names:List (Str×NameKind)}(h:freeOk xsc names=true):∀y∈names,y.2=.free→xsc.names.lookup y.1=some .cell∨xsc.names.lookup y.1=some .free:=fun y hy hf=>by
 have q:=aL.mp h y hy;rw [hf]at q;simp only [bne_self_eq_false,Bool.false_or,Bool.or_eq_true,beq_iff_eq]at q;exact q
def BL(scope:Scope)(N:List Str)(x:Str)(ix:Nat):Bool :=
 scope.kind==.function&&(scope.names.all fun y=>y.2 != .cell&&(y.2 != .local||scope.names.lookup y.1==some .local)&&(y.2 != .free||scope.names.lookup y.1==some .free))&&scope.names.lookup x==some .local&&decide N.Nodup&&N[ix]? == some x
def EN{scope:Scope}{N:List Str}{x:Str}{ix:Nat}(h:BL scope N x ix=true):DC scope N x ix:=by
 unfold BL at h;simp only [Bool.and_eq_true,beq_iff_eq,decide_eq_true_eq,List.all_eq_true,bne_iff_ne,Bool.or_eq_true]at h;obtain⟨⟨⟨⟨h1,h2⟩,h3⟩,h4⟩,h5⟩:=h;exact⟨h1,fun y hy=>(h2 y hy).1.1,fun y hy hl=>(h2 y hy).1.2.resolve_left fun z=>z hl,fun y hy hl=>(h2 y hy).2.resolve_left fun z=>z hl,h3,h4,h5⟩
section
variable{X:Cx}{elt iter:Expr}{x:Str}{px pos:Pos}{ifs:List Expr}{scope:Scope}{wi:TI}{tif:TT}{te:TE}
def LP(N:List Str)(ix:Nat)(fr:List (Option Nat))(hi:PI X (.Name x px) iter wi)(hif:∀cl C s₀ H₀ fp,J4 (Am X scope cl N C s₀ H₀ fp) ifs tif)(he:∀cl C s₀ H₀ fp,PE (Am X scope cl N C s₀ H₀ fp) elt te)
 (h1:BL scope N x ix=true:=by decide +kernel)(h2:X.calm=true:=by rfl)(h3:D8 N X.N scope X.env.scope fr 0=true:=by rfl)(h4:fr.length=N.length:=by rfl)(h5:freeOk X.env.scope scope.names=true:=by rfl)
 (hs:∀x,foldedSetIterable iter X.env x=pure x:=by intro _;rfl):PE X (.ListComp elt [⟨.Name x px,iter,ifs,0⟩] scope pos) (ND wi fr ix tif te) :=
 dH (EN h1) h2 h3 h4 (J3 h5) hi hif he hs
def Ud{i:Nat}{y:Str}{py spos:Pos}(N:List Str)(ix:Nat)(fr:List (Option Nat))(hN:X.N.Nodup)(hy:X.N[i]? = some y)(hly:X.env.scope.names.lookup y=some .local)
 (hi:PI X (.Name x px) iter wi)(hif:∀cl C s₀ H₀ fp,J4 (Am X scope cl N C s₀ H₀ fp) ifs tif)(he:∀cl C s₀ H₀ fp,PE (Am X scope cl N C s₀ H₀ fp) elt te)
 (h1:BL scope N x ix=true:=by decide +kernel)(h2:X.calm=true:=by rfl)(h3:D8 N X.N scope X.env.scope fr 0=true:=by rfl)(h4:fr.length=N.length:=by rfl)(h5:freeOk X.env.scope scope.names=true:=by rfl)
 (hsw:swapsWith (.ListComp elt [⟨.Name x px,iter,ifs,0⟩] scope pos) (some (.Name y py)) spos.line X.env=pure true:=by rfl)
 (hs:∀x,foldedSetIterable iter X.env x=pure x:=by intro _;rfl):PS X (.Assign [.Name y py] (.ListComp elt [⟨.Name x px,iter,ifs,0⟩] scope pos) spos) (MQ (ND wi fr ix tif te) (Em i)) :=
 Wg hN hy hly (EN h1) h2 h3 h4 (J3 h5) hi hif he hsw hs
end
section
variable{X:Cx}{k:Nat}{f:AD}{fd:FuncData}{ps:List Str}{sp:Sp}{x:Str}{st:Stmt}{p pos:Pos}{e:Expr}{es:List Expr}{t:TA}{E:XK}
def Tq(T:Fn X.K X.mg x st ps f fd)(G:AN X.prog X.w X.K X.mg X.base (CS X.prog X.w) k f fd ps sp)(hr:DN k X.A)(hg:Gl X x)(hP:Passes (CS X.prog X.w) X E)(ha:PA X (e::es) t)
 (hdb:(x==("__debug__" : Str))=false:=by decide)(he:starEach (e::es) X.env=(false,eval e X.env)::starEach es X.env:=by rfl)(hpl:(backTo pos (starEach es X.env)).any (·.1)=false:=by rfl) :
  PE X (.Call (.Name x p) (e::es) [] pos) (Wf sp [] E t):=Vj G hr hg T.m T.F.kp T.b .nil hP ha hdb he hpl
end
end L2
inductive Tr where
 |nil
 |cons (b r:Tr)
 deriving DecidableEq
namespace Tr
def bs:Tr→List Tr
 |.nil=>[]
 |.cons b r=>b::r.bs
def of:List Tr→Tr
 |[]=>.nil
 |b::r=>.cons b (of r)
def PQ:∀t:Tr,of t.bs=t
 |.nil=>rfl
 |.cons b r=>by rw [bs,of,PQ r]
def WD:∀l:List Tr,(of l).bs=l
 |[]=>rfl
 |b::r=>by rw [of,bs,WD r]
def So{t u:Tr}(h:t.bs=u.bs):t=u:=by rw [←PQ t,h,PQ]
def len:Tr→Nat
 |.nil=>0
 |.cons _ r=>r.len+1
def DD:∀t:Tr,t.bs.length=t.len
 |.nil=>rfl
 |.cons _ r=>by rw [bs,List.length_cons,DD r,len]
def AL:Tr→Nat
 |.nil=>1
 |.cons b r=>b.AL+r.AL
def deep:Tr→Nat
 |.nil=>0
 |.cons b r=>max (b.deep+1) r.deep
def lt:Tr→Tr→Bool
 |.nil,.nil=>false
 |.nil,.cons _ _=>true
 |.cons _ _,.nil=>false
 |.cons b r,.cons c q=>if b=c then lt r q else lt b c
def lt_irrefl:∀t:Tr,lt t t=false
 |.nil=>rfl
 |.cons b r=>by rw [lt,if_pos rfl];exact lt_irrefl r
def lt_trans:∀a b c:Tr,lt a b=true→lt b c=true→lt a c=true
 |.nil,.nil,_,h,_=>by cases h
 |.nil,.cons _ _,.nil,_,h=>by cases h
 |.nil,.cons _ _,.cons _ _,_,_=>rfl
 |.cons _ _,.nil,_,h,_=>by cases h
 |.cons _ _,.cons _ _,.nil,_,h=>by cases h
 |.cons a r,.cons b s,.cons c t,h1,h2=>by
  rw [lt]at h1 h2 ⊢;by_cases e1:a=b
  ·subst e1;rw [if_pos rfl]at h1;by_cases e2:a=c
   ·subst e2;rw [if_pos rfl]at h2 ⊢;exact lt_trans r s t h1 h2
   ·rw [if_neg e2]at h2 ⊢;exact h2
  ·rw [if_neg e1]at h1;by_cases e2:b=c
   ·subst e2;rw [if_neg e1];exact h1
   ·rw [if_neg e2]at h2;have h3:=lt_trans a b c h1 h2;by_cases e3:a=c
    ·subst e3;rw [lt_irrefl]at h3;cases h3
    ·rw [if_neg e3];exact h3
def JZ:∀a b:Tr,lt a b=false→lt b a=false→a=b
 |.nil,.nil,_,_=>rfl
 |.nil,.cons _ _,h,_=>by cases h
 |.cons _ _,.nil,_,h=>by cases h
 |.cons a r,.cons b s,h1,h2=>by
  rw [lt]at h1 h2;by_cases e:a=b
  ·subst e;rw [if_pos rfl]at h1 h2;rw [JZ r s h1 h2]
  ·rw [if_neg e]at h1;rw [if_neg (Ne.symm e)]at h2;exact absurd (JZ a b h1 h2) e
def Nc(a b c:Tr)(h:lt a c=true):lt a b=true∨lt b c=true:=by
 cases h1:lt a b with
 |true=>exact .inl rfl
 |false =>
  right
  cases h2:lt b a with
  |true=>exact lt_trans b a c h2 h
  |false=>rw [←JZ a b h1 h2];exact h
def lt_asymm{a b:Tr}(h:lt a b=true):lt b a=false:=by
 cases h2:lt b a with
 |false=>rfl
 |true=>have:=lt_trans a b a h h2;rw [lt_irrefl]at this;cases this
def MA:List Tr→List Tr→Bool
 |[],[]=>false
 |[],_::_=>true
 |_::_,[]=>false
 |b::r,c::q=>if b=c then MA r q else lt b c
def bz:∀t u:Tr,lt t u=MA t.bs u.bs
 |.nil,.nil=>rfl
 |.nil,.cons _ _=>rfl
 |.cons _ _,.nil=>rfl
 |.cons b r,.cons c q=>by
  rw [lt,bs,bs,MA,bz r q]
def Dh:Tr→Bool
 |.nil=>true
 |.cons b r=>b.Dh&&r.Dh&&(match r with
  |.nil=>true
  |.cons c _=>!lt b c)
def ins(x:Tr):List Tr→List Tr
 |[]=>[x]
 |y::r=>if lt x y=true then y::ins x r else x::y::r
def B1:List Tr→List Tr
 |[]=>[]
 |x::r=>ins x (B1 r)
end Tr
namespace TH
open PySem PyProof.Rows PySem.SeqAt
def Vs(h:Heap):Tr→List VL→Prop
 |.nil,us=>us=[]
 |.cons b r,us=>∃(a:AD) (its rest:List VL),us=.ref a::rest∧h.IsTuple a its.toArray∧Vs h b its∧Vs h r rest
def Vs.length{h:Heap}:∀ {t:Tr} {us:List VL},Vs h t us→us.length=t.len
 |.nil,us,e=>by rw [Vs]at e;rw [e];rfl
 |.cons b r,us,e=>by
  rw [Vs]at e;obtain⟨a,its,rest,rfl,_,_,q⟩:=e;rw [List.length_cons,Tr.len,Vs.length q]
def Ii{h:Heap}{a:AD}{x y:Array VL}(h1:h.IsTuple a x)(h2:h.IsTuple a y):x=y:=by
 obtain⟨o,e,_,n,d⟩:=h1;obtain⟨o',e',_,n',d'⟩:=h2;rw [e]at e';cases e';rw [d]at d';cases d';rfl
def Vs.inj{h:Heap}:∀ {t u:Tr} {us:List VL},Vs h t us→Vs h u us→t=u
 |.nil,.nil,_,_,_=>rfl
 |.nil,.cons _ _,us,e,f=>by
  rw [Vs]at e;rw [Vs]at f;obtain⟨_,_,_,f,_⟩:=f;rw [e]at f;cases f
 |.cons _ _,.nil,us,e,f=>by
  rw [Vs]at e;rw [Vs]at f;obtain⟨_,_,_,e,_⟩:=e;rw [f]at e;cases e
 |.cons b r,.cons c q,us,e,f=>by
  rw [Vs]at e f;obtain⟨a,its,rest,rfl,h1,h2,h3⟩:=e;obtain⟨a',its',rest',e',k1,k2,k3⟩:=f;cases e';have:=Ii h1 k1;have e2:its=its':=by simpa using this
  subst e2;rw [Vs.inj h2 k2,Vs.inj h3 k3]
def PF{s:SD}:∀(t u:Tr) (A:Around) (us vs:List VL),Vs s.heap t us→Vs s.heap u vs→A.units+t.deep≤cLine →
  ∀j (h1:j<us.length) (h2:j<vs.length),EqAt A s us[j] vs[j] (decide (t.bs[j]? = u.bs[j]?))
 |.nil,u,A,us,vs,e,f,_,j,h1,h2=>by
  rw [Vs]at e;subst e;exact absurd h1 (aq _)
 |.cons b r,.nil,A,us,vs,e,f,_,j,h1,h2=>by
  rw [Vs]at f;subst f;exact absurd h2 (aq _)
 |.cons b r,.cons c q,A,us,vs,e,f,hu,j,h1,h2=>by
  rw [Vs]at e f;obtain⟨a,its,rest,rfl,k1,k2,k3⟩:=e;obtain⟨a',its',rest',rfl,l1,l2,l3⟩:=f;have hd:(Tr.cons b r).deep=max (b.deep+1) r.deep:=rfl;cases j with
  |zero =>
   show EqAt A s (.ref a) (.ref a') (decide (some b=some c));by_cases ea:a=a'
   ·subst ea;have:=Ii k1 l1;have e2:its=its':=by simpa using this
    subst e2;rw [Vs.inj k2 l2,decide_eq_true rfl];exact EqAt.same _
   ·refine EqAt.of_refs ea ?_;have key:=RcAt.tuples (s:=s) (A:=A) (e:=fun j=>decide (b.bs[j]? = c.bs[j]?)) k1 l1 (by omega) fun j x1 x2=>by
     have:=PF b c A.in1 its its' k2 l2 (by rw [show A.in1.units=A.units+1 from rfl];omega) j (by simpa using x1) (by simpa using x2)
     simpa using this
    have ev:((List.range (min its.toArray.size its'.toArray.size)).all (fun j=>decide (b.bs[j]? = c.bs[j]?))&&its.toArray.size==its'.toArray.size)=decide (some b=some c):=by
     have z1:its.toArray.size=b.bs.length:=by rw [Tr.DD,←Vs.length k2];simp
     have z2:its'.toArray.size=c.bs.length:=by rw [Tr.DD,←Vs.length l2];simp
     rw [z1,z2];by_cases hbc:b=c
     ·subst hbc;simp
     ·rw [decide_eq_false (fun z=>hbc (aW z))];cases hl:b.bs.length==c.bs.length with
      |false=>rw [Bool.and_false]
      |true =>
       rw [Bool.and_true];have hl':b.bs.length=c.bs.length:=by simpa using hl
       refine bK.mpr fun z=>hbc (Tr.So (bW fun i=>?_));by_cases hi:i<b.bs.length
       ·have:=aL.mp z i (az.mpr (by omega))
        simpa using this
       ·rw [List.getElem?_eq_none (by omega),List.getElem?_eq_none (by omega)]
    rw [ev]at key;exact key
  |succ j =>
   exact PF r q A rest rest' k3 l3 (by omega) j (by simpa using h1) (by simpa using h2)
def Mr{s:SD}{t u:Tr}{A:Around}{a b:AD}{its its':List VL}(h1:s.heap.IsTuple a its.toArray)(k1:Vs s.heap t its)(h2:s.heap.IsTuple b its'.toArray)(k2:Vs s.heap u its')(hu:A.units+t.deep<cLine) :
  EqAt A s (.ref a) (.ref b) (decide (t=u)):=by
 have:=PF (.cons t .nil) (.cons u .nil) A [.ref a] [.ref b] ⟨a,its,[],rfl,h1,k1,by rw [Vs]⟩ ⟨b,its',[],rfl,h2,k2,by rw [Vs]⟩ (by show A.units+max (t.deep+1) 0≤cLine;omega) 0 (by simp) (by simp)
 simpa [Tr.bs]using this
def l9{s:SD}{t u:Tr}{A:Around}{a b:AD}{its its':List VL}(h1:s.heap.IsTuple a its.toArray)(k1:Vs s.heap t its)(h2:s.heap.IsTuple b its'.toArray)(k2:Vs s.heap u its')(hu:A.units+t.deep<cLine) :
  RcAt A s (.ref a) (.ref b) (decide (t=u)):=by
 have key:=RcAt.tuples (s:=s) (A:=A) (e:=fun j=>decide (t.bs[j]? = u.bs[j]?)) h1 h2 (by omega) fun j x1 x2=>by
  have:=PF t u A.in1 its its' k1 k2 (by rw [show A.in1.units=A.units+1 from rfl];omega) j (by simpa using x1) (by simpa using x2)
  simpa using this
 have ev:((List.range (min its.toArray.size its'.toArray.size)).all (fun j=>decide (t.bs[j]? = u.bs[j]?))&&its.toArray.size==its'.toArray.size)=decide (t=u):=by
  have z1:its.toArray.size=t.bs.length:=by rw [Tr.DD,←Vs.length k1];simp
  have z2:its'.toArray.size=u.bs.length:=by rw [Tr.DD,←Vs.length k2];simp
  rw [z1,z2];by_cases hbc:t=u
  ·subst hbc;simp
  ·rw [decide_eq_false hbc];cases hl:t.bs.length==u.bs.length with
   |false=>rw [Bool.and_false]
   |true =>
    rw [Bool.and_true];have hl':t.bs.length=u.bs.length:=by simpa using hl
    refine bK.mpr fun z=>hbc (Tr.So (bW fun i=>?_));by_cases hi:i<t.bs.length
    ·have:=aL.mp z i (az.mpr (by omega))
     simpa using this
    ·rw [List.getElem?_eq_none (by omega),List.getElem?_eq_none (by omega)]
 rw [ev]at key;exact key
section
open PySem.AutoSeq1 (wpAny_loadPart')
open PySem.MeetsSeq PySem.MeetsSeq2 PySem.MeetsSeq3
def S6(n0:Nat)(ih:∀(t u:Tr) (A:Around) (s:SD) (a b:AD) (its its':List VL),t.deep<n0→s.heap.IsTuple a its.toArray→Vs s.heap t its→s.heap.IsTuple b its'.toArray→Vs s.heap u its'→A.units+t.deep<cLine →
   ∀(prog:Program) (w:World) (E:VL→SD→Prop) (Q:VL→SD→Prop),Q (.bool (Tr.lt t u)) s→wpAny (model prog w) A (richCompare .Lt (.ref a) (.ref b)) Q E s)
 (l b:AD)(items items2:Array VL)(n n2:Nat)(dd dd2:Option AD)(sl sl2:Array (Option VL))(t u:Tr)(ht:t.deep≤n0) :
  Meets (Builtin.«tuple.__lt__» ⟨[.ref l,.ref b],[]⟩)
   (fun A R s=>s.heap.get? l=some { cls:=.type "tuple",dict:=dd,data:=.seq items n,slots:=sl }∧s.heap.get? b=some { cls:=.type "tuple",dict:=dd2,data:=.seq items2 n2,slots:=sl2 } ∧
    Vs s.heap t items.toList∧Vs s.heap u items2.toList∧A.units+t.deep<cLine∧R (.ok (.ret (.bool (Tr.lt t u)))) s) :=
 .of_wp fun prog w A R s h=>by
  obtain⟨hp,g,d,tk,os⟩:=s;obtain⟨hl,hb,hi,hj,hun,h⟩:=h;have f2:=AutoSeq1.sub_tuple_tuple;have z1:items.size=t.len:=by rw [←Vs.length hi];simp
  have z2:items2.size=u.len:=by rw [←Vs.length hj];simp
  wp_walk using wpAny_loadPart' hl,wpAny_loadPart' hb,wpAny_forIn_list _ (fun rest b s'=>b.1=none∧s'=⟨hp,g,d,tk,os⟩∧∃(vs ws:List VL) (t' u':Tr),rest=vs.zip ws ∧
   Vs hp t' vs∧Vs hp u' ws∧t'.deep≤t.deep∧t'.len+items2.size=u'.len+items.size∧R (.ok (.ret (.bool (Tr.lt t' u')))) ⟨hp,g,d,tk,os⟩) _
  case turn =>
   rintro⟨y,x⟩ rest b s' ⟨hb',rfl,vs,ws,t',u',hz,hvi,hwi,hdp,hlen,hR⟩;cases t' with
   |nil=>rw [Vs]at hvi;subst hvi;rw [List.zip_nil_left]at hz;cases hz
   |cons bt rt =>
    cases u' with
    |nil=>rw [Vs]at hwi;subst hwi;rw [List.zip_nil_right]at hz;cases hz
    |cons bu ru =>
     rw [Vs]at hvi hwi;obtain⟨a1,i1,v1,rfl,p1,p2,p3⟩:=hvi;obtain⟨a2,i2,v2,rfl,q1,q2,q3⟩:=hwi;rw [List.zip_cons_cons]at hz
     injection hz with hyx hrest
     injection hyx with hy hx
     subst hy hx;have hdd:(Tr.cons bt rt).deep=max (bt.deep+1) rt.deep:=rfl;rw [Tr.lt]at hR;simp only [Tr.len]at hlen;have he:=Mr (s:=⟨hp,g,d,tk,os⟩) (A:=A.in1) p1 p2 q1 q2 (by rw [show A.in1.units=A.units+1 from rfl];omega);refine Wb (he prog w _ _ ?_);cases hc:decide (bt=bu) with
     |true =>
      rw [if_pos (aO hc)]at hR
      wp_walk
      exact⟨rfl,rfl,_,_,_,_,hrest,p3,q3,by omega,by omega,hR⟩
     |false =>
      rw [if_neg (bZ hc)]at hR;have hri:=ih bt bu A.in1 ⟨hp,g,d,tk,os⟩ a1 a2 i1 i2 (by omega) p1 p2 q1 q2 (by rw [show A.in1.units=A.units+1 from rfl];omega) prog w
      wp_walk using hri
      exact⟨_,rfl,by simpa using hR⟩
  case fin =>
   rintro⟨b1,b2⟩ s' ⟨hb',rfl,vs,ws,t',u',hz,hvi,hwi,hdp,hlen,hR⟩;simp only at hb';subst hb';have hv:Tr.lt t' u'=decide (items.size<items2.size):=by
    cases t' with
    |nil =>
     cases u' with
     |nil =>
      simp only [Tr.len]at hlen;exact(bE (by omega)).symm
     |cons c q =>
      simp only [Tr.len]at hlen;exact(bH (by omega)).symm
    |cons bt rt =>
     cases u' with
     |nil =>
      simp only [Tr.len]at hlen;exact(bE (by omega)).symm
     |cons c q =>
      rw [Vs]at hvi hwi;obtain⟨_,_,_,rfl,_⟩:=hvi;obtain⟨_,_,_,rfl,_⟩:=hwi;rw [List.zip_cons_cons]at hz;cases hz
   rw [hv]at hR
   wp_walk
   exact⟨_,rfl,by simpa [Builtin.Tuple.tupleCompareSizes]using hR⟩
  case h =>
   exact⟨rfl,rfl,items.toList,items2.toList,t,u,rfl,hi,hj,Nat.le_refl _,by omega,h⟩
def R6:∀(n0:Nat) (t u:Tr) (A:Around) (s:SD) (a b:AD) (its its':List VL),t.deep<n0→s.heap.IsTuple a its.toArray→Vs s.heap t its→s.heap.IsTuple b its'.toArray→Vs s.heap u its'→A.units+t.deep<cLine →
   ∀(prog:Program) (w:World) (E:VL→SD→Prop) (Q:VL→SD→Prop),Q (.bool (Tr.lt t u)) s→wpAny (model prog w) A (richCompare .Lt (.ref a) (.ref b)) Q E s
 |0,_,_,_,_,_,_,_,_,h,_,_,_,_,_=>absurd h (aq _)
 |n0+1,t,u,A,s,a,b,its,its',hd,hl,ht,hb,hu',hun=>fun prog w E Q h=>by
  obtain⟨⟨cls,dd,data,sl⟩,ho,hc,n,hdt⟩:=id hl;obtain⟨⟨cls2,dd2,data2,sl2⟩,ho2,hc2,n2,hdt2⟩:=id hb;simp only at hc hdt hc2 hdt2;subst hc hdt hc2 hdt2;exact richCompare_meets_room (op:=.Lt) ⟨_,ho,rfl⟩ ⟨_,ho2,rfl⟩ PySem.F.slot_tuple_lt PySem.F.entry_tuple_lt (PySem.F.args_tuple_lt_2 _ _) (S6 n0 (R6 n0) a b its.toArray its'.toArray n n2 dd dd2 sl sl2 t u (by omega))
   ⟨ho,ho2,by simpa using ht,by simpa using hu',hun,show Value.bool (Tr.lt t u)≠Value.notImplemented∧Q (.bool (Tr.lt t u)) s from⟨(fun x=>nomatch x),h⟩⟩ (by omega)
end
section
open PySem.AutoSeq1 (wpAny_loadPart')
open PySem.MeetsSeq PySem.MeetsSeq2 PySem.MeetsSeq3
def Y6(n0:Nat)(ih:∀(t u:Tr) (A:Around) (s:SD) (a b:AD) (its its':List VL),t.deep<n0→s.heap.IsTuple a its.toArray→Vs s.heap t its→s.heap.IsTuple b its'.toArray→Vs s.heap u its'→A.units+t.deep<cLine →
   ∀(prog:Program) (w:World) (E:VL→SD→Prop) (Q:VL→SD→Prop),Q (.bool (Tr.lt u t)) s→wpAny (model prog w) A (richCompare .Gt (.ref a) (.ref b)) Q E s)
 (l b:AD)(items items2:Array VL)(n n2:Nat)(dd dd2:Option AD)(sl sl2:Array (Option VL))(t u:Tr)(ht:t.deep≤n0) :
  Meets (Builtin.«tuple.__gt__» ⟨[.ref l,.ref b],[]⟩)
   (fun A R s=>s.heap.get? l=some { cls:=.type "tuple",dict:=dd,data:=.seq items n,slots:=sl }∧s.heap.get? b=some { cls:=.type "tuple",dict:=dd2,data:=.seq items2 n2,slots:=sl2 } ∧
    Vs s.heap t items.toList∧Vs s.heap u items2.toList∧A.units+t.deep<cLine∧R (.ok (.ret (.bool (Tr.lt u t)))) s) :=
 .of_wp fun prog w A R s h=>by
  obtain⟨hp,g,d,tk,os⟩:=s;obtain⟨hl,hb,hi,hj,hun,h⟩:=h;have f2:=AutoSeq1.sub_tuple_tuple;have z1:items.size=t.len:=by rw [←Vs.length hi];simp
  have z2:items2.size=u.len:=by rw [←Vs.length hj];simp
  wp_walk using wpAny_loadPart' hl,wpAny_loadPart' hb,wpAny_forIn_list _ (fun rest b s'=>b.1=none∧s'=⟨hp,g,d,tk,os⟩∧∃(vs ws:List VL) (t' u':Tr),rest=vs.zip ws ∧
   Vs hp t' vs∧Vs hp u' ws∧t'.deep≤t.deep∧t'.len+items2.size=u'.len+items.size∧R (.ok (.ret (.bool (Tr.lt u' t')))) ⟨hp,g,d,tk,os⟩) _
  case turn =>
   rintro⟨y,x⟩ rest b s' ⟨hb',rfl,vs,ws,t',u',hz,hvi,hwi,hdp,hlen,hR⟩;cases t' with
   |nil=>rw [Vs]at hvi;subst hvi;rw [List.zip_nil_left]at hz;cases hz
   |cons bt rt =>
    cases u' with
    |nil=>rw [Vs]at hwi;subst hwi;rw [List.zip_nil_right]at hz;cases hz
    |cons bu ru =>
     rw [Vs]at hvi hwi;obtain⟨a1,i1,v1,rfl,p1,p2,p3⟩:=hvi;obtain⟨a2,i2,v2,rfl,q1,q2,q3⟩:=hwi;rw [List.zip_cons_cons]at hz
     injection hz with hyx hrest
     injection hyx with hy hx
     subst hy hx;have hdd:(Tr.cons bt rt).deep=max (bt.deep+1) rt.deep:=rfl;rw [Tr.lt]at hR;simp only [Tr.len]at hlen;have he:=Mr (s:=⟨hp,g,d,tk,os⟩) (A:=A.in1) p1 p2 q1 q2 (by rw [show A.in1.units=A.units+1 from rfl];omega);refine Wb (he prog w _ _ ?_);cases hc:decide (bt=bu) with
     |true =>
      rw [if_pos (aO hc).symm]at hR
      wp_walk
      exact⟨rfl,rfl,_,_,_,_,hrest,p3,q3,by omega,by omega,hR⟩
     |false =>
      rw [if_neg (fun z=>bZ hc z.symm)]at hR;have hri:=ih bt bu A.in1 ⟨hp,g,d,tk,os⟩ a1 a2 i1 i2 (by omega) p1 p2 q1 q2 (by rw [show A.in1.units=A.units+1 from rfl];omega) prog w
      wp_walk using hri
      exact⟨_,rfl,by simpa using hR⟩
  case fin =>
   rintro⟨b1,b2⟩ s' ⟨hb',rfl,vs,ws,t',u',hz,hvi,hwi,hdp,hlen,hR⟩;simp only at hb';subst hb';have hv:Tr.lt u' t'=decide (items2.size<items.size):=by
    cases t' with
    |nil =>
     cases u' with
     |nil =>
      simp only [Tr.len]at hlen;exact(bE (by omega)).symm
     |cons c q =>
      simp only [Tr.len]at hlen;exact(bE (by omega)).symm
    |cons bt rt =>
     cases u' with
     |nil =>
      simp only [Tr.len]at hlen;exact(bH (by omega)).symm
     |cons c q =>
      rw [Vs]at hvi hwi;obtain⟨_,_,_,rfl,_⟩:=hvi;obtain⟨_,_,_,rfl,_⟩:=hwi;rw [List.zip_cons_cons]at hz;cases hz
   rw [hv]at hR
   wp_walk
   exact⟨_,rfl,by simpa [Builtin.Tuple.tupleCompareSizes]using hR⟩
  case h =>
   exact⟨rfl,rfl,items.toList,items2.toList,t,u,rfl,hi,hj,Nat.le_refl _,by omega,h⟩
def cS:∀(n0:Nat) (t u:Tr) (A:Around) (s:SD) (a b:AD) (its its':List VL),t.deep<n0→s.heap.IsTuple a its.toArray→Vs s.heap t its→s.heap.IsTuple b its'.toArray→Vs s.heap u its'→A.units+t.deep<cLine →
   ∀(prog:Program) (w:World) (E:VL→SD→Prop) (Q:VL→SD→Prop),Q (.bool (Tr.lt u t)) s→wpAny (model prog w) A (richCompare .Gt (.ref a) (.ref b)) Q E s
 |0,_,_,_,_,_,_,_,_,h,_,_,_,_,_=>absurd h (aq _)
 |n0+1,t,u,A,s,a,b,its,its',hd,hl,ht,hb,hu',hun=>fun prog w E Q h=>by
  obtain⟨⟨cls,dd,data,sl⟩,ho,hc,n,hdt⟩:=id hl;obtain⟨⟨cls2,dd2,data2,sl2⟩,ho2,hc2,n2,hdt2⟩:=id hb;simp only at hc hdt hc2 hdt2;subst hc hdt hc2 hdt2;exact richCompare_meets_room (op:=.Gt) ⟨_,ho,rfl⟩ ⟨_,ho2,rfl⟩ PySem.F.slot_tuple_gt PySem.F.entry_tuple_gt (PySem.F.args_tuple_gt_2 _ _) (Y6 n0 (cS n0) a b its.toArray its'.toArray n n2 dd dd2 sl sl2 t u (by omega))
   ⟨ho,ho2,by simpa using ht,by simpa using hu',hun,show Value.bool (Tr.lt u t)≠Value.notImplemented∧Q (.bool (Tr.lt u t)) s from⟨(fun x=>nomatch x),h⟩⟩ (by omega)
end
end TH
namespace SM
open PySem.W PyProof.Rows
def Wp{α:Type}(lt:Nat→Nat→Bool)(n:Nat):KasT α→(α→Prop)→Prop
 |.ret a,Q=>Q a
 |.ask i j k,Q=>i<n∧j<n∧Wp lt n (k (lt i j)) Q
def Wp.mono{α:Type}{lt:Nat→Nat→Bool}{n:Nat}{Q Q':α→Prop}(hq:∀a,Q a→Q' a):∀t:KasT α,Wp lt n t Q→Wp lt n t Q'
 |.ret a,h=>hq a h
 |.ask i j k,h=>⟨h.1,h.2.1,Wp.mono hq (k (lt i j)) h.2.2⟩
def Wp.bind{α β:Type}{lt:Nat→Nat→Bool}{n:Nat}{f:α→KasT β}{Q:β→Prop}:∀t:KasT α,Wp lt n t (fun a=>Wp lt n (f a) Q)→Wp lt n (t.bind f) Q
 |.ret _,h=>h
 |.ask i j k,h=>⟨h.1,h.2.1,Wp.bind (k (lt i j)) h.2.2⟩
def Jh{p:Array Nat}{i j:Nat}(hj:j≤p.size)(k:Nat):(kas_rev p i j).getD k 0=if i≤k∧k<j then p.getD (i+j-1-k) 0 else p.getD k 0:=by
 have e:=getElem?_mirror_all (i:=i) hj k;unfold kas_rev;rw [Array.getD_eq_getD_getElem?,Array.getD_eq_getD_getElem?,Array.getD_eq_getD_getElem?,e];split<;>rfl
def Uq{p:Array Nat}{src d:Nat}(hs:src<p.size)(hd:d≤src)(k:Nat) :
  (bubble p src d).getD k 0=if k=src-d then p.getD src 0 else if src-d<k∧k≤src then p.getD (k-1) 0 else p.getD k 0:=by
 have e:=getElem?_bubble hs d hd k;simp only [Array.getD_eq_getD_getElem?,e];split
 ·rfl
 ·split<;>rfl
section
variable{O:KeyOrd}{key:Nat→O.α}{n:Nat}
def Key(key:Nat→O.α)(p:Array Nat)(i:Nat):O.α:=key (p.getD i 0)
def Up(key:Nat→O.α)(p:Array Nat)(m:Nat):Prop:=∀i j,i≤j→j<m→O.kle (Key key p i) (Key key p j)
def Dn(key:Nat→O.α)(p:Array Nat)(m:Nat):Prop:=∀i j,i≤j→j<m→O.kle (Key key p j) (Key key p i)
structure Pm(n:Nat)(p:Array Nat):Prop where
 perm:p.Perm (List.toArray (List.range n))
 pos:0<n
def Pm.size{p:Array Nat}(h:Pm n p):p.size=n:=by rw [h.perm.size_eq];simp
def Pm.lt{p:Array Nat}(h:Pm n p)(i:Nat):p.getD i 0<n:=by
 rw [Array.getD_eq_getD_getElem?];by_cases hi:i<p.size
 ·rw [Array.getElem?_eq_getElem hi];have hm:p[i]∈p:=Array.getElem_mem hi;have:=(h.perm.mem_iff).mp hm
  simpa using this
 ·rw [Array.getElem?_eq_none (by omega)];exact h.pos
def Pm.rev{p:Array Nat}(h:Pm n p)(i j:Nat):Pm n (kas_rev p i j):=⟨(mirror_perm _ _ _ _).trans h.perm,h.pos⟩
def Pm.bubble{p:Array Nat}(h:Pm n p)(i j:Nat):Pm n (bubble p i j):=⟨(bubble_perm _ _ _).trans h.perm,h.pos⟩
abbrev Fv(key:Nat→O.α):Nat→Nat→Bool:=fun i j=>O.blt (key i) (key j)
def Up.one{p:Array Nat}:Up key p 1:=fun i j h1 h2=>by
 have:i=j:=by omega
 subst this;exact bR _
def Up.more{p:Array Nat}{m:Nat}(h:Up key p m)(h1:1≤m)(hk:O.kle (Key key p (m-1)) (Key key p m)):Up key p (m+1):=fun i j hij hj=>by
 by_cases e:j=m
 ·subst e;by_cases e2:i=j
  ·subst e2;exact bR _
  ·exact KeyOrd.kle_trans (h i (j-1) (by omega) (by omega)) hk
 ·exact h i j hij (by omega)
def Dn.more{p:Array Nat}{m:Nat}(h:Dn key p m)(h1:1≤m)(hk:O.kle (Key key p m) (Key key p (m-1))):Dn key p (m+1):=fun i j hij hj=>by
 by_cases e:j=m
 ·subst e;by_cases e2:i=j
  ·subst e2;exact bR _
  ·exact KeyOrd.kle_trans hk (h i (j-1) (by omega) (by omega))
 ·exact h i j hij (by omega)
def asc{p:Array Nat}(hp:Pm n p):∀(f m:Nat),1≤m→Up key p m→Wp (Fv key) n (kas_asc p f m) fun r=>m≤r∧r≤m+f∧Up key p r∧(r=m+f∨O.klt (Key key p r) (Key key p (r-1)))
 |0,m,_,h=>⟨aI _,Nat.le_refl _,h,.inl rfl⟩
 |f+1,m,h1,h=>by
  refine⟨hp.lt _,hp.lt _,?_⟩;cases c:Fv key (p.getD m 0) (p.getD (m-1) 0) with
  |true=>exact⟨aI _,by omega,h,.inr c⟩
  |false =>
   simp only [Bool.false_eq_true,if_false];refine Wp.mono (fun r hr=>?_) _ (asc hp f (m+1) (by omega) (h.more h1 c));exact⟨by omega,by omega,hr.2.2.1,hr.2.2.2.elim (fun z=>.inl (by omega)) .inr⟩
def Eq(key:Nat→O.α)(p:Array Nat)(m q:Nat):Prop:=q<m∧∀k,m-(q+1)≤k→k<m→Key key p k=Key key p (m-1)
def rev_eq{p:Array Nat}{m q:Nat}(h:Eq key p m q)(hm:m≤p.size)(k:Nat):Key key (kas_rev p (m-(q+1)) m) k=Key key p k:=by
 unfold Key;rw [Jh hm];split
 ·have a:=h.2 (m-(q+1)+m-1-k) (by have:=h.1;omega) (by have:=h.1;omega);have b:=h.2 k (by omega) (by omega);exact a.trans b.symm
 ·rfl
def desc:∀(f:Nat) (p:Array Nat) (m q:Nat),Pm n p→1≤m→m+f≤n→Dn key p m→Eq key p m q→Wp (Fv key) n (kas_desc f p m q) fun r=>Pm n r.1∧m≤r.2.1∧r.2.1≤m+f∧Dn key r.1 r.2.1∧Eq key r.1 r.2.1 r.2.2
 |0,p,m,q,hp,_,_,h,e=>⟨hp,Nat.le_refl _,Nat.le_refl _,h,e⟩
 |f+1,p,m,q,hp,h1,hf,h,e=>by
  refine⟨hp.lt _,hp.lt _,?_⟩;have hm:m≤p.size:=by rw [hp.size];omega
  cases c:Fv key (p.getD m 0) (p.getD (m-1) 0) with
  |true =>
   have ck:O.klt (Key key p m) (Key key p (m-1)):=c;simp only [if_true];have fin:∀p':Array Nat,Pm n p'→(∀k,Key key p' k=Key key p k)→Wp (Fv key) n (kas_desc f p' (m+1) 0) fun r=>Pm n r.1∧m≤r.2.1∧r.2.1≤m+(f+1)∧Dn key r.1 r.2.1∧Eq key r.1 r.2.1 r.2.2:=fun p' hp' hk=>by
    have hd:Dn key p' (m+1):=fun i j hij hj=>by rw [hk,hk];exact h.more h1 (KeyOrd.kle_of_klt ck) i j hij hj
    have he:Eq key p' (m+1) 0:=⟨by omega,fun k h1 h2=>by rw [show k=m+1-1 by omega]⟩;exact Wp.mono (fun r hr=>⟨hr.1,by omega,by omega,hr.2.2.2.1,hr.2.2.2.2⟩) _ (desc f p' (m+1) 0 hp' (by omega) (by omega) hd he)
   split
   ·exact fin _ (hp.rev _ _) (rev_eq e hm)
   ·exact fin _ hp fun _=>rfl
  |false =>
   simp only [Bool.false_eq_true,if_false];refine⟨hp.lt _,hp.lt _,?_⟩;cases d:Fv key (p.getD (m-1) 0) (p.getD m 0) with
   |true =>
    simp only [if_true];exact⟨hp,Nat.le_refl _,Nat.le_add_right _ _,h,e⟩
   |false =>
    simp only [Bool.false_eq_true,if_false];have ek:Key key p m=Key key p (m-1):=KeyOrd.kle_antisymm (show O.kle (Key key p m) (Key key p (m-1)) from d) (show O.kle (Key key p (m-1)) (Key key p m) from c);refine Wp.mono (fun r hr=>⟨hr.1,by omega,by omega,hr.2.2.2.1,hr.2.2.2.2⟩) _ (desc f p (m+1) (q+1) hp (by omega) (by omega) (h.more h1 (by rw [ek];exact bR _)) ⟨by have:=e.1;omega,fun k h2 h3=>?_⟩);rw [show m+1-1=m by omega,ek];by_cases z:k=m
    ·rw [z,ek]
    ·exact e.2 k (by omega) (by omega)
def ic{p:Array Nat}{m:Nat}(h:Dn key p m)(hm:m≤p.size):Up key (kas_rev p 0 m) m:=fun i j hij hj=>by
 unfold Key;rw [Jh hm,Jh hm,if_pos ⟨au _,by omega⟩,if_pos ⟨au _,by omega⟩];exact h (0+m-1-j) (0+m-1-i) (by omega) (by omega)
def tail3{p:Array Nat}{m:Nat}(hp:Pm n p)(h1:1≤m)(hm:m≤n)(h:Dn key p m):Wp (Fv key) n (kas_tail3 m n p) fun r=>Pm n r.2∧1≤r.1∧r.1≤n∧Up key r.2 r.1:=by
 unfold kas_tail3;refine Wp.bind _ (Wp.mono (fun r hr=>?_) _ (asc (hp.rev 0 m) (n-m) m h1 (ic h (by rw [hp.size];exact hm))));exact⟨hp.rev 0 m,by omega,by omega,hr.2.2.1⟩
def descPart{p:Array Nat}{m:Nat}(hp:Pm n p)(h1:1≤m)(hm:m+1≤n)(h:Dn key p (m+1)):Wp (Fv key) n (kas_descPart m n p) fun r=>Pm n r.2∧1≤r.1∧r.1≤n∧Up key r.2 r.1:=by
 unfold kas_descPart;refine Wp.bind _ (Wp.mono (fun r hr=>?_) _ (desc (n-(m+1)) p (m+1) 0 hp (by omega) (by omega) h ⟨by omega,fun k h1 h2=>by rw [show k=m+1-1 by omega]⟩));obtain⟨a,b,c,d,e⟩:=hr;have hz:r.2.1≤r.1.size:=by rw [a.size];omega
 split
 ·refine tail3 (a.rev _ _) (by omega) (by omega) fun i j hij hj=>?_;rw [rev_eq e hz,rev_eq e hz];exact d i j hij hj
 ·exact tail3 a (by omega) (by omega) d
def count{p:Array Nat}(hp:Pm n p):Wp (Fv key) n (kas_count n p) fun r=>Pm n r.2∧1≤r.1∧r.1≤n∧Up key r.2 r.1:=by
 have hn:=hp.pos;unfold kas_count;refine Wp.bind _ (Wp.mono (fun m hm=>?_) _ (asc hp (n-1) 1 (aI _) Up.one));obtain⟨h1,h2,h3,h4⟩:=hm;split
 ·exact⟨hp,h1,by omega,h3⟩
 ·rename_i hne;have hne':m≠n:=by simpa using hne
  have hk:O.klt (Key key p m) (Key key p (m-1)):=by
   rcases h4 with z|z
   ·exact absurd (by omega) hne'
   ·exact z
  have hz:m≤p.size:=by rw [hp.size];omega
  split
  ·refine⟨hp.lt _,hp.lt _,?_⟩;cases c:Fv key (p.getD 0 0) (p.getD (m-1) 0) with
   |true=>simp only [if_true];exact⟨hp,h1,by omega,h3⟩
   |false =>
    simp only [Bool.false_eq_true,if_false];have all:∀k,k<m→Key key p k=Key key p (m-1):=fun k hk'=>KeyOrd.kle_antisymm (h3 k (m-1) (by omega) (by omega)) (KeyOrd.kle_trans (show O.kle (Key key p (m-1)) (Key key p 0) from c) (h3 0 k (by omega) hk'));have ek:∀k,Key key (kas_rev p 0 m) k=Key key p k:=fun k=>by
     by_cases hk':k<m
     ·have:Key key (kas_rev p 0 m) k=Key key p (0+m-1-k):=by
       unfold Key;rw [Jh hz,if_pos ⟨au _,hk'⟩]
      rw [this,all _ (by omega),all k hk']
     ·unfold Key;rw [Jh hz,if_neg (by omega)]
    refine descPart (hp.rev _ _) h1 (by omega) fun i j hij hj=>?_;rw [ek,ek];by_cases e:j=m
    ·subst e;by_cases e2:i=j
     ·subst e2;exact bR _
     ·rw [all i (by omega)];exact KeyOrd.kle_of_klt hk
    ·rw [all i (by omega),all j (by omega)];exact bR _
  ·have:m=1:=by omega
   subst this;refine descPart hp h1 (by omega) fun i j hij hj=>?_;by_cases e:i=j
   ·subst e;exact bR _
   ·rw [show i=0 by omega,show j=1 by omega];exact KeyOrd.kle_of_klt hk
def place{p:Array Nat}{k:Nat}(hp:Pm n p)(hs:Up key p k):∀(f l r:Nat),l≤r→r≤k→r-l≤f→(∀i,i<l→O.kle (Key key p i) (Key key p k))→(∀i,r≤i→i<k→O.klt (Key key p k) (Key key p i)) →
  Wp (Fv key) n (kas_place p k f l r) fun x=>x≤k∧(∀i,i<x→O.kle (Key key p i) (Key key p k))∧∀i,x≤i→i<k→O.klt (Key key p k) (Key key p i)
 |0,l,r,h1,h2,h3,a,b=>by
  have:l=r:=by omega
  subst this;exact⟨h2,a,b⟩
 |f+1,l,r,h1,h2,h3,a,b=>by
  unfold kas_place;split
  ·have:l=r:=by omega
   subst this;exact⟨h2,a,b⟩
  ·refine⟨hp.lt _,hp.lt _,?_⟩;cases c:Fv key (p.getD k 0) (p.getD ((l+r) / 2) 0) with
   |true =>
    simp only [if_true];exact place hp hs f l ((l+r) / 2) (by omega) (by omega) (by omega) a fun i x1 x2=>KeyOrd.klt_of_klt_of_kle (show O.klt (Key key p k) (Key key p ((l+r) / 2)) from c) (hs _ _ x1 x2)
   |false =>
    simp only [Bool.false_eq_true,if_false];exact place hp hs f ((l+r) / 2+1) r (by omega) h2 (by omega) (fun i x1=>KeyOrd.kle_trans (hs i ((l+r) / 2) (by omega) (by omega)) (show O.kle (Key key p ((l+r) / 2)) (Key key p k) from c)) b
def bin:∀(f:Nat) (p:Array Nat) (k:Nat),Pm n p→1≤k→k+f=n→Up key p k→Wp (Fv key) n (kas_bin f p k) fun r=>Pm n r∧Up key r n
 |0,p,k,hp,_,hk,h=>by
  have:k=n:=by omega
  subst this;exact⟨hp,h⟩
 |f+1,p,k,hp,h1,hk,h=>by
  have hks:k<p.size:=by rw [hp.size];omega
  refine Wp.bind _ (Wp.mono (fun l hl=>?_) _ (place hp h k 0 k (au _) (aI _) (by omega) (fun i z=>absurd z (by omega)) fun i z1 z2=>absurd z1 (by omega)));obtain⟨hlk,hlo,hhi⟩:=hl;refine bin f _ (k+1) (hp.bubble _ _) (by omega) (by omega) fun i j hij hj=>?_;have kb:∀x,Key key (PyProof.Rows.bubble p k (k-l)) x=if x=l then Key key p k else if l<x∧x≤k then Key key p (x-1) else Key key p x:=fun x=>by
   unfold Key;rw [Uq hks (by omega),show k-(k-l)=l by omega];split
   ·rfl
   ·split<;>rfl
  rw [kb,kb]
  repeat' split
  all_goals first
   |(exfalso;omega)
   |exact bR _
   |exact hlo _ (by omega)
   |exact KeyOrd.kle_of_klt (hhi _ (by omega) (by omega))
   |exact h _ _ (by omega) (by omega)
def sort(hn:0<n):Wp (Fv key) n (kas_sort n) fun p=>Pm n p∧Up key p n:=by
 have hp:Pm n (List.toArray (List.range n)):=⟨Array.Perm.refl _,hn⟩;unfold kas_sort;refine Wp.bind _ (Wp.mono (fun r hr=>?_) _ (count hp));obtain⟨a,b,c,d⟩:=hr;split
 ·rw [show max r.1 1=r.1 by omega];exact bin _ _ _ a b (by omega) d
 ·have:r.1=n:=by omega
  rw [this]at d;exact⟨a,d⟩
end
end SM
namespace Tr
def N3(x:Tr):∀l:List Tr,(ins x l).Perm (x::l)
 |[]=>.refl _
 |y::r=>by
  rw [ins];split
  ·exact((N3 x r).cons y).trans (.swap x y r)
  ·exact .refl _
def Ja:∀l:List Tr,(B1 l).Perm l
 |[]=>.refl _
 |x::r=>by
  rw [B1];exact(N3 x (B1 r)).trans ((Ja r).cons x)
abbrev QL(l:List Tr):Prop:=l.Pairwise fun a b=>lt a b=false
def SX(x:Tr):∀l:List Tr,QL l→QL (ins x l)
 |[],_=>List.pairwise_singleton _ _
 |y::r,h=>by
  obtain⟨h1,h2⟩:=List.pairwise_cons.mp h;rw [ins];split
  ·rename_i c;refine List.pairwise_cons.mpr ⟨fun z hz=>?_,SX x r h2⟩;rcases aK.mp ((N3 x r).mem_iff.mp hz) with rfl|hz
   ·exact lt_asymm c
   ·exact h1 z hz
  ·rename_i c;have c':lt x y=false:=by simpa using c
   refine List.pairwise_cons.mpr ⟨fun z hz=>?_,h⟩;rcases aK.mp hz with rfl|hz
   ·exact c'
   ·cases e:lt x z with
    |false=>rfl
    |true =>
     rcases Nc x y z e with q|q
     ·rw [c']at q;cases q
     ·rw [h1 z hz]at q;cases q
def JX:∀l:List Tr,QL (B1 l)
 |[]=>List.Pairwise.nil
 |x::r=>by rw [B1];exact SX x _ (JX r)
def KZ:∀ {l m:List Tr},QL l→QL m→l.Perm m→l=m
 |[],m,_,_,p=>(List.nil_perm.mp p).symm
 |x::r,[],_,_,p=>absurd p.length_eq (by simp)
 |x::r,y::q,h1,h2,p=>by
  obtain⟨a1,a2⟩:=List.pairwise_cons.mp h1;obtain⟨b1,b2⟩:=List.pairwise_cons.mp h2;have hx:x∈y::q:=p.mem_iff.mp ai;have hy:y∈x::r:=p.mem_iff.mpr ai;have e:x=y:=by
   rcases aK.mp hx with e|hx
   ·exact e
   ·rcases aK.mp hy with e|hy
    ·exact e.symm
    ·exact JZ x y (a1 y hy) (b1 x hx)
  subst e;rw [KZ a2 b2 (List.Perm.cons_inv p)]
def Yc{l m:List Tr}(h:QL m)(p:m.Perm l):m=B1 l:=KZ h (JX l) (p.trans (Ja l).symm)
def PH{l m:List Tr}(h:m.Pairwise fun a b=>lt b a=false)(p:m.Perm l):m=(B1 l).reverse:=by
 have:m.reverse=B1 l:=Yc (List.pairwise_reverse.mpr h) ((List.reverse_perm m).trans p);rw [←this,List.reverse_reverse]
def M9(n:Nat):∀l:List Tr,(of l).deep≤n ↔ ∀c∈l,c.deep+1≤n
 |[]=>by simp [of,deep]
 |b::r=>by
  rw [of,deep,List.forall_mem_cons,←M9 n r];omega
def XT{l m:List Tr}(p:l.Perm m):(of l).deep≤(of m).deep:=(M9 _ l).mpr fun c hc=>(M9 _ m).mp (aI _) c (p.mem_iff.mp hc)
def Zd(t:Tr):(of t.bs.reverse).deep≤t.deep:=by
 have:=XT (List.reverse_perm t.bs)
 rwa [PQ]at this
def ord:PyProof.Rows.KeyOrd where
 α:=Tr
 blt:=lt
 irrefl:=lt_irrefl
 trans:=lt_trans
 negTrans:=Nc
 total:=JZ
end Tr
namespace TH
open PySem PySem.W PyProof.Rows PySem.SeqAt
def Vs.at{h:Heap}:∀ {t:Tr} {us:List VL} {i:Nat},Vs h t us→i<us.length→∃(a:AD) (its:List VL) (c:Tr),us.getD i Value.none=.ref a∧h.IsTuple a its.toArray∧Vs h c its∧t.bs[i]? = some c∧c.deep<t.deep
 |.nil,us,i,e,hi=>by rw [Vs]at e;subst e;exact absurd hi (aq _)
 |.cons b r,us,i,e,hi=>by
  rw [Vs]at e;obtain⟨a,its,rest,rfl,h1,h2,h3⟩:=e;have hd:(Tr.cons b r).deep=max (b.deep+1) r.deep:=rfl;cases i with
  |zero=>exact⟨a,its,b,rfl,h1,h2,rfl,by omega⟩
  |succ i =>
   obtain⟨a',its',c,q1,q2,q3,q4,q5⟩:=Vs.at (i:=i) h3 (by simpa using hi);exact⟨a',its',c,by simpa using q1,q2,q3,by simpa [Tr.bs]using q4,by omega⟩
def Vs.MC{h:Heap}:∀(ts:List Tr) (us:List VL),us.length=ts.length→(∀i,i<ts.length→∃(a:AD) (its:List VL) (c:Tr),us[i]? = some (.ref a)∧h.IsTuple a its.toArray∧Vs h c its∧ts[i]? = some c)→Vs h (Tr.of ts) us
 |[],us,hl,_=>by
  rw [Tr.of,Vs];exact List.eq_nil_of_length_eq_zero (by simpa using hl)
 |t::ts,[],hl,_=>by simp at hl
 |t::ts,u::us,hl,h=>by
  rw [Tr.of,Vs];obtain⟨a,its,c,e1,e2,e3,e4⟩:=h 0 (by simp);simp at e1 e4;subst e1 e4;refine⟨a,its,us,rfl,e2,e3,Vs.MC ts us (by simpa using hl) fun i hi=>?_⟩;obtain⟨a',its',c',q1,q2,q3,q4⟩:=h (i+1) (by simpa using hi);exact⟨a',its',c',by simpa using q1,q2,q3,by simpa using q4⟩
def Vs.all{h:Heap}{t:Tr}{us:List VL}(e:Vs h t us):∀i,i<t.bs.length→∃(a:AD) (its:List VL) (c:Tr),us[i]? = some (.ref a)∧h.IsTuple a its.toArray∧Vs h c its∧t.bs[i]? = some c:=fun i hi=>by
 have hl:i<us.length:=by rw [Vs.length e,←Tr.DD];exact hi
 obtain⟨a,its,c,q1,q2,q3,q4,_⟩:=e.at hl;refine⟨a,its,c,?_,q2,q3,q4⟩;rw [List.getD_eq_getElem?_getD,List.getElem?_eq_getElem hl]at q1;rw [List.getElem?_eq_getElem hl]
 simpa using q1
section
variable{prog:Program}{w:World}{A:Around}{E:VL→SD→Prop}{s:SD}{t u:Tr}{a b:AD}{its its':List VL}{Q:Bool→SD→Prop}
def Qm(h1:s.heap.IsTuple a its.toArray)(k1:Vs s.heap t its)(h2:s.heap.IsTuple b its'.toArray)(k2:Vs s.heap u its')(hu:A.units+t.deep<cLine)(h:Q (Tr.lt t u) s):wpAny (model prog w) A (oneLt' false (.ref a) (.ref b)) Q E s:=by
 rw [oneLt'_eq];simp only [Bool.false_eq_true,if_false];exact Wb (R6 (t.deep+1) t u A s a b its its' (bM _) h1 k1 h2 k2 hu prog w E _ (wpAny_truthy_bool h))
def eI(h1:s.heap.IsTuple a its.toArray)(k1:Vs s.heap t its)(h2:s.heap.IsTuple b its'.toArray)(k2:Vs s.heap u its')(hu:A.units+t.deep<cLine)(h:Q (Tr.lt t u) s):wpAny (model prog w) A (oneLt' true (.ref a) (.ref b)) Q E s:=by
 rw [oneLt'_eq];simp only [if_true];refine Wb (wpAny_cRoomFor (by omega) ?_);obtain⟨⟨cls,dd,data,sl⟩,ho,hc,n,hdt⟩:=id h1;obtain⟨⟨cls2,dd2,data2,sl2⟩,ho2,hc2,n2,hdt2⟩:=id h2;simp only at hc hdt hc2 hdt2;subst hc hdt hc2 hdt2;refine Wb (wpAny_callSpecialIfBound?_slot (T := "tuple") ⟨_,ho,rfl⟩ PySem.F.slot_tuple_lt (call_meets PySem.F.slot_tuple_lt ⟨_,ho,rfl⟩ PySem.F.entry_tuple_lt (PySem.F.args_tuple_lt_2 _ _)
  (S6 t.deep (R6 t.deep) a b its.toArray its'.toArray n n2 dd dd2 sl sl2 t u (aI _)) ⟨ho,ho2,by simpa using k1,by simpa using k2,hu,?_⟩))
 exact wpAny_truthy_bool h
def Uz:∀(t u:Tr) (us vs:List VL) (i:Nat),Vs s.heap t us→Vs s.heap u vs→A.units+t.deep≤cLine→Q (Tr.lt t u) s→KatLex prog w A false (decide (t.len<u.len)) Q (us.zip vs) i s
 |.nil,.nil,us,vs,i,e,f,_,h=>by
  rw [Vs]at e;subst e;rw [List.zip_nil_left];exact kat_nil h
 |.nil,.cons c q,us,vs,i,e,f,_,h=>by
  rw [Vs]at e;subst e;rw [List.zip_nil_left];refine kat_nil ?_;rw [show decide (Tr.nil.len<(Tr.cons c q).len)=true from bH (Nat.zero_lt_succ _)];exact h
 |.cons b r,.nil,us,vs,i,e,f,_,h=>by
  rw [Vs]at f;subst f;rw [List.zip_nil_right];refine kat_nil ?_;rw [show decide ((Tr.cons b r).len<Tr.nil.len)=false from bE (aq _)];exact h
 |.cons b r,.cons c q,us,vs,i,e,f,hu,h=>by
  rw [Vs]at e f;obtain⟨a,its,rest,rfl,k1,k2,k3⟩:=e;obtain⟨a',its',rest',rfl,l1,l2,l3⟩:=f;have hd:(Tr.cons b r).deep=max (b.deep+1) r.deep:=rfl;rw [List.zip_cons_cons,show decide ((Tr.cons b r).len<(Tr.cons c q).len)=decide (r.len<q.len) from by simp [Tr.len]];rw [Tr.lt]at h;refine kat_cons (Mr k1 k2 l1 l2 (by omega) prog w _ _ ?_);by_cases hbc:b=c
  ·rw [decide_eq_true hbc];rw [if_pos hbc]at h;exact kat_yes (Uz r q rest rest' (i+1) k3 l3 (by omega) h)
  ·rw [decide_eq_false hbc];rw [if_neg hbc]at h;exact kat_no (by rw [Bool.false_and];exact Qm k1 k2 l1 l2 (by omega) h)
def fD(h1:s.heap.IsTuple a its.toArray)(k1:Vs s.heap t its)(h2:s.heap.IsTuple b its'.toArray)(k2:Vs s.heap u its')(hu:A.units+t.deep<cLine)(h:Q (Tr.lt t u) s):wpAny (model prog w) A (keyLt' (tuples' false) (.ref a) (.ref b)) Q E s:=by
 obtain⟨o,ho,hc,n,hd⟩:=id h1;obtain⟨o2,ho2,hc2,n2,hd2⟩:=id h2;refine kat_lt ho hd ho2 hd2 ?_;have z1:its.toArray.size=t.len:=by rw [←Vs.length k1];simp
 have z2:its'.toArray.size=u.len:=by rw [←Vs.length k2];simp
 rw [z1,z2];exact Uz t u its its' 0 k1 k2 (by omega) h
def SV(κ:SortKind):Prop:=κ=general'∨κ=oneType'∨κ=tuples' false
def eZ{κ:SortKind}(hκ:SV κ)(h1:s.heap.IsTuple a its.toArray)(k1:Vs s.heap t its)(h2:s.heap.IsTuple b its'.toArray)(k2:Vs s.heap u its')(hu:A.units+t.deep<cLine)(h:Q (Tr.lt t u) s):wpAny (model prog w) A (keyLt' κ (.ref a) (.ref b)) Q E s:=by
 rcases hκ with rfl|rfl|rfl
 ·exact Qm h1 k1 h2 k2 hu h
 ·rw [keyLt'_oneType];exact eI h1 k1 h2 k2 hu h
 ·exact fD h1 k1 h2 k2 hu h
def KY{M:Model}{h:Heap}{a:AD}{x:Array VL}(h1:h.IsTuple a x):Looks M h (typeOf (.ref a)) (.type "tuple"):=by
 obtain⟨o,ho,hc,_⟩:=h1;exact hc ▸ (Looks.ld ho).andThen .now
def RD{M:Model}:∀(t:Tr) (us:List VL) {Q:List (Option VL)→SD→Prop},Vs s.heap t us→(∀fs:List (Option VL),(∀v,some v∈fs→Looks M s.heap (typeOf v) (.type "tuple"))→Q fs s)→wpAny M A (us.mapM firstOfTuple') Q E s
 |.nil,us,Q,e,h=>by
  rw [Vs]at e;subst e;rw [List.mapM_nil];exact aA (h [] fun _ z=>by cases z)
 |.cons b r,us,Q,e,h=>by
  rw [Vs]at e;obtain⟨a,its,rest,rfl,h1,h2,h3⟩:=e;obtain⟨o,ho,hc,n,hd⟩:=id h1;rw [List.mapM_cons];refine Wb ?_;rw [kas_first_eq];refine Wb (Looks.here (show Looks M s.heap (typeOf (.ref a)) o.cls from(Looks.ld ho).andThen .now) ?_);rw [hc,if_neg (by first|decide|simp)];refine Wb (listItems_at ho hd (aA ?_));refine Wb (RD r rest (Q:=fun bs s'=>wpAny M A (pure (its.toArray[0]? :: bs)) Q E s') h3 fun fs hfs=>aA (h _ fun v hv=>?_));rcases aK.mp hv with z|z
  ·cases b with
   |nil=>rw [Vs]at h2;subst h2;simp at z
   |cons c q =>
    rw [Vs]at h2;obtain⟨a',its',rest',rfl,k1,_⟩:=h2;simp at z;subst z;exact KY k1
  ·exact hfs v z
def Ql{M:Model}{vs:List VL}{Q:Option VL→SD→Prop}(hT:∀v∈vs,Looks M s.heap (typeOf v) (.type "tuple"))(h0:vs=[]→Q none s)(h1:Q (some (.type "tuple")) s):wpAny M A (oneTypeOnly' vs.toArray) Q E s:=by
 rw [oneTypeOnly'_eq,List.mapM_toArray,map_eq_pure_bind];refine Wb (Wb (kas_mapM (r:=Value.type "tuple") _ (fun v hv Q' hq=>(hT v hv).here hq) (aA ?_)));cases vs with
 |nil=>exact aA (h0 rfl)
 |cons f r =>
  have hall:((List.map (fun _=>Value.type "tuple") (f::r)).toArray.all fun x=>x==Value.type "tuple")=true:=by
   simp only [List.all_toArray,List.all_map,List.all_eq_true];intro _ _
   rfl
  have e0:(List.map (fun _=>Value.type "tuple") (f::r)).toArray[0]? = some (Value.type "tuple"):=by simp
  rw [e0];simp only [hall,if_true];exact aA h1
def fK{M:Model}{t:Tr}{us:List VL}{Q:SortKind→SD→Prop}(e:Vs s.heap t us)(h:∀κ,SV κ→Q κ s):wpAny M A (keyKind' us.toArray) Q E s:=by
 rw [kat_kind_eq,List.mapM_toArray,map_eq_pure_bind];refine Wb (Wb (RD t us e fun fs hfs=>aA ?_));split
 ·refine Wb (bJ ?_);have e1:fs.toArray.filterMap id=(fs.filterMap id).toArray:=by simp
  rw [e1];have hl:∀v∈fs.filterMap id,Looks M s.heap (typeOf v) (.type "tuple"):=fun v hv=>hfs v (by simpa using hv);refine Wb (Ql hl (fun _=>?_) ?_)
  ·exact aA (h _ (.inr (.inr rfl)))
  ·exact aA (h _ (.inr (.inr rfl)))
 ·split
  ·exact aA (h _ (.inl rfl))
  ·have hl:∀v∈us,Looks M s.heap (typeOf v) (.type "tuple"):=fun v hv=>by
    obtain⟨i,hi,rfl⟩:=List.getElem_of_mem hv;obtain⟨a,its,c,q1,q2,_⟩:=e.at hi;rw [List.getD_eq_getElem?_getD,List.getElem?_eq_getElem hi]at q1;simp at q1;rw [q1];exact KY q2
   refine Wb (Ql hl (fun _=>?_) ?_)
   ·exact aA (h _ (.inl rfl))
   ·exact aA (h _ (.inr (.inl rfl)))
def OJ{α:Type}{cmp:Nat→Nat→(Bool→SD→Prop)→SD→Prop}{lt:Nat→Nat→Bool}{n:Nat}{Q':α→Prop}(hc:∀i j C,i<n→j<n→C (lt i j) s→cmp i j C s):∀T:KasT α,SM.Wp lt n T Q'→T.kasWp cmp (fun a s'=>s'=s∧Q' a) s
 |.ret a,h=>⟨rfl,h⟩
 |.ask i j k,h=>hc i j _ h.1 h.2.1 (OJ hc (k (lt i j)) h.2.2)
end
end TH
namespace TH
open PySem PySem.W PyProof.Rows PySem.SeqAt
def Vs.keeps{h h':Heap}(k:∀b o,h.get? b=some o→o.cls=.type "tuple" → h'.get? b=some o):∀ {t:Tr} {us:List VL},Vs h t us→Vs h' t us
 |.nil,us,e=>by rw [Vs]at e ⊢;exact e
 |.cons b r,us,e=>by
  rw [Vs]at e ⊢;obtain⟨a,its,rest,rfl,⟨o,ho,hc,hd⟩,h2,h3⟩:=e;exact⟨a,its,rest,rfl,⟨o,k _ _ ho hc,hc,hd⟩,h2.keeps k,h3.keeps k⟩
def map_getD{α:Type}(d:α)(l:List α):(List.range l.length).map (fun i=>l.getD i d)=l:=by
 refine List.ext_getElem (by simp) fun i h1 h2=>?_;simp [h2]
def Vs.rev{h:Heap}{t:Tr}{us:List VL}(e:Vs h t us):Vs h (Tr.of t.bs.reverse) us.reverse:=by
 have hl:us.length=t.bs.length:=by rw [e.length,Tr.DD]
 refine Vs.MC _ _ (by simp [hl]) fun i hi=>?_;rw [List.length_reverse]at hi;obtain⟨a,its,c,q1,q2,q3,q4⟩:=e.all (t.bs.length-1-i) (by omega);exact⟨a,its,c,by rw [List.getElem?_reverse (by omega),hl];exact q1,q2,q3,by rw [List.getElem?_reverse hi];exact q4⟩
section
variable{prog:Program}{w:World}{A:Around}{E:VL→SD→Prop}{s:SD}
def Zl{κ:SortKind}{t:Tr}{ws:List VL}(hκ:SV κ)(e:Vs s.heap t ws)(h2:2≤ws.length)(h64:ws.length<64)(hu:A.units+t.deep≤cLine) :
  wpAny (model prog w) A ((sortRuns').run (SortSt.mk' κ (ws.toArray.zip ws.toArray) #[] 7 none)) (fun r s'=>s'=s∧failedOf r.2=none∧∃ix:List Nat,ix.length=ws.length∧(∀i∈ix,i<ws.length) ∧
   (arrOf r.2).map (·.2)=(ix.map fun i=>ws.getD i Value.none).toArray∧(ix.map fun i=>t.bs.getD i .nil)=(Tr.B1 t.bs).reverse) E s:=by
 have hl:ws.length=t.bs.length:=by rw [e.length,Tr.DD]
 have key:∀i,i<ws.length→∃(a:AD) (its:List VL),ws.getD i Value.none=.ref a∧s.heap.IsTuple a its.toArray∧Vs s.heap (t.bs.getD i .nil) its∧(t.bs.getD i .nil).deep<t.deep:=fun i hi=>by
  obtain⟨a,its,c,q1,q2,q3,q4,q5⟩:=e.at hi;have:t.bs.getD i .nil=c:=by rw [List.getD_eq_getElem?_getD,q4];rfl
  rw [this];exact⟨a,its,q1,q2,q3,q5⟩
 refine kat_run (Q:=fun st' s'=>s'=s∧failedOf st'=none∧∃ix:List Nat,ix.length=ws.length∧(∀i∈ix,i<ws.length)∧(arrOf st').map (·.2)=(ix.map fun i=>ws.getD i Value.none).toArray∧(ix.map fun i=>t.bs.getD i .nil)=(Tr.B1 t.bs).reverse)
  (G:=fun p s'=>s'=s∧SM.Pm ws.length p∧SM.Up (O:=Tr.ord) (fun i=>t.bs.getD i .nil) p ws.length) rfl h2 h64 (fun p st' s' hp har hf hG=>?_)
  (OJ (lt:=SM.Fv (O:=Tr.ord) fun i=>t.bs.getD i .nil) (n:=ws.length) (fun i j C hi hj hC=>?_) _ (SM.sort (by omega)))
 ·obtain⟨rfl,hpm,hup⟩:=hG;have h1:p.toList.Perm (List.range ws.length):=by simpa using Array.perm_iff_toList_perm.mp hpm.perm
  refine⟨rfl,hf,p.toList,by rw [Array.length_toList,hp],fun i hi=>az.mp (h1.mem_iff.mp hi),kat_snds rfl har,?_⟩;have perm:(p.toList.map fun i=>t.bs.getD i .nil).Perm t.bs:=by
   have h3:=h1.map fun i=>t.bs.getD i Tr.nil
   rwa [hl,map_getD]at h3
  refine Tr.PH (List.pairwise_iff_getElem.mpr fun i j hi hj hij=>?_) perm;rw [List.length_map,Array.length_toList,hp]at hi hj;have:=hup i j (by omega) hj;have e1:∀k,k<ws.length→∀hk,(p.toList.map fun i=>t.bs.getD i Tr.nil)[k]'hk=t.bs.getD (p.getD k 0) .nil:=fun k hk hk'=>by
   rw [List.getElem_map,Array.getElem_toList,Array.getD,dif_pos (by omega)]
   rfl
  rw [e1 i hi,e1 j hj];exact this
 ·obtain⟨a,its,q1,q2,q3,q4⟩:=key i hi;obtain⟨a',its',r1,r2,r3,r4⟩:=key j hj;unfold kas_ask;rw [q1,r1];exact eZ hκ q2 q3 r2 r3 (by omega) hC
def Qs(b:Bool)(us:List VL)(hz:us.length<2):(if b=true then((if b=true then(us.toArray.zip us.toArray).reverse else us.toArray.zip us.toArray).map (·.2)).reverse else(if b=true then(us.toArray.zip us.toArray).reverse else us.toArray.zip us.toArray).map (·.2))=us.toArray:=by
 match us,hz with
 |[],_=>cases b<;>simp
 |[x],_=>cases b<;>simp
def JI{a : AD}{us : List VL}{t : Tr}{n : Nat}{b : Bool}{P : PySem.Fin→SD→Prop}(ho : s.heap.get? a = some (seqObj "list" us.toArray n))(e : Vs s.heap t us)(h64 : us.length < 64)(hu : A.units + t.deep≤cLine)
 (h : ∀ ix : List Nat,ix.length = us.length→(∀ i∈ix,i < us.length)→(ix.map fun i => t.bs.getD i .nil) = (if b then Tr.B1 t.bs else (Tr.B1 t.bs).reverse)→P (.done (.ret .none)) { s with heap:=sortedHeap s.heap a us (ix.map fun i => us.getD i Value.none).toArray }) :
    wpAny (model prog w) A (Builtin.«list.sort» ⟨[.ref a],[(Str.ofString "reverse",.bool b)]⟩) P E s := by
  rw [list_sort_rev]
  have ha : a < s.heap.objs.size:=aF ho
  refine Wb (listItems_at ho rfl ?_)
  refine Wb (listUpdate_at ho rfl ?_ (by rw [List.size_toArray,sizeLine_eq]; omega) (au _))
  obtain ⟨e1,ho1⟩ : ∃ e1,(s.heap.update a (Obj.mapSeq fun _ => #[])).get? a = some (seqObj "list" #[] e1):=⟨_,get?_update_seq ho (fun _ => #[])⟩
  refine Wb (seqEpoch_at ho1 rfl ?_)
  refine Wb (wpAny_newTuple ?_ (by show us.length≤_; rw [sizeLine_eq]; omega))
  refine Wb (bX ?_ (au _))
  refine aP ?_
  have ho6 : (((s.heap.update a (Obj.mapSeq fun _ => #[])).push (seqObj "tuple" us.toArray 0)).push (seqObj "list" #[] 0)).get? a = some (seqObj "list" #[] e1) := by
    rw [Heap.get?_push_ne _ _ _ (by rw [size_push',Heap.size_update]; exact aG (ar ha)),Heap.get?_push_ne _ _ _ (by rw [Heap.size_update]; exact aG ha)]
    exact ho1
  have keep : ∀ c o,s.heap.get? c = some o→o.cls = .type "tuple" → (((s.heap.update a (Obj.mapSeq fun _ => #[])).push (seqObj "tuple" us.toArray 0)).push (seqObj "list" #[] 0)).get? c = some o:=fun c o hc hcl => by
    have hne : c≠a:=fun z => by
      rw [z,ho] at hc
      cases hc
      exact absurd (show Value.type "list" = Value.type "tuple" from hcl) (by decide)
    refine aD _ (aD _ ?_)
    rw [Heap.get?_update_ne _ _ _ _ hne]
    exact hc
  show wpAny (model prog w) A _ P E { s with heap:=((s.heap.update a (Obj.mapSeq fun _ => #[])).push (seqObj "tuple" us.toArray 0)).push (seqObj "list" #[] 0) }
  have e6:=e.keeps keep
  dsimp only
  have step : ∀ T : Sem PySem.Fin,wpAny (model prog w) A T P E { s with heap:=((s.heap.update a (Obj.mapSeq fun _ => #[])).push (seqObj "tuple" us.toArray 0)).push (seqObj "list" #[] 0) } →
      wpAny (model prog w) A (if b = true then (do let _ ← rule "list.sort.reverse"; T) else T) P E { s with heap:=((s.heap.update a (Obj.mapSeq fun _ => #[])).push (seqObj "tuple" us.toArray 0)).push (seqObj "list" #[] 0) } := by
    intro T hT
    split
    · exact Wb (bJ hT)
    · exact hT
  refine step _ ?_
  by_cases h2 : us.toArray.size < 2
  · rw [if_pos h2,if_pos h2]
    refine Wb (aA ?_)
    rw [StateT.run_pure]
    refine Wb (aA ?_)
    dsimp only
    have hz : us.length < 2 := by simpa using h2
    have hout:=Qs b us hz
    refine Wb (seqEpoch_at ho6 rfl ?_)
    refine Wb (listUpdate_at ho6 rfl ?_ (au _) (by
      refine ae (Nat.le_of_eq (bF Array.size hout)) ?_
      rw [List.size_toArray,sizeLine_eq]; omega))
    simp only [bne_self_eq_false,Bool.false_eq_true,if_false]
    have hl : us.length = t.bs.length := by rw [e.length,Tr.DD]
    have fin:=h (List.range us.length) (by simp) (fun i hi => az.mp hi) (by
      rw [hl,map_getD]
      match hbs : t.bs,(show t.bs.length < 2 by omega) with
      | [],_ => cases b <;> rfl
      | [_],_ => cases b <;> rfl)
    rw [map_getD] at fin
    rw [← hout] at fin
    exact aA fin
  · rw [if_neg h2,if_neg h2]
    have hz : 2≤us.length := by simpa using h2
    refine Wb (fK (s:={ s with heap:=((s.heap.update a (Obj.mapSeq fun _ => #[])).push (seqObj "tuple" us.toArray 0)).push (seqObj "list" #[] 0) }) e6 fun κ hκ => ?_)
    have hl : us.length = t.bs.length := by rw [e.length,Tr.DD]
    obtain ⟨ws,tw,ew,hwl,hws,hdp,pick⟩ : ∃ (ws : List VL) (tw : Tr),Vs (((s.heap.update a (Obj.mapSeq fun _ => #[])).push (seqObj "tuple" us.toArray 0)).push (seqObj "list" #[] 0)) tw ws∧ws.length = us.length ∧
        (if b = true then (us.toArray.zip us.toArray).reverse else us.toArray.zip us.toArray) = ws.toArray.zip ws.toArray∧tw.deep≤t.deep ∧
        ∀ (_b : Bool) (ix : List Nat),ix.length = ws.length→(∀ i∈ix,i < ws.length)→(ix.map fun i => tw.bs.getD i .nil) = (Tr.B1 tw.bs).reverse→∃ iy : List Nat,iy.length = us.length∧(∀ i∈iy,i < us.length)∧(iy.map fun i => t.bs.getD i .nil) = (if b then Tr.B1 t.bs else (Tr.B1 t.bs).reverse) ∧
          (if b = true then ((ix.map fun i => ws.getD i Value.none).toArray).reverse else (ix.map fun i => ws.getD i Value.none).toArray) = (iy.map fun i => us.getD i Value.none).toArray := by
      cases b with
      | false => exact ⟨us,t,e6,rfl,rfl,Nat.le_refl _,fun _ ix h1 h2 h3 => ⟨ix,h1,h2,h3,rfl⟩⟩
      | true =>
        have hsrt : Tr.B1 t.bs.reverse = Tr.B1 t.bs:=Tr.Yc (Tr.JX _) ((Tr.Ja _).trans (List.reverse_perm _))
        refine ⟨us.reverse,Tr.of t.bs.reverse,e6.rev,by simp,kat_pairs (ks:=us) (vs:=us) true rfl,Tr.Zd t,fun _ ix h1 h2 h3 => ⟨(ix.map fun i => us.length - 1 - i).reverse,by simpa using h1,fun i hi => ?_,?_,?_⟩⟩
        · rw [List.mem_reverse,List.mem_map] at hi
          obtain ⟨k,hk,rfl⟩:=hi
          have:=h2 k hk
          rw [List.length_reverse] at this
          omega
        · rw [Tr.WD,hsrt] at h3
          rw [List.map_reverse,List.map_map]
          have : (ix.map ((fun i => t.bs.getD i Tr.nil) ∘ fun i => us.length - 1 - i)) = ix.map fun i => t.bs.reverse.getD i .nil:=aT fun i hi => by
            have:=h2 i hi
            rw [List.length_reverse] at this
            show t.bs.getD (us.length - 1 - i) Tr.nil = _
            rw [List.getD_eq_getElem?_getD,List.getD_eq_getElem?_getD,List.getElem?_reverse (by omega),hl]
          rw [this,h3,List.reverse_reverse]
          rfl
        · rw [if_pos rfl,List.map_reverse,List.map_map,List.reverse_toArray]
          congr 2
          exact aT fun i hi => by
            have:=h2 i hi
            rw [List.length_reverse] at this
            show us.reverse.getD i Value.none = us.getD (us.length - 1 - i) Value.none
            rw [List.getD_eq_getElem?_getD,List.getD_eq_getElem?_getD,List.getElem?_reverse (by omega)]
    rw [hws]
    refine Wb (ag (Zl (s:={ s with heap:=((s.heap.update a (Obj.mapSeq fun _ => #[])).push (seqObj "tuple" us.toArray 0)).push (seqObj "list" #[] 0) }) hκ ew (by omega) (by omega) (by omega)) ?_ fun _ _ z => z)
    rintro ⟨⟨⟩,st'⟩ s' ⟨rfl,hf,ix,hil,hix,hout,hst⟩
    dsimp only
    refine Wb (seqEpoch_at ho6 rfl ?_)
    obtain ⟨iy,y1,y2,y3,hfin⟩ : ∃ iy : List Nat,iy.length = us.length∧(∀ i∈iy,i < us.length)∧(iy.map fun i => t.bs.getD i .nil) = (if b then Tr.B1 t.bs else (Tr.B1 t.bs).reverse) ∧
        (if b = true then ((arrOf st').map (·.2)).reverse else (arrOf st').map (·.2)) = (iy.map fun i => us.getD i Value.none).toArray := by
      rw [show (arrOf st').map (·.2) = _ from hout]
      exact pick b ix hil hix hst
    refine Wb (listUpdate_at ho6 rfl ?_ (au _) (by
      refine ae (Nat.le_of_eq (bF Array.size hfin)) ?_
      rw [List.size_toArray,List.length_map,y1,sizeLine_eq]; omega))
    rw [show failedOf st' = none from hf]
    simp only [bne_self_eq_false,Bool.false_eq_true,if_false]
    have fin:=h iy y1 y2 y3
    rw [← hfin] at fin
    exact aA fin
end
end TH
namespace ET
open PySem
section
variable{prog:Program}{w:World}{A:Around}{E:VL→SD→Prop}{s:SD}
def next_item{it t:AD}{i:Nat}{items}{x:VL}{Q:VL→SD→Prop}(hit:s.heap.IsTupleIter it t i)(ht:s.heap.IsTuple t items)(hx:items[i]? = some x)
 (hQ:∀h',h'.IsTupleIter it t (i+1)→Heap.SameBut it s.heap h'→Q x { s with heap:=h' }):wpAny (model prog w) A (Builtin.SmallTypes.nextOf (.ref it)) Q E s:=by
 obtain⟨o,ho,hc,hd⟩:=id hit;obtain⟨ol,hol,_,nl,hdl⟩:=ht;unfold Builtin.SmallTypes.nextOf;refine Wb (aj (name:=Str.ofString "__next__") hit.typeIs F.slot_tuple_iterator_next
  (af F.slot_tuple_iterator_next hit.typeIs F.entry_tuple_iterator_next ?_ (F.args_tuple_iterator_next_1 _)))
 show wpAny _ _ (field (.ref it) 0>>=_) _ _ s;refine Wb (ak ho hd (x:=.ref t) rfl ?_);show wpAny _ _ (if(Value.ref t==Value.none)=true then _ else _) _ _ s;rw [if_neg (show ¬((Value.ref t==Value.none)=true) from aJ)];show wpAny _ _ (field (.ref it) 1>>=_) _ _ s;refine Wb (ak ho hd (x:=.int i 0) rfl ?_);show wpAny _ _ (seqItems? (.ref t)>>=_) _ _ s;refine Wb (bA hol hdl ?_);simp only [Int.toNat_natCast,hx];refine Wb (wpAny_setField ho hd (by simp) (aA ⟨x,rfl,wpAny_pure (hQ _ ?_ (aY ..))⟩));exact⟨_,Heap.get?_update_self _ ho (Obj.isFreed_of_fields (Obj.data_mapFields hd _)),(Obj.cls_mapFields ..).trans hc,by
  rw [Obj.data_mapFields hd];simp [rawInt]⟩
def next_end{it t:AD}{i:Nat}{items}{Q:VL→SD→Prop}(hh:A.handled=none)(hit:s.heap.IsTupleIter it t i)(ht:s.heap.IsTuple t items)(hx:items[i]? = none)
 (hE:∀h' e,Heap.ExtBut it s.heap h'→(∃o,h'.get? e=some o∧o.cls=.type "StopIteration")→E (.ref e) { s with heap:=h' }):wpAny (model prog w) A (Builtin.SmallTypes.nextOf (.ref it)) Q E s:=by
 obtain⟨o,ho,hc,hd⟩:=id hit;obtain⟨ol,hol,_,nl,hdl⟩:=ht;unfold Builtin.SmallTypes.nextOf;refine Wb (aj (name:=Str.ofString "__next__") hit.typeIs F.slot_tuple_iterator_next
  (af F.slot_tuple_iterator_next hit.typeIs F.entry_tuple_iterator_next ?_ (F.args_tuple_iterator_next_1 _)))
 show wpAny _ _ (field (.ref it) 0>>=_) _ _ s;refine Wb (ak ho hd (x:=.ref t) rfl ?_);show wpAny _ _ (if(Value.ref t==Value.none)=true then _ else _) _ _ s;rw [if_neg (show ¬((Value.ref t==Value.none)=true) from aJ)];show wpAny _ _ (field (.ref it) 1>>=_) _ _ s;refine Wb (ak ho hd (x:=.int i 0) rfl ?_);show wpAny _ _ (seqItems? (.ref t)>>=_) _ _ s;refine Wb (bA hol hdl ?_);simp only [Int.toNat_natCast,hx];refine Wb (bJ (Wb (wpAny_setField ho hd (by simp) ?_)));show wpAny _ _ (newExc (.type "StopIteration") []>>=_) _ _ _;refine Wb ?_;simp only [newExc,newTuple];refine Wb (ay ?_ (by size_fits));refine Wb (m:=firstArgMember _ _) (wpAny_of_eq (a:=Value.none) (by first|rfl|(simp only [firstArgMember];rfl)) ?_);refine ay ?_ (by size_fits);simp only [raiseNew];refine Wb (wpAny_handled ?_)
 first|rw [show A.in1.handled=none from hh]|rw [hh]
 refine Wb (aA (wpAny_throw ?_));exact hE _ _ (((aY ..).extBut.push _).push _) ⟨_,Heap.get?_push_size _ rfl,rfl⟩
end
section
open AutoSeq1 (wpAny_loadPart')
def XH(l:AD)(items:Array VL)(n:Nat)(dct:Option AD)(sl:Array (Option VL)) :
  Meets (Builtin.«enumerate.__new__» ⟨[.type "enumerate",.ref l],[]⟩) (fun _ R s=>s.heap.get? l=some { cls:=.type "tuple",dict:=dct,data:=.seq items n,slots:=sl } ∧
   R (.ok (.ret (.ref (s.heap.push { cls:=.type "tuple_iterator",data:=.fields #[.ref l,.int 0 0] }).objs.size)))
    { s with heap:=(s.heap.push { cls:=.type "tuple_iterator",data:=.fields #[.ref l,.int 0 0] }).push { cls:=.type "enumerate",data:=.fields #[.none,.bool false,.ref s.heap.objs.size,rawInt 0,.none,.none] } }) :=
 .of_wp fun prog w A R s h=>by
  obtain⟨hp,g,d,tk,os⟩:=s;obtain⟨hl,h⟩:=h;have hsub:=sub_enumerate;have hL:Heap.IsTuple (Shared.heap ⟨hp,g,d,tk,os⟩) l items:=⟨_,hl,rfl,n,rfl⟩
  wp_walk using wpAny_loadPart' hl
  refine wpAny_stack_any fun st=>aA ?_;split
  ·rename_i c _ _ _ _ _;cases (c==Value.type "enumerate")
   ·wp_walk using wpAny_loadPart' hl,wpAny_pyIter_tuple hL
    exact⟨_,rfl,h⟩
   ·wp_walk using wpAny_loadPart' hl,wpAny_pyIter_tuple hL
    exact⟨_,rfl,h⟩
  ·wp_walk using wpAny_loadPart' hl,wpAny_pyIter_tuple hL
   exact⟨_,rfl,h⟩
def Xf{prog:Program}{w:World}{A:Around}{E:VL→SD→Prop}{s:SD}{l:AD}{items:Array VL}{Q:VL→SD→Prop}(hL:s.heap.IsTuple l items)
 (h:∀h',IsEnum h' (s.heap.objs.size+1) s.heap.objs.size 0 .none→h'.IsTupleIter s.heap.objs.size l 0→h'.objs.size=s.heap.objs.size+2 →
   (∀b o,s.heap.get? b=some o→h'.get? b=some o)→Q (.ref (s.heap.objs.size+1)) { s with heap:=h' }) :
  wpAny (model prog w) A (call (.type "enumerate") [.ref l]) Q E s:=by
 obtain⟨⟨c,dct,dt,sl⟩,hl,hc,n,hd⟩:=hL
 replace hc:c=.type "tuple" := hc
 replace hd:dt=.seq items n:=hd
 subst hc hd;refine callType_new F.called_enumerate (by decide) (F.typeCall_enumerate_1 _) (F.newCall_enumerate_1 _) (fun obj=>F.args_object_init_2 obj _) F.entry_enumerate_new
  (XH l items n dct sl) ⟨hl,?_⟩
 have hz:(s.heap.push { cls:=.type "tuple_iterator",data:=.fields #[.ref l,.int 0 0] }).objs.size=s.heap.objs.size+1:=Heap.size_push ..;show _∧_;rw [hz];have he:IsEnum ((s.heap.push { cls:=.type "tuple_iterator",data:=.fields #[.ref l,.int 0 0] }).push
   { cls:=.type "enumerate",data:=.fields #[.none,.bool false,.ref s.heap.objs.size,rawInt 0,.none,.none] }) (s.heap.objs.size+1) s.heap.objs.size 0 .none:=by
  have:=aN (s.heap.push { cls:=.type "tuple_iterator",data:=.fields #[.ref l,.int 0 0] })
   (o:={ cls:=.type "enumerate",data:=.fields #[.none,.bool false,.ref s.heap.objs.size,rawInt 0,.none,.none] }) rfl
  rw [hz]at this;exact this
 refine⟨⟨_,he,rfl⟩,h _ he ⟨_,Heap.get?_push_of_some _ (aN _ rfl),rfl,rfl⟩ (by rw [Heap.size_push,hz]) fun b o x=>aD _ (aD _ x)⟩
end
def draws{prog:Program}{w:World}{A:Around}(hh:A.handled=none)(it a:AD)(its:List VL)(hne:a≠it) :
  Draws prog w A it [it,a] its.length (fun i x=>its[i]? = some x) (fun i h=>h.IsTupleIter it a i∧h.IsTuple a its.toArray) where
 live:=fun i h st=>let⟨o,e,_⟩:=st.1;⟨o,e⟩
 frame:=fun i h h' st k=>by
  obtain⟨⟨o,e,r⟩,o2,e2,r2⟩:=st;exact⟨⟨o,k it (by simp) o e,r⟩,o2,k a (by simp) o2 e2,r2⟩
 item:=fun i s Q E hi st hQ=>next_item st.1 st.2 (x:=its[i]) (by simp [hi]) fun h' st' sb =>
  hQ _ h' s.toks (by simp [hi]) ⟨st',let⟨o,e,r⟩:=st.2;⟨o,(sb.2 a hne).trans e,r⟩⟩ sb
 done:=fun s Q E st hE=>next_end hh st.1 st.2 (by simp) hE
end ET
namespace L2
open PySem PySem.Spec PyProof.Rows
def Ts(H:Hp):Tr→List V→Prop
 |.nil,xs=>xs=[]
 |.cons b r,xs=>∃(a:AD) (ys zs:List V),xs=.ref a::zs∧H a=some (.tup ys)∧Ts H b ys∧Ts H r zs
def Tv(H:Hp)(t:Tr)(v:V):Prop:=∃(a:AD) (ys:List V),v=.ref a∧H a=some (.tup ys)∧Ts H t ys
def Ts.same{H H':Hp}(e:AO H H'):∀ {t:Tr} {xs:List V},Ts H t xs→Ts H' t xs
 |.nil,xs,h=>by rw [Ts]at h ⊢;exact h
 |.cons b r,xs,h=>by
  rw [Ts]at h ⊢;obtain⟨a,ys,zs,e1,h1,h2,h3⟩:=h;exact⟨a,ys,zs,e1,e _ _ h1,h2.same e,h3.same e⟩
def Tv.same{H H':Hp}{t:Tr}{v:V}(h:Tv H t v)(e:AO H H'):Tv H' t v:=let⟨a,ys,e1,h1,h2⟩:=h;⟨a,ys,e1,e _ _ h1,h2.same e⟩
def Ts.length{H:Hp}:∀ {t:Tr} {xs:List V},Ts H t xs→xs.length=t.len
 |.nil,xs,h=>by rw [Ts]at h;rw [h];rfl
 |.cons b r,xs,h=>by
  rw [Ts]at h;obtain⟨a,ys,zs,rfl,_,_,h3⟩:=h;rw [List.length_cons,Tr.len,h3.length]
def Ts.len{H:Hp}{t:Tr}{xs:List V}(h:Ts H t xs):xs.length=t.bs.length:=by rw [h.length,Tr.DD]
def Ts.get{H:Hp}:∀ {t:Tr} {xs:List V} {i:Nat} {v:V},Ts H t xs→xs[i]? = some v→∃c,t.bs[i]? = some c∧Tv H c v
 |.nil,xs,i,v,h,e=>by rw [Ts]at h;subst h;simp at e
 |.cons b r,xs,i,v,h,e=>by
  rw [Ts]at h;obtain⟨a,ys,zs,rfl,h1,h2,h3⟩:=h;cases i with
  |zero=>simp at e;subst e;exact⟨b,rfl,a,ys,rfl,h1,h2⟩
  |succ i =>
   obtain⟨c,q1,q2⟩:=h3.get (i:=i) (v:=v) (by simpa using e);exact⟨c,by simpa [Tr.bs]using q1,q2⟩
def Ts.MC{H:Hp}:∀(ts:List Tr) (xs:List V),xs.length=ts.length→(∀(i:Nat) (v:V),xs[i]? = some v→∃c,ts[i]? = some c∧Tv H c v)→Ts H (Tr.of ts) xs
 |[],xs,hl,_=>by
  rw [Tr.of,Ts];exact List.eq_nil_of_length_eq_zero (by simpa using hl)
 |t::ts,[],hl,_=>by simp at hl
 |t::ts,x::xs,hl,h=>by
  rw [Tr.of,Ts];obtain⟨c,e1,a,ys,rfl,h1,h2⟩:=h 0 x rfl;simp at e1;subst e1;exact⟨a,ys,xs,rfl,h1,h2,Ts.MC ts xs (by simpa using hl) fun i v e=>by
   obtain⟨c,q1,q2⟩:=h (i+1) v (by simpa using e);exact⟨c,by simpa using q1,q2⟩⟩
def Ts.pick{H:Hp}{t:Tr}{xs:List V}(h:Ts H t xs)(ix:List Nat)(hi:∀i∈ix,i<xs.length):Ts H (Tr.of (ix.map fun i=>t.bs.getD i .nil)) (ix.map fun i=>xs.getD i .A8):=by
 refine Ts.MC _ _ (by simp) fun i v e=>?_;rw [List.getElem?_map]at e ⊢;cases q:ix[i]? with
 |none=>rw [q]at e;cases e
 |some k =>
  rw [q]at e;have hk:k<xs.length:=hi k (aM q);simp only [Option.map_some,Option.some.injEq]at e;obtain⟨c,q1,q2⟩:=h.get (i:=k) (v:=v) (by rw [←e,List.getD_eq_getElem?_getD,List.getElem?_eq_getElem hk];rfl);refine⟨c,?_,q2⟩;simp only [Option.map_some,List.getD_eq_getElem?_getD,q1]
  rfl
section
variable{X:Cx}{pins:List (AD×Obj)}{σ:St}{H:Hp}{s:SD}
def Ts.vs(I:Inv X pins σ H s):∀ {t:Tr} {xs:List V} {us:List VL},Ts H t xs→Vals xs us→TH.Vs s.heap t us
 |.nil,xs,us,h,r=>by
  rw [Ts]at h;subst h;cases r;rw [TH.Vs]
 |.cons b rr,xs,us,h,r=>by
  rw [Ts]at h;obtain⟨a,ys,zs,rfl,h1,h2,h3⟩:=h;cases r with
  |cons r1 r2 =>
   cases r1;obtain⟨its,rv,p,_⟩:=I.tuple (BF.of (K:=X.K) h1);rw [TH.Vs];exact⟨a,its,_,rfl,p,Ts.vs I h2 rv,Ts.vs I h3 r2⟩
def Tv.at(I:Inv X pins σ H s){t:Tr}{v:V}{u:VL}(h:Tv H t v)(r:RelV v u):∃(a:AD) (its:List VL),u=.ref a∧s.heap.IsTuple a its.toArray∧TH.Vs s.heap t its:=by
 obtain⟨a,ys,rfl,h1,h2⟩:=h;cases r;obtain⟨its,rv,p,_⟩:=I.tuple (BF.of (K:=X.K) h1);exact⟨a,its,rfl,p,Ts.vs I h2 rv⟩
def kB:R2:=fun x y H Q=>∃t u,Tv H t x∧Tv H u y∧t.deep≤60∧Q (.bl (Tr.lt u t)) H
def fI(hu:X.A.units+64<cLine):C4 X (compareOp .Gt) kB:=by
 intro pins s σ H x y v u' Q I rx ry h;obtain⟨t,u,h1,h2,hd,q⟩:=h;obtain⟨a,its,rfl,p1,k1⟩:=h1.at I rx;obtain⟨b,its',rfl,p2,k2⟩:=h2.at I ry;exact TH.cS (t.deep+1) t u X.A s a b its its' (bM _) p1 k1 p2 k2 (by omega) X.prog X.w X.xe _ ⟨.bl _,H,I,rfl,q⟩
def lI(neg:Bool):R2:=fun x y H Q=>∃t u,Tv H t x∧Tv H u y∧t.deep≤60∧Q (.bl (if neg then !decide (t=u) else decide (t=u))) H
def fM(hu:X.A.units+64<cLine):C4 X (compareOp .Eq) (lI false):=by
 intro pins s σ H x y v u' Q I rx ry h;obtain⟨t,u,h1,h2,hd,q⟩:=h;obtain⟨a,its,rfl,p1,k1⟩:=h1.at I rx;obtain⟨b,its',rfl,p2,k2⟩:=h2.at I ry;exact TH.l9 p1 k1 p2 k2 (by omega) X.prog X.w X.xe _ ⟨.bl _,H,I,rfl,q⟩
end
def U0(K:Fg)(a:AD):It :=
 ⟨fun i H=>∃xs x,BF K H a xs∧xs[i]? = some x,fun i H v H'=>∃p x,v=.ref p∧H p=none∧H'=upd H p (.tup [.int i,x])∧∀xs,BF K H a xs→xs[i]? = some x,fun i H=>∃xs,BF K H a xs∧xs.length=i⟩
def X2{P:Program}{w:World}{K:Fg}{elts:List Expr}{x1}{pos:Pos}(a e it:AD)(hne:e≠it) :
  Turn P w K (.Tuple elts x1 pos) (U0 K a) [e,it] e (fun i h=>(∃old,IsEnum h e it (i:Nat) old)∧h.IsTupleIter it a i) where
 mem:=by simp
 obj:=fun i h st b hb=>by
  rcases aK.mp hb with rfl|hb
  ·obtain⟨⟨old,q⟩,_⟩:=st;exact⟨_,q,fun v z=>by cases z⟩
  ·have e2:b=it:=by simpa using hb
   subst e2;obtain⟨_,o,q,c,d⟩:=st;exact⟨o,q,fun v z=>by rw [d]at z;cases z⟩
 keep:=fun i h h' st k=>by
  obtain⟨⟨old,q⟩,o,q2,r⟩:=st;exact⟨⟨old,k e (by simp) _ q⟩,o,k it (by simp) _ q2,r⟩
 item:=by
  intro X hP hw hK hc i pins s σ H E I hf st hg;subst hP hw hK;obtain⟨xs,x,hq,hx⟩:=hg;obtain⟨its,rv,p,hz⟩:=I.tuple hq;obtain⟨u,hu,ru⟩:=rv.get hx;obtain⟨⟨old,he⟩,hit⟩:=st;have hai:a≠it:=fun z=>by
   obtain⟨o,e1,c1,_⟩:=p;obtain⟨o2,e2,c2,_⟩:=hit;rw [z,e2]at e1;cases e1;rw [c1]at c2;exact absurd c2 (by decide)
  have hae:a≠e:=fun z=>by
   obtain⟨o,e1,c1,_⟩:=p;rw [z,he]at e1;cases e1;exact absurd (show Value.type "enumerate" = Value.type "tuple" from c1) (by decide)
  have hlt:i<its.length:=(aE.mp hu).1;have hE0:=hf e (by simp);have hI0:=hf it (by simp);refine wpAny_pyNext_enum_itemD (ET.draws (prog:=X.prog) (w:=X.w) (A:=X.A.in1) (I.ok.hd hc) it a its hai) he ⟨hit,p⟩ hlt hne (by simp [hne,Ne.symm hae]) fun y h' tk hy ho hs' hT hsz hk=>⟨_,rfl,wpAny_letOwnedTupleGo_enum (s:={ s with heap:=h',toks:=tk+1 }) ho fun h'' he'' sb=>?_⟩;have hyu:y=u:=by rw [hu]at hy;exact(aW hy).symm
  subst hyu;have keep:∀b o,b≠e→b≠it→s.heap.get? b=some o→h''.get? b=some o:=fun b o h1 h2 q=>(sb.2 b h1).trans (hk b o h1 h2 q);have hTe:s.heap.objs.size≠e:=ah (aF he);have hTi:s.heap.objs.size≠it:=let⟨_,q,_⟩:=hit;ah (aF q);have hT'':h''.get? s.heap.objs.size=some { cls:=.type "tuple",data:=.seq #[.int i tk,y] }:=(sb.2 _ hTe).trans hT;have hTn:H s.heap.objs.size=none:=I.Av.fresh (aI _);have neT:∀b o,s.heap.get? b=some o→b≠s.heap.objs.size:=fun b o q=>aG (aF q);have E2:∀b o,H b=some o→b≠e∧b≠it:=fun b o q=>⟨(fun z=>by rw [z,hE0.1]at q;cases q),(fun z=>by rw [z,hI0.1]at q;cases q)⟩;refine⟨.ref s.heap.objs.size,upd H s.heap.objs.size (.tup [.int i,x]),?_,rfl,⟨_,x,rfl,hTn,rfl,fun ys hy=>by rw [I.RH hy hq];exact hx⟩,⟨⟨_,by simpa using he''⟩,?_⟩,fun b hb=>?_⟩
  ·show Inv X pins σ _ { s with heap:=h'',gens:=s.gens,drawn:=s.drawn,toks:=tk+1 };refine I.step (h':=h'') (g':=s.gens) (d':=s.drawn) (t':=tk+1) (ch:=[e,it]) (fun b hb=>?_) (fun b o _ _ hc q _=>keep b o (fun z=>hc (by simp [z])) (fun z=>hc (by simp [z])) q) (fun b o _ _ hc q _=>⟨o.slots,keep b o (fun z=>hc (by simp [z])) (fun z=>hc (by simp [z])) q⟩)
    (fun b o _ q n=>by rw [AM (neT b o q)];exact n) (fun b o hc q=>⟨o,keep b o (fun z=>hc (by simp [z])) (fun z=>hc (by simp [z])) q⟩) (fun b ys q=>by rw [AM (Ah q hTn)];exact q) (fun b o u q=>by rw [AM (Ah q hTn)];exact q)
    (fun b ps q=>⟨#[],by rw [AM (Ah q hTn),q];simp⟩) (fun m hm=>?_) (fun b o q=>?_) I.bare
   ·rcases aK.mp hb with rfl|hb
    ·exact⟨hE0.2.2.2.1,hE0.2.1,hE0.2.2.2.2.1,hE0.2.2.2.2.2⟩
    ·have e2:b=it:=by simpa using hb
     subst e2;exact⟨hI0.2.2.2.1,hI0.2.1,hI0.2.2.2.2.1,hI0.2.2.2.2.2⟩
   ·obtain⟨o,es,ep,ho,r⟩:=hm;exact⟨o,es,ep,keep _ o (Ne.symm hE0.2.1) (Ne.symm hI0.2.1) ho,r⟩
   ·by_cases hb:b=s.heap.objs.size
    ·subst hb;rw [AZ]at q;cases q;exact⟨Vo,[.int i tk,y],.cons ⟨tk,rfl⟩ (.cons ru .nil),_,hT'',rfl,_,rfl⟩
    ·rw [AM hb]at q;refine(I.Av b o q).IC (fun c v hc r=>keep c v ?_ ?_ r) (fun c r=>by rw [AM (Ah r hTn)];exact r) fun c ys r=>by rw [AM (Ah r hTn)];exact r
     ·rcases hc with rfl|hc
      ·exact(E2 _ _ q).1
      ·exact(E2 _ _ hc).1
     ·rcases hc with rfl|hc
      ·exact(E2 _ _ q).2
      ·exact(E2 _ _ hc).2
  ·obtain⟨⟨o,q,r⟩,_⟩:=hs';exact⟨o,(sb.2 it (Ne.symm hne)).trans q,r⟩
  ·rcases aK.mp hb with rfl|hb
   ·rw [AM (Ne.symm hTe)];exact hE0.1
   ·have e2:b=it:=by simpa using hb
    subst e2;rw [AM (Ne.symm hTi)];exact hI0.1
 done:=by
  intro X hP hw hK hc i pins s σ H E I hf st hg;subst hP hw hK;obtain⟨xs,hq,hx⟩:=hg;obtain⟨its,rv,p,hz⟩:=I.tuple hq;obtain⟨⟨old,he⟩,hit⟩:=st;have hai:a≠it:=fun z=>by
   obtain⟨o,e1,c1,_⟩:=p;obtain⟨o2,e2,c2,_⟩:=hit;rw [z,e2]at e1;cases e1;rw [c1]at c2;exact absurd c2 (by decide)
  have hl:its.length=i:=by rw [←rv.length];exact hx
  subst hl;obtain⟨f0,f1,f2,f3,f4,f5⟩:=hf it (by simp);exact wpAny_pyNext_enum_endD (ET.draws (prog:=X.prog) (w:=X.w) (A:=X.A.in1) (I.ok.hd hc) it a its hai) he ⟨hit,p⟩ fun h' eb=>⟨rfl,I.turned (t':=s.toks) (fun b o hb q=>eb b o hb q) f0 f1 f3 f4 f5⟩
 self:=fun _ _ _ _ _ st h=>by
  obtain⟨⟨old,he⟩,_⟩:=st;exact wpAny_pyIter_enum he h
def kU(K:Fg)(ta:TA):TI:=fun σ H R=>ta σ H fun vs H1=>∃a,vs=[.ref a]∧(∃xs,BF K H1 a xs)∧R (U0 K a) H1
def VD{X:Cx}{elts:List Expr}{x1}{tpos:Pos}{a:Expr}{ta:TA}{p pos:Pos}(hg:Gl X "enumerate")(hm:X.mg "enumerate" = none)(ha:PA X [a] ta)(hs:starEach [a] X.env=[(false,eval a X.env)]:=by rfl) :
  PI X (.Tuple elts x1 tpos) (.Call (.Name "enumerate" p) [a] [] pos) (kU X.K ta):=by
 intro pins s σ H R I h;refine Call_ (Er I hg hm boot_enumerate (av (A6 (ha pos pins s σ H _ I h) fun us s1 ⟨vs,H1,I1,r1,q1⟩=>?_) hs rfl));obtain⟨t,e,⟨xs,hq⟩,q⟩:=q1;subst e;cases r1 with
 |cons r rr =>
  cases rr;cases r;obtain⟨its,rv,p',hz⟩:=I1.tuple hq;refine ET.Xf (show s1.heap.IsTuple t its.toArray from p') fun h' he hit hsz hk=>wpAny_pyIter_enum he ?_;have I2:Inv X pins σ H1 { s1 with heap:=h' }:=I1.kept (t':=s1.toks) hk;have hn:s1.heap.objs.size+1≠s1.heap.objs.size:=by omega
  refine⟨s1.heap.objs.size+1,[s1.heap.objs.size+1,s1.heap.objs.size],_,_,H1,rfl,I2,X2 t _ _ hn,⟨⟨_,he⟩,hit⟩,fun b hb=>?_,q⟩;have hb':s1.heap.objs.size≤b:=by
   have hb2:b=s1.heap.objs.size+1∨b=s1.heap.objs.size:=by simpa using hb
   rcases hb2 with z|z
   ·rw [z];exact bY _
   ·rw [z];exact aI _
  exact I1.OT hb' (I1.Av.fresh hb')
def ZH{K:Fg}{a:AD}{xs:List V}{g:TG}{tb:TS}{D:Ends}{σ:St}{H:Hp}(Pv:Nat→St→Hp→Prop)(h0:Pv 0 σ H)(hl:∀i σ H,i≤xs.length→Pv i σ H→BF K H a xs)
 (hs:∀i x σ H,xs[i]? = some x→Pv i σ H→∀p,H p=none→g (.ref p) σ (upd H p (.tup [.int (i:Nat),x])) fun σ2 H2=>tb { D with nx:=Pv (i+1),ct:=Pv (i+1),bk:=D.nx } σ2 H2)(hd:∀σ H,Pv xs.length σ H→D.nx σ H) :
  ∃W:Nat→Nat→St→Hp→Prop,(∃m,W 0 m σ H)∧∀i m σ H,W i m σ H →
   ((U0 K a).stop i H∧D.nx σ H)∨((U0 K a).go i H∧∃N:St→Hp→Prop,(∀σ' H',N σ' H'→∃m',m'<m∧W (i+1) m' σ' H')∧∀x H',(U0 K a).Ep i H x H'→g x σ H' fun σ2 H2=>tb { D with nx:=N,ct:=N,bk:=D.nx } σ2 H2):=by
 refine⟨fun i m σ H=>m=xs.length-i∧i≤xs.length∧Pv i σ H,⟨xs.length,by simp,Nat.zero_le _,h0⟩,?_⟩;rintro i m σ H ⟨rfl,hi,p⟩;have q:=hl i σ H hi p;by_cases hlt:i<xs.length
 ·refine .inr ⟨⟨xs,xs[i],q,by simp [hlt]⟩,Pv (i+1),fun σ' H' p'=>⟨xs.length-(i+1),by omega,rfl,hlt,p'⟩,fun x H' y=>?_⟩;obtain⟨pp,x',rfl,hn,rfl,y⟩:=y;exact hs i x' σ _ (y xs q) p pp hn
 ·have e:i=xs.length:=by omega
  subst e;exact .inl ⟨⟨xs,q,rfl⟩,hd σ H p⟩
end L2
namespace TH
open PySem PySem.W PyProof.Rows PySem.SeqAt
section
variable{prog:Program}{w:World}{A:Around}{E:VL→SD→Prop}{s:SD}
def Ka(a:AD):Builtin.«list.sort» ⟨[.ref a],[]⟩=Builtin.«list.sort» ⟨[.ref a],[(Str.ofString "reverse",.bool false)]⟩:=by
 rw [list_sort_rev,list_sort_plain]
 rfl
def IM{a:AD}{us:List VL}{t:Tr}{n:Nat}{P:PySem.Fin→SD→Prop}(ho:s.heap.get? a=some (seqObj "list" us.toArray n))(e:Vs s.heap t us)(h64:us.length<64)(hu:A.units+t.deep≤cLine)
 (h:∀ix:List Nat,ix.length=us.length→(∀i∈ix,i<us.length)→(ix.map fun i=>t.bs.getD i .nil)=(Tr.B1 t.bs).reverse→P (.done (.ret .none)) { s with heap:=sortedHeap s.heap a us (ix.map fun i=>us.getD i Value.none).toArray }) :
  wpAny (model prog w) A (Builtin.«list.sort» ⟨[.ref a],[]⟩) P E s:=by
 rw [Ka];exact JI (b:=false) ho e h64 hu h
def Ni{l:AD}{vs:List VL}{Q:List VL→SD→Prop}(hl:s.heap.IsTuple l vs.toArray)
 (h:Q vs { s with heap:=(s.heap.push (seqObj "list" #[] 0)).update s.heap.objs.size (Obj.mapSeq (· ++ vs.toArray)) })(hsz:vs.length≤sizeLine) :
    wpAny (model prog w) A (collect (.ref l)) Q E s:=by
  obtain⟨o,ho,hc,n,hd⟩:=id hl
  unfold collect
  refine Wb (wpAny_runValue (codeAny_builtin entry_proto_collect' ?_))
  show wpAny _ _ (do again (.builtin "list.__iadd__" ⟨[←newList [],.ref l],[]⟩)) _ _ s
  refine Wb (bX (aA ⟨Code.quiet_builtin _ (by decide +kernel),codeAny_builtin entry_list_iadd' ?_⟩))
  show wpAny _ _ (Builtin.List.listExtendWith (.ref s.heap.objs.size) (.ref l) (.ref s.heap.objs.size)) _ _ { s with heap:=s.heap.push (seqObj "list" #[] 0) }
  unfold Builtin.List.listExtendWith
  have ho':(s.heap.push (seqObj "list" #[] 0)).get? l=some o:=aD _ ho
  refine Wb (wpAny_typeOf (T := "tuple") ⟨o,ho',hc⟩ ?_)
  have ht:(Value.type "tuple" == Value.type "tuple")=true:=by rfl
  rw [if_pos (by rw [ht];simp)]
  refine Wb (listItems_at ho' hd ?_)
  refine Wb (listItems_at (xs:=#[]) (n:=0) (aN _ rfl) rfl ?_)
  rw [if_neg (by simp)]
  refine Wb (listUpdate_at (xs:=#[]) (n:=0) (aN _ rfl) rfl ?_ (au _) (by show(#[]++vs.toArray).size≤sizeLine+1;simp only [Array.size_append,List.size_toArray,List.length_nil];omega))
  refine aA ?_
  show wpAny (model prog w) A (do
      let o ←load s.heap.objs.size
      match o.data with
      |.seq xs _=>pure xs.toList
      |_=>unsupported "internal:collect") Q E { s with heap:=(s.heap.push (seqObj "list" #[] 0)).update s.heap.objs.size (Obj.mapSeq (· ++ vs.toArray)) }
  refine Wb (wpAny_load (get?_update_seq (aN _ rfl) _) ?_)
  show wpAny _ _ (pure ((#[]:Array VL)++vs.toArray).toList) Q E _
  rw [show((#[]:Array VL)++vs.toArray).toList=vs by simp]
  exact aA h
def Ue{l:AD}{us:List VL}{t:Tr}{Q:VL→SD→Prop}(hl:s.heap.IsList l us.toArray)(e:Vs s.heap t us)(h64:us.length<64)(hu:A.units+2+t.deep≤cLine)
 (h:∀(h':Heap) (ix:List Nat) (e1:Nat),ix.length=us.length→(∀i∈ix,i<us.length)→(ix.map fun i=>t.bs.getD i .nil)=(Tr.B1 t.bs).reverse→(∀c o,s.heap.get? c=some o→h'.get? c=some o) →
   h'.get? (s.heap.objs.size+1)=some (seqObj "list" (ix.map fun i=>us.getD i Value.none).toArray e1)→Q (.ref (s.heap.objs.size+1)) { s with heap:=h' }) :
  wpAny (model prog w) A (call (.builtin "sorted") [.ref l]) Q E s:=by
 refine Calls.call_function_entry kind_sorted plain_sorted entry_sorted (args_sorted1 _) ?_;unfold Builtin.«sorted»;refine Wb (m:=checkCount "sorted" 1 1 _) (aA ?_);refine Wb (collect_list hl ?_ (by rw [sizeLine_eq];omega));refine Wb (bX ?_ (by rw [sizeLine_eq];omega));have hsz:((s.heap.push (seqObj "list" #[] 0)).update s.heap.objs.size (Obj.mapSeq (· ++ us.toArray))).objs.size=s.heap.objs.size+1:=by
  rw [Heap.size_update,size_push']
 have hoL:(((s.heap.push (seqObj "list" #[] 0)).update s.heap.objs.size (Obj.mapSeq (· ++ us.toArray))).push (seqObj "list" us.toArray 0)).get? (s.heap.objs.size+1)=some (seqObj "list" us.toArray 0):=by
  rw [←hsz];exact aN _ rfl
 have keep:∀b o,s.heap.get? b=some o→o.cls=.type "tuple" →(((s.heap.push (seqObj "list" #[] 0)).update s.heap.objs.size (Obj.mapSeq (· ++ us.toArray))).push (seqObj "list" us.toArray 0)).get? b=some o:=fun b o q _=>by
  have hlt:b<s.heap.objs.size:=aF q;rw [Heap.get?_push_ne _ _ _ (by rw [hsz];exact aG (ar hlt)),Heap.get?_update_ne _ _ _ _ (aG hlt),Heap.get?_push_ne _ _ _ (aG hlt)];exact q
 show wpAny _ _ _ _ _ { s with heap:=((s.heap.push (seqObj "list" #[] 0)).update s.heap.objs.size (Obj.mapSeq (· ++ us.toArray))).push (seqObj "list" us.toArray 0) };rw [hsz];refine Wb (aP (af slot_list_sort ⟨_,hoL,rfl⟩ entry_list_sort (IM (s:={ s with heap:=((s.heap.push (seqObj "list" #[] 0)).update s.heap.objs.size (Obj.mapSeq (· ++ us.toArray))).push (seqObj "list" us.toArray 0) }) hoL (e.keeps keep) h64 (by
  rw [show A.in1.in1.units=A.units+2 from rfl];omega) fun ix a1 a2 a3=>⟨_,rfl,?_⟩) (args_list_sort _)))
 obtain⟨e1,he1⟩:=sortedAll_at s.heap us (ix.map fun i=>us.getD i Value.none).toArray;exact aA ⟨_,rfl,h _ ix e1 a1 a2 a3 (fun _ _=>sortedAll_old) he1⟩
def SG{l:AD}{us:List VL}{t:Tr}{b:Bool}{Q:VL→SD→Prop}(hl:s.heap.IsList l us.toArray)(e:Vs s.heap t us)(h64:us.length<64)(hu:A.units+2+t.deep≤cLine)
 (h:∀(h':Heap) (ix:List Nat) (e1:Nat),ix.length=us.length→(∀i∈ix,i<us.length)→(ix.map fun i=>t.bs.getD i .nil)=(if b then Tr.B1 t.bs else(Tr.B1 t.bs).reverse)→(∀c o,s.heap.get? c=some o→h'.get? c=some o) →
   h'.get? (s.heap.objs.size+1)=some (seqObj "list" (ix.map fun i=>us.getD i Value.none).toArray e1)→Q (.ref (s.heap.objs.size+1)) { s with heap:=h' }) :
  wpAny (model prog w) A (call (.builtin "sorted") [.ref l] [(Str.ofString "reverse",.bool b)]) Q E s:=by
 refine call_function_entry_kw kind_sorted plain_sorted entry_sorted (args_sorted_rev _ _) ?_;unfold Builtin.«sorted»;refine Wb (m:=checkCount "sorted" 1 1 _) (aA ?_);refine Wb (collect_list hl ?_ (by rw [sizeLine_eq];omega));refine Wb (bX ?_ (by rw [sizeLine_eq];omega));have hsz:((s.heap.push (seqObj "list" #[] 0)).update s.heap.objs.size (Obj.mapSeq (· ++ us.toArray))).objs.size=s.heap.objs.size+1:=by
  rw [Heap.size_update,size_push']
 have hoL:(((s.heap.push (seqObj "list" #[] 0)).update s.heap.objs.size (Obj.mapSeq (· ++ us.toArray))).push (seqObj "list" us.toArray 0)).get? (s.heap.objs.size+1)=some (seqObj "list" us.toArray 0):=by
  rw [←hsz];exact aN _ rfl
 have keep:∀b o,s.heap.get? b=some o→o.cls=.type "tuple" →(((s.heap.push (seqObj "list" #[] 0)).update s.heap.objs.size (Obj.mapSeq (· ++ us.toArray))).push (seqObj "list" us.toArray 0)).get? b=some o:=fun b o q _=>by
  have hlt:b<s.heap.objs.size:=aF q;rw [Heap.get?_push_ne _ _ _ (by rw [hsz];exact aG (ar hlt)),Heap.get?_update_ne _ _ _ _ (aG hlt),Heap.get?_push_ne _ _ _ (aG hlt)];exact q
 show wpAny _ _ _ _ _ { s with heap:=((s.heap.push (seqObj "list" #[] 0)).update s.heap.objs.size (Obj.mapSeq (· ++ us.toArray))).push (seqObj "list" us.toArray 0) };rw [hsz];refine Wb (aP (wpAny_call_entry_kw slot_list_sort ⟨_,hoL,rfl⟩ entry_list_sort (JI (b:=b) (s:={ s with heap:=((s.heap.push (seqObj "list" #[] 0)).update s.heap.objs.size (Obj.mapSeq (· ++ us.toArray))).push (seqObj "list" us.toArray 0) }) hoL (e.keeps keep) h64 (by
  rw [show A.in1.in1.units=A.units+2 from rfl];omega) fun ix a1 a2 a3=>⟨_,rfl,?_⟩) (args_list_sort_rev _ _)))
 obtain⟨e1,he1⟩:=sortedAll_at s.heap us (ix.map fun i=>us.getD i Value.none).toArray;exact aA ⟨_,rfl,h _ ix e1 a1 a2 a3 (fun _ _=>sortedAll_old) he1⟩
def Wo{l:AD}{us:List VL}{t:Tr}{Q:VL→SD→Prop}(hl:s.heap.IsTuple l us.toArray)(e:Vs s.heap t us)(h64:us.length<64)(hu:A.units+2+t.deep≤cLine)
 (h:∀(h':Heap) (ix:List Nat) (e1:Nat),ix.length=us.length→(∀i∈ix,i<us.length)→(ix.map fun i=>t.bs.getD i .nil)=(Tr.B1 t.bs).reverse→(∀c o,s.heap.get? c=some o→h'.get? c=some o) →
   h'.get? (s.heap.objs.size+1)=some (seqObj "list" (ix.map fun i=>us.getD i Value.none).toArray e1)→Q (.ref (s.heap.objs.size+1)) { s with heap:=h' }) :
  wpAny (model prog w) A (call (.builtin "sorted") [.ref l]) Q E s:=by
 refine Calls.call_function_entry kind_sorted plain_sorted entry_sorted (args_sorted1 _) ?_;unfold Builtin.«sorted»;refine Wb (m:=checkCount "sorted" 1 1 _) (aA ?_);refine Wb (Ni hl ?_ (by rw [sizeLine_eq];omega));refine Wb (bX ?_ (by rw [sizeLine_eq];omega));have hsz:((s.heap.push (seqObj "list" #[] 0)).update s.heap.objs.size (Obj.mapSeq (· ++ us.toArray))).objs.size=s.heap.objs.size+1:=by
  rw [Heap.size_update,size_push']
 have hoL:(((s.heap.push (seqObj "list" #[] 0)).update s.heap.objs.size (Obj.mapSeq (· ++ us.toArray))).push (seqObj "list" us.toArray 0)).get? (s.heap.objs.size+1)=some (seqObj "list" us.toArray 0):=by
  rw [←hsz];exact aN _ rfl
 have keep:∀b o,s.heap.get? b=some o→o.cls=.type "tuple" →(((s.heap.push (seqObj "list" #[] 0)).update s.heap.objs.size (Obj.mapSeq (· ++ us.toArray))).push (seqObj "list" us.toArray 0)).get? b=some o:=fun b o q _=>by
  have hlt:b<s.heap.objs.size:=aF q;rw [Heap.get?_push_ne _ _ _ (by rw [hsz];exact aG (ar hlt)),Heap.get?_update_ne _ _ _ _ (aG hlt),Heap.get?_push_ne _ _ _ (aG hlt)];exact q
 show wpAny _ _ _ _ _ { s with heap:=((s.heap.push (seqObj "list" #[] 0)).update s.heap.objs.size (Obj.mapSeq (· ++ us.toArray))).push (seqObj "list" us.toArray 0) };rw [hsz];refine Wb (aP (af slot_list_sort ⟨_,hoL,rfl⟩ entry_list_sort (IM (s:={ s with heap:=((s.heap.push (seqObj "list" #[] 0)).update s.heap.objs.size (Obj.mapSeq (· ++ us.toArray))).push (seqObj "list" us.toArray 0) }) hoL (e.keeps keep) h64 (by
  rw [show A.in1.in1.units=A.units+2 from rfl];omega) fun ix a1 a2 a3=>⟨_,rfl,?_⟩) (args_list_sort _)))
 obtain⟨e1,he1⟩:=sortedAll_at s.heap us (ix.map fun i=>us.getD i Value.none).toArray;exact aA ⟨_,rfl,h _ ix e1 a1 a2 a3 (fun _ _=>sortedAll_old) he1⟩
def UW{l:AD}{us:List VL}{t:Tr}{b:Bool}{Q:VL→SD→Prop}(hl:s.heap.IsTuple l us.toArray)(e:Vs s.heap t us)(h64:us.length<64)(hu:A.units+2+t.deep≤cLine)
 (h:∀(h':Heap) (ix:List Nat) (e1:Nat),ix.length=us.length→(∀i∈ix,i<us.length)→(ix.map fun i=>t.bs.getD i .nil)=(if b then Tr.B1 t.bs else(Tr.B1 t.bs).reverse)→(∀c o,s.heap.get? c=some o→h'.get? c=some o) →
   h'.get? (s.heap.objs.size+1)=some (seqObj "list" (ix.map fun i=>us.getD i Value.none).toArray e1)→Q (.ref (s.heap.objs.size+1)) { s with heap:=h' }) :
  wpAny (model prog w) A (call (.builtin "sorted") [.ref l] [(Str.ofString "reverse",.bool b)]) Q E s:=by
 refine call_function_entry_kw kind_sorted plain_sorted entry_sorted (args_sorted_rev _ _) ?_;unfold Builtin.«sorted»;refine Wb (m:=checkCount "sorted" 1 1 _) (aA ?_);refine Wb (Ni hl ?_ (by rw [sizeLine_eq];omega));refine Wb (bX ?_ (by rw [sizeLine_eq];omega));have hsz:((s.heap.push (seqObj "list" #[] 0)).update s.heap.objs.size (Obj.mapSeq (· ++ us.toArray))).objs.size=s.heap.objs.size+1:=by
  rw [Heap.size_update,size_push']
 have hoL:(((s.heap.push (seqObj "list" #[] 0)).update s.heap.objs.size (Obj.mapSeq (· ++ us.toArray))).push (seqObj "list" us.toArray 0)).get? (s.heap.objs.size+1)=some (seqObj "list" us.toArray 0):=by
  rw [←hsz];exact aN _ rfl
 have keep:∀b o,s.heap.get? b=some o→o.cls=.type "tuple" →(((s.heap.push (seqObj "list" #[] 0)).update s.heap.objs.size (Obj.mapSeq (· ++ us.toArray))).push (seqObj "list" us.toArray 0)).get? b=some o:=fun b o q _=>by
  have hlt:b<s.heap.objs.size:=aF q;rw [Heap.get?_push_ne _ _ _ (by rw [hsz];exact aG (ar hlt)),Heap.get?_update_ne _ _ _ _ (aG hlt),Heap.get?_push_ne _ _ _ (aG hlt)];exact q
 show wpAny _ _ _ _ _ { s with heap:=((s.heap.push (seqObj "list" #[] 0)).update s.heap.objs.size (Obj.mapSeq (· ++ us.toArray))).push (seqObj "list" us.toArray 0) };rw [hsz];refine Wb (aP (wpAny_call_entry_kw slot_list_sort ⟨_,hoL,rfl⟩ entry_list_sort (JI (b:=b) (s:={ s with heap:=((s.heap.push (seqObj "list" #[] 0)).update s.heap.objs.size (Obj.mapSeq (· ++ us.toArray))).push (seqObj "list" us.toArray 0) }) hoL (e.keeps keep) h64 (by
  rw [show A.in1.in1.units=A.units+2 from rfl];omega) fun ix a1 a2 a3=>⟨_,rfl,?_⟩) (args_list_sort_rev _ _)))
 obtain⟨e1,he1⟩:=sortedAll_at s.heap us (ix.map fun i=>us.getD i Value.none).toArray;exact aA ⟨_,rfl,h _ ix e1 a1 a2 a3 (fun _ _=>sortedAll_old) he1⟩
end
end TH
namespace L2
open PySem PySem.Spec PyProof.Rows
def Vals.pick{xs:List V}{us:List VL}(r:Vals xs us):∀ix:List Nat,(∀i∈ix,i<xs.length)→Vals (ix.map fun i=>xs.getD i .A8) (ix.map fun i=>us.getD i Value.none)
 |[],_=>.nil
 |i::ix,h=>by
  refine .cons ?_ (Vals.pick r ix fun k hk=>h k (aU _ hk));have hi:=h i ai;obtain⟨u,h1,h2⟩:=r.get (i:=i) (x:=xs[i]) (by simp [hi]);show RelV (xs.getD i .A8) (us.getD i Value.none);rw [List.getD_eq_getElem?_getD,List.getD_eq_getElem?_getD,h1,List.getElem?_eq_getElem hi];exact h2
section
variable{X:Cx}
def jz(K:Fg):List V→Hp→VK→Prop:=fun xs H Q=>∃(p:AD) (ys:List V) (t:Tr),xs=[.ref p]∧(A3 K H p ys∨BF K H p ys)∧Ts H t ys∧ys.length<64∧t.deep≤60 ∧
 ∀(l:AD) (zs:List V),H l=none→Ts H (Tr.of (Tr.B1 t.bs).reverse) zs→Q (.ref l) (upd H l (.lst zs))
def XM(K:Fg):List V→Hp→VK→Prop:=fun xs H Q=>∃(p:AD) (ys:List V) (t:Tr),xs=[.ref p]∧(A3 K H p ys∨BF K H p ys)∧Ts H t ys∧ys.length<64∧t.deep≤60 ∧
 ∀(l:AD) (zs:List V),H l=none→Ts H (Tr.of (Tr.B1 t.bs)) zs→Q (.ref l) (upd H l (.lst zs))
def Lg{pins:List (AD×Obj)}{σ:St}{H:Hp}{s:SD}{Q:VK}{t:Tr}{ts:List Tr}{ys:List V}{its:List VL}{h':Heap}{ix:List Nat}{e1:Nat}(I:Inv X pins σ H s)(ht:Ts H t ys)(rv:Vals ys its)(h64:ys.length<64)
 (a1:ix.length=its.length)(a2:∀i∈ix,i<its.length)(a3:(ix.map fun i=>t.bs.getD i .nil)=ts)(keep:∀c o,s.heap.get? c=some o→h'.get? c=some o)
 (hD:h'.get? (s.heap.objs.size+1)=some (seqObj "list" (ix.map fun i=>its.getD i Value.none).toArray e1))(q:∀(l:AD) (zs:List V),H l=none→Ts H (Tr.of ts) zs→Q (.ref l) (upd H l (.lst zs))) :
  EP X pins σ Q (.ref (s.heap.objs.size+1)) { s with heap:=h' }:=by
 have hl:=rv.length;have a2':∀i∈ix,i<ys.length:=fun i hi=>by rw [hl];exact a2 i hi
 refine⟨.ref (s.heap.objs.size+1),upd H (s.heap.objs.size+1) (.lst (ix.map fun i=>ys.getD i .A8)),I.laid (t':=s.toks) keep (bY _) ⟨?_,_,e1,rv.pick ix a2',hD⟩,rfl,q _ _ (I.Av.fresh (bY _)) ?_⟩
 ·rw [List.length_map,a1,←hl];exact bL (aH h64 (by rw [sizeLine_eq];decide))
 ·rw [←a3];exact ht.pick ix a2'
def Xe(hu:X.A.units+64<cLine):ED X (.builtin "sorted") (jz X.K):=by
 intro pins s σ H xs us Q I r h;obtain⟨p,ys,t,rfl,hq,ht,h64,hd,q⟩:=h;obtain⟨u,rfl,r1⟩:=r.one;cases r1;rcases hq with hq|hq
 ·obtain⟨its,rv,pl,hz⟩:=I.list hq;have hl:=rv.length;exact TH.Ue pl.isList (ht.vs I rv) (by omega) (by omega) fun h' ix e1 a1 a2 a3 keep hD=>Lg I ht rv h64 a1 a2 a3 keep hD q
 ·obtain⟨its,rv,pl,hz⟩:=I.tuple hq;have hl:=rv.length;exact TH.Wo (show s.heap.IsTuple p its.toArray from pl) (ht.vs I rv) (by omega) (by omega) fun h' ix e1 a1 a2 a3 keep hD=>Lg I ht rv h64 a1 a2 a3 keep hD q
def T9{e:Expr}{t:TA}{p pos kp kp2:Pos}{j}(hu:X.A.units+64<cLine)(hg:Gl X "sorted")(hm:X.mg "sorted" = none)(ha:PA X [e] t)
 (he:backTo pos (starEach [e] X.env)=(false,eval e X.env)::backTo pos (starEach [] X.env):=by rfl)(hplain:(backTo pos (starEach [e] X.env)).any (·.1)=false:=by rfl) :
  PE X (.Call (.Name "sorted" p) [e] [⟨some "reverse",.Constant (.bool true) j kp2,kp⟩] pos) (fun σ H Q=>t σ H fun vs H1=>XM X.K vs H1 Q):=by
 intro pins s σ H Q I h;refine wpAny_Call_Name_kw (Er I hg hm boot_sorted ?_ (by decide) (by decide));refine callWith_kw (A6 (ha pos pins s σ H _ I h) fun us s1 ⟨vs,H1,I1,r1,q1⟩=>kws_cons (Constant_bool (kws_nil ?_))) he hplain;obtain⟨p,ys,t,rfl,hq,ht,h64,hd,q⟩:=q1;obtain⟨u,rfl,r2⟩:=r1.one;cases r2;rcases hq with hq|hq
 ·obtain⟨its,rv,pl,hz⟩:=I1.list hq;have hl:=rv.length;exact TH.SG (b:=true) pl.isList (ht.vs I1 rv) (by omega) (by omega) fun h' ix e1 a1 a2 a3 keep hD=>Lg I1 ht rv h64 a1 a2 a3 keep hD q
 ·obtain⟨its,rv,pl,hz⟩:=I1.tuple hq;have hl:=rv.length;exact TH.UW (b:=true) (show s1.heap.IsTuple p its.toArray from pl) (ht.vs I1 rv) (by omega) (by omega) fun h' ix e1 a1 a2 a3 keep hD=>Lg I1 ht rv h64 a1 a2 a3 keep hD q
end
def CW(Pv:Nat→List V→Hp→Prop)(n:Nat)(D:AD):Nat→Nat→List V→Hp→Prop:=fun i m ys H=>m=n-i∧i≤n∧H D=some (.lst ys)∧Pv i ys H
def NC{Pv:Nat→List V→Hp→Prop}{n i:Nat}{D:AD}{ys:List V}{y:V}{H:Hp}(hi:i<n)(p:Pv (i+1) (ys++[y]) (upd H D (.lst (ys++[y])))):∃m',m'<n-i∧CW Pv n D (i+1) m' (ys++[y]) (upd H D (.lst (ys++[y]))) :=
 ⟨n-(i+1),by omega,rfl,hi,AZ,p⟩
def Vn{Pv:Nat→List V→Hp→Prop}{n i:Nat}{D:AD}{ys:List V}{H:Hp}(hi:i<n)(hD:H D=some (.lst ys))(p:Pv (i+1) ys H):∃m',m'<n-i∧CW Pv n D (i+1) m' ys H:=⟨n-(i+1),by omega,rfl,hi,hD,p⟩
def QT{J:It}{n:Nat}{D:AD}{H1:Hp}{fr:List (Option Nat)}{σ:St}{ix:Nat}{tif:TT}{te:TE}{G:Hp→Prop}(Pv:Nat→List V→Hp→Prop)(h0:Pv 0 [] (upd H1 D (.lst [])))
 (hgo:∀i ys H,i<n→Pv i ys H→H D=some (.lst ys)→J.go i H∧ys.length<sizeLine∧∀x H',J.Ep i H x H' →
   tif ((carry fr σ).set ix (some x)) H' fun b H2=>if b=true then te ((carry fr σ).set ix (some x)) H2 fun y H3=>H3 D=some (.lst ys)∧∃m',m'<n-i∧CW Pv n D (i+1) m' (ys++[y]) (upd H3 D (.lst (ys++[y])))
    else ∃m',m'<n-i∧CW Pv n D (i+1) m' ys H2)
 (hstop:∀ys H,Pv n ys H→H D=some (.lst ys)→J.stop n H∧G H) :
  ∃W:Nat→Nat→List V→Hp→Prop,(∃m,W 0 m [] (upd H1 D (.lst []))) ∧
   ∀i m ys H,W i m ys H→H D=some (.lst ys)∧((J.stop i H∧G H)∨(J.go i H∧ys.length<sizeLine∧∀x H',J.Ep i H x H' →
    tif ((carry fr σ).set ix (some x)) H' fun b H2=>if b=true then te ((carry fr σ).set ix (some x)) H2 fun y H3=>H3 D=some (.lst ys)∧∃m',m'<m∧W (i+1) m' (ys++[y]) (upd H3 D (.lst (ys++[y])))
     else ∃m',m'<m∧W (i+1) m' ys H2)):=by
 refine⟨CW Pv n D,⟨n,by simp,Nat.zero_le _,AZ,h0⟩,?_⟩;rintro i m ys H ⟨rfl,hi,hH,p⟩;refine⟨hH,?_⟩;by_cases hlt:i<n
 ·exact .inr (hgo i ys H hlt p hH)
 ·have e:i=n:=by omega
  subst e;exact .inl (hstop ys H p hH)
section
variable{X:Cx}
def Tz(hc:X.calm=true):ED X (.builtin "sum") (fun xs H Q=>∃(p:AD) (ns:List Int),xs=[.ref p]∧A3 X.K H p (ns.map V.int)∧Q (.int ns.sum) H):=by
 intro pins s σ H xs us Q I r h;obtain⟨p,ns,rfl,hq,q⟩:=h;obtain⟨u,rfl,r1⟩:=r.one;cases r1;obtain⟨its,rv,pl,hz⟩:=I.list hq;have hi:=intsAre_of rv;obtain⟨xs,hx⟩:=hi.allInts.items;have hl':s.heap.IsList p (intItems xs):=hx ▸ pl.isList
 refine sum_intListG (I.ok.hd hc) hl' fun h' tk t' hk=>?_;have e1:ns=xs.toList.map (·.1):=by
  rw [←nums_intItems,←hx];exact(show numsOf its.toArray.toList=ns from hi.numsOf).symm
 have e2:preSum (numAt xs) xs.size=ns.sum:=by
  rw [preSum_eq,List.take_of_length_le (by simp),e1]
 rw [e2];exact⟨.int _,H,I.kept (t':=tk) hk,⟨t',rfl⟩,q⟩
end
section
variable{X:Cx}{scope:Scope}{cl:List (Str×AD)}{N:List Str}{C:AD}{s₀:SD}{H₀:Hp}{fp:List AD}
def QR:Na (Am X scope cl N C s₀ H₀ fp) (Y5 X.K):=Ci
end
mutual
def Dt(l:AD)(H:Hp):PD→V→Prop
 |.none,v=>v=.A8
 |.bool b,v=>v=.bl b
 |.int i,v=>v=.int i
 |.str x,v=>v=.str x
 |.tuple ds,v=>∃(a:AD) (xs:List V),v=.ref a∧a≠l∧H a=some (.tup xs)∧CD l H ds xs
 |.list ds,v=>∃(a:AD) (xs:List V),v=.ref a∧a≠l∧H a=some (.lst xs)∧CD l H ds xs
 |.dict _,_=>False
def CD(l:AD)(H:Hp):List PD→List V→Prop
 |[],xs=>xs=[]
 |d::ds,xs=>∃x r,xs=x::r∧Dt l H d x∧CD l H ds r
end
def CD.len{l:AD}{H:Hp}:∀ {ds:List PD} {xs:List V},CD l H ds xs→xs.length=ds.length
 |[],_,h=>by rw [CD]at h;rw [h];rfl
 |_::_,_,h=>by
  rw [CD]at h;obtain⟨x,r,rfl,_,h2⟩:=h;rw [List.length_cons,List.length_cons,CD.len h2]
def CD.get{l:AD}{H:Hp}:∀ {ds:List PD} {xs:List V} {i:Nat} {v:V},CD l H ds xs→xs[i]? = some v→∃d,ds[i]? = some d∧Dt l H d v
 |[],_,i,v,h,e=>by rw [CD]at h;subst h;simp at e
 |d::ds,_,i,v,h,e=>by
  rw [CD]at h;obtain⟨x,r,rfl,h1,h2⟩:=h;cases i with
  |zero=>simp at e;subst e;exact⟨d,rfl,h1⟩
  |succ i =>
   obtain⟨c,q1,q2⟩:=h2.get (i:=i) (v:=v) (by simpa using e);exact⟨c,by simpa using q1,q2⟩
def CD.nil{l:AD}{H:Hp}:CD l H [] []:=by rw [CD]
def CD.cons{l:AD}{H:Hp}{d:PD}{ds:List PD}{x:V}{xs:List V}(h:Dt l H d x)(k:CD l H ds xs):CD l H (d::ds) (x::xs):=by
 rw [CD];exact⟨x,xs,rfl,h,k⟩
def Dt.int{l:AD}{H:Hp}{i:Int}:Dt l H (.int i) (.int i):=by rw [Dt]
def Dt.bool{l:AD}{H:Hp}{b:Bool}:Dt l H (.bool b) (.bl b):=by rw [Dt]
def Dt.A8{l:AD}{H:Hp}:Dt l H .none .A8:=by rw [Dt]
def Dt.str{l:AD}{H:Hp}{x:Str}:Dt l H (.str x) (.str x):=by rw [Dt]
def Dt.tup{l a:AD}{H:Hp}{ds:List PD}{xs:List V}(n:a≠l)(h:H a=some (.tup xs))(k:CD l H ds xs):Dt l H (.tuple ds) (.ref a):=by rw [Dt];exact⟨a,xs,rfl,n,h,k⟩
def Dt.lst{l a:AD}{H:Hp}{ds:List PD}{xs:List V}(n:a≠l)(h:H a=some (.lst xs))(k:CD l H ds xs):Dt l H (.list ds) (.ref a):=by rw [Dt];exact⟨a,xs,rfl,n,h,k⟩
def Ok(n:Nat)(d:PD):Prop:=d.canLay0=true∧d.depth≤n
def WB(n:Nat)(ds:List PD):Prop:=PyData.canLayAll0 ds=true∧PyData.depthAll ds≤n
def Ok.shaped{n:Nat}{d:PD}(h:Ok n d)(hn:n≤64):SeqAt.shaped d=true:=by
 unfold SeqAt.shaped;rw [h.1,Bool.true_and];exact bH (ae h.2 hn)
def Ok.tup{n:Nat}{ds:List PD}(h:WB n ds):Ok (n+1) (.tuple ds):=⟨by simp only [PyData.canLay0];exact h.1,by simp only [PyData.depth];exact Nat.succ_le_succ h.2⟩
def Ok.lst{n:Nat}{ds:List PD}(h:WB n ds):Ok (n+1) (.list ds):=⟨by simp only [PyData.canLay0];exact h.1,by simp only [PyData.depth];exact Nat.succ_le_succ h.2⟩
def Ok.int{n:Nat}{i:Int}:Ok n (.int i):=⟨by simp [PyData.canLay0],by simp [PyData.depth]⟩
mutual
def OE:∀d:PD,d.canLay0=true→PyData.eqv d d=true
 |.none,_=>by simp [PyData.eqv]
 |.bool _,_=>by simp [PyData.eqv]
 |.int _,_=>by simp [PyData.eqv]
 |.str _,_=>by simp [PyData.eqv]
 |.tuple ds,h=>by simp only [PyData.eqv];exact KQ ds (by simpa only [PyData.canLay0]using h)
 |.list ds,h=>by simp only [PyData.eqv];exact KQ ds (by simpa only [PyData.canLay0]using h)
 |.dict _,h=>by simp [PyData.canLay0]at h
def KQ:∀ds:List PD,PyData.canLayAll0 ds=true→PyData.eqvAll ds ds=true
 |[],_=>by simp [PyData.eqvAll]
 |d::ds,h=>by
  simp only [PyData.canLayAll0,Bool.and_eq_true]at h;simp only [PyData.eqvAll,OE d h.1,KQ ds h.2,Bool.and_self]
end
def SI:PD→String
 |.none => "NoneType"
 |.bool _ => "bool"
 |.int _ => "int"
 |.str _ => "str"
 |.tuple _ => "tuple"
 |.list _ => "list"
 |.dict _ => "dict"
def Dt.ty{K:Fg}{l:AD}{H:Hp}:∀ {d:PD} {v:V},Dt l H d v→GF K H v (.type (SI d))
 |.none,_,h=>by rw [Dt]at h;subst h;exact .A8
 |.bool _,_,h=>by rw [Dt]at h;subst h;exact .bl _
 |.int _,_,h=>by rw [Dt]at h;subst h;exact .int _
 |.str _,_,h=>by rw [Dt]at h;subst h;exact .str _
 |.tuple _,_,h=>by rw [Dt]at h;obtain⟨a,xs,rfl,_,h1,_⟩:=h;exact .tup h1
 |.list _,_,h=>by rw [Dt]at h;obtain⟨a,xs,rfl,_,h1,_⟩:=h;exact .lst h1
 |.dict _,_,h=>by rw [Dt]at h;exact h.elim
def MU:PD→Bool
 |.tuple _=>true
 |_=>false
def Jf:PD→Bool
 |.list _=>true
 |_=>false
def JA:PD→Bool
 |.int _=>true
 |.bool _=>true
 |_=>false
def HX:PD→Bool
 |.bool _=>true
 |_=>false
def bj(K:Fg):∀d:PD,(∀kv,d≠.dict kv)→PySem.W.kitOne K (.type (SI d)) (.type "tuple")=some (MU d)
 |.none,_=>jR K
 |.bool _,_=>iw K
 |.int _,_=>hJ K
 |.str _,_=>fU K
 |.tuple _,_=>XY K
 |.list _,_=>ir K
 |.dict kv,h=>absurd rfl (h kv)
def ZC(K:Fg):∀d:PD,(∀kv,d≠.dict kv)→PySem.W.kitOne K (.type (SI d)) (.type "list")=some (Jf d)
 |.none,_=>jk K
 |.bool _,_=>gy K
 |.int _,_=>gc K
 |.str _,_=>fR K
 |.tuple _,_=>iK K
 |.list _,_=>gE K
 |.dict kv,h=>absurd rfl (h kv)
def ja(K:Fg):PySem.W.kitOne K (.type "NoneType") (.type "bool")=some false:=by kernel_rfl
def jM(K:Fg):PySem.W.kitOne K (.type "str") (.type "bool")=some false:=by kernel_rfl
def gW(K:Fg):PySem.W.kitOne K (.type "tuple") (.type "bool")=some false:=by kernel_rfl
def gC(K:Fg):PySem.W.kitOne K (.type "list") (.type "bool")=some false:=by kernel_rfl
def ZO(K:Fg):∀d:PD,(∀kv,d≠.dict kv)→PySem.W.kitOne K (.type (SI d)) (.type "int")=some (JA d)
 |.none,_=>fQ K
 |.bool _,_=>jH K
 |.int _,_=>ip K
 |.str _,_=>jP K
 |.tuple _,_=>g9 K
 |.list _,_=>iZ K
 |.dict kv,h=>absurd rfl (h kv)
def YR(K:Fg):∀d:PD,(∀kv,d≠.dict kv)→PySem.W.kitOne K (.type (SI d)) (.type "bool")=some (HX d)
 |.none,_=>ja K
 |.bool _,_=>hV K
 |.int _,_=>fz K
 |.str _,_=>jM K
 |.tuple _,_=>gW K
 |.list _,_=>gC K
 |.dict kv,h=>absurd rfl (h kv)
def Dt.nodict{l:AD}{H:Hp}{d:PD}{v:V}(h:Dt l H d v):∀kv,d≠.dict kv:=fun kv z=>by subst z;rw [Dt]at h;exact h
end L2
namespace Tr
def Xi{b r:Tr}:(cons b r).Dh=true ↔ b.Dh=true∧r.Dh=true∧∀c,r.bs[0]? = some c→lt b c=false:=by
 cases r with
 |nil=>simp [bs,Dh]
 |cons c q =>
  rw [show(cons b (cons c q)).Dh=(b.Dh&&(cons c q).Dh && !lt b c) from rfl];simp only [Bool.and_eq_true,Bool.not_eq_true',bs,List.getElem?_cons_zero,Option.some.injEq,forall_eq',and_assoc]
def OD:∀t:Tr,t.Dh=true ↔ (∀c∈t.bs,c.Dh=true)∧∀(i:Nat) (a b:Tr),t.bs[i]? = some a→t.bs[i+1]? = some b→lt a b=false
 |.nil=>by simp [Dh,bs]
 |.cons b r=>by
  rw [Xi,OD r,bs,List.forall_mem_cons];constructor
  ·rintro⟨h1,⟨h2,h3⟩,h4⟩;refine⟨⟨h1,h2⟩,fun i x y ex ey=>?_⟩;cases i with
   |zero=>simp at ex;subst ex;exact h4 y (by simpa using ey)
   |succ i=>exact h3 i x y (by simpa using ex) (by simpa using ey)
  ·rintro⟨⟨h1,h2⟩,h3⟩;exact⟨h1,⟨h2,fun i x y ex ey=>h3 (i+1) x y (by simpa using ex) (by simpa using ey)⟩,fun c hc=>h3 0 b c rfl (by simpa using hc)⟩
def Tp{t c:Tr}(h:c∈t.bs):c.deep<t.deep:=by
 induction t with
 |nil=>cases h
 |cons b r _ ih =>
  rw [bs]at h;have hd:(cons b r).deep=max (b.deep+1) r.deep:=rfl;rcases aK.mp h with rfl|h
  ·omega
  ·have:=ih h;omega
def Hs:∀t:Tr,0<t.AL
 |.nil=>Nat.one_pos
 |.cons b r=>by rw [AL];have:=Hs b;omega
def ID:∀t:Tr,t.deep<t.AL
 |.nil=>Nat.one_pos
 |.cons b r=>by
  have h1:=ID b;have h2:=ID r;have h3:=Hs b;have h4:=Hs r;have hd:(cons b r).deep=max (b.deep+1) r.deep:=rfl;have hk:(cons b r).AL=b.AL+r.AL:=rfl;omega
end Tr
namespace L2
open PySem PySem.Spec PyProof.Rows
mutual
def Ei:PD→Option Tr
 |.tuple ds=>GC ds
 |_=>none
def GC:List PD→Option Tr
 |[]=>some .nil
 |d::ds=>(Ei d).bind fun b=>(GC ds).map fun r=>.cons b r
end
section
variable{X:Cx}
def kE:R2:=fun x y H Q=>∃a b xs ys,x=.ref a∧y=.ref b∧H a=some (.tup xs)∧H b=some (.tup ys)∧xs.length+ys.length≤sizeLine∧∀p H',AO H H'→H' p=some (.tup (xs++ys))→Q (.ref p) H'
def e7:C4 X (binaryOp .Add) kE:=by
 intro pins s σ H x y v u Q I rx ry h;obtain⟨a,b,xs,ys,rfl,rfl,ha,hb,hz,q⟩:=h;cases rx;cases ry;obtain⟨its,r1,p1,_⟩:=I.tuple (BF.of (K:=X.K) ha);obtain⟨its2,r2,p2,_⟩:=I.tuple (BF.of (K:=X.K) hb);by_cases hv:its=[]
 ·have hx:=r1.Ux.mp hv;subst hv hx;obtain⟨⟨cls,dd,data,sl⟩,ho,hc,n,hd⟩:=id p1;obtain⟨⟨cls2,dd2,data2,sl2⟩,ho2,hc2,n2,hd2⟩:=id p2;simp only at hc hd hc2 hd2;subst hc hd hc2 hd2;exact concat_meets ⟨_,ho,rfl⟩ ⟨_,ho2,rfl⟩ noFill_tuple_add seq_tuple_add PySem.F.slot_tuple_add PySem.F.entry_tuple_add (PySem.F.args_tuple_add_2 _ _)
   (tuple_addW0 a b _ _ n n2 dd dd2 sl sl2 (by simp)) ⟨ho,ho2,⟨.ref b,H,I,rfl,q b H (.refl H) (by simpa using hb)⟩⟩
 ·refine HT.dw p1 p2 hv (fun z=>?_) (fun z=>?_) (by rw [←r1.length,←r2.length];exact hz)
  ·have hy:=r2.Ux.mp z;subst hy;exact⟨.ref a,H,I,rfl,q a H (.refl H) (by simpa using ha)⟩
  ·refine⟨.ref s.heap.objs.size,_,I.laid (t':=s.toks) (o:=.tup (xs++ys)) (fun b ob q=>aD _ q) (aI _) ?_,rfl,q _ _ (Bg (I.Av.fresh (aI _)) _) AZ⟩;exact⟨by rw [List.length_append];exact hz,_,r1.append r2,IsTup.new _ _⟩
end
section
variable{P:Program}{w:World}{K:Fg}{mg:Str→Option VL}{base:Heap}{NN:List Str}{qual:Str}{fsc:Scope}{f:AD}{cd:VL}{A:Around}{outer:List Env}{s:SD}{H:Hp}{E:XK}
 {elt iter:Expr}{x:Str}{px pos:Pos}{ifs:List Expr}{scope:Scope}{wi:TI}{fr:List (Option Nat)}{ix:Nat}{tif:TT}{te:TE}{N:List Str}{pins pins0:List (AD×Obj)}{σ σ0:St}
end
end L2
namespace Tim
open PySem PyProof.Rows
section pure
variable(N:Nat)(lt:Nat→Nat→Bool)
end pure
section
variable{prog:Program}{w:World}{A:Around}{E:VL→SD→Prop}{s:SD}{N:Nat}{lt:Nat→Nat→Bool}{κ:SortKind}{it:Nat→Keyed}
variable{p:Array Nat}{pend:Array (Nat×Nat×Nat)}{g:Nat}
section pure
variable(N:Nat)(lt:Nat→Nat→Bool)(a b:Array Nat)
end pure
section pure
variable(N:Nat)(lt:Nat→Nat→Bool)
end pure
end
end Tim
namespace GS
open PySem PySem.W PyProof.Rows PySem.SeqAt
abbrev Ext(h0 h:Heap):Prop:=∀c o,h0.get? c=some o→h.get? c=some o
def QG(O:KeyOrd)(prog:Program)(w:World)(κ:SortKind)(A:Around)(s:SD)(ks:List O.α)(us:List VL):Prop :=
 ∀(E:VL→SD→Prop) (i j:Nat) (x y:O.α) (u v:VL) (Q:Bool→SD→Prop),us[i]? = some u→us[j]? = some v→ks[i]? = some x→ks[j]? = some y→Q (O.blt x y) s→wpAny (model prog w) A (keyLt' κ u v) Q E s
structure YA(O:KeyOrd)(prog:Program)(w:World)(h0:Heap)(r:Nat)(ks:List O.α)(us:List Value):Prop where
 len:us.length=ks.length
 go:∃ok:SortKind→Prop,(∀(A:Around) (E:Value→Shared→Prop) (s:Shared) (Q:SortKind→Shared→Prop),Ext h0 s.heap→(∀κ,ok κ→Q κ s)→wpAny (model prog w) A (keyKind' us.toArray) Q E s) ∧
  ∀(A:Around) (s:Shared) (κ:SortKind),Ext h0 s.heap→A.units+r<cLine→ok κ→QG O prog w κ A s ks us
def Runs(O:KeyOrd)(prog:Program)(w:World)(ks:List O.α):Prop :=
 ∀(d:O.α) (A:Around) (E:VL→SD→Prop) (s:SD) (κ:SortKind) (ws:List VL),ws.length=ks.length→2≤ws.length→QG O prog w κ A s ks ws →
  wpAny (model prog w) A ((sortRuns').run (SortSt.mk' κ (ws.toArray.zip ws.toArray) #[] 7 none)) (fun r s'=>s'=s∧failedOf r.2=none∧∃ix:List Nat,ix.Perm (List.range ws.length) ∧
   (arrOf r.2).map (·.2)=(ix.map fun i=>ws.getD i Value.none).toArray∧(ix.map fun i=>ks.getD i d).Pairwise O.kle) E s
def WN{O:KeyOrd}{prog:Program}{w:World}{ks:List O.α}(h64:ks.length<64):Runs O prog w ks:=by
 intro d A E s κ ws hl h2 ask;have h64:ws.length<64:=by omega
 refine kat_run (Q:=fun st' s'=>s'=s∧failedOf st'=none∧∃ix:List Nat,ix.Perm (List.range ws.length)∧(arrOf st').map (·.2)=(ix.map fun i=>ws.getD i Value.none).toArray∧(ix.map fun i=>ks.getD i d).Pairwise O.kle)
  (G:=fun p s'=>s'=s∧SM.Pm ws.length p∧SM.Up (O:=O) (fun i=>ks.getD i d) p ws.length) rfl h2 h64 (fun p st' s' hp har hf hG=>?_)
  (TH.OJ (lt:=SM.Fv (O:=O) fun i=>ks.getD i d) (n:=ws.length) (fun i j C hi hj hC=>?_) _ (SM.sort (by omega)))
 ·obtain⟨rfl,hpm,hup⟩:=hG;have h1:p.toList.Perm (List.range ws.length):=by simpa using Array.perm_iff_toList_perm.mp hpm.perm
  refine⟨rfl,hf,p.toList,h1,kat_snds rfl har,?_⟩;refine List.pairwise_iff_getElem.mpr fun i j hi hj hij=>?_;rw [List.length_map,Array.length_toList,hp]at hi hj;have:=hup i j (by omega) hj;have e1:∀k,k<ws.length→∀hk,(p.toList.map fun i=>ks.getD i d)[k]'hk=ks.getD (p.getD k 0) d:=fun k hk hk'=>by
   rw [List.getElem_map,Array.getElem_toList,Array.getD,dif_pos (by omega)]
   rfl
  rw [e1 i hi,e1 j hj];exact this
 ·have gi:∀k,k<ws.length→∃u x,ws[k]? = some u∧ks[k]? = some x∧ws.getD k Value.none=u∧ks.getD k d=x:=fun k hk=>by
   refine⟨ws[k],ks[k]'(by omega),List.getElem?_eq_getElem hk,List.getElem?_eq_getElem (by omega),?_,?_⟩
   ·rw [List.getD_eq_getElem?_getD,List.getElem?_eq_getElem hk];rfl
   ·rw [List.getD_eq_getElem?_getD,List.getElem?_eq_getElem (by omega)];rfl
  obtain⟨u,x,q1,q2,q3,q4⟩:=gi i hi;obtain⟨v,y,r1,r2,r3,r4⟩:=gi j hj;unfold kas_ask;rw [q3,r3];refine ask _ i j x y u v C q1 r1 q2 r2 ?_;have hC:C (O.blt (ks.getD i d) (ks.getD j d)) s:=hC;rw [q4,r4]at hC;exact hC
section
variable{O:KeyOrd}{prog:Program}{w:World}{A:Around}{E:VL→SD→Prop}{s:SD}{h0:Heap}{r:Nat}{ks:List O.α}{us:List VL}
def QG.rev{κ:SortKind}(hl:us.length=ks.length)(a:QG O prog w κ A s ks us):QG O prog w κ A s ks.reverse us.reverse:=fun E i j x y u v Q h1 h2 h3 h4 q=>by
 have b1:=(aE.mp h1).1;have b2:=(aE.mp h2).1;rw [List.length_reverse]at b1 b2;rw [List.getElem?_reverse (by omega)]at h1 h2 h3 h4;rw [←hl]at h3 h4;exact a E _ _ x y u v Q h1 h2 h3 h4 q
def ZF{α:Type}{R:α→α→Prop}:∀ {l:List α},l.length<2→l.Pairwise R
 |[],_=>.nil
 |[_],_=>List.pairwise_singleton ..
 |_::_::_,h=>by simp at h;omega
def YM(d : O.α){a : AD}{n : Nat}{b : Bool}{P : PySem.Fin→SD→Prop}(C : YA O prog w h0 r ks us)(hx : Ext h0 s.heap)(ha0 : h0.objs.size≤a)(ho : s.heap.get? a = some (seqObj "list" us.toArray n))(hsz : us.length≤1000)(hr : Runs O prog w (if b then ks.reverse else ks))(hu : A.units + r < cLine)
 (h : ∀ ix : List Nat,ix.Perm (List.range us.length)→(ix.map fun i => ks.getD i d).Pairwise (fun x y => if b = true then O.kle y x else O.kle x y)→P (.done (.ret .none)) { s with heap:=sortedHeap s.heap a us (ix.map fun i => us.getD i Value.none).toArray }) :
    wpAny (model prog w) A (Builtin.«list.sort» ⟨[.ref a],[(Str.ofString "reverse",.bool b)]⟩) P E s := by
  rw [list_sort_rev]
  have ha : a < s.heap.objs.size:=aF ho
  refine Wb (listItems_at ho rfl ?_)
  refine Wb (listUpdate_at ho rfl ?_ (by rw [List.size_toArray,sizeLine_eq]; omega) (au _))
  obtain ⟨e1,ho1⟩ : ∃ e1,(s.heap.update a (Obj.mapSeq fun _ => #[])).get? a = some (seqObj "list" #[] e1):=⟨_,get?_update_seq ho (fun _ => #[])⟩
  refine Wb (seqEpoch_at ho1 rfl ?_)
  refine Wb (wpAny_newTuple ?_ (by show us.length≤_; rw [sizeLine_eq]; omega))
  refine Wb (bX ?_ (au _))
  refine aP ?_
  have ho6 : (((s.heap.update a (Obj.mapSeq fun _ => #[])).push (seqObj "tuple" us.toArray 0)).push (seqObj "list" #[] 0)).get? a = some (seqObj "list" #[] e1) := by
    rw [Heap.get?_push_ne _ _ _ (by rw [size_push',Heap.size_update]; exact aG (ar ha)),Heap.get?_push_ne _ _ _ (by rw [Heap.size_update]; exact aG ha)]
    exact ho1
  have keep : Ext h0 (((s.heap.update a (Obj.mapSeq fun _ => #[])).push (seqObj "tuple" us.toArray 0)).push (seqObj "list" #[] 0)):=fun c o hc => by
    have hlt : c < h0.objs.size:=aF hc
    have hne : c≠a:=fun z => Nat.not_lt.mpr ha0 (z ▸ hlt)
    refine aD _ (aD _ ?_)
    rw [Heap.get?_update_ne _ _ _ _ hne]
    exact hx c o hc
  show wpAny (model prog w) A _ P E { s with heap:=((s.heap.update a (Obj.mapSeq fun _ => #[])).push (seqObj "tuple" us.toArray 0)).push (seqObj "list" #[] 0) }
  dsimp only
  have step : ∀ T : Sem PySem.Fin,wpAny (model prog w) A T P E { s with heap:=((s.heap.update a (Obj.mapSeq fun _ => #[])).push (seqObj "tuple" us.toArray 0)).push (seqObj "list" #[] 0) } →
      wpAny (model prog w) A (if b = true then (do let _ ← rule "list.sort.reverse"; T) else T) P E { s with heap:=((s.heap.update a (Obj.mapSeq fun _ => #[])).push (seqObj "tuple" us.toArray 0)).push (seqObj "list" #[] 0) } := by
    intro T hT
    split
    · exact Wb (bJ hT)
    · exact hT
  refine step _ ?_
  obtain ⟨ok,hkind,hask⟩:=C.go
  have hl:=C.len
  by_cases h2 : us.toArray.size < 2
  · rw [if_pos h2,if_pos h2]
    refine Wb (aA ?_)
    rw [StateT.run_pure]
    refine Wb (aA ?_)
    dsimp only
    have hz : us.length < 2 := by simpa using h2
    have hout:=TH.Qs b us hz
    refine Wb (seqEpoch_at ho6 rfl ?_)
    refine Wb (listUpdate_at ho6 rfl ?_ (au _) (by
      refine ae (Nat.le_of_eq (bF Array.size hout)) ?_
      rw [List.size_toArray,sizeLine_eq]; omega))
    simp only [bne_self_eq_false,Bool.false_eq_true,if_false]
    have fin:=h (List.range us.length) (.refl _) (ZF (by simpa using hz))
    rw [TH.map_getD] at fin
    rw [← hout] at fin
    exact aA fin
  · rw [if_neg h2,if_neg h2]
    have hz : 2≤us.length := by simpa using h2
    refine Wb (hkind A E { s with heap:=((s.heap.update a (Obj.mapSeq fun _ => #[])).push (seqObj "tuple" us.toArray 0)).push (seqObj "list" #[] 0) } _ keep fun κ hκ => ?_)
    have ask:=hask A { s with heap:=((s.heap.update a (Obj.mapSeq fun _ => #[])).push (seqObj "tuple" us.toArray 0)).push (seqObj "list" #[] 0) } κ keep hu hκ
    obtain ⟨ws,kw,aw,hwl,hwk,hws,hrw,pick⟩ : ∃ (ws : List VL) (kw : List O.α),QG O prog w κ A { s with heap:=((s.heap.update a (Obj.mapSeq fun _ => #[])).push (seqObj "tuple" us.toArray 0)).push (seqObj "list" #[] 0) } kw ws∧ws.length = us.length∧ws.length = kw.length ∧
        (if b = true then (us.toArray.zip us.toArray).reverse else us.toArray.zip us.toArray) = ws.toArray.zip ws.toArray∧Runs O prog w kw ∧
        ∀ ix : List Nat,ix.Perm (List.range ws.length)→(ix.map fun i => kw.getD i d).Pairwise O.kle→∃ iy : List Nat,iy.Perm (List.range us.length)∧(iy.map fun i => ks.getD i d).Pairwise (fun x y => if b = true then O.kle y x else O.kle x y) ∧
          (if b = true then ((ix.map fun i => ws.getD i Value.none).toArray).reverse else (ix.map fun i => ws.getD i Value.none).toArray) = (iy.map fun i => us.getD i Value.none).toArray := by
      cases b with
      | false => exact ⟨us,ks,ask,rfl,hl,rfl,hr,fun ix h1 h2 => ⟨ix,h1,by simpa using h2,rfl⟩⟩
      | true =>
        refine ⟨us.reverse,ks.reverse,ask.rev hl,by simp,by simp [hl],kat_pairs (ks:=us) (vs:=us) true rfl,hr,fun ix h1 h2 => ⟨(ix.map fun i => us.length - 1 - i).reverse,?_,?_,?_⟩⟩
        · rw [List.length_reverse] at h1
          refine (List.reverse_perm _).trans ((h1.map fun i => us.length - 1 - i).trans ?_)
          have : (List.range us.length).map (fun i => us.length - 1 - i) = (List.range us.length).reverse := by
            refine List.ext_getElem (by simp) fun i a1 a2 => ?_
            simp
          rw [this]
          exact List.reverse_perm _
        · have hb : ∀ i∈ix,i < us.length:=fun i hi => by simpa using h1.mem_iff.mp hi
          have e : ((ix.map fun i => us.length - 1 - i).reverse.map fun i => ks.getD i d) = (ix.map fun i => ks.reverse.getD i d).reverse := by
            rw [List.map_reverse,List.map_map]
            congr 1
            exact aT fun i hi => by
              have:=hb i hi
              show ks.getD (us.length - 1 - i) d = _
              rw [List.getD_eq_getElem?_getD,List.getD_eq_getElem?_getD,List.getElem?_reverse (by omega),hl]
          rw [e,List.pairwise_reverse]
          simpa using h2
        · have hb : ∀ i∈ix,i < us.length:=fun i hi => by simpa using h1.mem_iff.mp hi
          rw [if_pos rfl,List.map_reverse,List.map_map,List.reverse_toArray]
          congr 2
          exact aT fun i hi => by
            have:=hb i hi
            show us.reverse.getD i Value.none = us.getD (us.length - 1 - i) Value.none
            rw [List.getD_eq_getElem?_getD,List.getD_eq_getElem?_getD,List.getElem?_reverse (by omega)]
    rw [hws]
    refine Wb (ag (hrw d A E { s with heap:=((s.heap.update a (Obj.mapSeq fun _ => #[])).push (seqObj "tuple" us.toArray 0)).push (seqObj "list" #[] 0) } κ ws hwk (by omega) aw) ?_ fun _ _ z => z)
    rintro ⟨⟨⟩,st'⟩ s' ⟨rfl,hf,ix,hix,hout,hst⟩
    dsimp only
    refine Wb (seqEpoch_at ho6 rfl ?_)
    obtain ⟨iy,y1,y2,hfin⟩ : ∃ iy : List Nat,iy.Perm (List.range us.length)∧(iy.map fun i => ks.getD i d).Pairwise (fun x y => if b = true then O.kle y x else O.kle x y) ∧
        (if b = true then ((arrOf st').map (·.2)).reverse else (arrOf st').map (·.2)) = (iy.map fun i => us.getD i Value.none).toArray := by
      rw [show (arrOf st').map (·.2) = _ from hout]
      exact pick ix hix hst
    refine Wb (listUpdate_at ho6 rfl ?_ (au _) (by
      refine ae (Nat.le_of_eq (bF Array.size hfin)) ?_
      have:=y1.length_eq
      rw [List.length_range] at this
      rw [List.size_toArray,List.length_map,this,sizeLine_eq]; omega))
    rw [show failedOf st' = none from hf]
    simp only [bne_self_eq_false,Bool.false_eq_true,if_false]
    have fin:=h iy y1 y2
    rw [← hfin] at fin
    exact aA fin
def VM(prog:Program)(w:World)(A:Around)(E:VL→SD→Prop)(s:SD)(v:VL)(us:List VL):Prop :=
 ∀Q:List VL→SD→Prop,(∀(h1:Heap) (tk:Nat),Ext s.heap h1→s.heap.objs.size≤h1.objs.size→Q us { s with heap:=h1,toks:=tk })→wpAny (model prog w) A (collect v) Q E s
def Se{l:AD}(hl:s.heap.IsList l us.toArray)(hz:us.length≤1000):VM prog w A E s (.ref l) us:=fun Q h=>by
 refine collect_list hl (h _ _ (fun c o q=>?_) ?_) (by rw [sizeLine_eq];omega)
 ·have hlt:c<s.heap.objs.size:=aF q;rw [Heap.get?_update_ne _ _ _ _ (aG hlt),Heap.get?_push_ne _ _ _ (aG hlt)];exact q
 ·rw [Heap.size_update,size_push'];omega
def UY(d:O.α){b:Bool}{Q:VL→SD→Prop}{h1:Heap}{tk:Nat}{T:Sem PySem.Fin}(C:YA O prog w s.heap r ks us)(hsz:us.length≤1000)(hr:Runs O prog w (if b then ks.reverse else ks))(x1:Ext s.heap h1)(z1:s.heap.objs.size≤h1.objs.size)
 (h:∀(h':Heap) (D tk:Nat) (ix:List Nat) (e1:Nat),s.heap.objs.size≤D→Ext s.heap h'→h'.get? D=some (seqObj "list" (ix.map fun i=>us.getD i Value.none).toArray e1)→ix.Perm (List.range us.length)→(ix.map fun i=>ks.getD i d).Pairwise (fun x y=>if b=true then O.kle y x else O.kle x y)→Q (.ref D) { s with heap:=h',toks:=tk }) :
  (h1.push (seqObj "list" us.toArray 0)).get? h1.objs.size=some (seqObj "list" us.toArray 0)∧Ext s.heap (h1.push (seqObj "list" us.toArray 0)) ∧
  ∀ix:List Nat,ix.Perm (List.range us.length)→(ix.map fun i=>ks.getD i d).Pairwise (fun x y=>if b=true then O.kle y x else O.kle x y)→Q (.ref h1.objs.size) { s with heap:=sortedHeap (h1.push (seqObj "list" us.toArray 0)) h1.objs.size us (ix.map fun i=>us.getD i Value.none).toArray,toks:=tk }:=by
 have g1:(h1.push (seqObj "list" us.toArray 0)).get? h1.objs.size=some (seqObj "list" us.toArray 0):=aN _ rfl;refine⟨g1,fun b u e=>aD _ (x1 b u e),fun ix p1 p2=>?_⟩;obtain⟨e1,he1⟩:=sortedHeap_at (vs:=us) (out:=(ix.map fun i=>us.getD i Value.none).toArray) g1;refine h _ h1.objs.size tk ix e1 z1 (fun b u e=>?_) he1 p1 p2;have lb:b<h1.objs.size:=aF (x1 b u e);rw [sortedHeap_old (aG lb) (by rw [Heap.size_push];exact ar lb)];exact aD _ (x1 b u e)
def Zy(d:O.α){v:VL}{Q:VL→SD→Prop}(G:VM prog w A.in1 E s v us)(C:YA O prog w s.heap r ks us)(hsz:us.length≤1000)(hr:Runs O prog w ks)(hu:A.units+2+r<cLine)
 (h:∀(h':Heap) (D tk:Nat) (ix:List Nat) (e1:Nat),s.heap.objs.size≤D→Ext s.heap h'→h'.get? D=some (seqObj "list" (ix.map fun i=>us.getD i Value.none).toArray e1)→ix.Perm (List.range us.length)→(ix.map fun i=>ks.getD i d).Pairwise O.kle→Q (.ref D) { s with heap:=h',toks:=tk }) :
  wpAny (model prog w) A (call (.builtin "sorted") [v]) Q E s:=by
 refine Calls.call_function_entry kind_sorted plain_sorted entry_sorted (args_sorted1 _) ?_;unfold Builtin.«sorted»;refine Wb (m:=checkCount "sorted" 1 1 _) (aA ?_);refine Wb (G _ fun h1 tk x1 z1=>?_);refine Wb (bX ?_ (by rw [sizeLine_eq];omega));obtain⟨g1,x2,fin⟩:=UY (T:=pure (.done (.ret .none))) (tk:=tk) (b:=false) d C hsz (by simpa using hr) x1 z1 (fun h' D tk ix e1 a1 a2 a3 a4 a5=>h h' D tk ix e1 a1 a2 a3 a4 (by simpa using a5));refine Wb (aP (af slot_list_sort ⟨_,g1,rfl⟩ entry_list_sort ?_ (args_list_sort _)));rw [TH.Ka];refine YM (s:={ s with heap:=h1.push (seqObj "list" us.toArray 0),toks:=tk }) d C x2 z1 g1 hsz (by simpa using hr) (by rw [show A.in1.in1.units=A.units+2 from rfl];omega) fun ix p1 p2=>⟨_,rfl,?_⟩;exact aA ⟨_,rfl,fin ix p1 p2⟩
end
end GS
set_option maxHeartbeats 0
namespace Tr
def pr(x:Tr×Tr):Tr:=.cons x.1 (.cons x.2 .nil)
end Tr
set_option maxHeartbeats 4000000
namespace TH
open PySem PySem.W PyProof.Rows PySem.SeqAt
def XW{h:Heap}{a:AD}{x y:Array VL}(h1:h.IsList a x)(h2:h.IsList a y):x=y:=by
 obtain⟨o,e,_,n,d⟩:=h1;obtain⟨o',e',_,n',d'⟩:=h2;rw [e]at e';cases e';rw [d]at d';cases d';rfl
def kP{s:SD}{t u:Tr}{A:Around}{a b:AD}{its its':List VL}(h1:s.heap.IsList a its.toArray)(k1:Vs s.heap t its)(h2:s.heap.IsList b its'.toArray)(k2:Vs s.heap u its')(hu:A.units+t.deep<cLine) :
  EqAt A s (.ref a) (.ref b) (decide (t=u)):=by
 have z1:its.toArray.size=t.bs.length:=by rw [Tr.DD,←Vs.length k1];simp
 have z2:its'.toArray.size=u.bs.length:=by rw [Tr.DD,←Vs.length k2];simp
 by_cases ea:a=b
 ·subst ea;have:=XW h1 h2;have e2:its=its':=by simpa using this
  subst e2;rw [Vs.inj k1 k2,decide_eq_true rfl];exact EqAt.same _
 ·refine EqAt.of_refs ea ?_;by_cases hl:t.bs.length=u.bs.length
  ·have key:=RcAt.lists (s:=s) (A:=A) (e:=fun j=>decide (t.bs[j]? = u.bs[j]?)) h1 h2 (by omega) (by omega) fun j x1 x2=>by
    have:=PF t u A.in1 its its' k1 k2 (by rw [show A.in1.units=A.units+1 from rfl];omega) j (by simpa using x1) (by simpa using x2)
    simpa using this
   have ev:(List.range its.toArray.size).all (fun j=>decide (t.bs[j]? = u.bs[j]?))=decide (t=u):=by
    rw [z1];by_cases hbc:t=u
    ·subst hbc;simp
    ·rw [decide_eq_false hbc];refine bK.mpr fun z=>hbc (Tr.So (bW fun i=>?_));by_cases hi:i<t.bs.length
     ·have:=aL.mp z i (az.mpr (by omega))
      simpa using this
     ·rw [List.getElem?_eq_none (by omega),List.getElem?_eq_none (by omega)]
   rw [ev]at key;exact key
  ·rw [decide_eq_false (fun z=>hl (by rw [z]))];exact RcAt.lists_lengths h1 h2 (by simpa [z1,z2]using hl) (by omega)
section
open PySem.AutoSeq1 (wpAny_loadPart')
open PySem.MeetsSeq PySem.MeetsSeq2 PySem.MeetsSeq3
def eM{t u:List Tr}{i:Nat}(h1:i<t.length)(h2:i<u.length):Tr.MA (t.drop i) (u.drop i)=if t[i]=u[i] then Tr.MA (t.drop (i+1)) (u.drop (i+1)) else Tr.lt t[i] u[i]:=by
 rw [List.drop_eq_getElem_cons h1,List.drop_eq_getElem_cons h2,Tr.MA]
def Xc{t u:List Tr}{i:Nat}(h:t.length≤i∨u.length≤i)(h1:i≤t.length)(h2:i≤u.length):Tr.MA (t.drop i) (u.drop i)=decide (t.length<u.length):=by
 by_cases a:t.length≤i
 ·rw [List.drop_of_length_le a];by_cases b:u.length≤i
  ·rw [List.drop_of_length_le b,decide_eq_false (by omega)]
   rfl
  ·rw [List.drop_eq_getElem_cons (by omega),decide_eq_true (by omega)]
   rfl
 ·have b:u.length≤i:=by omega
  rw [List.drop_of_length_le b,List.drop_eq_getElem_cons (by omega),decide_eq_false (by omega)]
  rfl
def d7(l b:AD)(items items2:Array VL)(n n2:Nat)(dd dd2:Option AD)(sl sl2:Array (Option VL))(t u:Tr)(k:Nat) :
  ∀i:Nat,items.size-i=k→i≤items.size→i≤items2.size→Meets (Builtin.«list.__eq__.loop» ⟨[.ref l,.ref b,rawInt i,rawInt 0],[]⟩)
   (fun A R s=>s.heap.get? l=some { cls:=.type "list",dict:=dd,data:=.seq items n,slots:=sl }∧s.heap.get? b=some { cls:=.type "list",dict:=dd2,data:=.seq items2 n2,slots:=sl2 } ∧
    Vs s.heap t items.toList∧Vs s.heap u items2.toList∧A.units+t.deep<cLine ∧
    R (.ok (.ret (.bool (Tr.MA (t.bs.drop i) (u.bs.drop i))))) s):=by
 induction k with
 |zero =>
  intro i hk hi1' hi2' prog w A R s h;obtain⟨hp,g,d,tk,os⟩:=s;obtain⟨hl,hb,hi,hj,hun,h⟩:=h;have z1:items.size=t.bs.length:=by rw [Tr.DD,←Vs.length hi];simp
  have z2:items2.size=u.bs.length:=by rw [Tr.DD,←Vs.length hj];simp
  wp_walk using wpAny_loadPart' hl,wpAny_loadPart' hb
  have hi1:items[((i:Nat):Int).toNat]? = none:=by simp;omega
  rw [hi1]
  wp_walk using wpAny_loadPart' hl,wpAny_loadPart' hb
  show R (.ok (.ret (.bool (decide (items.size<items2.size))))) _;rw [Xc (.inl (by omega)) (by omega) (by omega),←z1,←z2]at h;exact h
 |succ k ih =>
  intro i hk hi1' hi2' prog w A R s h;obtain⟨hp,g,d,tk,os⟩:=s;obtain⟨hl,hb,hi,hj,hun,h⟩:=h;have z1:items.size=t.bs.length:=by rw [Tr.DD,←Vs.length hi];simp
  have z2:items2.size=u.bs.length:=by rw [Tr.DD,←Vs.length hj];simp
  wp_walk using wpAny_loadPart' hl,wpAny_loadPart' hb
  have hlt:i<items.size:=by omega
  have hi1:items[((i:Nat):Int).toNat]? = some items[i]:=by simp [hlt]
  by_cases hlt2:i<items2.size
  ·have hi2:items2[((i:Nat):Int).toNat]? = some items2[i]:=by simp [hlt2]
   have hc:((i:Int)+1)=((i+1:Nat):Int):=by push_cast;rfl
   rw [hi1,hi2];obtain⟨a1,i1,c1,q1,q2,q3,q4,q5⟩:=hi.at (i:=i) (by simpa using hlt);obtain⟨a2,i2,c2,r1,r2,r3,r4,r5⟩:=hj.at (i:=i) (by simpa using hlt2);have e1:items[i]=.ref a1:=by rw [←q1];simp [hlt]
   have e2:items2[i]=.ref a2:=by rw [←r1];simp [hlt2]
   have t1:t.bs[i]'(by omega)=c1:=by
    have:=aR (l:=t.bs) (i:=i) (by omega);rw [q4]at this;exact(aW this).symm
   have t2:u.bs[i]'(by omega)=c2:=by
    have:=aR (l:=u.bs) (i:=i) (by omega);rw [r4]at this;exact(aW this).symm
   rw [eM (by omega) (by omega),t1,t2]at h;have he:=Mr (s:=⟨hp,g,d,tk,os⟩) (A:=A.in1) q2 q3 r2 r3 (by rw [show A.in1.units=A.units+1 from rfl];omega);rw [e1,e2];refine Wb (he prog w _ _ ?_);cases hb':decide (c1=c2) with
   |true =>
    rw [if_pos (aO hb')]at h
    wp_walk
    rw [hc];exact⟨plainId_quiet plain_eq_loop _,codeAny_builtin entry_eq_loop (by
     rw [Around.under_plainId plain_eq_loop _];exact ih (i+1) (by omega) (by omega) (by omega) prog w A R _ ⟨hl,hb,hi,hj,hun,h⟩)⟩
   |false =>
    rw [if_neg (bZ hb')]at h
    wp_walk using wpAny_loadPart' hl,wpAny_loadPart' hb
    rw [hi1,hi2,e1,e2];have hri:=R6 (c1.deep+1) c1 c2 A.in1 ⟨hp,g,d,tk,os⟩ a1 a2 i1 i2 (bM _) q2 q3 r2 r3 (by rw [show A.in1.units=A.units+1 from rfl];omega) prog w
    wp_walk using hri
    exact h
  ·have hi2:items2[((i:Nat):Int).toNat]? = none:=by simp;omega
   rw [hi1,hi2]
   wp_walk using wpAny_loadPart' hl,wpAny_loadPart' hb
   show R (.ok (.ret (.bool (decide (items.size<items2.size))))) _;rw [Xc (.inr (by omega)) (by omega) (by omega),←z1,←z2]at h;exact h
def d9(l b:AD)(items items2:Array VL)(n n2:Nat)(dd dd2:Option AD)(sl sl2:Array (Option VL))(t u:Tr) :
  Meets (Builtin.«list.__lt__» ⟨[.ref l,.ref b],[]⟩)
   (fun A R s=>s.heap.get? l=some { cls:=.type "list",dict:=dd,data:=.seq items n,slots:=sl }∧s.heap.get? b=some { cls:=.type "list",dict:=dd2,data:=.seq items2 n2,slots:=sl2 } ∧
    Vs s.heap t items.toList∧Vs s.heap u items2.toList∧A.units+t.deep<cLine ∧
    R (.ok (.ret (.bool (Tr.lt t u)))) s):=by
 intro prog w A R s h;obtain⟨hp,g,d,tk,os⟩:=s;obtain⟨hl,hb,hi,hj,hun,h⟩:=h;have f3:=AutoSeq1.sub_list_list
 wp_walk using wpAny_loadPart' hl,wpAny_loadPart' hb
 exact⟨plainId_quiet plain_eq_loop _,codeAny_builtin entry_eq_loop (by
  rw [Around.under_plainId plain_eq_loop _];exact d7 l b items items2 n n2 dd dd2 sl sl2 t u _ 0 rfl (au _) (au _) prog w A R _ ⟨hl,hb,hi,hj,hun,by rw [Tr.bz]at h;simpa using h⟩)⟩
end
end TH
namespace TH
open PySem PySem.W PyProof.Rows PySem.SeqAt
def LH(h:Heap)(k:Tr)(v:VL):Prop:=∃(a b l:AD) (its its2:List VL) (t u:Tr),k=Tr.pr (t,u)∧v=.ref a∧h.IsTuple a [.ref b,.ref l].toArray∧h.IsTuple b its.toArray∧Vs h t its∧h.IsList l its2.toArray∧Vs h u its2
def Vs.ext{h h':Heap}(k:GS.Ext h h'){t:Tr}{us:List VL}(e:Vs h t us):Vs h' t us:=e.keeps fun b o e _=>k b o e
def U3{h h':Heap}(k:GS.Ext h h'){a:AD}{x:Array VL}(e:h.IsTuple a x):h'.IsTuple a x:=let⟨o,e1,c,n,d⟩:=e;⟨o,k _ _ e1,c,n,d⟩
def Z3{h h':Heap}(k:GS.Ext h h'){a:AD}{x:Array VL}(e:h.IsList a x):h'.IsList a x:=let⟨o,e1,c,n,d⟩:=e;⟨o,k _ _ e1,c,n,d⟩
def LH.ext{h h':Heap}(k:GS.Ext h h'){x:Tr}{v:VL}:LH h x v→LH h' x v:=fun⟨a,b,l,i1,i2,t,u,e1,e2,h1,h2,h3,h4,h5⟩ =>
 ⟨a,b,l,i1,i2,t,u,e1,e2,U3 k h1,U3 k h2,h3.ext k,Z3 k h4,h5.ext k⟩
section
open PySem.MeetsSeq PySem.MeetsSeq2 PySem.MeetsSeq3
variable{prog:Program}{w:World}{A:Around}{E:VL→SD→Prop}{s:SD}
def Y9{t u:Tr}{a b:AD}{its its':List VL}{Q:Bool→SD→Prop}(h1:s.heap.IsList a its.toArray)(k1:Vs s.heap t its)(h2:s.heap.IsList b its'.toArray)(k2:Vs s.heap u its')(hu:A.units+t.deep<cLine)(h:Q (Tr.lt t u) s):wpAny (model prog w) A (oneLt' false (.ref a) (.ref b)) Q E s:=by
 rw [oneLt'_eq];simp only [Bool.false_eq_true,if_false];obtain⟨⟨cls,dd,data,sl⟩,ho,hc,n,hdt⟩:=id h1;obtain⟨⟨cls2,dd2,data2,sl2⟩,ho2,hc2,n2,hdt2⟩:=id h2;simp only at hc hdt hc2 hdt2;subst hc hdt hc2 hdt2;refine Wb (richCompare_meets_room (op:=.Lt) ⟨_,ho,rfl⟩ ⟨_,ho2,rfl⟩ PySem.F.slot_list_lt PySem.F.entry_list_lt (PySem.F.args_list_lt_2 _ _) (d9 a b its.toArray its'.toArray n n2 dd dd2 sl sl2 t u)
   ⟨ho,ho2,by simpa using k1,by simpa using k2,hu,show Value.bool (Tr.lt t u)≠Value.notImplemented∧_ from⟨(fun x=>nomatch x),wpAny_truthy_bool h⟩⟩ (by omega))
def eJ{x y:Tr}{u v:VL}{Q:Bool→SD→Prop}(h1:LH s.heap x u)(h2:LH s.heap y v)(hu:A.units+x.deep<cLine)(h:Q (Tr.lt x y) s):wpAny (model prog w) A (keyLt' (tuples' false) u v) Q E s:=by
 obtain⟨a,b,l,i1,i2,t1,u1,rfl,rfl,k1,k2,k3,k4,k5⟩:=h1;obtain⟨a',b',l',j1,j2,t2,u2,rfl,rfl,m1,m2,m3,m4,m5⟩:=h2;obtain⟨o,ho,hc,n,hd⟩:=id k1;obtain⟨o2,ho2,hc2,n2,hd2⟩:=id m1;have hdp:(Tr.pr (t1,u1)).deep=max (t1.deep+1) (max (u1.deep+1) 0):=rfl;refine kat_lt ho hd ho2 hd2 ?_;have hlt:Tr.lt (Tr.pr (t1,u1)) (Tr.pr (t2,u2))=if t1=t2 then(if u1=u2 then false else Tr.lt u1 u2) else Tr.lt t1 t2:=by
  unfold Tr.pr;rw [Tr.lt,Tr.lt]
  rfl
 rw [hlt]at h;show KatLex prog w A false (decide (2<2)) Q [(.ref b,.ref b'),(.ref l,.ref l')] 0 s;refine kat_cons (Mr k2 k3 m2 m3 (by omega) prog w _ _ ?_);by_cases e1:t1=t2
 ·rw [decide_eq_true e1];rw [if_pos e1]at h;refine kat_yes (kat_cons (kP k4 k5 m4 m5 (by omega) prog w _ _ ?_));by_cases e2:u1=u2
  ·rw [decide_eq_true e2];rw [if_pos e2]at h;exact kat_yes (kat_nil h)
  ·rw [decide_eq_false e2];rw [if_neg e2]at h;exact kat_no (by rw [Bool.false_and];exact Y9 k4 k5 m4 m5 (by omega) h)
 ·rw [decide_eq_false e1];rw [if_neg e1]at h;exact kat_no (by rw [Bool.false_and];exact Qm k2 k3 m2 m3 (by omega) h)
def Su(h:Heap)(v:VL):Prop:=∃(a b:AD) (xs:Array VL) (its:List VL),v=.ref a∧h.IsTuple a ((.ref b::its).toArray)∧h.IsTuple b xs
def Qx{M:Model}:∀(us:List VL) {Q:List (Option VL)→SD→Prop},(∀v∈us,Su s.heap v)→(∀fs:List VL,fs.length=us.length→(∀v∈fs,Looks M s.heap (typeOf v) (.type "tuple"))→Q (fs.map some) s)→wpAny M A (us.mapM firstOfTuple') Q E s
 |[],Q,_,h=>by
  rw [List.mapM_nil];exact aA (h [] rfl fun _ z=>by cases z)
 |v::us,Q,e,h=>by
  obtain⟨a,b,xs,its,rfl,h1,h2⟩:=e v ai;obtain⟨o,ho,hc,n,hd⟩:=id h1;rw [List.mapM_cons];refine Wb ?_;rw [kas_first_eq];refine Wb (Looks.here (show Looks M s.heap (typeOf (.ref a)) o.cls from(Looks.ld ho).andThen .now) ?_);rw [hc,if_neg (by first|decide|simp)];refine Wb (listItems_at ho hd (aA ?_));refine Wb (Qx us (Q:=fun bs s'=>wpAny M A (pure ((.ref b::its).toArray[0]? :: bs)) Q E s') (fun v hv=>e v (aU _ hv)) fun fs hl hfs=>aA ?_);have:=h (.ref b::fs) (by simp [hl]) fun v hv=>by
   rcases aK.mp hv with rfl|hv
   ·exact KY h2
   ·exact hfs v hv
  simpa using this
def fG{M:Model}{us:List VL}{Q:SortKind→SD→Prop}(e:∀v∈us,Su s.heap v)(h:Q (tuples' false) s):wpAny M A (keyKind' us.toArray) Q E s:=by
 rw [kat_kind_eq,List.mapM_toArray,map_eq_pure_bind];refine Wb (Wb (Qx us e fun fs hl hfs=>aA ?_));rw [if_pos (by simp)];refine Wb (bJ ?_);have e1:((fs.map some).toArray.filterMap id)=fs.toArray:=by simp
 rw [e1];exact Wb (Ql hfs (fun _=>aA h) (aA h))
def LH.tt{h:Heap}{x:Tr}{v:VL}:LH h x v→Su h v:=fun⟨a,b,l,i1,i2,t,u,e1,e2,h1,h2,h3,h4,h5⟩=>⟨a,b,_,[.ref l],e2,h1,h2⟩
def dq{h0:Heap}{r:Nat}{ks:List Tr}{us:List VL}(hl:us.length=ks.length)(he:∀(i:Nat) (x:Tr) (u:VL),ks[i]? = some x→us[i]? = some u→LH h0 x u∧x.deep≤r):GS.YA Tr.ord prog w h0 r ks us :=
 ⟨hl,fun κ=>κ=tuples' false,fun A E s Q hx h=>fG (fun v hv=>by
  obtain⟨i,hi,rfl⟩:=List.getElem_of_mem hv;exact((he i _ _ (aR (by omega)) (aR hi)).1.ext hx).tt) (h _ rfl),
  fun A s κ hx hr hκ E i j x y u v Q h1 h2 h3 h4 q=>by
  subst hκ;obtain⟨c1,d1⟩:=he i x u h3 h1;obtain⟨c2,d2⟩:=he j y v h4 h2;exact eJ (c1.ext hx) (c2.ext hx) (by omega) q⟩
end
end TH
namespace Tr
open PySem PyProof.Rows
def kR(prog:Program)(w:World)(ks:List Tr):Prop:=GS.Runs Tr.ord prog w ks
def Uk{prog:Program}{w:World}{ks:List Tr}(h:ks.length<64):kR prog w ks:=GS.WN (O:=Tr.ord) h
end Tr
namespace L2
open PySem PySem.Spec PyProof.Rows
def Cv(B:AD→Prop)(H:Hp)(k:Tr)(v:V):Prop:=∃(a l:AD) (t u:Tr) (vt:V) (xs:List V),k=Tr.pr (t,u)∧v=.ref a∧¬B l∧H a=some (.tup [vt,.ref l])∧Tv H t vt∧H l=some (.lst xs)∧Ts H u xs
def Cv.same{B:AD→Prop}{H H':Hp}{k:Tr}{v:V}(e:AO H H'):Cv B H k v→Cv B H' k v:=fun⟨a,l,t,u,vt,xs,h1,h2,h0,h3,h4,h5,h6⟩=>⟨a,l,t,u,vt,xs,h1,h2,h0,e _ _ h3,h4.same e,e _ _ h5,h6.same e⟩
structure nY(B:Addr→Prop)(H:Hp)(ks:List Tr)(ys:List V):Prop where
 len:ys.length=ks.length
 at_:∀(i:Nat) (k:Tr) (v:V),ks[i]? = some k→ys[i]? = some v→Cv B H k v
variable{B B':AD→Prop}
section
variable{X:Cx}{pins:List (AD×Obj)}{σ:St}{H:Hp}{s:SD}
def Cv.raw(I:Inv X pins σ H s){k:Tr}{v:V}{u:VL}(h:Cv B H k v)(r:RelV v u):TH.LH s.heap k u:=by
 obtain⟨a,l,t,w,vt,xs,rfl,rfl,_,h1,h2,h3,h4⟩:=h;cases r;obtain⟨its,rv,pl,hz⟩:=I.tuple (BF.of (K:=X.K) h1);obtain⟨i2,rv2,pl2,hz2⟩:=I.list (A3.of (K:=X.K) h3);obtain⟨u1,us1,rfl,r1,rv1⟩:∃u1 us1,its=u1::us1∧RelV vt u1∧Vals [V.ref l] us1:=by
  cases rv with
  |cons r t=>exact⟨_,_,rfl,r,t⟩
 obtain⟨u2,rfl,r2⟩:=rv1.one;cases r2;obtain⟨b,its1,rfl,hb1,hb2⟩:=h2.at I r1;exact⟨a,b,l,its1,i2,t,w,rfl,rfl,pl,hb1,hb2,pl2.isList,h4.vs I rv2⟩
end
abbrev Nh(x y:Str)(px py:Pos)(tk:Nat)(tp:Pos):Expr:=.Tuple [.Name x px,.Name y py] tk tp
def dn{ix iy:Nat}(h:ix≠iy)(σ:St)(a b c d:Option V):((((σ.set ix a).set iy b).set ix c).set iy d)=(σ.set ix c).set iy d:=by
 rw [List.set_comm _ _ h.symm,List.set_set,List.set_set]
def Ku(K:Fg)(wi:TI)(fr:List (Option Nat))(ix iy:Nat)(tif:TT)(te:TE):TE:=fun σ H Q=>wi σ H fun J H1=>∀D,H1 D=none→∃W:Nat→Nat→List V→Hp→Prop,(∃m,W 0 m [] (upd H1 D (.lst []))) ∧
 ∀i m ys H,W i m ys H→H D=some (.lst ys)∧((J.stop i H∧Q (.ref D) H)∨(J.go i H∧ys.length<sizeLine∧∀x H',J.Ep i H x H'→∃a v1 v2,x=.ref a∧BF K H' a [v1,v2] ∧
  tif (((carry fr σ).set ix (some v1)).set iy (some v2)) H' fun b H2=>if b=true then te (((carry fr σ).set ix (some v1)).set iy (some v2)) H2 fun y H3=>H3 D=some (.lst ys)∧∃m',m'<m∧W (i+1) m' (ys++[y]) (upd H3 D (.lst (ys++[y])))
   else ∃m',m'<m∧W (i+1) m' ys H2))
section
variable{X:Cx}{elt iter:Expr}{x y:Str}{px py tp pos:Pos}{tk:Nat}{ifs:List Expr}{scope:Scope}{wi:TI}{fr:List (Option Nat)}{ix iy:Nat}{tif:TT}{te:TE}{N:List Str}
def NS{pins:List (AD×Obj)}{σ:St}{H2:Hp}{s2:SD}{Q:VK}{it:AD}{fp:List AD}{tn:Nat→Heap→Prop}{J:It}{cl:List (Str×AD)}{E:VL→SD→Prop}{RR:VL→AD→Result→SD→Prop}
 (S:DC scope N x ix)(S2:DC scope N y iy)(hxy:ix≠iy)(hcalm:X.calm=true)(hfr:D8 N X.N scope X.env.scope fr 0=true)(hlen:fr.length=N.length)
 (hif:∀cl C s₀ H₀ fp,J4 (Am X scope cl N C s₀ H₀ fp) ifs tif)(he:∀cl C s₀ H₀ fp,PE (Am X scope cl N C s₀ H₀ fp) elt te)
 (I2:Inv X pins σ H2 s2)(T:Turn X.prog X.w X.K (Nh x y px py tk tp) J fp it tn)(st2:tn 0 s2.heap)(f2:∀b∈fp,KU X pins H2 b)
 (c1:∀x c,cl.lookup x=some c→X.env.cells.lookup x=some c)(c2:∀x∈scope.names,x.2=NameKind.free→∃c,cl.lookup x.1=some c)
 (W:∀D,H2 D=none→∃W:Nat→Nat→List V→Hp→Prop,(∃m,W 0 m [] (upd H2 D (.lst []))) ∧
   ∀i m ys H,W i m ys H→H D=some (.lst ys)∧((J.stop i H∧Q (.ref D) H)∨(J.go i H∧ys.length<sizeLine∧∀x H',J.Ep i H x H'→∃a v1 v2,x=.ref a∧BF X.K H' a [v1,v2] ∧
    tif (((carry fr σ).set ix (some v1)).set iy (some v2)) H' fun b H2=>if b=true then te (((carry fr σ).set ix (some v1)).set iy (some v2)) H2 fun y H3=>H3 D=some (.lst ys)∧∃m',m'<m∧W (i+1) m' (ys++[y]) (upd H3 D (.lst (ys++[y])))
     else ∃m',m'<m∧W (i+1) m' ys H2)))
 (fin:∀(D C:AD) (s':SD) (H':Hp) m,s'.heap.Ns C m→Q (.ref D) H'→(∀h',Heap.SameBut C s'.heap h'→Inv X pins σ H' { s' with heap:=h' })→C≠D→(∀b o,s2.heap.get? b=some o→b≠C)→H' C=none→s2.heap.objs.size≤C→RR (.ref D) C (.ok .next) s') :
  wpAny (model X.prog X.w) X.A (newList []) (fun acc s₃=>wpAny (model X.prog X.w) X.A (newFunctionEnv scope X.env.globals cl [] X.env.qual none .none (some X.env)) (fun cenv s₄ =>
   codeAny (model X.prog X.w) X.A (.compStart (.ListComp elt [⟨Nh x y px py tk tp,iter,ifs,0⟩] scope pos) 0 (.ref it) acc { cenv with scope:=relabel scope X.env }) (RR acc cenv.locals) s₄) E s₃) E s2:=by
 have hxv:(relabel scope X.env).names.lookup x=some .local:=lookup_relabel_local S.loc;have hyv:(relabel scope X.env).names.lookup y=some .local:=lookup_relabel_local S2.loc;refine NY (g:=Yx X.K 2 (Pk (Em ix) (Pk (Em iy) Yw))) S hcalm (fun σ'=>∀v w,(σ'.set ix v).set iy w=((carry fr σ).set ix v).set iy w) (fun _ _=>rfl) (fun C=>Ht (X:=Am X scope cl N C s2 H2 fp) hcalm (CH (BE (X:=Am X scope cl N C s2 H2 fp) S.nd S.at_ (.inl hxv) (.inr hxv)) (CH (BE (X:=Am X scope cl N C s2 H2 fp) S2.nd S2.at_ (.inl hyv) (.inr hyv)) GR))) hfr hlen hif he I2 T st2 f2 c1 c2 (fun D hD=>?_) fin;obtain⟨W,w0,st⟩:=W D hD;refine⟨W,w0,fun i m ys H w=>?_⟩;obtain⟨h1,h2|⟨h2,h3,h4⟩⟩:=st i m ys H w
 ·exact⟨h1,.inl h2⟩
 ·refine⟨h1,.inr ⟨h2,h3,fun x H' hy σ' hr=>?_⟩⟩;obtain⟨a,v1,v2,rfl,hs,q⟩:=h4 x H' hy;rw [←hr]at q;exact⟨a,[v1,v2],rfl,hs,rfl,v1,[v2],rfl,v2,[],rfl,rfl,fun v w=>by rw [dn hxy,hr],q⟩
def Yl(S:DC scope N x ix)(S2:DC scope N y iy)(hxy:ix≠iy)(hcalm:X.calm=true)(hfr:D8 N X.N scope X.env.scope fr 0=true)(hlen:fr.length=N.length)(hfree:∀y∈scope.names,y.2=.free→X.env.scope.names.lookup y.1=some .cell∨X.env.scope.names.lookup y.1=some .free)
 (hi:PI X (Nh x y px py tk tp) iter wi)(hif:∀cl C s₀ H₀ fp,J4 (Am X scope cl N C s₀ H₀ fp) ifs tif)(he:∀cl C s₀ H₀ fp,PE (Am X scope cl N C s₀ H₀ fp) elt te)
 (hs:∀x,foldedSetIterable iter X.env x=pure x:=by intro _;rfl):PE X (.ListComp elt [⟨Nh x y px py tk tp,iter,ifs,0⟩] scope pos) (Ku X.K wi fr ix iy tif te):=by
 intro pins s σ H Q I hw;obtain⟨cl,hclos,c1,_,c2⟩:=Fq (env:=X.env) scope.names [] (fun y hy hf=>I.ok.has y.1 (hfree y hy hf)) (fun y c z=>by cases z);have hclos':closureFor scope X.env=pure cl:=by
  have e:closureFor scope X.env=((forIn scope.names [] (fun(x:Str×NameKind) (r:List (Str×AD))=>do if(x.2==NameKind.free)=true then do let a ←cellOf X.env x.1;pure (ForInStep.yield ((x.1,a)::r)) else pure (ForInStep.yield r)):Sem (List (Str×AD)))>>=fun cs=>pure cs):=rfl;rw [e,hclos]
  rfl
 rw [eval_ListComp];refine wpAny_comprehension_free (use:=none) rfl hs hclos' S.kind S.names (A6 (hi pins s σ H _ I hw) fun v s1 h1=>A6 h1 fun itv s2 h2=>?_);obtain⟨it,fp,tn,J,H2,e,I2,T,st2,f2,W⟩:=h2;subst e;refine NS (RR:=fun acc C=>compPost (model X.prog X.w) X.A X.xe none (EP X pins σ Q) acc C) S S2 hxy hcalm hfr hlen hif he I2 T st2 f2 c1 c2 W ?_;intro D C s' H' m hn q hI _ _ _ _;exact⟨m,hn,fun h' hs'=>⟨.ref D,H',hI h' hs',rfl,q⟩⟩
def UX{i : Nat}{z : Str}{pz spos : Pos}(hN : X.N.Nodup)(hy : X.N[i]? = some z)(hly : X.env.scope.names.lookup z = some .local)(S : DC scope N x ix)(S2 : DC scope N y iy)(hxy : ix≠iy)(hcalm : X.calm = true)(hfr : D8 N X.N scope X.env.scope fr 0 = true)(hlen : fr.length = N.length)
 (hfree : ∀ y∈scope.names,y.2 = .free→X.env.scope.names.lookup y.1 = some .cell∨X.env.scope.names.lookup y.1 = some .free)
 (hi : PI X (Nh x y px py tk tp) iter wi)(hif : ∀ cl C s₀ H₀ fp,J4 (Am X scope cl N C s₀ H₀ fp) ifs tif)(he : ∀ cl C s₀ H₀ fp,PE (Am X scope cl N C s₀ H₀ fp) elt te)
 (hsw : swapsWith (.ListComp elt [⟨Nh x y px py tk tp,iter,ifs,0⟩] scope pos) (some (.Name z pz)) spos.line X.env = pure true := by rfl)
 (hs : ∀ x,foldedSetIterable iter X.env x = pure x := by intro _; rfl) :
    PS X (.Assign [.Name z pz] (.ListComp elt [⟨Nh x y px py tk tp,iter,ifs,0⟩] scope pos) spos) (MQ (Ku X.K wi fr ix iy tif te) (Em i)) := by
  intro pins s σ H D I hw
  obtain ⟨cl,hclos,c1,_,c2⟩:=Fq (env:=X.env) scope.names [] (fun y hy hf => I.ok.has y.1 (hfree y hy hf)) (fun y c z => by cases z)
  have hclos' : closureFor scope X.env = pure cl := by
    have e : closureFor scope X.env = ((forIn scope.names [] (fun (x : Str×NameKind) (r : List (Str×AD)) => do if (x.2 == NameKind.free) = true then do let a ← cellOf X.env x.1; pure (ForInStep.yield ((x.1,a) :: r)) else pure (ForInStep.yield r)) : Sem (List (Str×AD))) >>= fun cs => pure cs):=rfl
    rw [e,hclos]
    rfl
  rw [exec_Assign_Name_used _ _ _ _ hsw]
  refine Wb (wpAny_standAt (Wb ?_))
  show wpAny _ X.A (do let _ ← comprehension (.ListComp elt [⟨Nh x y px py tk tp,iter,ifs,0⟩] scope pos) scope X.env _ (newList []) false (eval iter X.env) (some (assign (.Name z pz) X.env))) _ _ s
  refine Wb (ag (wpAny_comprehension_free (use:=some (assign (.Name z pz) X.env)) (Q:=fun _ s' => SP X pins D .next s') rfl hs hclos' S.kind S.names
    (A6 (hi pins s σ H _ I hw) fun v s1 h1 => A6 h1 fun itv s2 h2 => ?_)) (fun _ s' hq => aA (aA hq)) fun _ _ e => e)
  obtain ⟨it,fp,tn,J,H2,e,I2,T,st2,f2,W⟩:=h2
  subst e
  refine NS (Q:=fun x H1 => Em i x σ H1 D.nx) (RR:=fun acc C => compPost (model X.prog X.w) X.A X.xe (some (assign (.Name z pz) X.env)) (fun _ s' => SP X pins D .next s') acc C) S S2 hxy hcalm hfr hlen hif he I2 T st2 f2 c1 c2 W ?_
  intro D' C s' H' m hn q hI hCD hold hfreeC hsz
  have I5 : Inv X pins σ H' s':=hI s'.heap (Heap.SameBut.refl ..)
  refine wpAny_assign_Name (Mf I5 hN hy (.inl hly) (v:=.ref D') rfl (fun s'' I6 ⟨a,hsb,ha⟩ => ?_) (.inr hly))
  have hL : C≠X.env.locals:=fun z => by
    obtain ⟨_,⟨o,_,_,e,_⟩,_⟩:=I2.loc
    exact hold _ _ e z.symm
  have hcl : ∀ z c,X.env.cells.lookup z = some c→c≠C:=fun z c e => by
    obtain ⟨_,o,ho,_⟩:=I2.cell z c e
    exact hold _ _ ho
  have hCa : C≠a := by
    rcases ha with z | z
    · rw [z]; exact hL
    · exact Ne.symm (hcl _ _ z)
  refine ⟨m,hn.sameBut hsb hCa,fun h' hs' => ⟨_,H',I6.turned (t':=s''.toks) (it:=C) (fun b o hb e => (hs'.2 b hb).trans e) hfreeC hL (.inr (ae I2.sz hsz)) hcl fun p hp => ?_,q⟩⟩
  obtain ⟨e,_⟩:=I2.pin p hp
  exact hold _ _ e
end
section
variable{X:Cx}{elt iter:Expr}{x y:Str}{px py tp pos:Pos}{tk:Nat}{ifs:List Expr}{scope:Scope}{wi:TI}{tif:TT}{te:TE}
def RO(N:List Str)(ix iy:Nat)(fr:List (Option Nat))(hi:PI X (Nh x y px py tk tp) iter wi)(hif:∀cl C s₀ H₀ fp,J4 (Am X scope cl N C s₀ H₀ fp) ifs tif)(he:∀cl C s₀ H₀ fp,PE (Am X scope cl N C s₀ H₀ fp) elt te)
 (h1:BL scope N x ix=true:=by decide +kernel)(h1':BL scope N y iy=true:=by decide +kernel)(hxy:ix≠iy:=by decide)(h2:X.calm=true:=by rfl)(h3:D8 N X.N scope X.env.scope fr 0=true:=by rfl)(h4:fr.length=N.length:=by rfl)(h5:freeOk X.env.scope scope.names=true:=by rfl)
 (hs:∀x,foldedSetIterable iter X.env x=pure x:=by intro _;rfl):PE X (.ListComp elt [⟨.Tuple [.Name x px,.Name y py] tk tp,iter,ifs,0⟩] scope pos) (Ku X.K wi fr ix iy tif te) :=
 Yl (EN h1) (EN h1') hxy h2 h3 h4 (J3 h5) hi hif he hs
def UB{i:Nat}{z:Str}{pz spos:Pos}(N:List Str)(ix iy:Nat)(fr:List (Option Nat))(hN:X.N.Nodup)(hy:X.N[i]? = some z)(hly:X.env.scope.names.lookup z=some .local)
 (hi:PI X (Nh x y px py tk tp) iter wi)(hif:∀cl C s₀ H₀ fp,J4 (Am X scope cl N C s₀ H₀ fp) ifs tif)(he:∀cl C s₀ H₀ fp,PE (Am X scope cl N C s₀ H₀ fp) elt te)
 (h1:BL scope N x ix=true:=by decide +kernel)(h1':BL scope N y iy=true:=by decide +kernel)(hxy:ix≠iy:=by decide)(h2:X.calm=true:=by rfl)(h3:D8 N X.N scope X.env.scope fr 0=true:=by rfl)(h4:fr.length=N.length:=by rfl)(h5:freeOk X.env.scope scope.names=true:=by rfl)
 (hsw:swapsWith (.ListComp elt [⟨.Tuple [.Name x px,.Name y py] tk tp,iter,ifs,0⟩] scope pos) (some (.Name z pz)) spos.line X.env=pure true:=by rfl)
 (hs:∀x,foldedSetIterable iter X.env x=pure x:=by intro _;rfl):PS X (.Assign [.Name z pz] (.ListComp elt [⟨.Tuple [.Name x px,.Name y py] tk tp,iter,ifs,0⟩] scope pos) spos) (MQ (Ku X.K wi fr ix iy tif te) (Em i)) :=
 UX hN hy hly (EN h1) (EN h1') hxy h2 h3 h4 (J3 h5) hi hif he hsw hs
end
def Zb{K:Fg}{J:It}{n:Nat}{D:AD}{H1:Hp}{fr:List (Option Nat)}{σ:St}{ix iy:Nat}{tif:TT}{te:TE}{G:Hp→Prop}(Pv:Nat→List V→Hp→Prop)(h0:Pv 0 [] (upd H1 D (.lst [])))
 (hgo:∀i ys H,i<n→Pv i ys H→H D=some (.lst ys)→J.go i H∧ys.length<sizeLine∧∀x H',J.Ep i H x H'→∃a v1 v2,x=.ref a∧BF K H' a [v1,v2] ∧
   tif (((carry fr σ).set ix (some v1)).set iy (some v2)) H' fun b H2=>if b=true then te (((carry fr σ).set ix (some v1)).set iy (some v2)) H2 fun y H3=>H3 D=some (.lst ys)∧∃m',m'<n-i∧CW Pv n D (i+1) m' (ys++[y]) (upd H3 D (.lst (ys++[y])))
    else ∃m',m'<n-i∧CW Pv n D (i+1) m' ys H2)
 (hstop:∀ys H,Pv n ys H→H D=some (.lst ys)→J.stop n H∧G H) :
  ∃W:Nat→Nat→List V→Hp→Prop,(∃m,W 0 m [] (upd H1 D (.lst []))) ∧
   ∀i m ys H,W i m ys H→H D=some (.lst ys)∧((J.stop i H∧G H)∨(J.go i H∧ys.length<sizeLine∧∀x H',J.Ep i H x H'→∃a v1 v2,x=.ref a∧BF K H' a [v1,v2] ∧
    tif (((carry fr σ).set ix (some v1)).set iy (some v2)) H' fun b H2=>if b=true then te (((carry fr σ).set ix (some v1)).set iy (some v2)) H2 fun y H3=>H3 D=some (.lst ys)∧∃m',m'<m∧W (i+1) m' (ys++[y]) (upd H3 D (.lst (ys++[y])))
     else ∃m',m'<m∧W (i+1) m' ys H2)):=by
 refine⟨CW Pv n D,⟨n,by simp,Nat.zero_le _,AZ,h0⟩,?_⟩;rintro i m ys H ⟨rfl,hi,hH,p⟩;refine⟨hH,?_⟩;by_cases hlt:i<n
 ·exact .inr (hgo i ys H hlt p hH)
 ·have:i=n:=by omega
  subst this;exact .inl (hstop ys H p hH)
end L2
namespace ZT
open PySem PyProof.Rows
structure Apart(z TI TO i1 i2:Addr)(f1 f2:List Addr):Prop where
 a1:TI≠z∧TI≠TO∧TI≠i1∧TI≠i2
 a2:TO≠z∧TO≠i1∧TO≠i2
 a3:i1≠z∧i2≠z∧i1≠i2
 b1:z ∉ f1∧TO ∉ f1∧i2 ∉ f1
 b2:z ∉ f2∧TO ∉ f2∧i1 ∉ f2
section
variable{prog:Program}{w:World}{A:Around}{E:VL→SD→Prop}{s:SD}{z TI TO i1 i2:AD}{f1 f2:List AD}{n1 n2 k:Nat}{P1 P2:Nat→VL→Prop}{S1 S2:Nat→Heap→Prop}{a b:VL}
def CC{f:List AD}{x:AD}{h h':Heap}(hx:x ∉ f)(e:Heap.SameBut x h h'):∀c∈f,∀o,h.get? c=some o→h'.get? c=some o:=fun c hc o q=>(e.2 c fun y=>hx (y ▸ hc)).trans q
def item{Q:VL→SD→Prop}(D1:Draws prog w A i1 f1 n1 P1 S1)(D2:Draws prog w A i2 f2 n2 P2 S2)(ap:Apart z TI TO i1 i2 f1 f2)(hz:IsZip s.heap z TI TO .none)(hI:IsPair s.heap TI (.ref i1) (.ref i2))(hO:IsPair s.heap TO a b)
 (t1:S1 k s.heap)(t2:S2 k s.heap)(l1:k<n1)(l2:k<n2)
 (q:∀x y h' tk,P1 k x→P2 k y→IsZip h' z TI TO (rawInt s.heap.objs.size)→IsPair h' TO x y→S1 (k+1) h'→S2 (k+1) h'→IsPair h' s.heap.objs.size x y→h'.objs.size=s.heap.objs.size+1 →
   (∀c o,c≠z→c≠TO→c≠i1→c≠i2→s.heap.get? c=some o→h'.get? c=some o)→Q (.ref s.heap.objs.size) { s with heap:=h',toks:=tk }) :
  wpAny (model prog w) A (Builtin.«zip.__next__» ⟨[.ref z],[]⟩) (fun fin s'=>∃v,fin=.done (.ret v)∧Q v s') E s:=by
 obtain⟨⟨c1,c2,c3,c4⟩,⟨c5,c6,c7⟩,⟨c8,c9,c10⟩,⟨d1,d2,d3⟩,d4,d5,d6⟩:=ap;show wpAny _ _ (field (.ref z) 2>>=_) _ _ _;refine Wb (ak hz rfl (x:=.bool false) rfl ?_);show wpAny _ _ (field (.ref z) 3>>=_) _ _ _;refine Wb (ak hz rfl (x:=.ref TI) rfl (Wb (bA hI rfl ?_)));show wpAny _ _ (Builtin.SmallTypes.ownedTupleIsFree (.ref z)>>=_) _ _ _;unfold Builtin.SmallTypes.ownedTupleIsFree;refine Wb (Wb (ak hz rfl (x:=.none) rfl (aA ?_)));simp only [if_true];refine Wb (bJ (Wb (ak hz rfl (x:=.ref TO) rfl (Wb (bQ hz (by simp) fun g1 z1 m1=>Wb ?_)))));have m1:Heap.SameBut z s.heap g1:=m1;have z1:IsZip g1 z TI TO .ellipsis:=z1;simp only [List.zipIdx_cons,List.zipIdx_nil,List.forIn_cons,List.forIn_nil];refine Wb (Wb (wpAny_onRaise ?_));show wpAny _ _ (Builtin.SmallTypes.nextOf (.ref i1)>>=_) _ _ _;refine Wb (D1.item k _ _ _ l1 (D1.frame _ _ _ t1 (CC d1 m1)) fun x g2 tk2 p1 u1 m2=>aA ?_);have o2:IsPair g2 TO a b:=(m2.2 _ c6).trans ((m1.2 _ c5).trans hO);refine Wb (bA o2 rfl (Wb (wpAny_updateSeq_pair o2 fun g3 o3 m3=>Wb (wpAny_letGo (aA ?_)))));have o3:IsPair g3 TO x b:=o3;have t2':S2 k g3:=D2.frame _ _ _ (D2.frame _ _ _ (D2.frame _ _ _ t2 (CC d4 m1)) (CC d6 m2)) (CC d5 m3);refine Wb (Wb (wpAny_onRaise ?_));show wpAny _ _ (Builtin.SmallTypes.nextOf (.ref i2)>>=_) _ _ _;refine Wb (D2.item k _ _ _ l2 t2' fun y g4 tk4 p2 u2 m4=>aA ?_);have m3:Heap.SameBut TO g2 g3:=m3;have m4:Heap.SameBut i2 g3 g4:=m4;have o4:IsPair g4 TO x b:=(m4.2 _ c7).trans o3;refine Wb (bA o4 rfl (Wb (wpAny_updateSeq_pair o4 fun g5 o5 m5=>Wb (wpAny_letGo (aA (aA ?_))))));have m5:Heap.SameBut TO g4 g5:=m5;have o5:IsPair g5 TO x y:=o5;refine Wb (bA o5 rfl (Wb (wpAny_newTuple ?_)));have m2:Heap.SameBut i1 g1 g2:=m2;have sz:g5.objs.size=s.heap.objs.size:=by rw [m5.1,m4.1,m3.1,m2.1,m1.1]
 have z5:IsZip g5 z TI TO .ellipsis:=(m5.2 _ c5.symm).trans ((m4.2 _ c9.symm).trans ((m3.2 _ c5.symm).trans ((m2.2 _ c8.symm).trans z1)));have kp:∀c o,c≠z→c≠TO→c≠i1→c≠i2→s.heap.get? c=some o→g5.get? c=some o:=fun c o e1 e2 e3 e4 e=>(m5.2 _ e2).trans ((m4.2 _ e4).trans ((m3.2 _ e2).trans ((m2.2 _ e3).trans ((m1.2 _ e1).trans e))));have v1:S1 (k+1) g5:=D1.frame _ _ _ (D1.frame _ _ _ (D1.frame _ _ _ u1 (CC d2 m3)) (CC d3 m4)) (CC d2 m5);have v2:S2 (k+1) g5:=D2.frame _ _ _ u2 (CC d5 m5);show wpAny _ _ (Builtin.SmallTypes.ownedTupleHandOut (.ref z) (.ref g5.objs.size)>>=_) _ _ _;unfold Builtin.SmallTypes.ownedTupleHandOut;have z6:IsZip (g5.push { cls:=.type "tuple",data:=.seq #[x,y] }) z TI TO .ellipsis:=aD _ z5;refine Wb (Wb (bQ z6 (by simp) fun g7 z7 m7=>bQ (show IsZip g7 z TI TO (rawInt g5.objs.size) from z7) (by simp) fun g8 z8 m8=>?_));have z8:IsZip g8 z TI TO (rawInt g5.objs.size):=z8;have up:∀c o,c≠z→(g5.push { cls:=.type "tuple",data:=.seq #[x,y] }).get? c=some o→g8.get? c=some o:=fun c o e1 e=>(m8.2 _ e1).trans ((m7.2 _ e1).trans e);have zl:z<g5.objs.size:=aF z5;refine aA ⟨_,rfl,?_⟩;show Q (.ref g5.objs.size) _;have fin:=q x y g8 tk4 p1 p2 (by rw [←sz];exact z8) (up _ _ c5 (aD _ o5)) (D1.frame _ _ _ v1 fun c hc o e=>up c o (fun y=>d1 (y ▸ hc)) (aD _ e)) (D2.frame _ _ _ v2 fun c hc o e=>up c o (fun y=>d4 (y ▸ hc)) (aD _ e))
  (by rw [←sz];exact up _ _ (ah zl) (aN _ rfl)) (by rw [←sz,m8.1,m7.1,Heap.size_push]) fun c o e1 e2 e3 e4 e=>up c o e1 (aD _ (kp c o e1 e2 e3 e4 e))
 rw [sz];exact fin
def ended{Q:Fin→SD→Prop}(D1:Draws prog w A i1 f1 n1 P1 S1)(D2:Draws prog w A i2 f2 n2 P2 S2)(ap:Apart z TI TO i1 i2 f1 f2)(hz:IsZip s.heap z TI TO .none)(hI:IsPair s.heap TI (.ref i1) (.ref i2))(hO:IsPair s.heap TO a b)
 (t1:S1 k s.heap)(t2:S2 k s.heap)(he:k=n1∨(k<n1∧k=n2))
 (q:∀h' e tk,(∀c o,c≠z→c≠TO→c≠i1→c≠i2→s.heap.get? c=some o→h'.get? c=some o)→(∃o,h'.get? e=some o∧o.cls=.type "StopIteration")→E (.ref e) { s with heap:=h',toks:=tk }) :
  wpAny (model prog w) A (Builtin.«zip.__next__» ⟨[.ref z],[]⟩) Q E s:=by
 obtain⟨⟨c1,c2,c3,c4⟩,⟨c5,c6,c7⟩,⟨c8,c9,c10⟩,⟨d1,d2,d3⟩,d4,d5,d6⟩:=ap;show wpAny _ _ (field (.ref z) 2>>=_) _ _ _;refine Wb (ak hz rfl (x:=.bool false) rfl ?_);show wpAny _ _ (field (.ref z) 3>>=_) _ _ _;refine Wb (ak hz rfl (x:=.ref TI) rfl (Wb (bA hI rfl ?_)));show wpAny _ _ (Builtin.SmallTypes.ownedTupleIsFree (.ref z)>>=_) _ _ _;unfold Builtin.SmallTypes.ownedTupleIsFree;refine Wb (Wb (ak hz rfl (x:=.none) rfl (aA ?_)));simp only [if_true];refine Wb (bJ (Wb (ak hz rfl (x:=.ref TO) rfl (Wb (bQ hz (by simp) fun g1 z1 m1=>Wb ?_)))));have m1:Heap.SameBut z s.heap g1:=m1;have z1:IsZip g1 z TI TO .ellipsis:=z1;simp only [List.zipIdx_cons,List.zipIdx_nil,List.forIn_cons,List.forIn_nil];refine Wb (Wb (wpAny_onRaise ?_));show wpAny _ _ (Builtin.SmallTypes.nextOf (.ref i1)>>=_) _ _ _;have t1':=D1.frame _ _ _ t1 (CC d1 m1);rcases he with he|⟨he1,he2⟩
 ·rw [he]at t1';refine Wb (D1.done _ _ _ t1' fun g2 e m2 ho=>?_);obtain⟨o,ho,hc⟩:=ho;have z2:IsZip g2 z TI TO .ellipsis:=m2 _ _ c8.symm z1;have ez:e≠z:=fun y=>by subst y;rw [z2]at ho;cases ho;simp at hc
  exact bQ z2 (by simp) fun g3 _ m3=>q g3 e _ (fun c o e1 e2 e3 e4 y=>(m3.2 _ e1).trans (m2 _ _ e3 ((m1.2 _ e1).trans y))) ⟨o,(m3.2 _ ez).trans ho,hc⟩
 ·refine Wb (D1.item k _ _ _ he1 t1' fun x g2 tk2 p1 u1 m2=>aA ?_);have o2:IsPair g2 TO a b:=(m2.2 _ c6).trans ((m1.2 _ c5).trans hO);refine Wb (bA o2 rfl (Wb (wpAny_updateSeq_pair o2 fun g3 o3 m3=>Wb (wpAny_letGo (aA ?_)))));have t2':S2 k g3:=D2.frame _ _ _ (D2.frame _ _ _ (D2.frame _ _ _ t2 (CC d4 m1)) (CC d6 m2)) (CC d5 m3);rw [he2]at t2';have m2:Heap.SameBut i1 g1 g2:=m2;have m3:Heap.SameBut TO g2 g3:=m3;refine Wb (Wb (wpAny_onRaise ?_));show wpAny _ _ (Builtin.SmallTypes.nextOf (.ref i2)>>=_) _ _ _;refine Wb (D2.done _ _ _ t2' fun g4 e m4 ho=>?_);obtain⟨o,ho,hc⟩:=ho;have z4:IsZip g4 z TI TO .ellipsis:=m4 _ _ c9.symm ((m3.2 _ c5.symm).trans ((m2.2 _ c8.symm).trans z1));have ez:e≠z:=fun y=>by subst y;rw [z4]at ho;cases ho;simp at hc
  exact bQ z4 (by simp) fun g5 _ m5=>q g5 e _ (fun c o e1 e2 e3 e4 y=>(m5.2 _ e1).trans (m4 _ _ e4 ((m3.2 _ e2).trans ((m2.2 _ e3).trans ((m1.2 _ e1).trans y))))) ⟨o,(m5.2 _ ez).trans ho,hc⟩
def next_item{Q:Option VL→SD→Prop}(D1:Draws prog w A.in1 i1 f1 n1 P1 S1)(D2:Draws prog w A.in1 i2 f2 n2 P2 S2)(ap:Apart z TI TO i1 i2 f1 f2)(hz:IsZip s.heap z TI TO .none)(hI:IsPair s.heap TI (.ref i1) (.ref i2))(hO:IsPair s.heap TO a b)
 (t1:S1 k s.heap)(t2:S2 k s.heap)(l1:k<n1)(l2:k<n2)
 (q:∀x y h' tk,P1 k x→P2 k y→IsZip h' z TI TO (rawInt s.heap.objs.size)→IsPair h' TO x y→S1 (k+1) h'→S2 (k+1) h'→IsPair h' s.heap.objs.size x y→h'.objs.size=s.heap.objs.size+1 →
   (∀c o,c≠z→c≠TO→c≠i1→c≠i2→s.heap.get? c=some o→h'.get? c=some o)→Q (some (.ref s.heap.objs.size)) { s with heap:=h',toks:=tk }) :
  wpAny (model prog w) A (pyNext (.ref z)) Q E s:=by
 have hT:s.TypeIs (.ref z) "zip" := ⟨_,hz,rfl⟩;unfold pyNext;exact Wb (wpAny_attempt (aj (name:=Str.ofString "__next__") hT bT
  (af bT hT F.entry_zip_next (item D1 D2 ap hz hI hO t1 t2 l1 l2 fun x y h' tk r1 r2 r3 r4 r5 r6 r7 r8 r9=>aA (q x y h' tk r1 r2 r3 r4 r5 r6 r7 r8 r9)) (F.args_zip_next_1 _))))
def next_end{Q:Option VL→SD→Prop}(D1:Draws prog w A.in1 i1 f1 n1 P1 S1)(D2:Draws prog w A.in1 i2 f2 n2 P2 S2)(ap:Apart z TI TO i1 i2 f1 f2)(hz:IsZip s.heap z TI TO .none)(hI:IsPair s.heap TI (.ref i1) (.ref i2))(hO:IsPair s.heap TO a b)
 (t1:S1 k s.heap)(t2:S2 k s.heap)(he:k=n1∨(k<n1∧k=n2))
 (q:∀h' tk,(∀c o,c≠z→c≠TO→c≠i1→c≠i2→s.heap.get? c=some o→h'.get? c=some o)→Q none { s with heap:=h',toks:=tk }) :
  wpAny (model prog w) A (pyNext (.ref z)) Q E s:=by
 have hT:s.TypeIs (.ref z) "zip" := ⟨_,hz,rfl⟩;unfold pyNext;refine Wb (wpAny_attempt (aj (name:=Str.ofString "__next__") hT bT
  (af bT hT F.entry_zip_next (ended D1 D2 ap hz hI hO t1 t2 he fun h' e tk kp ho=>?_) (F.args_zip_next_1 _))))
 obtain⟨o,ho,hc⟩:=ho;exact Wb (wpAny_isInstance (T := "StopIteration") (b:=true) ⟨o,ho,hc⟩ isSubtype_stop (aA (q _ _ kp)))
end
end ZT
namespace ZT
open PySem PyProof.Rows
def Sq(b:Bool)(h:Heap)(l:AD)(xs:List VL):Prop:=if b then h.IsTuple l xs.toArray else h.IsList l xs.toArray
def Ed(b:Bool)(l:AD):Obj:=if b then { cls:=.type "tuple_iterator",data:=.fields #[.ref l,.int 0 0] } else { cls:=.type "list_iterator",data:=.fields #[.ref l,.int 0 0] }
def Kv(b:Bool)(h:Heap)(it l:AD)(k:Nat):Prop:=if b then h.IsTupleIter it l k else h.IsListIter it l k
def Sq.push{b:Bool}{h:Heap}{l:AD}{xs:List VL}(o:Obj)(x:Sq b h l xs):Sq b (h.push o) l xs:=by
 cases b with
 |true=>obtain⟨u,e,r⟩:=(show h.IsTuple l xs.toArray from x);exact(show(h.push o).IsTuple l xs.toArray from⟨u,Heap.get?_push_of_some _ e,r⟩)
 |false=>obtain⟨u,e,r⟩:=(show h.IsList l xs.toArray from x);exact(show(h.push o).IsList l xs.toArray from⟨u,Heap.get?_push_of_some _ e,r⟩)
def Sq.keep{b:Bool}{h h':Heap}{l:AD}{xs:List VL}(x:Sq b h l xs)(k:∀o,h.get? l=some o→h'.get? l=some o):Sq b h' l xs:=by
 cases b with
 |true=>obtain⟨u,e,r⟩:=(show h.IsTuple l xs.toArray from x);exact(show h'.IsTuple l xs.toArray from⟨u,k _ e,r⟩)
 |false=>obtain⟨u,e,r⟩:=(show h.IsList l xs.toArray from x);exact(show h'.IsList l xs.toArray from⟨u,k _ e,r⟩)
def Sq.lt{b:Bool}{h:Heap}{l:AD}{xs:List VL}(x:Sq b h l xs):l<h.objs.size:=by
 cases b with
 |true=>obtain⟨u,e,r⟩:=(show h.IsTuple l xs.toArray from x);exact aF e
 |false=>obtain⟨u,e,r⟩:=(show h.IsList l xs.toArray from x);exact aF e
section
variable{prog:Program}{w:World}{A:Around}{E:VL→SD→Prop}{s:SD}
def VI{b:Bool}{l:AD}{xs:List VL}{Q:VL→SD→Prop}(x:Sq b s.heap l xs)(h:Q (.ref s.heap.objs.size) { s with heap:=s.heap.push (Ed b l) }):wpAny (model prog w) A (pyIter (.ref l)) Q E s:=by
 cases b with
 |true=>exact wpAny_pyIter_tuple x h
 |false=>exact wpAny_pyIter_list x h
def HS(hh:A.handled=none)(b:Bool)(it l:AD)(xs:List VL)(hne:l≠it):Draws prog w A it [it,l] xs.length (fun i v=>xs[i]? = some v) (fun i h=>Kv b h it l i∧Sq b h l xs):=by
 cases b with
 |true=>exact ET.draws hh it l xs hne
 |false =>
  have:=Draws.list (prog:=prog) (w:=w) hh it l hne xs.toArray
  simpa [Kv,Sq]using this
def zh(b1 b2:Bool)(h:Heap)(l1 l2:AD):Heap :=
 ((((h.push (Ed b1 l1)).push (Ed b2 l2)).push { cls:=.type "tuple",data:=.seq #[.ref h.objs.size,.ref (h.push (Ed b1 l1)).objs.size] }).push { cls:=.type "tuple",data:=.seq #[.none,.none] }).push
  { cls:=.type "zip",data:=.fields #[.none,.bool false,.bool false,.ref ((h.push (Ed b1 l1)).push (Ed b2 l2)).objs.size,.ref (((h.push (Ed b1 l1)).push (Ed b2 l2)).push { cls:=.type "tuple",data:=.seq #[.ref h.objs.size,.ref (h.push (Ed b1 l1)).objs.size] }).objs.size] }
def dY(b1 b2:Bool)(l1 l2:AD)(xs ys:List VL) :
  Meets (Builtin.«zip.__new__» ⟨[.type "zip",.ref l1,.ref l2],[]⟩) (fun _ R s=>Sq b1 s.heap l1 xs∧Sq b2 s.heap l2 ys ∧
   R (.ok (.ret (.ref ((((s.heap.push (Ed b1 l1)).push (Ed b2 l2)).push { cls:=.type "tuple",data:=.seq #[.ref s.heap.objs.size,.ref (s.heap.push (Ed b1 l1)).objs.size] }).push { cls:=.type "tuple",data:=.seq #[.none,.none] }).objs.size)) ) { s with heap:=zh b1 b2 s.heap l1 l2 }) :=
 .of_wp fun prog w A R s h=>by
  obtain⟨hp,g,d,tk,os⟩:=s;obtain⟨h1,h2,h⟩:=h;have hsub:=sub_zip;have i1:∀(A:Around) (E:VL→SD→Prop) (Q:VL→SD→Prop),Q (.ref hp.objs.size) ⟨hp.push (Ed b1 l1),g,d,tk,os⟩→wpAny (model prog w) A (pyIter (.ref l1)) Q E ⟨hp,g,d,tk,os⟩:=fun A E Q q=>VI (s:=⟨hp,g,d,tk,os⟩) h1 q;have i2:∀(A:Around) (E:VL→SD→Prop) (Q:VL→SD→Prop),Q (.ref (hp.push (Ed b1 l1)).objs.size) ⟨(hp.push (Ed b1 l1)).push (Ed b2 l2),g,d,tk,os⟩→wpAny (model prog w) A (pyIter (.ref l2)) Q E ⟨hp.push (Ed b1 l1),g,d,tk,os⟩:=fun A E Q q=>VI (s:=⟨hp.push (Ed b1 l1),g,d,tk,os⟩) (h2.push _) q
  wp_walk using i1,i2
  exact⟨_,rfl,h⟩
def TU{b1 b2:Bool}{l1 l2:AD}{xs ys:List VL}{Q:VL→SD→Prop}(h1:Sq b1 s.heap l1 xs)(h2:Sq b2 s.heap l2 ys)
 (h:∀h',IsZip h' (s.heap.objs.size+4) (s.heap.objs.size+2) (s.heap.objs.size+3) .none→IsPair h' (s.heap.objs.size+2) (.ref s.heap.objs.size) (.ref (s.heap.objs.size+1))→IsPair h' (s.heap.objs.size+3) .none .none →
   Kv b1 h' s.heap.objs.size l1 0→Kv b2 h' (s.heap.objs.size+1) l2 0→(∀c o,s.heap.get? c=some o→h'.get? c=some o)→Q (.ref (s.heap.objs.size+4)) { s with heap:=h' }) :
  wpAny (model prog w) A (call (.type "zip") [.ref l1,.ref l2]) Q E s:=by
 refine callType_new F.called_zip (by decide) (F.typeCall_zip_2 _ _) (F.newCall_zip_2 _ _) (fun obj=>F.args_object_init_3 obj _ _) F.entry_zip_new (dY b1 b2 l1 l2 xs ys) ⟨h1,h2,?_⟩;have n1:(s.heap.push (Ed b1 l1)).objs.size=s.heap.objs.size+1:=Heap.size_push ..;have up:∀(g:Heap) (o:Obj) (c:AD) (u:Obj),g.get? c=some u→(g.push o).get? c=some u:=fun g o c u e=>aD _ e;have a0:(s.heap.push (Ed b1 l1)).get? s.heap.objs.size=some (Ed b1 l1):=aN _ (by cases b1<;>rfl);generalize hg1:s.heap.push (Ed b1 l1)=g1 at n1 a0;have k1:∀c o,s.heap.get? c=some o→g1.get? c=some o:=fun c o e=>by rw [←hg1];exact up _ _ _ _ e
 have n2:(g1.push (Ed b2 l2)).objs.size=s.heap.objs.size+2:=by rw [Heap.size_push,n1]
 have a1:(g1.push (Ed b2 l2)).get? (s.heap.objs.size+1)=some (Ed b2 l2):=by rw [←n1];exact aN _ (by cases b2<;>rfl)
 generalize hg2:g1.push (Ed b2 l2)=g2 at n2 a1;have k2:∀c o,g1.get? c=some o→g2.get? c=some o:=fun c o e=>by rw [←hg2];exact up _ _ _ _ e
 have n3:(g2.push { cls:=.type "tuple",data:=.seq #[.ref s.heap.objs.size,.ref (s.heap.objs.size+1)] }).objs.size=s.heap.objs.size+3:=by rw [Heap.size_push,n2]
 have a2:IsPair (g2.push { cls:=.type "tuple",data:=.seq #[.ref s.heap.objs.size,.ref (s.heap.objs.size+1)] }) (s.heap.objs.size+2) (.ref s.heap.objs.size) (.ref (s.heap.objs.size+1)):=by rw [←n2];exact aN _ rfl
 generalize hg3:g2.push { cls:=.type "tuple",data:=.seq #[.ref s.heap.objs.size,.ref (s.heap.objs.size+1)] }=g3 at n3 a2;have k3:∀c o,g2.get? c=some o→g3.get? c=some o:=fun c o e=>by rw [←hg3];exact up _ _ _ _ e
 have n4:(g3.push { cls:=.type "tuple",data:=.seq #[.none,.none] }).objs.size=s.heap.objs.size+4:=by rw [Heap.size_push,n3]
 have a3:IsPair (g3.push { cls:=.type "tuple",data:=.seq #[.none,.none] }) (s.heap.objs.size+3) .none .none:=by rw [←n3];exact aN _ rfl
 generalize hg4:g3.push { cls:=.type "tuple",data:=.seq #[.none,.none] }=g4 at n4 a3;have k4:∀c o,g3.get? c=some o→g4.get? c=some o:=fun c o e=>by rw [←hg4];exact up _ _ _ _ e
 have ez:zh b1 b2 s.heap l1 l2=g4.push { cls:=.type "zip",data:=.fields #[.none,.bool false,.bool false,.ref (s.heap.objs.size+2),.ref (s.heap.objs.size+3)] }:=by
  unfold zh;rw [hg1,hg2,n1,hg3,hg4,n2,n3]
 have a4:IsZip (g4.push { cls:=.type "zip",data:=.fields #[.none,.bool false,.bool false,.ref (s.heap.objs.size+2),.ref (s.heap.objs.size+3)] }) (s.heap.objs.size+4) (s.heap.objs.size+2) (s.heap.objs.size+3) .none:=by rw [←n4];exact aN _ rfl
 rw [n1,hg3,hg4,n4,ez];show _∧_;have k5:∀c o,g4.get? c=some o→(g4.push { cls:=.type "zip",data:=.fields #[.none,.bool false,.bool false,.ref (s.heap.objs.size+2),.ref (s.heap.objs.size+3)] }).get? c=some o:=fun c o e=>up _ _ _ _ e;refine⟨⟨_,a4,rfl⟩,h _ a4 (k5 _ _ (k4 _ _ a2)) (k5 _ _ a3) ?_ ?_ fun c o e=>k5 _ _ (k4 _ _ (k3 _ _ (k2 _ _ (k1 _ _ e))))⟩
 ·have:=k5 _ _ (k4 _ _ (k3 _ _ (k2 _ _ a0)));cases b1 with
  |true=>exact⟨_,this,rfl,rfl⟩
  |false=>exact⟨_,this,rfl,rfl⟩
 ·have:=k5 _ _ (k4 _ _ (k3 _ _ a1));cases b2 with
  |true=>exact⟨_,this,rfl,rfl⟩
  |false=>exact⟨_,this,rfl,rfl⟩
end
end ZT
namespace L2
open PySem PySem.Spec PyProof.Rows
def E4(b:Bool)(H:Hp)(a:AD)(xs:List V):Prop:=if b then H a=some (.tup xs) else H a=some (.lst xs)
def E4.inj{b:Bool}{H:Hp}{a:AD}{xs ys:List V}(h:E4 b H a xs)(k:E4 b H a ys):xs=ys:=by
 cases b with
 |true=>have h:H a=some (.tup xs):=h;have k:H a=some (.tup ys):=k;rw [h]at k;cases k;rfl
 |false=>have h:H a=some (.lst xs):=h;have k:H a=some (.lst ys):=k;rw [h]at k;cases k;rfl
def E4.none{b:Bool}{H:Hp}{a c:AD}{xs:List V}(h:E4 b H a xs)(k:H c=none):a≠c:=fun z=>by
 subst z;cases b with
 |true=>have h:H a=some (.tup xs):=h;rw [k]at h;cases h
 |false=>have h:H a=some (.lst xs):=h;rw [k]at h;cases h
def E4.raw{X:Cx}{pins:List (AD×Obj)}{σ:St}{H:Hp}{s:SD}(I:Inv X pins σ H s){b:Bool}{a:AD}{xs:List V}(h:E4 b H a xs):∃its,Vals xs its∧ZT.Sq b s.heap a its:=by
 cases b with
 |true =>
  obtain⟨its,rv,p,_⟩:=I.tuple (BF.of (K:=X.K) (show H a=some (.tup xs) from h));exact⟨its,rv,p⟩
 |false =>
  obtain⟨its,rv,p,_⟩:=I.list (A3.of (K:=X.K) (show H a=some (.lst xs) from h));exact⟨its,rv,p.isList⟩
def jl(b1 b2:Bool)(a1 a2:AD):It :=
 ⟨fun i H=>∃xs x ys y,E4 b1 H a1 xs∧E4 b2 H a2 ys∧xs[i]? = some x∧ys[i]? = some y,
  fun i H v H'=>∃p x y,v=.ref p∧H p=none∧H'=upd H p (.tup [x,y])∧(∀xs,E4 b1 H a1 xs→xs[i]? = some x)∧∀ys,E4 b2 H a2 ys→ys[i]? = some y,
  fun i H=>∃xs ys,E4 b1 H a1 xs∧E4 b2 H a2 ys∧(i=xs.length∨(i<xs.length∧i=ys.length))⟩
def nh(b1 b2:Bool)(a1 a2 z TI TO i1 i2:AD):Nat→Heap→Prop:=fun i h=>IsZip h z TI TO .none∧IsPair h TI (.ref i1) (.ref i2)∧(∃a b,IsPair h TO a b)∧ZT.Kv b1 h i1 a1 i∧ZT.Kv b2 h i2 a2 i
def M4{b:Bool}{h:Heap}{it l:AD}{k:Nat}(x:ZT.Kv b h it l k):∃o,h.get? it=some o∧∀v,o.data≠.cell v:=by
 cases b with
 |true=>obtain⟨o,e,_,d⟩:=(show h.IsTupleIter it l k from x);exact⟨o,e,fun v z=>by rw [d]at z;cases z⟩
 |false=>obtain⟨o,e,_,d⟩:=(show h.IsListIter it l k from x);exact⟨o,e,fun v z=>by rw [d]at z;cases z⟩
def K7{b:Bool}{h h':Heap}{it l:AD}{k:Nat}(x:ZT.Kv b h it l k)(e:∀o,h.get? it=some o→h'.get? it=some o):ZT.Kv b h' it l k:=by
 cases b with
 |true=>obtain⟨o,q,r⟩:=(show h.IsTupleIter it l k from x);exact(show h'.IsTupleIter it l k from⟨o,e _ q,r⟩)
 |false=>obtain⟨o,q,r⟩:=(show h.IsListIter it l k from x);exact(show h'.IsListIter it l k from⟨o,e _ q,r⟩)
def Z4{P:Program}{w:World}{K:Fg}{elts:List Expr}{x1}{pos:Pos}{b1 b2:Bool}{a1 a2 z TI TO i1 i2:AD}(ne:[z,TI,TO,i1,i2].Nodup) :
  Turn P w K (.Tuple elts x1 pos) (jl b1 b2 a1 a2) [z,TI,TO,i1,i2] z (nh b1 b2 a1 a2 z TI TO i1 i2) where
 mem:=by simp
 obj:=fun i h st b hb=>by
  obtain⟨h1,h2,⟨u,v,h3⟩,h4,h5⟩:=st;have hb:b=z∨b=TI∨b=TO∨b=i1∨b=i2:=by simpa using hb
  rcases hb with rfl|rfl|rfl|rfl|rfl
  ·exact⟨_,h1,fun v y=>by cases y⟩
  ·exact⟨_,h2,fun v y=>by cases y⟩
  ·exact⟨_,h3,fun v y=>by cases y⟩
  ·exact M4 h4
  ·exact M4 h5
 keep:=fun i h h' st k=>by
  obtain⟨h1,h2,⟨u,v,h3⟩,h4,h5⟩:=st;exact⟨k z (by simp) _ h1,k TI (by simp) _ h2,⟨u,v,k TO (by simp) _ h3⟩,K7 h4 fun o e=>k i1 (by simp) o e,K7 h5 fun o e=>k i2 (by simp) o e⟩
 item:=by
  intro X hP hw hK hc i pins s σ H E I hf st hg;subst hP hw hK;obtain⟨xs,x,ys,y,q1,q2,hx,hy⟩:=hg;obtain⟨us,rv1,p1⟩:=q1.raw I;obtain⟨vs,rv2,p2⟩:=q2.raw I;obtain⟨u,hu,ru⟩:=rv1.get hx;obtain⟨v,hv,rv⟩:=rv2.get hy;obtain⟨t1,t2,⟨ta,tb,t3⟩,t4,t5⟩:=st;have e1:∀b∈[z,TI,TO,i1,i2],a1≠b:=fun b hb=>q1.none (hf b hb).1;have e2:∀b∈[z,TI,TO,i1,i2],a2≠b:=fun b hb=>q2.none (hf b hb).1;simp only [List.nodup_cons,List.mem_cons,List.not_mem_nil,or_false,not_or]at ne;obtain⟨⟨n1,n2,n3,n4⟩,⟨n5,n6,n7⟩,⟨n8,n9⟩,n10,_⟩:=ne;have ap:ZT.Apart z TI TO i1 i2 [i1,a1] [i2,a2]:=⟨⟨Ne.symm n1,n5,n6,n7⟩,⟨Ne.symm n2,n8,n9⟩,⟨Ne.symm n3,Ne.symm n4,n10⟩,
   ⟨by simp [n3,Ne.symm (e1 z (by simp))],by simp [n8,Ne.symm (e1 TO (by simp))],by simp [Ne.symm n10,Ne.symm (e1 i2 (by simp))]⟩,⟨by simp [n4,Ne.symm (e2 z (by simp))],by simp [n9,Ne.symm (e2 TO (by simp))],by simp [n10,Ne.symm (e2 i1 (by simp))]⟩⟩
  refine ZT.next_item (ZT.HS (prog:=X.prog) (w:=X.w) (A:=X.A.in1) (I.ok.hd hc) b1 i1 a1 us (e1 i1 (by simp))) (ZT.HS (prog:=X.prog) (w:=X.w) (A:=X.A.in1) (I.ok.hd hc) b2 i2 a2 vs (e2 i2 (by simp))) ap t1 t2 t3 ⟨t4,p1⟩ ⟨t5,p2⟩ (aE.mp hu).1 (aE.mp hv).1
   fun u' v' h' tk r1 r2 r3 r4 r5 r6 r7 r8 r9=>⟨_,rfl,wpAny_letOwnedTupleGo_zip (s:={ s with heap:=h',toks:=tk }) r3 fun h'' z'' sb=>?_⟩
  rw [hu]at r1;rw [hv]at r2;cases r1;cases r2;have keep:∀b o,b ∉ [z,TI,TO,i1,i2]→s.heap.get? b=some o→h''.get? b=some o:=fun b o hb q=>by
   simp only [List.mem_cons,List.not_mem_nil,or_false,not_or]at hb;exact(sb.2 b hb.1).trans (r9 b o hb.1 hb.2.2.1 hb.2.2.2.1 hb.2.2.2.2 q)
  have lt:∀b∈[z,TI,TO,i1,i2],b<s.heap.objs.size:=fun b hb=>by
   have hb:b=z∨b=TI∨b=TO∨b=i1∨b=i2:=by simpa using hb
   rcases hb with rfl|rfl|rfl|rfl|rfl
   ·exact aF t1
   ·exact aF t2
   ·exact aF t3
   ·obtain⟨o,e,_⟩:=M4 t4;exact aF e
   ·obtain⟨o,e,_⟩:=M4 t5;exact aF e
  have hTn:H s.heap.objs.size=none:=I.Av.fresh (aI _);have hT'':h''.get? s.heap.objs.size=some { cls:=.type "tuple",data:=.seq #[u,v] }:=(sb.2 _ (ah (lt z (by simp)))).trans r7;have neT:∀b o,s.heap.get? b=some o→b≠s.heap.objs.size:=fun b o q=>aG (aF q);have E2:∀b o,H b=some o→b ∉ [z,TI,TO,i1,i2]:=fun b o q hb=>by rw [(hf b hb).1]at q;cases q
  refine⟨.ref s.heap.objs.size,upd H s.heap.objs.size (.tup [x,y]),?_,rfl,⟨_,x,y,rfl,hTn,rfl,fun zs hz=>by rw [hz.inj q1];exact hx,fun zs hz=>by rw [hz.inj q2];exact hy⟩,⟨z'',?_,⟨u,v,?_⟩,?_,?_⟩,fun b hb=>?_⟩
  ·show Inv X pins σ _ { s with heap:=h'',gens:=s.gens,drawn:=s.drawn,toks:=tk };refine I.step (h':=h'') (g':=s.gens) (d':=s.drawn) (t':=tk) (ch:=[z,TI,TO,i1,i2]) (fun b hb=>?_) (fun b o _ _ hc q _=>keep b o hc q) (fun b o _ _ hc q _=>⟨o.slots,keep b o hc q⟩)
    (fun b o _ q n=>by rw [AM (neT b o q)];exact n) (fun b o hc q=>⟨o,keep b o hc q⟩) (fun b ys q=>by rw [AM (Ah q hTn)];exact q) (fun b o u q=>by rw [AM (Ah q hTn)];exact q)
    (fun b ps q=>⟨#[],by rw [AM (Ah q hTn),q];simp⟩) (fun m hm=>?_) (fun b o q=>?_) I.bare
   ·obtain⟨_,f1,_,f3,f4,f5⟩:=hf b hb;exact⟨f3,f1,f4,f5⟩
   ·obtain⟨o,es,ep,ho,r⟩:=hm;exact⟨o,es,ep,keep _ o (fun hb=>(hf _ hb).2.1 rfl) ho,r⟩
   ·by_cases hb:b=s.heap.objs.size
    ·subst hb;rw [AZ]at q;cases q;exact⟨Vo,[u,v],.cons ru (.cons rv .nil),_,hT'',rfl,_,rfl⟩
    ·rw [AM hb]at q;refine(I.Av b o q).IC (fun c w hc r=>keep c w ?_ r) (fun c r=>by rw [AM (Ah r hTn)];exact r) fun c ys r=>by rw [AM (Ah r hTn)];exact r
     rcases hc with rfl|hc
     ·exact E2 _ _ q
     ·exact E2 _ _ hc
  ·exact(sb.2 _ (Ne.symm n1)).trans (r9 _ _ (Ne.symm n1) n5 n6 n7 t2)
  ·exact(sb.2 _ (Ne.symm n2)).trans r4
  ·exact K7 r5.1 fun o e=>(sb.2 _ (Ne.symm n3)).trans e
  ·exact K7 r6.1 fun o e=>(sb.2 _ (Ne.symm n4)).trans e
  ·rw [AM (aG (lt b hb))];exact(hf b hb).1
 done:=by
  intro X hP hw hK hc i pins s σ H E I hf st hg;subst hP hw hK;obtain⟨xs,ys,q1,q2,he⟩:=hg;obtain⟨us,rv1,p1⟩:=q1.raw I;obtain⟨vs,rv2,p2⟩:=q2.raw I;obtain⟨t1,t2,⟨ta,tb,t3⟩,t4,t5⟩:=st;have e1:∀b∈[z,TI,TO,i1,i2],a1≠b:=fun b hb=>q1.none (hf b hb).1;have e2:∀b∈[z,TI,TO,i1,i2],a2≠b:=fun b hb=>q2.none (hf b hb).1;simp only [List.nodup_cons,List.mem_cons,List.not_mem_nil,or_false,not_or]at ne;obtain⟨⟨n1,n2,n3,n4⟩,⟨n5,n6,n7⟩,⟨n8,n9⟩,n10,_⟩:=ne;have ap:ZT.Apart z TI TO i1 i2 [i1,a1] [i2,a2]:=⟨⟨Ne.symm n1,n5,n6,n7⟩,⟨Ne.symm n2,n8,n9⟩,⟨Ne.symm n3,Ne.symm n4,n10⟩,
   ⟨by simp [n3,Ne.symm (e1 z (by simp))],by simp [n8,Ne.symm (e1 TO (by simp))],by simp [Ne.symm n10,Ne.symm (e1 i2 (by simp))]⟩,⟨by simp [n4,Ne.symm (e2 z (by simp))],by simp [n9,Ne.symm (e2 TO (by simp))],by simp [n10,Ne.symm (e2 i1 (by simp))]⟩⟩
  have he':i=us.length∨(i<us.length∧i=vs.length):=by rw [←rv1.length,←rv2.length];exact he
  refine ZT.next_end (ZT.HS (prog:=X.prog) (w:=X.w) (A:=X.A.in1) (I.ok.hd hc) b1 i1 a1 us (e1 i1 (by simp))) (ZT.HS (prog:=X.prog) (w:=X.w) (A:=X.A.in1) (I.ok.hd hc) b2 i2 a2 vs (e2 i2 (by simp))) ap t1 t2 t3 ⟨t4,p1⟩ ⟨t5,p2⟩ he' fun h' tk kp=>⟨rfl,?_⟩;have keep:∀b o,b ∉ [z,TI,TO,i1,i2]→s.heap.get? b=some o→h'.get? b=some o:=fun b o hb q=>by
   simp only [List.mem_cons,List.not_mem_nil,or_false,not_or]at hb;exact kp b o hb.1 hb.2.2.1 hb.2.2.2.1 hb.2.2.2.2 q
  have E2:∀b o,H b=some o→b ∉ [z,TI,TO,i1,i2]:=fun b o q hb=>by rw [(hf b hb).1]at q;cases q
  show Inv X pins σ _ { s with heap:=h',gens:=s.gens,drawn:=s.drawn,toks:=tk };refine I.step (h':=h') (g':=s.gens) (d':=s.drawn) (t':=tk) (ch:=[z,TI,TO,i1,i2]) (fun b hb=>?_) (fun b o _ _ hc q _=>keep b o hc q) (fun b o _ _ hc q _=>⟨o.slots,keep b o hc q⟩)
    (fun b o _ q n=>n) (fun b o hc q=>⟨o,keep b o hc q⟩) (fun b ys q=>q) (fun b o u q=>q)
    (fun b ps q=>⟨#[],by rw [q];simp⟩) (fun m hm=>?_) (fun b o q=>?_) I.bare
  ·obtain⟨_,f1,_,f3,f4,f5⟩:=hf b hb;exact⟨f3,f1,f4,f5⟩
  ·obtain⟨o,es,ep,ho,r⟩:=hm;exact⟨o,es,ep,keep _ o (fun hb=>(hf _ hb).2.1 rfl) ho,r⟩
  ·refine(I.Av b o q).IC (fun c w hc r=>keep c w ?_ r) (fun c r=>r) fun c ys r=>r;rcases hc with rfl|hc
   ·exact E2 _ _ q
   ·exact E2 _ _ hc
 self:=fun _ _ _ _ _ st h=>wpAny_pyIter_zip st.1 h
def nF(ta:TA):TI:=fun σ H R=>ta σ H fun vs H1=>∃(b1 b2:Bool) (a1 a2:AD),vs=[.ref a1,.ref a2]∧(∃xs,E4 b1 H1 a1 xs)∧(∃ys,E4 b2 H1 a2 ys)∧R (jl b1 b2 a1 a2) H1
def gX{X:Cx}{elts:List Expr}{x1}{tpos:Pos}{a b:Expr}{ta:TA}{p pos:Pos}(hg:Gl X "zip")(hm:X.mg "zip" = none)(ha:PA X [a,b] ta)(hs:starEach [a,b] X.env=[(false,eval a X.env),(false,eval b X.env)]:=by rfl)(hs2:starEach [b] X.env=[(false,eval b X.env)]:=by rfl) :
  PI X (.Tuple elts x1 tpos) (.Call (.Name "zip" p) [a,b] [] pos) (nF ta):=by
 intro pins s σ H R I h;refine Call_ (Er I hg hm boot_zip (av (A6 (ha pos pins s σ H _ I h) fun us s1 ⟨vs,H1,I1,r1,q1⟩=>?_) (by rw [hs,hs2]) (by rw [hs2];rfl)));obtain⟨b1,b2,l1,l2,e,⟨xs,h1⟩,⟨ys,h2⟩,q⟩:=q1;subst e;cases r1 with
 |cons r rr =>
  cases rr with
  |cons r' rr =>
   cases rr;cases r;cases r';obtain⟨us,_,p1⟩:=h1.raw I1;obtain⟨vs,_,p2⟩:=h2.raw I1;refine ZT.TU p1 p2 fun h' z1 z2 z3 z4 z5 hk=>wpAny_pyIter_zip z1 ?_;have I2:Inv X pins σ H1 { s1 with heap:=h' }:=I1.kept (t':=s1.toks) hk;refine⟨_,[s1.heap.objs.size+4,s1.heap.objs.size+2,s1.heap.objs.size+3,s1.heap.objs.size,s1.heap.objs.size+1],_,_,H1,rfl,I2,Z4 ?_,⟨z1,z2,⟨_,_,z3⟩,z4,z5⟩,fun b hb=>?_,q⟩
   ·simp
   have hb':s1.heap.objs.size≤b:=by
    have hb2:b=s1.heap.objs.size+4∨b=s1.heap.objs.size+2∨b=s1.heap.objs.size+3∨b=s1.heap.objs.size∨b=s1.heap.objs.size+1:=by simpa using hb
    rcases hb2 with h|h|h|h|h<;>rw [h]<;>first|exact aI _|exact Nat.le_add_right _ _
   exact I1.OT hb' (I1.Av.fresh hb')
def gj(K:Fg)(a:AD):It :=
 ⟨fun i H=>∃xs x,A3 K H a xs∧xs[i]? = some x,fun i H v H'=>∃p x,v=.ref p∧H p=none∧H'=upd H p (.tup [.int i,x])∧∀xs,A3 K H a xs→xs[i]? = some x,fun i H=>∃xs,A3 K H a xs∧xs.length=i⟩
def Vu{P:Program}{w:World}{K:Fg}{elts:List Expr}{x1}{pos:Pos}(a e it:AD)(hne:e≠it) :
  Turn P w K (.Tuple elts x1 pos) (gj K a) [e,it] e (fun i h=>(∃old,IsEnum h e it (i:Nat) old)∧h.IsListIter it a i) where
 mem:=by simp
 obj:=fun i h st b hb=>by
  rcases aK.mp hb with rfl|hb
  ·obtain⟨⟨old,q⟩,_⟩:=st;exact⟨_,q,fun v z=>by cases z⟩
  ·have e2:b=it:=by simpa using hb
   subst e2;obtain⟨_,o,q,c,d⟩:=st;exact⟨o,q,fun v z=>by rw [d]at z;cases z⟩
 keep:=fun i h h' st k=>by
  obtain⟨⟨old,q⟩,o,q2,r⟩:=st;exact⟨⟨old,k e (by simp) _ q⟩,o,k it (by simp) _ q2,r⟩
 item:=by
  intro X hP hw hK hc i pins s σ H E I hf st hg;subst hP hw hK;obtain⟨xs,x,hq,hx⟩:=hg;obtain⟨its,rv,pL,hz⟩:=I.list hq;have p:=pL.isList;obtain⟨u,hu,ru⟩:=rv.get hx;obtain⟨⟨old,he⟩,hit⟩:=st;have hai:a≠it:=fun z=>by
   obtain⟨o,e1,c1,_⟩:=p;obtain⟨o2,e2,c2,_⟩:=hit;rw [z,e2]at e1;cases e1;rw [c1]at c2;exact absurd c2 (by decide)
  have hae:a≠e:=fun z=>by
   obtain⟨o,e1,c1,_⟩:=p;rw [z,he]at e1;cases e1;exact absurd (show Value.type "enumerate" = Value.type "list" from c1) (by decide)
  have hlt:i<its.length:=(aE.mp hu).1;have hE0:=hf e (by simp);have hI0:=hf it (by simp);refine wpAny_pyNext_enum_itemD (Draws.list (prog:=X.prog) (w:=X.w) (A:=X.A.in1) (I.ok.hd hc) it a hai its.toArray) he ⟨hit,p⟩ (by simpa using hlt) hne (by simp [hne,Ne.symm hae]) fun y h' tk hy ho hs' hT hsz hk=>⟨_,rfl,wpAny_letOwnedTupleGo_enum (s:={ s with heap:=h',toks:=tk+1 }) ho fun h'' he'' sb=>?_⟩;have hyu:y=u:=by
   have hy:its[i]? = some y:=by simpa using hy
   rw [hu]at hy;exact(aW hy).symm
  subst hyu;have keep:∀b o,b≠e→b≠it→s.heap.get? b=some o→h''.get? b=some o:=fun b o h1 h2 q=>(sb.2 b h1).trans (hk b o h1 h2 q);have hTe:s.heap.objs.size≠e:=ah (aF he);have hTi:s.heap.objs.size≠it:=let⟨_,q,_⟩:=hit;ah (aF q);have hT'':h''.get? s.heap.objs.size=some { cls:=.type "tuple",data:=.seq #[.int i tk,y] }:=(sb.2 _ hTe).trans hT;have hTn:H s.heap.objs.size=none:=I.Av.fresh (aI _);have neT:∀b o,s.heap.get? b=some o→b≠s.heap.objs.size:=fun b o q=>aG (aF q);have E2:∀b o,H b=some o→b≠e∧b≠it:=fun b o q=>⟨(fun z=>by rw [z,hE0.1]at q;cases q),(fun z=>by rw [z,hI0.1]at q;cases q)⟩;refine⟨.ref s.heap.objs.size,upd H s.heap.objs.size (.tup [.int i,x]),?_,rfl,⟨_,x,rfl,hTn,rfl,fun ys hy=>by rw [I.OO hy hq];exact hx⟩,⟨⟨_,by simpa using he''⟩,?_⟩,fun b hb=>?_⟩
  ·show Inv X pins σ _ { s with heap:=h'',gens:=s.gens,drawn:=s.drawn,toks:=tk+1 };refine I.step (h':=h'') (g':=s.gens) (d':=s.drawn) (t':=tk+1) (ch:=[e,it]) (fun b hb=>?_) (fun b o _ _ hc q _=>keep b o (fun z=>hc (by simp [z])) (fun z=>hc (by simp [z])) q) (fun b o _ _ hc q _=>⟨o.slots,keep b o (fun z=>hc (by simp [z])) (fun z=>hc (by simp [z])) q⟩)
    (fun b o _ q n=>by rw [AM (neT b o q)];exact n) (fun b o hc q=>⟨o,keep b o (fun z=>hc (by simp [z])) (fun z=>hc (by simp [z])) q⟩) (fun b ys q=>by rw [AM (Ah q hTn)];exact q) (fun b o u q=>by rw [AM (Ah q hTn)];exact q)
    (fun b ps q=>⟨#[],by rw [AM (Ah q hTn),q];simp⟩) (fun m hm=>?_) (fun b o q=>?_) I.bare
   ·rcases aK.mp hb with rfl|hb
    ·exact⟨hE0.2.2.2.1,hE0.2.1,hE0.2.2.2.2.1,hE0.2.2.2.2.2⟩
    ·have e2:b=it:=by simpa using hb
     subst e2;exact⟨hI0.2.2.2.1,hI0.2.1,hI0.2.2.2.2.1,hI0.2.2.2.2.2⟩
   ·obtain⟨o,es,ep,ho,r⟩:=hm;exact⟨o,es,ep,keep _ o (Ne.symm hE0.2.1) (Ne.symm hI0.2.1) ho,r⟩
   ·by_cases hb:b=s.heap.objs.size
    ·subst hb;rw [AZ]at q;cases q;exact⟨Vo,[.int i tk,y],.cons ⟨tk,rfl⟩ (.cons ru .nil),_,hT'',rfl,_,rfl⟩
    ·rw [AM hb]at q;refine(I.Av b o q).IC (fun c v hc r=>keep c v ?_ ?_ r) (fun c r=>by rw [AM (Ah r hTn)];exact r) fun c ys r=>by rw [AM (Ah r hTn)];exact r
     ·rcases hc with rfl|hc
      ·exact(E2 _ _ q).1
      ·exact(E2 _ _ hc).1
     ·rcases hc with rfl|hc
      ·exact(E2 _ _ q).2
      ·exact(E2 _ _ hc).2
  ·obtain⟨⟨o,q,r⟩,_⟩:=hs';exact⟨o,(sb.2 it (Ne.symm hne)).trans q,r⟩
  ·rcases aK.mp hb with rfl|hb
   ·rw [AM (Ne.symm hTe)];exact hE0.1
   ·have e2:b=it:=by simpa using hb
    subst e2;rw [AM (Ne.symm hTi)];exact hI0.1
 done:=by
  intro X hP hw hK hc i pins s σ H E I hf st hg;subst hP hw hK;obtain⟨xs,hq,hx⟩:=hg;obtain⟨its,rv,pL,hz⟩:=I.list hq;have p:=pL.isList;obtain⟨⟨old,he⟩,hit⟩:=st;have hai:a≠it:=fun z=>by
   obtain⟨o,e1,c1,_⟩:=p;obtain⟨o2,e2,c2,_⟩:=hit;rw [z,e2]at e1;cases e1;rw [c1]at c2;exact absurd c2 (by decide)
  have hl:its.length=i:=by rw [←rv.length];exact hx
  subst hl;obtain⟨f0,f1,f2,f3,f4,f5⟩:=hf it (by simp);exact wpAny_pyNext_enum_endD (Draws.list (prog:=X.prog) (w:=X.w) (A:=X.A.in1) (I.ok.hd hc) it a hai its.toArray) he ⟨hit,p⟩ fun h' eb=>⟨rfl,I.turned (t':=s.toks) (fun b o hb q=>eb b o hb q) f0 f1 f3 f4 f5⟩
 self:=fun _ _ _ _ _ st h=>by
  obtain⟨⟨old,he⟩,_⟩:=st;exact wpAny_pyIter_enum he h
def jn(K:Fg)(ta:TA):TI:=fun σ H R=>ta σ H fun vs H1=>∃a,vs=[.ref a]∧(∃xs,A3 K H1 a xs)∧R (gj K a) H1
def Ze{X:Cx}{elts:List Expr}{x1}{tpos:Pos}{a:Expr}{ta:TA}{p pos:Pos}(hg:Gl X "enumerate")(hm:X.mg "enumerate" = none)(ha:PA X [a] ta)(hs:starEach [a] X.env=[(false,eval a X.env)]:=by rfl) :
  PI X (.Tuple elts x1 tpos) (.Call (.Name "enumerate" p) [a] [] pos) (jn X.K ta):=by
 intro pins s σ H R I h;refine Call_ (Er I hg hm boot_enumerate (av (A6 (ha pos pins s σ H _ I h) fun us s1 ⟨vs,H1,I1,r1,q1⟩=>?_) hs rfl));obtain⟨t,e,⟨xs,hq⟩,q⟩:=q1;subst e;cases r1 with
 |cons r rr =>
  cases rr;cases r;obtain⟨its,rv,p',hz⟩:=I1.list hq;refine call_enumerate_list (show s1.heap.IsList t its.toArray from p'.isList) fun h' he hit hsz hk=>wpAny_pyIter_enum he ?_;have I2:Inv X pins σ H1 { s1 with heap:=h' }:=I1.kept (t':=s1.toks) hk;have hn:s1.heap.objs.size+1≠s1.heap.objs.size:=by omega
  refine⟨s1.heap.objs.size+1,[s1.heap.objs.size+1,s1.heap.objs.size],_,_,H1,rfl,I2,Vu t _ _ hn,⟨⟨_,he⟩,hit⟩,fun b hb=>?_,q⟩;have hb':s1.heap.objs.size≤b:=by
   have hb2:b=s1.heap.objs.size+1∨b=s1.heap.objs.size:=by simpa using hb
   rcases hb2 with z|z
   ·rw [z];exact bY _
   ·rw [z];exact aI _
  exact I1.OT hb' (I1.Av.fresh hb')
def Zq(i:Expr):Prop:=∀ov iv,subscripted i false ov iv=operate [ov,iv] (getItem ov iv)
def eh{prog:Program}{w:World}{A:Around}{E:VL→SD→Prop}{s:SD}{env:Env}{value slice:Expr}{pos:Pos}{T id:String}{Q:VL→SD→Prop}
 (hl:typeLookup (.type T) "__getitem__" = pure (some (.builtin id)))(hs:Zq slice)
 (h:wpAny (model prog w) A (eval value env) (fun o s₁=>wpAny (model prog w) A (eval slice env) (fun i s₂=>s₂.TypeIs o T∧wpAny (model prog w) A (getItem o i) Q E s₂) E s₁) E s) :
  wpAny (model prog w) A (eval (.Subscript value slice pos) env) Q E s:=by
 refine Subscript_ (ag h (fun o s₁ h₁=>ag h₁ (fun i s₂ h₂=>?_) fun _ _ x=>x) fun _ _ x=>x);obtain⟨hT,h₂⟩:=h₂;unfold subscriptTail;refine Wb ?_;rw [getitemInPython_of_ne hT.not_modules];refine Wb (wpAny_specialOf hT hl ?_);have fin:wpAny (model prog w) A (subscripted slice false o i) (fun r s₃=>wpAny (model prog w) A (letTemporaryGo value o r>>=fun _=>pure r) Q E s₃) E s₂:=by
  rw [hs o i];exact wpAny_operating (ag h₂ (fun r s₃ h₃=>Wb (wpAny_letTemporaryGo (aA h₃))) fun _ _ x=>x)
 first
  |exact aA (Wb fin)
  |exact Wb (aA (Wb fin))
  |exact Wb fin
end L2
namespace TH
open PySem PyProof.Rows PySem.SeqAt
def IZ:Tr→List Int
 |.nil=>[]
 |.cons b r=>reduceHash (Builtin.Tuple.tupleHashOf (IZ b))::IZ r
def BA(t:Tr):Int:=reduceHash (Builtin.Tuple.tupleHashOf (IZ t))
section
variable{prog:Program}{w:World}{E:VL→SD→Prop}
def IsTuple.ty{h:Heap}{a:AD}{x:Array VL}{s:SD}(e:s.heap=h)(k:h.IsTuple a x):s.TypeIs (.ref a) "tuple" := by
 subst e;obtain⟨o,ho,hc,_⟩:=k;exact⟨o,ho,hc⟩
def Vp(prog:Program)(w:World)(E:VL→SD→Prop)(t:Tr):Prop:=∀(us:List VL) (A:Around) (s:SD) (b:Array Int) (Q:Array Int→SD→Prop),Vs s.heap t us→A.units+t.deep≤cLine →
 (∀tk b',b'.toList=b.toList++IZ t→Q b' { s with toks:=tk })→wpAny (model prog w) A (forIn us b fun x r=>do let h ←pyHash x;pure PUnit.unit;pure (ForInStep.yield (r.push h))) Q E s
def NZ{t:Tr}(row:Vp prog w E t){a:AD}{its:List VL}{A:Around}{s:SD}{Q:Int→SD→Prop}(h1:s.heap.IsTuple a its.toArray)(h2:Vs s.heap t its)(hu:A.units+t.deep<cLine)
 (h:∀tk,Q (BA t) { s with toks:=tk }):wpAny (model prog w) A (pyHash (.ref a)) Q E s:=by
 have hT:=IsTuple.ty rfl h1;obtain⟨o,ho,hc,n,hd⟩:=id h1;refine PySem.W.pyHash_slot (T := "tuple") hT F.slot_tuple_hash F.entry_tuple_hash (F.args_tuple_hash_1 _) (beq_builtin_none _) (.inr (by omega)) ?_;show wpAny _ _ (Builtin.Tuple.tupleItemsOf (.ref a)>>=_) _ _ s;refine Wb (wpAny_tupleItemsOf ho hd ?_);refine Wb ?_;rw [←Array.forIn_toList];refine row its A.in1 s #[] _ h2 (by rw [Around.in1_units];omega) fun tk b hb=>?_;show wpAny _ _ (retInt (Builtin.Tuple.tupleHashOf b.toList)) _ _ _;rw [hb];exact Wb (wpAny_mkInt (aA ⟨_,_,rfl,h _⟩))
def OB:∀t:Tr,Vp prog w E t
 |.nil=>fun us A s b Q e _ h=>by rw [Vs]at e;subst e;exact aA (h s.toks b (by simp [IZ]))
 |.cons c r=>fun us A s b Q e hu h=>by
  rw [Vs]at e;obtain⟨a,its,rest,rfl,h1,h2,h3⟩:=e;have hd:(Tr.cons c r).deep=max (c.deep+1) r.deep:=rfl;rw [List.forIn_cons];refine Wb (Wb (NZ (OB c) h1 h2 (by omega) fun tk=>?_));refine Wb (aA (aA ?_));exact OB r rest A _ _ Q h3 (by omega) fun tk' b' hb=>h tk' b' (by simp [hb,IZ,BA])
def eY{t:Tr}{a:AD}{its:List VL}{A:Around}{s:SD}{Q:Int→SD→Prop}(h1:s.heap.IsTuple a its.toArray)(h2:Vs s.heap t its)(hu:A.units+t.deep<cLine)
 (h:∀tk,Q (BA t) { s with toks:=tk }):wpAny (model prog w) A (pyHash (.ref a)) Q E s:=NZ (OB t) h1 h2 hu h
def Good(h:Heap)(n:Nat)(v:VL):Prop:=∃a its t,v=.ref a∧h.IsTuple a its.toArray∧Vs h t its∧t.deep<n
def K8{h:Heap}:∀ {t:Tr} {us:List VL} {n:Nat},Vs h t us→t.deep≤n→∀v∈us,Good h n v
 |.nil,us,n,e,_,v,hv=>by rw [Vs]at e;subst e;cases hv
 |.cons c r,us,n,e,hd,v,hv=>by
  rw [Vs]at e;obtain⟨a,its,rest,rfl,h1,h2,h3⟩:=e;rw [Tr.deep]at hd;rcases aK.mp hv with rfl|hv
  ·exact⟨a,its,c,rfl,h1,h2,by omega⟩
  ·exact K8 h3 (by omega) v hv
def Sg:∀(n:Nat) {v:VL} {A:Around} {s:SD} {Q:Bool→SD→Prop},Good s.heap n v→Q true s→wpAny (model prog w) A (hashByValue n v) Q E s
 |0,v,A,s,Q,⟨_,_,_,_,_,_,z⟩,_=>absurd z (aq _)
 |n+1,v,A,s,Q,⟨a,its,t,e,h1,h2,hd⟩,h=>by
  subst e;have hT:=IsTuple.ty rfl h1;obtain⟨o,ho,hc,k,hdt⟩:=id h1;unfold hashByValue;refine Wb (wpAny_specialOf hT F.slot_tuple_hash.lookup ?_);refine Wb (bA ho hdt ?_);refine Wb ?_;show wpAny _ _ (forIn its.toArray _ _) _ _ s;rw [←Array.forIn_toList];refine wpAny_forIn_list _ (fun rest r s'=>r.1=none∧s'=s∧∀v∈rest,Good s.heap n v) _ ?_ ?_ _ _ ⟨rfl,rfl,K8 h2 (by omega)⟩
  ·rintro v rest r s' ⟨hr,rfl,hall⟩;refine Wb (Sg n (hall v ai) ?_);simp only [Bool.not_true,Bool.false_eq_true,if_false];exact aA ⟨rfl,rfl,fun u hu'=>hall u (aU _ hu')⟩
  ·rintro⟨r1,r2⟩ s' ⟨hr,rfl,_⟩;simp only at hr;subst hr;exact aA h
def quiet:∀(n:Nat) {v:VL} {A:Around} {s:SD} {Q:Bool→SD→Prop},Good s.heap n v→Q true s→wpAny (model prog w) A (eqIsQuiet n v) Q E s
 |0,v,A,s,Q,⟨_,_,_,_,_,_,z⟩,_=>absurd z (aq _)
 |n+1,v,A,s,Q,⟨a,its,t,e,h1,h2,hd⟩,h=>by
  subst e;have hT:=IsTuple.ty rfl h1;obtain⟨o,ho,hc,k,hdt⟩:=id h1;unfold eqIsQuiet;refine Wb (wpAny_specialOf hT F.slot_tuple_eq.lookup ?_);show wpAny _ _ (isInstance (.ref a) (.type "tuple")>>=_) _ _ s;refine Wb (wpAny_isInstance hT isSubtype_tuple_tuple ?_);simp only [Bool.not_true,Bool.false_eq_true,if_false];refine Wb (bA ho hdt ?_);refine Wb ?_;show wpAny _ _ (forIn its.toArray _ _) _ _ s;rw [←Array.forIn_toList];refine wpAny_forIn_list _ (fun rest r s'=>r.1=none∧s'=s∧∀v∈rest,Good s.heap n v) _ ?_ ?_ _ _ ⟨rfl,rfl,K8 h2 (by omega)⟩
  ·rintro v rest r s' ⟨hr,rfl,hall⟩;refine Wb (quiet n (hall v ai) ?_);simp only [Bool.not_true,Bool.false_eq_true,if_false];exact aA ⟨rfl,rfl,fun u hu'=>hall u (aU _ hu')⟩
  ·rintro⟨r1,r2⟩ s' ⟨hr,rfl,_⟩;simp only at hr;subst hr;exact aA h
def N5:∀(n:Nat) {v:VL} {A:Around} {s:SD} {Q:Bool→SD→Prop},Good s.heap n v→Q false s→wpAny (model prog w) A (ofAClassStatement n v) Q E s
 |0,v,A,s,Q,⟨_,_,_,_,_,_,z⟩,_=>absurd z (aq _)
 |n+1,v,A,s,Q,⟨a,its,t,e,h1,h2,hd⟩,h=>by
  subst e;have hT:=IsTuple.ty rfl h1;obtain⟨o,ho,hc,k,hdt⟩:=id h1;unfold ofAClassStatement;refine Wb (wpAny_typeOf hT ?_);have ht:("tuple" == "tuple")=true:=by rfl
  dsimp only;rw [if_pos ht];refine Wb (aA ?_);simp only [Bool.not_true,Bool.false_eq_true,if_false];refine Wb (bA ho hdt ?_);refine Wb ?_;rw [←Array.forIn_toList];refine wpAny_forIn_list _ (fun rest r s'=>r.1=none∧s'=s∧∀v∈rest,Good s.heap n v) _ ?_ ?_ _ _ ⟨rfl,rfl,K8 h2 (by omega)⟩
  ·rintro v rest r s' ⟨hr,rfl,hall⟩;refine Wb (N5 n (hall v ai) ?_);simp only [Bool.false_eq_true,if_false];exact aA ⟨rfl,rfl,fun u hu'=>hall u (aU _ hu')⟩
  ·rintro⟨r1,r2⟩ s' ⟨hr,rfl,_⟩;simp only at hr;subst hr;exact aA h
def bg{x:VL}{l:List VL}{A:Around}{s:SD}{Q:Bool→SD→Prop}(hx:Good s.heap 8 x)(hl:∀y∈l,Good s.heap 8 y)(h:Q false s):wpAny (model prog w) A (searchCouldBeSeen x l) Q E s:=by
  unfold searchCouldBeSeen
  refine Wb ?_
  refine wpAny_forIn_list _ (fun rest r s'=>r.1=none∧s'=s∧∀v∈rest,Good s.heap 8 v) _ ?_ ?_ _ _ ⟨rfl,rfl,hl⟩
  · rintro v rest r s' ⟨hr,rfl,hall⟩
    have go:∀b:Bool,wpAny (model prog w) A (if b=true then pure (ForInStep.yield (none,())) else do
        let q ←eqIsQuiet 8 x
        if(!q)=true then pure (ForInStep.done (some true,())) else do
          let q ←eqIsQuiet 8 v
          if(!q)=true then pure (ForInStep.done (some true,())) else do
            let q ←ofAClassStatement 8 x
            if q=true then pure (ForInStep.done (some true,())) else do
              let q ←ofAClassStatement 8 v
              if q=true then pure (ForInStep.done (some true,())) else pure (ForInStep.yield (none,())))
        (fun st s''=>match st with
          |ForInStep.yield r=>r.1=none∧s''=s'∧∀v∈rest,Good s'.heap 8 v
          |ForInStep.done r=>False) E s':=fun b=>by
      cases b with
      |true=>rw [if_pos rfl];exact aA ⟨rfl,rfl,fun u hu'=>hall u (aU _ hu')⟩
      |false =>
        rw [if_neg aJ]
        refine Wb (quiet 8 hx ?_)
        simp only [Bool.not_true,Bool.false_eq_true,if_false]
        refine Wb (quiet 8 (hall v ai) ?_)
        simp only [Bool.not_true,Bool.false_eq_true,if_false]
        refine Wb (N5 8 hx ?_)
        simp only [Bool.false_eq_true,if_false]
        refine Wb (N5 8 (hall v ai) ?_)
        simp only [Bool.false_eq_true,if_false]
        exact aA ⟨rfl,rfl,fun u hu'=>hall u (aU _ hu')⟩
    refine ag (go _) (fun st s'' z=>?_) fun _ _ z=>z
    cases st with
    |yield r=>exact z
    |done r=>exact z.elim
  · rintro⟨r1,r2⟩ s' ⟨hr,rfl,_⟩
    simp only at hr
    subst hr
    exact aA h
end
end TH
namespace TH
open PySem PyProof.Rows PySem.SeqAt
abbrev ES:=Array (Int×Tr)
def NR(et:ES)(i:Nat):Int:=(et[i]?.map (·.1)).getD 0
def Vv(et:ES)(t:SetTable)(x:Tr)(h:Int):Option (Option Nat) :=
 if t.gaveWay then none else
 match t.probe (NR et) h (t.probeStart h) with
 |some (.empty j none)=>some (some j)
 |some (.candidate _ i _)=>match et[i]? with
  |some (_,y)=>if y=x then some none else none
  |none=>none
 |_=>none
def Gi(st:ES×SetTable)(x:Tr):Option (ES×SetTable) :=
 if(st.2.fits st.1.size&&decide (st.1.size≤1000)&&st.2.plain)=false then none else
 match Vv st.1 st.2 x (BA x) with
 |none=>none
 |some none=>some st
 |some (some slot) =>
  if(st.2.put slot).1.tooFull=false then some (SetTable.insertAt st.1 (st.2.put slot).2 (BA x,x),(st.2.put slot).1) else
  if((st.2.put slot).1.fits (SetTable.insertAt st.1 (st.2.put slot).2 (BA x,x)).size&&decide (SetTable.sizeAbove (SetTable.grown (st.1.size+1))≤100000))=false then none else
  match (st.2.put slot).1.relaid ((SetTable.insertAt st.1 (st.2.put slot).2 (BA x,x)).map (·.1)) (SetTable.grown (st.1.size+1)) with
  |none=>none
  |some (t',order) =>
   if(order.filterMap ((SetTable.insertAt st.1 (st.2.put slot).2 (BA x,x))[·]?)).size=(SetTable.insertAt st.1 (st.2.put slot).2 (BA x,x)).size then
    some (order.filterMap ((SetTable.insertAt st.1 (st.2.put slot).2 (BA x,x))[·]?),t') else none
def N4(G:VL→Tr→Prop)(h:Heap)(p:Int×VL)(q:Int×Tr):Prop:=p.1=q.1∧q.2.deep<8∧G p.2 q.2∧∃a its,p.2=.ref a∧h.IsTuple a its.toArray∧Vs h q.2 its
abbrev Dg(G:VL→Tr→Prop)(h:Heap)(ev:Array (Int×VL))(et:ES):Prop:=Paired (N4 G h) ev.toList et.toList
variable{G:VL→Tr→Prop}
section
variable{α β:Type}{F:α→β→Prop}
def Paired.get:∀ {l:List α} {m:List β},Paired F l m→∀ {i:Nat} {y:β},m[i]? = some y→∃x,l[i]? = some x∧F x y
 |_,_,.nil,i,y,h=>by simp at h
 |_,_,.cons h1 r,0,y,h=>by simp at h;subst h;exact⟨_,rfl,h1⟩
 |_,_,.cons h1 r,i+1,y,h=>Paired.get r (by simpa using h)
def Paired.none:∀ {l:List α} {m:List β},Paired F l m→∀ {i:Nat},m[i]? = Option.none→l[i]? = Option.none:=fun {l m} r i h=>by
 have:=r.length;rw [List.getElem?_eq_none_iff]at h ⊢;omega
def Paired.app{l2:List α}{m2:List β}(k:Paired F l2 m2):∀ {l:List α} {m:List β},Paired F l m→Paired F (l++l2) (m++m2)
 |_,_,.nil=>k
 |_,_,.cons h r=>.cons h (Paired.app k r)
def Paired.take:∀ {l:List α} {m:List β} (n:Nat),Paired F l m→Paired F (l.take n) (m.take n)
 |_,_,0,_=>by simpa using Paired.nil
 |_,_,n+1,.nil=>by simpa using Paired.nil
 |_,_,n+1,.cons h r=>.cons h (Paired.take n r)
def Paired.drop:∀ {l:List α} {m:List β} (n:Nat),Paired F l m→Paired F (l.drop n) (m.drop n)
 |_,_,0,h=>h
 |_,_,n+1,.nil=>by simpa using Paired.nil
 |_,_,n+1,.cons h r=>Paired.drop n r
def Paired.pick{l:List α}{m:List β}(r:Paired F l m):∀(o:List Nat),Paired F (o.filterMap (l[·]?)) (o.filterMap (m[·]?))
 |[]=>.nil
 |i::o=>by
  rw [List.filterMap_cons,List.filterMap_cons];cases e:m[i]? with
  |none=>rw [Paired.none r e];exact Paired.pick r o
  |some y =>
   obtain⟨x,e2,h⟩:=Paired.get r e;rw [e2];exact .cons h (Paired.pick r o)
def Paired.imp{G:α→β→Prop}(h:∀a b,F a b→G a b):∀ {l:List α} {m:List β},Paired F l m→Paired G l m
 |_,_,.nil=>.nil
 |_,_,.cons k r=>.cons (h _ _ k) (Paired.imp h r)
end
def IP{α:Type}(xs:Array α)(p:Nat)(x:α):(SetTable.insertAt xs p x).toList=xs.toList.take p++x::xs.toList.drop p:=by
 unfold SetTable.insertAt;simp [List.extract];rw [List.take_of_length_le (by simp)]
def Dg.fst{h:Heap}{ev:Array (Int×VL)}{et:ES}(r:Dg G h ev et):ev.map (·.1)=et.map (·.1):=by
 have key:∀ {l:List (Int×VL)} {m:List (Int×Tr)},Paired (N4 G h) l m→l.map (·.1)=m.map (·.1):=fun r=>by
  induction r with
  |nil=>rfl
  |cons k _ ih=>rw [List.map_cons,List.map_cons,ih,k.1]
 apply Array.toList_inj.mp
 simpa using key r
def Dg.size{h:Heap}{ev:Array (Int×VL)}{et:ES}(r:Dg G h ev et):ev.size=et.size:=by simpa using Paired.length r
def Dg.NR{h:Heap}{ev:Array (Int×VL)}{et:ES}(r:Dg G h ev et)(i:Nat):(ev[i]?.map (·.1)).getD 0=NR et i:=by
 have:=bF (fun a:Array Int=>a[i]?) r.fst;simp only [Array.getElem?_map]at this;rw [TH.NR,this]
def Dg.good{h:Heap}{ev:Array (Int×VL)}{et:ES}(r:Dg G h ev et):∀p∈ev.toList,Good h 8 p.2:=by
 have key:∀ {l:List (Int×VL)} {m:List (Int×Tr)},Paired (N4 G h) l m→∀p∈l,Good h 8 p.2:=fun r=>by
  induction r with
  |nil=>intro p hp;cases hp
  |cons k _ ih =>
   intro p hp;rcases aK.mp hp with rfl|hp
   ·obtain⟨_,hd,_,a,its,e,h1,h2⟩:=k;exact⟨a,its,_,e,h1,h2,hd⟩
   ·exact ih p hp
 exact key r
def Dg.at{h:Heap}{ev:Array (Int×VL)}{et:ES}(r:Dg G h ev et){i:Nat}{z:Int}{y:Tr}(e:et[i]? = some (z,y)):∃a its,ev[i]? = some (z,.ref a)∧h.IsTuple a its.toArray∧Vs h y its∧y.deep<8:=by
 obtain⟨⟨z',v⟩,h1,h2,hd,_,a,its,e2,h3,h4⟩:=Paired.get r (by simpa using e);have h2:z'=z:=h2;have e2:v=.ref a:=e2;subst h2 e2;exact⟨a,its,by simpa using h1,h3,h4,hd⟩
def Dg.keeps{h h':Heap}{ev:Array (Int×VL)}{et:ES}(k:∀b o,h.get? b=some o→o.cls=.type "tuple" → h'.get? b=some o)(r:Dg G h ev et):Dg G h' ev et :=
 Paired.imp (fun p q ⟨e,hd,hg,a,its,e2,h1,h2⟩=>⟨e,hd,hg,a,its,e2,(by obtain⟨o,ho,hc,n,hdt⟩:=h1;exact⟨o,k _ _ ho hc,hc,n,hdt⟩),h2.keeps k⟩) r
section
variable{prog:Program}{w:World}{E:VL→SD→Prop}{A:Around}{s:SD}{a xa:AD}{o:Obj}{ev:Array (Int×VL)}{et:ES}{ep:Nat}{t:SetTable}{x:Tr}{its:List VL}{h:Int}
def Xs{r:Option Nat}{Q:SetFound→SD→Prop}(ho:s.heap.get? a=some o)(hd:o.data=.set ev ep t)(hf:t.fits et.size=true)(R:Dg G s.heap ev et)(hx1:s.heap.IsTuple xa its.toArray)(hx2:Vs s.heap x its)(hxd:x.deep<8)
 (hu:A.units+8<cLine)(hs:Vv et t x h=some r)(h0:r=none→Q (.there none) s)(h1:∀j,r=some j→Q (.free j false) s):wpAny (model prog w) A (setSearch a (.ref xa) h true) Q E s:=by
 have hf':t.fits ev.size=true:=by rw [R.size];exact hf
 unfold Vv at hs;by_cases hg:t.gaveWay=true
 ·rw [if_pos hg]at hs;cases hs
 rw [if_neg hg]at hs;unfold setSearch;rw [show(100000:Nat)=99999+1 from rfl,setSearchFrom];refine Wb (bG ho hd hf' ?_);dsimp only;rw [if_neg hg];have hpr:∀f:Nat→Int,(∀i,f i=NR et i)→t.probe f h ((none:Option SetTable.Probe).getD (t.probeStart h))=t.probe (NR et) h (t.probeStart h):=fun f hf=>by
  rw [show f=NR et from funext hf];rfl
 generalize hst:t.probe _ h ((none:Option SetTable.Probe).getD (t.probeStart h))=pr;have hpr':pr=t.probe (NR et) h (t.probeStart h):=hst.symm.trans (hpr _ fun i=>R.NR i);clear hst hpr;subst hpr';cases hp:t.probe (NR et) h (t.probeStart h) with
 |none=>rw [hp]at hs;cases hs
 |some met =>
  rw [hp]at hs;cases met with
  |empty j dummy =>
   cases dummy with
   |none=>cases hs;exact aA (h1 j rfl)
   |some d=>cases hs
  |candidate j i next =>
   cases he:et[i]? with
   |none=>simp only [he]at hs;cases hs
   |some zy =>
    obtain⟨z,y⟩:=zy;simp only [he]at hs;by_cases hy:y=x
    ·rw [if_pos hy]at hs;cases hs;subst hy;obtain⟨b,its2,e1,e2,e3,e4⟩:=R.at he;cases hl:t.led with
     |true =>
      simp only [Bool.not_true,Bool.false_eq_true,if_false];rw [e1];refine Wb (aP (Mr e2 e3 hx1 hx2 (by omega) prog w E _ ?_));rw [decide_eq_true rfl];refine Wb (bG ho hd hf' ?_);exact aA (h0 rfl)
     |false =>
      simp only [Bool.not_false,if_true];refine Wb (bg ⟨xa,its,_,rfl,hx1,hx2,hxd⟩ (fun v hv=>?_) ?_)
      ·obtain⟨p,hp1,rfl⟩:=aQ.mp hv;exact R.good p (Array.mem_toList_iff.mpr (Array.mem_filter.mp (Array.mem_toList_iff.mp hp1)).1)
      simp only [Bool.false_eq_true,if_false];rw [e1];refine Wb (aP (Mr e2 e3 hx1 hx2 (by omega) prog w E _ ?_));rw [decide_eq_true rfl];refine Wb (bG ho hd hf' ?_);exact aA (h0 rfl)
    ·rw [if_neg hy]at hs;cases hs
def HD{n:Nat}(h:n≤100000):n≤sizeLine:=ae h (by rw [sizeLine_eq];decide)
def Ve{hp:Heap}(ho:hp.get? a=some o)(hd:o.data=.set ev ep t)(ev':Array (Int×VL))(t':SetTable):(hp.update a (Obj.putSet ev' t')).get? a=some { o with data:=.set ev' (ep+1) t' }:=by
 have:=Heap.get?_update_self (Obj.putSet ev' t') ho (by rw [putSet_of ev' t' hd];rfl);rw [putSet_of ev' t' hd]at this;exact this
def Sa{hp:Heap}(ho:hp.get? a=some o)(hc:o.cls=.type "set")(g:Obj→Obj):∀b u,hp.get? b=some u→u.cls=.type "tuple" →(hp.update a g).get? b=some u:=fun b u q hu=>by
 have:a≠b:=fun z=>by
  subst z;rw [ho]at q;cases q;rw [hc]at hu
  injection hu with z
  exact absurd z (by decide)
 rw [Heap.get?_update_other _ _ this];exact q
def fg{et' : ES}{t' : SetTable}{Q : Bool→SD→Prop}(ho : s.heap.get? a = some o)(hc : o.cls = .type "set")(hd : o.data = .set ev ep t)(R : Dg G s.heap ev et)(hx1 : s.heap.IsTuple xa its.toArray)(hx2 : Vs s.heap x its)(hxd : x.deep < 8)(hxg : G (.ref xa) x)
 (hu : A.units + 8 < cLine)(hs : Gi (et,t) x = some (et',t'))
 (k : ∀ (b : Bool) (h' : Heap) (tk : Nat) (ev' : Array (Int×VL)) (ep' : Nat),Heap.SameBut a s.heap h'→h'.get? a = some { o with data:=.set ev' ep' t' }→Dg G h' ev' et'→Q b { s with heap:=h',toks:=tk }) :
    wpAny (model prog w) A (setAdd a (.ref xa)) Q E s := by
  unfold setAdd
  refine aP (Wb (eY hx1 hx2 (by omega) fun tk => ?_))
  unfold setAddHashed
  refine aP ?_
  unfold Gi at hs
  by_cases h1 : (t.fits et.size && decide (et.size≤1000) && t.plain) = false
  · rw [if_pos h1] at hs; cases hs
  rw [if_neg h1] at hs
  simp only [Bool.not_eq_false,Bool.and_eq_true,decide_eq_true_eq] at h1
  obtain ⟨⟨hf,hz⟩,hpl⟩:=h1
  have hf' : t.fits ev.size = true := by rw [R.size]; exact hf
  cases hsr : Vv et t x (BA x) with
  | none => simp only [hsr] at hs; cases hs
  | some r =>
    simp only [hsr] at hs
    rw [show (100000 : Nat) = 99999 + 1 from rfl,setAddHashedIn]
    refine Wb (bG (s:={ s with toks:=tk }) ho hd hf' ?_)
    dsimp only
    have hbs : byScan (.ref xa) ev = false:=rfl
    rw [hbs,if_neg aJ]
    refine Wb (Xs (s:={ s with toks:=tk }) ho hd hf R hx1 hx2 hxd hu hsr (fun hr => ?_) fun j hr => ?_)
    · subst hr
      cases hs
      exact aA (k _ s.heap tk ev ep (Heap.SameBut.refl ..) (by rw [ho,← hd]) R)
    · subst hr
      dsimp only at hs ⊢
      refine Wb (bG (s:={ s with toks:=tk }) ho hd hf' ?_)
      dsimp only
      have hpl2 : (t.put j).1.plain = true:=hpl
      rw [if_pos hpl2]
      refine Wb (Sg 8 (s:={ s with toks:=tk }) ⟨xa,its,x,rfl,hx1,hx2,hxd⟩ ?_)
      simp only [if_true]
      have R1 : Dg G s.heap (SetTable.insertAt ev (t.put j).2 (BA x,.ref xa)) (SetTable.insertAt et (t.put j).2 (BA x,x)) := by
        unfold Dg
        rw [IP,IP]
        exact Paired.app (.cons ⟨rfl,hxd,hxg,xa,its,rfl,hx1,hx2⟩ (Paired.drop _ R)) (Paired.take _ R)
      have hz1 : (SetTable.insertAt ev (t.put j).2 (BA x,Value.ref xa)).size≤1001 := by
        have h2:=bF List.length (IP ev (t.put j).2 (BA x,Value.ref xa))
        simp only [Array.length_toList,List.length_append,List.length_take,List.length_cons,List.length_drop] at h2
        have:=R.size
        omega
      have hz2 : (SetTable.insertAt et (t.put j).2 (BA x,x)).size = (SetTable.insertAt ev (t.put j).2 (BA x,Value.ref xa)).size:=R1.size.symm
      refine Wb (wpAny_storeSet_of (s:={ s with toks:=tk }) ho hd ?_ (HD (by omega)))
      have g1:=Ve ho hd (SetTable.insertAt ev (t.put j).2 (BA x,.ref xa)) (t.put j).1
      have k1:=Sa ho hc (Obj.putSet (SetTable.insertAt ev (t.put j).2 (BA x,.ref xa)) (t.put j).1)
      have sb1:=aY s.heap a (Obj.putSet (SetTable.insertAt ev (t.put j).2 (BA x,.ref xa)) (t.put j).1)
      by_cases hfull : (t.put j).1.tooFull = false
      · rw [if_pos hfull] at hs
        cases hs
        rw [hfull]
        simp only [Bool.and_false,Bool.false_eq_true,if_false]
        exact aA (k _ _ tk _ _ sb1 g1 (R1.keeps k1))
      · rw [if_neg hfull] at hs
        have hfull : (t.put j).1.tooFull = true := by simpa using hfull
        rw [hfull]
        simp only [Bool.not_false,Bool.and_true,if_true]
        by_cases h2 : ((t.put j).1.fits (SetTable.insertAt et (t.put j).2 (BA x,x)).size && decide (SetTable.sizeAbove (SetTable.grown (et.size + 1))≤100000)) = false
        · rw [if_pos h2] at hs; cases hs
        rw [if_neg h2] at hs
        simp only [Bool.not_eq_false,Bool.and_eq_true,decide_eq_true_eq] at h2
        obtain ⟨hfit,hsa⟩:=h2
        cases hrl : (t.put j).1.relaid ((SetTable.insertAt et (t.put j).2 (BA x,x)).map (·.1)) (SetTable.grown (et.size + 1)) with
        | none => simp only [hrl] at hs; cases hs
        | some to =>
          obtain ⟨t2,order⟩:=to
          simp only [hrl] at hs
          by_cases h3 : (order.filterMap ((SetTable.insertAt et (t.put j).2 (BA x,x))[·]?)).size = (SetTable.insertAt et (t.put j).2 (BA x,x)).size
          · rw [if_pos h3] at hs
            cases hs
            have R2 : Dg G s.heap (order.filterMap ((SetTable.insertAt ev (t.put j).2 (BA x,Value.ref xa))[·]?)) (order.filterMap ((SetTable.insertAt et (t.put j).2 (BA x,x))[·]?)) := by
              unfold Dg
              have:=Paired.pick R1 order.toList
              simpa using this
            have g2:=Ve g1 rfl (order.filterMap ((SetTable.insertAt ev (t.put j).2 (BA x,Value.ref xa))[·]?)) t'
            have k2:=Sa g1 hc (Obj.putSet (order.filterMap ((SetTable.insertAt ev (t.put j).2 (BA x,Value.ref xa))[·]?)) t')
            have sb2:=aY (s.heap.update a (Obj.putSet (SetTable.insertAt ev (t.put j).2 (BA x,.ref xa)) (t.put j).1)) a (Obj.putSet (order.filterMap ((SetTable.insertAt ev (t.put j).2 (BA x,Value.ref xa))[·]?)) t')
            refine Wb ?_
            unfold setRelay
            refine Wb (bG g1 rfl (by rw [← hz2]; exact hfit) ?_)
            dsimp only
            rw [R.size,if_neg (Nat.not_lt.mpr (HD hsa))]
            refine Wb ?_
            rw [R1.fst,hrl]
            have hsz : (order.filterMap ((SetTable.insertAt ev (t.put j).2 (BA x,Value.ref xa))[·]?)).size = (SetTable.insertAt ev (t.put j).2 (BA x,Value.ref xa)).size := by rw [R2.size,h3,hz2]
            have hne : ¬ ((order.filterMap ((SetTable.insertAt ev (t.put j).2 (BA x,Value.ref xa))[·]?)).size != (SetTable.insertAt ev (t.put j).2 (BA x,Value.ref xa)).size) = true := by simp [hsz]
            show wpAny _ _ (do if (order.filterMap ((SetTable.insertAt ev (t.put j).2 (BA x,Value.ref xa))[·]?)).size != (SetTable.insertAt ev (t.put j).2 (BA x,Value.ref xa)).size then unsupported "internal:set-table-lost-an-element"
                               pure (order.filterMap ((SetTable.insertAt ev (t.put j).2 (BA x,Value.ref xa))[·]?),t')) _ _ _
            rw [if_neg hne]
            refine aA ?_
            refine wpAny_storeSet_of g1 rfl ?_ (HD (by rw [hsz]; omega))
            exact aA (k _ _ tk _ _ (sb1.trans sb2) g2 ((R2.keeps k1).keeps k2))
          · rw [if_neg h3] at hs; cases hs
end
end TH
namespace TH
open PySem
def grow:List Tr→Tr→List Tr
 |_,.nil=>[]
 |pre,.cons b r=>((Tr.of (Tr.B1 (b.bs++[.nil]))::grow [] b).map fun g=>Tr.of (Tr.B1 (pre++g::r.bs)))++grow (pre++[b]) r
def mF(t:Tr):List Tr:=Tr.of (Tr.B1 (t.bs++[.nil]))::grow [] t
def ups(l:List Tr):List Tr:=l.flatMap mF
def Mj(st:ES×SetTable):List Tr→Option (ES×SetTable)
 |[]=>some st
 |x::r=>(Gi st x).bind fun st'=>Mj st' r
def Kx(led:Bool):ES×SetTable:=(#[],.fresh 0 0 led)
def Pb(st:ES×SetTable):List Tr:=st.1.toList.map (·.2)
def tz:Nat→List Tr
 |0=>[.nil]
 |n+1=>(Tr.B1 ((ups (tz n)).eraseDups)).reverse
end TH
namespace TH
open PySem PyProof.Rows PySem.SeqAt
def Rn(G:VL→Tr→Prop)(h:Heap)(v:VL)(x:Tr):Prop:=x.deep<8∧G v x∧∃a its,v=.ref a∧h.IsTuple a its.toArray∧Vs h x its
abbrev Im(G:VL→Tr→Prop)(h:Heap)(vs:List VL)(xs:List Tr):Prop:=Paired (Rn G h) vs xs
variable{G:VL→Tr→Prop}
def Rn.keeps{h h':Heap}(k:∀b o,h.get? b=some o→o.cls=.type "tuple" → h'.get? b=some o){v:VL}{x:Tr}(r:Rn G h v x):Rn G h' v x:=by
 obtain⟨hd,hg,a,its,e,h1,h2⟩:=r;exact⟨hd,hg,a,its,e,(by obtain⟨o,ho,hc,n,hdt⟩:=h1;exact⟨o,k _ _ ho hc,hc,n,hdt⟩),h2.keeps k⟩
def Im.keeps{h h':Heap}(k:∀b o,h.get? b=some o→o.cls=.type "tuple" → h'.get? b=some o){vs:List VL}{xs:List Tr}(r:Im G h vs xs):Im G h' vs xs:=Paired.imp (fun _ _ z=>z.keeps k) r
def Lh(G:VL→Tr→Prop)(h:Heap)(S:AD)(st:ES×SetTable):Prop:=∃o ev ep,h.get? S=some o∧o.ExactSet∧o.data=.set ev ep st.2∧Dg G h ev st.1
def Lh.keeps{h h':Heap}{S:AD}{st:ES×SetTable}(x:Lh G h S st)(kS:∀o,h.get? S=some o→h'.get? S=some o)(k:∀b o,h.get? b=some o→o.cls=.type "tuple" → h'.get? b=some o):Lh G h' S st:=by
 obtain⟨o,ev,ep,h1,h2,h3,h4⟩:=x;exact⟨o,ev,ep,kS _ h1,h2,h3,h4.keeps k⟩
section
variable{prog:Program}{w:World}{A:Around}{R:Result→SD→Prop}{I S:AD}{fp wr:List AD}{St:Nat→Heap→Prop}{items:Array VL}{xs:List Tr}{st':ES×SetTable}
def di(W:Walks prog w A.in1 I fp wr items.size (fun i v=>items[i]? = some v) St)(hSf:S ∉ fp)(hcl:∀i h b o,St i h→b∈wr→h.get? b=some o→o.cls≠.type "tuple")(hu:A.units+10<cLine) :
  ∀(k i:Nat) (s:SD) (st:ES×SetTable),items.size-i=k→i≤items.size→St i s.heap→Lh G s.heap S st→Im G s.heap items.toList xs→Mj st (xs.drop i)=some st' →
   (∀(h':Heap) (tk:Nat),(∀b o,b≠S→b ∉ wr→s.heap.get? b=some o→h'.get? b=some o)→(∀b o,s.heap.get? b=some o→o.cls=.type "tuple" → h'.get? b=some o)→Lh G h' S st'→R (.ok (.ret .none)) { s with heap:=h',toks:=tk }) →
   codeAny (model prog w) A (.builtin "set.update.loop" ⟨[.ref S,.ref I],[]⟩) R s:=by
 have hSw:S ∉ wr:=fun h=>hSf (W.sub _ h);intro k
 induction k with
 |zero =>
  intro i s st hk hi hst hS hT hrun hR;have hin:i=items.size:=by omega
  subst hin;have hlen:=Paired.length hT;rw [List.drop_of_length_le (by rw [←hlen];simp)]at hrun;cases hrun;refine codeAny_builtin F.entry_set_update_loop ?_;rw [Around.under_plainId F.plain_set_update_loop _];show wpAny _ A.in1 (pyNext (.ref I)>>=_) _ _ s;refine Wb (W.done s _ _ hst fun h' tk hm=>?_);show wpAny _ A.in1 (ret Value.none) _ _ _;have kt:∀b o,s.heap.get? b=some o→o.cls=.type "tuple" → h'.get? b=some o:=fun b o e hc=>hm b o (fun hb=>hcl _ _ b o hst hb e hc) e;exact aA (hR h' tk (fun b o _ hb e=>hm b o hb e) kt (hS.keeps (fun o e=>hm S o hSw e) kt))
 |succ k ih =>
  intro i s st hk hi hst hS hT hrun hR;have hlt:i<items.size:=by omega
  refine codeAny_builtin F.entry_set_update_loop ?_;rw [Around.under_plainId F.plain_set_update_loop _];show wpAny _ A.in1 (pyNext (.ref I)>>=_) _ _ s;refine Wb (W.item i s _ _ hlt hst fun v h1 tk hP hst' hm=>?_);have kt:∀b o,s.heap.get? b=some o→o.cls=.type "tuple" → h1.get? b=some o:=fun b o e hc=>hm b o (fun hb=>hcl _ _ b o hst hb e hc) e;have hS1:=hS.keeps (fun o e=>hm S o hSw e) kt;have hT1:=hT.keeps kt;have hlen:=Paired.length hT;have hxi:i<xs.length:=by rw [←hlen];simpa using hlt
  have hx:xs[i]? = some xs[i]:=aR hxi;obtain⟨v',hv',hxd,hxg,xa,its,e1,e2,e3⟩:=Paired.get hT1 hx;have hvv:v'=v:=by
   have h2:items.toList[i]? = some v:=by simpa using hP
   rw [h2]at hv';exact(aW hv').symm
  subst hvv;subst e1;rw [List.drop_eq_getElem_cons hxi,Mj]at hrun;cases hadd:Gi st xs[i]with
  |none=>rw [hadd]at hrun;cases hrun
  |some st1 =>
   rw [hadd]at hrun;obtain⟨o,ev,ep,g1,g2,g3,g4⟩:=hS1;obtain⟨et,t⟩:=st;obtain⟨et1,t1⟩:=st1;show wpAny _ A.in1 (holding [Value.ref xa] (setAdd S (.ref xa))>>=_) _ _ _;refine Wb (aP (fg (s:={ s with heap:=h1,toks:=tk }) g1 g2.1 g3 g4 e2 e3 hxd hxg (by rw [Around.in1_units];omega) hadd fun b h2 tk2 ev2 ep2 sb gS R2=>?_));have kt2:∀b o,h1.get? b=some o→o.cls=.type "tuple" → h2.get? b=some o:=fun b o' e hc=>by
    rw [sb.2 b fun z=>?_]
    ·exact e
    ·subst z;rw [g1]at e;cases e;rw [g2.1]at hc
     injection hc with hc
     exact absurd hc (by decide)
   refine aA ⟨plainId_quiet F.plain_set_update_loop _,ih (i+1) { s with heap:=h2,toks:=tk2 } (et1,t1) (by omega) hlt (W.frame _ _ _ hst' fun b hb o' e=>?_) ⟨_,ev2,ep2,gS,g2,rfl,R2⟩ (hT1.keeps kt2) hrun fun h3 tk3 m3 kt3 S3=>?_⟩
   ·rw [sb.2 b fun z=>hSf (z ▸ hb)];exact e
   ·refine hR h3 tk3 (fun b o' hbS hb e=>?_) (fun b o' e hc=>kt3 b o' (kt2 b o' (kt b o' e hc) hc) hc) S3;refine m3 b o' hbS hb ?_;show h2.get? b=some o';rw [sb.2 b hbS];exact hm b o' hb e
end
end TH
namespace TH
open PySem PyProof.Rows PySem.SeqAt
section
variable{G:VL→Tr→Prop}{prog:Program}{w:World}{A:Around}{E:VL→SD→Prop}{s:SD}{l:AD}{us:List VL}{xs:List Tr}
abbrev Ft(led:Bool):Obj:={ cls:=.type "set",dict:=none,data:=.set #[] 0 (.fresh 0 0 led) }
def Wq(v:VL){Q1:VL→SD→Prop}(k:Q1 (.ref s.heap.objs.size) { s with heap:=s.heap.push (Ft (!w.params.followText "set-order")) }) :
  codeAny (model prog w) A (.call (.builtin "set.__new__") ⟨[.type "set",v],[]⟩) (wants Q1 E) s:=by
 refine codeAny_of_tree (show wpAny _ A.in1 (checkBuiltinCall "set.__new__" ⟨[.type "set",v],[]⟩>>=fun _=>again (.builtin "set.__new__" ⟨[.type "set",v],[]⟩)) _ _ s from ?_);refine Wb (wpAny_of_eq (F.newCall_set_1 v) (aA ⟨plainId_quiet F.plain_set_new _,codeAny_builtin F.entry_set_new ?_⟩));rw [Around.under_plainId F.plain_set_new _];unfold Builtin.«set.__new__»;unfold Builtin.Frozenset.newClass;have q:=sub_set_self;obtain⟨h0,g0,d0,t0,o0⟩:=s;dsimp only
 wp_walk
 refine wpAny_askSetting (aA ?_);dsimp only;simp only [newObj];exact Wb (wpAny_alloc (aA (aA k)))
def UZ{Q:VL→SD→Prop}(hA:A.handled=none)(hL:s.heap.IsList l us.toArray)(hT:Im G s.heap us xs)(hu:A.units+20<cLine){st:ES×SetTable}(hst:Mj (Kx (!w.params.followText "set-order")) xs=some st)
 (k:∀(h2:Heap) (tk:Nat),Lh G h2 s.heap.objs.size st→(∀b u,s.heap.get? b=some u→h2.get? b=some u)→Q (.ref s.heap.objs.size) { s with heap:=h2,toks:=tk }) :
  wpAny (model prog w) A (call (.type "set") [.ref l]) Q E s:=by
 obtain⟨mc,mt,hmro⟩:=F.called_set.mro;have q1:=F.called_set.made;have q2:=F.called_set.sub;have q3:=F.called_set.notType;have q4:=F.called_set.canCreate;have q5:=F.typeCall_set_1 (.ref l);refine wpAny_call (codeAny_of_tree (show wpAny _ _ (callAny (.type "set") _) _ _ _ from ?_));refine aA ⟨Code.quiet_builtin _ (by decide +kernel),codeAny_builtin F.entry_type_call ?_⟩;rw [Around.under_plain (weight_type_call_type "set" [.ref l] []) rfl]
 repeat (any_goals (first|assumption|wp_step))
 have hnew:=Wq (prog:=prog) (w:=w) (s:=s) (A:=A.in1) (E:=E) (.ref l) (Q1:=fun v s1=>v=.ref s.heap.objs.size∧s1={ s with heap:=s.heap.push (Ft (!w.params.followText "set-order")) }) ⟨rfl,rfl⟩;refine codeAny_mono hnew fun r s1 hr=>?_;cases r with
 |error e=>exact hr
 |ok fl =>
  cases fl with
  |next=>exact hr.elim
  |brk=>exact hr.elim
  |cont=>exact hr.elim
  |ret obj =>
   obtain⟨rfl,rfl⟩:=hr;generalize (!w.params.followText "set-order")=led at hst;have gS:(s.heap.push (Ft led)).get? s.heap.objs.size=some (Ft led):=aN _ rfl;have tS:Shared.TypeIs { s with heap:=s.heap.push (Ft led) } (.ref s.heap.objs.size) "set" := ⟨_,gS,rfl⟩;have q6:=F.called_set.init.lookup;have q7:=F.called_set.init.bind (.ref s.heap.objs.size)
   repeat (any_goals (first|assumption|wp_step))
   have hinit:codeAny (model prog w) A.in1 (.call (.builtin "set.__init__") ⟨[.ref s.heap.objs.size,.ref l],[]⟩)
     (wants (fun v s2=>v=.none∧∃h2 tk,s2={ s with heap:=h2,toks:=tk }∧Lh G h2 s.heap.objs.size st∧∀b u,s.heap.get? b=some u→h2.get? b=some u) E) { s with heap:=s.heap.push (Ft led) }:=by
    refine codeAny_call_builtin F.called_set.init.plain F.entry_set_init (check_set_init_1 tS ?_);obtain⟨⟨c0,d0,dt0,sl0⟩,gl,c1,n0,dt1⟩:=id hL;simp only at c1 dt1;subst c1 dt1;have gl1:(s.heap.push (Ft led)).get? l=some ⟨.type "list",d0,.seq us.toArray n0,sl0⟩:=aD _ gl;have isl:(s.heap.push (Ft led)).IsList l us.toArray:=⟨_,gl1,rfl,n0,rfl⟩;have s1:=F.sub_list_set;have s2:=F.sub_list_frozenset;have s3:(Value.type "list" == Value.type "dict")=false:=by decide
    unfold Builtin.«set.__init__» noKeywords Builtin.Frozenset.updateFrom;generalize ePI:pyIter=PI
    wp_walk
    subst ePI;refine wpAny_pyIter_list isl (Wb (wpAny_runValue ?_));have ll:l<s.heap.objs.size:=aF gl;have zI:(s.heap.push (Ft led)).objs.size=s.heap.objs.size+1:=Heap.size_push ..;have neI:l≠(s.heap.push (Ft led)).objs.size:=by rw [zI];exact aG (ar ll)
    have nfp:s.heap.objs.size ∉ [(s.heap.push (Ft led)).objs.size,l]:=by
     simp only [List.mem_cons,List.not_mem_nil,or_false,not_or];exact⟨by rw [zI];exact aG (bM _),Nat.ne_of_gt ll⟩
    have hA3:A.in1.in1.in1.handled=none:=by simp [hA]
    refine di (G:=G) (xs:=xs) (st':=st) (Walks.list hA3 _ l neI us.toArray) nfp (fun i h b o hit hb e hc=>?_) (by simp only [Around.in1_units];omega) _ 0 _ (Kx led) rfl (au _) ⟨⟨_,Heap.get?_push_size _ rfl,rfl,rfl⟩,isl.push _⟩ ?_ ?_ hst fun h2 tk m2 kt2 S2=>?_
    ·obtain⟨⟨oi,gi,ci,_⟩,_⟩:=hit;have:b=(s.heap.push (Ft led)).objs.size:=by simpa using hb
     subst this;rw [gi]at e;cases e;rw [ci]at hc
     injection hc with hc
     exact absurd hc (by decide)
    ·exact⟨Ft led,#[],0,Heap.get?_push_of_some _ gS,⟨rfl,rfl,rfl⟩,rfl,.nil⟩
    ·exact hT.keeps fun b o e _=>aD _ (aD _ e)
    ·refine aA ?_;show wpAny _ _ (ret Value.none) _ _ _;refine aA ⟨rfl,h2,tk,rfl,S2,fun b u e=>?_⟩;have lb:b<s.heap.objs.size:=aF e;refine m2 b u (aG lb) ?_ (aD _ (aD _ e));simp only [List.mem_cons,List.not_mem_nil,or_false];rw [zI];exact aG (ar lb)
   refine codeAny_mono hinit fun r2 s2 hr2=>?_;cases r2 with
   |error e=>exact hr2
   |ok f2 =>
    cases f2 with
    |next=>exact hr2.elim
    |brk=>exact hr2.elim
    |cont=>exact hr2.elim
    |ret v2 =>
     obtain⟨rfl,h2,tk,rfl,S2,k2⟩:=hr2
     repeat (any_goals (first|assumption|wp_step))
     exact k h2 tk S2 k2
end
end TH
namespace TH
open PySem PyProof.Rows PySem.SeqAt
def QF:entryFor table "set.__iter__" = some Builtin.«frozenset.__iter__» :=
 entryFor_alias (id' := "frozenset.__iter__") (by kernel_rfl) rfl (by decide +kernel) (by kernel_rfl)
def EB:Slot "set_iterator" "__next__" "set_iterator.__next__" :=
 .of (owner := "set_iterator") (n := "__next__") (by rw [typeLookup_type,builtinLookup_eq_fast];kernel_rfl) (by decide +kernel)
  (by decide +kernel) (by decide +kernel) (by first|exact .inl (by decide +kernel)|exact .inr (by decide +kernel)) (by rw [isSubtype_type];kernel_rfl)
def Ky:entryFor table "set_iterator.__next__" = some Builtin.«set_iterator.__next__»:=entryFor_of_fast (by kernel_rfl)
def Lp(a:VL):argsOk "set_iterator.__next__" ⟨[a],[]⟩:=by unfold argsOk;kernel_rfl
def Lv:Slot "set_iterator" "__iter__" "set_iterator.__iter__" :=
 .of (owner := "set_iterator") (n := "__iter__") (by rw [typeLookup_type,builtinLookup_eq_fast];kernel_rfl) (by decide +kernel)
  (by decide +kernel) (by decide +kernel) (by first|exact .inl (by decide +kernel)|exact .inr (by decide +kernel)) (by rw [isSubtype_type];kernel_rfl)
def Qf:entryFor table "set_iterator.__iter__" = some Builtin.«dict_keyiterator.__iter__» :=
 entryFor_alias (id' := "dict_keyiterator.__iter__") (by kernel_rfl) rfl (by decide +kernel) (by kernel_rfl)
def RU(a:VL):argsOk "set_iterator.__iter__" ⟨[a],[]⟩:=by unfold argsOk;kernel_rfl
section
variable{α:Type}{next:Nat→Nat}
def U1:∀(n k:Nat) (left:List α) (out:Array α),left.length=n→(pickOrder.go next n k left out).toList.Perm (out.toList++left)
 |0,k,left,out,h=>by
  have:left=[]:=List.eq_nil_of_length_eq_zero h;subst this;rw [pickOrder.go];simp
 |n+1,k,left,out,h=>by
  rw [pickOrder.go];have hlt:next k % left.length<left.length:=Nat.mod_lt _ (by omega);rw [List.getElem?_eq_getElem hlt];refine(U1 n (k+1) _ _ (by rw [List.length_eraseIdx_of_lt hlt];omega)).trans ?_;rw [Array.toList_push,List.append_assoc];refine List.Perm.append_left _ ?_;rw [List.eraseIdx_eq_take_drop_succ];have e:left.take (next k % left.length)++left[next k % left.length]::left.drop (next k % left.length+1)=left:=by rw [←List.drop_eq_getElem_cons hlt,List.take_append_drop]
  have p:=List.perm_middle (a:=left[next k % left.length]) (l₁:=left.take (next k % left.length)) (l₂:=left.drop (next k % left.length+1));rw [e]at p;exact p.symm
def YJ(xs:Array α):(pickOrder next xs).toList.Perm xs.toList:=by
 unfold pickOrder
 simpa using U1 xs.size 0 xs.toList #[] (by simp)
end
end TH
namespace TH
open PySem PyProof.Rows PySem.SeqAt
def Fd(w:World)(S:AD)(ep:Nat)(ev:Array (Int×VL)):Array (Int×VL):=if w.params.followText "set-order" = true then pickOrder (w.params.setOrder S ep) ev else ev
def Qp(w:World)(S:AD)(ep:Nat)(ev:Array (Int×VL)):(Fd w S ep ev).toList.Perm ev.toList:=by
 unfold Fd;split
 ·exact YJ ev
 ·exact .refl _
def Jr(w:World)(S:AD)(ep:Nat)(ev:Array (Int×VL)):(Fd w S ep ev).size=ev.size:=by simpa using (Qp w S ep ev).length_eq
def Ho(t:SetTable):Nat→Nat
 |0=>0
 |i+1=>t.place.getD i 0+1
def EG(w:World)(t:SetTable)(i:Nat):Nat:=if w.params.followText "set-order" = true then 0 else Ho t i
def Ml(t:SetTable)(n:Nat):Bool:=(List.range (n+1)).all fun i=>decide (SetTable.below t.place (Ho t i)=i)
abbrev Jp(w:World)(S:AD)(t:SetTable)(ep n i:Nat):Obj:={ cls:=.type "set_iterator",data:=.fields #[rawInt ((EG w t i:Nat):Int),rawInt (i:Int),.ref S,rawInt (n:Int),rawInt (ep:Int)] }
structure Eu(w:World)(o:Obj)(ev:Array (Int×Value))(ep:Nat)(t:SetTable):Prop where
 ex:o.ExactSet
 dat:o.data=.set ev ep t
 fit:t.fits ev.size=true
 plain:t.plain=true
 led:t.led=!w.params.followText "set-order"
 walk:Ml t ev.size=true
section
variable{prog:Program}{w:World}{A:Around}{E:VL→SD→Prop}{s:SD}{S I:AD}{o:Obj}{ev:Array (Int×VL)}{ep i:Nat}{t:SetTable}
def Pw{Q:Bool→SD→Prop}(h:Q (w.params.followText "set-order") s):wpAny (model prog w) A setsByText Q E s:=by
 unfold setsByText;exact Wb (wpAny_askSetting (aA h))
def Eu.X8(W:Eu w o ev ep t):(!t.plain&&decide (ev.size > 1))=false:=by rw [W.plain];rfl
def Eu.place(W:Eu w o ev ep t):t.place.size=ev.size:=by
 have:=W.fit;unfold SetTable.fits at this;simp only [Bool.and_eq_true,beq_iff_eq]at this;exact this.1
def SW{Q:Option (VL×Nat)→SD→Prop}(W:Eu w o ev ep t)(ho:s.heap.get? S=some o)(hi:i≤ev.size)(h:Q ((Fd w S ep ev)[i]?.map fun e=>(e.2,EG w t (i+1))) s) :
  wpAny (model prog w) A (setNext S (EG w t i) i ep) Q E s:=by
 unfold setNext;refine Wb (bG ho W.dat W.fit ?_);refine Wb (Pw ?_);cases hb:w.params.followText "set-order" with
 |true =>
  rw [if_pos rfl];have hne:¬(ep != ep)=true:=by simp
  rw [if_neg hne];unfold setWalk;refine Wb (Wb (bG ho W.dat W.fit ?_));refine Wb (Pw ?_);rw [if_pos hb];refine Wb (wpAny_askSetting (aA ?_));refine aA ?_;have e:Fd w S ep ev=pickOrder (w.params.setOrder S ep) ev:=by unfold Fd;rw [if_pos hb]
  rw [e]at h;have e2:EG w t i=EG w t (i+1):=by unfold EG;rw [if_pos hb,if_pos hb]
  rw [e2];exact h
 |false =>
  rw [if_neg aJ];refine wpAny_ite_split (fun hd=>?_) fun _=>?_
  ·have:(!t.plain&&decide (ev.size > 1))=true:=hd;rw [W.X8]at this;cases this
  ·refine Wb ?_;have hl:t.led=true:=by rw [W.led,hb];rfl
   have hn:¬(!t.led && !ev.isEmpty)=true:=by rw [hl];simp
   show wpAny _ _ (if(!t.led && !ev.isEmpty)=true then unsupported "set:maker-not-led" else pure ()) _ _ _;rw [if_neg hn];refine aA (aA ?_);have hw:=W.walk;unfold Ml at hw;have hw:=aL.mp hw i (az.mpr (by omega));have hw:SetTable.below t.place (Ho t i)=i:=by simpa using hw
   have e1:EG w t i=Ho t i:=by unfold EG;rw [hb];rfl
   have e2:EG w t (i+1)=Ho t (i+1):=by unfold EG;rw [hb];rfl
   have e3:Fd w S ep ev=ev:=by unfold Fd;rw [hb];rfl
   rw [e2,e3]at h;rw [e1,hw];by_cases hlt:i<ev.size
   ·have hp:i<t.place.size:=by rw [W.place];exact hlt
    rw [Array.getElem?_eq_getElem hlt]at h ⊢;rw [Array.getElem?_eq_getElem hp];have e4:Ho t (i+1)=t.place[i]+1:=by
     rw [Ho,Array.getD_eq_getD_getElem?,Array.getElem?_eq_getElem hp]
     rfl
    rw [e4]at h;exact h
   ·rw [Array.getElem?_eq_none (by omega)]at h ⊢;exact h
def Z6{Q:Option VL→SD→Prop}{z:Int}{v:VL}(W:Eu w o ev ep t)(ho:s.heap.get? S=some o)(hI:s.heap.get? I=some (Jp w S t ep ev.size i))(hx:(Fd w S ep ev)[i]? = some (z,v))
 (h:∀h',h'.get? I=some (Jp w S t ep ev.size (i+1))→Heap.SameBut I s.heap h'→Q (some v) { s with heap:=h' }):wpAny (model prog w) A (pyNext (.ref I)) Q E s:=by
 have hT:s.TypeIs (.ref I) "set_iterator" := ⟨_,hI,rfl⟩;have hlt:i<ev.size:=by
  have:=(Array.getElem?_eq_some_iff.mp hx).1;rw [Jr]at this;exact this
 unfold pyNext;refine Wb (wpAny_attempt (aj (name:=Str.ofString "__next__") hT EB (af EB hT Ky ?_ (Lp _))));unfold Builtin.«set_iterator.__next__»;refine Wb (wpAny_of_eq (a:=(Value.ref I,[])) rfl ?_);refine Wb (wpAny_fieldsOf hI rfl ?_);show wpAny _ _ (setEntries S>>=_) _ _ s;refine Wb (wpAny_setEntries_of ho W.dat W.fit ?_);have hne:¬((ev.size:Int) != (ev.size:Int))=true:=by simp
 dsimp only;rw [if_neg hne];refine Wb ?_;show wpAny _ _ (setNext S (EG w t i) i ep) _ _ _;refine SW W ho (by omega) ?_;rw [hx];show wpAny _ _ (setField (.ref I) 0 (rawInt ((EG w t (i+1):Nat):Int))>>=_) _ _ _;refine Wb (wpAny_setField hI rfl (by simp) ?_);have g1:(s.heap.update I (Obj.mapFields (·.setIfInBounds 0 (rawInt ((EG w t (i+1):Nat):Int))))).get? I=some { cls:=.type "set_iterator",data:=.fields #[rawInt ((EG w t (i+1):Nat):Int),rawInt (i:Int),.ref S,rawInt (ev.size:Int),rawInt (ep:Int)] } :=
  Heap.get?_update_self _ hI rfl
 refine Wb (wpAny_setField g1 rfl (by simp) ?_);refine aA ⟨_,rfl,wpAny_pure (h _ ?_ ((aY ..).trans (aY ..)))⟩;exact Heap.get?_update_self _ g1 rfl
def Yn{Q:Option VL→SD→Prop}(hh:A.handled=none)(W:Eu w o ev ep t)(ho:s.heap.get? S=some o)(hI:s.heap.get? I=some (Jp w S t ep ev.size ev.size))
 (h:∀h',Heap.ExtBut I s.heap h'→Q none { s with heap:=h' }):wpAny (model prog w) A (pyNext (.ref I)) Q E s:=by
 have hT:s.TypeIs (.ref I) "set_iterator" := ⟨_,hI,rfl⟩;unfold pyNext;refine Wb (wpAny_attempt (aj (name:=Str.ofString "__next__") hT EB (af EB hT Ky ?_ (Lp _))));unfold Builtin.«set_iterator.__next__»;refine Wb (wpAny_of_eq (a:=(Value.ref I,[])) rfl ?_);refine Wb (wpAny_fieldsOf hI rfl ?_);show wpAny _ _ (setEntries S>>=_) _ _ s;refine Wb (wpAny_setEntries_of ho W.dat W.fit ?_);have hne:¬((ev.size:Int) != (ev.size:Int))=true:=by simp
 dsimp only;rw [if_neg hne];refine Wb ?_;show wpAny _ _ (setNext S (EG w t ev.size) ev.size ep) _ _ _;refine SW W ho (aI _) ?_;rw [Array.getElem?_eq_none (by rw [Jr];exact aI _)];show wpAny _ _ (setField (.ref I) 2 Value.none>>=_) _ _ _;refine Wb (wpAny_setField hI rfl (by simp) ?_);refine Wb ?_;simp only [newExc,newTuple];refine Wb (ay ?_ (by size_fits));refine Wb (m:=firstArgMember _ _) (wpAny_of_eq (a:=Value.none) (by first|rfl|(simp only [firstArgMember];rfl)) (ay ?_ (by size_fits)));simp only [raiseNew];refine Wb (wpAny_handled ?_);have hh1:A.in1.handled=none:=hh;rw [hh1];refine Wb (aA (wpAny_throw ?_));refine Wb (wpAny_isInstance (b:=true) (T := "StopIteration") ⟨_,Heap.get?_push_size _ rfl,rfl⟩ isSubtype_stop ?_);exact aA (h _ (((aY ..).extBut.push _).push _))
def ZZ{Q:VL→SD→Prop}(hI:s.heap.get? I=some (Jp w S t ep ev.size i))(h:Q (.ref I) s):wpAny (model prog w) A (pyIter (.ref I)) Q E s:=by
 have hT:s.TypeIs (.ref I) "set_iterator" := ⟨_,hI,rfl⟩;refine wpAny_pyIter_slot hT Lv (af Lv hT Qf ?_ (RU _));show wpAny _ _ (ret (.ref I)) _ _ s;exact aA ⟨_,rfl, "set_iterator",_,hT,EB.lookup,h⟩
def W3(hh:A.handled=none)(hne:S≠I)(W:Eu w o ev ep t) :
  Walks prog w A I [I,S] [I] ev.size (fun i v=>∃z,(Fd w S ep ev)[i]? = some (z,v)) (fun i h=>h.get? I=some (Jp w S t ep ev.size i)∧h.get? S=some o) where
 sub:=fun b hb=>by simp at hb;simp [hb]
 frame:=fun _ _ _ x k=>⟨k I (by simp) _ x.1,k S (by simp) _ x.2⟩
 item:=fun i s Q E hi x hQ=>by
  have hi':i<(Fd w S ep ev).size:=by rw [Jr];exact hi
  obtain⟨z,v,hx⟩:∃z v,(Fd w S ep ev)[i]? = some (z,v):=⟨(Fd w S ep ev)[i].1,(Fd w S ep ev)[i].2,by rw [Array.getElem?_eq_getElem hi']⟩;refine Z6 W x.2 x.1 hx fun h' g sb=>hQ v h' s.toks ⟨z,hx⟩ ⟨g,(sb.2 S hne).trans x.2⟩ fun b u hb e=>?_;rw [sb.2 b fun q=>hb (by simp [q])];exact e
 done:=fun s Q E x hQ=>Yn hh W x.2 x.1 fun h' eb=>hQ h' s.toks fun b u hb e=>eb b u (fun q=>hb (by simp [q])) e
 self:=fun _ _ _ _ x hQ=>ZZ x.1 hQ
def Yy{Q:Bool→SD→Prop}(hT:s.TypeIs (.ref S) "set")(h:Q false s):wpAny (model prog w) A (Builtin.List.listLengthHint (.ref S)) Q E s:=by
 unfold Builtin.List.listLengthHint;refine Wb (wpAny_specialOf hT PySem.F.slot_set_len.lookup ?_);generalize hid:("set.__len__" : String)=id0
 wp_delta
 rw [show splitId id0=some ("set", "__len__") from by subst hid;decide +kernel];subst hid;refine Wb (wpAny_isInstance (b:=true) (T := "set") hT (by rw [isSubtype_type];kernel_rfl) ?_);refine wpAny_ite_split (fun z=>absurd z (by decide)) fun _=>?_;refine wpAny_ite_split (fun _=>?_) fun z=>absurd (by decide +kernel) z;exact Wb (wpAny_typeOf hT (aA h))
def bf{Q:VL→SD→Prop}(W:Eu w o ev ep t)(ho:s.heap.get? S=some o)(h:Q (.ref s.heap.objs.size) { s with heap:=s.heap.push (Jp w S t ep ev.size 0) }) :
  wpAny (model prog w) A (pyIter (.ref S)) Q E s:=by
 have hT:s.TypeIs (.ref S) "set" := ⟨o,ho,W.ex.1⟩;refine wpAny_pyIter_slot hT PySem.F.slot_set_iter (af PySem.F.slot_set_iter hT QF ?_ (PySem.F.args_set_iter_1 _));unfold Builtin.«frozenset.__iter__»;refine Wb (wpAny_of_eq (a:=S) rfl ?_);unfold Builtin.Frozenset.sizeOf;refine Wb (Wb (wpAny_setEntries_of ho W.dat W.fit (aA ?_)));unfold setDrawn;refine Wb (Wb (bG ho W.dat W.fit (Wb (Pw (aA ?_)))));have hd:(!w.params.followText "set-order" && (!t.plain&&decide (ev.size > 1)))=false:=by rw [W.X8];simp
 refine wpAny_ite_split (fun z=>?_) fun _=>?_
 ·have:(!w.params.followText "set-order" && (!t.plain&&decide (ev.size > 1)))=true:=z;rw [hd]at this;cases this
 refine Wb (aA ?_);unfold setEpoch;refine Wb (Wb (bG ho W.dat W.fit (aA ?_)));have e0:EG w t 0=0:=by unfold EG Ho;split<;>rfl
 refine Wb (ay (aA ⟨_,rfl, "set_iterator",_,⟨_,Heap.get?_push_size _ rfl,rfl⟩,EB.lookup,?_⟩));unfold Jp at h;rw [e0]at h;exact h
def fE(W:Eu w o ev ep t):PySem.W.KdlSrc prog w "set" S S ev.size (fun i v=>∃z,(Fd w S ep ev)[i]? = some (z,v)) (fun h=>h.get? S=some o) where
 type:=fun _ ho=>⟨o,ho,W.ex.1⟩
 there:=fun _ ho=>⟨aF ho,Heap.lt_size ho⟩
 keep:=fun _ _ ho k=>k S (.inl rfl) _ ho
 notList:=by decide
 notTuple:=by decide
 hint:=fun _ _ s _ ho h=>Yy ⟨o,ho,W.ex.1⟩ h
 iter:=fun A s hh ho=>⟨Jp w S t ep ev.size 0,_,(fun E Q h=>bf W ho h),W3 hh (aG (aF ho)) W,⟨aN _ rfl,Heap.get?_push_of_some _ ho⟩⟩
end
end TH
namespace TH
open PySem PyProof.Rows PySem.SeqAt
def Paired.perm{α β:Type}{F:α→β→Prop}{l l':List α}(p:l'.Perm l):∀ {m:List β},Paired F l m→∃m',m'.Perm m∧Paired F l' m':=by
 induction p with
 |nil=>intro m r;exact⟨m,.refl _,r⟩
 |cons x _ ih =>
  intro m r;cases r with
  |cons h r' =>
   obtain⟨m',p',q⟩:=ih r';exact⟨_::m',p'.cons _,.cons h q⟩
 |swap x y l =>
  intro m r;cases r with
  |cons h r' =>
   cases r' with
   |cons h' r''=>exact⟨_::_::_,List.Perm.swap ..,.cons h' (.cons h r'')⟩
 |trans _ _ ih1 ih2 =>
  intro m r;obtain⟨m1,p1,q1⟩:=ih2 r;obtain⟨m2,p2,q2⟩:=ih1 q1;exact⟨m2,p2.trans p1,q2⟩
variable{G:VL→Tr→Prop}
def VT{h:Heap}:∀ {l:List (Int×VL)} {m:List (Int×Tr)},Paired (N4 G h) l m→Vs h (Tr.of (m.map (·.2))) (l.map (·.2))
 |_,_,.nil=>by rw [List.map_nil,List.map_nil,Tr.of,Vs]
 |_,_,.cons (a:=(z,v)) ⟨_,_,_,a,its,e,h1,h2⟩ r=>by
  have e:v=.ref a:=e;subst e;rw [List.map_cons,List.map_cons,Tr.of,Vs];exact⟨a,its,_,rfl,h1,h2,VT r⟩
def Q6{h:Heap}:∀ {l:List (Int×VL)} {m:List (Int×Tr)},Paired (N4 G h) l m→∀c∈m.map (·.2),c.deep<8
 |_,_,.nil,c,hc=>by cases hc
 |_,_,.cons ⟨_,hd,_⟩ r,c,hc=>by
  rw [List.map_cons]at hc;rcases aK.mp hc with rfl|hc
  ·exact hd
  ·exact Q6 r c hc
def Xb{h:Heap}:∀ {l:List (Int×VL)} {m:List (Int×Tr)},Paired (N4 G h) l m→Paired G (l.map (·.2)) (m.map (·.2))
 |_,_,.nil=>.nil
 |_,_,.cons ⟨_,_,hg,_⟩ r=>.cons hg (Xb r)
def Paired.cm{α β:Type}{F:α→β→Prop}{l:List α}{m:List β}(r:Paired F l m)(d:α)(e:β):∀(ix:List Nat),(∀i∈ix,i<l.length)→Paired F (ix.map fun i=>l.getD i d) (ix.map fun i=>m.getD i e)
 |[],_=>.nil
 |i::ix,h=>by
  have hl:=r.length;have hi:=h i ai;have hm:m[i]? = some m[i]:=aR (by omega);obtain⟨x,e1,e2⟩:=Paired.get r hm;rw [List.map_cons,List.map_cons];refine .cons ?_ (Paired.cm r d e ix fun j hj=>h j (aU _ hj));rw [List.getD_eq_getElem?_getD,List.getD_eq_getElem?_getD,e1,hm];exact e2
def ZD{l m:List Tr}(p:l.Perm m):Tr.B1 l=Tr.B1 m:=Tr.KZ (Tr.JX l) (Tr.JX m) ((Tr.Ja l).trans (p.trans (Tr.Ja m).symm))
section
variable{prog:Program}{w:World}{A:Around}{E:VL→SD→Prop}{s:SD}
def gather{T:String}{r d:AD}{n:Nat}{P:Nat→VL→Prop}{OK:Heap→Prop}{R:List VL→SD→Prop}(K:PySem.W.KdlSrc prog w T r d n P OK)(hA:A.handled=none)(Av:OK s.heap)(hn:n≤sizeLine)
 (k:∀(h1:Heap) (tk:Nat) (acc:Array VL),s.heap.objs.size<h1.objs.size→(∀b u,s.heap.get? b=some u→h1.get? b=some u)→ItemsOf P acc n→R acc.toList { s with heap:=h1,toks:=tk }) :
  wpAny (model prog w) A (collect (.ref r)) R E s:=by
 obtain⟨lr,ld⟩:=K.there _ Av;unfold collect;refine Wb (wpAny_runValue (codeAny_builtin entry_proto_collect' ?_));rw [Around.under_plainId PySem.F.plain_proto_collect _];show wpAny _ A.in1 (newList []>>=fun v=>again (.builtin "list.__iadd__" ⟨[v,.ref r],[]⟩)) _ _ s;refine Wb (ay (aA ⟨plainId_quiet PySem.F.plain_list_iadd _,codeAny_builtin entry_list_iadd' ?_⟩));rw [Around.under_plainId PySem.F.plain_list_iadd _];have g0:(s.heap.push { cls:=.type "list",data:=.seq ([]:List VL).toArray }).get? s.heap.objs.size=some { cls:=.type "list",data:=.seq #[] }:=aN _ rfl;have main:=PySem.W.kdl_extend (A:=A) (s:={ s with heap:=s.heap.push { cls:=.type "list",data:=.seq ([]:List VL).toArray } }) K hA
  (K.keep _ _ Av fun _ _ _ e=>aD _ e) s.heap.objs.size (ah lr) (ah ld) (.ref s.heap.objs.size) 0 g0
  (R:=fun q s1=>∃h1 tk acc c,q=.ok (.ret (.ref s.heap.objs.size))∧s1={ s with heap:=h1,toks:=tk }∧(∀b u,s.heap.get? b=some u→h1.get? b=some u)∧h1.get? s.heap.objs.size=some { cls:=.type "list",dict:=none,data:=.seq acc c,slots:=#[] }∧ItemsOf P acc n)
  (fun h1 tk acc c k1 g1 ha=>⟨h1,tk,acc,c,rfl,rfl,fun b u e=>k1 b u (aG (aF e)) (aD _ e),g1,ha⟩) hn
 refine ag main (fun fin s1 x=>?_) fun e s1 x=>?_
 ·cases fin with
  |done f =>
   obtain⟨h1,tk,acc,c,e,rfl,k1,g1,ha⟩:=x;cases e;show wpAny _ A (load s.heap.objs.size>>=_) _ _ _;exact Wb (wpAny_load g1 (aA (k h1 tk acc (aF g1) k1 ha)))
  |again c1 =>
   refine⟨x.1,codeAny_mono x.2 fun q s2 y=>?_⟩;obtain⟨h1,tk,acc,c,rfl,rfl,k1,g1,ha⟩:=y;show wpAny _ A (load s.heap.objs.size>>=_) _ _ _;exact Wb (wpAny_load g1 (aA (k h1 tk acc (aF g1) k1 ha)))
 ·obtain⟨_,_,_,_,z,_⟩:=x;cases z
end
section
variable{prog:Program}{w:World}{A:Around}{E:VL→SD→Prop}{s:SD}{S:AD}{o:Obj}{ev:Array (Int×VL)}{et:ES}{ep:Nat}{t:SetTable}
def Wa{Q:VL→SD→Prop}(hA:A.handled=none)(W:Eu w o ev ep t)(ho:s.heap.get? S=some o)(R:Dg G s.heap ev et)(h64:et.size<64)(hu:A.units+20<cLine)
 (h:∀(h':Heap) (D tk e1:Nat) (us:List VL),s.heap.objs.size≤D→(∀b u,s.heap.get? b=some u→h'.get? b=some u)→h'.get? D=some (seqObj "list" us.toArray e1)→Paired G us (Tr.B1 (et.toList.map (·.2))).reverse→us.length<64 →
   Q (.ref D) { s with heap:=h',toks:=tk }):wpAny (model prog w) A (call (.builtin "sorted") [.ref S]) Q E s:=by
 have hsz:=R.size;refine Calls.call_function_entry kind_sorted plain_sorted entry_sorted (args_sorted1 _) ?_;unfold Builtin.«sorted»;refine Wb (m:=checkCount "sorted" 1 1 _) (aA ?_);refine Wb (gather (A:=A.in1) (fE W) hA ho (HD (by omega)) fun h1 tk acc z1 k1 hacc=>?_);have hal:acc.toList=(Fd w S ep ev).toList.map (·.2):=by
  apply bW;intro j;rw [List.getElem?_map];by_cases hj:j<acc.size
  ·have e1:acc[j]? = some acc[j]:=Array.getElem?_eq_getElem hj;obtain⟨z,e2⟩:=hacc.2 j _ e1;rw [Array.getElem?_toList,e1,Array.getElem?_toList,e2]
   rfl
  ·have hj2:¬j<(Fd w S ep ev).size:=by rw [Jr,←hacc.1];exact hj
   rw [List.getElem?_eq_none (by simpa using hj),List.getElem?_eq_none (by simpa using hj2)]
   rfl
 obtain⟨m,pm,rm⟩:=Paired.perm (Qp w S ep ev) R;have hvs:=VT rm;rw [←hal]at hvs;have hd:(Tr.of (m.map (·.2))).deep≤8:=(Tr.M9 8 _).mpr fun c hc=>by have:=Q6 rm c hc;omega
 have hlen:acc.toList.length<64:=by rw [Array.length_toList,hacc.1,hsz];exact h64
 refine Wb (bX ?_ (HD (by omega)));have g1:(h1.push (seqObj "list" acc.toList.toArray 0)).get? h1.objs.size=some (seqObj "list" acc.toList.toArray 0):=aN _ rfl;have k2:∀b u,s.heap.get? b=some u→(h1.push (seqObj "list" acc.toList.toArray 0)).get? b=some u:=fun b u e=>aD _ (k1 b u e);refine Wb (aP (af slot_list_sort ⟨_,g1,rfl⟩ entry_list_sort (IM (s:={ s with heap:=h1.push (seqObj "list" acc.toList.toArray 0),toks:=tk }) g1 (hvs.keeps fun b u e _=>k2 b u e) hlen
  (by rw [show A.in1.in1.units=A.units+2 from rfl];omega) fun ix a1 a2 a3=>⟨_,rfl,?_⟩) (args_list_sort _)))
 obtain⟨e1,he1⟩:=sortedHeap_at (vs:=acc.toList) (out:=(ix.map fun i=>acc.toList.getD i Value.none).toArray) g1;refine aA ⟨_,rfl,h _ h1.objs.size tk e1 (ix.map fun i=>acc.toList.getD i Value.none) ?_ (fun b u e=>?_) he1 ?_ (by rw [List.length_map,a1];exact hlen)⟩
 ·exact bL z1
 ·have lb:b<h1.objs.size:=aF (k1 b u e);rw [sortedHeap_old (aG lb) (by rw [Heap.size_push];exact ar lb)];exact k2 b u e
 ·have hg:=Xb rm;rw [←hal]at hg;have:=Paired.cm hg Value.none Tr.nil ix a2;rw [Tr.WD]at a3;rw [a3,ZD (pm.map (·.2))]at this;exact this
end
end TH
namespace TH
open PySem PyProof.Rows PySem.SeqAt
section
variable{prog:Program}{w:World}{E:VL→SD→Prop}
def Si(prog:Program)(w:World)(E:VL→SD→Prop)(t:Tr):Prop:=∀(us:List VL) (A:Around) (s:SD) (b:Array Int) (Q:Array Int→SD→Prop),Vs s.heap t us→A.units+t.deep≤cLine →
 (∀b',b'.toList=b.toList++IZ t→Q b' { s with toks:=s.toks+(t.AL-1) })→wpAny (model prog w) A (forIn us b fun x r=>do let h ←pyHash x;pure PUnit.unit;pure (ForInStep.yield (r.push h))) Q E s
def Mn{t:Tr}(row:Si prog w E t){a:AD}{its:List VL}{A:Around}{s:SD}{Q:Int→SD→Prop}(h1:s.heap.IsTuple a its.toArray)(h2:Vs s.heap t its)(hu:A.units+t.deep<cLine)
 (h:Q (BA t) { s with toks:=s.toks+t.AL }):wpAny (model prog w) A (pyHash (.ref a)) Q E s:=by
 have hT:=IsTuple.ty rfl h1;obtain⟨o,ho,hc,n,hd⟩:=id h1;refine PySem.W.pyHash_slot (T := "tuple") hT F.slot_tuple_hash F.entry_tuple_hash (F.args_tuple_hash_1 _) (beq_builtin_none _) (.inr (by omega)) ?_;show wpAny _ _ (Builtin.Tuple.tupleItemsOf (.ref a)>>=_) _ _ s;refine Wb (wpAny_tupleItemsOf ho hd ?_);refine Wb ?_;rw [←Array.forIn_toList];refine row its A.in1 s #[] _ h2 (by rw [Around.in1_units];omega) fun b hb=>?_;show wpAny _ _ (retInt (Builtin.Tuple.tupleHashOf b.toList)) _ _ _;rw [hb];have hk:s.toks+(t.AL-1)+1=s.toks+t.AL:=by have:=Tr.Hs t;omega
 refine Wb (wpAny_mkInt (aA ⟨_,_,rfl,?_⟩));rw [hk];exact h
def Mb:∀t:Tr,Si prog w E t
 |.nil=>fun us A s b Q e _ h=>by rw [Vs]at e;subst e;exact aA (h b (by simp [IZ]))
 |.cons c r=>fun us A s b Q e hu h=>by
  rw [Vs]at e;obtain⟨a,its,rest,rfl,h1,h2,h3⟩:=e;have hd:(Tr.cons c r).deep=max (c.deep+1) r.deep:=rfl;have hk:(Tr.cons c r).AL=c.AL+r.AL:=rfl;have hr:=Tr.Hs r;rw [List.forIn_cons];refine Wb (Wb (Mn (Mb c) h1 h2 (by omega) ?_));refine Wb (aA (aA ?_));refine Mb r rest A _ _ Q h3 (by omega) fun b' hb=>?_;have hz:s.toks+c.AL+(r.AL-1)=s.toks+((Tr.cons c r).AL-1):=by omega
  have:=h b' (by simp [hb,IZ,BA]);rw [←hz]at this;exact this
def JU(prog:Program)(w:World):HeapKind prog w Tr where
 is:=fun h t a=>t.deep<8∧∃its,h.IsTuple a its.toArray∧Vs h t its
 hash:=BA
 draws:=Tr.AL
 room:=fun A=>A.units+8<cLine
 inj:=fun⟨_,i1,a1,a2⟩ ⟨_,i2,b1,b2⟩=>by
  have:=Ii a1 b1;have e:i1=i2:=by simpa using this
  subst e;exact Vs.inj a2 b2
 keeps:=fun {h h' k a d o es ep} ⟨hd,its,h1,h2⟩ ho hdt sb=>by
  have kt:∀b u,h.get? b=some u→u.cls=.type "tuple" →(∃x n,u.data=.seq x n)→h'.get? b=some u:=fun b u e _ ⟨x,n,hx⟩=>by
   rw [sb.2 b fun z=>?_]
   ·exact e
   ·subst z;rw [ho]at e;cases e;rw [hdt]at hx;cases hx
  have kv:∀ {t:Tr} {us:List VL},Vs h t us→Vs h' t us:=fun {t}=>by
   induction t with
   |nil=>intro us e;rw [Vs]at e ⊢;exact e
   |cons b r ih1 ih2 =>
    intro us e;rw [Vs]at e ⊢;obtain⟨a,its,rest,e1,⟨u,hu,hc,n,hx⟩,e3,e4⟩:=e;exact⟨a,its,rest,e1,⟨u,kt _ _ hu hc ⟨_,n,hx⟩,hc,n,hx⟩,ih1 e3,ih2 e4⟩
  obtain⟨u,hu,hc,n,hx⟩:=h1;exact⟨hd,its,⟨u,kt _ _ hu hc ⟨_,n,hx⟩,hc,n,hx⟩,kv h2⟩
 pyHash:=fun hr ⟨hd,its,h1,h2⟩ h=>Mn (Mb _) h1 h2 (by omega) h
 eqBool:=fun {A E s x y a b Q} hr ⟨hd,its,h1,h2⟩ ⟨_,its2,k1,k2⟩ h=>Mr h1 h2 k1 k2 (by omega) prog w E Q h
 quiet:=fun⟨hd,its,h1,h2⟩ h=>quiet 8 ⟨_,its,_,rfl,h1,h2,hd⟩ h
end
end TH
namespace TH
open PySem PyProof.Rows
def Az:Option Tr→Int
 |none=>4238894112
 |some t=>BA t
def Cs:Option Tr→Nat
 |none=>1
 |some t=>t.AL
def FZ(h:Heap):Option Tr→VL→Prop
 |none,v=>v=.none
 |some t,v=>∃a,v=.ref a∧t.deep<8∧∃its,h.IsTuple a its.toArray∧Vs h t its
abbrev KE:=Option Tr×VL×VL
def DY(x:KE):DictEntry:=⟨Az x.1,x.2.1,x.2.2⟩
def O3{p:Nat→Bool}{j:Nat}:∀ {n:Nat},j<n→p j=true→(∀i,i<n→p i=true→i=j)→(List.range n).filter p=[j]
 |0,h,_,_=>absurd h (aq _)
 |n+1,h,hp,hu=>by
  rw [List.range_succ,List.filter_append];by_cases e:j=n
  ·subst e;have:(List.range j).filter p=[]:=List.filter_eq_nil_iff.mpr fun i hi hpi=>by
    have:=az.mp hi;have:=hu i (by omega) hpi;omega
   rw [this];simp [hp]
  ·have hn:p n=false:=by
    cases q:p n with
    |false=>rfl
    |true=>exact absurd (hu n (by omega) q).symm e
   rw [O3 (show j<n by omega) hp fun i hi=>hu i (by omega)];simp [hn]
section
variable{prog:Program}{w:World}{A:Around}{E:VL→SD→Prop}{s:SD}{d:AD}{o:Obj}{es:Array DictEntry}{ep:Nat}{xs:List KE}{k:Option Tr}{kv:VL}
def Kg(he:es.toList=xs.map DY)(j:Nat):es[j]? = (xs[j]?).map DY:=by rw [←Array.getElem?_toList,he,List.getElem?_map]
def OA(he:es.toList=xs.map DY):es.size=xs.length:=by rw [←Array.length_toList,he,List.length_map]
def Qn(he:es.toList=xs.map DY)(hap:∀x∈xs,Az x.1=Az k→x.1=k)(hno:∀x∈xs,x.1≠k):placesWithHash es.size (fun i=>es[i]?.map (·.hash)) (Az k)=[]:=by
 unfold placesWithHash;refine List.filter_eq_nil_iff.mpr fun i hi hp=>?_;dsimp only at hp;rw [Kg he]at hp;cases q:xs[i]? with
 |none=>rw [q]at hp;simp at hp
 |some x =>
  rw [q]at hp;have hx:=aM q;have:Az x.1=Az k:=by simpa [DY]using hp
  exact hno x hx (hap x hx this)
def O5(he:es.toList=xs.map DY)(hap:∀x∈xs,Az x.1=Az k→x.1=k)(hn:(xs.map (·.1)).Nodup){j:Nat}{x:KE}(hj:xs[j]? = some x)(hx:x.1=k):placesWithHash es.size (fun i=>es[i]?.map (·.hash)) (Az k)=[j]:=by
 unfold placesWithHash;have hl:j<xs.length:=(aE.mp hj).1;refine O3 (by rw [OA he];exact hl) (by dsimp only;rw [Kg he,hj,←hx];simp [DY]) fun i hi hp=>?_;dsimp only at hp;rw [Kg he]at hp;cases q:xs[i]? with
 |none=>rw [q]at hp;simp at hp
 |some y =>
  rw [q]at hp;have hy:=hap y (aM q) (by simpa [DY]using hp);have h1:(xs.map (·.1))[i]? = some k:=by rw [List.getElem?_map,q];show some y.1=_;rw [hy]
  have h2:(xs.map (·.1))[j]? = some k:=by rw [List.getElem?_map,hj];show some x.1=_;rw [hx]
  exact(List.getElem?_inj (aE.mp h1).1 hn).mp (h1.trans h2.symm)
def dU{Q:Bool→SD→Prop}(h:Q true s):wpAny (model prog w) A (eqBool .none .none) Q E s:=by
 unfold eqBool;rw [if_pos (by rfl)];exact Wb (bJ (aA h))
def FZ.inj{h:Heap}{x y:Option Tr}{v:VL}(a:FZ h x v)(b:FZ h y v):x=y:=by
 cases x with
 |none =>
  cases y with
  |none=>rfl
  |some t =>
   obtain⟨_,e,_⟩:=b;rw [show v=.none from a]at e;cases e
 |some u =>
  cases y with
  |none =>
   obtain⟨_,e,_⟩:=a;rw [show v=.none from b]at e;cases e
  |some t =>
   obtain⟨a1,e1,k1⟩:=a;obtain⟨a2,e2,k2⟩:=b;rw [e1]at e2;cases e2;obtain⟨_,i1,b1,b2⟩:=k1;obtain⟨_,i2,c1,c2⟩:=k2;have:i1=i2:=by simpa using Ii b1 c1
   subst this;rw [Vs.inj b2 c2]
def SN{Q:Option Nat→SD→Prop}(hu:A.units+8<cLine)(hk:FZ s.heap k kv)(ho:s.heap.get? d=some o)(hd:o.data=.dict es ep)(he:es.toList=xs.map DY)(his:∀x∈xs,FZ s.heap x.1 x.2.1)(hn:(xs.map (·.1)).Nodup)(hap:∀x∈xs,Az x.1=Az k→x.1=k)
 (hno:(∀x∈xs,x.1≠k)→Q none s)(hyes:∀(j:Nat) (x:KE),xs[j]? = some x→x.1=k→Q (some j) s):wpAny (model prog w) A (dictFind d kv (Az k)) Q E s:=by
 unfold dictFind
 try with_reducible refine aP ?_
 refine Wb (wpAny_dictEntries ho hd ?_);cases k with
 |none =>
  have hk:kv=.none:=hk;subst hk;dsimp only;by_cases hx:∃x∈xs,x.1=none
  ·obtain⟨x,hm,hx⟩:=hx;obtain⟨j,hj⟩:=aZ.mp hm;have hp:=O5 (k:=none) he hap hn hj hx;have hej:es[j]? = some ⟨Az none,.none,x.2.2⟩:=by
    rw [Kg he,hj];have h1:=his x hm;rw [hx]at h1;show some (DY x)=_;unfold DY;rw [hx,show x.2.1=Value.none from h1]
   rw [hp];rw [if_pos (by simp [hej,carriedByValue])];unfold dictWalkPlain;simp only [List.forIn_cons,List.forIn_nil,hej];refine Wb (Wb ?_);rw [if_pos (by simp)];refine Wb (wpAny_dictEpoch ho hd (Wb (dU (Wb (wpAny_dictEpoch ho hd ?_)))));rw [if_neg (by simp),if_pos rfl];exact Wb (bJ (aA (aA (aA (hyes j x hj hx)))))
  ·have hp:=Qn (k:=none) he hap fun x hm z=>hx ⟨x,hm,z⟩;rw [hp,if_pos (by simp [carriedByValue])];unfold dictWalkPlain;simp only [List.forIn_nil];exact Wb (aA (aA (hno fun x hm z=>hx ⟨x,hm,z⟩)))
 |some t =>
  obtain⟨a,rfl,hta⟩:=hk;dsimp only;have hany:¬(es.any fun e=>e.key==Value.ref a&&e.hash != Az (some t))=true:=by
   intro z;rw [←Array.any_toList,he,List.any_eq_true]at z;obtain⟨e,hm,z⟩:=z;obtain⟨x,hx,rfl⟩:=aQ.mp hm;rw [Bool.and_eq_true]at z;have h1:x.2.1=.ref a:=by simpa [DY]using z.1
   have h2:=his x hx;rw [h1]at h2;have h3:=h2.inj (show FZ s.heap (some t) (.ref a) from⟨a,rfl,hta⟩);have h4:=z.2;rw [DY,h3]at h4;simp at h4
  by_cases hx:∃x∈xs,x.1=some t
  ·obtain⟨x,hm,hx⟩:=hx;obtain⟨j,hj⟩:=aZ.mp hm;have hp:=O5 (k:=some t) he hap hn hj hx;have h1:=his x hm;rw [hx]at h1;obtain⟨b,hb,htb⟩:=h1;have hej:es[j]? = some ⟨Az (some t),.ref b,x.2.2⟩:=by
    rw [Kg he,hj];show some (DY x)=_;unfold DY;rw [hx,hb]
   have hst:([j].filterMap fun i=>es[i]?.map (·.key))=[.ref b]:=by simp [hej]
   rw [hp,hst,if_neg (by simp [carriedByValue]),if_neg hany];by_cases hone:(([Value.ref b]:List VL)==[Value.ref a])=true<;>(first|rw [if_pos hone]|rw [if_neg hone])<;>(first|refine Wb (aA ?_)|refine Wb (wpAny_tableMayTell_quiet (knd:=JU prog w) hta (fun v hv=>⟨t,b,List.mem_singleton.mp hv,htb⟩) ?_))<;>(
    rw [if_neg (by simp)];simp only [List.forIn_cons,List.forIn_nil,hej];refine Wb (Wb ?_);rw [if_pos (by simp)];refine Wb (wpAny_dictEpoch ho hd (Wb ((JU prog w).eqBool (x:=t) (y:=t) hu htb hta (Wb (wpAny_dictEpoch ho hd ?_)))));rw [if_neg (by simp),if_pos (by simp),if_neg (by simp)];refine Wb (bJ ?_);rw [if_pos (by simp)];exact aA (aA (aA (hyes j x hj hx))))
  ·have hp:=Qn (k:=some t) he hap fun x hm z=>hx ⟨x,hm,z⟩;rw [hp,if_neg (by simp [carriedByValue]),if_neg hany];rw [if_neg (by simp)];refine Wb (wpAny_tableMayTell_quiet (knd:=JU prog w) hta (fun v hv=>by cases hv) ?_);rw [if_neg (by simp)];simp only [List.forIn_nil];exact Wb (aA (aA (hno fun x hm z=>hx ⟨x,hm,z⟩)))
def Sr{Q:Int→SD→Prop}(hu:A.units+8<cLine)(hk:FZ s.heap k kv)(h:Q (Az k) { s with toks:=s.toks+Cs k }):wpAny (model prog w) A (pyHash kv) Q E s:=by
 cases k with
 |some t =>
  obtain⟨a,rfl,hta⟩:=hk;exact(JU prog w).pyHash hu hta h
 |none =>
  have hk:kv=.none:=hk;subst hk;have ht:s.TypeIs .none "NoneType" := rfl;unfold pyHash pyHashByItsType;have hv:[Value.none].any Value.onHeap=false:=rfl;refine Wb ?_;rw [cRoomFor,if_neg (by rw [hv];exact aJ)];refine aA ?_;refine Wb (wpAny_specialOf ht F.slot_NoneType_hash.lookup ?_);show wpAny _ _ (if(some (Value.builtin "NoneType.__hash__")==some Value.none)=true then _ else _) Q E s;rw [if_neg (by rw [beq_builtin_none];exact aJ)];refine Wb (wpAny_specialOf ht F.slot_NoneType_hash.lookup ?_);show wpAny _ _ (callSpecialIfBoundUnlessNone? .none "__hash__" _>>=_) Q E s;refine Wb (wpAny_callSpecialIfBoundUnlessNone?_slot ht F.slot_NoneType_hash
   (af F.slot_NoneType_hash ht F.entry_NoneType_hash
    (show wpAny _ _ (do ret (←mkInt 4238894112)) _ _ s from wpAny_ret_mkInt ?_) (F.args_NoneType_hash_1 _)))
  show wpAny _ _ (if(decide (-(2:Int)^63≤4238894112)&&decide ((4238894112:Int)<2^63))=true then _ else _) Q E _;rw [if_pos (by decide)];exact aA h
def IV(xs:List KE)(k:Option Tr):Option KE:=xs.find? fun x=>decide (x.1=k)
def LL(hn:(xs.map (·.1)).Nodup){j:Nat}{x:KE}(hj:xs[j]? = some x)(hx:x.1=k):IV xs k=some x:=by
 unfold IV;cases q:xs.find? (fun x=>decide (x.1=k)) with
 |none=>exact absurd (bH hx) (List.find?_eq_none.mp q x (aM hj))
 |some y =>
  have h1:y.1=k:=by simpa using List.find?_some q
  obtain⟨i,hi⟩:=aZ.mp (List.mem_of_find?_eq_some q);have e1:(xs.map (·.1))[i]? = some k:=by rw [List.getElem?_map,hi];show some y.1=_;rw [h1]
  have e2:(xs.map (·.1))[j]? = some k:=by rw [List.getElem?_map,hj];show some x.1=_;rw [hx]
  have:=(List.getElem?_inj (aE.mp e1).1 hn).mp (e1.trans e2.symm);subst this;rw [hi]at hj;exact hj
def Ik(h:∀x∈xs,x.1≠k):IV xs k=none:=List.find?_eq_none.mpr fun x hx=>by simpa using h x hx
structure EH(h:Heap)(d:Addr)(xs:List KE):Prop where
 ob:∃o es ep,h.get? d=some o∧o.ExactDict∧o.data=.dict es ep∧es.toList=xs.map DY
 ks:∀x∈xs,FZ h x.1 x.2.1
 nd:(xs.map (·.1)).Nodup
def EH.ty(hm:EH s.heap d xs):s.TypeIs (.ref d) "dict" := let⟨o,_,_,ho,hc,_⟩:=hm.ob;⟨o,ho,hc.1⟩
def lP{Q:Option VL→SD→Prop}(hu:A.units+8<cLine)(hk:FZ s.heap k kv)(hm:EH s.heap d xs)(hap:∀x∈xs,Az x.1=Az k→x.1=k)(h:Q ((IV xs k).map (·.2.2)) { s with toks:=s.toks+Cs k }):wpAny (model prog w) A (dictGet d kv) Q E s:=by
 obtain⟨o,es,ep,ho,_,hd,he⟩:=hm.ob;unfold dictGet
 try with_reducible refine aP ?_
 refine Wb (Sr hu hk (Wb (SN (s:={ s with toks:=s.toks+Cs k }) hu hk ho hd he hm.ks hm.nd hap (fun hno=>?_) fun j x hj hx=>?_)))
 ·rw [Ik hno]at h;exact aA h
 ·rw [LL hm.nd hj hx]at h;refine Wb (wpAny_dictEntries (s:={ s with toks:=s.toks+Cs k }) ho hd ?_);rw [Kg he j,hj];exact aA h
def fe{x:KE}{Q:VL→SD→Prop}(hu:A.in1.units+8<cLine)(hk:FZ s.heap k kv)(hm:EH s.heap d xs)(hap:∀x∈xs,Az x.1=Az k→x.1=k)(hx:IV xs k=some x)(h:Q x.2.2 { s with toks:=s.toks+Cs k }):wpAny (model prog w) A (getItem (.ref d) kv) Q E s:=by
 unfold getItem
 try with_reducible refine aP ?_
 refine Wb (wpAny_sequenceKey hm.ty (by decide) ?_);refine Wb (aj (name:=Str.ofString "__getitem__") hm.ty slot_dict_getitem (af slot_dict_getitem hm.ty entry_dict_getitem ?_ (args_dict_getitem _ _)));show wpAny _ _ (dictGet d kv>>=_) _ _ s;refine Wb (lP hu hk hm hap ?_);rw [hx];exact aA ⟨x.2.2,rfl,wpAny_pure h⟩
def putN(k:Option Tr)(v:VL)(x:KE):KE:=if x.1=k then(x.1,x.2.1,v) else x
def C0(xs:List KE)(k:Option Tr)(kv v:VL):List KE:=if(IV xs k).isSome then xs.map (putN k v) else xs++[(k,kv,v)]
def N8(v:VL):∀xs:List KE,(xs.map (putN k v)).map (·.1)=xs.map (·.1)
 |[]=>rfl
 |x::xs=>by
  rw [List.map_cons,List.map_cons,List.map_cons,N8 v xs]
  congr 1
  unfold putN;split<;>rfl
def La{v:VL}:∀ {xs:List KE} {j:Nat} {x:KE},(xs.map (·.1)).Nodup→xs[j]? = some x→x.1=k→(xs.map DY).modify j (fun e=>{ e with val:=v })=(xs.map (putN k v)).map DY
 |[],_,_,_,h,_=>by simp at h
 |y::ys,0,x,hn,h,hx=>by
  have:y=x:=by simpa using h
  subst this;rw [List.map_cons,List.nodup_cons]at hn;rw [List.map_cons,List.map_cons,List.map_cons];have hno:ys.map (putN k v)=ys:=by
   refine(aT fun z hz=>?_).trans (List.map_id _);unfold putN;rw [if_neg fun e=>hn.1 (by rw [hx,←e];exact ax hz)]
   rfl
  rw [hno];show { DY y with val:=v }::ys.map DY=_
  congr 1
  unfold putN;rw [if_pos hx]
  rfl
 |y::ys,j+1,x,hn,h,hx=>by
  have h':ys[j]? = some x:=by simpa using h
  rw [List.map_cons,List.nodup_cons]at hn;rw [List.map_cons,List.map_cons,List.map_cons];have hy:putN k v y=y:=by
   unfold putN;rw [if_neg fun e=>hn.1 (by rw [e,←hx];exact ax (aM h'))]
  rw [hy];show DY y::(ys.map DY).modify j _=_;rw [La hn.2 h' hx]
def FZ.keep{h h':Heap}{k:Option Tr}{v:VL}{o:Obj}{es ep}(a:FZ h k v)(prog:Program)(w:World)(ho:h.get? d=some o)(hd:o.data=.dict es ep)(sb:Heap.SameBut d h h'):FZ h' k v:=by
 cases k with
 |none=>exact a
 |some t =>
  obtain⟨a1,e1,k1⟩:=a;exact⟨a1,e1,(JU prog w).keeps k1 ho hd sb⟩
def kM{v:VL}{Q:Unit→SD→Prop}(hu:A.in1.units+8<cLine)(hk:FZ s.heap k kv)(hm:EH s.heap d xs)(hap:∀x∈xs,Az x.1=Az k→x.1=k)(hz:xs.length≤sizeLine)
 (hQ:∀h',EH h' d (C0 xs k kv v)→Heap.SameBut d s.heap h'→Q () { s with heap:=h',toks:=s.toks+Cs k }):wpAny (model prog w) A (setItem (.ref d) kv v) Q E s:=by
 unfold setItem
 try with_reducible refine aP ?_
 refine Wb (wpAny_sequenceKey hm.ty (by decide) ?_);refine Wb (aj (name:=Str.ofString "__setitem__") hm.ty slot_dict_setitem (af slot_dict_setitem hm.ty entry_dict_setitem ?_ (args_dict_setitem _ _ _)));show wpAny _ _ (Builtin.Dict.notOrdered "__setitem__" ⟨[.ref d,kv,v],[]⟩>>=_) _ _ s;refine Wb (wpAny_notOrdered_dict hm.ty ?_);show wpAny _ _ (dictSet d kv v>>=_) _ _ s;refine Wb ?_;have fin:∀h',EH h' d (C0 xs k kv v)→Heap.SameBut d s.heap h'→wpAny (model prog w) A.in1 (ret .none) (fun fin s'=>∃v,fin=.done (.ret v)∧wpAny (model prog w) A (pure ()) Q E s') E { s with heap:=h',toks:=s.toks+Cs k }:=fun h' h1 h2=>aA ⟨.none,rfl,wpAny_pure (hQ h' h1 h2)⟩;obtain⟨o,es,ep,ho,hc,hd,he⟩:=hm.ob;unfold dictSet
 try with_reducible refine aP ?_
 refine Wb (Sr hu hk ?_);unfold dictSetHashed
 try with_reducible refine aP ?_
 refine Wb (SN (s:={ s with toks:=s.toks+Cs k }) hu hk ho hd he hm.ks hm.nd hap (fun hno=>?_) fun j x hj hx=>?_)
 ·have es':C0 xs k kv v=xs++[(k,kv,v)]:=by unfold C0;rw [Ik hno];rfl
  rw [es']at fin;refine Wb (bJ (wpAny_updateDictKeys (hz:=by rw [OA he];exact hz) (s:={ s with toks:=s.toks+Cs k }) ho hd (fin _ ⟨⟨_,_,ep+1,Heap.get?_update_self _ ho (Obj.isFreed_of_dict (Obj.data_mapDictKeys hd _)),hc.mapDictKeys _,Obj.data_mapDictKeys hd _,?_⟩,fun y hy=>?_,?_⟩ (aY ..))))
  ·simp [he,DY]
  ·rcases ba.mp hy with h|h
   ·exact(hm.ks y h).keep prog w ho hd (aY ..)
   ·rw [List.mem_singleton.mp h];exact hk.keep prog w ho hd (aY ..)
  ·rw [List.map_append,List.nodup_append];refine⟨hm.nd,by simp,fun a ha b hb=>?_⟩;have:b=k:=by simpa using hb
   subst this;obtain⟨y,hy,rfl⟩:=aQ.mp ha;exact hno y hy
 ·have es':C0 xs k kv v=xs.map (putN k v):=by unfold C0;rw [LL hm.nd hj hx];rfl
  rw [es']at fin;refine Wb (bJ (Wb (wpAny_updateDict (s:={ s with toks:=s.toks+Cs k }) ho hd (wpAny_point (fin _ ⟨⟨_,_,ep,Heap.get?_update_self _ ho (Obj.isFreed_of_dict (Obj.data_mapDict hd _)),hc.mapDict _,Obj.data_mapDict hd _,?_⟩,fun y hy=>?_,?_⟩ (aY ..))))))
  ·have:=La (v:=v) hm.nd hj hx;rw [←he]at this;obtain⟨l⟩:=es
   simpa using this
  ·obtain⟨z,hz',rfl⟩:=aQ.mp hy;unfold putN;split<;>exact(hm.ks z hz').keep prog w ho hd (aY ..)
  ·rw [N8];exact hm.nd
end
end TH
namespace L2
open PySem PySem.Spec PyProof.Rows
abbrev KR:=Option Tr×V×V
def Nt(q:KR)(x:TH.KE):Prop:=x.1=q.1∧RelV q.2.1 x.2.1∧RelV q.2.2 x.2.2
def dN(d:AD)(r:List KR):HO:=.ext fun h=>(d==sysModules)=false∧∃o es ep xs,h.get? d=some o∧o.ExactDict∧o.data=.dict es ep∧es.toList=xs.map TH.DY∧PySem.Paired Nt r xs
def G6(H:Hp):Option Tr→V→Prop
 |none,v=>v=.A8
 |some t,v=>t.deep<8∧Tv H t v
def G6.same{H H':Hp}{k:Option Tr}{v:V}(h:G6 H k v)(e:AO H H'):G6 H' k v:=by
 cases k with
 |none=>exact h
 |some t=>exact⟨h.1,h.2.same e⟩
structure SK(H:Hp)(d:Addr)(r:List KR)(k:Option Tr):Prop where
 at_:H d=some (dN d r)
 ks:∀q∈r,G6 H q.1 q.2.1
 nd:(r.map (·.1)).Nodup
 ap:∀q∈r,TH.Az q.1=TH.Az k→q.1=k
def IW{α β:Type}{R:α→β→Prop}{l:List α}{m:List β}(h:PySem.Paired R l m):∀x∈m,∃q∈l,R q x:=by
 induction h with
 |nil=>intro x hx;cases hx
 |cons a _ ih =>
  intro x hx;rcases aK.mp hx with rfl|hx
  ·exact⟨_,.head _,a⟩
  ·obtain⟨q,h1,h2⟩:=ih x hx;exact⟨q,.tail _ h1,h2⟩
def Q3{r:List KR}{xs:List TH.KE}(h:PySem.Paired Nt r xs):xs.map (·.1)=r.map (·.1):=by
 induction h with
 |nil=>rfl
 |cons a _ ih=>rw [List.map_cons,List.map_cons,ih,a.1]
section
variable{X:Cx}{pins:List (AD×Obj)}{σ:St}{H:Hp}{s:SD}{pos:Pos}
def G6.raw(I:Inv X pins σ H s){k:Option Tr}{v:V}{u:VL}(h:G6 H k v)(r:RelV v u):TH.FZ s.heap k u:=by
 cases k with
 |none =>
  have h:v=.A8:=h;subst h;exact r
 |some t =>
  obtain⟨h1,a,ys,rfl,h2,h3⟩:=h;obtain⟨its,rv,p,_⟩:=I.tuple (BF.of (K:=X.K) h2);exact⟨a,r,h1,its,p,h3.vs I rv⟩
def TF(I:Inv X pins σ H s){d:AD}{r:List KR}{k:Option Tr}(h:SK H d r k):(d==sysModules)=false∧∃xs,TH.EH s.heap d xs∧PySem.Paired Nt r xs∧∀x∈xs,TH.Az x.1=TH.Az k→x.1=k:=by
 obtain⟨hs,o,es,ep,xs,g1,g2,g3,g4,g5⟩:=(show C6 X.prog X.w H s.heap d (dN d r) from I.Av d _ h.at_).1;refine⟨hs,xs,⟨⟨o,es,ep,g1,g2,g3,g4⟩,fun x hx=>?_,by rw [Q3 g5];exact h.nd⟩,g5,fun x hx=>?_⟩
 ·obtain⟨q,h1,h2,h3,_⟩:=IW g5 x hx;rw [h2];exact(h.ks q h1).raw I h3
 ·obtain⟨q,h1,h2,_⟩:=IW g5 x hx;rw [h2];exact h.ap q h1
def TC{r:List KR}{xs:List TH.KE}(h:PySem.Paired Nt r xs)(k:Option Tr):match r.find? (fun q=>decide (q.1=k)) with
  |some q=>∃x,TH.IV xs k=some x∧RelV q.2.2 x.2.2
  |none=>TH.IV xs k=none:=by
 induction h with
 |nil=>exact rfl
 | @cons q x l m a _ ih =>
  unfold TH.IV at ih ⊢;rw [List.find?_cons,List.find?_cons,a.1];by_cases z:q.1=k
  ·simp only [decide_eq_true z];exact⟨x,rfl,a.2.2⟩
  ·simp only [decide_eq_false z];exact ih
def lz:R2:=fun x y H Q=>∃d r k q,x=.ref d∧G6 H k y∧SK H d r k∧r.find? (fun q=>decide (q.1=k))=some q∧Q q.2.2 H
def ij{o i:Expr}{td ty:TE}(hu:X.A.units+64<cLine)(ho:PE X o td)(hi:PE X i ty)(hs:Zq i):PE X (.Subscript o i pos) (Xy lz td ty):=by
 intro pins s σ H Q I h;refine eh PySem.F.slot_dict_getitem.lookup hs (A6 (ho pins s σ H _ I h) fun u s1 ⟨x,H1,I1,rx,q1⟩=>A6 (hi pins s1 σ H1 _ I1 q1) fun iv s2 ⟨y,H2,I2,ry,q2⟩=>?_);obtain⟨d,r,k,q,rfl,hk,hD,hf,q3⟩:=q2;obtain rfl:u=Value.ref d:=rx;obtain⟨hsm,xs,hm,hp,hap⟩:=TF I2 hD;have hr:=TC hp k;rw [hf]at hr;obtain⟨x,h1,h2⟩:=hr;exact⟨hm.ty,TH.fe (by show X.A.in1.units+8<cLine;rw [Around.in1_units];omega) (hk.raw I2 ry) hm hap h1 ⟨q.2.2,H2,I2.tok _,h2,q3⟩⟩
def Md(r:List KR)(k:Option Tr)(kv v:V):List KR:=if(r.find? (fun q=>decide (q.1=k))).isSome then r.map (fun q=>if q.1=k then(q.1,q.2.1,v) else q) else r++[(k,kv,v)]
def dM{r:List KR}{xs:List TH.KE}{k:Option Tr}{kv v:V}{ku u:VL}(h:PySem.Paired Nt r xs)(hk:RelV kv ku)(hv:RelV v u):PySem.Paired Nt (Md r k kv v) (TH.C0 xs k ku u):=by
 have hr:=TC h k;unfold Md TH.C0;split at hr
 ·rename_i q e;obtain⟨x,h1,_⟩:=hr;rw [h1,e];simp only [Option.isSome_some,if_true];clear e h1 hk
  induction h with
  |nil=>exact .nil
  | @cons q x l m a _ ih =>
   rw [List.map_cons,List.map_cons];refine .cons ?_ ih;unfold TH.putN;rw [a.1];by_cases z:q.1=k
   ·rw [if_pos z,if_pos z];exact⟨rfl,a.2.1,hv⟩
   ·rw [if_neg z,if_neg z];exact a
 ·rename_i e;rw [hr,e];exact h.snoc ⟨rfl,hk,hv⟩
def dF:Vx:=fun o i v H Q=>∃d r k,o=.ref d∧G6 H k i∧SK H d r k∧r.length≤1000∧Q (upd H d (dN d (Md r k i v)))
def Tb(hu:X.A.units+64<cLine):Zh X dF:=by
 intro pins s σ H o i v ov iv u Q I ro ri rv h;obtain⟨d,r,k,rfl,hk,hD,hl,q⟩:=h;obtain rfl:ov=Value.ref d:=ro;obtain⟨hsm,xs,hm,hp,hap⟩:=TF I hD;have hle:xs.length=r.length:=by have:=bF List.length (Q3 hp);simpa using this
 refine TH.kM (by show X.A.in1.units+8<cLine;rw [Around.in1_units];omega) (hk.raw I ri) hm hap (ae (by omega:xs.length≤1000) (by rw [sizeLine_eq];decide)) fun h' hm' sb=>?_;obtain⟨o',es,ep,g1,g2,g3,g4⟩:=hm'.ob;refine⟨_,I.write (x:=d) (e:=d) (o:=dN d (Md r k i v)) (t':=s.toks+TH.Cs k) (by rw [hD.at_];exact trivial) (.inl rfl) (fun b w' hb e=>(sb.2 b hb).trans e) ⟨o',g1⟩ ?_,q⟩;exact⟨⟨hsm,o',es,ep,_,g1,g2,g3,g4,dM hp ri rv⟩,⟨o',g1⟩,fun h1 h2 ⟨a,o,es,ep,xs,q,r⟩ k=>⟨a,o,es,ep,xs,k _ q,r⟩⟩
def iP:TE:=fun _ H Q=>∀p,H p=none→Q (.ref p) (upd H p (dN p []))
def Y7:PE X (.Dict [] [] pos) iP:=fun pins s σ H Q I h=>by
 refine wpAny_Dict_empty ⟨.ref s.heap.objs.size,_,I.laid (a:=s.heap.objs.size) (o:=dN s.heap.objs.size []) (t':=s.toks) (fun _ _ q=>aD _ q) (aI _) ?_,rfl,h _ (I.Av.fresh (aI _))⟩;have hb:sysModules<s.heap.objs.size:=bU (by decide) (I.mod.glob.keeps I.bk).lt;have hn:(s.heap.objs.size==sysModules)=false:=beq_eq_false_iff_ne.mpr (Ne.symm (aG hb));exact⟨⟨hn,_,#[],0,[],Heap.get?_push_size _ rfl,⟨rfl,rfl,rfl⟩,rfl,rfl,.nil⟩,⟨_,Heap.get?_push_size _ rfl⟩,fun h1 h2 ⟨a,o,es,ep,xs,q,r⟩ k=>⟨a,o,es,ep,xs,k _ q,r⟩⟩
end
section
variable{X:Cx}
def Xh(hc:X.calm=true):ED X (.builtin "sum") (fun xs H Q=>∃(p:AD) (ns:List Int),xs=[.ref p]∧BF X.K H p (ns.map V.int)∧Q (.int ns.sum) H):=by
 intro pins s σ H xs us Q I r h;obtain⟨p,ns,rfl,hq,q⟩:=h;obtain⟨u,rfl,r1⟩:=r.one;cases r1;obtain⟨its,rv,pl,hz⟩:=I.tuple hq;have hi:=intsAre_of rv;obtain⟨xs,hx⟩:=hi.allInts.items;have hl':s.heap.IsTuple p (intItems xs):=hx ▸ pl
 have hlt:p<s.heap.objs.size:=by obtain⟨_,e,_⟩:=hl';exact aF e
 have e1:ns=xs.toList.map (·.1):=by
  rw [←nums_intItems,←hx];exact(show numsOf its.toArray.toList=ns from hi.numsOf).symm
 have e2:preSum (numAt xs) xs.size=ns.sum:=by
  rw [preSum_eq,List.take_of_length_le (by simp),e1]
 refine call_sum_walkG (wpAny_pyIter_tuple hl' ?_);refine⟨_,[_,p],[_],_,_,_,numAt xs,rfl,Walks.tuple (A:=X.A.in1) (I.ok.hd hc) _ p (aG hlt) (intItems xs),
  ⟨⟨_,Heap.get?_push_size _ rfl,rfl,rfl⟩,hl'.push _⟩,fun c hcc=>?_,(fun _ _=>intItems_at),fun h' tk t' hk=>?_⟩
 ·show c<(s.heap.push _).objs.size;rw [Heap.size_push];rcases aK.mp hcc with rfl|hcc
  ·exact bM _
  ·rw [List.mem_singleton.mp hcc];exact ar hlt
 ·have e3:preSum (numAt xs) (intItems xs).size=ns.sum:=by
   rw [←e2];simp [intItems]
  rw [e3];exact⟨.int _,H,I.kept (t':=tk) (PyProof.Rows.LSm.kept_iter hk),⟨t',rfl⟩,q⟩
end
end L2
set_option maxHeartbeats 1000000
namespace L2
open PySem PySem.Spec PyProof.Rows
def Rd.same{H H':Hp}{a:AD}{u:HO}(e:AO H H')(h:Rd H a u):Rd H' a u:=by
 rcases h with h|⟨o,h⟩
 ·exact .inl (e _ _ h)
 ·exact .inr ⟨o,e _ _ h⟩
def B0:Tr→List PD
 |.nil=>[]
 |.cons b r=>.tuple (B0 b)::B0 r
def CG:Option Tr→PD
 |none=>.none
 |some t=>.tuple (B0 t)
mutual
def Du(H:Hp):PD→V→Prop
 |.none,v=>v=.A8
 |.bool b,v=>v=.bl b
 |.int i,v=>v=.int i
 |.str x,v=>v=.str x
 |.tuple ds,v=>∃a xs,v=.ref a∧H a=some (.tup xs)∧Ai H ds xs
 |.list ds,v=>∃a xs,v=.ref a∧H a=some (.lst xs)∧Ai H ds xs
 |.dict kv,v=>(∃ea C:AD,kv=[(.int (C:Nat),.none)]∧v=.ref ea∧H ea=some (nD ea (.ref C)))∨(∃(a:AD) (ns:List Int),kv=[(.none,.list (ns.map .int))]∧v=.ref a∧Rd H a (.lst (ns.map V.int)))∨Jx H kv v
def Ai(H:Hp):List PD→List V→Prop
 |[],xs=>xs=[]
 |d::ds,xs=>∃x r,xs=x::r∧Du H d x∧Ai H ds r
def Jx(H:Hp):List (PD×PD)→V→Prop
 |[],_=>False
 |(k0,d0)::t,v=>k0=.bool true∧d0=.none∧∃a r,v=.ref a∧H a=some (dN a r)∧(r.map (·.1)).Nodup∧Eo H t r
def Eo(H:Hp):List (PD×PD)→List KR→Prop
 |[],r=>r=[]
 |(k,d)::t,r=>∃q r',r=q::r'∧k=CG q.1∧G6 H q.1 q.2.1∧Du H d q.2.2∧Eo H t r'
end
mutual
def Du.same{H H':Hp}(e:AO H H'):∀ {d:PD} {v:V},Du H d v→Du H' d v
 |.none,_,h=>by rw [Du]at h ⊢;exact h
 |.bool _,_,h=>by rw [Du]at h ⊢;exact h
 |.int _,_,h=>by rw [Du]at h ⊢;exact h
 |.str _,_,h=>by rw [Du]at h ⊢;exact h
 |.tuple _,_,h=>by
  rw [Du]at h ⊢;obtain⟨a,xs,e1,h1,h2⟩:=h;exact⟨a,xs,e1,e _ _ h1,Ai.same e h2⟩
 |.list _,_,h=>by
  rw [Du]at h ⊢;obtain⟨a,xs,e1,h1,h2⟩:=h;exact⟨a,xs,e1,e _ _ h1,Ai.same e h2⟩
 |.dict _,_,h=>by
  rw [Du]at h ⊢;rcases h with ⟨ea,C,e1,e2,h1⟩|⟨a,ns,e1,e2,h1⟩|h
  ·exact .inl ⟨ea,C,e1,e2,e _ _ h1⟩
  ·exact .inr (.inl ⟨a,ns,e1,e2,h1.same e⟩)
  ·exact .inr (.inr (Jx.same e h))
def Ai.same{H H':Hp}(e:AO H H'):∀ {ds:List PD} {xs:List V},Ai H ds xs→Ai H' ds xs
 |[],_,h=>by rw [Ai]at h ⊢;exact h
 |_::_,_,h=>by
  rw [Ai]at h ⊢;obtain⟨x,r,e1,h1,h2⟩:=h;exact⟨x,r,e1,Du.same e h1,Ai.same e h2⟩
def Jx.same{H H':Hp}(e:AO H H'):∀ {kv:List (PD×PD)} {v:V},Jx H kv v→Jx H' kv v
 |[],_,h=>by rw [Jx]at h;exact h.elim
 |(_,_)::_,_,h=>by
  rw [Jx]at h ⊢;obtain⟨h1,h2,a,r,h3,h4,h5,h6⟩:=h;exact⟨h1,h2,a,r,h3,e _ _ h4,h5,Eo.same e h6⟩
def Eo.same{H H':Hp}(e:AO H H'):∀ {kv:List (PD×PD)} {r:List KR},Eo H kv r→Eo H' kv r
 |[],_,h=>by rw [Eo]at h ⊢;exact h
 |(_,_)::_,_,h=>by
  rw [Eo]at h ⊢;obtain⟨q,r',h1,h2,h3,h4,h5⟩:=h;exact⟨q,r',h1,h2,h3.same e,Du.same e h4,Eo.same e h5⟩
end
mutual
def Du.br{K:Fg}{H:Hp}:∀ {d:PD} {v:V},d.canLay0=true→Du H d v→Br K H d v
 |.none,_,_,h=>by rw [Du]at h;rw [Br];exact h
 |.bool _,_,_,h=>by rw [Du]at h;rw [Br];exact h
 |.int _,_,_,h=>by rw [Du]at h;rw [Br];exact h
 |.str _,_,_,h=>by rw [Du]at h;rw [Br];exact h
 |.tuple _,_,c,h=>by
  rw [Du]at h;rw [Br];obtain⟨a,xs,e1,h1,h2⟩:=h;exact⟨a,xs,e1,BF.of h1,Ai.br (by simp only [PyData.canLay0,Bool.and_eq_true]at c;first|exact c|exact c.2|exact c.1) h2⟩
 |.list _,_,c,h=>by
  rw [Du]at h;rw [Br];obtain⟨a,xs,e1,h1,h2⟩:=h;exact⟨a,xs,e1,A3.of h1,Ai.br (by simp only [PyData.canLay0,Bool.and_eq_true]at c;first|exact c|exact c.2|exact c.1) h2⟩
 |.dict _,_,c,h=>by simp [PyData.canLay0]at c
def Ai.br{K:Fg}{H:Hp}:∀ {ds:List PD} {xs:List V},PyData.canLayAll0 ds=true→Ai H ds xs→Fh K H ds xs
 |[],_,_,h=>by rw [Ai]at h;rw [Fh];exact h
 |_::_,_,c,h=>by
  rw [Ai]at h;rw [Fh];obtain⟨x,r,e1,h1,h2⟩:=h;simp only [PyData.canLayAll0,Bool.and_eq_true]at c;exact⟨x,r,e1,Du.br c.1 h1,Ai.br c.2 h2⟩
end
def Ai.nil{H:Hp}:Ai H [] []:=by rw [Ai]
def Ai.cons{H:Hp}{d:PD}{ds:List PD}{x:V}{xs:List V}(h:Du H d x)(k:Ai H ds xs):Ai H (d::ds) (x::xs):=by rw [Ai];exact⟨x,xs,rfl,h,k⟩
def Ai.un{H:Hp}{d:PD}{ds:List PD}{xs:List V}(h:Ai H (d::ds) xs):∃x r,xs=x::r∧Du H d x∧Ai H ds r:=by rw [Ai]at h;exact h
def Ai.nil_eq{H:Hp}{xs:List V}(h:Ai H [] xs):xs=[]:=by rw [Ai]at h;exact h
def Ai.len{H:Hp}:∀ {ds:List PD} {xs:List V},Ai H ds xs→xs.length=ds.length
 |[],_,h=>by rw [h.nil_eq];rfl
 |_::_,_,h=>by obtain⟨x,r,rfl,_,h2⟩:=h.un;simp [h2.len]
def Ai.get{H:Hp}:∀ {ds:List PD} {xs:List V} {i:Nat} {d:PD},Ai H ds xs→ds[i]? = some d→∃v,xs[i]? = some v∧Du H d v
 |[],_,i,_,_,e=>by simp at e
 |_::_,_,0,_,h,e=>by
  obtain⟨x,r,rfl,h1,_⟩:=h.un;simp at e;subst e;exact⟨x,rfl,h1⟩
 |_::_,_,i+1,_,h,e=>by
  obtain⟨x,r,rfl,_,h2⟩:=h.un;obtain⟨v,k1,k2⟩:=h2.get (i:=i) (by simpa using e);exact⟨v,by simpa using k1,k2⟩
def Ai.back{H:Hp}{ds:List PD}{xs:List V}{i:Nat}{v:V}(h:Ai H ds xs)(e:xs[i]? = some v):∃d,ds[i]? = some d∧Du H d v:=by
 have hl:=h.len;have hi:i<ds.length:=by rw [←hl];exact(aE.mp e).1
 have hd:ds[i]? = some ds[i]:=by simp [hi]
 obtain⟨w,k1,k2⟩:=h.get hd;rw [e]at k1;cases k1;exact⟨_,hd,k2⟩
def Ai.app{H:Hp}:∀ {ds es:List PD} {xs ys:List V},Ai H ds xs→Ai H es ys→Ai H (ds++es) (xs++ys)
 |[],_,_,_,h,k=>by rw [h.nil_eq];exact k
 |_::_,_,_,_,h,k=>by obtain⟨x,r,rfl,h1,h2⟩:=h.un;exact .cons h1 (h2.app k)
def Ai.take{H:Hp}:∀ {ds:List PD} {xs:List V} (i:Nat),Ai H ds xs→Ai H (ds.take i) (xs.take i)
 |_,_,0,_=>by rw [List.take_zero,List.take_zero];exact .nil
 |[],_,i+1,h=>by rw [h.nil_eq];exact .nil
 |_::_,_,i+1,h=>by obtain⟨x,r,rfl,h1,h2⟩:=h.un;exact .cons h1 (h2.take i)
def Ai.drop{H:Hp}:∀ {ds:List PD} {xs:List V} (i:Nat),Ai H ds xs→Ai H (ds.drop i) (xs.drop i)
 |_,_,0,h=>h
 |[],_,i+1,h=>by rw [h.nil_eq];exact .nil
 |_::_,_,i+1,h=>by obtain⟨x,r,rfl,h1,h2⟩:=h.un;exact h2.drop i
inductive Oc where
 |lst (xs:List PyData)|S0 (kvs:List (List Key×PyData))|Cr (kvs:List (Option Tr×PyData))
inductive L where
 |no|d (x:PyData)|own (c:Oc)
abbrev Dv:=List L
def QB(G:Hp):List (List Key×PD)→List (List Key×V)→Prop
 |[],r=>r=[]
 |q::t,r=>∃v r',r=(q.1,v)::r'∧Du G q.2 v∧QB G t r'
def QB.same{G G':Hp}(e:AO G G'):∀ {t:List (List Key×PD)} {r:List (List Key×V)},QB G t r→QB G' t r
 |[],r,h=>h
 |q::t,r,h=>by
  obtain⟨v,r',rfl,h1,h2⟩:=h;exact⟨v,r',rfl,h1.same e,QB.same e h2⟩
abbrev Hc(kvs:List (Option Tr×PD)):List (PD×PD):=kvs.map fun q=>(CG q.1,q.2)
abbrev Aq(kvs:List (Option Tr×PD)):PD:=.dict ((.bool true,.none)::Hc kvs)
def IQ(G:Hp)(a:AD):Oc→HO→Prop
 |.lst xs,o=>∃ys,o=.lst ys∧Ai G xs ys
 |.S0 kvs,o=>∃r,o=.dT r∧QB G kvs r
 |.Cr kvs,o=>∃r,o=dN a r∧(r.map (·.1)).Nodup∧Eo G (Hc kvs) r
def IQ.same{G G':Hp}{a:AD}{c:Oc}{o:HO}(h:IQ G a c o)(e:AO G G'):IQ G' a c o:=by
 cases c with
 |Cr kvs=>obtain⟨r,h1,h2,h3⟩:=h;exact⟨r,h1,h2,Eo.same e h3⟩
 |lst xs=>obtain⟨ys,h1,h2⟩:=h;exact⟨ys,h1,h2.same e⟩
 |S0 kvs=>obtain⟨ys,h1,h2⟩:=h;exact⟨ys,h1,h2.same e⟩
def IQ.UE{G:Hp}{a:AD}{c:Oc}{xs:List V}(h:IQ G a c (.tup xs)):False:=by
 cases c with
 |Cr kvs=>obtain⟨r,h1,h2,h3⟩:=h;unfold dN at h1;cases h1
 |lst xs=>obtain⟨ys,h1,h2⟩:=h;cases h1
 |S0 kvs=>obtain⟨ys,h1,h2⟩:=h;cases h1
def Nw(G0 H0 G:Hp):Prop:=∀a o,G a=some o→G0 a=some o∨H0 a=none∨∃xs,o=HO.tup xs
structure Rw(G0 H0 G H:Hp)(σ:St)(δ:Dv)(ts:List (PyData×V)):Prop where
 ext:AO G0 G
 new:Nw G0 H0 G
 ins:AO G H
 keep:AO H0 H
 len:σ.length=δ.length
 dat:∀(i:Nat) (x:PyData),δ[i]? = some (L.d x)→∃v,σ[i]? = some (some v)∧Du G x v
 own:∀(i:Nat) (xs:Oc),δ[i]? = some (L.own xs)→∃(a:Addr) (ys:HO),σ[i]? = some (some (V.ref a))∧G a=none∧H0 a=none∧H a=some ys∧IQ G a xs ys
 apart:∀(i j:Nat) (xs ys:Oc),i≠j→δ[i]? = some (L.own xs)→δ[j]? = some (L.own ys)→σ[i]?≠σ[j]?
 Ba:∀p∈ts,Du G p.1 p.2
def DE(X:Cx)(e:Expr)(f:Dv→Option PD):Prop:=∃t,PE X e t∧∀δ x,f δ=some x→∀G0 H0 G H σ ts (Q:VK),Rw G0 H0 G H σ δ ts→(∀v G' H',Rw G0 H0 G' H' σ δ ((x,v)::ts)→Q v H')→t σ H Q
def DA(X:Cx)(es:List Expr)(f:Dv→Option (List PD)):Prop:=∃t,PA X es t∧∀δ xs,f δ=some xs→∀G0 H0 G H σ ts (Q:List V→Hp→Prop),Rw G0 H0 G H σ δ ts→(∀vs G' H',Rw G0 H0 G' H' σ δ (xs.zip vs++ts)→vs.length=xs.length→Q vs H')→t σ H Q
def DT(X:Cx)(e:Expr)(f:Dv→Option Bool):Prop:=∃t,PT X e t∧∀δ b,f δ=some b→∀G0 H0 G H σ ts (Q:Bool→Hp→Prop),Rw G0 H0 G H σ δ ts→(∀G' H',Rw G0 H0 G' H' σ δ ts→Q b H')→t σ H Q
section
variable{G0 H0 G H:Hp}{σ:St}{δ:Dv}{ts:List (PD×V)}
def Rw.drop{p:PD×V}(r:Rw G0 H0 G H σ δ (p::ts)):Rw G0 H0 G H σ δ ts:={ r with Ba:=fun q hq=>r.Ba q (.tail _ hq) }
def Rw.less{us:List (PD×V)}(r:Rw G0 H0 G H σ δ ts)(h:∀p∈us,p∈ts):Rw G0 H0 G H σ δ us:={ r with Ba:=fun q hq=>r.Ba q (h q hq) }
def Rw.put{x:PD}{v:V}(r:Rw G0 H0 G H σ δ ts)(h:Du G x v):Rw G0 H0 G H σ δ ((x,v)::ts):={ r with Ba:=fun q hq=>by rcases aK.mp hq with rfl|hq;exact h;exact r.Ba q hq }
def Rw.newObj{p:AD}{o:HO}(r:Rw G0 H0 G H σ δ ts)(hp:H p=none):Rw G0 H0 (upd G p o) (upd H p o) σ δ ts:=by
 have hG:G p=none:=by
  cases q:G p with
  |none=>rfl
  |some u=>rw [r.ins _ _ q]at hp;cases hp
 have h0:H0 p=none:=by
  cases q:H0 p with
  |none=>rfl
  |some u=>rw [r.keep _ _ q]at hp;cases hp
 have e:AO G (upd G p o):=Bg hG o;refine⟨r.ext.trans e,fun a u h=>?_,fun a u h=>?_,r.keep.trans (Bg hp o),r.len,fun i x h=>?_,fun i xs h=>?_,r.apart,fun q hq=>(r.Ba q hq).same e⟩
 ·by_cases ha:a=p
  ·subst ha;exact .inr (.inl h0)
  ·rw [AM ha]at h;exact r.new _ _ h
 ·by_cases ha:a=p
  ·subst ha;rw [AZ]at h ⊢;exact h
  ·rw [AM ha]at h ⊢;exact r.ins _ _ h
 ·obtain⟨v,k1,k2⟩:=r.dat i x h;exact⟨v,k1,k2.same e⟩
 ·obtain⟨a,ys,k1,k2,k3,k4,k5⟩:=r.own i xs h;have ha:a≠p:=fun z=>by subst z;rw [k4]at hp;cases hp
  exact⟨a,ys,k1,by rw [AM ha];exact k2,k3,by rw [AM ha];exact k4,k5.same e⟩
def Rw.iR{p:AD}{xs:List V}{H':Hp}(r:Rw G0 H0 G H σ δ ts)(e:AO H H')(hp:H' p=some (.tup xs)):Rw G0 H0 (upd G p (.tup xs)) H' σ δ ts:=by
 have e1:AO G (upd G p (.tup xs)):=fun a o h=>by
  by_cases ha:a=p
  ·subst ha;have:=e _ _ (r.ins _ _ h);rw [hp]at this;rw [AZ];exact this
  ·rw [AM ha];exact h
 refine⟨r.ext.trans e1,fun a u h=>?_,fun a u h=>?_,r.keep.trans e,r.len,fun i x h=>?_,fun i xs h=>?_,r.apart,fun q hq=>(r.Ba q hq).same e1⟩
 ·by_cases ha:a=p
  ·subst ha;rw [AZ]at h;cases h;exact .inr (.inr ⟨_,rfl⟩)
  ·rw [AM ha]at h;exact r.new _ _ h
 ·by_cases ha:a=p
  ·subst ha;rw [AZ]at h;rw [hp];exact h
  ·rw [AM ha]at h;exact e _ _ (r.ins _ _ h)
 ·obtain⟨v,k1,k2⟩:=r.dat i x h;exact⟨v,k1,k2.same e1⟩
 ·obtain⟨a,ys,k1,k2,k3,k4,k5⟩:=r.own i xs h;have ha:a≠p:=fun z=>by subst z;rw [e _ _ k4]at hp;cases hp;exact k5.UE
  exact⟨a,ys,k1,by rw [AM ha];exact k2,k3,e _ _ k4,k5.same e1⟩
def Rw.lift{G' H':Hp}(r:Rw G0 H0 G H σ δ ts)(h1:AO G G')(h2:Nw G H G')(h3:AO G' H')(h4:AO H H'):Rw G0 H0 G' H' σ δ ts:=by
 refine⟨r.ext.trans h1,fun a o h=>?_,h3,r.keep.trans h4,r.len,fun i x h=>?_,fun i xs h=>?_,r.apart,fun q hq=>(r.Ba q hq).same h1⟩
 ·rcases h2 a o h with k|k|k
  ·exact r.new a o k
  ·right;left
   cases q:H0 a with
   |none=>rfl
   |some u=>rw [r.keep _ _ q]at k;cases k
  ·exact .inr (.inr k)
 ·obtain⟨v,k1,k2⟩:=r.dat i x h;exact⟨v,k1,k2.same h1⟩
 ·obtain⟨a,ys,k1,k2,k3,k4,k5⟩:=r.own i xs h;refine⟨a,ys,k1,?_,k3,h4 _ _ k4,k5.same h1⟩;cases q:G' a with
  |none=>rfl
  |some u =>
   rcases h2 a u q with z|z|⟨xs',z⟩
   ·rw [k2]at z;cases z
   ·rw [k4]at z;cases z
   ·have:=h3 _ _ q;rw [h4 _ _ k4,z]at this;cases this;exact k5.UE.elim
end
section
variable{X:Cx}{a b c e:Expr}{es:List Expr}{f g h:Dv→Option PD}{pos:Pos}
def AK{i j pos}:DE X (.Constant (.int i) j pos) (fun _=>some (.int i)):=⟨_,A7,fun δ x h G0 H0 G H σ ts Q r k=>by cases h;exact k _ _ _ (r.put (by rw [Du]))⟩
def cQ{i j pos}:DE X (.Constant (.bool i) j pos) (fun _=>some (.bool i)):=⟨_,IX,fun δ x h G0 H0 G H σ ts Q r k=>by cases h;exact k _ _ _ (r.put (by rw [Du]))⟩
def Xw{j pos}:DE X (.Constant .none j pos) (fun _=>some .none):=⟨_,jU,fun δ x h G0 H0 G H σ ts Q r k=>by cases h;exact k _ _ _ (r.put (by rw [Du]))⟩
def PM{i j pos}:DE X (.Constant (.str i) j pos) (fun _=>some (.str i)):=⟨_,jW,fun δ x h G0 H0 G H σ ts Q r k=>by cases h;exact k _ _ _ (r.put (by rw [Du]))⟩
def nm(i:Nat)(δ:Dv):Option PD:=match δ[i]? with|some (.d x)=>some x|_=>none
def jr{i:Nat}{δ:Dv}{x:PD}(h:nm i δ=some x):δ[i]? = some (.d x):=by
 unfold nm at h;split at h
 ·rename_i y e;cases h;exact e
 ·cases h
def AE{i:Nat}{x:Str}(h:PE X (.Name x pos) (Lk i)):DE X (.Name x pos) (nm i):=⟨_,h,fun δ y hy G0 H0 G H σ ts Q r k=>by
 obtain⟨v,h1,h2⟩:=r.dat _ _ (jr hy);exact⟨v,h1,k _ _ _ (r.put h2)⟩⟩
def AQ(o:PD→PD→Option PD)(f g:Dv→Option PD)(δ:Dv):Option PD:=(f δ).bind fun x=>(g δ).bind fun y=>o x y
def EU(X:Cx)(m:VL→VL→Sem VL)(o:PD→PD→Option PD):Prop:=∃r:R2,C4 X m r∧∀x y z,o x y=some z→∀G0 H0 G H σ δ ts u v (Q:VK),Rw G0 H0 G H σ δ ts→Du G x u→Du G y v→(∀w G' H',Rw G0 H0 G' H' σ δ ((z,w)::ts)→Q w H')→r u v H Q
def two{x y:PD}{f g:Dv→Option PD}{δ:Dv}{o:PD→PD→Option PD}{z:PD}(h:AQ o f g δ=some z):∃x y,f δ=some x∧g δ=some y∧o x y=some z:=by
 unfold AQ at h;obtain⟨x,h1,h2⟩:=aB.mp h;obtain⟨y,h3,h4⟩:=aB.mp h2;exact⟨x,y,h1,h3,h4⟩
def Aa{op:Operator}{o:PD→PD→Option PD}(ho:EU X (binaryOp op) o)(ha:DE X a f)(hb:DE X b g):DE X (.BinOp a op b pos) (AQ o f g):=by
 obtain⟨r,hr,kr⟩:=ho;obtain⟨ta,pa,ka⟩:=ha;obtain⟨tb,pb,kb⟩:=hb;refine⟨_,DP hr pa pb,fun δ z hz G0 H0 G H σ ts Q R0 k=>?_⟩;obtain⟨x,y,h1,h2,h3⟩:=two (x:=.none) (y:=.none) hz;refine ka δ x h1 G0 H0 G H σ ts _ R0 fun u G1 H1 R1=>?_;refine kb δ y h2 G0 H0 G1 H1 σ _ _ R1 fun v G2 H2 R2=>?_;exact kr x y z h3 G0 H0 G2 H2 σ δ ts u v Q (R2.drop.drop) (R2.Ba (x,u) (.tail _ (.head _))) (R2.Ba (y,v) (.head _)) k
def i7{op:CmpOp}{o:PD→PD→Option PD}(ho:EU X (compareOp op) o)(ha:DE X a f)(hb:DE X b g)(hm:behindInMarks op b=false):DE X (.Compare a [op] [b] pos) (AQ o f g):=by
 obtain⟨r,hr,kr⟩:=ho;obtain⟨ta,pa,ka⟩:=ha;obtain⟨tb,pb,kb⟩:=hb;refine⟨_,QD hr pa pb hm,fun δ z hz G0 H0 G H σ ts Q R0 k=>?_⟩;obtain⟨x,y,h1,h2,h3⟩:=two (x:=.none) (y:=.none) hz;refine ka δ x h1 G0 H0 G H σ ts _ R0 fun u G1 H1 R1=>?_;refine kb δ y h2 G0 H0 G1 H1 σ _ _ R1 fun v G2 H2 R2=>?_;exact kr x y z h3 G0 H0 G2 H2 σ δ ts u v Q (R2.drop.drop) (R2.Ba (x,u) (.tail _ (.head _))) (R2.Ba (y,v) (.head _)) k
end
section
variable{X:Cx}
def Lw(o o':PD→PD→Option PD)(x y:PD):Option PD:=match o x y with|some z=>some z|none=>o' x y
def EU.or{m:VL→VL→Sem VL}{o o':PD→PD→Option PD}(h:EU X m o)(h':EU X m o'):EU X m (Lw o o'):=by
 obtain⟨r,hr,kr⟩:=h;obtain⟨r',hr',kr'⟩:=h';refine⟨_,C4.or hr hr',fun x y z hz G0 H0 G H σ δ ts u v Q R0 du dv k=>?_⟩;unfold Lw at hz;split at hz
 ·rename_i z' e;cases hz;exact .inl (kr x y z e G0 H0 G H σ δ ts u v Q R0 du dv k)
 ·exact .inr (kr' x y z hz G0 H0 G H σ δ ts u v Q R0 du dv k)
def Mv{m:VL→VL→Sem VL}{C:Int→Int→Prop}{gv:Int→Int→V}{o:Int→Int→Option PD}(ho:C4 X m (rI C gv))(hC:∀i j z,o i j=some z→C i j∧∀H,Du H z (gv i j)) :
  EU X m (fun x y=>match x,y with|.int i,.int j=>o i j|_,_=>none):=by
 refine⟨_,ho,fun x y z hz G0 H0 G H σ δ ts u v Q R0 du dv k=>?_⟩;dsimp only at hz;split at hz
 ·rename_i i j;rw [Du]at du dv;obtain⟨h1,h2⟩:=hC i j z hz;exact⟨i,j,du,dv,h1,k _ _ _ (R0.put (h2 _))⟩
 ·cases hz
def JD{m:VL→VL→Sem VL}{gv:Int→Int→V}{o:Int→Int→PD}(ho:C4 X m (RC gv))(hC:∀i j H,Du H (o i j) (gv i j)) :
  EU X m (fun x y=>match x,y with|.int i,.int j=>some (o i j)|_,_=>none):=by
 refine⟨_,ho,fun x y z hz G0 H0 G H σ δ ts u v Q R0 du dv k=>?_⟩;dsimp only at hz;split at hz
 ·rename_i i j;cases hz;rw [Du]at du dv;exact⟨i,j,du,dv,k _ _ _ (R0.put (hC _ _ _))⟩
 ·cases hz
def Bm:Nat:=1000
def Qb{n:Nat}(h:n≤Bm):n<sizeLine:=Q4 h
def Ff{n:Nat}(h:n≤Bm):n≤sizeLine:=bL (Q4 h)
def a8:PD→PD→Option PD:=fun x y=>match x,y with|.int i,.int j=>some (.int (i+j))|_,_=>none
def Me:PD→PD→Option PD:=fun x y=>match x,y with|.int i,.int j=>some (.int (i-j))|_,_=>none
def IG(n:Nat)(i:Int):Bool:=decide (i.natAbs<2^n)
def Jy(i j:Int):Bool:=IG 64 i||IG 64 j||(IG 9000 i&&IG 9000 j)
def UN:PD→PD→Option PD:=fun x y=>match x,y with|.int i,.int j=>(if Jy i j=true then some (.int (i*j)) else none)|_,_=>none
def JJ:PD→PD→Option PD:=fun x y=>match x,y with|.int i,.int j=>(if j≠0∧IG 9000 j=true then some (.int (i.fdiv j)) else none)|_,_=>none
def Cb:PD→PD→Option PD:=fun x y=>match x,y with|.int i,.int j=>(if j≠0 then some (.int (i.fmod j)) else none)|_,_=>none
def Mk:PD→PD→Option PD:=fun x y=>match x,y with|.int i,.int j=>(if 0≤j∧j≤1000∧IG 64 i=true then some (.int (i^j.toNat)) else none)|_,_=>none
def eT:EU X (binaryOp .Add) a8:=JD XX fun _ _ _=>by rw [Du]
def Ke:EU X (binaryOp .Sub) Me:=JD Pn fun _ _ _=>by rw [Du]
def b4{i:Int}(h:IG 64 i=true):-(2^64)<i∧i<2^64:=by
 have:=aO h;omega
def dy:EU X (binaryOp .Mult) UN:=Mv (o:=fun i j=>if Jy i j=true then some (.int (i*j)) else none) GO fun i j z h=>by
 split at h
 ·rename_i q;cases h;refine⟨?_,fun _=>by rw [Du]⟩;unfold Jy at q;rw [Bool.or_eq_true,Bool.or_eq_true,Bool.and_eq_true]at q;rcases q with (q|q)|q
  ·exact .inl (.inl (b4 q))
  ·exact .inl (.inr (b4 q))
  ·exact .inr ⟨9000,by decide,of_decide_eq_true q.1,of_decide_eq_true q.2⟩
 ·cases h
def Iu:EU X (binaryOp .FloorDiv) JJ:=Mv (o:=fun i j=>if j≠0∧IG 9000 j=true then some (.int (i.fdiv j)) else none) GH fun i j z h=>by
 split at h
 ·rename_i q;cases h;exact⟨⟨q.1,9000,Nat.le_refl _,of_decide_eq_true q.2⟩,fun _=>by rw [Du]⟩
 ·cases h
def Cj:EU X (binaryOp .Mod) Cb:=Mv (o:=fun i j=>if j≠0 then some (.int (i.fmod j)) else none) Py fun i j z h=>by
 split at h
 ·rename_i q;cases h;exact⟨q,fun _=>by rw [Du]⟩
 ·cases h
def Qe:EU X (binaryOp .Pow) Mk:=Mv (o:=fun i j=>if 0≤j∧j≤1000∧IG 64 i=true then some (.int (i^j.toNat)) else none) gw fun i j z h=>by
 split at h
 ·rename_i q;cases h;exact⟨⟨q.1,by omega,of_decide_eq_true q.2.2⟩,fun _=>by rw [Du]⟩
 ·cases h
def GY(p:Int→Int→Bool):PD→PD→Option PD:=fun x y=>match x,y with|.int i,.int j=>some (.bool (p i j))|_,_=>none
def Vw:EU X (compareOp .Lt) (GY fun i j=>decide (i<j)):=JD (o:=fun i j=>.bool (decide (i<j))) WE fun _ _ _=>by rw [Du]
def cZ:EU X (compareOp .Gt) (GY fun i j=>decide (j<i)):=JD (o:=fun i j=>.bool (decide (j<i))) Rk fun _ _ _=>by rw [Du]
def cX:EU X (compareOp .GtE) (GY fun i j=>decide (j≤i)):=JD (o:=fun i j=>.bool (decide (j≤i))) cI fun _ _ _=>by rw [Du]
def Pz:PD→PD→Option PD:=fun x y=>match x,y with|.list a,.list b=>(if a.length+b.length≤Bm then some (.list (a++b)) else none)|_,_=>none
def eX:EU X (binaryOp .Add) Pz:=by
 refine⟨_,gT,fun x y z hz G0 H0 G H σ δ ts u v Q R0 du dv k=>?_⟩;unfold Pz at hz;split at hz
 ·rename_i a b;split at hz
  ·rename_i hl;cases hz;rw [Du]at du dv;obtain⟨p,xs,rfl,h1,h2⟩:=du;obtain⟨q,ys,rfl,h3,h4⟩:=dv;refine⟨p,q,xs,ys,rfl,rfl,R0.ins _ _ h1,R0.ins _ _ h3,Ff (by rw [h2.len,h4.len];exact hl),fun l hl'=>?_⟩;have R1:=R0.newObj (o:=.lst (xs++ys)) hl';refine k _ _ _ (R1.put ?_);rw [Du];have e:AO G (upd G l (.lst (xs++ys))):=fun a o h=>by
    have:=R0.ins _ _ h;rw [AM (Ah this hl')];exact h
   exact⟨l,xs++ys,rfl,AZ,(h2.same e).app (h4.same e)⟩
  ·cases hz
 ·cases hz
def Rp:PD→PD→Option PD:=fun x y=>match x,y with|.tuple a,.tuple b=>(if a.length+b.length≤Bm then some (.tuple (a++b)) else none)|_,_=>none
def eH:EU X (binaryOp .Add) Rp:=by
 refine⟨_,e7,fun x y z hz G0 H0 G H σ δ ts u v Q R0 du dv k=>?_⟩;unfold Rp at hz;split at hz
 ·rename_i a b;split at hz
  ·rename_i hl;cases hz;rw [Du]at du dv;obtain⟨p,xs,rfl,h1,h2⟩:=du;obtain⟨q,ys,rfl,h3,h4⟩:=dv;refine⟨p,q,xs,ys,rfl,rfl,R0.ins _ _ h1,R0.ins _ _ h3,Ff (by rw [h2.len,h4.len];exact hl),fun l H' e hp=>?_⟩;have R1:=R0.iR e hp;refine k _ _ _ (R1.put ?_);rw [Du];have e1:AO G (upd G l (.tup (xs++ys))):=fun a o h=>by
    by_cases ha:a=l
    ·subst ha;have:=e _ _ (R0.ins _ _ h);rw [hp]at this;rw [AZ];exact this
    ·rw [AM ha];exact h
   exact⟨l,xs++ys,rfl,AZ,(h2.same e1).app (h4.same e1)⟩
  ·cases hz
 ·cases hz
def WV:PD→PD→Option PD:=fun x y=>match x,y with|.str a,.str b=>(if a.length+b.length≤Bm then some (.str (a++b)) else none)|_,_=>none
def d8:EU X (binaryOp .Add) WV:=by
 refine⟨_,V2,fun x y z hz G0 H0 G H σ δ ts u v Q R0 du dv k=>?_⟩;unfold WV at hz;split at hz
 ·rename_i a b;split at hz
  ·rename_i hl;cases hz;rw [Du]at du dv;exact⟨a,b,du,dv,Ff hl,k _ _ _ (R0.put (by rw [Du]))⟩
  ·cases hz
 ·cases hz
def Bx:PD→PD→Option PD:=Lw a8 (Lw Pz (Lw Rp WV))
def BZ:EU X (binaryOp .Add) Bx:=eT.or (eX.or (eH.or d8))
def SF:PD→PD→Option PD:=fun x y=>match x,y with|.list a,.int k=>(if a.length*k.toNat≤Bm∧-1000000≤k∧k≤1000000 then some (.list (List.replicate k.toNat a).flatten) else none)|_,_=>none
def Ai.rep{H:Hp}{ds:List PD}{xs:List V}(h:Ai H ds xs):∀n,Ai H (List.replicate n ds).flatten (List.replicate n xs).flatten
 |0=>.nil
 |n+1=>by rw [List.replicate_succ,List.replicate_succ,List.flatten_cons,List.flatten_cons];exact h.app (h.rep n)
def fH:EU X (binaryOp .Mult) SF:=by
 refine⟨_,ig,fun x y z hz G0 H0 G H σ δ ts u v Q R0 du dv k=>?_⟩;unfold SF at hz;split at hz
 ·rename_i a n;split at hz
  ·rename_i hl;cases hz;rw [Du]at du;rw [Du]at dv;obtain⟨p,xs,rfl,h1,h2⟩:=du;subst dv;refine⟨p,n,xs,rfl,rfl,R0.ins _ _ h1,by omega,by omega,Ff (by rw [h2.len];exact hl.1),fun l hl'=>?_⟩;have R1:=R0.newObj (o:=.lst (List.replicate n.toNat xs).flatten) hl';refine k _ _ _ (R1.put ?_);rw [Du];have e:AO G (upd G l (.lst (List.replicate n.toNat xs).flatten)):=fun a o h=>by
    have:=R0.ins _ _ h;rw [AM (Ah this hl')];exact h
   exact⟨l,_,rfl,AZ,(h2.same e).rep _⟩
  ·cases hz
 ·cases hz
def Cg:PD→PD→Option PD:=Lw UN SF
def Cf:EU X (binaryOp .Mult) Cg:=dy.or fH
def Qw{d:PD}(h:SeqAt.shaped d=true):d.canLay0=true:=by unfold SeqAt.shaped at h;rw [Bool.and_eq_true]at h;exact h.1
def HH(neg:Bool):PD→PD→Option PD:=fun x y=>if SeqAt.shaped x=true∧SeqAt.shaped y=true then some (.bool (if neg then !PyData.eqv x y else PyData.eqv x y)) else none
def YB{m:VL→VL→Sem VL}{neg:Bool}(ho:C4 X m (Yt X.K neg)):EU X m (HH neg):=by
 refine⟨_,ho,fun x y z hz G0 H0 G H σ δ ts u v Q R0 du dv k=>?_⟩;unfold HH at hz;split at hz
 ·rename_i hs;cases hz;exact⟨x,y,(du.same R0.ins).br (Qw hs.1),(dv.same R0.ins).br (Qw hs.2),hs.1,hs.2,k _ _ _ (R0.put (by rw [Du]))⟩
 ·cases hz
def cq(hu:X.A.units+64<cLine):EU X (compareOp .Eq) (HH false):=YB (jd hu)
def Rr(hu:X.A.units+64<cLine):EU X (compareOp .NotEq) (HH true):=YB (gn hu)
end
section
variable{X:Cx}{a b c e:Expr}{es:List Expr}{f g h:Dv→Option PD}{pos p:Pos}
def PN:PD→Option Bool
 |.bool b=>some b
 |_=>none
def Pa:PD→Option Int
 |.int b=>some b
 |_=>none
def TR{x:PD}{b:Bool}(h:PN x=some b):x=.bool b:=by
 unfold PN at h;split at h
 ·cases h;rfl
 ·cases h
def Om{x:PD}{b:Int}(h:Pa x=some b):x=.int b:=by
 unfold Pa at h;split at h
 ·cases h;rfl
 ·cases h
def X7(ha:DE X a f):DE X (.UnaryOp .USub a pos) (fun δ=>(f δ).bind fun x=>(Pa x).map fun i=>.int (-i)):=by
 obtain⟨ta,pa,ka⟩:=ha;refine⟨_,cC XS pa,fun δ z hz G0 H0 G H σ ts Q R0 k=>?_⟩;obtain⟨x,h1,h2⟩:=aB.mp hz;obtain⟨i,h3,rfl⟩:=aC.mp h2;have:=Om h3;subst this;refine ka δ _ h1 G0 H0 G H σ ts _ R0 fun u G1 H1 R1=>?_;have:=R1.Ba _ (.head _);rw [Du]at this;exact⟨i,this,k _ _ _ (R1.drop.put (by rw [Du]))⟩
variable{fa fb:Dv→Option Bool}
def DW(X:Cx)(e:Expr)(f:Dv→Option Bool):Prop:=∃t,PW X e t∧∀δ b,f δ=some b→∀G0 H0 G H σ ts (Q:Bool→Hp→Prop),Rw G0 H0 G H σ δ ts→(∀G' H',Rw G0 H0 G' H' σ δ ts→Q b H')→t σ H Q
def DW.dt(h:DW X e fa):DT X e fa:=let⟨t,p,k⟩:=h;⟨t,p.pt,k⟩
def Ez{op:CmpOp}{o:PD→PD→Option PD}(ho:EU X (compareOp op) o)(ha:DE X a f)(hb:DE X b g)(hm:behindInMarks op b=false):DT X (.Compare a [op] [b] pos) (fun δ=>(AQ o f g δ).bind PN):=by
 obtain⟨r,hr,kr⟩:=ho;obtain⟨ta,pa,ka⟩:=ha;obtain⟨tb,pb,kb⟩:=hb;refine⟨_,EA hr pa pb hm,fun δ z hz G0 H0 G H σ ts Q R0 k=>?_⟩;obtain⟨q,h0,h4⟩:=aB.mp hz;have:=TR h4;subst this;obtain⟨x,y,h1,h2,h3⟩:=two (x:=.none) (y:=.none) h0;refine ka δ x h1 G0 H0 G H σ ts _ R0 fun u G1 H1 R1=>?_;refine kb δ y h2 G0 H0 G1 H1 σ _ _ R1 fun v G2 H2 R2=>?_;refine kr x y _ h3 G0 H0 G2 H2 σ δ ts u v _ (R2.drop.drop) (R2.Ba (x,u) (.tail _ (.head _))) (R2.Ba (y,v) (.head _)) fun w G3 H3 R3=>?_;have hu:=R3.Ba _ (.head _);rw [Du]at hu;exact⟨z,hu,k _ _ R3.drop⟩
def gQ(ha : DE X e f)(he : ∀ whole,isTrue e X.env whole = (do let v ← whole; standAt e.pos; holding [v] (truthy v)) := by intro _; rfl) : DT X e (fun δ => (f δ).bind PN) := by
  obtain ⟨ta,pa,ka⟩:=ha
  refine ⟨_,HA pa he,fun δ z hz G0 H0 G H σ ts Q R0 k => ?_⟩
  obtain ⟨q,h0,h4⟩:=aB.mp hz
  have:=TR h4; subst this
  refine ka δ _ h0 G0 H0 G H σ ts _ R0 fun u G1 H1 R1 => ?_
  have hu:=R1.Ba _ (.head _)
  rw [Du] at hu
  exact ⟨z,hu,k _ _ R1.drop⟩
def gY(ha:DT X a fa):DT X (.UnaryOp .Not a pos) (fun δ=>(fa δ).map fun c=>!c):=by
 obtain⟨ta,pa,ka⟩:=ha;refine⟨_,G8 pa,fun δ z hz G0 H0 G H σ ts Q R0 k=>?_⟩;obtain⟨i,h3,rfl⟩:=aC.mp hz;exact ka δ _ h3 G0 H0 G H σ ts _ R0 fun G1 H1 R1=>k _ _ R1
def UH{op:BoolOp}(ha:DT X a fa):DW X (.BoolOp op [a] pos) fa:=by
 obtain⟨ta,pa,ka⟩:=ha;cases op
 ·exact⟨_,P6 pa,ka⟩
 ·exact⟨_,O0 pa,ka⟩
def WH{rest:List Expr}(ha:DT X a fa)(hb:DW X (.BoolOp .Or (b::rest) pos) fb):DW X (.BoolOp .Or (a::b::rest) pos) (fun δ=>(fa δ).bind fun c=>if c=true then some true else fb δ):=by
 obtain⟨ta,pa,ka⟩:=ha;obtain⟨tb,pb,kb⟩:=hb;refine⟨_,Rf pa pb,fun δ z hz G0 H0 G H σ ts Q R0 k=>?_⟩;obtain⟨i,h3,h4⟩:=aB.mp hz;refine ka δ _ h3 G0 H0 G H σ ts _ R0 fun G1 H1 R1=>?_;split
 ·rename_i hc;rw [if_pos hc]at h4;cases h4;exact k _ _ R1
 ·rename_i hc;rw [if_neg hc]at h4;exact kb δ z h4 G0 H0 G1 H1 σ ts Q R1 k
variable{fs:Dv→Option (List PD)}
def AG:DA X [] (fun _=>some []):=⟨_,BB,fun δ xs h G0 H0 G H σ ts Q R0 k=>by cases h;exact k [] G H (by simpa using R0) rfl⟩
def AA(ha:DE X e f)(hr:DA X es fs)(hs:starEach (e::es) X.env=(false,eval e X.env)::starEach es X.env:=by rfl):DA X (e::es) (fun δ=>(f δ).bind fun x=>(fs δ).map fun xs=>x::xs):=by
 obtain⟨ta,pa,ka⟩:=ha;obtain⟨tr,pr,kr⟩:=hr;refine⟨_,Ac pa pr hs,fun δ z hz G0 H0 G H σ ts Q R0 k=>?_⟩;obtain⟨x,h1,h2⟩:=aB.mp hz;obtain⟨xs,h3,rfl⟩:=aC.mp h2;refine ka δ x h1 G0 H0 G H σ ts _ R0 fun u G1 H1 R1=>?_;refine kr δ xs h3 G0 H0 G1 H1 σ _ _ R1 fun vs G2 H2 R2 hl=>?_;refine k (u::vs) G2 H2 (R2.less fun q hq=>?_) (by simp [hl]);simp only [List.zip_cons_cons,List.cons_append,List.mem_cons,List.mem_append]at hq ⊢;rcases hq with h|h|h
 ·exact .inr (.inl h)
 ·exact .inl h
 ·exact .inr (.inr h)
def Wx{G:Hp}:∀ {xs:List PD} {vs:List V},vs.length=xs.length→(∀q∈xs.zip vs,Du G q.1 q.2)→Ai G xs vs
 |[],vs,hl,_=>by rw [List.eq_nil_of_length_eq_zero hl];exact .nil
 |x::xs,[],hl,_=>by simp at hl
 |x::xs,v::vs,hl,h=>.cons (h (x,v) (by simp)) (Wx (by simpa using hl) fun q hq=>h q (by simp [hq]))
def Rw.args{G0 H0 G H:Hp}{σ:St}{δ:Dv}{ts:List (PD×V)}{xs:List PD}{vs:List V}(r:Rw G0 H0 G H σ δ (xs.zip vs++ts))(hl:vs.length=xs.length):Ai G xs vs∧Rw G0 H0 G H σ δ ts :=
 ⟨Wx hl fun q hq=>r.Ba q (bN _ hq),r.less fun q hq=>aV _ hq⟩
def Rw.UO{G0 H0 G H:Hp}{σ:St}{δ:Dv}{ts:List (PD×V)}{xs:List PD}{vs:List V}{p:AD}(r:Rw G0 H0 G H σ δ ts)(d:Ai G xs vs)(hp:H p=none):Rw G0 H0 (upd G p (.lst vs)) (upd H p (.lst vs)) σ δ ((.list xs,.ref p)::ts):=by
 refine(r.newObj hp).put ?_;have e:AO G (upd G p (.lst vs)):=fun a o h=>by rw [AM (Ah (r.ins _ _ h) hp)];exact h
 rw [Du];exact⟨p,vs,rfl,AZ,d.same e⟩
def Rw.Wj{G0 H0 G H:Hp}{σ:St}{δ:Dv}{ts:List (PD×V)}{xs:List PD}{vs:List V}{p:AD}(r:Rw G0 H0 G H σ δ ts)(d:Ai G xs vs)(hp:H p=none):Rw G0 H0 (upd G p (.tup vs)) (upd H p (.tup vs)) σ δ ((.tuple xs,.ref p)::ts):=by
 refine(r.newObj hp).put ?_;have e:AO G (upd G p (.tup vs)):=fun a o h=>by rw [AM (Ah (r.ins _ _ h) hp)];exact h
 rw [Du];exact⟨p,vs,rfl,AZ,d.same e⟩
def HL(xs:List PD):Option (List PD):=if xs.length≤Bm then some xs else none
def L6{xs ys:List PD}(h:HL xs=some ys):xs=ys∧xs.length≤Bm:=by
 unfold HL at h;split at h
 ·rename_i q;cases h;exact⟨rfl,q⟩
 ·cases h
def B8{x1}(ha:DA X es fs):DE X (.Tuple es x1 pos) (fun δ=>((fs δ).bind HL).map .tuple):=by
 obtain⟨ta,pa,ka⟩:=ha;refine⟨_,Oz pa,fun δ z hz G0 H0 G H σ ts Q R0 k=>?_⟩;obtain⟨ys,h1,rfl⟩:=aC.mp hz;obtain⟨xs,h2,h3⟩:=aB.mp h1;obtain⟨rfl,hl⟩:=L6 h3;refine ka δ _ h2 G0 H0 G H σ ts _ R0 fun vs G1 H1 R1 hv=>?_;obtain⟨d,R2⟩:=R1.args hv;exact⟨Ff (by rw [hv];exact hl),fun q hq=>k _ _ _ (R2.Wj d hq)⟩
def Gf(ha:DA X es fs):DE X (.List es pos) (fun δ=>((fs δ).bind HL).map .list):=by
 obtain⟨ta,pa,ka⟩:=ha;refine⟨_,Yi pa,fun δ z hz G0 H0 G H σ ts Q R0 k=>?_⟩;obtain⟨ys,h1,rfl⟩:=aC.mp hz;obtain⟨xs,h2,h3⟩:=aB.mp h1;obtain⟨rfl,hl⟩:=L6 h3;refine ka δ _ h2 G0 H0 G H σ ts _ R0 fun vs G1 H1 R1 hv=>?_;obtain⟨d,R2⟩:=R1.args hv;exact⟨Ff (by rw [hv];exact hl),fun q hq=>k _ _ _ (R2.UO d hq)⟩
def Ai.FP{H:Hp}{ds:List PD}{xs:List V}{i:Int}{d:PD}(h:Ai H ds xs)(e:FP ds i=some d):∃v,FP xs i=some v∧Du H d v:=by
 unfold L2.FP at e ⊢;rw [h.len];obtain⟨j,h1,h2⟩:=aB.mp e;obtain⟨v,h3,h4⟩:=h.get h2;exact⟨v,by rw [h1];exact h3,h4⟩
def Qz{G:Hp}:∀ns:List Int,Ai G (ns.map .int) (ns.map V.int)
 |[]=>.nil
 |n::ns=>.cons (by rw [Du]) (Qz ns)
def CP:PD→PD→Option PD:=fun x y=>match x,y with
 |.list xs,.int i=>FP xs i
 |.tuple xs,.int i=>FP xs i
 |.dict [(.none,.list xs)],.int i=>FP xs i
 |.str z,.int i=>if z.length≤Bm then(FP z.cps.toList i).map fun c=>.str ⟨#[c]⟩ else none
 |_,_=>none
def Bt(ha:DE X a f)(hb:DE X b g)(hs:Qi b):DE X (.Subscript a b pos) (AQ CP f g):=by
 obtain⟨ta,pa,ka⟩:=ha;obtain⟨tb,pb,kb⟩:=hb;refine⟨_,Cp fh pa pb hs,fun δ z hz G0 H0 G H σ ts Q R0 k=>?_⟩;obtain⟨x,y,h1,h2,h3⟩:=two (x:=.none) (y:=.none) hz;refine ka δ x h1 G0 H0 G H σ ts _ R0 fun u G1 H1 R1=>?_;refine kb δ y h2 G0 H0 G1 H1 σ _ _ R1 fun v G2 H2 R2=>?_;have du:=R2.Ba (x,u) (.tail _ (.head _));have dv:=R2.Ba (y,v) (.head _);unfold CP at h3;split at h3
 ·rw [Du]at du;rw [Du]at dv;obtain⟨p,xs,rfl,h4,h5⟩:=du;obtain⟨w,h6,h7⟩:=h5.FP h3;exact .inl ⟨p,xs,_,w,rfl,dv,A3.of (R2.ins _ _ h4),h6,k _ _ _ (R2.drop.drop.put h7)⟩
 ·rw [Du]at du;rw [Du]at dv;obtain⟨p,xs,rfl,h4,h5⟩:=du;obtain⟨w,h6,h7⟩:=h5.FP h3;exact .inr (.inl ⟨p,xs,_,w,rfl,dv,BF.of (R2.ins _ _ h4),h6,k _ _ _ (R2.drop.drop.put h7)⟩)
 ·rw [Du]at du;rw [Du]at dv;rcases du with ⟨ea,C,e1,_⟩|⟨p,ns,e1,rfl,h4⟩|z
  rotate_left 2
  ·rw [Jx]at z;cases z.1
  ·simp at e1
  ·obtain rfl:_=ns.map PyData.int:=by simpa using e1
   obtain⟨w,h6,h7⟩:=(Qz (G:=_) ns).FP h3;exact .inl ⟨p,_,_,w,rfl,dv,.inl (h4.same R2.ins),h6,k _ _ _ (R2.drop.drop.put h7)⟩
 ·rw [Du]at du;rw [Du]at dv;split at h3
  ·rename_i hl;obtain⟨ch,h6,rfl⟩:=aC.mp h3;exact .inr (.inr ⟨_,_,ch,du,dv,Ff hl,h6,k _ _ _ (R2.drop.drop.put (by rw [Du]))⟩)
  ·cases h3
 ·cases h3
end
def BJ(g:MD):Sp:=fun vs H Q _=>∃ds x G,g ds=some x∧Ai G ds vs∧AO G H∧∀v G' H',AO G G'→Nw G H G'→AO G' H'→AO H H'→Du G' x v→Q v H'
section
variable{X:Cx}{a b c e:Expr}{es:List Expr}{f g h:Dv→Option PD}{fs:Dv→Option (List PD)}{pos p:Pos}
def AX{k:Nat}{fA:AD}{fd:FuncData}{ps:List Str}{m:MD}{x:Str}{st:Stmt}(T:Fn X.K X.mg x st ps fA fd)(F:AN X.prog X.w X.K X.mg X.base Ar k fA fd ps (BJ m))(hr:DN k X.A)(hg:Gl X x)(ha:DA X (e::es) fs)
 (hdb:(x==("__debug__" : Str))=false:=by decide)(he:starEach (e::es) X.env=(false,eval e X.env)::starEach es X.env:=by rfl)(hpl:(backTo pos (starEach es X.env)).any (·.1)=false:=by rfl) :
  DE X (.Call (.Name x p) (e::es) [] pos) (fun δ=>(fs δ).bind m):=by
 obtain⟨ta,pa,ka⟩:=ha;refine⟨_,Fo T F hr hg pa hdb he hpl,fun δ z hz G0 H0 G H σ ts Q R0 k=>?_⟩;obtain⟨xs,h1,h2⟩:=aB.mp hz;refine ka δ _ h1 G0 H0 G H σ ts _ R0 fun vs G1 H1 R1 hv=>?_;obtain⟨d,R2⟩:=R1.args hv;refine⟨xs,z,G1,h2,by rw [List.append_nil];exact d,R2.ins,fun v G' H' h3 h4 h5 h6 h7=>?_⟩;exact k _ _ _ ((R2.lift h3 h4 h5 h6).put h7)
def LO(X:Cx)(v:VL)(o:MD):Prop:=∃r,ED X v r∧∀xs z,o xs=some z→∀G0 H0 G H σ δ ts us (Q:VK),Rw G0 H0 G H σ δ ts→Ai G xs us→(∀w G' H',Rw G0 H0 G' H' σ δ ((z,w)::ts)→Q w H')→r us H Q
def Fb{x:Str}{id:String}{o:MD}(hc:LO X (.builtin id) o)(hg:Gl X x)(hm:X.mg x=none)(hv:bootBuiltins x=some (.builtin id))(ha:DA X (e::es) fs)(hn:x ≠ "__name__" := by decide)(hdb:(x==("__debug__" : Str))=false:=by decide)
 (he:starEach (e::es) X.env=(false,eval e X.env)::starEach es X.env:=by rfl)(hpl:(backTo pos (starEach es X.env)).any (·.1)=false:=by rfl):DE X (.Call (.Name x p) (e::es) [] pos) (fun δ=>(fs δ).bind o):=by
 obtain⟨r,hr,kr⟩:=hc;obtain⟨ta,pa,ka⟩:=ha;refine⟨_,Cy hr hg hm hv pa hn hdb he hpl,fun δ z hz G0 H0 G H σ ts Q R0 k=>?_⟩;obtain⟨xs,h1,h2⟩:=aB.mp hz;refine ka δ _ h1 G0 H0 G H σ ts _ R0 fun vs G1 H1 R1 hv=>?_;obtain⟨d,R2⟩:=R1.args hv;exact kr xs z h2 G0 H0 G1 H1 σ δ ts vs Q R2 d k
def Xg{x:Str}{T:String}{o:MD}(hc:LO X (.type T) o)(hg:Gl X x)(hm:X.mg x=none)(hv:bootBuiltins x=some (.type T))(ha:DA X (e::es) fs)(hn:x ≠ "__name__" := by decide)(hdb:(x==("__debug__" : Str))=false:=by decide)
 (he:starEach (e::es) X.env=(false,eval e X.env)::starEach es X.env:=by rfl)(hpl:(backTo pos (starEach es X.env)).any (·.1)=false:=by rfl):DE X (.Call (.Name x p) (e::es) [] pos) (fun δ=>(fs δ).bind o):=by
 obtain⟨r,hr,kr⟩:=hc;obtain⟨ta,pa,ka⟩:=ha;refine⟨_,RA hr hg hm hv pa hn hdb he hpl,fun δ z hz G0 H0 G H σ ts Q R0 k=>?_⟩;obtain⟨xs,h1,h2⟩:=aB.mp hz;refine ka δ _ h1 G0 H0 G H σ ts _ R0 fun vs G1 H1 R1 hv=>?_;obtain⟨d,R2⟩:=R1.args hv;exact kr xs z h2 G0 H0 G1 H1 σ δ ts vs Q R2 d k
def Ai.HG{H:Hp}{d:PD}{xs:List V}(h:Ai H [d] xs):∃x,xs=[x]∧Du H d x:=by
 obtain⟨x,r,rfl,h1,h2⟩:=h.un;rw [h2.nil_eq];exact⟨x,rfl,h1⟩
def Ai.NW{H:Hp}{d e:PD}{xs:List V}(h:Ai H [d,e] xs):∃x y,xs=[x,y]∧Du H d x∧Du H e y:=by
 obtain⟨x,r,rfl,h1,h2⟩:=h.un;obtain⟨y,rfl,h3⟩:=h2.HG;exact⟨x,y,rfl,h1,h3⟩
def Ji:MD
 |[.list xs]=>some (.int xs.length)
 |[.tuple xs]=>some (.int xs.length)
 |[.dict [(.none,.list xs)]]=>some (.int xs.length)
 |_=>none
def MO:LO X (.builtin "len") Ji:=by
 refine⟨_,Mc,fun xs z hz G0 H0 G H σ δ ts us Q R0 d k=>?_⟩;unfold Ji at hz;split at hz
 ·cases hz;obtain⟨u,rfl,du⟩:=d.HG;rw [Du]at du;obtain⟨p,ys,rfl,h4,h5⟩:=du;refine⟨p,ys,rfl,.inl (A3.of (R0.ins _ _ h4)),?_⟩;rw [h5.len];exact k _ _ _ (R0.put (by rw [Du]))
 ·cases hz;obtain⟨u,rfl,du⟩:=d.HG;rw [Du]at du;obtain⟨p,ys,rfl,h4,h5⟩:=du;refine⟨p,ys,rfl,.inr (BF.of (R0.ins _ _ h4)),?_⟩;rw [h5.len];exact k _ _ _ (R0.put (by rw [Du]))
 ·cases hz;obtain⟨u,rfl,du⟩:=d.HG;rw [Du]at du;rcases du with ⟨ea,C,e1,_⟩|⟨p,ns,e1,rfl,h4⟩|z
  rotate_left 2
  ·rw [Jx]at z;cases z.1
  ·simp at e1
  ·obtain rfl:_=ns.map PyData.int:=by simpa using e1
   refine⟨p,_,rfl,.inl (.inl (h4.same R0.ins)),?_⟩;rw [List.length_map]at k ⊢;exact k _ _ _ (R0.put (by rw [Du]))
 ·cases hz
def OX:MD
 |[.list xs]=>some (.tuple xs)
 |[.tuple xs]=>some (.tuple xs)
 |_=>none
def bh:LO X (.type "tuple") OX:=by
 refine⟨_,RP,fun xs z hz G0 H0 G H σ δ ts us Q R0 d k=>?_⟩;unfold OX at hz;split at hz
 ·cases hz;obtain⟨u,rfl,du⟩:=d.HG;rw [Du]at du;obtain⟨p,ys,rfl,h4,h5⟩:=du;exact⟨p,ys,rfl,.inl ⟨A3.of (R0.ins _ _ h4),fun l hl=>k _ _ _ (R0.Wj h5 hl)⟩⟩
 ·cases hz;obtain⟨u,rfl,du⟩:=d.HG;have du':=du;rw [Du]at du;obtain⟨p,ys,rfl,h4,h5⟩:=du;exact⟨p,ys,rfl,.inr ⟨BF.of (R0.ins _ _ h4),k _ _ _ (R0.put du')⟩⟩
 ·cases hz
end
inductive Ou where
 |nx (δ:Dv)|rt (x:PyData)|bk (δ:Dv)|ct (δ:Dv)|rn (xs:List PyData)
def Fin(G0 H0:Hp)(D:Ends):Ou→Prop
 |.nx δ=>∀σ G H,Rw G0 H0 G H σ δ []→D.nx σ H
 |.rt x=>∀v G H,AO G0 G→Nw G0 H0 G→AO G H→AO H0 H→Du G x v→D.rt v H
 |.bk δ=>∀σ G H,Rw G0 H0 G H σ δ []→D.bk σ H
 |.ct δ=>∀σ G H,Rw G0 H0 G H σ δ []→D.ct σ H
 |.rn xs=>∀a ys G H,AO G0 G→Nw G0 H0 G→AO G H→AO H0 H→H0 a=none→G a=none→H a=some (.lst ys)→Ai G xs ys→D.rt (.ref a) H
abbrev DF:=Dv→Option Ou
def DS(X:Cx)(st:Stmt)(F:DF):Prop:=∃t,PS X st t∧∀δ r,F δ=some r→∀G0 H0 G H σ D,Rw G0 H0 G H σ δ []→Fin G0 H0 D r→t D σ H
def O1(X:Cx)(st:List Stmt)(F:DF):Prop:=∃t,HI X st t∧∀δ r,F δ=some r→∀G0 H0 G H σ D,Rw G0 H0 G H σ δ []→Fin G0 H0 D r→t D σ H
def Ap(F1 F2:DF)(δ:Dv):Option Ou:=match F1 δ with
 |some (.nx δ')=>F2 δ'
 |o=>o
section
variable{X:Cx}{a b c e:Expr}{es:List Expr}{f g h:Dv→Option PD}{fs:Dv→Option (List PD)}{fa:Dv→Option Bool}{pos p:Pos}{st:Stmt}{sts sts':List Stmt}{F F1 F2:DF}
def Iy:O1 X [] (fun δ=>some (.nx δ)):=⟨_,Dw,fun δ r h G0 H0 G H σ D R k=>by cases h;exact k _ _ _ R⟩
def AR(h1:DS X st F1)(h2:O1 X sts F2):O1 X (st::sts) (Ap F1 F2):=by
 obtain⟨t1,p1,k1⟩:=h1;obtain⟨t2,p2,k2⟩:=h2;refine⟨_,BG p1 p2,fun δ r h G0 H0 G H σ D R k=>?_⟩;unfold Ap at h;split at h
 ·rename_i δ' e1;exact k1 δ _ e1 G0 H0 G H σ _ R fun σ' G' H' R'=>k2 δ' r h G0 H0 G' H' σ' D R' k
 ·rename_i hne;refine k1 δ r h G0 H0 G H σ _ R ?_;cases r with
  |nx δ'=>exact absurd h (hne δ')
  |rt x=>exact k
  |bk δ'=>exact k
  |ct δ'=>exact k
  |rn xs=>exact k
def Aj(h1:DS X st F1):O1 X [st] F1:=by
 obtain⟨t1,p1,k1⟩:=h1;exact⟨_,A5 p1,k1⟩
def Ct(he:DE X e f):DS X (.Return (some e) pos) (fun δ=>(f δ).map .rt):=by
 obtain⟨t,p,k⟩:=he;refine⟨_,CN p,fun δ r h G0 H0 G H σ D R q=>?_⟩;obtain⟨x,h1,rfl⟩:=aC.mp h;exact k δ x h1 G0 H0 G H σ [] _ R fun v G' H' R'=>q v G' H' R'.ext R'.new R'.ins R'.keep (R'.Ba _ (.head _))
def VF(he:DE X e f)(hs:swapsWith e none pos.line X.env=pure false:=by rfl):DS X (.Expr e pos) (fun δ=>(f δ).map fun _=>.nx δ):=by
 obtain⟨t,p,k⟩:=he;refine⟨_,D9 p hs,fun δ r h G0 H0 G H σ D R q=>?_⟩;obtain⟨x,h1,rfl⟩:=aC.mp h;exact k δ x h1 G0 H0 G H σ [] _ R fun v G' H' R'=>q _ _ _ R'.drop
def My(hc:DT X c fa)(h1:O1 X sts F1)(h2:O1 X sts' F2):DS X (.If c sts sts' pos) (fun δ=>(fa δ).bind fun c=>if c=true then F1 δ else F2 δ):=by
 obtain⟨tc,pc,kc⟩:=hc;obtain⟨t1,p1,k1⟩:=h1;obtain⟨t2,p2,k2⟩:=h2;refine⟨_,Fe pc p1 p2,fun δ r h G0 H0 G H σ D R q=>?_⟩;obtain⟨i,h3,h4⟩:=aB.mp h;refine kc δ i h3 G0 H0 G H σ [] _ R fun G' H' R'=>?_;split
 ·rename_i hc;rw [if_pos hc]at h4;exact k1 δ r h4 G0 H0 G' H' σ D R' q
 ·rename_i hc;rw [if_neg hc]at h4;exact k2 δ r h4 G0 H0 G' H' σ D R' q
end
section
variable{G0 H0 G H:Hp}{σ:St}{δ:Dv}{ts:List (PD×V)}
def Rw.Gs{i:Nat}{x:PD}{v:V}(r:Rw G0 H0 G H σ δ ((x,v)::ts)):Rw G0 H0 G H (σ.set i (some v)) (δ.set i (.d x)) ts:=by
 have hl:=r.len;refine⟨r.ext,r.new,r.ins,r.keep,by simp [hl],fun j y h=>?_,fun j ys h=>?_,fun j l ys zs hjl h1 h2=>?_,fun q hq=>r.Ba q (.tail _ hq)⟩
 ·by_cases hj:i=j
  ·subst hj;by_cases hi:i<δ.length
   ·rw [List.getElem?_set_self hi]at h;cases h;exact⟨v,by rw [List.getElem?_set_self (by omega)],r.Ba _ (.head _)⟩
   ·rw [List.getElem?_eq_none (by simp;omega)]at h;cases h
  ·rw [List.getElem?_set_ne hj]at h;obtain⟨w,k1,k2⟩:=r.dat j y h;exact⟨w,by rw [List.getElem?_set_ne hj];exact k1,k2⟩
 ·by_cases hj:i=j
  ·subst hj;by_cases hi:i<δ.length
   ·rw [List.getElem?_set_self hi]at h;cases h
   ·rw [List.getElem?_eq_none (by simp;omega)]at h;cases h
  ·rw [List.getElem?_set_ne hj]at h;obtain⟨w,k1,k2,k3⟩:=r.own j ys h;exact⟨w,k1,by rw [List.getElem?_set_ne hj];exact k2,k3⟩
 ·have nj:i≠j:=fun z=>by
   subst z;by_cases hi:i<δ.length
   ·rw [List.getElem?_set_self hi]at h1;cases h1
   ·rw [List.getElem?_eq_none (by simp;omega)]at h1;cases h1
  have nl:i≠l:=fun z=>by
   subst z;by_cases hi:i<δ.length
   ·rw [List.getElem?_set_self hi]at h2;cases h2
   ·rw [List.getElem?_eq_none (by simp;omega)]at h2;cases h2
  rw [List.getElem?_set_ne nj]at h1 ⊢;rw [List.getElem?_set_ne nl]at h2 ⊢;exact r.apart j l ys zs hjl h1 h2
end
section
variable{X:Cx}{e:Expr}{f:Dv→Option PD}{pos p:Pos}
def B2{i:Nat}{x:Str}{pos':Pos}(hN:X.N.Nodup)(hi:X.N[i]? = some x)(hx:Loc X.env.scope x)(he:DE X e f)(hs:swapsWith e (some (.Name x pos')) pos.line X.env=pure false:=by rfl)(hf:X.fn x=true∨X.env.scope.names.lookup x=some .local:=by first|exact .inl rfl|exact .inr rfl|assumption) :
  DS X (.Assign [.Name x pos'] e pos) (fun δ=>(f δ).map fun y=>.nx (δ.set i (.d y))):=by
 obtain⟨t,p,k⟩:=he;refine⟨_,CV hN hi hx p hs hf,fun δ r h G0 H0 G H σ D R q=>?_⟩;obtain⟨y,h1,rfl⟩:=aC.mp h;exact k δ y h1 G0 H0 G H σ [] _ R fun v G' H' R'=>q _ _ _ R'.Gs
end
section
variable{G0 H0 G H:Hp}{σ:St}{δ:Dv}{ts:List (PD×V)}
def Rw.base(r:Rw G0 H0 G H σ δ ts):Rw G H0 G H σ δ ts:={ r with ext:=AO.refl G,new:=fun _ _ h=>.inl h }
def Nw.trans{G1 G2:Hp}(a:Nw G0 H0 G1)(b:Nw G1 H0 G2):Nw G0 H0 G2:=fun c o h=>by
 rcases b c o h with z|z|z
 ·exact a c o z
 ·exact .inr (.inl z)
 ·exact .inr (.inr z)
def Rw.UI{G' H':Hp}{σ':St}{δ':Dv}{ts':List (PD×V)}(r:Rw G0 H0 G H σ δ ts)(q:Rw G H0 G' H' σ' δ' ts'):Rw G0 H0 G' H' σ' δ' ts':={ q with ext:=r.ext.trans q.ext,new:=r.new.trans q.new }
def Ef(i:Nat)(δ:Dv):Dv:=match δ[i]? with
 |some (.own (.lst xs))=>δ.set i (.d (.list xs))
 |some (.own (.Cr kvs))=>δ.set i (.d (Aq kvs))
 |_=>δ
def Rw.letGo{i:Nat}{c:Oc}{x:PD}(r:Rw G0 H0 G H σ δ ts)(hi:δ[i]? = some (.own c))(hx:∀a o,G a=none→IQ G a c o→Du (upd G a o) x (.ref a)):∃a o,σ[i]? = some (some (.ref a))∧G a=none∧H0 a=none∧H a=some o∧IQ G a c o∧Rw G0 H0 (upd G a o) H σ (δ.set i (.d x)) ts:=by
 obtain⟨a,o,k1,k2,k3,k4,k5⟩:=r.own i _ hi;have e:AO G (upd G a o):=Bg k2 _;have hlt:i<δ.length:=(aE.mp hi).1;refine⟨a,o,k1,k2,k3,k4,k5,r.ext.trans e,fun b o' h=>?_,fun b o' h=>?_,r.keep,by simp [r.len],fun j y h=>?_,fun j zs h=>?_,fun j l us ws hjl h1 h2=>?_,fun q hq=>(r.Ba q hq).same e⟩
 ·by_cases hb:b=a
  ·subst hb;exact .inr (.inl k3)
  ·rw [AM hb]at h;exact r.new _ _ h
 ·by_cases hb:b=a
  ·subst hb;rw [AZ]at h;rw [k4];exact h
  ·rw [AM hb]at h;exact r.ins _ _ h
 ·by_cases hj:i=j
  ·subst hj;rw [List.getElem?_set_self hlt]at h;cases h;exact⟨.ref a,k1,hx a o k2 k5⟩
  ·rw [List.getElem?_set_ne hj]at h;obtain⟨w,m1,m2⟩:=r.dat j y h;exact⟨w,m1,m2.same e⟩
 ·by_cases hj:i=j
  ·subst hj;rw [List.getElem?_set_self hlt]at h;cases h
  ·rw [List.getElem?_set_ne hj]at h;obtain⟨b,us,m1,m2,m3,m4,m5⟩:=r.own j zs h;have nb:b≠a:=fun z=>by subst z;exact r.apart i j _ zs hj hi h (by rw [k1,m1])
   exact⟨b,us,m1,by rw [AM nb];exact m2,m3,m4,m5.same e⟩
 ·have nj:i≠j:=fun z=>by subst z;rw [List.getElem?_set_self hlt]at h1;cases h1
  have nl:i≠l:=fun z=>by subst z;rw [List.getElem?_set_self hlt]at h2;cases h2
  rw [List.getElem?_set_ne nj]at h1;rw [List.getElem?_set_ne nl]at h2;exact r.apart j l us ws hjl h1 h2
def gu{a:AD}{o:HO}{xs:List PD}(hG:G a=none)(h:IQ G a (.lst xs) o):Du (upd G a o) (.list xs) (.ref a):=by
 obtain⟨ys,rfl,k5⟩:=h;rw [Du];exact⟨a,ys,rfl,AZ,k5.same (Bg hG _)⟩
def Tn{a:AD}{o:HO}{kvs:List (Option Tr×PD)}(hG:G a=none)(h:IQ G a (.Cr kvs) o):Du (upd G a o) (Aq kvs) (.ref a):=by
 obtain⟨r,rfl,n,k5⟩:=h;rw [Du,Jx];exact .inr (.inr ⟨rfl,rfl,a,r,rfl,AZ,n,Eo.same (Bg hG _) k5⟩)
def Rw.Ef(i:Nat)(r:Rw G0 H0 G H σ δ ts):∃G',Rw G0 H0 G' H σ (L2.Ef i δ) ts:=by
 unfold L2.Ef;split
 ·rename_i xs hi;obtain⟨a,o,_,_,_,_,_,R⟩:=r.letGo (x:=.list xs) hi fun a o h=>gu h;exact⟨_,R⟩
 ·rename_i kvs hi;obtain⟨a,o,_,_,_,_,_,R⟩:=r.letGo (x:=Aq kvs) hi fun a o h=>Tn h;exact⟨_,R⟩
 ·exact⟨G,r⟩
def Rw.PX{i:Nat}{xs:Oc}{ys:HO}{a:AD}(r:Rw G0 H0 G H σ δ ts)(d:IQ G a xs ys)(ha:H a=none):Rw G0 H0 G (upd H a ys) (σ.set i (some (.ref a))) (δ.set i (.own xs)) ts:=by
 have hG:G a=none:=by
  cases q:G a with
  |none=>rfl
  |some u=>rw [r.ins _ _ q]at ha;cases ha
 have h0:H0 a=none:=by
  cases q:H0 a with
  |none=>rfl
  |some u=>rw [r.keep _ _ q]at ha;cases ha
 have e:AO H (upd H a ys):=Bg ha _;have hl:=r.len;have other:∀(j:Nat) (zs:Oc),i≠j→(δ.set i (.own xs))[j]? = some (L.own zs)→δ[j]? = some (L.own zs):=fun j zs hj h=>by rw [List.getElem?_set_ne hj]at h;exact h
 have nota:∀(j:Nat) (zs:Oc),δ[j]? = some (L.own zs)→σ[j]?≠some (some (V.ref a)):=fun j zs h z=>by
  obtain⟨b,us,m1,m2,m3,m4,m5⟩:=r.own j zs h;rw [z]at m1;cases m1;rw [m4]at ha;cases ha
 refine⟨r.ext,r.new,r.ins.trans e,r.keep.trans e,by simp [hl],fun j y h=>?_,fun j zs h=>?_,fun j l us ws hjl h1 h2=>?_,r.Ba⟩
 ·by_cases hj:i=j
  ·subst hj;by_cases hi:i<δ.length
   ·rw [List.getElem?_set_self hi]at h;cases h
   ·rw [List.getElem?_eq_none (by simp;omega)]at h;cases h
  ·rw [List.getElem?_set_ne hj]at h;obtain⟨w,m1,m2⟩:=r.dat j y h;exact⟨w,by rw [List.getElem?_set_ne hj];exact m1,m2⟩
 ·by_cases hj:i=j
  ·subst hj;by_cases hi:i<δ.length
   ·rw [List.getElem?_set_self hi]at h;cases h;exact⟨a,ys,by rw [List.getElem?_set_self (by omega)],hG,h0,AZ,d⟩
   ·rw [List.getElem?_eq_none (by simp;omega)]at h;cases h
  ·have h:=other j zs hj h;obtain⟨b,us,m1,m2,m3,m4,m5⟩:=r.own j zs h;exact⟨b,us,by rw [List.getElem?_set_ne hj];exact m1,m2,m3,e _ _ m4,m5⟩
 ·by_cases hj:i=j
  ·subst hj;have hl2:i≠l:=hjl;have h2:=other l ws hl2 h2;by_cases hi:i<δ.length
   ·rw [List.getElem?_set_self (by omega),List.getElem?_set_ne hl2];exact fun z=>nota l ws h2 z.symm
   ·rw [List.getElem?_eq_none (by simp;omega)]at h1;cases h1
  ·have h1:=other j us hj h1;by_cases hk:i=l
   ·subst hk;by_cases hi:i<δ.length
    ·rw [List.getElem?_set_self (by omega),List.getElem?_set_ne hj];exact fun z=>nota j us h1 z
    ·rw [List.getElem?_eq_none (by simp;omega)]at h2;cases h2
   ·have h2:=other l ws hk h2;rw [List.getElem?_set_ne hj,List.getElem?_set_ne hk];exact r.apart j l us ws hjl h1 h2
def Rw.Rh{i:Nat}{xs xs':Oc}{ys:HO}{a:AD}(r:Rw G0 H0 G H σ δ ts)(hi:δ[i]? = some (.own xs))(ha:σ[i]? = some (some (.ref a)))(d:IQ G a xs' ys):Rw G0 H0 G (upd H a ys) σ (δ.set i (.own xs')) ts:=by
 obtain⟨a',ys0,k1,k2,k3,k4,k5⟩:=r.own i xs hi;rw [ha]at k1;cases k1;have hlt:i<δ.length:=(aE.mp hi).1;have hl:=r.len;refine⟨r.ext,r.new,fun b o h=>?_,fun b o h=>?_,by simp [hl],fun j y h=>?_,fun j zs h=>?_,fun j l us ws hjl h1 h2=>?_,r.Ba⟩
 ·rw [AM (fun z=>by subst z;rw [k2]at h;cases h)];exact r.ins _ _ h
 ·rw [AM (fun z=>by subst z;rw [k3]at h;cases h)];exact r.keep _ _ h
 ·by_cases hj:i=j
  ·subst hj;rw [List.getElem?_set_self hlt]at h;cases h
  ·rw [List.getElem?_set_ne hj]at h;exact r.dat j y h
 ·by_cases hj:i=j
  ·subst hj;rw [List.getElem?_set_self hlt]at h;cases h;exact⟨a,ys,ha,k2,k3,AZ,d⟩
  ·rw [List.getElem?_set_ne hj]at h;obtain⟨b,us,m1,m2,m3,m4,m5⟩:=r.own j zs h;have nb:b≠a:=fun z=>by subst z;exact r.apart i j xs zs hj hi h (by rw [ha,m1])
   exact⟨b,us,m1,m2,m3,by rw [AM nb];exact m4,m5⟩
 ·have f:∀(j:Nat) (us:Oc),(δ.set i (.own xs'))[j]? = some (L.own us)→∃us',δ[j]? = some (L.own us'):=fun j us h=>by
   by_cases hj:i=j
   ·subst hj;exact⟨xs,hi⟩
   ·rw [List.getElem?_set_ne hj]at h;exact⟨us,h⟩
  obtain⟨us',h1⟩:=f j us h1;obtain⟨ws',h2⟩:=f l ws h2;exact r.apart j l us' ws' hjl h1 h2
end
section
variable{X:Cx}{a b c e:Expr}{es:List Expr}{f g h:Dv→Option PD}{fs:Dv→Option (List PD)}{fa:Dv→Option Bool}{pos p:Pos}{st:Stmt}{sts sts':List Stmt}{F F1 F2:DF}
def K4(i:Nat)(h1:DS X st F):DS X st (fun δ=>F (Ef i δ)):=by
 obtain⟨t,p,k⟩:=h1;refine⟨t,p,fun δ r h G0 H0 G H σ D R q=>?_⟩;obtain⟨G',R'⟩:=R.Ef i;exact k _ r h G0 H0 G' H σ D R' q
def Gr{i:Nat}{x:Str}{pos' lp:Pos}(hN:X.N.Nodup)(hi:X.N[i]? = some x)(hx:Loc X.env.scope x)(ha:DA X es fs)(hs:swapsWith (.List es lp) (some (.Name x pos')) pos.line X.env=pure false:=by rfl)(hf:X.fn x=true∨X.env.scope.names.lookup x=some .local:=by first|exact .inl rfl|exact .inr rfl|assumption) :
  DS X (.Assign [.Name x pos'] (.List es lp) pos) (fun δ=>((fs δ).bind HL).map fun ys=>.nx (δ.set i (.own (.lst ys)))):=by
 obtain⟨t,p,k⟩:=ha;refine⟨_,CV hN hi hx (Yi p) hs hf,fun δ r h G0 H0 G H σ D R q=>?_⟩;obtain⟨y,h1,rfl⟩:=aC.mp h;obtain⟨xs,h2,h3⟩:=aB.mp h1;obtain⟨rfl,hl⟩:=L6 h3;refine k δ _ h2 G0 H0 G H σ [] _ R fun vs G1 H1 R1 hv=>?_;obtain⟨d,R2⟩:=R1.args hv;exact⟨Ff (by rw [hv];exact hl),fun l hl'=>q _ _ _ (R2.PX ⟨_,rfl,d⟩ hl')⟩
def ow(i:Nat)(δ:Dv):Option (List PD):=match δ[i]? with
 |some (.own (.lst xs))=>some xs
 |_=>none
def M1{i:Nat}{δ:Dv}{xs:List PD}(h:ow i δ=some xs):δ[i]? = some (.own (.lst xs)):=by
 unfold ow at h;split at h
 ·rename_i y e;cases h;exact e
 ·cases h
def Ee{i:Nat}{x:Str}{np ap cp:Pos}(hv:PE X (.Name x np) (Lk i))(he:DE X e f)
 (hP:∀ {to:TE} {t:TA},PE X (.Name x np) to→PA X [e] t→PS X (.Expr (.Call (.Attribute (.Name x np) "append" ap) [e] [] cp) pos) (Ry (fP X.K "list" VX to t)))(hs1:starEach [e] X.env=(false,eval e X.env)::starEach [] X.env:=by rfl) :
  DS X (.Expr (.Call (.Attribute (.Name x np) "append" ap) [e] [] cp) pos) (fun δ=>(f δ).bind fun y=>(ow i δ).bind fun xs=>if xs.length<Bm then some (.nx (δ.set i (.own (.lst (xs++[y]))))) else none):=by
 obtain⟨t,p,k⟩:=he;refine⟨_,hP hv (Ac p BB hs1),fun δ r h G0 H0 G H σ D R q=>?_⟩;obtain⟨y,h1,h2⟩:=aB.mp h;obtain⟨xs,h3,h4⟩:=aB.mp h2;split at h4
 ·rename_i hl;cases h4;have hi:=M1 h3;obtain⟨a,_,k1,k2,k3,k4,⟨ys,rfl,k5⟩⟩:=R.own i _ hi;refine⟨.ref a,k1,.inl ⟨rfl,ys,A3.of k4⟩,?_⟩;refine k δ y h1 G0 H0 G H σ [] _ R fun u G1 H1 R1=>?_;obtain⟨a',_,m1,m2,m3,m4,⟨zs,rfl,m5⟩⟩:=R1.own i _ hi;rw [k1]at m1;cases m1;refine⟨a,zs,u,rfl,rfl,m4,Qb (by rw [m5.len];omega),?_⟩;exact q _ _ _ (R1.drop.Rh hi k1 ⟨_,rfl,m5.app (.cons (R1.Ba _ (.head _)) .nil)⟩)
 ·cases h4
def Qt{i:Nat}{x:Str}{np ap cp:Pos}(hv:PE X (.Name x np) (Lk i))(he:DE X e f)
 (hP:∀ {to:TE} {t:TA},PE X (.Name x np) to→PA X [e] t→PS X (.Expr (.Call (.Attribute (.Name x np) "extend" ap) [e] [] cp) pos) (Ry (fP X.K "list" VJ to t)))(hs1:starEach [e] X.env=(false,eval e X.env)::starEach [] X.env:=by rfl) :
  DS X (.Expr (.Call (.Attribute (.Name x np) "extend" ap) [e] [] cp) pos) (fun δ=>(f δ).bind fun y=>(ow i δ).bind fun xs=>match y with|.list zs=>(if xs.length+zs.length≤Bm then some (.nx (δ.set i (.own (.lst (xs++zs))))) else none)|_=>none):=by
 obtain⟨t,p,k⟩:=he;refine⟨_,hP hv (Ac p BB hs1),fun δ r h G0 H0 G H σ D R q=>?_⟩;obtain⟨y,h1,h2⟩:=aB.mp h;obtain⟨xs,h3,h4⟩:=aB.mp h2;split at h4
 ·rename_i zs;split at h4
  ·rename_i hl;cases h4;have hi:=M1 h3;obtain⟨a,_,k1,k2,k3,k4,⟨ys,rfl,k5⟩⟩:=R.own i _ hi;refine⟨.ref a,k1,.inl ⟨rfl,ys,A3.of k4⟩,?_⟩;refine k δ _ h1 G0 H0 G H σ [] _ R fun u G1 H1 R1=>?_;obtain⟨a',_,m1,m2,m3,m4,⟨us,rfl,m5⟩⟩:=R1.own i _ hi;rw [k1]at m1;cases m1;have du:=R1.Ba _ (.head _);rw [Du]at du;obtain⟨b,ws,rfl,n1,n2⟩:=du;refine⟨a,b,us,ws,rfl,rfl,m4,R1.ins _ _ n1,Ff (by rw [m5.len,n2.len];exact hl),?_⟩;exact q _ _ _ (R1.drop.Rh hi k1 ⟨_,rfl,m5.app n2⟩)
  ·cases h4
 ·cases h4
def ZL{i:Nat}{x:Str}{np:Pos}(hv:PE X (.Name x np) (Lk i))(hb:DE X b g)(hs:Qi b):DE X (.Subscript (.Name x np) b pos) (fun δ=>(g δ).bind fun y=>(ow i δ).bind fun xs=>(Pa y).bind fun k=>FP xs k):=by
 obtain⟨tb,pb,kb⟩:=hb;refine⟨_,Cp U4 hv pb hs,fun δ z hz G0 H0 G H σ ts Q R0 k=>?_⟩;obtain⟨y,h1,h2⟩:=aB.mp hz;obtain⟨xs,h3,h4⟩:=aB.mp h2;obtain⟨j,h5,h6⟩:=aB.mp h4;have:=Om h5;subst this;obtain⟨a,_,k1,k2,k3,k4,⟨ys,rfl,k5⟩⟩:=R0.own i _ (M1 h3);refine⟨.ref a,k1,?_⟩;refine kb δ _ h1 G0 H0 G H σ ts _ R0 fun v G1 H1 R1=>?_;have dv:=R1.Ba _ (.head _);rw [Du]at dv;obtain⟨a',_,m1,m2,m3,m4,⟨us,rfl,m5⟩⟩:=R1.own i _ (M1 h3);rw [k1]at m1;cases m1;obtain⟨w,h7,h8⟩:=m5.FP h6;exact⟨a,us,j,w,rfl,dv,A3.of m4,h7,k _ _ _ (R1.drop.put h8)⟩
end
structure IB(J:It)(xs:List PyData)(G:Hp):Prop where
 stop:∀H,AO G H→J.stop xs.length H
 go:∀(i:Nat) (d:PyData) H,xs[i]? = some d→AO G H→J.go i H
 Ep:∀(i:Nat) (d:PyData) H x H',xs[i]? = some d→AO G H→J.Ep i H x H'→∀Gc,AO G Gc→AO Gc H→∃Gc',AO Gc Gc'∧Nw Gc H Gc'∧AO Gc' H'∧AO H H'∧Du Gc' d x
def Nw.refl{G H:Hp}:Nw G H G:=fun _ _ h=>.inl h
def fF{K:Fg}{G:Hp}{a:AD}{ys:List V}{xs:List PD}(ha:G a=some (.lst ys))(d:Ai G xs ys):IB (Vh K a) xs G where
 stop:=fun H e=>⟨ys,A3.of (e _ _ ha),by rw [d.len];exact aI _⟩
 go:=fun i x H hx e=>by
  obtain⟨v,h1,_⟩:=d.get hx;exact⟨ys,v,A3.of (e _ _ ha),h1⟩
 Ep:=fun i x H v H' hx e y Gc e1 e2=>by
  obtain⟨rfl,y⟩:=y;have h1:=y ys (A3.of (e _ _ ha));obtain⟨x',h2,h3⟩:=d.back h1;rw [hx]at h2;cases h2;exact⟨Gc,AO.refl _,Nw.refl,e2,AO.refl _,h3.same e1⟩
def jG{K:Fg}{G:Hp}{a:AD}{ys:List V}{xs:List PD}(ha:G a=some (.tup ys))(d:Ai G xs ys):IB (i6 K a) xs G where
 stop:=fun H e=>⟨ys,BF.of (e _ _ ha),by rw [d.len];exact aI _⟩
 go:=fun i x H hx e=>by
  obtain⟨v,h1,_⟩:=d.get hx;exact⟨ys,v,BF.of (e _ _ ha),h1⟩
 Ep:=fun i x H v H' hx e y Gc e1 e2=>by
  obtain⟨rfl,y⟩:=y;have h1:=y ys (BF.of (e _ _ ha));obtain⟨x',h2,h3⟩:=d.back h1;rw [hx]at h2;cases h2;exact⟨Gc,AO.refl _,Nw.refl,e2,AO.refl _,h3.same e1⟩
def GD(lo:Int)(n:Nat):List PD:=(List.range n).map fun k=>.int (lo+(k:Nat))
def XA{G:Hp}{lo:Int}{n:Nat}:IB (Xo lo n) (GD lo n) G where
 stop:=fun H e=>by show n≤_;simp [GD]
 go:=fun i x H hx e=>by
  have:=(aE.mp hx).1;show i<n
  simpa [GD]using this
 Ep:=fun i x H v H' hx e y Gc e1 e2=>by
  obtain⟨rfl,rfl⟩:=y;unfold GD at hx;rw [List.getElem?_map]at hx;obtain⟨k,h1,rfl⟩:=aC.mp hx;have hk:k=i:=by
   have:=(aE.mp h1).1;rw [List.getElem?_range (by simpa using this)]at h1;cases h1;rfl
  subst hk;exact⟨Gc,AO.refl _,Nw.refl,e2,AO.refl _,by rw [Du]⟩
def LD{Gc H:Hp}{p:AD}{d1 d2:PD}{v1 v2:V}(e2:AO Gc H)(hp:H p=none)(h1:Du Gc d1 v1)(h2:Du Gc d2 v2) :
  ∃Gc',AO Gc Gc'∧Nw Gc H Gc'∧AO Gc' (upd H p (.tup [v1,v2]))∧AO H (upd H p (.tup [v1,v2]))∧Du Gc' (.tuple [d1,d2]) (.ref p):=by
 have hG:Gc p=none:=by
  cases q:Gc p with
  |none=>rfl
  |some u=>rw [e2 _ _ q]at hp;cases hp
 have e:AO Gc (upd Gc p (.tup [v1,v2])):=Bg hG _;refine⟨upd Gc p (.tup [v1,v2]),e,fun a o h=>?_,fun a o h=>?_,Bg hp _,?_⟩
 ·by_cases ha:a=p
  ·subst ha;exact .inr (.inl hp)
  ·rw [AM ha]at h;exact .inl h
 ·by_cases ha:a=p
  ·subst ha;rw [AZ]at h ⊢;exact h
  ·rw [AM ha]at h ⊢;exact e2 _ _ h
 ·rw [Du];exact⟨p,[v1,v2],rfl,AZ,.cons (h1.same e) (.cons (h2.same e) .nil)⟩
def Jw(xs:List PD):List PD:=xs.zipIdx.map fun q=>.tuple [.int (q.2:Nat),q.1]
def KG{xs:List PD}{i:Nat}{d:PD}(h:(Jw xs)[i]? = some d):∃x,xs[i]? = some x∧d=.tuple [.int (i:Nat),x]:=by
 unfold Jw at h;rw [List.getElem?_map]at h;obtain⟨q,h1,rfl⟩:=aC.mp h;rw [List.getElem?_zipIdx]at h1;obtain⟨x,h2,rfl⟩:=aC.mp h1;exact⟨x,h2,by simp⟩
def ZK{K:Fg}{G:Hp}{a:AD}{ys:List V}{xs:List PD}(ha:G a=some (.tup ys))(d:Ai G xs ys):IB (U0 K a) (Jw xs) G where
 stop:=fun H e=>⟨ys,BF.of (e _ _ ha),by rw [d.len];simp [Jw]⟩
 go:=fun i x H hx e=>by
  obtain⟨x',h0,rfl⟩:=KG hx;obtain⟨v,h1,_⟩:=d.get h0;exact⟨ys,v,BF.of (e _ _ ha),h1⟩
 Ep:=fun i x H v H' hx e y Gc e1 e2=>by
  obtain⟨x',h0,rfl⟩:=KG hx;obtain⟨p,u,rfl,hp,rfl,y⟩:=y;have h1:=y ys (BF.of (e _ _ ha));obtain⟨x2,h2,h3⟩:=d.back h1;rw [h0]at h2;cases h2;exact LD e2 hp (by rw [Du]) (h3.same e1)
def Zn{K:Fg}{G:Hp}{a:AD}{ys:List V}{xs:List PD}(ha:G a=some (.lst ys))(d:Ai G xs ys):IB (gj K a) (Jw xs) G where
 stop:=fun H e=>⟨ys,A3.of (e _ _ ha),by rw [d.len];simp [Jw]⟩
 go:=fun i x H hx e=>by
  obtain⟨x',h0,rfl⟩:=KG hx;obtain⟨v,h1,_⟩:=d.get h0;exact⟨ys,v,A3.of (e _ _ ha),h1⟩
 Ep:=fun i x H v H' hx e y Gc e1 e2=>by
  obtain⟨x',h0,rfl⟩:=KG hx;obtain⟨p,u,rfl,hp,rfl,y⟩:=y;have h1:=y ys (A3.of (e _ _ ha));obtain⟨x2,h2,h3⟩:=d.back h1;rw [h0]at h2;cases h2;exact LD e2 hp (by rw [Du]) (h3.same e1)
def Mi(xs ys:List PD):List PD:=(xs.zip ys).map fun q=>.tuple [q.1,q.2]
def N0{xs ys:List PD}{i:Nat}{d:PD}(h:(Mi xs ys)[i]? = some d):∃x y,xs[i]? = some x∧ys[i]? = some y∧d=.tuple [x,y]:=by
 unfold Mi at h;rw [List.getElem?_map]at h;obtain⟨q,h1,rfl⟩:=aC.mp h;obtain⟨k1,k2⟩:=List.getElem?_zip_eq_some.mp h1;exact⟨q.1,q.2,k1,k2,rfl⟩
def ji{G:Hp}{b1 b2:Bool}{a1 a2:AD}{us vs:List V}{xs ys:List PD}(h1:G a1=some (if b1 then .tup us else .lst us))(h2:G a2=some (if b2 then .tup vs else .lst vs))(d1:Ai G xs us)(d2:Ai G ys vs):IB (jl b1 b2 a1 a2) (Mi xs ys) G where
 stop:=fun H e=>by
  have k1:=e _ _ h1;have k2:=e _ _ h2;refine⟨us,vs,?_,?_,?_⟩
  ·cases b1<;>simpa [E4]using k1
  ·cases b2<;>simpa [E4]using k2
  ·rw [d1.len,d2.len];simp [Mi];omega
 go:=fun i x H hx e=>by
  obtain⟨x1,x2,k1,k2,rfl⟩:=N0 hx;obtain⟨v1,k3,_⟩:=d1.get k1;obtain⟨v2,k4,_⟩:=d2.get k2;have m1:=e _ _ h1;have m2:=e _ _ h2;refine⟨us,v1,vs,v2,?_,?_,k3,k4⟩
  ·cases b1<;>simpa [E4]using m1
  ·cases b2<;>simpa [E4]using m2
 Ep:=fun i x H v H' hx e y Gc e1 e2=>by
  obtain⟨x1,x2,k1,k2,rfl⟩:=N0 hx;obtain⟨p,v1,v2,rfl,hp,rfl,y1,y2⟩:=y;have m1:=e _ _ h1;have m2:=e _ _ h2;have z1:=y1 us (by cases b1<;>simpa [E4]using m1);have z2:=y2 vs (by cases b2<;>simpa [E4]using m2);obtain⟨w1,n1,n2⟩:=d1.back z1;obtain⟨w2,n3,n4⟩:=d2.back z2;rw [k1]at n1;cases n1;rw [k2]at n3;cases n3;exact LD e2 hp (n2.same e1) (n4.same e1)
def DI(X:Cx)(tg iter:Expr)(f:Dv→Option (List PD)):Prop:=∃wi,PI X tg iter wi∧∀δ xs,f δ=some xs→∀G0 H0 G H σ ts (R:It→Hp→Prop),Rw G0 H0 G H σ δ ts→(∀J G' H',Rw G0 H0 G' H' σ δ ts→IB J xs G'→R J H')→wi σ H R
section
variable{X:Cx}{tg a b c e:Expr}{es:List Expr}{f g h:Dv→Option PD}{fs:Dv→Option (List PD)}{fa:Dv→Option Bool}{pos p:Pos}{st:Stmt}{sts sts':List Stmt}{F F1 F2:DF}
def PI.or{wi wi':TI}(h:PI X tg e wi)(h':PI X tg e wi'):PI X tg e (fun σ H R=>wi σ H R∨wi' σ H R):=fun pins s σ H R I q=>by
 rcases q with q|q
 ·exact h pins s σ H R I q
 ·exact h' pins s σ H R I q
def Fl:PD→Option (List PD)
 |.list xs=>some xs
 |.tuple xs=>some xs
 |_=>none
def Dd(he:DE X e f):DI X tg e (fun δ=>(f δ).bind Fl):=by
 obtain⟨t,p,k⟩:=he;refine⟨_,(Kb p).or (iA p),fun δ xs h G0 H0 G H σ ts R R0 q=>?_⟩;obtain⟨x,h1,h2⟩:=aB.mp h;unfold Fl at h2;split at h2
 ·cases h2
  left
  refine k δ _ h1 G0 H0 G H σ ts _ R0 fun v G' H' R'=>?_;have du:=R'.Ba _ (.head _);rw [Du]at du;obtain⟨a,ys,rfl,n1,n2⟩:=du;exact⟨a,rfl,⟨ys,A3.of (R'.ins _ _ n1)⟩,q _ _ _ R'.drop (fF n1 n2)⟩
 ·cases h2
  right
  refine k δ _ h1 G0 H0 G H σ ts _ R0 fun v G' H' R'=>?_;have du:=R'.Ba _ (.head _);rw [Du]at du;obtain⟨a,ys,rfl,n1,n2⟩:=du;exact⟨a,rfl,⟨ys,BF.of (R'.ins _ _ n1)⟩,q _ _ _ R'.drop (jG n1 n2)⟩
 ·cases h2
def OG:List PD→Option (List PD)
 |[.int j]=>if -1000000≤j∧j≤1000000 then some (GD 0 j.toNat) else none
 |_=>none
def SO:List PD→Option (List PD)
 |[.int i,.int j]=>if -1000000≤i∧i≤1000000∧-1000000≤j∧j≤1000000 then some (GD i (j-i).toNat) else none
 |_=>none
def RK(hg:Gl X "range")(hm:X.mg "range" = none)(ha:DA X [a] fs)(hs:starEach [a] X.env=[(false,eval a X.env)]:=by rfl):DI X tg (.Call (.Name "range" p) [a] [] pos) (fun δ=>(fs δ).bind OG):=by
 obtain⟨t,p,k⟩:=ha;refine⟨_,X1 hg hm p hs,fun δ xs h G0 H0 G H σ ts R R0 q=>?_⟩;obtain⟨x,h1,h2⟩:=aB.mp h;refine k δ _ h1 G0 H0 G H σ ts _ R0 fun vs G' H' R' hv=>?_;obtain⟨d,R2⟩:=R'.args hv;unfold OG at h2;split at h2
 ·split at h2
  ·cases h2;obtain⟨u,rfl,du⟩:=d.HG;rw [Du]at du;subst du;exact⟨_,rfl,by omega,by omega,q _ _ _ R2 XA⟩
  ·cases h2
 ·cases h2
def MJ(hg:Gl X "range")(hm:X.mg "range" = none)(ha:DA X [a,b] fs)(hs:starEach [a,b] X.env=[(false,eval a X.env),(false,eval b X.env)]:=by rfl)(hs2:starEach [b] X.env=[(false,eval b X.env)]:=by rfl):DI X tg (.Call (.Name "range" p) [a,b] [] pos) (fun δ=>(fs δ).bind SO):=by
 obtain⟨t,p,k⟩:=ha;refine⟨_,XR hg hm p hs hs2,fun δ xs h G0 H0 G H σ ts R R0 q=>?_⟩;obtain⟨x,h1,h2⟩:=aB.mp h;refine k δ _ h1 G0 H0 G H σ ts _ R0 fun vs G' H' R' hv=>?_;obtain⟨d,R2⟩:=R'.args hv;unfold SO at h2;split at h2
 ·split at h2
  ·cases h2;obtain⟨u,v,rfl,du,dv⟩:=d.NW;rw [Du]at du dv;subst du dv;exact⟨_,_,rfl,⟨by omega,by omega,by omega,by omega⟩,q _ _ _ R2 XA⟩
  ·cases h2
 ·cases h2
def Rm:List PD→Option (List PD)
 |[.list xs]=>some (Jw xs)
 |[.tuple xs]=>some (Jw xs)
 |_=>none
def Uu{elts:List Expr}{x1}{tpos:Pos}(hg:Gl X "enumerate")(hm:X.mg "enumerate" = none)(ha:DA X [a] fs)(hs:starEach [a] X.env=[(false,eval a X.env)]:=by rfl):DI X (.Tuple elts x1 tpos) (.Call (.Name "enumerate" p) [a] [] pos) (fun δ=>(fs δ).bind Rm):=by
 obtain⟨t,p,k⟩:=ha;refine⟨_,(Ze hg hm p hs).or (VD hg hm p hs),fun δ xs h G0 H0 G H σ ts R R0 q=>?_⟩;obtain⟨x,h1,h2⟩:=aB.mp h;unfold Rm at h2;split at h2
 ·cases h2
  left
  refine k δ _ h1 G0 H0 G H σ ts _ R0 fun vs G' H' R' hv=>?_;obtain⟨d,R2⟩:=R'.args hv;obtain⟨u,rfl,du⟩:=d.HG;rw [Du]at du;obtain⟨a,ys,rfl,n1,n2⟩:=du;exact⟨a,rfl,⟨ys,A3.of (R2.ins _ _ n1)⟩,q _ _ _ R2 (Zn n1 n2)⟩
 ·cases h2
  right
  refine k δ _ h1 G0 H0 G H σ ts _ R0 fun vs G' H' R' hv=>?_;obtain⟨d,R2⟩:=R'.args hv;obtain⟨u,rfl,du⟩:=d.HG;rw [Du]at du;obtain⟨a,ys,rfl,n1,n2⟩:=du;exact⟨a,rfl,⟨ys,BF.of (R2.ins _ _ n1)⟩,q _ _ _ R2 (ZK n1 n2)⟩
 ·cases h2
def zip2:List PD→Option (List PD)
 |[x,y]=>(Fl x).bind fun xs=>(Fl y).map fun ys=>Mi xs ys
 |_=>none
def K3{G:Hp}{x:PD}{v:V}{xs:List PD}(h:Du G x v)(e:Fl x=some xs):∃(b:Bool) (a:AD) (ys:List V),v=.ref a∧G a=some (if b then .tup ys else .lst ys)∧Ai G xs ys:=by
 unfold Fl at e;split at e
 ·cases e;rw [Du]at h;obtain⟨a,ys,rfl,n1,n2⟩:=h;exact⟨false,a,ys,rfl,n1,n2⟩
 ·cases e;rw [Du]at h;obtain⟨a,ys,rfl,n1,n2⟩:=h;exact⟨true,a,ys,rfl,n1,n2⟩
 ·cases e
def jI{elts:List Expr}{x1}{tpos:Pos}(hg:Gl X "zip")(hm:X.mg "zip" = none)(ha:DA X [a,b] fs)(hs:starEach [a,b] X.env=[(false,eval a X.env),(false,eval b X.env)]:=by rfl)(hs2:starEach [b] X.env=[(false,eval b X.env)]:=by rfl) :
  DI X (.Tuple elts x1 tpos) (.Call (.Name "zip" p) [a,b] [] pos) (fun δ=>(fs δ).bind zip2):=by
 obtain⟨t,p,k⟩:=ha;refine⟨_,gX hg hm p hs hs2,fun δ xs h G0 H0 G H σ ts R R0 q=>?_⟩;obtain⟨x,h1,h2⟩:=aB.mp h;refine k δ _ h1 G0 H0 G H σ ts _ R0 fun vs G' H' R' hv=>?_;obtain⟨d,R2⟩:=R'.args hv;unfold zip2 at h2;split at h2
 ·obtain⟨xs1,h3,h4⟩:=aB.mp h2;obtain⟨ys1,h5,rfl⟩:=aC.mp h4;obtain⟨u,v,rfl,du,dv⟩:=d.NW;obtain⟨b1,a1,us,rfl,n1,n2⟩:=K3 du h3;obtain⟨b2,a2,ws,rfl,m1,m2⟩:=K3 dv h5;have s1:=R2.ins _ _ n1;have s2:=R2.ins _ _ m1;exact⟨b1,b2,a1,a2,rfl,⟨us,by cases b1<;>simpa [E4]using s1⟩,⟨ws,by cases b2<;>simpa [E4]using s2⟩,q _ _ _ R2 (ji n1 m1 n2 m2)⟩
 ·cases h2
def DG(X:Cx)(tg:Expr)(set:PD→Dv→Option Dv):Prop:=∃g,PG X tg g∧∀δ x δ',set x δ=some δ'→∀G0 H0 G H σ v (Q:St→Hp→Prop),Rw G0 H0 G H σ δ [(x,v)]→(∀σ' G' H',Rw G0 H0 G' H' σ' δ' []→Q σ' H')→g v σ H Q
def E6{i:Nat}{x:Str}(h:PG X (.Name x pos) (Em i)):DG X (.Name x pos) (fun y δ=>some (δ.set i (.d y))) :=
 ⟨_,h,fun δ y δ' e G0 H0 G H σ v Q R k=>by cases e;exact k _ _ _ R.Gs⟩
def DV(i j:Nat)(y:PD)(δ:Dv):Option Dv:=match y with
 |.tuple [u,v]=>some ((δ.set i (.d u)).set j (.d v))
 |_=>none
def K0{x y:Str}{i j:Nat}{px py:Pos}{k1}(h:PG X (.Tuple [.Name x px,.Name y py] k1 pos) (Yx X.K 2 (Pk (Em i) (Pk (Em j) Yw)))):DG X (.Tuple [.Name x px,.Name y py] k1 pos) (DV i j):=by
 refine⟨_,h,fun δ z δ' e G0 H0 G H σ v Q R k=>?_⟩;unfold DV at e;split at e
 ·cases e;have du:=R.Ba _ (.head _);rw [Du]at du;obtain⟨a,ys,rfl,n1,n2⟩:=du;obtain⟨w1,w2,rfl,m1,m2⟩:=n2.NW;refine⟨a,[w1,w2],rfl,BF.of (R.ins _ _ n1),rfl,w1,[w2],rfl,w2,[],rfl,rfl,?_⟩;exact k _ _ _ (((R.drop.put m2).put m1).Gs.Gs)
 ·cases e
def KW(set:PD→Dv→Option Dv)(body:DF):List PD→Dv→Option Ou
 |[],δ=>some (.nx δ)
 |x::xs,δ=>match (set x δ).bind body with
  |some (.nx δ')=>KW set body xs δ'
  |some (.ct δ')=>KW set body xs δ'
  |some (.bk δ')=>some (.nx δ')
  |some (.rt v)=>some (.rt v)
  |some (.rn v)=>some (.rn v)
  |none=>none
def De{set:PD→Dv→Option Dv}(hp:PassesOwn (model X.prog X.w) X.A X.env X.xe)(hc:X.calm=true)(hi:DI X tg e fs)(hg:DG X tg set)(hb:O1 X sts F)(hs:∀x,foldedSetIterable e X.env x=pure x:=by intro _;rfl) :
  DS X (.For tg e sts [] pos) (fun δ=>(fs δ).bind fun xs=>KW set F xs δ):=by
 obtain⟨wi,pi,ki⟩:=hi;obtain⟨g,pg,kg⟩:=hg;obtain⟨tb,pb,kb⟩:=hb;refine⟨_,Ow hp hc pi pg pb hs,fun δ r h G0 H0 G H σ D R q=>?_⟩;obtain⟨xs,h1,h2⟩:=aB.mp h;refine ki δ xs h1 G0 H0 G H σ [] _ R fun J Ga Ha Ra it=>?_;refine⟨fun i m σ' H'=>m=xs.length-i∧i≤xs.length∧∃δ' G',KW set F (xs.drop i) δ'=some r∧Rw G0 H0 G' H' σ' δ' []∧AO Ga G',⟨xs.length,by simp,Nat.zero_le _,δ,Ga,by simpa using h2,Ra,AO.refl _⟩,?_⟩;rintro i m σ1 H1 ⟨rfl,hi,δ1,G1,f1,R1,s1⟩;have sH:AO Ga H1:=s1.trans R1.ins;by_cases hlt:i<xs.length
 ·right
  have hx:xs[i]? = some xs[i]:=by simp [hlt]
  refine⟨it.go i _ H1 hx sH,fun σ' H'=>i+1≤xs.length∧∃δ' G',KW set F (xs.drop (i+1)) δ'=some r∧Rw G0 H0 G' H' σ' δ' []∧AO Ga G',fun σ' H' n=>⟨xs.length-(i+1),by omega,rfl,n⟩,fun x H' y=>?_⟩;obtain⟨G2,e1,e2,e3,e4,e5⟩:=it.Ep i _ H1 x H' hx sH y G1 s1 R1.ins;have R2:=(R1.lift e1 e2 e3 e4).put e5;have s2:=s1.trans e1;rw [List.drop_eq_getElem_cons hlt]at f1;unfold KW at f1;cases hb2:(set xs[i] δ1).bind F with
  |none=>rw [hb2]at f1;cases f1
  |some o =>
   obtain⟨δ2,k1,k2⟩:=aB.mp hb2;rw [hb2]at f1;have R2b:=R2.base;refine kg δ1 _ δ2 k1 G2 H0 G2 H' σ1 x _ R2b fun σ3 G3 H3 R3=>?_;refine kb δ2 o k2 G2 H0 G3 H3 σ3 _ R3 ?_;cases o with
   |nx δ3=>exact fun σ4 G4 H4 R4=>⟨hlt,δ3,G4,f1,R2.drop.UI R4,s2.trans R4.ext⟩
   |ct δ3=>exact fun σ4 G4 H4 R4=>⟨hlt,δ3,G4,f1,R2.drop.UI R4,s2.trans R4.ext⟩
   |bk δ3=>cases f1;exact fun σ4 G4 H4 R4=>q σ4 G4 H4 (R2.drop.UI R4)
   |rt v=>cases f1;exact fun w G4 H4 h1 h2 h3 h4 h5=>q w G4 H4 (R2.ext.trans h1) (R2.new.trans h2) h3 h4 h5
   |rn v=>cases f1;exact fun w ys G4 H4 h1 h2=>q w ys G4 H4 (R2.ext.trans h1) (R2.new.trans h2)
 ·left
  have e:i=xs.length:=by omega
  subst e;refine⟨it.stop H1 sH,?_⟩;rw [List.drop_length]at f1;unfold KW at f1;cases f1;exact q _ _ _ R1
end
def tD(f:Dv→Option PD):TE:=fun σ H Q=>∃δ x G0 H0 G ts,f δ=some x∧Rw G0 H0 G H σ δ ts∧∀v G' H',Rw G0 H0 G' H' σ δ ((x,v)::ts)→Q v H'
def VY(f:Dv→Option Bool):TT:=fun σ H Q=>∃δ x G0 H0 G ts,f δ=some x∧Rw G0 H0 G H σ δ ts∧∀G' H',Rw G0 H0 G' H' σ δ ts→Q x H'
def DE.pe{X:Cx}{e:Expr}{f:Dv→Option PD}(h:DE X e f):PE X e (tD f):=by
 obtain⟨t,p,k⟩:=h;intro pins s σ H Q I q;obtain⟨δ,x,G0,H0,G,ts,h1,h2,h3⟩:=q;exact p pins s σ H Q I (k δ x h1 G0 H0 G H σ ts Q h2 h3)
def DT.pt{X:Cx}{e:Expr}{f:Dv→Option Bool}(h:DT X e f):PT X e (VY f):=by
 obtain⟨t,p,k⟩:=h;intro pins s σ H Q I q;obtain⟨δ,x,G0,H0,G,ts,h1,h2,h3⟩:=q;exact p pins s σ H Q I (k δ x h1 G0 H0 G H σ ts Q h2 h3)
def RJ(X:Cx)(ifs:List Expr)(f:Dv→Option Bool):Prop:=J4 X ifs (VY f)
def GQ{X:Cx}:RJ X [] (fun _=>some true):=by
 intro pins s σ H Q I q;obtain⟨δ,x,G0,H0,G,ts,h1,h2,h3⟩:=q;cases h1;exact QV pins s σ H Q I (h3 _ _ h2)
def dk{X:Cx}{c:Expr}{f:Dv→Option Bool}(h:DT X c f):RJ X [c] f:=eV h.pt
def Bk(fr:List (Option Nat))(δ:Dv):Dv:=fr.map fun o=>match o with
 |some j=>(match δ[j]? with|some (.d x)=>.d x|_=>.no)
 |none=>.no
def Rw.inner{G0 H0 G H:Hp}{σ:St}{δ:Dv}{ts:List (PD×V)}(fr:List (Option Nat))(r:Rw G0 H0 G H σ δ ts):Rw G H G H (carry fr σ) (Bk fr δ) ts:=by
 have key:∀(i:Nat) (l:L),(Bk fr δ)[i]? = some l→∃o,fr[i]? = some o∧l=(match o with|some j=>(match δ[j]? with|some (.d x)=>.d x|_=>.no)|none=>.no):=fun i l h=>by
  unfold Bk at h;rw [List.getElem?_map]at h;obtain⟨o,h1,rfl⟩:=aC.mp h;exact⟨o,h1,rfl⟩
 have noown:∀(i:Nat) (xs:Oc),(Bk fr δ)[i]?≠some (L.own xs):=fun i xs h=>by
  obtain⟨o,_,h2⟩:=key i _ h;split at h2
  ·split at h2<;>cases h2
  ·cases h2
 refine⟨AO.refl _,Nw.refl,r.ins,AO.refl _,by simp [carry,Bk],fun i x h=>?_,fun i xs h=>absurd h (noown i xs),fun i j xs ys _ h=>absurd h (noown i xs),r.Ba⟩;obtain⟨o,h1,h2⟩:=key i _ h;split at h2
 ·rename_i j;split at h2
  ·rename_i y hy;cases h2;obtain⟨v,k1,k2⟩:=r.dat j _ hy;refine⟨v,?_,k2⟩;unfold carry;rw [List.getElem?_map,h1];simp [k1]
  ·cases h2
 ·cases h2
def Rw.other{G0 H0 G H:Hp}{σ:St}{δ:Dv}{ts:List (PD×V)}{D:AD}{o:HO}(r:Rw G0 H0 G H σ δ ts)(hG:G D=none)(h0:H0 D=none)(ho:∀(i:Nat) (xs:Oc),δ[i]? = some (L.own xs)→σ[i]?≠some (some (V.ref D))):Rw G0 H0 G (upd H D o) σ δ ts:=by
 refine⟨r.ext,r.new,fun a u h=>?_,fun a u h=>?_,r.len,r.dat,fun i xs h=>?_,r.apart,r.Ba⟩
 ·rw [AM (fun z=>by subst z;rw [hG]at h;cases h)];exact r.ins _ _ h
 ·rw [AM (fun z=>by subst z;rw [h0]at h;cases h)];exact r.keep _ _ h
 ·obtain⟨a,ys,k1,k2,k3,k4,k5⟩:=r.own i xs h;exact⟨a,ys,k1,k2,k3,by rw [AM (fun z=>by subst z;exact ho i xs h k1)];exact k4,k5⟩
def Rw.adopt{G0 H0 G H:Hp}{σ:St}{δ:Dv}{ts:List (PD×V)}{D:AD}{ys:List V}(r:Rw G0 H0 G H σ δ ts)(hD:H D=some (.lst ys))(hG:G D=none)(h0:H0 D=none)(ho:∀(i:Nat) (xs:Oc),δ[i]? = some (L.own xs)→σ[i]?≠some (some (V.ref D))):Rw G0 H0 (upd G D (.lst ys)) H σ δ ts:=by
 have e:AO G (upd G D (.lst ys)):=Bg hG _;refine⟨r.ext.trans e,fun a u h=>?_,fun a u h=>?_,r.keep,r.len,fun i x h=>?_,fun i xs h=>?_,r.apart,fun q hq=>(r.Ba q hq).same e⟩
 ·by_cases ha:a=D
  ·subst ha;exact .inr (.inl h0)
  ·rw [AM ha]at h;exact r.new _ _ h
 ·by_cases ha:a=D
  ·subst ha;rw [AZ]at h;rw [hD];exact h
  ·rw [AM ha]at h;exact r.ins _ _ h
 ·obtain⟨v,k1,k2⟩:=r.dat i x h;exact⟨v,k1,k2.same e⟩
 ·obtain⟨a,zs,k1,k2,k3,k4,k5⟩:=r.own i xs h;have ha:a≠D:=fun z=>by subst z;exact ho i xs h k1
  exact⟨a,zs,k1,by rw [AM ha];exact k2,k3,k4,k5.same e⟩
def Fy(set:PD→Dv→Option Dv)(tif:Dv→Option Bool)(f:Dv→Option PD)(δ:Dv)(x:PD):Option (Option PD) :=
 (set x δ).bind fun δ1=>(tif δ1).bind fun b=>if b=true then(f δ1).map some else some none
def collect(one:PD→Option (Option PD)):List PD→Option (List PD)
 |[]=>some []
 |x::xs=>(one x).bind fun o=>(collect one xs).map fun r=>o.toList++r
def CO(set:PD→Dv→Option Dv)(tif:Dv→Option Bool)(f:Dv→Option PD)(fr:List (Option Nat))(fs:Dv→Option (List PD))(δ:Dv):Option (List PD) :=
 (fs δ).bind fun xs=>(collect (Fy set tif f (Bk fr δ)) xs).bind HL
def D3(set:PD→Dv→Option Dv)(tif:Dv→Option Bool)(f:Dv→Option PD)(fr:List (Option Nat))(fs:Dv→Option (List PD))(δ:Dv):Option PD :=
 (CO set tif f fr fs δ).map .list
structure VV(G0 H0 Ga:Hp)(σ:St)(δ:Dv)(ts:List (PyData×V))(one:PyData→Option (Option PyData))(xs full:List PyData)(D:Addr)(i:Nat)(ys:List V)(H:Hp):Prop where
 ex:∃G done rest,Rw G0 H0 G H σ δ ts∧AO Ga G∧G D=none∧collect one (xs.drop i)=some rest∧done++rest=full∧Ai G done ys
 h0:H0 D=none
 ap:∀(j:Nat) (us:Oc),δ[j]? = some (L.own us)→σ[j]?≠some (some (V.ref D))
def P8{G0 H0 G H:Hp}{D:AD}{ys:List V}(hG:G0 D=none)(hD:H0 D=some (.lst ys))(n:Nw G0 H0 G)(e:AO G H)(k:AO H0 H):G D=none:=by
 cases q:G D with
 |none=>rfl
 |some o =>
  rcases n _ _ q with z|z|⟨us,z⟩
  ·rw [hG]at z;cases z
  ·rw [hD]at z;cases z
  ·have:=e _ _ q;rw [k _ _ hD,z]at this;cases this
section
variable{X:Cx}{elt iter:Expr}{x y:Str}{px py tp pos:Pos}{tk:Nat}{ifs:List Expr}{scope:Scope}{fs:Dv→Option (List PD)}{tif:Dv→Option Bool}{f:Dv→Option PD}
def Co(i:Nat)(y:PD)(δ:Dv):Option Dv:=some (δ.set i (.d y))
def Ol{wi:TI}{ix:Nat}{fr:List (Option Nat)}(ki:∀(δ:Dv) (xs:List PD),fs δ=some xs→∀(G0 H0 G H:Hp) (σ:St) (ts:List (PD×V)) (R:It→Hp→Prop),Rw G0 H0 G H σ δ ts→(∀J G' H',Rw G0 H0 G' H' σ δ ts→IB J xs G'→R J H')→wi σ H R){δ:Dv}{zs:List PD}(hz:CO (Co ix) tif f fr fs δ=some zs){G0 H0 G H:Hp}{σ:St}{ts:List (PD×V)}{Q:VK}(R0:Rw G0 H0 G H σ δ ts)(k:∀D ys G' H',Rw G0 H0 G' H' σ δ ts→H' D=some (.lst ys)→G' D=none→H0 D=none→(∀(j:Nat) (us:Oc),δ[j]? = some (L.own us)→σ[j]?≠some (some (V.ref D)))→Ai G' zs ys→Q (.ref D) H') :
  ND wi fr ix (VY tif) (tD f) σ H Q:=by
 unfold CO at hz;obtain⟨xs,m2,m3⟩:=aB.mp hz;obtain⟨full,m4,m5⟩:=aB.mp m3;obtain⟨rfl,hfew⟩:=L6 m5;refine ki δ xs m2 G0 H0 G H σ ts _ R0 fun J Ga Ha Ra it D hD=>?_;have hGD:Ga D=none:=by
  cases q:Ga D with
  |none=>rfl
  |some u=>rw [Ra.ins _ _ q]at hD;cases hD
 have hHD:H0 D=none:=by
  cases q:H0 D with
  |none=>rfl
  |some u=>rw [Ra.keep _ _ q]at hD;cases hD
 have hap:∀(j:Nat) (us:Oc),δ[j]? = some (L.own us)→σ[j]?≠some (some (V.ref D)):=fun j us h z=>by
  obtain⟨a,ys,k1,k2,k3,k4,k5⟩:=Ra.own j us h;rw [z]at k1;cases k1;rw [k4]at hD;cases hD
 refine QT (n:=xs.length) (VV G0 H0 Ga σ δ ts (Fy (Co ix) tif f (Bk fr δ)) xs full D) ⟨⟨Ga,[],full,Ra.other hGD hHD hap,AO.refl _,hGD,by simpa using m4,rfl,.nil⟩,hHD,hap⟩ ?_ ?_
 ·rintro i ys H1 hlt ⟨⟨G1,done,rest,R1,s1,g1,c1,e1,d1⟩,_,_⟩ hD1;have hx:xs[i]? = some xs[i]:=by simp [hlt]
  have sH:=s1.trans R1.ins;have hyl:ys.length<sizeLine:=Qb (by
   rw [d1.len];have:done.length≤full.length:=by rw [←e1];simp
   omega)
  refine⟨it.go i _ H1 hx sH,hyl,fun v H' y=>?_⟩;obtain⟨G2,n1,n2,n3,n4,n5⟩:=it.Ep i _ H1 v H' hx sH y G1 s1 R1.ins;have R2:=R1.lift n1 n2 n3 n4;have hD2:=n4 _ _ hD1;have g2:G2 D=none:=P8 g1 hD1 n2 n3 n4;rw [List.drop_eq_getElem_cons hlt]at c1;unfold collect at c1;obtain⟨o,c2,c3⟩:=aB.mp c1;obtain⟨rest',c4,rfl⟩:=aC.mp c3;unfold Fy Co at c2;simp only [Option.bind_some]at c2;obtain⟨b,c5,c6⟩:=aB.mp c2;have Ri:=((R2.inner fr).put n5).Gs (i:=ix);have Ri0:Rw G2 H' G2 H' ((carry fr σ).set ix (some v)) ((Bk fr δ).set ix (.d xs[i])) []:=Ri.less fun q hq=>by cases hq
  refine⟨_,b,G2,H',G2,[],c5,Ri0,fun G3 H3 R3=>?_⟩;have R3o:=R2.lift R3.ext R3.new R3.ins R3.keep;have hD3:=R3.keep _ _ hD2;have g3:G3 D=none:=P8 g2 hD2 R3.new R3.ins R3.keep;dsimp only;split
  ·rename_i hb;rw [if_pos hb]at c6;obtain⟨w,c7,rfl⟩:=aC.mp c6;refine⟨_,w,G2,H',G3,[],c7,R3,fun u G4 H4 R4=>?_⟩;have R4o:=R2.lift R4.ext R4.new R4.ins R4.keep;have hD4:=R4.keep _ _ hD2;have g4:G4 D=none:=P8 g2 hD2 R4.new R4.ins R4.keep;refine⟨hD4,NC hlt ⟨⟨G4,done++[w],rest',R4o.other g4 hHD hap,s1.trans (n1.trans R4.ext),g4,c4,by simpa using e1,(d1.same (n1.trans R4.ext)).app (.cons (R4.Ba _ (.head _)) .nil)⟩,hHD,hap⟩⟩
  ·rename_i hb;rw [if_neg hb]at c6;cases c6;exact Vn hlt hD3 ⟨⟨G3,done,rest',R3o,s1.trans (n1.trans R3.ext),g3,c4,by simpa using e1,d1.same (n1.trans R3.ext)⟩,hHD,hap⟩
 ·rintro ys H1 ⟨⟨G1,done,rest,R1,s1,g1,c1,e1,d1⟩,_,_⟩ hD1;refine⟨it.stop H1 (s1.trans R1.ins),?_⟩;rw [List.drop_length]at c1;cases c1;rw [List.append_nil]at e1;subst e1;exact k _ _ _ _ R1 hD1 g1 hHD hap d1
def Qv{wi:TI}{ix:Nat}{fr:List (Option Nat)}(ki:∀(δ:Dv) (xs:List PD),fs δ=some xs→∀(G0 H0 G H:Hp) (σ:St) (ts:List (PD×V)) (R:It→Hp→Prop),Rw G0 H0 G H σ δ ts→(∀J G' H',Rw G0 H0 G' H' σ δ ts→IB J xs G'→R J H')→wi σ H R){δ:Dv}{z:PD}(hz:D3 (Co ix) tif f fr fs δ=some z){G0 H0 G H:Hp}{σ:St}{ts:List (PD×V)}{Q:VK}(R0:Rw G0 H0 G H σ δ ts)(k:∀v G' H',Rw G0 H0 G' H' σ δ ((z,v)::ts)→Q v H') :
  ND wi fr ix (VY tif) (tD f) σ H Q:=by
 unfold D3 at hz;obtain⟨full,m1,rfl⟩:=aC.mp hz;refine Ol ki m1 R0 fun D ys G1 H1 R1 hD1 g1 hHD hap d1=>?_;have e:AO G1 (upd G1 D (.lst ys)):=Bg g1 _;have R2:=R1.adopt hD1 g1 hHD hap;refine k _ _ _ (R2.put ?_);rw [Du];exact⟨D,ys,rfl,AZ,d1.same e⟩
def Vf(N:List Str)(ix:Nat)(fr:List (Option Nat))(hi:DI X (.Name x px) iter fs)(hif:∀cl C s₀ H₀ fp,RJ (Am X scope cl N C s₀ H₀ fp) ifs tif)(he:∀cl C s₀ H₀ fp,DE (Am X scope cl N C s₀ H₀ fp) elt f)
 (h1:BL scope N x ix=true:=by decide +kernel)(h2:X.calm=true:=by rfl)(h3:D8 N X.N scope X.env.scope fr 0=true:=by rfl)(h4:fr.length=N.length:=by rfl)(h5:freeOk X.env.scope scope.names=true:=by rfl)
 (hs:∀x,foldedSetIterable iter X.env x=pure x:=by intro _;rfl):DE X (.ListComp elt [⟨.Name x px,iter,ifs,0⟩] scope pos) (D3 (Co ix) tif f fr fs):=by
 obtain⟨wi,pi,ki⟩:=hi;exact⟨_,LP N ix fr pi hif (fun cl C s₀ H₀ fp=>(he cl C s₀ H₀ fp).pe) h1 h2 h3 h4 h5 hs,fun δ z hz G0 H0 G H σ ts Q R0 k=>Qv ki hz R0 k⟩
end
section
variable{X:Cx}{elt iter:Expr}{x y:Str}{px py tp pos:Pos}{tk:Nat}{ifs:List Expr}{scope:Scope}{fs:Dv→Option (List PD)}{tif:Dv→Option Bool}{f:Dv→Option PD}
def Nj{wi:TI}{ix iy:Nat}{fr:List (Option Nat)}(ki:∀(δ:Dv) (xs:List PD),fs δ=some xs→∀(G0 H0 G H:Hp) (σ:St) (ts:List (PD×V)) (R:It→Hp→Prop),Rw G0 H0 G H σ δ ts→(∀J G' H',Rw G0 H0 G' H' σ δ ts→IB J xs G'→R J H')→wi σ H R){δ:Dv}{zs:List PD}(hz:CO (DV ix iy) tif f fr fs δ=some zs){G0 H0 G H:Hp}{σ:St}{ts:List (PD×V)}{Q:VK}(R0:Rw G0 H0 G H σ δ ts)(k:∀D ys G' H',Rw G0 H0 G' H' σ δ ts→H' D=some (.lst ys)→G' D=none→H0 D=none→(∀(j:Nat) (us:Oc),δ[j]? = some (L.own us)→σ[j]?≠some (some (V.ref D)))→Ai G' zs ys→Q (.ref D) H') :
  Ku X.K wi fr ix iy (VY tif) (tD f) σ H Q:=by
 unfold CO at hz;obtain⟨xs,m2,m3⟩:=aB.mp hz;obtain⟨full,m4,m5⟩:=aB.mp m3;obtain⟨rfl,hfew⟩:=L6 m5;refine ki δ xs m2 G0 H0 G H σ ts _ R0 fun J Ga Ha Ra it D hD=>?_;have hGD:Ga D=none:=by
  cases q:Ga D with
  |none=>rfl
  |some u=>rw [Ra.ins _ _ q]at hD;cases hD
 have hHD:H0 D=none:=by
  cases q:H0 D with
  |none=>rfl
  |some u=>rw [Ra.keep _ _ q]at hD;cases hD
 have hap:∀(j:Nat) (us:Oc),δ[j]? = some (L.own us)→σ[j]?≠some (some (V.ref D)):=fun j us h z=>by
  obtain⟨a,ys,k1,k2,k3,k4,k5⟩:=Ra.own j us h;rw [z]at k1;cases k1;rw [k4]at hD;cases hD
 refine Zb (n:=xs.length) (VV G0 H0 Ga σ δ ts (Fy (DV ix iy) tif f (Bk fr δ)) xs full D) ⟨⟨Ga,[],full,Ra.other hGD hHD hap,AO.refl _,hGD,by simpa using m4,rfl,.nil⟩,hHD,hap⟩ ?_ ?_
 ·rintro i ys H1 hlt ⟨⟨G1,done,rest,R1,s1,g1,c1,e1,d1⟩,_,_⟩ hD1;have hx:xs[i]? = some xs[i]:=by simp [hlt]
  have sH:=s1.trans R1.ins;have hyl:ys.length<sizeLine:=Qb (by
   rw [d1.len];have:done.length≤full.length:=by rw [←e1];simp
   omega)
  refine⟨it.go i _ H1 hx sH,hyl,fun v H' y=>?_⟩;obtain⟨G2,n1,n2,n3,n4,n5⟩:=it.Ep i _ H1 v H' hx sH y G1 s1 R1.ins;have R2:=R1.lift n1 n2 n3 n4;have hD2:=n4 _ _ hD1;have g2:G2 D=none:=P8 g1 hD1 n2 n3 n4;rw [List.drop_eq_getElem_cons hlt]at c1;unfold collect at c1;obtain⟨o,c2,c3⟩:=aB.mp c1;obtain⟨rest',c4,rfl⟩:=aC.mp c3;unfold Fy at c2;obtain⟨δ1,c8,c9⟩:=aB.mp c2;obtain⟨b,c5,c6⟩:=aB.mp c9;unfold DV at c8;split at c8
  ·rename_i u1 u2 hu;cases c8;rw [hu,Du]at n5;obtain⟨pa,ps,rfl,q1,q2⟩:=n5;obtain⟨w1,w2,rfl,q3,q4⟩:=q2.NW;have Ri:=(((R2.inner fr).put q4).put q3).Gs (i:=ix) |>.Gs (i:=iy)
   have Ri0:Rw G2 H' G2 H' (((carry fr σ).set ix (some w1)).set iy (some w2)) (((Bk fr δ).set ix (.d u1)).set iy (.d u2)) []:=Ri.less fun q hq=>by cases hq
   refine⟨pa,w1,w2,rfl,BF.of (n3 _ _ q1),?_⟩;refine⟨_,b,G2,H',G2,[],c5,Ri0,fun G3 H3 R3=>?_⟩;have R3o:=R2.lift R3.ext R3.new R3.ins R3.keep;have hD3:=R3.keep _ _ hD2;have g3:G3 D=none:=P8 g2 hD2 R3.new R3.ins R3.keep;dsimp only;split
   ·rename_i hb;rw [if_pos hb]at c6;obtain⟨w,c7,rfl⟩:=aC.mp c6;refine⟨_,w,G2,H',G3,[],c7,R3,fun u G4 H4 R4=>?_⟩;have R4o:=R2.lift R4.ext R4.new R4.ins R4.keep;have hD4:=R4.keep _ _ hD2;have g4:G4 D=none:=P8 g2 hD2 R4.new R4.ins R4.keep;refine⟨hD4,NC hlt ⟨⟨G4,done++[w],rest',R4o.other g4 hHD hap,s1.trans (n1.trans R4.ext),g4,c4,by simpa using e1,(d1.same (n1.trans R4.ext)).app (.cons (R4.Ba _ (.head _)) .nil)⟩,hHD,hap⟩⟩
   ·rename_i hb;rw [if_neg hb]at c6;cases c6;exact Vn hlt hD3 ⟨⟨G3,done,rest',R3o,s1.trans (n1.trans R3.ext),g3,c4,by simpa using e1,d1.same (n1.trans R3.ext)⟩,hHD,hap⟩
  ·cases c8
 ·rintro ys H1 ⟨⟨G1,done,rest,R1,s1,g1,c1,e1,d1⟩,_,_⟩ hD1;refine⟨it.stop H1 (s1.trans R1.ins),?_⟩;rw [List.drop_length]at c1;cases c1;rw [List.append_nil]at e1;subst e1;exact k _ _ _ _ R1 hD1 g1 hHD hap d1
def PU{wi:TI}{ix iy:Nat}{fr:List (Option Nat)}(ki:∀(δ:Dv) (xs:List PD),fs δ=some xs→∀(G0 H0 G H:Hp) (σ:St) (ts:List (PD×V)) (R:It→Hp→Prop),Rw G0 H0 G H σ δ ts→(∀J G' H',Rw G0 H0 G' H' σ δ ts→IB J xs G'→R J H')→wi σ H R){δ:Dv}{z:PD}(hz:D3 (DV ix iy) tif f fr fs δ=some z){G0 H0 G H:Hp}{σ:St}{ts:List (PD×V)}{Q:VK}(R0:Rw G0 H0 G H σ δ ts)(k:∀v G' H',Rw G0 H0 G' H' σ δ ((z,v)::ts)→Q v H') :
  Ku X.K wi fr ix iy (VY tif) (tD f) σ H Q:=by
 unfold D3 at hz;obtain⟨full,m1,rfl⟩:=aC.mp hz;refine Nj ki m1 R0 fun D ys G1 H1 R1 hD1 g1 hHD hap d1=>?_;have e:AO G1 (upd G1 D (.lst ys)):=Bg g1 _;have R2:=R1.adopt hD1 g1 hHD hap;refine k _ _ _ (R2.put ?_);rw [Du];exact⟨D,ys,rfl,AZ,d1.same e⟩
def Zr(N:List Str)(ix iy:Nat)(fr:List (Option Nat))(hi:DI X (.Tuple [.Name x px,.Name y py] tk tp) iter fs)(hif:∀cl C s₀ H₀ fp,RJ (Am X scope cl N C s₀ H₀ fp) ifs tif)(he:∀cl C s₀ H₀ fp,DE (Am X scope cl N C s₀ H₀ fp) elt f)
 (h1:BL scope N x ix=true:=by decide +kernel)(h1':BL scope N y iy=true:=by decide +kernel)(hxy:ix≠iy:=by decide)(h2:X.calm=true:=by rfl)(h3:D8 N X.N scope X.env.scope fr 0=true:=by rfl)(h4:fr.length=N.length:=by rfl)(h5:freeOk X.env.scope scope.names=true:=by rfl)
 (hs:∀x,foldedSetIterable iter X.env x=pure x:=by intro _;rfl):DE X (.ListComp elt [⟨.Tuple [.Name x px,.Name y py] tk tp,iter,ifs,0⟩] scope pos) (D3 (DV ix iy) tif f fr fs):=by
 obtain⟨wi,pi,ki⟩:=hi;exact⟨_,RO N ix iy fr pi hif (fun cl C s₀ H₀ fp=>(he cl C s₀ H₀ fp).pe) h1 h1' hxy h2 h3 h4 h5 hs,fun δ z hz G0 H0 G H σ ts Q R0 k=>PU ki hz R0 k⟩
def Uh{i:Nat}{z:Str}{pz spos:Pos}(N:List Str)(ix iy:Nat)(fr:List (Option Nat))(hN:X.N.Nodup)(hyi:X.N[i]? = some z)(hly:X.env.scope.names.lookup z=some .local)(hi:DI X (.Tuple [.Name x px,.Name y py] tk tp) iter fs)(hif:∀cl C s₀ H₀ fp,RJ (Am X scope cl N C s₀ H₀ fp) ifs tif)(he:∀cl C s₀ H₀ fp,DE (Am X scope cl N C s₀ H₀ fp) elt f)
 (h1:BL scope N x ix=true:=by decide +kernel)(h1':BL scope N y iy=true:=by decide +kernel)(hxy:ix≠iy:=by decide)(h2:X.calm=true:=by rfl)(h3:D8 N X.N scope X.env.scope fr 0=true:=by rfl)(h4:fr.length=N.length:=by rfl)(h5:freeOk X.env.scope scope.names=true:=by rfl)
 (hsw:swapsWith (.ListComp elt [⟨.Tuple [.Name x px,.Name y py] tk tp,iter,ifs,0⟩] scope pos) (some (.Name z pz)) spos.line X.env=pure true:=by rfl)
 (hs:∀x,foldedSetIterable iter X.env x=pure x:=by intro _;rfl):DS X (.Assign [.Name z pz] (.ListComp elt [⟨.Tuple [.Name x px,.Name y py] tk tp,iter,ifs,0⟩] scope pos) spos) (fun δ=>(D3 (DV ix iy) tif f fr fs δ).map fun y=>.nx (δ.set i (.d y))):=by
 obtain⟨wi,pi,ki⟩:=hi;refine⟨_,UB N ix iy fr hN hyi hly pi hif (fun cl C s₀ H₀ fp=>(he cl C s₀ H₀ fp).pe) h1 h1' hxy h2 h3 h4 h5 hsw hs,fun δ r h G0 H0 G H σ D R q=>?_⟩;obtain⟨y2,m1,rfl⟩:=aC.mp h;exact PU ki m1 R fun v G' H' R'=>q _ _ _ R'.Gs
def GG(N:List Str)(ds:List PD):Dv:=ds.map .d++List.replicate (N.length-ds.length) .no
def DR(ps N:List Str)(F:DF)(ds:List PD):Option PD:=if ds.length=ps.length then(match F (GG N ds) with
 |some (.rt x)=>some x
 |some (.nx _)=>some .none
 |some (.rn xs)=>some (.list xs)
 |_=>none) else none
def Rw.start{N:List Str}{ds:List PD}{vs:List V}{G H:Hp}(d:Ai G ds vs)(e:AO G H):Rw G H G H (start N vs) (GG N ds) []:=by
 have hl:=d.len;refine⟨AO.refl _,Nw.refl,e,AO.refl _,by simp [L2.start,GG,hl],fun i x h=>?_,fun i xs h=>?_,fun i j xs ys _ h=>?_,fun q hq=>by cases hq⟩
 ·unfold GG at h;by_cases hi:i<ds.length
  ·rw [List.getElem?_append_left (by simpa using hi),List.getElem?_map]at h;obtain⟨y,h1,h2⟩:=aC.mp h;cases h2;obtain⟨v,h3,h4⟩:=d.get h1;refine⟨v,?_,h4⟩;unfold L2.start;rw [List.getElem?_append_left (by simp;omega),List.getElem?_map,h3];rfl
  ·rw [List.getElem?_append_right (by simpa using hi),List.getElem?_replicate]at h;split at h<;>cases h
 ·unfold GG at h;by_cases hi:i<ds.length
  ·rw [List.getElem?_append_left (by simpa using hi),List.getElem?_map]at h;obtain⟨y,h1,h2⟩:=aC.mp h;cases h2
  ·rw [List.getElem?_append_right (by simpa using hi),List.getElem?_replicate]at h;split at h<;>cases h
 ·unfold GG at h;by_cases hi:i<ds.length
  ·rw [List.getElem?_append_left (by simpa using hi),List.getElem?_map]at h;obtain⟨y,h1,h2⟩:=aC.mp h;cases h2
  ·rw [List.getElem?_append_right (by simpa using hi),List.getElem?_replicate]at h;split at h<;>cases h
def cy{G H G' H':Hp}{a:AD}{ys:List V}{xs:List PD}(m1:AO G G')(m2:Nw G H G')(m3:AO G' H')(m5:H a=none)(m6:G' a=none)(m7:H' a=some (.lst ys))(m8:Ai G' xs ys) :
  AO G (upd G' a (.lst ys))∧Nw G H (upd G' a (.lst ys))∧AO (upd G' a (.lst ys)) H'∧Du (upd G' a (.lst ys)) (.list xs) (.ref a):=by
 refine⟨m1.trans (Bg m6 _),fun b o hb=>?_,fun b o hb=>?_,?_⟩
 ·by_cases z:b=a
  ·subst z;exact .inr (.inl m5)
  ·rw [AM z]at hb;exact m2 _ _ hb
 ·by_cases z:b=a
  ·subst z;rw [AZ]at hb;rw [m7];exact hb
  ·rw [AM z]at hb;exact m3 _ _ hb
 ·rw [Du];exact⟨a,ys,rfl,AZ,m8.same (Bg m6 _)⟩
def HE{P:Program}{w:World}{K:Fg}{mg:Str→Option VL}{base:Heap}{x:Str}{st:Stmt}{fA:AD}{fd:FuncData}{N ps:List Str}{k:Nat}{F:DF}(T:Fn K mg x st ps fA fd)(S:Ak N ps (AV st))
 (hb:∀(cdv:VL) (A:Around) (outer:List Env) (s:SD) (H:Hp) (E:XK),DN k (A.deeper (envOfC x (AV st) s.heap.objs.size fA cdv))→O1 (Cn Ar P w K mg base N x (AV st) fA cdv A outer s H E).JW (Ds st) F) :
  AN P w K mg base Ar (k+1) fA fd ps (BJ (DR ps N F)):=by
 refine T.F.ok S (fun vs H Q E h=>?_) fun cdv A outer s H vs Q E hr h=>?_
 ·obtain⟨ds,y,G,h1,h2,_⟩:=h;unfold DR at h1;split at h1
  ·rename_i hl;rw [h2.len];exact hl
  ·cases h1
 ·obtain⟨ds,y,G,h1,h2,h3,h4⟩:=h;obtain⟨t,p,kk⟩:=hb cdv A outer s H E hr;refine⟨t,p,?_⟩;unfold DR at h1;split at h1
  ·split at h1
   ·rename_i z e1;cases h1;exact kk _ _ e1 G H G H _ _ (Rw.start h2 h3) fun v G' H' m1 m2 m3 m4 m5=>h4 v G' H' m1 m2 m3 m4 m5
   ·rename_i δ e1;cases h1;exact kk _ _ e1 G H G H _ _ (Rw.start h2 h3) fun σ' G' H' R=>h4 .A8 G' H' R.ext R.new R.ins R.keep (by rw [Du])
   ·rename_i xs e1;cases h1;exact kk _ _ e1 G H G H _ _ (Rw.start h2 h3) fun a ys G' H' m1 m2 m3 m4 m5 m6 m7 m8=>let⟨n1,n2,n3,n4⟩:=cy m1 m2 m3 m5 m6 m7 m8;h4 _ _ H' n1 n2 n3 m4 n4
   ·cases h1
  ·cases h1
end
section
variable{X:Cx}{tg a b c e:Expr}{es:List Expr}{f g h:Dv→Option PD}{fs:Dv→Option (List PD)}{fa:Dv→Option Bool}{pos p p2:Pos}{st:Stmt}{sts sts':List Stmt}{F F1 F2:DF}
def Tw{x:Str}{i:Int}{tk:Tok}(hg:Gl X x)(hm:X.mg x=some (.int i tk))(hd:(x==("__debug__" : Str))=false:=by decide):DE X (.Name x pos) (fun _=>some (.int i)) :=
 ⟨_,Pt (v:=.int i) hg hm ⟨tk,rfl⟩ hd,fun δ x h G0 H0 G H σ ts Q r k=>by cases h;exact k _ _ _ (r.put (by rw [Du]))⟩
def DO(X:Cx)(o:Option Expr)(f:Dv→Option (Option Int)):Prop:=∃t,PO X o t∧∀δ x,f δ=some x→∀G0 H0 G H σ ts (Q:Option Int→Hp→Prop),Rw G0 H0 G H σ δ ts→(∀G' H',Rw G0 H0 G' H' σ δ ts→Q x H')→t σ H Q
variable{fo fu:Dv→Option (Option Int)}{lo hi:Option Expr}
def Il:DO X none (fun _=>some none):=⟨_,dQ,fun δ x h G0 H0 G H σ ts Q r k=>by cases h;exact k _ _ r⟩
def Iw(he:DE X e f):DO X (some e) (fun δ=>(f δ).bind fun x=>(Pa x).map some):=by
 obtain⟨t,p,k⟩:=he;refine⟨_,eC p,fun δ z h G0 H0 G H σ ts Q r q=>?_⟩;obtain⟨x,h1,h2⟩:=aB.mp h;obtain⟨i,h3,rfl⟩:=aC.mp h2;have:=Om h3;subst this;refine k δ _ h1 G0 H0 G H σ ts _ r fun v G' H' R'=>?_;have hv:=R'.Ba _ (.head _);rw [Du]at hv;exact⟨i,hv,q _ _ R'.drop⟩
def cutD(xs:List PD)(lo hi:Option Int):List PD:=(xs.drop (HT.Bc xs.length 0 lo)).take (HT.Bc xs.length xs.length hi-HT.Bc xs.length 0 lo)
def Ai.cut{H:Hp}{ds:List PD}{xs:List V}(h:Ai H ds xs)(lo hi:Option Int):Ai H (cutD ds lo hi) (ME xs lo hi):=by
 unfold cutD ME;rw [h.len];exact(h.drop _).take _
def Z5(x:PD)(lo hi:Option Int):Option PD:=match x with
 |.list xs=>some (.list (cutD xs lo hi))
 |.tuple xs=>if ¬(HT.Bc xs.length 0 lo=0∧HT.Bc xs.length xs.length hi=xs.length) then some (.tuple (cutD xs lo hi)) else none
 |_=>none
def Hb(he:DE X e f)(hl:DO X lo fo)(hh:DO X hi fu):DE X (.Subscript e (.Slice lo hi none p2) pos) (fun δ=>(f δ).bind fun x=>(fo δ).bind fun l=>(fu δ).bind fun u=>Z5 x l u):=by
 obtain⟨te,pe,ke⟩:=he;obtain⟨tl,pl,kl⟩:=hl;obtain⟨th,ph,kh⟩:=hh;refine⟨_,Y0 (eQ.or gm) pe pl ph,fun δ z hz G0 H0 G H σ ts Q R0 k=>?_⟩;obtain⟨x,h1,h2⟩:=aB.mp hz;obtain⟨l,h3,h4⟩:=aB.mp h2;obtain⟨u,h5,h6⟩:=aB.mp h4;refine ke δ x h1 G0 H0 G H σ ts _ R0 fun v G1 H1 R1=>?_;refine kl δ l h3 G0 H0 G1 H1 σ _ _ R1 fun G2 H2 R2=>?_;refine kh δ u h5 G0 H0 G2 H2 σ _ _ R2 fun G3 H3 R3=>?_;have du:=R3.Ba _ (.head _);unfold Z5 at h6;split at h6
 ·cases h6;rw [Du]at du;obtain⟨a,ys,rfl,n1,n2⟩:=du;exact .inl ⟨a,ys,rfl,A3.of (R3.ins _ _ n1),fun q hq=>k _ _ _ (R3.drop.UO (n2.cut l u) hq)⟩
 ·split at h6
  ·rename_i hc;cases h6;rw [Du]at du;obtain⟨a,ys,rfl,n1,n2⟩:=du;exact .inr ⟨a,ys,rfl,BF.of (R3.ins _ _ n1),by rw [n2.len];exact hc,fun q hq=>k _ _ _ (R3.drop.Wj (n2.cut l u) hq)⟩
  ·cases h6
 ·cases h6
def Sj:List PD→Option (List Int)
 |[]=>some []
 |.int i::r=>(Sj r).map fun l=>i::l
 |_::_=>none
def Ai.ints{H:Hp}:∀ {ds:List PD} {xs:List V} {ns:List Int},Ai H ds xs→Sj ds=some ns→xs=ns.map V.int
 |[],xs,ns,h,e=>by cases e;rw [h.nil_eq];rfl
 |.int i::r,xs,ns,h,e=>by
  unfold Sj at e;obtain⟨l,h1,rfl⟩:=aC.mp e;obtain⟨x,q,rfl,k1,k2⟩:=h.un;rw [Du]at k1;subst k1;rw [List.map_cons,k2.ints h1]
 |.none::_,_,_,_,e=>by cases e
 |.bool _::_,_,_,_,e=>by cases e
 |.str _::_,_,_,_,e=>by cases e
 |.tuple _::_,_,_,_,e=>by cases e
 |.list _::_,_,_,_,e=>by cases e
 |.dict _::_,_,_,_,e=>by cases e
def Zi:MD
 |[.list xs]=>(Sj xs).map fun ns=>.int ns.sum
 |[.tuple xs]=>(Sj xs).map fun ns=>.int ns.sum
 |_=>none
def iL(hc:X.calm=true):LO X (.builtin "sum") Zi:=by
 refine⟨_,(Tz hc).or (Xh hc),fun xs z hz G0 H0 G H σ δ ts us Q R0 d k=>?_⟩;unfold Zi at hz;split at hz
 ·obtain⟨ns,h1,rfl⟩:=aC.mp hz;obtain⟨u,rfl,du⟩:=d.HG;rw [Du]at du;obtain⟨q,ys,rfl,h4,h5⟩:=du;refine .inl ⟨q,ns,rfl,by rw [←h5.ints h1];exact A3.of (R0.ins _ _ h4),k _ _ _ (R0.put (by rw [Du]))⟩
 ·obtain⟨ns,h1,rfl⟩:=aC.mp hz;obtain⟨u,rfl,du⟩:=d.HG;rw [Du]at du;obtain⟨q,ys,rfl,h4,h5⟩:=du;refine .inr ⟨q,ns,rfl,by rw [←h5.ints h1];exact BF.of (R0.ins _ _ h4),k _ _ _ (R0.put (by rw [Du]))⟩
 ·cases hz
end
open PySem
abbrev fC(x:PD):Dv→Option PD:=fun _=>some x
abbrev jL(f:Dv→Option PD):Dv→Option PD:=fun δ=>(f δ).bind fun x=>(Pa x).map fun i=>.int (-i)
abbrev AI:Dv→Option (List PD):=fun _=>some []
abbrev AB(f:Dv→Option PD)(fs:Dv→Option (List PD)):Dv→Option (List PD):=fun δ=>(f δ).bind fun x=>(fs δ).map fun xs=>x::xs
abbrev DZ(fs:Dv→Option (List PD)):Dv→Option PD:=fun δ=>((fs δ).bind HL).map .tuple
abbrev JP(fs:Dv→Option (List PD)):Dv→Option PD:=fun δ=>((fs δ).bind HL).map .list
abbrev AU(m:MD)(fs:Dv→Option (List PD)):Dv→Option PD:=fun δ=>(fs δ).bind m
abbrev Xx(i:Nat)(g:Dv→Option PD):Dv→Option PD:=fun δ=>(g δ).bind fun y=>(ow i δ).bind fun xs=>(Pa y).bind fun k=>FP xs k
abbrev Mz:Dv→Option (Option Int):=fun _=>some none
abbrev Mw(f:Dv→Option PD):Dv→Option (Option Int):=fun δ=>(f δ).bind fun x=>(Pa x).map some
abbrev P9(f:Dv→Option PD)(fo fu:Dv→Option (Option Int)):Dv→Option PD:=fun δ=>(f δ).bind fun x=>(fo δ).bind fun l=>(fu δ).bind fun u=>Z5 x l u
abbrev Zz(f:Dv→Option PD):Dv→Option Bool:=fun δ=>(f δ).bind PN
abbrev ER(o:PD→PD→Option PD)(f g:Dv→Option PD):Dv→Option Bool:=fun δ=>(AQ o f g δ).bind PN
abbrev gk(f:Dv→Option Bool):Dv→Option Bool:=fun δ=>(f δ).map fun c=>!c
abbrev bx(f g:Dv→Option Bool):Dv→Option Bool:=fun δ=>(f δ).bind fun c=>if c=true then some true else g δ
abbrev D6(f:Dv→Option PD):Dv→Option (List PD):=fun δ=>(f δ).bind Fl
abbrev GA(m:List PD→Option (List PD))(fs:Dv→Option (List PD)):Dv→Option (List PD):=fun δ=>(fs δ).bind m
abbrev EL:Dv→Option Bool:=fun _=>some true
abbrev JL(i:Nat):PD→Dv→Option Dv:=fun y δ=>some (δ.set i (.d y))
abbrev J0:DF:=fun δ=>some (.nx δ)
abbrev EX(f:Dv→Option PD):DF:=fun δ=>(f δ).map .rt
abbrev cU(f:Dv→Option PD):DF:=fun δ=>(f δ).map fun _=>.nx δ
abbrev MY(c:Dv→Option Bool)(F G:DF):DF:=fun δ=>(c δ).bind fun c=>if c=true then F δ else G δ
abbrev Ca(i:Nat)(f:Dv→Option PD):DF:=fun δ=>(f δ).map fun y=>.nx (δ.set i (.d y))
abbrev KL(i:Nat)(fs:Dv→Option (List PD)):DF:=fun δ=>((fs δ).bind HL).map fun ys=>.nx (δ.set i (.own (.lst ys)))
abbrev LV(i:Nat)(f:Dv→Option PD):DF:=fun δ=>(f δ).bind fun y=>(ow i δ).bind fun xs=>if xs.length<Bm then some (.nx (δ.set i (.own (.lst (xs++[y]))))) else none
abbrev gO(i:Nat)(f:Dv→Option PD):DF:=fun δ=>(f δ).bind fun y=>(ow i δ).bind fun xs=>match y with|.list zs=>(if xs.length+zs.length≤Bm then some (.nx (δ.set i (.own (.lst (xs++zs))))) else none)|_=>none
abbrev Ek(fs:Dv→Option (List PD))(set:PD→Dv→Option Dv)(F:DF):DF:=fun δ=>(fs δ).bind fun xs=>KW set F xs δ
abbrev N9(i:Nat)(F:DF):DF:=fun δ=>F (Ef i δ)
def J6{P:Program}{w:World}{K:Fg}{mg:Str→Option VL}{base:Heap}{CX:GN}{k:Nat}{f:AD}{fd:FuncData}{ps:List Str}{sp:Sp}(h:∀vs H Q E,¬sp vs H Q E):AN P w K mg base CX k f fd ps sp :=
 ⟨fun _ _ _ _ z=>(h _ _ _ _ z).elim,fun _ _ _ _ _ _ _ _ _ _ _ _ _ z=>(h _ _ _ _ z).elim⟩
def Iq{P:Program}{w:World}{K:Fg}{mg:Str→Option VL}{base:Heap}{CX:GN}{k:Nat}{f:AD}{fd:FuncData}{ps:List Str}{sp:Sp}{m:MD}(F:AN P w K mg base CX k f fd ps sp)
 (h:∀ds x,m ds=some x→∀(G H:Hp) (vs:List V) (Q:VK) (E:XK),Ai G ds vs→AO G H→(∀v G' H',AO G G'→Nw G H G'→AO G' H'→AO H H'→Du G' x v→Q v H')→sp vs H Q E):AN P w K mg base CX k f fd ps (BJ m) :=
 F.imp fun vs H Q E z=>by
  obtain⟨ds,x,G,h1,h2,h3,h4⟩:=z;exact h ds x h1 G H vs Q E h2 h3 h4
def DH(G H:Hp):Hp:=fun a=>match H a with
 |some (.tup xs)=>some (.tup xs)
 |_=>G a
def Y3{G H:Hp}{a:AD}{xs:List V}(h:H a=some (.tup xs)):DH G H a=some (.tup xs):=by unfold DH;rw [h]
section
variable{G0 H0 G H:Hp}{σ:St}{δ:Dv}{ts:List (PD×V)}
def Rw.DH(r:Rw G0 H0 G H σ δ ts):Rw G0 H0 (L2.DH G H) H σ δ ts:=by
 have e:AO G (L2.DH G H):=fun a o h=>by
  unfold L2.DH;split
  ·rename_i xs hx;rw [r.ins _ _ h]at hx;exact hx.symm ▸ rfl
  ·exact h
 refine⟨r.ext.trans e,fun a o h=>?_,fun a o h=>?_,r.keep,r.len,fun i x h=>?_,fun i xs h=>?_,r.apart,fun q hq=>(r.Ba q hq).same e⟩
 ·unfold L2.DH at h;split at h
  ·cases h;exact .inr (.inr ⟨_,rfl⟩)
  ·exact r.new _ _ h
 ·unfold L2.DH at h;split at h
  ·rename_i xs hx;rw [hx];exact h
  ·exact r.ins _ _ h
 ·obtain⟨v,k1,k2⟩:=r.dat i x h;exact⟨v,k1,k2.same e⟩
 ·obtain⟨a,ys,k1,k2,k3,k4,k5⟩:=r.own i xs h;refine⟨a,ys,k1,?_,k3,k4,k5.same e⟩;unfold L2.DH;rw [k4];split
  ·rename_i q;cases q;exact k5.UE.elim
  ·exact k2
end
def HB{G:Hp}:∀ {t:Tr} {xs:List V},Ai G (B0 t) xs→Ts G t xs
 |.nil,xs,h=>by rw [B0]at h;rw [Ts];exact h.nil_eq
 |.cons b r,xs,h=>by
  rw [B0]at h;obtain⟨x,q,rfl,h1,h2⟩:=h.un;rw [Du]at h1;obtain⟨a,ys,rfl,h3,h4⟩:=h1;rw [Ts];exact⟨a,ys,q,rfl,h3,HB h4,HB h2⟩
def Pf{G H:Hp}:∀ {t:Tr} {xs:List V},Ts H t xs→Ai (DH G H) (B0 t) xs
 |.nil,xs,h=>by rw [Ts]at h;rw [B0,h];exact .nil
 |.cons b r,xs,h=>by
  rw [Ts]at h;obtain⟨a,ys,zs,rfl,h1,h2,h3⟩:=h;rw [B0];refine .cons ?_ (Pf h3);rw [Du];exact⟨a,ys,rfl,Y3 h1,Pf h2⟩
mutual
def Kn:∀ {ds:List PD} {t:Tr},GC ds=some t→ds=B0 t
 |[],t,h=>by rw [GC]at h;cases h;rw [B0]
 |d::ds,t,h=>by
  rw [GC]at h;obtain⟨b,h1,h2⟩:=aB.mp h;obtain⟨r,h3,rfl⟩:=aC.mp h2;rw [B0,←Io h1,←Kn h3]
def Io:∀ {d:PD} {t:Tr},Ei d=some t→d=.tuple (B0 t)
 |.tuple ds,t,h=>by rw [Ei]at h;rw [Kn h]
 |.none,_,h=>by simp [Ei]at h
 |.bool _,_,h=>by simp [Ei]at h
 |.int _,_,h=>by simp [Ei]at h
 |.str _,_,h=>by simp [Ei]at h
 |.list _,_,h=>by simp [Ei]at h
 |.dict _,_,h=>by simp [Ei]at h
end
def jZ(rev:Bool)(t:Tr):Option PD:=if t.bs.length<64∧t.deep≤60 then some (.list (B0 (Tr.of (if rev then Tr.B1 t.bs else(Tr.B1 t.bs).reverse)))) else none
def JF(rev:Bool):MD
 |[x]=>(Fl x).bind fun ds=>(GC ds).bind (jZ rev)
 |_=>none
section
variable{X:Cx}{a b c e:Expr}{es:List Expr}{f g h:Dv→Option PD}{fs:Dv→Option (List PD)}{fa:Dv→Option Bool}{pos p:Pos}
def VH{rev:Bool}{G0 H0 G H:Hp}{σ:St}{δ:Dv}{ts:List (PD×V)}{x z:PD}{u:V}{Q:VK}(R0:Rw G0 H0 G H σ δ ts)(du:Du G x u)(hz:JF rev [x]=some z)(k:∀w G' H',Rw G0 H0 G' H' σ δ ((z,w)::ts)→Q w H') :
  ∃(p:AD) (ys:List V) (t:Tr),[u]=[.ref p]∧(A3 X.K H p ys∨BF X.K H p ys)∧Ts H t ys∧ys.length<64∧t.deep≤60∧∀(l:AD) (zs:List V),H l=none→Ts H (Tr.of (if rev then Tr.B1 t.bs else(Tr.B1 t.bs).reverse)) zs→Q (.ref l) (upd H l (.lst zs)):=by
 unfold JF at hz;obtain⟨ds,h1,h2⟩:=aB.mp hz;obtain⟨t,h3,h4⟩:=aB.mp h2;unfold jZ at h4;split at h4
 ·rename_i hc;cases h4;have hds:=Kn h3;obtain⟨bb,a,ys,rfl,n1,n2⟩:=K3 du h1;rw [hds]at n2;have ht:=(HB n2).same R0.ins;have hl:ys.length=t.bs.length:=by rw [ht.len]
  refine⟨a,ys,t,rfl,?_,ht,by omega,hc.2,fun l zs hl' hz'=>?_⟩
  ·have:=R0.ins _ _ n1;cases bb
   ·exact .inl (A3.of (by simpa using this))
   ·exact .inr (BF.of (by simpa using this))
  ·have R1:=R0.DH;exact k _ _ _ (R1.UO (Pf hz') hl')
 ·cases h4
def er(hu:X.A.units+64<cLine):LO X (.builtin "sorted") (JF false):=by
 refine⟨_,Xe hu,fun xs z hz G0 H0 G H σ δ ts us Q R0 d k=>?_⟩;cases xs with
 |nil=>cases hz
 |cons x r =>
  cases r with
  |cons y q=>cases hz
  |nil =>
   obtain⟨u,rfl,du⟩:=d.HG;exact VH R0 du hz k
def Sl{e:Expr}{p pos kp kp2:Pos}{j}(hu:X.A.units+64<cLine)(hg:Gl X "sorted")(hm:X.mg "sorted" = none)(ha:DA X [e] fs)
 (hP:∀ {t:TA},PA X [e] t→PE X (.Call (.Name "sorted" p) [e] [⟨some "reverse",.Constant (.bool true) j kp2,kp⟩] pos) (fun σ H Q=>t σ H fun vs H1=>XM X.K vs H1 Q)) :
  DE X (.Call (.Name "sorted" p) [e] [⟨some "reverse",.Constant (.bool true) j kp2,kp⟩] pos) (AU (JF true) fs):=by
 obtain⟨t,p,k⟩:=ha;refine⟨_,hP p,fun δ z hz G0 H0 G H σ ts Q R0 q=>?_⟩;obtain⟨xs,h1,h2⟩:=aB.mp hz;refine k δ _ h1 G0 H0 G H σ ts _ R0 fun vs G1 H1 R1 hv=>?_;obtain⟨d,R2⟩:=R1.args hv;cases xs with
 |nil=>cases h2
 |cons x r =>
  cases r with
  |cons y q=>cases h2
  |nil =>
   obtain⟨u,rfl,du⟩:=d.HG;exact VH (rev:=true) R2 du h2 q
abbrev QY(i:Nat)(f g:Dv→Option PD):DF:=fun δ=>(f δ).bind fun y=>(g δ).bind fun k=>(ow i δ).bind fun xs=>(Pa k).bind fun n=>(MM xs.length n).map fun j=>.nx (δ.set i (.own (.lst (xs.set j y))))
def Ai.set{H:Hp}{d:PD}{v:V}(hd:Du H d v):∀ {ds:List PD} {xs:List V} (j:Nat),Ai H ds xs→Ai H (ds.set j d) (xs.set j v)
 |[],_,_,h=>by rw [h.nil_eq];exact .nil
 |_::_,_,0,h=>by obtain⟨x,r,rfl,_,h2⟩:=h.un;exact .cons hd h2
 |_::_,_,j+1,h=>by obtain⟨x,r,rfl,h1,h2⟩:=h.un;exact .cons h1 (Ai.set hd j h2)
def Yb{i:Nat}{x:Str}{np sp:Pos}(hv:PE X (.Name x np) (Lk i))(hk:DE X a g)(he:DE X e f)
 (hP:∀ {te to ti:TE},PE X e te→PE X (.Name x np) to→PE X a ti→PS X (.Assign [.Subscript (.Name x np) a sp] e pos) (MQ te (Ym to ti dA))):DS X (.Assign [.Subscript (.Name x np) a sp] e pos) (QY i f g):=by
 obtain⟨te,pe,ke⟩:=he;obtain⟨tk,pk,kk⟩:=hk;refine⟨_,hP pe hv pk,fun δ r h G0 H0 G H σ D R q=>?_⟩;obtain⟨y,h1,h2⟩:=aB.mp h;obtain⟨n,h3,h4⟩:=aB.mp h2;obtain⟨xs,h5,h6⟩:=aB.mp h4;obtain⟨m,h7,h8⟩:=aB.mp h6;obtain⟨j,h9,rfl⟩:=aC.mp h8;have:=Om h7;subst this;have hi:=M1 h5;refine ke δ y h1 G0 H0 G H σ [] _ R fun u G1 H1 R1=>?_;obtain⟨ad,_,k1,k2,k3,k4,⟨ys,rfl,k5⟩⟩:=R1.own i _ hi;refine⟨.ref ad,k1,?_⟩;refine kk δ _ h3 G0 H0 G1 H1 σ _ _ R1 fun v G2 H2 R2=>?_;have dv:=R2.Ba (.int m,v) (.head _);rw [Du]at dv;obtain⟨ad',_,m1,m2,m3,m4,⟨zs,rfl,m5⟩⟩:=R2.own i _ hi;rw [k1]at m1;cases m1;refine⟨ad,zs,m,j,rfl,dv,m4,by rw [m5.len];exact h9,?_⟩;exact q _ _ _ (R2.drop.drop.Rh hi k1 ⟨_,rfl,m5.set (R2.Ba (y,u) (.tail _ (.head _))) j⟩)
end
def Yo:L→L
 |.own (.lst xs)=>.d (.list xs)
 |.own (.Cr kvs)=>.d (Aq kvs)
 |.own _=>.no
 |l=>l
def JR(δ:Dv):Dv:=δ.map Yo
section
variable{G0 H0 G H:Hp}{σ:St}{δ:Dv}{ts:List (PD×V)}
def Rw.JR(r:Rw G0 H0 G H σ δ ts):Rw H H H H σ (L2.JR δ) ts:=by
 refine⟨AO.refl _,fun _ _ h=>.inl h,AO.refl _,AO.refl _,by rw [L2.JR,List.length_map];exact r.len,fun i x h=>?_,fun i xs h=>?_,fun i j xs ys _ h=>?_,fun q hq=>(r.Ba q hq).same r.ins⟩
 ·unfold L2.JR at h;rw [List.getElem?_map]at h;obtain⟨l,h1,h2⟩:=aC.mp h;unfold Yo at h2;split at h2
  ·rename_i xs;cases h2;obtain⟨a,_,k1,k2,k3,k4,⟨ys,rfl,k5⟩⟩:=r.own i _ h1;refine⟨.ref a,k1,?_⟩;rw [Du];exact⟨a,ys,rfl,k4,k5.same r.ins⟩
  ·rename_i kvs;cases h2;obtain⟨a,_,k1,k2,k3,k4,⟨rr,rfl,k5,k6⟩⟩:=r.own i _ h1;refine⟨.ref a,k1,?_⟩;rw [Du,Jx];exact .inr (.inr ⟨rfl,rfl,a,rr,rfl,k4,k5,Eo.same r.ins k6⟩)
  ·cases h2
  ·subst h2;obtain⟨v,k1,k2⟩:=r.dat i x h1;exact⟨v,k1,k2.same r.ins⟩
 all_goals
  unfold L2.JR at h;rw [List.getElem?_map]at h;obtain⟨l,h1,h2⟩:=aC.mp h;unfold Yo at h2;split at h2
  ·cases h2
  ·cases h2
  ·cases h2
  ·rename_i n1 n3 n2;subst h2;cases xs with
   |lst zs=>exact(n1 zs rfl).elim
   |Cr zs=>exact(n3 zs rfl).elim
   |S0 zs=>exact(n2 (.S0 zs) rfl).elim
def Rw.on{H':Hp}(r:Rw G0 H0 G H σ δ ts)(e:AO H H'):Rw G0 H0 G H' σ δ ts:=r.lift (AO.refl _) Nw.refl (r.ins.trans e) e
end
section
variable{X:Cx}{a b c e:Expr}{es:List Expr}{f g h:Dv→Option PD}{fs:Dv→Option (List PD)}{fa:Dv→Option Bool}{pos p:Pos}
abbrev Ro(f:Dv→Option Bool):Dv→Option Bool:=fun δ=>f (JR δ)
def ei(h:DT X e fa):DT X e (Ro fa):=by
 obtain⟨t,p,k⟩:=h;refine⟨t,p,fun δ z hz G0 H0 G H σ ts Q R q=>?_⟩;exact k _ z hz H H H H σ ts Q R.JR fun G' H' R'=>q _ _ (R.on R'.keep)
end
section
variable{F F1 F2:DF}{δ δ':Dv}{r:Option Ou}{c:Dv→Option Bool}{f g:Dv→Option PD}{fs:Dv→Option (List PD)}
def A2(h:F1 δ=some (.nx δ'))(k:F2 δ'=r):Ap F1 F2 δ=r:=by unfold Ap;rw [h];exact k
def Vc{x:PD}(h:F1 δ=some (.rt x)):Ap F1 F2 δ=some (.rt x):=by unfold Ap;rw [h]
def Rj(h:c δ=some true)(k:F1 δ=r):MY c F1 F2 δ=r:=by show(c δ).bind _=r;rw [h];exact k
def NA(h:c δ=some false)(k:F2 δ=r):MY c F1 F2 δ=r:=by show(c δ).bind _=r;rw [h];exact k
def CJ{i:Nat}{y:PD}(h:f δ=some y):Ca i f δ=some (.nx (δ.set i (.d y))):=by show(f δ).map _=_;rw [h];rfl
def GU{y:PD}(h:f δ=some y):EX f δ=some (.rt y):=by show(f δ).map _=_;rw [h];rfl
def AW{o:PD→PD→Option PD}{x y:PD}{z:Option PD}(h1:f δ=some x)(h2:g δ=some y)(h3:o x y=z):AQ o f g δ=z:=by unfold AQ;rw [h1,h2];exact h3
def Af{m:MD}{xs:List PD}{z:Option PD}(h1:fs δ=some xs)(h2:m xs=z):AU m fs δ=z:=by show(fs δ).bind m=z;rw [h1];exact h2
def Al{x:PD}{xs:List PD}(h1:f δ=some x)(h2:fs δ=some xs):AB f fs δ=some (x::xs):=by show(f δ).bind _=_;rw [h1];show(fs δ).map _=_;rw [h2];rfl
def U2{xs:List PD}(h:fs δ=some xs)(hl:xs.length≤Bm):DZ fs δ=some (.tuple xs):=by show((fs δ).bind HL).map _=_;rw [h];show(HL xs).map _=_;unfold HL;rw [if_pos hl];rfl
def GK{o:PD→PD→Option PD}{x y:PD}{b:Bool}(h1:f δ=some x)(h2:g δ=some y)(h3:o x y=some (.bool b)):ER o f g δ=some b:=by show(AQ o f g δ).bind PN=_;rw [AW h1 h2 h3];rfl
def kA{a b:Dv→Option Bool}{q:Option Bool}(h:a δ=some false)(k:b δ=q):bx a b δ=q:=by show(a δ).bind _=q;rw [h];exact k
def eE{a:Dv→Option Bool}{b:Bool}(h:a δ=some b):gk a δ=some (!b):=by show(a δ).map _=_;rw [h];rfl
def VP{b:Bool}(h:f δ=some (.bool b)):Zz f δ=some b:=by show(f δ).bind PN=_;rw [h];rfl
def Sf{set:PD→Dv→Option Dv}(Iv:Nat→Dv→Prop):∀(xs:List PD) (δ:Dv) (n:Nat),Iv n δ→(∀(i:Nat) (x:PD) (δ:Dv),xs[i]? = some x→Iv (n+i) δ→∃δ1 δ2,set x δ=some δ1∧F δ1=some (.nx δ2)∧Iv (n+i+1) δ2) →
  ∃δ',KW set F xs δ=some (.nx δ')∧Iv (n+xs.length) δ'
 |[],δ,n,h,_=>⟨δ,rfl,h⟩
 |x::xs,δ,n,h,k=>by
  obtain⟨δ1,δ2,h1,h2,h3⟩:=k 0 x δ rfl h;obtain⟨δ',h4,h5⟩:=Sf Iv xs δ2 (n+1) h3 fun i y δ hy hv=>by
   have:=k (i+1) y δ (by simpa using hy) (by rw [show n+(i+1)=n+1+i by omega];exact hv);rw [show n+(i+1)+1=n+1+i+1 by omega]at this;exact this
  refine⟨δ',?_,by rw [List.length_cons,show n+(xs.length+1)=n+1+xs.length by omega];exact h5⟩;unfold KW;rw [h1,Option.bind_some,h2];exact h4
def Z1{set:PD→Dv→Option Dv}{xs:List PD}(Iv:Nat→Dv→Prop)(hx:fs δ=some xs)(h0:Iv 0 δ)(hs:∀(i:Nat) (x:PD) (δ:Dv),xs[i]? = some x→Iv i δ→∃δ1 δ2,set x δ=some δ1∧F δ1=some (.nx δ2)∧Iv (i+1) δ2) :
  ∃δ',Ek fs set F δ=some (.nx δ')∧Iv xs.length δ':=by
 obtain⟨δ',h1,h2⟩:=Sf (F:=F) (set:=set) Iv xs δ 0 h0 fun i x δ hx hv=>by
  have:=hs i x δ hx (by simpa using hv)
  simpa using this
 refine⟨δ',?_,by simpa using h2⟩;show(fs δ).bind _=_;rw [hx];exact h1
end
def HV{ps N:List Str}{F:DF}{ds:List PD}{x:PD}(hl:ds.length=ps.length)(h:F (GG N ds)=some (.rt x)):DR ps N F ds=some x:=by unfold DR;rw [if_pos hl,h]
def VW{lo:Int}{n i:Nat}{x:PD}(h:(GD lo n)[i]? = some x):x=.int (lo+(i:Nat))∧i<n:=by
 unfold GD at h;rw [List.getElem?_map]at h;obtain⟨j,hj,rfl⟩:=aC.mp h;have hl:=(aE.mp hj).1;rw [List.getElem?_range (by simpa using hl)]at hj;cases hj;exact⟨rfl,by simpa using hl⟩
def Xl{δ:Dv}{f:Dv→Option PD}{j:Int}(h:f δ=some (.int j))(h0:-1000000≤j)(h1:j≤1000000):GA OG (AB f AI) δ=some (GD 0 j.toNat):=by
 show(AB f AI δ).bind OG=_;rw [Al h (show AI δ=some [] from rfl)];exact if_pos ⟨h0,h1⟩
def JB{n:Nat}{i:Int}(h:i.natAbs<2^n):IG n i=true:=bH h
def OY{i j:Int}(h:Jy i j=true):Cg (.int i) (.int j)=some (.int (i*j)):=by
 show Lw UN SF (.int i) (.int j)=_;unfold Lw;rw [show UN (.int i) (.int j)=some (.int (i*j)) from if_pos h]
def mul_r{i j:Int}(h:j.natAbs<2^64):Cg (.int i) (.int j)=some (.int (i*j)):=OY (by unfold Jy;rw [JB h];simp)
def km{i j:Int}(h:i.natAbs<2^64):Cg (.int i) (.int j)=some (.int (i*j)):=OY (by unfold Jy;rw [JB h];simp)
def mod_is{i j:Int}(h:0<j):Cb (.int i) (.int j)=some (.int (i % j)):=by
 show(if j≠0 then some (PyData.int (i.fmod j)) else none)=_;rw [if_pos (by omega),Int.fmod_eq_emod_of_nonneg _ (by omega)]
def W8{i:Int}{n:Nat}(hn:n≤1000)(hi:IG 64 i=true):Mk (.int i) (.int (n:Int))=some (.int (i^n)):=by
 show(if 0≤(n:Int)∧(n:Int)≤1000∧IG 64 i=true then some (PyData.int (i^(n:Int).toNat)) else none)=_;rw [if_pos ⟨by omega,by omega,hi⟩,Int.toNat_natCast]
def B7(ns:List Int):PD:=.dict [(.none,.list (ns.map .int))]
def gM{H:Hp}{a:AD}{ns:List Int}(h:Rd H a (.lst (ns.map V.int))):Du H (B7 ns) (.ref a):=by unfold B7;rw [Du];exact .inr (.inl ⟨a,ns,rfl,rfl,h⟩)
def Rz(K:Fg):Bool:=K.all fun p=>match p.2.cls with|.type n=>n != "list" |_=>true
def NX{a:AD}{o:Obj}:∀ {K:Fg},K.lookup a=some o→(a,o)∈K
 |[],h=>by cases h
 |(b,u)::K,h=>by
  rw [List.lookup_cons]at h;split at h
  ·rename_i e;cases h;rw [show a=b from by simpa using e];exact .head _
  ·exact .tail _ (NX h)
def i8{K:Fg}{H:Hp}{a:AD}{xs:List V}(hK:Rz K=true)(h:A3 K H a xs):Rd H a (.lst xs):=by
 rcases h with h|⟨o,its,n,h1,h2,_⟩
 ·exact h
 ·unfold Rz at hK;rw [List.all_eq_true]at hK;have:=hK _ (NX h1);rw [h2]at this;exact absurd this (by decide)
abbrev Xr:=PD ⊕ AD
def FJ(g:List PD→Option Xr):Sp:=fun vs H Q E=>∃ds r G,g ds=some r∧Ai G ds vs∧AO G H∧match r with
 |.inl x=>∀v G' H',AO G G'→Nw G H G'→AO G' H'→AO H H'→Du G' x v→Q v H'
 |.inr C=>∀H',AO H H'→E (.ref C) none H'
abbrev cH:=Ou ⊕ AD
abbrev FQ:=Dv→Option cH
def fk(G0 H0:Hp)(D:Ends)(E:XK):cH→Prop
 |.inl o=>Fin G0 H0 D o
 |.inr C=>∀H',AO H0 H'→E (.ref C) none H'
def DX(X:Cx)(E:XK)(st:Stmt)(F:FQ):Prop:=∃t,PS X st t∧∀δ r,F δ=some r→∀G0 H0 G H σ D,Rw G0 H0 G H σ δ []→fk G0 H0 D E r→t D σ H
def Qq(X:Cx)(E:XK)(sts:List Stmt)(F:FQ):Prop:=∃t,HI X sts t∧∀δ r,F δ=some r→∀G0 H0 G H σ D,Rw G0 H0 G H σ δ []→fk G0 H0 D E r→t D σ H
section
variable{X:Cx}{E:XK}{a b c e:Expr}{es:List Expr}{f g h:Dv→Option PD}{fs:Dv→Option (List PD)}{fa:Dv→Option Bool}{pos p:Pos}{st:Stmt}{sts sts':List Stmt}{F F1 F2:DF}{J J1 J2:FQ}
def ZJ{t:TS}(h:HI X.JW sts t):HI X sts t:=fun pins s σ H D I k=>ag (h pins s σ H D (I.Gw _) k) (fun _ _ z=>z.Ey) fun _ _ z=>z.elim
def fZ{t:TE}(h:PE X.JW e t):PE X e t:=fun pins s σ H Q I k=>ag (h pins s σ H Q (I.Gw _) k) (fun _ _ ⟨v,H',I',r,q⟩=>⟨v,H',I'.Ey,r,q⟩) fun _ _ z=>z.elim
def gI{t:TT}(h:PT X.JW e t):PT X e t:=fun pins s σ H Q I k=>ag (h pins s σ H Q (I.Gw _) k) (fun _ _ ⟨H',I',q⟩=>⟨H',I'.Ey,q⟩) fun _ _ z=>z.elim
def T6{t:TA}(h:PA X.JW es t):PA X es t:=fun p pins s σ H Q I k=>ag (h p pins s σ H Q (I.Gw _) k) (fun _ _ ⟨v,H',I',r,q⟩=>⟨v,H',I'.Ey,r,q⟩) fun _ _ z=>z.elim
abbrev Q5(F:DF):FQ:=fun δ=>(F δ).map .inl
def Kk(h:O1 X.JW sts F):Qq X E sts (Q5 F):=by
 obtain⟨t,p,k⟩:=h;refine⟨t,ZJ p,fun δ r h G0 H0 G H σ D R q=>?_⟩;obtain⟨o,h1,rfl⟩:=aC.mp h;exact k δ o h1 G0 H0 G H σ D R q
def Hz(J1 J2:FQ)(δ:Dv):Option cH:=match J1 δ with
 |some (.inl (.nx δ'))=>J2 δ'
 |o=>o
def M5:Qq X E [] (fun δ=>some (.inl (.nx δ))):=⟨_,Dw,fun δ r h G0 H0 G H σ D R k=>by cases h;exact k _ _ _ R⟩
def K6(h:DX X E st J):Qq X E [st] J:=by
 obtain⟨t,p,k⟩:=h;exact⟨t,A5 p,k⟩
def Fc(h1:DX X E st J1)(h2:Qq X E sts J2):Qq X E (st::sts) (Hz J1 J2):=by
 obtain⟨t1,p1,k1⟩:=h1;obtain⟨t2,p2,k2⟩:=h2;refine⟨_,BG p1 p2,fun δ r h G0 H0 G H σ D R q=>?_⟩;unfold Hz at h;split at h
 ·rename_i δ' e1;exact k1 δ _ e1 G0 H0 G H σ _ R fun σ' G' H' R'=>k2 δ' r h G0 H0 G' H' σ' D R' q
 ·rename_i o hn;cases r with
  |inr C=>exact k1 δ _ h G0 H0 G H σ _ R q
  |inl o' =>
   cases o' with
   |nx δ'=>exact absurd h (hn δ')
   |rt x=>exact k1 δ _ h G0 H0 G H σ _ R q
   |bk x=>exact k1 δ _ h G0 H0 G H σ _ R q
   |ct x=>exact k1 δ _ h G0 H0 G H σ _ R q
   |rn x=>exact k1 δ _ h G0 H0 G H σ _ R q
abbrev VU(c:Dv→Option Bool)(J1 J2:FQ):FQ:=fun δ=>(c δ).bind fun b=>if b=true then J1 δ else J2 δ
def Rg(hc:DT X.JW c fa)(h1:Qq X E sts J1)(h2:Qq X E sts' J2):DX X E (.If c sts sts' pos) (VU fa J1 J2):=by
 obtain⟨tc,pc,kc⟩:=hc;obtain⟨t1,p1,k1⟩:=h1;obtain⟨t2,p2,k2⟩:=h2;refine⟨_,Fe (gI pc) p1 p2,fun δ r h G0 H0 G H σ D R q=>?_⟩;obtain⟨b,h3,h4⟩:=aB.mp h;refine kc δ _ h3 G0 H0 G H σ [] _ R fun G1 H1 R1=>?_;split
 ·rename_i hb;rw [if_pos hb]at h4;exact k1 δ r h4 G0 H0 G1 H1 σ D R1 q
 ·rename_i hb;rw [if_neg hb]at h4;exact k2 δ r h4 G0 H0 G1 H1 σ D R1 q
abbrev Mh(C:AD)(f:Dv→Option PD):FQ:=fun δ=>(f δ).map fun _=>.inr C
def LM{x:Str}{C:AD}{np cpos:Pos}(T:Exc X.K X.mg x C)(hL:Lets X E)(he:DE X.JW e f)(hcalm:X.calm=true:=by rfl)(hg:Gl X x:=by rfl)(hd:(x==("__debug__" : Str))=false:=by decide)
 (hst:starEach [e] X.env=[(false,eval e X.env)]:=by rfl):DX X E (.Raise (some (.Call (.Name x np) [e] [] cpos)) none pos) (Mh C f):=by
 obtain⟨t,p,k⟩:=he;refine⟨_,bc T hL hcalm hg (fZ p) hd hst,fun δ r h G0 H0 G H σ D R q=>?_⟩;obtain⟨y,h1,rfl⟩:=aC.mp h;exact k δ y h1 G0 H0 G H σ [] _ R fun v G' H' R'=>q _ R'.keep
def X6{k:Nat}{m:List PD→Option Xr}{ta:TA}(ka:∀δ xs,fs δ=some xs→∀G0 H0 G H σ ts (Q:List V→Hp→Prop),Rw G0 H0 G H σ δ ts→(∀vs G' H',Rw G0 H0 G' H' σ δ (xs.zip vs++ts)→vs.length=xs.length→Q vs H')→ta σ H Q)
 {δ:Dv}{r:Xr}(hz:(fs δ).bind m=some r){G0 H0 G H:Hp}{σ:St}{Q:VK}{E':XK}(R:Rw G0 H0 G H σ δ [])(q1:∀x,r=.inl x→∀v G' H',Rw G0 H0 G' H' σ δ [(x,v)]→Q v H')(q2:∀C,r=.inr C→∀G' H',Rw G0 H0 G' H' σ δ []→E' (.ref C) none H') :
  ta σ H fun vs H1=>FJ m (vs++[]) H1 Q E':=by
 obtain⟨xs,h1,h2⟩:=aB.mp hz;refine ka δ _ h1 G0 H0 G H σ [] _ R fun vs G1 H1 R1 hv=>?_;obtain⟨d,R2⟩:=R1.args hv;refine⟨xs,r,G1,h2,by rw [List.append_nil];exact d,R2.ins,?_⟩;cases r with
 |inl x=>exact fun v G' H' h3 h4 h5 h6 h7=>q1 x rfl _ _ _ ((R2.lift h3 h4 h5 h6).put h7)
 |inr C=>exact fun H' h=>q2 C rfl _ _ (R2.on h)
section
variable{k:Nat}{fA:AD}{fd:FuncData}{ps:List Str}{m:List PD→Option Xr}{x:Str}{st':Stmt}
abbrev Mx(m:List PD→Option Xr)(fs:Dv→Option (List PD))(nx:PD→Dv→Ou):FQ:=fun δ=>((fs δ).bind m).map fun r=>match r with
 |.inl x=>.inl (nx x δ)
 |.inr C=>.inr C
def eB(T:Fn X.K X.mg x st' ps fA fd)(F:AN X.prog X.w X.K X.mg X.base (CS X.prog X.w) k fA fd ps (FJ m))(hr:DN k X.A)(hP:Passes (CS X.prog X.w) X E)(ha:DA X.JW (e::es) fs)
 {pos2:Pos}(hP2:∀ {t:TE},PE X (.Call (.Name x p) (e::es) [] pos) t→PS X (.Expr (.Call (.Name x p) (e::es) [] pos) pos2) (Ry t))
 (hg:Gl X x:=by rfl)(hdb:(x==("__debug__" : Str))=false:=by decide)(he:starEach (e::es) X.env=(false,eval e X.env)::starEach es X.env:=by rfl)(hpl:(backTo pos (starEach es X.env)).any (·.1)=false:=by rfl) :
  DX X E (.Expr (.Call (.Name x p) (e::es) [] pos) pos2) (Mx m fs fun _ δ=>.nx δ):=by
 obtain⟨ta,pa,ka⟩:=ha;refine⟨_,hP2 (Tq T F hr hg hP (T6 pa) hdb he hpl),fun δ r h G0 H0 G H σ D R q=>?_⟩;obtain⟨z,h1,rfl⟩:=aC.mp h;refine X6 (k:=k) ka h1 R (fun x hx v G' H' R'=>?_) (fun C hC G' H' R'=>?_)
 ·subst hx;exact q _ _ _ R'.drop
 ·subst hC;exact q _ R'.keep
def Xj{i:Nat}{y:Str}{pos' pos2:Pos}(T:Fn X.K X.mg x st' ps fA fd)(F:AN X.prog X.w X.K X.mg X.base (CS X.prog X.w) k fA fd ps (FJ m))(hr:DN k X.A)(hP:Passes (CS X.prog X.w) X E)(ha:DA X.JW (e::es) fs)
 (hN:X.N.Nodup)(hx:Loc X.env.scope y)(hi:X.N[i]? = some y:=by rfl)(hg:Gl X x:=by rfl)
 (hdb:(x==("__debug__" : Str))=false:=by decide)(he:starEach (e::es) X.env=(false,eval e X.env)::starEach es X.env:=by rfl)(hpl:(backTo pos (starEach es X.env)).any (·.1)=false:=by rfl)
 (hs:swapsWith (.Call (.Name x p) (e::es) [] pos) (some (.Name y pos')) pos2.line X.env=pure false:=by rfl)(hf:X.fn y=true∨X.env.scope.names.lookup y=some .local:=by first|exact .inl rfl|exact .inr rfl|assumption) :
  DX X E (.Assign [.Name y pos'] (.Call (.Name x p) (e::es) [] pos) pos2) (Mx m fs fun z δ=>.nx (δ.set i (.d z))):=by
 obtain⟨ta,pa,ka⟩:=ha;refine⟨_,CV hN hi hx (Tq T F hr hg hP (T6 pa) hdb he hpl) hs hf,fun δ r h G0 H0 G H σ D R q=>?_⟩;obtain⟨z,h1,rfl⟩:=aC.mp h;refine X6 (k:=k) ka h1 R (fun x hx v G' H' R'=>?_) (fun C hC G' H' R'=>?_)
 ·subst hx;exact q _ _ _ R'.Gs
 ·subst hC;exact q _ R'.keep
end
end
def Fw(ps N:List Str)(J:FQ)(ds:List PD):Option Xr:=if ds.length=ps.length then(match J (GG N ds) with
 |some (.inl (.rt x))=>some (.inl x)
 |some (.inl (.nx _))=>some (.inl .none)
 |some (.inl (.rn xs))=>some (.inl (.list xs))
 |some (.inr C)=>some (.inr C)
 |_=>none) else none
section
variable{P:Program}{w:World}{K:Fg}{mg:Str→Option VL}{base:Heap}{x:Str}{st:Stmt}{fA:AD}{fd:FuncData}{N ps:List Str}{k:Nat}
def R8{qual:Str}{scope:Scope}{cd:VL}{A:Around}{outer:List Env}{s:SD}{H:Hp}{E:XK} :
  Lets (Cn (CS P w) P w K mg base N qual scope fA cd A outer s H E) E:=fun _ _ _ _ _ _ _ _ I hx hE=>dZ I hx hE
def LW{qual:Str}{scope:Scope}{cd:VL}{A:Around}{outer:List Env}{s:SD}{H:Hp}{E:XK}:Passes (CS P w) (Cn (CS P w) P w K mg base N qual scope fA cd A outer s H E) E:=j0 fun _ _ _ z=>z
def PY{J:FQ}(T:Fn K mg x st ps fA fd)(S:Ak N ps (AV st))
 (hb:∀(cdv:VL) (A:Around) (outer:List Env) (s:SD) (H:Hp) (E:XK),DN k (A.deeper (envOfC x (AV st) s.heap.objs.size fA cdv))→Qq (Cn (CS P w) P w K mg base N x (AV st) fA cdv A outer s H E) E (Ds st) J) :
  AN P w K mg base (CS P w) (k+1) fA fd ps (FJ (Fw ps N J)):=by
 refine T.F.nQ S (fun vs H Q E h=>?_) fun cdv A outer s H vs Q E hr h=>?_
 ·obtain⟨ds,y,G,h1,h2,_⟩:=h;unfold Fw at h1;split at h1
  ·rename_i hl;rw [h2.len];exact hl
  ·cases h1
 ·obtain⟨ds,y,G,h1,h2,h3,h4⟩:=h;obtain⟨t,p,kk⟩:=hb cdv A outer s H E hr;refine⟨t,p,?_⟩;unfold Fw at h1;split at h1
  ·split at h1
   ·rename_i z e1;cases h1;exact kk _ _ e1 G H G H _ _ (Rw.start h2 h3) fun v G' H' m1 m2 m3 m4 m5=>h4 v G' H' m1 m2 m3 m4 m5
   ·rename_i δ e1;cases h1;exact kk _ _ e1 G H G H _ _ (Rw.start h2 h3) fun σ' G' H' R=>h4 .A8 G' H' R.ext R.new R.ins R.keep (by rw [Du])
   ·rename_i xs e1;cases h1;exact kk _ _ e1 G H G H _ _ (Rw.start h2 h3) fun a ys G' H' m1 m2 m3 m4 m5 m6 m7 m8=>let⟨n1,n2,n3,n4⟩:=cy m1 m2 m3 m5 m6 m7 m8;h4 _ _ H' n1 n2 n3 m4 n4
   ·rename_i C e1;cases h1;exact kk _ _ e1 G H G H _ _ (Rw.start h2 h3) h4
   ·cases h1
  ·cases h1
def AN.nJ{sp sp':Sp}(F:AN P w K mg base (CS P w) k fA fd ps sp)(h:∀vs H Q E,sp' vs H Q E→sp vs H Q fun _ _ _=>False):AN P w K mg base Ar k fA fd ps sp' :=
 ⟨fun vs H Q E z=>F.len _ _ _ _ (h _ _ _ _ z),fun A outer s H args us vs Q E hr he hb hv hs=>codeAny_mono (F.run A outer s H args us vs Q _ hr he hb hv (h _ _ _ _ hs)) fun r s' z=>by
  cases r with
  |ok fl=>cases fl<;>exact z
  |error e=>obtain⟨_,_,_,_,_,_,_,z⟩:=z;exact z.elim⟩
def good(m:List PD→Option Xr)(ds:List PD):Option PD:=match m ds with
 |some (.inl x)=>some x
 |_=>none
def Ic{m:List PD→Option Xr}(F:AN P w K mg base (CS P w) k fA fd ps (FJ m)):AN P w K mg base Ar k fA fd ps (BJ (good m)):=F.nJ fun vs H Q E z=>by
 obtain⟨ds,x,G,h1,h2,h3,h4⟩:=z;unfold good at h1;split at h1
 ·rename_i y e;cases h1;exact⟨ds,.inl x,G,e,h2,h3,h4⟩
 ·cases h1
end
abbrev M7(fs:Dv→Option (List PD)):DF:=fun δ=>(fs δ).map .rn
abbrev Le(i:Nat):DF:=fun δ=>(ow i δ).map .rn
section
variable{X:Cx}{a b c e:Expr}{es:List Expr}{f g h:Dv→Option PD}{fs:Dv→Option (List PD)}{fa:Dv→Option Bool}{pos p:Pos}
def Ir{i:Nat}{x:Str}{np:Pos}(hv:PE X (.Name x np) (Lk i)):DS X (.Return (some (.Name x np)) pos) (Le i):=by
 refine⟨_,CN hv,fun δ r h G0 H0 G H σ D R q=>?_⟩;obtain⟨xs,h1,rfl⟩:=aC.mp h;obtain⟨a,_,k1,k2,k3,k4,⟨ys,rfl,k5⟩⟩:=R.own i _ (M1 h1);exact⟨.ref a,k1,q a ys G H R.ext R.new R.ins R.keep k3 k2 k4 k5⟩
end
section
variable{X:Cx}{elt iter:Expr}{x y:Str}{px py tp pos spos:Pos}{tk:Nat}{ifs:List Expr}{scope:Scope}{fs:Dv→Option (List PD)}{tif:Dv→Option Bool}{f:Dv→Option PD}
def QA(N:List Str)(ix:Nat)(fr:List (Option Nat))(hi:DI X (.Name x px) iter fs)(hif:∀cl C s₀ H₀ fp,RJ (Am X scope cl N C s₀ H₀ fp) ifs tif)(he:∀cl C s₀ H₀ fp,DE (Am X scope cl N C s₀ H₀ fp) elt f)
 (h1:BL scope N x ix=true:=by decide +kernel)(h2:X.calm=true:=by rfl)(h3:D8 N X.N scope X.env.scope fr 0=true:=by rfl)(h4:fr.length=N.length:=by rfl)(h5:freeOk X.env.scope scope.names=true:=by rfl)
 (hs:∀x,foldedSetIterable iter X.env x=pure x:=by intro _;rfl):DS X (.Return (some (.ListComp elt [⟨.Name x px,iter,ifs,0⟩] scope pos)) spos) (M7 (CO (Co ix) tif f fr fs)):=by
 obtain⟨wi,pi,ki⟩:=hi;refine⟨_,CN (LP N ix fr pi hif (fun cl C s₀ H₀ fp=>(he cl C s₀ H₀ fp).pe) h1 h2 h3 h4 h5 hs),fun δ r h G0 H0 G H σ D R q=>?_⟩;obtain⟨zs,m1,rfl⟩:=aC.mp h;exact Ol ki m1 R fun D' ys G' H' R' n1 n2 n3 n4 n5=>q _ _ _ _ R'.ext R'.new R'.ins R'.keep n3 n2 n1 n5
def Z7(N:List Str)(ix iy:Nat)(fr:List (Option Nat))(hi:DI X (.Tuple [.Name x px,.Name y py] tk tp) iter fs)(hif:∀cl C s₀ H₀ fp,RJ (Am X scope cl N C s₀ H₀ fp) ifs tif)(he:∀cl C s₀ H₀ fp,DE (Am X scope cl N C s₀ H₀ fp) elt f)
 (h1:BL scope N x ix=true:=by decide +kernel)(h1':BL scope N y iy=true:=by decide +kernel)(hxy:ix≠iy:=by decide)(h2:X.calm=true:=by rfl)(h3:D8 N X.N scope X.env.scope fr 0=true:=by rfl)(h4:fr.length=N.length:=by rfl)(h5:freeOk X.env.scope scope.names=true:=by rfl)
 (hs:∀x,foldedSetIterable iter X.env x=pure x:=by intro _;rfl):DS X (.Return (some (.ListComp elt [⟨.Tuple [.Name x px,.Name y py] tk tp,iter,ifs,0⟩] scope pos)) spos) (M7 (CO (DV ix iy) tif f fr fs)):=by
 obtain⟨wi,pi,ki⟩:=hi;refine⟨_,CN (RO N ix iy fr pi hif (fun cl C s₀ H₀ fp=>(he cl C s₀ H₀ fp).pe) h1 h1' hxy h2 h3 h4 h5 hs),fun δ r h G0 H0 G H σ D R q=>?_⟩;obtain⟨zs,m1,rfl⟩:=aC.mp h;exact Nj ki m1 R fun D' ys G' H' R' n1 n2 n3 n4 n5=>q _ _ _ _ R'.ext R'.new R'.ins R'.keep n3 n2 n1 n5
end
def Yk(ps N:List Str)(F:DF)(ds:List PD):Option (List PD):=if ds.length=ps.length then(match F (GG N ds) with
 |some (.rn xs)=>some xs
 |_=>none) else none
section
variable{P:Program}{w:World}{K:Fg}{mg:Str→Option VL}{base:Heap}{x:Str}{st:Stmt}{fA:AD}{fd:FuncData}{N ps:List Str}{k:Nat}
def fB{F:DF}{ds xs:List PD}(hl:ds.length=ps.length)(h:F (GG N ds)=some (.rn xs)):Yk ps N F ds=some xs:=by unfold Yk;rw [if_pos hl,h]
def Qh{F:DF}{ds xs:List PD}(hl:ds.length=ps.length)(h:F (GG N ds)=some (.rn xs)):DR ps N F ds=some (.list xs):=by unfold DR;rw [if_pos hl,h]
def eP{J:FQ}{ds:List PD}{y:PD}(hl:ds.length=ps.length)(h:J (GG N ds)=some (.inl (.rt y))):Fw ps N J ds=some (.inl y):=by unfold Fw;rw [if_pos hl,h]
def eN{J:FQ}{ds:List PD}{δ:Dv}(hl:ds.length=ps.length)(h:J (GG N ds)=some (.inl (.nx δ))):Fw ps N J ds=some (.inl .none):=by unfold Fw;rw [if_pos hl,h]
def P5{J:FQ}{ds xs:List PD}(hl:ds.length=ps.length)(h:J (GG N ds)=some (.inl (.rn xs))):Fw ps N J ds=some (.inl (.list xs)):=by unfold Fw;rw [if_pos hl,h]
end
section
variable{J J1 J2:FQ}{δ δ':Dv}{r:Option cH}{c:Dv→Option Bool}{fs:Dv→Option (List PD)}{m:List PD→Option Xr}{ds xs:List PD}{f:Dv→Option PD}{fr:List (Option Nat)}{g:PD→PD}
def Iz(h:J1 δ=some (.inl (.nx δ')))(k:J2 δ'=r):Hz J1 J2 δ=r:=by unfold Hz;rw [h];exact k
def b7(h:c δ=some false)(k:J2 δ=r):VU c J1 J2 δ=r:=by show(c δ).bind _=r;rw [h];exact k
def N6{nx:PD→Dv→Ou}{y:PD}(h:fs δ=some ds)(k:m ds=some (.inl y)):Mx m fs nx δ=some (.inl (nx y δ)):=by show((fs δ).bind m).map _=_;rw [h];show(m ds).map _=_;rw [k];rfl
end
section
variable{δ:Dv}{fs:Dv→Option (List PD)}{ds xs:List PD}
def add_l{a b:List PD}(h:a.length+b.length≤Bm):Bx (.list a) (.list b)=some (.list (a++b)):=by
 show Lw a8 (Lw Pz (Lw Rp WV)) (.list a) (.list b)=_;have:Pz (.list a) (.list b)=some (.list (a++b)):=if_pos h;unfold Lw;show(match Pz (.list a) (.list b) with|some z=>some z|none=>_)=_;rw [this]
end
section
variable{F F1 F2:DF}{δ δ':Dv}{fs:Dv→Option (List PD)}{xs:List PD}{set:PD→Dv→Option Dv}{r:Option Ou}
def KH{Q:Dv→Prop}(h:F1 δ=some (.nx δ'))(k:∃δ2,F2 δ'=some (.nx δ2)∧Q δ2):∃δ2,Ap F1 F2 δ=some (.nx δ2)∧Q δ2:=let⟨δ2,a,b⟩:=k;⟨δ2,A2 h a,b⟩
def XF(Iv:Nat→Dv→Prop)(hx:fs δ=some xs)(h0:Iv 0 δ)(hs:∀(i:Nat) (x:PD) (δ:Dv),xs[i]? = some x→Iv i δ→∃δ1,set x δ=some δ1∧∃δ2,F δ1=some (.nx δ2)∧Iv (i+1) δ2) :
  ∃δ',Ek fs set F δ=some (.nx δ')∧Iv xs.length δ':=Z1 Iv hx h0 fun i x δ a b=>let⟨δ1,c,δ2,e,g⟩:=hs i x δ a b;⟨δ1,δ2,c,e,g⟩
def LY(Iv:Nat→Dv→Prop)(hx:fs δ=some xs)(h0:Iv 0 δ)(hs:∀(i:Nat) (x:PD) (δ:Dv),xs[i]? = some x→Iv i δ→∃δ1,set x δ=some δ1∧∃δ2,F δ1=some (.nx δ2)∧Iv (i+1) δ2)
 (k:∀δ',Iv xs.length δ'→F2 δ'=r):Ap (Ek fs set F) F2 δ=r:=by
 obtain⟨δ',h1,h2⟩:=XF Iv hx h0 hs;exact A2 h1 (k δ' h2)
def Ut{f:Dv→Option PD}{x:PD}(h:f δ=some x)(k:Fl x=some xs):D6 f δ=some xs:=by show(f δ).bind Fl=_;rw [h];exact k
end
abbrev Uw:=List PD ⊕ AD
def iH(X:Cx)(E:XK)(e:Expr)(f:Dv→Option Xr):Prop:=∃t,PE X e t∧∀δ r,f δ=some r→∀G0 H0 G H σ ts (Q:VK),Rw G0 H0 G H σ δ ts→(∀x,r=.inl x→∀v G' H',Rw G0 H0 G' H' σ δ ((x,v)::ts)→Q v H')→(∀C,r=.inr C→∀H',AO H0 H'→E (.ref C) none H')→t σ H Q
def b3(X:Cx)(E:XK)(es:List Expr)(f:Dv→Option Uw):Prop:=∃t,PA X es t∧∀δ r,f δ=some r→∀G0 H0 G H σ ts (Q:List V→Hp→Prop),Rw G0 H0 G H σ δ ts→(∀xs,r=.inl xs→∀vs G' H',Rw G0 H0 G' H' σ δ (xs.zip vs++ts)→vs.length=xs.length→Q vs H')→(∀C,r=.inr C→∀H',AO H0 H'→E (.ref C) none H')→t σ H Q
section
variable{X:Cx}{E:XK}{a b c e:Expr}{es:List Expr}{f:Dv→Option PD}{fx:Dv→Option Xr}{gx:Dv→Option Uw}{fs:Dv→Option (List PD)}{pos p:Pos}
abbrev Hy(f:Dv→Option (List PD)):Dv→Option Uw:=fun δ=>(f δ).map .inl
def Ot(h:DA X.JW es fs):b3 X E es (Hy fs):=by
 obtain⟨t,p,k⟩:=h;refine⟨t,T6 p,fun δ r h G0 H0 G H σ ts Q R q1 q2=>?_⟩;obtain⟨o,h1,rfl⟩:=aC.mp h;exact k δ o h1 G0 H0 G H σ ts Q R (q1 o rfl)
def Gz(fx:Dv→Option Xr)(gx:Dv→Option Uw)(δ:Dv):Option Uw:=match fx δ with
 |some (.inl x)=>(match gx δ with
  |some (.inl xs)=>some (.inl (x::xs))
  |some (.inr C)=>some (.inr C)
  |none=>none)
 |some (.inr C)=>some (.inr C)
 |none=>none
def T2(ha:iH X E e fx)(hr:b3 X E es gx)(hs:starEach (e::es) X.env=(false,eval e X.env)::starEach es X.env:=by rfl):b3 X E (e::es) (Gz fx gx):=by
 obtain⟨ta,pa,ka⟩:=ha;obtain⟨tr,pr,kr⟩:=hr;refine⟨_,Ac pa pr hs,fun δ r hz G0 H0 G H σ ts Q R q1 q2=>?_⟩;unfold Gz at hz;cases hf:fx δ with
 |none=>rw [hf]at hz;cases hz
 |some u =>
  rw [hf]at hz;cases u with
  |inr C =>
   cases hz;exact ka δ _ hf G0 H0 G H σ ts _ R (fun x hx=>by cases hx) fun C' hC=>by cases hC;exact q2 C rfl
  |inl x =>
   refine ka δ _ hf G0 H0 G H σ ts _ R (fun x' hx v G1 H1 R1=>?_) (fun C hC=>by cases hC);cases hx;cases hg:gx δ with
   |none=>rw [hg]at hz;cases hz
   |some w =>
    rw [hg]at hz;refine kr δ _ hg G0 H0 G1 H1 σ _ _ R1 (fun xs hxs vs G2 H2 R2 hl=>?_) (fun C hC H' h'=>?_)
    ·subst hxs;cases hz;refine q1 _ rfl (v::vs) G2 H2 (R2.less fun q hq=>?_) (by simp [hl]);simp only [List.zip_cons_cons,List.cons_append,List.mem_cons,List.mem_append]at hq ⊢;rcases hq with h|h|h
     ·exact .inr (.inl h)
     ·exact .inl h
     ·exact .inr (.inr h)
    ·subst hC;cases hz;exact q2 C rfl H' h'
def EO(gx:Dv→Option Uw)(m:List PD→Option Xr)(δ:Dv):Option Xr:=match gx δ with
 |some (.inl xs)=>m xs
 |some (.inr C)=>some (.inr C)
 |none=>none
def Lc{k:Nat}{fA:AD}{fd:FuncData}{ps:List Str}{m:List PD→Option Xr}{x:Str}{st':Stmt}(T:Fn X.K X.mg x st' ps fA fd)(F:AN X.prog X.w X.K X.mg X.base (CS X.prog X.w) k fA fd ps (FJ m))(hr:DN k X.A)(hP:Passes (CS X.prog X.w) X E)(ha:b3 X E (e::es) gx)
 (hg:Gl X x:=by rfl)(hdb:(x==("__debug__" : Str))=false:=by decide)(he:starEach (e::es) X.env=(false,eval e X.env)::starEach es X.env:=by rfl)(hpl:(backTo pos (starEach es X.env)).any (·.1)=false:=by rfl) :
  iH X E (.Call (.Name x p) (e::es) [] pos) (EO gx m):=by
 obtain⟨ta,pa,ka⟩:=ha;refine⟨_,Tq T F hr hg hP pa hdb he hpl,fun δ r hz G0 H0 G H σ ts Q R q1 q2=>?_⟩;unfold EO at hz;cases hg:gx δ with
 |none=>rw [hg]at hz;cases hz
 |some w =>
  rw [hg]at hz;refine ka δ _ hg G0 H0 G H σ ts _ R (fun xs hxs vs G1 H1 R1 hv=>?_) (fun C hC H' h'=>?_)
  ·subst hxs;obtain⟨d,R2⟩:=R1.args hv;refine⟨xs,r,G1,hz,by rw [List.append_nil];exact d,R2.ins,?_⟩;cases r with
   |inl y=>exact fun v G' H' h3 h4 h5 h6 h7=>q1 y rfl _ _ _ ((R2.lift h3 h4 h5 h6).put h7)
   |inr C=>exact fun H' h=>q2 C rfl H' (R2.keep.trans h)
  ·subst hC;cases hz;exact q2 C rfl H' h'
abbrev xE(fx:Dv→Option Xr)(nx:PD→Dv→Ou):FQ:=fun δ=>(fx δ).map fun r=>match r with
 |.inl x=>.inl (nx x δ)
 |.inr C=>.inr C
def Vr{i:Nat}{y:Str}{pos':Pos}(he:iH X E e fx)(hN:X.N.Nodup)(hx:Loc X.env.scope y)(hi:X.N[i]? = some y:=by rfl)(hs:swapsWith e (some (.Name y pos')) pos.line X.env=pure false:=by rfl)(hf:X.fn y=true∨X.env.scope.names.lookup y=some .local:=by first|exact .inl rfl|exact .inr rfl|assumption) :
  DX X E (.Assign [.Name y pos'] e pos) (xE fx fun x δ=>.nx (δ.set i (.d x))):=by
 obtain⟨t,p,k⟩:=he;refine⟨_,CV hN hi hx p hs hf,fun δ r h G0 H0 G H σ D R q=>?_⟩;obtain⟨z,h1,rfl⟩:=aC.mp h;refine k δ z h1 G0 H0 G H σ [] _ R (fun x hx v G' H' R'=>?_) (fun C hC H' h'=>?_)
 ·subst hx;exact q _ _ _ R'.Gs
 ·subst hC;exact q _ h'
end
end L2
set_option maxHeartbeats 2000000
set_option maxHeartbeats 1000000
namespace L2
open PySem PySem.Spec PyProof.Rows
def YQ(ns:List Int):(ns.map V.int).all Ie=true:=by
 rw [List.all_eq_true];intro x hx;obtain⟨i,_,rfl⟩:=aQ.mp hx
 rfl
def S8(i:Int):∀ns:List Int,cT (.int i) (ns.map V.int)=ns.contains i
 |[]=>rfl
 |n::ns=>by
  have ih:=S8 i ns;unfold cT at ih ⊢;rw [List.map_cons,List.any_cons,ih,List.contains_cons]
  congr 1
  show(n==i)=(i==n);rw [Bool.eq_iff_iff,beq_iff_eq,beq_iff_eq];exact eq_comm
end L2
set_option maxHeartbeats 4000000
namespace L2
open PySem PySem.Spec PyProof.Rows
def GT(H:Hp)(v:VL)(x:Tr):Prop:=∃a ys,v=.ref a∧H a=some (.tup ys)∧Ts H x ys
def WA(S:AD)(ev:Array (Int×VL))(ep:Nat)(t:SetTable):HO:=.ext fun h=>∃o,h.get? S=some o∧o.ExactSet∧o.data=.set ev ep t
abbrev iu(H:Hp)(p:Int×VL)(q:Int×Tr):Prop:=p.1=q.1∧q.2.deep<8∧GT H p.2 q.2
def Zp(H:Hp)(S:AD)(st:TH.ES×SetTable):Prop:=∃ev ep,H S=some (WA S ev ep st.2)∧PySem.Paired (iu H) ev.toList st.1.toList
def GT.same{H H':Hp}{v:VL}{x:Tr}(h:GT H v x)(e:AO H H'):GT H' v x:=let⟨a,ys,e1,e2,e3⟩:=h;⟨a,ys,e1,e _ _ e2,e3.same e⟩
structure bw(w:World)(st:TH.ES×SetTable):Prop where
 fit:st.2.fits st.1.size=true
 plain:st.2.plain=true
 led:st.2.led=!w.params.followText "set-order"
 walk:TH.Ml st.2 st.1.size=true
 small:st.1.size<64
section
variable{X:Cx}{pins:List (AD×Obj)}{σ:St}{H:Hp}{s:SD}
def Xp(I:Inv X pins σ H s){v:VL}{x:Tr}(g:GT H v x):∃a its,v=.ref a∧s.heap.IsTuple a its.toArray∧TH.Vs s.heap x its:=by
 obtain⟨a,ys,rfl,h1,h2⟩:=g;obtain⟨its,r,p,_⟩:=I.tuple (BF.of (K:=X.K) h1);exact⟨a,its,rfl,p,h2.vs I r⟩
def T7(I:Inv X pins σ H s):∀ {t:Tr} {ys:List V} {us:List VL},Ts H t ys→Vals ys us→t.deep≤8→TH.Im (GT H) s.heap us t.bs
 |.nil,ys,us,h,r,_=>by
  rw [Ts]at h;subst h;cases r;exact .nil
 |.cons b q,ys,us,h,r,hd=>by
  rw [Ts]at h;obtain⟨a,zs,rest,rfl,h1,h2,h3⟩:=h;rw [Tr.deep]at hd;cases r with
  |cons r1 r2 =>
   cases r1;have g:GT H (.ref a) b:=⟨a,zs,rfl,h1,h2⟩;exact .cons ⟨by omega,g,Xp I g⟩ (T7 I h3 r2 (by omega))
def Yv(I:Inv X pins σ H s){l:List (Int×VL)}{m:List (Int×Tr)}(h:PySem.Paired (iu H) l m):PySem.Paired (TH.N4 (GT H) s.heap) l m :=
 TH.Paired.imp (fun _ _ ⟨a,b,c⟩=>⟨a,b,c,Xp I c⟩) h
def gP:∀ {us:List VL} {ts:List Tr},PySem.Paired (GT H) us ts→∃zs,Vals zs us∧Ts H (Tr.of ts) zs
 |_,_,.nil=>⟨[],.nil,by rw [Tr.of,Ts]⟩
 |_,_,.cons ⟨a,ys,e,h1,h2⟩ r=>by
  obtain⟨zs,r1,r2⟩:=gP r;subst e;exact⟨.ref a::zs,.cons rfl r1,by rw [Tr.of,Ts];exact⟨a,ys,zs,rfl,h1,h2,r2⟩⟩
def kf(w:World)(K:Fg):List V→Hp→VK→Prop:=fun xs H Q=>∃p ys t st,xs=[.ref p]∧A3 K H p ys∧Ts H t ys∧t.deep≤8∧TH.Mj (TH.Kx (!w.params.followText "set-order")) t.bs=some st ∧
 ∀S H',AO H H'→Zp H' S st→Q (.ref S) H'
def YX(hc:X.calm=true)(hu:X.A.units+64<cLine):ED X (.type "set") (kf X.w X.K):=by
 intro pins s σ H xs us Q I r h;obtain⟨p,ys,t,st,rfl,hq,ht,hd,hst,q⟩:=h;obtain⟨u,rfl,r1⟩:=r.one;cases r1;obtain⟨its,rv,pl,hz⟩:=I.list hq;refine TH.UZ (G:=GT H) (I.ok.hd hc) pl.isList (T7 I ht rv hd) (by omega) hst fun h2 tk S2 k2=>?_;obtain⟨o,ev,ep,g1,g2,g3,g4⟩:=S2;have hf:=I.Av.fresh (aI s.heap.objs.size);have es:=Bg hf (WA s.heap.objs.size ev ep st.2);refine⟨.ref s.heap.objs.size,upd H s.heap.objs.size (WA s.heap.objs.size ev ep st.2),I.laid (t':=tk) k2 (aI _) ?_,rfl,q _ _ es ⟨ev,ep,AZ,TH.Paired.imp (fun _ _ ⟨a,b,c,_⟩=>⟨a,b,c.same es⟩) g4⟩⟩;exact⟨⟨o,g1,g2,g3⟩,⟨o,g1⟩,fun h1 h2 ⟨o,q1,q2⟩ k=>⟨o,k _ q1,q2⟩⟩
def fL(I:Inv X pins σ H s){S:AD}{st:TH.ES×SetTable}(h:Zp H S st)(ok:bw X.w st):∃o ev ep,s.heap.get? S=some o∧TH.Eu X.w o ev ep st.2∧TH.Dg (GT H) s.heap ev st.1:=by
 obtain⟨ev,ep,h1,h2⟩:=h;obtain⟨⟨o,g1,g2,g3⟩,_,_⟩:=(show C6 X.prog X.w H s.heap S (WA S ev ep st.2) from I.Av S _ h1);have R:=Yv I h2;have hz:ev.size=st.1.size:=TH.Dg.size R;exact⟨o,ev,ep,g1,⟨g2,g3,by rw [hz];exact ok.fit,ok.plain,ok.led,by rw [hz];exact ok.walk⟩,R⟩
def gJ(w:World):List V→Hp→VK→Prop:=fun xs H Q=>∃S st,xs=[.ref S]∧Zp H S st∧bw w st∧∀(l:AD) (zs:List V),H l=none→zs.length<64→Ts H (Tr.of (Tr.B1 (TH.Pb st)).reverse) zs→Q (.ref l) (upd H l (.lst zs))
def Wd(hc:X.calm=true)(hu:X.A.units+64<cLine):ED X (.builtin "sorted") (gJ X.w):=by
 intro pins s σ H xs us Q I r h;obtain⟨S,st,rfl,hS,ok,q⟩:=h;obtain⟨u,rfl,r1⟩:=r.one;cases r1;obtain⟨o,ev,ep,g1,W,R⟩:=fL I hS ok;refine TH.Wa (I.ok.hd hc) W g1 R ok.small (by omega) fun h' D tk e1 us hD k1 gD hp hl=>?_;obtain⟨zs,r1,r2⟩:=gP hp;have hz:zs.length<64:=by rw [r1.length];exact hl
 refine⟨.ref D,upd H D (.lst zs),I.laid (t':=tk) k1 hD ⟨bL (aH hz (by rw [sizeLine_eq];decide)),us,e1,r1,gD⟩,rfl,q D zs (I.Av.fresh hD) hz r2⟩
end
open PySem PyProof.Rows
section
variable{prog:Program}{w:World}{A:Around}{E:VL→SD→Prop}{s:SD}
def ec{k:Int}{t:Tok}{Q:Option PySem.Fin×Unit→SD→Prop}(xs:List VL)(f:Nat→Option PySem.Fin×Unit→Sem (ForInStep (Option PySem.Fin×Unit)))
 (hf:∀i y st,xs.toArray[i]? = some y→f i st=(do
      let b ←eqBool y (.int k t)
      if b=true then do
          let r ←retInt ↑i
          pure (ForInStep.done (some r,()))
        else pure (ForInStep.yield (none,())))):∀ {vs:List VL} {ns:List Int},IntsAre vs ns→∀(pre:List VL),pre++vs=xs→k∈ns →
    (∀t' s',s'={ s with toks:=s'.toks }→s.toks≤s'.toks→Q (some (.done (.ret (.int ((pre.length+ns.idxOf k:Nat):Int) t'))),()) s') →
    wpAny (model prog w) A (forIn (List.range' pre.length vs.length) (none,()) f) Q E s:=by
  intro vs ns hi
  induction hi with
  |nil=>intro _ _ hk;cases hk
  | @cons n u vs ns r ih =>
    intro pre hx hk h
    rw [List.length_cons,List.range'_succ,List.forIn_cons]
    refine Wb ?_
    rw [hf pre.length (.int n u) _ (by rw [←hx];simp)]
    refine Wb (wpAny_eqBool_int ?_)
    by_cases z:n=k
    · subst z
      rw [if_pos (by simp)]
      refine Wb ?_
      refine Wb (wpAny_mkInt (aA ?_))
      refine aA (aA ?_)
      have:=h s.toks { s with toks:=s.toks+1 } rfl (bY _)
      rw [List.idxOf_cons_self]at this
      exact this
    · rw [if_neg (by simpa using z)]
      refine aA ?_
      have hk':k∈ns:=(aK.mp hk).resolve_left fun e=>z e.symm
      have:=ih (pre++[.int n u]) (by rw [←hx,List.append_assoc];rfl) hk' (fun t' s' e1 e2=>by
        have:=h t' s' e1 e2
        rw [List.idxOf_cons,show(n==k)=false by simpa using z]at this
        rw [List.length_append,List.length_singleton,Nat.add_assoc,Nat.add_comm 1]
        exact this)
      rw [List.length_append,List.length_singleton]at this
      exact this
def N1{l:AD}{vs:List VL}{ns:List Int}{k:Int}{t:Tok}{Q:VL→SD→Prop}(hl:IsTup s.heap l vs.toArray)(hi:IntsAre vs ns)
 (hk:k∈ns)(h:∀t' s',s'={ s with toks:=s'.toks }→s.toks≤s'.toks→Q (.int (ns.idxOf k:Nat) t') s') :
  wpAny (model prog w) A (call (.builtin "tuple.index") [.ref l,.int k t]) Q E s:=by
 refine af F.slot_tuple_index hl.typeIs F.entry_tuple_index ?_ (F.args_tuple_index_2 _ _);unfold Builtin.«tuple.index»;refine Wb (m:=selfAndSome _ _ _ _ _) (aA ?_);refine Wb (tupleItemsOf_ hl ?_);refine Wb (aA (Wb (aA (Wb ?_))));rw [Nat.min_self,Std.Legacy.Range.forIn_eq_forIn_range'];have z:Std.Legacy.Range.size [0:vs.toArray.size]=vs.length:=by simp [Std.Legacy.Range.size]
 rw [z];refine ec (k:=k) (t:=t) vs _ (fun i y st e=>by simp only [e]) hi [] rfl hk (fun t' s' e1 e2=>aA ⟨_,rfl,?_⟩);have:=h t' s' e1 e2;rw [List.length_nil,Nat.zero_add];exact this
end
end L2
set_option maxHeartbeats 1000000
namespace L2
open PySem PySem.Spec PyProof.Rows
def dc(K:Fg):V→List V→Hp→VK→Prop:=fun x xs H Q=>∃(p:AD) (ns:List Int) (k:Int),x=.ref p∧xs=[.int k]∧BF K H p (List.map V.int ns)∧k∈ns∧Q (.int (ns.idxOf k:Nat)) H
structure Own(K:Fg)(a:Addr)(ns:List Int):Prop where
 sq:∀H,BF K H a (ns.map V.int)
 ty:∃o,K.lookup a=some o∧o.cls=.type "tuple" ∧ o.dict=none
section
variable{X:Cx}{a e:Expr}{f:Dv→Option PD}{pos p p2:Pos}
def YW:lZ X "tuple.index" (dc X.K):=by
 intro pins s σ H x xs v us Q I rx rv h;obtain⟨q,ns,k,rfl,rfl,hq,hk,h⟩:=h;cases rx;obtain⟨u,rfl,t,rfl⟩:=vals1 rv;obtain⟨its,r',pl,hz⟩:=I.tuple hq;refine N1 pl (intsAre_of r') hk fun t' s' e1 e2=>?_;rw [e1];exact⟨.int (ns.idxOf k:Nat),H,I.tok _,⟨t',rfl⟩,h⟩
def cJ(neg:Bool)(ns:List Int)(x:PD):Option PD:=match x with
 |.int i=>some (.bool (if neg then !(ns.contains i) else ns.contains i))
 |_=>none
def Xn(ns:List Int)(x:PD):Option PD:=match x with
 |.int i=>if i∈ns then some (.int (ns.idxOf i:Nat)) else none
 |_=>none
def fS{op:CmpOp}{neg:Bool}{x:Str}{c:AD}{ns:List Int}(ho:C4 X (compareOp op) (lU X.K neg))(ha:DE X a f)(hg:Gl X x)(hm:X.mg x=some (.ref c))(hn:Own X.K c ns)(hk:behindInMarks op (.Name x p)=false:=by rfl)(hd:(x==("__debug__" : Str))=false:=by decide) :
  DT X (.Compare a [op] [.Name x p] pos) (fun δ=>((f δ).bind (cJ neg ns)).bind PN):=by
 obtain⟨ta,pa,ka⟩:=ha;refine⟨_,EA ho pa (Pt (v:=.ref c) hg hm rfl hd) hk,fun δ z hz G0 H0 G H σ ts Q R0 k=>?_⟩;obtain⟨q,h0,h4⟩:=aB.mp hz;have:=TR h4;subst this;obtain⟨y,h1,h2⟩:=aB.mp h0;refine ka δ y h1 G0 H0 G H σ ts _ R0 fun u G1 H1 R1=>?_;unfold cJ at h2;split at h2
 ·cases h2;have du:=R1.Ba (_,u) (.head _);rw [Du]at du;subst du;refine⟨c,_,rfl,.inr (hn.sq _),rfl,YQ ns,?_⟩;rw [S8];exact⟨_,rfl,k _ _ R1.drop⟩
 ·cases h2
def YU{x:Str}{c:AD}{ns:List Int}{cp ap:Pos}(ha:DE X e f)(hg:Gl X x)(hm:X.mg x=some (.ref c))(hn:Own X.K c ns)(hd:(x==("__debug__" : Str))=false:=by decide)
 (hbase:attributeBase (.Name x p) "index" X.env (eval (.Name x p) X.env)=eval (.Name x p) X.env:=by rfl)
 (hfew:((backTo cp (starEach [e] X.env)).all (fun x=>!x.1)&&(backToKw cp (keywordEach [] X.env)).all (fun x=>x.1.isSome)
   && decide (([e]:List Expr).length+([]:List Keyword).length+(if([]:List Keyword).isEmpty then 0 else 1)<30))=true:=by rfl)
 (hline:(ap.endLine==cp.line)=true:=by rfl)(hs:starEach [e] X.env=(false,eval e X.env)::starEach [] X.env:=by rfl)(hplain:(backTo cp (starEach [] X.env)).any (·.1)=false:=by rfl) :
  DE X (.Call (.Attribute (.Name x p) "index" ap) [e] [] cp) (fun δ=>(f δ).bind (Xn ns)):=by
 obtain⟨ta,pa,ka⟩:=ha;refine⟨_,Gv PySem.F.plainAttrs_tuple PySem.F.slot_tuple_index PySem.F.type_tuple_index YW (Pt (v:=.ref c) hg hm rfl hd) (Ac pa BB hs) hbase hfew hline hs hplain,fun δ z hz G0 H0 G H σ ts Q R0 k=>?_⟩;obtain⟨y,h1,h2⟩:=aB.mp hz;refine⟨.inr (.inl ⟨rfl,hn.ty⟩),?_⟩;refine ka δ y h1 G0 H0 G H σ ts _ R0 fun u G1 H1 R1=>?_;unfold Xn at h2;split at h2
 ·split at h2
  ·rename_i hi;cases h2;have du:=R1.Ba (_,u) (.head _);rw [Du]at du;subst du;exact⟨c,ns,_,rfl,rfl,hn.sq _,hi,k _ _ _ (R1.drop.put (by rw [Du]))⟩
  ·cases h2
 ·cases h2
end
def Oh(led:Bool)(l z:List Tr):Bool:=match TH.Mj (TH.Kx led) l with
 |some st=>decide ((Tr.B1 (TH.Pb st)).reverse=z)&&st.2.fits st.1.size&&st.2.plain&&decide (st.2.led=led)&&TH.Ml st.2 st.1.size&&decide (st.1.size<64)
 |none=>false
def Y1{led:Bool}{l z:List Tr}(h:Oh led l z=true):∃st,TH.Mj (TH.Kx led) l=some st∧(Tr.B1 (TH.Pb st)).reverse=z∧st.2.fits st.1.size=true∧st.2.plain=true∧st.2.led=led∧TH.Ml st.2 st.1.size=true∧st.1.size<64:=by
 unfold Oh at h;split at h
 ·rename_i st e;simp only [Bool.and_eq_true,decide_eq_true_eq]at h;obtain⟨⟨⟨⟨⟨h1,h2⟩,h3⟩,h4⟩,h5⟩,h6⟩:=h;exact⟨st,e,h1,h2,h3,h4,h5,h6⟩
 ·cases h
def Wi(l:List Tr):List Tr:=match TH.Mj (TH.Kx true) l with
 |some st=>(Tr.B1 (TH.Pb st)).reverse
 |none=>[]
def Gs(t:Tr):Option PD:=if t.deep≤8∧Oh true t.bs (Wi t.bs)=true∧Oh false t.bs (Wi t.bs)=true then some (.list (B0 (Tr.of (Wi t.bs)))) else none
def OM:PD→Option PD
 |.list ds=>(GC ds).bind Gs
 |_=>none
section
variable{X:Cx}{e:Expr}{f:Dv→Option PD}{pos p p2 pos2:Pos}
def WC(hc:X.calm=true)(hu:X.A.units+64<cLine)(hg:Gl X "sorted")(hm:X.mg "sorted" = none)(hg2:Gl X "set")(hm2:X.mg "set" = none)(ha:DE X e f)
 (hs1:starEach [e] X.env=(false,eval e X.env)::starEach [] X.env:=by rfl)(hs2:starEach [.Call (.Name "set" p2) [e] [] pos2] X.env=(false,eval (.Call (.Name "set" p2) [e] [] pos2) X.env)::starEach [] X.env:=by rfl)
 (hq1:(backTo pos2 (starEach [] X.env)).any (·.1)=false:=by rfl)(hq2:(backTo pos (starEach [] X.env)).any (·.1)=false:=by rfl) :
  DE X (.Call (.Name "sorted" p) [.Call (.Name "set" p2) [e] [] pos2] [] pos) (fun δ=>(f δ).bind OM):=by
 obtain⟨ta,pa,ka⟩:=ha;refine⟨_,Cy (Wd hc hu) hg hm PyProof.Rows.boot_sorted (Ac (RA (YX hc hu) hg2 hm2 PyProof.Rows.boot_set (Ac pa BB hs1) (by decide) (by decide) hs1 hq1) BB hs2) (by decide) (by decide) hs2 hq2,fun δ z hz G0 H0 G H σ ts Q R0 k=>?_⟩;obtain⟨y,h1,h2⟩:=aB.mp hz;refine ka δ y h1 G0 H0 G H σ ts _ R0 fun u G1 H1 R1=>?_;unfold OM at h2;split at h2
 ·rename_i ds;obtain⟨t,h3,h4⟩:=aB.mp h2;unfold Gs at h4;split at h4
  ·rename_i hh;cases h4;have hds:=Kn h3;have du:=R1.Ba (_,u) (.head _);obtain⟨bb,a,ys,rfl,n1,n2⟩:=K3 du (show Fl (.list ds)=some ds from rfl);have n1':H1 a=some (.lst ys):=by
    have:=R1.ins _ _ n1;cases bb
    ·simpa using this
    ·exact absurd n1 (by
      have du':=du;intro n1;rw [Du]at du';obtain⟨a',ys',e1,e2,_⟩:=du';cases e1;rw [e2]at n1;cases n1)
   rw [hds]at n2;have ht:=(HB n2).same R1.ins;have both:∀led,Oh led t.bs (Wi t.bs)=true:=fun led=>by cases led;exact hh.2.2;exact hh.2.1
   obtain⟨st,r1,r2,r3,r4,r5,r6,r7⟩:=Y1 (both (!X.w.params.followText "set-order"));refine⟨a,ys,t,st,rfl,A3.of n1',ht,hh.1,r1,fun S H' e1 hS=>⟨S,st,rfl,hS,⟨r3,r4,r5,r6,r7⟩,fun l zs hl hz ht'=>?_⟩⟩;rw [r2]at ht';have R2:=(R1.drop.on e1).DH;exact k _ _ _ (R2.UO (Pf ht') hl)
  ·cases h4
 ·cases h2
end
end L2
set_option maxHeartbeats 4000000
set_option maxHeartbeats 1000000
set_option maxHeartbeats 4000000
set_option maxHeartbeats 1000000
namespace L2
open PySem PySem.Spec PyProof.Rows
def Qc:∀t:Tr,GC (B0 t)=some t
 |.nil=>by rw [B0,GC]
 |.cons b r=>by rw [B0,GC,Ei,Qc b,Qc r];rfl
def Ss(t:Tr):Ei (.tuple (B0 t))=some t:=by rw [Ei];exact Qc t
def Z0{k l:Option Tr}(h:CG k=CG l):k=l:=by
 cases k with
 |none=>cases l with
  |none=>rfl
  |some u=>cases h
 |some t=>cases l with
  |none=>cases h
  |some u =>
   have:=bF Ei h;rw [CG,CG,Ss,Ss]at this;exact this
def keyOf:PD→Option (Option Tr)
 |.none=>some none
 |d=>(Ei d).map some
def JN{d:PD}{k:Option Tr}(h:keyOf d=some k):d=CG k:=by
 unfold keyOf at h;split at h
 ·cases h;rfl
 ·obtain⟨t,h1,rfl⟩:=aC.mp h;exact Io h1
def LC(k:Option Tr):keyOf (CG k)=some k:=by
 cases k with
 |none=>rfl
 |some t=>show(Ei (.tuple (B0 t))).map some=_;rw [Ss];rfl
abbrev KD:=Option Tr×PD
def IA(kvs:List KD)(k:Option Tr):Bool:=(match k with|none=>true|some t=>decide (t.deep<8))&&kvs.all fun q=>decide (TH.Az q.1≠TH.Az k)||decide (q.1=k)
def look(kvs:List KD)(k:Option Tr):Option PD:=(kvs.find? fun q=>decide (q.1=k)).map (·.2)
def MS(kvs:List KD)(k:Option Tr)(v:PD):List KD:=if(kvs.find? fun q=>decide (q.1=k)).isSome then kvs.map (fun q=>if q.1=k then(q.1,v) else q) else kvs++[(k,v)]
def JT:List (PD×PD)→Option (List KD)
 |[]=>some []
 |(k,d)::t=>(keyOf k).bind fun l=>(JT t).map fun r=>(l,d)::r
def VO:∀ {es:List (PD×PD)} {kvs:List KD},JT es=some kvs→es=Hc kvs
 |[],kvs,h=>by cases h;rfl
 |(k,d)::t,kvs,h=>by
  rw [JT]at h;obtain⟨l,h1,h2⟩:=aB.mp h;obtain⟨r,h3,rfl⟩:=aC.mp h2;rw [JN h1,VO h3];rfl
def Vi:∀kvs:List KD,JT (Hc kvs)=some kvs
 |[]=>rfl
 |(k,d)::t=>by
  show(keyOf (CG k)).bind _=_;rw [LC];show(JT (Hc t)).map _=_;rw [Vi t];rfl
def PR(G:Hp)(p:KD)(q:KR):Prop:=q.1=p.1∧G6 G q.1 q.2.1∧Du G p.2 q.2.2
def Sz{G:Hp}:∀ {kvs:List KD} {r:List KR},Eo G (Hc kvs) r→PySem.Paired (PR G) kvs r
 |[],r,h=>by
  have h:Eo G [] r:=h;rw [Eo]at h;subst h;exact .nil
 |(k,d)::t,r,h=>by
  have h:Eo G ((CG k,d)::Hc t) r:=h;rw [Eo]at h;obtain⟨q,r',rfl,h1,h2,h3,h4⟩:=h;exact .cons ⟨(Z0 h1).symm,h2,h3⟩ (Sz h4)
def OZ{G:Hp}{kvs:List KD}{r:List KR}(h:PySem.Paired (PR G) kvs r):Eo G (Hc kvs) r:=by
 induction h with
 |nil=>show Eo G [] [];rw [Eo]
 | @cons p q l m a _ ih =>
  show Eo G ((CG p.1,p.2)::Hc l) (q::m);rw [Eo];exact⟨q,m,rfl,by rw [a.1],a.2.1,a.2.2,ih⟩
def eO{G:Hp}{kvs:List KD}{r:List KR}(h:PySem.Paired (PR G) kvs r):r.map (·.1)=kvs.map (·.1):=by
 induction h with
 |nil=>rfl
 |cons a _ ih=>rw [List.map_cons,List.map_cons,ih,a.1]
def Vk{G:Hp}{kvs:List KD}{r:List KR}(h:PySem.Paired (PR G) kvs r)(k:Option Tr):match kvs.find? (fun q=>decide (q.1=k)) with
  |some p=>∃q,r.find? (fun q=>decide (q.1=k))=some q∧Du G p.2 q.2.2
  |none=>r.find? (fun q=>decide (q.1=k))=none:=by
 induction h with
 |nil=>exact rfl
 | @cons p q l m a _ ih =>
  rw [List.find?_cons,List.find?_cons,a.1];by_cases z:p.1=k
  ·simp only [decide_eq_true z];exact⟨q,rfl,a.2.2⟩
  ·simp only [decide_eq_false z];exact ih
def fw{G:Hp}{kvs:List KD}{r:List KR}{k:Option Tr}{kv v:V}{d:PD}(h:PySem.Paired (PR G) kvs r)(hk:G6 G k kv)(hv:Du G d v):PySem.Paired (PR G) (MS kvs k d) (Md r k kv v):=by
 have hr:=Vk h k;unfold MS Md;split at hr
 ·rename_i p e;obtain⟨q,h1,_⟩:=hr;rw [h1,e];simp only [Option.isSome_some,if_true];clear e h1 hk
  induction h with
  |nil=>exact .nil
  | @cons p q l m a _ ih =>
   rw [List.map_cons,List.map_cons];refine .cons ?_ ih;rw [a.1];by_cases z:p.1=k
   ·rw [if_pos z,if_pos z];exact⟨rfl,a.1 ▸ a.2.1,hv⟩
   ·rw [if_neg z,if_neg z];exact a
 ·rename_i e;rw [hr,e];exact h.snoc ⟨rfl,hk,hv⟩
def YV{r:List KR}{k:Option Tr}{kv v:V}(h:(r.map (·.1)).Nodup):((Md r k kv v).map (·.1)).Nodup:=by
 unfold Md;split
 ·have:(r.map (fun q=>if q.1=k then(q.1,q.2.1,v) else q)).map (·.1)=r.map (·.1):=by
   rw [List.map_map];refine aT fun q _=>?_;show(if q.1=k then(q.1,q.2.1,v) else q).1=q.1;split<;>rfl
  rw [this];exact h
 ·rename_i hn;rw [List.map_append,List.nodup_append];refine⟨h,by simp,fun a ha b hb=>?_⟩;have:b=k:=by simpa using hb
  subst this;obtain⟨q,hq,rfl⟩:=aQ.mp ha;intro e;have:r.find? (fun q=>decide (q.1=b))=none:=by
   cases z:r.find? (fun q=>decide (q.1=b)) with
   |none=>rfl
   |some w=>rw [z]at hn;exact absurd rfl hn
  exact List.find?_eq_none.mp this q hq (bH e)
def Wz{G:Hp}{k:Option Tr}{v:V}{kvs:List KD}(h:Du G (CG k) v)(ho:IA kvs k=true):G6 G k v:=by
 unfold IA at ho;rw [Bool.and_eq_true]at ho;cases k with
 |none=>rw [CG,Du]at h;exact h
 |some t =>
  rw [CG,Du]at h;obtain⟨a,ys,rfl,h1,h2⟩:=h;exact⟨aO ho.1,a,ys,rfl,h1,HB h2⟩
def b6{G H:Hp}{a:AD}{kvs:List KD}{r:List KR}{k:Option Tr}(e:AO G H)(ha:H a=some (dN a r))(n:(r.map (·.1)).Nodup)(h:PySem.Paired (PR G) kvs r)(ho:IA kvs k=true):SK H a r k:=by
 refine⟨ha,fun q hq=>?_,n,fun q hq hh=>?_⟩
 ·obtain⟨p,_,h1,h2,_⟩:=IW h q hq;exact h2.same e
 ·obtain⟨p,hp,h1,_⟩:=IW h q hq;unfold IA at ho;rw [Bool.and_eq_true]at ho;have:=aL.mp ho.2 p hp;rw [Bool.or_eq_true]at this;rw [h1]at hh ⊢;rcases this with z|z
  ·exact absurd hh (aO z)
  ·exact aO z
def od(i:Nat)(δ:Dv):Option (List KD):=match δ[i]? with
 |some (.own (.Cr kvs))=>some kvs
 |_=>none
def WU{i:Nat}{δ:Dv}{kvs:List KD}(h:od i δ=some kvs):δ[i]? = some (.own (.Cr kvs)):=by
 unfold od at h;split at h
 ·rename_i y e;cases h;exact e
 ·cases h
abbrev dC(i:Nat):DF:=fun δ=>some (.nx (δ.set i (.own (.Cr []))))
abbrev Sy(i:Nat)(f g:Dv→Option PD):DF:=fun δ=>(f δ).bind fun y=>(g δ).bind fun n=>(od i δ).bind fun kvs=>(keyOf n).bind fun k=>if IA kvs k=true∧kvs.length≤500 then some (.nx (δ.set i (.own (.Cr (MS kvs k y))))) else none
def FU:PD→PD→Option PD:=fun x y=>match x with
 |.dict ((.bool true,.none)::es)=>(JT es).bind fun kvs=>(keyOf y).bind fun k=>if IA kvs k=true then look kvs k else none
 |_=>none
def Kp{kvs:List KD}{k:Option Tr}{d:PD}(h:IA kvs k=true)(hl:look kvs k=some d):FU (Aq kvs) (CG k)=some d:=by
 show(JT (Hc kvs)).bind _=_;rw [Vi];show(keyOf (CG k)).bind _=_;rw [LC];exact(if_pos h).trans hl
def ef{G:Hp}{kvs:List KD}{u:V}(h:Du G (Aq kvs) u):∃a r,u=.ref a∧G a=some (dN a r)∧(r.map (·.1)).Nodup∧PySem.Paired (PR G) kvs r:=by
 rw [Du,Jx]at h;rcases h with ⟨_,_,e,_⟩|⟨_,_,e,_⟩|⟨_,_,a,r,e,h1,h2,h3⟩
 ·simp at e
 ·simp at e
 ·exact⟨a,r,e,h1,h2,Sz h3⟩
section
variable{X:Cx}{a b c e:Expr}{es:List Expr}{f g h:Dv→Option PD}{pos p dp pos':Pos}
def dz{i:Nat}{x:Str}(hN:X.N.Nodup)(hi:X.N[i]? = some x)(hx:Loc X.env.scope x)(hs:swapsWith (.Dict [] [] dp) (some (.Name x pos')) pos.line X.env=pure false:=by rfl)(hf:X.fn x=true∨X.env.scope.names.lookup x=some .local:=by first|exact .inl rfl|exact .inr rfl|assumption) :
  DS X (.Assign [.Name x pos'] (.Dict [] [] dp) pos) (dC i) :=
 ⟨_,CV hN hi hx Y7 hs hf,fun δ r h G0 H0 G H σ D R q=>by
  cases h;exact fun l hl=>q _ _ _ (R.PX ⟨[],rfl,.nil,OZ .nil⟩ hl)⟩
def OV{i:Nat}{x:Str}{np sp:Pos}(hv:PE X (.Name x np) (Lk i))(hk:DE X a g)(he:DE X e f)
 (hP:∀ {te to ti:TE},PE X e te→PE X (.Name x np) to→PE X a ti→PS X (.Assign [.Subscript (.Name x np) a sp] e pos) (MQ te (Ym to ti dF))):DS X (.Assign [.Subscript (.Name x np) a sp] e pos) (Sy i f g):=by
 obtain⟨te,pe,ke⟩:=he;obtain⟨tk,pk,kk⟩:=hk;refine⟨_,hP pe hv pk,fun δ r h G0 H0 G H σ D R q=>?_⟩;obtain⟨y,h1,h2⟩:=aB.mp h;obtain⟨n,h3,h4⟩:=aB.mp h2;obtain⟨kvs,h5,h6⟩:=aB.mp h4;obtain⟨k,h7,h8⟩:=aB.mp h6;split at h8
 ·rename_i hc;cases h8;have:=JN h7;subst this;have hi:=WU h5;refine ke δ y h1 G0 H0 G H σ [] _ R fun u G1 H1 R1=>?_;obtain⟨ad,_,k1,k2,k3,k4,k5⟩:=R1.own i _ hi;refine⟨.ref ad,k1,?_⟩;refine kk δ _ h3 G0 H0 G1 H1 σ _ _ R1 fun v G2 H2 R2=>?_;have dv:=Wz (R2.Ba (CG k,v) (.head _)) hc.1;obtain⟨ad',_,m1,m2,m3,m4,⟨rr,rfl,m5,m6⟩⟩:=R2.own i _ hi;rw [k1]at m1;cases m1;have pr:=Sz m6;have hl:rr.length=kvs.length:=by have:=bF List.length (eO pr);simpa using this
  refine⟨ad,rr,k,rfl,dv.same R2.ins,b6 R2.ins m4 m5 pr hc.1,by omega,?_⟩;exact q _ _ _ (R2.drop.drop.Rh hi k1 ⟨_,rfl,YV m5,OZ (fw pr dv (R2.Ba (y,u) (.tail _ (.head _))))⟩)
 ·cases h8
def GI(hu:X.A.units+64<cLine)(ha:DE X a f)(hb:DE X b g)(hs:Zq b):DE X (.Subscript a b pos) (AQ FU f g):=by
 obtain⟨ta,pa,ka⟩:=ha;obtain⟨tb,pb,kb⟩:=hb;refine⟨_,ij hu pa pb hs,fun δ z hz G0 H0 G H σ ts Q R0 k=>?_⟩;obtain⟨x,y,h1,h2,h3⟩:=two (x:=.none) (y:=.none) hz;refine ka δ x h1 G0 H0 G H σ ts _ R0 fun u G1 H1 R1=>?_;refine kb δ y h2 G0 H0 G1 H1 σ _ _ R1 fun v G2 H2 R2=>?_;have du:=R2.Ba (x,u) (.tail _ (.head _));have dv:=R2.Ba (y,v) (.head _);unfold FU at h3;split at h3
 ·obtain⟨kvs,h4,h5⟩:=aB.mp h3;obtain⟨kk,h6,h7⟩:=aB.mp h5;split at h7
  ·rename_i hc;have:=VO h4;subst this;have:=JN h6;subst this;obtain⟨ad,r,rfl,n1,n2,n3⟩:=ef du;have hf:=Vk n3 kk;unfold look at h7;obtain⟨p,h8,rfl⟩:=aC.mp h7;rw [h8]at hf;obtain⟨q,h9,h10⟩:=hf;exact⟨ad,r,kk,q,rfl,(Wz dv hc).same R2.ins,b6 R2.ins (R2.ins _ _ n1) n2 n3 hc,h9,k _ _ _ (R2.drop.drop.put h10)⟩
  ·cases h7
 ·cases h3
end
mutual
def LS:PD→Bool
 |.tuple ds=>Ge ds
 |.list ds=>Ge ds
 |.dict kv=>WQ kv
 |_=>true
def Ge:List PD→Bool
 |[]=>true
 |d::ds=>LS d&&Ge ds
def WQ:List (PD×PD)→Bool
 |[(.none,_)]=>true
 |_=>false
end
def less(G:Hp)(a:AD):Hp:=fun b=>if b=a then none else G b
def FA{G:Hp}{a b:AD}(h:b≠a):less G a b=G b:=if_neg h
def Ip{G:Hp}{a:AD}:less G a a=none:=if_pos rfl
def jf{a:AD}{r:List KR}{xs:List V}:dN a r≠.tup xs:=fun h=>by unfold dN at h;cases h
def YT{a:AD}{r:List KR}{xs:List V}:dN a r≠.lst xs:=fun h=>by unfold dN at h;cases h
def gH{a:AD}{r:List KR}{o:Obj}{u:HO}:dN a r≠.Ef o u:=fun h=>by unfold dN at h;cases h
mutual
def Pu{G:Hp}{a:AD}{r:List KR}(ha:G a=some (dN a r)):∀ {d:PD} {v:V},LS d=true→Du G d v→Du (less G a) d v
 |.none,_,_,h=>by rw [Du]at h ⊢;exact h
 |.bool _,_,_,h=>by rw [Du]at h ⊢;exact h
 |.int _,_,_,h=>by rw [Du]at h ⊢;exact h
 |.str _,_,_,h=>by rw [Du]at h ⊢;exact h
 |.tuple ds,_,n,h=>by
  rw [Du]at h ⊢;obtain⟨b,xs,e1,h1,h2⟩:=h;exact⟨b,xs,e1,by rw [FA fun z=>by subst z;rw [ha]at h1;exact jf (aW h1)];exact h1,Jl ha (by simpa [LS]using n) h2⟩
 |.list ds,_,n,h=>by
  rw [Du]at h ⊢;obtain⟨b,xs,e1,h1,h2⟩:=h;exact⟨b,xs,e1,by rw [FA fun z=>by subst z;rw [ha]at h1;exact YT (aW h1)];exact h1,Jl ha (by simpa [LS]using n) h2⟩
 |.dict kv,v,n,h=>by
  rw [Du]at h ⊢;rcases h with ⟨ea,C,e1,e2,h1⟩|⟨b,ns,e1,e2,h1⟩|h
  ·rw [e1]at n;simp [LS,WQ]at n
  ·refine .inr (.inl ⟨b,ns,e1,e2,?_⟩);rcases h1 with h1|⟨o,h1⟩
   ·exact .inl (by rw [FA fun z=>by subst z;rw [ha]at h1;exact YT (aW h1)];exact h1)
   ·exact .inr ⟨o,by rw [FA fun z=>by subst z;rw [ha]at h1;exact gH (aW h1)];exact h1⟩
  ·exfalso
   cases kv with
   |nil=>rw [Jx]at h;exact h
   |cons p t =>
    obtain⟨k0,d0⟩:=p;rw [Jx]at h;rw [h.1]at n;simp [LS,WQ]at n
def Jl{G:Hp}{a:AD}{r:List KR}(ha:G a=some (dN a r)):∀ {ds:List PD} {xs:List V},Ge ds=true→Ai G ds xs→Ai (less G a) ds xs
 |[],_,_,h=>by rw [Ai]at h ⊢;exact h
 |d::ds,_,n,h=>by
  obtain⟨x,q,rfl,h1,h2⟩:=h.un;simp only [Ge,Bool.and_eq_true]at n;exact .cons (Pu ha n.1 h1) (Jl ha n.2 h2)
end
def NG:L→Bool
 |.own (.lst xs)=>Ge xs
 |.own _=>false
 |_=>true
def alone(i:Nat)(δ:Dv):Bool:=(δ.set i .no).all NG
abbrev Mu(i:Nat)(f:Dv→Option PD):Dv→Option PD:=fun δ=>(od i δ).bind fun kvs=>(f (δ.set i (.d (Aq kvs)))).bind fun x=>if LS x=true∧alone i δ=true then some x else none
def dJ{X:Cx}{e:Expr}{f:Dv→Option PD}(i:Nat)(h:DE X e f):DE X e (Mu i f):=by
 obtain⟨t,p,k⟩:=h;refine⟨t,p,fun δ z hz G0 H0 G H σ ts Q R q=>?_⟩;obtain⟨kvs,h1,h2⟩:=aB.mp hz;obtain⟨x,h3,h4⟩:=aB.mp h2;split at h4
 ·rename_i hc;cases h4;have hi:=WU h1;have hlt:i<δ.length:=(aE.mp hi).1;obtain⟨a,o,k1,k2,k3,k4,k5,R1⟩:=R.letGo (x:=Aq kvs) hi fun a o h=>Tn h;obtain⟨r,rfl,k6,k7⟩:=k5;refine k _ _ h3 (upd G a (dN a r)) H0 _ H σ ts Q R1.base fun v G' H' R2=>q v (less G' a) H' ?_;have ha:G' a=some (dN a r):=R2.ext _ _ AZ;have eG:AO G (less G' a):=fun b u hb=>by
   have:b≠a:=fun z=>by subst z;rw [k2]at hb;cases hb
   rw [FA this];exact R2.ext _ _ (by rw [AM this];exact hb)
  have of:∀b u,less G' a b=some u→b≠a∧G' b=some u:=fun b u hb=>by
   by_cases z:b=a
   ·subst z;rw [Ip]at hb;cases hb
   ·rw [FA z]at hb;exact⟨z,hb⟩
  refine⟨R.ext.trans eG,fun b u hb=>?_,fun b u hb=>R2.ins _ _ (of b u hb).2,R2.keep,R.len,fun j y hj=>?_,fun j c hj=>?_,R.apart,fun w hw=>?_⟩
  ·obtain⟨nb,hb⟩:=of b u hb;rcases R2.new b u hb with z|z|z
   ·rw [AM nb]at z;exact R.new _ _ z
   ·exact .inr (.inl z)
   ·exact .inr (.inr z)
  ·obtain⟨w,m1,m2⟩:=R.dat j y hj;exact⟨w,m1,m2.same eG⟩
  ·by_cases z:i=j
   ·subst z;rw [hi]at hj;cases hj;exact⟨a,dN a r,k1,Ip,k3,R2.ins _ _ ha,r,rfl,k6,Eo.same eG k7⟩
   ·obtain⟨b,us,m1,m2,m3,m4,m5⟩:=R2.own j c (by rw [List.getElem?_set_ne z];exact hj);refine⟨b,us,m1,?_,m3,m4,?_⟩
    ·by_cases w:b=a
     ·subst w;exact Ip
     ·rw [FA w];exact m2
    ·have hjl:j<δ.length:=(aE.mp hj).1;have hm:L.own c∈δ.set i .no:=aZ.mpr ⟨j,by rw [List.getElem?_set_ne z];exact hj⟩;have hc2:=aL.mp hc.2 _ hm;cases c with
     |lst xs =>
      obtain⟨ys,e1,e2⟩:=m5;exact⟨ys,e1,Jl ha hc2 e2⟩
     |S0 xs=>cases hc2
     |Cr xs=>cases hc2
  ·rcases aK.mp hw with rfl|hw
   ·exact Pu ha hc.1 (R2.Ba _ (.head _))
   ·exact(R.Ba w hw).same eG
 ·cases h4
end L2
set_option maxHeartbeats 4000000
namespace ES
open PySem PyProof.Rows
open AutoSeq1 (wpAny_loadPart')
section
variable{prog:Program}{w:World}{A:Around}{E:VL→SD→Prop}{s:SD}
def ZX(a b:VL):checkBuiltinCall "enumerate.__new__" ⟨[.type "enumerate",a],[(Str.ofString "start",b)]⟩=pure ():=by kernel_rfl
def Yz(a b c:VL):argsOk "object.__init__" ⟨[a,b],[(Str.ofString "start",c)]⟩:=by
 unfold argsOk;rw [signature?_of (n:=['_','_','t','i','n','i','_','_']) (o:=['t','c','e','j','b','o']) (by kernel_rfl) F.owner_object]
 kernel_rfl
def Xd(l:AD)(items:Array VL)(n:Nat)(dct:Option AD)(sl:Array (Option VL))(t:Tok) :
  Meets (Builtin.«enumerate.__new__» ⟨[.type "enumerate",.ref l],[(Str.ofString "start",.int 2 t)]⟩) (fun _ R s=>s.heap.get? l=some { cls:=.type "list",dict:=dct,data:=.seq items n,slots:=sl } ∧
   R (.ok (.ret (.ref (s.heap.push { cls:=.type "list_iterator",data:=.fields #[.ref l,.int 0 0] }).objs.size)))
    { s with heap:=(s.heap.push { cls:=.type "list_iterator",data:=.fields #[.ref l,.int 0 0] }).push { cls:=.type "enumerate",data:=.fields #[.none,.bool false,.ref s.heap.objs.size,rawInt 2,.none,.none] } }) :=
 .of_wp fun prog w A R s h=>by
  obtain⟨hp,g,d,tk,os⟩:=s;obtain⟨hl,h⟩:=h;have hsub:=sub_enumerate;have hL:Heap.IsList (Shared.heap ⟨hp,g,d,tk,os⟩) l items:=⟨_,hl,rfl,n,rfl⟩
  wp_walk using wpAny_loadPart' hl
  refine wpAny_stack_any fun st=>aA ?_;split
  ·rename_i c _ _ _ _ _;cases (c==Value.type "enumerate")
   ·wp_walk using wpAny_loadPart' hl,wpAny_pyIter_list hL
    exact⟨_,rfl,h⟩
   ·wp_walk using wpAny_loadPart' hl,wpAny_pyIter_list hL
    exact⟨_,rfl,h⟩
  ·wp_walk using wpAny_loadPart' hl,wpAny_pyIter_list hL
   exact⟨_,rfl,h⟩
def WO{self:VL}{rest:List VL}{kw:List (Str×VL)}:Meets (Builtin.«object.__init__» ⟨self::rest,kw⟩) (fun _ R s=>s.TypeIs self "enumerate" ∧ R (.ok (.ret .none)) s):=by
 refine Meets.of_wp fun prog w A R s hs=>?_;obtain⟨hT,hq⟩:=hs;have hl:=F.called_enumerate.init.lookup;have hm:=F.called_enumerate.made;unfold Builtin.«object.__init__»;dsimp only;split
 ·repeat (any_goals (first|assumption|wp_step))
  exact⟨_,rfl,hq⟩
 ·exact aA ⟨_,rfl,hq⟩
def WG{l:AD}{items:Array VL}{t:Tok}{Q:VL→SD→Prop}(hL:s.heap.IsList l items)
 (h:∀h',IsEnum h' (s.heap.objs.size+1) s.heap.objs.size 2 .none→h'.IsListIter s.heap.objs.size l 0→h'.objs.size=s.heap.objs.size+2 →
   (∀b o,s.heap.get? b=some o→h'.get? b=some o)→Q (.ref (s.heap.objs.size+1)) { s with heap:=h' }) :
  wpAny (model prog w) A (call (.type "enumerate") [.ref l] [(Str.ofString "start",.int 2 t)]) Q E s:=by
 obtain⟨⟨c,dct,dt,sl⟩,hl,hc,n,hd⟩:=hL
 replace hc:c=.type "list" := hc
 replace hd:dt=.seq items n:=hd
 subst hc hd;have ft:=F.called_enumerate;obtain⟨c,tl,hmro⟩:=ft.mro;have hmade:=ft.made;have hsub:=ft.sub;have hz:(s.heap.push { cls:=.type "list_iterator",data:=.fields #[.ref l,.int 0 0] }).objs.size=s.heap.objs.size+1:=Heap.size_push ..;refine wpAny_call (codeAny_of_tree ?_);show wpAny _ _ (callAny (.type "enumerate") _) _ _ _;refine aA ⟨Code.quiet_builtin _ (by decide +kernel),(codeAny_builtin F.entry_type_call ?_)⟩;rw [Around.under_plain (weight_type_call_type "enumerate" [.ref l] [(Str.ofString "start",.int 2 t)]) (units_type_call_type _ _ _)];have h1:=ft.notType;have h2:=ft.canCreate
 repeat (any_goals (first|assumption|wp_step))
 have goal1:wants (fun obj s₁=>s₁.TypeIs obj "enumerate" ∧ Q obj s₁) E (.ok (.ret (.ref (s.heap.push { cls:=.type "list_iterator",data:=.fields #[.ref l,.int 0 0] }).objs.size))) { s with heap:=(s.heap.push { cls:=.type "list_iterator",data:=.fields #[.ref l,.int 0 0] }).push { cls:=.type "enumerate",data:=.fields #[.none,.bool false,.ref s.heap.objs.size,rawInt 2,.none,.none] } }:=by
  show _∧_;rw [hz];have a1:IsEnum ((s.heap.push { cls:=.type "list_iterator",data:=.fields #[.ref l,.int 0 0] }).push { cls:=.type "enumerate",data:=.fields #[.none,.bool false,.ref s.heap.objs.size,rawInt 2,.none,.none] }) (s.heap.objs.size+1) s.heap.objs.size 2 .none:=by
   rw [←hz];exact aN _ rfl
  refine⟨⟨_,a1,rfl⟩,h _ a1 ⟨_,Heap.get?_push_of_some _ (aN _ rfl),rfl,rfl⟩ (by rw [Heap.size_push,hz]) fun b o e=>aD _ (aD _ e)⟩
 refine codeAny_mono (codeAny_call_builtin ft.plain F.entry_enumerate_new (wpAny_of_eq (ZX _ _) (Xd l items n dct sl t prog w A.in1 _ s ⟨hl,goal1⟩))) fun r s₁ hr=>?_;cases r with
 |error e=>exact hr
 |ok fl =>
  cases fl with
  |ret obj =>
   obtain⟨hT,hq⟩:=hr;have hli:=ft.init.lookup;have hbi:=ft.init.bind obj
   repeat (any_goals (first|assumption|wp_step))
   refine codeAny_mono (codeAny_call_builtin ft.init.plain F.entry_object_init (ft.init.check _ _ _ _ _ _ _ _ hT (Yz _ _ _) (WO prog w A.in1 (wants (fun r s₂=>r=.none∧Q obj s₂) E) s₁ ⟨hT,rfl,hq⟩))) fun r₂ s₂ hr₂=>?_;cases r₂ with
   |error e=>exact hr₂
   |ok fl₂ =>
    cases fl₂ with
    |ret r =>
     obtain⟨rfl,hq⟩:=hr₂
     repeat (any_goals (first|assumption|wp_step))
    |_=>exact hr₂.elim
  |_=>exact hr.elim
end
end ES
namespace L2
open PySem PySem.Spec PyProof.Rows
def Wy{prog:Program}{w:World}{A:Around}{it:AD}{fp:List AD}{n:Nat}{P:Nat→VL→Prop}{St:Nat→Heap→Prop}(D:Draws prog w A it fp n P St):Draws prog w A it fp (n+2) (fun i v=>P (i-2) v) (fun i h=>∃j,i=j+2∧St j h) where
 live:=fun i h ⟨j,_,s⟩=>D.live j h s
 frame:=fun i h h' ⟨j,e,s⟩ k=>⟨j,e,D.frame j h h' s k⟩
 item:=fun i s Q E hi ⟨j,e,st⟩ q=>by
  subst e;exact D.item j s Q E (by omega) st fun x h' tk h1 h2 h3=>q x h' tk h1 ⟨j+1,rfl,h2⟩ h3
 done:=fun s Q E ⟨j,e,st⟩ q=>by
  have:j=n:=by omega
  subst this;exact D.done s Q E st q
def Zj(K:Fg)(a:AD):It :=
 ⟨fun i H=>∃xs x,A3 K H a xs∧xs[i]? = some x,fun i H v H'=>∃p x,v=.ref p∧H p=none∧H'=upd H p (.tup [.int ((i+2:Nat):Int),x])∧∀xs,A3 K H a xs→xs[i]? = some x,fun i H=>∃xs,A3 K H a xs∧xs.length=i⟩
def Vt{P:Program}{w:World}{K:Fg}{elts:List Expr}{x1}{pos:Pos}(a e it:AD)(hne:e≠it) :
  Turn P w K (.Tuple elts x1 pos) (Zj K a) [e,it] e (fun i h=>(∃old,IsEnum h e it ((i+2:Nat):Int) old)∧h.IsListIter it a i) where
 mem:=by simp
 obj:=fun i h st b hb=>by
  rcases aK.mp hb with rfl|hb
  ·obtain⟨⟨old,q⟩,_⟩:=st;exact⟨_,q,fun v z=>by cases z⟩
  ·have e2:b=it:=by simpa using hb
   subst e2;obtain⟨_,o,q,c,d⟩:=st;exact⟨o,q,fun v z=>by rw [d]at z;cases z⟩
 keep:=fun i h h' st k=>by
  obtain⟨⟨old,q⟩,o,q2,r⟩:=st;exact⟨⟨old,k e (by simp) _ q⟩,o,k it (by simp) _ q2,r⟩
 item:=by
  intro X hP hw hK hc i pins s σ H E I hf st hg;subst hP hw hK;obtain⟨xs,x,hq,hx⟩:=hg;obtain⟨its,rv,pL,hz⟩:=I.list hq;have p:=pL.isList;obtain⟨u,hu,ru⟩:=rv.get hx;obtain⟨⟨old,he⟩,hit⟩:=st;have hai:a≠it:=fun z=>by
   obtain⟨o,e1,c1,_⟩:=p;obtain⟨o2,e2,c2,_⟩:=hit;rw [z,e2]at e1;cases e1;rw [c1]at c2;exact absurd c2 (by decide)
  have hae:a≠e:=fun z=>by
   obtain⟨o,e1,c1,_⟩:=p;rw [z,he]at e1;cases e1;exact absurd (show Value.type "enumerate" = Value.type "list" from c1) (by decide)
  have hlt:i<its.length:=(aE.mp hu).1;have hE0:=hf e (by simp);have hI0:=hf it (by simp);refine wpAny_pyNext_enum_itemD (Wy (Draws.list (prog:=X.prog) (w:=X.w) (A:=X.A.in1) (I.ok.hd hc) it a hai its.toArray)) he ⟨i,rfl,hit,p⟩ (by simpa using hlt) hne (by simp [hne,Ne.symm hae]) fun y h' tk hy ho hs' hT hsz hk=>⟨_,rfl,wpAny_letOwnedTupleGo_enum (s:={ s with heap:=h',toks:=tk+1 }) ho fun h'' he'' sb=>?_⟩;have hyu:y=u:=by
   have hy:its[i]? = some y:=by simpa using hy
   rw [hu]at hy;exact(aW hy).symm
  have hs':h'.IsListIter it a (i+1):=by
   obtain⟨j,ej,hs1,_⟩:=hs';have:j=i+1:=by omega
   subst this;exact hs1
  subst hyu;have keep:∀b o,b≠e→b≠it→s.heap.get? b=some o→h''.get? b=some o:=fun b o h1 h2 q=>(sb.2 b h1).trans (hk b o h1 h2 q);have hTe:s.heap.objs.size≠e:=ah (aF he);have hTi:s.heap.objs.size≠it:=let⟨_,q,_⟩:=hit;ah (aF q);have hT'':h''.get? s.heap.objs.size=some { cls:=.type "tuple",data:=.seq #[.int ((i+2:Nat):Int) tk,y] }:=(sb.2 _ hTe).trans hT;have hTn:H s.heap.objs.size=none:=I.Av.fresh (aI _);have neT:∀b o,s.heap.get? b=some o→b≠s.heap.objs.size:=fun b o q=>aG (aF q);have E2:∀b o,H b=some o→b≠e∧b≠it:=fun b o q=>⟨(fun z=>by rw [z,hE0.1]at q;cases q),(fun z=>by rw [z,hI0.1]at q;cases q)⟩;refine⟨.ref s.heap.objs.size,upd H s.heap.objs.size (.tup [.int ((i+2:Nat):Int),x]),?_,rfl,⟨_,x,rfl,hTn,rfl,fun ys hy=>by rw [I.OO hy hq];exact hx⟩,⟨⟨_,by have:=he'';rw [show(((i+1+2:Nat)):Int)=((i+2:Nat):Int)+1 by omega];exact this⟩,?_⟩,fun b hb=>?_⟩
  ·show Inv X pins σ _ { s with heap:=h'',gens:=s.gens,drawn:=s.drawn,toks:=tk+1 };refine I.step (h':=h'') (g':=s.gens) (d':=s.drawn) (t':=tk+1) (ch:=[e,it]) (fun b hb=>?_) (fun b o _ _ hc q _=>keep b o (fun z=>hc (by simp [z])) (fun z=>hc (by simp [z])) q) (fun b o _ _ hc q _=>⟨o.slots,keep b o (fun z=>hc (by simp [z])) (fun z=>hc (by simp [z])) q⟩)
    (fun b o _ q n=>by rw [AM (neT b o q)];exact n) (fun b o hc q=>⟨o,keep b o (fun z=>hc (by simp [z])) (fun z=>hc (by simp [z])) q⟩) (fun b ys q=>by rw [AM (Ah q hTn)];exact q) (fun b o u q=>by rw [AM (Ah q hTn)];exact q)
    (fun b ps q=>⟨#[],by rw [AM (Ah q hTn),q];simp⟩) (fun m hm=>?_) (fun b o q=>?_) I.bare
   ·rcases aK.mp hb with rfl|hb
    ·exact⟨hE0.2.2.2.1,hE0.2.1,hE0.2.2.2.2.1,hE0.2.2.2.2.2⟩
    ·have e2:b=it:=by simpa using hb
     subst e2;exact⟨hI0.2.2.2.1,hI0.2.1,hI0.2.2.2.2.1,hI0.2.2.2.2.2⟩
   ·obtain⟨o,es,ep,ho,r⟩:=hm;exact⟨o,es,ep,keep _ o (Ne.symm hE0.2.1) (Ne.symm hI0.2.1) ho,r⟩
   ·by_cases hb:b=s.heap.objs.size
    ·subst hb;rw [AZ]at q;cases q;exact⟨Vo,[.int ((i+2:Nat):Int) tk,y],.cons ⟨tk,rfl⟩ (.cons ru .nil),_,hT'',rfl,_,rfl⟩
    ·rw [AM hb]at q;refine(I.Av b o q).IC (fun c v hc r=>keep c v ?_ ?_ r) (fun c r=>by rw [AM (Ah r hTn)];exact r) fun c ys r=>by rw [AM (Ah r hTn)];exact r
     ·rcases hc with rfl|hc
      ·exact(E2 _ _ q).1
      ·exact(E2 _ _ hc).1
     ·rcases hc with rfl|hc
      ·exact(E2 _ _ q).2
      ·exact(E2 _ _ hc).2
  ·obtain⟨o,q,r⟩:=hs';exact⟨o,(sb.2 it (Ne.symm hne)).trans q,r⟩
  ·rcases aK.mp hb with rfl|hb
   ·rw [AM (Ne.symm hTe)];exact hE0.1
   ·have e2:b=it:=by simpa using hb
    subst e2;rw [AM (Ne.symm hTi)];exact hI0.1
 done:=by
  intro X hP hw hK hc i pins s σ H E I hf st hg;subst hP hw hK;obtain⟨xs,hq,hx⟩:=hg;obtain⟨its,rv,pL,hz⟩:=I.list hq;have p:=pL.isList;obtain⟨⟨old,he⟩,hit⟩:=st;have hai:a≠it:=fun z=>by
   obtain⟨o,e1,c1,_⟩:=p;obtain⟨o2,e2,c2,_⟩:=hit;rw [z,e2]at e1;cases e1;rw [c1]at c2;exact absurd c2 (by decide)
  have hl:its.length=i:=by rw [←rv.length];exact hx
  subst hl;obtain⟨f0,f1,f2,f3,f4,f5⟩:=hf it (by simp);exact wpAny_pyNext_enum_endD (Wy (Draws.list (prog:=X.prog) (w:=X.w) (A:=X.A.in1) (I.ok.hd hc) it a hai its.toArray)) he ⟨_,by simp,hit,p⟩ fun h' eb=>⟨rfl,I.turned (t':=s.toks) (fun b o hb q=>eb b o hb q) f0 f1 f3 f4 f5⟩
 self:=fun _ _ _ _ _ st h=>by
  obtain⟨⟨old,he⟩,_⟩:=st;exact wpAny_pyIter_enum he h
def UD{M:Model}{A:Around}{E:VL→SD→Prop}{s:SD}{env:Env}{pos:Pos}{T:String}{e:Expr}{rest:List Expr}{kws:List Keyword}{Q:VL→SD→Prop}
 (h:wpAny M A (spliced (backTo pos (starEach (e::rest) env))) (fun vs s1=>wpAny M A (evalAll ((backToKw pos (keywordEach kws env)).map (·.2))) (fun kvs s2=>wpAny M A (call (.type T) vs (((backToKw pos (keywordEach kws env)).filterMap (·.1)).zip kvs)) Q E s2) E s1) E s)
 (he:backTo pos (starEach (e::rest) env)=(false,eval e env)::backTo pos (starEach rest env):=by rfl)(hplain:(backTo pos (starEach (e::rest) env)).any (·.1)=false:=by rfl)
 (hall:(backToKw pos (keywordEach kws env)).all (·.1.isSome)=true:=by rfl)(hkw:(backToKw pos (keywordEach kws env)).any (·.1.isNone)=false:=by rfl) :
  wpAny M A (callWith pos (.type T) [] (backTo pos (starEach (e::rest) env)) (backToKw pos (keywordEach kws env))) Q E s:=by
 have k:wpAny M A (evalArgs (.type T) true (backTo pos (starEach (e::rest) env)) (backToKw pos (keywordEach kws env))) (fun a s1=>wpAny M A (call (.type T) ([]++a.pos) a.kw) Q E s1) E s:=by
  rw [he]at h ⊢;exact evalArgs_kwB hall h
 unfold callWith;refine Wb (aP (ag k (fun a s1 h1=>Wb (wpAny_standAt ?_)) fun _ _ x=>x));simp only [hplain,hkw,Bool.or_false];exact Wb (aA (Wb (ag h1 (fun r s2 hr=>Wb (aP (wpAny_point (aA hr)))) fun _ _ x=>x)))
def jc(K:Fg)(ta:TA):TI:=fun σ H R=>ta σ H fun vs H1=>∃a,vs=[.ref a]∧(∃xs,A3 K H1 a xs)∧R (Zj K a) H1
def ZM{X:Cx}{elts:List Expr}{x1}{tpos:Pos}{a:Expr}{ta:TA}{p pos kp kp2:Pos}{j}(hg:Gl X "enumerate")(hm:X.mg "enumerate" = none)(ha:PA X [a] ta)
 (he:backTo pos (starEach [a] X.env)=(false,eval a X.env)::backTo pos (starEach [] X.env):=by rfl)(hplain:(backTo pos (starEach [a] X.env)).any (·.1)=false:=by rfl) :
  PI X (.Tuple elts x1 tpos) (.Call (.Name "enumerate" p) [a] [⟨some "start",.Constant (.int 2) j kp2,kp⟩] pos) (jc X.K ta):=by
 intro pins s σ H R I h;refine wpAny_Call_Name_kw (Er I hg hm boot_enumerate ?_);refine UD (A6 (ha pos pins s σ H _ I h) fun us s1 ⟨vs,H1,I1,r1,q1⟩=>kws_cons (wpAny_Constant_int (kws_nil ?_))) he hplain;obtain⟨t,e,⟨xs,hq⟩,q⟩:=q1;subst e;cases r1 with
 |cons r rr =>
  cases rr;cases r;obtain⟨its,rv,p',hz⟩:=I1.list hq;refine ES.WG (show Heap.IsList (Shared.heap { s1 with toks:=s1.toks+1 }) t its.toArray from p'.isList) fun h' he hit hsz hk=>wpAny_pyIter_enum he ?_;have I2:Inv X pins σ H1 { s1 with heap:=h',toks:=s1.toks+1 }:=I1.kept (t':=s1.toks+1) hk;have hn:s1.heap.objs.size+1≠s1.heap.objs.size:=by omega
  refine⟨s1.heap.objs.size+1,[s1.heap.objs.size+1,s1.heap.objs.size],_,_,H1,rfl,I2,Vt t _ _ hn,⟨⟨_,he⟩,hit⟩,fun b hb=>?_,q⟩;have hb':s1.heap.objs.size≤b:=by
   have hb2:b=s1.heap.objs.size+1∨b=s1.heap.objs.size:=by simpa using hb
   rcases hb2 with z|z
   ·rw [z];exact bY _
   ·rw [z];exact aI _
  exact(I1.tok (s1.toks+1)).OT hb' ((I1.tok (s1.toks+1)).Av.fresh hb')
def Hx(xs:List PD):List PD:=xs.zipIdx.map fun q=>.tuple [.int ((q.2+2:Nat):Int),q.1]
def O9{xs:List PD}{i:Nat}{d:PD}(h:(Hx xs)[i]? = some d):∃x,xs[i]? = some x∧d=.tuple [.int ((i+2:Nat):Int),x]:=by
 unfold Hx at h;rw [List.getElem?_map]at h;obtain⟨q,h1,rfl⟩:=aC.mp h;rw [List.getElem?_zipIdx]at h1;obtain⟨x,h2,rfl⟩:=aC.mp h1;exact⟨x,h2,by simp⟩
def Z2{K:Fg}{G:Hp}{a:AD}{ys:List V}{xs:List PD}(ha:G a=some (.lst ys))(d:Ai G xs ys):IB (Zj K a) (Hx xs) G where
 stop:=fun H e=>⟨ys,A3.of (e _ _ ha),by rw [d.len];simp [Hx]⟩
 go:=fun i x H hx e=>by
  obtain⟨x',h0,rfl⟩:=O9 hx;obtain⟨v,h1,_⟩:=d.get h0;exact⟨ys,v,A3.of (e _ _ ha),h1⟩
 Ep:=fun i x H v H' hx e y Gc e1 e2=>by
  obtain⟨x',h0,rfl⟩:=O9 hx;obtain⟨p,u,rfl,hp,rfl,y⟩:=y;have h1:=y ys (A3.of (e _ _ ha));obtain⟨x2,h2,h3⟩:=d.back h1;rw [h0]at h2;cases h2;exact LD e2 hp (by rw [Du]) (h3.same e1)
def Rx:List PD→Option (List PD)
 |[.list xs]=>some (Hx xs)
 |_=>none
def ZA{X:Cx}{a:Expr}{fs:Dv→Option (List PD)}{p pos kp kp2:Pos}{j}{elts:List Expr}{x1}{tpos:Pos}(hg:Gl X "enumerate")(hm:X.mg "enumerate" = none)(ha:DA X [a] fs)(he:backTo pos (starEach [a] X.env)=(false,eval a X.env)::backTo pos (starEach [] X.env):=by rfl)(hplain:(backTo pos (starEach [a] X.env)).any (·.1)=false:=by rfl) :
  DI X (.Tuple elts x1 tpos) (.Call (.Name "enumerate" p) [a] [⟨some "start",.Constant (.int 2) j kp2,kp⟩] pos) (fun δ=>(fs δ).bind Rx):=by
 obtain⟨t,pa,k⟩:=ha;refine⟨_,ZM hg hm pa he hplain,fun δ xs h G0 H0 G H σ ts R R0 q=>?_⟩;obtain⟨x,h1,h2⟩:=aB.mp h;unfold Rx at h2;split at h2
 ·cases h2;refine k δ _ h1 G0 H0 G H σ ts _ R0 fun vs G' H' R' hv=>?_;obtain⟨d,R2⟩:=R'.args hv;obtain⟨u,rfl,du⟩:=d.HG;rw [Du]at du;obtain⟨a,ys,rfl,n1,n2⟩:=du;exact⟨a,rfl,⟨ys,A3.of (R2.ins _ _ n1)⟩,q _ _ _ R2 (Z2 n1 n2)⟩
 ·cases h2
end L2
namespace ZT
open PySem PyProof.Rows
def LZ(h:Heap)(z TI TO T:AD)(b:Bool):Prop:=h.get? z=some { cls:=.type "zip",data:=.fields #[rawInt T,.bool b,.bool false,.ref TI,.ref TO] }∧∃o,h.get? T=some o
section
variable{prog:Program}{w:World}{A:Around}{E:VL→SD→Prop}{s:SD}{z TI TO T i1 i2:AD}{f1 f2:List AD}{n1 n2 k:Nat}{P1 P2:Nat→VL→Prop}{S1 S2:Nat→Heap→Prop}{b:Bool}
def VZ{Q:Bool→SD→Prop}(hz:LZ s.heap z TI TO T b)(hT:T≠z)(q:∀h',LZ h' z TI TO T true→Heap.SameBut z s.heap h'→Q false { s with heap:=h' }):wpAny (model prog w) A (Builtin.SmallTypes.ownedTupleIsFree (.ref z)) Q E s:=by
 obtain⟨hz,o,ho⟩:=hz;unfold Builtin.SmallTypes.ownedTupleIsFree;refine Wb (ak hz rfl (x:=rawInt T) rfl ?_);show wpAny _ _ (loadIfAlive (Int.toNat (T:Int))>>=_) _ _ _;rw [Int.toNat_natCast];refine Wb (PySem.W.kdx_alive ho ?_);show wpAny _ _ (field (.ref z) 1>>=_) _ _ _;refine Wb (ak hz rfl (x:=.bool b) rfl ?_);cases b with
 |true=>exact Wb (aA (aA (q _ ⟨hz,o,ho⟩ (Heap.SameBut.refl ..))))
 |false =>
  show wpAny _ _ (setField (.ref z) 1 (.bool true)>>=_) _ _ _;refine Wb (bQ hz (by simp) fun g1 z1 m1=>aA (q g1 ⟨z1,o,(m1.2 _ hT).trans ho⟩ m1))
def Ye{Q:VL→SD→Prop}(D1:Draws prog w A i1 f1 n1 P1 S1)(D2:Draws prog w A i2 f2 n2 P2 S2)(ap:Apart z TI TO i1 i2 f1 f2)(hz:LZ s.heap z TI TO T b)(hI:IsPair s.heap TI (.ref i1) (.ref i2))
 (hT:T≠z∧T≠i1∧T≠i2)(t1:S1 k s.heap)(t2:S2 k s.heap)(l1:k<n1)(l2:k<n2)
 (q:∀x y h' tk,P1 k x→P2 k y→LZ h' z TI TO T true→S1 (k+1) h'→S2 (k+1) h'→IsPair h' s.heap.objs.size x y→h'.objs.size=s.heap.objs.size+1 →
   (∀c o,c≠z→c≠i1→c≠i2→s.heap.get? c=some o→h'.get? c=some o)→Q (.ref s.heap.objs.size) { s with heap:=h',toks:=tk }) :
  wpAny (model prog w) A (Builtin.«zip.__next__» ⟨[.ref z],[]⟩) (fun fin s'=>∃v,fin=.done (.ret v)∧Q v s') E s:=by
 obtain⟨⟨c1,c2,c3,c4⟩,⟨c5,c6,c7⟩,⟨c8,c9,c10⟩,⟨d1,d2,d3⟩,d4,d5,d6⟩:=ap;show wpAny _ _ (field (.ref z) 2>>=_) _ _ _;refine Wb (ak hz.1 rfl (x:=.bool false) rfl ?_);show wpAny _ _ (field (.ref z) 3>>=_) _ _ _;refine Wb (ak hz.1 rfl (x:=.ref TI) rfl (Wb (bA hI rfl ?_)));show wpAny _ _ (Builtin.SmallTypes.ownedTupleIsFree (.ref z)>>=_) _ _ _;refine Wb (VZ hz hT.1 fun g1 z1 m1=>?_);simp only [Bool.false_eq_true,if_false];have m1:Heap.SameBut z s.heap g1:=m1;rw [←Array.forIn_toList];simp only [List.forIn_cons,List.forIn_nil];refine Wb (Wb (Wb (aP ?_)));show wpAny _ _ (Builtin.SmallTypes.nextOf (.ref i1)>>=_) _ _ _;refine Wb (D1.item k _ _ _ l1 (D1.frame _ _ _ t1 (CC d1 m1)) fun x g2 tk2 p1 u1 m2=>aA (aA ?_));have m2:Heap.SameBut i1 g1 g2:=m2;have t2':S2 k g2:=D2.frame _ _ _ (D2.frame _ _ _ t2 (CC d4 m1)) (CC d6 m2);refine Wb (Wb (aP ?_));show wpAny _ _ (Builtin.SmallTypes.nextOf (.ref i2)>>=_) _ _ _;refine Wb (D2.item k _ _ _ l2 t2' fun y g4 tk4 p2 u2 m4=>aA (aA (aA ?_)));have m4:Heap.SameBut i2 g2 g4:=m4;show wpAny _ _ (newTuple [x,y]>>=_) _ _ _;refine Wb (wpAny_newTuple (hsz:=by rw [sizeLine_eq];show(2:Nat)≤_;decide) ?_);have sz:g4.objs.size=s.heap.objs.size:=by rw [m4.1,m2.1,m1.1]
 have kp:∀c o,c≠i1→c≠i2→g1.get? c=some o→(g4.push { cls:=.type "tuple",data:=.seq #[x,y] }).get? c=some o:=fun c o e3 e4 e=>aD _ ((m4.2 _ e4).trans ((m2.2 _ e3).trans e));obtain⟨z1,o,ho⟩:=z1;have fin:=q x y (g4.push { cls:=.type "tuple",data:=.seq #[x,y] }) tk4 p1 p2 ⟨kp _ _ c8.symm c9.symm z1,o,kp _ _ hT.2.1 hT.2.2 ho⟩ (D1.frame _ _ _ (D1.frame _ _ _ u1 (CC d3 m4)) fun c hc o e=>aD _ e) (D2.frame _ _ _ u2 fun c hc o e=>aD _ e)
  (by rw [←sz];exact aN _ rfl) (by rw [←sz,Heap.size_push]) fun c o e1 e3 e4 e=>kp c o e3 e4 ((m1.2 _ e1).trans e)
 rw [←sz]at fin;exact aA ⟨_,rfl,fin⟩
def ZR{Q:Fin→SD→Prop}(D1:Draws prog w A i1 f1 n1 P1 S1)(D2:Draws prog w A i2 f2 n2 P2 S2)(ap:Apart z TI TO i1 i2 f1 f2)(hz:LZ s.heap z TI TO T b)(hI:IsPair s.heap TI (.ref i1) (.ref i2))
 (hT:T≠z)(t1:S1 k s.heap)(t2:S2 k s.heap)(he:k=n1∨(k<n1∧k=n2))
 (q:∀h' e tk,(∀c o,c≠z→c≠i1→c≠i2→s.heap.get? c=some o→h'.get? c=some o)→(∃o,h'.get? e=some o∧o.cls=.type "StopIteration")→E (.ref e) { s with heap:=h',toks:=tk }) :
  wpAny (model prog w) A (Builtin.«zip.__next__» ⟨[.ref z],[]⟩) Q E s:=by
 obtain⟨⟨c1,c2,c3,c4⟩,⟨c5,c6,c7⟩,⟨c8,c9,c10⟩,⟨d1,d2,d3⟩,d4,d5,d6⟩:=ap;show wpAny _ _ (field (.ref z) 2>>=_) _ _ _;refine Wb (ak hz.1 rfl (x:=.bool false) rfl ?_);show wpAny _ _ (field (.ref z) 3>>=_) _ _ _;refine Wb (ak hz.1 rfl (x:=.ref TI) rfl (Wb (bA hI rfl ?_)));show wpAny _ _ (Builtin.SmallTypes.ownedTupleIsFree (.ref z)>>=_) _ _ _;refine Wb (VZ hz hT fun g1 z1 m1=>?_);simp only [Bool.false_eq_true,if_false];have m1:Heap.SameBut z s.heap g1:=m1;rw [←Array.forIn_toList];simp only [List.forIn_cons,List.forIn_nil];refine Wb (Wb (Wb (aP ?_)));show wpAny _ _ (Builtin.SmallTypes.nextOf (.ref i1)>>=_) _ _ _;have t1':=D1.frame _ _ _ t1 (CC d1 m1);rcases he with he|⟨he1,he2⟩
 ·rw [he]at t1';refine Wb (D1.done _ _ _ t1' fun g2 e m2 ho=>?_);exact q g2 e _ (fun c o e1 e3 e4 y=>m2 _ _ e3 ((m1.2 _ e1).trans y)) ho
 ·refine Wb (D1.item k _ _ _ he1 t1' fun x g2 tk2 p1 u1 m2=>aA (aA ?_));have m2:Heap.SameBut i1 g1 g2:=m2;have t2':S2 k g2:=D2.frame _ _ _ (D2.frame _ _ _ t2 (CC d4 m1)) (CC d6 m2);rw [he2]at t2';refine Wb (Wb (aP ?_));show wpAny _ _ (Builtin.SmallTypes.nextOf (.ref i2)>>=_) _ _ _;refine Wb (D2.done _ _ _ t2' fun g4 e m4 ho=>?_);exact q g4 e _ (fun c o e1 e3 e4 y=>m4 _ _ e4 ((m2.2 _ e3).trans ((m1.2 _ e1).trans y))) ho
def YF{Q:Option VL→SD→Prop}(D1:Draws prog w A.in1 i1 f1 n1 P1 S1)(D2:Draws prog w A.in1 i2 f2 n2 P2 S2)(ap:Apart z TI TO i1 i2 f1 f2)(hz:LZ s.heap z TI TO T b)(hI:IsPair s.heap TI (.ref i1) (.ref i2))
 (hT:T≠z∧T≠i1∧T≠i2)(t1:S1 k s.heap)(t2:S2 k s.heap)(l1:k<n1)(l2:k<n2)
 (q:∀x y h' tk,P1 k x→P2 k y→LZ h' z TI TO T true→S1 (k+1) h'→S2 (k+1) h'→IsPair h' s.heap.objs.size x y→h'.objs.size=s.heap.objs.size+1 →
   (∀c o,c≠z→c≠i1→c≠i2→s.heap.get? c=some o→h'.get? c=some o)→Q (some (.ref s.heap.objs.size)) { s with heap:=h',toks:=tk }) :
  wpAny (model prog w) A (pyNext (.ref z)) Q E s:=by
 have hTy:s.TypeIs (.ref z) "zip" := ⟨_,hz.1,rfl⟩;unfold pyNext;exact Wb (wpAny_attempt (aj (name:=Str.ofString "__next__") hTy bT
  (af bT hTy F.entry_zip_next (Ye D1 D2 ap hz hI hT t1 t2 l1 l2 fun x y h' tk r1 r2 r3 r4 r5 r6 r7 r8=>aA (q x y h' tk r1 r2 r3 r4 r5 r6 r7 r8)) (F.args_zip_next_1 _))))
def RV{Q:Option VL→SD→Prop}(D1:Draws prog w A.in1 i1 f1 n1 P1 S1)(D2:Draws prog w A.in1 i2 f2 n2 P2 S2)(ap:Apart z TI TO i1 i2 f1 f2)(hz:LZ s.heap z TI TO T b)(hI:IsPair s.heap TI (.ref i1) (.ref i2))
 (hT:T≠z)(t1:S1 k s.heap)(t2:S2 k s.heap)(he:k=n1∨(k<n1∧k=n2))
 (q:∀h' tk,(∀c o,c≠z→c≠i1→c≠i2→s.heap.get? c=some o→h'.get? c=some o)→Q none { s with heap:=h',toks:=tk }) :
  wpAny (model prog w) A (pyNext (.ref z)) Q E s:=by
 have hTy:s.TypeIs (.ref z) "zip" := ⟨_,hz.1,rfl⟩;unfold pyNext;refine Wb (wpAny_attempt (aj (name:=Str.ofString "__next__") hTy bT
  (af bT hTy F.entry_zip_next (ZR D1 D2 ap hz hI hT t1 t2 he fun h' e tk kp ho=>?_) (F.args_zip_next_1 _))))
 obtain⟨o,ho,hc⟩:=ho;exact Wb (wpAny_isInstance (T := "StopIteration") (b:=true) ⟨o,ho,hc⟩ isSubtype_stop (aA (q _ _ kp)))
end
end ZT
namespace TH
open PySem PyProof.Rows
def OP:typeLookup (.type "zip") "__getattr__" = pure none:=by rw [typeLookup_type,builtinLookup_eq_fast];kernel_rfl
def RZ:typeLookup (.type "zip") "keys" = pure none:=by rw [typeLookup_type,builtinLookup_eq_fast];kernel_rfl
def Nu:entryFor table "zip.__getattribute__" = some Builtin.«object.__getattribute__» :=
 entryFor_alias (id' := "object.__getattribute__") (by kernel_rfl) (by decide +kernel) (by decide +kernel) (by kernel_rfl)
def Zg(a:AD)(xs:Array VL)(u:Tok) :
  Meets (Builtin.«object.__getattribute__» ⟨[.ref a,.str "keys" u],[]⟩) (fun A R s=>s.heap.get? a=some { cls:=.type "zip",dict:=none,data:=.fields xs,slots:=#[] }∧raisesAttr (.ref a) "keys" A R s) :=
 Meets.of_wp fun prog w A R s hs=>by
  obtain⟨hp,g,d,tk,os⟩:=s;obtain⟨hx,hs⟩:=hs;have hT:(⟨hp,g,d,tk,os⟩:SD).TypeIs (.ref a) "zip" := ⟨_,hx,rfl⟩;have hmiss:=RZ;unfold Builtin.«object.__getattribute__»
  repeat (any_goals (first|assumption|wp_step))
  exact wpAny_raiseAttrError hs.1 hs.2 (attrMsg_fits (by decide +kernel) (by size_fits))
def eo{prog:Program}{w:World}{A:Around}{E:VL→SD→Prop}{s:SD}{a:AD}{xs:Array VL}{Q:Option VL→SD→Prop}
 (hx:s.heap.get? a=some { cls:=.type "zip",dict:=none,data:=.fields xs,slots:=#[] })(hA:A.handled=none)
 (h:∀h' tk,(∀c o,s.heap.get? c=some o→h'.get? c=some o)→Q none { s with heap:=h',toks:=tk }) :
  wpAny (model prog w) A (getAttr? (.ref a) "keys") Q E s:=by
 obtain⟨hp,g,d,tk,os⟩:=s;have hT:∀tk',(⟨hp,g,d,tk',os⟩:SD).TypeIs (.ref a) "zip" := fun _=>⟨_,hx,rfl⟩;have f1:=sub_AttributeError;have f3:=F.slot_zip_getattribute.lookup;have f4:=F.slot_zip_getattribute.bind (.ref a);have f5:=OP;unfold getAttr? getAttrBy? getAttrBy
 repeat (any_goals (first|assumption|exact hT _|((with_reducible show wpAny _ _ (call (Value.builtin "zip.__getattribute__") _ _) _ _ _);refine call_meets F.slot_zip_getattribute (hT _) Nu (F.args_zip_getattribute_2 _ _) (Zg a xs _) ⟨hx,hA,fun h' tk' e hx'=>?_⟩)|wp_step))
 obtain⟨t',u',he⟩:=hx'.there;show wpAny _ _ (getattributeRaised _ _ _ _ _ _ _) _ _ _;unfold getattributeRaised
 repeat (any_goals (first|assumption|wp_step))
 exact h _ _ hx'.keeps
section
variable{prog:Program}{w:World}{A:Around}{E:VL→SD→Prop}{s:SD}{k:Option Tr}{kv:VL}{d:AD}{xs:List KE}
def Yd{v:VL}{Q:Unit→SD→Prop}(hu:A.units+8<cLine)(hk:FZ s.heap k kv)(hm:EH s.heap d xs)(hap:∀x∈xs,Az x.1=Az k→x.1=k)(hz:xs.length≤sizeLine)
 (fin:∀h',EH h' d (C0 xs k kv v)→Heap.SameBut d s.heap h'→Q () { s with heap:=h',toks:=s.toks+Cs k }):wpAny (model prog w) A (dictSet d kv v) Q E s:=by
 obtain⟨o,es,ep,ho,hc,hd,he⟩:=hm.ob;unfold dictSet
 try with_reducible refine aP ?_
 refine Wb (Sr hu hk ?_);unfold dictSetHashed
 try with_reducible refine aP ?_
 refine Wb (SN (s:={ s with toks:=s.toks+Cs k }) hu hk ho hd he hm.ks hm.nd hap (fun hno=>?_) fun j x hj hx=>?_)
 ·have es':C0 xs k kv v=xs++[(k,kv,v)]:=by unfold C0;rw [Ik hno];rfl
  rw [es']at fin;refine Wb (bJ (wpAny_updateDictKeys (hz:=by rw [OA he];exact hz) (s:={ s with toks:=s.toks+Cs k }) ho hd (fin _ ⟨⟨_,_,ep+1,Heap.get?_update_self _ ho (Obj.isFreed_of_dict (Obj.data_mapDictKeys hd _)),hc.mapDictKeys _,Obj.data_mapDictKeys hd _,?_⟩,fun y hy=>?_,?_⟩ (aY ..))))
  ·simp [he,DY]
  ·rcases ba.mp hy with h|h
   ·exact(hm.ks y h).keep prog w ho hd (aY ..)
   ·rw [List.mem_singleton.mp h];exact hk.keep prog w ho hd (aY ..)
  ·rw [List.map_append,List.nodup_append];refine⟨hm.nd,by simp,fun a ha b hb=>?_⟩;have:b=k:=by simpa using hb
   subst this;obtain⟨y,hy,rfl⟩:=aQ.mp ha;exact hno y hy
 ·have es':C0 xs k kv v=xs.map (putN k v):=by unfold C0;rw [LL hm.nd hj hx];rfl
  rw [es']at fin;refine Wb (bJ (Wb (wpAny_updateDict (s:={ s with toks:=s.toks+Cs k }) ho hd (wpAny_point (fin _ ⟨⟨_,_,ep,Heap.get?_update_self _ ho (Obj.isFreed_of_dict (Obj.data_mapDict hd _)),hc.mapDict _,Obj.data_mapDict hd _,?_⟩,fun y hy=>?_,?_⟩ (aY ..))))))
  ·have:=La (v:=v) hm.nd hj hx;rw [←he]at this;obtain⟨l⟩:=es
   simpa using this
  ·obtain⟨z,hz',rfl⟩:=aQ.mp hy;unfold putN;split<;>exact(hm.ks z hz').keep prog w ho hd (aY ..)
  ·rw [N8];exact hm.nd
end
section
variable{prog:Program}{w:World}{A:Around}{E:VL→SD→Prop}{s:SD}{z TI TO i1 i2 d n:AD}{f1 f2:List AD}{P1 P2:Nat→VL→Prop}{S1 S2:Nat→Heap→Prop}
def TZ(h:Heap)(z TI TO d:AD):Prop:=(IsZip h z TI TO .none∧∃a b,IsPair h TO a b)∨∃T b,ZT.LZ h z TI TO T b∧d<T
def TZ.keep{h h':Heap}(st:TZ h z TI TO d)(hz:z<d)(hO:TO<d)(e:Heap.SameBut d h h'):TZ h' z TI TO d:=by
 rcases st with ⟨h1,a,b,h2⟩|⟨T,b,⟨h1,o,h2⟩,h3⟩
 ·exact .inl ⟨(e.2 _ (aG hz)).trans h1,a,b,(e.2 _ (aG hO)).trans h2⟩
 ·exact .inr ⟨T,b,⟨(e.2 _ (aG hz)).trans h1,o,(e.2 _ (ah h3)).trans h2⟩,h3⟩
structure cj(z TI TO i1 i2 d:Addr):Prop where
 z:z<d
 I:TI<d
 O:TO<d
 a:i1<d
 b:i2<d
def j6{n1 n2 k:Nat}{Q:Option VL→SD→Prop}(lw:cj z TI TO i1 i2 d)(hd:d<s.heap.objs.size)(D1:Draws prog w A.in1 i1 f1 n1 P1 S1)(D2:Draws prog w A.in1 i2 f2 n2 P2 S2)(ap:ZT.Apart z TI TO i1 i2 f1 f2)(st:TZ s.heap z TI TO d)(hI:IsPair s.heap TI (.ref i1) (.ref i2))
 (t1:S1 k s.heap)(t2:S2 k s.heap)(l1:k<n1)(l2:k<n2)
 (q:∀x y h' tk,P1 k x→P2 k y→TZ h' z TI TO d→S1 (k+1) h'→S2 (k+1) h'→IsPair h' s.heap.objs.size x y→h'.objs.size=s.heap.objs.size+1 →
   (∀c o,c≠z→c≠TO→c≠i1→c≠i2→s.heap.get? c=some o→h'.get? c=some o)→Q (some (.ref s.heap.objs.size)) { s with heap:=h',toks:=tk }) :
  wpAny (model prog w) A (pyNext (.ref z)) Q E s:=by
 rcases st with ⟨h1,a,b,h2⟩|⟨T,b,h1,h3⟩
 ·exact ZT.next_item D1 D2 ap h1 hI h2 t1 t2 l1 l2 fun x y h' tk r1 r2 r3 r4 r5 r6 r7 r8 r9=>q x y h' tk r1 r2 (.inr ⟨_,false,⟨r3,_,r7⟩,hd⟩) r5 r6 r7 r8 r9
 ·exact ZT.YF D1 D2 ap h1 hI ⟨ah (bU lw.z h3),Nat.ne_of_gt (bU lw.a h3),Nat.ne_of_gt (bU lw.b h3)⟩ t1 t2 l1 l2 fun x y h' tk r1 r2 r3 r5 r6 r7 r8 r9=>q x y h' tk r1 r2 (.inr ⟨T,true,r3,h3⟩) r5 r6 r7 r8 fun c o e1 e2 e3 e4 e=>r9 c o e1 e3 e4 e
def Xm{n1 n2 k:Nat}{Q:Option VL→SD→Prop}(lw:cj z TI TO i1 i2 d)(D1:Draws prog w A.in1 i1 f1 n1 P1 S1)(D2:Draws prog w A.in1 i2 f2 n2 P2 S2)(ap:ZT.Apart z TI TO i1 i2 f1 f2)(st:TZ s.heap z TI TO d)(hI:IsPair s.heap TI (.ref i1) (.ref i2))
 (t1:S1 k s.heap)(t2:S2 k s.heap)(he:k=n1∨(k<n1∧k=n2))
 (q:∀h' tk,(∀c o,c≠z→c≠TO→c≠i1→c≠i2→s.heap.get? c=some o→h'.get? c=some o)→Q none { s with heap:=h',toks:=tk }) :
  wpAny (model prog w) A (pyNext (.ref z)) Q E s:=by
 rcases st with ⟨h1,a,b,h2⟩|⟨T,b,h1,h3⟩
 ·exact ZT.next_end D1 D2 ap h1 hI h2 t1 t2 he q
 ·exact ZT.RV D1 D2 ap h1 hI (ah (bU lw.z h3)) t1 t2 he fun h' tk kp=>q h' tk fun c o e1 e2 e3 e4 e=>kp c o e1 e3 e4 e
def Hi:plainId "dict.update.loop" = true:=by decide +kernel
def NQ:entryFor table "dict.update.loop" = some Builtin.«dict.update.loop»:=entryFor_of_fast (by kernel_rfl)
def EH.keep{h h':Heap}{xs:List KE}(hm:EH h d xs)(e:∀o,h.get? d=some o→h'.get? d=some o)(hk:∀x∈xs,FZ h x.1 x.2.1→FZ h' x.1 x.2.1):EH h' d xs:=by
 obtain⟨o,es,ep,ho,hr⟩:=hm.ob;exact⟨⟨o,es,ep,e _ ho,hr⟩,fun x hx=>hk x hx (hm.ks x hx),hm.nd⟩
def Dk(ks:List (Option Tr))(us vs:List VL):List KE:=ks.zip (us.zip vs)
def ed{ks:List (Option Tr)}{us vs:List VL}{j:Nat}{k:Option Tr}{u v:VL}(h1:ks[j]? = some k)(h2:us[j]? = some u)(h3:vs[j]? = some v):(Dk ks us vs)[j]? = some (k,u,v):=by
 unfold Dk;rw [List.getElem?_zip_eq_some];exact⟨h1,List.getElem?_zip_eq_some.mpr ⟨h2,h3⟩⟩
def Qg{ks:List (Option Tr)}{us vs:List VL}{x:KE}(h:x∈Dk ks us vs):∃j:Nat,ks[j]? = some x.1∧us[j]? = some x.2.1∧(Dk ks us vs)[j]? = some x:=by
 obtain⟨j,hj⟩:=aZ.mp h;have hj':=hj;unfold Dk at hj;rw [List.getElem?_zip_eq_some]at hj;exact⟨j,hj.1,(List.getElem?_zip_eq_some.mp hj.2).1,hj'⟩
def kF{R:Result→SD→Prop}{b1 b2:Bool}{l1 l2:AD}{ks:List (Option Tr)}{us vs:List VL}{h0:Heap}(hh:A.handled=none)(hu:A.in1.units+8<cLine)(lw:cj z TI TO i1 i2 d)(hn:n≤z∧n≤TI∧n≤TO∧n≤i1∧n≤i2)(ap:ZT.Apart z TI TO i1 i2 [i1,l1] [i2,l2])
 (n1:l1≠i1)(n2:l2≠i2)(m1:l1<n)(m2:l2<n)(e1:us.length=ks.length)(e2:vs.length=ks.length)(hs:ks.length≤sizeLine)(nd:ks.Nodup)(ha:∀x∈ks,∀y∈ks,Az x=Az y→x=y)
 (hk:∀h',(∀c o,c<n→h0.get? c=some o→h'.get? c=some o)→∀(j:Nat) k kv,ks[j]? = some k→us[j]? = some kv→FZ h' k kv)
 (hR:∀h' tk,(∀c o,c<n→h0.get? c=some o→h'.get? c=some o)→EH h' d (Dk ks us vs)→d<h'.objs.size→R (.ok (.ret .none)) { s with heap:=h',toks:=tk }) :
  ∀(m i:Nat) (h:Heap) (tk:Nat),ks.length-i=m→i≤ks.length→TZ h z TI TO d→IsPair h TI (.ref i1) (.ref i2)→ZT.Kv b1 h i1 l1 i∧ZT.Sq b1 h l1 us→ZT.Kv b2 h i2 l2 i∧ZT.Sq b2 h l2 vs→(∀c o,c<n→h0.get? c=some o→h.get? c=some o)→EH h d ((Dk ks us vs).take i)→d<h.objs.size →
   codeAny (model prog w) A (.builtin "dict.update.loop" ⟨[.ref d,.ref z,rawInt (i:Nat),.none],[]⟩) R { s with heap:=h,toks:=tk }:=by
 have D1:=ZT.HS (prog:=prog) (w:=w) (A:=A.in1.in1) hh b1 i1 l1 us n1;have D2:=ZT.HS (prog:=prog) (w:=w) (A:=A.in1.in1) hh b2 i2 l2 vs n2;have hel:(Dk ks us vs).length=ks.length:=by unfold Dk;simp [List.length_zip];omega
 intro m
 induction m with
 |zero =>
  intro i h tk hm hi st hI t1 t2 kp hD hd;have hin:i=ks.length:=by omega
  subst hin;refine codeAny_builtin NQ ?_;rw [Around.under_plainId Hi _];show wpAny _ A.in1 (pyNext (.ref z)>>=_) _ _ _;refine Wb (Xm (s:={ s with heap:=h,toks:=tk }) (A:=A.in1) lw D1 D2 ap st hI t1 t2 (.inl e1.symm) fun h' tk' kp'=>?_);show wpAny _ A.in1 (pure ()>>=_) _ _ _;refine Wb (aA (aA (hR h' tk' (fun c o hc e=>kp' c o (aG (aH hc hn.1)) (aG (aH hc hn.2.2.1)) (aG (aH hc hn.2.2.2.1)) (aG (aH hc hn.2.2.2.2)) (kp c o hc e)) ?_ ?_)))
  ·rw [←hel,List.take_length]at hD;refine hD.keep (fun o e=>kp' d o (ah lw.z) (ah lw.O) (ah lw.a) (ah lw.b) e) fun x hx _=>?_;obtain⟨j,j1,j2,_⟩:=Qg hx;exact hk h' (fun c o hc e=>kp' c o (aG (aH hc hn.1)) (aG (aH hc hn.2.2.1)) (aG (aH hc hn.2.2.2.1)) (aG (aH hc hn.2.2.2.2)) (kp c o hc e)) j _ _ j1 j2
  ·obtain⟨o,es,ep,ho,_⟩:=hD.ob;exact aF (kp' d o (ah lw.z) (ah lw.O) (ah lw.a) (ah lw.b) ho)
 |succ m ih =>
  intro i h tk hm hi st hI t1 t2 kp hD hd;have hlt:i<ks.length:=by omega
  refine codeAny_builtin NQ ?_;rw [Around.under_plainId Hi _];show wpAny _ A.in1 (pyNext (.ref z)>>=_) _ _ _;refine Wb (j6 (s:={ s with heap:=h,toks:=tk }) (A:=A.in1) lw hd D1 D2 ap st hI t1 t2 (by omega) (by omega) fun x y h' tk' r1 r2 r3 r4 r5 r6 r7 r8=>?_);show wpAny _ A.in1 (holding _ _>>=_) _ _ _;refine Wb (aP (Wb (wpAny_tryCatch ?_)));unfold Builtin.Dict.pairItems;refine Wb (wpAny_typeOf (T := "tuple") ⟨_,r6,rfl⟩ ?_);rw [if_pos (by decide)];refine Wb (bA r6 rfl (aA ?_));show wpAny _ A.in1 (holding [x,y] (dictSet d x y)) _ _ _;have kp1:∀c o,c<n→h0.get? c=some o→h'.get? c=some o:=fun c o hc e=>r8 c o (aG (aH hc hn.1)) (aG (aH hc hn.2.2.1)) (aG (aH hc hn.2.2.2.1)) (aG (aH hc hn.2.2.2.2)) (kp c o hc e);have hki:ks[i]? = some ks[i]:=aR hlt;generalize ks[i]=kk at hki;have hD':EH h' d ((Dk ks us vs).take i):=hD.keep (fun o e=>r8 d o (ah lw.z) (ah lw.O) (ah lw.a) (ah lw.b) e) fun x hx _=>by
   obtain⟨j,j1,j2,_⟩:=Qg (List.mem_of_mem_take hx);exact hk h' kp1 j _ _ j1 j2
  have hno:∀x∈(Dk ks us vs).take i,x.1≠kk:=fun q hq e=>by
   obtain⟨j,hj⟩:=aZ.mp hq;have hji:j<i:=by have:=(aE.mp hj).1;rw [List.length_take]at this;omega
   rw [List.getElem?_take_of_lt hji]at hj;unfold Dk at hj;rw [List.getElem?_zip_eq_some]at hj;have:=(List.getElem?_inj (by omega) nd).mp ((hj.1.trans (by rw [e])).trans hki.symm);omega
  have hst:C0 ((Dk ks us vs).take i) kk x y=(Dk ks us vs).take (i+1):=by
   unfold C0;rw [Ik hno,List.take_succ,ed hki r1 r2]
   rfl
  refine aP (Yd (s:={ s with heap:=h',toks:=tk' }) (k:=kk) hu (hk h' kp1 i _ _ hki r1) hD' (fun q hq e=>?_) (by rw [List.length_take];omega) fun h2 hN sb=>?_)
  ·obtain⟨j,j1,_,_⟩:=Qg (List.mem_of_mem_take hq);exact ha _ (aM j1) _ (aM hki) e
  rw [hst]at hN;have nz:n<d:=aX hn.1 lw.z;have up:∀c o,c≠d→h'.get? c=some o→h2.get? c=some o:=fun c o hc e=>(sb.2 c hc).trans e;refine aA ⟨plainId_quiet Hi _,?_⟩;have:=ih (i+1) h2 (tk'+Cs kk) (by omega) hlt (r3.keep lw.z lw.O sb) (up _ _ (aG lw.I) (r8 _ _ ap.a1.1 ap.a1.2.1 ap.a1.2.2.1 ap.a1.2.2.2 hI))
   (D1.frame _ _ _ r4 fun c hc o e=>up c o ?_ e) (D2.frame _ _ _ r5 fun c hc o e=>up c o ?_ e) (fun c o hc e=>up c o (aG (bU hc nz)) (kp1 c o hc e)) hN (by rw [sb.1];show d<h'.objs.size;rw [r7];exact ar hd)
  ·exact this
  ·rcases aK.mp hc with rfl|hc
   ·exact aG lw.a
   ·rw [List.mem_singleton.mp hc];exact aG (bU m1 nz)
  ·rcases aK.mp hc with rfl|hc
   ·exact aG lw.b
   ·rw [List.mem_singleton.mp hc];exact aG (bU m2 nz)
end
end TH
namespace TH
open PySem PyProof.Rows
def eD{prog:Program}{w:World}{A:Around}{E:VL→SD→Prop}{s:SD}{z TI TO i1 i2 n:AD}{b1 b2:Bool}{l1 l2:AD}{ks:List (Option Tr)}{us vs:List VL}{Q:VL→SD→Prop}(hh:A.handled=none)(hu:A.in1.in1.units+8<cLine)(lw:cj z TI TO i1 i2 s.heap.objs.size)(hn:n≤z∧n≤TI∧n≤TO∧n≤i1∧n≤i2)(ap:ZT.Apart z TI TO i1 i2 [i1,l1] [i2,l2])
 (n1:l1≠i1)(n2:l2≠i2)(m1:l1<n)(m2:l2<n)(e1:us.length=ks.length)(e2:vs.length=ks.length)(hs:ks.length≤sizeLine)(nd:ks.Nodup)(ha:∀x∈ks,∀y∈ks,Az x=Az y→x=y)
 (hk:∀h',(∀c o,c<n→s.heap.get? c=some o→h'.get? c=some o)→∀(j:Nat) k kv,ks[j]? = some k→us[j]? = some kv→FZ h' k kv)
 (hz:IsZip s.heap z TI TO .none)(hI:IsPair s.heap TI (.ref i1) (.ref i2))(hO:IsPair s.heap TO .none .none)(t1:ZT.Kv b1 s.heap i1 l1 0)(p1:ZT.Sq b1 s.heap l1 us)(t2:ZT.Kv b2 s.heap i2 l2 0)(p2:ZT.Sq b2 s.heap l2 vs)
 (q:∀h' tk,(∀c o,c<n→s.heap.get? c=some o→h'.get? c=some o)→EH h' s.heap.objs.size (Dk ks us vs)→s.heap.objs.size<h'.objs.size→Q (.ref s.heap.objs.size) { s with heap:=h',toks:=tk }) :
  wpAny (model prog w) A (call (.type "dict") [.ref z]) Q E s:=by
 refine callType_codes (Q₁:=fun obj s₁=>obj=.ref s.heap.objs.size∧s₁={ s with heap:=s.heap.push { cls:=.type "dict",data:=.dict #[] } }) F.kt_called_dict (F.kt_typeCall_dict_1 _) F.entry_dict_init (kt_code_dict_new _ ⟨rfl,rfl⟩) ?_;rintro obj s₁ ⟨rfl,rfl⟩;have up:∀c o,s.heap.get? c=some o→(s.heap.push { cls:=.type "dict",data:=.dict #[] }).get? c=some o:=fun c o e=>aD _ e;have hd0:(s.heap.push { cls:=.type "dict",data:=.dict #[] }).get? s.heap.objs.size=some { cls:=.type "dict",data:=.dict #[] }:=aN _ rfl;have sz0:(s.heap.push { cls:=.type "dict",data:=.dict #[] }).objs.size=s.heap.objs.size+1:=Heap.size_push ..;have hT:({ s with heap:=s.heap.push { cls:=.type "dict",data:=.dict #[] } }:SD).TypeIs (.ref s.heap.objs.size) "dict" := ⟨_,hd0,rfl⟩;refine⟨hT,F.args_dict_init_2 _ _,?_⟩;unfold Builtin.«dict.__init__»;refine Wb ?_;unfold Builtin.Dict.selfAndRest;refine Wb (wpAny_notOrdered_dict hT ?_);show wpAny _ _ (pure (s.heap.objs.size,[Value.ref z])) _ _ _;refine aA ?_;show wpAny _ _ (Builtin.Dict.updateFrom "dict.__init__" s.heap.objs.size (.ref z) [] .none) _ _ _;unfold Builtin.Dict.updateFrom;refine Wb (wpAny_typeOf (T := "zip") ⟨_,up _ _ hz,rfl⟩ ?_);rw [if_pos (by decide)];refine Wb (eo (s:={ s with heap:=s.heap.push { cls:=.type "dict",data:=.dict #[] } }) (up _ _ hz) hh fun h' tk kp=>?_);have kp':∀c o,s.heap.get? c=some o→h'.get? c=some o:=fun c o e=>kp c o (up c o e);simp only [Option.isNone_none,if_true];refine Wb (bJ (Wb (wpAny_pyIter_zip (kp' _ _ hz) (aA ⟨plainId_quiet Hi _,?_⟩))));have:=kF (s:=s) (A:=A.in1) (prog:=prog) (w:=w) (h0:=s.heap) (b1:=b1) (b2:=b2) (R:=wants (fun r s₂=>r=.none∧Q (.ref s.heap.objs.size) s₂) E) hh hu lw hn ap n1 n2 m1 m2 e1 e2 hs nd ha hk (fun h' tk r1 r2 r3=>⟨rfl,q h' tk r1 r2 r3⟩) _ 0 h' tk rfl (au _)
  (.inl ⟨kp' _ _ hz,_,_,kp' _ _ hO⟩) (kp' _ _ hI) ⟨?_,?_⟩ ⟨?_,?_⟩ (fun c o _ e=>kp' c o e) ?_ (aF (kp _ _ hd0))
 ·exact this
 ·cases b1 with
  |true=>obtain⟨o,q,r⟩:=(show s.heap.IsTupleIter i1 l1 0 from t1);exact(show h'.IsTupleIter i1 l1 0 from⟨o,kp' _ _ q,r⟩)
  |false=>obtain⟨o,q,r⟩:=(show s.heap.IsListIter i1 l1 0 from t1);exact(show h'.IsListIter i1 l1 0 from⟨o,kp' _ _ q,r⟩)
 ·exact p1.keep fun o e=>kp' _ _ e
 ·cases b2 with
  |true=>obtain⟨o,q,r⟩:=(show s.heap.IsTupleIter i2 l2 0 from t2);exact(show h'.IsTupleIter i2 l2 0 from⟨o,kp' _ _ q,r⟩)
  |false=>obtain⟨o,q,r⟩:=(show s.heap.IsListIter i2 l2 0 from t2);exact(show h'.IsListIter i2 l2 0 from⟨o,kp' _ _ q,r⟩)
 ·exact p2.keep fun o e=>kp' _ _ e
 ·exact⟨⟨_,#[],0,kp _ _ hd0,⟨rfl,rfl,rfl⟩,rfl,rfl⟩,fun x hx=>by simp at hx,by simp⟩
end TH
namespace TH
open PySem PyProof.Rows
def QZ{h h':Heap}(k:∀c o,h.get? c=some o→h'.get? c=some o):∀ {t:Tr} {us:List VL},Vs h t us→Vs h' t us
 |.nil,us,e=>e
 |.cons a t,us,e=>by
  obtain⟨b,its,r,rfl,hb,h1,h2⟩:=e;obtain⟨o,ho,hr⟩:=hb;exact⟨b,its,r,rfl,⟨o,k _ _ ho,hr⟩,QZ k h1,QZ k h2⟩
def FZ.up{h h':Heap}(k:∀c o,h.get? c=some o→h'.get? c=some o){x:Option Tr}{v:VL}(a:FZ h x v):FZ h' x v:=by
 cases x with
 |none=>exact a
 |some t =>
  obtain⟨b,e,h1,its,⟨o,ho,hr⟩,h2⟩:=a;exact⟨b,e,h1,its,⟨o,k _ _ ho,hr⟩,QZ k h2⟩
end TH
namespace L2
open PySem PySem.Spec PyProof.Rows
def Ov:∀ {ks:List (Option Tr)} {xs ys:List V} {us vs:List VL},Vals xs us→Vals ys vs→PySem.Paired Nt (ks.zip (xs.zip ys)) (TH.Dk ks us vs)
 |[],_,_,_,_,_,_=>by unfold TH.Dk;simp only [List.zip_nil_left];exact .nil
 |k::ks,_,_,_,_,.nil,_=>by unfold TH.Dk;simp only [List.zip_nil_left,List.zip_nil_right];exact .nil
 |k::ks,_,_,_,_,.cons _ _,.nil=>by unfold TH.Dk;simp only [List.zip_nil_right];exact .nil
 |k::ks,_,_,_,_,.cons a as,.cons b bs=>.cons ⟨rfl,a,b⟩ (Ov as bs)
def nV(ta:TA):TE:=fun σ H Q=>ta σ H fun vs H1=>∃(b1 b2:Bool) (a1 a2:AD) (xs ys:List V) (ks:List (Option Tr)),vs=[.ref a1,.ref a2]∧E4 b1 H1 a1 xs∧E4 b2 H1 a2 ys∧xs.length=ks.length∧ys.length=ks.length∧ks.length≤1000∧ks.Nodup ∧
 (∀x∈ks,∀y∈ks,TH.Az x=TH.Az y→x=y)∧(∀(j:Nat) k v,ks[j]? = some k→xs[j]? = some v→G6 H1 k v)∧∀p,H1 p=none→Q (.ref p) (upd H1 p (dN p (ks.zip (xs.zip ys))))
def lC{X:Cx}{a b:Expr}{ta:TA}{p p2 pos pos2:Pos}(hc:X.calm=true)(hu:X.A.units+64<cLine)(hgd:Gl X "dict")(hmd:X.mg "dict" = none)(hg:Gl X "zip")(hm:X.mg "zip" = none)(ha:PA X [a,b] ta)
 (he:starEach [.Call (.Name "zip" p2) [a,b] [] pos2] X.env=(false,eval (.Call (.Name "zip" p2) [a,b] [] pos2) X.env)::starEach [] X.env:=by rfl)(hpl:(backTo pos (starEach [] X.env)).any (·.1)=false:=by rfl)
 (hs:starEach [a,b] X.env=[(false,eval a X.env),(false,eval b X.env)]:=by rfl)(hs2:starEach [b] X.env=[(false,eval b X.env)]:=by rfl) :
  PE X (.Call (.Name "dict" p) [.Call (.Name "zip" p2) [a,b] [] pos2] [] pos) (nV ta):=by
 intro pins s σ H Q I h;refine wpAny_Call_Name_kw (Er I hgd hmd boot_dict ?_ (by decide) (by decide));refine av ?_ he hpl;rw [he];show wpAny _ _ (spliced ((false,eval (.Call (.Name "zip" p2) [a,b] [] pos2) X.env)::backTo pos (starEach [] X.env))) _ _ s;refine Calls.spliced_cons ?_;refine Call_ (Er I hg hm boot_zip (av (A6 (ha pos2 pins s σ H _ I h) fun us s1 ⟨vs,H1,I1,r1,q1⟩=>?_) (by rw [hs,hs2]) (by rw [hs2];rfl)));obtain⟨b1,b2,l1,l2,xs,ys,ks,e,h1,h2,e1,e2,e3,nd,hh,hk,q⟩:=q1;subst e;cases r1 with
 |cons r rr =>
  cases rr with
  |cons r' rr =>
   cases rr;cases r;cases r';obtain⟨us,rv1,p1⟩:=h1.raw I1;obtain⟨vs,rv2,p2⟩:=h2.raw I1;have lt1:=p1.lt;have lt2:=p2.lt;refine ZT.TU p1 p2 fun h' z1 z2 z3 z4 z5 hkp=>?_;refine Calls.spliced_nil ?_;have s4:s1.heap.objs.size+4<h'.objs.size:=aF z1;have g1:∀m,m≤4→s1.heap.objs.size+m<h'.objs.size:=fun m hm=>aX (Nat.add_le_add_left hm _) s4;have ne:∀(x:AD) m,x<s1.heap.objs.size→x≠s1.heap.objs.size+m:=fun x m hx=>aG (aH hx (Nat.le_add_right _ _));have ap:ZT.Apart (s1.heap.objs.size+4) (s1.heap.objs.size+2) (s1.heap.objs.size+3) s1.heap.objs.size (s1.heap.objs.size+1) [s1.heap.objs.size,l1] [s1.heap.objs.size+1,l2]:=by
    refine⟨⟨by simp,by simp,by simp,by simp⟩,⟨by simp,by simp,by simp⟩,⟨by simp,by simp,by simp⟩,⟨?_,?_,?_⟩,?_,?_,?_⟩
    ·simp [Ne.symm (ne l1 4 lt1)]
    ·simp [Ne.symm (ne l1 3 lt1)]
    ·simp [Ne.symm (ne l1 1 lt1)]
    ·simp [Ne.symm (ne l2 4 lt2)]
    ·simp [Ne.symm (ne l2 3 lt2)]
    ·simp only [List.mem_cons,List.not_mem_nil,or_false,not_or];exact⟨aG (bM _),Nat.ne_of_gt lt2⟩
   refine TH.eD (s:={ s1 with heap:=h' }) (n:=s1.heap.objs.size) (z:=s1.heap.objs.size+4) (TI:=s1.heap.objs.size+2) (TO:=s1.heap.objs.size+3) (i1:=s1.heap.objs.size) (i2:=s1.heap.objs.size+1) (b1:=b1) (b2:=b2) (ks:=ks) (us:=us) (vs:=vs) (I1.ok.hd hc) (by show X.A.in1.in1.units+8<cLine;rw [Around.in1_units,Around.in1_units];omega)
    ⟨s4,g1 2 (by decide),g1 3 (by decide),g1 0 (by decide),g1 1 (by decide)⟩ ⟨Nat.le_add_right _ _,Nat.le_add_right _ _,Nat.le_add_right _ _,Nat.le_refl _,Nat.le_add_right _ _⟩ ap (aG lt1) (ne l2 1 lt2) lt1 lt2 (by rw [←rv1.length];exact e1) (by rw [←rv2.length];exact e2) (ae e3 (by rw [sizeLine_eq];decide)) nd hh
    (fun h2 kp j k kv hj hv=>?_) z1 z2 z3 z4 (p1.keep fun o e=>hkp _ _ e) z5 (p2.keep fun o e=>hkp _ _ e) fun h2 tk kp hD hlt=>?_
   ·have hj2:j<xs.length:=by have:=(aE.mp hj).1;omega
    obtain⟨u',r1,r2⟩:=rv1.get (aR hj2);rw [hv]at r1;cases r1;exact((hk j k _ hj (aR hj2)).raw I1 r2).up fun c o e=>kp c o (aF e) (hkp c o e)
   ·have le:s1.heap.objs.size≤h'.objs.size:=bL (g1 0 (by decide));refine⟨.ref h'.objs.size,_,I1.laid (a:=h'.objs.size) (o:=dN h'.objs.size (ks.zip (xs.zip ys))) (t':=tk) (fun c o e=>kp c o (aF e) (hkp c o e)) le ?_,rfl,q _ (I1.Av.fresh le)⟩;have hb:sysModules<s1.heap.objs.size:=bU (by decide) (I1.mod.glob.keeps I1.bk).lt;have hn:(h'.objs.size==sysModules)=false:=beq_eq_false_iff_ne.mpr (Ne.symm (aG (aH hb le)));obtain⟨o,es,ep,g1,g2,g3,g4⟩:=hD.ob;exact⟨⟨hn,o,es,ep,_,g1,g2,g3,g4,Ov rv1 rv2⟩,⟨_,g1⟩,fun h1 h2 ⟨a,o,es,ep,xs,q,r⟩ k=>⟨a,o,es,ep,xs,k _ q,r⟩⟩
end L2
set_option maxHeartbeats 1000000
namespace L2
open PySem PySem.Spec PyProof.Rows
def keysOf:List PD→Option (List (Option Tr))
 |[]=>some []
 |d::ds=>(keyOf d).bind fun k=>(keysOf ds).map fun r=>k::r
def keys_eq:∀ {ds:List PD} {ks:List (Option Tr)},keysOf ds=some ks→ds=ks.map CG
 |[],ks,h=>by cases h;rfl
 |d::ds,ks,h=>by
  rw [keysOf]at h;obtain⟨k,h1,h2⟩:=aB.mp h;obtain⟨r,h3,rfl⟩:=aC.mp h2;rw [JN h1,keys_eq h3];rfl
def U5:∀ks:List (Option Tr),keysOf (ks.map CG)=some ks
 |[]=>rfl
 |k::ks=>by rw [List.map_cons,keysOf,LC,Option.bind_some,U5 ks];rfl
def WK(ks:List (Option Tr)):Bool:=decide ks.Nodup&&ks.all fun k=>(match k with|none=>true|some t=>decide (t.deep<8))&&ks.all fun q=>decide (TH.Az q≠TH.Az k)||decide (q=k)
abbrev YS(x y:PD):Option (List KD):=(Fl x).bind fun ds=>(Fl y).bind fun es=>(keysOf ds).bind fun ks=>if WK ks=true∧es.length=ks.length∧ks.length≤500 then some (ks.zip es) else none
def lX:List PD→Option (List KD)
 |[x,y]=>YS x y
 |_=>none
abbrev UG(i:Nat)(fs:Dv→Option (List PD)):DF:=fun δ=>((fs δ).bind lX).map fun kvs=>.nx (δ.set i (.own (.Cr kvs)))
def lE{ks:List (Option Tr)}(h:WK ks=true):ks.Nodup∧(∀x∈ks,∀y∈ks,TH.Az x=TH.Az y→x=y)∧∀t,some t∈ks→t.deep<8:=by
 unfold WK at h;rw [Bool.and_eq_true]at h;refine⟨aO h.1,fun x hx y hy e=>?_,fun t ht=>?_⟩
 ·have:=aL.mp h.2 y hy;rw [Bool.and_eq_true]at this;have:=aL.mp this.2 x hx;rw [Bool.or_eq_true]at this;rcases this with z|z
  ·exact absurd e (aO z)
  ·exact aO z
 ·have:=aL.mp h.2 _ ht;rw [Bool.and_eq_true]at this;exact aO this.1
def W0{G:Hp}{k:Option Tr}{v:V}(h:Du G (CG k) v)(hd:∀t,k=some t→t.deep<8):G6 G k v:=by
 cases k with
 |none=>rw [CG,Du]at h;exact h
 |some t =>
  rw [CG,Du]at h;obtain⟨a,ys,rfl,h1,h2⟩:=h;exact⟨hd t rfl,a,ys,rfl,h1,HB h2⟩
def XE{G:Hp}:∀ {ks:List (Option Tr)} {es:List PD} {xs ys:List V},(∀t,some t∈ks→t.deep<8)→Ai G (ks.map CG) xs→Ai G es ys→PySem.Paired (PR G) (ks.zip es) (ks.zip (xs.zip ys))
 |[],es,xs,ys,_,_,_=>by simp only [List.zip_nil_left];exact .nil
 |k::ks,[],xs,ys,_,h1,h2=>by
  rw [h2.nil_eq];simp only [List.zip_nil_right];exact .nil
 |k::ks,e::es,xs,ys,hd,h1,h2=>by
  rw [List.map_cons]at h1;obtain⟨x,xs,rfl,d1,r1⟩:=h1.un;obtain⟨y,ys,rfl,d2,r2⟩:=h2.un;exact .cons ⟨rfl,W0 d1 fun t e=>hd t (by rw [←show k=some t from e];exact .head _),d2⟩ (XE (fun t h=>hd t (.tail _ h)) r1 r2)
def Vb{α β:Type}:∀ {ks:List α} {es:List β},es.length=ks.length→(ks.zip es).map (·.1)=ks
 |[],_,_=>by simp
 |k::ks,[],h=>by simp at h
 |k::ks,e::es,h=>by rw [List.zip_cons_cons,List.map_cons,Vb (by simpa using h)]
section
variable{X:Cx}{a b c e:Expr}{es:List Expr}{f g h:Dv→Option PD}{fs:Dv→Option (List PD)}{pos p p2 pos2 apos:Pos}
def WS{i:Nat}{x:Str}(hc:X.calm=true)(hu:X.A.units+64<cLine)(hgd:Gl X "dict")(hmd:X.mg "dict" = none)(hg:Gl X "zip")(hm:X.mg "zip" = none)(ha:DA X [a,b] fs)(hN:X.N.Nodup)(hi:X.N[i]? = some x)(hx:Loc X.env.scope x)
 (he:starEach [.Call (.Name "zip" p2) [a,b] [] pos2] X.env=(false,eval (.Call (.Name "zip" p2) [a,b] [] pos2) X.env)::starEach [] X.env:=by rfl)(hpl:(backTo pos (starEach [] X.env)).any (·.1)=false:=by rfl)
 (hs1:starEach [a,b] X.env=[(false,eval a X.env),(false,eval b X.env)]:=by rfl)(hs2:starEach [b] X.env=[(false,eval b X.env)]:=by rfl)
 (hs:swapsWith (.Call (.Name "dict" p) [.Call (.Name "zip" p2) [a,b] [] pos2] [] pos) (some (.Name x apos)) spos.line X.env=pure false:=by rfl)(hf:X.fn x=true∨X.env.scope.names.lookup x=some .local:=by first|exact .inl rfl|exact .inr rfl|assumption) :
  DS X (.Assign [.Name x apos] (.Call (.Name "dict" p) [.Call (.Name "zip" p2) [a,b] [] pos2] [] pos) spos) (UG i fs):=by
 obtain⟨ta,pa,ka⟩:=ha;refine⟨_,CV hN hi hx (lC hc hu hgd hmd hg hm pa he hpl hs1 hs2) hs hf,fun δ r h G0 H0 G H σ D R q=>?_⟩;obtain⟨kvs,h1,rfl⟩:=aC.mp h;obtain⟨as,h2,h3⟩:=aB.mp h1;unfold lX at h3;split at h3
 ·rename_i x y;obtain⟨ds,k1,h4⟩:=aB.mp h3;obtain⟨es,k2,h5⟩:=aB.mp h4;obtain⟨ks,k3,h6⟩:=aB.mp h5;split at h6
  ·rename_i hc;cases h6;refine ka δ _ h2 G0 H0 G H σ [] _ R fun vs G1 H1 R1 hv=>?_;obtain⟨d,R2⟩:=R1.args hv;obtain⟨u,v,rfl,du,dv⟩:=d.NW;obtain⟨b1,a1,xs,rfl,n1,n2⟩:=K3 du k1;obtain⟨b2,a2,ys,rfl,m1,m2⟩:=K3 dv k2;have:=keys_eq k3;subst this;obtain⟨z1,z2,z3⟩:=lE hc.1;have l1:xs.length=ks.length:=by have:=n2.len;rw [List.length_map]at this;omega
   have l2:ys.length=ks.length:=by have:=m2.len;omega
   refine⟨b1,b2,a1,a2,xs,ys,ks,rfl,?_,?_,l1,l2,by omega,z1,z2,fun j k v hj hv=>?_,fun l hl=>q _ _ _ (R2.PX ⟨_,rfl,?_,OZ (XE z3 n2 m2)⟩ hl)⟩
   ·have:=R2.ins _ _ n1;cases b1
    ·exact this
    ·exact this
   ·have:=R2.ins _ _ m1;cases b2
    ·exact this
    ·exact this
   ·obtain⟨w,w1,w2⟩:=n2.get (i:=j) (d:=CG k) (by rw [List.getElem?_map,hj];rfl);rw [hv]at w1;cases w1;exact(W0 w2 fun t e=>z3 t (by rw [←e];exact aM hj)).same R2.ins
   ·rw [Vb (by rw [List.length_zip,l1,l2,Nat.min_self])];exact z1
  ·cases h6
 ·cases h3
end
def WX:PD→Option Tr
 |.tuple [x,.list ds]=>(Ei x).bind fun t=>(GC ds).map fun u=>Tr.pr (t,u)
 |_=>none
def kD:Tr→PD
 |.cons t (.cons u .nil)=>.tuple [.tuple (B0 t),.list (B0 u)]
 |_=>.none
def iX{d:PD}{k:Tr}(h:WX d=some k):d=kD k∧∃t u,k=Tr.pr (t,u):=by
 unfold WX at h;split at h
 ·obtain⟨t,h1,h2⟩:=aB.mp h;obtain⟨u,h3,rfl⟩:=aC.mp h2;rw [Io h1,Kn h3];exact⟨rfl,t,u,rfl⟩
 ·cases h
def cutsOf:List PD→Option (List Tr)
 |[]=>some []
 |d::ds=>(WX d).bind fun k=>(cutsOf ds).map fun r=>k::r
def Vl:∀ {ds:List PD} {ks:List Tr},cutsOf ds=some ks→ds=ks.map kD∧∀k∈ks,∃t u,k=Tr.pr (t,u)
 |[],ks,h=>by cases h;exact⟨rfl,fun k hk=>by cases hk⟩
 |d::ds,ks,h=>by
  rw [cutsOf]at h;obtain⟨k,h1,h2⟩:=aB.mp h;obtain⟨r,h3,rfl⟩:=aC.mp h2;obtain⟨e1,e2⟩:=iX h1;obtain⟨e3,e4⟩:=Vl h3;refine⟨by rw [e1,e3];rfl,fun q hq=>?_⟩;rcases aK.mp hq with rfl|hq
  ·exact e2
  ·exact e4 q hq
def il(ks:List Tr):Option PD:=if ks.length<64∧∀k∈ks,k.deep≤30 then some (.list ((Tr.B1 ks).reverse.map kD)) else none
def UC:MD
 |[.list ds]=>(cutsOf ds).bind il
 |_=>none
def Ai.pick{G:Hp}{ds:List PD}{ys:List V}(h:Ai G ds ys):∀(ix:List Nat),(∀i∈ix,i<ys.length)→Ai G (ix.map fun i=>ds.getD i .none) (ix.map fun i=>ys.getD i .A8)
 |[],_=>by show Ai G [] [];rw [Ai]
 |i::ix,hx=>by
  have hi:=hx i (.head _);have hl:=h.len;rw [List.map_cons,List.map_cons,Ai];refine⟨_,_,rfl,?_,h.pick ix fun j hj=>hx j (.tail _ hj)⟩;have e1:ds[i]? = some (ds[i]'(by omega)):=aR _;obtain⟨v,h1,h2⟩:=h.get e1;rw [List.getD_eq_getElem?_getD,List.getD_eq_getElem?_getD,e1,h1];exact h2
def gK{G:Hp}{t u:Tr}{v:V}(h:Du G (kD (Tr.pr (t,u))) v):Cv (fun _=>False) G (Tr.pr (t,u)) v:=by
 have h:Du G (.tuple [.tuple (B0 t),.list (B0 u)]) v:=h;rw [Du]at h;obtain⟨a,xs,rfl,h1,h2⟩:=h;obtain⟨x,y,rfl,d1,d2⟩:=h2.NW;rw [Du]at d1;rw [Du]at d2;obtain⟨b,zs,rfl,b1,b2⟩:=d1;obtain⟨l,ws,rfl,c1,c2⟩:=d2;exact⟨a,l,t,u,_,ws,rfl,rfl,id,h1,⟨b,zs,rfl,b1,HB b2⟩,c1,HB c2⟩
section
variable{X:Cx}
def fW(K:Fg):List V→Hp→VK→Prop:=fun xs H Q=>∃(p:AD) (ys:List V) (ks:List Tr),xs=[.ref p]∧A3 K H p ys∧nY (fun _=>False) H ks ys∧ys.length<64∧(∀k∈ks,k.deep≤30) ∧
 ∀(l:AD) (ix:List Nat),H l=none→(∀i∈ix,i<ys.length)→(ix.map fun i=>ks.getD i Tr.nil)=(Tr.B1 ks).reverse→Q (.ref l) (upd H l (.lst (ix.map fun i=>ys.getD i .A8)))
def V3(hu:X.A.units+64<cLine):ED X (.builtin "sorted") (fW X.K):=by
 intro pins s σ H xs us Q I r h;obtain⟨p,ys,ks,rfl,hq,hc,hz,hd,q⟩:=h;obtain⟨u,rfl,r1⟩:=r.one;cases r1;obtain⟨its,rv,pl,_⟩:=I.list hq;have hl:=rv.length;have hk:=hc.len;have C:GS.YA Tr.ord X.prog X.w s.heap 30 ks its:=TH.dq (by omega) fun i x u h1 h2=>by
  have hi:=(aE.mp h2).1;have hy:=aR (l:=ys) (i:=i) (by omega);obtain⟨u',h3,h4⟩:=rv.get hy;rw [h2]at h3;cases h3;exact⟨(hc.at_ i x _ h1 hy).raw I h4,hd x (aM h1)⟩
 refine GS.Zy Tr.nil (GS.Se pl.isList (by omega)) C (by omega) (Tr.Uk (by omega)) (by omega) fun h' D tk ix e1 hD k1 gD p1 p2=>?_;have hix:∀i∈ix,i<ys.length:=fun i hi=>by
  have:=az.mp (p1.mem_iff.mp hi);omega
 have e:(ix.map fun i=>ks.getD i Tr.nil)=(Tr.B1 ks).reverse:=by
  refine Tr.PH p2 ?_;have h3:=p1.map fun i=>ks.getD i Tr.nil
  rwa [←hl,hk,TH.map_getD]at h3
 have hil:ix.length=its.length:=by rw [p1.length_eq,List.length_range]
 exact⟨.ref D,upd H D (.lst (ix.map fun i=>ys.getD i .A8)),I.laid (t':=tk) k1 hD ⟨by rw [List.length_map,hil,sizeLine_eq];omega,_,e1,rv.pick ix hix,gD⟩,rfl,q D _ (I.Av.fresh hD) hix e⟩
def Zf(hu:X.A.units+64<cLine):LO X (.builtin "sorted") UC:=by
 refine⟨_,V3 hu,fun xs z hz G0 H0 G H σ δ ts us Q R0 d k=>?_⟩;unfold UC at hz;split at hz
 ·rename_i ds;obtain⟨ks,h1,h2⟩:=aB.mp hz;obtain⟨e1,e2⟩:=Vl h1;subst e1;unfold il at h2;split at h2
  ·rename_i hc;cases h2;obtain⟨u,rfl,du⟩:=d.HG;rw [Du]at du;obtain⟨a,ys,rfl,n1,n2⟩:=du;have hl:=n2.len;rw [List.length_map]at hl;refine⟨a,ys,ks,rfl,A3.of (R0.ins _ _ n1),⟨hl,fun i q v hq hv=>?_⟩,by omega,hc.2,fun l ix hl' hx he=>?_⟩
   ·obtain⟨t,u,rfl⟩:=e2 q (aM hq);obtain⟨w,w1,w2⟩:=n2.get (i:=i) (d:=kD (Tr.pr (t,u))) (by rw [List.getElem?_map,hq];rfl);rw [hv]at w1;cases w1;exact(gK w2).same R0.ins
   ·have hp:=n2.pick ix hx;have:(ix.map fun i=>(ks.map kD).getD i .none)=(Tr.B1 ks).reverse.map kD:=by
     rw [←he,List.map_map];refine aT fun i hi=>?_;have:=hx i hi;rw [List.getD_eq_getElem?_getD,List.getElem?_map,List.getElem?_eq_getElem (by omega)];show kD _=kD (ks.getD i Tr.nil);rw [List.getD_eq_getElem?_getD,List.getElem?_eq_getElem (by omega)]
     rfl
    rw [this]at hp;exact k _ _ _ (R0.UO hp hl')
  ·cases h2
 ·cases hz
end
end L2
set_option maxHeartbeats 4000000
namespace L2
open PySem PySem.Spec PyProof.Rows
def fX(te:TE):TE:=fun σ H Q=>∀p,H p=none→te σ (upd H p (dN p [])) fun v H2=>H2 p=some (dN p [])∧Q (.ref p) (upd H2 p (dN p [(none,.A8,v)]))
def Yq{X:Cx}{e:Expr}{te:TE}{j}{p1 pos:Pos}(hu:X.A.units+64<cLine)(he:PE X e te):PE X (.Dict [some (.Constant .none j p1)] [e] pos) (fX te):=by
 intro pins s σ H Q I q;have hn:=I.Av.fresh (aI s.heap.objs.size);have hb:sysModules<s.heap.objs.size:=bU (by decide) (I.mod.glob.keeps I.bk).lt;have hns:(s.heap.objs.size==sysModules)=false:=beq_eq_false_iff_ne.mpr (Ne.symm (aG hb));have I1:Inv X pins σ (upd H s.heap.objs.size (dN s.heap.objs.size [])) { s with heap:=s.heap.push { cls:=.type "dict",data:=.dict #[] } }:=I.laid (a:=s.heap.objs.size) (o:=dN s.heap.objs.size []) (t':=s.toks) (fun _ _ q=>aD _ q) (aI _)
  ⟨⟨hns,_,#[],0,[],Heap.get?_push_size _ rfl,⟨rfl,rfl,rfl⟩,rfl,rfl,.nil⟩,⟨_,Heap.get?_push_size _ rfl⟩,fun h1 h2 ⟨a,o,es,ep,xs,q,r⟩ k=>⟨a,o,es,ep,xs,k _ q,r⟩⟩
 rw [arm_eval_Dict,zip_pairTrees [some (.Constant .none j p1)] [e] X.env pos rfl rfl,dictDisplay_pairs _ (by simp [pairTrees]) (by simp [pairTrees])];refine Wb (wpAny_standAt (Wb ?_));unfold subDict;refine Wb (wpAny_alloc ?_);refine Wb (aP ?_);rw [if_pos (by simp [pairTrees])];refine Wb (pairTrees_cons_walk (Constant_none (A6 (he pins _ σ _ _ I1 (q _ hn)) fun v s2 ⟨x,H2,I2,r2,hp,q2⟩=>pairTrees_nil_walk ?_)));refine aP ?_;rw [List.forIn_cons];have D:SK H2 s.heap.objs.size [] none:=⟨hp,fun q hq=>by simp at hq,by simp,fun q hq=>by simp at hq⟩;obtain⟨_,xs,hm,pr,hap⟩:=TF I2 D;have hx:xs=[]:=by cases pr;rfl
 subst hx;refine Wb (Wb (Wb (TH.Yd (k:=none) (by omega) rfl hm hap (by simp) fun h' hm' sb=>aA ?_)));obtain⟨o',es,ep,g1,g2,g3,g4⟩:=hm'.ob;have I3:Inv X pins σ (upd H2 s.heap.objs.size (dN s.heap.objs.size [(none,.A8,x)])) { s2 with heap:=h',toks:=s2.toks+TH.Cs none }:=I2.write (x:=s.heap.objs.size) (e:=s.heap.objs.size) (o:=dN s.heap.objs.size [(none,.A8,x)]) (t':=s2.toks+TH.Cs none) (by rw [hp];exact trivial) (.inl rfl) (fun b w' hb e=>(sb.2 b hb).trans e) ⟨o',g1⟩
  ⟨⟨hns,o',es,ep,_,g1,g2,g3,g4,.cons ⟨rfl,rfl,r2⟩ .nil⟩,⟨o',g1⟩,fun h1 h2 ⟨a,o,es,ep,xs,q,r⟩ k=>⟨a,o,es,ep,xs,k _ q,r⟩⟩
 show wpAny _ _ (pure PUnit.unit) _ _ _;exact aA (aA (aA (aA ⟨.ref s.heap.objs.size,_,I3,rfl,q2⟩)))
end L2
set_option maxHeartbeats 1000000
namespace L2
open PySem PySem.Spec PyProof.Rows
abbrev X5(i:Nat)(a b:Int):DF:=fun δ=>some (.nx (δ.set i (.own (.Cr [(none,.tuple [.int a,.int b])]))))
def Zv{H:Hp}{p q:AD}{a b c:HO}(h:p≠q):upd (upd (upd H p a) q b) p c=upd (upd H q b) p c:=by
 funext x
 by_cases z:x=p
 ·subst z;rw [AZ,AZ]
 ·rw [AM z,AM z];by_cases y:x=q
  ·subst y;rw [AZ,AZ]
  ·rw [AM y,AM y,AM z]
def Zo{X:Cx}{i:Nat}{x:Str}{a b:Int}{j1 j2 j3 cx}{p1 p2 p3 tp dp pos pos':Pos}(hu:X.A.units+64<cLine)(hN:X.N.Nodup)(hi:X.N[i]? = some x)(hx:Loc X.env.scope x)
 (hs:swapsWith (.Dict [some (.Constant .none j1 p1)] [.Tuple [.Constant (.int a) j2 p2,.Constant (.int b) j3 p3] cx tp] dp) (some (.Name x pos')) pos.line X.env=pure false:=by rfl)(hf:X.fn x=true∨X.env.scope.names.lookup x=some .local:=by first|exact .inl rfl|exact .inr rfl|assumption) :
  DS X (.Assign [.Name x pos'] (.Dict [some (.Constant .none j1 p1)] [.Tuple [.Constant (.int a) j2 p2,.Constant (.int b) j3 p3] cx tp] dp) pos) (X5 i a b) :=
 ⟨_,CV hN hi hx (Yq hu (Oz (Ac A7 (Ac A7 BB)))) hs hf,fun δ r h G0 H0 G H σ D R q=>by
  cases h;refine fun p hp=>⟨by show(2:Nat)≤sizeLine;rw [sizeLine_eq];decide,fun l hl=>?_⟩;have hne:p≠l:=fun e=>by subst e;rw [AZ]at hl;cases hl
  have hl':H l=none:=by rwa [AM (Ne.symm hne)]at hl
  refine⟨by rw [AM hne,AZ],?_⟩;rw [Zv hne];have R1:=R.Wj (xs:=[.int a,.int b]) (vs:=[.int a,.int b]) (by rw [Ai];exact⟨_,_,rfl,by rw [Du],by rw [Ai];exact⟨_,_,rfl,by rw [Du],by rw [Ai]⟩⟩) hl';have dv:=R1.Ba _ (.head _);exact q _ _ _ (R1.drop.PX ⟨[(none,.A8,.ref l)],rfl,by simp,OZ (.cons ⟨rfl,rfl,dv⟩ .nil)⟩ (by rw [AM hne];exact hp))⟩
def YH{G0 H0 G H:Hp}{σ:St}{δ:Dv}{ts:List (PD×V)}{i:Nat}{kvs:List KD}(R:Rw G0 H0 G H σ δ ts)(hi:δ[i]? = some (.own (.Cr kvs)))(hal:alone i δ=true) :
  ∃G1:Hp,Rw G1 H0 G1 H σ (δ.set i (.d (Aq kvs))) ts∧∀x v G' H',LS x=true→Rw G1 H0 G' H' σ (δ.set i (.d (Aq kvs))) ((x,v)::ts)→∃G2,Rw G0 H0 G2 H' σ δ ((x,v)::ts):=by
 have hlt:i<δ.length:=(aE.mp hi).1;obtain⟨a,o,k1,k2,k3,k4,k5,R1⟩:=R.letGo (x:=Aq kvs) hi fun a o h=>Tn h;obtain⟨r,rfl,k6,k7⟩:=k5;refine⟨upd G a (dN a r),R1.base,fun x v G' H' hnd R2=>⟨less G' a,?_⟩⟩;have ha:G' a=some (dN a r):=R2.ext _ _ AZ;have eG:AO G (less G' a):=fun b u hb=>by
  have:b≠a:=fun z=>by subst z;rw [k2]at hb;cases hb
  rw [FA this];exact R2.ext _ _ (by rw [AM this];exact hb)
 have of:∀b u,less G' a b=some u→b≠a∧G' b=some u:=fun b u hb=>by
  by_cases z:b=a
  ·subst z;rw [Ip]at hb;cases hb
  ·rw [FA z]at hb;exact⟨z,hb⟩
 refine⟨R.ext.trans eG,fun b u hb=>?_,fun b u hb=>R2.ins _ _ (of b u hb).2,R2.keep,R.len,fun j y hj=>?_,fun j c hj=>?_,R.apart,fun w hw=>?_⟩
 ·obtain⟨nb,hb⟩:=of b u hb;rcases R2.new b u hb with z|z|z
  ·rw [AM nb]at z;exact R.new _ _ z
  ·exact .inr (.inl z)
  ·exact .inr (.inr z)
 ·obtain⟨w,m1,m2⟩:=R.dat j y hj;exact⟨w,m1,m2.same eG⟩
 ·by_cases z:i=j
  ·subst z;rw [hi]at hj;cases hj;exact⟨a,dN a r,k1,Ip,k3,R2.ins _ _ ha,r,rfl,k6,Eo.same eG k7⟩
  ·obtain⟨b,us,m1,m2,m3,m4,m5⟩:=R2.own j c (by rw [List.getElem?_set_ne z];exact hj);refine⟨b,us,m1,?_,m3,m4,?_⟩
   ·by_cases w:b=a
    ·subst w;exact Ip
    ·rw [FA w];exact m2
   ·have hjl:j<δ.length:=(aE.mp hj).1;have hm:L.own c∈δ.set i .no:=aZ.mpr ⟨j,by rw [List.getElem?_set_ne z];exact hj⟩;have hc2:=aL.mp hal _ hm;cases c with
    |lst xs =>
     obtain⟨ys,e1,e2⟩:=m5;exact⟨ys,e1,Jl ha hc2 e2⟩
    |S0 xs=>cases hc2
    |Cr xs=>cases hc2
 ·rcases aK.mp hw with rfl|hw
  ·exact Pu ha hnd (R2.Ba _ (.head _))
  ·exact(R.Ba w hw).same eG
section
variable{X:Cx}{x:Str}{px pos:Pos}{iter elt:Expr}{ifs:List Expr}{scope}{fs:Dv→Option (List PD)}{tif:Dv→Option Bool}{f:Dv→Option PD}
def Ui{i:Nat}{z:Str}{pz spos:Pos}(l:Nat)(N:List Str)(ix:Nat)(fr:List (Option Nat))(hN:X.N.Nodup)(hy:X.N[i]? = some z)(hly:X.env.scope.names.lookup z=some .local)(hi:DI X (.Name x px) iter fs)(hif:∀cl C s₀ H₀ fp,RJ (Am X scope cl N C s₀ H₀ fp) ifs tif)(he:∀cl C s₀ H₀ fp,DE (Am X scope cl N C s₀ H₀ fp) elt f)
 (h1:BL scope N x ix=true:=by decide +kernel)(h2:X.calm=true:=by rfl)(h3:D8 N X.N scope X.env.scope fr 0=true:=by rfl)(h4:fr.length=N.length:=by rfl)(h5:freeOk X.env.scope scope.names=true:=by rfl)
 (hsw:swapsWith (.ListComp elt [⟨.Name x px,iter,ifs,0⟩] scope pos) (some (.Name z pz)) spos.line X.env=pure true:=by rfl)
 (hs:∀x,foldedSetIterable iter X.env x=pure x:=by intro _;rfl):DS X (.Assign [.Name z pz] (.ListComp elt [⟨.Name x px,iter,ifs,0⟩] scope pos) spos) (fun δ=>(Mu l (D3 (Co ix) tif f fr fs) δ).map fun y=>.nx (δ.set i (.d y))):=by
 obtain⟨wi,pi,ki⟩:=hi;refine⟨_,Ud N ix fr hN hy hly pi hif (fun cl C s₀ H₀ fp=>(he cl C s₀ H₀ fp).pe) h1 h2 h3 h4 h5 hsw hs,fun δ r h G0 H0 G H σ D R q=>?_⟩;obtain⟨y,m1,rfl⟩:=aC.mp h;obtain⟨kvs,m2,m3⟩:=aB.mp m1;obtain⟨w,m4,m5⟩:=aB.mp m3;split at m5
 ·rename_i hc;cases m5;obtain⟨G1,R1,back⟩:=YH R (WU m2) hc.2;exact Qv ki m4 R1 fun v G' H' R'=>by
   obtain⟨G2,R2⟩:=back _ _ _ _ hc.1 R';exact q _ _ _ R2.Gs
 ·cases m5
end
end L2
set_option maxHeartbeats 4000000
namespace Opn
open PySem PySem.W PyProof.Rows PySem.Calls
noncomputable def q0:Pos:=⟨0,0,0,0⟩
noncomputable def lT:Obj:={ cls:=.type "tuple",data:=.seq #[] }
noncomputable def lR:Obj:={ cls:=.none,data:=.fields #[] }
noncomputable def lh:Obj:={ cls:=.type "code",data:=.fields #[.str (Str.ofString "<module>") 182,.str (Str.ofString "<module>") 183,.str (Str.ofString "/claim/cut.py") 184,.int 1 0,.int 0 0,.int 0 0,.int 0 0,.int 0 0,.ref 11,.bool false,.int 181 0,.ref 12,.none,.none,.none,.none,.int 185 0,.int 1 0,.str (Str.ofString "/claim/cut.py") 186] }
noncomputable def lW:Obj:={ cls:=.type "frame",slots:=#[some (.ref 13),some (.ref 3),some (.ref 3),none,some (.str (Str.ofString "__main__") 164),none,some (.ref 0)] }
noncomputable def j4(P:Params):List Obj:=(boot_heap P).objs.toList++[lT,lR,lh,lW]
noncomputable def nN(P:Params)(o:Params→Obj)(l r:BT):BT:=.node (o P) l r
noncomputable def lN(P:Params)(o:Params→Obj):BT:=.node (o P) .nil .nil
noncomputable def lK(P:Params):BT :=
 nN P boot_o_0 (nN P boot_o_1 (nN P boot_o_3 (lN P boot_o_7) (.node lT .nil .nil)) (nN P boot_o_5 (lN P boot_o_9) (.node lh .nil .nil)))
  (nN P boot_o_2 (nN P boot_o_4 (lN P boot_o_8) (.node lR .nil .nil)) (nN P boot_o_6 (lN P boot_o_10) (.node lW .nil .nil)))
noncomputable def cY:Life:=Life.mk [] [] [] 0 [] [] false #[] [] 0 false false false 0 [2000,10,10] false 0 true [] [] 0 false
noncomputable def sA(w:World)(os:OsState):SD:=⟨⟨⟨j4 w.params⟩,cY⟩,#[],boot_drawn,187,os⟩
noncomputable def sB(w:World)(os:OsState):SharedT:=⟨lK w.params,15,cY,#[],boot_drawn,187,os⟩
noncomputable def OI(p:Program):Env:={ scope:=p.main.scope,locals:=mainNs,globals:=mainNs,cells:=[],code:=.ref 13,frame:=some 14 }
noncomputable def cB(p:Program):Code:=.body (behindTheImports p) (OI p)
noncomputable abbrev IJ:Option VL:=some (.ref 6)
noncomputable abbrev bB:List Frame:=[topFrame q0]
noncomputable def Wt(p:Program)(M:Nat)(w:World)(os:OsState):Option (Flow×SharedT×Code×Pos) :=
 PySem.W.Fast.tw10110043849684766642 PySem.W.Fast.tw14364793385576792824 p w 11 IJ 1 M (sB w os) (piecesOf (behindTheImports p) (OI p) (cB p) q0 bB)
noncomputable def Wr(p:Program)(M:Nat)(w:World)(os:OsState):SharedT:=match Wt p M w os with|some (_,s,_)=>s|none=>sB w os
def eL{p:Program}{M:Nat}{w:World}{os:OsState}{r:Option (Flow×SharedT×Code×Pos)}(h:Wt p M w os=r) :
  segRunT treeTable p w 11 IJ 1 M (sB w os) (piecesOf (behindTheImports p) (OI p) (cB p) q0 bB)=r:=by
 have e:segRunT treeTable=PySem.W.Fast.tw10110043849684766642 PySem.W.Fast.tw14364793385576792824:=congr PySem.W.Fast.te10110043849684766642 PySem.W.Fast.te14364793385576792824;rw [e];exact h
def hZ{p:Program}{M M0:Nat}{posE:Pos}{w:World}{os:OsState}
 (pre:topGo treeTable p w 11 IJ 12 ⟨boot_heap w.params,#[],boot_drawn,boot_toks,os⟩ (topStub p)=some (sA w os,⟨denote treeTable (cB p),cB p,q0,bB⟩))
 (blk:segRun treeTable p w 11 IJ 1 1 (sA w os) (blockOf (behindTheImports p) (OI p) (cB p) q0 bB)=some (.next,(sB w os).abs,cB p,q0))
 (seg:Wt p M w os=some (.next,Wr p M w os,cB p,posE))
 (fin:∀s,topRun treeTable p w 11 IJ 2 s (restOf [] (OI p) (cB p) posE bB)=some s)(hM:M0=12+(1+(M+2))) :
  topRun treeTable p w 11 IJ M0 ⟨boot_heap w.params,#[],boot_drawn,boot_toks,os⟩ (topStub p)=some (Wr p M w os).abs:=by
 subst hM;refine go_top pre (piece_block blk ?_);have h:=piece_app (rest:=[]) (segRun_of (eL seg)) (fin _);rw [List.append_nil]at h;exact h
def dg{p q:Program}{loose:List Str}{Xt:SD→Bool}{α:Type}{Yf:SD→α}{Ya:World→α}{N M:Nat}{S:World→OsState→SD}
 (open_:∀w:World,(fencedOpening treeTable p w N).map (fun s=>(s.heap,s.gens,s.drawn,s.toks))=some (boot_heap w.params,#[],boot_drawn,boot_toks))
 (size:∀w:World,((boot_heap w.params).isNs mainGlobals&&(#[]:Array GenState).size==0,(boot_heap w.params).objs.size,(boot_heap w.params).nsMap mainGlobals "__annotations__")=(true,11,IJ))
 (run:∀w os,topRun treeTable p w 11 IJ M ⟨boot_heap w.params,#[],boot_drawn,boot_toks,os⟩ (topStub p)=some (S w os))(le:Nat.ble M N=true)
 (ok:∀w os,(staticsOk (importedModules p.main.body) (boot_heap w.params) (S w os).heap&&namesBound p (S w os).heap&&gensDone (S w os)&&laidKept (boot_heap w.params) (S w os).heap)=true)
 (seen:∀w os,openSeen q loose (importedModules p.main.body) Xt true (S w os)=openGood q loose)
 (hY:∀w os,Yf (S w os)=Ya w):LeftO p q loose Xt Yf Ya N:=fun w=>by
 obtain⟨⟨h,gs,d,k,os⟩,e,e'⟩:=aC.mp (open_ w);obtain⟨rfl,rfl,rfl,rfl⟩:h=boot_heap w.params∧gs=#[]∧d=boot_drawn∧k=boot_toks:=by simpa using e'
 obtain⟨z1,z2,z3⟩:_∧_∧_:=by simpa only [Prod.mk.injEq]using size w
 have l1:=ok w os;have r:=topRun_mono (N-M) _ _ _ _ (run w os);rw [show M+(N-M)=N by have:=Nat.le_of_ble_eq_true le;omega]at r;have t:topFrom treeTable p w N ⟨boot_heap w.params,#[],boot_drawn,boot_toks,os⟩=some (S w os):=by
  unfold topFrom;dsimp only;rw [z1,z2,z3,r];show(match staticsOk (importedModules p.main.body) (boot_heap w.params) (S w os).heap&&namesBound p (S w os).heap&&gensDone (S w os)&&laidKept (boot_heap w.params) (S w os).heap with|true=>_|false=>_)=_;rw [l1]
 unfold openEnds;rw [e];show(topFrom treeTable p w N _).map _=_;rw [t];exact bF some (Prod.ext (seen w os) (hY w os))
def kG(w:World):((boot_heap w.params).isNs mainGlobals&&(#[]:Array GenState).size==0,(boot_heap w.params).objs.size,(boot_heap w.params).nsMap mainGlobals "__annotations__")=(true,11,IJ):=by kernel_rfl
end Opn
namespace Q74
open PySem L2
def top(i:Nat):Stmt:=PySem.Challenge.pw_stepgrove_k74_whole_flows_in_a_row.main.body.getD i (.Pass ⟨0,0,0,0⟩)
abbrev Ex:Stmt:=top 8
abbrev LR:Stmt:=top 9
abbrev Jc:Stmt:=top 10
abbrev IH:Stmt:=top 11
abbrev Gm:Stmt:=top 12
abbrev Lf:Stmt:=top 13
abbrev DL:Stmt:=top 14
abbrev Gq:Stmt:=top 15
abbrev EY:Stmt:=top 16
abbrev MR:Stmt:=top 19
abbrev LI:Stmt:=top 20
abbrev Gg:Stmt:=top 21
abbrev El:Stmt:=top 22
abbrev DK:Stmt:=top 23
abbrev HY:Stmt:=top 24
abbrev GX:Stmt:=top 25
abbrev FY:Stmt:=top 26
abbrev KN:Stmt:=top 28
abbrev Hl:Stmt:=top 29
abbrev IL:Stmt:=top 30
abbrev IK:Stmt:=top 31
abbrev Dy:Stmt:=top 34
abbrev Eg:Stmt:=top 35
abbrev Gk:Stmt:=top 37
abbrev IE:Stmt:=top 38
abbrev Jb:Stmt:=top 39
abbrev HZ:Stmt:=top 40
abbrev FC:Stmt:=top 42
abbrev F0:Stmt:=top 43
abbrev Hk:Stmt:=top 44
abbrev Hj:Stmt:=top 46
abbrev E5:Stmt:=top 47
abbrev LU:Stmt:=top 48
abbrev IY:Stmt:=top 49
abbrev Gp:Stmt:=top 50
abbrev KP:Stmt:=top 51
abbrev bq:Stmt:=top 52
def YC{n:String}:Sm (.ty n)≠.none:=fun z=>nomatch z
def WW:Sp:=fun vs H Q _=>∃a b,vs=[.int a,.int b]∧Q (.int (FM.gi a b)) H
def QQ:Sp:=fun vs H Q _=>∃t b m,vs=[.int t,.int b]∧b≠0∧m≤9000∧b.natAbs<2^m∧∀l H',AO H H'→H' l=some (.tup (QN (Rat.divInt t b)))→Q (.ref l) H'
def Wn(K:Fg)(op:Rat→Rat→Rat)(ok:Rat→Prop):Sp:=fun vs H Q _=>∃v w p q n,vs=[v,w]∧Rt K H p v∧Rt K H q w∧FM.Fits p n∧FM.Fits q n∧n≤4000∧ok q ∧
 ∀l H',AO H H'→H' l=some (.tup (QN (op p q)))→Q (.ref l) H'
section
variable{P:Program}{w:World}{K:Fg}{mg:Str→Option VL}{base:Heap}{f g:AD}{fd gd:FuncData}
def L3:Ak ["one", "other", "greater", "lesser", "rest"] ["one", "other"] (AV DL):=Cq
def lS(σ:St):Nat:=match σ[3]? with|some (some (V.int l))=>l.natAbs|_=>0
def L1(F:Fn K mg "greatest_divisor" DL ["one", "other"] f fd)(J9:mg "abs" = none):AN P w K mg base Ar 1 f fd ["one", "other"] WW:=by
 have sc:=L3;refine F.F.ok (k:=0) sc (fun vs H Q E h=>?_) (fun cdv A outer s H vs Q E hr h=>?_)
 ·obtain⟨a,b,rfl,_⟩:=h
  rfl
 obtain⟨a,b,rfl,q⟩:=h;refine⟨_,(BG (CV (i:=2) sc.nd rfl (Or.inl rfl) (Cy LF rfl J9 PyProof.Rows.boot_abs (Ac (pv 0) BB)))
 (BG (CV (i:=3) sc.nd rfl (Or.inl rfl) (Cy LF rfl J9 PyProof.Rows.boot_abs (Ac (pv 1) BB)))
 (BG (Sv aa (EA cG (pv 3) A7 (Bn _))
  (BG (CV (i:=4) sc.nd rfl (Or.inl rfl) (DP Py (pv 2) (pv 3)))
  (BG (CV (i:=2) sc.nd rfl (Or.inl rfl) (pv 3))
  (A5 (CV (i:=3) sc.nd rfl (Or.inl rfl) (pv 4))))))
 (A5 (CN (pv 2)))))),?_⟩
 refine⟨_,rfl,_,rfl,_,rfl,_,rfl,?_⟩;refine S4 (fun σ H'=>∃g l r,σ=[some (.int a),some (.int b),some (.int g),some (.int l),r]∧H=H'∧Int.gcd g l=Int.gcd a b∧0≤g∧0≤l) (fun σ _=>lS σ) ?_ ?_ ?_
 ·exact⟨_,_,_,rfl,rfl,FM.Vd a b,FM.abs_nonneg a,FM.abs_nonneg b⟩
 ·rintro σ H' ⟨g,l,r,rfl,rfl,hg,h0,h1⟩;refine⟨_,rfl,rfl,_,rfl,En (fun c=>?_) (fun c=>?_)⟩
  ·have hl:l≠0:=fun z=>by subst z;simp at c
   refine⟨_,rfl,_,rfl,_,_,rfl,rfl,hl,_,rfl,_,rfl,⟨_,_,_,rfl,rfl,?_,h1,FM.fmod_nonneg hl h1⟩,?_⟩
   ·rw [FM.TJ];exact hg
   ·exact FM.Qy g l hl
  ·have hl:l=0:=by simpa using c
   subst hl;refine⟨_,rfl,?_⟩;rw [FM.Xq hg h0];exact q
 ·exact fun σ H Q Q' hq ⟨v,e,s,k,e2,q⟩=>⟨v,e,s,k,e2,hq _ _ q⟩
def Pq:Ak ["top", "bottom", "shared"] ["top", "bottom"] (AV Ex):=Cq
def Qd(F:Fn K mg "fraction_of" Ex ["top", "bottom"] f fd)(BM:Fn K mg "greatest_divisor" DL ["one", "other"] g gd)
 (DM:AN P w K mg base Ar 1 g gd ["one", "other"] WW):AN P w K mg base Ar 2 f fd ["top", "bottom"] QQ:=by
 have sc:=Pq;refine F.F.ok (k:=1) sc (fun vs H Q E h=>?_) (fun cdv A outer s H vs Q E hr h=>?_)
 ·obtain⟨t,b,m,rfl,_⟩:=h
  rfl
 obtain⟨t,b,m,rfl,hb,hm,hs,q⟩:=h;refine⟨_,(BG (Fe (EA cn (pv 1) A7 (Bn _))
  (A5 S5)
  Dw)
 (BG (CV (i:=2) sc.nd rfl (Or.inl rfl) (Fo BM DM hr rfl (Ac (pv 0) (Ac (pv 1) BB))))
 (BG (Fe (EA WE (pv 1) A7 (Bn _))
  (A5 (CV (i:=2) sc.nd rfl (Or.inl rfl) (cC XS (pv 2))))
  Dw)
 (A5 (CN (Oz (Ac (DP GH (pv 0) (pv 2)) (Ac (DP GH (pv 1) (pv 2)) BB)))))))),?_⟩
 refine⟨_,rfl,rfl,_,rfl,En (fun c=>absurd c (by simpa using hb)) (fun _=>?_)⟩;refine⟨_,rfl,_,rfl,t,b,rfl,?_⟩
 try dsimp only [Em]
 refine TV (fun σ' H'=>σ'=[some (.int t),some (.int b),some (.int (FM.gs t b))]∧H=H') (fun nx hn=>?_) ?_
 ·refine⟨_,rfl,_,_,rfl,rfl,_,rfl,En (fun c=>?_) (fun c=>?_)⟩
  ·have c':b<0:=aO c;refine⟨_,rfl,_,rfl,hn _ _ ⟨?_,rfl⟩⟩;unfold FM.gs;rw [if_pos c']
   rfl
  ·have c':¬b<0:=bZ (bK.mpr c);refine hn _ _ ⟨?_,rfl⟩;unfold FM.gs;rw [if_neg c']
   rfl
 ·rintro σ' H' ⟨rfl,rfl⟩;have h0:FM.gs t b≠0:=FM.cD hb;have h1:(FM.gs t b).natAbs<2^m:=aX (FM.cK hb) hs;refine⟨_,rfl,_,rfl,_,_,rfl,rfl,⟨h0,m,hm,h1⟩,_,rfl,_,rfl,_,_,rfl,rfl,⟨h0,m,hm,h1⟩,Vo,fun p hp=>?_⟩;refine q p _ (Bg hp _) ?_;rw [AZ];show some (HO.tup [V.int (t.fdiv (FM.gs t b)),V.int (b.fdiv (FM.gs t b))])=_;rw [FM.Tc hb,FM.Tu hb]
  rfl
def Us:Ak ["one", "other"] ["one", "other"] (AV LR):=Cq
def Ua(F:Fn K mg "frac_sum" LR ["one", "other"] f fd)(B9:Fn K mg "fraction_of" Ex ["top", "bottom"] g gd)
 (Ew:AN P w K mg base Ar 2 g gd ["top", "bottom"] QQ):AN P w K mg base Ar 3 f fd ["one", "other"] (Wn K (fun p q=>p+q) (fun _=>True)):=by
 have sc:=Us;refine F.F.ok (k:=2) sc (fun vs H Q E h=>?_) (fun cdv A outer s H vs Q E hr h=>?_)
 ·obtain⟨v,w,p,q,n,rfl,_⟩:=h
  rfl
 obtain⟨v,w,p,q,n,rfl,⟨a,rfl,sp⟩,⟨b,rfl,sq⟩,hp,hq,hn,Av,k⟩:=h;refine⟨_,(A5 (CN (Fo B9 Ew hr rfl (Ac (DP XX (DP GO (Cp Ci (pv 0) A7 (fun _ _=>rfl)) (Cp Ci (pv 1) A7 (fun _ _=>rfl))) (DP GO (Cp Ci (pv 1) A7 (fun _ _=>rfl)) (Cp Ci (pv 0) A7 (fun _ _=>rfl)))) (Ac (DP GO (Cp Ci (pv 0) A7 (fun _ _=>rfl)) (Cp Ci (pv 1) A7 (fun _ _=>rfl))) BB))))),?_⟩;refine⟨_,rfl,_,_,_,_,rfl,rfl,sp,rfl,_,rfl,_,_,_,_,rfl,rfl,sq,rfl,_,_,rfl,rfl,OS hp.1 hq.d (by omega),_,rfl,_,_,_,_,rfl,rfl,sq,rfl,_,rfl,_,_,_,_,rfl,rfl,sp,rfl,_,_,rfl,rfl,OS hq.1 hp.d (by omega),_,_,rfl,rfl,_,rfl,_,_,_,_,rfl,rfl,sp,rfl,_,rfl,_,_,_,_,rfl,rfl,sq,rfl,_,_,rfl,rfl,OS hp.d hq.d (by omega),_,_,n+n,rfl,FM.NH p q,by omega,FM.dd hp hq,fun l H' e1 e2=>?_⟩;exact k l H' e1 (by rw [FM.Xz p q]at e2;exact e2)
def Rb:Ak ["one", "other"] ["one", "other"] (AV Jc):=Cq
def RS(F:Fn K mg "frac_times" Jc ["one", "other"] f fd)(B9:Fn K mg "fraction_of" Ex ["top", "bottom"] g gd)
 (Ew:AN P w K mg base Ar 2 g gd ["top", "bottom"] QQ):AN P w K mg base Ar 3 f fd ["one", "other"] (Wn K (fun p q=>p*q) (fun _=>True)):=by
 have sc:=Rb;refine F.F.ok (k:=2) sc (fun vs H Q E h=>?_) (fun cdv A outer s H vs Q E hr h=>?_)
 ·obtain⟨v,w,p,q,n,rfl,_⟩:=h
  rfl
 obtain⟨v,w,p,q,n,rfl,⟨a,rfl,sp⟩,⟨b,rfl,sq⟩,hp,hq,hn,Av,k⟩:=h;refine⟨_,(A5 (CN (Fo B9 Ew hr rfl (Ac (DP GO (Cp Ci (pv 0) A7 (fun _ _=>rfl)) (Cp Ci (pv 1) A7 (fun _ _=>rfl))) (Ac (DP GO (Cp Ci (pv 0) A7 (fun _ _=>rfl)) (Cp Ci (pv 1) A7 (fun _ _=>rfl))) BB))))),?_⟩;refine⟨_,rfl,_,_,_,_,rfl,rfl,sp,rfl,_,rfl,_,_,_,_,rfl,rfl,sq,rfl,_,_,rfl,rfl,OS hp.1 hq.1 (by omega),_,rfl,_,_,_,_,rfl,rfl,sp,rfl,_,rfl,_,_,_,_,rfl,rfl,sq,rfl,_,_,rfl,rfl,OS hp.d hq.d (by omega),_,_,n+n,rfl,FM.NH p q,by omega,FM.dd hp hq,fun l H' e1 e2=>?_⟩;exact k l H' e1 (by rw [FM.OW p q]at e2;exact e2)
end
def FN:PD→Bool
 |.tuple [.int a,.int b]=>decide (1≤b)&&(FM.gi a b==1)
 |_=>false
def OU{ds:List PD}(h:ds.length≠2∨∃d0 d1,ds=[d0,d1]∧((JA d0 && !HX d0)=false∨(JA d1 && !HX d1)=false)):FN (.tuple ds)=false:=by
 rcases h with h|⟨d0,d1,rfl,h⟩
 ·match ds,h with
  |[],_=>rfl
  |[a],_=>cases a<;>rfl
  |[_,_],h=>exact absurd rfl h
  |a::b::_::_,_=>cases a<;>first|rfl|(cases b<;>rfl)
 ·cases d0<;>first|rfl|(cases d1<;>first|rfl|(exfalso;rcases h with h|h<;>exact absurd h (by simp [JA,HX])))
def Ww:Sp:=fun vs H Q _=>∃l d v,vs=[v]∧Dt l H d v∧Q (.bl (JA d && !HX d)) H
def YG:Sp:=fun vs H Q _=>∃l d v,vs=[v]∧Dt l H d v∧Q (.bl (FN d)) H
def Qr{d:PD}(h:(JA d && !HX d)=true):∃i,d=.int i:=by
 cases d<;>first|exact⟨_,rfl⟩|(exact absurd h (by simp [JA,HX]))|(rename_i b;cases b<;>exact absurd h (by decide))
section
variable{P:Program}{w:World}{K:Fg}{mg:Str→Option VL}{base:Heap}{f g g1 g2 g3 g4 g5:AD}{fd gd gd1 gd2 gd3 gd4 gd5:FuncData}
def Uo:Ak ["thing"] ["thing"] (AV Lf):=Cq
def Ul(F:Fn K mg "is_whole" Lf ["thing"] f fd)(BU:mg "isinstance" = none)(V8:mg "int" = none)(TM:mg "bool" = none):AN P w K mg base Ar 1 f fd ["thing"] Ww:=by
 have sc:=Uo;refine F.F.ok (k:=0) sc (fun vs H Q E h=>?_) (fun cdv A outer s H vs Q E hr h=>?_)
 ·obtain⟨l,d,v,rfl,_⟩:=h
  rfl
 obtain⟨l,d,v,rfl,hd,q⟩:=h;refine⟨_,(A5 (CN (XO (Cy Jj rfl BU bO (Ac (pv 0) (Ac (Kl (v:=.ty "int") rfl V8 PyProof.Rows.boot_int rfl) BB))) (Yh (i3 (Cy Jj rfl BU bO (Ac (pv 0) (Ac (Kl (v:=.ty "bool") rfl TM PyProof.Rows.boot_bool rfl) BB)))))))),?_⟩;refine⟨_,rfl,_,_,_,_,rfl,YC,hd.ty,ZO K d hd.nodict,_,rfl,En (fun c=>⟨_,rfl,_,_,_,_,rfl,YC,hd.ty,YR K d hd.nodict,_,rfl,?_⟩) (fun c=>?_)⟩
 ·rw [c,Bool.true_and]at q;exact q
 ·rw [Bool.eq_false_iff.mpr c,Bool.false_and]at q;exact q
def QM:Ak ["thing"] ["thing"] (AV IH):=Cq
def QK(F:Fn K mg "is_fraction" IH ["thing"] f fd)(Gj:Fn K mg "is_whole" Lf ["thing"] g1 gd1)(BM:Fn K mg "greatest_divisor" DL ["one", "other"] g2 gd2)
 (Oa:AN P w K mg base Ar 1 g1 gd1 ["thing"] Ww)(DM:AN P w K mg base Ar 1 g2 gd2 ["one", "other"] WW)(BU:mg "isinstance" = none)(E9:mg "tuple" = none)(Dz:mg "len" = none):AN P w K mg base Ar 2 f fd ["thing"] YG:=by
 have sc:=QM;refine F.F.ok (k:=1) sc (fun vs H Q E h=>?_) (fun cdv A outer s H vs Q E hr h=>?_)
 ·obtain⟨l,d,v,rfl,_⟩:=h
  rfl
 obtain⟨l,d,v,rfl,hd,q⟩:=h;refine⟨_,(BG (Fe (PW.pt (Rf (G8 (HA (Cy Jj rfl BU bO (Ac (pv 0) (Ac (Kl (v:=.ty "tuple") rfl E9 PyProof.Rows.boot_tuple rfl) BB))))) (O0 (EA cG (Cy Mc rfl Dz PySem.boot_len (Ac (pv 0) BB)) A7 (Bn _)))))
  (A5 (CN IX))
  Dw)
 (BG (Fe (PW.pt (Rf (G8 (HA (Fo Gj Oa hr rfl (Ac (Cp Ci (pv 0) A7 (fun _ _=>rfl)) BB)))) (O0 (G8 (HA (Fo Gj Oa hr rfl (Ac (Cp Ci (pv 0) A7 (fun _ _=>rfl)) BB)))))))
  (A5 (CN IX))
  Dw)
 (A5 (CN (XO (QD cI (Cp Ci (pv 0) A7 (fun _ _=>rfl)) A7 (Bn _)) (Yh (QD cn (Fo BM DM hr rfl (Ac (Cp Ci (pv 0) A7 (fun _ _=>rfl)) (Ac (Cp Ci (pv 0) A7 (fun _ _=>rfl)) BB))) A7 (Bn _)))))))),?_⟩
 refine⟨_,rfl,_,_,_,_,rfl,YC,hd.ty,bj K d hd.nodict,_,rfl,?_⟩;have no:MU d=false→FN d=false:=fun z=>by cases d<;>first|rfl|exact absurd z (by simp [MU])
 by_cases ht:MU d=true
 ·rw [ht];obtain⟨ds,rfl⟩:∃ds,d=.tuple ds:=by cases d<;>first|exact⟨_,rfl⟩|exact absurd ht (by simp [MU])
  rw [Dt]at hd;obtain⟨a,xs,rfl,na,ha,hx⟩:=hd;have hlen:=hx.len;have s1:BF K H a xs:=BF.of ha;refine Td ⟨_,rfl,a,xs,rfl,.inr s1,rfl,_,rfl,En (fun c=>?_) (fun c=>?_)⟩
  ·have:ds.length≠2:=by
    rw [←hlen];intro z;rw [z]at c;exact absurd c (by decide)
   rw [OU (.inl this)]at q;exact q
  ·have h2:xs.length=2:=by
    by_cases z:xs.length=2
    ·exact z
    ·exfalso
     refine c ?_;have:¬(V.int (xs.length:Nat)=V.int 2):=by simp;omega
     rw [decide_eq_false this];rfl
   obtain⟨d0,d1,rfl⟩:∃d0 d1,ds=[d0,d1]:=by
    match ds,(show ds.length=2 by omega) with
    |[x,y],_=>exact⟨x,y,rfl⟩
   rw [CD]at hx;obtain⟨x0,r,rfl,hx0,hx⟩:=hx;rw [CD]at hx;obtain⟨x1,r,rfl,hx1,hx⟩:=hx;rw [CD]at hx;subst hx;refine⟨_,rfl,_,_,_,_,rfl,rfl,s1,rfl,l,d0,x0,rfl,hx0,_,rfl,En (fun c0=>?_) (fun c0=>?_)⟩
   ·rw [OU (.inr ⟨d0,d1,rfl,.inl (by simp at c0;rcases c0 with c|c<;>simp [c])⟩)]at q;exact q
   refine⟨_,rfl,_,_,_,_,rfl,rfl,s1,rfl,l,d1,x1,rfl,hx1,_,rfl,En (fun c1=>?_) (fun c1=>?_)⟩
   ·rw [OU (.inr ⟨d0,d1,rfl,.inr (by simp at c1;rcases c1 with c|c<;>simp [c])⟩)]at q;exact q
   obtain⟨i,rfl⟩:=Qr (d:=d0) (by simpa using c0);obtain⟨j,rfl⟩:=Qr (d:=d1) (by simpa using c1);rw [Dt]at hx0 hx1;subst hx0 hx1;refine⟨_,rfl,_,_,_,_,rfl,rfl,s1,rfl,_,_,rfl,rfl,_,rfl,En (fun c=>?_) (fun c=>?_)⟩
   ·refine⟨_,rfl,_,_,_,_,rfl,rfl,s1,rfl,_,rfl,_,_,_,_,rfl,rfl,s1,rfl,i,j,rfl,rfl,?_⟩;have hj:1≤j:=by have:=aO c;omega
    have e:FN (.tuple [.int i,.int j])=decide (V.int (FM.gi i j)=V.int 1):=by
     rw [FN,decide_eq_true hj,Bool.true_and,Bool.eq_iff_iff];simp
    rw [e]at q;exact q
   ·have hj:¬1≤j:=fun z=>c (bH (by omega));have e:FN (.tuple [.int i,.int j])=false:=by rw [FN,decide_eq_false hj,Bool.false_and]
    rw [e]at q;exact q
 ·rw [Bool.eq_false_iff.mpr ht];rw [no (bK.mpr ht)]at q;exact UQ (UQ q)
end
def Gb:PD→Bool
 |.list ds=>ds.all FN
 |_=>false
def Yg{d:PD}(h:Jf d=false):Gb d=false:=by cases d<;>first|rfl|exact absurd h (by simp [Jf])
def Zk{d:PD}(h:Jf d=true):∃ds,d=.list ds:=by cases d<;>first|exact⟨_,rfl⟩|exact absurd h (by simp [Jf])
def eR:Sp:=fun vs H Q _=>∃l d v,vs=[v]∧Dt l H d v∧Q (.bl (Gb d)) H
section
variable{P:Program}{w:World}{K:Fg}{mg:Str→Option VL}{base:Heap}{f g g1 g2 g3 g4 g5:AD}{fd gd gd1 gd2 gd3 gd4 gd5:FuncData}
def Nr:Ak ["thing", "part"] ["thing"] (AV Gm):=Cq
def N7(F:Fn K mg "are_fractions" Gm ["thing"] f fd)(GB:Fn K mg "is_fraction" IH ["thing"] g1 gd1)
 (Rc:AN P w K mg base Ar 2 g1 gd1 ["thing"] YG)(BU:mg "isinstance" = none)(T1:mg "list" = none):AN P w K mg base Ar 3 f fd ["thing"] eR:=by
 have sc:=Nr;refine F.F.ok (k:=2) sc (fun vs H Q E h=>?_) (fun cdv A outer s H vs Q E hr h=>?_)
 ·obtain⟨l,d,v,rfl,_⟩:=h
  rfl
 obtain⟨l,d,v,rfl,hd,q⟩:=h;refine⟨_,(BG (Fe (G8 (HA (Cy Jj rfl BU bO (Ac (pv 0) (Ac (Kl (v:=.ty "list") rfl T1 PyProof.Rows.boot_list rfl) BB)))))
  (A5 (CN IX))
  Dw)
 (BG (Ow aa rfl (Kb (pv 0)) (BE (i:=1) sc.nd rfl (Or.inl rfl))
  (A5 (Fe (G8 (HA (Fo GB Rc hr rfl (Ac (pv 1) BB))))
   (A5 (CN IX))
   Dw)))
 (A5 (CN IX)))),?_⟩
 refine⟨_,rfl,_,_,_,_,rfl,YC,hd.ty,ZC K d hd.nodict,_,rfl,?_⟩;by_cases hL:Jf d=false
 ·rw [hL];rw [Yg hL]at q;exact UQ q
 have hL:Jf d=true:=by simpa using hL
 rw [hL];refine Td ?_;obtain⟨ds,rfl⟩:=Zk hL;rw [Dt]at hd;obtain⟨a,xs,rfl,na,ha,ht⟩:=hd;have hlen:=ht.len;refine⟨_,rfl,a,rfl,⟨_,A3.of ha⟩,Sk (xs:=xs) (fun i σ H'=>∃r1,σ=[some (.ref a),r1]∧H=H'∧∀j c,j<i→ds[j]? = some c→FN c=true) ?_ ?_ ?_ ?_⟩
 ·exact⟨_,rfl,rfl,fun j c h=>absurd h (aq _)⟩
 ·rintro i σ H' _ ⟨r1,rfl,rfl,_⟩;exact A3.of ha
 ·rintro i x σ H' hx ⟨r1,rfl,rfl,hf⟩;obtain⟨c,hc,tc⟩:=ht.get hx;refine⟨_,rfl,l,c,x,rfl,tc,_,rfl,En (fun b=>?_) (fun b=>?_)⟩
  ·have hb:FN c=false:=by simpa using b
   have e:Gb (.list ds)=false:=bK.mpr fun z=>by
    rw [Gb,List.all_eq_true]at z;rw [z c (aM hc)]at hb;cases hb
   rw [e]at q;exact q
  ·have hb:FN c=true:=by simpa using b
   refine⟨_,rfl,rfl,fun j e hj he=>?_⟩;by_cases z:j=i
   ·subst z;rw [hc]at he;cases he;exact hb
   ·exact hf j e (by omega) he
 ·rintro σ H' ⟨r1,rfl,rfl,hf⟩;have e:Gb (.list ds)=true:=by
   rw [Gb,List.all_eq_true];intro c hc;obtain⟨j,hj⟩:=List.getElem?_of_mem hc;exact hf j c (by rw [hlen];exact(aE.mp hj).1) hj
  rw [e]at q;exact q
end
def cg:Sp:=fun vs H Q _=>∃(a:AD) (bs:List Int) (k:Nat),vs=[.ref a]∧H a=some (.lst (bs.map V.int))∧(∀b∈bs,1≤b∧b.natAbs<2^k)∧k*bs.length≤4000 ∧
 ∀c:Int,1≤c→c.natAbs<2^(k*bs.length+1)→(∀b∈bs,b ∣ c)→Q (.int c) H
def Y2{c b:Int}(hc:1≤c)(hb:1≤b):1≤c.fdiv (FM.gi c b)*b∧c ∣ c.fdiv (FM.gi c b)*b∧b ∣ c.fdiv (FM.gi c b)*b∧(c.fdiv (FM.gi c b)).natAbs≤c.natAbs:=by
 have hg:0<FM.gi c b:=FM.Mm (by omega);obtain⟨q,hq⟩:=FM.NP c b;obtain⟨r,hr⟩:=FM.MF c b;have e:=FM.Fm (Int.ne_of_gt hg) hq;refine⟨?_,?_,Int.dvd_mul_left _ _,FM.FO _ _⟩
 ·rw [e];have hq0:0<q:=by
   rcases Int.lt_or_le 0 q with h|h
   ·exact h
   ·have:=Int.mul_nonpos_of_nonneg_of_nonpos (Int.le_of_lt hg) h;omega
  exact Int.mul_pos hq0 (by omega)
 ·rw [e];refine⟨r,?_⟩;rw [hr]
  conv=>rhs;rw [hq]
  rw [←hr,Int.mul_comm (FM.gi c b) q,Int.mul_assoc,Int.mul_comm (FM.gi c b) r]
  conv=>lhs;rw [hr]
  rw [Int.mul_comm (FM.gi c b) r]
def cW:Sp:=fun vs H Q _=>∃(a:AD) (xs:List V) (ps:List (Int×Int)) (k:Nat),vs=[.ref a]∧H a=some (.lst xs)∧xs.length=ps.length∧ps.length≤1000∧(∀(j:Nat) x p,xs[j]? = some x→ps[j]? = some p→∃c,x=.ref c∧H c=some (.tup [.int p.1,.int p.2])) ∧
 (∀p∈ps,1≤p.2∧p.1.natAbs<2^k∧p.2.natAbs<2^k)∧k*ps.length≤4000∧∀l H',AO H H'→H' l=some (.tup (QN (ps.map fun p=>Rat.divInt p.1 p.2).sum))→Q (.ref l) H'
def div_add(x y:Int){c:Int}(hc:c≠0):Rat.divInt (x+y) c=Rat.divInt x c+Rat.divInt y c:=by
 rw [Rat.divInt_add_divInt _ _ hc hc,←Int.add_mul,Rat.divInt_mul_right hc]
def div_one{t b c:Int}(hb:b≠0)(hc:c≠0)(h:b ∣ c):Rat.divInt (t*c.fdiv b) c=Rat.divInt t b:=by
 obtain⟨q,rfl⟩:=h;rw [FM.Fm hb rfl,Rat.divInt_mul_right (fun z=>hc (by rw [z,Int.mul_zero]))]
def VB{c:Int}(hc:c≠0):∀ {ps:List (Int×Int)},(∀p∈ps,p.2≠0∧p.2 ∣ c)→Rat.divInt (ps.map fun p=>p.1*c.fdiv p.2).sum c=(ps.map fun p=>Rat.divInt p.1 p.2).sum
 |[],_=>by simp
 |p::ps,h=>by
  obtain⟨h1,h2⟩:=h p ai;rw [List.map_cons,List.sum_cons,List.map_cons,List.sum_cons,div_add _ _ hc,div_one h1 hc h2,VB hc fun q hq=>h q (aU _ hq)]
section
variable{P:Program}{w:World}{K:Fg}{mg:Str→Option VL}{base:Heap}{f g g1 g2:AD}{fd gd gd1 gd2:FuncData}
def Nv:Ak ["bottoms", "common", "bottom"] ["bottoms"] (AV Gq):=Cq
def Np(F:Fn K mg "common_bottom" Gq ["bottoms"] f fd)(BM:Fn K mg "greatest_divisor" DL ["one", "other"] g gd)
 (DM:AN P w K mg base Ar 1 g gd ["one", "other"] WW):AN P w K mg base Ar 2 f fd ["bottoms"] cg:=by
 have sc:=Nv;refine F.F.ok (k:=1) sc (fun vs H Q E h=>?_) (fun cdv A outer s H vs Q E hr h=>?_)
 ·obtain⟨a,bs,k,rfl,_⟩:=h
  rfl
 obtain⟨a,bs,k,rfl,ha,hb,hk,q⟩:=h;refine⟨_,(BG (CV (i:=1) sc.nd rfl (Or.inl rfl) A7)
 (BG (Ow aa rfl (Kb (pv 0)) (BE (i:=2) sc.nd rfl (Or.inl rfl))
  (A5 (CV (i:=1) sc.nd rfl (Or.inl rfl) (DP GO (DP GH (pv 1) (Fo BM DM hr rfl (Ac (pv 1) (Ac (pv 2) BB)))) (pv 2)))))
 (A5 (CN (pv 1))))),?_⟩
 refine⟨_,rfl,a,rfl,⟨_,A3.of ha⟩,Sk (xs:=bs.map V.int) (fun i σ H'=>∃(c:Int) (r:Option V),σ=[some (.ref a),some (.int c),r]∧H=H'∧1≤c∧c.natAbs<2^(k*i+1)∧∀j b,j<i→bs[j]? = some b→b ∣ c) ?_ ?_ ?_ ?_⟩
 ·exact⟨1,_,rfl,rfl,by decide,by simp,fun j b h=>absurd h (aq _)⟩
 ·rintro i σ H' _ ⟨c,r,rfl,rfl,_⟩;exact A3.of ha
 ·rintro i x σ H' hx ⟨c,r,rfl,rfl,c1,c2,c3⟩;have hi:i<bs.length:=by have:=(aE.mp hx).1;simpa using this
  rw [List.getElem?_map,List.getElem?_eq_getElem hi]at hx;cases hx;obtain⟨b1,b2⟩:=hb _ (List.getElem_mem hi);obtain⟨s1,s2,s3,s4⟩:=Y2 c1 b1;have hg:FM.gi c bs[i]≠0:=Int.ne_of_gt (FM.Mm (by omega));have hki:k*i+k≤4000:=by
   have:k*(i+1)≤k*bs.length:=Nat.mul_le_mul_left k hi;rw [Nat.mul_succ]at this;omega
  have n1:(c.fdiv (FM.gi c bs[i])).natAbs<2^(k*i+1):=aX s4 c2;refine⟨_,rfl,_,rfl,_,rfl,c,bs[i],rfl,_,_,rfl,rfl,⟨hg,k,by have:k*1≤k*bs.length:=Nat.mul_le_mul_left k (by omega);omega,Nat.lt_of_le_of_lt (FM.cw (by omega)) b2⟩,_,rfl,_,_,rfl,rfl,OS n1 b2 (by omega),_,_,rfl,rfl,s1,?_,fun j b hj hbj=>?_⟩
  ·have:=FM.Hu n1 b2;rw [Nat.mul_succ,show k*i+k+1=k*i+1+k by omega];exact this
  ·by_cases z:j=i
   ·subst z;rw [List.getElem?_eq_getElem hi]at hbj;cases hbj;exact s3
   ·exact Int.dvd_trans (c3 j b (by omega) hbj) s2
 ·rintro σ H' ⟨c,r,rfl,rfl,c1,c2,c3⟩;rw [List.length_map]at c2 c3;refine⟨_,rfl,q c c1 c2 fun b hb=>?_⟩;obtain⟨j,hj⟩:=List.getElem?_of_mem hb;exact c3 j b (aE.mp hj).1 hj
def RX:Ak ["some", "bottom"] ["some"] (AV EY):=Cq
def RQ(F:Fn K mg "frac_total" EY ["some"] f fd)(FL:Fn K mg "common_bottom" Gq ["bottoms"] g1 gd1)(B9:Fn K mg "fraction_of" Ex ["top", "bottom"] g2 gd2)
 (O8:AN P w K mg base Ar 2 g1 gd1 ["bottoms"] cg)(Ew:AN P w K mg base Ar 2 g2 gd2 ["top", "bottom"] QQ)(LQ:mg "sum" = none):AN P w K mg base Ar 3 f fd ["some"] cW:=by
 have sc:=RX;refine F.F.ok (k:=2) sc (fun vs H Q E h=>?_) (fun cdv A outer s H vs Q E hr h=>?_)
 ·obtain⟨a,xs,ps,k,rfl,_⟩:=h
  rfl
 obtain⟨a,xs,ps,k,rfl,ha,hl,h1000,hx,hp,hk,q⟩:=h;have hk1:ps≠[]→k≤4000:=fun hne=>by
  have:k*1≤k*ps.length:=Nat.mul_le_mul_left k (List.length_pos_iff.mpr hne);omega
 have at_:∀(i:Nat) (hi:i<xs.length),∃(p:Int×Int) (c:AD),ps[i]? = some p∧xs[i]=.ref c∧H c=some (.tup [.int p.1,.int p.2]):=fun i hi=>by
  have hpi:ps[i]? = some (ps[i]'(by omega)):=aR _;obtain⟨c,h1,h2⟩:=hx i xs[i] _ (aR hi) hpi;exact⟨_,c,hpi,h1,h2⟩
 refine⟨_,(BG (CV (i:=1) sc.nd rfl (Or.inr rfl) (Fo FL O8 hr rfl (Ac (LP [".0", "part"] 1 [none,none] (Kb (pv 0)) (fun _ _ _ _ _=>QV) (fun _ _ _ _ _=>(Cp QR (pv 1) A7 (fun _ _=>rfl)))) BB)))
 (A5 (CN (Fo B9 Ew hr rfl (Ac (Cy (Tz rfl) rfl LQ PyProof.Rows.boot_sum (Ac (LP [".0", "part", "bottom"] 1 [none,none,some 1] (Kb (pv 0)) (fun _ _ _ _ _=>QV) (fun _ _ _ _ _=>(DP GO (Cp QR (pv 1) A7 (fun _ _=>rfl)) (DP GH (pv 2) (Cp QR (pv 1) A7 (fun _ _=>rfl)))))) BB)) (Ac (pv 1) BB)))))),?_⟩
 refine⟨_,rfl,a,rfl,⟨_,A3.of ha⟩,fun D hD=>QT (n:=xs.length) (fun i ys H'=>AO H H'∧ys=((ps.take i).map (·.2)).map V.int) ?_ ?_ ?_⟩
 ·exact⟨Bg hD _,rfl⟩
 ·rintro i ys H0 hi ⟨e0,rfl⟩ hD0;obtain⟨p,c,h1,h2,h3⟩:=at_ i hi;refine⟨⟨xs,xs[i],A3.of (e0 _ _ ha),by simp [hi]⟩,?_,fun x H' y=>?_⟩
  ·rw [List.length_map,List.length_map,List.length_take];exact aX (Nat.min_le_left _ _) (aH (show i<1000 by omega) (by rw [sizeLine_eq];decide))
  ·obtain⟨rfl,y⟩:=y;have hxi:=y xs (A3.of (e0 _ _ ha));rw [List.getElem?_eq_getElem hi,h2]at hxi;cases hxi;unfold Wm;refine UQ ⟨_,rfl,_,_,_,_,rfl,rfl,BF.of (e0 _ _ h3),rfl,hD0,NC hi ⟨fun b o z=>?_,?_⟩⟩
   ·rw [AM (Ah z hD)];exact e0 _ _ z
   ·rw [List.take_succ,h1];simp
 rintro ys H0 ⟨e0,rfl⟩ hD0;refine⟨⟨xs,A3.of (e0 _ _ ha),Nat.le_refl _⟩,?_⟩;rw [hl,List.take_length]at hD0;refine⟨D,ps.map (·.2),k,rfl,hD0,fun b hb=>?_,by rw [List.length_map];exact hk,fun c c1 c2 c3=>?_⟩
 ·obtain⟨p,hp',rfl⟩:=aQ.mp hb;exact⟨(hp p hp').1,(hp p hp').2.2⟩
 rw [List.length_map]at c2;refine⟨_,rfl,a,rfl,⟨_,A3.of (e0 _ _ ha)⟩,fun D2 hD2=>QT (n:=xs.length) (fun i ys H'=>AO H0 H'∧ys=((ps.take i).map fun p=>p.1*c.fdiv p.2).map V.int) ?_ ?_ ?_⟩
 ·exact⟨Bg hD2 _,rfl⟩
 ·rintro i ys H1 hi ⟨e1,rfl⟩ hD1;have E1:=e0.trans e1;obtain⟨p,d,h1,h2,h3⟩:=at_ i hi;have hpm:=aM h1;have hkk:=hk1 (List.ne_nil_of_mem hpm);obtain⟨p1,p2,p3⟩:=hp p hpm;refine⟨⟨xs,xs[i],A3.of (E1 _ _ ha),by simp [hi]⟩,?_,fun x H' y=>?_⟩
  ·rw [List.length_map,List.length_map,List.length_take];exact aX (Nat.min_le_left _ _) (aH (show i<1000 by omega) (by rw [sizeLine_eq];decide))
  ·obtain⟨rfl,y⟩:=y;have hxi:=y xs (A3.of (E1 _ _ ha));rw [List.getElem?_eq_getElem hi,h2]at hxi;cases hxi;unfold Wm;refine UQ ⟨_,rfl,_,_,_,_,rfl,rfl,BF.of (E1 _ _ h3),rfl,_,rfl,_,rfl,_,_,_,_,rfl,rfl,BF.of (E1 _ _ h3),rfl,_,_,rfl,rfl,⟨by omega,k,by omega,p3⟩,_,_,rfl,rfl,OS p2 (aX (FM.FO c p.2) c2) (by omega),hD1,NC hi ⟨fun b o z=>?_,?_⟩⟩
   ·rw [AM (Ah z hD2)];exact e1 _ _ z
   ·rw [List.take_succ,h1];simp
 rintro ys H1 ⟨e1,rfl⟩ hD1;refine⟨⟨xs,A3.of ((e0.trans e1) _ _ ha),Nat.le_refl _⟩,?_⟩;rw [hl,List.take_length]at hD1;refine⟨D2,_,rfl,A3.of hD1,_,rfl,_,c,k*ps.length+1,rfl,by omega,by omega,c2,fun l H' e2 hl'=>?_⟩;refine q l H' (e0.trans (e1.trans e2)) ?_;rw [VB (by omega) fun p hp'=>⟨by have:=(hp p hp').1;omega,c3 _ (ax hp')⟩]at hl';exact hl'
end
def DU(H:Hp)(d:PD)(v:V):Prop:=∃N:Nat,∀l,N≤l→Dt l H d v
def Ph(H:Hp)(ds:List PD)(xs:List V):Prop:=∃N:Nat,∀l,N≤l→CD l H ds xs
def DU.int{H:Hp}{i:Int}:DU H (.int i) (.int i):=⟨0,fun _ _=>.int⟩
def DU.bool{H:Hp}{i:Bool}:DU H (.bool i) (.bl i):=⟨0,fun _ _=>.bool⟩
def DU.A8{H:Hp}:DU H .none .A8:=⟨0,fun _ _=>.A8⟩
def DU.str{H:Hp}{x:Str}:DU H (.str x) (.str x):=⟨0,fun _ _=>.str⟩
def Ph.nil{H:Hp}:Ph H [] []:=⟨0,fun _ _=>.nil⟩
def Ph.cons{H:Hp}{d:PD}{ds:List PD}{x:V}{xs:List V}(h:DU H d x)(k:Ph H ds xs):Ph H (d::ds) (x::xs) :=
 let⟨N,a⟩:=h;let⟨M,b⟩:=k;⟨max N M,fun l hl=>.cons (a l (by omega)) (b l (by omega))⟩
def DU.lst{H:Hp}{a:AD}{ds:List PD}{xs:List V}(h:H a=some (.lst xs))(k:Ph H ds xs):DU H (.list ds) (.ref a) :=
 let⟨N,b⟩:=k;⟨max N (a+1),fun l hl=>.lst (aG (show a<l from aH (bM a) (ae (Nat.le_max_right _ _) hl))) h (b l (by omega))⟩
def DU.tup{H:Hp}{a:AD}{ds:List PD}{xs:List V}(h:H a=some (.tup xs))(k:Ph H ds xs):DU H (.tuple ds) (.ref a) :=
 let⟨N,b⟩:=k;⟨max N (a+1),fun l hl=>.tup (aG (show a<l from aH (bM a) (ae (Nat.le_max_right _ _) hl))) h (b l (by omega))⟩
def DU.nL{H:Hp}{ds:List PD}{v:V}(h:DU H (.tuple ds) v):∃a xs,v=.ref a∧H a=some (.tup xs)∧Ph H ds xs:=by
 obtain⟨N,b⟩:=h;have h0:=b N (aI _);rw [Dt]at h0;obtain⟨a,xs,rfl,_,ha,_⟩:=h0;refine⟨a,xs,rfl,ha,N,fun l hl=>?_⟩;have h1:=b l hl;rw [Dt]at h1;obtain⟨a',xs',e,_,ha',hx'⟩:=h1;cases e;rw [ha]at ha';cases ha';exact hx'
def DU.ints{H:Hp}{ps:List Int}{v:V}(h:DU H (.tuple (ps.map .int)) v):∃a,v=.ref a∧H a=some (.tup (ps.map V.int)):=by
 obtain⟨a,xs,rfl,ha,hx⟩:=h.nL;refine⟨a,rfl,?_⟩;rw [ha]
 congr 2
 obtain⟨N,b⟩:=hx;have:=b N (aI _);clear b ha h
 induction ps generalizing xs with
 |nil=>rw [List.map_nil,CD]at this;exact this
 |cons p ps ih =>
  rw [List.map_cons,CD]at this;obtain⟨x,r,rfl,h1,h2⟩:=this;rw [Dt]at h1;subst h1;rw [List.map_cons,ih r h2]
mutual
def NF{H:Hp}:∀ {d:PD} {v:V},d.canLay0=true→Du H d v→DU H d v
 |.none,_,_,h=>by rw [Du]at h;subst h;exact .A8
 |.bool _,_,_,h=>by rw [Du]at h;subst h;exact .bool
 |.int _,_,_,h=>by rw [Du]at h;subst h;exact .int
 |.str _,_,_,h=>by rw [Du]at h;subst h;exact .str
 |.tuple _,_,c,h=>by
  rw [Du]at h;obtain⟨a,xs,rfl,h1,h2⟩:=h;exact .tup h1 (Qa (by simpa only [PyData.canLay0]using c) h2)
 |.list _,_,c,h=>by
  rw [Du]at h;obtain⟨a,xs,rfl,h1,h2⟩:=h;exact .lst h1 (Qa (by simpa only [PyData.canLay0]using c) h2)
 |.dict _,_,c,h=>by simp [PyData.canLay0]at c
def Qa{H:Hp}:∀ {ds:List PD} {xs:List V},PyData.canLayAll0 ds=true→Ai H ds xs→Ph H ds xs
 |[],_,_,h=>by rw [h.nil_eq];exact .nil
 |_::_,_,c,h=>by
  obtain⟨x,r,rfl,h1,h2⟩:=h.un;simp only [PyData.canLayAll0,Bool.and_eq_true]at c;exact .cons (NF c.1 h1) (Qa c.2 h2)
end
def Rq{G H H':Hp}{l:AD}{vs:List V}{ds:List PD}(e0:AO G H)(e:AO H H')(hl:H' l=some (.tup vs))(d:Ai G ds vs):∃G',AO G G'∧Nw G H G'∧AO G' H'∧Du G' (.tuple ds) (.ref l):=by
 have e1:AO G (upd G l (.tup vs)):=fun a o h=>by
  by_cases ha:a=l
  ·subst ha;have:=e _ _ (e0 _ _ h);rw [hl]at this;rw [AZ];exact this
  ·rw [AM ha];exact h
 refine⟨upd G l (.tup vs),e1,fun a u h=>?_,fun a u h=>?_,?_⟩
 ·by_cases ha:a=l
  ·subst ha;rw [AZ]at h;cases h;exact .inr (.inr ⟨_,rfl⟩)
  ·rw [AM ha]at h;exact .inl h
 ·by_cases ha:a=l
  ·subst ha;rw [AZ]at h;rw [hl];exact h
  ·rw [AM ha]at h;exact e _ _ (e0 _ _ h)
 ·rw [Du];exact⟨l,vs,rfl,AZ,d.same e1⟩
def JH{G:Hp}:∀ps:List Int,Ai G (ps.map .int) (ps.map V.int)
 |[]=>.nil
 |p::ps=>.cons (by rw [Du]) (JH ps)
section
variable{P:Program}{w:World}{K:Fg}{mg:Str→Option VL}{base:Heap}{CX:GN}{k:Nat}{f:AD}{fd:FuncData}{ps:List Str}
def mB(q:PD→Bool):MD
 |[d]=>if d.canLay0=true then some (.bool (q d)) else none
 |_=>none
def j9{q:PD→Bool}{d:PD}(h:d.canLay0=true):mB q [d]=some (.bool (q d)):=if_pos h
def mj{q:PD→Bool}{d:PD}{b:Bool}(h:d.canLay0=true)(e:q d=b):mB q [d]=some (.bool b):=(j9 h).trans (by rw [e])
def nT{sp:Sp}{q:PD→Bool}(F:AN P w K mg base CX k f fd ps sp)(h:∀(l:AD) d v H Q E,Dt l H d v→(∀H',AO H H'→Q (.bl (q d)) H')→sp [v] H Q E):AN P w K mg base CX k f fd ps (BJ (mB q)) :=
 Iq F fun ds x hm G H vs Q E d e kk=>by
  unfold mB at hm;split at hm
  ·split at hm
   ·rename_i dd hc;cases hm;obtain⟨v,rfl,d1⟩:=d.HG;obtain⟨N,b⟩:=NF hc (d1.same e);exact h N _ v H Q E (b N (aI _)) fun H' e'=>kk _ G H' (.refl _) Nw.refl (e.trans e') e' (by rw [Du])
   ·cases hm
  ·cases hm
end
def UR:∀ps:List Int,PyData.canLayAll0 (ps.map .int)=true
 |[]=>by simp [PyData.canLayAll0]
 |p::ps=>by rw [List.map_cons];simp only [PyData.canLayAll0,PyData.canLay0];rw [UR ps];rfl
def YN{ds:List PD}(h:∀d∈ds,d.canLay0=true):PyData.canLayAll0 ds=true:=by
 induction ds with
 |nil=>simp [PyData.canLayAll0]
 |cons d ds ih=>simp only [PyData.canLayAll0];rw [h d (.head _),ih fun e he=>h e (.tail _ he)];rfl
def kQ{ds:List PD}(h:∀d∈ds,d.canLay0=true):(PyData.list ds).canLay0=true:=by simp only [PyData.canLay0];exact YN h
section
variable{P:Program}{w:World}{K:Fg}{mg:Str→Option VL}{base:Heap}{f g:AD}{fd gd:FuncData}
def S9:Ak ["_law_top", "_law_bottom", "_law_one", "_law_other"] ["_law_top", "_law_bottom"] (AV E5):=Cq
def UK(F:Fn K mg "_law_frac" E5 ["_law_top", "_law_bottom"] f fd)(J9:mg "abs" = none):AN P w K mg base Ar 1 f fd ["_law_top", "_law_bottom"] QQ:=by
 have sc:=S9;refine F.F.ok (k:=0) sc (fun vs H Q E h=>?_) (fun cdv A outer s H vs Q E hr h=>?_)
 ·obtain⟨t,b,m,rfl,_⟩:=h
  rfl
 obtain⟨t,b,m,rfl,hb,hm,hs,q⟩:=h;refine⟨_,(BG (CV (i:=2) sc.nd rfl (Or.inl rfl) (Cy LF rfl J9 PyProof.Rows.boot_abs (Ac (pv 0) BB)))
 (BG (CV (i:=3) sc.nd rfl (Or.inl rfl) (Cy LF rfl J9 PyProof.Rows.boot_abs (Ac (pv 1) BB)))
 (BG (Sv aa (EA Rk (pv 3) A7 (Bn _))
  (A5 (fT (i:=2) (j:=3) rfl sc.nd rfl rfl (by decide) rfl rfl (Ac (pv 3) (Ac (DP Py (pv 2) (pv 3)) BB)) rfl)))
 (BG (Fe (EA WE (pv 1) A7 (Bn _))
  (A5 (CV (i:=2) sc.nd rfl (Or.inl rfl) (DP Pn A7 (pv 2))))
  Dw)
 (A5 (CN (Oz (Ac (DP GH (pv 0) (pv 2)) (Ac (DP GH (pv 1) (pv 2)) BB))))))))),?_⟩
 refine⟨_,rfl,_,rfl,_,rfl,_,rfl,?_⟩;refine S4 (fun σ H'=>∃g l,σ=[some (.int t),some (.int b),some (.int g),some (.int l)]∧H=H'∧Int.gcd g l=Int.gcd t b∧0≤g∧0≤l) (fun σ _=>lS σ) ?_ ?_ ?_
 ·exact⟨_,_,rfl,rfl,FM.Vd t b,FM.abs_nonneg t,FM.abs_nonneg b⟩
 ·rintro σ H' ⟨g,l,rfl,rfl,hg,h0,h1⟩;refine⟨_,rfl,_,_,rfl,rfl,_,rfl,En (fun c=>?_) (fun c=>?_)⟩
  ·have hl':0<l:=aO c;have hl:l≠0:=by omega
   refine⟨_,rfl,_,rfl,_,rfl,_,_,rfl,rfl,hl,_,_,rfl,⟨_,_,rfl,rfl,?_,h1,FM.fmod_nonneg hl h1⟩,?_⟩
   ·rw [FM.TJ];exact hg
   ·exact FM.Qy g l hl
  ·have hl':¬0<l:=bZ (bK.mpr c);have hl:l=0:=by omega
   subst hl;rw [FM.Xq hg h0]
   try dsimp only [Em]
   refine TV (fun σ' H'=>σ'=[some (.int t),some (.int b),some (.int (FM.gs t b)),some (.int 0)]∧H=H') (fun nx hn=>?_) ?_
   ·refine⟨_,rfl,_,_,rfl,rfl,_,rfl,En (fun c=>?_) (fun c=>?_)⟩
    ·have c':b<0:=aO c;refine⟨_,rfl,_,_,rfl,rfl,hn _ _ ⟨?_,rfl⟩⟩;show [some (V.int t),some (V.int b),some (V.int (0-FM.gi t b)),some (V.int 0)]=_;unfold FM.gs;rw [if_pos c',Int.zero_sub]
    ·have c':¬b<0:=bZ (bK.mpr c);refine hn _ _ ⟨?_,rfl⟩;unfold FM.gs;rw [if_neg c']
   ·rintro σ' H' ⟨rfl,rfl⟩;have h0:FM.gs t b≠0:=FM.cD hb;have h1:(FM.gs t b).natAbs<2^m:=aX (FM.cK hb) hs;refine⟨_,rfl,_,rfl,_,_,rfl,rfl,⟨h0,m,hm,h1⟩,_,rfl,_,rfl,_,_,rfl,rfl,⟨h0,m,hm,h1⟩,Vo,fun p hp=>?_⟩;refine q p _ (Bg hp _) ?_;rw [AZ];show some (HO.tup [V.int (t.fdiv (FM.gs t b)),V.int (b.fdiv (FM.gs t b))])=_;rw [FM.Tc hb,FM.Tu hb]
    rfl
 ·exact fun σ H Q Q' hq ⟨v,e,i,j,e1,e2,k,e3,q⟩=>⟨v,e,i,j,e1,e2,k,e3,hq _ _ q⟩
end
def TB(n:Nat):Sp:=fun vs H Q _=>∃v t,vs=[v]∧Tv H t v∧t.deep<n∧n≤60∧∀H',AO H H'→Q (.bl t.Dh) H'
def Ta:Sp:=fun vs H Q _=>∃v t,vs=[v]∧Tv H t v∧t.deep<8∧t.Dh=true∧∀H',AO H H'→Q .A8 H'
def Yp{P:Program}{w:World}{K:Fg}{mg:Str→Option VL}{base:Heap}{CX:GN}{k:Nat}{f:AD}{fd:FuncData}{ps:List Str}{sp:Sp}(h:∀vs H Q E,¬sp vs H Q E):AN P w K mg base CX k f fd ps sp :=
 ⟨fun _ _ _ _ z=>(h _ _ _ _ z).elim,fun _ _ _ _ _ _ _ _ _ _ _ _ _ z=>(h _ _ _ _ z).elim⟩
section
variable{P:Program}{w:World}{K:Fg}{mg:Str→Option VL}{base:Heap}{f g g1 g2 g3 g4:AD}{fd gd gd1 gd2 gd3 gd4:FuncData}
def Vz:Ak ["thing", "k", "bough"] ["thing"] (AV MR):=Cq
def O4(Ec:Fn K mg "is_tree" MR ["thing"] f fd)(BU:mg "isinstance" = none)(E9:mg "tuple" = none)(BW:mg "enumerate" = none) :
  ∀n,AN P w K mg base Ar n f fd ["thing"] (TB n)
 |0=>Yp fun _ _ _ _ ⟨_,_,_,_,h,_⟩=>absurd h (aq _)
 |n+1=>by
  have sc:=Vz;have L8:=O4 Ec BU E9 BW n;refine Ec.F.ok (k:=n) sc (fun vs H Q E h=>?_) (fun cdv A outer s H vs Q E hr h=>?_)
  ·obtain⟨v,t,rfl,_⟩:=h
   rfl
  obtain⟨v,t,rfl,⟨a,xs,rfl,ha,ht⟩,hd,hn,q⟩:=h;refine⟨_,(BG (Fe (G8 (HA (Cy Jj rfl BU bO (Ac (pv 0) (Ac (Kl (v:=.ty "tuple") rfl E9 PyProof.Rows.boot_tuple rfl) BB)))))
  (A5 (CN IX))
  Dw)
 (BG (Ow aa rfl (VD rfl BW (Ac (pv 0) BB)) (Ht rfl (CH (BE (i:=1) sc.nd rfl (Or.inl rfl)) (CH (BE (i:=2) sc.nd rfl (Or.inl rfl)) GR)))
  (BG (Fe (PW.pt (XG (EA Rk (pv 1) A7 (Bn _)) (P6 (EA (fM (by have:=hr.units;exact this)) (pv 2) (Cp Ci (pv 0) (DP Pn (pv 1) A7) (fun _ _=>rfl)) (Bn _)))))
   (A5 Ur)
   Dw)
  (A5 (Fe (PW.pt (Rf (G8 (HA (Fo Ec L8 hr rfl (Ac (pv 2) BB)))) (O0 (PW.pt (XG (EA Rk (pv 1) A7 (Bn _)) (P6 (EA (fI (by have:=hr.units;exact this)) (pv 2) (Cp Ci (pv 0) (DP Pn (pv 1) A7) (fun _ _=>rfl)) (Bn _))))))))
   (A5 (CN IX))
   Dw))))
 (A5 (CN IX)))),?_⟩
  refine⟨_,rfl,_,_,_,_,rfl,YC,GF.tup ha,XY K,_,rfl,Td ?_⟩;have hlen:=ht.len;refine⟨_,rfl,a,rfl,⟨_,BF.of ha⟩,ZH (xs:=xs) (fun i σ H'=>∃r1 r2,σ=[some (.ref a),r1,r2]∧AO H H'∧(∀j c,j<i→t.bs[j]? = some c→c.Dh=true)∧∀(j:Nat) (b c:Tr),j+1<i→t.bs[j]? = some b→t.bs[j+1]? = some c→Tr.lt b c=false) ?_ ?_ ?_ ?_⟩
  ·exact⟨_,_,rfl,AO.refl _,fun j c h=>absurd h (aq _),fun j b c h=>absurd h (aq _)⟩
  ·rintro i σ H' _ ⟨r1,r2,rfl,e,_⟩;exact BF.of (e _ _ ha)
  ·rintro i x σ H0 hx ⟨r1,r2,rfl,e0,hf,hl⟩ p hp;obtain⟨c,hc,tc⟩:=ht.get hx;have hcm:c∈t.bs:=aM hc;have hcd:=Tr.Tp hcm;have s1:=Bg hp (.tup [.int (i:Nat),x]);have e1:=e0.trans s1;refine⟨p,_,rfl,BF.of AZ,rfl,_,_,rfl,_,_,rfl,rfl,?_⟩;have at1:=e1.tup (BF.of (K:=K) ha);have tc1:=tc.same e1;have next:∀(H':Hp),AO (upd H0 p (.tup [.int (i:Nat),x])) H'→c.Dh=true→(∀(b:Tr),0<i→t.bs[i-1]? = some b→Tr.lt b c=false) →
     ∃r1 r2,[some (V.ref a),some (V.int (i:Nat)),some x]=[some (.ref a),r1,r2]∧AO H H'∧(∀j c,j<i+1→t.bs[j]? = some c→c.Dh=true)∧∀(j:Nat) (b c:Tr),j+1<i+1→t.bs[j]? = some b→t.bs[j+1]? = some c→Tr.lt b c=false:=fun H' e' h1 h2=>by
    refine⟨_,_,rfl,e1.trans e',fun j d hj hjd=>?_,fun j b d hj hb hjd=>?_⟩
    ·by_cases z:j=i
     ·subst z;rw [hc]at hjd;cases hjd;exact h1
     ·exact hf j d (by omega) hjd
    ·by_cases z:j+1=i
     ·subst z;rw [hc]at hjd;cases hjd;exact h2 b (by omega) (by simpa using hb)
     ·exact hl j b d (by omega) hb hjd
   have fin:∀(H':Hp),AO (upd H0 p (.tup [.int (i:Nat),x])) H'→(c.Dh=false∨∃b,0<i∧t.bs[i-1]? = some b∧Tr.lt b c=true)→Q (.bl false) H':=fun H' e' h=>by
    have hfalse:t.Dh=false:=by
     refine bK.mpr fun z=>?_;obtain⟨z1,z2⟩:=(Tr.OD t).mp z;rcases h with h|⟨b,hi,hb,h⟩
     ·rw [z1 c hcm]at h;cases h
     ·rw [z2 (i-1) b c hb (by rw [show i-1+1=i by omega];exact hc)]at h;cases h
    have:=q H' (e1.trans e');rw [hfalse]at this;exact this
   have ahead:0<i→∃y b,FP xs ((i:Int)-1)=some y∧t.bs[i-1]? = some b∧Tv H b y∧b.deep<t.deep:=fun hi=>by
    have hi2:i-1<xs.length:=by
     have:=(aE.mp hx).1;omega
    obtain⟨b,hb,tb⟩:=ht.get (i:=i-1) (v:=xs[i-1]) (by simp [hi2]);refine⟨xs[i-1],b,?_,hb,tb,Tr.Tp (aM hb)⟩;have:=HR (xs:=xs) (j:=i-1) (v:=xs[i-1]) (by simp [hi2])
    rwa [show(((i-1:Nat)):Int)=(i:Int)-1 by omega]at this
   have body2:∀(nx:St→Hp→Prop),(∀H',AO (upd H0 p (.tup [.int (i:Nat),x])) H'→c.Dh=true→(∀(b:Tr),0<i→t.bs[i-1]? = some b→Tr.lt b c=false)→nx [some (.ref a),some (.int (i:Nat)),some x] H')→True:=fun _ _=>trivial;refine⟨_,rfl,_,_,rfl,rfl,_,rfl,En (fun hk=>?_) (fun hk=>?_)⟩
   ·have hi:0<i:=by have:=aO hk;omega
    obtain⟨y,b,hat,hb,tb,hbd⟩:=ahead hi;refine⟨_,rfl,_,rfl,_,rfl,_,_,rfl,rfl,_,_,_,_,rfl,rfl,at1,hat,c,b,tc1,tb.same e1,by omega,_,rfl,En (fun hcb=>?_) (fun hcb=>?_)⟩
    ·have ecb:c=b:=by simpa using hcb
     refine next _ (AO.refl _) ?_ fun b' _ hb'=>?_
     ·rw [ecb];exact hf (i-1) b (by omega) hb
     ·rw [hb]at hb';cases hb';rw [ecb];exact Tr.lt_irrefl _
    ·refine⟨_,rfl,_,c,rfl,tc1,by omega,by omega,fun H2 e2=>⟨_,rfl,En (fun hcf=>?_) (fun hcf=>?_)⟩⟩
     ·exact fin H2 e2 (.inl (by simpa using hcf))
     ·have hcf':c.Dh=true:=by simpa using hcf
      refine⟨_,rfl,_,_,rfl,rfl,_,rfl,En (fun _=>?_) (fun hk'=>absurd hk hk')⟩;refine⟨_,rfl,_,rfl,_,rfl,_,_,rfl,rfl,_,_,_,_,rfl,rfl,e2.tup at1,hat,c,b,tc1.same e2,(tb.same e1).same e2,by omega,_,rfl,En (fun hlt=>?_) (fun hlt=>?_)⟩
      ·exact fin H2 e2 (.inr ⟨b,hi,hb,hlt⟩)
      ·refine next H2 e2 hcf' fun b' _ hb'=>?_;rw [hb]at hb';cases hb'
       simpa using hlt
   ·have hi:¬0<i:=fun z=>hk (bH (by omega));refine Td ?_;refine⟨_,rfl,_,c,rfl,tc1,by omega,by omega,fun H2 e2=>⟨_,rfl,En (fun hcf=>?_) (fun hcf=>?_)⟩⟩
    ·exact fin H2 e2 (.inl (by simpa using hcf))
    ·have hcf':c.Dh=true:=by simpa using hcf
     refine⟨_,rfl,_,_,rfl,rfl,_,rfl,En (fun hk'=>absurd hk' hk) (fun _=>Td ?_)⟩;exact next H2 e2 hcf' fun b' h _=>absurd h hi
  ·rintro σ H' ⟨r1,r2,rfl,e,hf,hl⟩;have htrue:t.Dh=true:=(Tr.OD t).mpr ⟨fun c hc=>by
    obtain⟨j,hj,rfl⟩:=List.getElem_of_mem hc;exact hf j _ (by omega) (aR hj),fun j b c hb hc=>hl j b c (by
     have:=(aE.mp hc).1;omega) hb hc⟩
   have:=q H' e;rw [htrue]at this;exact this
def NL:Ak ["thing"] ["thing"] (AV El):=Cq
def NJ(F:Fn K mg "refuse_no_tree" El ["thing"] f fd)(Ec:Fn K mg "is_tree" MR ["thing"] g gd)(L8:AN P w K mg base Ar 8 g gd ["thing"] (TB 8)) :
  AN P w K mg base Ar 9 f fd ["thing"] Ta:=by
 have sc:=NL;refine F.F.ok (k:=8) sc (fun vs H Q E h=>?_) (fun cdv A outer s H vs Q E hr h=>?_)
 ·obtain⟨v,t,rfl,_⟩:=h
  rfl
 obtain⟨v,t,rfl,tv,hd,hf,q⟩:=h;refine⟨_,(A5 (Fe (G8 (HA (Fo Ec L8 hr rfl (Ac (pv 0) BB))))
  (A5 S5)
  Dw)),?_⟩
 refine⟨_,rfl,v,t,rfl,tv,hd,by decide,fun H' e=>⟨_,rfl,En (fun z=>?_) (fun _=>q H' e)⟩⟩;rw [hf]at z;cases z
end
def dD:MD
 |[d]=>(Ei d).bind fun t=>if t.deep<8∧t.Dh=true then some .none else none
 |_=>none
def nO{P:Program}{w:World}{K:Fg}{mg:Str→Option VL}{base:Heap}{CX:GN}{k:Nat}{f:AD}{fd:FuncData}{ps:List Str}(F:AN P w K mg base CX k f fd ps Ta):AN P w K mg base CX k f fd ps (BJ dD) :=
 Iq F fun ds x hm G H vs Q E d e kk=>by
  unfold dD at hm;split at hm
  ·obtain⟨t,h1,h2⟩:=aB.mp hm;split at h2
   ·rename_i hc;cases h2;have:=Io h1;subst this;obtain⟨v,rfl,d1⟩:=d.HG;rw [Du]at d1;obtain⟨a,ys,rfl,n1,n2⟩:=d1;exact⟨_,t,rfl,⟨a,ys,rfl,e _ _ n1,(HB n2).same e⟩,hc.1,hc.2,fun H' e'=>kk _ G H' (.refl _) Nw.refl (e.trans e') e' (by rw [Du])⟩
   ·cases h2
  ·cases hm
section
variable{P:Program}{w:World}{K:Fg}{mg:Str→Option VL}{base:Heap}{f:AD}{fd:FuncData}
def Og:Ak ["tree"] ["tree"] (AV HY):=Cq
def Km(A1:MD):DF :=
 (EX (AQ Bx (fC (.int 1)) (AU Zi (AB (D3 (Co 1) EL (AU A1 (AB (nm 1) AI)) [none,none] (D6 (nm 0))) AI))))
def A1:Nat→MD
 |0=>fun _=>none
 |n+1=>DR ["tree"] ["tree"] (Km (A1 n))
def Js{k:Nat}(CU:Fn K mg "knots_within" HY ["tree"] f fd)(LQ:mg "sum" = none):∀n,
  AN P w K mg base Ar (k+n+1) f fd ["tree"] (BJ (A1 n))
 |0=>J6 fun _ _ _ _ ⟨_,_,_,h,_⟩=>by cases h
 |n+1=>by
  have sc:=Og;have EW:=Js (k:=k) CU LQ n;refine HE (k:=k+n+1) (F:=Km (A1 n)) CU sc fun cdv A outer s H E hr=>?_;exact(Aj (Ct (Aa BZ AK (Fb (iL rfl) rfl LQ PyProof.Rows.boot_sum (AA (Vf [".0", "bough"] 1 [none,none] (Dd (AE (pv 0))) (fun _ _ _ _ _=>GQ) (fun _ _ _ _ _=>(AX CU EW hr rfl (AA (AE (pv 1)) AG)))) AG)))))
def HM:Ak ["boughs"] ["boughs"] (AV DK):=Cq
def Mg:DF :=
 (EX (AU OX (AB (AU (JF true) (AB (nm 0) AI)) AI)))
def AH:MD:=DR ["boughs"] ["boughs"] (Mg)
def L0{k:Nat}(F:Fn K mg "in_falling_order" DK ["boughs"] f fd)(Bz:mg "sorted" = none)(E9:mg "tuple" = none) :
  AN P w K mg base Ar (k+1) f fd ["boughs"] (BJ (AH)):=HE F HM fun cdv A outer s H E hr=>by
 have sc:=HM;exact(Aj (Ct (Xg bh rfl E9 PyProof.Rows.boot_tuple (AA (Sl (by have:=hr.units;exact this) rfl Bz (AA (AE (pv 0)) AG) (fun h=>T9 (by have:=hr.units;exact this) rfl Bz h)) AG))))
def Lz:Ak ["tree", "larger", "k", "bough", "grown"] ["tree"] (AV FY):=Cq
def Hr(AH:MD)(Ax:MD):DF :=
 (Ap (KL 1 (AB (AU AH (AB (AQ Bx (nm 0) (DZ (AB (DZ AI) AI))) AI)) AI))
 (Ap (Ek (GA Rm (AB (nm 0) AI)) (DV 2 3)
  (Ek (D6 (AU Ax (AB (nm 3) AI))) (JL 4)
   (LV 1 (AU AH (AB (AQ Bx (AQ Bx (P9 (nm 0) Mz (Mw (nm 2))) (DZ (AB (nm 4) AI))) (P9 (nm 0) (Mw (AQ Bx (nm 2) (fC (.int 1)))) Mz)) AI)))))
 (Le 1)))
def Ax(AH:MD):Nat→MD
 |0=>fun _=>none
 |n+1=>DR ["tree"] ["tree", "larger", "k", "bough", "grown"] (Hr AH (Ax AH n))
def HN{k:Nat}{AH:MD}(Bj:Fn K mg "trees_one_larger" FY ["tree"] f fd)
 {Bl:AD}{Bb:FuncData}(Au:Fn K mg "in_falling_order" DK ["boughs"] Bl Bb)(Ab:AN P w K mg base Ar k Bl Bb ["boughs"] (BJ AH))(BW:mg "enumerate" = none):∀n,
  AN P w K mg base Ar (k+n+1) f fd ["tree"] (BJ (Ax AH n))
 |0=>J6 fun _ _ _ _ ⟨_,_,_,h,_⟩=>by cases h
 |n+1=>by
  have sc:=Lz;have DJ:=HN (k:=k) (AH:=AH) Bj Au Ab BW n;have Ab:=Ab.mono (show k≤k+n+1 by omega);refine HE (k:=k+n+1) (F:=Hr AH (Ax AH n)) Bj sc fun cdv A outer s H E hr=>?_;exact(AR (Gr (i:=1) sc.nd rfl (Or.inl rfl) (AA (AX Au Ab hr rfl (AA (Aa BZ (AE (pv 0)) (B8 (AA (B8 AG) AG))) AG)) AG))
 (AR (De aa rfl (Uu rfl BW (AA (AE (pv 0)) AG)) (K0 (Ht rfl (CH (BE (i:=2) sc.nd rfl (Or.inl rfl)) (CH (BE (i:=3) sc.nd rfl (Or.inl rfl)) GR))))
  (Aj (De aa rfl (Dd (AX Bj DJ hr rfl (AA (AE (pv 3)) AG))) (E6 (BE (i:=4) sc.nd rfl (Or.inl rfl)))
   (Aj (Ee (pv 1) (AX Au Ab hr rfl (AA (Aa BZ (Aa BZ (Hb (AE (pv 0)) Il (Iw (AE (pv 2)))) (B8 (AA (AE (pv 4)) AG))) (Hb (AE (pv 0)) (Iw (Aa BZ (AE (pv 2)) AK)) Il)) AG)) (fun ho ha=>D9 (Gv ao bC bD EE ho ha)))))))
 (Aj (Ir (pv 1)))))
def Nm:Ak ["many", "trees", "knots", "larger", "tree"] ["many"] (AV LI):=Cq
def V6(Ax:MD)(C_TooMany:AD):FQ :=
 (Hz (VU (bx (ER (GY fun i j=>decide (i<j)) (nm 0) (fC (.int 1))) (ER (GY fun i j=>decide (j<i)) (nm 0) (fC (.int 7))))
  (Mh C_TooMany (fC (.str (Str.ofString "trees are listed for 1 to 7 knots"))))
  (fun δ=>some (.inl (.nx δ))))
 (Q5 (Ap (Ca 1 (JP (AB (DZ AI) AI)))
 (Ap (Ek (GA SO (AB (fC (.int 1)) (AB (nm 0) AI))) (JL 2)
  (Ap (KL 3 AI)
  (Ap (Ek (D6 (nm 1)) (JL 4)
   (gO 3 (AU Ax (AB (nm 4) AI))))
  (N9 3 (Ca 1 (fun δ=>((nm 3) δ).bind OM))))))
 (EX (nm 1))))))
def Dp(Ax:MD)(C_TooMany:AD):List PD→Option Xr:=Fw ["many"] ["many", "trees", "knots", "larger", "tree"] (V6 Ax C_TooMany)
def UU{k:Nat}{Ax:MD}{C_TooMany:AD}(F:Fn K mg "trees_of" LI ["many"] f fd)
 {Hv:AD}{HF:FuncData}(Bj:Fn K mg "trees_one_larger" FY ["tree"] Hv HF)(DJ:AN P w K mg base Ar k Hv HF ["tree"] (BJ Ax))(Cw:mg "range" = none)(V9:mg "set" = none)(Bz:mg "sorted" = none){tk_MOST_KNOTS:Tok}(EZ:mg "MOST_KNOTS" = some (.int 7 tk_MOST_KNOTS))(X_TooMany:Exc K mg "TooMany" C_TooMany) :
  AN P w K mg base (CS P w) (k+1) f fd ["many"] (FJ (Dp Ax C_TooMany)):=PY F Nm fun cdv A outer s H E hr=>by
 have sc:=Nm;exact(Fc (Rg (DW.dt (WH (Ez Vw (AE (pv 0)) AK (Bn _)) (UH (Ez cZ (AE (pv 0)) (Tw rfl EZ) (Bn _)))))
  (K6 (by exact LM X_TooMany R8 PM))
  M5)
 (Kk (AR (B2 (i:=1) sc.nd rfl (Or.inl rfl) (Gf (AA (B8 AG) AG)))
 (AR (De aa rfl (MJ rfl Cw (AA AK (AA (AE (pv 0)) AG))) (E6 (BE (i:=2) sc.nd rfl (Or.inl rfl)))
  (AR (Gr (i:=3) sc.nd rfl (Or.inl rfl) AG)
  (AR (De aa rfl (Dd (AE (pv 1))) (E6 (BE (i:=4) sc.nd rfl (Or.inl rfl)))
   (Aj (Qt (pv 3) (AX Bj DJ hr rfl (AA (AE (pv 4)) AG)) (fun ho ha=>D9 (Gv ao PySem.F.slot_list_extend PySem.F.type_list_extend Q7 ho ha)))))
  (Aj (K4 3 (B2 (i:=1) sc.nd rfl (Or.inl rfl) (WC rfl (by have:=hr.units;exact this) rfl Bz rfl V9 (AE (pv 3)))))))))
 (Aj (Ct (AE (pv 1))))))))
def NO:Ak ["most", "trees", "many"] ["most"] (AV Gg):=Cq
def WM(Dp:List PD→Option Xr)(C_TooMany:AD):FQ :=
 (Hz (VU (bx (ER (GY fun i j=>decide (i<j)) (nm 0) (fC (.int 0))) (ER (GY fun i j=>decide (j<i)) (nm 0) (fC (.int 7))))
  (Mh C_TooMany (fC (.str (Str.ofString "trees are listed up to 0 to 7 knots"))))
  (fun δ=>some (.inl (.nx δ))))
 (Q5 (Ap (KL 1 AI)
 (Ap (Ek (GA SO (AB (fC (.int 1)) (AB (AQ Bx (nm 0) (fC (.int 1))) AI))) (JL 2)
  (gO 1 (AU (good Dp) (AB (nm 2) AI))))
 (Le 1)))))
def A0(Dp:List PD→Option Xr)(C_TooMany:AD):List PD→Option Xr:=Fw ["most"] ["most", "trees", "many"] (WM Dp C_TooMany)
def Uj{k:Nat}{Dp:List PD→Option Xr}{C_TooMany:AD}(F:Fn K mg "trees_to" Gg ["most"] f fd)
 {O6:AD}{Nb:FuncData}(Ig:Fn K mg "trees_of" LI ["many"] O6 Nb)(LK:AN P w K mg base (CS P w) k O6 Nb ["many"] (FJ Dp))(Cw:mg "range" = none){tk_MOST_KNOTS:Tok}(EZ:mg "MOST_KNOTS" = some (.int 7 tk_MOST_KNOTS))(X_TooMany:Exc K mg "TooMany" C_TooMany) :
  AN P w K mg base (CS P w) (k+1) f fd ["most"] (FJ (A0 Dp C_TooMany)):=PY F NO fun cdv A outer s H E hr=>by
 have sc:=NO;exact(Fc (Rg (DW.dt (WH (Ez Vw (AE (pv 0)) AK (Bn _)) (UH (Ez cZ (AE (pv 0)) (Tw rfl EZ) (Bn _)))))
  (K6 (by exact LM X_TooMany R8 PM))
  M5)
 (Kk (AR (Gr (i:=1) sc.nd rfl (Or.inl rfl) AG)
 (AR (De aa rfl (MJ rfl Cw (AA AK (AA (Aa BZ (AE (pv 0)) AK) AG))) (E6 (BE (i:=2) sc.nd rfl (Or.inl rfl)))
  (Aj (Qt (pv 1) (AX Ig (Ic LK) hr rfl (AA (AE (pv 2)) AG)) (fun ho ha=>D9 (Gv ao PySem.F.slot_list_extend PySem.F.type_list_extend Q7 ho ha)))))
 (Aj (Ir (pv 1)))))))
def GV:Ak ["thing"] ["thing"] (AV Eg):=Cq
def GZ(DQ:MD)(C_NoWeighing:AD):FQ :=
 (VU (bx (gk (Zz (AU DQ (AB (nm 0) AI)))) (Zz (fun δ=>((AU Ji (AB (nm 0) AI)) δ).bind (cJ true [0,1,2,4,8,17,37,85]))))
  (Mh C_NoWeighing (fC (.str (Str.ofString "a weighing is a list of a fraction for each tree of at most 0 to 7 knots"))))
  (fun δ=>some (.inl (.nx δ))))
def BI(DQ:MD)(C_NoWeighing:AD):List PD→Option Xr:=Fw ["thing"] ["thing"] (GZ DQ C_NoWeighing)
def K2{k:Nat}{DQ:MD}{C_NoWeighing:AD}(F:Fn K mg "refuse_no_weighing" Eg ["thing"] f fd)
 {Jz:AD}{JC:FuncData}(FI:Fn K mg "are_fractions" Gm ["thing"] Jz JC)(Gu:AN P w K mg base Ar k Jz JC ["thing"] (BJ DQ))(Dz:mg "len" = none){c_WEIGHING_LENGTHS:AD}(CT:mg "WEIGHING_LENGTHS" = some (.ref c_WEIGHING_LENGTHS))(o_WEIGHING_LENGTHS:Own K c_WEIGHING_LENGTHS [0,1,2,4,8,17,37,85])(X_NoWeighing:Exc K mg "NoWeighing" C_NoWeighing) :
  AN P w K mg base (CS P w) (k+1) f fd ["thing"] (FJ (BI DQ C_NoWeighing)):=PY F GV fun cdv A outer s H E hr=>by
 have sc:=GV;exact(K6 (Rg (DW.dt (WH (gY (gQ (AX FI Gu hr rfl (AA (AE (pv 0)) AG)))) (UH (fS UP (Fb MO rfl Dz PySem.boot_len (AA (AE (pv 0)) AG)) rfl CT o_WEIGHING_LENGTHS))))
  (K6 (by exact LM X_NoWeighing R8 PM))
  M5))
def IT:Ak ["weighing"] ["weighing"] (AV Dy):=Cq
def JE(BI:List PD→Option Xr):FQ :=
 (Hz (Mx BI (AB (nm 0) AI) fun _ δ=>.nx δ)
 (Q5 (EX (fun δ=>((AU Ji (AB (nm 0) AI)) δ).bind (Xn [0,1,2,4,8,17,37,85])))))
def AY(BI:List PD→Option Xr):List PD→Option Xr:=Fw ["weighing"] ["weighing"] (JE BI)
def NI{k:Nat}{BI:List PD→Option Xr}(F:Fn K mg "weighing_reach" Dy ["weighing"] f fd)
 {GW:AD}{GJ:FuncData}(Dm:Fn K mg "refuse_no_weighing" Eg ["thing"] GW GJ)(Ej:AN P w K mg base (CS P w) k GW GJ ["thing"] (FJ BI))(Dz:mg "len" = none){c_WEIGHING_LENGTHS:AD}(CT:mg "WEIGHING_LENGTHS" = some (.ref c_WEIGHING_LENGTHS))(o_WEIGHING_LENGTHS:Own K c_WEIGHING_LENGTHS [0,1,2,4,8,17,37,85]) :
  AN P w K mg base (CS P w) (k+1) f fd ["weighing"] (FJ (AY BI)):=PY F IT fun cdv A outer s H E hr=>by
 have sc:=IT;exact(Fc (by exact eB Dm Ej hr LW (by exact(AA (AE (pv 0)) AG)) (fun h=>D9 h))
 (Kk (Aj (Ct (YU (Fb MO rfl Dz PySem.boot_len (AA (AE (pv 0)) AG)) rfl CT o_WEIGHING_LENGTHS)))))
def P7:Ak ["tree", "ties", "k", "bough", "trunk", "part"] ["tree"] (AV IL):=Cq
def Lm(AH:MD)(BS:MD):DF :=
 (Ap (KL 1 AI)
 (Ap (Ek (GA Rm (AB (nm 0) AI)) (DV 2 3)
  (Ap (LV 1 (DZ (AB (AQ Bx (P9 (nm 0) Mz (Mw (nm 2))) (P9 (nm 0) (Mw (AQ Bx (nm 2) (fC (.int 1)))) Mz)) (AB (nm 3) AI))))
  (Ek (D6 (AU BS (AB (nm 3) AI))) (DV 4 5)
   (LV 1 (DZ (AB (AU AH (AB (AQ Bx (AQ Bx (P9 (nm 0) Mz (Mw (nm 2))) (DZ (AB (nm 4) AI))) (P9 (nm 0) (Mw (AQ Bx (nm 2) (fC (.int 1)))) Mz)) AI)) (AB (nm 5) AI)))))))
 (Le 1)))
def BS(AH:MD):Nat→MD
 |0=>fun _=>none
 |n+1=>DR ["tree"] ["tree", "ties", "k", "bough", "trunk", "part"] (Lm AH (BS AH n))
def Kc{k:Nat}{AH:MD}(Ck:Fn K mg "ties_within" IL ["tree"] f fd)
 {Bl:AD}{Bb:FuncData}(Au:Fn K mg "in_falling_order" DK ["boughs"] Bl Bb)(Ab:AN P w K mg base Ar k Bl Bb ["boughs"] (BJ AH))(BW:mg "enumerate" = none):∀n,
  AN P w K mg base Ar (k+n+1) f fd ["tree"] (BJ (BS AH n))
 |0=>J6 fun _ _ _ _ ⟨_,_,_,h,_⟩=>by cases h
 |n+1=>by
  have sc:=P7;have E3:=Kc (k:=k) (AH:=AH) Ck Au Ab BW n;have Ab:=Ab.mono (show k≤k+n+1 by omega);refine HE (k:=k+n+1) (F:=Lm AH (BS AH n)) Ck sc fun cdv A outer s H E hr=>?_;exact(AR (Gr (i:=1) sc.nd rfl (Or.inl rfl) AG)
 (AR (De aa rfl (Uu rfl BW (AA (AE (pv 0)) AG)) (K0 (Ht rfl (CH (BE (i:=2) sc.nd rfl (Or.inl rfl)) (CH (BE (i:=3) sc.nd rfl (Or.inl rfl)) GR))))
  (AR (Ee (pv 1) (B8 (AA (Aa BZ (Hb (AE (pv 0)) Il (Iw (AE (pv 2)))) (Hb (AE (pv 0)) (Iw (Aa BZ (AE (pv 2)) AK)) Il)) (AA (AE (pv 3)) AG))) (fun ho ha=>D9 (Gv ao bC bD EE ho ha)))
  (Aj (De aa rfl (Dd (AX Ck E3 hr rfl (AA (AE (pv 3)) AG))) (K0 (Ht rfl (CH (BE (i:=4) sc.nd rfl (Or.inl rfl)) (CH (BE (i:=5) sc.nd rfl (Or.inl rfl)) GR))))
   (Aj (Ee (pv 1) (B8 (AA (AX Au Ab hr rfl (AA (Aa BZ (Aa BZ (Hb (AE (pv 0)) Il (Iw (AE (pv 2)))) (B8 (AA (AE (pv 4)) AG))) (Hb (AE (pv 0)) (Iw (Aa BZ (AE (pv 2)) AK)) Il)) AG)) (AA (AE (pv 5)) AG))) (fun ho ha=>D9 (Gv ao bC bD EE ho ha))))))))
 (Aj (Ir (pv 1)))))
def MN:Ak ["tree"] ["tree"] (AV KN):=Cq
def Ub(A4:MD)(BS:MD):DF :=
 (Ap (cU (AU A4 (AB (nm 0) AI)))
 (EX (AU (JF false) (AB (AU BS (AB (nm 0) AI)) AI))))
def C9(A4:MD)(BS:MD):MD:=DR ["tree"] ["tree"] (Ub A4 BS)
def SJ{k:Nat}{A4:MD}{BS:MD}(F:Fn K mg "tree_ties" KN ["tree"] f fd)
 {Dx:AD}{Dc:FuncData}(CQ:Fn K mg "refuse_no_tree" El ["thing"] Dx Dc)(Cz:AN P w K mg base Ar k Dx Dc ["thing"] (BJ A4))
 {Ln:AD}{Kz:FuncData}(Ck:Fn K mg "ties_within" IL ["tree"] Ln Kz)(E3:AN P w K mg base Ar k Ln Kz ["tree"] (BJ BS))(Bz:mg "sorted" = none) :
  AN P w K mg base Ar (k+1) f fd ["tree"] (BJ (C9 A4 BS)):=HE F MN fun cdv A outer s H E hr=>by
 have sc:=MN;exact(AR (VF (AX CQ Cz hr rfl (AA (AE (pv 0)) AG)))
 (Aj (Ct (Fb (er (by have:=hr.units;exact this)) rfl Bz PyProof.Rows.boot_sorted (AA (AX Ck E3 hr rfl (AA (AE (pv 0)) AG)) AG)))))
def JG:Ak ["many", "product", "factor"] ["many"] (AV GX):=Cq
def PZ:DF :=
 (Ap (Ca 1 (fC (.int 1)))
 (Ap (Ek (GA SO (AB (fC (.int 2)) (AB (AQ Bx (nm 0) (fC (.int 1))) AI))) (JL 2)
  (Ca 1 (AQ Cg (nm 1) (nm 2))))
 (EX (nm 1))))
def BV:MD:=DR ["many"] ["many", "product", "factor"] (PZ)
def OQ{k:Nat}(F:Fn K mg "product_up_to" GX ["many"] f fd)(Cw:mg "range" = none) :
  AN P w K mg base Ar (k+1) f fd ["many"] (BJ (BV)):=HE F JG fun cdv A outer s H E hr=>by
 have sc:=JG;exact(AR (B2 (i:=1) sc.nd rfl (Or.inl rfl) AK)
 (AR (De aa rfl (MJ rfl Cw (AA AK (AA (Aa BZ (AE (pv 0)) AK) AG))) (E6 (BE (i:=2) sc.nd rfl (Or.inl rfl)))
  (Aj (B2 (i:=1) sc.nd rfl (Or.inl rfl) (Aa Cf (AE (pv 1)) (AE (pv 2))))))
 (Aj (Ct (AE (pv 1))))))
def Lu:Ak ["trunk_moves", "j", "number"] ["trunk_moves", "j", "number"] (AV Jb):=Cq
def MW:DF :=
 (Ap (MY (ER (GY fun i j=>decide (j≤i)) (nm 1) (AU Ji (AB (nm 0) AI)))
  (EX (DZ (AB (fC (.int 0)) (AB (fC (.int 1)) AI))))
  J0)
 (EX (DZ (AB (AQ Cg (AQ CP (AQ CP (nm 0) (nm 1)) (fC (.int 0))) (AQ CP (nm 2) (fC (.int 0)))) (AB (AQ Cg (AQ CP (AQ CP (nm 0) (nm 1)) (fC (.int 1))) (AQ CP (nm 2) (fC (.int 1)))) AI)))))
def B5:MD:=DR ["trunk_moves", "j", "number"] ["trunk_moves", "j", "number"] (MW)
def RT{k:Nat}(F:Fn K mg "move_share" Jb ["trunk_moves", "j", "number"] f fd)(Dz:mg "len" = none) :
  AN P w K mg base Ar (k+1) f fd ["trunk_moves", "j", "number"] (BJ (B5)):=HE F Lu fun cdv A outer s H E hr=>by
 have sc:=Lu;exact(AR (My (Ez cX (AE (pv 1)) (Fb MO rfl Dz PySem.boot_len (AA (AE (pv 0)) AG)) (Bn _))
  (Aj (Ct (B8 (AA AK (AA AK AG)))))
  Iy)
 (Aj (Ct (B8 (AA (Aa Cf (Bt (Bt (AE (pv 0)) (AE (pv 1)) (fun _ _=>rfl)) AK (fun _ _=>rfl)) (Bt (AE (pv 2)) AK (fun _ _=>rfl))) (AA (Aa Cf (Bt (Bt (AE (pv 0)) (AE (pv 1)) (fun _ _=>rfl)) AK (fun _ _=>rfl)) (Bt (AE (pv 2)) AK (fun _ _=>rfl))) AG))))))
def Ks:Ak ["tree", "moves", "ties", "later", "j", "shares"] ["tree", "moves"] (AV IE):=Cq
def Lo(Ag:MD)(A1:MD)(B5:MD)(C9:MD):DF :=
 (Ap (Ca 2 (AU C9 (AB (nm 0) AI)))
 (Ap (KL 3 AI)
 (Ap (Ek (GA OG (AB (AQ Me (AU A1 (AB (nm 0) AI)) (fC (.int 1))) AI)) (JL 4)
  (Ap (Ca 5 (D3 (DV 1 2) EL (AU B5 (AB (AQ FU (nm 4) (nm 1)) (AB (nm 3) (AB (AQ CP (AQ FU (nm 4) (nm 2)) (fC (.int 0))) AI)))) [none,none,none,some 4,some 1] (D6 (nm 2))))
  (LV 3 (AU Ag (AB (nm 5) AI)))))
 (Le 3))))
def CA(Ag:MD)(A1:MD)(B5:MD)(C9:MD):MD:=DR ["tree", "moves"] ["tree", "moves", "ties", "later", "j", "shares"] (Lo Ag A1 B5 C9)
def QJ{k:Nat}{Ag:MD}{A1:MD}{B5:MD}{C9:MD}(F:Fn K mg "later_moves" IE ["tree", "moves"] f fd)
 {B4:AD}{Bq:FuncData}(Bf:Fn K mg "frac_total" EY ["some"] B4 Bq)(Bp:AN P w K mg base Ar k B4 Bq ["some"] (BJ Ag))
 {Kr:AD}{Ju:FuncData}(CU:Fn K mg "knots_within" HY ["tree"] Kr Ju)(EW:AN P w K mg base Ar k Kr Ju ["tree"] (BJ A1))
 {L7:AD}{Lr:FuncData}(Gd:Fn K mg "move_share" Jb ["trunk_moves", "j", "number"] L7 Lr)(JQ:AN P w K mg base Ar k L7 Lr ["trunk_moves", "j", "number"] (BJ B5))
 {NU:AD}{Mt:FuncData}(Hd:Fn K mg "tree_ties" KN ["tree"] NU Mt)(KO:AN P w K mg base Ar k NU Mt ["tree"] (BJ C9))(Cw:mg "range" = none) :
  AN P w K mg base Ar (k+1) f fd ["tree", "moves"] (BJ (CA Ag A1 B5 C9)):=HE F Ks fun cdv A outer s H E hr=>by
 have sc:=Ks;exact(AR (B2 (i:=2) sc.nd rfl (Or.inl rfl) (AX Hd KO hr rfl (AA (AE (pv 0)) AG)))
 (AR (Gr (i:=3) sc.nd rfl (Or.inl rfl) AG)
 (AR (De aa rfl (RK rfl Cw (AA (Aa Ke (AX CU EW hr rfl (AA (AE (pv 0)) AG)) AK) AG)) (E6 (BE (i:=4) sc.nd rfl (Or.inr rfl)))
  (AR (Uh (i:=5) [".0", "trunk", "part", "j", "moves"] 1 2 [none,none,none,some 4,some 1] sc.nd rfl rfl (Dd (AE (pv 2))) (fun _ _ _ _ _=>GQ) (fun _ _ _ _ _=>(AX Gd JQ hr rfl (AA (GI (by have:=hr.units;exact this) (AE (pv 4)) (AE (pv 1)) (fun _ _=>rfl)) (AA (AE (pv 3)) (AA (Bt (GI (by have:=hr.units;exact this) (AE (pv 4)) (AE (pv 2)) (fun _ _=>rfl)) AK (fun _ _=>rfl)) AG))))))
  (Aj (Ee (pv 3) (AX Bf Bp hr rfl (AA (AE (pv 5)) AG)) (fun ho ha=>D9 (Gv ao bC bD EE ho ha))))))
 (Aj (Ir (pv 3))))))
def J7:Ak ["later"] ["later"] (AV HZ):=Cq
def Kh(Ag:MD)(BV:MD):DF :=
 (EX (AU Ag (AB (D3 (DV 1 2) EL (DZ (AB (AQ CP (nm 2) (fC (.int 0))) (AB (AQ Cg (AQ CP (nm 2) (fC (.int 1))) (AU BV (AB (nm 1) AI))) AI))) [none,none,none] (GA Rx (AB (nm 0) AI))) AI)))
def CF(Ag:MD)(BV:MD):MD:=DR ["later"] ["later"] (Kh Ag BV)
def Oe{k:Nat}{Ag:MD}{BV:MD}(F:Fn K mg "later_weight" HZ ["later"] f fd)
 {B4:AD}{Bq:FuncData}(Bf:Fn K mg "frac_total" EY ["some"] B4 Bq)(Bp:AN P w K mg base Ar k B4 Bq ["some"] (BJ Ag))
 {J5:AD}{I0:FuncData}(FG:Fn K mg "product_up_to" GX ["many"] J5 I0)(Gn:AN P w K mg base Ar k J5 I0 ["many"] (BJ BV))(BW:mg "enumerate" = none) :
  AN P w K mg base Ar (k+1) f fd ["later"] (BJ (CF Ag BV)):=HE F J7 fun cdv A outer s H E hr=>by
 have sc:=J7;exact(Aj (Ct (AX Bf Bp hr rfl (AA (Zr [".0", "j", "move"] 1 2 [none,none,none] (ZA rfl BW (AA (AE (pv 0)) AG)) (fun _ _ _ _ _=>GQ) (fun _ _ _ _ _=>(B8 (AA (Bt (AE (pv 2)) AK (fun _ _=>rfl)) (AA (Aa Cf (Bt (AE (pv 2)) AK (fun _ _=>rfl)) (AX FG Gn hr rfl (AA (AE (pv 1)) AG))) AG))))) AG))))
def JV:Ak ["numbers", "trees", "moves", "weights", "tree", "number", "later"] ["numbers"] (AV Gk):=Cq
def Jv(Fi:MD)(CA:MD)(CF:MD)(A0:List PD→Option Xr)(AY:List PD→Option Xr):FQ :=
 (Hz (xE (EO (Gz (EO (Hy (AB (nm 0) AI)) AY) (Hy AI)) A0) fun x δ=>.nx (δ.set 1 (.d x)))
 (Q5 (Ap (dC 2)
 (Ap (KL 3 AI)
 (Ap (Ek (GA zip2 (AB (nm 1) (AB (nm 0) AI))) (DV 4 5)
  (Ap (Ca 6 (Mu 2 (AU CA (AB (nm 4) (AB (nm 2) AI)))))
  (Ap (Sy 2 (AQ Bx (JP (AB (nm 5) AI)) (nm 6)) (nm 4))
  (LV 3 (AU Fi (AB (nm 5) (AB (AU CF (AB (nm 6) AI)) AI)))))))
 (Le 3))))))
def BD(Fi:MD)(CA:MD)(CF:MD)(A0:List PD→Option Xr)(AY:List PD→Option Xr):List PD→Option Xr:=Fw ["numbers"] ["numbers", "trees", "moves", "weights", "tree", "number", "later"] (Jv Fi CA CF A0 AY)
def N2{k:Nat}{Fi:MD}{CA:MD}{CF:MD}{A0:List PD→Option Xr}{AY:List PD→Option Xr}(F:Fn K mg "flow_weighing" Gk ["numbers"] f fd)
 {O2:AD}{Nk:FuncData}(Ib:Fn K mg "frac_sum" LR ["one", "other"] O2 Nk)(LN:AN P w K mg base Ar k O2 Nk ["one", "other"] (BJ Fi))
 {Ls:AD}{K1:FuncData}(F8:Fn K mg "later_moves" IE ["tree", "moves"] Ls K1)(II:AN P w K mg base Ar k Ls K1 ["tree", "moves"] (BJ CA))
 {Kd:AD}{Jn:FuncData}(Fs:Fn K mg "later_weight" HZ ["later"] Kd Jn)(HU:AN P w K mg base Ar k Kd Jn ["later"] (BJ CF))
 {EC:AD}{Dr:FuncData}(C8:Fn K mg "trees_to" Gg ["most"] EC Dr)(Di:AN P w K mg base (CS P w) k EC Dr ["most"] (FJ A0))
 {B3:AD}{Bw:FuncData}(BN:Fn K mg "weighing_reach" Dy ["weighing"] B3 Bw)(BX:AN P w K mg base (CS P w) k B3 Bw ["weighing"] (FJ AY))(Hg:mg "zip" = none) :
  AN P w K mg base (CS P w) (k+1) f fd ["numbers"] (FJ (BD Fi CA CF A0 AY)):=PY F JV fun cdv A outer s H E hr=>by
 have sc:=JV;exact(Fc (by exact Vr (i:=1) (Lc C8 Di hr LW (T2 (Lc BN BX hr LW (Ot (by exact(AA (AE (pv 0)) AG)))) (Ot (by exact AG)))) sc.nd (Or.inl rfl))
 (Kk (AR (dz (i:=2) sc.nd rfl (Or.inl rfl))
 (AR (Gr (i:=3) sc.nd rfl (Or.inl rfl) AG)
 (AR (De aa rfl (jI rfl Hg (AA (AE (pv 1)) (AA (AE (pv 0)) AG))) (K0 (Ht rfl (CH (BE (i:=4) sc.nd rfl (Or.inl rfl)) (CH (BE (i:=5) sc.nd rfl (Or.inl rfl)) GR))))
  (AR (B2 (i:=6) sc.nd rfl (Or.inl rfl) (dJ 2 (AX F8 II hr rfl (AA (AE (pv 4)) (AA (AE (pv 2)) AG)))))
  (AR (OV (pv 2) (AE (pv 4)) (Aa BZ (Gf (AA (AE (pv 5)) AG)) (AE (pv 6))) (fun h1 h2 h3=>MX h1 (MT h2 h3 (Tb (by have:=hr.units;exact this)))))
  (Aj (Ee (pv 3) (AX Ib LN hr rfl (AA (AE (pv 5)) (AA (AX Fs HU hr rfl (AA (AE (pv 6)) AG)) AG))) (fun ho ha=>D9 (Gv ao bC bD EE ho ha)))))))
 (Aj (Ir (pv 3))))))))
def Pr:Ak ["tree", "cuts", "bough", "wider", "left", "parts", "trunk", "more"] ["tree"] (AV IK):=Cq
def Lq(AH:MD)(BR:MD):DF :=
 (Ap (Ca 1 (JP (AB (DZ (AB (DZ AI) (AB (JP AI) AI))) AI)))
 (Ap (Ek (D6 (nm 0)) (JL 2)
  (Ap (KL 3 AI)
  (Ap (Ek (D6 (nm 1)) (DV 4 5)
   (Ap (LV 3 (DZ (AB (nm 4) (AB (AQ Bx (nm 5) (JP (AB (nm 2) AI))) AI))))
   (Ek (D6 (AU BR (AB (nm 2) AI))) (DV 6 7)
    (LV 3 (DZ (AB (AQ Bx (nm 4) (DZ (AB (nm 6) AI))) (AB (AQ Bx (nm 5) (nm 7)) AI)))))))
  (N9 3 (Ca 1 (nm 3))))))
 (M7 (CO (DV 1 2) EL (DZ (AB (AU AH (AB (nm 1) AI)) (AB (AU (JF true) (AB (nm 2) AI)) AI))) [none,none,none] (D6 (nm 1))))))
def BR(AH:MD):Nat→MD
 |0=>fun _=>none
 |n+1=>DR ["tree"] ["tree", "cuts", "bough", "wider", "left", "parts", "trunk", "more"] (Lq AH (BR AH n))
def Kq{k:Nat}{AH:MD}(Cm:Fn K mg "cuts_within" IK ["tree"] f fd)
 {Bl:AD}{Bb:FuncData}(Au:Fn K mg "in_falling_order" DK ["boughs"] Bl Bb)(Ab:AN P w K mg base Ar k Bl Bb ["boughs"] (BJ AH))(Bz:mg "sorted" = none):∀n,
  AN P w K mg base Ar (k+n+1) f fd ["tree"] (BJ (BR AH n))
 |0=>J6 fun _ _ _ _ ⟨_,_,_,h,_⟩=>by cases h
 |n+1=>by
  have sc:=Pr;have Es:=Kq (k:=k) (AH:=AH) Cm Au Ab Bz n;have Ab:=Ab.mono (show k≤k+n+1 by omega);refine HE (k:=k+n+1) (F:=Lq AH (BR AH n)) Cm sc fun cdv A outer s H E hr=>?_;exact(AR (B2 (i:=1) sc.nd rfl (Or.inl rfl) (Gf (AA (B8 (AA (B8 AG) (AA (Gf AG) AG))) AG)))
 (AR (De aa rfl (Dd (AE (pv 0))) (E6 (BE (i:=2) sc.nd rfl (Or.inl rfl)))
  (AR (Gr (i:=3) sc.nd rfl (Or.inl rfl) AG)
  (AR (De aa rfl (Dd (AE (pv 1))) (K0 (Ht rfl (CH (BE (i:=4) sc.nd rfl (Or.inl rfl)) (CH (BE (i:=5) sc.nd rfl (Or.inl rfl)) GR))))
   (AR (Ee (pv 3) (B8 (AA (AE (pv 4)) (AA (Aa BZ (AE (pv 5)) (Gf (AA (AE (pv 2)) AG))) AG))) (fun ho ha=>D9 (Gv ao bC bD EE ho ha)))
   (Aj (De aa rfl (Dd (AX Cm Es hr rfl (AA (AE (pv 2)) AG))) (K0 (Ht rfl (CH (BE (i:=6) sc.nd rfl (Or.inl rfl)) (CH (BE (i:=7) sc.nd rfl (Or.inl rfl)) GR))))
    (Aj (Ee (pv 3) (B8 (AA (Aa BZ (AE (pv 4)) (B8 (AA (AE (pv 6)) AG))) (AA (Aa BZ (AE (pv 5)) (AE (pv 7))) AG))) (fun ho ha=>D9 (Gv ao bC bD EE ho ha))))))))
  (Aj (K4 3 (B2 (i:=1) sc.nd rfl (Or.inl rfl) (AE (pv 3))))))))
 (Aj (Z7 [".0", "left", "parts"] 1 2 [none,none,none] (Dd (AE (pv 1))) (fun _ _ _ _ _=>GQ) (fun _ _ _ _ _=>(B8 (AA (AX Au Ab hr rfl (AA (AE (pv 1)) AG)) (AA (Sl (by have:=hr.units;exact this) rfl Bz (AA (AE (pv 2)) AG) (fun h=>T9 (by have:=hr.units;exact this) rfl Bz h)) AG))))))))
def Mp:Ak ["tree"] ["tree"] (AV Hl):=Cq
def Ug(BR:MD)(A4:MD):DF :=
 (Ap (cU (AU A4 (AB (nm 0) AI)))
 (EX (AQ Bx (JP (AB (DZ (AB (fC .none) (AB (JP (AB (nm 0) AI)) AI))) AI)) (AU UC (AB (AU BR (AB (nm 0) AI)) AI)))))
def BP(BR:MD)(A4:MD):MD:=DR ["tree"] ["tree"] (Ug BR A4)
def UL{k:Nat}{BR:MD}{A4:MD}(F:Fn K mg "tree_cuts" Hl ["tree"] f fd)
 {Lx:AD}{Kw:FuncData}(Cm:Fn K mg "cuts_within" IK ["tree"] Lx Kw)(Es:AN P w K mg base Ar k Lx Kw ["tree"] (BJ BR))
 {Dx:AD}{Dc:FuncData}(CQ:Fn K mg "refuse_no_tree" El ["thing"] Dx Dc)(Cz:AN P w K mg base Ar k Dx Dc ["thing"] (BJ A4))(Bz:mg "sorted" = none) :
  AN P w K mg base Ar (k+1) f fd ["tree"] (BJ (BP BR A4)):=HE F Mp fun cdv A outer s H E hr=>by
 have sc:=Mp;exact(AR (VF (AX CQ Cz hr rfl (AA (AE (pv 0)) AG)))
 (Aj (Ct (Aa BZ (Gf (AA (B8 (AA Xw (AA (Gf (AA (AE (pv 0)) AG)) AG))) AG)) (Fb (Zf (by have:=hr.units;exact this)) rfl Bz PyProof.Rows.boot_sorted (AA (AX Cm Es hr rfl (AA (AE (pv 0)) AG)) AG))))))
def L4:Ak ["cut", "ahead", "behind", "top", "bottom", "part"] ["cut", "ahead", "behind"] (AV Hk):=Cq
def Nn:DF :=
 (Ap (Ca 3 (AQ CP (AQ FU (nm 2) (AQ CP (nm 0) (fC (.int 0)))) (fC (.int 0))))
 (Ap (Ca 4 (AQ CP (AQ FU (nm 2) (AQ CP (nm 0) (fC (.int 0)))) (fC (.int 1))))
 (Ap (Ek (D6 (AQ CP (nm 0) (fC (.int 1)))) (JL 5)
  (Ap (Ca 3 (AQ Cg (nm 3) (AQ CP (AQ FU (nm 1) (nm 5)) (fC (.int 0)))))
  (Ca 4 (AQ Cg (nm 4) (AQ CP (AQ FU (nm 1) (nm 5)) (fC (.int 1)))))))
 (EX (DZ (AB (nm 3) (AB (nm 4) AI)))))))
def Aw:MD:=DR ["cut", "ahead", "behind"] ["cut", "ahead", "behind", "top", "bottom", "part"] (Nn)
def Tj{k:Nat}(F:Fn K mg "cut_share" Hk ["cut", "ahead", "behind"] f fd) :
  AN P w K mg base Ar (k+1) f fd ["cut", "ahead", "behind"] (BJ (Aw)):=HE F L4 fun cdv A outer s H E hr=>by
 have sc:=L4;exact(AR (B2 (i:=3) sc.nd rfl (Or.inl rfl) (Bt (GI (by have:=hr.units;exact this) (AE (pv 2)) (Bt (AE (pv 0)) AK (fun _ _=>rfl)) (fun _ _=>rfl)) AK (fun _ _=>rfl)))
 (AR (B2 (i:=4) sc.nd rfl (Or.inl rfl) (Bt (GI (by have:=hr.units;exact this) (AE (pv 2)) (Bt (AE (pv 0)) AK (fun _ _=>rfl)) (fun _ _=>rfl)) AK (fun _ _=>rfl)))
 (AR (De aa rfl (Dd (Bt (AE (pv 0)) AK (fun _ _=>rfl))) (E6 (BE (i:=5) sc.nd rfl (Or.inl rfl)))
  (AR (B2 (i:=3) sc.nd rfl (Or.inl rfl) (Aa Cf (AE (pv 3)) (Bt (GI (by have:=hr.units;exact this) (AE (pv 1)) (AE (pv 5)) (fun _ _=>rfl)) AK (fun _ _=>rfl))))
  (Aj (B2 (i:=4) sc.nd rfl (Or.inl rfl) (Aa Cf (AE (pv 4)) (Bt (GI (by have:=hr.units;exact this) (AE (pv 1)) (AE (pv 5)) (fun _ _=>rfl)) AK (fun _ _=>rfl)))))))
 (Aj (Ct (B8 (AA (AE (pv 3)) (AA (AE (pv 4)) AG))))))))
def G9:Ak ["one", "other", "reach", "trees", "ahead", "behind"] ["one", "other"] (AV FC):=Cq
def FE(Aw:MD)(Ag:MD)(BP:MD)(A0:List PD→Option Xr)(AY:List PD→Option Xr)(C_NotAlike:AD):FQ :=
 (Hz (Mx AY (AB (nm 0) AI) fun z δ=>.nx (δ.set 2 (.d z)))
 (Hz (VU (ER (HH true) (AU (good AY) (AB (nm 1) AI)) (nm 2))
  (Mh C_NotAlike (fC (.str (Str.ofString "weighings are composed where they reach equally far"))))
  (fun δ=>some (.inl (.nx δ))))
 (Hz (Mx A0 (AB (nm 2) AI) fun z δ=>.nx (δ.set 3 (.d z)))
 (Q5 (Ap (UG 4 (AB (nm 3) (AB (nm 0) AI)))
 (Ap (UG 5 (AB (nm 3) (AB (nm 1) AI)))
 (Ap (Sy 5 (DZ (AB (fC (.int 1)) (AB (fC (.int 1)) AI))) (fC .none))
 (N9 5 (N9 4 (M7 (CO (Co 1) EL (AU Ag (AB (D3 (Co 1) EL (AU Aw (AB (nm 1) (AB (nm 2) (AB (nm 3) AI)))) [none,none,some 2,some 3] (D6 (AU BP (AB (nm 1) AI)))) AI)) [none,none,some 4,some 5] (D6 (nm 3)))))))))))))
def BO(Aw:MD)(Ag:MD)(BP:MD)(A0:List PD→Option Xr)(AY:List PD→Option Xr)(C_NotAlike:AD):List PD→Option Xr:=Fw ["one", "other"] ["one", "other", "reach", "trees", "ahead", "behind"] (FE Aw Ag BP A0 AY C_NotAlike)
def Lb{k:Nat}{Aw:MD}{Ag:MD}{BP:MD}{A0:List PD→Option Xr}{AY:List PD→Option Xr}{C_NotAlike:AD}(F:Fn K mg "weighing_composed" FC ["one", "other"] f fd)
 {F4:AD}{FV:FuncData}(EJ:Fn K mg "cut_share" Hk ["cut", "ahead", "behind"] F4 FV)(E8:AN P w K mg base Ar k F4 FV ["cut", "ahead", "behind"] (BJ Aw))
 {B4:AD}{Bq:FuncData}(Bf:Fn K mg "frac_total" EY ["some"] B4 Bq)(Bp:AN P w K mg base Ar k B4 Bq ["some"] (BJ Ag))
 {F6:AD}{FT:FuncData}(EI:Fn K mg "tree_cuts" Hl ["tree"] F6 FT)(E7:AN P w K mg base Ar k F6 FT ["tree"] (BJ BP))
 {EC:AD}{Dr:FuncData}(C8:Fn K mg "trees_to" Gg ["most"] EC Dr)(Di:AN P w K mg base (CS P w) k EC Dr ["most"] (FJ A0))
 {B3:AD}{Bw:FuncData}(BN:Fn K mg "weighing_reach" Dy ["weighing"] B3 Bw)(BX:AN P w K mg base (CS P w) k B3 Bw ["weighing"] (FJ AY))(JK:mg "dict" = none)(Hg:mg "zip" = none)(X_NotAlike:Exc K mg "NotAlike" C_NotAlike) :
  AN P w K mg base (CS P w) (k+1) f fd ["one", "other"] (FJ (BO Aw Ag BP A0 AY C_NotAlike)):=PY F G9 fun cdv A outer s H E hr=>by
 have sc:=G9;exact(Fc (by exact Xj (i:=2) BN BX hr LW (by exact(AA (AE (pv 0)) AG)) sc.nd (Or.inl rfl))
 (Fc (Rg (Ez (Rr (by have:=hr.units;exact this)) (AX BN (Ic BX) hr rfl (AA (AE (pv 1)) AG)) (AE (pv 2)) (Bn _))
  (K6 (by exact LM X_NotAlike R8 PM))
  M5)
 (Fc (by exact Xj (i:=3) C8 Di hr LW (by exact(AA (AE (pv 2)) AG)) sc.nd (Or.inl rfl))
 (Kk (AR (WS (i:=4) rfl (by have:=hr.units;exact this) rfl JK rfl Hg (AA (AE (pv 3)) (AA (AE (pv 0)) AG)) sc.nd rfl (Or.inr rfl))
 (AR (WS (i:=5) rfl (by have:=hr.units;exact this) rfl JK rfl Hg (AA (AE (pv 3)) (AA (AE (pv 1)) AG)) sc.nd rfl (Or.inr rfl))
 (AR (OV (pv 5) Xw (B8 (AA AK (AA AK AG))) (fun h1 h2 h3=>MX h1 (MT h2 h3 (Tb (by have:=hr.units;exact this)))))
 (Aj (K4 5 (K4 4 (QA [".0", "tree", "ahead", "behind"] 1 [none,none,some 4,some 5] (Dd (AE (pv 3))) (fun _ _ _ _ _=>GQ) (fun _ _ _ _ _=>(AX Bf Bp hr rfl (AA (Vf [".0", "cut", "ahead", "behind"] 1 [none,none,some 2,some 3] (Dd (AX EI E7 hr rfl (AA (AE (pv 1)) AG))) (fun _ _ _ _ _=>GQ) (fun _ _ _ _ _=>(AX EJ E8 hr rfl (AA (AE (pv 1)) (AA (AE (pv 2)) (AA (AE (pv 3)) AG)))))) AG))))))))))))))
def Hw:Ak ["weighing", "trees", "ahead", "behind", "tree", "others"] ["weighing"] (AV F0):=Cq
def Fx(Aw:MD)(Eb:MD)(Ag:MD)(BP:MD)(A0:List PD→Option Xr)(AY:List PD→Option Xr):FQ :=
 (Hz (xE (EO (Gz (EO (Hy (AB (nm 0) AI)) AY) (Hy AI)) A0) fun x δ=>.nx (δ.set 1 (.d x)))
 (Q5 (Ap (UG 2 (AB (nm 1) (AB (nm 0) AI)))
 (Ap (X5 3 1 1)
 (Ap (Ek (D6 (nm 1)) (JL 4)
  (Ap (N9 2 (Ca 5 (Mu 3 (D3 (Co 1) (ER (HH true) (AQ CP (nm 1) (fC (.int 0))) (nm 4)) (AU Aw (AB (nm 1) (AB (nm 2) (AB (nm 3) AI)))) [none,none,some 2,some 3,some 4] (D6 (AU BP (AB (nm 4) AI)))))))
  (Sy 3 (AU Eb (AB (AU Ag (AB (nm 5) AI)) (AB (DZ (AB (jL (fC (.int 1))) (AB (fC (.int 1)) AI))) AI))) (nm 4))))
 (N9 3 (M7 (CO (Co 1) EL (AQ FU (nm 2) (nm 1)) [none,none,some 3] (D6 (nm 1))))))))))
def Bd(Aw:MD)(Eb:MD)(Ag:MD)(BP:MD)(A0:List PD→Option Xr)(AY:List PD→Option Xr):List PD→Option Xr:=Fw ["weighing"] ["weighing", "trees", "ahead", "behind", "tree", "others"] (Fx Aw Eb Ag BP A0 AY)
def MV{k:Nat}{Aw:MD}{Eb:MD}{Ag:MD}{BP:MD}{A0:List PD→Option Xr}{AY:List PD→Option Xr}(F:Fn K mg "weighing_undone" F0 ["weighing"] f fd)
 {F4:AD}{FV:FuncData}(EJ:Fn K mg "cut_share" Hk ["cut", "ahead", "behind"] F4 FV)(E8:AN P w K mg base Ar k F4 FV ["cut", "ahead", "behind"] (BJ Aw))
 {MP:AD}{Ly:FuncData}(G7:Fn K mg "frac_times" Jc ["one", "other"] MP Ly)(Jg:AN P w K mg base Ar k MP Ly ["one", "other"] (BJ Eb))
 {B4:AD}{Bq:FuncData}(Bf:Fn K mg "frac_total" EY ["some"] B4 Bq)(Bp:AN P w K mg base Ar k B4 Bq ["some"] (BJ Ag))
 {F6:AD}{FT:FuncData}(EI:Fn K mg "tree_cuts" Hl ["tree"] F6 FT)(E7:AN P w K mg base Ar k F6 FT ["tree"] (BJ BP))
 {EC:AD}{Dr:FuncData}(C8:Fn K mg "trees_to" Gg ["most"] EC Dr)(Di:AN P w K mg base (CS P w) k EC Dr ["most"] (FJ A0))
 {B3:AD}{Bw:FuncData}(BN:Fn K mg "weighing_reach" Dy ["weighing"] B3 Bw)(BX:AN P w K mg base (CS P w) k B3 Bw ["weighing"] (FJ AY))(JK:mg "dict" = none)(Hg:mg "zip" = none) :
  AN P w K mg base (CS P w) (k+1) f fd ["weighing"] (FJ (Bd Aw Eb Ag BP A0 AY)):=PY F Hw fun cdv A outer s H E hr=>by
 have sc:=Hw;exact(Fc (by exact Vr (i:=1) (Lc C8 Di hr LW (T2 (Lc BN BX hr LW (Ot (by exact(AA (AE (pv 0)) AG)))) (Ot (by exact AG)))) sc.nd (Or.inl rfl))
 (Kk (AR (WS (i:=2) rfl (by have:=hr.units;exact this) rfl JK rfl Hg (AA (AE (pv 1)) (AA (AE (pv 0)) AG)) sc.nd rfl (Or.inr rfl))
 (AR (Zo (i:=3) (by have:=hr.units;exact this) sc.nd rfl (Or.inr rfl))
 (AR (De aa rfl (Dd (AE (pv 1))) (E6 (BE (i:=4) sc.nd rfl (Or.inr rfl)))
  (AR (K4 2 (Ui (i:=5) 3 [".0", "cut", "ahead", "behind", "tree"] 1 [none,none,some 2,some 3,some 4] sc.nd rfl rfl (Dd (AX EI E7 hr rfl (AA (AE (pv 4)) AG))) (fun _ _ _ _ _=>(dk (Ez (Rr (by have:=hr.units;exact this)) (Bt (AE (pv 1)) AK (fun _ _=>rfl)) (AE (pv 4)) (Bn _)))) (fun _ _ _ _ _=>(AX EJ E8 hr rfl (AA (AE (pv 1)) (AA (AE (pv 2)) (AA (AE (pv 3)) AG)))))))
  (Aj (OV (pv 3) (AE (pv 4)) (AX G7 Jg hr rfl (AA (AX Bf Bp hr rfl (AA (AE (pv 5)) AG)) (AA (B8 (AA (X7 AK) (AA AK AG))) AG))) (fun h1 h2 h3=>MX h1 (MT h2 h3 (Tb (by have:=hr.units;exact this))))))))
 (Aj (K4 3 (QA [".0", "tree", "behind"] 1 [none,none,some 3] (Dd (AE (pv 1))) (fun _ _ _ _ _=>GQ) (fun _ _ _ _ _=>(GI (by have:=hr.units;exact this) (AE (pv 2)) (AE (pv 1)) (fun _ _=>rfl)))))))))))
def ML:Ak ["_law_script", "_law_k", "_law_cell_here", "_law_number"] ["_law_script", "_law_k"] (AV Hj):=Cq
def KS:DF :=
 (Ap (Ca 2 (fC (.int 0)))
 (Ap (MY (ER (GY fun i j=>decide (i<j)) (nm 1) (AU Ji (AB (nm 0) AI)))
  (Ca 2 (AQ CP (nm 0) (nm 1)))
  J0)
 (Ap (MY (ER (GY fun i j=>decide (j≤i)) (nm 2) (AQ Mk (fC (.int 10)) (fC (.int 18))))
  (EX (AQ Cb (AQ Me (nm 2) (AQ Mk (fC (.int 10)) (fC (.int 18)))) (AQ Mk (fC (.int 10)) (fC (.int 60)))))
  J0)
 (Ap (Ca 3 (AQ Cb (AQ Bx (AQ Bx (AQ Cg (nm 2) (fC (.int 48271))) (AQ Cg (nm 1) (fC (.int 69621)))) (fC (.int 11))) (fC (.int 2147483629))))
 (Ap (Ca 3 (AQ Cb (AQ Cg (nm 3) (nm 3)) (fC (.int 2147483587))))
 (EX (AQ Bx (AQ Cg (nm 3) (fC (.int 2147483563))) (AQ Cb (AQ Cg (nm 3) (nm 3)) (fC (.int 2147483563))))))))))
def Ae:MD:=DR ["_law_script", "_law_k"] ["_law_script", "_law_k", "_law_cell_here", "_law_number"] (KS)
def US{k:Nat}(F:Fn K mg "_law_cell" Hj ["_law_script", "_law_k"] f fd)(Dz:mg "len" = none) :
  AN P w K mg base Ar (k+1) f fd ["_law_script", "_law_k"] (BJ (Ae)):=HE F ML fun cdv A outer s H E hr=>by
 have sc:=ML;exact(AR (B2 (i:=2) sc.nd rfl (Or.inl rfl) AK)
 (AR (My (Ez Vw (AE (pv 1)) (Fb MO rfl Dz PySem.boot_len (AA (AE (pv 0)) AG)) (Bn _))
  (Aj (B2 (i:=2) sc.nd rfl (Or.inl rfl) (Bt (AE (pv 0)) (AE (pv 1)) (fun _ _=>rfl))))
  Iy)
 (AR (My (Ez cX (AE (pv 2)) (Aa Qe AK AK) (Bn _))
  (Aj (Ct (Aa Cj (Aa Ke (AE (pv 2)) (Aa Qe AK AK)) (Aa Qe AK AK))))
  Iy)
 (AR (B2 (i:=3) sc.nd rfl (Or.inl rfl) (Aa Cj (Aa BZ (Aa BZ (Aa Cf (AE (pv 2)) AK) (Aa Cf (AE (pv 1)) AK)) AK) AK))
 (AR (B2 (i:=3) sc.nd rfl (Or.inl rfl) (Aa Cj (Aa Cf (AE (pv 3)) (AE (pv 3))) AK))
 (Aj (Ct (Aa BZ (Aa Cf (AE (pv 3)) AK) (Aa Cj (Aa Cf (AE (pv 3)) (AE (pv 3))) AK)))))))))
def NT:Ak ["_law_one", "_law_other"] ["_law_one", "_law_other"] (AV LU):=Cq
def PB(Ad:MD):DF :=
 (EX (AU Ad (AB (AQ Bx (AQ Cg (AQ CP (nm 0) (fC (.int 0))) (AQ CP (nm 1) (fC (.int 1)))) (AQ Cg (AQ CP (nm 1) (fC (.int 0))) (AQ CP (nm 0) (fC (.int 1))))) (AB (AQ Cg (AQ CP (nm 0) (fC (.int 1))) (AQ CP (nm 1) (fC (.int 1)))) AI))))
def Dl(Ad:MD):MD:=DR ["_law_one", "_law_other"] ["_law_one", "_law_other"] (PB Ad)
def UT{k:Nat}{Ad:MD}(F:Fn K mg "_law_add" LU ["_law_one", "_law_other"] f fd)
 {CL:AD}{B6:FuncData}(Bi:Fn K mg "_law_frac" E5 ["_law_top", "_law_bottom"] CL B6)(Bu:AN P w K mg base Ar k CL B6 ["_law_top", "_law_bottom"] (BJ Ad)) :
  AN P w K mg base Ar (k+1) f fd ["_law_one", "_law_other"] (BJ (Dl Ad)):=HE F NT fun cdv A outer s H E hr=>by
 have sc:=NT;exact(Aj (Ct (AX Bi Bu hr rfl (AA (Aa BZ (Aa Cf (Bt (AE (pv 0)) AK (fun _ _=>rfl)) (Bt (AE (pv 1)) AK (fun _ _=>rfl))) (Aa Cf (Bt (AE (pv 1)) AK (fun _ _=>rfl)) (Bt (AE (pv 0)) AK (fun _ _=>rfl)))) (AA (Aa Cf (Bt (AE (pv 0)) AK (fun _ _=>rfl)) (Bt (AE (pv 1)) AK (fun _ _=>rfl))) AG)))))
def Nf:Ak ["_law_one", "_law_other"] ["_law_one", "_law_other"] (AV IY):=Cq
def PJ(Ad:MD):DF :=
 (EX (AU Ad (AB (AQ Cg (AQ CP (nm 0) (fC (.int 0))) (AQ CP (nm 1) (fC (.int 0)))) (AB (AQ Cg (AQ CP (nm 0) (fC (.int 1))) (AQ CP (nm 1) (fC (.int 1)))) AI))))
def Be(Ad:MD):MD:=DR ["_law_one", "_law_other"] ["_law_one", "_law_other"] (PJ Ad)
def Uc{k:Nat}{Ad:MD}(F:Fn K mg "_law_mul" IY ["_law_one", "_law_other"] f fd)
 {CL:AD}{B6:FuncData}(Bi:Fn K mg "_law_frac" E5 ["_law_top", "_law_bottom"] CL B6)(Bu:AN P w K mg base Ar k CL B6 ["_law_top", "_law_bottom"] (BJ Ad)) :
  AN P w K mg base Ar (k+1) f fd ["_law_one", "_law_other"] (BJ (Be Ad)):=HE F Nf fun cdv A outer s H E hr=>by
 have sc:=Nf;exact(Aj (Ct (AX Bi Bu hr rfl (AA (Aa Cf (Bt (AE (pv 0)) AK (fun _ _=>rfl)) (Bt (AE (pv 1)) AK (fun _ _=>rfl))) (AA (Aa Cf (Bt (AE (pv 0)) AK (fun _ _=>rfl)) (Bt (AE (pv 1)) AK (fun _ _=>rfl))) AG)))))
def JO:Ak ["_law_script", "_law_at", "_law_reach", "_law_found", "_law_numbers", "_law_k", "_law_number"] ["_law_script", "_law_at", "_law_reach"] (AV Gp):=Cq
def FK(Ae:MD)(Ad:MD):DF :=
 (Ap (KL 3 AI)
 (Ap (KL 4 (AB (AU Ae (AB (nm 0) (AB (nm 1) AI))) (AB (AU Ae (AB (nm 0) (AB (AQ Bx (nm 1) (fC (.int 1))) AI))) AI)))
 (Ap (Ek (GA OG (AB (AQ CP (JP (AB (fC (.int 0)) (AB (fC (.int 1)) (AB (fC (.int 2)) (AB (fC (.int 4)) (AB (fC (.int 8)) (AB (fC (.int 17)) (AB (fC (.int 37)) AI)))))))) (nm 2)) AI)) (JL 5)
  (Ap (Ca 6 (Xx 4 (AQ Cb (nm 5) (fC (.int 2)))))
  (Ap (LV 3 (AU Ad (AB (AQ Me (AQ Cb (nm 6) (fC (.int 11))) (fC (.int 5))) (AB (AQ Bx (fC (.int 1)) (AQ Cb (AQ JJ (nm 6) (fC (.int 11))) (fC (.int 5)))) AI))))
  (Ap (QY 4 (AQ JJ (nm 6) (fC (.int 55))) (AQ Cb (nm 5) (fC (.int 2))))
  (MY (Ro (ER (HH false) (AQ CP (nm 4) (AQ Cb (nm 5) (fC (.int 2)))) (fC (.int 0))))
   (QY 4 (AQ Cb (AQ Cg (AQ Bx (AQ Bx (AU Ae (AB (nm 0) (AB (nm 1) AI))) (AU Ae (AB (nm 0) (AB (AQ Bx (nm 1) (fC (.int 1))) AI)))) (AQ Cg (fC (.int 7919)) (nm 5))) (fC (.int 48271))) (fC (.int 2147483647))) (AQ Cb (nm 5) (fC (.int 2))))
   J0)))))
 (Le 3))))
def Bh(Ae:MD)(Ad:MD):MD:=DR ["_law_script", "_law_at", "_law_reach"] ["_law_script", "_law_at", "_law_reach", "_law_found", "_law_numbers", "_law_k", "_law_number"] (FK Ae Ad)
def OH{k:Nat}{Ae:MD}{Ad:MD}(F:Fn K mg "_law_weighing" Gp ["_law_script", "_law_at", "_law_reach"] f fd)
 {F7:AD}{FX:FuncData}(Cd:Fn K mg "_law_cell" Hj ["_law_script", "_law_k"] F7 FX)(C7:AN P w K mg base Ar k F7 FX ["_law_script", "_law_k"] (BJ Ae))
 {CL:AD}{B6:FuncData}(Bi:Fn K mg "_law_frac" E5 ["_law_top", "_law_bottom"] CL B6)(Bu:AN P w K mg base Ar k CL B6 ["_law_top", "_law_bottom"] (BJ Ad))(Cw:mg "range" = none) :
  AN P w K mg base Ar (k+1) f fd ["_law_script", "_law_at", "_law_reach"] (BJ (Bh Ae Ad)):=HE F JO fun cdv A outer s H E hr=>by
 have sc:=JO;exact(AR (Gr (i:=3) sc.nd rfl (Or.inl rfl) AG)
 (AR (Gr (i:=4) sc.nd rfl (Or.inl rfl) (AA (AX Cd C7 hr rfl (AA (AE (pv 0)) (AA (AE (pv 1)) AG))) (AA (AX Cd C7 hr rfl (AA (AE (pv 0)) (AA (Aa BZ (AE (pv 1)) AK) AG))) AG)))
 (AR (De aa rfl (RK rfl Cw (AA (Bt (Gf (AA AK (AA AK (AA AK (AA AK (AA AK (AA AK (AA AK AG)))))))) (AE (pv 2)) (fun _ _=>rfl)) AG)) (E6 (BE (i:=5) sc.nd rfl (Or.inl rfl)))
  (AR (B2 (i:=6) sc.nd rfl (Or.inl rfl) (ZL (pv 4) (Aa Cj (AE (pv 5)) AK) (fun _ _=>rfl)))
  (AR (Ee (pv 3) (AX Bi Bu hr rfl (AA (Aa Ke (Aa Cj (AE (pv 6)) AK) AK) (AA (Aa BZ AK (Aa Cj (Aa Iu (AE (pv 6)) AK) AK)) AG))) (fun ho ha=>D9 (Gv ao bC bD EE ho ha)))
  (AR (Yb (pv 4) (Aa Cj (AE (pv 5)) AK) (Aa Iu (AE (pv 6)) AK) (fun h1 h2 h3=>MX h1 (MT h2 h3 set_list)))
  (Aj (My (ei (Ez (cq (by have:=hr.units;exact this)) (Bt (AE (pv 4)) (Aa Cj (AE (pv 5)) AK) (fun _ _=>rfl)) AK (Bn _)))
   (Aj (Yb (pv 4) (Aa Cj (AE (pv 5)) AK) (Aa Cj (Aa Cf (Aa BZ (Aa BZ (AX Cd C7 hr rfl (AA (AE (pv 0)) (AA (AE (pv 1)) AG))) (AX Cd C7 hr rfl (AA (AE (pv 0)) (AA (Aa BZ (AE (pv 1)) AK) AG)))) (Aa Cf AK (AE (pv 5)))) AK) AK) (fun h1 h2 h3=>MX h1 (MT h2 h3 set_list))))
   Iy))))))
 (Aj (Ir (pv 3))))))
def Pc(Ae:MD)(Ad:MD):List PD→Option (List PD):=Yk ["_law_script", "_law_at", "_law_reach"] ["_law_script", "_law_at", "_law_reach", "_law_found", "_law_numbers", "_law_k", "_law_number"] (FK Ae Ad)
def MK:Ak ["_law_numbers", "_law_part"] ["_law_numbers", "_law_part"] (AV KP):=Cq
def Nl(Be:MD):DF :=
 (M7 (CO (Co 1) EL (AU Be (AB (nm 1) (AB (nm 2) AI))) [none,none,some 1] (D6 (nm 0))))
def Bv(Be:MD):MD:=DR ["_law_numbers", "_law_part"] ["_law_numbers", "_law_part"] (Nl Be)
def TX{k:Nat}{Be:MD}(F:Fn K mg "_law_many" KP ["_law_numbers", "_law_part"] f fd)
 {Gx:AD}{F5:FuncData}(Eh:Fn K mg "_law_mul" IY ["_law_one", "_law_other"] Gx F5)(Fj:AN P w K mg base Ar k Gx F5 ["_law_one", "_law_other"] (BJ Be)) :
  AN P w K mg base Ar (k+1) f fd ["_law_numbers", "_law_part"] (BJ (Bv Be)):=HE F MK fun cdv A outer s H E hr=>by
 have sc:=MK;exact(Aj (QA [".0", "_law_one", "_law_part"] 1 [none,none,some 1] (Dd (AE (pv 0))) (fun _ _ _ _ _=>GQ) (fun _ _ _ _ _=>(AX Eh Fj hr rfl (AA (AE (pv 1)) (AA (AE (pv 2)) AG))))))
def X3:Ak ["_law_script", "_law_cell_here", "_law_numbers", "_law_one", "_law_two", "_law_first", "_law_second"] ["_law_script"] (AV bq):=Cq
def cv(Dl:MD)(Ae:MD)(Ad:MD)(Bv:MD)(Be:MD)(Bh:MD)(BD:List PD→Option Xr)(BO:List PD→Option Xr)(Bd:List PD→Option Xr):DF :=
 (Ap (Ca 1 (AU Ae (AB (nm 0) (AB (fC (.int 0)) AI))))
 (Ap (Ca 2 (AU Bh (AB (nm 0) (AB (fC (.int 1)) (AB (AQ Cb (nm 1) (fC (.int 6))) AI)))))
 (Ap (Ca 3 (AU Ad (AB (AQ Me (AQ Cb (AQ JJ (nm 1) (fC (.int 6))) (fC (.int 9))) (fC (.int 4))) (AB (AQ Bx (fC (.int 1)) (AQ Cb (AQ JJ (nm 1) (fC (.int 54))) (fC (.int 4)))) AI))))
 (Ap (Ca 4 (AU Ad (AB (AQ Me (AQ Cb (AQ JJ (nm 1) (fC (.int 216))) (fC (.int 9))) (fC (.int 4))) (AB (AQ Bx (fC (.int 1)) (AQ Cb (AQ JJ (nm 1) (fC (.int 2000))) (fC (.int 4)))) AI))))
 (Ap (Ca 5 (AU (good BD) (AB (AU Bv (AB (nm 2) (AB (nm 3) AI))) AI)))
 (Ap (Ca 6 (AU (good BD) (AB (AU Bv (AB (nm 2) (AB (nm 4) AI))) AI)))
 (Ap (MY (ER (HH true) (AU (good BO) (AB (nm 5) (AB (nm 6) AI))) (AU (good BD) (AB (AU Bv (AB (nm 2) (AB (AU Dl (AB (nm 3) (AB (nm 4) AI))) AI))) AI)))
  (EX (fC (.bool false)))
  J0)
 (Ap (MY (ER (HH true) (AU (good Bd) (AB (nm 5) AI)) (AU (good BD) (AB (AU Bv (AB (nm 2) (AB (AU Be (AB (nm 3) (AB (DZ (AB (jL (fC (.int 1))) (AB (fC (.int 1)) AI))) AI))) AI))) AI)))
  (EX (fC (.bool false)))
  J0)
 (EX (AQ (HH false) (AU (good BD) (AB (AU Bv (AB (nm 2) (AB (DZ (AB (fC (.int 0)) (AB (fC (.int 1)) AI))) AI))) AI)) (AQ Cg (JP (AB (DZ (AB (fC (.int 0)) (AB (fC (.int 1)) AI))) AI)) (AU Ji (AB (nm 2) AI)))))))))))))
def cb(Dl:MD)(Ae:MD)(Ad:MD)(Bv:MD)(Be:MD)(Bh:MD)(BD:List PD→Option Xr)(BO:List PD→Option Xr)(Bd:List PD→Option Xr):MD:=DR ["_law_script"] ["_law_script", "_law_cell_here", "_law_numbers", "_law_one", "_law_two", "_law_first", "_law_second"] (cv Dl Ae Ad Bv Be Bh BD BO Bd)
def ie{k:Nat}{Dl:MD}{Ae:MD}{Ad:MD}{Bv:MD}{Be:MD}{Bh:MD}{BD:List PD→Option Xr}{BO:List PD→Option Xr}{Bd:List PD→Option Xr}(F:Fn K mg "law" bq ["_law_script"] f fd)
 {Od:AD}{Nd:FuncData}(Ih:Fn K mg "_law_add" LU ["_law_one", "_law_other"] Od Nd)(Ld:AN P w K mg base Ar k Od Nd ["_law_one", "_law_other"] (BJ Dl))
 {F7:AD}{FX:FuncData}(Cd:Fn K mg "_law_cell" Hj ["_law_script", "_law_k"] F7 FX)(C7:AN P w K mg base Ar k F7 FX ["_law_script", "_law_k"] (BJ Ae))
 {CL:AD}{B6:FuncData}(Bi:Fn K mg "_law_frac" E5 ["_law_top", "_law_bottom"] CL B6)(Bu:AN P w K mg base Ar k CL B6 ["_law_top", "_law_bottom"] (BJ Ad))
 {NV:AD}{Ma:FuncData}(Dq:Fn K mg "_law_many" KP ["_law_numbers", "_law_part"] NV Ma)(EK:AN P w K mg base Ar k NV Ma ["_law_numbers", "_law_part"] (BJ Bv))
 {Gx:AD}{F5:FuncData}(Eh:Fn K mg "_law_mul" IY ["_law_one", "_law_other"] Gx F5)(Fj:AN P w K mg base Ar k Gx F5 ["_law_one", "_law_other"] (BJ Be))
 {Jq:AD}{Je:FuncData}(FH:Fn K mg "_law_weighing" Gp ["_law_script", "_law_at", "_law_reach"] Jq Je)(Gy:AN P w K mg base Ar k Jq Je ["_law_script", "_law_at", "_law_reach"] (BJ Bh))
 {KC:AD}{Jk:FuncData}(CI:Fn K mg "flow_weighing" Gk ["numbers"] KC Jk)(Ce:AN P w K mg base (CS P w) k KC Jk ["numbers"] (FJ BD))
 {HJ:AD}{Gh:FuncData}(D0:Fn K mg "weighing_composed" FC ["one", "other"] HJ Gh)(FD:AN P w K mg base (CS P w) k HJ Gh ["one", "other"] (FJ BO))
 {IU:AD}{Hn:FuncData}(EM:Fn K mg "weighing_undone" F0 ["weighing"] IU Hn)(Fz:AN P w K mg base (CS P w) k IU Hn ["weighing"] (FJ Bd))(Dz:mg "len" = none) :
  AN P w K mg base Ar (k+1) f fd ["_law_script"] (BJ (cb Dl Ae Ad Bv Be Bh BD BO Bd)):=HE F X3 fun cdv A outer s H E hr=>by
 have sc:=X3;exact(AR (B2 (i:=1) sc.nd rfl (Or.inl rfl) (AX Cd C7 hr rfl (AA (AE (pv 0)) (AA AK AG))))
 (AR (B2 (i:=2) sc.nd rfl (Or.inl rfl) (AX FH Gy hr rfl (AA (AE (pv 0)) (AA AK (AA (Aa Cj (AE (pv 1)) AK) AG)))))
 (AR (B2 (i:=3) sc.nd rfl (Or.inl rfl) (AX Bi Bu hr rfl (AA (Aa Ke (Aa Cj (Aa Iu (AE (pv 1)) AK) AK) AK) (AA (Aa BZ AK (Aa Cj (Aa Iu (AE (pv 1)) AK) AK)) AG))))
 (AR (B2 (i:=4) sc.nd rfl (Or.inl rfl) (AX Bi Bu hr rfl (AA (Aa Ke (Aa Cj (Aa Iu (AE (pv 1)) AK) AK) AK) (AA (Aa BZ AK (Aa Cj (Aa Iu (AE (pv 1)) AK) AK)) AG))))
 (AR (B2 (i:=5) sc.nd rfl (Or.inl rfl) (AX CI (Ic Ce) hr rfl (AA (AX Dq EK hr rfl (AA (AE (pv 2)) (AA (AE (pv 3)) AG))) AG)))
 (AR (B2 (i:=6) sc.nd rfl (Or.inl rfl) (AX CI (Ic Ce) hr rfl (AA (AX Dq EK hr rfl (AA (AE (pv 2)) (AA (AE (pv 4)) AG))) AG)))
 (AR (My (Ez (Rr (by have:=hr.units;exact this)) (AX D0 (Ic FD) hr rfl (AA (AE (pv 5)) (AA (AE (pv 6)) AG))) (AX CI (Ic Ce) hr rfl (AA (AX Dq EK hr rfl (AA (AE (pv 2)) (AA (AX Ih Ld hr rfl (AA (AE (pv 3)) (AA (AE (pv 4)) AG))) AG))) AG)) (Bn _))
  (Aj (Ct cQ))
  Iy)
 (AR (My (Ez (Rr (by have:=hr.units;exact this)) (AX EM (Ic Fz) hr rfl (AA (AE (pv 5)) AG)) (AX CI (Ic Ce) hr rfl (AA (AX Dq EK hr rfl (AA (AE (pv 2)) (AA (AX Eh Fj hr rfl (AA (AE (pv 3)) (AA (B8 (AA (X7 AK) (AA AK AG))) AG))) AG))) AG)) (Bn _))
  (Aj (Ct cQ))
  Iy)
 (Aj (Ct (i7 (cq (by have:=hr.units;exact this)) (AX CI (Ic Ce) hr rfl (AA (AX Dq EK hr rfl (AA (AE (pv 2)) (AA (B8 (AA AK (AA AK AG))) AG))) AG)) (Aa Cf (Gf (AA (B8 (AA AK (AA AK AG))) AG)) (Fb MO rfl Dz PySem.boot_len (AA (AE (pv 2)) AG))) (Bn _))))))))))))
end
abbrev mK:MD:=Ax AH 9
abbrev JM(C:AD):List PD→Option Xr:=A0 (Dp mK C) C
def AF:Nat→List Tr
 |0=>[]
 |n+1=>AF n++TH.tz n
abbrev Ay(n:Nat):PD:=.list (B0 (Tr.of (AF n)))
def mO(C:AD):JM C [.int 0]=some (.inl (Ay 0)):=by kernel_rfl
def mG(C:AD):JM C [.int 1]=some (.inl (Ay 1)):=by kernel_rfl
def mM(C:AD):JM C [.int 2]=some (.inl (Ay 2)):=by kernel_rfl
def ma(C:AD):JM C [.int 3]=some (.inl (Ay 3)):=by kernel_rfl
def mf(C:AD):JM C [.int 4]=some (.inl (Ay 4)):=by kernel_rfl
def mX(C:AD):JM C [.int 5]=some (.inl (Ay 5)):=by kernel_rfl
def Wl{n:Nat}(h:n≤5)(C:AD):JM C [.int (n:Nat)]=some (.inl (Ay n)):=by
 rcases n with _|_|_|_|_|_|n
 ·exact mO C
 ·exact mG C
 ·exact mM C
 ·exact ma C
 ·exact mf C
 ·exact mX C
 ·omega
def Bs:Nat→Nat
 |0=>0|1=>1|2=>2|3=>4|4=>8|5=>17|6=>37|_=>85
def CY:∀n,n≤5→(AF n).length=Bs n∧∀t∈AF n,t.deep≤8∧t.AL≤5∧1≤t.AL:=by decide +kernel
def AJ(r:Rat):PD:=.tuple [.int r.num,.int (r.den:Int)]
def fV(r:Rat):FN (AJ r)=true:=by
 have h:=r.den_nz;have k:=r.reduced;rw [AJ,FN,decide_eq_true (show(1:Int)≤(r.den:Int) by omega),Bool.true_and];rw [beq_iff_eq];unfold FM.gi;unfold Nat.Coprime at k;rw [show r.num.gcd (r.den:Int)=1 from k]
 rfl
def DU.rat{H:Hp}{q:Rat}{v:V}(h:DU H (AJ q) v):∃p,v=.ref p∧H p=some (.tup (QN q)):=h.ints (ps:=[q.num,(q.den:Int)])
def J8:PD→Rat
 |.tuple [.int a,.int b]=>Rat.divInt a b
 |_=>0
def FW(r:Rat):J8 (AJ r)=r:=FM.DB r
def Ki(r:Rat):(AJ r).canLay0=true:=by unfold AJ;simp only [PyData.canLay0];exact UR [r.num,(r.den:Int)]
open Classical in
noncomputable def mT(ds:List PD):Option PD:=match ds with
 |[x,y]=>if ∃p q,x=AJ p∧y=AJ q∧FM.Fits p 400∧FM.Fits q 400 then some (AJ (J8 x*J8 y)) else none
 |_=>none
def kZ{p q:Rat}(hp:FM.Fits p 400)(hq:FM.Fits q 400):mT [AJ p,AJ q]=some (AJ (p*q)):=by
 unfold mT;refine(if_pos ⟨p,q,rfl,rfl,hp,hq⟩).trans ?_;rw [FW,FW]
section
variable{P:Program}{w:World}{K:Fg}{mg:Str→Option VL}{base:Heap}{CX:GN}{k:Nat}{f:AD}{fd:FuncData}{ps:List Str}
def toT(F:AN P w K mg base CX k f fd ps (Wn K (fun p q=>p*q) fun _=>True)):AN P w K mg base CX k f fd ps (BJ mT) :=
 Iq F fun ds x hm G H vs Q E d e kk=>by
  unfold mT at hm;split at hm
  ·split at hm
   ·rename_i hh;obtain⟨p,q,rfl,rfl,hp,hq⟩:=hh;cases hm;rw [FW,FW]at kk;obtain⟨v1,v2,rfl,d1,d2⟩:=d.NW;obtain⟨a,rfl,ha⟩:=(NF (Ki p) (d1.same e)).rat;obtain⟨b,rfl,hb⟩:=(NF (Ki q) (d2.same e)).rat;refine⟨_,_,p,q,400,rfl,.of ha,.of hb,hp,hq,by decide,trivial,fun l H' e' hl'=>?_⟩;obtain⟨G',n1,n2,n3,n4⟩:=Rq e e' hl' (JH [(p*q).num,((p*q).den:Int)]);exact kk _ G' H' n1 n2 n3 e' n4
   ·cases hm
  ·cases hm
def Jo(ds:List PD):Option PD:=match ds with
 |[.int t,.int b]=>if b≠0∧b.natAbs<2^400 then some (AJ (Rat.divInt t b)) else none
 |_=>none
def nG(F:AN P w K mg base CX k f fd ps QQ):AN P w K mg base CX k f fd ps (BJ Jo) :=
 Iq F fun ds x hm G H vs Q E d e kk=>by
  unfold Jo at hm;split at hm
  ·split at hm
   ·rename_i hh;cases hm;obtain⟨v1,v2,rfl,d1,d2⟩:=d.NW;rw [Du]at d1 d2;subst d1 d2;refine⟨_,_,400,rfl,hh.1,by decide,hh.2,fun l H' e' hl'=>?_⟩;obtain⟨G',n1,n2,n3,n4⟩:=Rq e e' hl' (JH [(Rat.divInt _ _).num,((Rat.divInt _ _).den:Int)]);exact kk _ G' H' n1 n2 n3 e' n4
   ·cases hm
  ·cases hm
end
def SY{n:Nat}{ds:List PD}(h:∀d∈ds,Ok n d):WB n ds:=by
 induction ds with
 |nil=>exact⟨by simp [PyData.canLayAll0],by simp [PyData.depthAll]⟩
 |cons d ds ih =>
  obtain⟨a,b⟩:=h d (.head _);obtain⟨a',b'⟩:=ih fun e he=>h e (.tail _ he);exact⟨by simp only [PyData.canLayAll0];rw [a,a'];rfl,by simp only [PyData.depthAll];omega⟩
def mU{n:Nat}{ds:List PD}(h:∀d∈ds,Ok n d):Ok (n+1) (.list ds):=.lst (SY h)
def nH{n:Nat}{ds:List PD}(h:∀d∈ds,Ok n d):Ok (n+1) (.tuple ds):=.tup (SY h)
def fi(r:Rat):Ok 1 (AJ r):=nH (n:=0) fun d hd=>by
 rcases aK.mp hd with rfl|hd
 ·exact .int
 ·rw [List.mem_singleton.mp hd];exact .int
def ne_self{x:PD}{n:Nat}(h:Ok n x)(hn:n≤64):HH true x x=some (.bool false):=by
 refine(if_pos ⟨h.shaped hn,h.shaped hn⟩).trans ?_;rw [OE x h.1];rfl
def ZS{x:PD}{n:Nat}(h:Ok n x)(hn:n≤64):HH false x x=some (.bool true):=by
 refine(if_pos ⟨h.shaped hn,h.shaped hn⟩).trans ?_;rw [OE x h.1];rfl
def dr(x y:Int):HH false (.int x) (.int y)=some (.bool (decide (x=y))):=by
 have h:SeqAt.shaped (.int x)=true∧SeqAt.shaped (.int y)=true:=⟨(Ok.int (n:=0)).shaped (by decide),(Ok.int (n:=0)).shaped (by decide)⟩;refine(if_pos h).trans ?_;simp [PyData.eqv];exact Bool.eq_iff_iff.mpr (by simp)
def W7{i:Nat}{f g:Dv→Option PD}{δ:Dv}{y:PD}{p:Nat}{xs:List PD}(h:f δ=some y)(k:g δ=some (.int (p:Nat)))(o:ow i δ=some xs)(hp:p<xs.length):QY i f g δ=some (.nx (δ.set i (.own (.lst (xs.set p y))))):=by
 show(f δ).bind _=_;rw [h];show(g δ).bind _=_;rw [k];show(ow i δ).bind _=_;rw [o];show(MM xs.length (p:Int)).map _=_;have:MM xs.length (p:Int)=some p:=by
  unfold MM;rw [if_pos (by omega)]
  first|rfl|(rw [if_pos (by omega)];simp)|simp [hp]
 rw [this];rfl
def OL{i j:Int}{n:Nat}(h1:i.natAbs<2^n)(h2:j.natAbs<2^n)(hn:n≤9000):Cg (.int i) (.int j)=some (.int (i*j)):=OY (by
 unfold Jy;rw [JB (n:=9000) (aH h1 (aS (by decide) hn)),JB (n:=9000) (aH h2 (aS (by decide) hn))];simp)
def div_is{i j:Int}(h:0<j)(h2:j.natAbs<2^64):JJ (.int i) (.int j)=some (.int (i / j)):=by
 refine(if_pos ⟨by omega,JB (aH h2 (aS (by decide) (by decide)))⟩).trans ?_;rw [Int.fdiv_eq_ediv_of_nonneg _ (by omega)]
def MZ{t b:Int}(h:b≠0)(h2:b.natAbs<2^400):Jo [.int t,.int b]=some (AJ (Rat.divInt t b)):=if_pos ⟨h,h2⟩
def PV{F:DF}{δ:Dv}{o:Ou}(h:F δ=some o):Q5 F δ=some (.inl o):=by show(F δ).map _=_;rw [h];rfl
def GL:∀ts:List Tr,B0 (Tr.of ts)=ts.map fun t=>.tuple (B0 t)
 |[]=>rfl
 |t::ts=>by rw [List.map_cons,←GL ts];rfl
abbrev An(ws:List Rat):PD:=.list (ws.map AJ)
def jV(ws:List Rat):Gb (An ws)=true:=by
 show(ws.map AJ).all FN=true;rw [List.all_eq_true];intro d hd;obtain⟨r,_,rfl⟩:=aQ.mp hd;exact fV r
def f7(ws:List Rat):(An ws).canLay0=true:=kQ fun d hd=>by obtain⟨t,_,rfl⟩:=aQ.mp hd;exact Ki t
abbrev gF(C:AD):List PD→Option Xr:=BI (mB Gb) C
abbrev EF(C:AD):List PD→Option Xr:=AY (gF C)
def iU{n:Nat}(hn:n≤5){ws:List Rat}(hl:ws.length=Bs n)(C:AD):gF C [An ws]=some (.inl .none):=by
 refine eN (δ:=[.d (An ws)]) rfl ?_;unfold GZ;refine b7 (kA (eE (VP (Af (xs:=[An ws]) rfl (mj (f7 ws) (jV ws))))) ?_) rfl;refine VP ?_;show cJ true _ (.int ((ws.map AJ).length:Nat))=_;rw [List.length_map,hl];rcases n with _|_|_|_|_|_|n<;>first|rfl|omega
def Li{n:Nat}(hn:n≤5){ws:List Rat}(hl:ws.length=Bs n)(C:AD):EF C [An ws]=some (.inl (.int (n:Nat))):=by
 refine eP rfl ?_;unfold JE;refine Iz (N6 (ds:=[An ws]) rfl (iU hn hl C)) ?_;have e:EX (fun δ=>((AU Ji (AB (nm 0) AI)) δ).bind (Xn [0,1,2,4,8,17,37,85])) [.d (An ws)]=some (.rt (.int (n:Nat))):=by
  refine GU ?_;show Xn _ (.int ((ws.map AJ).length:Nat))=_;rw [List.length_map,hl];rcases n with _|_|_|_|_|_|n<;>first|rfl|omega
 exact PV e
def V5(ws:List Rat):Ok 2 (An ws):=mU fun d hd=>by obtain⟨q,_,rfl⟩:=aQ.mp hd;exact fi q
def QI(ns:List Int)(k:Nat):∃c,Ae [B7 ns,.int (k:Nat)]=some (.int c):=by
 suffices hh:∃c,KS [.d (B7 ns),.d (.int (k:Nat)),.no,.no]=some (.rt (.int c)) by
  obtain⟨c,h⟩:=hh;exact⟨c,HV rfl h⟩
 unfold KS;have e1:∃c0,(MY (ER (GY fun i j=>decide (i<j)) (nm 1) (AU Ji (AB (nm 0) AI))) (Ca 2 (AQ CP (nm 0) (nm 1))) J0) [.d (B7 ns),.d (.int (k:Nat)),.d (.int 0),.no]=some (.nx [.d (B7 ns),.d (.int (k:Nat)),.d (.int c0),.no]):=by
  have t:ER (GY fun i j=>decide (i<j)) (nm 1) (AU Ji (AB (nm 0) AI)) [.d (B7 ns),.d (.int (k:Nat)),.d (.int 0),.no]=some (decide ((k:Int)<((ns.map PyData.int).length:Nat))):=GK (x:=.int (k:Nat)) (y:=.int ((ns.map PyData.int).length:Nat)) rfl rfl rfl;rw [List.length_map]at t;by_cases z:k<ns.length
  ·rw [decide_eq_true (show(k:Int)<(ns.length:Nat) by omega)]at t;exact⟨ns[k],Rj t (CJ (AW (x:=B7 ns) (y:=.int (k:Nat)) rfl rfl (HR (by rw [List.getElem?_map,List.getElem?_eq_getElem z];rfl))))⟩
  ·rw [decide_eq_false (show ¬(k:Int)<(ns.length:Nat) by omega)]at t;exact⟨0,NA t rfl⟩
 obtain⟨c0,e1⟩:=e1;have p18:AQ Mk (fC (.int 10)) (fC (.int 18)) [.d (B7 ns),.d (.int (k:Nat)),.d (.int c0),.no]=some (.int ((10:Int)^18)):=AW (x:=.int 10) (y:=.int 18) rfl rfl (W8 (n:=18) (by decide) (by decide));have p60:AQ Mk (fC (.int 10)) (fC (.int 60)) [.d (B7 ns),.d (.int (k:Nat)),.d (.int c0),.no]=some (.int ((10:Int)^60)):=AW (x:=.int 10) (y:=.int 60) rfl rfl (W8 (n:=60) (by decide) (by decide));have t2:ER (GY fun i j=>decide (j≤i)) (nm 2) (AQ Mk (fC (.int 10)) (fC (.int 18))) [.d (B7 ns),.d (.int (k:Nat)),.d (.int c0),.no]=some (decide ((10:Int)^18≤c0)):=GK (x:=.int c0) (y:=.int ((10:Int)^18)) rfl p18 rfl;by_cases z:(10:Int)^18≤c0
 ·rw [decide_eq_true z]at t2;exact⟨_,A2 rfl (A2 e1 (Vc (Rj t2 (GU (AW (x:=.int (c0-(10:Int)^18)) (AW (x:=.int c0) rfl p18 rfl) p60 (mod_is (Int.pow_pos (by decide))))))))⟩
 ·rw [decide_eq_false z]at t2;have hn:∀(a:Int) (m:Int),0<m→m<2^60→(a % m).natAbs<2^64:=fun a m h0 h1=>by
   have:=Int.emod_nonneg a (by omega:m≠0);have:=Int.emod_lt_of_pos a h0;omega
  generalize hv:(c0*48271+(k:Int)*69621+11) % 2147483629=v;have v1:v.natAbs<2^64:=by rw [←hv];exact hn _ _ (by decide) (by decide)
  generalize hu:v*v % 2147483587=u;have u1:u.natAbs<2^64:=by rw [←hu];exact hn _ _ (by decide) (by decide)
  refine⟨_,A2 rfl (A2 e1 (A2 (NA t2 rfl) (A2 (CJ (y:=.int v) ?_) (A2 (CJ (y:=.int u) ?_) (GU (AW (x:=.int (u*2147483563)) (y:=.int (u*u % 2147483563)) (AW (x:=.int u) (y:=.int 2147483563) rfl rfl (mul_r (by decide))) (AW (x:=.int (u*u)) (y:=.int 2147483563) (AW (x:=.int u) (y:=.int u) rfl rfl (mul_r u1)) rfl (mod_is (by decide))) rfl))))))⟩
  ·refine AW (x:=.int (c0*48271+(k:Int)*69621+11)) (y:=.int 2147483629) (AW (x:=.int (c0*48271+(k:Int)*69621)) (y:=.int 11) (AW (x:=.int (c0*48271)) (y:=.int ((k:Int)*69621)) (AW (x:=.int c0) (y:=.int 48271) rfl rfl (mul_r (by decide))) (AW (x:=.int (k:Nat)) (y:=.int 69621) rfl rfl (mul_r (by decide))) rfl) rfl rfl) rfl ((mod_is (by decide)).trans ?_);rw [hv]
  ·refine AW (x:=.int (v*v)) (y:=.int 2147483587) (AW (x:=.int v) (y:=.int v) rfl rfl (mul_r v1)) rfl ((mod_is (by decide)).trans ?_);rw [hu]
def XU{α:Type}{i j:Nat}{f:Dv→Option PD}{fs:Dv→Option (List PD)}{δ:Dv}{fr:List (Option Nat)}{zs:List α}{a b g:α→PD}(hx:fs δ=some (zs.map fun z=>.tuple [a z,b z]))(hl:zs.length≤Bm)
 (h:∀z∈zs,f (((Bk fr δ).set i (.d (a z))).set j (.d (b z)))=some (g z)):CO (DV i j) EL f fr fs δ=some (zs.map g):=by
 unfold CO;rw [hx,Option.bind_some];have:∀zs:List α,(∀z∈zs,f (((Bk fr δ).set i (.d (a z))).set j (.d (b z)))=some (g z))→L2.collect (Fy (DV i j) EL f (Bk fr δ)) (zs.map fun z=>.tuple [a z,b z])=some (zs.map g):=fun zs=>by
  induction zs with
  |nil=>intro _;rfl
  |cons z zs ih =>
   intro h;rw [List.map_cons,List.map_cons];unfold L2.collect;rw [ih fun y hy=>h y (.tail _ hy)];have e:Fy (DV i j) EL f (Bk fr δ) (.tuple [a z,b z])=some (some (g z)):=by
    unfold Fy DV;rw [Option.bind_some];show(some true).bind _=_;rw [Option.bind_some,if_pos rfl,h z (.head _)]
    rfl
   rw [e];rfl
 rw [this zs h,Option.bind_some,HL,if_pos (by rw [List.length_map];exact hl)]
def KA{α:Type}{i:Nat}{f:Dv→Option PD}{fs:Dv→Option (List PD)}{δ:Dv}{fr:List (Option Nat)}{zs:List α}{a g:α→PD}(hx:fs δ=some (zs.map a))(hl:zs.length≤Bm)
 (h:∀z∈zs,f ((Bk fr δ).set i (.d (a z)))=some (g z)):CO (Co i) EL f fr fs δ=some (zs.map g):=by
 unfold CO;rw [hx,Option.bind_some];have:∀zs:List α,(∀z∈zs,f ((Bk fr δ).set i (.d (a z)))=some (g z))→L2.collect (Fy (Co i) EL f (Bk fr δ)) (zs.map a)=some (zs.map g):=fun zs=>by
  induction zs with
  |nil=>intro _;rfl
  |cons z zs ih =>
   intro h;rw [List.map_cons,List.map_cons];unfold L2.collect;rw [ih fun y hy=>h y (.tail _ hy)];have e:Fy (Co i) EL f (Bk fr δ) (a z)=some (some (g z)):=by
    unfold Fy Co;rw [Option.bind_some];show(some true).bind _=_;rw [Option.bind_some,if_pos rfl,h z (.head _)]
    rfl
   rw [e];rfl
 rw [this zs h,Option.bind_some,HL,if_pos (by rw [List.length_map];exact hl)]
def BC(m:Int)(c:Nat)(q:Rat):Prop:=∃a:Int,q=Rat.divInt a m∧a.natAbs≤c
def BC.mono{m:Int}{c d:Nat}{q:Rat}(h:BC m c q)(l:c≤d):BC m d q:=let⟨a,e,k⟩:=h;⟨a,e,Nat.le_trans k l⟩
def BC.add{m:Int}{c d:Nat}{p q:Rat}(hm:m≠0)(h:BC m c p)(k:BC m d q):BC m (c+d) (p+q):=by
 obtain⟨a,rfl,h1⟩:=h;obtain⟨b,rfl,h2⟩:=k;exact⟨a+b,by rw [Rat.divInt_add_divInt _ _ hm hm,←Int.add_mul,Rat.divInt_mul_right hm],by omega⟩
def BC.mul{m n:Int}{c d:Nat}{p q:Rat}(h:BC m c p)(k:BC n d q):BC (m*n) (c*d) (p*q):=by
 obtain⟨a,rfl,h1⟩:=h;obtain⟨b,rfl,h2⟩:=k;exact⟨a*b,by rw [Rat.divInt_mul_divInt],by rw [Int.natAbs_mul];exact Nat.mul_le_mul h1 h2⟩
def BC.up{m k:Int}{c:Nat}{q:Rat}(hk:k≠0)(h:BC m c q):BC (m*k) (c*k.natAbs) q:=by
 obtain⟨a,rfl,h1⟩:=h;exact⟨a*k,by rw [Rat.divInt_mul_right hk],by rw [Int.natAbs_mul];exact Nat.mul_le_mul h1 (aI _)⟩
def BC.zero{m:Int}{c:Nat}:BC m c 0:=⟨0,by rw [Rat.zero_divInt],by simp⟩
def BC.fits{m:Int}{c n:Nat}{q:Rat}(hm:m≠0)(h:BC m c q)(h1:c<2^n)(h2:m.natAbs<2^n):FM.Fits q n:=by
 obtain⟨a,rfl,h3⟩:=h;exact .gR hm (aX h3 h1) h2
def BC.sum{m:Int}{c:Nat}(hm:m≠0):∀ {l:List Rat} {n:Nat},l.length≤n→(∀q∈l,BC m c q)→BC m (n*c) l.sum
 |[],n,_,_=>by rw [List.sum_nil];exact .zero
 |q::l,0,h,_=>by simp at h
 |q::l,n+1,h,k=>by
  rw [List.sum_cons];have:=(k q (.head _)).add hm (BC.sum hm (l:=l) (n:=n) (by simpa using h) fun x hx=>k x (.tail _ hx));exact this.mono (by rw [Nat.succ_mul];omega)
def eS(v:Int):BC 60 300 (Rat.divInt (v % 11-5) (1+v / 11 % 5)):=by
 have h:v / 11 % 5=0∨v / 11 % 5=1∨v / 11 % 5=2∨v / 11 % 5=3∨v / 11 % 5=4:=by omega
 have go:∀(b k:Int),k≠0→b*k=60→k.natAbs≤60→BC 60 300 (Rat.divInt (v % 11-5) b):=fun b k hk e hl=>⟨(v % 11-5)*k,by rw [←e,Rat.divInt_mul_right hk],by
  rw [Int.natAbs_mul];have h5:(v % 11-5).natAbs≤5:=by omega
  exact ae (Nat.mul_le_mul h5 hl) (by decide)⟩
 rcases h with h|h|h|h|h<;>rw [h]
 ·exact go _ 60 (by decide) (by decide) (by decide)
 ·exact go _ 30 (by decide) (by decide) (by decide)
 ·exact go _ 20 (by decide) (by decide) (by decide)
 ·exact go _ 15 (by decide) (by decide) (by decide)
 ·exact go _ 12 (by decide) (by decide) (by decide)
def jO{i:Nat}{fs:Dv→Option (List PD)}{δ:Dv}{ys:List PD}(h:fs δ=some ys)(hl:ys.length≤Bm):KL i fs δ=some (.nx (δ.set i (.own (.lst ys)))):=by
 show((fs δ).bind HL).map _=_;rw [h];show(HL ys).map _=_;unfold HL;rw [if_pos hl];rfl
def jE(ns:List Int)(a:Nat){n:Nat}(hn:n≤5):∃ws:List Rat,FK Ae Jo [.d (B7 ns),.d (.int (a:Nat)),.d (.int (n:Nat)),.no,.no,.no,.no]=some (.rn (ws.map AJ))∧ws.length=Bs n∧∀q∈ws,BC 60 300 q:=by
 obtain⟨c1,hc1⟩:=QI ns a;obtain⟨c2,hc2⟩:=QI ns (a+1);have k1:∀(l2 l3 l4 l5 l6:L),AU Ae (AB (nm 0) (AB (nm 1) AI)) [.d (B7 ns),.d (.int (a:Nat)),l2,l3,l4,l5,l6]=some (.int c1):=fun _ _ _ _ _=>Af (xs:=[B7 ns,.int (a:Nat)]) rfl hc1;have k2:∀(l2 l3 l4 l5 l6:L),AU Ae (AB (nm 0) (AB (AQ Bx (nm 1) (fC (.int 1))) AI)) [.d (B7 ns),.d (.int (a:Nat)),l2,l3,l4,l5,l6]=some (.int c2):=fun _ _ _ _ _=>Af (xs:=[B7 ns,.int ((a+1:Nat):Int)]) rfl hc2
 let Iv:Nat→Dv→Prop:=fun i δ=>∃(qs:List Rat) (cs:List Int) (l5 l6:L),δ=[.d (B7 ns),.d (.int (a:Nat)),.d (.int (n:Nat)),.own (.lst (qs.map AJ)),.own (.lst (cs.map .int)),l5,l6]∧qs.length=i∧cs.length=2∧∀q∈qs,BC 60 300 q
 have hr:GA OG (AB (AQ CP (JP (AB (fC (.int 0)) (AB (fC (.int 1)) (AB (fC (.int 2)) (AB (fC (.int 4)) (AB (fC (.int 8)) (AB (fC (.int 17)) (AB (fC (.int 37)) AI)))))))) (nm 2)) AI) [.d (B7 ns),.d (.int (a:Nat)),.d (.int (n:Nat)),.own (.lst []),.own (.lst [.int c1,.int c2]),.no,.no]=some (GD 0 (Bs n)):=by
  have:AQ CP (JP (AB (fC (.int 0)) (AB (fC (.int 1)) (AB (fC (.int 2)) (AB (fC (.int 4)) (AB (fC (.int 8)) (AB (fC (.int 17)) (AB (fC (.int 37)) AI)))))))) (nm 2) [.d (B7 ns),.d (.int (a:Nat)),.d (.int (n:Nat)),.own (.lst []),.own (.lst [.int c1,.int c2]),.no,.no]=some (.int (Bs n:Nat)):=by
   refine AW (x:=.list [.int 0,.int 1,.int 2,.int 4,.int 8,.int 17,.int 37]) (y:=.int (n:Nat)) rfl rfl (HR ?_);rcases n with _|_|_|_|_|_|n<;>first|rfl|omega
  have h85:Bs n≤85:=by rcases n with _|_|_|_|_|_|n<;>first|decide|omega
  exact(Xl this (by omega) (by omega)).trans (by rw [Int.toNat_natCast])
 have step:∀(i:Nat) (x:PD) (δ:Dv),(GD 0 (Bs n))[i]? = some x→Iv i δ→∃δ1,JL 5 x δ=some δ1∧∃δ2,(Ap (Ca 6 (Xx 4 (AQ Cb (nm 5) (fC (.int 2)))))
  (Ap (LV 3 (AU Jo (AB (AQ Me (AQ Cb (nm 6) (fC (.int 11))) (fC (.int 5))) (AB (AQ Bx (fC (.int 1)) (AQ Cb (AQ JJ (nm 6) (fC (.int 11))) (fC (.int 5)))) AI))))
  (Ap (QY 4 (AQ JJ (nm 6) (fC (.int 55))) (AQ Cb (nm 5) (fC (.int 2))))
  (MY (Ro (ER (HH false) (AQ CP (nm 4) (AQ Cb (nm 5) (fC (.int 2)))) (fC (.int 0))))
   (QY 4 (AQ Cb (AQ Cg (AQ Bx (AQ Bx (AU Ae (AB (nm 0) (AB (nm 1) AI))) (AU Ae (AB (nm 0) (AB (AQ Bx (nm 1) (fC (.int 1))) AI)))) (AQ Cg (fC (.int 7919)) (nm 5))) (fC (.int 48271))) (fC (.int 2147483647))) (AQ Cb (nm 5) (fC (.int 2))))
   J0)))) δ1=some (.nx δ2)∧Iv (i+1) δ2:=by
  rintro i x δ hx ⟨qs,cs,l5,l6,rfl,hq,hc,hf⟩;obtain⟨rfl,hi⟩:=VW hx;rw [Int.zero_add];have hi85:i<85:=by
   have:Bs n≤85:=by rcases n with _|_|_|_|_|_|n<;>first|decide|omega
   omega
  obtain⟨p,hp⟩:∃p:Nat,(i:Int) % 2=(p:Int):=⟨i % 2,by omega⟩;have p2:p<2:=by omega
  have pc:p<cs.length:=by omega
  have em:∀(l0 l1 l2 l3 l4 l6:L),AQ Cb (nm 5) (fC (.int 2)) [l0,l1,l2,l3,l4,.d (.int (i:Nat)),l6]=some (.int (p:Nat)):=fun _ _ _ _ _ _=>AW (x:=.int (i:Nat)) (y:=.int 2) rfl rfl ((mod_is (by decide)).trans (by rw [hp]));have eg:(cs.map PyData.int)[p]? = some (.int cs[p]):=by rw [List.getElem?_map,List.getElem?_eq_getElem pc];rfl
  generalize cs[p]=v at eg;have hb:1+v / 11 % 5≠0:=by omega
  refine⟨[.d (B7 ns),.d (.int (a:Nat)),.d (.int (n:Nat)),.own (.lst (qs.map AJ)),.own (.lst (cs.map .int)),.d (.int (i:Nat)),l6],rfl,?_⟩;refine KH (δ':=[.d (B7 ns),.d (.int (a:Nat)),.d (.int (n:Nat)),.own (.lst (qs.map AJ)),.own (.lst (cs.map .int)),.d (.int (i:Nat)),.d (.int v)]) (CJ (y:=.int v) ?_) ?_
  ·show(AQ Cb (nm 5) (fC (.int 2)) _).bind _=_;rw [em];exact HR eg
  have hd:Rat.divInt (v % 11-5) (1+v / 11 % 5)=Rat.divInt (v % 11-5) (1+v / 11 % 5):=rfl;have fq:BC 60 300 (Rat.divInt (v % 11-5) (1+v / 11 % 5)):=eS v;refine KH (δ':=[.d (B7 ns),.d (.int (a:Nat)),.d (.int (n:Nat)),.own (.lst ((qs++[Rat.divInt (v % 11-5) (1+v / 11 % 5)]).map AJ)),.own (.lst (cs.map .int)),.d (.int (i:Nat)),.d (.int v)]) ?_ ?_
  ·have e:AU Jo (AB (AQ Me (AQ Cb (nm 6) (fC (.int 11))) (fC (.int 5))) (AB (AQ Bx (fC (.int 1)) (AQ Cb (AQ JJ (nm 6) (fC (.int 11))) (fC (.int 5)))) AI)) [.d (B7 ns),.d (.int (a:Nat)),.d (.int (n:Nat)),.own (.lst (qs.map AJ)),.own (.lst (cs.map .int)),.d (.int (i:Nat)),.d (.int v)]=some (AJ (Rat.divInt (v % 11-5) (1+v / 11 % 5))):=by
    refine Af (xs:=[.int (v % 11-5),.int (1+v / 11 % 5)]) (Al (AW (x:=.int (v % 11)) (y:=.int 5) (AW (x:=.int v) (y:=.int 11) rfl rfl (mod_is (by decide))) rfl rfl) (Al (AW (x:=.int 1) (y:=.int (v / 11 % 5)) rfl (AW (x:=.int (v / 11)) (y:=.int 5) (AW (x:=.int v) (y:=.int 11) rfl rfl (div_is (by decide) (by decide))) rfl (mod_is (by decide))) rfl) rfl)) (MZ hb ?_);exact aH (show(1+v / 11 % 5).natAbs<2^4 by omega) (aS (by decide) (by decide))
   show(AU _ _ _).bind _=_;rw [e];show(if(qs.map AJ).length<Bm then _ else _)=_;rw [if_pos (by rw [List.length_map,hq];unfold Bm;omega),List.map_append]
   rfl
  refine KH (W7 (y:=.int (v / 55)) (p:=p) (AW (x:=.int v) (y:=.int 55) rfl rfl (div_is (by decide) (by decide))) (em _ _ _ _ _ _) (xs:=cs.map .int) rfl (by rw [List.length_map];exact pc)) ?_;have es:(cs.map PyData.int).set p (.int (v / 55))=(cs.set p (v / 55)).map PyData.int:=by rw [List.map_set]
  have done:∀cs':List Int,cs'.length=2→Iv (i+1) [.d (B7 ns),.d (.int (a:Nat)),.d (.int (n:Nat)),.own (.lst ((qs++[Rat.divInt (v % 11-5) (1+v / 11 % 5)]).map AJ)),.own (.lst (cs'.map .int)),.d (.int (i:Nat)),.d (.int v)]:=fun cs' h2=>⟨_,cs',_,_,rfl,by rw [List.length_append,hq];rfl,h2,fun q hq'=>by
   rcases ba.mp hq' with h|h
   ·exact hf q h
   ·rw [List.mem_singleton.mp h];exact fq⟩
  show ∃δ2,MY _ _ _ [.d (B7 ns),.d (.int (a:Nat)),.d (.int (n:Nat)),.own (.lst ((qs++[Rat.divInt (v % 11-5) (1+v / 11 % 5)]).map AJ)),.own (.lst ((cs.map PyData.int).set p (.int (v / 55)))),.d (.int (i:Nat)),.d (.int v)]=some (.nx δ2)∧Iv (i+1) δ2;rw [es];have hs2:(cs.set p (v / 55)).length=2:=by rw [List.length_set,hc]
  have et:Ro (ER (HH false) (AQ CP (nm 4) (AQ Cb (nm 5) (fC (.int 2)))) (fC (.int 0))) [.d (B7 ns),.d (.int (a:Nat)),.d (.int (n:Nat)),.own (.lst ((qs++[Rat.divInt (v % 11-5) (1+v / 11 % 5)]).map AJ)),.own (.lst ((cs.set p (v / 55)).map .int)),.d (.int (i:Nat)),.d (.int v)]=some (decide (v / 55=0)):=by
   refine GK (x:=.int (v / 55)) (y:=.int 0) (AW (x:=.list ((cs.set p (v / 55)).map .int)) (y:=.int (p:Nat)) rfl (em _ _ _ _ _ _) (HR ?_)) rfl (dr _ _);rw [List.getElem?_map,List.getElem?_set_self pc];rfl
  by_cases z:v / 55=0
  ·rw [decide_eq_true z]at et;refine⟨_,Rj et (W7 (y:=.int ((c1+c2+7919*(i:Int))*48271 % 2147483647)) (p:=p) ?_ (em _ _ _ _ _ _) (xs:=(cs.set p (v / 55)).map .int) rfl (by rw [List.length_map,hs2];exact p2)),?_⟩
   ·exact AW (x:=.int ((c1+c2+7919*(i:Int))*48271)) (y:=.int 2147483647) (AW (x:=.int (c1+c2+7919*(i:Int))) (y:=.int 48271) (AW (x:=.int (c1+c2)) (y:=.int (7919*(i:Int))) (AW (x:=.int c1) (y:=.int c2) (k1 _ _ _ _ _) (k2 _ _ _ _ _) rfl) (AW (x:=.int 7919) (y:=.int (i:Nat)) rfl rfl (km (by decide))) rfl) rfl (mul_r (by decide))) rfl (mod_is (by decide))
   ·show Iv (i+1) [.d (B7 ns),.d (.int (a:Nat)),.d (.int (n:Nat)),.own (.lst ((qs++[Rat.divInt (v % 11-5) (1+v / 11 % 5)]).map AJ)),.own (.lst (((cs.set p (v / 55)).map PyData.int).set p (.int ((c1+c2+7919*(i:Int))*48271 % 2147483647)))),.d (.int (i:Nat)),.d (.int v)];rw [←List.map_set];exact done _ (by rw [List.length_set,hs2])
  ·rw [decide_eq_false z]at et;exact⟨_,NA et rfl,done _ hs2⟩
 obtain⟨δ',f1,qs,cs,l5,l6,rfl,hq,_,hf⟩:=XF Iv hr ⟨[],[c1,c2],_,_,rfl,rfl,rfl,fun q h=>by cases h⟩ step;refine⟨qs,?_,?_,hf⟩
 ·unfold FK;refine A2 rfl (A2 (δ':=[.d (B7 ns),.d (.int (a:Nat)),.d (.int (n:Nat)),.own (.lst []),.own (.lst [.int c1,.int c2]),.no,.no]) ?_ (A2 f1 rfl));exact jO (i:=4) (ys:=[.int c1,.int c2]) (δ:=[.d (B7 ns),.d (.int (a:Nat)),.d (.int (n:Nat)),.own (.lst []),.no,.no,.no]) (Al (k1 _ _ _ _ _) (Al (k2 _ _ _ _ _) rfl)) (by show(2:Nat)≤Bm;decide)
 ·rw [hq];unfold GD;simp
def Y4(ns:List Int)(a:Nat){n:Nat}(hn:n≤5):∃ws:List Rat,Bh Ae Jo [B7 ns,.int (a:Nat),.int (n:Nat)]=some (An ws)∧Pc Ae Jo [B7 ns,.int (a:Nat),.int (n:Nat)]=some (ws.map AJ)∧ws.length=Bs n∧∀q∈ws,BC 60 300 q :=
 let⟨ws,h,h1,h2⟩:=jE ns a hn
 ⟨ws,Qh rfl h,fB rfl h,h1,h2⟩
open Classical in
noncomputable def mS(ds:List PD):Option PD:=match ds with
 |[x,y]=>if ∃p q,x=AJ p∧y=AJ q∧FM.Fits p 400∧FM.Fits q 400 then some (AJ (J8 x+J8 y)) else none
 |_=>none
def kJ{p q:Rat}(hp:FM.Fits p 400)(hq:FM.Fits q 400):mS [AJ p,AJ q]=some (AJ (p+q)):=by
 unfold mS;refine(if_pos ⟨p,q,rfl,rfl,hp,hq⟩).trans ?_;rw [FW,FW]
abbrev Ea(p:Int×Int):PD:=.tuple [.int p.1,.int p.2]
def cF:PD→Rat
 |.list ds=>(ds.map J8).sum
 |_=>0
open Classical in
noncomputable def F3(ds:List PD):Option PD:=match ds with
 |[x]=>if ∃ps:List (Int×Int),x=.list (ps.map Ea)∧ps.length≤20∧∀p∈ps,1≤p.2∧p.1.natAbs<2^200∧p.2.natAbs<2^200 then some (AJ (cF x)) else none
 |_=>none
def M8{ps:List (Int×Int)}(h1:ps.length≤20)(h2:∀p∈ps,1≤p.2∧p.1.natAbs<2^200∧p.2.natAbs<2^200):F3 [.list (ps.map Ea)]=some (AJ (ps.map fun p=>Rat.divInt p.1 p.2).sum):=by
 unfold F3;refine(if_pos ⟨ps,rfl,h1,h2⟩).trans ?_;show some (AJ ((ps.map Ea).map J8).sum)=_;rw [List.map_map]
 rfl
def kY{G:Hp}{p:Int×Int}{v:V}(h:Du G (Ea p) v):∃c,v=.ref c∧G c=some (.tup [.int p.1,.int p.2]):=by
 rw [Du]at h;obtain⟨c,xs,rfl,h1,h2⟩:=h;obtain⟨x,y,rfl,k1,k2⟩:=h2.NW;rw [Du]at k1 k2;subst k1 k2;exact⟨c,rfl,h1⟩
section
variable{P:Program}{w:World}{K:Fg}{mg:Str→Option VL}{base:Heap}{CX:GN}{k:Nat}{f:AD}{fd:FuncData}{ps:List Str}
def toS(F:AN P w K mg base CX k f fd ps (Wn K (fun p q=>p+q) fun _=>True)):AN P w K mg base CX k f fd ps (BJ mS) :=
 Iq F fun ds x hm G H vs Q E d e kk=>by
  unfold mS at hm;split at hm
  ·split at hm
   ·rename_i hh;obtain⟨p,q,rfl,rfl,hp,hq⟩:=hh;cases hm;rw [FW,FW]at kk;obtain⟨v1,v2,rfl,d1,d2⟩:=d.NW;obtain⟨a,rfl,ha⟩:=(NF (Ki p) (d1.same e)).rat;obtain⟨b,rfl,hb⟩:=(NF (Ki q) (d2.same e)).rat;refine⟨_,_,p,q,400,rfl,.of ha,.of hb,hp,hq,by decide,trivial,fun l H' e' hl'=>?_⟩;obtain⟨G',n1,n2,n3,n4⟩:=Rq e e' hl' (JH [(p+q).num,((p+q).den:Int)]);exact kk _ G' H' n1 n2 n3 e' n4
   ·cases hm
  ·cases hm
def kj(F:AN P w K mg base CX k f fd ps cW):AN P w K mg base CX k f fd ps (BJ F3) :=
 Iq F fun ds x hm G H vs Q E d e kk=>by
  unfold F3 at hm;split at hm
  ·split at hm
   ·rename_i hh;obtain⟨qs,rfl,h1,h2⟩:=hh;cases hm;obtain⟨v,rfl,d1⟩:=d.HG;rw [Du]at d1;obtain⟨a,xs,rfl,n1,n2⟩:=d1;have hl:=n2.len;rw [List.length_map]at hl;have ht:cF (.list (qs.map Ea))=(qs.map fun p=>Rat.divInt p.1 p.2).sum:=by
     show((qs.map Ea).map J8).sum=_;rw [List.map_map];rfl
    rw [ht]at kk;refine⟨a,xs,qs,200,rfl,e _ _ n1,hl,by omega,fun j x p hx hp=>?_,h2,by omega,fun l H' e' hl'=>?_⟩
    ·obtain⟨v,k1,k2⟩:=n2.get (i:=j) (d:=Ea p) (by rw [List.getElem?_map,hp];rfl);rw [hx]at k1;cases k1;obtain⟨c,r1,r2⟩:=kY k2;exact⟨c,r1,e _ _ r2⟩
    ·obtain⟨G',m1,m2,m3,m4⟩:=Rq e e' hl' (JH [((qs.map fun p=>Rat.divInt p.1 p.2).sum).num,(((qs.map fun p=>Rat.divInt p.1 p.2).sum).den:Int)]);exact kk _ G' H' m1 m2 m3 e' m4
   ·cases hm
  ·cases hm
end
abbrev tD(t:Tr):PD:=.tuple (B0 t)
def a9:((AF 5).all fun t=>(AF 5).all fun u=>decide (TH.Az (some u)≠TH.Az (some t))||decide (u=t))=true:=by decide +kernel
def eU{t u:Tr}(ht:t∈AF 5)(hu:u∈AF 5)(e:TH.Az (some u)=TH.Az (some t)):u=t:=by
 have:=aL.mp (aL.mp a9 t ht) u hu;rw [Bool.or_eq_true]at this;rcases this with h|h
 ·exact absurd e (aO h)
 ·exact aO h
def nZ:(AF 5).Nodup:=by decide +kernel
def Ao(ws:List Rat)(t:Tr):Rat:=ws.getD ((AF 5).idxOf t) 0
def Oj{α:Type}{i j:Nat}{f:Dv→Option PD}{fs:Dv→Option (List PD)}{δ:Dv}{fr:List (Option Nat)}{zs:List α}{a b g:α→PD}(hx:fs δ=some (zs.map fun z=>.tuple [a z,b z]))(hl:zs.length≤Bm)
 (h:∀z∈zs,f (((Bk fr δ).set i (.d (a z))).set j (.d (b z)))=some (g z)):D3 (DV i j) EL f fr fs δ=some (.list (zs.map g)):=by
 show(CO (DV i j) EL f fr fs δ).map PyData.list=_;rw [XU hx hl h];rfl
def We{g:Tr→PD}{t:Tr}{ts:List Tr}(h:∀u∈ts,u∈AF 5)(ht:t∈AF 5):IA (ts.map fun t=>(some t,g t)) (some t)=true:=by
 unfold IA;rw [Bool.and_eq_true];refine⟨bH (by have:=((CY 5 (by decide)).2 t ht).2.1;have:=Tr.ID t;omega),List.all_eq_true.mpr fun q hq=>?_⟩;obtain⟨u,hu,rfl⟩:=aQ.mp hq;rw [Bool.or_eq_true];by_cases e:TH.Az (some u)=TH.Az (some t)
 ·exact .inr (bH (bF some (eU ht (h u hu) e)))
 ·exact .inl (bH e)
def VN{i:Nat}{f:Dv→Option PD}{δ:Dv}{kvs:List KD}{x:PD}(h1:od i δ=some kvs)(h2:f (δ.set i (.d (Aq kvs)))=some x)(h3:LS x=true)(h4:alone i δ=true):Mu i f δ=some x:=by
 show(od i δ).bind _=_;rw [h1];show(f _).bind _=_;rw [h2];exact if_pos ⟨h3,h4⟩
def TQ{i:Nat}{f g:Dv→Option PD}{δ:Dv}{kvs:List KD}{k:Option Tr}{y:PD}(h1:f δ=some y)(h2:g δ=some (CG k))(h3:od i δ=some kvs)(h4:IA kvs k=true)(h5:kvs.length≤500):Sy i f g δ=some (.nx (δ.set i (.own (.Cr (MS kvs k y))))):=by
 show(f δ).bind _=_;rw [h1];show(g δ).bind _=_;rw [h2];show(od i δ).bind _=_;rw [h3];show(keyOf (CG k)).bind _=_;rw [LC];exact if_pos ⟨h4,h5⟩
def df{g:Tr→PD}{t:Tr}{ts:List Tr}(h:t ∉ ts)(y:PD):MS (ts.map fun t=>(some t,g t)) (some t) y=(ts.map fun t=>(some t,g t))++[(some t,y)]:=by
 unfold MS;have:(ts.map fun t=>(some t,g t)).find? (fun q=>decide (q.1=some t))=none:=List.find?_eq_none.mpr fun q hq=>by
  obtain⟨u,hu,rfl⟩:=aQ.mp hq;have:u≠t:=fun e=>h (e ▸ hu)
  simpa using this
 rw [this];rfl
def Ll{i:Nat}{t:Tr}(h:(AF 5)[i]? = some t):(AF 5).idxOf t=i:=by
 have hm:=aM h;have hl:=bV.mpr hm;have h2:(AF 5)[(AF 5).idxOf t]? = some t:=by rw [List.getElem?_eq_getElem hl,List.getElem_idxOf hl]
 exact(List.getElem?_inj hl nZ).mp (h2.trans h.symm)
def HW{i:Nat}{u:Tr}(hu:u∈AF 5)(h:(AF 5).idxOf u<i):u∈(AF 5).take i:=by
 have hl:=bV.mpr hu;refine aM (i:=(AF 5).idxOf u) ?_;rw [List.getElem?_take_of_lt h,List.getElem?_eq_getElem hl,List.getElem_idxOf hl]
def Tx{i:Nat}{t:Tr}(h:(AF 5)[i]? = some t):t ∉ (AF 5).take i:=fun z=>by
 obtain⟨j,hj⟩:=aZ.mp z;have hj':j<i:=by have:=(aE.mp hj).1;rw [List.length_take]at this;omega
 rw [List.getElem?_take_of_lt hj']at hj;have:=Ll hj;rw [Ll h]at this;omega
def Kf(n:Nat):∀k,∃us,AF (n+k)=AF n++us
 |0=>⟨[],by rw [List.append_nil];rfl⟩
 |k+1=>by
  obtain⟨us,h⟩:=Kf n k;exact⟨us++TH.tz (n+k),by rw [←List.append_assoc,←h];rfl⟩
def Jt{n:Nat}(hn:n≤5){i:Nat}{t:Tr}(h:(AF n)[i]? = some t):(AF 5)[i]? = some t:=by
 obtain⟨us,hu⟩:=Kf n (5-n);rw [show n+(5-n)=5 by omega]at hu;rw [hu,List.getElem?_append_left (aE.mp h).1];exact h
def WR{ws:List Rat}{i:Nat}{t:Tr}{q:Rat}(h:(AF 5)[i]? = some t)(hq:ws[i]? = some q):Ao ws t=q:=by
 unfold Ao;rw [Ll h,List.getD_eq_getElem?_getD,hq];rfl
def je(kvs:List KD)(l:L):Prop:=l=.own (.Cr kvs)∨l=.d (Aq kvs)
def Zx{kvs:List KD}{a b l:L}{r:List L}(h:je kvs l):Ef 2 (a::b::l::r)=a::b :: .d (Aq kvs)::r:=by
 rcases h with rfl|rfl<;>rfl
def Pg{n:Nat}(hn:n≤5){i:Nat}(hi:i≤(AF n).length){u:Tr}(h:u∈(AF 5).take i):u∈AF n:=by
 obtain⟨us,hu⟩:=Kf n (5-n);rw [show n+(5-n)=5 by omega]at hu;rw [hu,List.take_append_of_le_length hi]at h;exact List.mem_of_mem_take h
abbrev OC:=Option Tr×List Tr
abbrev KI(c:OC):PD:=.tuple [CG c.1,.list (c.2.map tD)]
def V1:PD→Option OC
 |.tuple [x,.list ds]=>(keyOf x).bind fun k=>(GC ds).map fun u=>(k,u.bs)
 |_=>none
def hU(u:Tr):B0 u=u.bs.map tD:=by
 have:=GL u.bs
 rwa [Tr.PQ]at this
def jq{d:PD}{c:OC}(h:V1 d=some c):d=KI c:=by
 unfold V1 at h;split at h
 ·obtain⟨k,h1,h2⟩:=aB.mp h;obtain⟨u,h3,rfl⟩:=aC.mp h2;rw [JN h1,Kn h3,hU]
 ·cases h
def allOf{α:Type}(f:PD→Option α):List PD→Option (List α)
 |[]=>some []
 |d::ds=>(f d).bind fun x=>(allOf f ds).map fun r=>x::r
def all_eq{α:Type}{f:PD→Option α}{g:α→PD}(hf:∀ {d x},f d=some x→d=g x):∀ {ds:List PD} {xs:List α},allOf f ds=some xs→ds=xs.map g
 |[],xs,h=>by cases h;rfl
 |d::ds,xs,h=>by
  rw [allOf]at h;obtain⟨x,h1,h2⟩:=aB.mp h;obtain⟨r,h3,rfl⟩:=aC.mp h2;rw [hf h1,all_eq hf h3];rfl
abbrev He:MD:=BP (BR AH 9) dD
def listOf{α:Type}(f:PD→Option α)(m:MD)(t:Tr):Option (List α):=match m [tD t]with
 |some (.list ds)=>allOf f ds
 |_=>none
def Xa{α:Type}{f:PD→Option α}{g:α→PD}(hf:∀ {d x},f d=some x→d=g x){m:MD}{t:Tr}{xs:List α}(h:listOf f m t=some xs):m [tD t]=some (.list (xs.map g)):=by
 unfold listOf at h;split at h
 ·rename_i ds e;rw [e,all_eq hf h]
 ·cases h
def Cu(t:Tr):List OC:=(listOf V1 He t).getD []
def dG(t:Tr):Bool:=match listOf V1 He t with
 |some as=>decide (as.length≤17)&&as.all fun c=>(match c.1 with|none=>true|some u=>decide (u∈AF 5)&&decide ((AF 5).idxOf u≤(AF 5).idxOf t))&&(c.2.all fun p=>decide (p∈AF 5)&&decide ((AF 5).idxOf p≤(AF 5).idxOf t))&&decide (c.2.length≤20)
 |_=>false
def eK:(AF 5).all dG=true:=by decide +kernel
structure kd(t:Tr):Prop where
 a:He [tD t]=some (.list ((Cu t).map KI))
 len:(Cu t).length≤17
 el:∀c∈Cu t,(∀u,c.1=some u→u∈AF 5∧(AF 5).idxOf u≤(AF 5).idxOf t)∧(∀p∈c.2,p∈AF 5∧(AF 5).idxOf p≤(AF 5).idxOf t)∧c.2.length≤20
def Oi{t:Tr}(ht:t∈AF 5):kd t:=by
 have:=aL.mp eK t ht;unfold dG at this;split at this
 ·rename_i a e1;have ea:Cu t=a:=by unfold Cu;rw [e1];rfl
  simp only [Bool.and_eq_true,decide_eq_true_eq,List.all_eq_true]at this;obtain⟨h1,h4⟩:=this;refine⟨by rw [ea];exact Xa jq e1,by rw [ea];exact h1,fun c hc=>?_⟩;rw [ea]at hc;obtain⟨⟨k1,k3⟩,k4⟩:=h4 c hc;refine⟨fun u hu=>?_,k3,k4⟩;rw [hu]at k1
  simpa using k1
 ·cases this
def MB:List Rat→Rat
 |[]=>1
 |q::l=>q*MB l
def Cc(b:List Rat):Option Tr→Rat
 |none=>1
 |some t=>Ao b t
def JY(a b:List Rat)(c:OC):Rat:=Cc b c.1*MB (c.2.map (Ao a))
def F9(a b:List Rat)(t:Tr):Rat:=((Cu t).map (JY a b)).sum
def JS(p:Int×Int)(q:Rat):Int×Int:=(p.1*q.num,p.2*q.den)
def D7(b:Rat)(qs:List Rat):Int×Int:=qs.foldl JS (b.num,(b.den:Int))
def RG:∀(qs:List Rat) (p:Int×Int),Rat.divInt (qs.foldl JS p).1 (qs.foldl JS p).2=Rat.divInt p.1 p.2*MB qs
 |[],p=>by rw [MB,Rat.mul_one];rfl
 |q::qs,p=>by
  rw [List.foldl_cons,RG qs,MB,←Rat.mul_assoc]
  congr 1
  show Rat.divInt (p.1*q.num) (p.2*q.den)=_
  conv=>rhs;rw [←FM.DB q,Rat.divInt_mul_divInt]
def T3(b:Rat)(qs:List Rat):Rat.divInt (D7 b qs).1 (D7 b qs).2=b*MB qs:=by
 unfold D7;rw [RG]
 congr 1
 exact FM.DB b
def MG:∀(qs:List Rat) (p:Int×Int),1≤p.2→1≤(qs.foldl JS p).2
 |[],p,h=>h
 |q::qs,p,h=>by
  rw [List.foldl_cons];refine MG qs _ ?_;have h1:0<(q.den:Int):=by have:=q.den_nz;omega
  have:=Int.mul_pos (show 0<p.2 by omega) h1;show 1≤p.2*q.den;omega
def Te{n:Nat}:∀(qs:List Rat) (p:Int×Int) (m:Nat),(∀q∈qs,FM.Fits q n)→p.1.natAbs<2^m→p.2.natAbs<2^m→(qs.foldl JS p).1.natAbs<2^(m+n*qs.length)∧(qs.foldl JS p).2.natAbs<2^(m+n*qs.length)
 |[],p,m,_,h1,h2=>⟨h1,h2⟩
 |q::qs,p,m,hq,h1,h2=>by
  have f:=hq q (.head _);have:=Te qs (JS p q) (m+n) (fun x hx=>hq x (.tail _ hx)) (FM.Hu h1 f.1) (FM.Hu h2 f.d);rw [List.foldl_cons,List.length_cons,show m+n*(qs.length+1)=m+n+n*qs.length by rw [Nat.mul_succ];omega];exact this
def K5:List (Option Tr):=(AF 5).map some++[none]
def iO:(K5.all fun k=>(match k with|none=>true|some t=>decide (t.deep<8))&&K5.all fun q=>decide (TH.Az q≠TH.Az k)||decide (q=k))=true:=by decide +kernel
def W4{g:Option Tr→PD}{ks:List (Option Tr)}{k:Option Tr}(h:∀q∈ks,q∈K5)(hk:k∈K5):IA (ks.map fun k=>(k,g k)) k=true:=by
 have:=aL.mp iO k hk;rw [Bool.and_eq_true]at this;unfold IA;rw [Bool.and_eq_true];refine⟨this.1,List.all_eq_true.mpr fun q hq=>?_⟩;obtain⟨u,hu,rfl⟩:=aQ.mp hq;exact aL.mp this.2 u (h u hu)
def R7{g:Option Tr→PD}{k:Option Tr}:∀ {ks:List (Option Tr)},k∈ks→look (ks.map fun k=>(k,g k)) k=some (g k)
 |u::ks,h=>by
  unfold look;rw [List.map_cons,List.find?_cons];by_cases z:u=k
  ·subst z;simp
  ·rw [show decide ((u,g u).1=k)=false from bE z];exact R7 ((aK.mp h).resolve_left fun e=>z e.symm)
def T4{g:Option Tr→PD}{k:Option Tr}{ks:List (Option Tr)}(h:k ∉ ks)(y:PD):MS (ks.map fun k=>(k,g k)) k y=(ks.map fun k=>(k,g k))++[(k,y)]:=by
 unfold MS;have:(ks.map fun k=>(k,g k)).find? (fun q=>decide (q.1=k))=none:=List.find?_eq_none.mpr fun q hq=>by
  obtain⟨u,hu,rfl⟩:=aQ.mp hq;have:u≠k:=fun e=>h (e ▸ hu)
  simpa using this
 rw [this];rfl
abbrev Bo(b:List Rat)(ks:List (Option Tr)):List KD:=ks.map fun k=>(k,AJ (Cc b k))
abbrev D5(n:Nat):List (Option Tr):=(AF n).map some
def jJ:∀n,n≤5→WK (D5 n)=true:=by decide +kernel
def Ia{n:Nat}(hn:n≤5){u:Tr}(hu:u∈AF n):u∈AF 5:=by
 obtain⟨k,hk⟩:=aZ.mp hu;exact aM (Jt hn hk)
def Pd{n:Nat}(hn:n≤5):∀q∈D5 n,q∈K5:=fun q hq=>by
 obtain⟨t,ht,rfl⟩:=aQ.mp hq;exact bN _ (ax (Ia hn ht))
def b9{n:Nat}(hn:n≤5){ws:List Rat}(hl:ws.length=Bs n):(AF n).map (Ao ws)=ws:=by
 have tl:=(CY n hn).1;refine bW fun i=>?_;rw [List.getElem?_map];by_cases h:i<(AF n).length
 ·have h1:(AF n)[i]? = some (AF n)[i]:=aR h;have h2:ws[i]? = some (ws[i]'(by omega)):=aR _;rw [h1,h2];show some (Ao ws (AF n)[i])=_;rw [WR (Jt hn h1) h2]
 ·rw [List.getElem?_eq_none (by omega),List.getElem?_eq_none (by omega)];rfl
def PK{n:Nat}(hn:n≤5):Bs n≤17:=by rcases n with _|_|_|_|_|_|n<;>first|decide|omega
def WI{n:Nat}(hn:n≤5){ws:List Rat}(hl:ws.length=Bs n):YS (Ay n) (An ws)=some (Bo ws (D5 n)):=by
 have tl:=(CY n hn).1;have h17:=PK hn;have e:B0 (Tr.of (AF n))=(D5 n).map CG:=by rw [GL,List.map_map];rfl
 show(keysOf (B0 (Tr.of (AF n)))).bind _=_;rw [e,U5];have lk:(D5 n).length=Bs n:=by rw [List.length_map,tl]
 refine(if_pos ⟨jJ n hn,by rw [List.length_map,hl,lk],by omega⟩).trans ?_
 congr 1
 conv=>lhs;rw [←b9 hn hl]
 rw [List.map_map,Bo,List.map_map,List.zip_map']
 rfl
def cf{i j:Int}{m:Nat}(h1:i.natAbs<2^m)(hm:m≤9000)(h2:j.natAbs<2^190):Cg (.int i) (.int j)=some (.int (i*j)):=OY (by
 unfold Jy;rw [JB (n:=9000) (aH h1 (aS (by decide) hm)),JB (n:=9000) (aH h2 (aS (by decide) (by decide)))];simp)
def take_snoc{α:Type}{l:List α}{i:Nat}{x:α}(h:l[i]? = some x):l.take (i+1)=l.take i++[x]:=by rw [List.take_succ,h];rfl
def Sn{a b:List Rat}{c:OC}{ka kb:List (Option Tr)}(ha:∀q∈ka,q∈K5)(hb:∀q∈kb,q∈K5)(h1:c.1∈kb)(h2:∀p∈c.2,some p∈ka)(wa:∀t,FM.Fits (Ao a t) 190)(wb:FM.Fits (Cc b c.1) 190)(hl:c.2.length≤20) :
  Aw [KI c,Aq (Bo a ka),Aq (Bo b kb)]=some (Ea (D7 (Cc b c.1) (c.2.map (Ao a)))):=by
 refine HV rfl ?_;unfold Nn;have g1:FU (Aq (Bo b kb)) (CG c.1)=some (AJ (Cc b c.1)):=Kp (W4 hb (hb _ h1)) (R7 h1);have e1:∀(l3 l4 l5:L),AQ FU (nm 2) (AQ CP (nm 0) (fC (.int 0))) [.d (KI c),.d (Aq (Bo a ka)),.d (Aq (Bo b kb)),l3,l4,l5]=some (AJ (Cc b c.1)):=fun _ _ _=>AW (x:=Aq (Bo b kb)) (y:=CG c.1) rfl (AW (x:=KI c) (y:=.int 0) rfl rfl rfl) g1;refine A2 (CJ (y:=.int (Cc b c.1).num) (AW (x:=AJ (Cc b c.1)) (y:=.int 0) (e1 _ _ _) rfl rfl)) ?_;refine A2 (CJ (y:=.int ((Cc b c.1).den:Int)) (AW (x:=AJ (Cc b c.1)) (y:=.int 1) (e1 _ _ _) rfl rfl)) ?_;refine LY (xs:=c.2.map tD) (fun i δ=>∃l5,δ=[.d (KI c),.d (Aq (Bo a ka)),.d (Aq (Bo b kb)),.d (.int (D7 (Cc b c.1) ((c.2.take i).map (Ao a))).1),.d (.int (D7 (Cc b c.1) ((c.2.take i).map (Ao a))).2),l5]) rfl ⟨.no,rfl⟩ (fun i x δ hx hI=>?_) fun δ' hI=>?_
 ·obtain⟨l5,rfl⟩:=hI;rw [List.getElem?_map]at hx;obtain⟨p,hp,rfl⟩:=aC.mp hx;have hpa:=h2 p (aM hp);have g2:FU (Aq (Bo a ka)) (tD p)=some (AJ (Ao a p)):=Kp (k:=some p) (W4 ha (ha _ hpa)) (R7 hpa);have e2:∀(l3 l4:L),AQ FU (nm 1) (nm 5) [.d (KI c),.d (Aq (Bo a ka)),.d (Aq (Bo b kb)),l3,l4,.d (tD p)]=some (AJ (Ao a p)):=fun _ _=>AW (x:=Aq (Bo a ka)) (y:=tD p) rfl rfl g2;have et:(c.2.take (i+1)).map (Ao a)=(c.2.take i).map (Ao a)++[Ao a p]:=by rw [take_snoc hp,List.map_append];rfl
  have bd:=Te ((c.2.take i).map (Ao a)) ((Cc b c.1).num,((Cc b c.1).den:Int)) 190 (fun q hq=>by obtain⟨t,_,rfl⟩:=aQ.mp hq;exact wa t) wb.1 wb.d;have hm:190+190*((c.2.take i).map (Ao a)).length≤9000:=by
   rw [List.length_map,List.length_take];have:min i c.2.length≤20:=by omega
   omega
  have es:D7 (Cc b c.1) ((c.2.take (i+1)).map (Ao a))=JS (D7 (Cc b c.1) ((c.2.take i).map (Ao a))) (Ao a p):=by
   unfold D7;rw [et,List.foldl_append]
   rfl
  refine⟨_,rfl,KH (CJ (AW (x:=.int (D7 (Cc b c.1) ((c.2.take i).map (Ao a))).1) (y:=.int (Ao a p).num) rfl (AW (x:=AJ (Ao a p)) (y:=.int 0) (e2 _ _) rfl rfl) (cf bd.1 hm (wa p).1))) ?_⟩;refine⟨_,CJ (AW (x:=.int (D7 (Cc b c.1) ((c.2.take i).map (Ao a))).2) (y:=.int ((Ao a p).den:Int)) rfl (AW (x:=AJ (Ao a p)) (y:=.int 1) (e2 _ _) rfl rfl) (cf bd.2 hm (wa p).d)),.d (tD p),?_⟩;rw [es]
  rfl
 ·obtain⟨l5,rfl⟩:=hI;rw [List.length_map,List.take_length]
  rfl
structure SA(a b:List Rat):Prop where
 wa:∀t,FM.Fits (Ao a t) 190
 wb:∀t,FM.Fits (Ao b t) 190
 sh:∀ {t:Tr},t∈AF 5→∀c∈Cu t,(D7 (Cc b c.1) (c.2.map (Ao a))).1.natAbs<2^200∧(D7 (Cc b c.1) (c.2.map (Ao a))).2.natAbs<2^200
def Zw:FM.Fits 1 190:=⟨by decide,by decide⟩
def XZ{a b:List Rat}(F:SA a b)(k:Option Tr):FM.Fits (Cc b k) 190:=by
 cases k with
 |none=>exact Zw
 |some t=>exact F.wb t
def QU{n:Nat}(hn:n≤5){i:Nat}{t:Tr}(hi:(AF n)[i]? = some t):∀c∈Cu t,(c.1∈D5 n++[none])∧(∀p∈c.2,p∈AF n)∧c.2.length≤20:=by
 have ht5:=Jt hn hi;have hm:=aM ht5;have hin:i<(AF n).length:=(aE.mp hi).1;have mem:∀u,u∈AF 5→(AF 5).idxOf u≤(AF 5).idxOf t→u∈AF n:=fun u h1 h2=>by
  rw [Ll ht5]at h2;exact Pg hn (Nat.succ_le_of_lt hin) (HW h1 (Nat.lt_succ_of_le h2))
 intro c hc;obtain⟨h1,h2,h3⟩:=(Oi hm).el c hc;refine⟨?_,fun p hp=>mem p (h2 p hp).1 (h2 p hp).2,h3⟩;cases e:c.1 with
 |none=>exact aV _ (.head _)
 |some u=>exact bN _ (ax (mem u (h1 u e).1 (h1 u e).2))
noncomputable abbrev jQ(C1 C2 C3:AD):List PD→Option Xr:=BO Aw F3 He (JM C2) (EF C1) C3
def dS(n:Nat):(none:Option Tr) ∉ D5 n:=fun h=>by
 obtain⟨t,_,e⟩:=aQ.mp h;cases e
def b8{n:Nat}(hn:n≤5):∀q∈D5 n++[none],q∈K5:=fun q hq=>by
 rcases ba.mp hq with h|h
 ·exact Pd hn q h
 ·rw [List.mem_singleton.mp h];exact aV _ (.head _)
def jv{n:Nat}(hn:n≤5){ws:List Rat}(hl:ws.length=Bs n)(C:AD):good (EF C) [An ws]=some (.int (n:Nat)):=by unfold good;rw [Li hn hl C]
def lB{n:Nat}(hn:n≤5){a b:List Rat}(ha:a.length=Bs n)(hb:b.length=Bs n)(F:SA a b)(C1 C2 C3:AD):FE Aw F3 He (JM C2) (EF C1) C3 [.d (An a),.d (An b),.no,.no,.no,.no]=some (.inl (.rn (((AF n).map (F9 a b)).map AJ))):=by
 have tl:=(CY n hn).1;have h17:=PK hn;unfold FE;refine Iz (N6 (ds:=[An a]) rfl (Li hn ha C1)) ?_;refine Iz (b7 (GK (x:=.int (n:Nat)) (y:=.int (n:Nat)) (Af (xs:=[An b]) rfl (jv hn hb C1)) rfl (ne_self (Ok.int (n:=0)) (by decide))) rfl) ?_;refine Iz (N6 (ds:=[.int (n:Nat)]) rfl (Wl hn C2)) ?_;refine PV ?_;have z1:∀(l3 l4 l5:L),UG 4 (AB (nm 3) (AB (nm 0) AI)) [.d (An a),.d (An b),l3,.d (Ay n),l4,l5]=some (.nx [.d (An a),.d (An b),l3,.d (Ay n),.own (.Cr (Bo a (D5 n))),l5]):=fun _ _ _=>by
  show(YS (Ay n) (An a)).map _=_;rw [WI hn ha];rfl
 have z2:∀(l3 l4 l5:L),UG 5 (AB (nm 3) (AB (nm 1) AI)) [.d (An a),.d (An b),l3,.d (Ay n),l4,l5]=some (.nx [.d (An a),.d (An b),l3,.d (Ay n),l4,.own (.Cr (Bo b (D5 n)))]):=fun _ _ _=>by
  show(YS (Ay n) (An b)).map _=_;rw [WI hn hb];rfl
 refine A2 (z1 _ _ _) (A2 (z2 _ _ _) ?_);refine A2 (δ':=[.d (An a),.d (An b),.d (.int (n:Nat)),.d (Ay n),.own (.Cr (Bo a (D5 n))),.own (.Cr (Bo b (D5 n++[none])))]) ((TQ (k:=none) (kvs:=Bo b (D5 n)) (y:=AJ 1) rfl rfl rfl (W4 (Pd hn) (aV _ (.head _))) (by rw [List.length_map,List.length_map,tl];omega)).trans ?_) ?_
 ·rw [T4 (dS n)];have:Bo b (D5 n++[none])=Bo b (D5 n)++[(none,AJ 1)]:=by rw [Bo,List.map_append];rfl
  rw [this]
  rfl
 have c:CO (Co 1) EL (AU F3 (AB (D3 (Co 1) EL (AU Aw (AB (nm 1) (AB (nm 2) (AB (nm 3) AI)))) [none,none,some 2,some 3] (D6 (AU He (AB (nm 1) AI)))) AI)) [none,none,some 4,some 5] (D6 (nm 3)) [.d (An a),.d (An b),.d (.int (n:Nat)),.d (Ay n),.d (Aq (Bo a (D5 n))),.d (Aq (Bo b (D5 n++[none])))]=some ((AF n).map fun t=>AJ (F9 a b t)):=by
  refine KA (zs:=AF n) (a:=tD) ?_ (by rw [tl];unfold Bm;omega) fun t ht=>?_
  ·show some (B0 (Tr.of (AF n)))=_;rw [GL]
  ·obtain⟨i,hi⟩:=aZ.mp ht;have t5:=Ia hn ht;have T:=Oi t5;have el:=QU hn hi;have hl:=T.len;have e1:D3 (Co 1) EL (AU Aw (AB (nm 1) (AB (nm 2) (AB (nm 3) AI)))) [none,none,some 2,some 3] (D6 (AU He (AB (nm 1) AI))) [.no,.d (tD t),.d (Aq (Bo a (D5 n))),.d (Aq (Bo b (D5 n++[none])))]=some (.list (((Cu t).map fun c:OC=>D7 (Cc b c.1) (c.2.map (Ao a))).map Ea)):=by
    show(CO _ _ _ _ _ _).map PyData.list=_;rw [KA (zs:=Cu t) (a:=KI) (g:=fun c:OC=>Ea (D7 (Cc b c.1) (c.2.map (Ao a)))) (Ut (x:=.list ((Cu t).map KI)) (Af (xs:=[tD t]) rfl T.a) rfl) (by unfold Bm;omega) fun c hc=>?_]
    ·rw [List.map_map];rfl
    ·obtain⟨k1,k2,k3⟩:=el c hc;exact Af (xs:=[KI c,Aq (Bo a (D5 n)),Aq (Bo b (D5 n++[none]))]) rfl (Sn (Pd hn) (b8 hn) k1 (fun p hp=>ax (k2 p hp)) F.wa (XZ F _) k3)
   refine Af (xs:=[.list (((Cu t).map fun c:OC=>D7 (Cc b c.1) (c.2.map (Ao a))).map Ea)]) (Al e1 rfl) ((M8 (by rw [List.length_map];omega) fun q hq=>?_).trans ?_)
   ·obtain⟨c,hc,rfl⟩:=aQ.mp hq;have:=F.sh t5 c hc;exact⟨MG _ _ (by have:=(Cc b c.1).den_nz;show(1:Int)≤((Cc b c.1).den:Int);omega),this.1,this.2⟩
   ·rw [List.map_map];unfold F9
    congr 3
    refine aT fun c _=>?_;exact T3 _ _
 show(CO _ _ _ _ _ [.d (An a),.d (An b),.d (.int (n:Nat)),.d (Ay n),.d (Aq (Bo a (D5 n))),.d (Aq (Bo b (D5 n++[none])))]).map _=_;rw [c,List.map_map]
 rfl
def gq{n:Nat}(hn:n≤5){a b:List Rat}(ha:a.length=Bs n)(hb:b.length=Bs n)(F:SA a b)(C1 C2 C3:AD):jQ C1 C2 C3 [An a,An b]=some (.inl (An ((AF n).map (F9 a b)))) :=
 P5 rfl (lB hn ha hb F C1 C2 C3)
def QC(n:Nat):((86400:Int)^n)≠0:=Int.pow_ne_zero (by decide)
structure Jd(a:List Rat):Prop where
 len:a.length≤17
 w:∀t∈AF 5,BC (86400^t.AL) (2^(28*t.AL)) (Ao a t)
def K9{t:Tr}(ht:t∈AF 5):1≤t.AL∧t.AL≤5:=by
 have:=(CY 5 (by decide)).2 t ht;omega
def kx{a:List Rat}(hl:a.length≤17){t:Tr}(ht:t ∉ AF 5):Ao a t=0:=by
 have h17:(AF 5).length=17:=(CY 5 (by decide)).1;unfold Ao;rw [List.idxOf_eq_length ht,h17,List.getD_eq_getElem?_getD,List.getElem?_eq_none hl]
 rfl
def kz{k:Nat}(h1:1≤k){q:Rat}(h:BC (86400^k) (2^(28*k)) q):FM.Fits q (29*k):=by
 refine h.fits (QC _) (Nat.pow_lt_pow_right (by decide) (by omega)) ?_;rw [Int.natAbs_pow];have:Int.natAbs 86400^k≤(2^28)^k:=Nat.pow_le_pow_left (by decide) _;rw [←Nat.pow_mul]at this;exact aX this (Nat.pow_lt_pow_right (by decide) (by omega))
def Q0(n:Nat):FM.Fits 0 (n+1):=by
 refine(BC.zero (m:=1) (c:=0)).fits (by decide) ?_ ?_
 ·exact Nat.pow_pos (by decide)
 ·exact Nat.one_lt_two_pow (by omega)
def Jd.f{a:List Rat}(h:Jd a){t:Tr}(ht:t∈AF 5):FM.Fits (Ao a t) (29*t.AL):=kz (K9 ht).1 (h.w t ht)
def Jd.gU{a:List Rat}(h:Jd a)(t:Tr):FM.Fits (Ao a t) 190:=by
 by_cases ht:t∈AF 5
 ·exact(h.f ht).mono (by have:=K9 ht;omega)
 ·rw [kx h.len ht];exact Q0 189
def Sd:Option Tr→Nat
 |none=>0
 |some t=>t.AL
def iT:((AF 5).all fun t=>((Cu t).all fun c=>decide (Sd c.1+(c.2.map Tr.AL).sum=t.AL)&&(c.2.all fun p=>decide (p∈AF 5))&&(match c.1 with|none=>true|some u=>decide (u∈AF 5))))=true:=by decide +kernel
def ZG{t:Tr}(ht:t∈AF 5){c:OC}(hc:c∈Cu t):Sd c.1+(c.2.map Tr.AL).sum=t.AL∧(∀p∈c.2,p∈AF 5)∧∀u,c.1=some u→u∈AF 5:=by
 have:=aL.mp (aL.mp iT t ht) c hc;rw [Bool.and_eq_true,Bool.and_eq_true]at this;obtain⟨⟨h1,h2⟩,h3⟩:=this;refine⟨aO h1,fun p hp=>aO (aL.mp h2 p hp),fun u hu=>?_⟩;rw [hu]at h3;exact aO h3
def Vg{a:List Rat}(ha:Jd a):∀(ps:List Tr) (p:Int×Int) (m:Nat),(∀u∈ps,u∈AF 5)→p.1.natAbs<2^m→p.2.natAbs<2^m→((ps.map (Ao a)).foldl JS p).1.natAbs<2^(m+29*(ps.map Tr.AL).sum)∧((ps.map (Ao a)).foldl JS p).2.natAbs<2^(m+29*(ps.map Tr.AL).sum)
 |[],p,m,_,h1,h2=>⟨h1,h2⟩
 |u::ps,p,m,hu,h1,h2=>by
  have f:=ha.f (hu u (.head _));have:=Vg ha ps (JS p (Ao a u)) (m+29*u.AL) (fun x hx=>hu x (.tail _ hx)) (FM.Hu h1 f.1) (FM.Hu h2 f.d);rw [List.map_cons,List.map_cons,List.foldl_cons,List.sum_cons,show m+29*(u.AL+(ps.map Tr.AL).sum)=m+29*u.AL+29*(ps.map Tr.AL).sum by omega];exact this
def cc{a:List Rat}(ha:Jd a):∀(ps:List Tr),(∀u∈ps,u∈AF 5)→BC (86400^(ps.map Tr.AL).sum) (2^(28*(ps.map Tr.AL).sum)) (MB (ps.map (Ao a)))
 |[],_=>⟨1,by kernel_rfl,by decide⟩
 |u::ps,hu=>by
  have:=(ha.w u (hu u (.head _))).mul (cc ha ps fun x hx=>hu x (.tail _ hx));rw [List.map_cons,List.map_cons,List.sum_cons,MB,Nat.mul_add,Nat.pow_add,Int.pow_add];exact this
def js{a b:List Rat}(ha:Jd a)(hb:Jd b){t:Tr}(ht:t∈AF 5){c:OC}(hc:c∈Cu t):BC (86400^t.AL) (2^(28*t.AL)) (JY a b c):=by
 obtain⟨h1,h2,h3⟩:=ZG ht hc;have hb1:BC (86400^Sd c.1) (2^(28*Sd c.1)) (Cc b c.1):=by
  cases e:c.1 with
  |none=>exact⟨1,by kernel_rfl,by decide⟩
  |some u=>exact hb.w u (h3 u e)
 have:=hb1.mul (cc ha c.2 h2);rw [←Int.pow_add,←Nat.pow_add,←Nat.mul_add,h1]at this;exact this
def ZV{a b:List Rat}(ha:Jd a)(hb:Jd b){t:Tr}(ht:t∈AF 5){l:List OC}(hl:l.length≤17)(h:∀c∈l,c∈Cu t):FM.Fits (l.map (JY a b)).sum 190:=by
 have hk:=K9 ht;refine(BC.sum (m:=86400^t.AL) (c:=2^(28*t.AL)) (n:=17) (QC _) (by rw [List.length_map];exact hl) fun q hq=>?_).fits (QC _) ?_ ?_
 ·obtain⟨c,hc,rfl⟩:=aQ.mp hq;exact js ha hb ht (h c hc)
 ·have:2^(28*t.AL)≤2^140:=aS (by decide) (by omega);have h2:17*2^(28*t.AL)≤17*2^140:=by omega
  exact aX h2 (by decide)
 ·rw [Int.natAbs_pow];exact aX (aS (by decide) hk.2) (by decide)
def b5{a b:List Rat}(ha:Jd a)(hb:Jd b):SA a b where
 wa:=ha.gU
 wb:=hb.gU
 sh:=fun {t} ht c hc=>by
  obtain⟨h1,h2,h3⟩:=ZG ht hc;have hk:=K9 ht;have hb1:FM.Fits (Cc b c.1) (29*Sd c.1+1):=by
   cases e:c.1 with
   |none=>exact show FM.Fits 1 1 from⟨by decide,by decide⟩
   |some u=>exact(hb.f (h3 u e)).mono (bY _)
  have:=Vg ha c.2 ((Cc b c.1).num,((Cc b c.1).den:Int)) (29*Sd c.1+1) h2 hb1.1 hb1.d;have h4:2^(29*Sd c.1+1+29*(c.2.map Tr.AL).sum)≤2^200:=aS (by decide) (by omega);exact⟨aH this.1 h4,Nat.lt_of_lt_of_le this.2 h4⟩
abbrev Mon:=List Nat
abbrev CB:=List (Mon×Int)
def D4(x:Nat→Rat):Mon→Rat
 |[]=>1
 |i::m=>x i*D4 x m
def BK(x:Nat→Rat):CB→Rat
 |[]=>0
 |t::p=>(t.2:Rat)*D4 x t.1+BK x p
def QE(a:Nat):Mon→Mon
 |[]=>[a]
 |b::m=>if a≤b then a::b::m else b::QE a m
def Vm(x:Nat→Rat)(a:Nat):∀m:Mon,D4 x (QE a m)=x a*D4 x m
 |[]=>rfl
 |b::m=>by
  unfold QE;split
  ·rfl
  ·show x b*D4 x (QE a m)=x a*(x b*D4 x m);rw [Vm x a m,←Rat.mul_assoc,←Rat.mul_assoc,Rat.mul_comm (x b)]
def mulM:Mon→Mon→Mon
 |[],n=>n
 |a::m,n=>QE a (mulM m n)
def VA(x:Nat→Rat):∀m n:Mon,D4 x (mulM m n)=D4 x m*D4 x n
 |[],n=>by show D4 x n=1*D4 x n;rw [Rat.one_mul]
 |a::m,n=>by
  show D4 x (QE a (mulM m n))=x a*D4 x m*D4 x n;rw [Vm,VA x m n,Rat.mul_assoc]
def LX(m:Mon)(c:Int):CB→CB
 |[]=>if c=0 then [] else [(m,c)]
 |(n,d)::p=>if m=n then(if c+d=0 then p else(n,c+d)::p) else(n,d)::LX m c p
def Tt:((0:Int):Rat)=0:=rfl
def e8(a b:Int):((a+b:Int):Rat)=(a:Rat)+(b:Rat):=Rat.intCast_add a b
def U9(a b:Int):((a*b:Int):Rat)=(a:Rat)*(b:Rat):=Rat.intCast_mul a b
def Ny(x:Nat→Rat)(m:Mon)(c:Int):∀p:CB,BK x (LX m c p)=(c:Rat)*D4 x m+BK x p
 |[]=>by
  unfold LX;split
  ·rename_i e;subst e;show(0:Rat)=((0:Int):Rat)*_+0;rw [Tt,Rat.zero_mul,Rat.add_zero]
  ·rfl
 |(n,d)::p=>by
  unfold LX;split
  ·rename_i e;subst e;have h:(c:Rat)*D4 x m+BK x ((m,d)::p)=((c+d:Int):Rat)*D4 x m+BK x p:=by
    show(c:Rat)*D4 x m+((d:Rat)*D4 x m+BK x p)=_;rw [←Rat.add_assoc,←Rat.add_mul,e8]
   rw [h];split
   ·rename_i e;rw [e,Tt,Rat.zero_mul,Rat.zero_add]
   ·rfl
  ·show(d:Rat)*D4 x n+BK x (LX m c p)=_;rw [Ny x m c p];show _=(c:Rat)*D4 x m+((d:Rat)*D4 x n+BK x p);rw [←Rat.add_assoc,←Rat.add_assoc,Rat.add_comm (_*_) (_*_)]
def Gi:CB→CB→CB
 |[],q=>q
 |t::p,q=>LX t.1 t.2 (Gi p q)
def Kj(x:Nat→Rat):∀p q:CB,BK x (Gi p q)=BK x p+BK x q
 |[],q=>by show BK x q=0+_;rw [Rat.zero_add]
 |t::p,q=>by
  show BK x (LX t.1 t.2 (Gi p q))=(t.2:Rat)*D4 x t.1+BK x p+BK x q;rw [Ny,Kj x p q,Rat.add_assoc]
def P4(m:Mon)(c:Int):CB→CB
 |[]=>[]
 |t::p=>LX (mulM m t.1) (c*t.2) (P4 m c p)
def QS(x:Nat→Rat)(m:Mon)(c:Int):∀p:CB,BK x (P4 m c p)=(c:Rat)*D4 x m*BK x p
 |[]=>by show(0:Rat)=_*0;rw [Rat.mul_zero]
 |t::p=>by
  show BK x (LX (mulM m t.1) (c*t.2) (P4 m c p))=_;rw [Ny,QS x m c p,VA,U9];show _=(c:Rat)*D4 x m*((t.2:Rat)*D4 x t.1+BK x p);rw [Rat.mul_add]
  congr 1
  rw [Rat.mul_assoc,Rat.mul_assoc,←Rat.mul_assoc (t.2:Rat),Rat.mul_comm (t.2:Rat) (D4 x m),Rat.mul_assoc]
def Hf:CB→CB→CB
 |[],_=>[]
 |t::p,q=>Gi (P4 t.1 t.2 q) (Hf p q)
def Kt(x:Nat→Rat):∀p q:CB,BK x (Hf p q)=BK x p*BK x q
 |[],q=>by show(0:Rat)=0*_;rw [Rat.zero_mul]
 |t::p,q=>by
  show BK x (Gi (P4 t.1 t.2 q) (Hf p q))=((t.2:Rat)*D4 x t.1+BK x p)*BK x q;rw [Kj,QS,Kt x p q,Rat.add_mul]
def Z8(p:CB):CB:=P4 [] (-1) p
def dR(x:Nat→Rat)(p:CB):BK x (Z8 p)=- BK x p:=by
 unfold Z8;rw [QS];show((-1:Int):Rat)*1*BK x p=_;rw [Rat.mul_one,show((-1:Int):Rat)=-1 from rfl,Rat.neg_mul,Rat.one_mul]
def O7:List CB→CB
 |[]=>[([],1)]
 |p::l=>Hf p (O7 l)
def Th(x:Nat→Rat):∀l:List CB,BK x (O7 l)=MB (l.map (BK x))
 |[]=>by show((1:Int):Rat)*1+0=1;rw [Rat.mul_one,Rat.add_zero];rfl
 |p::l=>by
  show BK x (Hf p (O7 l))=BK x p*MB (l.map (BK x));rw [Kt,Th x l]
def Px:List CB→CB
 |[]=>[]
 |p::l=>Gi p (Px l)
def M6(x:Nat→Rat):∀l:List CB,BK x (Px l)=(l.map (BK x)).sum
 |[]=>rfl
 |p::l=>by
  show BK x (Gi p (Px l))=_;rw [Kj,M6 x l,List.map_cons,List.sum_cons]
abbrev Ps:=List CB
def HK(A:Ps)(t:Tr):CB:=A.getD ((AF 5).idxOf t) []
def bP(B:Ps):Option Tr→CB
 |none=>[([],1)]
 |some t=>HK B t
def M3(A B:Ps)(t:Tr):CB:=Px ((Cu t).map fun c=>Hf (bP B c.1) (O7 (c.2.map (HK A))))
def Q8(n:Nat)(x:Nat→Rat)(A:Ps)(a:List Rat):Prop:=∀t∈AF n,Ao a t=BK x (HK A t)
def Q8.b{n:Nat}{x:Nat→Rat}{B:Ps}{b:List Rat}(h:Q8 n x B b){k:Option Tr}(hk:k∈D5 n++[none]):Cc b k=BK x (bP B k):=by
 cases k with
 |none=>show(1:Rat)=((1:Int):Rat)*1+0;rw [Rat.mul_one,Rat.add_zero];rfl
 |some t =>
  refine h t ?_;rcases ba.mp hk with z|z
  ·obtain⟨u,hu,e⟩:=aQ.mp z;cases e;exact hu
  ·simp at z
def VR{n:Nat}(hn:n≤5){x:Nat→Rat}{A B:Ps}{a b:List Rat}(ha:Q8 n x A a)(hb:Q8 n x B b){t:Tr}(ht:t∈AF n):F9 a b t=BK x (M3 A B t):=by
 obtain⟨i,hi⟩:=aZ.mp ht;unfold F9 M3;rw [M6,List.map_map]
 congr 1
 refine aT fun c hc=>?_;obtain⟨k1,k2,_⟩:=QU hn hi c hc;show Cc b c.1*MB (c.2.map (Ao a))=BK x (Hf (bP B c.1) (O7 (c.2.map (HK A))));rw [Kt,Th,←hb.b k1,List.map_map]
 congr 2
 exact aT fun p hp=>ha p (k2 p hp)
def G5(n:Nat)(x:Nat→Rat)(A:Ps):List Rat:=(AF n).map fun t=>BK x (HK A t)
def R9{n:Nat}(hn:n≤5)(x:Nat→Rat)(A:Ps):Q8 n x A (G5 n x A):=fun t ht=>by
 obtain⟨i,hi⟩:=aZ.mp ht;refine WR (Jt hn hi) ?_;unfold G5;rw [List.getElem?_map,hi]
 rfl
def MI(f:Tr→CB):Ps:=(AF 5).map f
def Pp(f:Tr→CB){t:Tr}(ht:t∈AF 5):HK (MI f) t=f t:=by
 unfold HK MI;have hlu:=bV.mpr ht;rw [List.getD_eq_getElem?_getD,List.getElem?_map,List.getElem?_eq_getElem hlu,List.getElem_idxOf hlu]
 rfl
def cL(A B:Ps):Ps:=MI (M3 A B)
def gb{n:Nat}(hn:n≤5)(x:Nat→Rat)(A B:Ps):(AF n).map (F9 (G5 n x A) (G5 n x B))=G5 n x (cL A B) :=
 aT fun t ht=>by
  rw [VR hn (R9 hn x A) (R9 hn x B) ht];show _=BK x (HK (MI (M3 A B)) t);rw [Pp _ (Ia hn ht)]
def jA(p q:CB):Bool:=decide (Gi p (Z8 q)=[])
def kq{p q:CB}(h:jA p q=true)(x:Nat→Rat):BK x p=BK x q:=by
 have e:=bF (BK x) (aO h);rw [Kj,dR]at e;have e:BK x p + - BK x q=0:=e;rw [←Rat.sub_eq_add_neg]at e;have:=bF (fun r=>r+BK x q) e
 simpa [Rat.sub_add_cancel,Rat.zero_add]using this
def mD{n:Nat}(hn:n≤5){A B:Ps}(h:((AF 5).all fun t=>jA (HK A t) (HK B t))=true)(x:Nat→Rat):G5 n x A=G5 n x B :=
 aT fun t ht=>kq (aL.mp h t (Ia hn ht)) x
def iY{n:Nat}(hn:n≤5){A B:Ps}(h:((AF 5).all fun t=>decide (M3 A B t=[]))=true)(x:Nat→Rat):∀t∈AF n,F9 (G5 n x A) (G5 n x B) t=0:=fun t ht=>by
 rw [VR hn (R9 hn x A) (R9 hn x B) ht,of_decide_eq_true (aL.mp h t (Ia hn ht))]
 rfl
abbrev L5(p:Tr×Tr):PD:=.tuple [tD p.1,tD p.2]
def Yu:PD→Option (Tr×Tr)
 |.tuple [x,y]=>(Ei x).bind fun a=>(Ei y).map fun b=>(a,b)
 |_=>none
def Rl:List PD→Option (List (Tr×Tr))
 |[]=>some []
 |d::ds=>(Yu d).bind fun p=>(Rl ds).map fun r=>p::r
def kC{d:PD}{p:Tr×Tr}(h:Yu d=some p):d=L5 p:=by
 unfold Yu at h;split at h
 ·obtain⟨a,h1,h2⟩:=aB.mp h;obtain⟨b,h3,rfl⟩:=aC.mp h2;rw [Io h1,Io h3]
 ·cases h
def YY:∀ {ds:List PD} {ps:List (Tr×Tr)},Rl ds=some ps→ds=ps.map L5
 |[],ps,h=>by cases h;rfl
 |d::ds,ps,h=>by
  rw [Rl]at h;obtain⟨p,h1,h2⟩:=aB.mp h;obtain⟨r,h3,rfl⟩:=aC.mp h2;rw [kC h1,YY h3];rfl
abbrev Oq:MD:=C9 dD (BS AH 9)
def R5(m:MD)(t:Tr):Option (List (Tr×Tr)):=match m [tD t]with
 |some (.list ds)=>Rl ds
 |_=>none
def Y8{m:MD}{t:Tr}{ps:List (Tr×Tr)}(h:R5 m t=some ps):m [tD t]=some (.list (ps.map L5)):=by
 unfold R5 at h;split at h
 ·rename_i ds e;rw [e,YY h]
 ·cases h
def CZ(t:Tr):List (Tr×Tr):=(R5 Oq t).getD []
def cE(ts:List Tr)(t:Tr):Bool:=match R5 Oq t with
 |some a=>decide (a.length≤4)&&a.all fun p=>decide (p.1∈ts)&&decide (p.2∈ts)&&decide (ts.idxOf p.1<ts.idxOf t)&&decide (ts.idxOf p.2<ts.idxOf t)&&decide (p.1.AL+p.2.AL=t.AL)
 |_=>false
def eW:(AF 5).all (cE (AF 5))=true:=by decide +kernel
structure lF(t:Tr):Prop where
 a:Oq [tD t]=some (.list ((CZ t).map L5))
 len:(CZ t).length≤4
 el:∀p∈CZ t,p.1∈AF 5∧p.2∈AF 5∧(AF 5).idxOf p.1<(AF 5).idxOf t∧(AF 5).idxOf p.2<(AF 5).idxOf t∧p.1.AL<t.AL
 kn:∀p∈CZ t,p.1.AL+p.2.AL=t.AL
def Ox{t:Tr}(ht:t∈AF 5):lF t:=by
 have:=aL.mp eW t ht;unfold cE at this;split at this
 ·rename_i a e1;have ea:CZ t=a:=by unfold CZ;rw [e1];rfl
  rw [Bool.and_eq_true]at this;obtain⟨h2,h3⟩:=this;have h4:∀p∈CZ t,p.1∈AF 5∧p.2∈AF 5∧(AF 5).idxOf p.1<(AF 5).idxOf t∧(AF 5).idxOf p.2<(AF 5).idxOf t∧p.1.AL+p.2.AL=t.AL:=fun p hp=>by
   rw [ea]at hp;have:=aL.mp h3 p hp;simp only [Bool.and_eq_true,decide_eq_true_eq]at this;obtain⟨⟨⟨⟨k1,k2⟩,k3⟩,k4⟩,k5⟩:=this;exact⟨k1,k2,k3,k4,k5⟩
  refine⟨by rw [ea];exact Y8 e1,by rw [ea];exact aO h2,fun p hp=>?_,fun p hp=>(h4 p hp).2.2.2.2⟩;obtain⟨k1,k2,k3,k4,k5⟩:=h4 p hp;have:=(CY 5 (by decide)).2 p.2 k2;exact⟨k1,k2,k3,k4,by omega⟩
 ·cases this
def nS:∀t∈AF 5,A1 9 [tD t]=some (.int (t.AL:Nat)):=by
 have h:((AF 5).all fun t=>match A1 9 [tD t]with|some (.int i)=>decide (i=(t.AL:Int))|_=>false)=true:=by decide +kernel
 intro t ht;have:=aL.mp h t ht;split at this
 ·rename_i i e;rw [e,of_decide_eq_true this]
 ·cases this
def dj(ws:List Rat):Nat→Tr→Rat
 |0,t=>Ao ws t
 |j+1,t=>((CZ t).map fun p=>dj ws j p.1*Ao ws p.2).sum
def QX(ws:List Rat):∀(j:Nat) {t:Tr},t∈AF 5→t.AL≤j→dj ws j t=0
 |0,t,ht,h=>by have:=(CY 5 (by decide)).2 t ht;omega
 |j+1,t,ht,h=>by
  unfold dj;have:(CZ t).map (fun p=>dj ws j p.1*Ao ws p.2)=(CZ t).map fun _=>(0:Rat):=aT fun p hp=>by
   have k:=(Ox ht).el p hp;rw [QX ws j k.1 (by omega),Rat.zero_mul]
  rw [this];clear this
  induction CZ t with
  |nil=>rfl
  |cons p l ih=>rw [List.map_cons,List.sum_cons,ih,Rat.add_zero]
def fc:Nat→Int
 |0=>1
 |n+1=>((n+1:Nat):Int)*fc n
def ZI:∀j,j≤7→BV [.int (j:Nat)]=some (.int (fc j)):=by
 intro j h;rcases j with _|_|_|_|_|_|_|_|j
 ·kernel_rfl
 ·kernel_rfl
 ·kernel_rfl
 ·kernel_rfl
 ·kernel_rfl
 ·kernel_rfl
 ·kernel_rfl
 ·kernel_rfl
 ·omega
def SE:∀j,j≤7→1≤fc j∧(fc j).natAbs<2^13∧∃k:Int,k≠0∧fc j*k=5040∧k.natAbs≤5040:=by
 intro j h;rcases j with _|_|_|_|_|_|_|_|j
 ·exact⟨by decide,by decide,5040,by decide,by decide,by decide⟩
 ·exact⟨by decide,by decide,5040,by decide,by decide,by decide⟩
 ·exact⟨by decide,by decide,2520,by decide,by decide,by decide⟩
 ·exact⟨by decide,by decide,840,by decide,by decide,by decide⟩
 ·exact⟨by decide,by decide,210,by decide,by decide,by decide⟩
 ·exact⟨by decide,by decide,42,by decide,by decide,by decide⟩
 ·exact⟨by decide,by decide,7,by decide,by decide,by decide⟩
 ·exact⟨by decide,by decide,1,by decide,by decide,by decide⟩
 ·omega
def KJ(ws:List Rat)(j:Nat)(t:Tr):Rat:=dj ws j t*Rat.divInt 1 (fc (j+1))
def A9(ws:List Rat)(t:Tr):Rat:=Ao ws t+((List.range (t.AL-1)).map fun i=>KJ ws (i+1) t).sum
structure Lj(ws:List Rat):Prop where
 w:∀t,FM.Fits (Ao ws t) 80
 d:∀ {j:Nat},j≤6→∀ {t:Tr},t∈AF 5→FM.Fits (dj ws j t) 80
 b:∀ {t:Tr},t∈AF 5→FM.Fits (((List.range (t.AL-1)).map fun i=>KJ ws (i+1) t).sum) 200
def TK{ws:List Rat}(hw:Lj ws)(t:Tr):FM.Fits (Ao ws t) 80:=hw.w t
def Uy{ws:List Rat}(hw:Lj ws){j:Nat}(hj:j≤6){t:Tr}(ht:t∈AF 5):FM.Fits (dj ws j t) 80:=hw.d hj ht
def Xu{ws:List Rat}(hw:Lj ws){t:Tr}(ht:t∈AF 5):FM.Fits (((List.range (t.AL-1)).map fun i=>KJ ws (i+1) t).sum) 200:=hw.b ht
def FR(L:List Rat)(j:Nat)(q:Rat):Int×Int:=match L[j]? with
 |some d=>(d.num*q.num,(d.den:Int)*q.den)
 |none=>(0,1)
def X9{L:List Rat}{j:Nat}{q:Rat}(hL:∀d∈L,FM.Fits d 80)(hq:FM.Fits q 80):B5 [.list (L.map AJ),.int (j:Nat),AJ q]=some (Ea (FR L j q)):=by
 refine HV rfl ?_;unfold MW;have t:ER (GY fun i j=>decide (j≤i)) (nm 1) (AU Ji (AB (nm 0) AI)) [.d (.list (L.map AJ)),.d (.int (j:Nat)),.d (AJ q)]=some (decide (((L.map AJ).length:Int)≤(j:Int))):=GK (x:=.int (j:Nat)) (y:=.int ((L.map AJ).length:Nat)) rfl rfl rfl;rw [List.length_map]at t;unfold FR;by_cases z:j<L.length
 ·rw [decide_eq_false (by omega)]at t;rw [List.getElem?_eq_getElem z];have hm:=hL _ (List.getElem_mem z);have e:AQ CP (nm 0) (nm 1) [.d (.list (L.map AJ)),.d (.int (j:Nat)),.d (AJ q)]=some (AJ L[j]):=AW (x:=.list (L.map AJ)) (y:=.int (j:Nat)) rfl rfl (HR (by rw [List.getElem?_map,List.getElem?_eq_getElem z];rfl));generalize L[j]=d at hm e;refine A2 (NA t rfl) (GU (U2 (Al (AW (x:=.int d.num) (y:=.int q.num) (AW (x:=AJ d) (y:=.int 0) e rfl rfl) rfl (OL hm.1 hq.1 (by decide))) (Al (AW (x:=.int (d.den:Int)) (y:=.int (q.den:Int)) (AW (x:=AJ d) (y:=.int 1) e rfl rfl) rfl (OL hm.d hq.d (by decide))) rfl)) (by show(2:Nat)≤Bm;decide)))
 ·rw [decide_eq_true (by omega)]at t;rw [List.getElem?_eq_none (by omega)];exact Vc (Rj t rfl)
def CK(ws:List Rat)(t:Tr):List Rat:=(List.range t.AL).map fun j=>dj ws j t
def Df(ws:List Rat)(t:Tr):List Rat:=(List.range (t.AL-1)).map fun j=>dj ws (j+1) t
def Q2{ws:List Rat}(hw:Lj ws){t:Tr}(ht:t∈AF 5):∀d∈CK ws t,FM.Fits d 80:=fun d hd=>by
 obtain⟨j,hj,rfl⟩:=aQ.mp hd;have:=(CY 5 (by decide)).2 t ht;have:=az.mp hj;exact Uy hw (by omega) ht
def Sb{ws:List Rat}{t:Tr}(ht:t∈AF 5):CK ws t=Ao ws t::Df ws t:=by
 have h:=((CY 5 (by decide)).2 t ht).2.2;unfold CK Df;rw [show t.AL=(t.AL-1)+1 by omega,List.range_succ_eq_map,List.map_cons,List.map_map]
 rfl
def YE(ws:List Rat){t:Tr}(ht:t∈AF 5)(j:Nat)(q:Rat):Rat.divInt (FR (CK ws t) j q).1 (FR (CK ws t) j q).2=dj ws j t*q:=by
 unfold FR CK;rw [List.getElem?_map];by_cases z:j<t.AL
 ·rw [List.getElem?_range z];exact FM.OW _ _
 ·rw [List.getElem?_eq_none (by rw [List.length_range];omega),QX ws j ht (by omega),Rat.zero_mul];exact Rat.zero_divInt 1
def Dj(ws:List Rat)(ts:List Tr):List KD:=ts.map fun t=>(some t,.list ((CK ws t).map AJ))
def QO{ws:List Rat}{t:Tr}:∀ {ts:List Tr},t∈ts→look (Dj ws ts) (some t)=some (.list ((CK ws t).map AJ))
 |u::ts,h=>by
  unfold look Dj;rw [List.map_cons,List.find?_cons];by_cases z:u=t
  ·subst z;simp
  ·rw [show decide ((some u,PyData.list ((CK ws u).map AJ)).1=some t)=false from bE fun e=>z (aW e)];exact QO ((aK.mp h).resolve_left fun e=>z e.symm)
noncomputable abbrev X4:MD:=CA F3 (A1 9) B5 Oq
def Zu{ws:List Rat}(hw:Lj ws){t:Tr}(ht:t∈AF 5){ts:List Tr}(hs:∀u∈ts,u∈AF 5)(hin:∀p∈CZ t,p.1∈ts∧p.2∈ts):CA F3 (A1 9) B5 Oq [tD t,Aq (Dj ws ts)]=some (.list ((Df ws t).map AJ)):=by
 refine Qh rfl ?_;have T:=Ox ht;have hk:=(CY 5 (by decide)).2 t ht;unfold Lo;refine A2 (CJ (y:=.list ((CZ t).map L5)) (Af (xs:=[tD t]) rfl T.a)) ?_;refine A2 (δ':=[.d (tD t),.d (Aq (Dj ws ts)),.d (.list ((CZ t).map L5)),.own (.lst []),.no,.no]) rfl ?_;refine LY (xs:=GD 0 (t.AL-1)) (fun i δ=>∃l4 l5,δ=[.d (tD t),.d (Aq (Dj ws ts)),.d (.list ((CZ t).map L5)),.own (.lst (((List.range i).map fun j=>dj ws (j+1) t).map AJ)),l4,l5]) ?_ ⟨.no,.no,rfl⟩ (fun i x δ hx hI=>?_) fun δ' hI=>?_
 ·refine(Xl (j:=(t.AL:Int)-1) (AW (x:=.int (t.AL:Nat)) (y:=.int 1) (Af (xs:=[tD t]) rfl (nS t ht)) rfl rfl) (by omega) (by omega)).trans ?_;rw [show((t.AL:Int)-1).toNat=t.AL-1 by omega]
 ·obtain⟨l4,l5,rfl⟩:=hI;obtain⟨rfl,hi⟩:=VW hx;rw [Int.zero_add];refine⟨[.d (tD t),.d (Aq (Dj ws ts)),.d (.list ((CZ t).map L5)),.own (.lst (((List.range i).map fun j=>dj ws (j+1) t).map AJ)),.d (.int (i:Nat)),l5],rfl,?_⟩;refine KH (δ':=[.d (tD t),.d (Aq (Dj ws ts)),.d (.list ((CZ t).map L5)),.own (.lst (((List.range i).map fun j=>dj ws (j+1) t).map AJ)),.d (.int (i:Nat)),.d (.list (((CZ t).map fun p=>FR (CK ws p.1) i (Ao ws p.2)).map Ea))]) (CJ ?_) ?_
  ·refine Eq.trans (Oj (zs:=CZ t) (a:=fun p=>tD p.1) (b:=fun p=>tD p.2) (g:=fun p=>Ea (FR (CK ws p.1) i (Ao ws p.2))) ?_ (by have:=T.len;unfold Bm;omega) fun p hp=>?_) (by rw [List.map_map];rfl)
   ·rfl
   have k:=T.el p hp;have k':=hin p hp;have g1:FU (Aq (Dj ws ts)) (tD p.1)=some (.list ((CK ws p.1).map AJ)):=Kp (k:=some p.1) (We hs k.1) (QO k'.1);have g2:FU (Aq (Dj ws ts)) (tD p.2)=some (.list ((CK ws p.2).map AJ)):=Kp (k:=some p.2) (We hs k.2.1) (QO k'.2);refine Af (xs:=[.list ((CK ws p.1).map AJ),.int (i:Nat),AJ (Ao ws p.2)]) (Al (AW (x:=Aq (Dj ws ts)) (y:=tD p.1) rfl rfl g1) (Al rfl (Al (AW (x:=.list ((CK ws p.2).map AJ)) (y:=.int 0) (AW (x:=Aq (Dj ws ts)) (y:=tD p.2) rfl rfl g2) rfl ?_) rfl))) (X9 (Q2 hw k.1) (TK hw _));rw [Sb k.2.1];show FP (AJ (Ao ws p.2)::(Df ws p.2).map AJ) ((0:Nat):Int)=_;exact HR rfl
  ·have tot:F3 [.list (((CZ t).map fun p=>FR (CK ws p.1) i (Ao ws p.2)).map Ea)]=some (AJ (dj ws (i+1) t)):=by
    refine(M8 (by rw [List.length_map];have:=T.len;omega) fun q hq=>?_).trans ?_
    ·obtain⟨p,hp,rfl⟩:=aQ.mp hq;have k:=T.el p hp;unfold FR;cases h:(CK ws p.1)[i]? with
     |none=>exact⟨(by decide:(1:Int)≤1),(by decide:(0:Int).natAbs<2^200),(by decide:(1:Int).natAbs<2^200)⟩
     |some d =>
      have hd:=Q2 hw k.1 d (aM h);have hq:=TK hw p.2;refine⟨?_,Nat.lt_of_lt_of_le (FM.nn hd hq) (aS (by decide) (by decide)),Nat.lt_of_lt_of_le (FM.dd hd hq) (aS (by decide) (by decide))⟩;have h1:0<(d.den:Int):=by have:=d.den_nz;omega
      have h2:0<((Ao ws p.2).den:Int):=by have:=(Ao ws p.2).den_nz;omega
      have:=Int.mul_pos h1 h2;show 1≤(d.den:Int)*(Ao ws p.2).den;omega
    ·rw [List.map_map]
     congr 3
     exact aT fun p hp=>YE ws (T.el p hp).1 i _
   refine⟨[.d (tD t),.d (Aq (Dj ws ts)),.d (.list ((CZ t).map L5)),.own (.lst (((List.range (i+1)).map fun j=>dj ws (j+1) t).map AJ)),.d (.int (i:Nat)),.d (.list (((CZ t).map fun p=>FR (CK ws p.1) i (Ao ws p.2)).map Ea))],?_,_,_,rfl⟩;show(AU F3 _ _).bind _=_;rw [show AU F3 (AB (nm 5) AI) [.d (tD t),.d (Aq (Dj ws ts)),.d (.list ((CZ t).map L5)),.own (.lst (((List.range i).map fun j=>dj ws (j+1) t).map AJ)),.d (.int (i:Nat)),.d (.list (((CZ t).map fun p=>FR (CK ws p.1) i (Ao ws p.2)).map Ea))]=_ from tot];show(if(((List.range i).map fun j=>dj ws (j+1) t).map AJ).length<Bm then _ else _)=_;rw [if_pos (by rw [List.length_map,List.length_map,List.length_range];unfold Bm;omega),List.range_succ,List.map_append,List.map_append]
   rfl
 ·obtain⟨l4,l5,rfl⟩:=hI;have:(GD 0 (t.AL-1)).length=t.AL-1:=by unfold GD;simp
  rw [this]
  rfl
def a7{β γ:Type}(F:Nat→β)(G:β×Nat→γ)(m:Nat):(((List.range m).map F).zipIdx.map G)=(List.range m).map fun i=>G (F i,i):=by
 refine bW fun i=>?_;rw [List.getElem?_map,List.getElem?_zipIdx,List.getElem?_map,List.getElem?_map];by_cases h:i<m
 ·rw [List.getElem?_range h];simp
 ·rw [List.getElem?_eq_none (by rw [List.length_range];omega)];rfl
def XC(L:List Rat):Hx (L.map AJ)=L.zipIdx.map fun z=>.tuple [.int ((z.2+2:Nat):Int),AJ z.1]:=by
 unfold Hx;refine bW fun i=>?_;rw [List.getElem?_map,List.getElem?_zipIdx,List.getElem?_map,List.getElem?_map,List.getElem?_zipIdx];cases L[i]? <;> rfl
abbrev iI(z:Rat×Nat):Int×Int:=(z.1.num,(z.1.den:Int)*fc (z.2+2))
noncomputable abbrev dB:MD:=CF F3 BV
def lO{L:List Rat}(hl:L.length≤5)(hL:∀d∈L,FM.Fits d 80):dB [.list (L.map AJ)]=some (AJ (L.zipIdx.map fun z=>z.1*Rat.divInt 1 (fc (z.2+2))).sum):=by
 refine HV rfl ?_;unfold Kh;have hz:∀z∈L.zipIdx,z.1∈L∧z.2<L.length:=fun z hz=>by
  obtain⟨i,hi⟩:=aZ.mp hz;rw [List.getElem?_zipIdx]at hi;obtain⟨x,h1,rfl⟩:=aC.mp hi;exact⟨aM h1,by have:=(aE.mp h1).1;simpa using this⟩
 have e:D3 (DV 1 2) EL (DZ (AB (AQ CP (nm 2) (fC (.int 0))) (AB (AQ Cg (AQ CP (nm 2) (fC (.int 1))) (AU BV (AB (nm 1) AI))) AI))) [none,none,none] (GA Rx (AB (nm 0) AI)) [.d (.list (L.map AJ))]=some (.list ((L.zipIdx.map iI).map Ea)):=by
  refine Eq.trans (Oj (zs:=L.zipIdx) (a:=fun z=>.int ((z.2+2:Nat):Int)) (b:=fun z=>AJ z.1) (g:=fun z=>Ea (iI z)) ?_ (by rw [List.length_zipIdx];unfold Bm;omega) fun z h=>?_) (by rw [List.map_map];rfl)
  ·show some (Hx (L.map AJ))=_;rw [XC]
  ·obtain⟨h1,h2⟩:=hz z h;have hp:=ZI (z.2+2) (by omega);have hd:=hL _ h1;have hf:=(SE (z.2+2) (by omega)).2.1;refine U2 (Al (AW (x:=AJ z.1) (y:=.int 0) rfl rfl rfl) (Al (AW (x:=.int (z.1.den:Int)) (y:=.int (fc (z.2+2))) (AW (x:=AJ z.1) (y:=.int 1) rfl rfl rfl) (Af (xs:=[.int ((z.2+2:Nat):Int)]) rfl hp) (mul_r (aH hf (by decide)))) rfl)) (by show(2:Nat)≤Bm;decide)
 refine GU (Af (xs:=[.list ((L.zipIdx.map iI).map Ea)]) (Al e rfl) ((M8 (by rw [List.length_map,List.length_zipIdx];omega) fun q hq=>?_).trans ?_))
 ·obtain⟨z,h,rfl⟩:=aQ.mp hq;obtain⟨h1,h2⟩:=hz z h;have hd:=hL _ h1;have hf:=SE (z.2+2) (by omega);refine⟨?_,Nat.lt_of_lt_of_le hd.1 (aS (by decide) (by decide)),Nat.lt_of_lt_of_le (FM.Hu hd.d hf.2.1) (aS (by decide) (by decide))⟩;have h1:0<(z.1.den:Int):=by have:=z.1.den_nz;omega
  have:=Int.mul_pos h1 (show 0<fc (z.2+2) by have:=hf.1;omega);show 1≤(z.1.den:Int)*fc (z.2+2);omega
 ·rw [List.map_map]
  congr 3
  refine aT fun z h=>?_;show Rat.divInt z.1.num ((z.1.den:Int)*fc (z.2+2))=z.1*Rat.divInt 1 (fc (z.2+2))
  conv=>rhs;rw [←FM.DB z.1,Rat.divInt_mul_divInt,Int.mul_one]
def MH{ws:List Rat}(hw:Lj ws){t:Tr}(ht:t∈AF 5):(Df ws t).length≤5∧∀d∈Df ws t,FM.Fits d 80:=by
 have:=(CY 5 (by decide)).2 t ht;refine⟨by unfold Df;rw [List.length_map,List.length_range];omega,fun d hd=>?_⟩;obtain⟨j,hj,rfl⟩:=aQ.mp hd;have:=az.mp hj;exact Uy hw (by omega) ht
def Z9{ws:List Rat}(hw:Lj ws){t:Tr}(ht:t∈AF 5):dB [.list ((Df ws t).map AJ)]=some (AJ ((List.range (t.AL-1)).map fun i=>KJ ws (i+1) t).sum):=by
 rw [lO (MH hw ht).1 (MH hw ht).2];unfold Df;rw [a7]
 rfl
def LG:∀L:List Rat,Ge (L.map AJ)=true
 |[]=>rfl
 |q::L=>by rw [List.map_cons,Ge,LG L];rfl
noncomputable abbrev gf(C1 C2:AD):List PD→Option Xr:=BD mS X4 dB (JM C2) (EF C1)
def eA{n:Nat}(hn:n≤5){ws:List Rat}(hl:ws.length=Bs n)(hw:Lj ws)(C1 C2:AD):gf C1 C2 [An ws]=some (.inl (An (((AF 5).take (Bs n)).map (A9 ws)))):=by
 refine P5 rfl ?_;unfold Jv;have tl:=(CY n hn).1;have t5:(AF 5).length=17:=(CY 5 (by decide)).1;have h17:Bs n≤17:=by rcases n with _|_|_|_|_|_|n<;>first|decide|omega
 refine Iz (δ':=[.d (An ws),.d (Ay n),.no,.no,.no,.no,.no]) ?_ ?_
 ·have e:EO (Gz (EO (Hy (AB (nm 0) AI)) (EF C1)) (Hy AI)) (JM C2) [.d (An ws),.no,.no,.no,.no,.no,.no]=some (.inl (Ay n)):=by
   have e1:EO (Hy (AB (nm 0) AI)) (EF C1) [.d (An ws),.no,.no,.no,.no,.no,.no]=some (.inl (.int (n:Nat))):=Li hn hl C1;have e2:Gz (EO (Hy (AB (nm 0) AI)) (EF C1)) (Hy AI) [.d (An ws),.no,.no,.no,.no,.no,.no]=some (.inl [.int (n:Nat)]):=by unfold Gz;rw [e1];rfl
   unfold EO at e2 ⊢;rw [e2];exact Wl hn C2
  show(EO _ _ _).map _=_;rw [show EO (Gz (EO (Hy (AB (nm 0) AI)) (EF C1)) (Hy AI)) (JM C2) (GG ["numbers", "trees", "moves", "weights", "tree", "number", "later"] [An ws])=_ from e]
  rfl
 refine PV ?_;refine A2 (δ':=[.d (An ws),.d (Ay n),.own (.Cr []),.no,.no,.no,.no]) rfl ?_;refine A2 (δ':=[.d (An ws),.d (Ay n),.own (.Cr []),.own (.lst []),.no,.no,.no]) rfl ?_;refine LY (xs:=Mi (B0 (Tr.of (AF n))) (ws.map AJ)) (fun i δ=>∃l4 l5 l6,δ=[.d (An ws),.d (Ay n),.own (.Cr (Dj ws ((AF 5).take i))),.own (.lst ((((AF 5).take i).map (A9 ws)).map AJ)),l4,l5,l6]∧NG l6=true) rfl ⟨.no,.no,.no,rfl,rfl⟩ (fun i x δ hx hI=>?_) fun δ' hI=>?_
 ·obtain⟨l4,l5,l6,rfl,hn6⟩:=hI;obtain⟨a,b,h1,h2,rfl⟩:=N0 hx;rw [GL,List.getElem?_map]at h1;obtain⟨t,h3,rfl⟩:=aC.mp h1;rw [List.getElem?_map]at h2;obtain⟨q,h4,rfl⟩:=aC.mp h2;have ht5:=Jt hn h3;have hm:=aM ht5;have hi:=(aE.mp ht5).1;have hwq:=WR ht5 h4;subst hwq;have htk:(AF 5).take (i+1)=(AF 5).take i++[t]:=by rw [List.take_succ,ht5];rfl
  have hs:∀u∈(AF 5).take i,u∈AF 5:=fun u hu=>List.mem_of_mem_take hu;have hla:X4 [tD t,Aq (Dj ws ((AF 5).take i))]=some (.list ((Df ws t).map AJ)):=Zu hw hm hs fun p hp=>by
   have k:=(Ox hm).el p hp;rw [Ll ht5]at k;exact⟨HW k.1 k.2.2.1,HW k.2.1 k.2.2.2.1⟩
  refine⟨[.d (An ws),.d (Ay n),.own (.Cr (Dj ws ((AF 5).take i))),.own (.lst ((((AF 5).take i).map (A9 ws)).map AJ)),.d (tD t),.d (AJ (Ao ws t)),l6],rfl,?_⟩;refine KH (CJ (VN (kvs:=Dj ws ((AF 5).take i)) rfl (Af (xs:=[tD t,Aq (Dj ws ((AF 5).take i))]) rfl hla) (LG _) ?_)) ?_
  ·unfold alone;show([L.d (An ws),.d (Ay n),.no,.own (.lst ((((AF 5).take i).map (A9 ws)).map AJ)),.d (tD t),.d (AJ (Ao ws t)),l6]:Dv).all NG=true;show(true&&(true&&(true&&(Ge ((((AF 5).take i).map (A9 ws)).map AJ)&&(true&&(true&&(NG l6&&true)))))))=true;rw [LG,hn6];rfl
  have hadd:Bx (.list [AJ (Ao ws t)]) (.list ((Df ws t).map AJ))=some (.list ((CK ws t).map AJ)):=by
   refine(add_l ?_).trans ?_
   ·have:=(MH hw hm).1;rw [List.length_map];show 1+_≤Bm;unfold Bm;omega
   ·rw [Sb hm];rfl
  refine KH (δ':=[.d (An ws),.d (Ay n),.own (.Cr (Dj ws ((AF 5).take (i+1)))),.own (.lst ((((AF 5).take i).map (A9 ws)).map AJ)),.d (tD t),.d (AJ (Ao ws t)),.d (.list ((Df ws t).map AJ))]) ((TQ (k:=some t) (kvs:=Dj ws ((AF 5).take i)) (y:=.list ((CK ws t).map AJ)) (AW (x:=.list [AJ (Ao ws t)]) (y:=.list ((Df ws t).map AJ)) rfl rfl hadd) rfl rfl (We hs hm) (by unfold Dj;rw [List.length_map,List.length_take];omega)).trans ?_) ?_
  ·unfold Dj;rw [df (Tx ht5),htk,List.map_append]
   rfl
  have hsum:mS [AJ (Ao ws t),AJ ((List.range (t.AL-1)).map fun i=>KJ ws (i+1) t).sum]=some (AJ (A9 ws t)):=kJ ((TK hw t).mono (by decide)) ((Xu hw hm).mono (by decide));refine⟨[.d (An ws),.d (Ay n),.own (.Cr (Dj ws ((AF 5).take (i+1)))),.own (.lst ((((AF 5).take (i+1)).map (A9 ws)).map AJ)),.d (tD t),.d (AJ (Ao ws t)),.d (.list ((Df ws t).map AJ))],?_,_,_,_,rfl,rfl⟩;have e:AU mS (AB (nm 5) (AB (AU dB (AB (nm 6) AI)) AI)) [.d (An ws),.d (Ay n),.own (.Cr (Dj ws ((AF 5).take (i+1)))),.own (.lst ((((AF 5).take i).map (A9 ws)).map AJ)),.d (tD t),.d (AJ (Ao ws t)),.d (.list ((Df ws t).map AJ))]=some (AJ (A9 ws t)):=Af (xs:=[AJ (Ao ws t),AJ ((List.range (t.AL-1)).map fun i=>KJ ws (i+1) t).sum]) (Al rfl (Al (Af (xs:=[.list ((Df ws t).map AJ)]) rfl (Z9 hw hm)) rfl)) hsum;show(AU _ _ _).bind _=_;rw [e];show(if((((AF 5).take i).map (A9 ws)).map AJ).length<Bm then _ else _)=_;rw [if_pos (by rw [List.length_map,List.length_map,List.length_take];unfold Bm;omega),htk,List.map_append,List.map_append]
  rfl
 ·obtain⟨l4,l5,l6,rfl,_⟩:=hI;have:(Mi (B0 (Tr.of (AF n))) (ws.map AJ)).length=Bs n:=by
   unfold Mi;rw [List.length_map,List.length_zip,GL,List.length_map,List.length_map,hl,tl,Nat.min_self]
  rw [this]
  rfl
abbrev Yj:MD:=Be Jo
def W9{p q:Rat}(hp:FM.Fits p 190)(hq:FM.Fits q 190):Yj [AJ p,AJ q]=some (AJ (p*q)):=by
 refine HV rfl ?_;unfold PJ;refine GU (Af (xs:=[.int (p.num*q.num),.int ((p.den:Int)*q.den)]) (Al (AW (x:=.int p.num) (y:=.int q.num) rfl rfl (OL hp.1 hq.1 (by decide))) (Al (AW (x:=.int (p.den:Int)) (y:=.int (q.den:Int)) rfl rfl (OL hp.d hq.d (by decide))) rfl)) ?_);refine(MZ (FM.NH p q) (aH (FM.dd hp hq) (aS (by decide) (by decide)))).trans ?_;rw [FM.OW]
abbrev iC:MD:=Dl Jo
def fj{p q:Rat}(hp:FM.Fits p 190)(hq:FM.Fits q 190):iC [AJ p,AJ q]=some (AJ (p+q)):=by
 refine HV rfl ?_;unfold PB;refine GU (Af (xs:=[.int (p.num*q.den+q.num*p.den),.int ((p.den:Int)*q.den)]) (Al (AW (x:=.int (p.num*q.den)) (y:=.int (q.num*p.den)) (AW (x:=.int p.num) (y:=.int (q.den:Int)) rfl rfl (OL hp.1 hq.d (by decide))) (AW (x:=.int q.num) (y:=.int (p.den:Int)) rfl rfl (OL hq.1 hp.d (by decide))) rfl) (Al (AW (x:=.int (p.den:Int)) (y:=.int (q.den:Int)) rfl rfl (OL hp.d hq.d (by decide))) rfl)) ?_);refine(MZ (FM.NH p q) (aH (FM.dd hp hq) (aS (by decide) (by decide)))).trans ?_;rw [FM.Xz]
def SU(P:Ps):Nat→Tr→CB
 |0,t=>HK P t
 |j+1,t=>Px ((CZ t).map fun p=>Hf (SU P j p.1) (HK P p.2))
def iE{n:Nat}(hn:n≤5){t:Tr}(ht:t∈AF n):∀p∈CZ t,p.1∈AF n∧p.2∈AF n:=fun p hp=>by
 obtain⟨i,hi⟩:=aZ.mp ht;have ht5:=Jt hn hi;have hin:i<(AF n).length:=(aE.mp hi).1;have k:=(Ox (aM ht5)).el p hp;rw [Ll ht5]at k;exact⟨Pg hn (bL hin) (HW k.1 k.2.2.1),Pg hn (bL hin) (HW k.2.1 k.2.2.2.1)⟩
def cu{n:Nat}(hn:n≤5){x:Nat→Rat}{P:Ps}{ws:List Rat}(h:Q8 n x P ws):∀(j:Nat) {t:Tr},t∈AF n→dj ws j t=BK x (SU P j t)
 |0,t,ht=>h t ht
 |j+1,t,ht=>by
  unfold dj SU;rw [M6,List.map_map]
  congr 1
  refine aT fun p hp=>?_;obtain⟨k1,k2⟩:=iE hn ht p hp;show dj ws j p.1*Ao ws p.2=BK x (Hf (SU P j p.1) (HK P p.2));rw [Kt,cu hn h j k1,h p.2 k2]
def WZ(m:Int)(p:CB):CB:=p.map fun t=>(t.1,t.2 / m)
def WL(m:Int)(p:CB):Bool:=p.all fun t=>decide (t.2 % m=0)
def YD{m:Int}(hm:m≠0):(m:Rat)*Rat.divInt 1 m=1:=by
 have e:(m:Rat)=Rat.divInt m 1:=(FM.DB (m:Rat)).symm;rw [e,Rat.divInt_mul_divInt,Int.mul_one,Int.one_mul];have:=Rat.divInt_mul_right (n:=1) (d:=1) hm;rw [Int.one_mul]at this;rw [this]
 kernel_rfl
def X0{m:Int}(hm:m≠0)(x:Nat→Rat):∀ {p:CB},WL m p=true→BK x (WZ m p)=BK x p*Rat.divInt 1 m
 |[],_=>by show(0:Rat)=0*_;rw [Rat.zero_mul]
 |t::p,h=>by
  unfold WL at h;rw [List.all_cons,Bool.and_eq_true]at h;have e:=aO h.1;have hc:(t.2:Rat)*Rat.divInt 1 m=((t.2 / m:Int):Rat):=by
   have:t.2=m*(t.2 / m):=by have:=Int.mul_ediv_add_emod t.2 m;omega
   conv=>lhs;rw [this,U9]
   rw [Rat.mul_comm (m:Rat),Rat.mul_assoc,YD hm,Rat.mul_one]
  show((t.2 / m:Int):Rat)*D4 x t.1+BK x (WZ m p)=((t.2:Rat)*D4 x t.1+BK x p)*Rat.divInt 1 m;rw [X0 hm x h.2,Rat.add_mul,←hc]
  congr 1
  rw [Rat.mul_assoc,Rat.mul_assoc,Rat.mul_comm (Rat.divInt 1 m)]
def VQ(P:Ps)(t:Tr):CB:=Gi (HK P t) (Px ((List.range (t.AL-1)).map fun i=>WZ (fc (i+2)) (SU P (i+1) t)))
def hW(P:Ps)(t:Tr):Bool:=(List.range (t.AL-1)).all fun i=>WL (fc (i+2)) (SU P (i+1) t)
def j8{n:Nat}(hn:n≤5){x:Nat→Rat}{P:Ps}{ws:List Rat}(h:Q8 n x P ws){t:Tr}(ht:t∈AF n)(hk:hW P t=true):A9 ws t=BK x (VQ P t):=by
 unfold A9 VQ;rw [Kj,h t ht,M6,List.map_map]
 congr 2
 refine aT fun i hi=>?_;have h5:=(CY n hn).2 t ht;have hi':=az.mp hi;show dj ws (i+1) t*Rat.divInt 1 (fc (i+1+1))=BK x (WZ (fc (i+2)) (SU P (i+1) t));have hf:=(SE (i+2) (by omega)).1;rw [cu hn h (i+1) ht,X0 (by omega) x (aL.mp hk i hi)]
def BC.a6{α:Type}{m:Int}(hm:m≠0){c:α→Nat}{f:α→Rat}:∀ {l:List α},(∀a∈l,BC m (c a) (f a))→BC m (l.map c).sum (l.map f).sum
 |[],_=>by rw [List.map_nil,List.map_nil,List.sum_nil,List.sum_nil];exact .zero
 |a::l,h=>by
  rw [List.map_cons,List.map_cons,List.sum_cons,List.sum_cons];exact(h a (.head _)).add hm (BC.a6 hm fun x hx=>h x (.tail _ hx))
def cnt:Nat→Tr→Nat
 |0,_=>1
 |j+1,t=>((CZ t).map fun p=>cnt j p.1).sum
def Pj(n:Nat):((720:Int)^n)≠0:=Int.pow_ne_zero (by decide)
def WT{ws:List Rat}(hw:∀q∈ws,BC 720 28800 q)(t:Tr):BC 720 28800 (Ao ws t):=by
 unfold Ao;rw [List.getD_eq_getElem?_getD];cases h:ws[(AF 5).idxOf t]? with
 |none=>exact .zero
 |some q=>exact hw q (aM h)
def ZE{ws:List Rat}(hw:∀q∈ws,BC 720 28800 q):∀(j:Nat) {t:Tr},BC (720^(j+1)) (cnt j t*28800^(j+1)) (dj ws j t)
 |0,t=>by simpa [dj,cnt]using WT hw t
 |j+1,t=>by
  unfold dj;have:=BC.a6 (m:=720^(j+2)) (Pj _) (l:=CZ t) (c:=fun p=>cnt j p.1*28800^(j+1)*28800) (f:=fun p=>dj ws j p.1*Ao ws p.2) fun p _=>by
   have k:=(ZE hw j (t:=p.1)).mul (WT hw p.2);rw [←Int.pow_succ]at k;exact k
  refine this.mono (Nat.le_of_eq ?_);show _=((CZ t).map fun p=>cnt j p.1).sum*28800^(j+1+1);clear this;generalize CZ t=L
  induction L with
  |nil=>simp
  |cons p l ih=>rw [List.map_cons,List.map_cons,List.sum_cons,List.sum_cons,ih,Nat.add_mul,Nat.pow_succ 28800 (j+1),Nat.mul_assoc]
def eF:Nat→Nat
 |1=>60
 |2=>20
 |3=>5
 |4=>1
 |_=>0
def nE:∀j,1≤j→j≤4→BC 120 (eF j) (Rat.divInt 1 (fc (j+1))):=by
 intro j h1 h4;rcases j with _|_|_|_|_|j
 ·omega
 ·exact⟨60,by kernel_rfl,by decide⟩
 ·exact⟨20,by kernel_rfl,by decide⟩
 ·exact⟨5,by kernel_rfl,by decide⟩
 ·exact⟨1,by kernel_rfl,by decide⟩
 ·omega
def bS(j:Nat)(t:Tr):Nat:=cnt j t*28800^(j+1)*eF j*(720^(t.AL-(j+1))*120^(t.AL-1))
def iM(t:Tr):Nat:=28800*(720^(t.AL-1)*120^t.AL)+((List.range (t.AL-1)).map fun i=>bS (i+1) t).sum
def lJ:((AF 5).all fun t=>decide (iM t≤2^(28*t.AL))&&(List.range t.AL).all fun j=>decide (cnt j t*28800^(j+1)<2^80)&&decide (((720:Int)^(j+1)).natAbs<2^80))=true:=by decide +kernel
def Zm{t:Tr}(ht:t∈AF 5):iM t≤2^(28*t.AL)∧∀j<t.AL,cnt j t*28800^(j+1)<2^80∧((720:Int)^(j+1)).natAbs<2^80:=by
 have:=aL.mp lJ t ht;rw [Bool.and_eq_true]at this;refine⟨aO this.1,fun j hj=>?_⟩;have:=aL.mp this.2 j (az.mpr hj);rw [Bool.and_eq_true]at this;exact⟨aO this.1,of_decide_eq_true this.2⟩
def fJ{ws:List Rat}(hw:∀q∈ws,BC 720 28800 q){t:Tr}(ht:t∈AF 5){i:Nat}(hi:i<t.AL-1):BC (86400^t.AL) (bS (i+1) t) (KJ ws (i+1) t):=by
 have hk:=K9 ht;have h1:=((ZE hw (i+1) (t:=t)).mul (nE (i+1) (by omega) (by omega))).up (k:=720^(t.AL-(i+2))*120^(t.AL-1)) (Int.mul_ne_zero (Pj _) (Int.pow_ne_zero (by decide)));have e:(720:Int)^(i+1+1)*120*(720^(t.AL-(i+2))*120^(t.AL-1))=86400^t.AL:=by
  rw [show(86400:Int)=720*120 by decide,Int.mul_pow]
  conv=>rhs;rw [show t.AL=(i+1+1)+(t.AL-(i+2)) by omega,Int.pow_add,show(i+1+1)+(t.AL-(i+2))=(t.AL-1)+1 by omega,Int.pow_succ 120]
  ac_rfl
 rw [e]at h1;refine h1.mono (Nat.le_of_eq ?_);unfold bS;rw [Int.natAbs_mul,Int.natAbs_pow,Int.natAbs_pow]
 rfl
def SS{ws:List Rat}(hw:∀q∈ws,BC 720 28800 q){t:Tr}(ht:t∈AF 5):BC (86400^t.AL) ((List.range (t.AL-1)).map fun i=>bS (i+1) t).sum ((List.range (t.AL-1)).map fun i=>KJ ws (i+1) t).sum :=
 BC.a6 (QC _) fun _ hi=>fJ hw ht (az.mp hi)
def i4{ws:List Rat}(hw:∀q∈ws,BC 720 28800 q){t:Tr}(ht:t∈AF 5):BC (86400^t.AL) (2^(28*t.AL)) (A9 ws t):=by
 have hk:=K9 ht;have h1:=(WT hw t).up (k:=720^(t.AL-1)*120^t.AL) (Int.mul_ne_zero (Pj _) (Int.pow_ne_zero (by decide)));have e:(720:Int)*(720^(t.AL-1)*120^t.AL)=86400^t.AL:=by
  rw [show(86400:Int)=720*120 by decide,Int.mul_pow,←Int.mul_assoc,←Int.pow_succ',show t.AL-1+1=t.AL by omega]
 rw [e,Int.natAbs_mul,Int.natAbs_pow,Int.natAbs_pow]at h1;exact(h1.add (QC _) (SS hw ht)).mono (Zm ht).1
def mm{ws:List Rat}(hw:∀q∈ws,BC 720 28800 q):Lj ws where
 w:=fun t=>(WT hw t).fits (by decide) (by decide) (by decide)
 d:=fun {j} hj {t} ht=>by
  by_cases z:t.AL≤j
  ·rw [QX ws j ht z];exact Q0 79
  ·have:=(Zm ht).2 j (by omega);exact(ZE hw j).fits (Pj _) this.1 this.2
 b:=fun {t} ht=>by
  have hk:=K9 ht;refine(SS hw ht).fits (QC _) ?_ ?_
  ·refine aX (ae (Nat.le_add_left _ _) (Zm ht).1) (Nat.pow_lt_pow_right (by decide) (by omega))
  ·rw [Int.natAbs_pow];exact aX (aS (by decide) hk.2) (by decide)
def SR{α:Type}{i:Nat}{f:Dv→Option PD}{tif:Dv→Option Bool}{fs:Dv→Option (List PD)}{δ:Dv}{fr:List (Option Nat)}{zs:List α}{a g:α→PD}{p:α→Bool}(hx:fs δ=some (zs.map a))(hl:zs.length≤Bm)
 (ht:∀z∈zs,tif ((Bk fr δ).set i (.d (a z)))=some (p z))(h:∀z∈zs,p z=true→f ((Bk fr δ).set i (.d (a z)))=some (g z)):CO (Co i) tif f fr fs δ=some ((zs.filter p).map g):=by
 unfold CO;rw [hx,Option.bind_some];have:∀zs:List α,(∀z∈zs,tif ((Bk fr δ).set i (.d (a z)))=some (p z))→(∀z∈zs,p z=true→f ((Bk fr δ).set i (.d (a z)))=some (g z))→L2.collect (Fy (Co i) tif f (Bk fr δ)) (zs.map a)=some ((zs.filter p).map g):=fun zs=>by
  induction zs with
  |nil=>intro _ _;rfl
  |cons z zs ih =>
   intro ht h;rw [List.map_cons];unfold L2.collect;rw [ih (fun y hy=>ht y (.tail _ hy)) fun y hy=>h y (.tail _ hy)];cases hp:p z with
   |true =>
    have e:Fy (Co i) tif f (Bk fr δ) (a z)=some (some (g z)):=by
     unfold Fy Co;rw [Option.bind_some];show(tif _).bind _=_;rw [ht z (.head _),hp,Option.bind_some,if_pos rfl,h z (.head _) hp]
     rfl
    rw [e,List.filter_cons_of_pos hp];rfl
   |false =>
    have e:Fy (Co i) tif f (Bk fr δ) (a z)=some none:=by
     unfold Fy Co;rw [Option.bind_some];show(tif _).bind _=_;rw [ht z (.head _),hp,Option.bind_some,if_neg (by decide)]
    rw [e,List.filter_cons_of_neg (by rw [hp];decide)];rfl
 rw [this zs ht h,Option.bind_some,HL,if_pos (by rw [List.length_map];exact ae (List.length_filter_le _ _) hl)]
def i0:(K5.all fun k=>(AF 5).all fun t=>match HH true (CG k) (tD t) with|some (.bool b)=>b==decide (k≠some t)|_=>false)=true:=by decide +kernel
def jN{k:Option Tr}(hk:k∈K5){t:Tr}(ht:t∈AF 5):HH true (CG k) (tD t)=some (.bool (decide (k≠some t))):=by
 have:=aL.mp (aL.mp i0 k hk) t ht;split at this
 ·rename_i b e;rw [e,eq_of_beq this]
 ·cases this
def da:((AF 5).all fun t=>decide ((Cu t).filter (fun c=>decide (c.1=some t))=[(some t,[])])&&(Cu t).all fun c=>match c.1 with|none=>true|some u=>decide ((AF 5).idxOf u≤(AF 5).idxOf t))=true:=by decide +kernel
def cR{t:Tr}(ht:t∈AF 5):(Cu t).filter (fun c=>decide (c.1=some t))=[(some t,[])]∧∀c∈Cu t,∀u,c.1=some u→(AF 5).idxOf u≤(AF 5).idxOf t:=by
 have:=aL.mp da t ht;rw [Bool.and_eq_true]at this;refine⟨aO this.1,fun c hc u hu=>?_⟩;have:=aL.mp this.2 c hc;rw [hu]at this;exact aO this
def T5{α:Type}(p:α→Bool)(f:α→Rat):∀l:List α,(l.map f).sum=((l.filter p).map f).sum+((l.filter fun x=>!p x).map f).sum
 |[]=>by show(0:Rat)=0+0;rw [Rat.add_zero]
 |x::l=>by
  rw [List.map_cons,List.sum_cons,T5 p f l];cases h:p x with
  |true=>rw [List.filter_cons_of_pos h,List.filter_cons_of_neg (by simp [h]),List.map_cons,List.sum_cons,Rat.add_assoc]
  |false=>rw [List.filter_cons_of_neg (by simp [h]),List.filter_cons_of_pos (by simp [h]),List.map_cons,List.sum_cons,←Rat.add_assoc,←Rat.add_assoc,Rat.add_comm (f x)]
abbrev rest(t:Tr):List OC:=(Cu t).filter fun c=>decide (c.1≠some t)
def ZW(a b:List Rat){t:Tr}(ht:t∈AF 5)(h:F9 a b t=0):((rest t).map (JY a b)).sum * -1=Ao b t:=by
 have e:=T5 (fun c:OC=>decide (c.1=some t)) (JY a b) (Cu t);rw [(cR ht).1]at e;have e2:((Cu t).filter fun x=>!decide (x.1=some t))=rest t:=List.filter_congr fun c _=>by simp
 rw [e2]at e;have e3:(([(some t,[])]:List OC).map (JY a b)).sum=Ao b t:=by
  show Ao b t*1+0=_;rw [Rat.mul_one,Rat.add_zero]
 rw [e3]at e;unfold F9 at h;rw [h]at e;generalize ((rest t).map (JY a b)).sum=s at e;have:s=- Ao b t:=by
  have h2:s=(Ao b t+s)-Ao b t:=by rw [Rat.add_comm,Rat.add_sub_cancel]
  rw [h2,←e,Rat.sub_eq_add_neg,Rat.zero_add]
 rw [this,Rat.mul_neg,Rat.mul_one,Rat.neg_neg]
def RB:∀L:List (Int×Int),Ge (L.map Ea)=true
 |[]=>rfl
 |q::L=>by rw [List.map_cons,Ge,RB L];rfl
noncomputable abbrev iQ(C1 C2:AD):List PD→Option Xr:=Bd Aw mT F3 He (JM C2) (EF C1)
def l7{n:Nat}(hn:n≤5){a b:List Rat}(ha:a.length=Bs n)(hb:b.length=Bs n)(F:SA a b)(h0:∀t∈AF n,F9 a b t=0)(hs:∀t∈AF 5,FM.Fits ((rest t).map (JY a b)).sum 190)(C1 C2:AD):Fx Aw mT F3 He (JM C2) (EF C1) [.d (An a),.no,.no,.no,.no,.no]=some (.inl (.rn (b.map AJ))):=by
 have tl:=(CY n hn).1;have h17:=PK hn;unfold Fx;refine Iz (δ':=[.d (An a),.d (Ay n),.no,.no,.no,.no]) ?_ ?_
 ·have e:EO (Gz (EO (Hy (AB (nm 0) AI)) (EF C1)) (Hy AI)) (JM C2) [.d (An a),.no,.no,.no,.no,.no]=some (.inl (Ay n)):=by
   have e1:EO (Hy (AB (nm 0) AI)) (EF C1) [.d (An a),.no,.no,.no,.no,.no]=some (.inl (.int (n:Nat))):=Li hn ha C1;have e2:Gz (EO (Hy (AB (nm 0) AI)) (EF C1)) (Hy AI) [.d (An a),.no,.no,.no,.no,.no]=some (.inl [.int (n:Nat)]):=by unfold Gz;rw [e1];rfl
   unfold EO at e2 ⊢;rw [e2];exact Wl hn C2
  show(EO _ _ _).map _=_;rw [e]
  rfl
 refine PV ?_;have z1:∀(l2 l3 l4 l5:L),UG 2 (AB (nm 1) (AB (nm 0) AI)) [.d (An a),.d (Ay n),l2,l3,l4,l5]=some (.nx [.d (An a),.d (Ay n),.own (.Cr (Bo a (D5 n))),l3,l4,l5]):=fun _ _ _ _=>by
  show(YS (Ay n) (An a)).map _=_;rw [WI hn ha];rfl
 refine A2 (z1 _ _ _ _) ?_;refine A2 (δ':=[.d (An a),.d (Ay n),.own (.Cr (Bo a (D5 n))),.own (.Cr (Bo b [none])),.no,.no]) rfl ?_;refine LY (xs:=(AF n).map tD) (fun i δ=>∃l2 l4 l5,δ=[.d (An a),.d (Ay n),l2,.own (.Cr (Bo b (none::((AF n).take i).map some))),l4,l5]∧je (Bo a (D5 n)) l2∧NG l5=true) ?_ ⟨_,.no,.no,rfl,.inl rfl,rfl⟩ (fun i x δ hx hI=>?_) fun δ' hI=>?_
 ·show some (B0 (Tr.of (AF n)))=_;rw [GL]
 ·obtain⟨l2,l4,l5,rfl,hh,hn5⟩:=hI;rw [List.getElem?_map]at hx;obtain⟨t,hti,rfl⟩:=aC.mp hx;have hi:i<(AF n).length:=(aE.mp hti).1;have ht5:=Jt hn hti;have hm:=aM ht5;have htn:=aM hti;have T:=Oi hm;have el:=QU hn hti;have hlen:=T.len;have kb5:∀q∈none::((AF n).take i).map some,q∈K5:=fun q hq=>by
   rcases aK.mp hq with rfl|hq
   ·exact aV _ (.head _)
   ·obtain⟨u,hu,rfl⟩:=aQ.mp hq;exact bN _ (ax (Ia hn (List.mem_of_mem_take hu)))
  have hrest:∀c∈Cu t,c.1≠some t→c.1∈none::((AF n).take i).map some:=fun c hc hne=>by
   cases e:c.1 with
   |none=>exact .head _
   |some u =>
    refine .tail _ (ax ?_);have h5:=(ZG hm hc).2.2 u e;have hle:=(cR hm).2 c hc u e;rw [Ll ht5]at hle;have hlt:(AF 5).idxOf u<i:=by
     rcases Nat.lt_or_ge ((AF 5).idxOf u) i with z|z
     ·exact z
     ·have hlu:=bV.mpr h5;have e2:(AF 5)[(AF 5).idxOf u]? = some u:=by rw [List.getElem?_eq_getElem hlu,List.getElem_idxOf hlu]
      rw [show(AF 5).idxOf u=i by omega,ht5]at e2;cases e2;exact absurd e hne
    obtain⟨us,hu⟩:=Kf n (5-n);rw [show n+(5-n)=5 by omega]at hu;have:=HW h5 hlt
    rwa [hu,List.take_append_of_le_length (bL hi)]at this
  refine⟨[.d (An a),.d (Ay n),l2,.own (.Cr (Bo b (none::((AF n).take i).map some))),.d (tD t),l5],rfl,?_⟩;have e5:N9 2 (Ca 5 (Mu 3 (D3 (Co 1) (ER (HH true) (AQ CP (nm 1) (fC (.int 0))) (nm 4)) (AU Aw (AB (nm 1) (AB (nm 2) (AB (nm 3) AI)))) [none,none,some 2,some 3,some 4] (D6 (AU He (AB (nm 4) AI)))))) [.d (An a),.d (Ay n),l2,.own (.Cr (Bo b (none::((AF n).take i).map some))),.d (tD t),l5]
    = some (.nx [.d (An a),.d (Ay n),.d (Aq (Bo a (D5 n))),.own (.Cr (Bo b (none::((AF n).take i).map some))),.d (tD t),.d (.list (((rest t).map fun c:OC=>D7 (Cc b c.1) (c.2.map (Ao a))).map Ea))]):=by
   show Ca 5 _ (Ef 2 _)=_;rw [Zx hh];refine(CJ (y:=.list (((rest t).map fun c:OC=>D7 (Cc b c.1) (c.2.map (Ao a))).map Ea)) (VN (kvs:=Bo b (none::((AF n).take i).map some)) rfl ?_ (RB _) ?_)).trans rfl
   ·show(CO _ _ _ _ _ _).map PyData.list=_;rw [SR (zs:=Cu t) (a:=KI) (p:=fun c=>decide (c.1≠some t)) (g:=fun c:OC=>Ea (D7 (Cc b c.1) (c.2.map (Ao a)))) (Ut (x:=.list ((Cu t).map KI)) (Af (xs:=[tD t]) rfl T.a) rfl) (by unfold Bm;omega) (fun c hc=>?_) fun c hc hp=>?_]
    ·rw [List.map_map];rfl
    ·exact GK (x:=CG c.1) (y:=tD t) (AW (x:=KI c) (y:=.int 0) rfl rfl rfl) rfl (jN (b8 hn _ (el c hc).1) hm)
    ·obtain⟨k1,k2,k3⟩:=el c hc;exact Af (xs:=[KI c,Aq (Bo a (D5 n)),Aq (Bo b (none::((AF n).take i).map some))]) rfl (Sn (Pd hn) kb5 (hrest c hc (aO hp)) (fun p hp=>ax (k2 p hp)) F.wa (XZ F _) k3)
   ·unfold alone;show(true&&(true&&(true&&(true&&(true&&(NG l5&&true))))))=true;rw [hn5];rfl
  refine KH e5 ?_;have hnew:(some t:Option Tr) ∉ none::((AF n).take i).map some:=fun z=>by
   rcases aK.mp z with z|z
   ·cases z
   ·obtain⟨u,hu,e⟩:=aQ.mp z;cases e;refine Tx ht5 ?_;obtain⟨us,hu'⟩:=Kf n (5-n);rw [show n+(5-n)=5 by omega]at hu';rw [hu',List.take_append_of_le_length (bL hi)];exact hu
  have hrl:(rest t).length≤17:=ae (List.length_filter_le _ _) hlen;have tot:F3 [.list (((rest t).map fun c:OC=>D7 (Cc b c.1) (c.2.map (Ao a))).map Ea)]=some (AJ ((rest t).map (JY a b)).sum):=by
   refine(M8 (by rw [List.length_map];omega) fun q hq=>?_).trans ?_
   ·obtain⟨c,hc,rfl⟩:=aQ.mp hq;have:=F.sh hm c (List.mem_filter.mp hc).1;exact⟨MG _ _ (by have:=(Cc b c.1).den_nz;show(1:Int)≤((Cc b c.1).den:Int);omega),this.1,this.2⟩
   ·rw [List.map_map]
    congr 3
    exact aT fun c _=>T3 _ _
  have tm:mT [AJ ((rest t).map (JY a b)).sum,AJ (-1)]=some (AJ (Ao b t)):=by
   refine(kZ ((hs t hm).mono (by decide)) ⟨by decide,by decide⟩).trans ?_;rw [ZW a b hm (h0 t htn)]
  refine⟨[.d (An a),.d (Ay n),.d (Aq (Bo a (D5 n))),.own (.Cr (Bo b (none::((AF n).take (i+1)).map some))),.d (tD t),.d (.list (((rest t).map fun c:OC=>D7 (Cc b c.1) (c.2.map (Ao a))).map Ea))],((TQ (k:=some t) (kvs:=Bo b (none::((AF n).take i).map some)) (y:=AJ (Ao b t)) (Af (xs:=[AJ ((rest t).map (JY a b)).sum,AJ (-1)]) (Al (Af (xs:=[.list (((rest t).map fun c:OC=>D7 (Cc b c.1) (c.2.map (Ao a))).map Ea)]) rfl tot) (Al rfl rfl)) tm) rfl rfl (W4 kb5 (bN _ (ax hm))) (by rw [List.length_map,List.length_cons,List.length_map,List.length_take];omega)).trans ?_),_,_,_,rfl,.inr rfl,rfl⟩;rw [T4 hnew];have:Bo b (none::((AF n).take (i+1)).map some)=Bo b (none::((AF n).take i).map some)++[(some t,AJ (Ao b t))]:=by
   rw [take_snoc hti,List.map_append,←List.cons_append,Bo,List.map_append]
   rfl
  rw [this]
  rfl
 ·obtain⟨l2,l4,l5,rfl,hh,_⟩:=hI;rw [List.length_map,List.take_length];have kb5:∀q∈none::(AF n).map some,q∈K5:=fun q hq=>by
   rcases aK.mp hq with rfl|hq
   ·exact aV _ (.head _)
   ·exact Pd hn q hq
  have c:CO (Co 1) EL (AQ FU (nm 2) (nm 1)) [none,none,some 3] (D6 (nm 1)) [.d (An a),.d (Ay n),l2,.d (Aq (Bo b (none::(AF n).map some))),l4,l5]=some ((AF n).map fun t=>AJ (Ao b t)):=by
   refine KA (zs:=AF n) (a:=tD) ?_ (by rw [tl];unfold Bm;omega) fun t ht=>?_
   ·show some (B0 (Tr.of (AF n)))=_;rw [GL]
   ·have hk:some t∈none::(AF n).map some:=.tail _ (ax ht);exact AW (x:=Aq (Bo b (none::(AF n).map some))) (y:=tD t) rfl rfl (Kp (k:=some t) (W4 kb5 (kb5 _ hk)) (R7 hk))
  show(CO _ _ _ _ _ [.d (An a),.d (Ay n),l2,.d (Aq (Bo b (none::(AF n).map some))),l4,l5]).map _=_;rw [c,show((AF n).map fun t=>AJ (Ao b t))=((AF n).map (Ao b)).map AJ by rw [List.map_map];rfl,b9 hn hb]
  rfl
def jy{n:Nat}(hn:n≤5){a b:List Rat}(ha:a.length=Bs n)(hb:b.length=Bs n)(sa:Jd a)(sb:Jd b)(h0:∀t∈AF n,F9 a b t=0)(C1 C2:AD):iQ C1 C2 [An a]=some (.inl (An b)) :=
 P5 rfl (l7 hn ha hb (b5 sa sb) h0 (fun t ht=>ZV sa sb ht (ae (List.length_filter_le _ _) (Oi ht).len) fun c hc=>(List.mem_filter.mp hc).1) C1 C2)
def fY(x:PD)(n:Nat)(h:n≤500):Cg (.list [x]) (.int (n:Nat))=some (.list (List.replicate n [x]).flatten):=by
 show(match UN (.list [x]) (.int (n:Nat)) with|some z=>some z|none=>SF (.list [x]) (.int (n:Nat)))=_;exact if_pos ⟨by unfold Bm;simp;omega,by omega,by omega⟩
def U6{α:Type}(x:PD):∀l:List α,(List.replicate l.length [x]).flatten=l.map fun _=>x
 |[]=>rfl
 |y::l=>by rw [List.length_cons,List.replicate_succ,List.flatten_cons,U6 x l];rfl
def nP(c:CB):Ps:=MI fun t=>Hf c [([(AF 5).idxOf t],120^t.AL)]
abbrev cA:CB:=[([17],1)]
abbrev cB:CB:=[([18],1)]
abbrev VS:CB:=[([17],1),([18],1)]
abbrev cN:CB:=[([17],-1)]
def NM(c:CB):Ps:=MI (VQ (nP c))
def mw:([cA,cB,VS,cN,[]].all fun c=>(AF 5).all fun t=>hW (nP c) t)=true:=by decide +kernel
def kI:((AF 5).all fun t=>jA (HK (cL (NM cA) (NM cB)) t) (HK (NM VS) t))=true:=by decide +kernel
def lG:((AF 5).all fun t=>decide (M3 (NM cA) (NM cN) t=[]))=true:=by decide +kernel
def lM:((AF 5).all fun t=>decide (VQ (nP []) t=[]))=true:=by decide +kernel
def GP(N:List Rat)(a b:Rat)(i:Nat):Rat:=if i<17 then N.getD i 0*Rat.divInt 1 (120^((AF 5)[i]?.map Tr.AL).getD 0) else if i=17 then a else b
def BH(N:List Rat)(q:Rat):List Rat:=N.map (· * q)
def j7(n:Nat)(hn:n≤5){N:List Rat}{a b:Rat}(c:CB):Q8 n (GP N a b) (nP c) (BH N (BK (GP N a b) c)):=fun t ht=>by
 have ht5:=Ia hn ht;have hlu:=bV.mpr ht5;have h17:(AF 5).length=17:=(CY 5 (by decide)).1;have e:(AF 5)[(AF 5).idxOf t]? = some t:=by rw [List.getElem?_eq_getElem hlu,List.getElem_idxOf hlu]
 unfold nP;rw [Pp _ ht5,Kt];show Ao (BH N _) t=BK _ c*(((120^t.AL:Int):Rat)*(GP N a b ((AF 5).idxOf t)*1)+0);have hx:GP N a b ((AF 5).idxOf t)=Ao N t*Rat.divInt 1 (120^t.AL):=by
  unfold GP;rw [if_pos (by omega),e]
  rfl
 rw [hx,Rat.mul_one,Rat.add_zero,Rat.mul_comm (Ao N t),←Rat.mul_assoc ((120^t.AL:Int):Rat),YD (Int.pow_ne_zero (by decide)),Rat.one_mul];unfold Ao BH;rw [List.getD_eq_getElem?_getD,List.getD_eq_getElem?_getD,List.getElem?_map];cases N[(AF 5).idxOf t]? with
 |none=>show(0:Rat)=_*0;rw [Rat.mul_zero]
 |some q=>exact Rat.mul_comm _ _
def Ko{n:Nat}(hn:n≤5){N:List Rat}{a b:Rat}{c:CB}(hc:c∈[cA,cB,VS,cN,[]]):(AF n).map (A9 (BH N (BK (GP N a b) c)))=G5 n (GP N a b) (NM c) :=
 aT fun t ht=>by
  have ht5:=Ia hn ht;rw [j8 hn (j7 n hn c) ht (aL.mp (aL.mp mw c hc) t ht5)];show _=BK _ (HK (MI (VQ (nP c))) t);rw [Pp _ ht5]
def nk{n:Nat}(hn:n≤5):(AF 5).take (Bs n)=AF n:=by
 obtain⟨us,hu⟩:=Kf n (5-n);rw [show n+(5-n)=5 by omega]at hu;rw [hu,←(CY n hn).1,List.take_append_of_le_length (aI _),List.take_length]
def Ws{n:Nat}(hn:n≤5){ws:List Rat}(hw:∀q∈ws,BC 720 28800 q):Jd ((AF n).map (A9 ws)):=by
 have tl:=(CY n hn).1;have h17:=PK hn;refine⟨by rw [List.length_map];omega,fun t ht=>?_⟩;by_cases z:t∈AF n
 ·obtain⟨i,hi⟩:=aZ.mp z;rw [WR (Jt hn hi) (q:=A9 ws t) (by rw [List.getElem?_map,hi];rfl)];exact i4 hw ht
 ·have:Ao ((AF n).map (A9 ws)) t=0:=by
   unfold Ao;rw [List.getD_eq_getElem?_getD,List.getElem?_eq_none]
   ·rfl
   ·rw [List.length_map];exact Nat.le_of_not_lt fun y=>z (Pg hn (aI _) (HW ht y))
  rw [this];exact .zero
abbrev Wk:MD:=Bv Yj
def dm{N:List Rat}(hl:N.length≤17)(hN:∀q∈N,FM.Fits q 190){q:Rat}(hq:FM.Fits q 190):Wk [An N,AJ q]=some (An (BH N q)):=by
 refine Qh rfl ?_;unfold Nl;show(CO _ _ _ _ _ _).map _=_;rw [KA (zs:=N) (a:=AJ) (g:=fun r=>AJ (r*q)) rfl (by unfold Bm;omega) fun r hr=>Af (xs:=[AJ r,AJ q]) rfl (W9 (hN r hr) hq)];unfold BH;rw [List.map_map]
 rfl
def jg{u v:Int}(hu:u.natAbs≤4)(hv:v=1∨v=2∨v=3∨v=4):BC 12 48 (Rat.divInt u v):=by
 have go:∀k:Int,k≠0→v*k=12→k.natAbs≤12→BC 12 48 (Rat.divInt u v):=fun k hk e hl=>⟨u*k,by rw [←e,Rat.divInt_mul_right hk],by rw [Int.natAbs_mul];exact ae (Nat.mul_le_mul hu hl) (by decide)⟩;rcases hv with rfl|rfl|rfl|rfl
 ·exact go 12 (by decide) (by decide) (by decide)
 ·exact go 6 (by decide) (by decide) (by decide)
 ·exact go 4 (by decide) (by decide) (by decide)
 ·exact go 3 (by decide) (by decide) (by decide)
def Ob{N:List Rat}(hN:∀q∈N,BC 60 300 q){q:Rat}(hq:BC 12 96 q):∀r∈BH N q,BC 720 28800 r:=fun r hr=>by
 obtain⟨p,hp,rfl⟩:=aQ.mp hr;exact(hN p hp).mul hq
noncomputable abbrev iB(C1 C2 C3:AD):MD:=cb iC Ae Jo Wk Yj (Bh Ae Jo) (gf C1 C2) (jQ C1 C2 C3) (iQ C1 C2)
def jh(ns:List Int)(C1 C2 C3:AD):iB C1 C2 C3 [B7 ns]=some (.bool true):=by
 refine HV rfl ?_;obtain⟨c0,hc0⟩:=QI ns 0;obtain⟨n,en⟩:∃n:Nat,c0 % 6=(n:Int):=⟨(c0 % 6).toNat,by omega⟩;have hn:n≤5:=by omega
 have h17:=PK hn;have tl:=(CY n hn).1;obtain⟨N,hN,_,lN,sN⟩:=Y4 ns 1 hn;have fN:∀q∈N,FM.Fits q 190:=fun q hq=>(sN q hq).fits (by decide) (by decide) (by decide);obtain⟨a,ea,ia⟩:∃a:Rat,Jo [.int (c0 / 6 % 9-4),.int (1+c0 / 54 % 4)]=some (AJ a)∧BC 12 48 a:=⟨_,MZ (by omega) (aX (show(1+c0 / 54 % 4).natAbs≤4 by omega) (aH (show 4<2^3 by decide) (aS (by decide) (by decide)))),jg (by omega) (by omega)⟩;obtain⟨b,eb,ib⟩:∃b:Rat,Jo [.int (c0 / 216 % 9-4),.int (1+c0 / 2000 % 4)]=some (AJ b)∧BC 12 48 b:=⟨_,MZ (by omega) (aX (show(1+c0 / 2000 % 4).natAbs≤4 by omega) (aH (show 4<2^3 by decide) (aS (by decide) (by decide)))),jg (by omega) (by omega)⟩;have fa:FM.Fits a 190:=ia.fits (by decide) (by decide) (by decide);have fb:FM.Fits b 190:=ib.fits (by decide) (by decide) (by decide);have iab:BC 12 96 (a+b):=ia.add (by decide) ib;have im:BC 12 96 (a * -1):=by
  obtain⟨u,e,hu⟩:=ia;refine⟨-u,by rw [e,Rat.mul_neg,Rat.mul_one,Rat.neg_divInt],by omega⟩
 have iz:BC 12 96 0:=.zero;have fit12:∀ {q:Rat},BC 12 96 q→FM.Fits q 190:=fun h=>h.fits (by decide) (by decide) (by decide);have lm:∀q,(BH N q).length=Bs n:=fun q=>by unfold BH;rw [List.length_map,lN]
 have fl:∀ {q:Rat},BC 12 96 q→good (gf C1 C2) [An (BH N q)]=some (An ((AF n).map (A9 (BH N q)))):=fun {q} h=>by
  unfold good;rw [eA hn (lm q) (mm (Ob sN h)) C1 C2,nk hn]
 have mn:∀ {q:Rat},BC 12 96 q→Wk [An N,AJ q]=some (An (BH N q)):=fun h=>dm (by omega) fN (fit12 h);have vA:BK (GP N a b) cA=a:=by
  show((1:Int):Rat)*(GP N a b 17*1)+0=a;rw [Rat.add_zero,Rat.mul_one,show((1:Int):Rat)=1 from rfl,Rat.one_mul];rfl
 have vB:BK (GP N a b) cB=b:=by
  show((1:Int):Rat)*(GP N a b 18*1)+0=b;rw [Rat.add_zero,Rat.mul_one,show((1:Int):Rat)=1 from rfl,Rat.one_mul];rfl
 have vAB:BK (GP N a b) VS=a+b:=by
  show((1:Int):Rat)*(GP N a b 17*1)+(((1:Int):Rat)*(GP N a b 18*1)+0)=a+b;rw [Rat.add_zero,Rat.mul_one,Rat.mul_one,show((1:Int):Rat)=1 from rfl,Rat.one_mul,Rat.one_mul];rfl
 have vN:BK (GP N a b) cN=a * -1:=by
  show((-1:Int):Rat)*(GP N a b 17*1)+0=a * -1;rw [Rat.add_zero,Rat.mul_one,show((-1:Int):Rat)=-1 from rfl,Rat.mul_comm];rfl
 have gA:(AF n).map (A9 (BH N a))=G5 n (GP N a b) (NM cA):=by have:=Ko hn (N:=N) (a:=a) (b:=b) (c:=cA) (.head _);rwa [vA]at this
 have gB:(AF n).map (A9 (BH N b))=G5 n (GP N a b) (NM cB):=by have:=Ko hn (N:=N) (a:=a) (b:=b) (c:=cB) (.tail _ (.head _));rwa [vB]at this
 have gAB:(AF n).map (A9 (BH N (a+b)))=G5 n (GP N a b) (NM VS):=by have:=Ko hn (N:=N) (a:=a) (b:=b) (c:=VS) (.tail _ (.tail _ (.head _)));rwa [vAB]at this
 have gN:(AF n).map (A9 (BH N (a * -1)))=G5 n (GP N a b) (NM cN):=by have:=Ko hn (N:=N) (a:=a) (b:=b) (c:=cN) (.tail _ (.tail _ (.tail _ (.head _))));rwa [vN]at this
 have gZ:(AF n).map (A9 (BH N 0))=(AF n).map fun _=>0:=by
  have:=Ko hn (N:=N) (a:=a) (b:=b) (c:=[]) (.tail _ (.tail _ (.tail _ (.tail _ (.head _)))));refine(show(AF n).map (A9 (BH N 0))=_ from this).trans ?_;refine aT fun t ht=>?_;have ht5:=Ia hn ht;show BK _ (HK (MI (VQ (nP []))) t)=0;rw [Pp _ ht5,of_decide_eq_true (aL.mp lM t ht5)]
  rfl
 have ia':BC 12 96 a:=ia.mono (by decide);have ib':BC 12 96 b:=ib.mono (by decide);have sA:=Ws hn (Ob sN ia');have sB:=Ws hn (Ob sN ib');have sM:=Ws hn (Ob sN im);have lf:∀q,((AF n).map (A9 (BH N q))).length=Bs n:=fun q=>by rw [List.length_map,tl]
 have co:good (jQ C1 C2 C3) [An ((AF n).map (A9 (BH N a))),An ((AF n).map (A9 (BH N b)))]=some (An ((AF n).map (A9 (BH N (a+b))))):=by
  unfold good;rw [gq hn (lf a) (lf b) (b5 sA sB) C1 C2 C3,gA,gB,gb hn,mD hn kI,gAB]
 have un:good (iQ C1 C2) [An ((AF n).map (A9 (BH N a)))]=some (An ((AF n).map (A9 (BH N (a * -1))))):=by
  unfold good;rw [jy hn (lf a) (lf (a * -1)) sA sM (by rw [gA,gN];exact iY hn lG _) C1 C2]
 unfold cv;refine A2 (CJ (y:=.int c0) (Af (xs:=[B7 ns,.int 0]) rfl hc0)) ?_;refine A2 (CJ (Af (xs:=[B7 ns,.int 1,.int (n:Nat)]) (Al rfl (Al rfl (Al (AW (x:=.int c0) (y:=.int 6) rfl rfl ((mod_is (by decide)).trans (by rw [en]))) rfl))) hN)) ?_;refine A2 (CJ (Af (xs:=[.int (c0 / 6 % 9-4),.int (1+c0 / 54 % 4)]) (Al (AW (x:=.int (c0 / 6 % 9)) (y:=.int 4) (AW (x:=.int (c0 / 6)) (y:=.int 9) (AW (x:=.int c0) (y:=.int 6) rfl rfl (div_is (by decide) (by decide))) rfl (mod_is (by decide))) rfl rfl) (Al (AW (x:=.int 1) (y:=.int (c0 / 54 % 4)) rfl (AW (x:=.int (c0 / 54)) (y:=.int 4) (AW (x:=.int c0) (y:=.int 54) rfl rfl (div_is (by decide) (by decide))) rfl (mod_is (by decide))) rfl) rfl)) ea)) ?_;refine A2 (CJ (Af (xs:=[.int (c0 / 216 % 9-4),.int (1+c0 / 2000 % 4)]) (Al (AW (x:=.int (c0 / 216 % 9)) (y:=.int 4) (AW (x:=.int (c0 / 216)) (y:=.int 9) (AW (x:=.int c0) (y:=.int 216) rfl rfl (div_is (by decide) (by decide))) rfl (mod_is (by decide))) rfl rfl) (Al (AW (x:=.int 1) (y:=.int (c0 / 2000 % 4)) rfl (AW (x:=.int (c0 / 2000)) (y:=.int 4) (AW (x:=.int c0) (y:=.int 2000) rfl rfl (div_is (by decide) (by decide))) rfl (mod_is (by decide))) rfl) rfl)) eb)) ?_;refine A2 (CJ (Af (xs:=[An (BH N a)]) (Al (Af (xs:=[An N,AJ a]) rfl (mn ia')) rfl) (fl ia'))) ?_;refine A2 (CJ (Af (xs:=[An (BH N b)]) (Al (Af (xs:=[An N,AJ b]) rfl (mn ib')) rfl) (fl ib'))) ?_;refine A2 (NA (GK (x:=An ((AF n).map (A9 (BH N (a+b))))) (y:=An ((AF n).map (A9 (BH N (a+b))))) (Af (xs:=[An ((AF n).map (A9 (BH N a))),An ((AF n).map (A9 (BH N b)))]) rfl co) (Af (xs:=[An (BH N (a+b))]) (Al (Af (xs:=[An N,AJ (a+b)]) (Al rfl (Al (Af (xs:=[AJ a,AJ b]) rfl (fj fa fb)) rfl)) (mn iab)) rfl) (fl iab)) (ne_self (V5 _) (by decide))) rfl) ?_;refine A2 (NA (GK (x:=An ((AF n).map (A9 (BH N (a * -1))))) (y:=An ((AF n).map (A9 (BH N (a * -1))))) (Af (xs:=[An ((AF n).map (A9 (BH N a)))]) rfl un) (Af (xs:=[An (BH N (a * -1))]) (Al (Af (xs:=[An N,AJ (a * -1)]) (Al rfl (Al (Af (xs:=[AJ a,AJ (-1)]) rfl (W9 fa ⟨by decide,by decide⟩)) rfl)) (mn im)) rfl) (fl im)) (ne_self (V5 _) (by decide))) rfl) ?_;have okZ:An ((AF n).map (A9 (BH N 0)))=.list ((AF n).map fun _=>AJ 0):=by
  rw [gZ];show PyData.list (((AF n).map fun _=>(0:Rat)).map AJ)=_;rw [List.map_map];rfl
 refine GU (AW (x:=An ((AF n).map (A9 (BH N 0)))) (y:=An ((AF n).map (A9 (BH N 0)))) (Af (xs:=[An (BH N 0)]) (Al (Af (xs:=[An N,AJ 0]) rfl (mn iz)) rfl) (fl iz)) (AW (x:=.list [AJ 0]) (y:=.int ((AF n).length:Nat)) rfl ?_ ((fY _ _ (by omega)).trans (by rw [U6,okZ]))) (ZS (V5 _) (by decide)));show some (PyData.int ((N.map AJ).length:Nat))=_;rw [List.length_map,lN,tl]
def bo(K:Fg)(a:AD)(ns:List Int):Bool:=match K.lookup a with
 |some o=>(match o.cls with|.type n=>n == "tuple" |_=>false)&&o.dict.isNone&&(match o.data with
  |.seq its _=>decide (its.size≤1000)&&decide (its.toList.map SH=ns.map fun i=>some (V.int i))
  |_=>false)
 |none=>false
def SQ:∀ {ns:List Int} {us:List VL},us.map SH=ns.map (fun i=>some (V.int i))→Vals (ns.map V.int) us
 |[],[],_=>.nil
 |[],u::us,h=>by simp at h
 |n::ns,[],h=>by simp at h
 |n::ns,u::us,h=>by
  rw [List.map_cons,List.map_cons,List.cons.injEq]at h;refine .cons ?_ (SQ h.2);cases u with
  |int i t =>
   have:=h.1;simp [SH]at this;subst this;exact⟨t,rfl⟩
  |_=>have:=h.1;simp [SH]at this
def gL{K:Fg}{a:AD}{ns:List Int}(h:bo K a ns=true):Own K a ns:=by
 unfold bo at h;split at h
 ·rename_i o e;rw [Bool.and_eq_true,Bool.and_eq_true]at h;obtain⟨⟨h1,h2⟩,h3⟩:=h;have c1:o.cls=.type "tuple" := by
   split at h1
   ·rename_i n e';rw [e',eq_of_beq h1]
   ·cases h1
  have c2:o.dict=none:=by simpa using h2
  split at h3
  ·rename_i its n e';rw [Bool.and_eq_true,decide_eq_true_eq,decide_eq_true_eq]at h3;exact⟨fun H=>.inr ⟨o,its,n,e,c1,e',Nat.le_trans h3.1 (by rw [sizeLine_eq];decide),SQ h3.2⟩,o,e,c1,c2⟩
  ·cases h3
 ·cases h
def WJ(K:Fg):Sp:=fun vs H Q _=>∃(a:AD) (ns:List Int),vs=[.ref a]∧A3 K H a (ns.map V.int)∧ns.length≤63∧∀H',Q (.bl true) H'
def jb{P:Program}{w:World}{K:Fg}{mg:Str→Option VL}{base:Heap}{f:AD}{fd:FuncData}{k:Nat}{C1 C2 C3:AD}(hK:Rz K=true)(F:AN P w K mg base Ar k f fd ["_law_script"] (BJ (iB C1 C2 C3))):AN P w K mg base Ar k f fd ["_law_script"] (WJ K) :=
 F.imp fun vs H Q E z=>by
  obtain⟨a,ns,rfl,hS,_,q⟩:=z;refine⟨[B7 ns],.bool true,H,jh ns C1 C2 C3,.cons (gM (i8 hK hS)) .nil,.refl _,fun v G' H' _ _ _ _ dv=>?_⟩;rw [Du]at dv;subst dv;exact q H'
section
open PySem.W PyProof.Rows PySem.Calls
abbrev Et:Program:=PySem.Challenge.pw_stepgrove_k74_whole_flows_in_a_row
abbrev CM:OpenLaw:=PySem.Challenge.rw_stepgrove_k74_whole_flows_in_a_row
noncomputable abbrev dE(P:Params)(x:String)(t:Nat)(v:VL):DictEntry:=⟨PyData.keyHash P (Str.ofString x),.str (Str.ofString x) t,v⟩
noncomputable abbrev sV(x:String)(t:Nat):VL:=.str (Str.ofString x) t
noncomputable abbrev fO(n:String)(i:Nat)(m:String)(t c:Nat):Obj:=⟨.type "function",none,.func (fnOf n n (Fp (top i)) (Ds (top i)) (AV (top i)) .none .none .none (.str (Str.ofString m) t) none (.ref c) .none),#[]⟩
noncomputable abbrev cO(n:String)(t l a k r:Nat)(b:Bool)(r2:Nat)(v1 v2 v3 v4:VL)(t2:Nat):Obj:=⟨.type "code",none,.fields #[sV n t,sV n (t+1),sV "/claim/cut.py" (t+2),.int l 0,.int a 0,.int 0 0,.int 0 0,.int k 0,.ref r,.bool b,.int 181 0,.ref r2,v1,v2,v3,v4,.int t2 0,.int l 0,sV "/claim/cut.py" (t2+1)],#[]⟩
noncomputable def kH:Params→Frag:=fun P =>
 (nat_lit 2,⟨.none,none,(.dict #[] 0),#[]⟩) ::
 (nat_lit 3,⟨(.type "dict"),none,(.dict #[dE P "__name__" 165 (sV "law_stepgrove_k74_whole_flows_in_a_row" 556),dE P "__doc__" 166 .none,dE P "__package__" 167 .none,dE P "__loader__" 168 (.builtin "__main__.__loader__#opaque"),dE P "__spec__" 169 .none,dE P "__annotations__" 170 (.ref 6),dE P "__builtins__" 171 (.ref 4),dE P "__file__" 173 (sV "/claim/cut.py" 172),dE P "__cached__" 174 .none,dE P "GroveError" 206 (.ref 24),dE P "NoBottom" 222 (.ref 37),dE P "NoTree" 238 (.ref 49),dE P "NoWeighing" 254 (.ref 61),dE P "NotAlike" 270 (.ref 73),dE P "TooMany" 286 (.ref 85),dE P "fraction_of" 297 (.ref 94),dE P "frac_sum" 305 (.ref 101),dE P "frac_times" 313 (.ref 108),dE P "is_fraction" 320 (.ref 115),dE P "are_fractions" 328 (.ref 122),dE P "is_whole" 335 (.ref 129),dE P "greatest_divisor" 346 (.ref 136),dE P "common_bottom" 355 (.ref 143),dE P "frac_total" 361 (.ref 148),dE P "MOST_KNOTS" 365 (.int 7 364),dE P "is_tree" 374 (.ref 155),dE P "trees_of" 385 (.ref 162),dE P "trees_to" 394 (.ref 169),dE P "refuse_no_tree" 401 (.ref 176),dE P "in_falling_order" 408 (.ref 183),dE P "knots_within" 414 (.ref 188),dE P "product_up_to" 423 (.ref 195),dE P "trees_one_larger" 434 (.ref 202),dE P "tree_ties" 443 (.ref 209),dE P "tree_cuts" 450 (.ref 216),dE P "ties_within" 462 (.ref 223),dE P "cuts_within" 468 (.ref 228),dE P "WEIGHING_LENGTHS" 479 (.ref 229),dE P "weighing_reach" 486 (.ref 236),dE P "refuse_no_weighing" 493 (.ref 243),dE P "flow_weighing" 508 (.ref 250),dE P "later_moves" 514 (.ref 255),dE P "move_share" 523 (.ref 262),dE P "later_weight" 529 (.ref 267),dE P "weighing_composed" 537 (.ref 272),dE P "weighing_undone" 543 (.ref 277),dE P "cut_share" 555 (.ref 284),dE P "_law_cell" 567 (.ref 291),dE P "_law_frac" 577 (.ref 298),dE P "_law_add" 585 (.ref 305),dE P "_law_mul" 593 (.ref 312),dE P "_law_weighing" 606 (.ref 319),dE P "_law_many" 612 (.ref 324),dE P "law" 625 (.ref 331)] 54),#[]⟩) ::
 (nat_lit 15,⟨(.type "tuple"),none,(.seq #[(.type "ValueError")] 0),#[]⟩) ::
 (nat_lit 22,⟨(.type "tuple"),none,(.seq #[] 0),#[]⟩) ::
 (nat_lit 23,⟨(.type "dict"),none,(.dict #[dE P "__module__" 196 (sV "stepgrove.errors" 187),dE P "__firstlineno__" 200 (.int 2 199),dE P "__static_attributes__" 201 (.ref 22),dE P "__weakref__" 203 (.ref 25),dE P "__doc__" 204 .none] 3),#[]⟩) ::
 (nat_lit 24,⟨(.type "type"),none,(.cls ⟨Str.ofString "GroveError",[(.type "ValueError")],[(.ref 24),(.type "ValueError"),(.type "Exception"),(.type "BaseException"),(.type "object")],23,Str.ofString "GroveError",true,[],[(.ref 37),(.ref 49),(.ref 61),(.ref 73),(.ref 85)],false,none,false⟩),#[some (.ref 15),none,some (sV "GroveError" 189),some (sV "GroveError" 197),some (.builtin "ValueError.__new__"),some (.bool true)]⟩) ::
 (nat_lit 25,⟨(.type "getset_descriptor"),none,(.fields #[(sV "__weakref__" 202),(.ref 24),(.builtin "ExceptionGroup.__weakref__"),.none]),#[]⟩) ::
 (nat_lit 28,⟨(.type "tuple"),none,(.seq #[(.ref 24)] 0),#[]⟩) ::
 (nat_lit 35,⟨(.type "tuple"),none,(.seq #[] 0),#[]⟩) ::
 (nat_lit 36,⟨(.type "dict"),none,(.dict #[dE P "__module__" 214 (sV "stepgrove.errors" 187),dE P "__firstlineno__" 218 (.int 4 217),dE P "__static_attributes__" 219 (.ref 35),dE P "__doc__" 220 .none] 2),#[]⟩) ::
 (nat_lit 37,⟨(.type "type"),none,(.cls ⟨Str.ofString "NoBottom",[(.ref 24)],[(.ref 37),(.ref 24),(.type "ValueError"),(.type "Exception"),(.type "BaseException"),(.type "object")],36,Str.ofString "NoBottom",true,[],[],false,none,false⟩),#[some (.ref 28),none,some (sV "NoBottom" 207),some (sV "NoBottom" 215),some (.builtin "ValueError.__new__"),some (.bool true)]⟩) ::
 (nat_lit 40,⟨(.type "tuple"),none,(.seq #[(.ref 24)] 0),#[]⟩) ::
 (nat_lit 47,⟨(.type "tuple"),none,(.seq #[] 0),#[]⟩) ::
 (nat_lit 48,⟨(.type "dict"),none,(.dict #[dE P "__module__" 230 (sV "stepgrove.errors" 187),dE P "__firstlineno__" 234 (.int 6 233),dE P "__static_attributes__" 235 (.ref 47),dE P "__doc__" 236 .none] 2),#[]⟩) ::
 (nat_lit 49,⟨(.type "type"),none,(.cls ⟨Str.ofString "NoTree",[(.ref 24)],[(.ref 49),(.ref 24),(.type "ValueError"),(.type "Exception"),(.type "BaseException"),(.type "object")],48,Str.ofString "NoTree",true,[],[],false,none,false⟩),#[some (.ref 40),none,some (sV "NoTree" 223),some (sV "NoTree" 231),some (.builtin "ValueError.__new__"),some (.bool true)]⟩) ::
 (nat_lit 52,⟨(.type "tuple"),none,(.seq #[(.ref 24)] 0),#[]⟩) ::
 (nat_lit 59,⟨(.type "tuple"),none,(.seq #[] 0),#[]⟩) ::
 (nat_lit 60,⟨(.type "dict"),none,(.dict #[dE P "__module__" 246 (sV "stepgrove.errors" 187),dE P "__firstlineno__" 250 (.int 8 249),dE P "__static_attributes__" 251 (.ref 59),dE P "__doc__" 252 .none] 2),#[]⟩) ::
 (nat_lit 61,⟨(.type "type"),none,(.cls ⟨Str.ofString "NoWeighing",[(.ref 24)],[(.ref 61),(.ref 24),(.type "ValueError"),(.type "Exception"),(.type "BaseException"),(.type "object")],60,Str.ofString "NoWeighing",true,[],[],false,none,false⟩),#[some (.ref 52),none,some (sV "NoWeighing" 239),some (sV "NoWeighing" 247),some (.builtin "ValueError.__new__"),some (.bool true)]⟩) ::
 (nat_lit 64,⟨(.type "tuple"),none,(.seq #[(.ref 24)] 0),#[]⟩) ::
 (nat_lit 71,⟨(.type "tuple"),none,(.seq #[] 0),#[]⟩) ::
 (nat_lit 72,⟨(.type "dict"),none,(.dict #[dE P "__module__" 262 (sV "stepgrove.errors" 187),dE P "__firstlineno__" 266 (.int 10 265),dE P "__static_attributes__" 267 (.ref 71),dE P "__doc__" 268 .none] 2),#[]⟩) ::
 (nat_lit 73,⟨(.type "type"),none,(.cls ⟨Str.ofString "NotAlike",[(.ref 24)],[(.ref 73),(.ref 24),(.type "ValueError"),(.type "Exception"),(.type "BaseException"),(.type "object")],72,Str.ofString "NotAlike",true,[],[],false,none,false⟩),#[some (.ref 64),none,some (sV "NotAlike" 255),some (sV "NotAlike" 263),some (.builtin "ValueError.__new__"),some (.bool true)]⟩) ::
 (nat_lit 76,⟨(.type "tuple"),none,(.seq #[(.ref 24)] 0),#[]⟩) ::
 (nat_lit 83,⟨(.type "tuple"),none,(.seq #[] 0),#[]⟩) ::
 (nat_lit 84,⟨(.type "dict"),none,(.dict #[dE P "__module__" 278 (sV "stepgrove.errors" 187),dE P "__firstlineno__" 282 (.int 12 281),dE P "__static_attributes__" 283 (.ref 83),dE P "__doc__" 284 .none] 2),#[]⟩) ::
 (nat_lit 85,⟨(.type "type"),none,(.cls ⟨Str.ofString "TooMany",[(.ref 24)],[(.ref 85),(.ref 24),(.type "ValueError"),(.type "Exception"),(.type "BaseException"),(.type "object")],84,Str.ofString "TooMany",true,[],[],false,none,false⟩),#[some (.ref 76),none,some (sV "TooMany" 271),some (sV "TooMany" 279),some (.builtin "ValueError.__new__"),some (.bool true)]⟩) ::
 (nat_lit 93,cO "fraction_of" 289 15 2 3 88 true 89 .none (.ref 90) (.ref 91) (.ref 92) 295) ::
 (nat_lit 94,fO "fraction_of" 8 "stepgrove.fracs" 287 93) ::
 (nat_lit 100,cO "frac_sum" 298 22 2 3 95 true 96 .none (.ref 97) (.ref 98) (.ref 99) 303) ::
 (nat_lit 101,fO "frac_sum" 9 "stepgrove.fracs" 287 100) ::
 (nat_lit 107,cO "frac_times" 306 24 2 3 102 true 103 .none (.ref 104) (.ref 105) (.ref 106) 311) ::
 (nat_lit 108,fO "frac_times" 10 "stepgrove.fracs" 287 107) ::
 (nat_lit 114,cO "is_fraction" 314 26 1 3 109 true 110 .none (.ref 111) (.ref 112) (.ref 113) 318) ::
 (nat_lit 115,fO "is_fraction" 11 "stepgrove.fracs" 287 114) ::
 (nat_lit 121,cO "are_fractions" 321 32 1 3 116 true 117 .none (.ref 118) (.ref 119) (.ref 120) 326) ::
 (nat_lit 122,fO "are_fractions" 12 "stepgrove.fracs" 287 121) ::
 (nat_lit 128,cO "is_whole" 329 39 1 3 123 true 124 .none (.ref 125) (.ref 126) (.ref 127) 333) ::
 (nat_lit 129,fO "is_whole" 13 "stepgrove.fracs" 287 128) ::
 (nat_lit 135,cO "greatest_divisor" 336 41 2 3 130 true 131 .none (.ref 132) (.ref 133) (.ref 134) 344) ::
 (nat_lit 136,fO "greatest_divisor" 14 "stepgrove.fracs" 287 135) ::
 (nat_lit 142,cO "common_bottom" 347 49 1 3 137 true 138 .none (.ref 139) (.ref 140) (.ref 141) 353) ::
 (nat_lit 143,fO "common_bottom" 15 "stepgrove.fracs" 287 142) ::
 (nat_lit 147,cO "frac_total" 356 54 1 3 144 true 145 .none .none .none (.ref 146) 359) ::
 (nat_lit 148,fO "frac_total" 16 "stepgrove.fracs" 287 147) ::
 (nat_lit 154,cO "is_tree" 366 59 1 3 149 true 150 .none (.ref 151) (.ref 152) (.ref 153) 372) ::
 (nat_lit 155,fO "is_tree" 19 "stepgrove.trees" 362 154) ::
 (nat_lit 161,cO "trees_of" 375 68 1 3 156 true 157 .none (.ref 158) (.ref 159) (.ref 160) 383) ::
 (nat_lit 162,fO "trees_of" 20 "stepgrove.trees" 362 161) ::
 (nat_lit 168,cO "trees_to" 386 78 1 3 163 true 164 .none (.ref 165) (.ref 166) (.ref 167) 392) ::
 (nat_lit 169,fO "trees_to" 21 "stepgrove.trees" 362 168) ::
 (nat_lit 175,cO "refuse_no_tree" 395 85 1 3 170 true 171 .none (.ref 172) (.ref 173) (.ref 174) 399) ::
 (nat_lit 176,fO "refuse_no_tree" 22 "stepgrove.trees" 362 175) ::
 (nat_lit 182,cO "in_falling_order" 402 88 1 3 177 true 178 .none (.ref 179) (.ref 180) (.ref 181) 406) ::
 (nat_lit 183,fO "in_falling_order" 23 "stepgrove.trees" 362 182) ::
 (nat_lit 187,cO "knots_within" 409 90 1 3 184 true 185 .none .none .none (.ref 186) 412) ::
 (nat_lit 188,fO "knots_within" 24 "stepgrove.trees" 362 187) ::
 (nat_lit 194,cO "product_up_to" 415 92 1 3 189 true 190 .none (.ref 191) (.ref 192) (.ref 193) 421) ::
 (nat_lit 195,fO "product_up_to" 25 "stepgrove.trees" 362 194) ::
 (nat_lit 201,cO "trees_one_larger" 424 97 1 3 196 true 197 .none (.ref 198) (.ref 199) (.ref 200) 432) ::
 (nat_lit 202,fO "trees_one_larger" 26 "stepgrove.trees" 362 201) ::
 (nat_lit 208,cO "tree_ties" 437 104 1 3 203 true 204 .none (.ref 205) (.ref 206) (.ref 207) 441) ::
 (nat_lit 209,fO "tree_ties" 28 "stepgrove.cuts" 435 208) ::
 (nat_lit 215,cO "tree_cuts" 444 107 1 3 210 true 211 .none (.ref 212) (.ref 213) (.ref 214) 448) ::
 (nat_lit 216,fO "tree_cuts" 29 "stepgrove.cuts" 435 215) ::
 (nat_lit 222,cO "ties_within" 451 110 1 3 217 true 218 .none (.ref 219) (.ref 220) (.ref 221) 460) ::
 (nat_lit 223,fO "ties_within" 30 "stepgrove.cuts" 435 222) ::
 (nat_lit 227,cO "cuts_within" 463 117 1 3 224 true 225 .none .none .none (.ref 226) 466) ::
 (nat_lit 228,fO "cuts_within" 31 "stepgrove.cuts" 435 227) ::
 (nat_lit 229,⟨(.type "tuple"),none,(.seq #[(.int 0 471),(.int 1 472),(.int 2 473),(.int 4 474),(.int 8 475),(.int 17 476),(.int 37 477),(.int 85 478)] 0),#[]⟩) ::
 (nat_lit 235,cO "weighing_reach" 480 129 1 3 230 true 231 .none (.ref 232) (.ref 233) (.ref 234) 484) ::
 (nat_lit 236,fO "weighing_reach" 34 "stepgrove.weights" 469 235) ::
 (nat_lit 242,cO "refuse_no_weighing" 487 132 1 3 237 true 238 .none (.ref 239) (.ref 240) (.ref 241) 491) ::
 (nat_lit 243,fO "refuse_no_weighing" 35 "stepgrove.weights" 469 242) ::
 (nat_lit 249,cO "flow_weighing" 496 136 1 3 244 true 245 .none (.ref 246) (.ref 247) (.ref 248) 506) ::
 (nat_lit 250,fO "flow_weighing" 37 "stepgrove.follows" 494 249) ::
 (nat_lit 254,cO "later_moves" 509 145 2 3 251 true 252 .none .none .none (.ref 253) 512) ::
 (nat_lit 255,fO "later_moves" 38 "stepgrove.follows" 494 254) ::
 (nat_lit 261,cO "move_share" 515 152 3 3 256 true 257 .none (.ref 258) (.ref 259) (.ref 260) 521) ::
 (nat_lit 262,fO "move_share" 39 "stepgrove.follows" 494 261) ::
 (nat_lit 266,cO "later_weight" 524 156 1 3 263 true 264 .none .none .none (.ref 265) 527) ::
 (nat_lit 267,fO "later_weight" 40 "stepgrove.follows" 494 266) ::
 (nat_lit 271,cO "weighing_composed" 532 159 2 3 268 true 269 .none .none .none (.ref 270) 535) ::
 (nat_lit 272,fO "weighing_composed" 42 "stepgrove.weighings" 530 271) ::
 (nat_lit 276,cO "weighing_undone" 538 168 1 3 273 true 274 .none .none .none (.ref 275) 541) ::
 (nat_lit 277,fO "weighing_undone" 43 "stepgrove.weighings" 530 276) ::
 (nat_lit 283,cO "cut_share" 544 176 3 3 278 true 279 .none (.ref 280) (.ref 281) (.ref 282) 553) ::
 (nat_lit 284,fO "cut_share" 44 "stepgrove.weighings" 530 283) ::
 (nat_lit 290,cO "_law_cell" 558 184 2 3 285 true 286 .none (.ref 287) (.ref 288) (.ref 289) 565) ::
 (nat_lit 291,fO "_law_cell" 46 "law_stepgrove_k74_whole_flows_in_a_row" 556 290) ::
 (nat_lit 297,cO "_law_frac" 568 193 2 3 292 true 293 .none (.ref 294) (.ref 295) (.ref 296) 575) ::
 (nat_lit 298,fO "_law_frac" 47 "law_stepgrove_k74_whole_flows_in_a_row" 556 297) ::
 (nat_lit 304,cO "_law_add" 578 201 2 3 299 true 300 .none (.ref 301) (.ref 302) (.ref 303) 583) ::
 (nat_lit 305,fO "_law_add" 48 "law_stepgrove_k74_whole_flows_in_a_row" 556 304) ::
 (nat_lit 311,cO "_law_mul" 586 203 2 3 306 true 307 .none (.ref 308) (.ref 309) (.ref 310) 591) ::
 (nat_lit 312,fO "_law_mul" 49 "law_stepgrove_k74_whole_flows_in_a_row" 556 311) ::
 (nat_lit 318,cO "_law_weighing" 594 205 3 3 313 true 314 .none (.ref 315) (.ref 316) (.ref 317) 604) ::
 (nat_lit 319,fO "_law_weighing" 50 "law_stepgrove_k74_whole_flows_in_a_row" 556 318) ::
 (nat_lit 323,cO "_law_many" 607 215 2 3 320 true 321 .none .none .none (.ref 322) 610) ::
 (nat_lit 324,fO "_law_many" 51 "law_stepgrove_k74_whole_flows_in_a_row" 556 323) ::
 (nat_lit 330,cO "law" 613 217 1 3 325 true 326 .none (.ref 327) (.ref 328) (.ref 329) 623) ::
 (nat_lit 331,fO "law" 52 "law_stepgrove_k74_whole_flows_in_a_row" 556 330)::[]
abbrev qX:Program:=view Et [1,2,3,4,5,6,8,9,10,11,12,13,14,15,16,18,19,20,21,22,23,24,25,26,28,29,30,31,33,34,35,37,38,39,40,42,43,44,46,47,48,49,50,51,52]
noncomputable abbrev hX:Hook:=kHook kH [nat_lit 2,nat_lit 3,nat_lit 15,nat_lit 22,nat_lit 23,nat_lit 24,nat_lit 25,nat_lit 28,nat_lit 35,nat_lit 36,nat_lit 37,nat_lit 40,nat_lit 47,nat_lit 48,nat_lit 49,nat_lit 52,nat_lit 59,nat_lit 60,nat_lit 61,nat_lit 64,nat_lit 71,nat_lit 72,nat_lit 73,nat_lit 76,nat_lit 83,nat_lit 84,nat_lit 85,nat_lit 93,nat_lit 94,nat_lit 100,nat_lit 101,nat_lit 107,nat_lit 108,nat_lit 114,nat_lit 115,nat_lit 121,nat_lit 122,nat_lit 128,nat_lit 129,nat_lit 135,nat_lit 136,nat_lit 142,nat_lit 143,nat_lit 147,nat_lit 148,nat_lit 154,nat_lit 155,nat_lit 161,nat_lit 162,nat_lit 168,nat_lit 169,nat_lit 175,nat_lit 176,nat_lit 182,nat_lit 183,nat_lit 187,nat_lit 188,nat_lit 194,nat_lit 195,nat_lit 201,nat_lit 202,nat_lit 208,nat_lit 209,nat_lit 215,nat_lit 216,nat_lit 222,nat_lit 223,nat_lit 227,nat_lit 228,nat_lit 229,nat_lit 235,nat_lit 236,nat_lit 242,nat_lit 243,nat_lit 249,nat_lit 250,nat_lit 254,nat_lit 255,nat_lit 261,nat_lit 262,nat_lit 266,nat_lit 267,nat_lit 271,nat_lit 272,nat_lit 276,nat_lit 277,nat_lit 283,nat_lit 284,nat_lit 290,nat_lit 291,nat_lit 297,nat_lit 298,nat_lit 304,nat_lit 305,nat_lit 311,nat_lit 312,nat_lit 318,nat_lit 319,nat_lit 323,nat_lit 324,nat_lit 330,nat_lit 331] (fun _=>by kernel_rfl)
noncomputable def dX:DefRec:=⟨Str.ofString "law",Fp (top 52),Ds (top 52),AV (top 52),⟨217,0,228,89⟩⟩
def kX:CM.wellSaid=true:=(congrFun PySem.W.Fast.te9446332074065402090 _).trans (by kernel_rfl)
def mY(w:World)(os:OsState):topGo treeTable Et w 11 Opn.IJ 12 ⟨boot_heap w.params,#[],boot_drawn,boot_toks,os⟩ (topStub Et)=some (Opn.sA w os,⟨denote treeTable (Opn.cB Et),Opn.cB Et,Opn.q0,Opn.bB⟩):=by kernel_rfl
def mW(w:World)(os:OsState):segRun treeTable Et w 11 Opn.IJ 1 1 (Opn.sA w os) (blockOf (behindTheImports Et) (Opn.OI Et) (Opn.cB Et) Opn.q0 Opn.bB)=some (.next,(Opn.sB w os).abs,Opn.cB Et,Opn.q0):=by kernel_rfl
def mv(w:World)(s:SD):topRun treeTable Et w 11 Opn.IJ 2 s (restOf [] (Opn.OI Et) (Opn.cB Et) ⟨217,0,228,89⟩ Opn.bB)=some s:=by kernel_rfl
def l8(w:World)(os:OsState):Opn.Wt Et 2463 w os=some (.next,Opn.Wr Et 2463 w os,Opn.cB Et,⟨217,0,228,89⟩):=by kernel_rfl
noncomputable abbrev sX(w:World)(os:OsState):SD:=(Opn.Wr Et 2463 w os).abs
def PY(w:World)(os:OsState):(staticsOk (importedModules Et.main.body) (boot_heap w.params) (sX w os).heap&&namesBound Et (sX w os).heap&&gensDone (sX w os)&&laidKept (boot_heap w.params) (sX w os).heap)=true:=by kernel_rfl
def jw(w:World)(os:OsState):hX.obs (sX w os)=hX.val w:=by kernel_rfl
noncomputable abbrev jY:SD→Bool:=fun s=>xlAt qX [] s&&recOk (RowW.records CM.row.toRowW) s
def kL(w:World)(os:OsState):openSeen qX [] (importedModules Et.main.body) jY true (sX w os)=openGood qX []:=by kernel_rfl
def ko(w:World):(fencedOpening treeTable Et w 5050).map (fun s=>(s.heap,s.gens,s.drawn,s.toks))=some (boot_heap w.params,#[],boot_drawn,boot_toks):=boot_open (p:=Et) (N:=5050) (by kernel_rfl) (by kernel_rfl) (fun _=>by kernel_rfl) w
def kO:LeftO Et qX [] jY hX.obs hX.val 5050:=Opn.dg (M:=2478) (S:=sX) ko Opn.kG (fun w os=>Opn.hZ (mY w os) (mW w os) (l8 w os) (mv w) (by kernel_rfl)) (by kernel_rfl) PY kL jw
def mP:defOf qX CM.row.name=some (dX,[]):=by kernel_rfl
def mL:Et.theDef CM.row.name=some (dX.params,dX.body,dX.scope):=by kernel_rfl
def nU:kwWritten? dX.params.kwonlyargs dX.params.kw_defaults=some []:=by kernel_rfl
def lj:(chainsOk qX&&opensWell CM.row.prog&&(frees CM.row.toRowW&&CM.row.within.isEmpty))=true:=by kernel_rfl
def lA:Et.bare:=⟨rfl,rfl,rfl,rfl,rfl,by decide +kernel⟩
def openX(hw:CM.row.toRowW.promised)(hc:WalkO qX [] (XL qX []) hX.says CM.row.toRowW dX [] (fun f vs=>PySem.call f vs)):CM.Holds :=
 holds_law kX fun said=>holds_open (r:=CM.row) (q:=qX) (loose:=[]) (Xt:=jY) (XP:=XL qX []) (Yf:=hX.obs) (Ya:=hX.val) (YP:=hX.says) (d:=dX) (kwd:=[]) (N:=5050) kO hX.of hX.keeps (fun s e=>xl_of s (Bool.and_eq_true_iff.mp e).1) XL.keeps mP mL nU (fun s e=>recFacts_of (Bool.and_eq_true_iff.mp e).2) rfl said lj lA hw hc
end
section
open PySem.W
def fnX{w:World}{mg:Str→Option VL}{h:Heap}(X:(kH w.params).In h)(G:h.Ns mainGlobals mg)(n:String)(i:Nat)(m:String)(t c f:Nat)(ps:List Str)
 (ha:nsIn (kH w.params) mainGlobals (Str.ofString n)=some (some (.ref f)):=by kernel_rfl)(hl:(kH w.params).lookup f=some (fO n i m t c):=by kernel_rfl)(hc:codeIn (kH w.params) (.ref c) (Str.ofString n)=true:=by kernel_rfl)(hk:keepIn (kH w.params) (.ref f)=true:=by kernel_rfl)
 (hb:∀(kV doc pm:VL) (an:Option AD) (cdv ct:VL) (us:List VL),us.length=ps.length→bindArgs (fnOf (Str.ofString n) (Str.ofString n) (Fp (top i)) (Ds (top i)) (AV (top i)) .none kV doc pm an cdv ct) ⟨us,[]⟩=pure (ps.zip us):=by first|(exact fun _ _ _ _ _ _ us hl=>match us,hl with|[_],_=>rfl)|(exact fun _ _ _ _ _ _ us hl=>match us,hl with|[_,_],_=>rfl)|(exact fun _ _ _ _ _ _ us hl=>match us,hl with|[_,_,_],_=>rfl)|(exact fun _ _ _ _ _ _ us hl=>match us,hl with|[_,_,_,_],_=>rfl)|(exact fun _ _ _ _ _ _ us hl=>match us,hl with|[_,_,_,_,_],_=>rfl)) :
  Fn (kH w.params) mg (Str.ofString n) (top i) ps f (fnOf (Str.ofString n) (Str.ofString n) (Fp (top i)) (Ds (top i)) (AV (top i)) .none .none .none (.str (Str.ofString m) t) none (.ref c) .none) :=
 ⟨YZ hl hc hk,(YZ (st:=top i) hl hc hk).binds hb,mg_of X G ha⟩
set_option maxHeartbeats 4000000 in
def mR(w:World)(mg:Str→Option VL)(fa:AD)(h:Heap)(X:(kH w.params).In h)(G:h.Ns mainGlobals mg)(hfa:mg "law" = some (.ref fa)) :
  ∃fd:FuncData,(∀(s:SD) (v:VL),BindsTo s fd ⟨[v],[]⟩ [("_law_script",v)])∧∀base:Heap,(kH w.params).In base→base.Ns mainGlobals mg→AN CM.prog w (kH w.params) mg base Ar 22 fa fd ["_law_script"] (WJ (kH w.params)):=by
 have e:=hfa.symm.trans (mg_of X G (v:=.ref 331) (by kernel_rfl));cases e;have B9:=fnX X G "fraction_of" 8 "stepgrove.fracs" 287 93 94 ["top", "bottom"];have Ib:=fnX X G "frac_sum" 9 "stepgrove.fracs" 287 100 101 ["one", "other"];have G7:=fnX X G "frac_times" 10 "stepgrove.fracs" 287 107 108 ["one", "other"];have GB:=fnX X G "is_fraction" 11 "stepgrove.fracs" 287 114 115 ["thing"];have FI:=fnX X G "are_fractions" 12 "stepgrove.fracs" 287 121 122 ["thing"];have Gj:=fnX X G "is_whole" 13 "stepgrove.fracs" 287 128 129 ["thing"];have BM:=fnX X G "greatest_divisor" 14 "stepgrove.fracs" 287 135 136 ["one", "other"];have FL:=fnX X G "common_bottom" 15 "stepgrove.fracs" 287 142 143 ["bottoms"];have Bf:=fnX X G "frac_total" 16 "stepgrove.fracs" 287 147 148 ["some"];have Ec:=fnX X G "is_tree" 19 "stepgrove.trees" 362 154 155 ["thing"];have Ig:=fnX X G "trees_of" 20 "stepgrove.trees" 362 161 162 ["many"];have C8:=fnX X G "trees_to" 21 "stepgrove.trees" 362 168 169 ["most"];have CQ:=fnX X G "refuse_no_tree" 22 "stepgrove.trees" 362 175 176 ["thing"];have Au:=fnX X G "in_falling_order" 23 "stepgrove.trees" 362 182 183 ["boughs"];have CU:=fnX X G "knots_within" 24 "stepgrove.trees" 362 187 188 ["tree"];have FG:=fnX X G "product_up_to" 25 "stepgrove.trees" 362 194 195 ["many"];have Bj:=fnX X G "trees_one_larger" 26 "stepgrove.trees" 362 201 202 ["tree"];have Hd:=fnX X G "tree_ties" 28 "stepgrove.cuts" 435 208 209 ["tree"];have EI:=fnX X G "tree_cuts" 29 "stepgrove.cuts" 435 215 216 ["tree"];have Ck:=fnX X G "ties_within" 30 "stepgrove.cuts" 435 222 223 ["tree"];have Cm:=fnX X G "cuts_within" 31 "stepgrove.cuts" 435 227 228 ["tree"];have BN:=fnX X G "weighing_reach" 34 "stepgrove.weights" 469 235 236 ["weighing"];have Dm:=fnX X G "refuse_no_weighing" 35 "stepgrove.weights" 469 242 243 ["thing"];have CI:=fnX X G "flow_weighing" 37 "stepgrove.follows" 494 249 250 ["numbers"];have F8:=fnX X G "later_moves" 38 "stepgrove.follows" 494 254 255 ["tree", "moves"];have Gd:=fnX X G "move_share" 39 "stepgrove.follows" 494 261 262 ["trunk_moves", "j", "number"];have Fs:=fnX X G "later_weight" 40 "stepgrove.follows" 494 266 267 ["later"];have D0:=fnX X G "weighing_composed" 42 "stepgrove.weighings" 530 271 272 ["one", "other"];have EM:=fnX X G "weighing_undone" 43 "stepgrove.weighings" 530 276 277 ["weighing"];have EJ:=fnX X G "cut_share" 44 "stepgrove.weighings" 530 283 284 ["cut", "ahead", "behind"];have Cd:=fnX X G "_law_cell" 46 "law_stepgrove_k74_whole_flows_in_a_row" 556 290 291 ["_law_script", "_law_k"];have Bi:=fnX X G "_law_frac" 47 "law_stepgrove_k74_whole_flows_in_a_row" 556 297 298 ["_law_top", "_law_bottom"];have Ih:=fnX X G "_law_add" 48 "law_stepgrove_k74_whole_flows_in_a_row" 556 304 305 ["_law_one", "_law_other"];have Eh:=fnX X G "_law_mul" 49 "law_stepgrove_k74_whole_flows_in_a_row" 556 311 312 ["_law_one", "_law_other"];have FH:=fnX X G "_law_weighing" 50 "law_stepgrove_k74_whole_flows_in_a_row" 556 318 319 ["_law_script", "_law_at", "_law_reach"];have Dq:=fnX X G "_law_many" 51 "law_stepgrove_k74_whole_flows_in_a_row" 556 323 324 ["_law_numbers", "_law_part"]
 have kW:=fnX X G "law" 52 "law_stepgrove_k74_whole_flows_in_a_row" 556 330 331 ["_law_script"];have Dz:mg "len" = none:=mg_none_of X G (by kernel_rfl);have Cw:mg "range" = none:=mg_none_of X G (by kernel_rfl);have J9:mg "abs" = none:=mg_none_of X G (by kernel_rfl);have BU:mg "isinstance" = none:=mg_none_of X G (by kernel_rfl);have V8:mg "int" = none:=mg_none_of X G (by kernel_rfl);have TM:mg "bool" = none:=mg_none_of X G (by kernel_rfl);have E9:mg "tuple" = none:=mg_none_of X G (by kernel_rfl);have T1:mg "list" = none:=mg_none_of X G (by kernel_rfl);have BW:mg "enumerate" = none:=mg_none_of X G (by kernel_rfl);have LQ:mg "sum" = none:=mg_none_of X G (by kernel_rfl);have Hg:mg "zip" = none:=mg_none_of X G (by kernel_rfl);have Bz:mg "sorted" = none:=mg_none_of X G (by kernel_rfl);have V9:mg "set" = none:=mg_none_of X G (by kernel_rfl);have JK:mg "dict" = none:=mg_none_of X G (by kernel_rfl);have a_MK:nsIn (kH w.params) mainGlobals "MOST_KNOTS" = some (some (.int 7 364)):=by kernel_rfl
 have a_WL:nsIn (kH w.params) mainGlobals "WEIGHING_LENGTHS" = some (some (.ref 229)):=by kernel_rfl
 have a_GroveError:PySem.W.nsIn (kH w.params) mainGlobals "GroveError" = some (some (.ref 24)):=by kernel_rfl
 have a_NoWeighing:PySem.W.nsIn (kH w.params) mainGlobals "NoWeighing" = some (some (.ref 61)):=by kernel_rfl
 have a_TooMany:PySem.W.nsIn (kH w.params) mainGlobals "TooMany" = some (some (.ref 85)):=by kernel_rfl
 have a_NotAlike:PySem.W.nsIn (kH w.params) mainGlobals "NotAlike" = some (some (.ref 73)):=by kernel_rfl
 have iG:=PySem.W.mg_of X G a_GroveError;have UM:=PySem.W.mg_of X G a_NoWeighing;have W6:=PySem.W.mg_of X G a_TooMany;have WY:=PySem.W.mg_of X G a_NotAlike;have X_TooMany:Exc (kH w.params) mg "TooMany" 85:=⟨W6,by kernel_rfl⟩;have be_TooMany:Qk (kH w.params) 85 24 true:=⟨by kernel_rfl,by kernel_rfl,by kernel_rfl,by kernel_rfl⟩;have xk_TooMany:Zc (kH w.params) 85:=⟨by kernel_rfl,by kernel_rfl,by kernel_rfl,by kernel_rfl,by kernel_rfl,by kernel_rfl,by kernel_rfl,by kernel_rfl⟩;have tV_TooMany:PySem.W.kitOne (kH w.params) (.ref 85) (.type "ValueError")=some true:=by kernel_rfl
 have t_TooMany_GroveError:PySem.W.kitOne (kH w.params) (.ref 85) (.ref 24)=some true:=by kernel_rfl
 have t_TooMany_NoWeighing:PySem.W.kitOne (kH w.params) (.ref 85) (.ref 61)=some false:=by kernel_rfl
 have t_TooMany_TooMany:PySem.W.kitOne (kH w.params) (.ref 85) (.ref 85)=some true:=by kernel_rfl
 have t_TooMany_NotAlike:PySem.W.kitOne (kH w.params) (.ref 85) (.ref 73)=some false:=by kernel_rfl
 have X_NoWeighing:Exc (kH w.params) mg "NoWeighing" 61:=⟨UM,by kernel_rfl⟩;have be_NoWeighing:Qk (kH w.params) 61 24 true:=⟨by kernel_rfl,by kernel_rfl,by kernel_rfl,by kernel_rfl⟩;have xk_NoWeighing:Zc (kH w.params) 61:=⟨by kernel_rfl,by kernel_rfl,by kernel_rfl,by kernel_rfl,by kernel_rfl,by kernel_rfl,by kernel_rfl,by kernel_rfl⟩;have tV_NoWeighing:PySem.W.kitOne (kH w.params) (.ref 61) (.type "ValueError")=some true:=by kernel_rfl
 have t_NoWeighing_GroveError:PySem.W.kitOne (kH w.params) (.ref 61) (.ref 24)=some true:=by kernel_rfl
 have t_NoWeighing_NoWeighing:PySem.W.kitOne (kH w.params) (.ref 61) (.ref 61)=some true:=by kernel_rfl
 have t_NoWeighing_TooMany:PySem.W.kitOne (kH w.params) (.ref 61) (.ref 85)=some false:=by kernel_rfl
 have t_NoWeighing_NotAlike:PySem.W.kitOne (kH w.params) (.ref 61) (.ref 73)=some false:=by kernel_rfl
 have X_NotAlike:Exc (kH w.params) mg "NotAlike" 73:=⟨WY,by kernel_rfl⟩;have be_NotAlike:Qk (kH w.params) 73 24 true:=⟨by kernel_rfl,by kernel_rfl,by kernel_rfl,by kernel_rfl⟩;have xk_NotAlike:Zc (kH w.params) 73:=⟨by kernel_rfl,by kernel_rfl,by kernel_rfl,by kernel_rfl,by kernel_rfl,by kernel_rfl,by kernel_rfl,by kernel_rfl⟩;have tV_NotAlike:PySem.W.kitOne (kH w.params) (.ref 73) (.type "ValueError")=some true:=by kernel_rfl
 have t_NotAlike_GroveError:PySem.W.kitOne (kH w.params) (.ref 73) (.ref 24)=some true:=by kernel_rfl
 have t_NotAlike_NoWeighing:PySem.W.kitOne (kH w.params) (.ref 73) (.ref 61)=some false:=by kernel_rfl
 have t_NotAlike_TooMany:PySem.W.kitOne (kH w.params) (.ref 73) (.ref 85)=some false:=by kernel_rfl
 have t_NotAlike_NotAlike:PySem.W.kitOne (kH w.params) (.ref 73) (.ref 73)=some true:=by kernel_rfl
 have hK:Rz (kH w.params)=true:=by kernel_rfl
 refine⟨fnOf (Str.ofString "law") (Str.ofString "law") (Fp (top 52)) (Ds (top 52)) (AV (top 52)) .none .none .none (.str (Str.ofString "law_stepgrove_k74_whole_flows_in_a_row") 556) none (.ref 330) .none,fun s v=>.of_eq rfl,fun base _ _=>?_⟩;have EZ:=PySem.W.mg_of X G a_MK;have CT:=PySem.W.mg_of X G a_WL;have o_WEIGHING_LENGTHS:Own (kH w.params) 229 [0,1,2,4,8,17,37,85]:=gL (by kernel_rfl);have Zs:=L1 (P:=CM.prog) (w:=w) (base:=base) BM J9;have ZY:=Qd B9 BM Zs;have LN:=toS (Ua Ib B9 ZY);have Jg:=toT (RS G7 B9 ZY);have mz:=Np FL BM Zs;have mi:=RQ Bf FL B9 mz (ZY.mono (by decide)) LQ;have Bp:=kj mi;have lu:=Ul (P:=CM.prog) (w:=w) (base:=base) Gj BU V8 TM;have jS:=QK GB Gj BM lu Zs BU E9 Dz;have mr:=N7 FI GB jS BU T1;have Gu:=nT (q:=Gb) mr (fun l d v H Q E hd hq=>⟨l,d,v,rfl,hd,hq H (.refl H)⟩);have Bu:=nG (UK (P:=CM.prog) (w:=w) (base:=base) Bi J9);have md:=O4 (P:=CM.prog) (w:=w) (base:=base) Ec BU E9 BW 8;have Cz:=nO (NJ CQ Ec md);have EW:=Js (P:=CM.prog) (w:=w) (base:=base) (k:=0) CU LQ 9;have Ab:=L0 (P:=CM.prog) (w:=w) (base:=base) (k:=0) Au Bz E9;have DJ:=HN (P:=CM.prog) (w:=w) (base:=base) (k:=1) Bj Au (Ab.mono (by decide)) BW 9;have LK:=UU (P:=CM.prog) (w:=w) (base:=base) (k:=11) Ig Bj (DJ.mono (by decide)) Cw V9 Bz EZ X_TooMany;have Di:=Uj (P:=CM.prog) (w:=w) (base:=base) (k:=12) C8 Ig (LK.mono (by decide)) Cw EZ X_TooMany;have Ej:=K2 (P:=CM.prog) (w:=w) (base:=base) (k:=3) Dm FI (Gu.mono (by decide)) Dz CT o_WEIGHING_LENGTHS X_NoWeighing;have BX:=NI (P:=CM.prog) (w:=w) (base:=base) (k:=4) BN Dm (Ej.mono (by decide)) Dz CT o_WEIGHING_LENGTHS;have E3:=Kc (P:=CM.prog) (w:=w) (base:=base) (k:=1) Ck Au (Ab.mono (by decide)) BW 9;have KO:=SJ (P:=CM.prog) (w:=w) (base:=base) (k:=11) Hd CQ (Cz.mono (by decide)) Ck (E3.mono (by decide)) Bz;have Gn:=OQ (P:=CM.prog) (w:=w) (base:=base) (k:=0) FG Cw;have JQ:=RT (P:=CM.prog) (w:=w) (base:=base) (k:=0) Gd Dz;have II:=QJ (P:=CM.prog) (w:=w) (base:=base) (k:=12) F8 Bf (Bp.mono (by decide)) CU (EW.mono (by decide)) Gd (JQ.mono (by decide)) Hd (KO.mono (by decide)) Cw;have HU:=Oe (P:=CM.prog) (w:=w) (base:=base) (k:=4) Fs Bf (Bp.mono (by decide)) FG (Gn.mono (by decide)) BW;have Es:=Kq (P:=CM.prog) (w:=w) (base:=base) (k:=1) Cm Au (Ab.mono (by decide)) Bz 9;have E7:=UL (P:=CM.prog) (w:=w) (base:=base) (k:=11) EI Cm (Es.mono (by decide)) CQ (Cz.mono (by decide)) Bz;have E8:=Tj (P:=CM.prog) (w:=w) (base:=base) (k:=0) EJ;have FD:=Lb (P:=CM.prog) (w:=w) (base:=base) (k:=13) D0 EJ (E8.mono (by decide)) Bf (Bp.mono (by decide)) EI (E7.mono (by decide)) C8 (Di.mono (by decide)) BN (BX.mono (by decide)) JK Hg X_NotAlike;have Fz:=MV (P:=CM.prog) (w:=w) (base:=base) (k:=13) EM EJ (E8.mono (by decide)) G7 (Jg.mono (by decide)) Bf (Bp.mono (by decide)) EI (E7.mono (by decide)) C8 (Di.mono (by decide)) BN (BX.mono (by decide)) JK Hg;have Ce:=N2 (P:=CM.prog) (w:=w) (base:=base) (k:=13) CI Ib (LN.mono (by decide)) F8 (II.mono (by decide)) Fs (HU.mono (by decide)) C8 (Di.mono (by decide)) BN (BX.mono (by decide)) Hg;have C7:=US (P:=CM.prog) (w:=w) (base:=base) (k:=0) Cd Dz
 have Ld:=UT (P:=CM.prog) (w:=w) (base:=base) (k:=1) Ih Bi (Bu.mono (by decide));have Fj:=Uc (P:=CM.prog) (w:=w) (base:=base) (k:=1) Eh Bi (Bu.mono (by decide));have Gy:=OH (P:=CM.prog) (w:=w) (base:=base) (k:=1) FH Cd (C7.mono (by decide)) Bi (Bu.mono (by decide)) Cw;have EK:=TX (P:=CM.prog) (w:=w) (base:=base) (k:=2) Dq Eh (Fj.mono (by decide));have j5:=ie (P:=CM.prog) (w:=w) (base:=base) (k:=21) kW Ih (Ld.mono (by decide)) Cd (C7.mono (by decide)) Bi (Bu.mono (by decide)) Dq (EK.mono (by decide)) Eh (Fj.mono (by decide)) FH (Gy.mono (by decide)) CI (Ce.mono (by decide)) D0 (FD.mono (by decide)) EM (Fz.mono (by decide)) Dz;exact jb hK j5
def walkX:WalkO qX [] (XL qX []) hX.says CM.row.toRowW dX [] (fun f vs=>PySem.call f vs) :=
 L2.eu (l:=CM) (n:=63) (k:=22) (x := "_law_script") (CX:=fun _=>Ar) (K:=kH) (sp:=fun w=>WJ (kH w.params)) rfl (by decide) rfl ⟨rfl,by decide,by decide⟩ (fun w h Y=>kIn_of Y) mR (fun _ _ a ns hl _ hS=>⟨a,ns,rfl,hS,hl,fun _=>rfl⟩) fun _ _ _ _ _ z=>z
end
end Q74
open PySem PySem.W PyProof.Rows
set_option maxRecDepth 100000 in
theorem PySem.Challenge.cw_stepgrove_k74_whole_flows_in_a_row_holds : PySem.Challenge.rw_stepgrove_k74_whole_flows_in_a_row.Holds := by
  refine Q74.openX ?hw Q74.walkX
  w_witness2
#print axioms PySem.Challenge.cw_stepgrove_k74_whole_flows_in_a_row_holds
