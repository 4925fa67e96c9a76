import PyProof.Rows.All
import Wide.All
import OpenK.AllK
import Wide.FinOn
import Lean
import PyProof.EqAt
import PyProof.EqKinds
import PyProof.TupleCall
import PySem.Challenge.RW_stepgrove_k52_whole_orders_of_named_rule
set_option Elab.async false
set_option linter.all false
set_option maxRecDepth 100000
abbrev MD:=List PySem.PyData→Option PySem.PyData
abbrev Fg:=PySem.W.Frag
abbrev Wb:=@PySem.wpAny_bind
abbrev PD:=PySem.PyData
abbrev SD:=PySem.Shared
abbrev VL:=PySem.Value
abbrev AD:=PySem.Addr
abbrev aA:=@PySem.wpAny_pure
abbrev aB:=@Option.bind_eq_some_iff
abbrev aC:=@PySem.Heap.get?_push_of_some
abbrev aD:=@PySem.Heap.lt_size
abbrev aE:=@List.getElem?_eq_some_iff
abbrev aF:=@Option.map_eq_some_iff
abbrev aG:=@Nat.le_refl
abbrev aH:=@PySem.Heap.get?_push_size
abbrev aI:=@Nat.lt_of_lt_of_le
abbrev aJ:=@Bool.false_ne_true
abbrev aK:=@Nat.ne_of_lt
abbrev aL:=@List.mem_cons
abbrev aM:=@Nat.le_trans
abbrev aN:=@List.getElem?_eq_getElem
abbrev aO:=@List.mem_cons_of_mem
abbrev aP:=@List.mem_of_getElem?
abbrev aQ:=@PySem.wpAny_seqItems
abbrev aR:=@List.mem_append_right
abbrev aS:=@PySem.wpAny_call_entry
abbrev aT:=@List.mem_cons_self
abbrev aU:=@PySem.wpAny_holding
abbrev aV:=@of_decide_eq_true
abbrev aW:=@PySem.PassesOwn.never
abbrev aX:=@PySem.wpAny_field
abbrev aY:=@PySem.wpAny_callSpecial?_slot
abbrev aZ:=@PySem.Heap.SameBut.update
abbrev aa:=@PySem.wpAny_setField_rec
abbrev ab:=@Option.some.inj
abbrev ae:=@List.mem_range
abbrev af:=@PySem.wpAny_mono
abbrev ag:=@Nat.lt_of_le_of_lt
abbrev ah:=@Nat.not_lt_zero
abbrev ai:=@PySem.wpAny_newObj_type
abbrev aj:=@List.mem_map
abbrev ak:=@Bool.eq_false_iff
abbrev ao:=@List.all_eq_true
abbrev aq:=@PyProof.Rows.callWith_type1
abbrev ar:=@Nat.pow_le_pow_right
abbrev au:=@Nat.mul_le_mul_left
abbrev av:=@PySem.wpAny_setState_of
abbrev aw:=@List.map_inj_left
abbrev ax:=@PyProof.Rows.boot_isinstance
abbrev ay:=@PySem.W.kia_one
abbrev az:=@Nat.zero_le
abbrev bA:=@Nat.le_of_lt
abbrev bC:=@of_decide_eq_false
abbrev bD:=@PySem.wpAny_onRaise
abbrev bE:=@PySem.boot_len
abbrev bF:=@congrArg
abbrev bG:=@Nat.lt_succ_of_lt
abbrev bH:=@PySem.wpAny_rule
abbrev bI:=@decide_eq_false
abbrev bJ:=@PyProof.Rows.KeyOrd.kle_refl
abbrev bK:=@Nat.ne_of_gt
abbrev bL:=@PySem.F.slot_zip_next
abbrev bM:=@List.length_map
abbrev bN:=@PySem.wpAny_truthy_bool
abbrev bO:=@List.eq_nil_of_length_eq_zero
abbrev bP:=@Nat.lt_succ_self
abbrev bQ:=@PyProof.Rows.boot_list
abbrev bR:=@List.mem_append
abbrev bS:=@PyProof.Rows.boot_sum
namespace L2
open PySem PySem.Spec PyProof.Rows
abbrev Key:=Sum Int Str
def Kq:Key→VL→Bool
 |.inl k,v=>Value.isInt k v
 |.inr x,v=>Value.isStrOf x v
def di(w:World):Key→Int
 |.inl k=>hashInt k
 |.inr x=>hashStr w x
def Bx:∀ {k:Key} {v:VL},Kq k v=true→(∃i t,k=Sum.inl i∧v=Value.int i t)∨(∃x t,k=Sum.inr x∧v=Value.str x t)
 |.inl i,v,h=>by
  obtain⟨t,e⟩:=Value.isInt_shape (k:=i) (v:=v) h;exact .inl ⟨i,t,rfl,e⟩
 |.inr x,v,h=>by
  obtain⟨t,e⟩:=Value.isStrOf_shape (x:=x) (v:=v) h;exact .inr ⟨x,t,rfl,e⟩
def US(i:Int)(t:Tok):Kq (.inl i) (.int i t)=true:=by simp[Kq,Value.isInt]
def B5(x:Str)(t:Tok):Kq (.inr x) (.str x t)=true:=by simp[Kq,Value.isStrOf]
def YN(a b:Int):decide ((Sum.inl a:Key)=Sum.inl b)=(a==b):=by
 by_cases e:a=b
 ·subst e;simp
 ·have h:¬(Sum.inl a:Key)=Sum.inl b:=fun q=>e (Sum.inl.inj q);rw[decide_eq_false h];exact(beq_eq_false_iff_ne.mpr e).symm
def ZE(a b:Str):decide ((Sum.inr a:Key)=Sum.inr b)=decide (a=b):=by
 by_cases e:a=b
 ·subst e;simp
 ·have h:¬(Sum.inr a:Key)=Sum.inr b:=fun q=>e (Sum.inr.inj q);rw[decide_eq_false h,decide_eq_false e]
def YL(a:Int)(b:Str):decide ((Sum.inl a:Key)=Sum.inr b)=false:=bI (fun q=>nomatch q)
def ba(a:Str)(b:Int):decide ((Sum.inr a:Key)=Sum.inl b)=false:=bI (fun q=>nomatch q)
def DZ(prog:Program)(w:World):PySem.KeyKind prog w Key where
 is:=Kq
 hash:=di w
 inj:=fun v a b ha hb=>by
  rcases Bx ha with ⟨i,t,rfl,rfl⟩|⟨x,t,rfl,rfl⟩
  ·rcases Bx hb with ⟨j,u,rfl,e⟩|⟨y,u,rfl,e⟩
   ·injection e with e1 _;rw[e1]
   ·exact nomatch e
  ·rcases Bx hb with ⟨j,u,rfl,e⟩|⟨y,u,rfl,e⟩
   ·exact nomatch e
   ·injection e with e1 _;rw[e1]
 byValue:=fun k v h=>by
  rcases Bx h with ⟨i,t,rfl,rfl⟩|⟨x,t,rfl,rfl⟩<;>rfl
 pyHash:=fun hv h=>by
  rcases Bx hv with ⟨i,t,rfl,rfl⟩|⟨x,t,rfl,rfl⟩
  ·exact wpAny_pyHash_int h
  ·exact wpAny_pyHash_str h
 eqBool:=fun hu hv h=>by
  rcases Bx hu with ⟨i,t,rfl,rfl⟩|⟨x,t,rfl,rfl⟩
  ·rcases Bx hv with ⟨j,u,rfl,rfl⟩|⟨y,u,rfl,rfl⟩
   ·rw[YN]at h;exact wpAny_eqBool_int h
   ·rw[YL]at h;exact SeqAt.EqAt.int_str i t y u _ _ _ _ h
  ·rcases Bx hv with ⟨j,u,rfl,rfl⟩|⟨y,u,rfl,rfl⟩
   ·rw[ba]at h;exact SeqAt.EqAt.str_int x t j u _ _ _ _ h
   ·rw[ZE]at h;exact wpAny_eqBool_str h
 «strs»:=fun k x t v h=>by
  rcases Bx h with ⟨i,u,rfl,e⟩|⟨y,u,rfl,e⟩
  ·exact nomatch e
  ·injection e with e1 _
   subst e1;cases v<;>rfl
def QS(prog:Program)(w:World)(i:Int)(t:Tok):(DZ prog w).is (.inl i) (.int i t)=true:=US i t
def QR(prog:Program)(w:World)(x:Str)(t:Tok):(DZ prog w).is (.inr x) (.str x t)=true:=B5 x t
inductive V where
 |BI|bl (b:Bool)|int (i:Int)|str (x:Str)|KI (b:Array UInt8)|Qw (b:UInt64)|ref (a:Addr)|ty (n:String)
 deriving DecidableEq
def RelV:V→VL→Prop
 |.BI,u=>u=Value.none
 |.bl b,u=>u=Value.bool b
 |.int i,u=>∃t,u=Value.int i t
 |.str x,u=>∃t,u=Value.str x t
 |.KI b,u=>∃t,u=Value.bytes b t
 |.Qw b,u=>∃t,u=Value.float b t
 |.ref a,u=>u=Value.ref a
 |.ty n,u=>u=Value.type n
abbrev Vals:List V→List VL→Prop:=Paired RelV
def Vals.length{xs:List V}{us:List VL}(r:Vals xs us):xs.length=us.length:=Paired.length r
def Vals.get:∀ {xs:List V} {us:List VL} {i:Nat} {x:V},Vals xs us→xs[i]? = some x→∃u,us[i]? = some u∧RelV x u
 |_,_,_,_,.nil,e=>by simp at e
 |_,_,0,_,.cons r _,e=>by simp at e;subst e;exact⟨_,rfl,r⟩
 |_,_,i+1,x,.cons _ t,e=>by
  obtain⟨u,h1,h2⟩:=Vals.get (i:=i) (x:=x) t (by simpa using e);exact⟨u,by simpa using h1,h2⟩
def Vals.append:∀ {xs ys:List V} {us ws:List VL},Vals xs us→Vals ys ws→Vals (xs++ys) (us++ws)
 |_,_,_,_,.nil,s=>s
 |_,_,_,_,.cons r t,s=>.cons r (Vals.append t s)
def Vals.take:∀ {xs:List V} {us:List VL} (n:Nat),Vals xs us→Vals (xs.take n) (us.take n)
 |_,_,0,_=>.nil
 |_,_,_+1,.nil=>.nil
 |_,_,n+1,.cons r t=>.cons r (Vals.take n t)
def Vals.drop:∀ {xs:List V} {us:List VL} (n:Nat),Vals xs us→Vals (xs.drop n) (us.drop n)
 |_,_,0,r=>r
 |_,_,_+1,.nil=>.nil
 |_,_,n+1,.cons _ t=>Vals.drop n t
def HF:Option V→Option VL→Prop
 |some v,some u=>RelV v u
 |none,none=>True
 |_,_=>False
def KV{κ:Type}:List (κ×V)→List (κ×VL)→Prop:=Paired fun(p:κ×V) (q:κ×VL)=>p.1=q.1∧RelV p.2 q.2
def kV:Key→V
 |.inl i=>.int i
 |.inr x=>.str x
inductive HO where
 |lst (xs:List V)
 |tup (xs:List V)
 |dK (kvs:List (Key×V))|dT (kvs:List (List Key×V))
 |set (S:Int→Bool) (n:Nat)
 |ins (C dx:Addr) (fs:List (Str×V))
 |own (x:Addr)
 |xd (fs:List (Str×V))
 |met (f x:Addr)
 |Yx (lo hi:Int)
 |C8 (o:Obj) (u:HO)
 |Po (ps:Array Value)
 |ext (φ:Heap→Prop)
abbrev Hp:=AD→Option HO
def upd(H:Hp)(a:AD)(o:HO):Hp:=fun b=>if b=a then some o else H b
def AI{H:Hp}{a:AD}{o:HO}:upd H a o a=some o:=by unfold upd;rw[if_pos rfl]
def AF{H:Hp}{a b:AD}{o:HO}(h:b≠a):upd H a o b=H b:=by unfold upd;rw[if_neg h]
def RP{H:Hp}{a b:AD}{o u:HO}(h:H a=some o)(h':H b=some u)(d:o≠u):a≠b:=by
 intro e;subst e;rw[h]at h';exact d (ab h')
def AJ{H:Hp}{a b:AD}{o:HO}(h:H a=some o)(h':H b=none):a≠b:=by
 intro e;subst e;rw[h]at h';cases h'
section
variable(P:Program)(w:World)
def Bb(H:Hp)(h:Heap)(a:AD):HO→Prop
 |.lst xs=>xs.length≤sizeLine∧∃(its:List VL) (n:Nat),Vals xs its∧h.get? a=some { cls:=.type "list",data:=.seq its.toArray n}
 |.tup xs=>xs.length≤sizeLine∧∃its:List VL,Vals xs its∧IsTup h a its.toArray
 |.dK kvs=>kvs.length≤sizeLine∧(a==sysModules)=false∧∃vs,KV kvs vs∧h.DictOf (DZ P w) a vs
 |.dT kvs=>kvs.length≤sizeLine∧(a==sysModules)=false∧∃xs:List (List Key×AD×VL),
   Paired (fun(p:List Key×V) (q:List Key×AD×VL)=>p.1=q.1∧H q.2.1=some (.tup (p.1.map kV))∧RelV p.2 q.2.2) kvs xs ∧
   ∃o es ep,h.get? a=some o∧o.ExactDict∧o.data=.dict es ep∧es.toList=xs.map (entryOfKey (tupleKind (DZ P w)))∧(xs.map (·.1)).Nodup
 |.set S n=>h.SetOf (intKind P w) a S n
 |.ins C dx fs=>H dx=some (.own a)∧fs.length≤1000∧dx≠a∧h.get? a=some (PySem.W.instObj C dx) ∧
   ∃mA,h.Ns1 dx mA∧(∀f,HF (fs.lookup f) (mA f))∧PySem.Within mA (fs.map (·.1))
 |.own _=>∃o,h.get? a=some o
 |.xd fs=>∃mA,h.Ns1 a mA∧∀f,HF (fs.lookup f) (mA f)
 |.Yx lo hi=>∃t u v,h.get? a=some { cls:=.type "range",data:=.fields #[.int lo t,.int hi u,.int 1 v]}
 |.C8 o u=>h.get? a=some o∧Bb H h a u
 |.Po ps=>h.get? a=some { cls:=.none,data:=.fields ps}
 |.met f x=>h.get? a=some (PySem.W.methodObj (.ref f) (.ref x))
 |.ext φ=>φ h∧(∃o,h.get? a=some o)∧∀h1 h2:Heap,φ h1→(∀o,h1.get? a=some o→h2.get? a=some o)→φ h2
def CY(H:Hp)(h:Heap):Prop:=∀a o,H a=some o→Bb P w H h a o
end
section
variable{P:Program}{w:World}{H H':Hp}{h h':Heap}{a:AD}{o:HO}
def Bb.lt(x:Bb P w H h a o):a<h.objs.size:=by
 cases o with
 |lst xs=>obtain⟨_,_,_,_,e⟩:=x;exact aD e
 |tup xs=>obtain⟨_,_,_,p⟩:=x;exact p.lt
 |dK kvs=>obtain⟨_,_,_,_,o,_,_,e,_⟩:=x;exact aD e
 |dT kvs=>obtain⟨_,_,_,_,o,_,_,e,_⟩:=x;exact aD e
 |set S n=>obtain⟨o,_,_,_,e,_⟩:=x;exact aD e
 |ins C dx fs=>obtain⟨_,_,_,e,_⟩:=x;exact aD e
 |own y=>obtain⟨_,e⟩:=x;exact aD e
 |xd fs=>obtain⟨_,⟨_,_,_,e,_⟩,_⟩:=x;exact aD e
 |Yx lo hi=>obtain⟨_,_,_,e⟩:=x;exact aD e
 |C8 ob u=>obtain⟨e,_⟩:=x;exact aD e
 |Po ps=>exact aD (show h.get? a=some _ from x)
 |met f y=>exact aD (show h.get? a=some _ from x)
 |ext φ=>obtain⟨_,⟨_,e⟩,_⟩:=x;exact aD e
def Paired.bW{α β:Type}{F G:α→β→Prop}:∀ {l₁:List α} {l₂:List β},Paired F l₁ l₂→(∀a b,F a b→G a b)→Paired G l₁ l₂
 |_,_,.nil,_=>.nil
 |_,_,.cons r t,f=>.cons (f _ _ r) (Paired.bW t f)
def Bb.Fd(x:Bb P w H h a o)(k:∀b u,(b=a∨H b=some (.own a))→h.get? b=some u→h'.get? b=some u)
 (ho:∀b,H b=some (.own a)→H' b=some (.own a))(ht:∀b xs,H b=some (.tup xs)→H' b=some (.tup xs)):Bb P w H' h' a o:=by
 induction o with
 |lst xs=>obtain⟨z,its,n,r,e⟩:=x;exact⟨z,its,n,r,k _ _ (.inl rfl) e⟩
 |tup xs=>obtain⟨z,its,r,ob,e,c⟩:=x;exact⟨z,its,r,ob,k _ _ (.inl rfl) e,c⟩
 |dK kvs=>obtain⟨z,y,vs,r,ob,es,ep,e,c⟩:=x;exact⟨z,y,vs,r,ob,es,ep,k _ _ (.inl rfl) e,c⟩
 |dT kvs =>
  obtain⟨z,y,xs,r,ob,es,ep,e,c⟩:=x;exact⟨z,y,xs,Paired.bW r fun p q z=>⟨z.1,ht _ _ z.2.1,z.2.2⟩,ob,es,ep,k _ _ (.inl rfl) e,c⟩
 |set S n=>obtain⟨ob,es,ep,t,e,c⟩:=x;exact⟨ob,es,ep,t,k _ _ (.inl rfl) e,c⟩
 |ins C dx fs =>
  obtain⟨d,z,ne,e,mA,⟨od,es,ep,e2,c⟩,r⟩:=x;exact⟨ho _ d,z,ne,k _ _ (.inl rfl) e,mA,⟨od,es,ep,k _ _ (.inr d) e2,c⟩,r⟩
 |own y=>obtain⟨ob,e⟩:=x;exact⟨ob,k _ _ (.inl rfl) e⟩
 |xd fs=>obtain⟨mA,⟨od,es,ep,e,c⟩,r⟩:=x;exact⟨mA,⟨od,es,ep,k _ _ (.inl rfl) e,c⟩,r⟩
 |Yx lo hi=>obtain⟨t,u,v,e⟩:=x;exact⟨t,u,v,k _ _ (.inl rfl) e⟩
 |C8 ob u ih=>obtain⟨e,q⟩:=x;exact⟨k _ _ (.inl rfl) e,ih q⟩
 |Po ps =>
  have e:h.get? a=some { cls:=.none,data:=.fields ps}:=x;show h'.get? a=some { cls:=.none,data:=.fields ps};exact k a _ (.inl rfl) e
 |met f y =>
  have e:h.get? a=some (PySem.W.methodObj (.ref f) (.ref y)):=x;show h'.get? a=some (PySem.W.methodObj (.ref f) (.ref y));exact k a _ (.inl rfl) e
 |ext φ=>obtain⟨p,⟨o,e⟩,st⟩:=x;exact⟨st _ _ p fun o q=>k _ _ (.inl rfl) q,⟨o,k _ _ (.inl rfl) e⟩,st⟩
def CY.lt(x:CY P w H h)(e:H a=some o):a<h.objs.size:=(x a o e).lt
def CY.fresh(x:CY P w H h)(e:h.objs.size≤a):H a=none:=by
 cases q:H a with
 |none=>rfl
 |some u=>exact absurd (aI (x.lt q) e) (Nat.lt_irrefl _)
def CY.kept(x:CY P w H h)(k:∀b u,h.get? b=some u→h'.get? b=some u):CY P w H h':=fun a o e =>
 (x a o e).Fd (fun b u _ q=>k b u q) (fun _ q=>q) fun _ _ q=>q
def CY.laid(x:CY P w H h)(k:∀b u,h.get? b=some u→h'.get? b=some u)(hp:h.objs.size≤a)(new:Bb P w (upd H a o) h' a o):CY P w (upd H a o) h':=fun b u e=>by
 have hn:=x.fresh hp;by_cases hb:b=a
 ·subst hb;rw[AI]at e;cases e;exact new
 ·rw[AF hb]at e;exact(x b u e).Fd (fun c v _ q=>k c v q) (fun c q=>by rw[AF (AJ q hn)];exact q) fun c xs q=>by rw[AF (AJ q hn)];exact q
end
def Rd(H:Hp)(a:AD)(u:HO):Prop:=H a=some u∨∃o,H a=some (.C8 o u)
def Rd.ok{P:Program}{w:World}{H:Hp}{h:Heap}{a:AD}{u:HO}(r:Rd H a u)(x:CY P w H h):Bb P w H h a u:=by
 rcases r with r|⟨o,r⟩
 ·exact x a u r
 ·obtain⟨_,q⟩:=x a _ r;exact q
def Wf:Option HO→Prop
 |some (.lst _)=>True
 |some (.dK _)=>True
 |some (.dT _)=>True
 |some (.set _ _)=>True
 |some (.ins _ _ _)=>True
 |some (.ext _)=>True
 |_=>False
section
variable{P:Program}{w:World}{H:Hp}{h h':Heap}{x e:AD}{o':HO}
def CY.write(ok:CY P w H h)(mu:Wf (H x))(he:e=x∨H e=some (.own x))(k:∀b u,b≠e→h.get? b=some u→h'.get? b=some u)(heo:∃u,h'.get? e=some u)
 (new:Bb P w (upd H x o') h' x o'):CY P w (upd H x o') h':=fun b u q=>by
 have nown:∀c y,H c=some (.own y)→c≠x:=fun c y r z=>by subst z;rw[r]at mu;exact mu
 have NC:∀c xs,H c=some (.tup xs)→c≠x:=fun c xs r z=>by subst z;rw[r]at mu;exact mu
 by_cases hb:b=x
 ·subst hb;rw[AI]at q;cases q;exact new
 ·rw[AF hb]at q;by_cases hbe:b=e
  ·have q':H b=some (.own x):=by
    rcases he with z|z
    ·exact absurd (hbe.trans z) hb
    ·rw[hbe];exact z
   rw[q]at q';cases q';obtain⟨v,hv⟩:=heo;exact⟨v,by rw[hbe];exact hv⟩
  ·refine(ok b u q).Fd (fun c v hc r=>k c v ?_ r) (fun c r=>by rw[AF (nown c b r)];exact r) fun c xs r=>by rw[AF (NC c xs r)];exact r
   rcases hc with rfl|hc
   ·exact hbe
   ·rintro rfl;rcases he with z|z
    ·exact nown c b hc z
    ·rw[hc]at z;cases z;exact hb rfl
end
structure Un(fs ex:List Addr)(H H':Hp)(h h':Heap):Prop where
 keep:∀b o,h.get? b=some o→H b=none→b ∉ fs→b ∉ ex→h'.get? b=some o
 slot:∀b o,h.get? b=some o→H b=none→b∈fs→b ∉ ex→∃sl,h'.get? b=some {o with slots:=sl}
 free:∀b o,h.get? b=some o→H b=none→b ∉ ex→H' b=none
 there:∀b o,h.get? b=some o→b ∉ ex→∃o',h'.get? b=some o'
 A2:∀b xs,H b=some (.tup xs)→H' b=some (.tup xs)
 HL:∀b o u,H b=some (.C8 o u)→H' b=some (.C8 o u)
 JB:∀b ps,H b=some (.Po ps)→∃more,H' b=some (.Po (ps++more))
 IE:∀b xs o,H b=some (.tup xs)→h.get? b=some o→b ∉ ex→h'.get? b=some o
section
variable{fs ex:List AD}{H H1:Hp}{h h1 h':Heap}{a x e:AD}{o:HO}
def Un.any(u:Un fs ex H H1 h h1){b:AD}{ob:Obj}(q:h.get? b=some ob)(n:H b=none)(hx:b ∉ ex):∃sl,h1.get? b=some {ob with slots:=sl}:=by
 by_cases hb:b∈fs
 ·exact u.slot b ob q n hb hx
 ·exact⟨ob.slots,u.keep b ob q n hb hx⟩
def Un.kept(k:∀b u,h.get? b=some u→h'.get? b=some u):Un fs ex H H h h' :=
 ⟨fun b ob q _ _ _=>k b ob q,fun b ob q _ _ _=>⟨ob.slots,k b ob q⟩,fun _ _ _ n _=>n,fun b ob q _=>⟨ob,k b ob q⟩,fun _ _ q=>q,fun _ _ _ q=>q,fun _ ps q=>⟨#[],by rw[q];simp⟩,fun _ _ ob _ e _=>k _ ob e⟩
def Un.refl:Un fs ex H H h h:=Un.kept fun _ _ q=>q
def Un.laid(k:∀b u,h.get? b=some u→h'.get? b=some u)(hp:h.objs.size≤a)(hn:H a=none):Un fs ex H (upd H a o) h h' where
 keep:=fun b u q _ _ _=>k b u q
 slot:=fun b u q _ _ _=>⟨u.slots,k b u q⟩
 free:=fun b u q n _=>by rw[AF (aK (aI (aD q) hp))];exact n
 there:=fun b u q _=>⟨u,k b u q⟩
 A2:=fun b xs q=>by rw[AF (AJ q hn)];exact q
 HL:=fun b u xs q=>by rw[AF (AJ q hn)];exact q
 JB:=fun b ps q=>⟨#[],by rw[AF (AJ q hn),q];simp⟩
 IE:=fun b _ u _ e _=>k b u e
def Un.write(mu:Wf (H x))(he:e=x∨H e=some (.own x))(k:∀b u,b≠e→h.get? b=some u→h'.get? b=some u)(heo:∃u,h'.get? e=some u):Un fs ex H (upd H x o) h h':=by
 have hx:∀b,H b=none→b≠x:=fun b n z=>by subst z;rw[n]at mu;exact mu
 have hb:∀b,H b=none→b≠e:=fun b n z=>by
  subst z;rcases he with r|r
  ·exact hx b n r
  ·rw[n]at r;cases r
 have hm:∀b u,H b=some u→¬Wf (some u)→b≠x:=fun b u q nm z=>by subst z;rw[q]at mu;exact nm mu
 refine⟨fun b u q n _ _=>k b u (hb b n) q,fun b u q n _ _=>⟨u.slots,k b u (hb b n) q⟩,fun b u q n _=>by rw[AF (hx b n)];exact n,fun b u q _=>?_,
  fun b xs q=>by rw[AF (hm b _ q fun z=>z)];exact q,fun b u xs q=>by rw[AF (hm b _ q fun z=>z)];exact q,fun b ps q=>⟨#[],by rw[AF (hm b _ q fun z=>z),q];simp⟩,fun b xs u q e _=>k b u (fun z=>by
   rcases he with r|r
   ·exact hm b _ q (fun z=>z) (z.trans r)
   ·rw[←z,q]at r;cases r) e⟩
 by_cases hbe:b=e
 ·subst hbe;exact heo
 ·exact⟨u,k b u hbe q⟩
end
def C7(h:Heap)(H:Hp):List AD:=(List.range h.objs.size).filter fun a=>(H a).isSome
def Jz(h:Heap)(H:Hp):Heap:=PySem.W.hideAll h (C7 h H)
def TZ(h:Heap)(H:Hp):(Jz h H).objs.size=h.objs.size:=PySem.W.hideAll_size _ _
def OZ{h:Heap}{H:Hp}{b:AD}{o:Obj}(e:h.get? b=some o)(n:H b=none):(Jz h H).get? b=some o :=
 PySem.W.hideAll_get _ e fun hm=>by
  have q:(H b).isSome=true:=(List.mem_filter.mp hm).2;rw[n]at q;simp at q
def Xu{h:Heap}{H:Hp}{b:AD}{o:Obj}(e:(Jz h H).get? b=some o):h.get? b=some o∧H b=none:=by
 have e':h.get? b=some o:=PySem.W.of_hideAll (C7 h H) e;refine⟨e',?_⟩;cases q:H b with
 |none=>rfl
 |some x =>
  have hm:b∈C7 h H:=List.mem_filter.mpr ⟨ae.mpr (aD e'),by simp[q]⟩;have z:(Jz h H).get? b=none:=PySem.W.hideAll_none (C7 h H) hm;rw[z]at e;cases e
structure Mod(K:Fg)(mg:Str→Option Value)(base:Heap):Prop where
 Yo:K.In base
 glob:base.Ns mainGlobals mg
 blt:∃mb,base.Ns builtinsNs mb∧∀x:Str,x ≠ "__name__" → mb x=bootBuiltins x
 nolimit:base.NoLimit
def Ji(d:Nat):List (List V):=[[],[.ref (d+1)],[.int 1,.int 1],[.ref (d+3)],[.ref (d+2),.ref (d+4)],[],[.int 1,.int 2],[.ref (d+7)],[.ref (d+6),.ref (d+8)],[.int 0,.int 1],[.int 1,.int 1],[.ref (d+10),.ref (d+11)],[.ref (d+9),.ref (d+12)],[],[.int 1,.int 1],[.ref (d+15)],[.ref (d+14),.ref (d+16)],[.int 1,.int 2],[.int 1,.int 2],[.ref (d+18),.ref (d+19)],[.ref (d+17),.ref (d+20)],[],[.int 1,.int 3],[.ref (d+23)],[.int 0,.int 1],[.int 2,.int 3],[.ref (d+25),.ref (d+26)],[.ref (d+22),.ref (d+24),.ref (d+27)],[.int 1,.int 4],[.int 0,.int 1],[.int 3,.int 4],[.ref (d+29),.ref (d+30),.ref (d+31)],[.ref (d+28),.ref (d+32)],[],[.int 1,.int 2],[.ref (d+35)],[.int 0,.int 1],[.int 1,.int 2],[.ref (d+37),.ref (d+38)],[.int 0,.int 1],[.int 0,.int 1],[.int 1,.int 1],[.ref (d+40),.ref (d+41),.ref (d+42)],[.ref (d+34),.ref (d+36),.ref (d+39),.ref (d+43)],[.int 1,.int 6],[.int 1,.int 3],[.int 1,.int 3],[.int 1,.int 6],[.ref (d+45),.ref (d+46),.ref (d+47),.ref (d+48)],[.ref (d+44),.ref (d+49)]]
def Jv(d:Nat):List (Key×V):=[(.inr "plain",.ref (d+5)),(.inr "middle",.ref (d+13)),(.inr "heel",.ref (d+21)),(.inr "third",.ref (d+33)),(.inr "fourth",.ref (d+50))]
def KTb(mg:Str→Option VL)(H:Hp):Prop:=∀d:AD,mg "NAMED_TABLES" = some (.ref d)→(∃o,H d=some (.C8 o (.dK (Jv d))))∧∀j xs,(Ji d)[j]? = some xs→H (d+1+j)=some (.tup xs)
def KTb.un{mg:Str→Option VL}{fs ex:List AD}{H H':Hp}{h h':Heap}(k:KTb mg H)(u:Un fs ex H H' h h'):KTb mg H':=fun d e=>by
 obtain⟨⟨o,h1⟩,h2⟩:=k d e;exact⟨⟨o,u.HL _ _ _ h1⟩,fun j xs q=>u.A2 _ _ (h2 j xs q)⟩
structure Cx where
 prog:Program
 w:World
 K:Fg
 mg:Str→Option Value
 base:Heap
 A:Around
 N:List Str
 s₀:Shared
 H₀:Hp
 env:Env
 outer:List Env
 stack:List Env
 ex:List Addr
 fn:Str→Bool
 calm:Bool
 pn:List (Addr×Obj)
 xe:Value→Shared→Prop
def Jl(l:List Env):List AD:=l.filterMap (·.frame)
abbrev Cx.fs(X:Cx):List AD:=Jl X.outer
def Z0(sc:Scope)(x:Str):Prop:=sc.names.lookup x=some .local∨sc.names.lookup x=some .cell∨sc.names.lookup x=some .free
def Loc(sc:Scope)(x:Str):Prop:=sc.names.lookup x=some .local∨sc.names.lookup x=some .cell
def Look(env:Env)(h:Heap)(m:Str→Option VL)(x:Str)(u:VL):Prop :=
 (env.kindOf x=some .local∧m x=some u)∨((env.kindOf x=some .cell∨env.kindOf x=some .free)∧∃c,env.cells.lookup x=some c∧h.IsCell c (some u))
structure Cx.Ok(X:Cx):Prop where
 mod:Mod X.K X.mg X.base
 kind:X.env.scope.kind=.function
 glob:X.env.globals=mainGlobals
 blt:X.env.builtins=builtinsNs
 above:X.s₀.heap.objs.size≤X.env.locals
 inj:∀x y c,X.env.cells.lookup x=some c→X.env.cells.lookup y=some c→x=y
 has:∀x,(X.env.kindOf x=some .cell∨X.env.kindOf x=some .free)→∃c,X.env.cells.lookup x=some c
 Qv:∀x c,X.fn x=true→X.env.cells.lookup x=some c→X.s₀.heap.objs.size≤c
 hd:X.calm=true→X.A.handled=none
 frames:X.A.frames=some X.stack
 WW:X.stack=X.outer∨(X.stack=X.env::X.outer∧X.env.frame=some X.env.locals)
 dP:∀b∈X.ex,b≠X.env.locals∧∀x c,X.env.cells.lookup x=some c→c≠b
 bs:∀b o,X.base.get? b=some o→X.s₀.heap.get? b=some o∧X.H₀ b=none
 Nk:X.base.objs.size≤X.s₀.heap.objs.size
 O1:∀b o,X.base.get? b=some o→b ∉ X.ex
 OQ:∀b∈X.ex,b ∉ X.fs
 HM:X.s₀.heap.FunFrames X.base X.outer
 Ql:∀b∈X.fs,X.H₀ b=none
 kt:KTb X.mg X.H₀
structure Inv(X:Cx)(pins:List (Addr×Obj))(σ:List (Option V))(H:Hp)(s:Shared):Prop where
 ok:X.Ok
 os:s.os=X.s₀.os
 bare:AllBare s.gens
 base:Un X.fs X.ex X.H₀ H X.s₀.heap s.heap
 loc:∃m,s.heap.Ns X.env.locals m∧∀(i:Nat) (x:Str) (v:V),X.N[i]? = some x→σ[i]? = some (some v)→Z0 X.env.scope x→∃u,RelV v u∧Look X.env s.heap m x u
 cell:∀x c,X.env.cells.lookup x=some c→∃v,s.heap.IsCell c v
 free:H X.env.locals=none
 F0:∀x c,X.env.cells.lookup x=some c→H c=none
 pin:∀p∈X.pn++pins,s.heap.get? p.1=some p.2∧H p.1=none∧p.1≠X.env.locals∧p.1 ∉ X.fs∧∀v,p.2.data≠.cell v
 Af:CY X.prog X.w H s.heap
 len:σ.length=X.N.length
def Inv.kt{X:Cx}{pins:List (AD×Obj)}{σ:List (Option V)}{H:Hp}{s:SD}(I:Inv X pins σ H s):KTb X.mg H:=I.ok.kt.un I.base
section
variable{X:Cx}{pins:List (AD×Obj)}{σ:List (Option V)}{H H':Hp}{s:SD}{h':Heap}
def Cx.Ok.ei(ok:X.Ok){b:AD}{o:Obj}(e:X.base.get? b=some o):b ∉ X.fs:=fun hb=>by
 have:=(ok.HM.mem hb).1;rw[e]at this;cases this
def Inv.bs(I:Inv X pins σ H s):∀b o,X.base.get? b=some o→s.heap.get? b=some o∧H b=none:=fun b o e =>
 ⟨I.base.keep b o (I.ok.bs b o e).1 (I.ok.bs b o e).2 (I.ok.ei e) (I.ok.O1 b o e),I.base.free b o (I.ok.bs b o e).1 (I.ok.bs b o e).2 (I.ok.O1 b o e)⟩
def Inv.bk(I:Inv X pins σ H s):∀b o,X.base.get? b=some o→s.heap.get? b=some o:=fun b o e=>(I.bs b o e).1
def Inv.mod(I:Inv X pins σ H s):Mod X.K X.mg X.base:=I.ok.mod
def Inv.F8(I:Inv X pins σ H s):X.K.In s.heap:=I.ok.mod.Yo.keeps I.bk
def Inv.lt(I:Inv X pins σ H s):X.env.locals<s.heap.objs.size:=let⟨_,hn,_⟩:=I.loc;hn.lt
def Inv.sz(I:Inv X pins σ H s):X.s₀.heap.objs.size≤s.heap.objs.size:=aM I.ok.above (bA I.lt)
def Inv.eT(I:Inv X pins σ H s){a:AD}(h:s.heap.objs.size≤a):a ∉ X.fs:=fun hb=>by
 obtain⟨_,o,ho,_⟩:=I.ok.HM.mem hb;exact absurd (aI (aD ho) (aM I.sz h)) (Nat.lt_irrefl _)
def Inv.P5(I:Inv X pins σ H s):∀x c,X.env.cells.lookup x=some c→c≠X.env.locals:=fun x c e z=>by
 obtain⟨v,o,ho,hd⟩:=I.cell x c e;obtain⟨m,⟨o',es,ep,ho',hd',_⟩,_⟩:=I.loc;rw[z,ho']at ho;cases ho;rw[hd']at hd;cases hd
def Inv.HM(I:Inv X pins σ H s):s.heap.FunFrames X.base X.outer:=by
 have all:∀(l:List Env),(∀b∈Jl l,b∈X.fs)→X.s₀.heap.FunFrames X.base l→s.heap.FunFrames X.base l:=by
  intro l
  induction l with
  |nil=>intro _ _;trivial
  |cons env r ih =>
   intro hs hl;obtain⟨hk,⟨L,o,hf,hn,ho,hd⟩,hr⟩:=hl;have hL:L∈X.fs:=hs L (by unfold Jl;rw[List.filterMap_cons,hf];exact aT);obtain⟨sl,e⟩:=I.base.slot L o ho (I.ok.Ql L hL) hL fun z=>I.ok.OQ L z hL;exact⟨hk,⟨L,_,hf,hn,e,hd⟩,ih (fun b hb=>hs b (by unfold Jl;rw[List.filterMap_cons,hf];exact aO _ hb)) hr⟩
 exact all X.outer (fun _ hb=>hb) I.ok.HM
def Inv.stack(I:Inv X pins σ H s):s.heap.FunFrames X.base X.stack:=by
 rcases I.ok.WW with e|⟨e,hf⟩
 ·rw[e];exact I.HM
 ·rw[e];obtain⟨m,hn,_⟩:=I.loc;refine .cons (by rw[I.ok.kind];decide) hf hn ?_ I.HM;exact Heap.get?_none_of_le (aM I.ok.Nk I.ok.above)
def Inv.OM(I:Inv X pins σ H s):∀b∈Jl X.stack,b∈X.env.locals::X.fs:=fun b hb=>by
 rcases I.ok.WW with e|⟨e,hf⟩
 ·rw[e]at hb;exact aO _ hb
 ·rw[e]at hb;unfold Jl at hb;rw[List.filterMap_cons,hf]at hb;exact hb
def Inv.Qc(I:Inv X pins σ H s):∀b∈Jl X.stack,H b=none:=fun b hb=>by
 rcases aL.mp (I.OM b hb) with e|hb
 ·rw[e];exact I.free
 ·obtain⟨_,o,ho,_⟩:=I.ok.HM.mem hb;exact I.base.free b o ho (I.ok.Ql b hb) fun z=>I.ok.OQ b z hb
def Inv.step{g':Array GenState}{t':Nat}{d':Drawn}{ch:List AD}(I:Inv X pins σ H s)
 (hch:∀b∈ch,(b∈X.ex∨X.s₀.heap.objs.size≤b)∧b≠X.env.locals∧(∀x c,X.env.cells.lookup x=some c→c≠b)∧∀p∈X.pn++pins,p.1≠b)
 (keep:∀b o,b≠X.env.locals→b ∉ X.fs→b ∉ ch→s.heap.get? b=some o→H b=none→h'.get? b=some o)
 (slot:∀b o,b≠X.env.locals→b∈X.fs→b ∉ ch→s.heap.get? b=some o→H b=none→∃sl,h'.get? b=some {o with slots:=sl})(free:∀b o,b ∉ ch→s.heap.get? b=some o→H b=none→H' b=none)
 (there:∀b o,b ∉ ch→s.heap.get? b=some o→∃o',h'.get? b=some o')
 (A2:∀b xs,H b=some (.tup xs)→H' b=some (.tup xs))(HL:∀b o u,H b=some (.C8 o u)→H' b=some (.C8 o u))(JB:∀b ps,H b=some (.Po ps)→∃more,H' b=some (.Po (ps++more)))
 (IE:∀b xs o,b ∉ ch→H b=some (.tup xs)→s.heap.get? b=some o→h'.get? b=some o)
 (ns:∀m,s.heap.Ns X.env.locals m→h'.Ns X.env.locals m)(Af:CY X.prog X.w H' h')(hg:AllBare g') :
  Inv X pins σ H' {s with heap:=h',gens:=g',drawn:=d',toks:=t'}:=by
 have neL:∀b o,X.s₀.heap.get? b=some o→b≠X.env.locals:=fun b o e=>aK (aI (aD e) I.ok.above);have neC:∀b o,X.s₀.heap.get? b=some o→b ∉ X.ex→b ∉ ch:=fun b o e hx hb=>by
  rcases(hch b hb).1 with z|z
  ·exact hx z
  ·exact absurd (aI (aD e) z) (Nat.lt_irrefl _)
 have cellK:∀x c,X.env.cells.lookup x=some c→∀v,s.heap.IsCell c v→h'.IsCell c v:=fun x c e v ⟨o,ho,hd⟩=>by
  have nch:c ∉ ch:=fun z=>(hch c z).2.2.1 x c e rfl;by_cases hc:c∈X.fs
  ·obtain⟨sl,q⟩:=slot c o (I.P5 x c e) hc nch ho (I.F0 x c e);exact⟨_,q,hd⟩
  ·exact⟨o,keep c o (I.P5 x c e) hc nch ho (I.F0 x c e),hd⟩
 refine⟨I.ok,I.os,hg,⟨fun b o e n hb hx=>?_,fun b o e n hb hx=>?_,fun b o e n hx=>?_,fun b o e hx=>?_,fun b xs e=>A2 b xs (I.base.A2 b xs e),fun b o xs e=>HL b o xs (I.base.HL b o xs e),fun b ps e=>?_,fun b xs o q e hx=>IE b xs o (neC b o e hx) (I.base.A2 b xs q) (I.base.IE b xs o q e hx)⟩,?_,fun x c e=>?_,?_,fun x c e=>?_,fun p hp=>?_,Af,I.len⟩
 ·exact keep b o (neL b o e) hb (neC b o e hx) (I.base.keep b o e n hb hx) (I.base.free b o e n hx)
 ·obtain⟨sl,e1⟩:=I.base.slot b o e n hb hx;obtain⟨sl',e2⟩:=slot b _ (neL b o e) hb (neC b o e hx) e1 (I.base.free b o e n hx);exact⟨sl',e2⟩
 ·obtain⟨o',e1⟩:=I.base.there b o e hx;exact free b o' (neC b o e hx) e1 (I.base.free b o e n hx)
 ·obtain⟨o',e1⟩:=I.base.there b o e hx;exact there b o' (neC b o e hx) e1
 ·obtain⟨m1,e1⟩:=I.base.JB b ps e;obtain⟨m2,e2⟩:=JB b _ e1;exact⟨m1++m2,by rw[e2,Array.append_assoc]⟩
 ·obtain⟨m,hn,hl⟩:=I.loc;refine⟨m,ns m hn,fun i x v e1 e2 e3=>?_⟩;obtain⟨u,r,l⟩:=hl i x v e1 e2 e3;refine⟨u,r,?_⟩;rcases l with l|⟨k,c,e,z⟩
  ·exact .inl l
  ·exact .inr ⟨k,c,e,cellK x c e _ z⟩
 ·obtain⟨v,z⟩:=I.cell x c e;exact⟨v,cellK x c e v z⟩
 ·obtain⟨m,⟨o,_,_,ho,_⟩,_⟩:=I.loc;exact free _ o (fun z=>(hch _ z).2.1 rfl) ho I.free
 ·obtain⟨v,o,ho,hd⟩:=I.cell x c e;exact free c o (fun z=>(hch c z).2.2.1 x c e rfl) ho (I.F0 x c e)
 ·obtain⟨e,n,ne,nf,d⟩:=I.pin p hp;have nch:p.1 ∉ ch:=fun z=>(hch p.1 z).2.2.2 p hp rfl;exact⟨keep p.1 p.2 ne nf nch e n,free p.1 p.2 nch e n,ne,nf,d⟩
def Inv.un{t':Nat}(I:Inv X pins σ H s)(u:Un X.fs [] H H' s.heap h')(Af:CY X.prog X.w H' h'):Inv X pins σ H' {s with heap:=h',toks:=t'}:=by
 obtain⟨m,⟨o,es,ep,ho,r⟩,_⟩:=id I.loc;obtain⟨sl,hL⟩:=u.any ho I.free (by simp);exact I.step (g':=s.gens) (d':=s.drawn) (ch:=[]) (fun _ z=>nomatch z) (fun b o _ hb _ e n=>u.keep b o e n hb (by simp)) (fun b o _ hb _ e n=>u.slot b o e n hb (by simp)) (fun b o _ e n=>u.free b o e n (by simp)) (fun b o _ e=>u.there b o e (by simp)) u.A2 u.HL u.JB (fun b xs o _ q e=>u.IE b xs o q e (by simp)) (fun m' hm=>by
  obtain⟨o',es',ep',ho',r'⟩:=hm;rw[ho]at ho';cases ho';exact⟨_,es',ep',hL,r'⟩) Af I.bare
def Inv.call{g':Array GenState}{t':Nat}{d':Drawn}{ch:List AD}(I:Inv X pins σ H s)(u:Un (Jl X.stack) ch H H' s.heap h')(Af:CY X.prog X.w H' h')(hg:AllBare g')
 (hch:∀b∈ch,(b∈X.ex∨X.s₀.heap.objs.size≤b)∧b≠X.env.locals∧(∀x c,X.env.cells.lookup x=some c→c≠b)∧∀p∈X.pn++pins,p.1≠b) :
  Inv X pins σ H' {s with heap:=h',gens:=g',drawn:=d',toks:=t'}:=by
 obtain⟨m,⟨o,es,ep,ho,r⟩,_⟩:=id I.loc;obtain⟨sl,hL⟩:=u.any ho I.free fun z=>(hch _ z).2.1 rfl;exact I.step (ch:=ch) hch (fun b o hL hb hc e n=>u.keep b o e n (fun z=>(aL.mp (I.OM b z)).elim hL hb) hc) (fun b o _ _ hc e n=>u.any e n hc) (fun b o hc e n=>u.free b o e n hc) (fun b o hc e=>u.there b o e hc) u.A2 u.HL u.JB (fun b xs o hc q e=>u.IE b xs o q e hc) (fun m' hm=>by
  obtain⟨o',es',ep',ho',r'⟩:=hm;rw[ho]at ho';cases ho';exact⟨_,es',ep',hL,r'⟩) Af hg
def Inv.turned{t':Nat}{it:AD}(I:Inv X pins σ H s)(k:∀b o,b≠it→s.heap.get? b=some o→h'.get? b=some o)(hn:H it=none)(hL:it≠X.env.locals)
 (h1:it∈X.ex∨X.s₀.heap.objs.size≤it)(h2:∀x c,X.env.cells.lookup x=some c→c≠it)(h3:∀p∈X.pn++pins,p.1≠it):Inv X pins σ H {s with heap:=h',toks:=t'}:=by
 have nit:∀b u,H b=some u→b≠it:=fun b u e z=>by rw[z,hn]at e;cases e
 refine I.step (g':=s.gens) (d':=s.drawn) (ch:=[it]) (fun b hb=>?_) (fun b o _ _ hc e _=>k b o (fun z=>hc (by simp[z])) e) (fun b o _ _ hc e _=>⟨o.slots,k b o (fun z=>hc (by simp[z])) e⟩) (fun _ _ _ _ n=>n)
  (fun b o hc e=>⟨o,k b o (fun z=>hc (by simp[z])) e⟩) (fun _ _ e=>e) (fun _ _ _ e=>e) (fun b ps e=>⟨#[],by rw[e];simp⟩) (fun b xs o hc _ e=>k b o (fun z=>hc (by simp[z])) e) (fun m hm=>?_) (fun b u e=>?_) I.bare
 ·have e:b=it:=by simpa using hb
  subst e;exact⟨h1,hL,h2,h3⟩
 ·obtain⟨o,es,ep,ho,r⟩:=hm;exact⟨o,es,ep,k _ o (Ne.symm hL) ho,r⟩
 ·refine(I.Af b u e).Fd (fun c v hc q=>k c v ?_ q) (fun _ q=>q) fun _ _ q=>q;rcases hc with z|z
  ·rw[z];exact nit b u e
  ·exact nit c _ z
def Inv.tok(I:Inv X pins σ H s)(t:Nat):Inv X pins σ H {s with toks:=t}:=I.un (h':=s.heap) (t':=t) Un.refl I.Af
def Inv.kept{t':Nat}(I:Inv X pins σ H s)(k:∀b u,s.heap.get? b=some u→h'.get? b=some u):Inv X pins σ H {s with heap:=h',toks:=t'}:=I.un (Un.kept k) (I.Af.kept k)
def Inv.laid{a:AD}{o:HO}{t':Nat}(I:Inv X pins σ H s)(k:∀b u,s.heap.get? b=some u→h'.get? b=some u)(hp:s.heap.objs.size≤a)(new:Bb X.prog X.w (upd H a o) h' a o) :
  Inv X pins σ (upd H a o) {s with heap:=h',toks:=t'}:=I.un (Un.laid k hp (I.Af.fresh hp)) (I.Af.laid k hp new)
def Inv.write{x e:AD}{o:HO}{t':Nat}(I:Inv X pins σ H s)(mu:Wf (H x))(he:e=x∨H e=some (.own x))(k:∀b u,b≠e→s.heap.get? b=some u→h'.get? b=some u)(heo:∃u,h'.get? e=some u)
 (new:Bb X.prog X.w (upd H x o) h' x o):Inv X pins σ (upd H x o) {s with heap:=h',toks:=t'}:=I.un (Un.write mu he k heo) (I.Af.write mu he k heo new)
def Inv.Qt{pins':List (AD×Obj)}(I:Inv X pins σ H s)(h:∀p∈pins',s.heap.get? p.1=some p.2∧H p.1=none∧p.1≠X.env.locals∧p.1 ∉ X.fs∧∀v,p.2.data≠.cell v):Inv X pins' σ H s :=
 ⟨I.ok,I.os,I.bare,I.base,I.loc,I.cell,I.free,I.F0,fun p hp=>(bR.mp hp).elim (fun z=>I.pin p (List.mem_append_left _ z)) (h p),I.Af,I.len⟩
def O6{N:List Str}(hN:N.Nodup){i j:Nat}{x:Str}(a:N[i]? = some x)(b:N[j]? = some x):i=j:=by
 obtain⟨h1,e1⟩:=aE.mp a;obtain⟨h2,e2⟩:=aE.mp b;exact(List.getElem_inj hN).mp (e1.trans e2.symm)
def NO{M:Model}{A:Around}{E:VL→SD→Prop}{i:Nat}{x:Str}{v:V}{u:VL}{Q:Unit→SD→Prop}(I:Inv X pins σ H s)(hN:X.N.Nodup)(hi:X.N[i]? = some x)(hx:Loc X.env.scope x)(r:RelV v u)
 (h:∀s',Inv X pins (σ.set i (some v)) H s'→(∃a,Heap.SameBut a s.heap s'.heap∧(a=X.env.locals∨X.env.cells.lookup x=some a))→Q () s')(hf:X.fn x=true∨X.env.scope.names.lookup x=some .local:=by first|exact .inl rfl|exact .inr rfl|assumption):wpAny M A (storeName X.env x u) Q E s:=by
 obtain⟨m,hn,hl⟩:=id I.loc;have hcls:(X.env.scope.kind==.class||(X.env.scope.kind==.module&&X.env.locals != X.env.globals))=false:=by rw[I.ok.kind];rfl
 have hiσ:i<σ.length:=by rw[I.len];exact(aE.mp hi).1
 have P5:=I.P5;have tracked:∀ {a:AD} {h':Heap},(∃o,s.heap.get? a=some o∧H a=none)→Heap.SameBut a s.heap h'→CY X.prog X.w H h':=fun {a h'} ha hs b ob e=>by
  obtain⟨_,_,hfree⟩:=ha;refine(I.Af b ob e).Fd (fun c w' hc q=>(hs.2 c ?_).trans q) (fun _ q=>q) fun _ _ q=>q;rintro rfl;rcases hc with rfl|hc
  ·rw[hfree]at e;cases e
  ·rw[hfree]at hc;cases hc
 rcases hx with hk|hk
 ·refine wpAny_storeName_local hk hn (fun h' hn' hs=>?_) hcls;obtain⟨oL,_,_,hoL,_⟩:=id hn;refine h _ ⟨I.ok,I.os,I.bare,⟨fun b o e n hb hx=>?_,fun b o e n hb hx=>?_,I.base.free,fun b o e hx=>?_,I.base.A2,I.base.HL,I.base.JB,fun b xs o q e hx=>(hs.2 b (aK (aI (aD e) I.ok.above))).trans (I.base.IE b xs o q e hx)⟩,⟨_,hn',fun j y v' e1 e2 e3=>?_⟩,fun y c e=>?_,I.free,I.F0,fun p hp=>?_,tracked ⟨oL,hoL,I.free⟩ hs,by simpa using I.len⟩ ⟨_,hs,.inl rfl⟩
  ·exact(hs.2 b (aK (aI (aD e) I.ok.above))).trans (I.base.keep b o e n hb hx)
  ·obtain⟨sl,e1⟩:=I.base.slot b o e n hb hx;exact⟨sl,(hs.2 b (aK (aI (aD e) I.ok.above))).trans e1⟩
  ·obtain⟨o',e1⟩:=I.base.there b o e hx;exact⟨o',(hs.2 b (aK (aI (aD e) I.ok.above))).trans e1⟩
  ·by_cases hj:j=i
   ·subst hj;rw[hi]at e1;cases e1;rw[List.getElem?_set_self hiσ]at e2;cases e2;exact⟨u,r,.inl ⟨hk,by simp⟩⟩
   ·rw[List.getElem?_set_ne (Ne.symm hj)]at e2;obtain⟨u',r',q⟩:=hl j y v' e1 e2 e3;refine⟨u',r',?_⟩;rcases q with ⟨k,e⟩|⟨k,c,e,z⟩
    ·refine .inl ⟨k,?_⟩;have:y≠x:=fun e=>hj (O6 hN e1 (e ▸ hi));simp[this,e]
    ·exact .inr ⟨k,c,e,z.sameBut hs (P5 y c e)⟩
  ·obtain⟨w',z⟩:=I.cell y c e;exact⟨w',z.sameBut hs (P5 y c e)⟩
  ·obtain⟨e,n,ne,nf,d⟩:=I.pin p hp;exact⟨(hs.2 p.1 ne).trans e,n,ne,nf,d⟩
 ·have hfn:X.fn x=true:=by
   rcases hf with z|z
   ·exact z
   ·rw[z]at hk;cases hk
  obtain⟨c,hc⟩:=I.ok.has x (.inl hk);obtain⟨w',z⟩:=I.cell x c hc;refine wpAny_storeName_cell I.ok.kind hk hc z (fun h' hc' hs=>?_);obtain⟨oc,hoc,hocd⟩:=id z;refine h {s with heap:=h'} ⟨I.ok,I.os,I.bare,⟨fun b o e n hb hx=>?_,fun b o e n hb hx=>?_,I.base.free,fun b o e hx=>?_,I.base.A2,I.base.HL,I.base.JB,fun b xs o q e hx=>(hs.2 b (aK (aI (aD e) (I.ok.Qv x c hfn hc)))).trans (I.base.IE b xs o q e hx)⟩,⟨m,hn.sameBut hs (Ne.symm (P5 x c hc)),fun j y v' e1 e2 e3=>?_⟩,fun y c' e=>?_,I.free,I.F0,fun p hp=>?_,tracked ⟨oc,hoc,I.F0 x c hc⟩ hs,by simpa using I.len⟩ ⟨c,hs,.inr hc⟩
  ·exact(hs.2 b (aK (aI (aD e) (I.ok.Qv x c hfn hc)))).trans (I.base.keep b o e n hb hx)
  ·obtain⟨sl,e1⟩:=I.base.slot b o e n hb hx;exact⟨sl,(hs.2 b (aK (aI (aD e) (I.ok.Qv x c hfn hc)))).trans e1⟩
  ·obtain⟨o',e1⟩:=I.base.there b o e hx;exact⟨o',(hs.2 b (aK (aI (aD e) (I.ok.Qv x c hfn hc)))).trans e1⟩
  ·by_cases hj:j=i
   ·subst hj;rw[hi]at e1;cases e1;rw[List.getElem?_set_self hiσ]at e2;cases e2;exact⟨u,r,.inr ⟨.inl hk,c,hc,hc'⟩⟩
   ·rw[List.getElem?_set_ne (Ne.symm hj)]at e2;obtain⟨u',r',q⟩:=hl j y v' e1 e2 e3;refine⟨u',r',?_⟩;rcases q with q|⟨k,c',e,z'⟩
    ·exact .inl q
    ·refine .inr ⟨k,c',e,z'.sameBut hs ?_⟩;rintro rfl;exact hj (O6 hN e1 (I.ok.inj _ _ _ e hc ▸ hi))
  ·by_cases hcc:c'=c
   ·subst hcc;exact⟨_,hc'⟩
   ·obtain⟨w2,z2⟩:=I.cell y c' e;exact⟨w2,z2.sameBut hs hcc⟩
  ·obtain⟨e,n,ne,nf,d⟩:=I.pin p hp;refine⟨(hs.2 p.1 ?_).trans e,n,ne,nf,d⟩;intro q;rw[q,hoc]at e;have q':oc=p.2:=ab e;exact d w' (by rw[←q'];exact hocd)
def JQ{M:Model}{A:Around}{E:VL→SD→Prop}{i:Nat}{x:Str}{v:V}{u:VL}{Q:Unit→SD→Prop}(I:Inv X pins σ H s)(hN:X.N.Nodup)(hi:X.N[i]? = some x)(hx:Loc X.env.scope x)(r:RelV v u)
 (h:∀s',Inv X pins (σ.set i (some v)) H s'→Q () s')(hf:X.fn x=true∨X.env.scope.names.lookup x=some .local:=by first|exact .inl rfl|exact .inr rfl|assumption):wpAny M A (storeName X.env x u) Q E s :=
 NO I hN hi hx r (fun s' I' _=>h s' I') hf
def Inv.cX{s':SD}{ch:List AD}(I:Inv X pins σ H s)(ho:s'.os=s.os)(u:Un (Jl X.stack) ch H H' s.heap s'.heap)(Af:CY X.prog X.w H' s'.heap)(hg:AllBare s'.gens)
 (hch:∀b∈ch,(b∈X.ex∨X.s₀.heap.objs.size≤b)∧b≠X.env.locals∧(∀x c,X.env.cells.lookup x=some c→c≠b)∧∀p∈X.pn++pins,p.1≠b):Inv X pins σ H' s':=by
 obtain⟨h',g',d',t',o'⟩:=s';have e:o'=s.os:=ho;subst e;exact I.call (g':=g') (t':=t') (d':=d') u Af hg hch
end
abbrev XK:=VL→Option AD→Hp→Prop
abbrev St:=List (Option V)
abbrev VK:=V→Hp→Prop
abbrev TE:=St→Hp→VK→Prop
abbrev TT:=St→Hp→(Bool→Hp→Prop)→Prop
abbrev TA:=St→Hp→(List V→Hp→Prop)→Prop
structure Ends where
 nx:St→Hp→Prop
 rt:VK
 bk:St→Hp→Prop:=fun _ _=>False
 ct:St→Hp→Prop:=fun _ _=>False
abbrev TS:=Ends→St→Hp→Prop
def EP(X:Cx)(pins:List (AD×Obj))(σ:St)(Q:VK)(u:VL)(s':SD):Prop:=∃v H',Inv X pins σ H' s'∧RelV v u∧Q v H'
def TP(X:Cx)(pins:List (AD×Obj))(σ:St)(Q:Bool→Hp→Prop)(b:Bool)(s':SD):Prop:=∃H',Inv X pins σ H' s'∧Q b H'
def AP(X:Cx)(pins:List (AD×Obj))(σ:St)(Q:List V→Hp→Prop)(us:List VL)(s':SD):Prop:=∃vs H',Inv X pins σ H' s'∧Vals vs us∧Q vs H'
def SP(X:Cx)(pins:List (AD×Obj))(D:Ends)(f:Flow)(s':SD):Prop :=
 match f with
 |.next=>∃σ' H',Inv X pins σ' H' s'∧D.nx σ' H'
 |.brk=>∃σ' H',Inv X pins σ' H' s'∧D.bk σ' H'
 |.cont=>∃σ' H',Inv X pins σ' H' s'∧D.ct σ' H'
 |.ret u=>∃v σ' H',Inv X pins σ' H' s'∧RelV v u∧D.rt v H'
def PE(X:Cx)(e:Expr)(t:TE):Prop :=
 ∀(pins:List (AD×Obj)) (s:SD) (σ:St) (H:Hp) (Q:VK),Inv X pins σ H s→t σ H Q→wpAny (model X.prog X.w) X.A (eval e X.env) (EP X pins σ Q) X.xe s
def PT(X:Cx)(e:Expr)(t:TT):Prop :=
 ∀(pins:List (AD×Obj)) (s:SD) (σ:St) (H:Hp) (Q:Bool→Hp→Prop),Inv X pins σ H s→t σ H Q→wpAny (model X.prog X.w) X.A (isTrue e X.env (eval e X.env)) (TP X pins σ Q) X.xe s
def PW(X:Cx)(e:Expr)(t:TT):Prop :=
 ∀(whole:Sem VL) (pins:List (AD×Obj)) (s:SD) (σ:St) (H:Hp) (Q:Bool→Hp→Prop),Inv X pins σ H s→t σ H Q→wpAny (model X.prog X.w) X.A (isTrue e X.env whole) (TP X pins σ Q) X.xe s
def PW.pt{X:Cx}{e:Expr}{t:TT}(h:PW X e t):PT X e t:=h _
def PA(X:Cx)(es:List Expr)(t:TA):Prop :=
 ∀(pos:Pos) (pins:List (AD×Obj)) (s:SD) (σ:St) (H:Hp) (Q:List V→Hp→Prop),Inv X pins σ H s→t σ H Q→wpAny (model X.prog X.w) X.A (spliced (backTo pos (starEach es X.env))) (AP X pins σ Q) X.xe s
def PS(X:Cx)(st:Stmt)(t:TS):Prop :=
 ∀(pins:List (AD×Obj)) (s:SD) (σ:St) (H:Hp) (D:Ends),Inv X pins σ H s→t D σ H→wpAny (model X.prog X.w) X.A (exec st X.env) (SP X pins D) X.xe s
def Hr(X:Cx)(st:List Stmt)(t:TS):Prop :=
 ∀(pins:List (AD×Obj)) (s:SD) (σ:St) (H:Hp) (D:Ends),Inv X pins σ H s→t D σ H→wpAny (model X.prog X.w) X.A (execs st X.env) (SP X pins D) X.xe s
def Az{α:Type}{t:Sem α}{Q Q':α→SD→Prop}{M:Model}{A:Around}{E:VL→SD→Prop}{s:SD}(h:wpAny M A t Q E s)(hQ:∀a s,Q a s→Q' a s):wpAny M A t Q' E s:=af h hQ fun _ _ x=>x
section
variable{X:Cx}
def KS(i:Nat):TE:=fun σ H Q=>∃v,σ[i]? = some (some v)∧Q v H
def tC(v:V):TE:=fun _ H Q=>Q v H
def bp{i:Nat}{x:Str}{pos:Pos}(hN:X.N[i]? = some x)(hv:Z0 X.env.scope x)(hd:(x==("__debug__" : Str))=false:=by decide)(hcd:(x==("__classdict__" : Str))=false:=by decide):PE X (.Name x pos) (KS i):=by
 intro pins s σ H Q I h;obtain⟨v,e,h⟩:=h;obtain⟨m,hn,hl⟩:=I.loc;obtain⟨u,r,l⟩:=hl i x v hN e hv;have fin:EP X pins σ Q u s:=⟨v,H,I,r,h⟩;rcases l with ⟨hk,hm⟩|⟨hk,c,hc,hcell⟩
 ·exact wpAny_Name (wpAny_loadName_local I.ok.kind hk hn hm fin) hd
 ·rcases hk with hk|hk
  ·exact wpAny_Name (wpAny_loadName_cell I.ok.kind hk hc hcell fin) hd
  ·exact wpAny_Name (wpAny_loadName_free I.ok.kind hk hc hcell fin hcd) hd
def Ao{i j pos}:PE X (.Constant (.int i) j pos) (tC (.int i)):=fun _ _ _ H _ I h=>wpAny_Constant_int ⟨.int i,H,I.tok _,⟨_,rfl⟩,h⟩
def F3{b j pos}:PE X (.Constant (.bool b) j pos) (tC (.bl b)):=fun _ _ _ H _ I h=>Constant_bool ⟨.bl b,H,I,rfl,h⟩
def ZR{j pos}:PE X (.Constant .none j pos) (tC .BI):=fun _ _ _ H _ I h=>Constant_none ⟨.BI,H,I,rfl,h⟩
def ZS{x j pos}:PE X (.Constant (.str x) j pos) (tC (.str x)):=fun _ _ _ H _ I h=>Calls.Constant_str ⟨.str x,H,I.tok _,⟨_,rfl⟩,h⟩
def Gl(X:Cx)(x:Str):Prop:=X.env.kindOf x=some .globalImplicit
def Q5{E:VL→SD→Prop}{pins:List (AD×Obj)}{s:SD}{σ:St}{H:Hp}{x:Str}{u:VL}{pos:Pos}{Q:VL→SD→Prop}(I:Inv X pins σ H s)(hg:Gl X x)(hm:X.mg x=some u)(h:Q u s)
 (hd:(x==("__debug__" : Str))=false:=by decide):wpAny (model X.prog X.w) X.A (eval (.Name x pos) X.env) Q E s :=
 Calls.Name_function_global I.ok.kind hg (Calls.loadGlobal_global (by rw[I.ok.glob];exact I.mod.glob.keeps I.bk) hm h) hd
def Ec{E:VL→SD→Prop}{pins:List (AD×Obj)}{s:SD}{σ:St}{H:Hp}{x:Str}{u:VL}{pos:Pos}{Q:VL→SD→Prop}(I:Inv X pins σ H s)(hg:Gl X x)(hm:X.mg x=none)(hv:bootBuiltins x=some u)(h:Q u s)
 (hn:x ≠ "__name__" := by decide)(hd:(x==("__debug__" : Str))=false:=by decide):wpAny (model X.prog X.w) X.A (eval (.Name x pos) X.env) Q E s:=by
 obtain⟨mb,h1,h2⟩:=I.mod.blt;exact Calls.Name_function_global I.ok.kind hg (Calls.loadGlobal_builtin (by rw[I.ok.glob];exact I.mod.glob.keeps I.bk) hm (by rw[I.ok.blt];exact h1.keeps I.bk) ((h2 x hn).trans hv) h) hd
def Kf{x:Str}{v:V}{u:VL}{pos:Pos}(hg:Gl X x)(hm:X.mg x=some u)(r:RelV v u)(hd:(x==("__debug__" : Str))=false:=by decide):PE X (.Name x pos) (tC v) :=
 fun _ _ _ H _ I h=>Q5 I hg hm ⟨v,H,I,r,h⟩ hd
def Gr{x:Str}{v:V}{u:VL}{pos:Pos}(hg:Gl X x)(hm:X.mg x=none)(hv:bootBuiltins x=some u)(r:RelV v u)(hn:x ≠ "__name__" := by decide)(hd:(x==("__debug__" : Str))=false:=by decide):PE X (.Name x pos) (tC v) :=
 fun _ _ _ H _ I h=>Ec I hg hm hv ⟨v,H,I,r,h⟩ hn hd
variable{a b:Expr}{ta tb:TE}{pos:Pos}
def PC(X:Cx)(op:CmpOp)(a b:Expr)(t:TE):Prop :=
 ∀(pins:List (AD×Obj)) (s:SD) (σ:St) (H:Hp) (Q:VK),Inv X pins σ H s→t σ H Q →
  wpAny (model X.prog X.w) X.A (eval a X.env) (fun v s₁=>wpAny (model X.prog X.w) X.A (eval b X.env) (fun u s₂=>wpAny (model X.prog X.w) X.A (compareOp op v u) (EP X pins σ Q) X.xe s₂) X.xe s₁) X.xe s
def tB(t:TE):TT:=fun σ H Q=>t σ H fun x H1=>∃c,x=.bl c∧Q c H1
def Zv{op:CmpOp}{t:TE}(h:PC X op a b t)(h1:behindInMarks op b=false:=by first|exact nobehind _ (by decide) (by decide)|rfl):PT X (.Compare a [op] [b] pos) (tB t):=by
 intro pins s σ H Q I hw;refine wpAny_isTrue_Compare1 (Az (h pins s σ H _ I hw) fun v s1 h1=>Az h1 fun u s2 h2=>Az h2 fun c s3 ⟨x,H1,I1,r1,q1⟩=>?_) h1;obtain⟨d,rfl,q⟩:=q1;cases r1;exact bN ⟨H1,I1,q⟩
def Ex{e : Expr}{t : TE}(h : PE X e t)(he : ∀ whole,isTrue e X.env whole = (do let v ← whole; standAt e.pos; holding [v] (truthy v)) := by intro _; rfl) : PT X e (tB t) := by
  intro pins s σ H Q I hw
  refine isTrue_plain (Az (h pins s σ H _ I hw) fun v s1 ⟨x,H1,I1,r1,q1⟩ => ?_) (he _)
  obtain ⟨d,rfl,q⟩:=q1
  cases r1
  exact bN ⟨H1,I1,q⟩
variable{tA tB':TT}{rest:List Expr}
def fE(t u:TT):TT:=fun σ H Q=>t σ H fun c H1=>if c=true then Q true H1 else u σ H1 Q
def ee(t:TT):TT:=fun σ H Q=>t σ H fun c H1=>Q (!c) H1
def Xn(ha:PT X a tA):PW X (.BoolOp .And [a] pos) tA:=by
 intro wh pins s σ H Q I h;refine isTrue_and (Az (ha pins s σ H Q I h) fun c s1 e=>?_);cases c with
 |true=>exact isTrue_and_nil e
 |false=>exact e
def Ig(ha:PT X a tA):PW X (.BoolOp .Or [a] pos) tA:=by
 intro wh pins s σ H Q I h;refine isTrue_or (Az (ha pins s σ H Q I h) fun c s1 e=>?_);cases c with
 |false=>exact isTrue_or_nil e
 |true=>exact e
def JJ(ha:PT X a tA)(hb:PW X (.BoolOp .Or (b::rest) pos) tB'):PW X (.BoolOp .Or (a::b::rest) pos) (fE tA tB'):=by
 intro wh pins s σ H Q I h;refine isTrue_or (Az (ha pins s σ H _ I h) fun c s1 ⟨H1,I1,q1⟩=>?_);cases c with
 |true=>exact⟨H1,I1,q1⟩
 |false=>exact hb wh pins s1 σ H1 Q I1 q1
def Ew(ha:PT X a tA):PT X (.UnaryOp .Not a pos) (ee tA):=by
 intro pins s σ H Q I h;exact isTrue_not (ha pins s σ H (fun c H1=>Q (!c) H1) I h)
def cF(ta tb:TE):TE:=fun σ H Q=>ta σ H fun x H1=>∃c,x=.bl c∧if c=true then tb σ H1 Q else Q (.bl false) H1
def cL(ta:TE):TE:=fun σ H Q=>ta σ H fun x H1=>∃c,x=.bl c∧Q (.bl (!c)) H1
def MX{op}{t:TE}(h:PE X a t):PE X (.BoolOp op [a] pos) t:=fun pins s σ H Q I hw=>BoolOp_one (h pins s σ H Q I hw)
def Kb(ha:PE X a ta)(hb:PE X (.BoolOp .And (b::rest) pos) tb):PE X (.BoolOp .And (a::b::rest) pos) (cF ta tb):=by
 intro pins s σ H Q I h;refine BoolOp_and (Az (ha pins s σ H _ I h) fun v s1 ⟨x,H1,I1,r1,q1⟩=>?_);obtain⟨c,rfl,q1⟩:=q1;cases r1;refine bN ?_;cases c with
 |true=>exact hb pins s1 σ H1 Q I1 q1
 |false=>exact⟨.bl false,H1,I1,rfl,q1⟩
def YF(ha:PE X a ta):PE X (.UnaryOp .Not a pos) (cL ta):=by
 intro pins s σ H Q I h;refine UnaryOp_ (Az (ha pins s σ H _ I h) fun v s1 ⟨x,H1,I1,r1,q1⟩=>?_);obtain⟨c,rfl,q1⟩:=q1;cases r1;exact not_of (bN ⟨.bl (!c),H1,I1,rfl,q1⟩)
end
def Ae(K:Fg)(H:Hp)(a:AD)(xs:List V):Prop :=
 Rd H a (.lst xs) ∨
  ∃(o:Obj) (its:Array VL) (n:Nat),K.lookup a=some o∧o.cls=.type "list" ∧ o.dict=none∧o.data=.seq its n∧its.size≤sizeLine∧Vals xs its.toList
def Au(K:Fg)(H:Hp)(a:AD)(xs:List V):Prop :=
 Rd H a (.tup xs) ∨
  ∃(o:Obj) (its:Array VL) (n:Nat),K.lookup a=some o∧o.cls=.type "tuple" ∧ o.data=.seq its n∧its.size≤sizeLine∧Vals xs its.toList
def Rx:VL→Option V
 |.none=>some .BI
 |.bool b=>some (.bl b)
 |.int i _=>some (.int i)
 |.str x _=>some (.str x)
 |.bytes b _=>some (.KI b)
 |.float b _=>some (.Qw b)
 |.ref a=>some (.ref a)
 |.type n=>some (.ty n)
 |_=>none
def RelV.abs{x:V}{u:VL}(r:RelV x u):Rx u=some x:=by
 cases x with
 |BI=>cases r;rfl
 |bl _=>cases r;rfl
 |int _=>obtain⟨t,rfl⟩:=r;rfl
 |str _=>obtain⟨t,rfl⟩:=r;rfl
 |KI _=>obtain⟨t,rfl⟩:=r;rfl
 |Qw _=>obtain⟨t,rfl⟩:=r;rfl
 |ref _=>cases r;rfl
 |ty _=>cases r;rfl
def RelV.inj{x y:V}{u:VL}(r:RelV x u)(q:RelV y u):x=y:=ab (r.abs.symm.trans q.abs)
def Vals.inj:∀ {xs ys:List V} {us:List VL},Vals xs us→Vals ys us→xs=ys
 |_,_,_,.nil,.nil=>rfl
 |_,_,_,.cons r t,.cons r' t'=>by rw[r.inj r',Vals.inj t t']
section
variable{X:Cx}{pins:List (AD×Obj)}{σ:St}{H:Hp}{s:SD}{a:AD}{xs ys:List V}
def Ae.of{K:Fg}(h:H a=some (.lst xs)):Ae K H a xs:=.inl (.inl h)
def Au.of{K:Fg}(h:H a=some (.tup xs)):Au K H a xs:=.inl (.inl h)
def Inv.list(I:Inv X pins σ H s)(h:Ae X.K H a xs):∃its:List VL,Vals xs its∧PlainL s.heap a its.toArray∧xs.length≤sizeLine:=by
 rcases h with h|⟨o,its,n,hk,hc,hd,hs,hz,r⟩
 ·obtain⟨z,its,n,r,e⟩:=h.ok I.Af;exact⟨its,r,⟨_,n,e,rfl,rfl,rfl⟩,z⟩
 ·refine⟨its.toList,r,⟨o,n,I.F8 a o hk,hc,hd,by simpa using hs⟩,?_⟩;have e:=r.length;simp only[Array.length_toList]at e
  lia
def Inv.tuple(I:Inv X pins σ H s)(h:Au X.K H a xs):∃its:List VL,Vals xs its∧IsTup s.heap a its.toArray∧xs.length≤sizeLine:=by
 rcases h with h|⟨o,its,n,hk,hc,hs,hz,r⟩
 ·obtain⟨z,its,r,p⟩:=h.ok I.Af;exact⟨its,r,p,z⟩
 ·refine⟨its.toList,r,⟨o,I.F8 a o hk,hc,n,by simpa using hs⟩,?_⟩;have e:=r.length;simp only[Array.length_toList]at e
  lia
def Inv.Oy(I:Inv X pins σ H s)(h:Ae X.K H a xs)(h':Ae X.K H a ys):xs=ys:=by
 obtain⟨its,r,⟨o,n,e,_,_,d⟩,_⟩:=I.list h;obtain⟨its',r',⟨o',n',e',_,_,d'⟩,_⟩:=I.list h';rw[e]at e';cases e';rw[d]at d'
 injection d' with d1 _
 have:its=its':=by simpa using bF Array.toList d1
 subst this;exact r.inj r'
def Inv.NV(I:Inv X pins σ H s)(h:Au X.K H a xs)(h':Au X.K H a ys):xs=ys:=by
 obtain⟨its,r,⟨o,e,_,n,d⟩,_⟩:=I.tuple h;obtain⟨its',r',⟨o',e',_,n',d'⟩,_⟩:=I.tuple h';rw[e]at e';cases e';rw[d]at d'
 injection d' with d1 _
 have:its=its':=by simpa using bF Array.toList d1
 subst this;exact r.inj r'
end
abbrev Cx.IP(X:Cx)(E:VL→SD→Prop):Cx:={X with xe:=E}
abbrev Cx.T9(X:Cx):Cx:=X.IP fun _ _=>False
def Cx.Ok.IP{X:Cx}(ok:X.Ok)(E:VL→SD→Prop):(X.IP E).Ok :=
 ⟨ok.mod,ok.kind,ok.glob,ok.blt,ok.above,ok.inj,ok.has,ok.Qv,ok.hd,ok.frames,ok.WW,ok.dP,ok.bs,ok.Nk,ok.O1,ok.OQ,ok.HM,ok.Ql,ok.kt⟩
def Cx.Ok.F9{X:Cx}{E:VL→SD→Prop}(ok:(X.IP E).Ok):X.Ok :=
 ⟨ok.mod,ok.kind,ok.glob,ok.blt,ok.above,ok.inj,ok.has,ok.Qv,ok.hd,ok.frames,ok.WW,ok.dP,ok.bs,ok.Nk,ok.O1,ok.OQ,ok.HM,ok.Ql,ok.kt⟩
section
variable{X:Cx}{pins:List (AD×Obj)}{σ:St}{H:Hp}{s:SD}{E:VL→SD→Prop}
def Inv.IP(I:Inv X pins σ H s)(E:VL→SD→Prop):Inv (X.IP E) pins σ H s:=⟨I.ok.IP E,I.os,I.bare,I.base,I.loc,I.cell,I.free,I.F0,I.pin,I.Af,I.len⟩
def Inv.F9(I:Inv (X.IP E) pins σ H s):Inv X pins σ H s:=⟨I.ok.F9,I.os,I.bare,I.base,I.loc,I.cell,I.free,I.F0,I.pin,I.Af,I.len⟩
def SP.F9{D:Ends}{f:Flow}{s':SD}(h:SP (X.IP E) pins D f s'):SP X pins D f s':=by
 cases f with
 |next=>obtain⟨σ',H',I,q⟩:=h;exact⟨σ',H',I.F9,q⟩
 |brk=>obtain⟨σ',H',I,q⟩:=h;exact⟨σ',H',I.F9,q⟩
 |cont=>obtain⟨σ',H',I,q⟩:=h;exact⟨σ',H',I.F9,q⟩
 |ret u=>obtain⟨v,σ',H',I,r,q⟩:=h;exact⟨v,σ',H',I.F9,r,q⟩
def Hr.T9{st:List Stmt}{t:TS}(h:Hr X.T9 st t):Hr X st t:=fun pins s σ H D I hw =>
 af (h pins s σ H D (I.IP _) hw) (fun _ _ q=>q.F9) fun _ _ z=>False.elim z
end
section
variable{X:Cx}{st:Stmt}{rest:List Stmt}{t u:TS}{e:Expr}{te:TE}{pos:Pos}
def cf:TS:=fun D σ H=>D.nx σ H
def Y8(t u:TS):TS:=fun D σ H=>t {D with nx:=u D} σ H
def B8:Hr X [] cf:=fun _ _ σ H _ I h=>wpAny_execs_nil ⟨σ,H,I,h⟩
def AY(h1:PS X st t)(h2:Hr X rest u):Hr X (st::rest) (Y8 t u):=by
 intro pins s σ H D I h;refine wpAny_execs_cons (Az (h1 pins s σ H {D with nx:=u D} I h) fun f s1 q=>?_);cases f with
 |next =>
  obtain⟨σ',H',I',q⟩:=q;exact h2 pins s1 σ' H' D I' q
 |ret v=>exact q
 |brk=>exact q
 |cont=>exact q
def Ad(h1:PS X st t):Hr X [st] t:=by
 intro pins s σ H D I h;refine wpAny_execs_cons (Az (h1 pins s σ H D I h) fun f s1 q=>?_);cases f with
 |next=>exact wpAny_execs_nil q
 |ret v=>exact q
 |brk=>exact q
 |cont=>exact q
def Inv.quiet{pins:List (AD×Obj)}{σ:St}{H:Hp}{s:SD}(I:Inv X pins σ H s):interactive X.env=false:=by simp[interactive,I.ok.kind]
def RS(te:TE):TS:=fun D σ H=>te σ H fun _ H1=>D.nx σ H1
def Ib(he:PE X e te)(hs:swapsWith e none pos.line X.env=pure false:=by rfl):PS X (.Expr e pos) (RS te):=by
 intro pins s σ H D I h;exact wpAny_Expr_any (Az (he pins s σ H _ I h) fun v s1 ⟨x,H1,I1,r1,q1⟩=>⟨σ,H1,I1,q1⟩) I.quiet hs
def eF(te:TE):TS:=fun D σ H=>te σ H D.rt
def BJ(he:PE X e te):PS X (.Return (some e) pos) (eF te):=by
 intro pins s σ H D I h;exact wpAny_Return_some (Az (he pins s σ H _ I h) fun v s1 ⟨x,H1,I1,r1,q1⟩=>⟨x,σ,H1,I1,r1,q1⟩)
def er(c:TT)(t u:TS):TS:=fun D σ H=>c σ H fun b H1=>if b=true then t D σ H1 else u D σ H1
def Df{c:Expr}{a b:List Stmt}{tc:TT}(hc:PT X c tc)(ha:Hr X a t)(hb:Hr X b u):PS X (.If c a b pos) (er tc t u):=by
 intro pins s σ H D I h;refine wpAny_If (Az (hc pins s σ H _ I h) fun d s1 ⟨H1,I1,q1⟩=>?_);cases d with
 |true=>exact ha pins s1 σ H1 D I1 q1
 |false=>exact hb pins s1 σ H1 D I1 q1
def ZM:TS:=fun _ _ _=>False
def OJ:PS X st ZM:=fun _ _ _ _ _ _ h=>h.elim
end
abbrev TG:=V→St→Hp→(St→Hp→Prop)→Prop
abbrev O8:=List V→St→Hp→(St→Hp→Prop)→Prop
def PG(X:Cx)(target:Expr)(t:TG):Prop :=
 ∀(pins:List (AD×Obj)) (s:SD) (σ:St) (H:Hp) (v:V) (u:VL) (Q:St→Hp→Prop),Inv X pins σ H s→RelV v u→t v σ H Q →
  wpAny (model X.prog X.w) X.A (assign target X.env u) (fun _ s'=>∃σ' H',Inv X pins σ' H' s'∧Q σ' H') X.xe s
def WH(X:Cx)(ts:List Expr)(t:O8):Prop :=
 ∀(pins:List (AD×Obj)) (s:SD) (σ:St) (H:Hp) (vs:List V) (us:List VL) (Q:St→Hp→Prop),Inv X pins σ H s→Vals vs us→t vs σ H Q →
  wpAny (model X.prog X.w) X.A (assignInOrder ((assignEach ts X.env).map (·.2)) us) (fun _ s'=>∃σ' H',Inv X pins σ' H' s'∧Q σ' H') X.xe s
abbrev Rr:=V→V→V→Hp→(Hp→Prop)→Prop
def ZZ(X:Cx)(t:Rr):Prop :=
 ∀(pins:List (AD×Obj)) (s:SD) (σ:St) (H:Hp) (o i v:V) (ov iv u:VL) (Q:Hp→Prop),Inv X pins σ H s→RelV o ov→RelV i iv→RelV v u→t o i v H Q →
  wpAny (model X.prog X.w) X.A (setItem ov iv u) (fun _ s'=>∃H',Inv X pins σ H' s'∧Q H') X.xe s
section
variable{X:Cx}{pos:Pos}
def Cw(i:Nat):TG:=fun v σ H Q=>Q (σ.set i (some v)) H
def BM{i:Nat}{x:Str}(hN:X.N.Nodup)(hi:X.N[i]? = some x)(hx:Loc X.env.scope x)(hf:X.fn x=true∨X.env.scope.names.lookup x=some .local:=by first|exact .inl rfl|exact .inr rfl|assumption):PG X (.Name x pos) (Cw i):=by
 intro pins s σ H v u Q I r h;exact wpAny_assign_Name (JQ I hN hi hx r (fun s' I'=>⟨_,H,I',h⟩) hf)
def SH:O8:=fun vs σ H Q=>vs=[]∧Q σ H
def Hk(t:TG)(u:O8):O8:=fun vs σ H Q=>∃v r,vs=v::r∧t v σ H fun σ' H'=>u r σ' H' Q
def Ki:WH X [] SH:=by
 intro pins s σ H vs us Q I r h;obtain⟨e,h⟩:=h;subst e;cases r;exact assignInOrder_nil ⟨σ,H,I,h⟩
def C9{e:Expr}{es:List Expr}{t:TG}{u:O8}(h1:PG X e t)(h2:WH X es u)
 (hs:(assignEach (e::es) X.env).map (·.2)=assign e X.env::(assignEach es X.env).map (·.2):=by rfl):WH X (e::es) (Hk t u):=by
 intro pins s σ H vs us Q I r h;obtain⟨v,vr,e1,h⟩:=h;subst e1;cases r with
 |cons r rr =>
  rw[hs];refine assignInOrder_cons (Az (h1 pins s σ H _ _ _ I r h) fun _ s1 ⟨σ1,H1,I1,q1⟩=>?_);exact h2 pins s1 σ1 H1 _ _ Q I1 rr q1
def RZ(K:Fg)(n:Nat)(t:O8):TG:=fun v σ H Q=>∃a xs,v=.ref a∧Au K H a xs∧xs.length=n∧t xs σ H Q
def L9{es:List Expr}{k:Nat}{t:O8}{n:Nat}(hc:X.calm=true)(h:WH X es t)
 (hn:(assignEach es X.env).length=n:=by rfl)(hst:(assignEach es X.env).findIdx? (·.1)=none:=by rfl):PG X (.Tuple es k pos) (RZ X.K n t):=by
 intro pins s σ H v u Q I r hw;obtain⟨a,xs,e1,hq,hl,hw⟩:=hw;subst e1;cases r;obtain⟨its,rv,ht,hz⟩:=I.tuple hq;refine assign_Tuple_tuple (I.ok.hd hc) ht (by simp[hn,←hl,rv.length]) hst fun h' hx=>?_;have I1:Inv X pins σ H {s with heap:=h'}:=I.kept (t':=s.toks) fun b o e=>hx b o (aK (aD e)) e;exact h pins _ σ H xs _ Q I1 (by simpa using rv) hw
def ej(to ti:TE)(t:Rr):TG:=fun v σ H Q=>to σ H fun o H1=>ti σ H1 fun i H2=>t o i v H2 fun H3=>Q σ H3
def Yu{o i:Expr}{to ti:TE}{t:Rr}(ho:PE X o to)(hi:PE X i ti)(hs:ZZ X t)
 (ha:∀v,assign (.Subscript o i pos) X.env v=(do
      let ov ←holding [v] (eval o X.env)
      let iv ←holding [v,ov] (eval i X.env)
      standAt pos
      holding [v,ov,iv] (setItem ov iv v)
      release [v,ov,iv] []):=by intro _;rfl):PG X (.Subscript o i pos) (ej to ti t):=by
  intro pins s σ H v u Q I r h
  rw[ha]
  refine Wb (aU (Az (ho pins s σ H _ I h) fun ov s1 ⟨x,H1,I1,r1,q1⟩=>?_))
  refine Wb (aU (Az (hi pins s1 σ H1 _ I1 q1) fun iv s2 ⟨y,H2,I2,r2,q2⟩=>?_))
  refine Wb (wpAny_standAt (Wb (aU (Az (hs pins s2 σ H2 x y v ov iv u _ I2 r1 r2 r q2) fun _ s3 ⟨H3,I3,q3⟩=>?_))))
  exact wpAny_release ⟨σ,H3,I3,q3⟩
def SS(te:TE)(g:TG):TS:=fun D σ H=>te σ H fun x H1=>g x σ H1 D.nx
def ZU{tg e:Expr}{te:TE}{g:TG}(he:PE X e te)(hg:PG X tg g)(hs:swapsWithSole [tg] e pos.line X.env=pure false:=by rfl)(hw:swappedStores [tg] e X.env=pure none:=by rfl)
 (h1:(assignEach [tg] X.env).map (·.2)=[assign tg X.env]:=by rfl):PS X (.Assign [tg] e pos) (SS te g):=by
 intro pins s σ H D I h;refine wpAny_Assign_stores (Az (he pins s σ H _ I h) fun v s1 ⟨x,H1,I1,r1,q1⟩=>?_) hs hw;rw[h1];exact Az (hg pins s1 σ H1 x v _ I1 r1 q1) fun _ s2 q=>q
def BL{i:Nat}{x:Str}{e:Expr}{te:TE}{pos':Pos}(hN:X.N.Nodup)(hi:X.N[i]? = some x)(hx:Loc X.env.scope x)(he:PE X e te)(hs:swapsWith e (some (.Name x pos')) pos.line X.env=pure false:=by rfl)(hf:X.fn x=true∨X.env.scope.names.lookup x=some .local:=by first|exact .inl rfl|exact .inr rfl|assumption) :
  PS X (.Assign [.Name x pos'] e pos) (SS te (Cw i)):=by
 intro pins s σ H D I h;refine wpAny_Assign_Name (Az (he pins s σ H _ I h) fun v s1 ⟨y,H1,I1,r1,q1⟩=>?_) hs;exact JQ I1 hN hi hx r1 (fun s2 I2=>⟨_,H1,I2,q1⟩) hf
def dy(i j:Nat)(ta:TA):TS:=fun D σ H=>ta σ H fun vs H1=>∃v w,vs=[v,w]∧D.nx ((σ.set i (some v)).set j (some w)) H1
def Z9{i j:Nat}{x y:Str}{a b:Expr}{ta:TA}{px py pt:Pos}{kt k2 pt2}(hc:X.calm=true)(hN:X.N.Nodup)(hi:X.N[i]? = some x)(hj:X.N[j]? = some y)(hij:i≠j)
 (hx:X.env.scope.names.lookup x=some .local)(hy:X.env.scope.names.lookup y=some .local)(ha:PA X [a,b] ta)
 (hw:swappedStores [.Tuple [.Name x px,.Name y py] kt pt] (.Tuple [a,b] k2 pt2) X.env=pure (some [x,y]))
 (hs:swapsWithSole [.Tuple [.Name x px,.Name y py] kt pt] (.Tuple [a,b] k2 pt2) pos.line X.env=pure false:=by rfl) :
  PS X (.Assign [.Tuple [.Name x px,.Name y py] kt pt] (.Tuple [a,b] k2 pt2) pos) (dy i j ta):=by
 intro pins s σ H D I h;rw[exec_Assign_arm];refine Wb (wpAny_standAt ?_);rw[hs];refine Wb (aA ?_);rw[if_neg (by decide)];refine Wb (Tuple_ (Az (ha _ pins s σ H _ I h) fun us s1 ⟨vs,H1,I1,r1,q1⟩=>?_));obtain⟨v,w,e1,q1⟩:=q1;subst e1;obtain⟨u1,u2,rfl,rv,rw'⟩:∃u1 u2,us=[u1,u2]∧RelV v u1∧RelV w u2:=by
  cases r1 with
  |cons p q =>
   cases q with
   |cons p' q' =>
    cases q';exact⟨_,_,rfl,p,p'⟩
 refine ai ?_ (by show 2≤sizeLine;decide);have I2:Inv X pins σ H1 {s1 with heap:=s1.heap.push { cls:=.type "tuple",data:=.seq [u1,u2].toArray} }:=I1.kept (t':=s1.toks) fun b o e=>aC _ e;rw[hw];refine Wb (aA ?_);show wpAny (model X.prog X.w) X.A (do rule "assign.swapped-stores"; let items ←unpackItems (.ref s1.heap.objs.size) 2 none;assignInOrder [fun v=>bindName X.env y v,fun v=>bindName X.env x v] items.reverse;pure Flow.next) _ _ _;refine Wb (bH (Wb (unpackItems_tuple (items:=#[u1,u2]) (I.ok.hd hc) (IsTup.new s1.heap _) fun h' hx'=>?_)));have I3:=I2.kept (h':=h') (t':=s1.toks) fun b o e=>hx' b o (aK (aD e)) e;show wpAny _ _ (assignInOrder [fun v=>bindName X.env y v,fun v=>bindName X.env x v] [u2,u1]>>=fun _=>pure Flow.next) _ _ _;refine Wb (assignInOrder_cons (wpAny_bindName (JQ I3 hN hj (.inl hy) rw' (fun s2 I4=>?_) (.inr hy))));refine assignInOrder_cons (wpAny_bindName (JQ I4 hN hi (.inl hx) rv (fun s3 I5=>assignInOrder_nil (aA ?_)) (.inr hx)));rw[List.set_comm _ _ (Ne.symm hij)]at I5;exact⟨_,H1,I5,q1⟩
end
section
variable{X:Cx}{pos:Pos}
def S4(c:TT)(tb:TS):TS:=fun D σ H=>∃W:Nat→St→Hp→Prop,(∃m,W m σ H)∧∀m σ H,W m σ H →
 c σ H fun b H1=>if b=true then ∃N:St→Hp→Prop,(∀σ' H',N σ' H'→∃m',m'<m∧W m' σ' H')∧tb {D with nx:=N,ct:=N,bk:=D.nx} σ H1 else D.nx σ H1
def Lg{c:Expr}{body:List Stmt}{tc:TT}{tb:TS}(hp:PassesOwn (model X.prog X.w) X.A X.env X.xe)(hc:PT X c tc)(hb:Hr X body tb):PS X (.While c body [] pos) (S4 tc tb):=by
 intro pins s σ H D I h;obtain⟨W,⟨m0,w0⟩,turn⟩:=h;refine wpAny_While (codeAny_whileLoop (fun n s'=>∃σ' H',Inv X pins σ' H' s'∧W n σ' H') ?_ m0 ⟨σ,H,I,w0⟩);rintro n s1 ⟨σ1,H1,I1,w1⟩;refine wpAny_passesOwn hp (Az (hc pins s1 σ1 H1 _ I1 (turn n σ1 H1 w1)) fun b s2 ⟨H2,I2,q2⟩=>?_);cases b with
 |true =>
  obtain⟨N,hN,q2⟩:=q2;rw[if_pos rfl];refine wpAny_passesOwn hp (Az (hb pins s2 σ1 H2 _ I2 q2) fun f s3 q3=>?_);cases f with
  |next =>
   obtain⟨σ3,H3,I3,n3⟩:=q3;obtain⟨m',hm,w3⟩:=hN σ3 H3 n3;exact⟨m',hm,σ3,H3,I3,w3⟩
  |cont =>
   obtain⟨σ3,H3,I3,n3⟩:=q3;obtain⟨m',hm,w3⟩:=hN σ3 H3 n3;exact⟨m',hm,σ3,H3,I3,w3⟩
  |brk=>exact q3
  |ret v=>exact q3
 |false =>
  rw[if_neg aJ];exact wpAny_execs_nil ⟨σ1,H2,I2,q2⟩
end
structure It where
 go:Nat→Hp→Prop
 Dl:Nat→Hp→V→Hp→Prop
 stop:Nat→Hp→Prop
def IH(X:Cx)(pins:List (AD×Obj))(H:Hp)(b:AD):Prop :=
 H b=none∧b≠X.env.locals∧b ∉ X.fs∧(b∈X.ex∨X.s₀.heap.objs.size≤b)∧(∀x c,X.env.cells.lookup x=some c→c≠b)∧∀p∈X.pn++pins,p.1≠b
def Inv.La{X:Cx}{pins:List (AD×Obj)}{σ:St}{H H':Hp}{s:SD}{b:AD}(I:Inv X pins σ H s)(hb:s.heap.objs.size≤b)(hn:H' b=none):IH X pins H' b:=by
 refine⟨hn,Nat.ne_of_gt (aI I.lt hb),I.eT hb,.inr (aM I.sz hb),fun x c e z=>?_,fun p hp z=>?_⟩
 ·obtain⟨v,q⟩:=I.cell x c e;exact absurd (aI q.lt (by rw[z];exact hb)) (Nat.lt_irrefl _)
 ·exact absurd (aI (aD (I.pin p hp).1) (by rw[z];exact hb)) (Nat.lt_irrefl _)
structure Turn(P:Program)(w:World)(K:Fg)(tg:Expr)(J:It)(fp:List Addr)(it:Addr)(tn:Nat→Heap→Prop):Prop where
 mem:it∈fp
 obj:∀i h,tn i h→∀b∈fp,∃o,h.get? b=some o∧∀v,o.data≠.cell v
 keep:∀i h h',tn i h→(∀b∈fp,∀o,h.get? b=some o→h'.get? b=some o)→tn i h'
 item:∀(X:Cx),X.prog=P→X.w=w→X.K=K→X.calm=true→∀(i:Nat) (pins:List (Addr×Obj)) (s:Shared) (σ:St) (H:Hp) (E:Value→Shared→Prop),Inv X pins σ H s→(∀b∈fp,IH X pins H b)→tn i s.heap→J.go i H →
  wpAny (model P w) X.A (pyNext (.ref it)) (fun r s1=>∃u,r=some u ∧
   wpAny (model P w) X.A (letOwnedTupleGo tg (.ref it) u) (fun _ s2=>∃x H',Inv X pins σ H' s2∧RelV x u∧J.Dl i H x H'∧tn (i+1) s2.heap∧∀b∈fp,H' b=none) E s1) E s
 done:∀(X:Cx),X.prog=P→X.w=w→X.K=K→X.calm=true→∀(i:Nat) (pins:List (Addr×Obj)) (s:Shared) (σ:St) (H:Hp) (E:Value→Shared→Prop),Inv X pins σ H s→(∀b∈fp,IH X pins H b)→tn i s.heap→J.stop i H →
  wpAny (model P w) X.A (pyNext (.ref it)) (fun r s1=>r=none∧Inv X pins σ H s1) E s
 self:∀(A:Around) (i:Nat) (s:Shared) (Q:Value→Shared→Prop) (E:Value→Shared→Prop),tn i s.heap→Q (.ref it) s→wpAny (model P w) A (pyIter (.ref it)) Q E s
abbrev TI:=St→Hp→(It→Hp→Prop)→Prop
def dA(X:Cx)(pins:List (AD×Obj))(σ:St)(tg:Expr)(R:It→Hp→Prop)(itv:VL)(s2:SD):Prop :=
 ∃(it:AD) (fp:List AD) (tn:Nat→Heap→Prop) (J:It) (H':Hp),itv=.ref it∧Inv X pins σ H' s2∧Turn X.prog X.w X.K tg J fp it tn∧tn 0 s2.heap∧(∀b∈fp,IH X pins H' b)∧R J H'
def PI(X:Cx)(tg iter:Expr)(wi:TI):Prop :=
 ∀(pins:List (AD×Obj)) (s:SD) (σ:St) (H:Hp) (R:It→Hp→Prop),Inv X pins σ H s→wi σ H R →
  wpAny (model X.prog X.w) X.A (eval iter X.env) (fun v s1=>wpAny (model X.prog X.w) X.A (pyIter v) (dA X pins σ tg R) X.xe s1) X.xe s
def Rq{M:Model}{A:Around}{E:VL→SD→Prop}{s:SD}{tg:Expr}{it:AD}{u:VL}{o:Obj}{n:String}{vs:Array VL}{Q:Unit→SD→Prop}(ho:s.heap.get? it=some o)(hc:o.cls=.type n)(hd:o.data=.fields vs)
 (hn:["enumerate", "zip", "dict_itemiterator", "dict_reverseitemiterator", "odict_iterator", "itertools.zip_longest", "itertools.pairwise"].contains n=false)(hQ:Q () s):wpAny M A (letOwnedTupleGo tg (.ref it) u) Q E s:=by
 unfold letOwnedTupleGo;cases tg<;>first
  |exact aA hQ
  |(cases u<;>first
    |exact aA hQ
    |(refine Wb (wpAny_load ho ?_)
      rw[hc,hd];show wpAny M A (if(["enumerate", "zip", "dict_itemiterator", "dict_reverseitemiterator", "odict_iterator", "itertools.zip_longest", "itertools.pairwise"].contains n&&vs[0]? == some (rawInt _))=true then _ else _) Q E s;rw[if_neg (by intro h;rw[hn,Bool.false_and]at h;cases h)];exact aA hQ))
def RE(K:Fg)(a:AD):It :=
 ⟨fun i H=>∃xs x,Ae K H a xs∧xs[i]? = some x,fun i H x H'=>H'=H∧∀xs,Ae K H a xs→xs[i]? = some x,fun i H=>∃xs,Ae K H a xs∧xs.length≤i⟩
def Qf(K:Fg)(a:AD):It :=
 ⟨fun i H=>∃xs x,Au K H a xs∧xs[i]? = some x,fun i H x H'=>H'=H∧∀xs,Au K H a xs→xs[i]? = some x,fun i H=>∃xs,Au K H a xs∧xs.length≤i⟩
def S8(lo:Int)(n:Nat):It:=⟨fun i _=>i<n,fun i H x H'=>H'=H∧x=.int (lo+i),fun i _=>n≤i⟩
def UJ{P:Program}{w:World}{K:Fg}{tg:Expr}(a it:AD):Turn P w K tg (RE K a) [it] it (fun i h=>h.IsListIter it a i) where
 mem:=by simp
 obj:=fun i h st b hb=>by
  have e:b=it:=by simpa using hb
  subst e;obtain⟨o,e,c,d⟩:=st;exact⟨o,e,fun v z=>by rw[d]at z;cases z⟩
 keep:=fun i h h' st k=>st.at fun o e=>k it (by simp) o e
 item:=by
  intro X hP hw hK hc i pins s σ H E I hf st hg;subst hP hw hK;obtain⟨xs,x,hq,hx⟩:=hg;obtain⟨its,rv,p,hz⟩:=I.list hq;obtain⟨u,hu,ru⟩:=rv.get hx;obtain⟨f0,f1,f2,f3,f4,f5⟩:=hf it (by simp);refine wpAny_pyNext_list_item st p.isList (x:=u) (by simpa using hu) fun h' st' sb=>?_;have I1:Inv X pins σ H {s with heap:=h'}:=I.turned (t':=s.toks) (fun b o hb e=>(sb.2 b hb).trans e) f0 f1 f3 f4 f5;obtain⟨o,e,c,d⟩:=id st';exact⟨u,rfl,Rq (s:={s with heap:=h'}) e c d (by decide) ⟨x,H,I1,ru,⟨rfl,fun ys hy=>by rw[I.Oy hy hq];exact hx⟩,st',fun b hb=>(hf b hb).1⟩⟩
 done:=by
  intro X hP hw hK hc i pins s σ H E I hf st hg;subst hP hw hK;obtain⟨xs,hq,hx⟩:=hg;obtain⟨its,rv,p,hz⟩:=I.list hq;obtain⟨f0,f1,f2,f3,f4,f5⟩:=hf it (by simp);have hl:=rv.length;exact wpAny_pyNext_list_end (I.ok.hd hc) st p.isList (by simp;lia) fun h' eb=>⟨rfl,I.turned (t':=s.toks) (fun b o hb e=>eb b o hb e) f0 f1 f3 f4 f5⟩
 self:=fun _ _ _ _ _ st h=>wpAny_pyIter_listiter st h
def Rp{P:Program}{w:World}{K:Fg}{tg:Expr}(a it:AD):Turn P w K tg (Qf K a) [it] it (fun i h=>h.IsTupleIter it a i) where
 mem:=by simp
 obj:=fun i h st b hb=>by
  have e:b=it:=by simpa using hb
  subst e;obtain⟨o,e,c,d⟩:=st;exact⟨o,e,fun v z=>by rw[d]at z;cases z⟩
 keep:=fun i h h' st k=>st.at fun o e=>k it (by simp) o e
 item:=by
  intro X hP hw hK hc i pins s σ H E I hf st hg;subst hP hw hK;obtain⟨xs,x,hq,hx⟩:=hg;obtain⟨its,rv,p,hz⟩:=I.tuple hq;obtain⟨u,hu,ru⟩:=rv.get hx;obtain⟨f0,f1,f2,f3,f4,f5⟩:=hf it (by simp);refine wpAny_pyNext_tuple_item st (show s.heap.IsTuple a its.toArray from p) (x:=u) (by simpa using hu) fun h' st' sb=>?_;have I1:Inv X pins σ H {s with heap:=h'}:=I.turned (t':=s.toks) (fun b o hb e=>(sb.2 b hb).trans e) f0 f1 f3 f4 f5;obtain⟨o,e,c,d⟩:=id st';exact⟨u,rfl,Rq (s:={s with heap:=h'}) e c d (by decide) ⟨x,H,I1,ru,⟨rfl,fun ys hy=>by rw[I.NV hy hq];exact hx⟩,st',fun b hb=>(hf b hb).1⟩⟩
 done:=by
  intro X hP hw hK hc i pins s σ H E I hf st hg;subst hP hw hK;obtain⟨xs,hq,hx⟩:=hg;obtain⟨its,rv,p,hz⟩:=I.tuple hq;obtain⟨f0,f1,f2,f3,f4,f5⟩:=hf it (by simp);have hl:=rv.length;exact wpAny_pyNext_tuple_end (I.ok.hd hc) st (show s.heap.IsTuple a its.toArray from p) (by simp;lia) fun h' eb=>⟨rfl,I.turned (t':=s.toks) (fun b o hb e=>eb b o hb e) f0 f1 f3 f4 f5⟩
 self:=fun _ _ _ _ _ st h=>wpAny_pyIter_tupleiter st h
def Sd{P:Program}{w:World}{K:Fg}{tg:Expr}(it:AD)(lo:Int)(n:Nat):Turn P w K tg (S8 lo n) [it] it (fun i h=>IsRangeIter h it (lo+(i:Nat)*1) ((n:Int)-(i:Nat)) 1) where
 mem:=by simp
 obj:=fun i h st b hb=>by
  have e:b=it:=by simpa using hb
  subst e;exact⟨_,st,fun v z=>by
   have z':Data.fields _=Data.cell v:=z;cases z'⟩
 keep:=fun i h h' st k=>k it (by simp) _ st
 item:=by
  intro X hP hw hK hc i pins s σ H E I hf st hg;subst hP hw hK;obtain⟨f0,f1,f2,f3,f4,f5⟩:=hf it (by simp);have W:=Walks.range (prog:=X.prog) (w:=X.w) (I.ok.hd hc) it lo 1 n;refine W.item i s _ _ hg st fun v h' tk hv st' kk=>?_;obtain⟨t,rfl⟩:=hv;have I1:Inv X pins σ H {s with heap:=h',toks:=tk}:=I.turned (fun b o hb e=>kk b o (by simpa using hb) e) f0 f1 f3 f4 f5;refine⟨_,rfl,Rq (s:={s with heap:=h',toks:=tk}) (n := "range_iterator") st' rfl rfl (by decide) ⟨.int (lo+i),H,I1,⟨t,?_⟩,⟨rfl,rfl⟩,st',fun b hb=>(hf b hb).1⟩⟩;rw[Int.mul_one]
 done:=by
  intro X hP hw hK hc i pins s σ H E I hf st hg;subst hP hw hK;obtain⟨f0,f1,f2,f3,f4,f5⟩:=hf it (by simp);exact wpAny_pyNext_range_end (I.ok.hd hc) st (by have:n≤i:=hg;lia) fun h' eb=>⟨rfl,I.turned (t':=s.toks) (fun b o hb e=>eb b o hb e) f0 f1 f3 f4 f5⟩
 self:=fun _ _ _ _ _ st h=>wpAny_pyIter_rangeiter st h
section
variable{X:Cx}{tg:Expr}
def b7(K:Fg)(tl:TE):TI:=fun σ H R=>tl σ H fun x H1=>∃a,x=.ref a∧(∃xs,Ae K H1 a xs)∧R (RE K a) H1
def eC(K:Fg)(tl:TE):TI:=fun σ H R=>tl σ H fun x H1=>∃a,x=.ref a∧(∃xs,Au K H1 a xs)∧R (Qf K a) H1
def DV{l:Expr}{tl:TE}(hl:PE X l tl):PI X tg l (b7 X.K tl):=by
 intro pins s σ H R I h;refine Az (hl pins s σ H _ I h) fun v s1 ⟨x,H1,I1,r1,q1⟩=>?_;obtain⟨a,e,⟨xs,hq⟩,q⟩:=q1;subst e;cases r1;obtain⟨its,rv,p,hz⟩:=I1.list hq;refine wpAny_pyIter_list p.isList ?_;refine⟨s1.heap.objs.size,[s1.heap.objs.size],_,_,H1,rfl,I1.kept (t':=s1.toks) fun b o e=>aC _ e,UJ a _,⟨_,Heap.get?_push_size _ rfl,rfl,rfl⟩,fun b hb=>?_,q⟩;have e:b=s1.heap.objs.size:=by simpa using hb
 subst e;exact I1.La (aG _) (I1.Af.fresh (aG _))
def Pe{l:Expr}{tl:TE}(hl:PE X l tl):PI X tg l (eC X.K tl):=by
 intro pins s σ H R I h;refine Az (hl pins s σ H _ I h) fun v s1 ⟨x,H1,I1,r1,q1⟩=>?_;obtain⟨a,e,⟨xs,hq⟩,q⟩:=q1;subst e;cases r1;obtain⟨its,rv,p,hz⟩:=I1.tuple hq;refine wpAny_pyIter_tuple (show s1.heap.IsTuple a its.toArray from p) ?_;refine⟨s1.heap.objs.size,[s1.heap.objs.size],_,_,H1,rfl,I1.kept (t':=s1.toks) fun b o e=>aC _ e,Rp a _,⟨_,Heap.get?_push_size _ rfl,rfl,rfl⟩,fun b hb=>?_,q⟩;have e:b=s1.heap.objs.size:=by simpa using hb
 subst e;exact I1.La (aG _) (I1.Af.fresh (aG _))
def Pg{pins:List (AD×Obj)}{σ:St}{H:Hp}{s:SD}{R:It→Hp→Prop}{E:VL→SD→Prop}{lo hi:Int}{t u v:Tok}{tk:Nat}(I:Inv X pins σ H s)(h1:-(2^62)≤lo)(h2:lo<2^62)(h3:-(2^62)≤hi)(h4:hi<2^62)
 (q:R (S8 lo (hi-lo).toNat) H):wpAny (model X.prog X.w) X.A (pyIter (.ref s.heap.objs.size)) (dA X pins σ tg R) E {s with heap:=s.heap.push { cls:=.type "range",data:=.fields #[.int lo t,.int hi u,.int 1 v]},toks:=tk}:=by
 refine wpAny_pyIter_range (IsRange.new ..) (small_one h1 h2 h3 h4) ?_;have I1:Inv X pins σ H {s with heap:=s.heap.push { cls:=.type "range",data:=.fields #[.int lo t,.int hi u,.int 1 v]},toks:=tk}:=I.kept fun b o e=>aC _ e;refine⟨(s.heap.push { cls:=.type "range",data:=.fields #[.int lo t,.int hi u,.int 1 v]}).objs.size,[(s.heap.push { cls:=.type "range",data:=.fields #[.int lo t,.int hi u,.int 1 v]}).objs.size],_,_,H,rfl,
  I1.kept (t':=tk) fun b o e=>aC _ e,Sd _ lo (hi-lo).toNat,?_,fun b hb=>?_,q⟩
 ·have e1:lo+((0:Nat):Int)*1=lo:=by simp
  have e2:(((hi-lo).toNat:Nat):Int)-((0:Nat):Int)=Builtin.Range.rangeSize lo hi 1:=by rw[rangeSize_one];split<;>lia
  show IsRangeIter _ _ (lo+((0:Nat):Int)*1) ((((hi-lo).toNat:Nat):Int)-((0:Nat):Int)) 1;rw[e1,e2];exact aH _ rfl
 ·have e:b=(s.heap.push { cls:=.type "range",data:=.fields #[.int lo t,.int hi u,.int 1 v]}).objs.size:=by simpa using hb
  subst e;exact I1.La (aG _) (I1.Af.fresh (aG _))
def cZ(ta:TA):TI:=fun σ H R=>ta σ H fun vs H1=>∃j:Int,vs=[.int j]∧-(2^62)≤j∧j<2^62∧R (S8 0 j.toNat) H1
def cx(ta:TA):TI:=fun σ H R=>ta σ H fun vs H1=>∃i j:Int,vs=[.int i,.int j]∧(-(2^62)≤i∧i<2^62∧-(2^62)≤j∧j<2^62)∧R (S8 i (j-i).toNat) H1
def TJ{a:Expr}{ta:TA}{p pos:Pos}(hg:Gl X "range")(hm:X.mg "range" = none)(ha:PA X [a] ta)(hs:starEach [a] X.env=[(false,eval a X.env)]:=by rfl):PI X tg (.Call (.Name "range" p) [a] [] pos) (cZ ta):=by
 intro pins s σ H R I h;refine Call_ (Ec I hg hm boot_range (aq (Az (ha pos pins s σ H _ I h) fun us s1 ⟨vs,H1,I1,r1,q1⟩=>?_) hs rfl));obtain⟨j,e,q1,q2,q⟩:=q1;subst e;cases r1 with
 |cons r rr =>
  cases rr;obtain⟨t,rfl⟩:=r;exact call_range_1 (Pg I1 (by lia) (by lia) q1 q2 (by simpa using q))
def T2{a b:Expr}{ta:TA}{p pos:Pos}(hg:Gl X "range")(hm:X.mg "range" = none)(ha:PA X [a,b] ta)(hs:starEach [a,b] X.env=[(false,eval a X.env),(false,eval b X.env)]:=by rfl)(hs2:starEach [b] X.env=[(false,eval b X.env)]:=by rfl) :
  PI X tg (.Call (.Name "range" p) [a,b] [] pos) (cx ta):=by
 intro pins s σ H R I h;refine Call_ (Ec I hg hm boot_range (aq (Az (ha pos pins s σ H _ I h) fun us s1 ⟨vs,H1,I1,r1,q1⟩=>?_) (by rw[hs,hs2]) (by rw[hs2];rfl)));obtain⟨i,j,e,⟨q1,q2,q3,q4⟩,q⟩:=q1;subst e;cases r1 with
 |cons r rr =>
  cases rr with
  |cons r' rr =>
   cases rr;obtain⟨t,rfl⟩:=r;obtain⟨t',rfl⟩:=r';exact call_range_2 (Pg I1 q1 q2 q3 q4 q)
def eA(wi:TI)(g:TG)(tb:TS):TS:=fun D σ H=>wi σ H fun J H1=>∃W:Nat→Nat→St→Hp→Prop,(∃m,W 0 m σ H1)∧∀i m σ H,W i m σ H →
 (J.stop i H∧D.nx σ H)∨(J.go i H∧∃N:St→Hp→Prop,(∀σ' H',N σ' H'→∃m',m'<m∧W (i+1) m' σ' H')∧∀x H',J.Dl i H x H'→g x σ H' fun σ2 H2=>tb {D with nx:=N,ct:=N,bk:=D.nx} σ2 H2)
def Ka(fp:List AD)(h:Heap):List (AD×Obj):=fp.filterMap fun b=>(h.get? b).map fun o=>(b,o)
def Gb{fp:List AD}{h:Heap}{b:AD}{o:Obj}(hb:b∈fp)(e:h.get? b=some o):(b,o)∈Ka fp h:=List.mem_filterMap.mpr ⟨b,hb,by rw[e];rfl⟩
def TC{fp:List AD}{h:Heap}{p:AD×Obj}(hp:p∈Ka fp h):p.1∈fp∧h.get? p.1=some p.2:=by
 obtain⟨b,hb,e⟩:=List.mem_filterMap.mp hp;cases q:h.get? b with
 |none=>rw[q]at e;cases e
 |some o =>
  rw[q]at e;have e':(b,o)=p:=ab e;subst e';exact⟨hb,q⟩
def Inv.pinned{pins:List (AD×Obj)}{σ:St}{H:Hp}{s:SD}{fp:List AD}(I:Inv X pins σ H s)(hf:∀b∈fp,IH X pins H b)(ho:∀b∈fp,∃o,s.heap.get? b=some o∧∀v,o.data≠.cell v):Inv X (pins++Ka fp s.heap) σ H s :=
 I.Qt fun p hp=>(bR.mp hp).elim (fun z=>I.pin p (aR _ z)) fun z=>by
  obtain⟨hb,e⟩:=TC z;obtain⟨f0,f1,f2,_⟩:=hf p.1 hb;obtain⟨o,e',d⟩:=ho p.1 hb;rw[e]at e';cases e';exact⟨e,f0,f1,f2,d⟩
def Inv.JC{pins pl:List (AD×Obj)}{σ:St}{H:Hp}{s:SD}(I:Inv X (pins++pl) σ H s):Inv X pins σ H s:=I.Qt fun p hp=>I.pin p (aR _ (List.mem_append_left _ hp))
def Gu{iter:Expr}{body:List Stmt}{wi:TI}{g:TG}{tb:TS}{pos:Pos}(hp:PassesOwn (model X.prog X.w) X.A X.env X.xe)(hc:X.calm=true)(hi:PI X tg iter wi)(hg:PG X tg g)(hb:Hr X body tb)
 (hs:∀x,foldedSetIterable iter X.env x=pure x:=by intro _;rfl):PS X (.For tg iter body [] pos) (eA wi g tb):=by
 intro pins s σ H D I h;refine wpAny_For (Az (hi pins s σ H _ I h) fun v s1 h1=>Az h1 fun itv s2 h2=>?_) hs;obtain⟨it,fp,tn,J,H2,e,I2,T,st2,f2,W,⟨m0,w0⟩,turn⟩:=h2;subst e;have stat:∀ {H':Hp},(∀b∈fp,H' b=none)→∀b∈fp,IH X pins H' b:=fun hn b hb=>⟨hn b hb,(f2 b hb).2⟩;refine codeAny_forLoop_any (fun n s'=>∃i σ' H',Inv X pins σ' H' s'∧tn i s'.heap∧(∀b∈fp,H' b=none)∧W i n σ' H') ?_ m0 ⟨0,σ,H2,I2,st2,fun b hb=>(f2 b hb).1,w0⟩;rintro n s3 ⟨i,σ3,H3,I3,st3,fr3,w3⟩;rcases turn i n σ3 H3 w3 with ⟨stop,qn⟩|⟨go,N,hN,step⟩
 ·refine wpAny_passesOwn hp (Az (T.done X rfl rfl rfl hc i pins s3 σ3 H3 X.xe I3 (stat fr3) st3 stop) fun r s4 ⟨hr,I4⟩=>?_);subst hr;exact wpAny_execs_nil ⟨σ3,H3,I4,qn⟩
 ·refine wpAny_passesOwn hp (Az (T.item X rfl rfl rfl hc i pins s3 σ3 H3 X.xe I3 (stat fr3) st3 go) fun r s4 ⟨u,hr,h4⟩=>?_);subst hr;refine wpAny_passesOwn hp (Az h4 fun _ s5 ⟨x,H5,I5,r5,y5,st5,fr5⟩=>?_);have I5':=I5.pinned (stat fr5) (T.obj _ _ st5);refine wpAny_passesOwn hp (Az (hg _ s5 σ3 H5 x u _ I5' r5 (step x H5 y5)) fun _ s6 ⟨σ6,H6,I6,q6⟩=>?_);refine wpAny_passesOwn hp (Az (hb _ s6 σ6 H6 _ I6 q6) fun f s7 q7=>?_);have again:∀ {σ7:St} {H7:Hp},Inv X (pins++Ka fp s5.heap) σ7 H7 s7→N σ7 H7→∃m,m<n∧∃i σ' H',Inv X pins σ' H' s7∧tn i s7.heap∧(∀b∈fp,H' b=none)∧W i m σ' H':=fun {σ7 H7} I7 n7=>by
   obtain⟨m',hm,w7⟩:=hN σ7 H7 n7;refine⟨m',hm,i+1,σ7,H7,I7.JC,T.keep _ _ _ st5 fun b hb o e=>(I7.pin (b,o) (aR _ (aR _ (Gb hb e)))).1,fun b hb=>?_,w7⟩;obtain⟨o,e,d⟩:=T.obj _ _ st5 b hb;exact(I7.pin (b,o) (aR _ (aR _ (Gb hb e)))).2.1
  cases f with
  |next=>obtain⟨σ7,H7,I7,n7⟩:=q7;exact again I7 n7
  |cont=>obtain⟨σ7,H7,I7,n7⟩:=q7;exact again I7 n7
  |brk=>obtain⟨σ7,H7,I7,q7⟩:=q7;exact⟨σ7,H7,I7.JC,q7⟩
  |ret v=>obtain⟨x7,σ7,H7,I7,r7,q7⟩:=q7;exact⟨x7,σ7,H7,I7.JC,r7,q7⟩
end
def JU{K:Fg}{a:AD}{xs:List V}{g:TG}{tb:TS}{D:Ends}{σ:St}{H:Hp}(Pv:Nat→St→Hp→Prop)(h0:Pv 0 σ H)(hl:∀i σ H,i≤xs.length→Pv i σ H→Ae K H a xs)
 (hs:∀i x σ H,xs[i]? = some x→Pv i σ H→g x σ H fun σ2 H2=>tb {D with nx:=Pv (i+1),ct:=Pv (i+1),bk:=D.nx} σ2 H2)(hd:∀σ H,Pv xs.length σ H→D.nx σ H) :
  ∃W:Nat→Nat→St→Hp→Prop,(∃m,W 0 m σ H)∧∀i m σ H,W i m σ H →
   ((RE K a).stop i H∧D.nx σ H)∨((RE K a).go i H∧∃N:St→Hp→Prop,(∀σ' H',N σ' H'→∃m',m'<m∧W (i+1) m' σ' H')∧∀x H',(RE K a).Dl i H x H'→g x σ H' fun σ2 H2=>tb {D with nx:=N,ct:=N,bk:=D.nx} σ2 H2):=by
 refine⟨fun i m σ H=>m=xs.length-i∧i≤xs.length∧Pv i σ H,⟨xs.length,by simp,Nat.zero_le _,h0⟩,?_⟩;rintro i m σ H ⟨rfl,hi,p⟩;have q:=hl i σ H hi p;by_cases hlt:i<xs.length
 ·refine .inr ⟨⟨xs,xs[i],q,by simp[hlt]⟩,Pv (i+1),fun σ' H' p'=>⟨xs.length-(i+1),by lia,rfl,hlt,p'⟩,fun x H' y=>?_⟩;obtain⟨e,y⟩:=y;subst e;exact hs i x σ _ (y xs q) p
 ·have e:i=xs.length:=by lia
  subst e;exact .inl ⟨⟨xs,q,Nat.le_refl _⟩,hd σ H p⟩
def Xl{K:Fg}{a:AD}{xs:List V}{g:TG}{tb:TS}{D:Ends}{σ:St}{H:Hp}(Pv:Nat→St→Hp→Prop)(h0:Pv 0 σ H)(hl:∀i σ H,i≤xs.length→Pv i σ H→Au K H a xs)
 (hs:∀i x σ H,xs[i]? = some x→Pv i σ H→g x σ H fun σ2 H2=>tb {D with nx:=Pv (i+1),ct:=Pv (i+1),bk:=D.nx} σ2 H2)(hd:∀σ H,Pv xs.length σ H→D.nx σ H) :
  ∃W:Nat→Nat→St→Hp→Prop,(∃m,W 0 m σ H)∧∀i m σ H,W i m σ H →
   ((Qf K a).stop i H∧D.nx σ H)∨((Qf K a).go i H∧∃N:St→Hp→Prop,(∀σ' H',N σ' H'→∃m',m'<m∧W (i+1) m' σ' H')∧∀x H',(Qf K a).Dl i H x H'→g x σ H' fun σ2 H2=>tb {D with nx:=N,ct:=N,bk:=D.nx} σ2 H2):=by
 refine⟨fun i m σ H=>m=xs.length-i∧i≤xs.length∧Pv i σ H,⟨xs.length,by simp,Nat.zero_le _,h0⟩,?_⟩;rintro i m σ H ⟨rfl,hi,p⟩;have q:=hl i σ H hi p;by_cases hlt:i<xs.length
 ·refine .inr ⟨⟨xs,xs[i],q,by simp[hlt]⟩,Pv (i+1),fun σ' H' p'=>⟨xs.length-(i+1),by lia,rfl,hlt,p'⟩,fun x H' y=>?_⟩;obtain⟨e,y⟩:=y;subst e;exact hs i x σ _ (y xs q) p
 ·have e:i=xs.length:=by lia
  subst e;exact .inl ⟨⟨xs,q,Nat.le_refl _⟩,hd σ H p⟩
def Lh{c:TT}{tb:TS}{D:Ends}{σ:St}{H:Hp}(Pv:St→Hp→Prop)(μ:St→Hp→Nat)(h0:Pv σ H)
 (hs:∀σ H,Pv σ H→c σ H fun b H1=>if b=true then tb {D with nx:=fun σ' H'=>Pv σ' H'∧μ σ' H'<μ σ H,ct:=fun σ' H'=>Pv σ' H'∧μ σ' H'<μ σ H,bk:=D.nx} σ H1 else D.nx σ H1)
 (mono:∀σ H Q Q',(∀b H1,Q b H1→Q' b H1)→c σ H Q→c σ H Q'):S4 c tb D σ H:=by
 refine⟨fun m σ H=>m=μ σ H∧Pv σ H,⟨_,rfl,h0⟩,?_⟩;rintro m σ H ⟨rfl,p⟩;refine mono σ H _ _ (fun b H1 q=>?_) (hs σ H p);cases b with
 |true=>exact⟨_,fun σ' H' ⟨p',l⟩=>⟨_,l,rfl,p'⟩,q⟩
 |false=>exact q
abbrev R2:=V→V→Hp→VK→Prop
def Bv(X:Cx)(f:VL→VL→Sem VL)(r:R2):Prop :=
 ∀(pins:List (AD×Obj)) (s:SD) (σ:St) (H:Hp) (x y:V) (v u:VL) (Q:VK),Inv X pins σ H s→RelV x v→RelV y u→r x y H Q →
  wpAny (model X.prog X.w) X.A (f v u) (EP X pins σ Q) X.xe s
def Zi(X:Cx)(f:VL→Sem VL)(r:V→Hp→VK→Prop):Prop :=
 ∀(pins:List (AD×Obj)) (s:SD) (σ:St) (H:Hp) (x:V) (v:VL) (Q:VK),Inv X pins σ H s→RelV x v→r x H Q →
  wpAny (model X.prog X.w) X.A (f v) (EP X pins σ Q) X.xe s
def Cv(X:Cx)(f:VL)(r:List V→Hp→VK→Prop):Prop :=
 ∀(pins:List (AD×Obj)) (s:SD) (σ:St) (H:Hp) (xs:List V) (us:List VL) (Q:VK),Inv X pins σ H s→Vals xs us→r xs H Q →
  wpAny (model X.prog X.w) X.A (call f us) (EP X pins σ Q) X.xe s
def Sm(r:R2)(ta tb:TE):TE:=fun σ H Q=>ta σ H fun x H1=>tb σ H1 fun y H2=>r x y H2 Q
def fJ(r:V→Hp→VK→Prop)(ta:TE):TE:=fun σ H Q=>ta σ H fun x H1=>r x H1 Q
def rI(C:Int→Int→Prop)(g:Int→Int→V):R2:=fun x y H Q=>∃i j,x=.int i∧y=.int j∧C i j∧Q (g i j) H
def Nf(g:Int→Int→V):R2:=fun x y H Q=>∃i j,x=.int i∧y=.int j∧Q (g i j) H
def rU(g:Int→V):V→Hp→VK→Prop:=fun x H Q=>∃i,x=.int i∧Q (g i) H
section
variable{X:Cx}{a b:Expr}{ta tb:TE}{pos:Pos}
def Vq(ha:PE X a ta)(hb:PE X b tb){pins:List (AD×Obj)}{s:SD}{σ:St}{H:Hp}{R:V→V→Hp→Prop}(I:Inv X pins σ H s)
 (h:ta σ H fun x H1=>tb σ H1 fun y H2=>R x y H2){Q:VL→SD→Prop}{f:VL→VL→Sem VL}
 (hf:∀v u s2 x y H2,Inv X pins σ H2 s2→RelV x v→RelV y u→R x y H2→wpAny (model X.prog X.w) X.A (f v u) Q X.xe s2) :
  wpAny (model X.prog X.w) X.A (eval a X.env) (fun v s₁=>wpAny (model X.prog X.w) X.A (eval b X.env) (fun u s₂=>wpAny (model X.prog X.w) X.A (f v u) Q X.xe s₂) X.xe s₁) X.xe s:=by
 refine Az (ha pins s σ H _ I h) fun v s1 ⟨x,H1,I1,r1,q1⟩=>?_;refine Az (hb pins s1 σ H1 _ I1 q1) fun u s2 ⟨y,H2,I2,r2,q2⟩=>?_;exact hf v u s2 x y H2 I2 r1 r2 q2
def B0{op:Operator}{r:R2}(ho:Bv X (binaryOp op) r)(ha:PE X a ta)(hb:PE X b tb):PE X (.BinOp a op b pos) (Sm r ta tb):=by
 intro pins s σ H Q I h;exact wpAny_BinOp (Vq ha hb I h fun v u s2 x y H2 I2 rx ry q=>ho pins s2 σ H2 x y v u Q I2 rx ry q)
def WS{op:UnaryOp}{r:V→Hp→VK→Prop}(ho:Zi X (unaryOp op) r)(ha:PE X a ta):PE X (.UnaryOp op a pos) (fJ r ta):=by
 intro pins s σ H Q I h;exact UnaryOp_ (Az (ha pins s σ H _ I h) fun v s1 ⟨x,H1,I1,r1,q1⟩=>ho pins s1 σ H1 x v Q I1 r1 q1)
def Qp{f:VL→VL→Sem VL}{C:Int→Int→Prop}{g:Int→Int→Int}
 (rule:∀(i j:Int) (t u:Tok) (s:SD) (Q:VL→SD→Prop) (E:VL→SD→Prop),C i j→Q (.int (g i j) s.toks) {s with toks:=s.toks+1}→wpAny (model X.prog X.w) X.A (f (.int i t) (.int j u)) Q E s) :
  Bv X f (rI C fun i j=>.int (g i j)):=by
 intro pins s σ H x y v u Q I rx ry h;obtain⟨i,j,rfl,rfl,hc,q⟩:=h;obtain⟨t,rfl⟩:=rx;obtain⟨t',rfl⟩:=ry;exact rule i j t t' s _ _ hc ⟨.int (g i j),H,I.tok _,⟨_,rfl⟩,q⟩
def ZN{f:VL→VL→Sem VL}{g:Int→Int→Int}
 (rule:∀(i j:Int) (t u:Tok) (s:SD) (Q:VL→SD→Prop) (E:VL→SD→Prop),Q (.int (g i j) s.toks) {s with toks:=s.toks+1}→wpAny (model X.prog X.w) X.A (f (.int i t) (.int j u)) Q E s) :
  Bv X f (Nf fun i j=>.int (g i j)):=by
 intro pins s σ H x y v u Q I rx ry h;obtain⟨i,j,rfl,rfl,q⟩:=h;obtain⟨t,rfl⟩:=rx;obtain⟨t',rfl⟩:=ry;exact rule i j t t' s _ _ ⟨.int (g i j),H,I.tok _,⟨_,rfl⟩,q⟩
def Vi{f:VL→VL→Sem VL}{g:Int→Int→Bool}
 (rule:∀(i j:Int) (t u:Tok) (s:SD) (Q:VL→SD→Prop) (E:VL→SD→Prop),Q (.bool (g i j)) s→wpAny (model X.prog X.w) X.A (f (.int i t) (.int j u)) Q E s) :
  Bv X f (Nf fun i j=>.bl (g i j)):=by
 intro pins s σ H x y v u Q I rx ry h;obtain⟨i,j,rfl,rfl,q⟩:=h;obtain⟨t,rfl⟩:=rx;obtain⟨t',rfl⟩:=ry;exact rule i j t t' s _ _ ⟨.bl (g i j),H,I,rfl,q⟩
def d7(i j:Int):Prop:=0<j∧j<1073741824
def eu(i j:Int):Prop:=0≤j∧j≤1000000∧i.natAbs<2^64
def Pl(i j:Int):Prop:=(-(2^64)<i∧i<2^64)∨(-(2^64)<j∧j<2^64)
def Pl.ok{i j:Int}(h:Pl i j):IntMulOk i j:=by
 rcases h with ⟨h1,h2⟩|⟨h1,h2⟩
 ·exact .of_left (intBits_le_64 h1 h2)
 ·exact .of_right (intBits_le_64 h1 h2)
def T4:Bv X (binaryOp .Add) (Nf fun i j=>.int (i+j)):=ZN fun _ _ _ _ _ _ _ q=>add_int q
def TV:Bv X (binaryOp .Sub) (Nf fun i j=>.int (i-j)):=ZN fun _ _ _ _ _ _ _ q=>sub_int q
def XQ:Bv X (binaryOp .FloorDiv) (rI d7 fun i j=>.int (i / j)):=Qp fun i j _ _ _ _ _ hc q=>by
 have h1:(0:Int)<j:=hc.1;have h2:j<1073741824:=hc.2;exact floordiv_int (by lia) (by rw[Int.fdiv_eq_ediv_of_nonneg i (by lia)];exact q) (.inl (PyProof.noPylong_small (by lia)))
def bf:Bv X (binaryOp .Mod) (rI (fun _ j=>0<j) fun i j=>.int (i % j)):=Qp fun i j _ _ _ _ _ hc q=>by
 have h1:(0:Int)<j:=hc;exact mod_int' (by lia) (by rw[Int.fmod_eq_emod_of_nonneg i (by lia)];exact q)
def Mk:Bv X (binaryOp .Mod) (rI (fun _ j=>j≠0) fun i j=>.int (i.fmod j)):=Qp fun _ _ _ _ _ _ _ hc q=>mod_int' hc q
def a7:Bv X (binaryOp .Pow) (rI eu fun i j=>.int (i^j.toNat)):=Qp fun _ _ _ _ _ _ _ hc q=>pow_int_small hc.1 hc.2.1 hc.2.2 q
def fF{f:VL→Sem VL}{g:Int→Int}
 (rule:∀(i:Int) (t:Tok) (s:SD) (Q:VL→SD→Prop) (E:VL→SD→Prop),Q (.int (g i) s.toks) {s with toks:=s.toks+1}→wpAny (model X.prog X.w) X.A (f (.int i t)) Q E s) :
  Zi X f (rU fun i=>.int (g i)):=by
 intro pins s σ H x v Q I rx h;obtain⟨i,rfl,q⟩:=h;obtain⟨t,rfl⟩:=rx;exact rule i t s _ _ ⟨.int (g i),H,I.tok _,⟨_,rfl⟩,q⟩
def TB:Zi X (unaryOp .USub) (rU fun i=>.int (-i)):=fF fun _ _ _ _ _ q=>neg_int q
end
def X8:V→V→Bool
 |.BI,.BI=>true|.BI,.int _=>true|.int _,.BI=>true|.BI,.bl _=>true|.bl _,.BI=>true|.BI,.str _=>true|.str _,.BI=>true
 |.int _,.int _=>true|.bl _,.bl _=>true|.str _,.str _=>true|.KI _,.KI _=>true
 |.int _,.str _=>true|.str _,.int _=>true|.bl _,.str _=>true|.str _,.bl _=>true
 |_,_=>false
def fG:R2:=fun x y H Q=>X8 x y=true∧Q (.bl (decide (x=y))) H
def fQ:R2:=fun x y H Q=>X8 x y=true∧Q (.bl (!decide (x=y))) H
def Qy{i j:Int}:decide (V.int i=V.int j)=(i==j):=by
 rw[Bool.eq_iff_iff];simp
def UN{i j:Bool}:decide (V.bl i=V.bl j)=(i==j):=by
 rw[Bool.eq_iff_iff];simp
def RA{i j:Str}:decide (V.str i=V.str j)=(i==j):=by
 rw[Bool.eq_iff_iff];simp
def Qr{i j:Array UInt8}:decide (V.KI i=V.KI j)=(i.toList==j.toList):=by
 rw[Bool.eq_iff_iff];cases i;cases j;simp
section
variable{X:Cx}{a b c:Expr}{ta tb:TE}{pos:Pos}
def A6{pins:List (AD×Obj)}{σ:St}{H:Hp}{s:SD}{Q:VK}{k k':Bool}(I:Inv X pins σ H s)(q:Q (.bl k) H)(e:k=k'):EP X pins σ Q (.bool k') s:=by
 subst e;exact⟨.bl k,H,I,rfl,q⟩
def OH:Bv X (compareOp .Eq) fG:=by
 intro pins s σ H x y v u Q I rx ry h;obtain⟨hs,q⟩:=h;cases x with
 |BI =>
  cases rx;cases y with
  |BI=>cases ry;exact PySem.EqNone.eq_none_none (A6 I q (by simp))
  |bl j=>cases ry;exact PySem.EqNone.eq_none_bool (A6 I q (by simp))
  |int j=>obtain⟨t',rfl⟩:=ry;exact PySem.EqNone.eq_none_int (A6 I q (by simp))
  |str j=>obtain⟨t',rfl⟩:=ry;exact PySem.EqNone.eq_none_str (A6 I q (by simp))
  |_=>exact absurd (show false=true from hs) aJ
 |bl i =>
  cases rx;cases y with
  |BI=>cases ry;exact PySem.EqNone.eq_bool_none (A6 I q (by simp))
  |bl j=>cases ry;exact eq_bool (A6 I q UN)
  |str j=>obtain⟨t',rfl⟩:=ry;exact PySem.EqMixed.eq_bool_str (A6 I q (by simp))
  |_=>exact absurd (show false=true from hs) aJ
 |int i =>
  obtain⟨t,rfl⟩:=rx;cases y with
  |BI=>cases ry;exact PySem.EqNone.eq_int_none (A6 I q (by simp))
  |int j=>obtain⟨t',rfl⟩:=ry;exact eq_int (A6 I q Qy)
  |str j=>obtain⟨t',rfl⟩:=ry;exact PySem.EqMixed.eq_int_str (A6 I q (by simp))
  |_=>exact absurd (show false=true from hs) aJ
 |str i =>
  obtain⟨t,rfl⟩:=rx;cases y with
  |BI=>cases ry;exact PySem.EqNone.eq_str_none (A6 I q (by simp))
  |bl j=>cases ry;exact PySem.EqMixed.eq_str_bool (A6 I q (by simp))
  |int j=>obtain⟨t',rfl⟩:=ry;exact PySem.EqMixed.eq_str_int (A6 I q (by simp))
  |str j=>obtain⟨t',rfl⟩:=ry;exact eq_str (A6 I q RA)
  |_=>exact absurd (show false=true from hs) aJ
 |KI i =>
  obtain⟨t,rfl⟩:=rx;cases y with
  |KI j=>obtain⟨t',rfl⟩:=ry;exact PySem.W.eq_bytes (A6 I q Qr)
  |_=>exact absurd (show false=true from hs) aJ
 |_=>cases y<;>exact absurd (show false=true from hs) aJ
def OC:Bv X (compareOp .NotEq) fQ:=by
 intro pins s σ H x y v u Q I rx ry h;obtain⟨hs,q⟩:=h;cases x with
 |BI =>
  cases rx;cases y with
  |BI=>cases ry;exact PySem.EqNone.ne_none_none (A6 I q (by simp))
  |bl j=>cases ry;exact PySem.EqNone.ne_none_bool (A6 I q (by simp))
  |int j=>obtain⟨t',rfl⟩:=ry;exact PySem.EqNone.ne_none_int (A6 I q (by simp))
  |str j=>obtain⟨t',rfl⟩:=ry;exact PySem.EqNone.ne_none_str (A6 I q (by simp))
  |_=>exact absurd (show false=true from hs) aJ
 |bl i =>
  cases rx;cases y with
  |BI=>cases ry;exact PySem.EqNone.ne_bool_none (A6 I q (by simp))
  |bl j=>cases ry;exact ne_bool (A6 I q (bF not UN))
  |str j=>obtain⟨t',rfl⟩:=ry;exact PySem.EqMixed.ne_bool_str (A6 I q (by simp))
  |_=>exact absurd (show false=true from hs) aJ
 |int i =>
  obtain⟨t,rfl⟩:=rx;cases y with
  |BI=>cases ry;exact PySem.EqNone.ne_int_none (A6 I q (by simp))
  |int j=>obtain⟨t',rfl⟩:=ry;exact ne_int (A6 I q (bF not Qy))
  |str j=>obtain⟨t',rfl⟩:=ry;exact PySem.EqMixed.ne_int_str (A6 I q (by simp))
  |_=>exact absurd (show false=true from hs) aJ
 |str i =>
  obtain⟨t,rfl⟩:=rx;cases y with
  |BI=>cases ry;exact PySem.EqNone.ne_str_none (A6 I q (by simp))
  |bl j=>cases ry;exact PySem.EqMixed.ne_str_bool (A6 I q (by simp))
  |int j=>obtain⟨t',rfl⟩:=ry;exact PySem.EqMixed.ne_str_int (A6 I q (by simp))
  |str j=>obtain⟨t',rfl⟩:=ry;exact ne_str (A6 I q (bF not RA))
  |_=>exact absurd (show false=true from hs) aJ
 |KI i =>
  obtain⟨t,rfl⟩:=rx;cases y with
  |KI j=>obtain⟨t',rfl⟩:=ry;exact PySem.W.ne_bytes (A6 I q (bF not Qr))
  |_=>exact absurd (show false=true from hs) aJ
 |_=>cases y<;>exact absurd (show false=true from hs) aJ
def OI:Bv X (compareOp .Lt) (Nf fun i j=>.bl (decide (i<j))):=Vi fun _ _ _ _ _ _ _ q=>lt_int q
def Mf:Bv X (compareOp .Gt) (Nf fun i j=>.bl (decide (j<i))):=Vi fun _ _ _ _ _ _ _ q=>gt_int q
def WO:Bv X (compareOp .GtE) (Nf fun i j=>.bl (decide (j≤i))):=Vi fun _ _ _ _ _ _ _ q=>ge_int q
def Wl:Bv X (compareOp .IsNot) (fun x y H Q=>y=.BI∧Q (.bl (!decide (x=.BI))) H):=by
 intro pins s σ H x y v u Q I rx ry h;obtain⟨rfl,q⟩:=h;cases ry;refine isnot_none_gen (A6 I q ?_);cases x<;>first
  |(cases rx;rfl)
  |(obtain⟨t,rfl⟩:=rx;rfl)
def Bv.or{f:VL→VL→Sem VL}{r r':R2}(h:Bv X f r)(h':Bv X f r'):Bv X f (fun x y H Q=>r x y H Q∨r' x y H Q):=by
 intro pins s σ H x y v u Q I rx ry q;rcases q with q|q
 ·exact h pins s σ H x y v u Q I rx ry q
 ·exact h' pins s σ H x y v u Q I rx ry q
def A9(b:Expr){op:CmpOp}(h:op≠.In:=by decide)(h2:op≠.NotIn:=by decide):behindInMarks op b=false:=by
 have e1:(op==CmpOp.In)=false:=by cases op<;>first|rfl|exact absurd rfl h
 have e2:(op==CmpOp.NotIn)=false:=by cases op<;>first|rfl|exact absurd rfl h2
 cases b<;>simp[behindInMarks,e1,e2]
def Kn{op:CmpOp}{r:R2}(ho:Bv X (compareOp op) r)(ha:PE X a ta)(hb:PE X b tb)(hm:behindInMarks op b=false):PE X (.Compare a [op] [b] pos) (Sm r ta tb):=by
 intro pins s σ H Q I h;exact wpAny_Compare1 (Vq ha hb I h fun v u s2 x y H2 I2 rx ry q=>ho pins s2 σ H2 x y v u Q I2 rx ry q) hm
def cW(t:TE):TT:=fun σ H Q=>t σ H fun x H'=>∃k,x=.bl k∧Q k H'
def Bt{op:CmpOp}{r:R2}(ho:Bv X (compareOp op) r)(ha:PE X a ta)(hb:PE X b tb)(hm:behindInMarks op b=false):PT X (.Compare a [op] [b] pos) (cW (Sm r ta tb)):=by
 intro pins s σ H Q I h;refine wpAny_isTrue_Compare1 (Az (ha pins s σ H _ I h) fun v s1 ⟨x,H1,I1,r1,q1⟩=>Az (hb pins s1 σ H1 _ I1 q1) fun u s2 ⟨y,H2,I2,r2,q2⟩ =>
  Az (ho pins s2 σ H2 x y v u _ I2 r1 r2 q2) fun c s3 ⟨z,H3,I3,r3,k,e,q3⟩=>?_) hm
 subst e;cases r3;exact bN ⟨H3,I3,q3⟩
def Lx:(sizeLine:Nat)<2^63:=by rw[sizeLine_eq];decide
def Rz:Bv X (binaryOp .Add) (fun x y H Q=>∃i j,x=.str i∧y=.str j∧i.length+j.length≤sizeLine∧Q (.str (i++j)) H):=by
 intro pins s σ H x y v u Q I rx ry h;obtain⟨i,j,rfl,rfl,hz,q⟩:=h;obtain⟨t,rfl⟩:=rx;obtain⟨t',rfl⟩:=ry;exact add_str (fun t' tk=>⟨.str (i++j),H,I.tok _,⟨_,rfl⟩,q⟩) hz
def vals1{x:V}{us:List VL}(r:Vals [x] us):∃u,us=[u]∧RelV x u:=by
 cases r with
 |cons r1 r2=>cases r2;exact⟨_,rfl,r1⟩
def Iz:Cv X (.builtin "abs") (fun xs H Q=>∃i,xs=[.int i]∧Q (.int (if i<0 then -i else i)) H):=by
 intro pins s σ H xs us Q I r h;obtain⟨i,rfl,q⟩:=h;obtain⟨u,rfl,t,rfl⟩:=vals1 r;exact call_abs_int fun u tk=>⟨.int (if i<0 then -i else i),H,I.tok _,⟨_,rfl⟩,q⟩
end
structure Va(h:Heap)(x dx C:Addr)(mA:Str→Option Value):Prop where
 obj:h.get? x=some (PySem.W.instObj C dx)
 ns:h.Ns1 dx mA
 ne:dx≠x
def T5{h:Heap}{dx:AD}{mA:Str→Option VL}(n:h.Ns1 dx mA):∃od,h.get? dx=some od∧∀name,PySem.W.lookIn name od=some (mA name):=by
 obtain⟨o,es,ep,ho,hd,hk,_,hm⟩:=n;refine⟨o,ho,fun name=>?_⟩;have e:=hm name;unfold nsFind findBy at e;rw[←Array.find?_toList]at e;unfold PySem.W.lookIn;rw[hd];dsimp only;split
 ·rename_i y q;rw[q]at e;exact bF some e
 ·rename_i q;rw[q]at e;have a:es.toList.any (·.refKey)=false:=by
   rw[List.any_eq_false];intro y hy;obtain⟨z,t,hkey⟩:=hk y (Array.mem_toList_iff.mp hy);simp[DictEntry.refKey,hkey]
  have a':¬es.toList.any (·.refKey)=true:=by rw[a];exact aJ
  rw[if_neg a'];exact bF some e
def Va.look{h:Heap}{x dx C:AD}{mA:Str→Option VL}(I:Va h x dx C mA):∃od,PySem.W.InstAt h x (PySem.W.instObj C dx) C (some od)∧∀name,PySem.W.lookIn name od=some (mA name) :=
 let⟨od,ho,hl⟩:=T5 I.ns
 ⟨od,⟨I.obj,rfl,rfl,ho⟩,hl⟩
def HF.some_of{v:V}{o:Option VL}(r:HF (some v) o):∃u,o=some u∧RelV v u:=by
 cases o with
 |none=>exact(show False from r).elim
 |some u=>exact⟨u,rfl,r⟩
section
variable{P:Program}{w:World}{H:Hp}{h:Heap}{a C dx:AD}{fs:List (Str×V)}
def Xc(Af:CY P w H h)(e:H a=some (.ins C dx fs)):∃mA,Va h a dx C mA∧(∀f,HF (fs.lookup f) (mA f))∧PySem.Within mA (fs.map (·.1))∧fs.length≤1000∧H dx=some (.own a):=by
 obtain⟨d,z,ne,ob,mA,n,r,q⟩:=(show Bb P w H h a (.ins C dx fs) from Af a _ e);exact⟨mA,⟨ob,n,ne⟩,r,q,z,d⟩
end
structure Zg(K:Fg)(C:Addr):Prop where
 pg:PySem.W.plainGet K C Str.empty=true
 hd:PySem.W.hasDictIn K C=true
 po:PySem.W.plainOver K C=true
 sa:PySem.W.findIn K (.ref C) "__setattr__" = some (some (.builtin "object.__setattr__"))
def Zg.get{K:Fg}{C:AD}(c:Zg K C)(f:Str):PySem.W.plainGet K C f=true:=c.pg
section
variable{X:Cx}{pins:List (AD×Obj)}{σ:St}{H:Hp}{s:SD}{A:Around}{E:VL→SD→Prop}{Q:VL→SD→Prop}{c:VL}{b:Bool}
inductive Er(K:Fg)(H:Hp):V→Value→Prop where
 |BI:Er K H .BI (.type "NoneType")
 |bl (x:Bool):Er K H (.bl x) (.type "bool")
 |int (i:Int):Er K H (.int i) (.type "int")
 |str (x:Str):Er K H (.str x) (.type "str")
 |Qw (x:UInt64):Er K H (.Qw x) (.type "float")
 |lst {a:Addr} {xs:List V} (e:H a=some (.lst xs)):Er K H (.ref a) (.type "list")
 |C8 {a:Addr} {o:Obj} {xs:List V} (e:H a=some (.C8 o (.lst xs))):Er K H (.ref a) (.type "list")
 |tup {a:Addr} {xs:List V} (e:H a=some (.tup xs)):Er K H (.ref a) (.type "tuple")
 |dK {a:Addr} {kvs:List (Key×V)} (e:H a=some (.dK kvs)):Er K H (.ref a) (.type "dict")
 |dT {a:Addr} {kvs:List (List Key×V)} (e:H a=some (.dT kvs)):Er K H (.ref a) (.type "dict")
 |ins {a C dx:Addr} {fs:List (Str×V)} (e:H a=some (.ins C dx fs)) (cl:Zg K C) (ha:PySem.W.findIn K (.ref C) "__class__" = some (some (.builtin "object.__class__")))
   (hn:PySem.W.specialIn K (.builtin "object.__class__") "__get__" = some (some (.builtin "getset_descriptor.__get__"))) (htk:PySem.W.takesIn K (.builtin "object.__class__")=some true)
   (hm:PySem.W.mroIn K C (.type "object")=some true):Er K H (.ref a) (.ref C)
def TM{x:V}{u t:VL}(I:Inv X pins σ H s)(rx:RelV x u)(ty:Er X.K H x t)(e:PySem.W.kitOne X.K t c=some b)(h:∀tk,Q (.bool b) {s with toks:=tk}) :
  wpAny (model X.prog X.w) A (call (.builtin "isinstance") [u,c]) Q E s:=by
 cases ty with
 |BI=>cases (show u=Value.none from rx);exact ay PySem.W.kitx_none I.F8 True.intro e (fun z=>nomatch z) h
 |bl y=>cases (show u=Value.bool y from rx);exact ay PySem.W.kitx_bool I.F8 True.intro e (fun z=>nomatch z) h
 |int i=>obtain⟨t,q⟩:=(show ∃t,u=Value.int i t from rx);cases q;exact ay PySem.W.kitx_int I.F8 True.intro e (fun z=>nomatch z) h
 |str y=>obtain⟨t,q⟩:=(show ∃t,u=Value.str y t from rx);cases q;exact ay PySem.W.kitx_str I.F8 True.intro e (fun z=>nomatch z) h
 |Qw y=>obtain⟨t,q⟩:=(show ∃t,u=Value.float y t from rx);cases q;exact ay PySem.W.kitx_float I.F8 True.intro e (fun z=>nomatch z) h
 | @lst a xs ea =>
  cases (show u=Value.ref a from rx);obtain⟨_,_,n,_,h1⟩:=(show Bb X.prog X.w H s.heap a (.lst xs) from I.Af a _ ea);exact ay PySem.W.kitx_list I.F8 ⟨_,h1,rfl⟩ e (fun z=>nomatch z) h
 | @C8 a ob xs ea =>
  cases (show u=Value.ref a from rx);obtain⟨_,_,_,n,_,h1⟩:=(show Bb X.prog X.w H s.heap a (.C8 ob (.lst xs)) from I.Af a _ ea);exact ay PySem.W.kitx_list I.F8 ⟨_,h1,rfl⟩ e (fun z=>nomatch z) h
 | @tup a xs ea =>
  cases (show u=Value.ref a from rx);obtain⟨_,_,_,p⟩:=(show Bb X.prog X.w H s.heap a (.tup xs) from I.Af a _ ea);obtain⟨o,h1,h2,_⟩:=p;exact ay PySem.W.kitx_tuple I.F8 ⟨o,h1,h2⟩ e (fun z=>nomatch z) h
 | @dK a kvs ea =>
  cases (show u=Value.ref a from rx);obtain⟨_,_,vs,_,p⟩:=(show Bb X.prog X.w H s.heap a (.dK kvs) from I.Af a _ ea);obtain⟨o,es,ep,h1,h2,_⟩:=p;exact ay PySem.W.kitx_dict I.F8 ⟨o,h1,h2.1⟩ e (fun z=>nomatch z) h
 | @dT a kvs ea =>
  cases (show u=Value.ref a from rx);obtain⟨_,_,xs,_,o,es,ep,h1,h2,_⟩:=(show Bb X.prog X.w H s.heap a (.dT kvs) from I.Af a _ ea);exact ay PySem.W.kitx_dict I.F8 ⟨o,h1,h2.1⟩ e (fun z=>nomatch z) h
 | @ins a C dx fs ea cl ha hn htk hm =>
  cases (show u=Value.ref a from rx);obtain⟨mA,O,_⟩:=Xc I.Af ea;obtain⟨od,J,_⟩:=O.look;exact ay (PySem.W.kitx_own (cl.get _) cl.hd ha hn htk hm) I.F8 J e (fun z=>nomatch z) h
end
structure Cy(k:Nat)(A:Around):Prop where
 hd:A.handled=none
 dp:A.depth+3*k+5<recursionLimit
 un:A.units+16*k+200<cLine
def Cy.mono{j k:Nat}{A:Around}(r:Cy k A)(h:j≤k:=by decide):Cy j A:=⟨r.hd,by have:=r.dp;lia,by have:=r.un;lia⟩
def Cy.deeper{k:Nat}{A:Around}(r:Cy (k+1) A)(env:Env):Cy k (A.deeper env) :=
 ⟨r.hd,by have:=r.dp;show A.depth+1+3*k+5<_;lia,by have:=r.un;show A.units+3+16*k+200<_;lia⟩
def Cy.depth{k:Nat}{A:Around}(r:Cy k A):A.depth<recursionLimit:=by have:=r.dp;lia
def Cy.units{k:Nat}{A:Around}(r:Cy k A):A.units+64<cLine:=by have:=r.un;lia
def dY:TA:=fun _ H Q=>Q [] H
def cS(ta:TE)(tr:TA):TA:=fun σ H Q=>ta σ H fun x H1=>tr σ H1 fun xs H2=>Q (x::xs) H2
section
variable{X:Cx}{e:Expr}{es:List Expr}{te:TE}{t:TA}{pos:Pos}
def AU:PA X [] dY:=fun _ _ _ _ H Q I h=>Calls.spliced_nil ⟨[],H,I,.nil,h⟩
def AH(ha:PE X e te)(hr:PA X es t)(hs:starEach (e::es) X.env=(false,eval e X.env)::starEach es X.env:=by rfl):PA X (e::es) (cS te t):=by
 intro pos pins s σ H Q I h;rw[hs];show wpAny _ _ (spliced ((false,eval e X.env)::backTo pos (starEach es X.env))) _ _ s;refine Calls.spliced_cons (Az (ha pins s σ H _ I h) fun u s1 ⟨x,H1,I1,r1,q1⟩=>?_);exact Az (hr pos pins s1 σ H1 _ I1 q1) fun us s2 ⟨xs,H2,I2,r2,q2⟩=>⟨x::xs,H2,I2,.cons r1 r2,q2⟩
def eI(t:TA):TE:=fun σ H Q=>t σ H fun xs H1=>xs.length≤sizeLine∧∀p,H1 p=none→Q (.ref p) (upd H1 p (.tup xs))
def dr(t:TA):TE:=fun σ H Q=>t σ H fun xs H1=>xs.length≤sizeLine∧∀p,H1 p=none→Q (.ref p) (upd H1 p (.lst xs))
def Od{x1}(h:PA X es t):PE X (.Tuple es x1 pos) (eI t):=by
 intro pins s σ H Q I hq;refine wpAny_Tuple_spliced (Az (h pos pins s σ H _ I hq) fun us s1 ⟨xs,H1,I1,r,z,q⟩=>⟨by rw[←r.length];exact z,?_⟩);have hf:H1 s1.heap.objs.size=none:=I1.Af.fresh (aG _);refine⟨.ref s1.heap.objs.size,upd H1 s1.heap.objs.size (.tup xs),I1.laid (t':=s1.toks) (fun b u e=>aC _ e) (aG _) ?_,rfl,q _ hf⟩;exact⟨z,us,r,⟨_,Heap.get?_push_size _ rfl,rfl,_,rfl⟩⟩
def Jt(h:PA X es t):PE X (.List es pos) (dr t):=by
 intro pins s σ H Q I hq;refine wpAny_List_spliced (Az (h pos pins s σ H _ I hq) fun us s1 ⟨xs,H1,I1,r,z,q⟩=>⟨by rw[←r.length];exact z,?_⟩);have hf:H1 s1.heap.objs.size=none:=I1.Af.fresh (aG _);refine⟨.ref s1.heap.objs.size,upd H1 s1.heap.objs.size (.lst xs),I1.laid (t':=s1.toks) (fun b u e=>aC _ e) (aG _) ?_,rfl,q _ hf⟩;exact⟨z,us,0,r,Heap.get?_push_size _ rfl⟩
end
abbrev Sp:=List V→Hp→VK→XK→Prop
abbrev GJ:=List Env→Hp→SD→XK→VL→SD→Prop
structure Rk(P:Program)(w:World)(K:Fg)(mg:Str→Option Value)(base:Heap)(A:Around)(outer:List Env)(s:Shared)(H:Hp):Prop where
 frames:A.frames=some outer
 mod:Mod K mg base
 bs:∀b o,base.get? b=some o→s.heap.get? b=some o∧H b=none
 Nk:base.objs.size≤s.heap.objs.size
 HM:s.heap.FunFrames base outer
 Ql:∀b∈Jl outer,H b=none
 Af:CY P w H s.heap
 bare:AllBare s.gens
 kt:KTb mg H
def CE(outer:List Env)(P:Program)(w:World)(H:Hp)(s:SD)(Q:VK)(u:VL)(s':SD):Prop :=
 ∃v H',s'.os=s.os∧AllBare s'.gens∧Un (Jl outer) [] H H' s.heap s'.heap∧CY P w H' s'.heap∧RelV v u∧Q v H'
def CR(CX:GJ)(outer:List Env)(P:Program)(w:World)(H:Hp)(s:SD)(Q:VK)(E:XK)(r:Result)(s':SD):Prop :=
 match r with
 |.ok (.ret u)=>CE outer P w H s Q u s'
 |.ok _=>False
 |.error e=>CX outer H s E e s'
structure AL(P:Program)(w:World)(K:Fg)(mg:Str→Option Value)(base:Heap)(CX:GJ)(k:Nat)(f:Addr)(fd:FuncData)(ps:List Str)(sp:Sp):Prop where
 len:∀vs H Q E,sp vs H Q E→vs.length=ps.length
 run:∀(A:Around) (outer:List Env) (s:Shared) (H:Hp) (args:Args) (us:List Value) (vs:List V) (Q:VK) (E:XK),Cy k A→Rk P w K mg base A outer s H→BindsTo s fd args (ps.zip us)→Vals vs us→sp vs H Q E →
  codeAny (model P w) A (.call (.ref f) args) (CR CX outer P w H s Q E) s
def AL.mono{P:Program}{w:World}{K:Fg}{mg:Str→Option VL}{base:Heap}{CX:GJ}{j k:Nat}{f:AD}{fd:FuncData}{ps:List Str}{sp:Sp}(F:AL P w K mg base CX j f fd ps sp)(h:j≤k:=by decide) :
  AL P w K mg base CX k f fd ps sp:=⟨F.len,fun A outer s H args us vs Q E hr=>F.run A outer s H args us vs Q E (hr.mono h)⟩
def AL.imp{P:Program}{w:World}{K:Fg}{mg:Str→Option VL}{base:Heap}{CX:GJ}{k:Nat}{f:AD}{fd:FuncData}{ps:List Str}{sp sp':Sp}(F:AL P w K mg base CX k f fd ps sp)
 (h:∀vs H Q E,sp' vs H Q E→sp vs H Q E):AL P w K mg base CX k f fd ps sp' :=
 ⟨fun vs H Q E q=>F.len vs H Q E (h _ _ _ _ q),fun A outer s H args us vs Q E hr he hb hv hs=>F.run A outer s H args us vs Q E hr he hb hv (h _ _ _ _ hs)⟩
section
variable{X:Cx}{pins:List (AD×Obj)}{σ:St}{H:Hp}{s s':SD}
def Inv.eH(I:Inv X pins σ H s):Rk X.prog X.w X.K X.mg X.base X.A X.stack s H :=
 ⟨I.ok.frames,I.ok.mod,I.bs,Nat.le_trans I.ok.Nk I.sz,I.stack,I.Qc,I.Af,I.bare,I.kt⟩
def Inv.after{Q:VK}{u:VL}(I:Inv X pins σ H s)(h:CE X.stack X.prog X.w H s Q u s'):EP X pins σ Q u s':=by
 obtain⟨v,H',os,bare,un,Af,r,q⟩:=h;obtain⟨hh,g,d,t,os'⟩:=s';obtain rfl:os'=s.os:=os;exact⟨v,H',I.call (h':=hh) (g':=g) (d':=d) (t':=t) (ch:=[]) un Af bare (fun b z=>absurd z (by simp)),r,q⟩
end
def Wd(sp:Sp)(dvs:List V)(E:XK)(t:TA):TE:=fun σ H Q=>t σ H fun vs H1=>sp (vs++dvs) H1 Q E
def Binds(K:Fg)(fd:FuncData)(ps:List Str)(ds:List VL):Prop :=
 ∀(s:SD) (us:List VL),K.In s.heap→(us++ds).length=ps.length→BindsTo s fd ⟨us,[]⟩ (ps.zip (us++ds))
def Binds.all{K:Fg}{fd:FuncData}{ps:List Str}(h:∀us:List VL,us.length=ps.length→bindArgs fd ⟨us,[]⟩=pure (ps.zip us)):Binds K fd ps []:=fun s us _ hl=>by
 rw[List.append_nil]at hl ⊢;exact .of_eq (h us hl)
def Passes(CX:GJ)(X:Cx)(E:XK):Prop:=∀(pins:List (AD×Obj)) (σ:St) (H:Hp) (s:SD) (e:VL) (s':SD),Inv X pins σ H s→CX X.stack H s E e s'→X.xe e s'
section
variable{X:Cx}{CX:GJ}{k:Nat}{f:AD}{fd:FuncData}{ps:List Str}{sp:Sp}{dvs:List V}{ds:List VL}{E:XK}{x:Str}{p pos:Pos}{e:Expr}{es:List Expr}{t:TA}
def Ye{pins:List (AD×Obj)}{σ:St}{H:Hp}{s:SD}{Q:VK}{us:List VL}{vs:List V}(F:AL X.prog X.w X.K X.mg X.base CX k f fd ps sp)(hr:Cy k X.A)(hb:Binds X.K fd ps ds)(hd:Vals dvs ds)(hx:Passes CX X E)
 (I:Inv X pins σ H s)(r:Vals vs us)(h:sp (vs++dvs) H Q E):wpAny (model X.prog X.w) X.A (call (.ref f) us) (EP X pins σ Q) X.xe s:=by
 have r2:Vals (vs++dvs) (us++ds):=r.append hd;have hl:(us++ds).length=ps.length:=by rw[←r2.length];exact F.len _ _ _ _ h
 refine wpAny_call (codeAny_mono (F.run X.A X.stack s H ⟨us,[]⟩ (us++ds) (vs++dvs) Q E hr I.eH (hb s us I.F8 hl) r2 h) fun r s' hq=>?_);cases r with
 |error e=>exact hx pins σ H s e s' I hq
 |ok fl =>
  cases fl with
  |ret u=>exact I.after hq
  |next=>exact False.elim hq
  |brk=>exact False.elim hq
  |cont=>exact False.elim hq
def Wv(F:AL X.prog X.w X.K X.mg X.base CX k f fd ps sp)(hr:Cy k X.A)(hg:Gl X x)(hm:X.mg x=some (.ref f))(hk:PySem.W.keepIn X.K (.ref f)=true)(hb:Binds X.K fd ps ds)(hd:Vals dvs ds)(hx:Passes CX X E)
 (ha:PA X (e::es) t)(hdb:(x==("__debug__" : Str))=false:=by decide)(he:starEach (e::es) X.env=(false,eval e X.env)::starEach es X.env:=by rfl)(hpl:(backTo pos (starEach es X.env)).any (·.1)=false:=by rfl) :
  PE X (.Call (.Name x p) (e::es) [] pos) (Wd sp dvs E t):=by
 intro pins s σ H Q I h;refine wpAny_Call_Name_kw (Q5 I hg hm ?_ hdb);refine PySem.W.callWith_K (h₀:=X.base) I.ok.mod.Yo hk (Az (ha pos pins s σ H _ I h) fun us s1 ⟨vs,H1,I1,r,q⟩=>⟨I1.F8,?_⟩) he hpl;exact Ye F hr hb hd hx I1 r q
end
structure Ac(N P:List Str)(sc:Scope):Prop where
 kind:sc.kind=.function
 co:sc.isCoroutine=false
 gen:sc.isGenerator=false
 nd:N.Nodup
 pre:N.take P.length=P
 par:∀x∈P,sc.names.lookup x=some .local∨sc.names.lookup x=some .cell
 Yr:∀y∈sc.names,y.2≠.free
def CB{N P:List Str}{sc:Scope}(a:sc.kind=.function:=by rfl)(b:sc.isCoroutine=false:=by rfl)(c:sc.isGenerator=false:=by rfl)(d:N.Nodup:=by decide +kernel)(e:N.take P.length=P:=by rfl)(f:∀x ∈ P, sc.names.lookup x=some .local ∨ sc.names.lookup x=some .cell:=by decide +kernel)(g:∀y ∈ sc.names, y.2 ≠ .free:=by decide +kernel):Ac N P sc:=⟨a, b, c, d, e, f, g⟩
def Nr{kindOf:Str→Option NameKind}{x:Str}:∀ {binds:List (Str×VL)} {m:Str→Option VL},(∀v,(x,v) ∉ binds)→bindL kindOf binds m x=m x
 |[],_,_=>rfl
 |(n,v)::r,m,h=>by
  unfold bindL;rw[Nr fun w hw=>h w (aO _ hw)];split
  ·have:x≠n:=by rintro rfl;exact h v aT
   simp[this]
  ·rfl
def Nc{kindOf:Str→Option NameKind}{x:Str}:∀ {binds:List (Str×VL)} {m:Str→Option VL},(∀v,(x,v) ∉ binds)→bindC kindOf binds m x=m x
 |[],_,_=>rfl
 |(n,v)::r,m,h=>by
  unfold bindC;rw[Nc fun w hw=>h w (aO _ hw)];split
  ·rfl
  ·have:x≠n:=by rintro rfl;exact h v aT
   simp[this]
def NS{kindOf:Str→Option NameKind}{x:Str}{v:VL}:∀ {P:List Str} {vs:List VL} {i:Nat} {m:Str→Option VL},P.Nodup→P[i]? = some x→vs[i]? = some v→kindOf x=some .local →
  bindL kindOf (P.zip vs) m x=some v
 |[],_,_,_,_,h,_,_=>by simp at h
 |_::_,[],_,_,_,_,h,_=>by simp at h
 |p::P,w::vs,0,m,nd,h1,h2,hk=>by
  simp at h1 h2;subst h1;subst h2;show bindL kindOf ((p,w)::P.zip vs) m p=_;unfold bindL;rw[Nr fun v hv=>(List.nodup_cons.mp nd).1 (List.of_mem_zip hv).1,if_pos hk];simp
 |p::P,w::vs,i+1,m,nd,h1,h2,hk=>by
  show bindL kindOf ((p,w)::P.zip vs) m x=_;unfold bindL;exact NS (i:=i) (List.nodup_cons.mp nd).2 (by simpa using h1) (by simpa using h2) hk
def NJ{kindOf:Str→Option NameKind}{x:Str}{v:VL}:∀ {P:List Str} {vs:List VL} {i:Nat} {m:Str→Option VL},P.Nodup→P[i]? = some x→vs[i]? = some v→kindOf x≠some .local →
  bindC kindOf (P.zip vs) m x=some v
 |[],_,_,_,_,h,_,_=>by simp at h
 |_::_,[],_,_,_,_,h,_=>by simp at h
 |p::P,w::vs,0,m,nd,h1,h2,hk=>by
  simp at h1 h2;subst h1;subst h2;show bindC kindOf ((p,w)::P.zip vs) m p=_;unfold bindC;rw[Nc fun v hv=>(List.nodup_cons.mp nd).1 (List.of_mem_zip hv).1,if_neg hk];simp
 |p::P,w::vs,i+1,m,nd,h1,h2,hk=>by
  show bindC kindOf ((p,w)::P.zip vs) m x=_;unfold bindC;exact NJ (i:=i) (List.nodup_cons.mp nd).2 (by simpa using h1) (by simpa using h2) hk
def start(N:List Str)(vs:List V):St:=vs.map some++List.replicate (N.length-vs.length) none
def LS(CX:GJ)(P:Program)(w:World)(K:Fg)(mg:Str→Option VL)(base:Heap)(N:List Str)(qual:Str)(scope:Scope)(f:AD)(cd:VL)(A:Around)(outer:List Env)(s:SD)(H:Hp)(E:XK):Cx where
 prog:=P
 w:=w
 K:=K
 mg:=mg
 base:=base
 A:=A.deeper (envOfC qual scope s.heap.objs.size f cd)
 N:=N
 s₀:=s
 H₀:=H
 env:=envOfC qual scope s.heap.objs.size f cd
 outer:=outer
 stack:=envOfC qual scope s.heap.objs.size f cd::outer
 ex:=[]
 calm:=true
 fn:=fun _=>true
 pn:=[]
 xe:=fun e s'=>wpAny (model P w) (A.deeper (envOfC qual scope s.heap.objs.size f cd)) (leaving (envOfC qual scope s.heap.objs.size f cd) e) (fun _ s''=>CX outer H s E e s'') (fun e' s''=>CX outer H s E e' s'') s'
def O4{sc:Scope}{n:Nat}{x:Str}(h:sc.names.lookup x=some .cell):∃c,(cellsFrom n sc.names []).lookup x=some c:=by
 have q:=PySem.W.cellsFrom_some sc.names n [] (.inl h);exact Option.isSome_iff_exists.mp q
def Um{CX:GJ}{P:Program}{w:World}{K:Fg}{mg:Str→Option VL}{base:Heap}{N ps:List Str}{qual:Str}{scope:Scope}{f:AD}{cd:VL}{A:Around}{outer:List Env}{s s1:SD}{H:Hp}{E:XK}{us:List VL}{vs:List V}
 (S:Ac N ps scope)(hd:A.handled=none)(e0:Rk P w K mg base A outer s H)(hl:vs.length=ps.length)(r:Vals vs us)
 (x:InCallC s s.heap.objs.size (bindL (envOfC qual scope s.heap.objs.size f cd).kindOf (ps.zip us) fun _=>none) (cellsFrom (s.heap.objs.size+1) scope.names []) (bindC (envOfC qual scope s.heap.objs.size f cd).kindOf (ps.zip us) fun _=>none) s1) :
  Inv (LS CX P w K mg base N qual scope f cd A outer s H E) [] (start N vs) H s1:=by
 have hpl:ps.length≤N.length:=by have:=bF List.length S.pre;rw[List.length_take]at this;lia
 obtain⟨h1,tk,rfl,hk⟩:=x.done;have noA:∀b:AD,b ∉ (LS CX P w K mg base N qual scope f cd A outer s H E).ex:=fun b z=>absurd (show b∈([]:List AD) from z) (by simp);refine⟨⟨e0.mod,S.kind,rfl,rfl,Nat.le_refl _,fun y z c h1 h2=>?_,fun y hy=>?_,fun y c _ h=>?_,fun _=>hd,Around.frames_deeper e0.frames,.inr ⟨rfl,rfl⟩,fun b z=>absurd z (noA b),e0.bs,e0.Nk,fun b _ _=>noA b,fun b z=>absurd z (noA b),e0.HM,e0.Ql,e0.kt⟩,
  rfl,e0.bare,Un.kept hk,⟨_,x.toInCall.ns,fun i y v h1 h2 h3=>?_⟩,fun y c h=>⟨_,x.cell y c h⟩,e0.Af.fresh (aG _),fun y c h=>?_,fun p hp=>absurd (show p∈([]:List (AD×Obj)) from hp) (by simp),e0.Af.kept hk,?_⟩
 ·exact name_of_addr x.apart (PySem.mem_of_lookup h1) (PySem.mem_of_lookup h2)
 ·have hy:scope.names.lookup y=some .cell∨scope.names.lookup y=some .free:=hy;rcases hy with hy|hy
  ·exact O4 hy
  ·exact absurd rfl (S.Yr _ (PySem.mem_of_lookup hy))
 ·exact bA (x.above y c (PySem.mem_of_lookup h))
 ·have hi:i<vs.length:=by
   unfold start at h2;by_cases hi:i<vs.length
   ·exact hi
   ·rw[List.getElem?_append_right (by simpa using hi)]at h2;rw[List.getElem?_replicate]at h2;split at h2<;>cases h2
  have ha:vs[i]? = some v:=by
   unfold start at h2;rw[List.getElem?_append_left (by simpa using hi),List.getElem?_map]at h2;cases e:vs[i]? with
   |none=>rw[e]at h2;cases h2
   |some a=>rw[e]at h2;cases h2;rfl
  obtain⟨u,hu,rv⟩:=r.get ha;have hp:ps[i]? = some y:=by
   rw[←S.pre,List.getElem?_take_of_lt (by lia)];exact h1
  have ndP:ps.Nodup:=by rw[←S.pre];exact S.nd.sublist (List.take_sublist _ _)
  refine⟨u,rv,?_⟩;rcases S.par y (aP hp) with k|k
  ·exact .inl ⟨k,NS ndP hp hu k⟩
  ·obtain⟨c,e⟩:=O4 (n:=s.heap.objs.size+1) k;refine .inr ⟨.inl k,c,e,?_⟩;have q:=x.cell y c e;rw[NJ ndP hp hu (by show scope.names.lookup y≠_;rw[k];decide)]at q;exact q
 ·exact e0.Af.fresh (bA (x.above y c (PySem.mem_of_lookup h)))
 ·unfold start;show _=N.length;rw[List.length_append,List.length_map,List.length_replicate]
  lia
def cV{CX:GJ}{P:Program}{w:World}{K:Fg}{mg:Str→Option VL}{base:Heap}{k:Nat}{f:AD}{name qual:Str}{params:Arguments}{body:List Stmt}{scope:Scope}{dV kV doc pm cdv ct oc:VL}{an od:Option AD}
 {osl:Array (Option VL)}{N ps:List Str}{sp:Sp}(lk:K.lookup f=some ⟨oc,od,.func (PySem.W.fnOf name qual params body scope dV kV doc pm an cdv ct),osl⟩)(hcd:PySem.W.codeIn K cdv qual=true)(S:Ac N ps scope)
 (len:∀vs H Q E,sp vs H Q E→vs.length=ps.length)
 (hbody:∀(A:Around) (outer:List Env) (s:SD) (H:Hp) (vs:List V) (Q:VK) (E:XK),Cy k (A.deeper (envOfC qual scope s.heap.objs.size f cdv))→sp vs H Q E →
   ∃t,Hr (LS CX P w K mg base N qual scope f cdv A outer s H E) body t∧t { nx:=fun _ H'=>Q .BI H',rt:=Q} (start N vs) H) :
  AL P w K mg base CX (k+1) f (PySem.W.fnOf name qual params body scope dV kV doc pm an cdv ct) ps sp:=by
 refine⟨len,fun A outer s H args us vs Q E hr e0 hb r hsp=>?_⟩;have hl:=len _ _ _ _ hsp;have KX:K.In s.heap:=e0.mod.Yo.keeps fun b o e=>(e0.bs b o e).1;have lim:s.heap.NoLimit:=e0.mod.nolimit.keeps fun b o e=>(e0.bs b o e).1;have hkind:∀y∈ps.zip us,scope.names.lookup y.1=some .local∨(scope.names.lookup y.1=some .cell∧((cellsFrom (s.heap.objs.size+1) scope.names []).lookup y.1).isSome=true):=fun⟨n,v⟩ hy=>by
  rcases S.par n (List.of_mem_zip hy).1 with q|q
  ·exact .inl q
  ·exact .inr ⟨q,PySem.W.cellsFrom_some _ _ _ (.inl q)⟩
 refine codeAny_call_function hr.depth (KX _ _ lk) rfl S.co S.gen rfl (PySem.W.codeRec_of KX hcd) (hb _ _ _ _ ?_);refine wpAny_newFunctionEnv_cells S.kind hkind fun env he s1 x=>?_;subst he;refine⟨lim.keeps x.toInCall.keep,codeAny_func ?_⟩;obtain⟨t,ht,hq⟩:=hbody A outer s H vs Q E (hr.deeper _) hsp;have I:Inv (LS CX P w K mg base N qual scope f cdv A outer s H E) [] (start N vs) H s1:=Um S hr.hd e0 hl r x;refine af (ht [] s1 (start N vs) H _ I hq) (fun fl s' hs=>?_) fun e s' hs=>hs;have fin:∀ {σ':St} {H':Hp} {v:V} {u:VL},Inv (LS CX P w K mg base N qual scope f cdv A outer s H E) [] σ' H' s'→RelV v u→Q v H'→CE outer P w H s Q u s' :=
  fun {σ' H' v u} J rv q=>⟨v,H',J.os,J.bare,J.base,J.Af,rv,q⟩
 cases fl with
 |ret u =>
  obtain⟨v,σ',H',J,rv,q⟩:=hs;exact fin J rv q
 |next =>
  obtain⟨σ',H',J,q⟩:=hs;exact fin (v:=V.BI) (u:=Value.none) J rfl q
 |brk =>
  obtain⟨_,_,_,q⟩:=hs;exact False.elim q
 |cont =>
  obtain⟨_,_,_,q⟩:=hs;exact False.elim q
section
variable{X:Cx}{x:Str}{p pos:Pos}{e:Expr}{es:List Expr}{t:TA}{id T:String}{r:List V→Hp→VK→Prop}
def dG(r:List V→Hp→VK→Prop)(t:TA):TE:=fun σ H Q=>t σ H fun vs H1=>r vs H1 Q
def BB(hc:Cv X (.builtin id) r)(hg:Gl X x)(hm:X.mg x=none)(hv:bootBuiltins x=some (.builtin id))(ha:PA X (e::es) t)(hn:x ≠ "__name__" := by decide)(hdb:(x==("__debug__" : Str))=false:=by decide)
 (he:starEach (e::es) X.env=(false,eval e X.env)::starEach es X.env:=by rfl)(hpl:(backTo pos (starEach es X.env)).any (·.1)=false:=by rfl):PE X (.Call (.Name x p) (e::es) [] pos) (dG r t):=by
 intro pins s σ H Q I h;refine wpAny_Call_Name_kw (Ec I hg hm hv ?_ hn hdb);exact PyProof.Rows.callWith_builtin1 (Az (ha pos pins s σ H _ I h) fun us s1 ⟨vs,H1,I1,r1,q1⟩=>hc pins s1 σ H1 vs us Q I1 r1 q1) he hpl
def NP(hc:Cv X (.type T) r)(hg:Gl X x)(hm:X.mg x=none)(hv:bootBuiltins x=some (.type T))(ha:PA X (e::es) t)(hn:x ≠ "__name__" := by decide)(hdb:(x==("__debug__" : Str))=false:=by decide)
 (he:starEach (e::es) X.env=(false,eval e X.env)::starEach es X.env:=by rfl)(hpl:(backTo pos (starEach es X.env)).any (·.1)=false:=by rfl):PE X (.Call (.Name x p) (e::es) [] pos) (dG r t):=by
 intro pins s σ H Q I h;refine wpAny_Call_Name_kw (Ec I hg hm hv ?_ hn hdb);exact aq (Az (ha pos pins s σ H _ I h) fun us s1 ⟨vs,H1,I1,r1,q1⟩=>hc pins s1 σ H1 vs us Q I1 r1 q1) he hpl
end
end L2
namespace HT
open PySem PyProof.Rows
section
variable{prog:Program}{w:World}{A:Around}{E:VL→SD→Prop}{s:SD}
def Wi{t b:AD}{vs ws:List VL}{Q:VL→SD→Prop}(ht:IsTup s.heap t vs.toArray)(hb:IsTup s.heap b ws.toArray)(hv:vs≠[])
 (h1:ws=[]→Q (.ref t) s)(h2:ws≠[]→Q (.ref s.heap.objs.size) {s with heap:=s.heap.push { cls:=.type "tuple",data:=.seq (vs++ws).toArray} })
 (hsz:vs.length+ws.length≤sizeLine):wpAny (model prog w) A (binaryOp .Add (.ref t) (.ref b)) Q E s:=by
 obtain⟨⟨cls,dd,data,sl⟩,ho,hc,n,hd⟩:=id ht;obtain⟨⟨cls2,dd2,data2,sl2⟩,ho2,hc2,n2,hd2⟩:=id hb;simp only at hc hd hc2 hd2;subst hc hd hc2 hd2;have e:vs.toArray++ws.toArray=(vs++ws).toArray:=by simp
 by_cases hw:ws=[]
 ·exact concat_meets ⟨_,ho,rfl⟩ ⟨_,ho2,rfl⟩ noFill_tuple_add seq_tuple_add PySem.F.slot_tuple_add PySem.F.entry_tuple_add (PySem.F.args_tuple_add_2 _ _)
   (tuple_addW1 t b vs.toArray ws.toArray n n2 dd dd2 sl sl2 (by simpa using hv) (by simp[hw])) ⟨ho,ho2,h1 hw⟩
 ·refine concat_meets ⟨_,ho,rfl⟩ ⟨_,ho2,rfl⟩ noFill_tuple_add seq_tuple_add PySem.F.slot_tuple_add PySem.F.entry_tuple_add (PySem.F.args_tuple_add_2 _ _)
   (tuple_addW2 t b vs.toArray ws.toArray n n2 dd dd2 sl sl2 (by simpa using hv) (by simpa using hw) (by rw[List.size_toArray,List.size_toArray];exact hsz)) ⟨ho,ho2,?_⟩
  rw[e];exact h2 hw
def BF(n d:Nat):Option Int→Nat
 |none=>d
 |some v=>if v<0 then(v+(n:Int)).toNat else min v.toNat n
def Yv(n d:Nat)(hd:d≤n)(o:Option Int):BF n d o≤n:=by
 cases o with
 |none=>exact hd
 |some v =>
  show(if v<0 then(v+(n:Int)).toNat else min v.toNat n)≤n;by_cases hv:v<0
  ·rw[if_pos hv];lia
  ·rw[if_neg hv];exact Nat.min_le_right _ _
def Qa(v:Int)(n d:Nat):(if v<0 then max (v+(n:Int)) 0 else min v (n:Int))=((BF n d (some v):Nat):Int):=by
 show(if v<0 then max (v+(n:Int)) 0 else min v (n:Int))=(((if v<0 then(v+(n:Int)).toNat else min v.toNat n):Nat):Int);by_cases hv:v<0
 ·simp only[if_pos hv];lia
 ·simp only[if_neg hv];lia
def Rg(lo hi:Option Int)(n:Nat):Builtin.Slice.sliceAdjust lo hi 1 (n:Int)=(((BF n 0 lo:Nat):Int),((BF n n hi:Nat):Int)):=by
 have h1:¬((1:Int)<0):=by lia
 unfold Builtin.Slice.sliceAdjust;simp only[h1,if_false];refine Prod.ext ?_ ?_
 ·cases lo with
  |none=>rfl
  |some v=>exact Qa v n 0
 ·cases hi with
  |none=>rfl
  |some v=>exact Qa v n n
def Ry(i j:Nat):Builtin.Slice.slicePlaces (i:Int) (j:Int) 1=j-i:=by
 unfold Builtin.Slice.slicePlaces;have h1:(1:Int) > 0:=by lia
 simp only[h1,if_true,Int.ediv_one];split<;>lia
def MH{v:VL}{o:Option Int}{Q:Option Int→SD→Prop}(p:IsPart v o)(h:Q o s):wpAny (model prog w) A (Builtin.Slice.slicePartIndex v) Q E s:=by
 cases p with
 |none=>exact slicePart_none h
 |int i t=>exact slicePart_int h
def Lk{sl:AD}{vl vu:VL}{lo hi:Option Int}{n:Nat}{Q:Int×Int×Nat→SD→Prop}(hs:s.heap.IsSliceOf sl vl vu .none)(pl:IsPart vl lo)(pu:IsPart vu hi)
 (h:Q (((BF n 0 lo:Nat):Int),1,BF n n hi-BF n 0 lo) s):wpAny (model prog w) A (Builtin.Slice.sliceApplied (.ref sl) (pure (n:Int))) Q E s:=by
 obtain⟨os,hos,hcs,hds⟩:=id hs;unfold Builtin.Slice.sliceApplied Builtin.Slice.sliceFields;refine Wb (Wb (aX hos hds (x:=vl) rfl (Wb (aX hos hds (x:=vu) rfl (Wb (aX hos hds (x:=.none) rfl (aA ?_)))))));refine Wb (slicePart_none ?_);show wpAny _ _ (if((1:Int)==0)=true then _ else _) _ _ s;rw[if_neg (by decide)];refine Wb (MH pl (Wb (MH pu (Wb (aA ?_)))));show wpAny _ _ (match Builtin.Slice.sliceAdjust lo hi 1 (n:Int) with|(lo,hi)=>pure (lo,(1:Int),Builtin.Slice.slicePlaces lo hi 1)) _ _ s;rw[Rg lo hi n];show wpAny _ _ (pure (((BF n 0 lo:Nat):Int),(1:Int),Builtin.Slice.slicePlaces ((BF n 0 lo:Nat):Int) ((BF n n hi:Nat):Int) 1)) _ _ s;rw[Ry];exact aA h
def VI(xs:Array VL)(i k:Nat):((List.range k).filterMap fun(m:Nat)=>xs[((i:Int)+(m:Int)*1).toNat]?).toArray=((xs.toList.drop i).take k).toArray:=by
 have e:(fun(m:Nat)=>xs[((i:Int)+(m:Int)*1).toNat]?)=fun m=>xs[i+m]? := by
  funext m
  have:((i:Int)+(m:Int)*1).toNat=i+m:=by lia
  rw[this]
 rw[e];have:=pick_run xs i k;rw[List.filterMap_map]at this;have e2:((fun x=>xs[x]?) ∘ fun x=>i+x)=fun m=>xs[i+m]?:=rfl;rw[e2]at this;rw[this]
def Kz{t sl:AD}{items:Array VL}{vl vu:VL}{lo hi:Option Int}{Q:VL→SD→Prop}(ht:IsTup s.heap t items)(hs:s.heap.IsSliceOf sl vl vu .none)(pl:IsPart vl lo)(pu:IsPart vu hi)
 (hw:¬(BF items.size 0 lo=0∧BF items.size items.size hi=items.size))
 (h:Q (.ref s.heap.objs.size) {s with heap:=s.heap.push { cls:=.type "tuple",data:=.seq ((items.toList.drop (BF items.size 0 lo)).take (BF items.size items.size hi-BF items.size 0 lo)).toArray} })
 (hsz:items.size≤sizeLine):wpAny (model prog w) A (getItem (.ref t) (.ref sl)) Q E s:=by
 have htake:sizeOk (.seq ((items.toList.drop (BF items.size 0 lo)).take (BF items.size items.size hi-BF items.size 0 lo)).toArray):=by
  show((items.toList.drop (BF items.size 0 lo)).take (BF items.size items.size hi-BF items.size 0 lo)).toArray.size≤sizeLine;rw[List.size_toArray,List.length_take,List.length_drop,Array.length_toList]
  lia
 have hj:BF items.size items.size hi≤items.size:=Yv _ _ (aG _) hi;obtain⟨os,hos,hcs,hds⟩:=id hs;have hTs:s.TypeIs (.ref sl) "slice" := ⟨os,hos,hcs⟩;unfold getItem
 try with_reducible refine aU ?_
 first|refine Wb (aA ?_)|skip
 refine Wb (wpAny_sequenceKey ht.typeIs (by decide) ?_);refine Wb (aY (name:=Str.ofString "__getitem__") ht.typeIs PyProof.Rows.slot_tuple_getitem
  (aS PyProof.Rows.slot_tuple_getitem ht.typeIs entry_tuple_getitem ?_ (args_tuple_getitem _ _)))
 show wpAny _ _ (Builtin.Tuple.tupleItemsOf (.ref t)>>=_) _ _ s;refine Wb (tupleItemsOf_ ht ?_);refine Wb (wpAny_typeOf hTs ?_);rw[if_pos (by decide)];refine Wb (Lk hs pl pu ?_);have hno:¬((((BF items.size 0 lo:Nat):Int)==0&&(1:Int)==1&&(BF items.size items.size hi-BF items.size 0 lo)==items.size)=true):=by
  intro q;rw[Bool.and_eq_true,Bool.and_eq_true]at q;have q1:((BF items.size 0 lo:Nat):Int)=0:=eq_of_beq q.1.1;have q2:BF items.size items.size hi-BF items.size 0 lo=items.size:=eq_of_beq q.2;exact hw ⟨by lia,by lia⟩
 show wpAny _ _ (if(((BF items.size 0 lo:Nat):Int)==0&&(1:Int)==1&&(BF items.size items.size hi-BF items.size 0 lo)==items.size)=true then _ else _) _ _ s;rw[if_neg hno,VI]
 first
  |exact Wb (m:=Builtin.Tuple.tupleExact _) (ai (aA ⟨_,rfl,wpAny_pure h⟩) htake)
  |exact Wb (m:=Builtin.Tuple.tupleExact _) (ai (Wb (aA (aA ⟨_,rfl,wpAny_pure h⟩))) htake)
  |exact Wb (Wb (m:=Builtin.Tuple.tupleExact _) (ai (aA (aA ⟨_,rfl,wpAny_pure h⟩)) htake))
  |exact Wb (Wb (m:=Builtin.Tuple.tupleExact _) (ai (aA ⟨_,rfl,wpAny_pure h⟩) htake))
end
end HT
namespace L2
open PySem PySem.Spec PyProof.Rows
abbrev TO:=St→Hp→(Option Int→Hp→Prop)→Prop
def PO(X:Cx)(e:Option Expr)(t:TO):Prop :=
 ∀(pins:List (AD×Obj)) (s:SD) (σ:St) (H:Hp) (Q:Option Int→Hp→Prop),Inv X pins σ H s→t σ H Q →
  wpAny (model X.prog X.w) X.A (evalPart e X.env) (fun u s'=>∃o H',Inv X pins σ H' s'∧IsPart u o∧Q o H') X.xe s
def W0:TO:=fun _ H Q=>Q none H
def cN(t:TE):TO:=fun σ H Q=>t σ H fun x H1=>∃i,x=.int i∧Q (some i) H1
def intsAre_of{ns:List Int}:∀ {us:List VL},Vals (ns.map V.int) us→IntsAre us ns:=by
 induction ns with
 |nil=>intro us r;rw[List.map_nil]at r;cases r;exact .nil
 |cons n ns ih =>
  intro us r;rw[List.map_cons]at r;cases r with
  |cons r1 r2 =>
   obtain⟨t,e⟩:=r1;subst e;exact .cons n t (ih r2)
section
variable{X:Cx}{e:Expr}{te:TE}{lo hi:Option Expr}{tl th:TO}{pos p2:Pos}
def Wq:PO X none W0:=by
 intro pins s σ H Q I h;rw[evalPart_none];exact aA ⟨none,H,I,.none,h⟩
def Xy(h:PE X e te):PO X (some e) (cN te):=by
 intro pins s σ H Q I hw;rw[evalPart_some];refine Az (h pins s σ H _ I hw) fun u s1 ⟨x,H1,I1,r1,q1⟩=>?_;obtain⟨i,rfl,q⟩:=q1;obtain⟨t,rfl⟩:=r1;exact⟨some i,H1,I1,.int i t,q⟩
def OW(X:Cx)(r:V→Option Int→Option Int→Hp→VK→Prop):Prop :=
 ∀(pins:List (AD×Obj)) (s:SD) (σ:St) (H:Hp) (x:V) (v vl vu:VL) (lo hi:Option Int) (sl:AD) (Q:VK),Inv X pins σ H s→RelV x v→s.heap.IsSliceOf sl vl vu .none→IsPart vl lo→IsPart vu hi→r x lo hi H Q →
  ∃T id,typeLookup (.type T) "__getitem__" = pure (some (.builtin id))∧s.TypeIs v T∧wpAny (model X.prog X.w) X.A (getItem v (.ref sl)) (EP X pins σ Q) X.xe s
def OW.or{r r':V→Option Int→Option Int→Hp→VK→Prop}(h:OW X r)(h':OW X r'):OW X (fun x lo hi H Q=>r x lo hi H Q∨r' x lo hi H Q):=by
 intro pins s σ H x v vl vu lo hi sl Q I rx hs pl pu q;rcases q with q|q
 ·exact h pins s σ H x v vl vu lo hi sl Q I rx hs pl pu q
 ·exact h' pins s σ H x v vl vu lo hi sl Q I rx hs pl pu q
def fK(r:V→Option Int→Option Int→Hp→VK→Prop)(te:TE)(tl th:TO):TE:=fun σ H Q=>te σ H fun x H1=>tl σ H1 fun l H2=>th σ H2 fun u H3=>r x l u H3 Q
def Ux{r:V→Option Int→Option Int→Hp→VK→Prop}(hr:OW X r)(he:PE X e te)(hl:PO X lo tl)(hu:PO X hi th):PE X (.Subscript e (.Slice lo hi none p2) pos) (fK r te tl th):=by
 intro pins s σ H Q I h;refine Subscript_ (Az (he pins s σ H _ I h) fun v s1 ⟨x,H1,I1,r1,q1⟩=>?_);refine wpAny_Slice (Az (hl pins s1 σ H1 _ I1 q1) fun vl s2 ⟨l,H2,I2,pl,q2⟩=>Az (hu pins s2 σ H2 _ I2 q2) fun vu s3 ⟨u,H3,I3,pu,q3⟩=>?_);rw[evalPart_none];refine aA ?_;have I4:Inv X pins σ H3 {s3 with heap:=s3.heap.push { cls:=.type "slice",data:=.fields #[vl,vu,.none]} }:=I3.kept (t':=s3.toks) fun b ob q=>aC _ q;obtain⟨T,id,hT,ht,hg⟩:=hr pins {s3 with heap:=s3.heap.push { cls:=.type "slice",data:=.fields #[vl,vu,.none]} } σ H3 x v vl vu l u s3.heap.objs.size Q I4 r1 (Heap.IsSliceOf.new ..) pl pu q3;show wpAny (model X.prog X.w) X.A (subscriptTail e (.Slice lo hi none p2) v (.ref s3.heap.objs.size)) (EP X pins σ Q) X.xe {s3 with heap:=s3.heap.push { cls:=.type "slice",data:=.fields #[vl,vu,.none]} };exact tail_any (ops:=[.ref s3.heap.objs.size,v]) ht hT hg (by with_unfolding_all rfl)
def KU(xs:List V)(lo hi:Option Int):List V:=(xs.drop (HT.BF xs.length 0 lo)).take (HT.BF xs.length xs.length hi-HT.BF xs.length 0 lo)
def LD(xs:List V)(lo hi:Option Int):(KU xs lo hi).length≤xs.length:=by
 unfold KU;rw[List.length_take,List.length_drop]
 lia
def eL(K:Fg):V→Option Int→Option Int→Hp→VK→Prop:=fun x lo hi H Q=>∃a xs,x=.ref a∧Au K H a xs ∧
 ¬(HT.BF xs.length 0 lo=0∧HT.BF xs.length xs.length hi=xs.length)∧∀p,H p=none→Q (.ref p) (upd H p (.tup (KU xs lo hi)))
def Y1:OW X (eL X.K):=by
 intro pins s σ H x v vl vu lo hi sl Q I rx hs pl pu h;obtain⟨a,xs,rfl,hx,hw,q⟩:=h;cases rx;obtain⟨its,r,ht,hz⟩:=I.tuple hx;have hlen:its.toArray.size=xs.length:=by rw[List.size_toArray];exact r.length.symm
 refine⟨"tuple",_,PyProof.Rows.slot_tuple_getitem.lookup,ht.typeIs,?_⟩;refine HT.Kz ht hs pl pu (by rw[hlen];exact hw) ?_ (by rw[hlen];exact hz);rw[hlen];refine⟨.ref s.heap.objs.size,_,I.laid (t':=s.toks) (o:=.tup (KU xs lo hi)) (fun b ob q=>aC _ q) (aG _) ?_,rfl,q _ (I.Af.fresh (aG _))⟩;exact⟨aM (LD xs lo hi) hz,_,(r.drop (HT.BF xs.length 0 lo)).take (HT.BF xs.length xs.length hi-HT.BF xs.length 0 lo),IsTup.new _ _⟩
def Vals.RJ{xs:List V}{us:List VL}(r:Vals xs us):us=[] ↔ xs=[]:=by
 cases r with
 |nil=>simp
 |cons _ _=>simp
end
def NT(n:Nat)(i:Int):Option Nat:=if 0≤i then(if i<n then some i.toNat else none) else if -(n:Int)≤i then some (i+n).toNat else none
def EZ{α:Type}(xs:List α)(i:Int):Option α:=(NT xs.length i).bind fun j=>xs[j]?
def XR{n:Nat}{i:Int}{j:Nat}(h:NT n i=some j):seqIndex? i n=some j∧j<n∧-(n:Int)≤i∧i<n:=by
 unfold NT at h;by_cases h0:0≤i
 ·rw[if_pos h0]at h;by_cases h1:i<n
  ·rw[if_pos h1]at h;have e:i.toNat=j:=ab h;exact⟨by rw[seqIndex_of h0 h1,e],by lia,by lia,h1⟩
  ·rw[if_neg h1]at h;cases h
 ·rw[if_neg h0]at h;by_cases h1:-(n:Int)≤i
  ·rw[if_pos h1]at h;have e:(i+n).toNat=j:=ab h;exact⟨by rw[seqIndex_neg (by lia) h1,e],by lia,h1,by lia⟩
  ·rw[if_neg h1]at h;cases h
def M3{α:Type}{xs:List α}{i:Int}{v:α}(h:EZ xs i=some v):∃j,seqIndex? i xs.length=some j∧xs[j]? = some v∧j<xs.length∧-(xs.length:Int)≤i∧i<xs.length:=by
 unfold EZ at h;cases e:NT xs.length i with
 |none=>rw[e]at h;cases h
 |some j =>
  rw[e]at h;obtain⟨h1,h2,h3,h4⟩:=XR e;exact⟨j,h1,h,h2,h3,h4⟩
def QY{α:Type}{xs:List α}{j:Nat}{v:α}(h:xs[j]? = some v):EZ xs (j:Int)=some v:=by
 have hj:j<xs.length:=(aE.mp h).1;have e:NT xs.length (j:Int)=some j:=by
  unfold NT;rw[if_pos (by lia),if_pos (by lia)];simp
 unfold EZ;rw[e];exact h
def Uy{α:Type}(xs:List α)(v:α):EZ (xs++[v]) (-1)=some v:=by
 have hl:(xs++[v]).length=xs.length+1:=by simp
 have e:NT (xs++[v]).length (-1)=some xs.length:=by
  unfold NT;rw[hl,if_neg (by decide),if_pos (by lia)]
  congr 1
  lia
 unfold EZ;rw[e];show(xs++[v])[xs.length]? = some v;simp
def RG(b:Expr):Prop:=∀o i,subscripted b false o i=operate [o,i] (getItem o i)
def K9(X:Cx)(r:R2):Prop :=
 ∀(value slice:Expr) (pins:List (AD×Obj)) (s:SD) (σ:St) (H:Hp) (x y:V) (v u:VL) (Q:VK),Inv X pins σ H s→RelV x v→RelV y u→r x y H Q →
  subscripted slice false v u=operate [v,u] (getItem v u)→wpAny (model X.prog X.w) X.A (subscriptTail value slice v u) (EP X pins σ Q) X.xe s
def fM(X:Cx)(id:String)(r:V→List V→Hp→VK→Prop):Prop :=
 ∀(pins:List (AD×Obj)) (s:SD) (σ:St) (H:Hp) (x:V) (xs:List V) (v:VL) (us:List VL) (Q:VK),Inv X pins σ H s→RelV x v→Vals xs us→r x xs H Q →
  wpAny (model X.prog X.w) X.A (call (.builtin id) (v::us)) (EP X pins σ Q) X.xe s
section
variable{X:Cx}{a b:Expr}{ta tb:TE}{pos:Pos}
def K9.or{r r':R2}(h:K9 X r)(h':K9 X r'):K9 X (fun x y H Q=>r x y H Q∨r' x y H Q):=by
 intro value slice pins s σ H x y v u Q I rx ry q hs;rcases q with q|q
 ·exact h value slice pins s σ H x y v u Q I rx ry q hs
 ·exact h' value slice pins s σ H x y v u Q I rx ry q hs
def CM{r:R2}(hr:K9 X r)(ha:PE X a ta)(hb:PE X b tb)(hs:RG b):PE X (.Subscript a b pos) (Sm r ta tb):=by
 intro pins s σ H Q I h;exact Subscript_ (Vq ha hb I h fun v u s2 x y H2 I2 rx ry q=>hr a b pins s2 σ H2 x y v u Q I2 rx ry q (hs _ _))
def ZD(K:Fg):R2:=fun x y H Q=>∃p xs i v,x=.ref p∧y=.int i∧Ae K H p xs∧EZ xs i=some v∧Q v H
def U1(K:Fg):R2:=fun x y H Q=>∃p xs i v,x=.ref p∧y=.int i∧Au K H p xs∧EZ xs i=some v∧Q v H
def Z5:R2:=fun x y H Q=>∃z i c,x=.str z∧y=.int i∧z.length≤sizeLine∧EZ z.cps.toList i=some c∧Q (.str ⟨#[c]⟩) H
def Qd:K9 X (ZD X.K):=by
 intro value slice pins s σ H x y v u Q I rx ry h hs;obtain⟨p,xs,i,z,rfl,rfl,hq,he,q⟩:=h;cases rx;obtain⟨t,rfl⟩:=ry;obtain⟨its,r,pl,hz⟩:=I.list hq;obtain⟨j,h1,h2,h3,h4,h5⟩:=M3 he;obtain⟨w,ew,rw'⟩:=r.get h2;have hl:=r.length;have hn:=Lx;have fin:EP X pins σ Q w s:=⟨z,H,I,rw',q⟩;by_cases h0:0≤i
 ·have hj:i.toNat=j:=by
   rw[seqIndex_of h0 h5]at h1;exact ab h1
  exact item_listR pl.isList h0 (by lia) (by rw[hj];simpa using ew) fin hs
 ·have hj:(i+(its.toArray.size:Int)).toNat=j:=by
   rw[seqIndex_neg (by lia) h4]at h1;rw[List.size_toArray,←hl];exact ab h1
  exact subscriptTail_builtinR (x:=w) pl.isList.typeIs slot_list_getitem.lookup
   (wpAny_getItem_list_neg (Q:=fun r s'=>r=w∧EP X pins σ Q r s') pl.isList (by lia) (by rw[List.size_toArray]<;>lia) (by lia) (by rw[hj];simpa using ew) ⟨rfl,fin⟩) hs
def CS:K9 X (U1 X.K):=by
 intro value slice pins s σ H x y v u Q I rx ry h hs;obtain⟨p,xs,i,z,rfl,rfl,hq,he,q⟩:=h;cases rx;obtain⟨t,rfl⟩:=ry;obtain⟨its,r,pl,hz⟩:=I.tuple hq;obtain⟨j,h1,h2,h3,h4,h5⟩:=M3 he;obtain⟨w,ew,rw'⟩:=r.get h2;have hl:=r.length;have hn:=Lx;have fin:EP X pins σ Q w s:=⟨z,H,I,rw',q⟩;exact subscriptTail_builtinR (x:=w) pl.typeIs slot_tuple_getitem.lookup
  (getItem_tuple (j:=j) (Q:=fun r s'=>r=w∧EP X pins σ Q r s') pl (by lia) (by lia) (by rw[List.size_toArray,←hl];exact h1) (by simpa using ew) ⟨rfl,fin⟩) hs
def ZW:K9 X Z5:=by
 intro value slice pins s σ H x y v u Q I rx ry h hs;obtain⟨z,i,c,rfl,rfl,hz,he,q⟩:=h;obtain⟨t,rfl⟩:=rx;obtain⟨t',rfl⟩:=ry;obtain⟨j,h1,h2,h3,h4,h5⟩:=M3 he;have hl:z.cps.toList.length=z.length:=by simp[Str.length]
 rw[hl]at h1 h4 h5;have hn:=Lx;exact tail_any (typeIs_str s z t) slot_str_getitem.lookup (getItem_str (c:=c) (by
  have e1:decide (i < -(2^63:Int))=false:=bI (by lia);have e2:decide (i ≥ 2^63)=false:=bI (by lia);rw[e1,e2,Bool.or_false]) (by rw[h1];simpa using h2) ⟨.str ⟨#[c]⟩,H,I.tok _,⟨_,rfl⟩,q⟩) hs
def fH(K:Fg):R2:=fun x y H Q=>ZD K x y H Q∨U1 K x y H Q∨Z5 x y H Q
def bw:K9 X (fH X.K):=Qd.or (CS.or ZW)
def PR(lo hi:Option Int)(n:Nat):(sliceBounds lo hi none n).1=((HT.BF n 0 lo:Nat):Int)∧(sliceBounds lo hi none n).2.1=((HT.BF n n hi:Nat):Int)∧(sliceBounds lo hi none n).2.2=1:=by
 refine⟨?_,?_,rfl⟩
 ·cases lo with
  |none=>simp[sliceBounds,HT.BF]
  |some i =>
   simp only[sliceBounds,HT.BF,Option.getD_none,show(1:Int) > 0 by decide,if_true];by_cases h:i<0
   ·simp only[h,if_true]<;>lia
   ·simp only[h,if_false]<;>lia
 ·cases hi with
  |none=>simp[sliceBounds,HT.BF]
  |some i =>
   simp only[sliceBounds,HT.BF,Option.getD_none,show(1:Int) > 0 by decide,if_true];by_cases h:i<0
   ·simp only[h,if_true]<;>lia
   ·simp only[h,if_false]<;>lia
def N0(its:List VL)(lo hi:Option Int):slicePick its.toArray lo hi none=((its.drop (HT.BF its.length 0 lo)).take (HT.BF its.length its.length hi-HT.BF its.length 0 lo)).toArray:=by
 obtain⟨h1,h2,h3⟩:=PR lo hi its.toArray.size;unfold slicePick;rw[h1,h2,h3];simp only[sliceRange_one,pick_run,List.size_toArray]<;>rfl
def dj(K:Fg):V→Option Int→Option Int→Hp→VK→Prop:=fun x lo hi H Q=>∃a xs,x=.ref a∧Ae K H a xs∧∀p,H p=none→Q (.ref p) (upd H p (.lst (KU xs lo hi)))
def XY:OW X (dj X.K):=by
 intro pins s σ H x v vl vu lo hi sl Q I rx hs pl pu h;obtain⟨a,xs,rfl,hx,q⟩:=h;cases rx;obtain⟨its,r,ht,hz⟩:=I.list hx;have hlen:=r.length;refine⟨"list",_,slot_list_getitem.lookup,ht.isList.typeIs,?_⟩;refine wpAny_getItem_list_slice ht.isList hs pl pu .none (by simp) ?_ (by rw[List.size_toArray]<;>lia);rw[N0,←hlen];refine⟨.ref s.heap.objs.size,_,I.laid (t':=s.toks) (o:=.lst (KU xs lo hi)) (fun b ob q=>aC _ q) (aG _) ?_,rfl,q _ (I.Af.fresh (aG _))⟩;exact⟨aM (LD xs lo hi) hz,_,0,(r.drop (HT.BF xs.length 0 lo)).take (HT.BF xs.length xs.length hi-HT.BF xs.length 0 lo),Heap.get?_push_size _ rfl⟩
def Bk:Cv X (.builtin "len") (fun xs H Q=>∃p ys,xs=[.ref p]∧(Ae X.K H p ys∨Au X.K H p ys)∧Q (.int ys.length) H):=by
 intro pins s σ H xs us Q I r h;obtain⟨p,ys,rfl,hq,q⟩:=h;obtain⟨u,rfl,rx⟩:=vals1 r;cases rx;have hn:=Lx;rcases hq with hq|hq
 ·obtain⟨its,r',pl,hz⟩:=I.list hq;have hlen:=r'.length;exact Calls.call_len_list pl.isList (by simp only[List.size_toArray]<;>lia) ⟨.int ys.length,H,I.tok _,⟨s.toks+1,by rw[List.size_toArray,hlen]⟩,q⟩
 ·obtain⟨its,r',pl,hz⟩:=I.tuple hq;have hlen:=r'.length;exact len_tuple pl (by simp only[List.size_toArray]<;>lia) ⟨.int ys.length,H,I.tok _,⟨s.toks+1,by rw[List.size_toArray,hlen]⟩,q⟩
def Cv.or{f:VL}{r r':List V→Hp→VK→Prop}(h:Cv X f r)(h':Cv X f r'):Cv X f (fun xs H Q=>r xs H Q∨r' xs H Q):=by
 intro pins s σ H xs us Q I rs q;rcases q with q|q
 ·exact h pins s σ H xs us Q I rs q
 ·exact h' pins s σ H xs us Q I rs q
def PN:Cv X (.type "list") (fun xs H Q=>∃p ys,xs=[.ref p]∧(Ae X.K H p ys∨Au X.K H p ys)∧∀l,H l=none→Q (.ref l) (upd H l (.lst ys))):=by
 intro pins s σ H xs us Q I r h;obtain⟨p,ys,rfl,hq,q⟩:=h;obtain⟨u,rfl,rx⟩:=vals1 r;cases rx;have fin:∀(its:List VL),Vals ys its→ys.length≤sizeLine→∀(h':Heap) (c':Nat),(∀b o',s.heap.get? b=some o'→h'.get? b=some o') →
   h'.get? s.heap.objs.size=some { cls:=.type "list",dict:=none,data:=.seq its.toArray c',slots:=#[]}→EP X pins σ Q (.ref s.heap.objs.size) {s with heap:=h'}:=fun its r' hz h' c' kp e =>
  ⟨.ref s.heap.objs.size,_,I.laid (t':=s.toks) kp (aG _) (show Bb X.prog X.w _ h' _ (.lst ys) from⟨hz,its,c',r',e⟩),rfl,q _ (I.Af.fresh (aG _))⟩
 rcases hq with hq|hq
 ·obtain⟨its,r',pl,hz⟩:=I.list hq;have hlen:=r'.length;obtain⟨o,ho,hc,n,hd⟩:=pl.isList;exact call_list_seq p (.inl rfl) ho hc hd (fun h' c' kp e=>fin its r' hz h' c' kp e) (by simp only[List.size_toArray]<;>lia)
 ·obtain⟨its,r',pl,hz⟩:=I.tuple hq;have hlen:=r'.length;obtain⟨o,ho,hc,n,hd⟩:=pl;exact call_list_seq p (.inr rfl) ho hc hd (fun h' c' kp e=>fin its r' hz h' c' kp e) (by simp only[List.size_toArray]<;>lia)
def N2:Cv X (.type "tuple") (fun xs H Q=>∃p ys,xs=[.ref p]∧((Ae X.K H p ys∧∀l,H l=none→Q (.ref l) (upd H l (.tup ys)))∨(Au X.K H p ys∧Q (.ref p) H))):=by
 intro pins s σ H xs us Q I r h;obtain⟨p,ys,rfl,h⟩:=h;obtain⟨u,rfl,rx⟩:=vals1 r;cases rx;rcases h with ⟨hq,q⟩|⟨hq,q⟩
 ·obtain⟨its,r',pl,hz⟩:=I.list hq;have hlen:=r'.length;refine call_tuple_list pl.isList (fun h' kp=>?_) (by simp only[List.size_toArray]<;>lia);have I1:Inv X pins σ H {s with heap:=h'}:=I.kept (t':=s.toks) kp;have I2:Inv X pins σ (upd H h'.objs.size (.tup ys)) {s with heap:=h'.push { cls:=.type "tuple",data:=.seq its.toArray} } :=
   I1.laid (t':=s.toks) (fun b o e=>aC _ e) (aG _) (show Bb X.prog X.w _ _ _ (.tup ys) from⟨hz,its,r',IsTup.new _ _⟩)
  exact⟨.ref h'.objs.size,_,I2,rfl,q _ (I1.Af.fresh (aG _))⟩
 ·obtain⟨its,r',pl,hz⟩:=I.tuple hq;exact call_tuple_same pl ⟨.ref p,H,I,rfl,q⟩
def dC(K:Fg)(T:String)(x:V)(H:Hp):Prop:=match x with
 |.str _=>T = "str"
 |.int _=>T = "int"
 |.ref p=>(T = "list" ∧ ∃xs,Ae K H p xs)∨(T = "tuple" ∧ ∃o,K.lookup p=some o∧o.cls=.type "tuple" ∧ o.dict=none) ∨
   (T = "dict" ∧((∃kvs,H p=some (.dK kvs))∨∃kvs,H p=some (.dT kvs)))∨(T = "set" ∧ ∃S n,H p=some (.set S n))
 |_=>False
def YJ{pins:List (AD×Obj)}{σ:St}{H:Hp}{s:SD}{T:String}{x:V}{v:VL}(I:Inv X pins σ H s)(r:RelV x v)(ty:dC X.K T x H) :
  s.TypeIs v T∧∀a,v=.ref a→∃ob,s.heap.get? a=some ob∧ob.dict=none:=by
 cases x with
 |str z =>
  obtain⟨t,rfl⟩:=r;cases (show T = "str" from ty);exact⟨typeIs_str s z t,fun _ e=>nomatch e⟩
 |int i =>
  obtain⟨t,rfl⟩:=r;cases (show T = "int" from ty);exact⟨typeIs_int s i t,fun _ e=>nomatch e⟩
 |ref p =>
  cases r;rcases ty with ⟨rfl,xs,hq⟩|⟨rfl,o,hk,hc,hd⟩|⟨rfl,hk⟩|⟨rfl,S,n,hk⟩
  ·obtain⟨its,_,pl,_⟩:=I.list hq;refine⟨pl.isList.typeIs,fun a e=>?_⟩;cases e;obtain⟨o,n,e,c,hd,_⟩:=pl;exact⟨o,e,hd⟩
  ·refine⟨⟨o,I.F8 p o hk,hc⟩,fun a e=>?_⟩;cases e;exact⟨o,I.F8 _ o hk,hd⟩
  ·have z:∃o,s.heap.get? p=some o∧o.ExactDict:=by
    rcases hk with ⟨kvs,hk⟩|⟨kvs,hk⟩
    ·obtain⟨_,_,_,_,o,_,_,e,ex,_⟩:=I.Af p _ hk;exact⟨o,e,ex⟩
    ·obtain⟨_,_,_,_,o,_,_,e,ex,_⟩:=I.Af p _ hk;exact⟨o,e,ex⟩
   obtain⟨o,e,ex⟩:=z;refine⟨⟨o,e,ex.1⟩,fun a e2=>?_⟩;cases e2;exact⟨o,e,ex.2.1⟩
  ·obtain⟨o,_,_,_,e,ex,_⟩:=I.Af p _ hk;refine⟨⟨o,e,ex.1⟩,fun a e2=>?_⟩;cases e2;exact⟨o,e,ex.2.1⟩
 |_=>exact False.elim ty
def Z4(K:Fg)(T:String)(r:V→List V→Hp→VK→Prop)(to:TE)(t:TA):TE:=fun σ H Q=>to σ H fun x H1=>dC K T x H1∧t σ H1 fun xs H2=>r x xs H2 Q
variable{o e:Expr}{es:List Expr}{to:TE}{t:TA}{name:Str}{apos cpos:Pos}{T id:String}{r:V→List V→Hp→VK→Prop}
def OB(pa:PlainAttrs T)(slot:Slot T name id)(hty:typeOf (.builtin id)=pure (.type "method_descriptor"))(hm:fM X id r)(ho:PE X o to)(ha:PA X (e::es) t)
 (hbase:attributeBase o name X.env (eval o X.env)=eval o X.env:=by rfl)
 (hfew:((backTo cpos (starEach (e::es) X.env)).all (fun x=>!x.1)&&(backToKw cpos (keywordEach [] X.env)).all (fun x=>x.1.isSome)
   && decide ((e::es).length+([]:List Keyword).length+(if([]:List Keyword).isEmpty then 0 else 1)<30))=true:=by rfl)
 (hline:(apos.endLine==cpos.line)=true:=by rfl)(hs:starEach (e::es) X.env=(false,eval e X.env)::starEach es X.env:=by rfl)(hplain:(backTo cpos (starEach es X.env)).any (·.1)=false:=by rfl) :
  PE X (.Call (.Attribute o name apos) (e::es) [] cpos) (Z4 X.K T r to t):=by
 intro pins s σ H Q I h;refine wpAny_Call_method_late hbase hfew hline rfl (Az (ho pins s σ H _ I h) fun v s1 ⟨x,H1,I1,r1,ty,q1⟩=>?_);obtain⟨h1,h2⟩:=YJ I1 r1 ty;refine⟨T,id,pa,slot,hty,h1,h2,?_⟩;have hA:=ha cpos pins s1 σ H1 _ I1 q1;rw[hs]at hA ⊢;refine Calls.callWith_builtin (by show(false||(backTo cpos (starEach es X.env)).any (·.1))=false;rw[hplain]<;>rfl) (Calls.evalArgs_plain ?_);exact Az hA fun us s2 ⟨vs,H2,I2,r2,q2⟩=>hm pins s2 σ H2 x vs v us Q I2 r1 r2 q2
end
def dD(X:Cx)(id:String)(r:V→List V→Hp→VK→Prop):Prop :=
 ∀(pins:List (AD×Obj)) (s:SD) (σ:St) (H:Hp) (x:V) (xs:List V) (v:VL) (us:List VL) (Q:VK),Inv X pins σ H s→RelV x v→Vals xs us→r x xs H Q →
  wpAny (model X.prog X.w) X.A (call (.builtin id) (v::us)) (EP X pins σ Q) X.xe s
def Vals.one:∀ {x:V} {us:List VL},Vals [x] us→∃u,us=[u]∧RelV x u
 |_,_,.cons r .nil=>⟨_,rfl,r⟩
def Vals.two:∀ {x y:V} {us:List VL},Vals [x,y] us→∃u v,us=[u,v]∧RelV x u∧RelV y v
 |_,_,_,.cons r (.cons q .nil)=>⟨_,_,rfl,r,q⟩
def Vals.rep{xs:List V}{us:List VL}(h:Vals xs us):∀k:Nat,Vals (List.replicate k xs).flatten (List.replicate k us).flatten
 |0=>.nil
 |k+1=>by
  rw[List.replicate_succ,List.replicate_succ,List.flatten_cons,List.flatten_cons];exact Vals.append h (Vals.rep h k)
def foldl_rep(its:List VL):∀(k:Nat) (acc:List VL),
  List.foldl (fun x1 x2=>x1++x2) acc.toArray (List.replicate k its.toArray)=(acc++(List.replicate k its).flatten).toArray
 |0,acc=>by simp
 |k+1,acc=>by
  have e:acc.toArray++its.toArray=(acc++its).toArray:=by simp
  have e2:(acc++its)++(List.replicate k its).flatten=acc++(List.replicate (k+1) its).flatten:=by
   rw[List.replicate_succ,List.flatten_cons,List.append_assoc]
  rw[←e2,←foldl_rep its k (acc++its),←e,List.replicate_succ,List.foldl_cons]
section
variable{X:Cx}{pins:List (AD×Obj)}{σ:St}{H:Hp}{s:SD}{l:AD}{xs ys:List V}
def Inv.a9{its its':List VL}{n:Nat}{f:Array VL→Array VL}{t':Nat}(I:Inv X pins σ H s)(hH:H l=some (.lst xs))
 (e:s.heap.get? l=some { cls:=.type "list",data:=.seq its.toArray n})(hf:f its.toArray=its'.toArray)(hv:Vals ys its')(hz:ys.length≤sizeLine) :
  Inv X pins σ (upd H l (.lst ys)) {s with heap:=s.heap.update l (Obj.mapSeq f),toks:=t'}:=by
 have q:=PySem.IsL.update e f;rw[hf]at q;refine I.write (x:=l) (e:=l) (by rw[hH];exact trivial) (.inl rfl) (fun b' u hb hu=>(Heap.get?_update_other s.heap (Obj.mapSeq f) (Ne.symm hb)).trans hu) ⟨_,q⟩ ?_;exact⟨hz,its',_,hv,q⟩
def Inv.bX{its:List VL}{t':Nat}(I:Inv X pins σ H s)(hv:Vals ys its)(hz:ys.length≤sizeLine) :
  Inv X pins σ (upd H s.heap.objs.size (.lst ys)) {s with heap:=s.heap.push { cls:=.type "list",data:=.seq its.toArray},toks:=t'} :=
 I.laid (fun _ _ q=>aC _ q) (aG _) ⟨hz,its,0,hv,Heap.get?_push_size _ rfl⟩
def Inv.fresh(I:Inv X pins σ H s):H s.heap.objs.size=none:=I.Af.fresh (aG _)
def Inv.Ml(I:Inv X pins σ H s)(hH:H l=some (.lst xs)):xs.length≤sizeLine∧∃(its:List VL) (n:Nat),Vals xs its∧xs.length=its.length∧s.heap.get? l=some { cls:=.type "list",data:=.seq its.toArray n}:=by
 obtain⟨z,its,n,r,e⟩:=I.Af l _ hH;exact⟨z,its,n,r,r.length,e⟩
def PV{n:Nat}(h:n≤sizeLine):Builtin.List.listTooLong n=false:=by
 unfold Builtin.List.listTooLong;exact bI (by lia)
end
section
variable{X:Cx}
def RB:V→List V→Hp→VK→Prop:=fun x vs H Q=>∃l xs y,x=.ref l∧vs=[y]∧H l=some (.lst xs)∧xs.length<sizeLine∧Q .BI (upd H l (.lst (xs++[y])))
def J7:dD X "list.append" RB:=by
 intro pins s σ H x vs v us Q I rx rv h;obtain⟨l,xs,y,rfl,rfl,hH,hz,q⟩:=h;cases rx;obtain⟨u,rfl,ru⟩:=rv.one;obtain⟨z,its,n,r,hl,e⟩:=I.Ml hH;refine call_meets F.slot_list_append ⟨_,e,rfl⟩ F.entry_list_append (F.args_list_append_2 _ _) (PySem.list_append l its.toArray n u (by rw[List.size_toArray];lia)) ⟨e,?_⟩;refine⟨.BI,_,I.a9 (its':=its++[u]) hH e (by simp) (r.append (.cons ru .nil)) ?_,rfl,q⟩;rw[List.length_append,List.length_singleton]
 lia
def Qx:V→List V→Hp→VK→Prop:=fun x vs H Q=>∃l b xs zs,x=.ref l∧vs=[.ref b]∧H l=some (.lst xs)∧H b=some (.lst zs)∧xs.length+zs.length≤sizeLine∧Q .BI (upd H l (.lst (xs++zs)))
def NY:dD X "list.extend" Qx:=by
 intro pins s σ H x vs v us Q I rx rv h;obtain⟨l,b,xs,zs,rfl,rfl,hH,hB,hz,q⟩:=h;cases rx;obtain⟨u,rfl,ru⟩:=rv.one;cases ru;obtain⟨z,its,n,r,hl,e⟩:=I.Ml hH;obtain⟨z2,its2,n2,r2,hl2,e2⟩:=I.Ml hB;have hsz:its.toArray.size+its2.toArray.size≤sizeLine:=by rw[List.size_toArray,List.size_toArray];lia
 have hlong:¬(!its.toArray.isEmpty&&Builtin.List.listTooLong (its.toArray.size+its2.toArray.size))=true:=by
  rw[PV hsz,Bool.and_false];exact aJ
 refine call_meets F.slot_list_extend ⟨_,e,rfl⟩ F.entry_list_extend (F.args_list_extend_2 _ _)
  (AutoSeq1.list_extend_list_list_0 l its.toArray n b its2.toArray n2 hlong (by rw[List.size_toArray];lia) (by lia)) ⟨e,e2,?_⟩
 refine⟨.BI,_,I.a9 (its':=its++its2) hH e (by simp) (r.append r2) ?_,rfl,q⟩;rw[List.length_append]
 lia
def dZ:R2:=fun x y H Q=>∃l b xs zs,x=.ref l∧y=.ref b∧H l=some (.lst xs)∧H b=some (.lst zs)∧xs.length+zs.length≤sizeLine∧∀p,H p=none→Q (.ref p) (upd H p (.lst (xs++zs)))
def Tq:Bv X (binaryOp .Add) dZ:=by
 intro pins s σ H x y v u Q I rx ry h;obtain⟨l,b,xs,zs,rfl,rfl,hH,hB,hz,q⟩:=h;cases rx;cases ry;obtain⟨z,its,n,r,hl,e⟩:=I.Ml hH;obtain⟨z2,its2,n2,r2,hl2,e2⟩:=I.Ml hB;refine PySem.P.add_list e e2 ?_ (by rw[List.size_toArray,List.size_toArray];lia);have ea:its.toArray++its2.toArray=(its++its2).toArray:=by simp
 rw[ea];exact⟨.ref _,_,I.bX (t':=s.toks) (r.append r2) (by rw[List.length_append];lia),rfl,q _ I.fresh⟩
def eg:R2:=fun x y H Q=>∃l k xs,x=.ref l∧y=.int k∧H l=some (.lst xs)∧-(2^63)≤k∧k<2^63∧xs.length*k.toNat≤sizeLine ∧
 ∀p,H p=none→Q (.ref p) (upd H p (.lst (List.replicate k.toNat xs).flatten))
def len_rep{α:Type}(xs:List α)(k:Nat):(List.replicate k xs).flatten.length=k*xs.length:=by
 induction k with
 |zero=>simp
 |succ k ih=>rw[List.replicate_succ,List.flatten_cons,List.length_append,ih,Nat.succ_mul,Nat.add_comm]
def Ul:Bv X (binaryOp .Mult) eg:=by
 intro pins s σ H x y v u Q I rx ry h;obtain⟨l,k,xs,rfl,rfl,hH,h1,h2,hz,q⟩:=h;cases rx;obtain⟨t,rfl⟩:=ry;obtain⟨z,its,n,r,hl,e⟩:=I.Ml hH;have hlen:its.toArray.size*k.toNat≤sizeLine:=by rw[List.size_toArray,←hl];exact hz
 have hcap:¬its.toArray.size*k.toNat > (2^63-1) / 8:=by
  have:(sizeLine:Nat)≤(2^63-1) / 8:=by decide
  lia
 have hfit:¬(!Builtin.List.listFitsIndex k)=true:=by
  rw[fitsIndex_both h1 h2];exact aJ
 have hlong:¬Builtin.List.listTooLong (its.toArray.size*k.toNat)=true:=by
  rw[PV hlen];exact aJ
 have hnew:List.foldl (fun x1 x2=>x1++x2) #[] (List.replicate (if its.toArray.isEmpty=true then 0 else k.toNat) its.toArray)=(List.replicate k.toNat its).flatten.toArray:=by
  have f0:∀m:Nat,List.foldl (fun x1 x2=>x1++x2) #[] (List.replicate m its.toArray)=(List.replicate m its).flatten.toArray:=fun m=>by
   have:=foldl_rep its m [];rw[List.nil_append]at this;exact this
  rw[f0];cases its with
  |nil=>simp
  |cons a r'=>rw[if_neg (by simp)]
 refine wpAny_binaryOp_repeat_ref (T := "list") (U := "int") (by decide) ⟨_,e,rfl⟩ (fun s'=>typeIs_int s' k t) noFill_list_mul F.fills_int_mul F.slot_int_rmul repeat_list F.slot_int_index.lookup
  (call_meets F.slot_int_rmul (typeIs_int s k t) F.entry_int_rmul (F.args_int_rmul_2 _ _) (int___rmul___int_list k t l its.toArray n)
   ⟨e,rfl,⟨_,e,rfl⟩,call_meets F.slot_list_mul ⟨_,e,rfl⟩ F.entry_list_mul (F.args_list_mul_2 _ _) (AutoListH.list___mul___list_int_3 l its.toArray n k t hfit hcap hlong) ⟨e,?_⟩⟩)
 rw[hnew];exact⟨.ref _,_,I.bX (t':=s.toks) (r.rep k.toNat) (by rw[len_rep,Nat.mul_comm];exact hz),rfl,q _ I.fresh⟩
end
end L2
namespace Att
open PySem PySem.W PySem.Calls PyProof.Rows
def Lu{P:Params}{h:Heap}:∀(ns:List Int) (vs:List VL),WellAll P h vs (ns.map WData.int)→IntsAre vs ns:=by
 intro ns
 induction ns with
 |nil =>
  intro vs w;rw[List.map_nil]at w;cases w;exact .nil
 |cons n ns ih =>
  intro vs w;rw[List.map_cons]at w;cases w with
  |cons a b =>
   cases a;exact .cons _ _ (ih _ b)
def TK{l:OpenLaw}{n:Nat}(hn:l.most=some n){P:Params}{h:Heap}{args:List WData}{vals:List VL}
 (hpre:l.row.toRowW.claim.pre args=true)(hwl:WellAll P h vals args) :
  ∃a vs ns,vals=[Value.ref a]∧args=[WData.list (ns.map WData.int)]∧h.get? a=some { cls:=.type "list",data:=.seq vs.toArray}∧IntsAre vs ns∧ns.length≤n:=by
 have hsh:WShape.hasAll [] args [.list .int]=true:=(pre_splitW hpre).1;have hc:l.pre.holds [] { args:=args}=true:=(pre_splitW hpre).2;obtain⟨d,r,rfl,h1,h2⟩:=hasAllW_cons hsh;obtain rfl:=hasAllW_nil h2;obtain⟨xs,rfl,h3⟩:=hasW_list h1;obtain⟨ns,rfl⟩:=items_int h3;have hlen:ns.length≤n:=by
  unfold OpenLaw.pre at hc;have h4:(WTm.not (.lt (.lit (.int (n:Int))) (.len (.arg 0)))).holds [] { args:=[.list (ns.map .int)]}=true:=by
   have h4:=(holds_andW hc).1;rw[hn]at h4;exact h4
  have h5:=condW_of h4 (w_not (w_lt w_lit (w_len_list (w_arg rfl))));rw[List.length_map]at h5;refine Nat.le_of_not_lt fun q=>?_;have q':(n:Int)<((ns.length:Nat):Int):=by lia
  first
   |(rw[decide_eq_true q']at h5;exact absurd h5 (by decide))
   |(simp at h5;lia)
 cases hwl with
 |cons w1 w2 =>
  cases w2;cases w1 with
  |list ho hall=>exact⟨_,_,ns,rfl,rfl,ho,Lu ns _ hall,hlen⟩
def UA(l:OpenLaw)(args:List WData):l.row.toRowW.claim.post args (.bool true) args=true :=
 postW_of (r:=l.row.toRowW) (X:=(true==true))
  (show WShape.has [] (.bool true) .bool=true by first|rfl|decide|simp[WShape.has,WShape.arms,WShape.armsAll])
  (show(WTm.eq .res (.lit (.bool true))).value [] { args:=args,res:=some (.bool true),after:=args}=some (.bool (true==true)) from w_eq_bool (w_res rfl) w_lit) rfl
def QK{l:OpenLaw}{n:Nat}{q:Program}{loose:List Str}{XP:(Str→Option VL)→Heap→Prop}{YP:World→Heap→Prop}{d:DefRec}
 (hn:l.most=some n)(hdf:d.params.defaults=[])
 (call:∀(w:World) (s₀ s₁:SD) (mg mb:Str→Option VL) (fa:AD) (o:Obj) (pm cd doc:VL) (a:AD) (vs:List VL) (ns:List Int),
   Ground q loose [] XP w s₀ mg mb s₁.heap→YP w s₁.heap →
   s₁.heap.get? fa=some o→o.data=.func (docDef d.name d.params d.body d.scope pm cd doc)→s₁.heap.CodeRec cd d.name→mg d.name=some (.ref fa) →
   s₁.heap.get? a=some { cls:=.type "list",data:=.seq vs.toArray}→IntsAre vs ns→ns.length≤n→s₁.gens=#[] →
   codeAny (model l.prog w) callerA (.call (.ref fa) ⟨[.ref a],[]⟩) (fun r s'=>r=.ok (.ret (.bool true))∧OldK s₁.heap s'.heap∧s'.os=s₁.os∧AllBare s'.gens) s₁) :
  WalkO q loose XP YP l.row.toRowW d [] (fun f vs=>PySem.call f vs):=by
 intro w s₀ s₁ mg mb G Y fa o pm cd doc dV kV ho hd hcd hD hmg hg args vals as hpre hlay hrd hwl hlo;obtain rfl:dV=.none:=Dflts.none hD hdf;obtain rfl:kV=.none:=Dflts.noKw hD;obtain⟨a,vs,ns,rfl,rfl,hobj,hints,hlen⟩:=TK hn hpre hwl;refine enter_call (codeAny_mono (call w s₀ s₁ mg mb fa o pm cd doc a vs ns G Y ho (fd_plain hd) hcd hmg hobj hints hlen hg) fun r s' hq=>?_);obtain⟨rfl,h2,h3,h4⟩:=hq;exact⟨.inl ⟨.bool true,.bool true,[],rfl,fun _=>rfl,.bool true,UA l _,fun _=>⟨List.Pairwise.nil,fun _ hm=>(nomatch hm)⟩⟩,h2,h3,h4⟩
end Att
namespace L2
open PySem PySem.Spec PyProof.Rows
def NX:∀ {vs:List VL} {ns:List Int},IntsAre vs ns→Vals (ns.map V.int) vs
 |_,_,.nil=>.nil
 |_,_,.cons n t h=>.cons ⟨t,rfl⟩ (NX h)
end L2
namespace L2
open PySem PySem.Spec PyProof.Rows
def EO(s:Stmt):Arguments:=match s with
 |.FunctionDef _ a _ _ _ _ _ _ _ _=>a
 |_=>{ posonlyargs:=[],args:=[],vararg:=none,kwonlyargs:=[],kw_defaults:=[],kwarg:=none,defaults:=[]}
def C1(s:Stmt):List Stmt:=match s with
 |.FunctionDef _ _ b _ _ _ _ _ _ _=>b
 |_=>[]
def AO(s:Stmt):Scope:=match s with
 |.FunctionDef _ _ _ _ _ _ sc _ _ _=>sc
 |_=>{ kind:=.function,names:=[],isGenerator:=false,isCoroutine:=false}
abbrev Ah:GJ:=fun _ _ _ _ _ _=>False
abbrev E0:XK:=fun _ _ _=>False
def cP{X:Cx}:Passes Ah X E0:=fun _ _ _ _ _ _ _ h=>h.elim
structure Qm(K:Fg)(x qual:Str)(st:Stmt)(f:Addr)(fd:FuncData):Prop where
 ex:∃(oc:Value) (od:Option Addr) (kV doc pm:Value) (an:Option Addr) (cdv ct:Value) (osl:Array (Option Value)),
  fd=PySem.W.fnOf x qual (EO st) (C1 st) (AO st) .none kV doc pm an cdv ct∧K.lookup f=some ⟨oc,od,.func fd,osl⟩∧PySem.W.codeIn K cdv qual=true
 kp:PySem.W.keepIn K (.ref f)=true
section
variable{P:Program}{w:World}{K:Fg}{mg:Str→Option VL}{base:Heap}
def Qm.ok{x qual:Str}{st:Stmt}{f:AD}{fd:FuncData}{N ps:List Str}{k:Nat}{sp:Sp}(F:Qm K x qual st f fd)(S:Ac N ps (AO st))(len:∀vs H Q E,sp vs H Q E→vs.length=ps.length)
 (hbody:∀(cdv:VL) (A:Around) (outer:List Env) (s:SD) (H:Hp) (vs:List V) (Q:VK) (E:XK),Cy k (A.deeper (envOfC qual (AO st) s.heap.objs.size f cdv))→sp vs H Q E →
   ∃t,Hr (LS Ah P w K mg base N qual (AO st) f cdv A outer s H E).T9 (C1 st) t∧t { nx:=fun _ H'=>Q .BI H',rt:=Q} (start N vs) H):AL P w K mg base Ah (k+1) f fd ps sp:=by
 obtain⟨oc,od,kV,doc,pm,an,cdv,ct,osl,rfl,lk,hcd⟩:=F.ex;refine cV lk hcd S len fun A outer s H vs Q E hr hsp=>?_;obtain⟨t,h,q⟩:=hbody cdv A outer s H vs Q E hr hsp;exact⟨t,h.T9,q⟩
def Qm.binds{x qual:Str}{st:Stmt}{f:AD}{fd:FuncData}{ps:List Str}(F:Qm K x qual st f fd)
 (h:∀(kV doc pm:VL) (an:Option AD) (cdv ct:VL) (us:List VL),us.length=ps.length→bindArgs (PySem.W.fnOf x qual (EO st) (C1 st) (AO st) .none kV doc pm an cdv ct) ⟨us,[]⟩=pure (ps.zip us)):Binds K fd ps []:=by
 obtain⟨oc,od,kV,doc,pm,an,cdv,ct,osl,rfl,lk,hcd⟩:=F.ex;exact .all (h kV doc pm an cdv ct)
def Uq{x qual:Str}{st:Stmt}{f:AD}{oc:VL}{od an:Option AD}{osl:Array (Option VL)}{kV doc pm cdv ct:VL}(l:K.lookup f=some ⟨oc,od,.func (PySem.W.fnOf x qual (EO st) (C1 st) (AO st) .none kV doc pm an cdv ct),osl⟩)
 (c:PySem.W.codeIn K cdv qual=true)(k:PySem.W.keepIn K (.ref f)=true):Qm K x qual st f (PySem.W.fnOf x qual (EO st) (C1 st) (AO st) .none kV doc pm an cdv ct):=⟨⟨oc,od,kV,doc,pm,an,cdv,ct,osl,rfl,l,c⟩,k⟩
end
def NH{n:Nat}(h:n≤1000):n<sizeLine:=ag h (by decide)
section
variable{X:Cx}
def pv(i:Nat){x:Str}{pos:Pos}(hN:X.N[i]? = some x:=by rfl)(hv:Z0 X.env.scope x:=by first|exact Or.inl rfl|exact Or.inr (Or.inl rfl)|exact Or.inr (Or.inr rfl))(hd:(x==("__debug__" : Str))=false:=by decide)
 (hcd:(x==("__classdict__" : Str))=false:=by decide):PE X (.Name x pos) (KS i):=bp hN hv hd hcd
end
def QB{A B:Prop}(h:B):if false=true then A else B:=by
 rw[if_neg aJ];exact h
def Dd{A B:Prop}(h:A):if true=true then A else B:=by
 rw[if_pos rfl];exact h
def Cm{c A B:Prop}[Decidable c](h1:c→A)(h2:¬c→B):if c then A else B:=by
 by_cases h:c
 ·rw[if_pos h];exact h1 h
 ·rw[if_neg h];exact h2 h
def AG(H H':Hp):Prop:=∀b o,H b=some o→H' b=some o
def AG.refl(H:Hp):AG H H:=fun _ _ h=>h
def AG.trans{H H1 H2:Hp}(a:AG H H1)(b:AG H1 H2):AG H H2:=fun c o h=>b c o (a c o h)
section
variable{X:Cx}
def L8(i j:Int):Prop:=∃m:Nat,m≤1000000∧i.natAbs<2^m∧j.natAbs<2^m
def L8.ok{i j:Int}(h:L8 i j):IntMulOk i j:=by
 obtain⟨m,hm,h1,h2⟩:=h;exact IntMulOk.of_le (intBits_le_iff.mpr h1) (intBits_le_iff.mpr h2) (by lia)
def Fq:Bv X (binaryOp .Mult) (rI (fun i j=>Pl i j∨L8 i j) fun i j=>.int (i*j)) :=
 Qp fun _ _ _ _ _ _ _ hc q=>mul_int q (hc.elim (fun z=>z.ok) fun z=>z.ok)
def b5(_i j:Int):Prop:=j≠0∧∃m:Nat,m≤9000∧j.natAbs<2^m
def Ei:Bv X (binaryOp .FloorDiv) (rI b5 fun i j=>.int (i.fdiv j)):=Qp fun i j _ _ _ _ _ hc q=>by
 obtain⟨h0,m,hm,h1⟩:=hc;refine floordiv_int h0 q (.inl (PyProof.noPylong_of_log2 ?_));have hne:j.natAbs≠0:=by lia
 have:j.natAbs.log2<m:=(Nat.log2_lt hne).mpr h1
 lia
mutual
def Br(K:Fg)(H:Hp):PD→V→Prop
 |.none,v=>v=.BI
 |.bool b,v=>v=.bl b
 |.int i,v=>v=.int i
 |.str x,v=>v=.str x
 |.tuple ds,v=>∃a xs,v=.ref a∧Au K H a xs∧EC K H ds xs
 |.list ds,v=>∃a xs,v=.ref a∧Ae K H a xs∧EC K H ds xs
 |.dict _,_=>False
def EC(K:Fg)(H:Hp):List PD→List V→Prop
 |[],xs=>xs=[]
 |d::ds,xs=>∃x r,xs=x::r∧Br K H d x∧EC K H ds r
end
def AG.tup{K:Fg}{H H':Hp}{a:AD}{xs:List V}(e:AG H H')(h:Au K H a xs):Au K H' a xs:=by
 rcases h with (h|⟨o,h⟩)|h
 ·exact .inl (.inl (e _ _ h))
 ·exact .inl (.inr ⟨o,e _ _ h⟩)
 ·exact .inr h
mutual
def Br.reads{pins:List (AD×Obj)}{σ:St}{H:Hp}{s:SD}(I:Inv X pins σ H s):∀ {d:PD} {v:V} {u:VL},Br X.K H d v→RelV v u→∃as,Reads s.heap u d as
 |.none,_,u,h,r=>by rw[Br]at h;subst h;cases r;exact⟨_,.none⟩
 |.bool b,_,u,h,r=>by rw[Br]at h;subst h;cases r;exact⟨_,.bool b⟩
 |.int i,_,u,h,r=>by rw[Br]at h;subst h;obtain⟨t,rfl⟩:=r;exact⟨_,.int i t⟩
 |.str x,_,u,h,r=>by rw[Br]at h;subst h;obtain⟨t,rfl⟩:=r;exact⟨_,.str x t⟩
 |.tuple ds,_,u,h,r=>by
  rw[Br]at h;obtain⟨a,xs,e1,h1,h2⟩:=h;subst e1;cases r;obtain⟨its,rv,⟨o,e,c,n,hd⟩,_⟩:=I.tuple h1;obtain⟨as,ra⟩:=EC.reads I h2 rv;exact⟨_,.tuple e c hd (by simpa using ra)⟩
 |.list ds,_,u,h,r=>by
  rw[Br]at h;obtain⟨a,xs,e1,h1,h2⟩:=h;subst e1;cases r;obtain⟨its,rv,⟨o,n,e,c,_,hd⟩,_⟩:=I.list h1;obtain⟨as,ra⟩:=EC.reads I h2 rv;exact⟨_,.list e c hd (by simpa using ra)⟩
 |.dict _,_,_,h,_=>by rw[Br]at h;exact h.elim
def EC.reads{pins:List (AD×Obj)}{σ:St}{H:Hp}{s:SD}(I:Inv X pins σ H s):∀ {ds:List PD} {xs:List V} {us:List VL},EC X.K H ds xs→Vals xs us→∃as,ReadsAll s.heap us ds as
 |[],_,us,h,r=>by rw[EC]at h;subst h;cases r;exact⟨_,.nil⟩
 |_::_,_,us,h,r=>by
  rw[EC]at h;obtain⟨x,q,e1,h1,h2⟩:=h;subst e1;cases r with
  |cons r1 r2 =>
   obtain⟨as,ra⟩:=Br.reads I h1 r1;obtain⟨bs,rb⟩:=EC.reads I h2 r2;exact⟨_,.cons ra rb⟩
end
def U8(K:Fg)(neg:Bool):R2:=fun x y H Q=>∃d e,Br K H d x∧Br K H e y∧SeqAt.shaped d=true∧SeqAt.shaped e=true∧Q (.bl (if neg then !PyData.eqv d e else PyData.eqv d e)) H
def YQ(hu:X.A.units+64<cLine):Bv X (compareOp .Eq) (U8 X.K false):=by
 intro pins s σ H x y v u Q I rx ry h;obtain⟨d,e,h1,h2,s1,s2,q⟩:=h;obtain⟨as,ra⟩:=Br.reads I h1 rx;obtain⟨bs,rb⟩:=Br.reads I h2 ry;exact eq_dataH ra rb s1 s2 hu ⟨.bl _,H,I,rfl,q⟩
def ZY(hu:X.A.units+64<cLine):Bv X (compareOp .NotEq) (U8 X.K true):=by
 intro pins s σ H x y v u Q I rx ry h;obtain⟨d,e,h1,h2,s1,s2,q⟩:=h;obtain⟨as,ra⟩:=Br.reads I h1 rx;obtain⟨bs,rb⟩:=Br.reads I h2 ry;exact ne_dataH ra rb s1 s2 hu ⟨.bl _,H,I,rfl,q⟩
end
end L2
set_option maxHeartbeats 4000000
namespace L2
open PySem PySem.Spec PyProof.Rows
def Jw(X:Cx)(ifs:List Expr)(t:TT):Prop :=
 ∀(pins:List (AD×Obj)) (s:SD) (σ:St) (H:Hp) (Q:Bool→Hp→Prop),Inv X pins σ H s→t σ H Q →
  wpAny (model X.prog X.w) X.A (forIn ifs true fun c r=>if r=true then do let ok ←isTrue c X.env (eval c X.env);pure (ForInStep.yield ok) else pure (ForInStep.yield r)) (TP X pins σ Q) X.xe s
def Gm:TT:=fun _ H Q=>Q true H
def EE{X:Cx}:Jw X [] Gm:=fun _ _ σ H _ I h=>wpAny_tests_nil ⟨H,I,h⟩
def EX(N XN:List Str)(sc xsc:Scope):List (Option Nat)→Nat→Bool
 |[],_=>true
 |none::r,i=>EX N XN sc xsc r (i+1)
 |some j::r,i=>(match N[i]?,XN[j]? with
   |some n,some m=>n==m&&sc.names.lookup n==some .free&&xsc.names.lookup n==some .cell
   |_,_=>false)&&EX N XN sc xsc r (i+1)
def LO{N XN:List Str}{sc xsc:Scope}:∀ {fr:List (Option Nat)} {k:Nat},EX N XN sc xsc fr k=true→∀ {i j:Nat},fr[i]? = some (some j) →
  ∃n,N[k+i]? = some n∧XN[j]? = some n∧sc.names.lookup n=some .free∧xsc.names.lookup n=some .cell
 |[],_,_,i,j,e=>by simp at e
 |none::r,k,h,0,j,e=>by simp at e
 |none::r,k,h,i+1,j,e=>by
  have q:=LO (fr:=r) (k:=k+1) h (i:=i) (j:=j) (by simpa using e);have z:k+(i+1)=k+1+i:=by lia
  rw[z];exact q
 |some j'::r,k,h,0,j,e=>by
  have e':j'=j:=by simpa using e
  subst e';rw[EX,Bool.and_eq_true]at h;have h1:=h.1;split at h1
  ·rename_i n m hn hm;simp only[Bool.and_eq_true,beq_iff_eq]at h1;obtain⟨⟨rfl,h2⟩,h3⟩:=h1;exact⟨n,by simpa using hn,hm,h2,h3⟩
  ·cases h1
 |some j'::r,k,h,i+1,j,e=>by
  rw[EX,Bool.and_eq_true]at h;have q:=LO (fr:=r) (k:=k+1) h.2 (i:=i) (j:=j) (by simpa using e);have z:k+(i+1)=k+1+i:=by lia
  rw[z];exact q
def carry(fr:List (Option Nat))(σ:St):St:=fr.map fun o=>match o with
 |some j=>(σ[j]?).join
 |none=>none
def Td{fr:List (Option Nat)}{σ:St}{i:Nat}{v:V}(h:(carry fr σ)[i]? = some (some v)):∃j,fr[i]? = some (some j)∧σ[j]? = some (some v):=by
 unfold carry at h;rw[List.getElem?_map]at h;cases e:fr[i]? with
 |none=>rw[e]at h;cases h
 |some o =>
  rw[e]at h;cases o with
  |none=>simp at h
  |some j =>
   refine⟨j,rfl,?_⟩;simp only[Option.map_some,Option.some.injEq]at h;cases q:σ[j]? with
   |none=>rw[q]at h;cases h
   |some w=>rw[q]at h;simp at h;rw[h]
def FE{env:Env}:∀(names:List (Str×NameKind)) (cs:List (Str×AD)),(∀x∈names,x.2=NameKind.free→∃c,env.cells.lookup x.1=some c)→(∀x c,cs.lookup x=some c→env.cells.lookup x=some c) →
  ∃cl,(forIn names cs (fun(x:Str×NameKind) (r:List (Str×AD))=>do if(x.2==NameKind.free)=true then do let a ←cellOf env x.1;pure (ForInStep.yield ((x.1,a)::r)) else pure (ForInStep.yield r)):Sem (List (Str×AD)))=pure cl ∧
   (∀x c,cl.lookup x=some c→env.cells.lookup x=some c)∧(∀x,(∃c,cs.lookup x=some c)→∃c,cl.lookup x=some c)∧∀x∈names,x.2=NameKind.free→∃c,cl.lookup x.1=some c
 |[],cs,_,h2=>⟨cs,rfl,h2,fun _ q=>q,fun _ z=>(by cases z)⟩
 |(n,k)::r,cs,h1,h2=>by
  rw[List.forIn_cons];by_cases hk:(k==NameKind.free)=true
  ·obtain⟨c,hc⟩:=h1 (n,k) aT (by simpa using hk);have h2':∀x c',((n,c)::cs).lookup x=some c'→env.cells.lookup x=some c':=fun x c' e=>by
    rw[List.lookup_cons]at e;cases hx:x==n with
    |true=>rw[hx]at e;have:=beq_iff_eq.mp hx;subst this;simp at e;rw[←e];exact hc
    |false=>rw[hx]at e;exact h2 x c' e
   obtain⟨cl,q1,q2,q3,q4⟩:=FE r ((n,c)::cs) (fun x hx=>h1 x (aO _ hx)) h2';have hn:∃c',cl.lookup n=some c':=q3 n ⟨c,by rw[List.lookup_cons,beq_self_eq_true]⟩;refine⟨cl,?_,q2,fun x hx=>?_,fun x hx hf=>?_⟩
   ·simp only[hk,if_true];unfold cellOf;rw[hc];exact q1
   ·refine q3 x ?_;rw[List.lookup_cons];cases hxn:x==n with
    |true=>exact⟨c,rfl⟩
    |false=>exact hx
   ·rcases aL.mp hx with e|hx
    ·subst e;exact hn
    ·exact q4 x hx hf
  ·obtain⟨cl,q1,q2,q3,q4⟩:=FE r cs (fun x hx=>h1 x (aO _ hx)) h2;refine⟨cl,?_,q2,q3,fun x hx hf=>?_⟩
   ·simp only[hk];exact q1
   ·rcases aL.mp hx with e|hx
    ·subst e;exact absurd (by simpa using hf) hk
    ·exact q4 x hx hf
def Aq(X:Cx)(scope:Scope)(cl:List (Str×AD))(N:List Str)(C:AD)(s₀:SD)(H₀:Hp)(fp:List AD):Cx where
 prog:=X.prog
 w:=X.w
 K:=X.K
 mg:=X.mg
 base:=X.base
 A:=X.A
 N:=N
 s₀:=s₀
 H₀:=H₀
 env:=compEnvC scope cl C X.env
 outer:=X.stack
 stack:=X.stack
 ex:=fp
 fn:=fun _=>false
 calm:=X.calm
 pn:=[]
 xe:=fun _ _=>False
def Kl(wi:TI)(fr:List (Option Nat))(ix:Nat)(tif:TT)(te:TE):TE:=fun σ H Q=>wi σ H fun J H1=>∀D,H1 D=none→∃W:Nat→Nat→List V→Hp→Prop,(∃m,W 0 m [] (upd H1 D (.lst []))) ∧
 ∀i m ys H,W i m ys H→H D=some (.lst ys)∧((J.stop i H∧Q (.ref D) H)∨(J.go i H∧ys.length<sizeLine∧∀x H',J.Dl i H x H' →
  tif ((carry fr σ).set ix (some x)) H' fun b H2=>if b=true then te ((carry fr σ).set ix (some x)) H2 fun y H3=>H3 D=some (.lst ys)∧∃m',m'<m∧W (i+1) m' (ys++[y]) (upd H3 D (.lst (ys++[y])))
   else ∃m',m'<m∧W (i+1) m' ys H2))
structure Ce(scope:Scope)(N:List Str)(x:Str)(ix:Nat):Prop where
 kind:scope.kind=.function
 cell:∀y∈scope.names,y.2≠.cell
 names:∀y∈scope.names,y.2=.local→scope.names.lookup y.1=some .local
 free:∀y∈scope.names,y.2=.free→scope.names.lookup y.1=some .free
 loc:scope.names.lookup x=some .local
 nd:N.Nodup
 at_:N[ix]? = some x
def lookup_mem{names:List (Str×NameKind)}{n:Str}{k:NameKind}:names.lookup n=some k→(n,k)∈names:=by
 induction names with
 |nil=>intro h;cases h
 |cons y r ih =>
  intro h;obtain⟨m,j⟩:=y;rw[List.lookup_cons]at h;cases e:n==m with
  |true=>rw[e]at h;have:=beq_iff_eq.mp e;subst this;simp at h;subst h;exact aT
  |false=>rw[e]at h;exact aO _ (ih h)
def Oj{scope:Scope}{env:Env}(hc:∀y∈scope.names,y.2≠.cell){n:Str}(h:(relabel scope env).names.lookup n=some .cell∨(relabel scope env).names.lookup n=some .free):∃k,(n,k)∈scope.names∧k=NameKind.free:=by
 have key:∀k',(relabel scope env).names.lookup n=some k'→(k'=.cell∨k'=.free)→∃k,(n,k)∈scope.names∧k=NameKind.free:=fun k' h hk=>by
  have hm:=lookup_mem h;unfold relabel at hm;obtain⟨⟨m,k⟩,hy,e⟩:=aj.mp hm;dsimp only at e;by_cases hcond:(k==NameKind.free&&env.scope.kind==.function&&env.kindOf m==some .cell)=true
  ·rw[if_pos hcond]at e
   injection e with e1 e2
   subst e1;refine⟨k,hy,?_⟩;simp only[Bool.and_eq_true,beq_iff_eq]at hcond;exact hcond.1.1
  ·rw[if_neg hcond]at e
   injection e with e1 e2
   subst e1 e2;rcases hk with rfl|rfl
   ·exact absurd rfl (hc _ hy)
   ·exact⟨_,hy,rfl⟩
 rcases h with h|h
 ·exact key _ h (.inl rfl)
 ·exact key _ h (.inr rfl)
section
variable{X:Cx}{elt iter:Expr}{x:Str}{px pos:Pos}{ifs:List Expr}{scope:Scope}{wi:TI}{fr:List (Option Nat)}{ix:Nat}{tif:TT}{te:TE}{N:List Str}
def HV{prog:Program}{w:World}{A:Around}{R:Result→SD→Prop}{s:SD}{elt target iter:Expr}{ifs:List Expr}{scope:Scope}{pos:Pos}{it acc:VL}{env:Env}(I:Nat→SD→Prop)
 (turn:∀n s,I n s→wpAny (model prog w) A (pyNext it) (fun r s₁=>match r with
   |none=>R (.ok .next) s₁
   |some v=>wpAny (model prog w) A (letOwnedTupleGo target it v>>=fun _=>assign target env v) (fun _ s₂ =>
     wpAny (model prog w) A (forIn ifs true fun c r=>if r=true then do let ok ←isTrue c env (eval c env);pure (ForInStep.yield ok) else pure (ForInStep.yield r)) (fun ok s₃ =>
      if ok=true then wpAny (model prog w) A (eval elt env) (fun x s₄ =>
       wpAny (model prog w) A (call (.builtin "list.append") [acc,x]) (fun _ s₅=>∃m,m<n∧I m s₅) (notedBy (model prog w) A env fun e s'=>R (.error e) s') s₄) (notedBy (model prog w) A env fun e s'=>R (.error e) s') s₃
      else ∃m,m<n∧I m s₃) (notedBy (model prog w) A env fun e s'=>R (.error e) s') s₂) (notedBy (model prog w) A env fun e s'=>R (.error e) s') s₁) (notedBy (model prog w) A env fun e s'=>R (.error e) s') s)
 (n:Nat)(h:I n s) :
  codeAny (model prog w) A (.compLoop (.ListComp elt [⟨target,iter,ifs,0⟩] scope pos) 0 it acc env) R s:=by
 refine codeAny_loop rfl I (fun n s hI=>?_) n h;show wpAny _ A ((compTurn (.ListComp elt [⟨target,iter,ifs,0⟩] scope pos) 0 it acc env).onRaise (fun x=>do noteFrame x env;theTreesLotGoes x)) _ _ s;refine wpAny_noted ?_;rw[compTurn_list];refine Wb (wpAny_standAt (Wb (af (turn n s hI) (fun r s₁ h₁=>?_) fun _ _ h'=>h')));cases r with
 |none=>exact aA h₁
 |some v =>
  show wpAny (model prog w) A (letOwnedTupleGo target it v>>=fun _=>assign target env v>>=_) _ _ s₁;rw[←bind_assoc];refine Wb (af h₁ (fun _ s₂ h₂=>Wb (af h₂ (fun ok s₃ h₃=>?_) fun _ _ h'=>h')) fun _ _ h'=>h');cases ok with
  |false=>exact aA ⟨rfl,h₃⟩
  |true =>
   exact Wb (Wb (af h₃ (fun x s₄ h₄=>Wb (af h₄ (fun _ s₅ h₅=>aA (aA ⟨rfl,h₅⟩)) fun _ _ h'=>h')) fun _ _ h'=>h'))
def K4{pins:List (AD×Obj)}{σ:St}{H2:Hp}{s2:SD}{Q:VK}{it:AD}{fp:List AD}{tn:Nat→Heap→Prop}{J:It}{cl:List (Str×AD)}{E:VL→SD→Prop}{RR:VL→AD→Result→SD→Prop}
 (S:Ce scope N x ix)(hcalm:X.calm=true){tgE:Expr}{g:TG}(Rv:St→Prop)(r0:Rv (carry fr σ))(hpg:∀C,PG (Aq X scope cl N C s2 H2 fp) tgE g)(hfr:EX N X.N scope X.env.scope fr 0=true)(hlen:fr.length=N.length)
 (hif:∀cl C s₀ H₀ fp,Jw (Aq X scope cl N C s₀ H₀ fp) ifs tif)(he:∀cl C s₀ H₀ fp,PE (Aq X scope cl N C s₀ H₀ fp) elt te)
 (I2:Inv X pins σ H2 s2)(T:Turn X.prog X.w X.K tgE J fp it tn)(st2:tn 0 s2.heap)(f2:∀b∈fp,IH X pins H2 b)
 (c1:∀x c,cl.lookup x=some c→X.env.cells.lookup x=some c)(c2:∀x∈scope.names,x.2=NameKind.free→∃c,cl.lookup x.1=some c)
 (W:∀D,H2 D=none→∃W:Nat→Nat→List V→Hp→Prop,(∃m,W 0 m [] (upd H2 D (.lst []))) ∧
   ∀i m ys H,W i m ys H→H D=some (.lst ys)∧((J.stop i H∧Q (.ref D) H)∨(J.go i H∧ys.length<sizeLine∧∀x H',J.Dl i H x H'→∀σ',Rv σ'→g x σ' H' fun σ6 H6=>Rv σ6 ∧
    tif σ6 H6 fun b H2=>if b=true then te σ6 H2 fun y H3=>H3 D=some (.lst ys)∧∃m',m'<m∧W (i+1) m' (ys++[y]) (upd H3 D (.lst (ys++[y])))
     else ∃m',m'<m∧W (i+1) m' ys H2)))
 (fin:∀(D C:AD) (s':SD) (H':Hp) m,s'.heap.Ns C m→Q (.ref D) H'→(∀h',Heap.SameBut C s'.heap h'→Inv X pins σ H' { s' with heap:=h'})→C≠D→(∀b o,s2.heap.get? b=some o→b≠C)→H' C=none→s2.heap.objs.size≤C→RR (.ref D) C (.ok .next) s') :
  wpAny (model X.prog X.w) X.A (newList []) (fun acc s₃=>wpAny (model X.prog X.w) X.A (newFunctionEnv scope X.env.globals cl [] X.env.qual none .none (some X.env)) (fun cenv s₄ =>
   codeAny (model X.prog X.w) X.A (.compStart (.ListComp elt [⟨tgE,iter,ifs,0⟩] scope pos) 0 (.ref it) acc {cenv with scope:=relabel scope X.env}) (RR acc cenv.locals) s₄) E s₃) E s2:=by
 refine ai (wpAny_newFunctionEnv S.cell (by intro y hy;simp at hy) (fun h₁ hns₁ hsb₁=>?_) S.kind);dsimp only at hns₁ hsb₁ ⊢;generalize hHp:s2.heap.push { cls:=.type "list",dict:=none,data:=.seq ([]:List VL).toArray}=Hq at hns₁ hsb₁ ⊢;have hC:Hq.objs.size=s2.heap.objs.size+1:=by rw[←hHp,Heap.size_push]
 have hDC:s2.heap.objs.size≠Hq.objs.size:=by rw[hC];exact aK (bP _)
 have below:∀b,b<s2.heap.objs.size→b≠Hq.objs.size∧b≠s2.heap.objs.size:=fun b hb=>⟨by rw[hC];exact aK (bG hb),Nat.ne_of_lt hb⟩;have old:∀b o,s2.heap.get? b=some o→h₁.get? b=some o:=fun b o e=>hsb₁.extBut b o (below b (aD e)).1 (aC _ (hHp ▸ aC _ e));have hacc:h₁.get? s2.heap.objs.size=some { cls:=.type "list",data:=.seq ([]:List VL).toArray}:=hsb₁.extBut _ _ hDC (aC _ (hHp ▸ aH _ rfl));have hD2:H2 s2.heap.objs.size=none:=I2.Af.fresh (aG _);have hC2:H2 Hq.objs.size=none:=I2.Af.fresh (by rw[hC];exact Nat.le_succ _);have fpo:∀b∈fp,b<s2.heap.objs.size:=fun b hb=>by
  obtain⟨o,e,_⟩:=T.obj _ _ st2 b hb;exact aD e
 obtain⟨W,⟨m0,w0⟩,turn⟩:=W s2.heap.objs.size hD2;have ok:(Aq X scope cl N Hq.objs.size s2 H2 fp).Ok:=by
  refine⟨I2.ok.mod,S.kind,I2.ok.glob,I2.ok.blt,by show s2.heap.objs.size≤Hq.objs.size;rw[hC];exact Nat.le_succ _,?_,?_,?_,fun _=>I2.ok.hd hcalm,I2.ok.frames,.inl rfl,?_,I2.bs,Nat.le_trans I2.ok.Nk I2.sz,?_,?_,I2.stack,I2.Qc,I2.kt⟩
  ·exact fun a b c h1 h2=>I2.ok.inj a b c (c1 _ _ h1) (c1 _ _ h2)
  ·intro y hy;obtain⟨k,hm,rfl⟩:=Oj S.cell hy;exact c2 _ hm rfl
  ·intro y c hf;cases hf
  ·intro b hb;refine⟨(below b (fpo b hb)).1,fun y c e=>?_⟩;obtain⟨_,_,_,_,f5,_⟩:=f2 b hb;exact f5 y c (c1 _ _ e)
  ·intro b o e hb;obtain⟨_,_,_,f4,_,_⟩:=f2 b hb;rcases f4 with z|z
   ·exact I2.ok.O1 b o e z
   ·exact absurd (aI (aD e) (aM I2.ok.Nk z)) (Nat.lt_irrefl _)
  ·intro b hb hs;obtain⟨_,f1,f3,_⟩:=f2 b hb;rcases aL.mp (I2.OM b hs) with z|z
   ·exact f1 z
   ·exact f3 z
 have I4:Inv (Aq X scope cl N Hq.objs.size s2 H2 fp) [] (carry fr σ) (upd H2 s2.heap.objs.size (.lst [])) {s2 with heap:=h₁,toks:=s2.toks+([]:List (Str×VL)).length}:=by
  refine⟨ok,rfl,I2.bare,Un.laid old (aG _) hD2,⟨_,hns₁,fun i y v h1 h2 h3=>?_⟩,fun y c e=>?_,?_,fun y c e=>?_,fun p hp=>(by cases hp),I2.Af.laid old (aG _) ⟨az _,[],0,.nil,hacc⟩,?_⟩
  ·obtain⟨j,e1,e2⟩:=Td h2;obtain⟨n,n1,n2,n3,n4⟩:=LO hfr e1;rw[Nat.zero_add]at n1;have:y=n:=by
    have h1':N[i]? = some y:=h1;rw[h1']at n1;exact ab n1
   subst this;obtain⟨m,hn,hl⟩:=I2.loc;obtain⟨u,ru,lk⟩:=hl j y v n2 e2 (.inr (.inl n4));refine⟨u,ru,?_⟩;obtain⟨c,hc⟩:=c2 _ (lookup_mem n3) rfl;rcases lk with ⟨k1,_⟩|⟨_,c',hc',hcell⟩
   ·have k1':X.env.scope.names.lookup y=some .local:=k1;rw[n4]at k1';cases k1'
   ·have:=c1 _ _ hc;rw[hc']at this;cases this;refine .inr ⟨?_,c,hc,hcell.keeps old⟩;rcases h3 with z|z|z
    ·obtain⟨k,hm⟩:∃k,(y,k)∈scope.names∧k=NameKind.local:=by
      have hm:=lookup_mem z;have hm':(y,NameKind.local)∈(relabel scope X.env).names:=hm;unfold relabel at hm';obtain⟨⟨m',k⟩,hy,e⟩:=aj.mp hm';dsimp only at e;by_cases hcond:(k==NameKind.free&&X.env.scope.kind==.function&&X.env.kindOf m'==some .cell)=true
      ·rw[if_pos hcond]at e;injection e with _ e2';cases e2'
      ·rw[if_neg hcond]at e;injection e with e1' e2';subst e1' e2';exact⟨_,hy,rfl⟩
     obtain⟨hm,rfl⟩:=hm;have:=S.names _ hm rfl;rw[n3]at this;cases this
    ·exact .inl z
    ·exact .inr z
  ·obtain⟨v,z⟩:=I2.cell y c (c1 _ _ e);exact⟨v,z.keeps old⟩
  ·show upd H2 s2.heap.objs.size _ Hq.objs.size=none;rw[AF (Ne.symm hDC)];exact hC2
  ·obtain⟨v,o,ho,_⟩:=I2.cell y c (c1 _ _ e);rw[AF (below c (aD ho)).2];exact I2.F0 y c (c1 _ _ e)
  ·show(carry fr σ).length=N.length;unfold carry;rw[List.length_map];exact hlen
 have fpX:∀(p:List (AD×Obj)) (H':Hp),(∀q∈p,q.1∈fp→False)→(∀b∈fp,H' b=none)→∀b∈fp,IH (Aq X scope cl N Hq.objs.size s2 H2 fp) p H' b:=fun p H' hp hn b hb=>by
  obtain⟨_,f1,f3,f4,f5,_⟩:=f2 b hb;refine⟨hn b hb,(below b (fpo b hb)).1,fun hs=>ok.OQ b hb hs,.inl hb,fun y c e=>f5 y c (c1 _ _ e),fun q hq e=>?_⟩;exact hp q hq (e ▸ hb)
 have hxv:(relabel scope X.env).names.lookup x=some .local:=lookup_relabel_local S.loc;have loop:∀s₃:SD,s₃={s2 with heap:=h₁,toks:=s2.toks+([]:List (Str×VL)).length} →
   codeAny (model X.prog X.w) X.A (.compLoop (.ListComp elt [⟨tgE,iter,ifs,0⟩] scope pos) 0 (.ref it) (.ref s2.heap.objs.size) (compEnvC scope cl Hq.objs.size X.env)) (RR (.ref s2.heap.objs.size) Hq.objs.size) s₃:=by
  rintro s₃ rfl;refine HV (fun n s'=>∃i ys σ' H',Inv (Aq X scope cl N Hq.objs.size s2 H2 fp) [] σ' H' s'∧Rv σ'∧tn i s'.heap∧(∀b∈fp,H' b=none)∧W i n ys H') ?_ m0
   ⟨0,[],carry fr σ,_,I4,r0,T.keep _ _ _ st2 fun b _ o e=>old b o e,fun b hb=>by rw[AF (below b (fpo b hb)).2];exact(f2 b hb).1,w0⟩
  rintro n s3 ⟨i,ys,σ3,H3,I3,hσ,st3,fr3,w3⟩;obtain⟨hD3,way⟩:=turn i n ys H3 w3;rcases way with ⟨stop,qn⟩|⟨go,hsz,step⟩
  ·refine af (T.done (Aq X scope cl N Hq.objs.size s2 H2 fp) rfl rfl rfl hcalm i [] s3 σ3 H3 (fun _ _=>False) I3 (fpX [] H3 (fun _ z=>by cases z) fr3) st3 stop) (fun r s4 ⟨hr,I5⟩=>?_) fun _ _ z=>z.elim;subst hr;obtain⟨m,hn,_⟩:=id I5.loc;refine fin _ _ s4 H3 m hn qn (fun h' hs'=>?_) (Ne.symm hDC) (fun b o e=>(below b (aD e)).1) I5.free (by rw[hC];exact Nat.le_succ _);have nC:∀b u,H3 b=some u→b≠Hq.objs.size:=fun b u e z=>by
    have:=I5.free;rw[show(Aq X scope cl N Hq.objs.size s2 H2 fp).env.locals=Hq.objs.size from rfl,←z,e]at this;cases this
   have keepU:Un (Jl X.stack) fp H2 H3 s2.heap h':=by
    have u:=I5.base;refine⟨fun b o e n hb hx=>?_,fun b o e n hb hx=>?_,fun b o e n hx=>u.free b o e n hx,fun b o e hx=>?_,u.A2,u.HL,u.JB,fun b xs o q e hx=>(hs'.2 b (below b (aD e)).1).trans (u.IE b xs o q e hx)⟩
    ·exact(hs'.2 b (below b (aD e)).1).trans (u.keep b o e n hb hx)
    ·obtain⟨sl,e1⟩:=u.slot b o e n hb hx;exact⟨sl,(hs'.2 b (below b (aD e)).1).trans e1⟩
    ·obtain⟨o',e1⟩:=u.there b o e hx;exact⟨o',(hs'.2 b (below b (aD e)).1).trans e1⟩
   have hok':CY X.prog X.w H3 h':=fun b u e=>(I5.Af b u e).Fd (fun c v hc q=>(hs'.2 c (by
    rcases hc with rfl|hc
    ·exact nC _ _ e
    ·exact nC _ _ hc)).trans q) (fun _ q=>q) fun _ _ q=>q
   refine I2.cX (s':={s4 with heap:=h'}) (ch:=fp) I5.os keepU hok' I5.bare fun b hb=>?_;obtain⟨_,f1,_,f4,f5,f6⟩:=f2 b hb;exact⟨f4,f1,f5,f6⟩
  ·refine af (T.item (Aq X scope cl N Hq.objs.size s2 H2 fp) rfl rfl rfl hcalm i [] s3 σ3 H3 (fun _ _=>False) I3 (fpX [] H3 (fun _ z=>by cases z) fr3) st3 go) (fun r s4 ⟨u,hr,h4⟩=>?_) fun _ _ z=>z.elim;subst hr;show wpAny (model X.prog X.w) X.A (letOwnedTupleGo tgE (.ref it) u>>=fun _=>assign tgE (compEnvC scope cl Hq.objs.size X.env) u) _ _ s4;refine Wb (af h4 (fun _ s5 ⟨xv,H5,I5,r5,y5,st5,fr5⟩=>?_) fun _ _ z=>z.elim);have I5':=I5.pinned (fpX [] H5 (fun _ z=>by cases z) fr5) (T.obj _ _ st5);refine af (hpg _ _ s5 σ3 H5 xv u _ I5' r5 (step xv H5 y5 σ3 hσ)) (fun _ s6 ⟨σ6,H6,I6,rv6,step5⟩=>?_) fun _ _ z=>z.elim;refine af (hif _ _ _ _ _ _ s6 _ H6 _ I6 step5) (fun b s7 ⟨H7,I7,q7⟩=>?_) fun _ _ z=>z.elim;have again:∀ {s8:SD} {H8:Hp} {k:Nat} {zs:List V},Inv (Aq X scope cl N Hq.objs.size s2 H2 fp) ([]++Ka fp s5.heap) σ6 H8 s8→W (i+1) k zs H8→k<n →
     ∃m,m<n∧∃i ys σ' H',Inv (Aq X scope cl N Hq.objs.size s2 H2 fp) [] σ' H' s8∧Rv σ'∧tn i s8.heap∧(∀b∈fp,H' b=none)∧W i m ys H':=fun {s8 H8 k zs} I8 w8 hk=>by
    refine⟨k,hk,i+1,zs,_,H8,I8.JC,rv6,T.keep _ _ _ st5 fun b hb o e=>(I8.pin (b,o) (aR _ (aR _ (Gb hb e)))).1,fun b hb=>?_,w8⟩;obtain⟨o,e,d⟩:=T.obj _ _ st5 b hb;exact(I8.pin (b,o) (aR _ (aR _ (Gb hb e)))).2.1
   cases b with
   |false =>
    rw[if_neg aJ]at q7 ⊢;obtain⟨k,hk,w7⟩:=q7;exact again I7 w7 hk
   |true =>
    rw[if_pos rfl]at q7 ⊢;refine af (he _ _ _ _ _ _ s7 _ H7 _ I7 q7) (fun yv s8 ⟨y,H8,I8,r8,hD8,k,hk,w8⟩=>?_) fun _ _ z=>z.elim;refine af (J7 (X:=Aq X scope cl N Hq.objs.size s2 H2 fp) _ s8 _ H8 (.ref s2.heap.objs.size) [y] (.ref s2.heap.objs.size) [yv] (fun _ H9=>H9=upd H8 s2.heap.objs.size (.lst (ys++[y]))) I8 rfl (.cons r8 .nil) ⟨_,ys,y,rfl,rfl,hD8,hsz,rfl⟩) (fun _ s9 ⟨_,H9,I9,_,e9⟩=>?_) fun _ _ z=>z.elim;subst e9;exact again I9 w8 hk
 exact codeAny_compStart_list (loop _ rfl) (T.self X.A 0 _ _ _ (T.keep _ _ _ st2 fun b _ o e=>old b o e) (loop _ rfl))
def L6{pins:List (AD×Obj)}{σ:St}{H2:Hp}{s2:SD}{Q:VK}{it:AD}{fp:List AD}{tn:Nat→Heap→Prop}{J:It}{cl:List (Str×AD)}{E:VL→SD→Prop}{RR:VL→AD→Result→SD→Prop}
 (S:Ce scope N x ix)(hcalm:X.calm=true)(hfr:EX N X.N scope X.env.scope fr 0=true)(hlen:fr.length=N.length)
 (hif:∀cl C s₀ H₀ fp,Jw (Aq X scope cl N C s₀ H₀ fp) ifs tif)(he:∀cl C s₀ H₀ fp,PE (Aq X scope cl N C s₀ H₀ fp) elt te)
 (I2:Inv X pins σ H2 s2)(T:Turn X.prog X.w X.K (.Name x px) J fp it tn)(st2:tn 0 s2.heap)(f2:∀b∈fp,IH X pins H2 b)
 (c1:∀x c,cl.lookup x=some c→X.env.cells.lookup x=some c)(c2:∀x∈scope.names,x.2=NameKind.free→∃c,cl.lookup x.1=some c)
 (W:∀D,H2 D=none→∃W:Nat→Nat→List V→Hp→Prop,(∃m,W 0 m [] (upd H2 D (.lst []))) ∧
   ∀i m ys H,W i m ys H→H D=some (.lst ys)∧((J.stop i H∧Q (.ref D) H)∨(J.go i H∧ys.length<sizeLine∧∀x H',J.Dl i H x H' →
    tif ((carry fr σ).set ix (some x)) H' fun b H2=>if b=true then te ((carry fr σ).set ix (some x)) H2 fun y H3=>H3 D=some (.lst ys)∧∃m',m'<m∧W (i+1) m' (ys++[y]) (upd H3 D (.lst (ys++[y])))
     else ∃m',m'<m∧W (i+1) m' ys H2)))
 (fin:∀(D C:AD) (s':SD) (H':Hp) m,s'.heap.Ns C m→Q (.ref D) H'→(∀h',Heap.SameBut C s'.heap h'→Inv X pins σ H' { s' with heap:=h'})→C≠D→(∀b o,s2.heap.get? b=some o→b≠C)→H' C=none→s2.heap.objs.size≤C→RR (.ref D) C (.ok .next) s') :
  wpAny (model X.prog X.w) X.A (newList []) (fun acc s₃=>wpAny (model X.prog X.w) X.A (newFunctionEnv scope X.env.globals cl [] X.env.qual none .none (some X.env)) (fun cenv s₄ =>
   codeAny (model X.prog X.w) X.A (.compStart (.ListComp elt [⟨.Name x px,iter,ifs,0⟩] scope pos) 0 (.ref it) acc {cenv with scope:=relabel scope X.env}) (RR acc cenv.locals) s₄) E s₃) E s2:=by
 have hxv:(relabel scope X.env).names.lookup x=some .local:=lookup_relabel_local S.loc;refine K4 S hcalm (fun σ'=>∀v,σ'.set ix v=(carry fr σ).set ix v) (fun _=>rfl) (fun C=>BM (X:=Aq X scope cl N C s2 H2 fp) S.nd S.at_ (.inl hxv) (.inr hxv)) hfr hlen hif he I2 T st2 f2 c1 c2 (fun D hD=>?_) fin;obtain⟨W,w0,st⟩:=W D hD;refine⟨W,w0,fun i m ys H w=>?_⟩;obtain⟨h1,h2|⟨h2,h3,h4⟩⟩:=st i m ys H w
 ·exact⟨h1,.inl h2⟩
 ·refine⟨h1,.inr ⟨h2,h3,fun x H' hy σ' hr=>?_⟩⟩;have:=h4 x H' hy;rw[←hr]at this;exact⟨fun v=>by rw[List.set_set,hr],this⟩
def Xa(S:Ce scope N x ix)(hcalm:X.calm=true)(hfr:EX N X.N scope X.env.scope fr 0=true)(hlen:fr.length=N.length)(hfree:∀y∈scope.names,y.2=.free→X.env.scope.names.lookup y.1=some .cell∨X.env.scope.names.lookup y.1=some .free)
 (hi:PI X (.Name x px) iter wi)(hif:∀cl C s₀ H₀ fp,Jw (Aq X scope cl N C s₀ H₀ fp) ifs tif)(he:∀cl C s₀ H₀ fp,PE (Aq X scope cl N C s₀ H₀ fp) elt te)
 (hs:∀x,foldedSetIterable iter X.env x=pure x:=by intro _;rfl):PE X (.ListComp elt [⟨.Name x px,iter,ifs,0⟩] scope pos) (Kl wi fr ix tif te):=by
 intro pins s σ H Q I hw;obtain⟨cl,hclos,c1,_,c2⟩:=FE (env:=X.env) scope.names [] (fun y hy hf=>I.ok.has y.1 (hfree y hy hf)) (fun y c z=>by cases z);have hclos':closureFor scope X.env=pure cl:=by
  have e:closureFor scope X.env=((forIn scope.names [] (fun(x:Str×NameKind) (r:List (Str×AD))=>do if(x.2==NameKind.free)=true then do let a ←cellOf X.env x.1;pure (ForInStep.yield ((x.1,a)::r)) else pure (ForInStep.yield r)):Sem (List (Str×AD)))>>=fun cs=>pure cs):=rfl;rw[e,hclos]
  rfl
 rw[eval_ListComp];refine wpAny_comprehension_free (use:=none) rfl hs hclos' S.kind S.names (Az (hi pins s σ H _ I hw) fun v s1 h1=>Az h1 fun itv s2 h2=>?_);obtain⟨it,fp,tn,J,H2,e,I2,T,st2,f2,W⟩:=h2;subst e;refine L6 (RR:=fun acc C=>compPost (model X.prog X.w) X.A X.xe none (EP X pins σ Q) acc C) S hcalm hfr hlen hif he I2 T st2 f2 c1 c2 W ?_;intro D C s' H' m hn q hI _ _ _ _;exact⟨m,hn,fun h' hs'=>⟨.ref D,H',hI h' hs',rfl,q⟩⟩
def SJ{i : Nat}{y : Str}{py spos : Pos}(hN : X.N.Nodup)(hy : X.N[i]? = some y)(hly : X.env.scope.names.lookup y = some .local)(S : Ce scope N x ix)(hcalm : X.calm = true)(hfr : EX N X.N scope X.env.scope fr 0 = true)(hlen : fr.length = N.length)
 (hfree : ∀ y∈scope.names,y.2 = .free→X.env.scope.names.lookup y.1 = some .cell∨X.env.scope.names.lookup y.1 = some .free)
 (hi : PI X (.Name x px) iter wi)(hif : ∀ cl C s₀ H₀ fp,Jw (Aq X scope cl N C s₀ H₀ fp) ifs tif)(he : ∀ cl C s₀ H₀ fp,PE (Aq X scope cl N C s₀ H₀ fp) elt te)
 (hsw : swapsWith (.ListComp elt [⟨.Name x px,iter,ifs,0⟩] scope pos) (some (.Name y py)) spos.line X.env = pure true := by rfl)
 (hs : ∀ x,foldedSetIterable iter X.env x = pure x := by intro _; rfl) :
    PS X (.Assign [.Name y py] (.ListComp elt [⟨.Name x px,iter,ifs,0⟩] scope pos) spos) (SS (Kl wi fr ix tif te) (Cw i)) := by
  intro pins s σ H D I hw
  obtain ⟨cl,hclos,c1,_,c2⟩:=FE (env:=X.env) scope.names [] (fun y hy hf => I.ok.has y.1 (hfree y hy hf)) (fun y c z => by cases z)
  have hclos' : closureFor scope X.env = pure cl := by
    have e : closureFor scope X.env = ((forIn scope.names [] (fun (x : Str×NameKind) (r : List (Str×AD)) => do if (x.2 == NameKind.free) = true then do let a ← cellOf X.env x.1; pure (ForInStep.yield ((x.1,a) :: r)) else pure (ForInStep.yield r)) : Sem (List (Str×AD))) >>= fun cs => pure cs):=rfl
    rw [e,hclos]
    rfl
  rw [exec_Assign_Name_used _ _ _ _ hsw]
  refine Wb (wpAny_standAt (Wb ?_))
  show wpAny _ X.A (do let _ ← comprehension (.ListComp elt [⟨.Name x px,iter,ifs,0⟩] scope pos) scope X.env _ (newList []) false (eval iter X.env) (some (assign (.Name y py) X.env))) _ _ s
  refine Wb (af (wpAny_comprehension_free (use:=some (assign (.Name y py) X.env)) (Q:=fun _ s' => SP X pins D .next s') rfl hs hclos' S.kind S.names
    (Az (hi pins s σ H _ I hw) fun v s1 h1 => Az h1 fun itv s2 h2 => ?_)) (fun _ s' hq => aA (aA hq)) fun _ _ e => e)
  obtain ⟨it,fp,tn,J,H2,e,I2,T,st2,f2,W⟩:=h2
  subst e
  refine L6 (Q:=fun x H1 => Cw i x σ H1 D.nx) (RR:=fun acc C => compPost (model X.prog X.w) X.A X.xe (some (assign (.Name y py) X.env)) (fun _ s' => SP X pins D .next s') acc C) S hcalm hfr hlen hif he I2 T st2 f2 c1 c2 W ?_
  intro D' C s' H' m hn q hI hCD hold hfreeC hsz
  have I5 : Inv X pins σ H' s':=hI s'.heap (Heap.SameBut.refl ..)
  refine wpAny_assign_Name (NO I5 hN hy (.inl hly) (v:=.ref D') rfl (fun s'' I6 ⟨a,hsb,ha⟩ => ?_) (.inr hly))
  have hL : C≠X.env.locals:=fun z => by
    obtain ⟨_,⟨o,_,_,e,_⟩,_⟩:=I2.loc
    exact hold _ _ e z.symm
  have hcl : ∀ z c,X.env.cells.lookup z = some c→c≠C:=fun z c e => by
    obtain ⟨_,o,ho,_⟩:=I2.cell z c e
    exact hold _ _ ho
  have hCa : C≠a := by
    rcases ha with z | z
    · rw [z]; exact hL
    · exact Ne.symm (hcl _ _ z)
  refine ⟨m,hn.sameBut hsb hCa,fun h' hs' => ⟨_,H',I6.turned (t':=s''.toks) (it:=C) (fun b o hb e => (hs'.2 b hb).trans e) hfreeC hL (.inr (aM I2.sz hsz)) hcl fun p hp => ?_,q⟩⟩
  obtain ⟨e,_⟩:=I2.pin p hp
  exact hold _ _ e
end
end L2
namespace FM
def gi(a b:Int):Int:=(Int.gcd a b:Int)
def PM(a b:Int):Int.gcd b (a.fmod b)=Int.gcd a b:=by
 have e:a.fmod b=a-b*a.fdiv b:=Int.fmod_def a b;rw[e,Int.gcd_comm a b];exact Int.gcd_sub_mul_left_right b a (a.fdiv b)
def Ni(a b:Int)(hb:b≠0):(a.fmod b).natAbs<b.natAbs:=by
 rcases Int.lt_or_gt_of_ne hb with h|h
 ·have h1:-(a.fmod b)=(-a).fmod (-b):=by
   rw[Int.fmod_def,Int.fmod_def,Int.neg_fdiv_neg];have:-b*a.fdiv b=-(b*a.fdiv b):=Int.neg_mul _ _
   lia
  have h2:=Int.fmod_nonneg_of_pos (-a) (show 0 < -b by lia);have h3:=Int.fmod_lt_of_pos (-a) (show 0 < -b by lia)
  lia
 ·have h2:=Int.fmod_nonneg_of_pos a h;have h3:=Int.fmod_lt_of_pos a h
  lia
def J3{a b:Int}(hb:b≠0):0<gi a b:=by
 have:0<Int.gcd a b:=Int.gcd_pos_of_ne_zero_right a hb;unfold gi;lia
def V2{a b:Int}(hb:b≠0):(gi a b).natAbs≤b.natAbs:=by
 have h:Int.gcd a b ∣ b.natAbs:=by
  have:=Int.gcd_dvd_right a b;exact Int.natAbs_dvd_natAbs.mpr this
 have h2:0<b.natAbs:=by lia
 have:=Nat.le_of_dvd h2 h;unfold gi;lia
def gs(t b:Int):Int:=if b<0 then -gi t b else gi t b
def WA{t b:Int}(hb:b≠0):gs t b≠0:=by
 have:=J3 (a:=t) hb;unfold gs;split<;>lia
def Wc{t b:Int}(hb:b≠0):(gs t b).natAbs≤b.natAbs:=by
 have:=V2 (a:=t) hb;unfold gs;split<;>lia
def Eu{g x k:Int}(hg:g≠0)(e:x=g*k):x.fdiv g=k:=by
 subst e;exact Int.mul_fdiv_cancel_left k hg
def LM(a b:Int):gi a b ∣ a:=Int.gcd_dvd_left a b
def KP(a b:Int):gi a b ∣ b:=Int.gcd_dvd_right a b
def UK{t b:Int}(hb:b≠0):t.fdiv (gs t b)=(Rat.divInt t b).num:=by
 have hp:=J3 (a:=t) hb;obtain⟨k,hk⟩:=LM t b;rw[Rat.num_divInt,Int.gcd_comm b t];show t.fdiv (gs t b)=b.sign*t / gi t b;unfold gs;generalize gi t b=g at hp hk ⊢;rcases Int.lt_or_gt_of_ne hb with h|h
 ·rw[if_pos h,Int.sign_eq_neg_one_of_neg h,Eu (k:=-k) (by lia) (by rw[hk];simp[Int.mul_neg,Int.neg_mul])];have:-1*t=g*(-k):=by rw[hk];simp[Int.mul_neg]
  rw[this,Int.mul_ediv_cancel_left _ (by lia)]
 ·rw[if_neg (by lia),Int.sign_eq_one_of_pos h,Eu (k:=k) (by lia) hk,Int.one_mul,hk,Int.mul_ediv_cancel_left _ (by lia)]
def Tw{t b:Int}(hb:b≠0):b.fdiv (gs t b)=((Rat.divInt t b).den:Int):=by
 have hp:=J3 (a:=t) hb;obtain⟨k,hk⟩:=KP t b;rw[Rat.den_divInt,if_neg hb,Int.gcd_comm b t];have e:(((b.natAbs / Int.gcd t b:Nat)):Int)=(b.natAbs:Int) / gi t b:=by unfold gi;simp
 rw[e];unfold gs;generalize gi t b=g at hp hk ⊢;rcases Int.lt_or_gt_of_ne hb with h|h
 ·rw[if_pos h,Eu (k:=-k) (by lia) (by rw[Int.neg_mul_neg];exact hk)];have:(b.natAbs:Int)=g*(-k):=by rw[Int.mul_neg,←hk];lia
  rw[this,Int.mul_ediv_cancel_left _ (by lia)]
 ·rw[if_neg (by lia),Eu (k:=k) (by lia) hk];have:(b.natAbs:Int)=g*k:=by rw[←hk];lia
  rw[this,Int.mul_ediv_cancel_left _ (by lia)]
def IA(a b:Int):(a.fdiv b).natAbs≤a.natAbs:=by
 cases a with
 |ofNat n =>
  cases n with
  |zero =>
   have e:Int.fdiv (.ofNat 0) b=0:=Int.zero_fdiv b;rw[e];exact az _
  |succ k =>
   cases b with
   |ofNat j=>exact Nat.div_le_self (k+1) j
   |negSucc j=>exact Nat.succ_le_succ (Nat.div_le_self k (j+1))
 |negSucc k =>
  cases b with
  |ofNat j =>
   cases j with
   |zero=>exact az _
   |succ j=>exact Nat.succ_le_succ (Nat.div_le_self k (j+1))
  |negSucc j=>exact Nat.div_le_self (k+1) (j+1)
def QC(p:Rat):Rat.divInt p.num p.den=p:=Rat.num_divInt_den p
def Wx{p q:Rat}(h1:p.num=q.num)(h2:(p.den:Int)=(q.den:Int)):p=q:=Rat.ext h1 (by lia)
def a6{x y:Int}{m n:Nat}(hx:x.natAbs<2^m)(hy:y.natAbs<2^n):(x*y).natAbs<2^(m+n):=by
 rw[Int.natAbs_mul,Nat.pow_add];exact Nat.mul_lt_mul'' hx hy
def Qz{x:Nat}{m n:Nat}(hx:x<2^m)(h:m≤n):x<2^n:=aI hx (ar (by decide) h)
def Fits(p:Rat)(n:Nat):Prop:=p.num.natAbs<2^n∧p.den<2^n
def Fits.d{p:Rat}{n:Nat}(h:Fits p n):((p.den:Int)).natAbs<2^n:=by simpa using h.2
end FM
namespace FM
def Q9(a b:Int):Int.gcd (if a<0 then -a else a) (if b<0 then -b else b)=Int.gcd a b:=by
 split<;>split<;>simp[Int.gcd_neg,Int.neg_gcd]
def abs_nonneg(a:Int):0≤(if a<0 then -a else a):=by split<;>lia
def T3{g a b:Int}(h:Int.gcd g 0=Int.gcd a b)(h0:0≤g):g=gi a b:=by
 unfold gi;rw[←h,Int.gcd_zero_right]
 lia
def fmod_nonneg{g l:Int}(hl:l≠0)(h:0≤l):0≤g.fmod l:=Int.fmod_nonneg_of_pos g (by lia)
end FM
namespace L2
open PySem PySem.Spec PyProof.Rows
structure Fn(K:Fg)(mg:Str→Option Value)(x:Str)(st:Stmt)(ps:List Str)(f:Addr)(fd:FuncData):Prop where
 F:Qm K x x st f fd
 b:Binds K fd ps []
 m:mg x=some (.ref f)
section
variable{X:Cx}{k:Nat}{f:AD}{fd:FuncData}{ps:List Str}{sp:Sp}{x:Str}{st:Stmt}{p pos:Pos}{e:Expr}{es:List Expr}{t:TA}
def B9(T:Fn X.K X.mg x st ps f fd)(G:AL X.prog X.w X.K X.mg X.base Ah k f fd ps sp)(hr:Cy k X.A)(hg:Gl X x)(ha:PA X (e::es) t)
 (hdb:(x==("__debug__" : Str))=false:=by decide)(he:starEach (e::es) X.env=(false,eval e X.env)::starEach es X.env:=by rfl)(hpl:(backTo pos (starEach es X.env)).any (·.1)=false:=by rfl) :
  PE X (.Call (.Name x p) (e::es) [] pos) (Wd sp [] E0 t):=Wv G hr hg T.m T.F.kp T.b .nil cP ha hdb he hpl
end
def Lj{t u:TS}{D:Ends}{σ:St}{H:Hp}(P:St→Hp→Prop)(h1:∀nx:St→Hp→Prop,(∀σ' H',P σ' H'→nx σ' H')→t {D with nx:=nx} σ H)(h2:∀σ' H',P σ' H'→u D σ' H'):Y8 t u D σ H:=h1 _ h2
def UM:2≤sizeLine:=by decide
def Aa{H:Hp}{p:AD}(h:H p=none)(o:HO):AG H (upd H p o):=fun b u q=>by rw[AF (AJ q h)];exact q
def SameBut(l:AD)(H H':Hp):Prop:=∀b o,b≠l→H b=some o→H' b=some o
def SameBut.of{l:AD}{H H':Hp}(h:AG H H'):SameBut l H H':=fun b o _ q=>h b o q
def M7(p:Rat):List V:=[.int p.num,.int (p.den:Int)]
def An(p:Rat):PD:=.tuple [.int p.num,.int (p.den:Int)]
def RN{i j:Int}{m n:Nat}(h1:i.natAbs<2^m)(h2:j.natAbs<2^n)(h:m+n≤1000000):Pl i j∨L8 i j :=
 .inr ⟨m+n,h,FM.Qz h1 (Nat.le_add_right _ _),FM.Qz h2 (Nat.le_add_left _ _)⟩
def eK(ea:AD)(cls:VL):HO:=.ext fun h=>∃o vs,h.get? ea=some o∧o.cls=cls∧o.data=.fields vs
open PySem PySem.Spec PyProof.Rows PySem.Builtin.ObjectAttr PySem.Builtin.Getset_descriptor
def Oq:V→VL
 |.ref C=>.ref C
 |.ty n=>.type n
 |_=>.none
def W2{c:V}{u:VL}(r:RelV c u)(h:Oq c≠.none):u=Oq c:=by
 cases c with
 |ref C=>exact r
 |ty n=>exact r
 |_=>exact absurd rfl h
section
variable{X:Cx}
def eQ(K:Fg):List V→Hp→VK→Prop:=fun xs H Q=>∃x c t b,xs=[x,c]∧Oq c≠.none∧Er K H x t∧PySem.W.kitOne K t (Oq c)=some b∧Q (.bl b) H
def Fs:Cv X (.builtin "isinstance") (eQ X.K):=by
 intro pins s σ H xs us Q I r h;obtain⟨x,c,t,b,rfl,hc,ty,e,q⟩:=h;obtain⟨u,v,rfl,r1,r2⟩:=r.two;rw[W2 r2 hc];exact TM I r1 ty e fun tk=>⟨.bl b,H,I.tok tk,rfl,q⟩
end
def ZJ(K:Fg):PySem.W.kitOne K (.type "tuple") (.type "tuple")=some true:=rfl
def Yd(K:Fg):PySem.W.kitOne K (.type "int") (.type "int")=some true:=rfl
def Yz(K:Fg):PySem.W.kitOne K (.type "bool") (.type "bool")=some true:=rfl
def Yn(K:Fg):PySem.W.kitOne K (.type "int") (.type "bool")=some false:=by kernel_rfl
def Yc(K:Fg):PySem.W.kitOne K (.type "bool") (.type "int")=some true:=by kernel_rfl
def bU(K:Fg):PySem.W.kitOne K (.type "list") (.type "tuple")=some false:=by kernel_rfl
def YV(K:Fg):PySem.W.kitOne K (.type "tuple") (.type "list")=some false:=by kernel_rfl
def YE(K:Fg):PySem.W.kitOne K (.type "list") (.type "list")=some true:=rfl
def ZL(K:Fg):PySem.W.kitOne K (.type "int") (.type "tuple")=some false:=by kernel_rfl
def YO(K:Fg):PySem.W.kitOne K (.type "bool") (.type "tuple")=some false:=by kernel_rfl
def Zo(K:Fg):PySem.W.kitOne K (.type "NoneType") (.type "tuple")=some false:=by kernel_rfl
def Zr(K:Fg):PySem.W.kitOne K (.type "str") (.type "tuple")=some false:=by kernel_rfl
def Zh(K:Fg):PySem.W.kitOne K (.type "tuple") (.type "int")=some false:=by kernel_rfl
def bx(K:Fg):PySem.W.kitOne K (.type "list") (.type "int")=some false:=by kernel_rfl
def Zz(K:Fg):PySem.W.kitOne K (.type "NoneType") (.type "int")=some false:=by kernel_rfl
def Zw(K:Fg):PySem.W.kitOne K (.type "str") (.type "int")=some false:=by kernel_rfl
def Zp(K:Fg):PySem.W.kitOne K (.type "int") (.type "list")=some false:=by kernel_rfl
def Yw(K:Fg):PySem.W.kitOne K (.type "bool") (.type "list")=some false:=by kernel_rfl
def Yk(K:Fg):PySem.W.kitOne K (.type "NoneType") (.type "list")=some false:=by kernel_rfl
def ZQ(K:Fg):PySem.W.kitOne K (.type "str") (.type "list")=some false:=by kernel_rfl
def freeOk(xsc:Scope)(names:List (Str×NameKind)):Bool:=names.all fun y=>y.2 != .free||xsc.names.lookup y.1==some .cell||xsc.names.lookup y.1==some .free
def Jy{xsc:Scope}{names:List (Str×NameKind)}(h:freeOk xsc names=true):∀y∈names,y.2=.free→xsc.names.lookup y.1=some .cell∨xsc.names.lookup y.1=some .free:=fun y hy hf=>by
 have q:=ao.mp h y hy;rw[hf]at q;simp only[bne_self_eq_false,Bool.false_or,Bool.or_eq_true,beq_iff_eq]at q;exact q
def CO(scope:Scope)(N:List Str)(x:Str)(ix:Nat):Bool :=
 scope.kind==.function&&(scope.names.all fun y=>y.2 != .cell&&(y.2 != .local||scope.names.lookup y.1==some .local)&&(y.2 != .free||scope.names.lookup y.1==some .free))&&scope.names.lookup x==some .local&&decide N.Nodup&&N[ix]? == some x
def FL{scope:Scope}{N:List Str}{x:Str}{ix:Nat}(h:CO scope N x ix=true):Ce scope N x ix:=by
 unfold CO at h;simp only[Bool.and_eq_true,beq_iff_eq,decide_eq_true_eq,List.all_eq_true,bne_iff_ne,Bool.or_eq_true]at h;obtain⟨⟨⟨⟨h1,h2⟩,h3⟩,h4⟩,h5⟩:=h;exact⟨h1,fun y hy=>(h2 y hy).1.1,fun y hy hl=>(h2 y hy).1.2.resolve_left fun z=>z hl,fun y hy hl=>(h2 y hy).2.resolve_left fun z=>z hl,h3,h4,h5⟩
section
variable{X:Cx}{elt iter:Expr}{x:Str}{px pos:Pos}{ifs:List Expr}{scope:Scope}{wi:TI}{tif:TT}{te:TE}
def FZ(N:List Str)(ix:Nat)(fr:List (Option Nat))(hi:PI X (.Name x px) iter wi)(hif:∀cl C s₀ H₀ fp,Jw (Aq X scope cl N C s₀ H₀ fp) ifs tif)(he:∀cl C s₀ H₀ fp,PE (Aq X scope cl N C s₀ H₀ fp) elt te)
 (h1:CO scope N x ix=true:=by decide +kernel)(h2:X.calm=true:=by rfl)(h3:EX N X.N scope X.env.scope fr 0=true:=by rfl)(h4:fr.length=N.length:=by rfl)(h5:freeOk X.env.scope scope.names=true:=by rfl)
 (hs:∀x,foldedSetIterable iter X.env x=pure x:=by intro _;rfl):PE X (.ListComp elt [⟨.Name x px,iter,ifs,0⟩] scope pos) (Kl wi fr ix tif te) :=
 Xa (FL h1) h2 h3 h4 (Jy h5) hi hif he hs
def LA{i:Nat}{y:Str}{py spos:Pos}(N:List Str)(ix:Nat)(fr:List (Option Nat))(hN:X.N.Nodup)(hy:X.N[i]? = some y)(hly:X.env.scope.names.lookup y=some .local)
 (hi:PI X (.Name x px) iter wi)(hif:∀cl C s₀ H₀ fp,Jw (Aq X scope cl N C s₀ H₀ fp) ifs tif)(he:∀cl C s₀ H₀ fp,PE (Aq X scope cl N C s₀ H₀ fp) elt te)
 (h1:CO scope N x ix=true:=by decide +kernel)(h2:X.calm=true:=by rfl)(h3:EX N X.N scope X.env.scope fr 0=true:=by rfl)(h4:fr.length=N.length:=by rfl)(h5:freeOk X.env.scope scope.names=true:=by rfl)
 (hsw:swapsWith (.ListComp elt [⟨.Name x px,iter,ifs,0⟩] scope pos) (some (.Name y py)) spos.line X.env=pure true:=by rfl)
 (hs:∀x,foldedSetIterable iter X.env x=pure x:=by intro _;rfl):PS X (.Assign [.Name y py] (.ListComp elt [⟨.Name x px,iter,ifs,0⟩] scope pos) spos) (SS (Kl wi fr ix tif te) (Cw i)) :=
 SJ hN hy hly (FL h1) h2 h3 h4 (Jy h5) hi hif he hsw hs
end
end L2
inductive Tr where
 |nil
 |cons (b r:Tr)
 deriving DecidableEq
namespace Tr
def bs:Tr→List Tr
 |.nil=>[]
 |.cons b r=>b::r.bs
def of:List Tr→Tr
 |[]=>.nil
 |b::r=>.cons b (of r)
def N8:∀t:Tr,of t.bs=t
 |.nil=>rfl
 |.cons b r=>by rw[bs,of,N8 r]
def Ku:∀l:List Tr,(of l).bs=l
 |[]=>rfl
 |b::r=>by rw[of,bs,Ku r]
def bj{t u:Tr}(h:t.bs=u.bs):t=u:=by rw[←N8 t,h,N8]
def len:Tr→Nat
 |.nil=>0
 |.cons _ r=>r.len+1
def FO:∀t:Tr,t.bs.length=t.len
 |.nil=>rfl
 |.cons _ r=>by rw[bs,List.length_cons,FO r,len]
def AR:Tr→Nat
 |.nil=>1
 |.cons b r=>b.AR+r.AR
def deep:Tr→Nat
 |.nil=>0
 |.cons b r=>max (b.deep+1) r.deep
def lt:Tr→Tr→Bool
 |.nil,.nil=>false
 |.nil,.cons _ _=>true
 |.cons _ _,.nil=>false
 |.cons b r,.cons c q=>if b=c then lt r q else lt b c
def lt_irrefl:∀t:Tr,lt t t=false
 |.nil=>rfl
 |.cons b r=>by rw[lt,if_pos rfl];exact lt_irrefl r
def lt_trans:∀a b c:Tr,lt a b=true→lt b c=true→lt a c=true
 |.nil,.nil,_,h,_=>by cases h
 |.nil,.cons _ _,.nil,_,h=>by cases h
 |.nil,.cons _ _,.cons _ _,_,_=>rfl
 |.cons _ _,.nil,_,h,_=>by cases h
 |.cons _ _,.cons _ _,.nil,_,h=>by cases h
 |.cons a r,.cons b s,.cons c t,h1,h2=>by
  rw[lt]at h1 h2 ⊢;by_cases e1:a=b
  ·subst e1;rw[if_pos rfl]at h1;by_cases e2:a=c
   ·subst e2;rw[if_pos rfl]at h2 ⊢;exact lt_trans r s t h1 h2
   ·rw[if_neg e2]at h2 ⊢;exact h2
  ·rw[if_neg e1]at h1;by_cases e2:b=c
   ·subst e2;rw[if_neg e1];exact h1
   ·rw[if_neg e2]at h2;have h3:=lt_trans a b c h1 h2;by_cases e3:a=c
    ·subst e3;rw[lt_irrefl]at h3;cases h3
    ·rw[if_neg e3];exact h3
def G9:∀a b:Tr,lt a b=false→lt b a=false→a=b
 |.nil,.nil,_,_=>rfl
 |.nil,.cons _ _,h,_=>by cases h
 |.cons _ _,.nil,_,h=>by cases h
 |.cons a r,.cons b s,h1,h2=>by
  rw[lt]at h1 h2;by_cases e:a=b
  ·subst e;rw[if_pos rfl]at h1 h2;rw[G9 r s h1 h2]
  ·rw[if_neg e]at h1;rw[if_neg (Ne.symm e)]at h2;exact absurd (G9 a b h1 h2) e
def LK(a b c:Tr)(h:lt a c=true):lt a b=true∨lt b c=true:=by
 cases h1:lt a b with
 |true=>exact .inl rfl
 |false =>
  right
  cases h2:lt b a with
  |true=>exact lt_trans b a c h2 h
  |false=>rw[←G9 a b h1 h2];exact h
def lt_asymm{a b:Tr}(h:lt a b=true):lt b a=false:=by
 cases h2:lt b a with
 |false=>rfl
 |true=>have:=lt_trans a b a h h2;rw[lt_irrefl]at this;cases this
def U6:Tr→Bool
 |.nil=>true
 |.cons b r=>b.U6&&r.U6&&(match r with
  |.nil=>true
  |.cons c _=>!lt b c)
def ins(x:Tr):List Tr→List Tr
 |[]=>[x]
 |y::r=>if lt x y=true then y::ins x r else x::y::r
def Bh:List Tr→List Tr
 |[]=>[]
 |x::r=>ins x (Bh r)
end Tr
namespace TH
open PySem PyProof.Rows PySem.SeqAt
def Vs(h:Heap):Tr→List VL→Prop
 |.nil,us=>us=[]
 |.cons b r,us=>∃(a:AD) (its rest:List VL),us=.ref a::rest∧h.IsTuple a its.toArray∧Vs h b its∧Vs h r rest
def Vs.length{h:Heap}:∀ {t:Tr} {us:List VL},Vs h t us→us.length=t.len
 |.nil,us,e=>by rw[Vs]at e;rw[e];rfl
 |.cons b r,us,e=>by
  rw[Vs]at e;obtain⟨a,its,rest,rfl,_,_,q⟩:=e;rw[List.length_cons,Tr.len,Vs.length q]
def Gf{h:Heap}{a:AD}{x y:Array VL}(h1:h.IsTuple a x)(h2:h.IsTuple a y):x=y:=by
 obtain⟨o,e,_,n,d⟩:=h1;obtain⟨o',e',_,n',d'⟩:=h2;rw[e]at e';cases e';rw[d]at d';cases d';rfl
def Vs.inj{h:Heap}:∀ {t u:Tr} {us:List VL},Vs h t us→Vs h u us→t=u
 |.nil,.nil,_,_,_=>rfl
 |.nil,.cons _ _,us,e,f=>by
  rw[Vs]at e;rw[Vs]at f;obtain⟨_,_,_,f,_⟩:=f;rw[e]at f;cases f
 |.cons _ _,.nil,us,e,f=>by
  rw[Vs]at e;rw[Vs]at f;obtain⟨_,_,_,e,_⟩:=e;rw[f]at e;cases e
 |.cons b r,.cons c q,us,e,f=>by
  rw[Vs]at e f;obtain⟨a,its,rest,rfl,h1,h2,h3⟩:=e;obtain⟨a',its',rest',e',k1,k2,k3⟩:=f;cases e';have:=Gf h1 k1;have e2:its=its':=by simpa using this
  subst e2;rw[Vs.inj h2 k2,Vs.inj h3 k3]
def R7{s:SD}:∀(t u:Tr) (A:Around) (us vs:List VL),Vs s.heap t us→Vs s.heap u vs→A.units+t.deep≤cLine →
  ∀j (h1:j<us.length) (h2:j<vs.length),EqAt A s us[j] vs[j] (decide (t.bs[j]? = u.bs[j]?))
 |.nil,u,A,us,vs,e,f,_,j,h1,h2=>by
  rw[Vs]at e;subst e;exact absurd h1 (ah _)
 |.cons b r,.nil,A,us,vs,e,f,_,j,h1,h2=>by
  rw[Vs]at f;subst f;exact absurd h2 (ah _)
 |.cons b r,.cons c q,A,us,vs,e,f,hu,j,h1,h2=>by
  rw[Vs]at e f;obtain⟨a,its,rest,rfl,k1,k2,k3⟩:=e;obtain⟨a',its',rest',rfl,l1,l2,l3⟩:=f;have hd:(Tr.cons b r).deep=max (b.deep+1) r.deep:=rfl;cases j with
  |zero =>
   show EqAt A s (.ref a) (.ref a') (decide (some b=some c));by_cases ea:a=a'
   ·subst ea;have:=Gf k1 l1;have e2:its=its':=by simpa using this
    subst e2;rw[Vs.inj k2 l2,decide_eq_true rfl];exact EqAt.same _
   ·refine EqAt.of_refs ea ?_;have key:=RcAt.tuples (s:=s) (A:=A) (e:=fun j=>decide (b.bs[j]? = c.bs[j]?)) k1 l1 (by lia) fun j x1 x2=>by
     have:=R7 b c A.in1 its its' k2 l2 (by rw[show A.in1.units=A.units+1 from rfl];lia) j (by simpa using x1) (by simpa using x2)
     simpa using this
    have ev:((List.range (min its.toArray.size its'.toArray.size)).all (fun j=>decide (b.bs[j]? = c.bs[j]?))&&its.toArray.size==its'.toArray.size)=decide (some b=some c):=by
     have z1:its.toArray.size=b.bs.length:=by rw[Tr.FO,←Vs.length k2];simp
     have z2:its'.toArray.size=c.bs.length:=by rw[Tr.FO,←Vs.length l2];simp
     rw[z1,z2];by_cases hbc:b=c
     ·subst hbc;simp
     ·rw[decide_eq_false (fun z=>hbc (ab z))];cases hl:b.bs.length==c.bs.length with
      |false=>rw[Bool.and_false]
      |true =>
       rw[Bool.and_true];have hl':b.bs.length=c.bs.length:=by simpa using hl
       refine ak.mpr fun z=>hbc (Tr.bj (List.ext_getElem? fun i=>?_));by_cases hi:i<b.bs.length
       ·have:=ao.mp z i (ae.mpr (by lia))
        simpa using this
       ·rw[List.getElem?_eq_none (by lia),List.getElem?_eq_none (by lia)]
    rw[ev]at key;exact key
  |succ j =>
   exact R7 r q A rest rest' k3 l3 (by lia) j (by simpa using h1) (by simpa using h2)
def Pn{s:SD}{t u:Tr}{A:Around}{a b:AD}{its its':List VL}(h1:s.heap.IsTuple a its.toArray)(k1:Vs s.heap t its)(h2:s.heap.IsTuple b its'.toArray)(k2:Vs s.heap u its')(hu:A.units+t.deep<cLine) :
  EqAt A s (.ref a) (.ref b) (decide (t=u)):=by
 have:=R7 (.cons t .nil) (.cons u .nil) A [.ref a] [.ref b] ⟨a,its,[],rfl,h1,k1,by rw[Vs]⟩ ⟨b,its',[],rfl,h2,k2,by rw[Vs]⟩ (by show A.units+max (t.deep+1) 0≤cLine;lia) 0 (by simp) (by simp)
 simpa[Tr.bs]using this
section
open PySem.AutoSeq1 (wpAny_loadPart')
open PySem.MeetsSeq PySem.MeetsSeq2 PySem.MeetsSeq3
def Ot(n0:Nat)(ih:∀(t u:Tr) (A:Around) (s:SD) (a b:AD) (its its':List VL),t.deep<n0→s.heap.IsTuple a its.toArray→Vs s.heap t its→s.heap.IsTuple b its'.toArray→Vs s.heap u its'→A.units+t.deep<cLine →
   ∀(prog:Program) (w:World) (E:VL→SD→Prop) (Q:VL→SD→Prop),Q (.bool (Tr.lt t u)) s→wpAny (model prog w) A (richCompare .Lt (.ref a) (.ref b)) Q E s)
 (l b:AD)(items items2:Array VL)(n n2:Nat)(dd dd2:Option AD)(sl sl2:Array (Option VL))(t u:Tr)(ht:t.deep≤n0) :
  Meets (Builtin.«tuple.__lt__» ⟨[.ref l,.ref b],[]⟩)
   (fun A R s=>s.heap.get? l=some { cls:=.type "tuple",dict:=dd,data:=.seq items n,slots:=sl}∧s.heap.get? b=some { cls:=.type "tuple",dict:=dd2,data:=.seq items2 n2,slots:=sl2} ∧
    Vs s.heap t items.toList∧Vs s.heap u items2.toList∧A.units+t.deep<cLine∧R (.ok (.ret (.bool (Tr.lt t u)))) s) :=
 .of_wp fun prog w A R s h=>by
  obtain⟨hp,g,d,tk,os⟩:=s;obtain⟨hl,hb,hi,hj,hun,h⟩:=h;have f2:=AutoSeq1.sub_tuple_tuple;have z1:items.size=t.len:=by rw[←Vs.length hi];simp
  have z2:items2.size=u.len:=by rw[←Vs.length hj];simp
  wp_walk using wpAny_loadPart' hl,wpAny_loadPart' hb,wpAny_forIn_list _ (fun rest b s'=>b.1=none∧s'=⟨hp,g,d,tk,os⟩∧∃(vs ws:List VL) (t' u':Tr),rest=vs.zip ws ∧
   Vs hp t' vs∧Vs hp u' ws∧t'.deep≤t.deep∧t'.len+items2.size=u'.len+items.size∧R (.ok (.ret (.bool (Tr.lt t' u')))) ⟨hp,g,d,tk,os⟩) _
  case turn =>
   rintro⟨y,x⟩ rest b s' ⟨hb',rfl,vs,ws,t',u',hz,hvi,hwi,hdp,hlen,hR⟩;cases t' with
   |nil=>rw[Vs]at hvi;subst hvi;rw[List.zip_nil_left]at hz;cases hz
   |cons bt rt =>
    cases u' with
    |nil=>rw[Vs]at hwi;subst hwi;rw[List.zip_nil_right]at hz;cases hz
    |cons bu ru =>
     rw[Vs]at hvi hwi;obtain⟨a1,i1,v1,rfl,p1,p2,p3⟩:=hvi;obtain⟨a2,i2,v2,rfl,q1,q2,q3⟩:=hwi;rw[List.zip_cons_cons]at hz
     injection hz with hyx hrest
     injection hyx with hy hx
     subst hy hx;have hdd:(Tr.cons bt rt).deep=max (bt.deep+1) rt.deep:=rfl;rw[Tr.lt]at hR;simp only[Tr.len]at hlen;have he:=Pn (s:=⟨hp,g,d,tk,os⟩) (A:=A.in1) p1 p2 q1 q2 (by rw[show A.in1.units=A.units+1 from rfl];lia);refine Wb (he prog w _ _ ?_);cases hc:decide (bt=bu) with
     |true =>
      rw[if_pos (aV hc)]at hR
      wp_walk
      exact⟨rfl,rfl,_,_,_,_,hrest,p3,q3,by lia,by lia,hR⟩
     |false =>
      rw[if_neg (bC hc)]at hR;have hri:=ih bt bu A.in1 ⟨hp,g,d,tk,os⟩ a1 a2 i1 i2 (by lia) p1 p2 q1 q2 (by rw[show A.in1.units=A.units+1 from rfl];lia) prog w
      wp_walk using hri
      exact⟨_,rfl,by simpa using hR⟩
  case fin =>
   rintro⟨b1,b2⟩ s' ⟨hb',rfl,vs,ws,t',u',hz,hvi,hwi,hdp,hlen,hR⟩;simp only at hb';subst hb';have hv:Tr.lt t' u'=decide (items.size<items2.size):=by
    cases t' with
    |nil =>
     cases u' with
     |nil =>
      simp only[Tr.len]at hlen;exact(bI (by lia)).symm
     |cons c q =>
      simp only[Tr.len]at hlen;exact(decide_eq_true (by lia)).symm
    |cons bt rt =>
     cases u' with
     |nil =>
      simp only[Tr.len]at hlen;exact(bI (by lia)).symm
     |cons c q =>
      rw[Vs]at hvi hwi;obtain⟨_,_,_,rfl,_⟩:=hvi;obtain⟨_,_,_,rfl,_⟩:=hwi;rw[List.zip_cons_cons]at hz;cases hz
   rw[hv]at hR
   wp_walk
   exact⟨_,rfl,by simpa[Builtin.Tuple.tupleCompareSizes]using hR⟩
  case h =>
   exact⟨rfl,rfl,items.toList,items2.toList,t,u,rfl,hi,hj,Nat.le_refl _,by lia,h⟩
def Sh:∀(n0:Nat) (t u:Tr) (A:Around) (s:SD) (a b:AD) (its its':List VL),t.deep<n0→s.heap.IsTuple a its.toArray→Vs s.heap t its→s.heap.IsTuple b its'.toArray→Vs s.heap u its'→A.units+t.deep<cLine →
   ∀(prog:Program) (w:World) (E:VL→SD→Prop) (Q:VL→SD→Prop),Q (.bool (Tr.lt t u)) s→wpAny (model prog w) A (richCompare .Lt (.ref a) (.ref b)) Q E s
 |0,_,_,_,_,_,_,_,_,h,_,_,_,_,_=>absurd h (ah _)
 |n0+1,t,u,A,s,a,b,its,its',hd,hl,ht,hb,hu',hun=>fun prog w E Q h=>by
  obtain⟨⟨cls,dd,data,sl⟩,ho,hc,n,hdt⟩:=id hl;obtain⟨⟨cls2,dd2,data2,sl2⟩,ho2,hc2,n2,hdt2⟩:=id hb;simp only at hc hdt hc2 hdt2;subst hc hdt hc2 hdt2;exact richCompare_meets_room (op:=.Lt) ⟨_,ho,rfl⟩ ⟨_,ho2,rfl⟩ PySem.F.slot_tuple_lt PySem.F.entry_tuple_lt (PySem.F.args_tuple_lt_2 _ _) (Ot n0 (Sh n0) a b its.toArray its'.toArray n n2 dd dd2 sl sl2 t u (by lia))
   ⟨ho,ho2,by simpa using ht,by simpa using hu',hun,show Value.bool (Tr.lt t u)≠Value.notImplemented∧Q (.bool (Tr.lt t u)) s from⟨(fun x=>nomatch x),h⟩⟩ (by lia)
end
end TH
namespace SM
open PySem.W PyProof.Rows
def Wp{α:Type}(lt:Nat→Nat→Bool)(n:Nat):KasT α→(α→Prop)→Prop
 |.ret a,Q=>Q a
 |.ask i j k,Q=>i<n∧j<n∧Wp lt n (k (lt i j)) Q
def Wp.mono{α:Type}{lt:Nat→Nat→Bool}{n:Nat}{Q Q':α→Prop}(hq:∀a,Q a→Q' a):∀t:KasT α,Wp lt n t Q→Wp lt n t Q'
 |.ret a,h=>hq a h
 |.ask i j k,h=>⟨h.1,h.2.1,Wp.mono hq (k (lt i j)) h.2.2⟩
def Wp.bind{α β:Type}{lt:Nat→Nat→Bool}{n:Nat}{f:α→KasT β}{Q:β→Prop}:∀t:KasT α,Wp lt n t (fun a=>Wp lt n (f a) Q)→Wp lt n (t.bind f) Q
 |.ret _,h=>h
 |.ask i j k,h=>⟨h.1,h.2.1,Wp.bind (k (lt i j)) h.2.2⟩
def G8{p:Array Nat}{i j:Nat}(hj:j≤p.size)(k:Nat):(kas_rev p i j).getD k 0=if i≤k∧k<j then p.getD (i+j-1-k) 0 else p.getD k 0:=by
 have e:=getElem?_mirror_all (i:=i) hj k;unfold kas_rev;rw[Array.getD_eq_getD_getElem?,Array.getD_eq_getD_getElem?,Array.getD_eq_getD_getElem?,e];split<;>rfl
def QV{p:Array Nat}{src d:Nat}(hs:src<p.size)(hd:d≤src)(k:Nat) :
  (bubble p src d).getD k 0=if k=src-d then p.getD src 0 else if src-d<k∧k≤src then p.getD (k-1) 0 else p.getD k 0:=by
 have e:=getElem?_bubble hs d hd k;simp only[Array.getD_eq_getD_getElem?,e];split
 ·rfl
 ·split<;>rfl
section
variable{O:KeyOrd}{key:Nat→O.α}{n:Nat}
def Key(key:Nat→O.α)(p:Array Nat)(i:Nat):O.α:=key (p.getD i 0)
def Up(key:Nat→O.α)(p:Array Nat)(m:Nat):Prop:=∀i j,i≤j→j<m→O.kle (Key key p i) (Key key p j)
def Dn(key:Nat→O.α)(p:Array Nat)(m:Nat):Prop:=∀i j,i≤j→j<m→O.kle (Key key p j) (Key key p i)
structure Pm(n:Nat)(p:Array Nat):Prop where
 perm:p.Perm (List.toArray (List.range n))
 pos:0<n
def Pm.size{p:Array Nat}(h:Pm n p):p.size=n:=by rw[h.perm.size_eq];simp
def Pm.lt{p:Array Nat}(h:Pm n p)(i:Nat):p.getD i 0<n:=by
 rw[Array.getD_eq_getD_getElem?];by_cases hi:i<p.size
 ·rw[Array.getElem?_eq_getElem hi];have hm:p[i]∈p:=Array.getElem_mem hi;have:=(h.perm.mem_iff).mp hm
  simpa using this
 ·rw[Array.getElem?_eq_none (by lia)];exact h.pos
def Pm.rev{p:Array Nat}(h:Pm n p)(i j:Nat):Pm n (kas_rev p i j):=⟨(mirror_perm _ _ _ _).trans h.perm,h.pos⟩
def Pm.bubble{p:Array Nat}(h:Pm n p)(i j:Nat):Pm n (bubble p i j):=⟨(bubble_perm _ _ _).trans h.perm,h.pos⟩
abbrev El(key:Nat→O.α):Nat→Nat→Bool:=fun i j=>O.blt (key i) (key j)
def Up.one{p:Array Nat}:Up key p 1:=fun i j h1 h2=>by
 have:i=j:=by lia
 subst this;exact bJ _
def Up.more{p:Array Nat}{m:Nat}(h:Up key p m)(h1:1≤m)(hk:O.kle (Key key p (m-1)) (Key key p m)):Up key p (m+1):=fun i j hij hj=>by
 by_cases e:j=m
 ·subst e;by_cases e2:i=j
  ·subst e2;exact bJ _
  ·exact KeyOrd.kle_trans (h i (j-1) (by lia) (by lia)) hk
 ·exact h i j hij (by lia)
def Dn.more{p:Array Nat}{m:Nat}(h:Dn key p m)(h1:1≤m)(hk:O.kle (Key key p m) (Key key p (m-1))):Dn key p (m+1):=fun i j hij hj=>by
 by_cases e:j=m
 ·subst e;by_cases e2:i=j
  ·subst e2;exact bJ _
  ·exact KeyOrd.kle_trans hk (h i (j-1) (by lia) (by lia))
 ·exact h i j hij (by lia)
def asc{p:Array Nat}(hp:Pm n p):∀(f m:Nat),1≤m→Up key p m→Wp (El key) n (kas_asc p f m) fun r=>m≤r∧r≤m+f∧Up key p r∧(r=m+f∨O.klt (Key key p r) (Key key p (r-1)))
 |0,m,_,h=>⟨aG _,Nat.le_refl _,h,.inl rfl⟩
 |f+1,m,h1,h=>by
  refine⟨hp.lt _,hp.lt _,?_⟩;cases c:El key (p.getD m 0) (p.getD (m-1) 0) with
  |true=>exact⟨aG _,by lia,h,.inr c⟩
  |false =>
   simp only[Bool.false_eq_true,if_false];refine Wp.mono (fun r hr=>?_) _ (asc hp f (m+1) (by lia) (h.more h1 c));exact⟨by lia,by lia,hr.2.2.1,hr.2.2.2.elim (fun z=>.inl (by lia)) .inr⟩
def Eq(key:Nat→O.α)(p:Array Nat)(m q:Nat):Prop:=q<m∧∀k,m-(q+1)≤k→k<m→Key key p k=Key key p (m-1)
def rev_eq{p:Array Nat}{m q:Nat}(h:Eq key p m q)(hm:m≤p.size)(k:Nat):Key key (kas_rev p (m-(q+1)) m) k=Key key p k:=by
 unfold Key;rw[G8 hm];split
 ·have a:=h.2 (m-(q+1)+m-1-k) (by have:=h.1;lia) (by have:=h.1;lia);have b:=h.2 k (by lia) (by lia);exact a.trans b.symm
 ·rfl
def desc:∀(f:Nat) (p:Array Nat) (m q:Nat),Pm n p→1≤m→m+f≤n→Dn key p m→Eq key p m q→Wp (El key) n (kas_desc f p m q) fun r=>Pm n r.1∧m≤r.2.1∧r.2.1≤m+f∧Dn key r.1 r.2.1∧Eq key r.1 r.2.1 r.2.2
 |0,p,m,q,hp,_,_,h,e=>⟨hp,Nat.le_refl _,Nat.le_refl _,h,e⟩
 |f+1,p,m,q,hp,h1,hf,h,e=>by
  refine⟨hp.lt _,hp.lt _,?_⟩;have hm:m≤p.size:=by rw[hp.size];lia
  cases c:El key (p.getD m 0) (p.getD (m-1) 0) with
  |true =>
   have ck:O.klt (Key key p m) (Key key p (m-1)):=c;simp only[if_true];have fin:∀p':Array Nat,Pm n p'→(∀k,Key key p' k=Key key p k)→Wp (El key) n (kas_desc f p' (m+1) 0) fun r=>Pm n r.1∧m≤r.2.1∧r.2.1≤m+(f+1)∧Dn key r.1 r.2.1∧Eq key r.1 r.2.1 r.2.2:=fun p' hp' hk=>by
    have hd:Dn key p' (m+1):=fun i j hij hj=>by rw[hk,hk];exact h.more h1 (KeyOrd.kle_of_klt ck) i j hij hj
    have he:Eq key p' (m+1) 0:=⟨by lia,fun k h1 h2=>by rw[show k=m+1-1 by lia]⟩;exact Wp.mono (fun r hr=>⟨hr.1,by lia,by lia,hr.2.2.2.1,hr.2.2.2.2⟩) _ (desc f p' (m+1) 0 hp' (by lia) (by lia) hd he)
   split
   ·exact fin _ (hp.rev _ _) (rev_eq e hm)
   ·exact fin _ hp fun _=>rfl
  |false =>
   simp only[Bool.false_eq_true,if_false];refine⟨hp.lt _,hp.lt _,?_⟩;cases d:El key (p.getD (m-1) 0) (p.getD m 0) with
   |true =>
    simp only[if_true];exact⟨hp,Nat.le_refl _,Nat.le_add_right _ _,h,e⟩
   |false =>
    simp only[Bool.false_eq_true,if_false];have ek:Key key p m=Key key p (m-1):=KeyOrd.kle_antisymm (show O.kle (Key key p m) (Key key p (m-1)) from d) (show O.kle (Key key p (m-1)) (Key key p m) from c);refine Wp.mono (fun r hr=>⟨hr.1,by lia,by lia,hr.2.2.2.1,hr.2.2.2.2⟩) _ (desc f p (m+1) (q+1) hp (by lia) (by lia) (h.more h1 (by rw[ek];exact bJ _)) ⟨by have:=e.1;lia,fun k h2 h3=>?_⟩);rw[show m+1-1=m by lia,ek];by_cases z:k=m
    ·rw[z,ek]
    ·exact e.2 k (by lia) (by lia)
def ZA{p:Array Nat}{m:Nat}(h:Dn key p m)(hm:m≤p.size):Up key (kas_rev p 0 m) m:=fun i j hij hj=>by
 unfold Key;rw[G8 hm,G8 hm,if_pos ⟨az _,by lia⟩,if_pos ⟨az _,by lia⟩];exact h (0+m-1-j) (0+m-1-i) (by lia) (by lia)
def tail3{p:Array Nat}{m:Nat}(hp:Pm n p)(h1:1≤m)(hm:m≤n)(h:Dn key p m):Wp (El key) n (kas_tail3 m n p) fun r=>Pm n r.2∧1≤r.1∧r.1≤n∧Up key r.2 r.1:=by
 unfold kas_tail3;refine Wp.bind _ (Wp.mono (fun r hr=>?_) _ (asc (hp.rev 0 m) (n-m) m h1 (ZA h (by rw[hp.size];exact hm))));exact⟨hp.rev 0 m,by lia,by lia,hr.2.2.1⟩
def descPart{p:Array Nat}{m:Nat}(hp:Pm n p)(h1:1≤m)(hm:m+1≤n)(h:Dn key p (m+1)):Wp (El key) n (kas_descPart m n p) fun r=>Pm n r.2∧1≤r.1∧r.1≤n∧Up key r.2 r.1:=by
 unfold kas_descPart;refine Wp.bind _ (Wp.mono (fun r hr=>?_) _ (desc (n-(m+1)) p (m+1) 0 hp (by lia) (by lia) h ⟨by lia,fun k h1 h2=>by rw[show k=m+1-1 by lia]⟩));obtain⟨a,b,c,d,e⟩:=hr;have hz:r.2.1≤r.1.size:=by rw[a.size];lia
 split
 ·refine tail3 (a.rev _ _) (by lia) (by lia) fun i j hij hj=>?_;rw[rev_eq e hz,rev_eq e hz];exact d i j hij hj
 ·exact tail3 a (by lia) (by lia) d
def count{p:Array Nat}(hp:Pm n p):Wp (El key) n (kas_count n p) fun r=>Pm n r.2∧1≤r.1∧r.1≤n∧Up key r.2 r.1:=by
 have hn:=hp.pos;unfold kas_count;refine Wp.bind _ (Wp.mono (fun m hm=>?_) _ (asc hp (n-1) 1 (aG _) Up.one));obtain⟨h1,h2,h3,h4⟩:=hm;split
 ·exact⟨hp,h1,by lia,h3⟩
 ·rename_i hne;have hne':m≠n:=by simpa using hne
  have hk:O.klt (Key key p m) (Key key p (m-1)):=by
   rcases h4 with z|z
   ·exact absurd (by lia) hne'
   ·exact z
  have hz:m≤p.size:=by rw[hp.size];lia
  split
  ·refine⟨hp.lt _,hp.lt _,?_⟩;cases c:El key (p.getD 0 0) (p.getD (m-1) 0) with
   |true=>simp only[if_true];exact⟨hp,h1,by lia,h3⟩
   |false =>
    simp only[Bool.false_eq_true,if_false];have all:∀k,k<m→Key key p k=Key key p (m-1):=fun k hk'=>KeyOrd.kle_antisymm (h3 k (m-1) (by lia) (by lia)) (KeyOrd.kle_trans (show O.kle (Key key p (m-1)) (Key key p 0) from c) (h3 0 k (by lia) hk'));have ek:∀k,Key key (kas_rev p 0 m) k=Key key p k:=fun k=>by
     by_cases hk':k<m
     ·have:Key key (kas_rev p 0 m) k=Key key p (0+m-1-k):=by
       unfold Key;rw[G8 hz,if_pos ⟨az _,hk'⟩]
      rw[this,all _ (by lia),all k hk']
     ·unfold Key;rw[G8 hz,if_neg (by lia)]
    refine descPart (hp.rev _ _) h1 (by lia) fun i j hij hj=>?_;rw[ek,ek];by_cases e:j=m
    ·subst e;by_cases e2:i=j
     ·subst e2;exact bJ _
     ·rw[all i (by lia)];exact KeyOrd.kle_of_klt hk
    ·rw[all i (by lia),all j (by lia)];exact bJ _
  ·have:m=1:=by lia
   subst this;refine descPart hp h1 (by lia) fun i j hij hj=>?_;by_cases e:i=j
   ·subst e;exact bJ _
   ·rw[show i=0 by lia,show j=1 by lia];exact KeyOrd.kle_of_klt hk
def place{p:Array Nat}{k:Nat}(hp:Pm n p)(hs:Up key p k):∀(f l r:Nat),l≤r→r≤k→r-l≤f→(∀i,i<l→O.kle (Key key p i) (Key key p k))→(∀i,r≤i→i<k→O.klt (Key key p k) (Key key p i)) →
  Wp (El key) n (kas_place p k f l r) fun x=>x≤k∧(∀i,i<x→O.kle (Key key p i) (Key key p k))∧∀i,x≤i→i<k→O.klt (Key key p k) (Key key p i)
 |0,l,r,h1,h2,h3,a,b=>by
  have:l=r:=by lia
  subst this;exact⟨h2,a,b⟩
 |f+1,l,r,h1,h2,h3,a,b=>by
  unfold kas_place;split
  ·have:l=r:=by lia
   subst this;exact⟨h2,a,b⟩
  ·refine⟨hp.lt _,hp.lt _,?_⟩;cases c:El key (p.getD k 0) (p.getD ((l+r) / 2) 0) with
   |true =>
    simp only[if_true];exact place hp hs f l ((l+r) / 2) (by lia) (by lia) (by lia) a fun i x1 x2=>KeyOrd.klt_of_klt_of_kle (show O.klt (Key key p k) (Key key p ((l+r) / 2)) from c) (hs _ _ x1 x2)
   |false =>
    simp only[Bool.false_eq_true,if_false];exact place hp hs f ((l+r) / 2+1) r (by lia) h2 (by lia) (fun i x1=>KeyOrd.kle_trans (hs i ((l+r) / 2) (by lia) (by lia)) (show O.kle (Key key p ((l+r) / 2)) (Key key p k) from c)) b
def bin:∀(f:Nat) (p:Array Nat) (k:Nat),Pm n p→1≤k→k+f=n→Up key p k→Wp (El key) n (kas_bin f p k) fun r=>Pm n r∧Up key r n
 |0,p,k,hp,_,hk,h=>by
  have:k=n:=by lia
  subst this;exact⟨hp,h⟩
 |f+1,p,k,hp,h1,hk,h=>by
  have hks:k<p.size:=by rw[hp.size];lia
  refine Wp.bind _ (Wp.mono (fun l hl=>?_) _ (place hp h k 0 k (az _) (aG _) (by lia) (fun i z=>absurd z (by lia)) fun i z1 z2=>absurd z1 (by lia)));obtain⟨hlk,hlo,hhi⟩:=hl;refine bin f _ (k+1) (hp.bubble _ _) (by lia) (by lia) fun i j hij hj=>?_;have kb:∀x,Key key (PyProof.Rows.bubble p k (k-l)) x=if x=l then Key key p k else if l<x∧x≤k then Key key p (x-1) else Key key p x:=fun x=>by
   unfold Key;rw[QV hks (by lia),show k-(k-l)=l by lia];split
   ·rfl
   ·split<;>rfl
  rw[kb,kb]
  repeat' split
  all_goals first
   |(exfalso;lia)
   |exact bJ _
   |exact hlo _ (by lia)
   |exact KeyOrd.kle_of_klt (hhi _ (by lia) (by lia))
   |exact h _ _ (by lia) (by lia)
def sort(hn:0<n):Wp (El key) n (kas_sort n) fun p=>Pm n p∧Up key p n:=by
 have hp:Pm n (List.toArray (List.range n)):=⟨Array.Perm.refl _,hn⟩;unfold kas_sort;refine Wp.bind _ (Wp.mono (fun r hr=>?_) _ (count hp));obtain⟨a,b,c,d⟩:=hr;split
 ·rw[show max r.1 1=r.1 by lia];exact bin _ _ _ a b (by lia) d
 ·have:r.1=n:=by lia
  rw[this]at d;exact⟨a,d⟩
end
end SM
namespace Tr
def LZ(x:Tr):∀l:List Tr,(ins x l).Perm (x::l)
 |[]=>.refl _
 |y::r=>by
  rw[ins];split
  ·exact((LZ x r).cons y).trans (.swap x y r)
  ·exact .refl _
def Gy:∀l:List Tr,(Bh l).Perm l
 |[]=>.refl _
 |x::r=>by
  rw[Bh];exact(LZ x (Bh r)).trans ((Gy r).cons x)
abbrev Mw(l:List Tr):Prop:=l.Pairwise fun a b=>lt a b=false
def PJ(x:Tr):∀l:List Tr,Mw l→Mw (ins x l)
 |[],_=>List.pairwise_singleton _ _
 |y::r,h=>by
  obtain⟨h1,h2⟩:=List.pairwise_cons.mp h;rw[ins];split
  ·rename_i c;refine List.pairwise_cons.mpr ⟨fun z hz=>?_,PJ x r h2⟩;rcases aL.mp ((LZ x r).mem_iff.mp hz) with rfl|hz
   ·exact lt_asymm c
   ·exact h1 z hz
  ·rename_i c;have c':lt x y=false:=by simpa using c
   refine List.pairwise_cons.mpr ⟨fun z hz=>?_,h⟩;rcases aL.mp hz with rfl|hz
   ·exact c'
   ·cases e:lt x z with
    |false=>rfl
    |true =>
     rcases LK x y z e with q|q
     ·rw[c']at q;cases q
     ·rw[h1 z hz]at q;cases q
def HC:∀l:List Tr,Mw (Bh l)
 |[]=>List.Pairwise.nil
 |x::r=>by rw[Bh];exact PJ x _ (HC r)
def IL:∀ {l m:List Tr},Mw l→Mw m→l.Perm m→l=m
 |[],m,_,_,p=>(List.nil_perm.mp p).symm
 |x::r,[],_,_,p=>absurd p.length_eq (by simp)
 |x::r,y::q,h1,h2,p=>by
  obtain⟨a1,a2⟩:=List.pairwise_cons.mp h1;obtain⟨b1,b2⟩:=List.pairwise_cons.mp h2;have hx:x∈y::q:=p.mem_iff.mp aT;have hy:y∈x::r:=p.mem_iff.mpr aT;have e:x=y:=by
   rcases aL.mp hx with e|hx
   ·exact e
   ·rcases aL.mp hy with e|hy
    ·exact e.symm
    ·exact G9 x y (a1 y hy) (b1 x hx)
  subst e;rw[IL a2 b2 (List.Perm.cons_inv p)]
def Sn{l m:List Tr}(h:Mw m)(p:m.Perm l):m=Bh l:=IL h (HC l) (p.trans (Gy l).symm)
def R9{l m:List Tr}(h:m.Pairwise fun a b=>lt b a=false)(p:m.Perm l):m=(Bh l).reverse:=by
 have:m.reverse=Bh l:=Sn (List.pairwise_reverse.mpr h) ((List.reverse_perm m).trans p);rw[←this,List.reverse_reverse]
def Kw(n:Nat):∀l:List Tr,(of l).deep≤n ↔ ∀c∈l,c.deep+1≤n
 |[]=>by simp[of,deep]
 |b::r=>by
  rw[of,deep,List.forall_mem_cons,←Kw n r]
  lia
def UR{l m:List Tr}(p:l.Perm m):(of l).deep≤(of m).deep:=(Kw _ l).mpr fun c hc=>(Kw _ m).mp (aG _) c (p.mem_iff.mp hc)
def Uw(t:Tr):(of t.bs.reverse).deep≤t.deep:=by
 have:=UR (List.reverse_perm t.bs)
 rwa [N8]at this
def ord:PyProof.Rows.KeyOrd where
 α:=Tr
 blt:=lt
 irrefl:=lt_irrefl
 trans:=lt_trans
 negTrans:=LK
 total:=G9
end Tr
namespace TH
open PySem PySem.W PyProof.Rows PySem.SeqAt
def Vs.at{h:Heap}:∀ {t:Tr} {us:List VL} {i:Nat},Vs h t us→i<us.length→∃(a:AD) (its:List VL) (c:Tr),us.getD i Value.none=.ref a∧h.IsTuple a its.toArray∧Vs h c its∧t.bs[i]? = some c∧c.deep<t.deep
 |.nil,us,i,e,hi=>by rw[Vs]at e;subst e;exact absurd hi (ah _)
 |.cons b r,us,i,e,hi=>by
  rw[Vs]at e;obtain⟨a,its,rest,rfl,h1,h2,h3⟩:=e;have hd:(Tr.cons b r).deep=max (b.deep+1) r.deep:=rfl;cases i with
  |zero=>exact⟨a,its,b,rfl,h1,h2,rfl,by lia⟩
  |succ i =>
   obtain⟨a',its',c,q1,q2,q3,q4,q5⟩:=Vs.at (i:=i) h3 (by simpa using hi);exact⟨a',its',c,by simpa using q1,q2,q3,by simpa[Tr.bs]using q4,by lia⟩
def Vs.HG{h:Heap}:∀(ts:List Tr) (us:List VL),us.length=ts.length→(∀i,i<ts.length→∃(a:AD) (its:List VL) (c:Tr),us[i]? = some (.ref a)∧h.IsTuple a its.toArray∧Vs h c its∧ts[i]? = some c)→Vs h (Tr.of ts) us
 |[],us,hl,_=>by
  rw[Tr.of,Vs];exact bO (by simpa using hl)
 |t::ts,[],hl,_=>by simp at hl
 |t::ts,u::us,hl,h=>by
  rw[Tr.of,Vs];obtain⟨a,its,c,e1,e2,e3,e4⟩:=h 0 (by simp);simp at e1 e4;subst e1 e4;refine⟨a,its,us,rfl,e2,e3,Vs.HG ts us (by simpa using hl) fun i hi=>?_⟩;obtain⟨a',its',c',q1,q2,q3,q4⟩:=h (i+1) (by simpa using hi);exact⟨a',its',c',by simpa using q1,q2,q3,by simpa using q4⟩
def Vs.all{h:Heap}{t:Tr}{us:List VL}(e:Vs h t us):∀i,i<t.bs.length→∃(a:AD) (its:List VL) (c:Tr),us[i]? = some (.ref a)∧h.IsTuple a its.toArray∧Vs h c its∧t.bs[i]? = some c:=fun i hi=>by
 have hl:i<us.length:=by rw[Vs.length e,←Tr.FO];exact hi
 obtain⟨a,its,c,q1,q2,q3,q4,_⟩:=e.at hl;refine⟨a,its,c,?_,q2,q3,q4⟩;rw[List.getD_eq_getElem?_getD,List.getElem?_eq_getElem hl]at q1;rw[List.getElem?_eq_getElem hl]
 simpa using q1
section
variable{prog:Program}{w:World}{A:Around}{E:VL→SD→Prop}{s:SD}{t u:Tr}{a b:AD}{its its':List VL}{Q:Bool→SD→Prop}
def Q0(h1:s.heap.IsTuple a its.toArray)(k1:Vs s.heap t its)(h2:s.heap.IsTuple b its'.toArray)(k2:Vs s.heap u its')(hu:A.units+t.deep<cLine)(h:Q (Tr.lt t u) s):wpAny (model prog w) A (oneLt' false (.ref a) (.ref b)) Q E s:=by
 rw[oneLt'_eq];simp only[Bool.false_eq_true,if_false];exact Wb (Sh (t.deep+1) t u A s a b its its' (bP _) h1 k1 h2 k2 hu prog w E _ (bN h))
def XU(h1:s.heap.IsTuple a its.toArray)(k1:Vs s.heap t its)(h2:s.heap.IsTuple b its'.toArray)(k2:Vs s.heap u its')(hu:A.units+t.deep<cLine)(h:Q (Tr.lt t u) s):wpAny (model prog w) A (oneLt' true (.ref a) (.ref b)) Q E s:=by
 rw[oneLt'_eq];simp only[if_true];refine Wb (wpAny_cRoomFor (by lia) ?_);obtain⟨⟨cls,dd,data,sl⟩,ho,hc,n,hdt⟩:=id h1;obtain⟨⟨cls2,dd2,data2,sl2⟩,ho2,hc2,n2,hdt2⟩:=id h2;simp only at hc hdt hc2 hdt2;subst hc hdt hc2 hdt2;refine Wb (wpAny_callSpecialIfBound?_slot (T := "tuple") ⟨_,ho,rfl⟩ PySem.F.slot_tuple_lt (call_meets PySem.F.slot_tuple_lt ⟨_,ho,rfl⟩ PySem.F.entry_tuple_lt (PySem.F.args_tuple_lt_2 _ _)
  (Ot t.deep (Sh t.deep) a b its.toArray its'.toArray n n2 dd dd2 sl sl2 t u (aG _)) ⟨ho,ho2,by simpa using k1,by simpa using k2,hu,?_⟩))
 exact bN h
def RH:∀(t u:Tr) (us vs:List VL) (i:Nat),Vs s.heap t us→Vs s.heap u vs→A.units+t.deep≤cLine→Q (Tr.lt t u) s→KatLex prog w A false (decide (t.len<u.len)) Q (us.zip vs) i s
 |.nil,.nil,us,vs,i,e,f,_,h=>by
  rw[Vs]at e;subst e;rw[List.zip_nil_left];exact kat_nil h
 |.nil,.cons c q,us,vs,i,e,f,_,h=>by
  rw[Vs]at e;subst e;rw[List.zip_nil_left];refine kat_nil ?_;rw[show decide (Tr.nil.len<(Tr.cons c q).len)=true from decide_eq_true (Nat.zero_lt_succ _)];exact h
 |.cons b r,.nil,us,vs,i,e,f,_,h=>by
  rw[Vs]at f;subst f;rw[List.zip_nil_right];refine kat_nil ?_;rw[show decide ((Tr.cons b r).len<Tr.nil.len)=false from bI (ah _)];exact h
 |.cons b r,.cons c q,us,vs,i,e,f,hu,h=>by
  rw[Vs]at e f;obtain⟨a,its,rest,rfl,k1,k2,k3⟩:=e;obtain⟨a',its',rest',rfl,l1,l2,l3⟩:=f;have hd:(Tr.cons b r).deep=max (b.deep+1) r.deep:=rfl;rw[List.zip_cons_cons,show decide ((Tr.cons b r).len<(Tr.cons c q).len)=decide (r.len<q.len) from by simp[Tr.len]];rw[Tr.lt]at h;refine kat_cons (Pn k1 k2 l1 l2 (by lia) prog w _ _ ?_);by_cases hbc:b=c
  ·rw[decide_eq_true hbc];rw[if_pos hbc]at h;exact kat_yes (RH r q rest rest' (i+1) k3 l3 (by lia) h)
  ·rw[decide_eq_false hbc];rw[if_neg hbc]at h;exact kat_no (by rw[Bool.false_and];exact Q0 k1 k2 l1 l2 (by lia) h)
def Wk(h1:s.heap.IsTuple a its.toArray)(k1:Vs s.heap t its)(h2:s.heap.IsTuple b its'.toArray)(k2:Vs s.heap u its')(hu:A.units+t.deep<cLine)(h:Q (Tr.lt t u) s):wpAny (model prog w) A (keyLt' (tuples' false) (.ref a) (.ref b)) Q E s:=by
 obtain⟨o,ho,hc,n,hd⟩:=id h1;obtain⟨o2,ho2,hc2,n2,hd2⟩:=id h2;refine kat_lt ho hd ho2 hd2 ?_;have z1:its.toArray.size=t.len:=by rw[←Vs.length k1];simp
 have z2:its'.toArray.size=u.len:=by rw[←Vs.length k2];simp
 rw[z1,z2];exact RH t u its its' 0 k1 k2 (by lia) h
def Oz(κ:SortKind):Prop:=κ=general'∨κ=oneType'∨κ=tuples' false
def Xj{κ:SortKind}(hκ:Oz κ)(h1:s.heap.IsTuple a its.toArray)(k1:Vs s.heap t its)(h2:s.heap.IsTuple b its'.toArray)(k2:Vs s.heap u its')(hu:A.units+t.deep<cLine)(h:Q (Tr.lt t u) s):wpAny (model prog w) A (keyLt' κ (.ref a) (.ref b)) Q E s:=by
 rcases hκ with rfl|rfl|rfl
 ·exact Q0 h1 k1 h2 k2 hu h
 ·rw[keyLt'_oneType];exact XU h1 k1 h2 k2 hu h
 ·exact Wk h1 k1 h2 k2 hu h
def LL{M:Model}{h:Heap}{a:AD}{x:Array VL}(h1:h.IsTuple a x):Looks M h (typeOf (.ref a)) (.type "tuple"):=by
 obtain⟨o,ho,hc,_⟩:=h1;exact hc ▸ (Looks.ld ho).andThen .now
def NN{M:Model}:∀(t:Tr) (us:List VL) {Q:List (Option VL)→SD→Prop},Vs s.heap t us→(∀fs:List (Option VL),(∀v,some v∈fs→Looks M s.heap (typeOf v) (.type "tuple"))→Q fs s)→wpAny M A (us.mapM firstOfTuple') Q E s
 |.nil,us,Q,e,h=>by
  rw[Vs]at e;subst e;rw[List.mapM_nil];exact aA (h [] fun _ z=>by cases z)
 |.cons b r,us,Q,e,h=>by
  rw[Vs]at e;obtain⟨a,its,rest,rfl,h1,h2,h3⟩:=e;obtain⟨o,ho,hc,n,hd⟩:=id h1;rw[List.mapM_cons];refine Wb ?_;rw[kas_first_eq];refine Wb (Looks.here (show Looks M s.heap (typeOf (.ref a)) o.cls from(Looks.ld ho).andThen .now) ?_);rw[hc,if_neg (by first|decide|simp)];refine Wb (listItems_at ho hd (aA ?_));refine Wb (NN r rest (Q:=fun bs s'=>wpAny M A (pure (its.toArray[0]? :: bs)) Q E s') h3 fun fs hfs=>aA (h _ fun v hv=>?_));rcases aL.mp hv with z|z
  ·cases b with
   |nil=>rw[Vs]at h2;subst h2;simp at z
   |cons c q =>
    rw[Vs]at h2;obtain⟨a',its',rest',rfl,k1,_⟩:=h2;simp at z;subst z;exact LL k1
  ·exact hfs v z
def Q8{M:Model}{vs:List VL}{Q:Option VL→SD→Prop}(hT:∀v∈vs,Looks M s.heap (typeOf v) (.type "tuple"))(h0:vs=[]→Q none s)(h1:Q (some (.type "tuple")) s):wpAny M A (oneTypeOnly' vs.toArray) Q E s:=by
 rw[oneTypeOnly'_eq,List.mapM_toArray,map_eq_pure_bind];refine Wb (Wb (kas_mapM (r:=Value.type "tuple") _ (fun v hv Q' hq=>(hT v hv).here hq) (aA ?_)));cases vs with
 |nil=>exact aA (h0 rfl)
 |cons f r =>
  have hall:((List.map (fun _=>Value.type "tuple") (f::r)).toArray.all fun x=>x==Value.type "tuple")=true:=by
   simp only[List.all_toArray,List.all_map,List.all_eq_true];intro _ _
   rfl
  have e0:(List.map (fun _=>Value.type "tuple") (f::r)).toArray[0]? = some (Value.type "tuple"):=by simp
  rw[e0];simp only[hall,if_true];exact aA h1
def Xd{M:Model}{t:Tr}{us:List VL}{Q:SortKind→SD→Prop}(e:Vs s.heap t us)(h:∀κ,Oz κ→Q κ s):wpAny M A (keyKind' us.toArray) Q E s:=by
 rw[kat_kind_eq,List.mapM_toArray,map_eq_pure_bind];refine Wb (Wb (NN t us e fun fs hfs=>aA ?_));split
 ·refine Wb (bH ?_);have e1:fs.toArray.filterMap id=(fs.filterMap id).toArray:=by simp
  rw[e1];have hl:∀v∈fs.filterMap id,Looks M s.heap (typeOf v) (.type "tuple"):=fun v hv=>hfs v (by simpa using hv);refine Wb (Q8 hl (fun _=>?_) ?_)
  ·exact aA (h _ (.inr (.inr rfl)))
  ·exact aA (h _ (.inr (.inr rfl)))
 ·split
  ·exact aA (h _ (.inl rfl))
  ·have hl:∀v∈us,Looks M s.heap (typeOf v) (.type "tuple"):=fun v hv=>by
    obtain⟨i,hi,rfl⟩:=List.getElem_of_mem hv;obtain⟨a,its,c,q1,q2,_⟩:=e.at hi;rw[List.getD_eq_getElem?_getD,List.getElem?_eq_getElem hi]at q1;simp at q1;rw[q1];exact LL q2
   refine Wb (Q8 hl (fun _=>?_) ?_)
   ·exact aA (h _ (.inl rfl))
   ·exact aA (h _ (.inr (.inl rfl)))
def O2{α:Type}{cmp:Nat→Nat→(Bool→SD→Prop)→SD→Prop}{lt:Nat→Nat→Bool}{n:Nat}{Q':α→Prop}(hc:∀i j C,i<n→j<n→C (lt i j) s→cmp i j C s):∀T:KasT α,SM.Wp lt n T Q'→T.kasWp cmp (fun a s'=>s'=s∧Q' a) s
 |.ret a,h=>⟨rfl,h⟩
 |.ask i j k,h=>hc i j _ h.1 h.2.1 (O2 hc (k (lt i j)) h.2.2)
end
end TH
namespace TH
open PySem PySem.W PyProof.Rows PySem.SeqAt
def Vs.keeps{h h':Heap}(k:∀b o,h.get? b=some o→o.cls=.type "tuple" → h'.get? b=some o):∀ {t:Tr} {us:List VL},Vs h t us→Vs h' t us
 |.nil,us,e=>by rw[Vs]at e ⊢;exact e
 |.cons b r,us,e=>by
  rw[Vs]at e ⊢;obtain⟨a,its,rest,rfl,⟨o,ho,hc,hd⟩,h2,h3⟩:=e;exact⟨a,its,rest,rfl,⟨o,k _ _ ho hc,hc,hd⟩,h2.keeps k,h3.keeps k⟩
def map_getD{α:Type}(d:α)(l:List α):(List.range l.length).map (fun i=>l.getD i d)=l:=by
 refine List.ext_getElem (by simp) fun i h1 h2=>?_;simp[h2]
def Vs.rev{h:Heap}{t:Tr}{us:List VL}(e:Vs h t us):Vs h (Tr.of t.bs.reverse) us.reverse:=by
 have hl:us.length=t.bs.length:=by rw[e.length,Tr.FO]
 refine Vs.HG _ _ (by simp[hl]) fun i hi=>?_;rw[List.length_reverse]at hi;obtain⟨a,its,c,q1,q2,q3,q4⟩:=e.all (t.bs.length-1-i) (by lia);exact⟨a,its,c,by rw[List.getElem?_reverse (by lia),hl];exact q1,q2,q3,by rw[List.getElem?_reverse hi];exact q4⟩
section
variable{prog:Program}{w:World}{A:Around}{E:VL→SD→Prop}{s:SD}
def Vf{κ:SortKind}{t:Tr}{ws:List VL}(hκ:Oz κ)(e:Vs s.heap t ws)(h2:2≤ws.length)(h64:ws.length<64)(hu:A.units+t.deep≤cLine) :
  wpAny (model prog w) A ((sortRuns').run (SortSt.mk' κ (ws.toArray.zip ws.toArray) #[] 7 none)) (fun r s'=>s'=s∧failedOf r.2=none∧∃ix:List Nat,ix.length=ws.length∧(∀i∈ix,i<ws.length) ∧
   (arrOf r.2).map (·.2)=(ix.map fun i=>ws.getD i Value.none).toArray∧(ix.map fun i=>t.bs.getD i .nil)=(Tr.Bh t.bs).reverse) E s:=by
 have hl:ws.length=t.bs.length:=by rw[e.length,Tr.FO]
 have key:∀i,i<ws.length→∃(a:AD) (its:List VL),ws.getD i Value.none=.ref a∧s.heap.IsTuple a its.toArray∧Vs s.heap (t.bs.getD i .nil) its∧(t.bs.getD i .nil).deep<t.deep:=fun i hi=>by
  obtain⟨a,its,c,q1,q2,q3,q4,q5⟩:=e.at hi;have:t.bs.getD i .nil=c:=by rw[List.getD_eq_getElem?_getD,q4];rfl
  rw[this];exact⟨a,its,q1,q2,q3,q5⟩
 refine kat_run (Q:=fun st' s'=>s'=s∧failedOf st'=none∧∃ix:List Nat,ix.length=ws.length∧(∀i∈ix,i<ws.length)∧(arrOf st').map (·.2)=(ix.map fun i=>ws.getD i Value.none).toArray∧(ix.map fun i=>t.bs.getD i .nil)=(Tr.Bh t.bs).reverse)
  (G:=fun p s'=>s'=s∧SM.Pm ws.length p∧SM.Up (O:=Tr.ord) (fun i=>t.bs.getD i .nil) p ws.length) rfl h2 h64 (fun p st' s' hp har hf hG=>?_)
  (O2 (lt:=SM.El (O:=Tr.ord) fun i=>t.bs.getD i .nil) (n:=ws.length) (fun i j C hi hj hC=>?_) _ (SM.sort (by lia)))
 ·obtain⟨rfl,hpm,hup⟩:=hG;have h1:p.toList.Perm (List.range ws.length):=by simpa using Array.perm_iff_toList_perm.mp hpm.perm
  refine⟨rfl,hf,p.toList,by rw[Array.length_toList,hp],fun i hi=>ae.mp (h1.mem_iff.mp hi),kat_snds rfl har,?_⟩;have perm:(p.toList.map fun i=>t.bs.getD i .nil).Perm t.bs:=by
   have h3:=h1.map fun i=>t.bs.getD i Tr.nil
   rwa [hl,map_getD]at h3
  refine Tr.R9 (List.pairwise_iff_getElem.mpr fun i j hi hj hij=>?_) perm;rw[List.length_map,Array.length_toList,hp]at hi hj;have:=hup i j (by lia) hj;have e1:∀k,k<ws.length→∀hk,(p.toList.map fun i=>t.bs.getD i Tr.nil)[k]'hk=t.bs.getD (p.getD k 0) .nil:=fun k hk hk'=>by
   rw[List.getElem_map,Array.getElem_toList,Array.getD,dif_pos (by lia)]
   rfl
  rw[e1 i hi,e1 j hj];exact this
 ·obtain⟨a,its,q1,q2,q3,q4⟩:=key i hi;obtain⟨a',its',r1,r2,r3,r4⟩:=key j hj;unfold kas_ask;rw[q1,r1];exact Xj hκ q2 q3 r2 r3 (by lia) hC
def Us(b:Bool)(us:List VL)(hz:us.length<2):(if b=true then((if b=true then(us.toArray.zip us.toArray).reverse else us.toArray.zip us.toArray).map (·.2)).reverse else(if b=true then(us.toArray.zip us.toArray).reverse else us.toArray.zip us.toArray).map (·.2))=us.toArray:=by
 match us,hz with
 |[],_=>cases b<;>simp
 |[x],_=>cases b<;>simp
def KH{a : AD}{us : List VL}{t : Tr}{n : Nat}{b : Bool}{P : PySem.Fin→SD→Prop}(ho : s.heap.get? a = some (seqObj "list" us.toArray n))(e : Vs s.heap t us)(h64 : us.length < 64)(hu : A.units + t.deep≤cLine)
 (h : ∀ ix : List Nat,ix.length = us.length→(∀ i∈ix,i < us.length)→(ix.map fun i => t.bs.getD i .nil) = (if b then Tr.Bh t.bs else (Tr.Bh t.bs).reverse)→P (.done (.ret .none)) { s with heap:=sortedHeap s.heap a us (ix.map fun i => us.getD i Value.none).toArray }) :
    wpAny (model prog w) A (Builtin.«list.sort» ⟨[.ref a],[(Str.ofString "reverse",.bool b)]⟩) P E s := by
  rw [list_sort_rev]
  have ha : a < s.heap.objs.size:=aD ho
  refine Wb (listItems_at ho rfl ?_)
  refine Wb (listUpdate_at ho rfl ?_ (by rw [List.size_toArray,sizeLine_eq]; lia) (az _))
  obtain ⟨e1,ho1⟩ : ∃ e1,(s.heap.update a (Obj.mapSeq fun _ => #[])).get? a = some (seqObj "list" #[] e1):=⟨_,get?_update_seq ho (fun _ => #[])⟩
  refine Wb (seqEpoch_at ho1 rfl ?_)
  refine Wb (wpAny_newTuple ?_ (by show us.length≤_; rw [sizeLine_eq]; lia))
  refine Wb (wpAny_newList ?_ (az _))
  refine aU ?_
  have ho6 : (((s.heap.update a (Obj.mapSeq fun _ => #[])).push (seqObj "tuple" us.toArray 0)).push (seqObj "list" #[] 0)).get? a = some (seqObj "list" #[] e1) := by
    rw [Heap.get?_push_ne _ _ _ (by rw [size_push',Heap.size_update]; exact aK (bG ha)),Heap.get?_push_ne _ _ _ (by rw [Heap.size_update]; exact aK ha)]
    exact ho1
  have keep : ∀ c o,s.heap.get? c = some o→o.cls = .type "tuple" → (((s.heap.update a (Obj.mapSeq fun _ => #[])).push (seqObj "tuple" us.toArray 0)).push (seqObj "list" #[] 0)).get? c = some o:=fun c o hc hcl => by
    have hne : c≠a:=fun z => by
      rw [z,ho] at hc
      cases hc
      exact absurd (show Value.type "list" = Value.type "tuple" from hcl) (by decide)
    refine aC _ (aC _ ?_)
    rw [Heap.get?_update_ne _ _ _ _ hne]
    exact hc
  show wpAny (model prog w) A _ P E { s with heap:=((s.heap.update a (Obj.mapSeq fun _ => #[])).push (seqObj "tuple" us.toArray 0)).push (seqObj "list" #[] 0) }
  have e6:=e.keeps keep
  dsimp only
  have step : ∀ T : Sem PySem.Fin,wpAny (model prog w) A T P E { s with heap:=((s.heap.update a (Obj.mapSeq fun _ => #[])).push (seqObj "tuple" us.toArray 0)).push (seqObj "list" #[] 0) } →
      wpAny (model prog w) A (if b = true then (do let _ ← rule "list.sort.reverse"; T) else T) P E { s with heap:=((s.heap.update a (Obj.mapSeq fun _ => #[])).push (seqObj "tuple" us.toArray 0)).push (seqObj "list" #[] 0) } := by
    intro T hT
    split
    · exact Wb (bH hT)
    · exact hT
  refine step _ ?_
  by_cases h2 : us.toArray.size < 2
  · rw [if_pos h2,if_pos h2]
    refine Wb (aA ?_)
    rw [StateT.run_pure]
    refine Wb (aA ?_)
    dsimp only
    have hz : us.length < 2 := by simpa using h2
    have hout:=Us b us hz
    refine Wb (seqEpoch_at ho6 rfl ?_)
    refine Wb (listUpdate_at ho6 rfl ?_ (az _) (by
      refine aM (Nat.le_of_eq (bF Array.size hout)) ?_
      rw [List.size_toArray,sizeLine_eq]; lia))
    simp only [bne_self_eq_false,Bool.false_eq_true,if_false]
    have hl : us.length = t.bs.length := by rw [e.length,Tr.FO]
    have fin:=h (List.range us.length) (by simp) (fun i hi => ae.mp hi) (by
      rw [hl,map_getD]
      match hbs : t.bs,(show t.bs.length < 2 by lia) with
      | [],_ => cases b <;> rfl
      | [_],_ => cases b <;> rfl)
    rw [map_getD] at fin
    rw [← hout] at fin
    exact aA fin
  · rw [if_neg h2,if_neg h2]
    have hz : 2≤us.length := by simpa using h2
    refine Wb (Xd (s:={ s with heap:=((s.heap.update a (Obj.mapSeq fun _ => #[])).push (seqObj "tuple" us.toArray 0)).push (seqObj "list" #[] 0) }) e6 fun κ hκ => ?_)
    have hl : us.length = t.bs.length := by rw [e.length,Tr.FO]
    obtain ⟨ws,tw,ew,hwl,hws,hdp,pick⟩ : ∃ (ws : List VL) (tw : Tr),Vs (((s.heap.update a (Obj.mapSeq fun _ => #[])).push (seqObj "tuple" us.toArray 0)).push (seqObj "list" #[] 0)) tw ws∧ws.length = us.length ∧
        (if b = true then (us.toArray.zip us.toArray).reverse else us.toArray.zip us.toArray) = ws.toArray.zip ws.toArray∧tw.deep≤t.deep ∧
        ∀ (_b : Bool) (ix : List Nat),ix.length = ws.length→(∀ i∈ix,i < ws.length)→(ix.map fun i => tw.bs.getD i .nil) = (Tr.Bh tw.bs).reverse→∃ iy : List Nat,iy.length = us.length∧(∀ i∈iy,i < us.length)∧(iy.map fun i => t.bs.getD i .nil) = (if b then Tr.Bh t.bs else (Tr.Bh t.bs).reverse) ∧
          (if b = true then ((ix.map fun i => ws.getD i Value.none).toArray).reverse else (ix.map fun i => ws.getD i Value.none).toArray) = (iy.map fun i => us.getD i Value.none).toArray := by
      cases b with
      | false => exact ⟨us,t,e6,rfl,rfl,Nat.le_refl _,fun _ ix h1 h2 h3 => ⟨ix,h1,h2,h3,rfl⟩⟩
      | true =>
        have hsrt : Tr.Bh t.bs.reverse = Tr.Bh t.bs:=Tr.Sn (Tr.HC _) ((Tr.Gy _).trans (List.reverse_perm _))
        refine ⟨us.reverse,Tr.of t.bs.reverse,e6.rev,by simp,kat_pairs (ks:=us) (vs:=us) true rfl,Tr.Uw t,fun _ ix h1 h2 h3 => ⟨(ix.map fun i => us.length - 1 - i).reverse,by simpa using h1,fun i hi => ?_,?_,?_⟩⟩
        · rw [List.mem_reverse,List.mem_map] at hi
          obtain ⟨k,hk,rfl⟩:=hi
          have:=h2 k hk
          rw [List.length_reverse] at this
          lia
        · rw [Tr.Ku,hsrt] at h3
          rw [List.map_reverse,List.map_map]
          have : (ix.map ((fun i => t.bs.getD i Tr.nil) ∘ fun i => us.length - 1 - i)) = ix.map fun i => t.bs.reverse.getD i .nil:=List.map_congr_left fun i hi => by
            have:=h2 i hi
            rw [List.length_reverse] at this
            show t.bs.getD (us.length - 1 - i) Tr.nil = _
            rw [List.getD_eq_getElem?_getD,List.getD_eq_getElem?_getD,List.getElem?_reverse (by lia),hl]
          rw [this,h3,List.reverse_reverse]
          rfl
        · rw [if_pos rfl,List.map_reverse,List.map_map,List.reverse_toArray]
          congr 2
          exact List.map_congr_left fun i hi => by
            have:=h2 i hi
            rw [List.length_reverse] at this
            show us.reverse.getD i Value.none = us.getD (us.length - 1 - i) Value.none
            rw [List.getD_eq_getElem?_getD,List.getD_eq_getElem?_getD,List.getElem?_reverse (by lia)]
    rw [hws]
    refine Wb (af (Vf (s:={ s with heap:=((s.heap.update a (Obj.mapSeq fun _ => #[])).push (seqObj "tuple" us.toArray 0)).push (seqObj "list" #[] 0) }) hκ ew (by lia) (by lia) (by lia)) ?_ fun _ _ z => z)
    rintro ⟨⟨⟩,st'⟩ s' ⟨rfl,hf,ix,hil,hix,hout,hst⟩
    dsimp only
    refine Wb (seqEpoch_at ho6 rfl ?_)
    obtain ⟨iy,y1,y2,y3,hfin⟩ : ∃ iy : List Nat,iy.length = us.length∧(∀ i∈iy,i < us.length)∧(iy.map fun i => t.bs.getD i .nil) = (if b then Tr.Bh t.bs else (Tr.Bh t.bs).reverse) ∧
        (if b = true then ((arrOf st').map (·.2)).reverse else (arrOf st').map (·.2)) = (iy.map fun i => us.getD i Value.none).toArray := by
      rw [show (arrOf st').map (·.2) = _ from hout]
      exact pick b ix hil hix hst
    refine Wb (listUpdate_at ho6 rfl ?_ (az _) (by
      refine aM (Nat.le_of_eq (bF Array.size hfin)) ?_
      rw [List.size_toArray,List.length_map,y1,sizeLine_eq]; lia))
    rw [show failedOf st' = none from hf]
    simp only [bne_self_eq_false,Bool.false_eq_true,if_false]
    have fin:=h iy y1 y2 y3
    rw [← hfin] at fin
    exact aA fin
end
end TH
namespace ET
open PySem
section
variable{prog:Program}{w:World}{A:Around}{E:VL→SD→Prop}{s:SD}
def next_item{it t:AD}{i:Nat}{items}{x:VL}{Q:VL→SD→Prop}(hit:s.heap.IsTupleIter it t i)(ht:s.heap.IsTuple t items)(hx:items[i]? = some x)
 (hQ:∀h',h'.IsTupleIter it t (i+1)→Heap.SameBut it s.heap h'→Q x {s with heap:=h'}):wpAny (model prog w) A (Builtin.SmallTypes.nextOf (.ref it)) Q E s:=by
 obtain⟨o,ho,hc,hd⟩:=id hit;obtain⟨ol,hol,_,nl,hdl⟩:=ht;unfold Builtin.SmallTypes.nextOf;refine Wb (aY (name:=Str.ofString "__next__") hit.typeIs F.slot_tuple_iterator_next
  (aS F.slot_tuple_iterator_next hit.typeIs F.entry_tuple_iterator_next ?_ (F.args_tuple_iterator_next_1 _)))
 show wpAny _ _ (field (.ref it) 0>>=_) _ _ s;refine Wb (aX ho hd (x:=.ref t) rfl ?_);show wpAny _ _ (if(Value.ref t==Value.none)=true then _ else _) _ _ s;rw[if_neg (show ¬((Value.ref t==Value.none)=true) from aJ)];show wpAny _ _ (field (.ref it) 1>>=_) _ _ s;refine Wb (aX ho hd (x:=.int i 0) rfl ?_);show wpAny _ _ (seqItems? (.ref t)>>=_) _ _ s;refine Wb (aQ hol hdl ?_);simp only[Int.toNat_natCast,hx];refine Wb (wpAny_setField ho hd (by simp) (aA ⟨x,rfl,wpAny_pure (hQ _ ?_ (aZ ..))⟩));exact⟨_,Heap.get?_update_self _ ho (Obj.isFreed_of_fields (Obj.data_mapFields hd _)),(Obj.cls_mapFields ..).trans hc,by
  rw[Obj.data_mapFields hd];simp[rawInt]⟩
def next_end{it t:AD}{i:Nat}{items}{Q:VL→SD→Prop}(hh:A.handled=none)(hit:s.heap.IsTupleIter it t i)(ht:s.heap.IsTuple t items)(hx:items[i]? = none)
 (hE:∀h' e,Heap.ExtBut it s.heap h'→(∃o,h'.get? e=some o∧o.cls=.type "StopIteration")→E (.ref e) {s with heap:=h'}):wpAny (model prog w) A (Builtin.SmallTypes.nextOf (.ref it)) Q E s:=by
 obtain⟨o,ho,hc,hd⟩:=id hit;obtain⟨ol,hol,_,nl,hdl⟩:=ht;unfold Builtin.SmallTypes.nextOf;refine Wb (aY (name:=Str.ofString "__next__") hit.typeIs F.slot_tuple_iterator_next
  (aS F.slot_tuple_iterator_next hit.typeIs F.entry_tuple_iterator_next ?_ (F.args_tuple_iterator_next_1 _)))
 show wpAny _ _ (field (.ref it) 0>>=_) _ _ s;refine Wb (aX ho hd (x:=.ref t) rfl ?_);show wpAny _ _ (if(Value.ref t==Value.none)=true then _ else _) _ _ s;rw[if_neg (show ¬((Value.ref t==Value.none)=true) from aJ)];show wpAny _ _ (field (.ref it) 1>>=_) _ _ s;refine Wb (aX ho hd (x:=.int i 0) rfl ?_);show wpAny _ _ (seqItems? (.ref t)>>=_) _ _ s;refine Wb (aQ hol hdl ?_);simp only[Int.toNat_natCast,hx];refine Wb (bH (Wb (wpAny_setField ho hd (by simp) ?_)));show wpAny _ _ (newExc (.type "StopIteration") []>>=_) _ _ _;refine Wb ?_;simp only[newExc,newTuple];refine Wb (ai ?_ (by size_fits));refine Wb (m:=firstArgMember _ _) (wpAny_of_eq (a:=Value.none) (by first|rfl|(simp only[firstArgMember];rfl)) ?_);refine ai ?_ (by size_fits);simp only[raiseNew];refine Wb (wpAny_handled ?_)
 first|rw[show A.in1.handled=none from hh]|rw[hh]
 refine Wb (aA (wpAny_throw ?_));exact hE _ _ (((aZ ..).extBut.push _).push _) ⟨_,Heap.get?_push_size _ rfl,rfl⟩
end
section
open AutoSeq1 (wpAny_loadPart')
def Tu(l:AD)(items:Array VL)(n:Nat)(dct:Option AD)(sl:Array (Option VL)) :
  Meets (Builtin.«enumerate.__new__» ⟨[.type "enumerate",.ref l],[]⟩) (fun _ R s=>s.heap.get? l=some { cls:=.type "tuple",dict:=dct,data:=.seq items n,slots:=sl} ∧
   R (.ok (.ret (.ref (s.heap.push { cls:=.type "tuple_iterator",data:=.fields #[.ref l,.int 0 0]}).objs.size)))
    {s with heap:=(s.heap.push { cls:=.type "tuple_iterator",data:=.fields #[.ref l,.int 0 0]}).push { cls:=.type "enumerate",data:=.fields #[.none,.bool false,.ref s.heap.objs.size,rawInt 0,.none,.none]} }) :=
 .of_wp fun prog w A R s h=>by
  obtain⟨hp,g,d,tk,os⟩:=s;obtain⟨hl,h⟩:=h;have hsub:=sub_enumerate;have hL:Heap.IsTuple (Shared.heap ⟨hp,g,d,tk,os⟩) l items:=⟨_,hl,rfl,n,rfl⟩
  wp_walk using wpAny_loadPart' hl
  refine wpAny_stack_any fun st=>aA ?_;split
  ·rename_i c _ _ _ _ _;cases (c==Value.type "enumerate")
   ·wp_walk using wpAny_loadPart' hl,wpAny_pyIter_tuple hL
    exact⟨_,rfl,h⟩
   ·wp_walk using wpAny_loadPart' hl,wpAny_pyIter_tuple hL
    exact⟨_,rfl,h⟩
  ·wp_walk using wpAny_loadPart' hl,wpAny_pyIter_tuple hL
   exact⟨_,rfl,h⟩
def Tz{prog:Program}{w:World}{A:Around}{E:VL→SD→Prop}{s:SD}{l:AD}{items:Array VL}{Q:VL→SD→Prop}(hL:s.heap.IsTuple l items)
 (h:∀h',IsEnum h' (s.heap.objs.size+1) s.heap.objs.size 0 .none→h'.IsTupleIter s.heap.objs.size l 0→h'.objs.size=s.heap.objs.size+2 →
   (∀b o,s.heap.get? b=some o→h'.get? b=some o)→Q (.ref (s.heap.objs.size+1)) {s with heap:=h'}) :
  wpAny (model prog w) A (call (.type "enumerate") [.ref l]) Q E s:=by
 obtain⟨⟨c,dct,dt,sl⟩,hl,hc,n,hd⟩:=hL
 replace hc:c=.type "tuple" := hc
 replace hd:dt=.seq items n:=hd
 subst hc hd;refine callType_new F.called_enumerate (by decide) (F.typeCall_enumerate_1 _) (F.newCall_enumerate_1 _) (fun obj=>F.args_object_init_2 obj _) F.entry_enumerate_new
  (Tu l items n dct sl) ⟨hl,?_⟩
 have hz:(s.heap.push { cls:=.type "tuple_iterator",data:=.fields #[.ref l,.int 0 0]}).objs.size=s.heap.objs.size+1:=Heap.size_push ..;show _∧_;rw[hz];have he:IsEnum ((s.heap.push { cls:=.type "tuple_iterator",data:=.fields #[.ref l,.int 0 0]}).push
   { cls:=.type "enumerate",data:=.fields #[.none,.bool false,.ref s.heap.objs.size,rawInt 0,.none,.none]}) (s.heap.objs.size+1) s.heap.objs.size 0 .none:=by
  have:=aH (s.heap.push { cls:=.type "tuple_iterator",data:=.fields #[.ref l,.int 0 0]})
   (o:={ cls:=.type "enumerate",data:=.fields #[.none,.bool false,.ref s.heap.objs.size,rawInt 0,.none,.none]}) rfl
  rw[hz]at this;exact this
 refine⟨⟨_,he,rfl⟩,h _ he ⟨_,Heap.get?_push_of_some _ (aH _ rfl),rfl,rfl⟩ (by rw[Heap.size_push,hz]) fun b o x=>aC _ (aC _ x)⟩
end
def draws{prog:Program}{w:World}{A:Around}(hh:A.handled=none)(it a:AD)(its:List VL)(hne:a≠it) :
  Draws prog w A it [it,a] its.length (fun i x=>its[i]? = some x) (fun i h=>h.IsTupleIter it a i∧h.IsTuple a its.toArray) where
 live:=fun i h st=>let⟨o,e,_⟩:=st.1;⟨o,e⟩
 frame:=fun i h h' st k=>by
  obtain⟨⟨o,e,r⟩,o2,e2,r2⟩:=st;exact⟨⟨o,k it (by simp) o e,r⟩,o2,k a (by simp) o2 e2,r2⟩
 item:=fun i s Q E hi st hQ=>next_item st.1 st.2 (x:=its[i]) (by simp[hi]) fun h' st' sb =>
  hQ _ h' s.toks (by simp[hi]) ⟨st',let⟨o,e,r⟩:=st.2;⟨o,(sb.2 a hne).trans e,r⟩⟩ sb
 done:=fun s Q E st hE=>next_end hh st.1 st.2 (by simp) hE
end ET
namespace L2
open PySem PySem.Spec PyProof.Rows
def Ts(H:Hp):Tr→List V→Prop
 |.nil,xs=>xs=[]
 |.cons b r,xs=>∃(a:AD) (ys zs:List V),xs=.ref a::zs∧H a=some (.tup ys)∧Ts H b ys∧Ts H r zs
def Tv(H:Hp)(t:Tr)(v:V):Prop:=∃(a:AD) (ys:List V),v=.ref a∧H a=some (.tup ys)∧Ts H t ys
def Ts.same{H H':Hp}(e:AG H H'):∀ {t:Tr} {xs:List V},Ts H t xs→Ts H' t xs
 |.nil,xs,h=>by rw[Ts]at h ⊢;exact h
 |.cons b r,xs,h=>by
  rw[Ts]at h ⊢;obtain⟨a,ys,zs,e1,h1,h2,h3⟩:=h;exact⟨a,ys,zs,e1,e _ _ h1,h2.same e,h3.same e⟩
def Tv.same{H H':Hp}{t:Tr}{v:V}(h:Tv H t v)(e:AG H H'):Tv H' t v:=let⟨a,ys,e1,h1,h2⟩:=h;⟨a,ys,e1,e _ _ h1,h2.same e⟩
def IC(H H':Hp):Prop:=∀b xs,H b=some (.tup xs)→H' b=some (.tup xs)
def IC.of{H H':Hp}(e:AG H H'):IC H H':=fun b xs h=>e b _ h
def IC.upd{H:Hp}{l:AD}{ys:List V}{o:HO}(hl:H l=some (.lst ys)):IC H (upd H l o):=fun b xs h=>by
 rw[AF (RP h hl (by intro z;cases z))];exact h
def Ts.A2{H H':Hp}(e:IC H H'):∀ {t:Tr} {xs:List V},Ts H t xs→Ts H' t xs
 |.nil,xs,h=>by rw[Ts]at h ⊢;exact h
 |.cons b r,xs,h=>by
  rw[Ts]at h ⊢;obtain⟨a,ys,zs,e1,h1,h2,h3⟩:=h;exact⟨a,ys,zs,e1,e _ _ h1,h2.A2 e,h3.A2 e⟩
def Tv.A2{H H':Hp}{t:Tr}{v:V}(h:Tv H t v)(e:IC H H'):Tv H' t v:=let⟨a,ys,e1,h1,h2⟩:=h;⟨a,ys,e1,e _ _ h1,h2.A2 e⟩
def Ts.length{H:Hp}:∀ {t:Tr} {xs:List V},Ts H t xs→xs.length=t.len
 |.nil,xs,h=>by rw[Ts]at h;rw[h];rfl
 |.cons b r,xs,h=>by
  rw[Ts]at h;obtain⟨a,ys,zs,rfl,_,_,h3⟩:=h;rw[List.length_cons,Tr.len,h3.length]
def Ts.len{H:Hp}{t:Tr}{xs:List V}(h:Ts H t xs):xs.length=t.bs.length:=by rw[h.length,Tr.FO]
def Ts.get{H:Hp}:∀ {t:Tr} {xs:List V} {i:Nat} {v:V},Ts H t xs→xs[i]? = some v→∃c,t.bs[i]? = some c∧Tv H c v
 |.nil,xs,i,v,h,e=>by rw[Ts]at h;subst h;simp at e
 |.cons b r,xs,i,v,h,e=>by
  rw[Ts]at h;obtain⟨a,ys,zs,rfl,h1,h2,h3⟩:=h;cases i with
  |zero=>simp at e;subst e;exact⟨b,rfl,a,ys,rfl,h1,h2⟩
  |succ i =>
   obtain⟨c,q1,q2⟩:=h3.get (i:=i) (v:=v) (by simpa using e);exact⟨c,by simpa[Tr.bs]using q1,q2⟩
def Ts.HG{H:Hp}:∀(ts:List Tr) (xs:List V),xs.length=ts.length→(∀(i:Nat) (v:V),xs[i]? = some v→∃c,ts[i]? = some c∧Tv H c v)→Ts H (Tr.of ts) xs
 |[],xs,hl,_=>by
  rw[Tr.of,Ts];exact bO (by simpa using hl)
 |t::ts,[],hl,_=>by simp at hl
 |t::ts,x::xs,hl,h=>by
  rw[Tr.of,Ts];obtain⟨c,e1,a,ys,rfl,h1,h2⟩:=h 0 x rfl;simp at e1;subst e1;exact⟨a,ys,xs,rfl,h1,h2,Ts.HG ts xs (by simpa using hl) fun i v e=>by
   obtain⟨c,q1,q2⟩:=h (i+1) v (by simpa using e);exact⟨c,by simpa using q1,q2⟩⟩
def Ts.pick{H:Hp}{t:Tr}{xs:List V}(h:Ts H t xs)(ix:List Nat)(hi:∀i∈ix,i<xs.length):Ts H (Tr.of (ix.map fun i=>t.bs.getD i .nil)) (ix.map fun i=>xs.getD i .BI):=by
 refine Ts.HG _ _ (by simp) fun i v e=>?_;rw[List.getElem?_map]at e ⊢;cases q:ix[i]? with
 |none=>rw[q]at e;cases e
 |some k =>
  rw[q]at e;have hk:k<xs.length:=hi k (aP q);simp only[Option.map_some,Option.some.injEq]at e;obtain⟨c,q1,q2⟩:=h.get (i:=k) (v:=v) (by rw[←e,List.getD_eq_getElem?_getD,List.getElem?_eq_getElem hk];rfl);refine⟨c,?_,q2⟩;simp only[Option.map_some,List.getD_eq_getElem?_getD,q1]
  rfl
section
variable{X:Cx}{pins:List (AD×Obj)}{σ:St}{H:Hp}{s:SD}
def Ts.vs(I:Inv X pins σ H s):∀ {t:Tr} {xs:List V} {us:List VL},Ts H t xs→Vals xs us→TH.Vs s.heap t us
 |.nil,xs,us,h,r=>by
  rw[Ts]at h;subst h;cases r;rw[TH.Vs]
 |.cons b rr,xs,us,h,r=>by
  rw[Ts]at h;obtain⟨a,ys,zs,rfl,h1,h2,h3⟩:=h;cases r with
  |cons r1 r2 =>
   cases r1;obtain⟨its,rv,p,_⟩:=I.tuple (Au.of (K:=X.K) h1);rw[TH.Vs];exact⟨a,its,_,rfl,p,Ts.vs I h2 rv,Ts.vs I h3 r2⟩
end
def Y4(K:Fg)(a:AD):It :=
 ⟨fun i H=>∃xs x,Au K H a xs∧xs[i]? = some x,fun i H v H'=>∃p x,v=.ref p∧H p=none∧H'=upd H p (.tup [.int i,x])∧∀xs,Au K H a xs→xs[i]? = some x,fun i H=>∃xs,Au K H a xs∧xs.length=i⟩
def UL{P:Program}{w:World}{K:Fg}{elts:List Expr}{x1}{pos:Pos}(a e it:AD)(hne:e≠it) :
  Turn P w K (.Tuple elts x1 pos) (Y4 K a) [e,it] e (fun i h=>(∃old,IsEnum h e it (i:Nat) old)∧h.IsTupleIter it a i) where
 mem:=by simp
 obj:=fun i h st b hb=>by
  rcases aL.mp hb with rfl|hb
  ·obtain⟨⟨old,q⟩,_⟩:=st;exact⟨_,q,fun v z=>by cases z⟩
  ·have e2:b=it:=by simpa using hb
   subst e2;obtain⟨_,o,q,c,d⟩:=st;exact⟨o,q,fun v z=>by rw[d]at z;cases z⟩
 keep:=fun i h h' st k=>by
  obtain⟨⟨old,q⟩,o,q2,r⟩:=st;exact⟨⟨old,k e (by simp) _ q⟩,o,k it (by simp) _ q2,r⟩
 item:=by
  intro X hP hw hK hc i pins s σ H E I hf st hg;subst hP hw hK;obtain⟨xs,x,hq,hx⟩:=hg;obtain⟨its,rv,p,hz⟩:=I.tuple hq;obtain⟨u,hu,ru⟩:=rv.get hx;obtain⟨⟨old,he⟩,hit⟩:=st;have hai:a≠it:=fun z=>by
   obtain⟨o,e1,c1,_⟩:=p;obtain⟨o2,e2,c2,_⟩:=hit;rw[z,e2]at e1;cases e1;rw[c1]at c2;exact absurd c2 (by decide)
  have hae:a≠e:=fun z=>by
   obtain⟨o,e1,c1,_⟩:=p;rw[z,he]at e1;cases e1;exact absurd (show Value.type "enumerate" = Value.type "tuple" from c1) (by decide)
  have hlt:i<its.length:=(aE.mp hu).1;have hE0:=hf e (by simp);have hI0:=hf it (by simp);refine wpAny_pyNext_enum_itemD (ET.draws (prog:=X.prog) (w:=X.w) (A:=X.A.in1) (I.ok.hd hc) it a its hai) he ⟨hit,p⟩ hlt hne (by simp[hne,Ne.symm hae]) fun y h' tk hy ho hs' hT hsz hk=>⟨_,rfl,wpAny_letOwnedTupleGo_enum (s:={s with heap:=h',toks:=tk+1}) ho fun h'' he'' sb=>?_⟩;have hyu:y=u:=by rw[hu]at hy;exact(ab hy).symm
  subst hyu;have keep:∀b o,b≠e→b≠it→s.heap.get? b=some o→h''.get? b=some o:=fun b o h1 h2 q=>(sb.2 b h1).trans (hk b o h1 h2 q);have hTe:s.heap.objs.size≠e:=bK (aD he);have hTi:s.heap.objs.size≠it:=let⟨_,q,_⟩:=hit;bK (aD q);have hT'':h''.get? s.heap.objs.size=some { cls:=.type "tuple",data:=.seq #[.int i tk,y]}:=(sb.2 _ hTe).trans hT;have hTn:H s.heap.objs.size=none:=I.Af.fresh (aG _);have neT:∀b o,s.heap.get? b=some o→b≠s.heap.objs.size:=fun b o q=>aK (aD q);have C7:∀b o,H b=some o→b≠e∧b≠it:=fun b o q=>⟨(fun z=>by rw[z,hE0.1]at q;cases q),(fun z=>by rw[z,hI0.1]at q;cases q)⟩;refine⟨.ref s.heap.objs.size,upd H s.heap.objs.size (.tup [.int i,x]),?_,rfl,⟨_,x,rfl,hTn,rfl,fun ys hy=>by rw[I.NV hy hq];exact hx⟩,⟨⟨_,by simpa using he''⟩,?_⟩,fun b hb=>?_⟩
  ·show Inv X pins σ _ {s with heap:=h'',gens:=s.gens,drawn:=s.drawn,toks:=tk+1};refine I.step (h':=h'') (g':=s.gens) (d':=s.drawn) (t':=tk+1) (ch:=[e,it]) (fun b hb=>?_) (fun b o _ _ hc q _=>keep b o (fun z=>hc (by simp[z])) (fun z=>hc (by simp[z])) q) (fun b o _ _ hc q _=>⟨o.slots,keep b o (fun z=>hc (by simp[z])) (fun z=>hc (by simp[z])) q⟩)
    (fun b o _ q n=>by rw[AF (neT b o q)];exact n) (fun b o hc q=>⟨o,keep b o (fun z=>hc (by simp[z])) (fun z=>hc (by simp[z])) q⟩) (fun b ys q=>by rw[AF (AJ q hTn)];exact q) (fun b o u q=>by rw[AF (AJ q hTn)];exact q)
    (fun b ps q=>⟨#[],by rw[AF (AJ q hTn),q];simp⟩) (fun b _ o hc _ q=>keep b o (fun z=>hc (by simp[z])) (fun z=>hc (by simp[z])) q) (fun m hm=>?_) (fun b o q=>?_) I.bare
   ·rcases aL.mp hb with rfl|hb
    ·exact⟨hE0.2.2.2.1,hE0.2.1,hE0.2.2.2.2.1,hE0.2.2.2.2.2⟩
    ·have e2:b=it:=by simpa using hb
     subst e2;exact⟨hI0.2.2.2.1,hI0.2.1,hI0.2.2.2.2.1,hI0.2.2.2.2.2⟩
   ·obtain⟨o,es,ep,ho,r⟩:=hm;exact⟨o,es,ep,keep _ o (Ne.symm hE0.2.1) (Ne.symm hI0.2.1) ho,r⟩
   ·by_cases hb:b=s.heap.objs.size
    ·subst hb;rw[AI]at q;cases q;exact⟨UM,[.int i tk,y],.cons ⟨tk,rfl⟩ (.cons ru .nil),_,hT'',rfl,_,rfl⟩
    ·rw[AF hb]at q;refine(I.Af b o q).Fd (fun c v hc r=>keep c v ?_ ?_ r) (fun c r=>by rw[AF (AJ r hTn)];exact r) fun c ys r=>by rw[AF (AJ r hTn)];exact r
     ·rcases hc with rfl|hc
      ·exact(C7 _ _ q).1
      ·exact(C7 _ _ hc).1
     ·rcases hc with rfl|hc
      ·exact(C7 _ _ q).2
      ·exact(C7 _ _ hc).2
  ·obtain⟨⟨o,q,r⟩,_⟩:=hs';exact⟨o,(sb.2 it (Ne.symm hne)).trans q,r⟩
  ·rcases aL.mp hb with rfl|hb
   ·rw[AF (Ne.symm hTe)];exact hE0.1
   ·have e2:b=it:=by simpa using hb
    subst e2;rw[AF (Ne.symm hTi)];exact hI0.1
 done:=by
  intro X hP hw hK hc i pins s σ H E I hf st hg;subst hP hw hK;obtain⟨xs,hq,hx⟩:=hg;obtain⟨its,rv,p,hz⟩:=I.tuple hq;obtain⟨⟨old,he⟩,hit⟩:=st;have hai:a≠it:=fun z=>by
   obtain⟨o,e1,c1,_⟩:=p;obtain⟨o2,e2,c2,_⟩:=hit;rw[z,e2]at e1;cases e1;rw[c1]at c2;exact absurd c2 (by decide)
  have hl:its.length=i:=by rw[←rv.length];exact hx
  subst hl;obtain⟨f0,f1,f2,f3,f4,f5⟩:=hf it (by simp);exact wpAny_pyNext_enum_endD (ET.draws (prog:=X.prog) (w:=X.w) (A:=X.A.in1) (I.ok.hd hc) it a its hai) he ⟨hit,p⟩ fun h' eb=>⟨rfl,I.turned (t':=s.toks) (fun b o hb q=>eb b o hb q) f0 f1 f3 f4 f5⟩
 self:=fun _ _ _ _ _ st h=>by
  obtain⟨⟨old,he⟩,_⟩:=st;exact wpAny_pyIter_enum he h
def cm(K:Fg)(ta:TA):TI:=fun σ H R=>ta σ H fun vs H1=>∃a,vs=[.ref a]∧(∃xs,Au K H1 a xs)∧R (Y4 K a) H1
def XE{X:Cx}{elts:List Expr}{x1}{tpos:Pos}{a:Expr}{ta:TA}{p pos:Pos}(hg:Gl X "enumerate")(hm:X.mg "enumerate" = none)(ha:PA X [a] ta)(hs:starEach [a] X.env=[(false,eval a X.env)]:=by rfl) :
  PI X (.Tuple elts x1 tpos) (.Call (.Name "enumerate" p) [a] [] pos) (cm X.K ta):=by
 intro pins s σ H R I h;refine Call_ (Ec I hg hm boot_enumerate (aq (Az (ha pos pins s σ H _ I h) fun us s1 ⟨vs,H1,I1,r1,q1⟩=>?_) hs rfl));obtain⟨t,e,⟨xs,hq⟩,q⟩:=q1;subst e;cases r1 with
 |cons r rr =>
  cases rr;cases r;obtain⟨its,rv,p',hz⟩:=I1.tuple hq;refine ET.Tz (show s1.heap.IsTuple t its.toArray from p') fun h' he hit hsz hk=>wpAny_pyIter_enum he ?_;have I2:Inv X pins σ H1 {s1 with heap:=h'}:=I1.kept (t':=s1.toks) hk;have hn:s1.heap.objs.size+1≠s1.heap.objs.size:=by lia
  refine⟨s1.heap.objs.size+1,[s1.heap.objs.size+1,s1.heap.objs.size],_,_,H1,rfl,I2,UL t _ _ hn,⟨⟨_,he⟩,hit⟩,fun b hb=>?_,q⟩;have hb':s1.heap.objs.size≤b:=by
   have hb2:b=s1.heap.objs.size+1∨b=s1.heap.objs.size:=by simpa using hb
   rcases hb2 with z|z
   ·rw[z];exact Nat.le_succ _
   ·rw[z];exact aG _
  exact I1.La hb' (I1.Af.fresh hb')
end L2
namespace TH
open PySem PySem.W PyProof.Rows PySem.SeqAt
section
variable{prog:Program}{w:World}{A:Around}{E:VL→SD→Prop}{s:SD}
def My(a:AD):Builtin.«list.sort» ⟨[.ref a],[]⟩=Builtin.«list.sort» ⟨[.ref a],[(Str.ofString "reverse",.bool false)]⟩:=by
 rw[list_sort_rev,list_sort_plain]
 rfl
def Jk{a:AD}{us:List VL}{t:Tr}{n:Nat}{P:PySem.Fin→SD→Prop}(ho:s.heap.get? a=some (seqObj "list" us.toArray n))(e:Vs s.heap t us)(h64:us.length<64)(hu:A.units+t.deep≤cLine)
 (h:∀ix:List Nat,ix.length=us.length→(∀i∈ix,i<us.length)→(ix.map fun i=>t.bs.getD i .nil)=(Tr.Bh t.bs).reverse→P (.done (.ret .none)) {s with heap:=sortedHeap s.heap a us (ix.map fun i=>us.getD i Value.none).toArray}) :
  wpAny (model prog w) A (Builtin.«list.sort» ⟨[.ref a],[]⟩) P E s:=by
 rw[My];exact KH (b:=false) ho e h64 hu h
def QM{l:AD}{vs:List VL}{Q:List VL→SD→Prop}(hl:s.heap.IsTuple l vs.toArray)
 (h:Q vs {s with heap:=(s.heap.push (seqObj "list" #[] 0)).update s.heap.objs.size (Obj.mapSeq (· ++ vs.toArray))})(hsz:vs.length≤sizeLine) :
    wpAny (model prog w) A (collect (.ref l)) Q E s:=by
  obtain⟨o,ho,hc,n,hd⟩:=id hl
  unfold collect
  refine Wb (wpAny_runValue (codeAny_builtin entry_proto_collect' ?_))
  show wpAny _ _ (do again (.builtin "list.__iadd__" ⟨[←newList [],.ref l],[]⟩)) _ _ s
  refine Wb (wpAny_newList (aA ⟨Code.quiet_builtin _ (by decide +kernel),codeAny_builtin entry_list_iadd' ?_⟩))
  show wpAny _ _ (Builtin.List.listExtendWith (.ref s.heap.objs.size) (.ref l) (.ref s.heap.objs.size)) _ _ {s with heap:=s.heap.push (seqObj "list" #[] 0)}
  unfold Builtin.List.listExtendWith
  have ho':(s.heap.push (seqObj "list" #[] 0)).get? l=some o:=aC _ ho
  refine Wb (wpAny_typeOf (T := "tuple") ⟨o,ho',hc⟩ ?_)
  have ht:(Value.type "tuple" == Value.type "tuple")=true:=by rfl
  rw[if_pos (by rw[ht];simp)]
  refine Wb (listItems_at ho' hd ?_)
  refine Wb (listItems_at (xs:=#[]) (n:=0) (aH _ rfl) rfl ?_)
  rw[if_neg (by simp)]
  refine Wb (listUpdate_at (xs:=#[]) (n:=0) (aH _ rfl) rfl ?_ (az _) (by show(#[]++vs.toArray).size≤sizeLine+1;simp only[Array.size_append,List.size_toArray,List.length_nil];lia))
  refine aA ?_
  show wpAny (model prog w) A (do
      let o ←load s.heap.objs.size
      match o.data with
      |.seq xs _=>pure xs.toList
      |_=>unsupported "internal:collect") Q E {s with heap:=(s.heap.push (seqObj "list" #[] 0)).update s.heap.objs.size (Obj.mapSeq (· ++ vs.toArray))}
  refine Wb (wpAny_load (get?_update_seq (aH _ rfl) _) ?_)
  show wpAny _ _ (pure ((#[]:Array VL)++vs.toArray).toList) Q E _
  rw[show((#[]:Array VL)++vs.toArray).toList=vs by simp]
  exact aA h
def LI{l:AD}{vs:List VL}{Q:List VL→SD→Prop}(hl:s.heap.IsList l vs.toArray∨s.heap.IsTuple l vs.toArray)
 (h:Q vs {s with heap:=(s.heap.push (seqObj "list" #[] 0)).update s.heap.objs.size (Obj.mapSeq (· ++ vs.toArray))})(hsz:vs.length≤sizeLine):wpAny (model prog w) A (collect (.ref l)) Q E s:=hl.elim (fun z=>collect_list z h hsz) fun z=>QM z h hsz
def bz{l:AD}{us:List VL}{t:Tr}{Q:VL→SD→Prop}(hl:s.heap.IsList l us.toArray∨s.heap.IsTuple l us.toArray)(e:Vs s.heap t us)(h64:us.length<64)(hu:A.units+2+t.deep≤cLine)
 (h:∀(h':Heap) (ix:List Nat) (e1:Nat),ix.length=us.length→(∀i∈ix,i<us.length)→(ix.map fun i=>t.bs.getD i .nil)=(Tr.Bh t.bs).reverse→(∀c o,s.heap.get? c=some o→h'.get? c=some o) →
   h'.get? (s.heap.objs.size+1)=some (seqObj "list" (ix.map fun i=>us.getD i Value.none).toArray e1)→Q (.ref (s.heap.objs.size+1)) {s with heap:=h'}) :
  wpAny (model prog w) A (call (.builtin "sorted") [.ref l]) Q E s:=by
 refine Calls.call_function_entry kind_sorted plain_sorted entry_sorted (args_sorted1 _) ?_;unfold Builtin.«sorted»;refine Wb (m:=checkCount "sorted" 1 1 _) (aA ?_);refine Wb (LI hl ?_ (by rw[sizeLine_eq];lia));refine Wb (wpAny_newList ?_ (by rw[sizeLine_eq];lia));have hsz:((s.heap.push (seqObj "list" #[] 0)).update s.heap.objs.size (Obj.mapSeq (· ++ us.toArray))).objs.size=s.heap.objs.size+1:=by
  rw[Heap.size_update,size_push']
 have hoL:(((s.heap.push (seqObj "list" #[] 0)).update s.heap.objs.size (Obj.mapSeq (· ++ us.toArray))).push (seqObj "list" us.toArray 0)).get? (s.heap.objs.size+1)=some (seqObj "list" us.toArray 0):=by
  rw[←hsz];exact aH _ rfl
 have keep:∀b o,s.heap.get? b=some o→o.cls=.type "tuple" →(((s.heap.push (seqObj "list" #[] 0)).update s.heap.objs.size (Obj.mapSeq (· ++ us.toArray))).push (seqObj "list" us.toArray 0)).get? b=some o:=fun b o q _=>by
  have hlt:b<s.heap.objs.size:=aD q;rw[Heap.get?_push_ne _ _ _ (by rw[hsz];exact aK (bG hlt)),Heap.get?_update_ne _ _ _ _ (aK hlt),Heap.get?_push_ne _ _ _ (aK hlt)];exact q
 show wpAny _ _ _ _ _ {s with heap:=((s.heap.push (seqObj "list" #[] 0)).update s.heap.objs.size (Obj.mapSeq (· ++ us.toArray))).push (seqObj "list" us.toArray 0)};rw[hsz];refine Wb (aU (aS slot_list_sort ⟨_,hoL,rfl⟩ entry_list_sort (Jk (s:={s with heap:=((s.heap.push (seqObj "list" #[] 0)).update s.heap.objs.size (Obj.mapSeq (· ++ us.toArray))).push (seqObj "list" us.toArray 0)}) hoL (e.keeps keep) h64 (by
  rw[show A.in1.in1.units=A.units+2 from rfl];lia) fun ix a1 a2 a3=>⟨_,rfl,?_⟩) (args_list_sort _)))
 obtain⟨e1,he1⟩:=sortedAll_at s.heap us (ix.map fun i=>us.getD i Value.none).toArray;exact aA ⟨_,rfl,h _ ix e1 a1 a2 a3 (fun _ _=>sortedAll_old) he1⟩
def J8{l:AD}{us:List VL}{t:Tr}{b:Bool}{Q:VL→SD→Prop}(hl:s.heap.IsList l us.toArray∨s.heap.IsTuple l us.toArray)(e:Vs s.heap t us)(h64:us.length<64)(hu:A.units+2+t.deep≤cLine)
 (h:∀(h':Heap) (ix:List Nat) (e1:Nat),ix.length=us.length→(∀i∈ix,i<us.length)→(ix.map fun i=>t.bs.getD i .nil)=(if b then Tr.Bh t.bs else(Tr.Bh t.bs).reverse)→(∀c o,s.heap.get? c=some o→h'.get? c=some o) →
   h'.get? (s.heap.objs.size+1)=some (seqObj "list" (ix.map fun i=>us.getD i Value.none).toArray e1)→Q (.ref (s.heap.objs.size+1)) {s with heap:=h'}) :
  wpAny (model prog w) A (call (.builtin "sorted") [.ref l] [(Str.ofString "reverse",.bool b)]) Q E s:=by
 refine call_function_entry_kw kind_sorted plain_sorted entry_sorted (args_sorted_rev _ _) ?_;unfold Builtin.«sorted»;refine Wb (m:=checkCount "sorted" 1 1 _) (aA ?_);refine Wb (LI hl ?_ (by rw[sizeLine_eq];lia));refine Wb (wpAny_newList ?_ (by rw[sizeLine_eq];lia));have hsz:((s.heap.push (seqObj "list" #[] 0)).update s.heap.objs.size (Obj.mapSeq (· ++ us.toArray))).objs.size=s.heap.objs.size+1:=by
  rw[Heap.size_update,size_push']
 have hoL:(((s.heap.push (seqObj "list" #[] 0)).update s.heap.objs.size (Obj.mapSeq (· ++ us.toArray))).push (seqObj "list" us.toArray 0)).get? (s.heap.objs.size+1)=some (seqObj "list" us.toArray 0):=by
  rw[←hsz];exact aH _ rfl
 have keep:∀b o,s.heap.get? b=some o→o.cls=.type "tuple" →(((s.heap.push (seqObj "list" #[] 0)).update s.heap.objs.size (Obj.mapSeq (· ++ us.toArray))).push (seqObj "list" us.toArray 0)).get? b=some o:=fun b o q _=>by
  have hlt:b<s.heap.objs.size:=aD q;rw[Heap.get?_push_ne _ _ _ (by rw[hsz];exact aK (bG hlt)),Heap.get?_update_ne _ _ _ _ (aK hlt),Heap.get?_push_ne _ _ _ (aK hlt)];exact q
 show wpAny _ _ _ _ _ {s with heap:=((s.heap.push (seqObj "list" #[] 0)).update s.heap.objs.size (Obj.mapSeq (· ++ us.toArray))).push (seqObj "list" us.toArray 0)};rw[hsz];refine Wb (aU (wpAny_call_entry_kw slot_list_sort ⟨_,hoL,rfl⟩ entry_list_sort (KH (b:=b) (s:={s with heap:=((s.heap.push (seqObj "list" #[] 0)).update s.heap.objs.size (Obj.mapSeq (· ++ us.toArray))).push (seqObj "list" us.toArray 0)}) hoL (e.keeps keep) h64 (by
  rw[show A.in1.in1.units=A.units+2 from rfl];lia) fun ix a1 a2 a3=>⟨_,rfl,?_⟩) (args_list_sort_rev _ _)))
 obtain⟨e1,he1⟩:=sortedAll_at s.heap us (ix.map fun i=>us.getD i Value.none).toArray;exact aA ⟨_,rfl,h _ ix e1 a1 a2 a3 (fun _ _=>sortedAll_old) he1⟩
end
end TH
namespace L2
open PySem PySem.Spec PyProof.Rows
def Vals.pick{xs:List V}{us:List VL}(r:Vals xs us):∀ix:List Nat,(∀i∈ix,i<xs.length)→Vals (ix.map fun i=>xs.getD i .BI) (ix.map fun i=>us.getD i Value.none)
 |[],_=>.nil
 |i::ix,h=>by
  refine .cons ?_ (Vals.pick r ix fun k hk=>h k (aO _ hk));have hi:=h i aT;obtain⟨u,h1,h2⟩:=r.get (i:=i) (x:=xs[i]) (by simp[hi]);show RelV (xs.getD i .BI) (us.getD i Value.none);rw[List.getD_eq_getElem?_getD,List.getD_eq_getElem?_getD,h1,List.getElem?_eq_getElem hi];exact h2
section
variable{X:Cx}
def Tn(K:Fg):List V→Hp→VK→Prop:=fun xs H Q=>∃(p:AD) (ys:List V) (t:Tr),xs=[.ref p]∧(Ae K H p ys∨Au K H p ys)∧Ts H t ys∧ys.length<64∧t.deep≤60 ∧
 ∀(l:AD) (zs:List V),H l=none→Ts H (Tr.of (Tr.Bh t.bs)) zs→Q (.ref l) (upd H l (.lst zs))
def Ox{pins:List (AD×Obj)}{σ:St}{H:Hp}{s:SD}{Q:VK}{t:Tr}{ts:List Tr}{ys:List V}{its:List VL}{h':Heap}{ix:List Nat}{e1:Nat}(I:Inv X pins σ H s)(ht:Ts H t ys)(rv:Vals ys its)(h64:ys.length<64)
 (a1:ix.length=its.length)(a2:∀i∈ix,i<its.length)(a3:(ix.map fun i=>t.bs.getD i .nil)=ts)(keep:∀c o,s.heap.get? c=some o→h'.get? c=some o)
 (hD:h'.get? (s.heap.objs.size+1)=some (seqObj "list" (ix.map fun i=>its.getD i Value.none).toArray e1))(q:∀(l:AD) (zs:List V),H l=none→Ts H (Tr.of ts) zs→Q (.ref l) (upd H l (.lst zs))) :
  EP X pins σ Q (.ref (s.heap.objs.size+1)) {s with heap:=h'}:=by
 have hl:=rv.length;have a2':∀i∈ix,i<ys.length:=fun i hi=>by rw[hl];exact a2 i hi
 refine⟨.ref (s.heap.objs.size+1),upd H (s.heap.objs.size+1) (.lst (ix.map fun i=>ys.getD i .BI)),I.laid (t':=s.toks) keep (Nat.le_succ _) ⟨?_,_,e1,rv.pick ix a2',hD⟩,rfl,q _ _ (I.Af.fresh (Nat.le_succ _)) ?_⟩
 ·rw[List.length_map,a1,←hl];exact bA (aI h64 (by rw[sizeLine_eq];decide))
 ·rw[←a3];exact ht.pick ix a2'
def VY{e:Expr}{t:TA}{p pos kp kp2:Pos}{j}(hu:X.A.units+64<cLine)(hg:Gl X "sorted")(hm:X.mg "sorted" = none)(ha:PA X [e] t)
 (he:backTo pos (starEach [e] X.env)=(false,eval e X.env)::backTo pos (starEach [] X.env):=by rfl)(hplain:(backTo pos (starEach [e] X.env)).any (·.1)=false:=by rfl) :
  PE X (.Call (.Name "sorted" p) [e] [⟨some "reverse",.Constant (.bool true) j kp2,kp⟩] pos) (fun σ H Q=>t σ H fun vs H1=>Tn X.K vs H1 Q):=by
 intro pins s σ H Q I h;refine wpAny_Call_Name_kw (Ec I hg hm boot_sorted ?_ (by decide) (by decide));refine callWith_kw (Az (ha pos pins s σ H _ I h) fun us s1 ⟨vs,H1,I1,r1,q1⟩=>kws_cons (Constant_bool (kws_nil ?_))) he hplain;obtain⟨p,ys,t,rfl,hq,ht,h64,hd,q⟩:=q1;obtain⟨u,rfl,r2⟩:=r1.one;cases r2;rcases hq with hq|hq
 ·obtain⟨its,rv,pl,hz⟩:=I1.list hq;have hl:=rv.length;exact TH.J8 (b:=true) (.inl pl.isList) (ht.vs I1 rv) (by lia) (by lia) fun h' ix e1 a1 a2 a3 keep hD=>Ox I1 ht rv h64 a1 a2 a3 keep hD q
 ·obtain⟨its,rv,pl,hz⟩:=I1.tuple hq;have hl:=rv.length;exact TH.J8 (b:=true) (.inr (show s1.heap.IsTuple p its.toArray from pl)) (ht.vs I1 rv) (by lia) (by lia) fun h' ix e1 a1 a2 a3 keep hD=>Ox I1 ht rv h64 a1 a2 a3 keep hD q
end
def CW(Pv:Nat→List V→Hp→Prop)(n:Nat)(D:AD):Nat→Nat→List V→Hp→Prop:=fun i m ys H=>m=n-i∧i≤n∧H D=some (.lst ys)∧Pv i ys H
def EJ{Pv:Nat→List V→Hp→Prop}{n i:Nat}{D:AD}{ys:List V}{y:V}{H:Hp}(hi:i<n)(p:Pv (i+1) (ys++[y]) (upd H D (.lst (ys++[y])))):∃m',m'<n-i∧CW Pv n D (i+1) m' (ys++[y]) (upd H D (.lst (ys++[y]))) :=
 ⟨n-(i+1),by lia,rfl,hi,AI,p⟩
def Ws{Pv:Nat→List V→Hp→Prop}{n i:Nat}{D:AD}{ys:List V}{H:Hp}(hi:i<n)(hD:H D=some (.lst ys))(p:Pv (i+1) ys H):∃m',m'<n-i∧CW Pv n D (i+1) m' ys H:=⟨n-(i+1),by lia,rfl,hi,hD,p⟩
def Ft{J:It}{n:Nat}{D:AD}{H1:Hp}{fr:List (Option Nat)}{σ:St}{ix:Nat}{tif:TT}{te:TE}{G:Hp→Prop}(Pv:Nat→List V→Hp→Prop)(h0:Pv 0 [] (upd H1 D (.lst [])))
 (hgo:∀i ys H,i<n→Pv i ys H→H D=some (.lst ys)→J.go i H∧ys.length<sizeLine∧∀x H',J.Dl i H x H' →
   tif ((carry fr σ).set ix (some x)) H' fun b H2=>if b=true then te ((carry fr σ).set ix (some x)) H2 fun y H3=>H3 D=some (.lst ys)∧∃m',m'<n-i∧CW Pv n D (i+1) m' (ys++[y]) (upd H3 D (.lst (ys++[y])))
    else ∃m',m'<n-i∧CW Pv n D (i+1) m' ys H2)
 (hstop:∀ys H,Pv n ys H→H D=some (.lst ys)→J.stop n H∧G H) :
  ∃W:Nat→Nat→List V→Hp→Prop,(∃m,W 0 m [] (upd H1 D (.lst []))) ∧
   ∀i m ys H,W i m ys H→H D=some (.lst ys)∧((J.stop i H∧G H)∨(J.go i H∧ys.length<sizeLine∧∀x H',J.Dl i H x H' →
    tif ((carry fr σ).set ix (some x)) H' fun b H2=>if b=true then te ((carry fr σ).set ix (some x)) H2 fun y H3=>H3 D=some (.lst ys)∧∃m',m'<m∧W (i+1) m' (ys++[y]) (upd H3 D (.lst (ys++[y])))
     else ∃m',m'<m∧W (i+1) m' ys H2)):=by
 refine⟨CW Pv n D,⟨n,by simp,Nat.zero_le _,AI,h0⟩,?_⟩;rintro i m ys H ⟨rfl,hi,hH,p⟩;refine⟨hH,?_⟩;by_cases hlt:i<n
 ·exact .inr (hgo i ys H hlt p hH)
 ·have e:i=n:=by lia
  subst e;exact .inl (hstop ys H p hH)
section
variable{X:Cx}
def Lb(hc:X.calm=true):Cv X (.builtin "sum") (fun xs H Q=>∃(p:AD) (ns:List Int),xs=[.ref p]∧Ae X.K H p (ns.map V.int)∧Q (.int ns.sum) H):=by
 intro pins s σ H xs us Q I r h;obtain⟨p,ns,rfl,hq,q⟩:=h;obtain⟨u,rfl,r1⟩:=r.one;cases r1;obtain⟨its,rv,pl,hz⟩:=I.list hq;have hi:=intsAre_of rv;obtain⟨xs,hx⟩:=hi.allInts.items;have hl':s.heap.IsList p (intItems xs):=hx ▸ pl.isList
 refine sum_intListG (I.ok.hd hc) hl' fun h' tk t' hk=>?_;have e1:ns=xs.toList.map (·.1):=by
  rw[←nums_intItems,←hx];exact(show numsOf its.toArray.toList=ns from hi.numsOf).symm
 have e2:preSum (numAt xs) xs.size=ns.sum:=by
  rw[preSum_eq,List.take_of_length_le (by simp),e1]
 rw[e2];exact⟨.int _,H,I.kept (t':=tk) hk,⟨t',rfl⟩,q⟩
end
section
variable{X:Cx}{scope:Scope}{cl:List (Str×AD)}{N:List Str}{C:AD}{s₀:SD}{H₀:Hp}{fp:List AD}
def Kj:K9 (Aq X scope cl N C s₀ H₀ fp) (U1 X.K):=CS
end
mutual
def Dt(l:AD)(H:Hp):PD→V→Prop
 |.none,v=>v=.BI
 |.bool b,v=>v=.bl b
 |.int i,v=>v=.int i
 |.str x,v=>v=.str x
 |.tuple ds,v=>∃(a:AD) (xs:List V),v=.ref a∧a≠l∧H a=some (.tup xs)∧Ar l H ds xs
 |.list ds,v=>∃(a:AD) (xs:List V),v=.ref a∧a≠l∧H a=some (.lst xs)∧Ar l H ds xs
 |.dict _,_=>False
def Ar(l:AD)(H:Hp):List PD→List V→Prop
 |[],xs=>xs=[]
 |d::ds,xs=>∃x r,xs=x::r∧Dt l H d x∧Ar l H ds r
end
mutual
def Dt.but{l:AD}{H H':Hp}(e:SameBut l H H'):∀ {d:PD} {v:V},Dt l H d v→Dt l H' d v
 |.none,_,h=>by rw[Dt]at h ⊢;exact h
 |.bool _,_,h=>by rw[Dt]at h ⊢;exact h
 |.int _,_,h=>by rw[Dt]at h ⊢;exact h
 |.str _,_,h=>by rw[Dt]at h ⊢;exact h
 |.tuple _,_,h=>by
  rw[Dt]at h ⊢;obtain⟨a,xs,e1,n,h1,h2⟩:=h;exact⟨a,xs,e1,n,e _ _ n h1,Ar.but e h2⟩
 |.list _,_,h=>by
  rw[Dt]at h ⊢;obtain⟨a,xs,e1,n,h1,h2⟩:=h;exact⟨a,xs,e1,n,e _ _ n h1,Ar.but e h2⟩
 |.dict _,_,h=>by rw[Dt]at h;exact h.elim
def Ar.but{l:AD}{H H':Hp}(e:SameBut l H H'):∀ {ds:List PD} {xs:List V},Ar l H ds xs→Ar l H' ds xs
 |[],_,h=>by rw[Ar]at h ⊢;exact h
 |_::_,_,h=>by
  rw[Ar]at h ⊢;obtain⟨x,r,e1,h1,h2⟩:=h;exact⟨x,r,e1,Dt.but e h1,Ar.but e h2⟩
end
def Dt.same{l:AD}{H H':Hp}{d:PD}{v:V}(h:Dt l H d v)(e:AG H H'):Dt l H' d v:=Dt.but (.of e) h
def Ar.same{l:AD}{H H':Hp}{d:List PD}{v:List V}(h:Ar l H d v)(e:AG H H'):Ar l H' d v:=Ar.but (.of e) h
def Ar.len{l:AD}{H:Hp}:∀ {ds:List PD} {xs:List V},Ar l H ds xs→xs.length=ds.length
 |[],_,h=>by rw[Ar]at h;rw[h];rfl
 |_::_,_,h=>by
  rw[Ar]at h;obtain⟨x,r,rfl,_,h2⟩:=h;rw[List.length_cons,List.length_cons,Ar.len h2]
def Ar.get{l:AD}{H:Hp}:∀ {ds:List PD} {xs:List V} {i:Nat} {v:V},Ar l H ds xs→xs[i]? = some v→∃d,ds[i]? = some d∧Dt l H d v
 |[],_,i,v,h,e=>by rw[Ar]at h;subst h;simp at e
 |d::ds,_,i,v,h,e=>by
  rw[Ar]at h;obtain⟨x,r,rfl,h1,h2⟩:=h;cases i with
  |zero=>simp at e;subst e;exact⟨d,rfl,h1⟩
  |succ i =>
   obtain⟨c,q1,q2⟩:=h2.get (i:=i) (v:=v) (by simpa using e);exact⟨c,by simpa using q1,q2⟩
def Ar.nil{l:AD}{H:Hp}:Ar l H [] []:=by rw[Ar]
def Ar.cons{l:AD}{H:Hp}{d:PD}{ds:List PD}{x:V}{xs:List V}(h:Dt l H d x)(k:Ar l H ds xs):Ar l H (d::ds) (x::xs):=by
 rw[Ar];exact⟨x,xs,rfl,h,k⟩
def Dt.int{l:AD}{H:Hp}{i:Int}:Dt l H (.int i) (.int i):=by rw[Dt]
def Dt.bool{l:AD}{H:Hp}{b:Bool}:Dt l H (.bool b) (.bl b):=by rw[Dt]
def Dt.BI{l:AD}{H:Hp}:Dt l H .none .BI:=by rw[Dt]
def Dt.str{l:AD}{H:Hp}{x:Str}:Dt l H (.str x) (.str x):=by rw[Dt]
def Dt.tup{l a:AD}{H:Hp}{ds:List PD}{xs:List V}(n:a≠l)(h:H a=some (.tup xs))(k:Ar l H ds xs):Dt l H (.tuple ds) (.ref a):=by rw[Dt];exact⟨a,xs,rfl,n,h,k⟩
def Dt.lst{l a:AD}{H:Hp}{ds:List PD}{xs:List V}(n:a≠l)(h:H a=some (.lst xs))(k:Ar l H ds xs):Dt l H (.list ds) (.ref a):=by rw[Dt];exact⟨a,xs,rfl,n,h,k⟩
def Ok(n:Nat)(d:PD):Prop:=d.canLay0=true∧d.depth≤n
def WJ(n:Nat)(ds:List PD):Prop:=PyData.canLayAll0 ds=true∧PyData.depthAll ds≤n
def Ok.shaped{n:Nat}{d:PD}(h:Ok n d)(hn:n≤64):SeqAt.shaped d=true:=by
 unfold SeqAt.shaped;rw[h.1,Bool.true_and];exact decide_eq_true (aM h.2 hn)
def Ok.tup{n:Nat}{ds:List PD}(h:WJ n ds):Ok (n+1) (.tuple ds):=⟨by simp only[PyData.canLay0];exact h.1,by simp only[PyData.depth];exact Nat.succ_le_succ h.2⟩
def Ok.int{n:Nat}{i:Int}:Ok n (.int i):=⟨by simp[PyData.canLay0],by simp[PyData.depth]⟩
mutual
def JN:∀d:PD,d.canLay0=true→PyData.eqv d d=true
 |.none,_=>by simp[PyData.eqv]
 |.bool _,_=>by simp[PyData.eqv]
 |.int _,_=>by simp[PyData.eqv]
 |.str _,_=>by simp[PyData.eqv]
 |.tuple ds,h=>by simp only[PyData.eqv];exact ID ds (by simpa only[PyData.canLay0]using h)
 |.list ds,h=>by simp only[PyData.eqv];exact ID ds (by simpa only[PyData.canLay0]using h)
 |.dict _,h=>by simp[PyData.canLay0]at h
def ID:∀ds:List PD,PyData.canLayAll0 ds=true→PyData.eqvAll ds ds=true
 |[],_=>by simp[PyData.eqvAll]
 |d::ds,h=>by
  simp only[PyData.canLayAll0,Bool.and_eq_true]at h;simp only[PyData.eqvAll,JN d h.1,ID ds h.2,Bool.and_self]
end
def P9:PD→String
 |.none => "NoneType"
 |.bool _ => "bool"
 |.int _ => "int"
 |.str _ => "str"
 |.tuple _ => "tuple"
 |.list _ => "list"
 |.dict _ => "dict"
def Dt.ty{K:Fg}{l:AD}{H:Hp}:∀ {d:PD} {v:V},Dt l H d v→Er K H v (.type (P9 d))
 |.none,_,h=>by rw[Dt]at h;subst h;exact .BI
 |.bool _,_,h=>by rw[Dt]at h;subst h;exact .bl _
 |.int _,_,h=>by rw[Dt]at h;subst h;exact .int _
 |.str _,_,h=>by rw[Dt]at h;subst h;exact .str _
 |.tuple _,_,h=>by rw[Dt]at h;obtain⟨a,xs,rfl,_,h1,_⟩:=h;exact .tup h1
 |.list _,_,h=>by rw[Dt]at h;obtain⟨a,xs,rfl,_,h1,_⟩:=h;exact .lst h1
 |.dict _,_,h=>by rw[Dt]at h;exact h.elim
def Dx:PD→Bool
 |.tuple _=>true
 |_=>false
def C4:PD→Bool
 |.list _=>true
 |_=>false
def HJ:PD→Bool
 |.int _=>true
 |.bool _=>true
 |_=>false
def Fu:PD→Bool
 |.bool _=>true
 |_=>false
def O9(K:Fg):∀d:PD,(∀kv,d≠.dict kv)→PySem.W.kitOne K (.type (P9 d)) (.type "tuple")=some (Dx d)
 |.none,_=>Zo K
 |.bool _,_=>YO K
 |.int _,_=>ZL K
 |.str _,_=>Zr K
 |.tuple _,_=>ZJ K
 |.list _,_=>bU K
 |.dict kv,h=>absurd rfl (h kv)
def Pj(K:Fg):∀d:PD,(∀kv,d≠.dict kv)→PySem.W.kitOne K (.type (P9 d)) (.type "list")=some (C4 d)
 |.none,_=>Yk K
 |.bool _,_=>Yw K
 |.int _,_=>Zp K
 |.str _,_=>ZQ K
 |.tuple _,_=>YV K
 |.list _,_=>YE K
 |.dict kv,h=>absurd rfl (h kv)
def bV(K:Fg):PySem.W.kitOne K (.type "NoneType") (.type "bool")=some false:=by kernel_rfl
def YB(K:Fg):PySem.W.kitOne K (.type "str") (.type "bool")=some false:=by kernel_rfl
def Y2(K:Fg):PySem.W.kitOne K (.type "tuple") (.type "bool")=some false:=by kernel_rfl
def Yg(K:Fg):PySem.W.kitOne K (.type "list") (.type "bool")=some false:=by kernel_rfl
def VB(K:Fg):∀d:PD,(∀kv,d≠.dict kv)→PySem.W.kitOne K (.type (P9 d)) (.type "int")=some (HJ d)
 |.none,_=>Zz K
 |.bool _,_=>Yc K
 |.int _,_=>Yd K
 |.str _,_=>Zw K
 |.tuple _,_=>Zh K
 |.list _,_=>bx K
 |.dict kv,h=>absurd rfl (h kv)
def Ui(K:Fg):∀d:PD,(∀kv,d≠.dict kv)→PySem.W.kitOne K (.type (P9 d)) (.type "bool")=some (Fu d)
 |.none,_=>bV K
 |.bool _,_=>Yz K
 |.int _,_=>Yn K
 |.str _,_=>YB K
 |.tuple _,_=>Y2 K
 |.list _,_=>Yg K
 |.dict kv,h=>absurd rfl (h kv)
def Dt.nodict{l:AD}{H:Hp}{d:PD}{v:V}(h:Dt l H d v):∀kv,d≠.dict kv:=fun kv z=>by subst z;rw[Dt]at h;exact h
end L2
namespace Tr
def Ov{t c:Tr}(h:c∈t.bs):c.deep<t.deep:=by
 induction t with
 |nil=>cases h
 |cons b r _ ih =>
  rw[bs]at h;have hd:(cons b r).deep=max (b.deep+1) r.deep:=rfl;rcases aL.mp h with rfl|h
  ·lia
  ·have:=ih h;lia
def B1:∀t:Tr,0<t.AR
 |.nil=>Nat.one_pos
 |.cons b r=>by rw[AR];have:=B1 b;lia
def Hj{t c:Tr}(h:c∈t.bs):c.AR<t.AR:=by
 induction t with
 |nil=>cases h
 |cons b r _ ih =>
  rw[bs]at h;have hk:(cons b r).AR=b.AR+r.AR:=rfl;have h3:=B1 b;have h4:=B1 r;rcases aL.mp h with rfl|h
  ·lia
  ·have:=ih h;lia
def Ny:∀t:Tr,1+(t.bs.map fun c=>(c.AR:Int)).sum=(t.AR:Int)
 |.nil=>rfl
 |.cons b r=>by
  rw[bs,List.map_cons,List.sum_cons,AR];have:=Ny r
  lia
def J2:∀t:Tr,t.bs.length<t.AR
 |.nil=>Nat.one_pos
 |.cons b r=>by
  rw[bs,List.length_cons,AR];have:=J2 r;have:=B1 b
  lia
end Tr
namespace L2
open PySem PySem.Spec PyProof.Rows
mutual
def IG:PD→Option Tr
 |.tuple ds=>DJ ds
 |_=>none
def DJ:List PD→Option Tr
 |[]=>some .nil
 |d::ds=>(IG d).bind fun b=>(DJ ds).map fun r=>.cons b r
end
section
variable{X:Cx}
def cw:R2:=fun x y H Q=>∃a b xs ys,x=.ref a∧y=.ref b∧H a=some (.tup xs)∧H b=some (.tup ys)∧xs.length+ys.length≤sizeLine∧∀p H',AG H H'→H' p=some (.tup (xs++ys))→Q (.ref p) H'
def Ww:Bv X (binaryOp .Add) cw:=by
 intro pins s σ H x y v u Q I rx ry h;obtain⟨a,b,xs,ys,rfl,rfl,ha,hb,hz,q⟩:=h;cases rx;cases ry;obtain⟨its,r1,p1,_⟩:=I.tuple (Au.of (K:=X.K) ha);obtain⟨its2,r2,p2,_⟩:=I.tuple (Au.of (K:=X.K) hb);by_cases hv:its=[]
 ·have hx:=r1.RJ.mp hv;subst hv hx;obtain⟨⟨cls,dd,data,sl⟩,ho,hc,n,hd⟩:=id p1;obtain⟨⟨cls2,dd2,data2,sl2⟩,ho2,hc2,n2,hd2⟩:=id p2;simp only at hc hd hc2 hd2;subst hc hd hc2 hd2;exact concat_meets ⟨_,ho,rfl⟩ ⟨_,ho2,rfl⟩ noFill_tuple_add seq_tuple_add PySem.F.slot_tuple_add PySem.F.entry_tuple_add (PySem.F.args_tuple_add_2 _ _)
   (tuple_addW0 a b _ _ n n2 dd dd2 sl sl2 (by simp)) ⟨ho,ho2,⟨.ref b,H,I,rfl,q b H (.refl H) (by simpa using hb)⟩⟩
 ·refine HT.Wi p1 p2 hv (fun z=>?_) (fun z=>?_) (by rw[←r1.length,←r2.length];exact hz)
  ·have hy:=r2.RJ.mp z;subst hy;exact⟨.ref a,H,I,rfl,q a H (.refl H) (by simpa using ha)⟩
  ·refine⟨.ref s.heap.objs.size,_,I.laid (t':=s.toks) (o:=.tup (xs++ys)) (fun b ob q=>aC _ q) (aG _) ?_,rfl,q _ _ (Aa (I.Af.fresh (aG _)) _) AI⟩;exact⟨by rw[List.length_append];exact hz,_,r1.append r2,IsTup.new _ _⟩
end
end L2
namespace Tim
open PySem PyProof.Rows
section pure
end pure
section
section pure
end pure
section pure
end pure
end
end Tim
set_option maxHeartbeats 0
set_option maxHeartbeats 4000000
namespace L2
open PySem PySem.Spec PyProof.Rows
abbrev Te(x y:Str)(px py:Pos)(tk:Nat)(tp:Pos):Expr:=.Tuple [.Name x px,.Name y py] tk tp
def Xk{ix iy:Nat}(h:ix≠iy)(σ:St)(a b c d:Option V):((((σ.set ix a).set iy b).set ix c).set iy d)=(σ.set ix c).set iy d:=by
 rw[List.set_comm _ _ h.symm,List.set_set,List.set_set]
def Sw(K:Fg)(wi:TI)(fr:List (Option Nat))(ix iy:Nat)(tif:TT)(te:TE):TE:=fun σ H Q=>wi σ H fun J H1=>∀D,H1 D=none→∃W:Nat→Nat→List V→Hp→Prop,(∃m,W 0 m [] (upd H1 D (.lst []))) ∧
 ∀i m ys H,W i m ys H→H D=some (.lst ys)∧((J.stop i H∧Q (.ref D) H)∨(J.go i H∧ys.length<sizeLine∧∀x H',J.Dl i H x H'→∃a v1 v2,x=.ref a∧Au K H' a [v1,v2] ∧
  tif (((carry fr σ).set ix (some v1)).set iy (some v2)) H' fun b H2=>if b=true then te (((carry fr σ).set ix (some v1)).set iy (some v2)) H2 fun y H3=>H3 D=some (.lst ys)∧∃m',m'<m∧W (i+1) m' (ys++[y]) (upd H3 D (.lst (ys++[y])))
   else ∃m',m'<m∧W (i+1) m' ys H2))
section
variable{X:Cx}{elt iter:Expr}{x y:Str}{px py tp pos:Pos}{tk:Nat}{ifs:List Expr}{scope:Scope}{wi:TI}{fr:List (Option Nat)}{ix iy:Nat}{tif:TT}{te:TE}{N:List Str}
def QQ{pins:List (AD×Obj)}{σ:St}{H2:Hp}{s2:SD}{Q:VK}{it:AD}{fp:List AD}{tn:Nat→Heap→Prop}{J:It}{cl:List (Str×AD)}{E:VL→SD→Prop}{RR:VL→AD→Result→SD→Prop}
 (S:Ce scope N x ix)(S2:Ce scope N y iy)(hxy:ix≠iy)(hcalm:X.calm=true)(hfr:EX N X.N scope X.env.scope fr 0=true)(hlen:fr.length=N.length)
 (hif:∀cl C s₀ H₀ fp,Jw (Aq X scope cl N C s₀ H₀ fp) ifs tif)(he:∀cl C s₀ H₀ fp,PE (Aq X scope cl N C s₀ H₀ fp) elt te)
 (I2:Inv X pins σ H2 s2)(T:Turn X.prog X.w X.K (Te x y px py tk tp) J fp it tn)(st2:tn 0 s2.heap)(f2:∀b∈fp,IH X pins H2 b)
 (c1:∀x c,cl.lookup x=some c→X.env.cells.lookup x=some c)(c2:∀x∈scope.names,x.2=NameKind.free→∃c,cl.lookup x.1=some c)
 (W:∀D,H2 D=none→∃W:Nat→Nat→List V→Hp→Prop,(∃m,W 0 m [] (upd H2 D (.lst []))) ∧
   ∀i m ys H,W i m ys H→H D=some (.lst ys)∧((J.stop i H∧Q (.ref D) H)∨(J.go i H∧ys.length<sizeLine∧∀x H',J.Dl i H x H'→∃a v1 v2,x=.ref a∧Au X.K H' a [v1,v2] ∧
    tif (((carry fr σ).set ix (some v1)).set iy (some v2)) H' fun b H2=>if b=true then te (((carry fr σ).set ix (some v1)).set iy (some v2)) H2 fun y H3=>H3 D=some (.lst ys)∧∃m',m'<m∧W (i+1) m' (ys++[y]) (upd H3 D (.lst (ys++[y])))
     else ∃m',m'<m∧W (i+1) m' ys H2)))
 (fin:∀(D C:AD) (s':SD) (H':Hp) m,s'.heap.Ns C m→Q (.ref D) H'→(∀h',Heap.SameBut C s'.heap h'→Inv X pins σ H' { s' with heap:=h'})→C≠D→(∀b o,s2.heap.get? b=some o→b≠C)→H' C=none→s2.heap.objs.size≤C→RR (.ref D) C (.ok .next) s') :
  wpAny (model X.prog X.w) X.A (newList []) (fun acc s₃=>wpAny (model X.prog X.w) X.A (newFunctionEnv scope X.env.globals cl [] X.env.qual none .none (some X.env)) (fun cenv s₄ =>
   codeAny (model X.prog X.w) X.A (.compStart (.ListComp elt [⟨Te x y px py tk tp,iter,ifs,0⟩] scope pos) 0 (.ref it) acc {cenv with scope:=relabel scope X.env}) (RR acc cenv.locals) s₄) E s₃) E s2:=by
 have hxv:(relabel scope X.env).names.lookup x=some .local:=lookup_relabel_local S.loc;have hyv:(relabel scope X.env).names.lookup y=some .local:=lookup_relabel_local S2.loc;refine K4 (g:=RZ X.K 2 (Hk (Cw ix) (Hk (Cw iy) SH))) S hcalm (fun σ'=>∀v w,(σ'.set ix v).set iy w=((carry fr σ).set ix v).set iy w) (fun _ _=>rfl) (fun C=>L9 (X:=Aq X scope cl N C s2 H2 fp) hcalm (C9 (BM (X:=Aq X scope cl N C s2 H2 fp) S.nd S.at_ (.inl hxv) (.inr hxv)) (C9 (BM (X:=Aq X scope cl N C s2 H2 fp) S2.nd S2.at_ (.inl hyv) (.inr hyv)) Ki))) hfr hlen hif he I2 T st2 f2 c1 c2 (fun D hD=>?_) fin;obtain⟨W,w0,st⟩:=W D hD;refine⟨W,w0,fun i m ys H w=>?_⟩;obtain⟨h1,h2|⟨h2,h3,h4⟩⟩:=st i m ys H w
 ·exact⟨h1,.inl h2⟩
 ·refine⟨h1,.inr ⟨h2,h3,fun x H' hy σ' hr=>?_⟩⟩;obtain⟨a,v1,v2,rfl,hs,q⟩:=h4 x H' hy;rw[←hr]at q;exact⟨a,[v1,v2],rfl,hs,rfl,v1,[v2],rfl,v2,[],rfl,rfl,fun v w=>by rw[Xk hxy,hr],q⟩
def Uu(S:Ce scope N x ix)(S2:Ce scope N y iy)(hxy:ix≠iy)(hcalm:X.calm=true)(hfr:EX N X.N scope X.env.scope fr 0=true)(hlen:fr.length=N.length)(hfree:∀y∈scope.names,y.2=.free→X.env.scope.names.lookup y.1=some .cell∨X.env.scope.names.lookup y.1=some .free)
 (hi:PI X (Te x y px py tk tp) iter wi)(hif:∀cl C s₀ H₀ fp,Jw (Aq X scope cl N C s₀ H₀ fp) ifs tif)(he:∀cl C s₀ H₀ fp,PE (Aq X scope cl N C s₀ H₀ fp) elt te)
 (hs:∀x,foldedSetIterable iter X.env x=pure x:=by intro _;rfl):PE X (.ListComp elt [⟨Te x y px py tk tp,iter,ifs,0⟩] scope pos) (Sw X.K wi fr ix iy tif te):=by
 intro pins s σ H Q I hw;obtain⟨cl,hclos,c1,_,c2⟩:=FE (env:=X.env) scope.names [] (fun y hy hf=>I.ok.has y.1 (hfree y hy hf)) (fun y c z=>by cases z);have hclos':closureFor scope X.env=pure cl:=by
  have e:closureFor scope X.env=((forIn scope.names [] (fun(x:Str×NameKind) (r:List (Str×AD))=>do if(x.2==NameKind.free)=true then do let a ←cellOf X.env x.1;pure (ForInStep.yield ((x.1,a)::r)) else pure (ForInStep.yield r)):Sem (List (Str×AD)))>>=fun cs=>pure cs):=rfl;rw[e,hclos]
  rfl
 rw[eval_ListComp];refine wpAny_comprehension_free (use:=none) rfl hs hclos' S.kind S.names (Az (hi pins s σ H _ I hw) fun v s1 h1=>Az h1 fun itv s2 h2=>?_);obtain⟨it,fp,tn,J,H2,e,I2,T,st2,f2,W⟩:=h2;subst e;refine QQ (RR:=fun acc C=>compPost (model X.prog X.w) X.A X.xe none (EP X pins σ Q) acc C) S S2 hxy hcalm hfr hlen hif he I2 T st2 f2 c1 c2 W ?_;intro D C s' H' m hn q hI _ _ _ _;exact⟨m,hn,fun h' hs'=>⟨.ref D,H',hI h' hs',rfl,q⟩⟩
end
section
variable{X:Cx}{elt iter:Expr}{x y:Str}{px py tp pos:Pos}{tk:Nat}{ifs:List Expr}{scope:Scope}{wi:TI}{tif:TT}{te:TE}
def NL(N:List Str)(ix iy:Nat)(fr:List (Option Nat))(hi:PI X (Te x y px py tk tp) iter wi)(hif:∀cl C s₀ H₀ fp,Jw (Aq X scope cl N C s₀ H₀ fp) ifs tif)(he:∀cl C s₀ H₀ fp,PE (Aq X scope cl N C s₀ H₀ fp) elt te)
 (h1:CO scope N x ix=true:=by decide +kernel)(h1':CO scope N y iy=true:=by decide +kernel)(hxy:ix≠iy:=by decide)(h2:X.calm=true:=by rfl)(h3:EX N X.N scope X.env.scope fr 0=true:=by rfl)(h4:fr.length=N.length:=by rfl)(h5:freeOk X.env.scope scope.names=true:=by rfl)
 (hs:∀x,foldedSetIterable iter X.env x=pure x:=by intro _;rfl):PE X (.ListComp elt [⟨.Tuple [.Name x px,.Name y py] tk tp,iter,ifs,0⟩] scope pos) (Sw X.K wi fr ix iy tif te) :=
 Uu (FL h1) (FL h1') hxy h2 h3 h4 (Jy h5) hi hif he hs
end
def Ow{K:Fg}{J:It}{n:Nat}{D:AD}{H1:Hp}{fr:List (Option Nat)}{σ:St}{ix iy:Nat}{tif:TT}{te:TE}{G:Hp→Prop}(Pv:Nat→List V→Hp→Prop)(h0:Pv 0 [] (upd H1 D (.lst [])))
 (hgo:∀i ys H,i<n→Pv i ys H→H D=some (.lst ys)→J.go i H∧ys.length<sizeLine∧∀x H',J.Dl i H x H'→∃a v1 v2,x=.ref a∧Au K H' a [v1,v2] ∧
   tif (((carry fr σ).set ix (some v1)).set iy (some v2)) H' fun b H2=>if b=true then te (((carry fr σ).set ix (some v1)).set iy (some v2)) H2 fun y H3=>H3 D=some (.lst ys)∧∃m',m'<n-i∧CW Pv n D (i+1) m' (ys++[y]) (upd H3 D (.lst (ys++[y])))
    else ∃m',m'<n-i∧CW Pv n D (i+1) m' ys H2)
 (hstop:∀ys H,Pv n ys H→H D=some (.lst ys)→J.stop n H∧G H) :
  ∃W:Nat→Nat→List V→Hp→Prop,(∃m,W 0 m [] (upd H1 D (.lst []))) ∧
   ∀i m ys H,W i m ys H→H D=some (.lst ys)∧((J.stop i H∧G H)∨(J.go i H∧ys.length<sizeLine∧∀x H',J.Dl i H x H'→∃a v1 v2,x=.ref a∧Au K H' a [v1,v2] ∧
    tif (((carry fr σ).set ix (some v1)).set iy (some v2)) H' fun b H2=>if b=true then te (((carry fr σ).set ix (some v1)).set iy (some v2)) H2 fun y H3=>H3 D=some (.lst ys)∧∃m',m'<m∧W (i+1) m' (ys++[y]) (upd H3 D (.lst (ys++[y])))
     else ∃m',m'<m∧W (i+1) m' ys H2)):=by
 refine⟨CW Pv n D,⟨n,by simp,Nat.zero_le _,AI,h0⟩,?_⟩;rintro i m ys H ⟨rfl,hi,hH,p⟩;refine⟨hH,?_⟩;by_cases hlt:i<n
 ·exact .inr (hgo i ys H hlt p hH)
 ·have:i=n:=by lia
  subst this;exact .inl (hstop ys H p hH)
end L2
namespace ZT
open PySem PyProof.Rows
structure Apart(z TI TO i1 i2:Addr)(f1 f2:List Addr):Prop where
 a1:TI≠z∧TI≠TO∧TI≠i1∧TI≠i2
 a2:TO≠z∧TO≠i1∧TO≠i2
 a3:i1≠z∧i2≠z∧i1≠i2
 b1:z ∉ f1∧TO ∉ f1∧i2 ∉ f1
 b2:z ∉ f2∧TO ∉ f2∧i1 ∉ f2
section
variable{prog:Program}{w:World}{A:Around}{E:VL→SD→Prop}{s:SD}{z TI TO i1 i2:AD}{f1 f2:List AD}{n1 n2 k:Nat}{P1 P2:Nat→VL→Prop}{S1 S2:Nat→Heap→Prop}{a b:VL}
def AZ{f:List AD}{x:AD}{h h':Heap}(hx:x ∉ f)(e:Heap.SameBut x h h'):∀c∈f,∀o,h.get? c=some o→h'.get? c=some o:=fun c hc o q=>(e.2 c fun y=>hx (y ▸ hc)).trans q
def item{Q:VL→SD→Prop}(D1:Draws prog w A i1 f1 n1 P1 S1)(D2:Draws prog w A i2 f2 n2 P2 S2)(ap:Apart z TI TO i1 i2 f1 f2)(hz:IsZip s.heap z TI TO .none)(hI:IsPair s.heap TI (.ref i1) (.ref i2))(hO:IsPair s.heap TO a b)
 (t1:S1 k s.heap)(t2:S2 k s.heap)(l1:k<n1)(l2:k<n2)
 (q:∀x y h' tk,P1 k x→P2 k y→IsZip h' z TI TO (rawInt s.heap.objs.size)→IsPair h' TO x y→S1 (k+1) h'→S2 (k+1) h'→IsPair h' s.heap.objs.size x y→h'.objs.size=s.heap.objs.size+1 →
   (∀c o,c≠z→c≠TO→c≠i1→c≠i2→s.heap.get? c=some o→h'.get? c=some o)→Q (.ref s.heap.objs.size) {s with heap:=h',toks:=tk}) :
  wpAny (model prog w) A (Builtin.«zip.__next__» ⟨[.ref z],[]⟩) (fun fin s'=>∃v,fin=.done (.ret v)∧Q v s') E s:=by
 obtain⟨⟨c1,c2,c3,c4⟩,⟨c5,c6,c7⟩,⟨c8,c9,c10⟩,⟨d1,d2,d3⟩,d4,d5,d6⟩:=ap;show wpAny _ _ (field (.ref z) 2>>=_) _ _ _;refine Wb (aX hz rfl (x:=.bool false) rfl ?_);show wpAny _ _ (field (.ref z) 3>>=_) _ _ _;refine Wb (aX hz rfl (x:=.ref TI) rfl (Wb (aQ hI rfl ?_)));show wpAny _ _ (Builtin.SmallTypes.ownedTupleIsFree (.ref z)>>=_) _ _ _;unfold Builtin.SmallTypes.ownedTupleIsFree;refine Wb (Wb (aX hz rfl (x:=.none) rfl (aA ?_)));simp only[if_true];refine Wb (bH (Wb (aX hz rfl (x:=.ref TO) rfl (Wb (aa hz (by simp) fun g1 z1 m1=>Wb ?_)))));have m1:Heap.SameBut z s.heap g1:=m1;have z1:IsZip g1 z TI TO .ellipsis:=z1;simp only[List.zipIdx_cons,List.zipIdx_nil,List.forIn_cons,List.forIn_nil];refine Wb (Wb (bD ?_));show wpAny _ _ (Builtin.SmallTypes.nextOf (.ref i1)>>=_) _ _ _;refine Wb (D1.item k _ _ _ l1 (D1.frame _ _ _ t1 (AZ d1 m1)) fun x g2 tk2 p1 u1 m2=>aA ?_);have o2:IsPair g2 TO a b:=(m2.2 _ c6).trans ((m1.2 _ c5).trans hO);refine Wb (aQ o2 rfl (Wb (wpAny_updateSeq_pair o2 fun g3 o3 m3=>Wb (wpAny_letGo (aA ?_)))));have o3:IsPair g3 TO x b:=o3;have t2':S2 k g3:=D2.frame _ _ _ (D2.frame _ _ _ (D2.frame _ _ _ t2 (AZ d4 m1)) (AZ d6 m2)) (AZ d5 m3);refine Wb (Wb (bD ?_));show wpAny _ _ (Builtin.SmallTypes.nextOf (.ref i2)>>=_) _ _ _;refine Wb (D2.item k _ _ _ l2 t2' fun y g4 tk4 p2 u2 m4=>aA ?_);have m3:Heap.SameBut TO g2 g3:=m3;have m4:Heap.SameBut i2 g3 g4:=m4;have o4:IsPair g4 TO x b:=(m4.2 _ c7).trans o3;refine Wb (aQ o4 rfl (Wb (wpAny_updateSeq_pair o4 fun g5 o5 m5=>Wb (wpAny_letGo (aA (aA ?_))))));have m5:Heap.SameBut TO g4 g5:=m5;have o5:IsPair g5 TO x y:=o5;refine Wb (aQ o5 rfl (Wb (wpAny_newTuple ?_)));have m2:Heap.SameBut i1 g1 g2:=m2;have sz:g5.objs.size=s.heap.objs.size:=by rw[m5.1,m4.1,m3.1,m2.1,m1.1]
 have z5:IsZip g5 z TI TO .ellipsis:=(m5.2 _ c5.symm).trans ((m4.2 _ c9.symm).trans ((m3.2 _ c5.symm).trans ((m2.2 _ c8.symm).trans z1)));have kp:∀c o,c≠z→c≠TO→c≠i1→c≠i2→s.heap.get? c=some o→g5.get? c=some o:=fun c o e1 e2 e3 e4 e=>(m5.2 _ e2).trans ((m4.2 _ e4).trans ((m3.2 _ e2).trans ((m2.2 _ e3).trans ((m1.2 _ e1).trans e))));have v1:S1 (k+1) g5:=D1.frame _ _ _ (D1.frame _ _ _ (D1.frame _ _ _ u1 (AZ d2 m3)) (AZ d3 m4)) (AZ d2 m5);have v2:S2 (k+1) g5:=D2.frame _ _ _ u2 (AZ d5 m5);show wpAny _ _ (Builtin.SmallTypes.ownedTupleHandOut (.ref z) (.ref g5.objs.size)>>=_) _ _ _;unfold Builtin.SmallTypes.ownedTupleHandOut;have z6:IsZip (g5.push { cls:=.type "tuple",data:=.seq #[x,y]}) z TI TO .ellipsis:=aC _ z5;refine Wb (Wb (aa z6 (by simp) fun g7 z7 m7=>aa (show IsZip g7 z TI TO (rawInt g5.objs.size) from z7) (by simp) fun g8 z8 m8=>?_));have z8:IsZip g8 z TI TO (rawInt g5.objs.size):=z8;have up:∀c o,c≠z→(g5.push { cls:=.type "tuple",data:=.seq #[x,y]}).get? c=some o→g8.get? c=some o:=fun c o e1 e=>(m8.2 _ e1).trans ((m7.2 _ e1).trans e);have zl:z<g5.objs.size:=aD z5;refine aA ⟨_,rfl,?_⟩;show Q (.ref g5.objs.size) _;have fin:=q x y g8 tk4 p1 p2 (by rw[←sz];exact z8) (up _ _ c5 (aC _ o5)) (D1.frame _ _ _ v1 fun c hc o e=>up c o (fun y=>d1 (y ▸ hc)) (aC _ e)) (D2.frame _ _ _ v2 fun c hc o e=>up c o (fun y=>d4 (y ▸ hc)) (aC _ e))
  (by rw[←sz];exact up _ _ (bK zl) (aH _ rfl)) (by rw[←sz,m8.1,m7.1,Heap.size_push]) fun c o e1 e2 e3 e4 e=>up c o e1 (aC _ (kp c o e1 e2 e3 e4 e))
 rw[sz];exact fin
def ended{Q:Fin→SD→Prop}(D1:Draws prog w A i1 f1 n1 P1 S1)(D2:Draws prog w A i2 f2 n2 P2 S2)(ap:Apart z TI TO i1 i2 f1 f2)(hz:IsZip s.heap z TI TO .none)(hI:IsPair s.heap TI (.ref i1) (.ref i2))(hO:IsPair s.heap TO a b)
 (t1:S1 k s.heap)(t2:S2 k s.heap)(he:k=n1∨(k<n1∧k=n2))
 (q:∀h' e tk,(∀c o,c≠z→c≠TO→c≠i1→c≠i2→s.heap.get? c=some o→h'.get? c=some o)→(∃o,h'.get? e=some o∧o.cls=.type "StopIteration")→E (.ref e) {s with heap:=h',toks:=tk}) :
  wpAny (model prog w) A (Builtin.«zip.__next__» ⟨[.ref z],[]⟩) Q E s:=by
 obtain⟨⟨c1,c2,c3,c4⟩,⟨c5,c6,c7⟩,⟨c8,c9,c10⟩,⟨d1,d2,d3⟩,d4,d5,d6⟩:=ap;show wpAny _ _ (field (.ref z) 2>>=_) _ _ _;refine Wb (aX hz rfl (x:=.bool false) rfl ?_);show wpAny _ _ (field (.ref z) 3>>=_) _ _ _;refine Wb (aX hz rfl (x:=.ref TI) rfl (Wb (aQ hI rfl ?_)));show wpAny _ _ (Builtin.SmallTypes.ownedTupleIsFree (.ref z)>>=_) _ _ _;unfold Builtin.SmallTypes.ownedTupleIsFree;refine Wb (Wb (aX hz rfl (x:=.none) rfl (aA ?_)));simp only[if_true];refine Wb (bH (Wb (aX hz rfl (x:=.ref TO) rfl (Wb (aa hz (by simp) fun g1 z1 m1=>Wb ?_)))));have m1:Heap.SameBut z s.heap g1:=m1;have z1:IsZip g1 z TI TO .ellipsis:=z1;simp only[List.zipIdx_cons,List.zipIdx_nil,List.forIn_cons,List.forIn_nil];refine Wb (Wb (bD ?_));show wpAny _ _ (Builtin.SmallTypes.nextOf (.ref i1)>>=_) _ _ _;have t1':=D1.frame _ _ _ t1 (AZ d1 m1);rcases he with he|⟨he1,he2⟩
 ·rw[he]at t1';refine Wb (D1.done _ _ _ t1' fun g2 e m2 ho=>?_);obtain⟨o,ho,hc⟩:=ho;have z2:IsZip g2 z TI TO .ellipsis:=m2 _ _ c8.symm z1;have ez:e≠z:=fun y=>by subst y;rw[z2]at ho;cases ho;simp at hc
  exact aa z2 (by simp) fun g3 _ m3=>q g3 e _ (fun c o e1 e2 e3 e4 y=>(m3.2 _ e1).trans (m2 _ _ e3 ((m1.2 _ e1).trans y))) ⟨o,(m3.2 _ ez).trans ho,hc⟩
 ·refine Wb (D1.item k _ _ _ he1 t1' fun x g2 tk2 p1 u1 m2=>aA ?_);have o2:IsPair g2 TO a b:=(m2.2 _ c6).trans ((m1.2 _ c5).trans hO);refine Wb (aQ o2 rfl (Wb (wpAny_updateSeq_pair o2 fun g3 o3 m3=>Wb (wpAny_letGo (aA ?_)))));have t2':S2 k g3:=D2.frame _ _ _ (D2.frame _ _ _ (D2.frame _ _ _ t2 (AZ d4 m1)) (AZ d6 m2)) (AZ d5 m3);rw[he2]at t2';have m2:Heap.SameBut i1 g1 g2:=m2;have m3:Heap.SameBut TO g2 g3:=m3;refine Wb (Wb (bD ?_));show wpAny _ _ (Builtin.SmallTypes.nextOf (.ref i2)>>=_) _ _ _;refine Wb (D2.done _ _ _ t2' fun g4 e m4 ho=>?_);obtain⟨o,ho,hc⟩:=ho;have z4:IsZip g4 z TI TO .ellipsis:=m4 _ _ c9.symm ((m3.2 _ c5.symm).trans ((m2.2 _ c8.symm).trans z1));have ez:e≠z:=fun y=>by subst y;rw[z4]at ho;cases ho;simp at hc
  exact aa z4 (by simp) fun g5 _ m5=>q g5 e _ (fun c o e1 e2 e3 e4 y=>(m5.2 _ e1).trans (m4 _ _ e4 ((m3.2 _ e2).trans ((m2.2 _ e3).trans ((m1.2 _ e1).trans y))))) ⟨o,(m5.2 _ ez).trans ho,hc⟩
def next_item{Q:Option VL→SD→Prop}(D1:Draws prog w A.in1 i1 f1 n1 P1 S1)(D2:Draws prog w A.in1 i2 f2 n2 P2 S2)(ap:Apart z TI TO i1 i2 f1 f2)(hz:IsZip s.heap z TI TO .none)(hI:IsPair s.heap TI (.ref i1) (.ref i2))(hO:IsPair s.heap TO a b)
 (t1:S1 k s.heap)(t2:S2 k s.heap)(l1:k<n1)(l2:k<n2)
 (q:∀x y h' tk,P1 k x→P2 k y→IsZip h' z TI TO (rawInt s.heap.objs.size)→IsPair h' TO x y→S1 (k+1) h'→S2 (k+1) h'→IsPair h' s.heap.objs.size x y→h'.objs.size=s.heap.objs.size+1 →
   (∀c o,c≠z→c≠TO→c≠i1→c≠i2→s.heap.get? c=some o→h'.get? c=some o)→Q (some (.ref s.heap.objs.size)) {s with heap:=h',toks:=tk}) :
  wpAny (model prog w) A (pyNext (.ref z)) Q E s:=by
 have hT:s.TypeIs (.ref z) "zip" := ⟨_,hz,rfl⟩;unfold pyNext;exact Wb (wpAny_attempt (aY (name:=Str.ofString "__next__") hT bL
  (aS bL hT F.entry_zip_next (item D1 D2 ap hz hI hO t1 t2 l1 l2 fun x y h' tk r1 r2 r3 r4 r5 r6 r7 r8 r9=>aA (q x y h' tk r1 r2 r3 r4 r5 r6 r7 r8 r9)) (F.args_zip_next_1 _))))
def next_end{Q:Option VL→SD→Prop}(D1:Draws prog w A.in1 i1 f1 n1 P1 S1)(D2:Draws prog w A.in1 i2 f2 n2 P2 S2)(ap:Apart z TI TO i1 i2 f1 f2)(hz:IsZip s.heap z TI TO .none)(hI:IsPair s.heap TI (.ref i1) (.ref i2))(hO:IsPair s.heap TO a b)
 (t1:S1 k s.heap)(t2:S2 k s.heap)(he:k=n1∨(k<n1∧k=n2))
 (q:∀h' tk,(∀c o,c≠z→c≠TO→c≠i1→c≠i2→s.heap.get? c=some o→h'.get? c=some o)→Q none {s with heap:=h',toks:=tk}) :
  wpAny (model prog w) A (pyNext (.ref z)) Q E s:=by
 have hT:s.TypeIs (.ref z) "zip" := ⟨_,hz,rfl⟩;unfold pyNext;refine Wb (wpAny_attempt (aY (name:=Str.ofString "__next__") hT bL
  (aS bL hT F.entry_zip_next (ended D1 D2 ap hz hI hO t1 t2 he fun h' e tk kp ho=>?_) (F.args_zip_next_1 _))))
 obtain⟨o,ho,hc⟩:=ho;exact Wb (wpAny_isInstance (T := "StopIteration") (b:=true) ⟨o,ho,hc⟩ isSubtype_stop (aA (q _ _ kp)))
end
end ZT
namespace ZT
open PySem PyProof.Rows
def Sq(b:Bool)(h:Heap)(l:AD)(xs:List VL):Prop:=if b then h.IsTuple l xs.toArray else h.IsList l xs.toArray
def Av(b:Bool)(l:AD):Obj:=if b then { cls:=.type "tuple_iterator",data:=.fields #[.ref l,.int 0 0]} else { cls:=.type "list_iterator",data:=.fields #[.ref l,.int 0 0]}
def Gv(b:Bool)(h:Heap)(it l:AD)(k:Nat):Prop:=if b then h.IsTupleIter it l k else h.IsListIter it l k
def Sq.push{b:Bool}{h:Heap}{l:AD}{xs:List VL}(o:Obj)(x:Sq b h l xs):Sq b (h.push o) l xs:=by
 cases b with
 |true=>obtain⟨u,e,r⟩:=(show h.IsTuple l xs.toArray from x);exact(show(h.push o).IsTuple l xs.toArray from⟨u,Heap.get?_push_of_some _ e,r⟩)
 |false=>obtain⟨u,e,r⟩:=(show h.IsList l xs.toArray from x);exact(show(h.push o).IsList l xs.toArray from⟨u,Heap.get?_push_of_some _ e,r⟩)
section
variable{prog:Program}{w:World}{A:Around}{E:VL→SD→Prop}{s:SD}
def IX{b:Bool}{l:AD}{xs:List VL}{Q:VL→SD→Prop}(x:Sq b s.heap l xs)(h:Q (.ref s.heap.objs.size) {s with heap:=s.heap.push (Av b l)}):wpAny (model prog w) A (pyIter (.ref l)) Q E s:=by
 cases b with
 |true=>exact wpAny_pyIter_tuple x h
 |false=>exact wpAny_pyIter_list x h
def Ck(hh:A.handled=none)(b:Bool)(it l:AD)(xs:List VL)(hne:l≠it):Draws prog w A it [it,l] xs.length (fun i v=>xs[i]? = some v) (fun i h=>Gv b h it l i∧Sq b h l xs):=by
 cases b with
 |true=>exact ET.draws hh it l xs hne
 |false =>
  have:=Draws.list (prog:=prog) (w:=w) hh it l hne xs.toArray
  simpa[Gv,Sq]using this
def zh(b1 b2:Bool)(h:Heap)(l1 l2:AD):Heap :=
 ((((h.push (Av b1 l1)).push (Av b2 l2)).push { cls:=.type "tuple",data:=.seq #[.ref h.objs.size,.ref (h.push (Av b1 l1)).objs.size]}).push { cls:=.type "tuple",data:=.seq #[.none,.none]}).push
  { cls:=.type "zip",data:=.fields #[.none,.bool false,.bool false,.ref ((h.push (Av b1 l1)).push (Av b2 l2)).objs.size,.ref (((h.push (Av b1 l1)).push (Av b2 l2)).push { cls:=.type "tuple",data:=.seq #[.ref h.objs.size,.ref (h.push (Av b1 l1)).objs.size]}).objs.size]}
def Wh(b1 b2:Bool)(l1 l2:AD)(xs ys:List VL) :
  Meets (Builtin.«zip.__new__» ⟨[.type "zip",.ref l1,.ref l2],[]⟩) (fun _ R s=>Sq b1 s.heap l1 xs∧Sq b2 s.heap l2 ys ∧
   R (.ok (.ret (.ref ((((s.heap.push (Av b1 l1)).push (Av b2 l2)).push { cls:=.type "tuple",data:=.seq #[.ref s.heap.objs.size,.ref (s.heap.push (Av b1 l1)).objs.size]}).push { cls:=.type "tuple",data:=.seq #[.none,.none]}).objs.size)) ) {s with heap:=zh b1 b2 s.heap l1 l2}) :=
 .of_wp fun prog w A R s h=>by
  obtain⟨hp,g,d,tk,os⟩:=s;obtain⟨h1,h2,h⟩:=h;have hsub:=sub_zip;have i1:∀(A:Around) (E:VL→SD→Prop) (Q:VL→SD→Prop),Q (.ref hp.objs.size) ⟨hp.push (Av b1 l1),g,d,tk,os⟩→wpAny (model prog w) A (pyIter (.ref l1)) Q E ⟨hp,g,d,tk,os⟩:=fun A E Q q=>IX (s:=⟨hp,g,d,tk,os⟩) h1 q;have i2:∀(A:Around) (E:VL→SD→Prop) (Q:VL→SD→Prop),Q (.ref (hp.push (Av b1 l1)).objs.size) ⟨(hp.push (Av b1 l1)).push (Av b2 l2),g,d,tk,os⟩→wpAny (model prog w) A (pyIter (.ref l2)) Q E ⟨hp.push (Av b1 l1),g,d,tk,os⟩:=fun A E Q q=>IX (s:=⟨hp.push (Av b1 l1),g,d,tk,os⟩) (h2.push _) q
  wp_walk using i1,i2
  exact⟨_,rfl,h⟩
def Uz{b1 b2:Bool}{l1 l2:AD}{xs ys:List VL}{Q:VL→SD→Prop}(h1:Sq b1 s.heap l1 xs)(h2:Sq b2 s.heap l2 ys)
 (h:∀h',IsZip h' (s.heap.objs.size+4) (s.heap.objs.size+2) (s.heap.objs.size+3) .none→IsPair h' (s.heap.objs.size+2) (.ref s.heap.objs.size) (.ref (s.heap.objs.size+1))→IsPair h' (s.heap.objs.size+3) .none .none →
   Gv b1 h' s.heap.objs.size l1 0→Gv b2 h' (s.heap.objs.size+1) l2 0→(∀c o,s.heap.get? c=some o→h'.get? c=some o)→Q (.ref (s.heap.objs.size+4)) {s with heap:=h'}) :
  wpAny (model prog w) A (call (.type "zip") [.ref l1,.ref l2]) Q E s:=by
 refine callType_new F.called_zip (by decide) (F.typeCall_zip_2 _ _) (F.newCall_zip_2 _ _) (fun obj=>F.args_object_init_3 obj _ _) F.entry_zip_new (Wh b1 b2 l1 l2 xs ys) ⟨h1,h2,?_⟩;have n1:(s.heap.push (Av b1 l1)).objs.size=s.heap.objs.size+1:=Heap.size_push ..;have up:∀(g:Heap) (o:Obj) (c:AD) (u:Obj),g.get? c=some u→(g.push o).get? c=some u:=fun g o c u e=>aC _ e;have a0:(s.heap.push (Av b1 l1)).get? s.heap.objs.size=some (Av b1 l1):=aH _ (by cases b1<;>rfl);generalize hg1:s.heap.push (Av b1 l1)=g1 at n1 a0;have k1:∀c o,s.heap.get? c=some o→g1.get? c=some o:=fun c o e=>by rw[←hg1];exact up _ _ _ _ e
 have n2:(g1.push (Av b2 l2)).objs.size=s.heap.objs.size+2:=by rw[Heap.size_push,n1]
 have a1:(g1.push (Av b2 l2)).get? (s.heap.objs.size+1)=some (Av b2 l2):=by rw[←n1];exact aH _ (by cases b2<;>rfl)
 generalize hg2:g1.push (Av b2 l2)=g2 at n2 a1;have k2:∀c o,g1.get? c=some o→g2.get? c=some o:=fun c o e=>by rw[←hg2];exact up _ _ _ _ e
 have n3:(g2.push { cls:=.type "tuple",data:=.seq #[.ref s.heap.objs.size,.ref (s.heap.objs.size+1)]}).objs.size=s.heap.objs.size+3:=by rw[Heap.size_push,n2]
 have a2:IsPair (g2.push { cls:=.type "tuple",data:=.seq #[.ref s.heap.objs.size,.ref (s.heap.objs.size+1)]}) (s.heap.objs.size+2) (.ref s.heap.objs.size) (.ref (s.heap.objs.size+1)):=by rw[←n2];exact aH _ rfl
 generalize hg3:g2.push { cls:=.type "tuple",data:=.seq #[.ref s.heap.objs.size,.ref (s.heap.objs.size+1)]}=g3 at n3 a2;have k3:∀c o,g2.get? c=some o→g3.get? c=some o:=fun c o e=>by rw[←hg3];exact up _ _ _ _ e
 have n4:(g3.push { cls:=.type "tuple",data:=.seq #[.none,.none]}).objs.size=s.heap.objs.size+4:=by rw[Heap.size_push,n3]
 have a3:IsPair (g3.push { cls:=.type "tuple",data:=.seq #[.none,.none]}) (s.heap.objs.size+3) .none .none:=by rw[←n3];exact aH _ rfl
 generalize hg4:g3.push { cls:=.type "tuple",data:=.seq #[.none,.none]}=g4 at n4 a3;have k4:∀c o,g3.get? c=some o→g4.get? c=some o:=fun c o e=>by rw[←hg4];exact up _ _ _ _ e
 have ez:zh b1 b2 s.heap l1 l2=g4.push { cls:=.type "zip",data:=.fields #[.none,.bool false,.bool false,.ref (s.heap.objs.size+2),.ref (s.heap.objs.size+3)]}:=by
  unfold zh;rw[hg1,hg2,n1,hg3,hg4,n2,n3]
 have a4:IsZip (g4.push { cls:=.type "zip",data:=.fields #[.none,.bool false,.bool false,.ref (s.heap.objs.size+2),.ref (s.heap.objs.size+3)]}) (s.heap.objs.size+4) (s.heap.objs.size+2) (s.heap.objs.size+3) .none:=by rw[←n4];exact aH _ rfl
 rw[n1,hg3,hg4,n4,ez];show _∧_;have k5:∀c o,g4.get? c=some o→(g4.push { cls:=.type "zip",data:=.fields #[.none,.bool false,.bool false,.ref (s.heap.objs.size+2),.ref (s.heap.objs.size+3)]}).get? c=some o:=fun c o e=>up _ _ _ _ e;refine⟨⟨_,a4,rfl⟩,h _ a4 (k5 _ _ (k4 _ _ a2)) (k5 _ _ a3) ?_ ?_ fun c o e=>k5 _ _ (k4 _ _ (k3 _ _ (k2 _ _ (k1 _ _ e))))⟩
 ·have:=k5 _ _ (k4 _ _ (k3 _ _ (k2 _ _ a0)));cases b1 with
  |true=>exact⟨_,this,rfl,rfl⟩
  |false=>exact⟨_,this,rfl,rfl⟩
 ·have:=k5 _ _ (k4 _ _ (k3 _ _ a1));cases b2 with
  |true=>exact⟨_,this,rfl,rfl⟩
  |false=>exact⟨_,this,rfl,rfl⟩
end
end ZT
namespace L2
open PySem PySem.Spec PyProof.Rows
def Bq(b:Bool)(H:Hp)(a:AD)(xs:List V):Prop:=if b then H a=some (.tup xs) else H a=some (.lst xs)
def Bq.inj{b:Bool}{H:Hp}{a:AD}{xs ys:List V}(h:Bq b H a xs)(k:Bq b H a ys):xs=ys:=by
 cases b with
 |true=>have h:H a=some (.tup xs):=h;have k:H a=some (.tup ys):=k;rw[h]at k;cases k;rfl
 |false=>have h:H a=some (.lst xs):=h;have k:H a=some (.lst ys):=k;rw[h]at k;cases k;rfl
def Bq.none{b:Bool}{H:Hp}{a c:AD}{xs:List V}(h:Bq b H a xs)(k:H c=none):a≠c:=fun z=>by
 subst z;cases b with
 |true=>have h:H a=some (.tup xs):=h;rw[k]at h;cases h
 |false=>have h:H a=some (.lst xs):=h;rw[k]at h;cases h
def Bq.raw{X:Cx}{pins:List (AD×Obj)}{σ:St}{H:Hp}{s:SD}(I:Inv X pins σ H s){b:Bool}{a:AD}{xs:List V}(h:Bq b H a xs):∃its,Vals xs its∧ZT.Sq b s.heap a its:=by
 cases b with
 |true =>
  obtain⟨its,rv,p,_⟩:=I.tuple (Au.of (K:=X.K) (show H a=some (.tup xs) from h));exact⟨its,rv,p⟩
 |false =>
  obtain⟨its,rv,p,_⟩:=I.list (Ae.of (K:=X.K) (show H a=some (.lst xs) from h));exact⟨its,rv,p.isList⟩
def dH(b1 b2:Bool)(a1 a2:AD):It :=
 ⟨fun i H=>∃xs x ys y,Bq b1 H a1 xs∧Bq b2 H a2 ys∧xs[i]? = some x∧ys[i]? = some y,
  fun i H v H'=>∃p x y,v=.ref p∧H p=none∧H'=upd H p (.tup [x,y])∧(∀xs,Bq b1 H a1 xs→xs[i]? = some x)∧∀ys,Bq b2 H a2 ys→ys[i]? = some y,
  fun i H=>∃xs ys,Bq b1 H a1 xs∧Bq b2 H a2 ys∧(i=xs.length∨(i<xs.length∧i=ys.length))⟩
def fR(b1 b2:Bool)(a1 a2 z TI TO i1 i2:AD):Nat→Heap→Prop:=fun i h=>IsZip h z TI TO .none∧IsPair h TI (.ref i1) (.ref i2)∧(∃a b,IsPair h TO a b)∧ZT.Gv b1 h i1 a1 i∧ZT.Gv b2 h i2 a2 i
def DX{b:Bool}{h:Heap}{it l:AD}{k:Nat}(x:ZT.Gv b h it l k):∃o,h.get? it=some o∧∀v,o.data≠.cell v:=by
 cases b with
 |true=>obtain⟨o,e,_,d⟩:=(show h.IsTupleIter it l k from x);exact⟨o,e,fun v z=>by rw[d]at z;cases z⟩
 |false=>obtain⟨o,e,_,d⟩:=(show h.IsListIter it l k from x);exact⟨o,e,fun v z=>by rw[d]at z;cases z⟩
def Cq{b:Bool}{h h':Heap}{it l:AD}{k:Nat}(x:ZT.Gv b h it l k)(e:∀o,h.get? it=some o→h'.get? it=some o):ZT.Gv b h' it l k:=by
 cases b with
 |true=>obtain⟨o,q,r⟩:=(show h.IsTupleIter it l k from x);exact(show h'.IsTupleIter it l k from⟨o,e _ q,r⟩)
 |false=>obtain⟨o,q,r⟩:=(show h.IsListIter it l k from x);exact(show h'.IsListIter it l k from⟨o,e _ q,r⟩)
def VN{P:Program}{w:World}{K:Fg}{elts:List Expr}{x1}{pos:Pos}{b1 b2:Bool}{a1 a2 z TI TO i1 i2:AD}(ne:[z,TI,TO,i1,i2].Nodup) :
  Turn P w K (.Tuple elts x1 pos) (dH b1 b2 a1 a2) [z,TI,TO,i1,i2] z (fR b1 b2 a1 a2 z TI TO i1 i2) where
 mem:=by simp
 obj:=fun i h st b hb=>by
  obtain⟨h1,h2,⟨u,v,h3⟩,h4,h5⟩:=st;have hb:b=z∨b=TI∨b=TO∨b=i1∨b=i2:=by simpa using hb
  rcases hb with rfl|rfl|rfl|rfl|rfl
  ·exact⟨_,h1,fun v y=>by cases y⟩
  ·exact⟨_,h2,fun v y=>by cases y⟩
  ·exact⟨_,h3,fun v y=>by cases y⟩
  ·exact DX h4
  ·exact DX h5
 keep:=fun i h h' st k=>by
  obtain⟨h1,h2,⟨u,v,h3⟩,h4,h5⟩:=st;exact⟨k z (by simp) _ h1,k TI (by simp) _ h2,⟨u,v,k TO (by simp) _ h3⟩,Cq h4 fun o e=>k i1 (by simp) o e,Cq h5 fun o e=>k i2 (by simp) o e⟩
 item:=by
  intro X hP hw hK hc i pins s σ H E I hf st hg;subst hP hw hK;obtain⟨xs,x,ys,y,q1,q2,hx,hy⟩:=hg;obtain⟨us,rv1,p1⟩:=q1.raw I;obtain⟨vs,rv2,p2⟩:=q2.raw I;obtain⟨u,hu,ru⟩:=rv1.get hx;obtain⟨v,hv,rv⟩:=rv2.get hy;obtain⟨t1,t2,⟨ta,tb,t3⟩,t4,t5⟩:=st;have e1:∀b∈[z,TI,TO,i1,i2],a1≠b:=fun b hb=>q1.none (hf b hb).1;have e2:∀b∈[z,TI,TO,i1,i2],a2≠b:=fun b hb=>q2.none (hf b hb).1;simp only[List.nodup_cons,List.mem_cons,List.not_mem_nil,or_false,not_or]at ne;obtain⟨⟨n1,n2,n3,n4⟩,⟨n5,n6,n7⟩,⟨n8,n9⟩,n10,_⟩:=ne;have ap:ZT.Apart z TI TO i1 i2 [i1,a1] [i2,a2]:=⟨⟨Ne.symm n1,n5,n6,n7⟩,⟨Ne.symm n2,n8,n9⟩,⟨Ne.symm n3,Ne.symm n4,n10⟩,
   ⟨by simp[n3,Ne.symm (e1 z (by simp))],by simp[n8,Ne.symm (e1 TO (by simp))],by simp[Ne.symm n10,Ne.symm (e1 i2 (by simp))]⟩,⟨by simp[n4,Ne.symm (e2 z (by simp))],by simp[n9,Ne.symm (e2 TO (by simp))],by simp[n10,Ne.symm (e2 i1 (by simp))]⟩⟩
  refine ZT.next_item (ZT.Ck (prog:=X.prog) (w:=X.w) (A:=X.A.in1) (I.ok.hd hc) b1 i1 a1 us (e1 i1 (by simp))) (ZT.Ck (prog:=X.prog) (w:=X.w) (A:=X.A.in1) (I.ok.hd hc) b2 i2 a2 vs (e2 i2 (by simp))) ap t1 t2 t3 ⟨t4,p1⟩ ⟨t5,p2⟩ (aE.mp hu).1 (aE.mp hv).1
   fun u' v' h' tk r1 r2 r3 r4 r5 r6 r7 r8 r9=>⟨_,rfl,wpAny_letOwnedTupleGo_zip (s:={s with heap:=h',toks:=tk}) r3 fun h'' z'' sb=>?_⟩
  rw[hu]at r1;rw[hv]at r2;cases r1;cases r2;have keep:∀b o,b ∉ [z,TI,TO,i1,i2]→s.heap.get? b=some o→h''.get? b=some o:=fun b o hb q=>by
   simp only[List.mem_cons,List.not_mem_nil,or_false,not_or]at hb;exact(sb.2 b hb.1).trans (r9 b o hb.1 hb.2.2.1 hb.2.2.2.1 hb.2.2.2.2 q)
  have lt:∀b∈[z,TI,TO,i1,i2],b<s.heap.objs.size:=fun b hb=>by
   have hb:b=z∨b=TI∨b=TO∨b=i1∨b=i2:=by simpa using hb
   rcases hb with rfl|rfl|rfl|rfl|rfl
   ·exact aD t1
   ·exact aD t2
   ·exact aD t3
   ·obtain⟨o,e,_⟩:=DX t4;exact aD e
   ·obtain⟨o,e,_⟩:=DX t5;exact aD e
  have hTn:H s.heap.objs.size=none:=I.Af.fresh (aG _);have hT'':h''.get? s.heap.objs.size=some { cls:=.type "tuple",data:=.seq #[u,v]}:=(sb.2 _ (bK (lt z (by simp)))).trans r7;have neT:∀b o,s.heap.get? b=some o→b≠s.heap.objs.size:=fun b o q=>aK (aD q);have C7:∀b o,H b=some o→b ∉ [z,TI,TO,i1,i2]:=fun b o q hb=>by rw[(hf b hb).1]at q;cases q
  refine⟨.ref s.heap.objs.size,upd H s.heap.objs.size (.tup [x,y]),?_,rfl,⟨_,x,y,rfl,hTn,rfl,fun zs hz=>by rw[hz.inj q1];exact hx,fun zs hz=>by rw[hz.inj q2];exact hy⟩,⟨z'',?_,⟨u,v,?_⟩,?_,?_⟩,fun b hb=>?_⟩
  ·show Inv X pins σ _ {s with heap:=h'',gens:=s.gens,drawn:=s.drawn,toks:=tk};refine I.step (h':=h'') (g':=s.gens) (d':=s.drawn) (t':=tk) (ch:=[z,TI,TO,i1,i2]) (fun b hb=>?_) (fun b o _ _ hc q _=>keep b o hc q) (fun b o _ _ hc q _=>⟨o.slots,keep b o hc q⟩)
    (fun b o _ q n=>by rw[AF (neT b o q)];exact n) (fun b o hc q=>⟨o,keep b o hc q⟩) (fun b ys q=>by rw[AF (AJ q hTn)];exact q) (fun b o u q=>by rw[AF (AJ q hTn)];exact q)
    (fun b ps q=>⟨#[],by rw[AF (AJ q hTn),q];simp⟩) (fun b _ o hc _ q=>keep b o hc q) (fun m hm=>?_) (fun b o q=>?_) I.bare
   ·obtain⟨_,f1,_,f3,f4,f5⟩:=hf b hb;exact⟨f3,f1,f4,f5⟩
   ·obtain⟨o,es,ep,ho,r⟩:=hm;exact⟨o,es,ep,keep _ o (fun hb=>(hf _ hb).2.1 rfl) ho,r⟩
   ·by_cases hb:b=s.heap.objs.size
    ·subst hb;rw[AI]at q;cases q;exact⟨UM,[u,v],.cons ru (.cons rv .nil),_,hT'',rfl,_,rfl⟩
    ·rw[AF hb]at q;refine(I.Af b o q).Fd (fun c w hc r=>keep c w ?_ r) (fun c r=>by rw[AF (AJ r hTn)];exact r) fun c ys r=>by rw[AF (AJ r hTn)];exact r
     rcases hc with rfl|hc
     ·exact C7 _ _ q
     ·exact C7 _ _ hc
  ·exact(sb.2 _ (Ne.symm n1)).trans (r9 _ _ (Ne.symm n1) n5 n6 n7 t2)
  ·exact(sb.2 _ (Ne.symm n2)).trans r4
  ·exact Cq r5.1 fun o e=>(sb.2 _ (Ne.symm n3)).trans e
  ·exact Cq r6.1 fun o e=>(sb.2 _ (Ne.symm n4)).trans e
  ·rw[AF (aK (lt b hb))];exact(hf b hb).1
 done:=by
  intro X hP hw hK hc i pins s σ H E I hf st hg;subst hP hw hK;obtain⟨xs,ys,q1,q2,he⟩:=hg;obtain⟨us,rv1,p1⟩:=q1.raw I;obtain⟨vs,rv2,p2⟩:=q2.raw I;obtain⟨t1,t2,⟨ta,tb,t3⟩,t4,t5⟩:=st;have e1:∀b∈[z,TI,TO,i1,i2],a1≠b:=fun b hb=>q1.none (hf b hb).1;have e2:∀b∈[z,TI,TO,i1,i2],a2≠b:=fun b hb=>q2.none (hf b hb).1;simp only[List.nodup_cons,List.mem_cons,List.not_mem_nil,or_false,not_or]at ne;obtain⟨⟨n1,n2,n3,n4⟩,⟨n5,n6,n7⟩,⟨n8,n9⟩,n10,_⟩:=ne;have ap:ZT.Apart z TI TO i1 i2 [i1,a1] [i2,a2]:=⟨⟨Ne.symm n1,n5,n6,n7⟩,⟨Ne.symm n2,n8,n9⟩,⟨Ne.symm n3,Ne.symm n4,n10⟩,
   ⟨by simp[n3,Ne.symm (e1 z (by simp))],by simp[n8,Ne.symm (e1 TO (by simp))],by simp[Ne.symm n10,Ne.symm (e1 i2 (by simp))]⟩,⟨by simp[n4,Ne.symm (e2 z (by simp))],by simp[n9,Ne.symm (e2 TO (by simp))],by simp[n10,Ne.symm (e2 i1 (by simp))]⟩⟩
  have he':i=us.length∨(i<us.length∧i=vs.length):=by rw[←rv1.length,←rv2.length];exact he
  refine ZT.next_end (ZT.Ck (prog:=X.prog) (w:=X.w) (A:=X.A.in1) (I.ok.hd hc) b1 i1 a1 us (e1 i1 (by simp))) (ZT.Ck (prog:=X.prog) (w:=X.w) (A:=X.A.in1) (I.ok.hd hc) b2 i2 a2 vs (e2 i2 (by simp))) ap t1 t2 t3 ⟨t4,p1⟩ ⟨t5,p2⟩ he' fun h' tk kp=>⟨rfl,?_⟩;have keep:∀b o,b ∉ [z,TI,TO,i1,i2]→s.heap.get? b=some o→h'.get? b=some o:=fun b o hb q=>by
   simp only[List.mem_cons,List.not_mem_nil,or_false,not_or]at hb;exact kp b o hb.1 hb.2.2.1 hb.2.2.2.1 hb.2.2.2.2 q
  have C7:∀b o,H b=some o→b ∉ [z,TI,TO,i1,i2]:=fun b o q hb=>by rw[(hf b hb).1]at q;cases q
  show Inv X pins σ _ {s with heap:=h',gens:=s.gens,drawn:=s.drawn,toks:=tk};refine I.step (h':=h') (g':=s.gens) (d':=s.drawn) (t':=tk) (ch:=[z,TI,TO,i1,i2]) (fun b hb=>?_) (fun b o _ _ hc q _=>keep b o hc q) (fun b o _ _ hc q _=>⟨o.slots,keep b o hc q⟩)
    (fun b o _ q n=>n) (fun b o hc q=>⟨o,keep b o hc q⟩) (fun b ys q=>q) (fun b o u q=>q)
    (fun b ps q=>⟨#[],by rw[q];simp⟩) (fun b _ o hc _ q=>keep b o hc q) (fun m hm=>?_) (fun b o q=>?_) I.bare
  ·obtain⟨_,f1,_,f3,f4,f5⟩:=hf b hb;exact⟨f3,f1,f4,f5⟩
  ·obtain⟨o,es,ep,ho,r⟩:=hm;exact⟨o,es,ep,keep _ o (fun hb=>(hf _ hb).2.1 rfl) ho,r⟩
  ·refine(I.Af b o q).Fd (fun c w hc r=>keep c w ?_ r) (fun c r=>r) fun c ys r=>r;rcases hc with rfl|hc
   ·exact C7 _ _ q
   ·exact C7 _ _ hc
 self:=fun _ _ _ _ _ st h=>wpAny_pyIter_zip st.1 h
def dc(ta:TA):TI:=fun σ H R=>ta σ H fun vs H1=>∃(b1 b2:Bool) (a1 a2:AD),vs=[.ref a1,.ref a2]∧(∃xs,Bq b1 H1 a1 xs)∧(∃ys,Bq b2 H1 a2 ys)∧R (dH b1 b2 a1 a2) H1
def TL{X:Cx}{elts:List Expr}{x1}{tpos:Pos}{a b:Expr}{ta:TA}{p pos:Pos}(hg:Gl X "zip")(hm:X.mg "zip" = none)(ha:PA X [a,b] ta)(hs:starEach [a,b] X.env=[(false,eval a X.env),(false,eval b X.env)]:=by rfl)(hs2:starEach [b] X.env=[(false,eval b X.env)]:=by rfl) :
  PI X (.Tuple elts x1 tpos) (.Call (.Name "zip" p) [a,b] [] pos) (dc ta):=by
 intro pins s σ H R I h;refine Call_ (Ec I hg hm boot_zip (aq (Az (ha pos pins s σ H _ I h) fun us s1 ⟨vs,H1,I1,r1,q1⟩=>?_) (by rw[hs,hs2]) (by rw[hs2];rfl)));obtain⟨b1,b2,l1,l2,e,⟨xs,h1⟩,⟨ys,h2⟩,q⟩:=q1;subst e;cases r1 with
 |cons r rr =>
  cases rr with
  |cons r' rr =>
   cases rr;cases r;cases r';obtain⟨us,_,p1⟩:=h1.raw I1;obtain⟨vs,_,p2⟩:=h2.raw I1;refine ZT.Uz p1 p2 fun h' z1 z2 z3 z4 z5 hk=>wpAny_pyIter_zip z1 ?_;have I2:Inv X pins σ H1 {s1 with heap:=h'}:=I1.kept (t':=s1.toks) hk;refine⟨_,[s1.heap.objs.size+4,s1.heap.objs.size+2,s1.heap.objs.size+3,s1.heap.objs.size,s1.heap.objs.size+1],_,_,H1,rfl,I2,VN ?_,⟨z1,z2,⟨_,_,z3⟩,z4,z5⟩,fun b hb=>?_,q⟩
   ·simp
   have hb':s1.heap.objs.size≤b:=by
    have hb2:b=s1.heap.objs.size+4∨b=s1.heap.objs.size+2∨b=s1.heap.objs.size+3∨b=s1.heap.objs.size∨b=s1.heap.objs.size+1:=by simpa using hb
    rcases hb2 with h|h|h|h|h<;>rw[h]<;>first|exact aG _|exact Nat.le_add_right _ _
   exact I1.La hb' (I1.Af.fresh hb')
def Qs(K:Fg)(a:AD):It :=
 ⟨fun i H=>∃xs x,Ae K H a xs∧xs[i]? = some x,fun i H v H'=>∃p x,v=.ref p∧H p=none∧H'=upd H p (.tup [.int i,x])∧∀xs,Ae K H a xs→xs[i]? = some x,fun i H=>∃xs,Ae K H a xs∧xs.length=i⟩
def SQ{P:Program}{w:World}{K:Fg}{elts:List Expr}{x1}{pos:Pos}(a e it:AD)(hne:e≠it) :
  Turn P w K (.Tuple elts x1 pos) (Qs K a) [e,it] e (fun i h=>(∃old,IsEnum h e it (i:Nat) old)∧h.IsListIter it a i) where
 mem:=by simp
 obj:=fun i h st b hb=>by
  rcases aL.mp hb with rfl|hb
  ·obtain⟨⟨old,q⟩,_⟩:=st;exact⟨_,q,fun v z=>by cases z⟩
  ·have e2:b=it:=by simpa using hb
   subst e2;obtain⟨_,o,q,c,d⟩:=st;exact⟨o,q,fun v z=>by rw[d]at z;cases z⟩
 keep:=fun i h h' st k=>by
  obtain⟨⟨old,q⟩,o,q2,r⟩:=st;exact⟨⟨old,k e (by simp) _ q⟩,o,k it (by simp) _ q2,r⟩
 item:=by
  intro X hP hw hK hc i pins s σ H E I hf st hg;subst hP hw hK;obtain⟨xs,x,hq,hx⟩:=hg;obtain⟨its,rv,pL,hz⟩:=I.list hq;have p:=pL.isList;obtain⟨u,hu,ru⟩:=rv.get hx;obtain⟨⟨old,he⟩,hit⟩:=st;have hai:a≠it:=fun z=>by
   obtain⟨o,e1,c1,_⟩:=p;obtain⟨o2,e2,c2,_⟩:=hit;rw[z,e2]at e1;cases e1;rw[c1]at c2;exact absurd c2 (by decide)
  have hae:a≠e:=fun z=>by
   obtain⟨o,e1,c1,_⟩:=p;rw[z,he]at e1;cases e1;exact absurd (show Value.type "enumerate" = Value.type "list" from c1) (by decide)
  have hlt:i<its.length:=(aE.mp hu).1;have hE0:=hf e (by simp);have hI0:=hf it (by simp);refine wpAny_pyNext_enum_itemD (Draws.list (prog:=X.prog) (w:=X.w) (A:=X.A.in1) (I.ok.hd hc) it a hai its.toArray) he ⟨hit,p⟩ (by simpa using hlt) hne (by simp[hne,Ne.symm hae]) fun y h' tk hy ho hs' hT hsz hk=>⟨_,rfl,wpAny_letOwnedTupleGo_enum (s:={s with heap:=h',toks:=tk+1}) ho fun h'' he'' sb=>?_⟩;have hyu:y=u:=by
   have hy:its[i]? = some y:=by simpa using hy
   rw[hu]at hy;exact(ab hy).symm
  subst hyu;have keep:∀b o,b≠e→b≠it→s.heap.get? b=some o→h''.get? b=some o:=fun b o h1 h2 q=>(sb.2 b h1).trans (hk b o h1 h2 q);have hTe:s.heap.objs.size≠e:=bK (aD he);have hTi:s.heap.objs.size≠it:=let⟨_,q,_⟩:=hit;bK (aD q);have hT'':h''.get? s.heap.objs.size=some { cls:=.type "tuple",data:=.seq #[.int i tk,y]}:=(sb.2 _ hTe).trans hT;have hTn:H s.heap.objs.size=none:=I.Af.fresh (aG _);have neT:∀b o,s.heap.get? b=some o→b≠s.heap.objs.size:=fun b o q=>aK (aD q);have C7:∀b o,H b=some o→b≠e∧b≠it:=fun b o q=>⟨(fun z=>by rw[z,hE0.1]at q;cases q),(fun z=>by rw[z,hI0.1]at q;cases q)⟩;refine⟨.ref s.heap.objs.size,upd H s.heap.objs.size (.tup [.int i,x]),?_,rfl,⟨_,x,rfl,hTn,rfl,fun ys hy=>by rw[I.Oy hy hq];exact hx⟩,⟨⟨_,by simpa using he''⟩,?_⟩,fun b hb=>?_⟩
  ·show Inv X pins σ _ {s with heap:=h'',gens:=s.gens,drawn:=s.drawn,toks:=tk+1};refine I.step (h':=h'') (g':=s.gens) (d':=s.drawn) (t':=tk+1) (ch:=[e,it]) (fun b hb=>?_) (fun b o _ _ hc q _=>keep b o (fun z=>hc (by simp[z])) (fun z=>hc (by simp[z])) q) (fun b o _ _ hc q _=>⟨o.slots,keep b o (fun z=>hc (by simp[z])) (fun z=>hc (by simp[z])) q⟩)
    (fun b o _ q n=>by rw[AF (neT b o q)];exact n) (fun b o hc q=>⟨o,keep b o (fun z=>hc (by simp[z])) (fun z=>hc (by simp[z])) q⟩) (fun b ys q=>by rw[AF (AJ q hTn)];exact q) (fun b o u q=>by rw[AF (AJ q hTn)];exact q)
    (fun b ps q=>⟨#[],by rw[AF (AJ q hTn),q];simp⟩) (fun b _ o hc _ q=>keep b o (fun z=>hc (by simp[z])) (fun z=>hc (by simp[z])) q) (fun m hm=>?_) (fun b o q=>?_) I.bare
   ·rcases aL.mp hb with rfl|hb
    ·exact⟨hE0.2.2.2.1,hE0.2.1,hE0.2.2.2.2.1,hE0.2.2.2.2.2⟩
    ·have e2:b=it:=by simpa using hb
     subst e2;exact⟨hI0.2.2.2.1,hI0.2.1,hI0.2.2.2.2.1,hI0.2.2.2.2.2⟩
   ·obtain⟨o,es,ep,ho,r⟩:=hm;exact⟨o,es,ep,keep _ o (Ne.symm hE0.2.1) (Ne.symm hI0.2.1) ho,r⟩
   ·by_cases hb:b=s.heap.objs.size
    ·subst hb;rw[AI]at q;cases q;exact⟨UM,[.int i tk,y],.cons ⟨tk,rfl⟩ (.cons ru .nil),_,hT'',rfl,_,rfl⟩
    ·rw[AF hb]at q;refine(I.Af b o q).Fd (fun c v hc r=>keep c v ?_ ?_ r) (fun c r=>by rw[AF (AJ r hTn)];exact r) fun c ys r=>by rw[AF (AJ r hTn)];exact r
     ·rcases hc with rfl|hc
      ·exact(C7 _ _ q).1
      ·exact(C7 _ _ hc).1
     ·rcases hc with rfl|hc
      ·exact(C7 _ _ q).2
      ·exact(C7 _ _ hc).2
  ·obtain⟨⟨o,q,r⟩,_⟩:=hs';exact⟨o,(sb.2 it (Ne.symm hne)).trans q,r⟩
  ·rcases aL.mp hb with rfl|hb
   ·rw[AF (Ne.symm hTe)];exact hE0.1
   ·have e2:b=it:=by simpa using hb
    subst e2;rw[AF (Ne.symm hTi)];exact hI0.1
 done:=by
  intro X hP hw hK hc i pins s σ H E I hf st hg;subst hP hw hK;obtain⟨xs,hq,hx⟩:=hg;obtain⟨its,rv,pL,hz⟩:=I.list hq;have p:=pL.isList;obtain⟨⟨old,he⟩,hit⟩:=st;have hai:a≠it:=fun z=>by
   obtain⟨o,e1,c1,_⟩:=p;obtain⟨o2,e2,c2,_⟩:=hit;rw[z,e2]at e1;cases e1;rw[c1]at c2;exact absurd c2 (by decide)
  have hl:its.length=i:=by rw[←rv.length];exact hx
  subst hl;obtain⟨f0,f1,f2,f3,f4,f5⟩:=hf it (by simp);exact wpAny_pyNext_enum_endD (Draws.list (prog:=X.prog) (w:=X.w) (A:=X.A.in1) (I.ok.hd hc) it a hai its.toArray) he ⟨hit,p⟩ fun h' eb=>⟨rfl,I.turned (t':=s.toks) (fun b o hb q=>eb b o hb q) f0 f1 f3 f4 f5⟩
 self:=fun _ _ _ _ _ st h=>by
  obtain⟨⟨old,he⟩,_⟩:=st;exact wpAny_pyIter_enum he h
def Y7(K:Fg)(ta:TA):TI:=fun σ H R=>ta σ H fun vs H1=>∃a,vs=[.ref a]∧(∃xs,Ae K H1 a xs)∧R (Qs K a) H1
def OS{X:Cx}{elts:List Expr}{x1}{tpos:Pos}{a:Expr}{ta:TA}{p pos:Pos}(hg:Gl X "enumerate")(hm:X.mg "enumerate" = none)(ha:PA X [a] ta)(hs:starEach [a] X.env=[(false,eval a X.env)]:=by rfl) :
  PI X (.Tuple elts x1 tpos) (.Call (.Name "enumerate" p) [a] [] pos) (Y7 X.K ta):=by
 intro pins s σ H R I h;refine Call_ (Ec I hg hm boot_enumerate (aq (Az (ha pos pins s σ H _ I h) fun us s1 ⟨vs,H1,I1,r1,q1⟩=>?_) hs rfl));obtain⟨t,e,⟨xs,hq⟩,q⟩:=q1;subst e;cases r1 with
 |cons r rr =>
  cases rr;cases r;obtain⟨its,rv,p',hz⟩:=I1.list hq;refine call_enumerate_list (show s1.heap.IsList t its.toArray from p'.isList) fun h' he hit hsz hk=>wpAny_pyIter_enum he ?_;have I2:Inv X pins σ H1 {s1 with heap:=h'}:=I1.kept (t':=s1.toks) hk;have hn:s1.heap.objs.size+1≠s1.heap.objs.size:=by lia
  refine⟨s1.heap.objs.size+1,[s1.heap.objs.size+1,s1.heap.objs.size],_,_,H1,rfl,I2,SQ t _ _ hn,⟨⟨_,he⟩,hit⟩,fun b hb=>?_,q⟩;have hb':s1.heap.objs.size≤b:=by
   have hb2:b=s1.heap.objs.size+1∨b=s1.heap.objs.size:=by simpa using hb
   rcases hb2 with z|z
   ·rw[z];exact Nat.le_succ _
   ·rw[z];exact aG _
  exact I1.La hb' (I1.Af.fresh hb')
def Sx{K:Fg}{a:AD}{xs:List V}{g:TG}{tb:TS}{D:Ends}{σ:St}{H:Hp}(Pv:Nat→St→Hp→Prop)(h0:Pv 0 σ H)(hl:∀i σ H,i≤xs.length→Pv i σ H→Ae K H a xs)
 (hs:∀i x σ H,xs[i]? = some x→Pv i σ H→∀p,H p=none→g (.ref p) σ (upd H p (.tup [.int (i:Nat),x])) fun σ2 H2=>tb {D with nx:=Pv (i+1),ct:=Pv (i+1),bk:=D.nx} σ2 H2)(hd:∀σ H,Pv xs.length σ H→D.nx σ H) :
  ∃W:Nat→Nat→St→Hp→Prop,(∃m,W 0 m σ H)∧∀i m σ H,W i m σ H →
   ((Qs K a).stop i H∧D.nx σ H)∨((Qs K a).go i H∧∃N:St→Hp→Prop,(∀σ' H',N σ' H'→∃m',m'<m∧W (i+1) m' σ' H')∧∀x H',(Qs K a).Dl i H x H'→g x σ H' fun σ2 H2=>tb {D with nx:=N,ct:=N,bk:=D.nx} σ2 H2):=by
 refine⟨fun i m σ H=>m=xs.length-i∧i≤xs.length∧Pv i σ H,⟨xs.length,by simp,Nat.zero_le _,h0⟩,?_⟩;rintro i m σ H ⟨rfl,hi,p⟩;have q:=hl i σ H hi p;by_cases hlt:i<xs.length
 ·refine .inr ⟨⟨xs,xs[i],q,by simp[hlt]⟩,Pv (i+1),fun σ' H' p'=>⟨xs.length-(i+1),by lia,rfl,hlt,p'⟩,fun x H' y=>?_⟩;obtain⟨pp,x',rfl,hn,rfl,y⟩:=y;exact hs i x' σ _ (y xs q) p pp hn
 ·have e:i=xs.length:=by lia
  subst e;exact .inl ⟨⟨xs,q,rfl⟩,hd σ H p⟩
section
variable{κ:Type}[DecidableEq κ]
def FH(kvs:List (κ×V))(k:κ):Option V:=(kvs.find? fun kv=>decide (kv.1=k)).map (·.2)
def P7{p:κ×V}{r:List (κ×V)}{k:κ}(e:p.1=k):FH (p::r) k=some p.2:=by simp[FH,List.find?_cons,e]
def PX{p:κ×V}{r:List (κ×V)}{k:κ}(e:¬p.1=k):FH (p::r) k=FH r k:=by simp[FH,List.find?_cons,e]
def HF.NR{o:Option V}{u:Option VL}(r:HF o u):o.isSome=u.isSome:=by
 cases o with
 |none=>cases u with
  |none=>rfl
  |some _=>exact(show False from r).elim
 |some _=>cases u with
  |none=>exact(show False from r).elim
  |some _=>rfl
def KV.val{kvs:List (κ×V)}{vs:List (κ×VL)}(r:KV kvs vs)(k:κ):HF (FH kvs k) (valueAt vs k):=by
 unfold KV at r
 induction r with
 |nil=>exact True.intro
 | @cons p q ps qs h t ih =>
  obtain⟨h1,h2⟩:=h;by_cases e:p.1=k
  ·have e':q.1=k:=h1.symm.trans e;have b:valueAt (q::qs) k=some q.2:=by simp[valueAt,List.find?_cons,e']
   rw[P7 e,b];exact h2
  ·have e':¬q.1=k:=fun z=>e (h1.trans z);have b:valueAt (q::qs) k=valueAt qs k:=by simp[valueAt,List.find?_cons,e']
   rw[PX e,b];exact ih
end
def Sf{P:Program}{w:World}{k:Key}{u:VL}(r:RelV (kV k) u):(DZ P w).is k u=true:=by
 cases k with
 |inl i=>obtain⟨t,e⟩:=(show ∃t,u=Value.int i t from r);subst e;exact QS P w i t
 |inr x=>obtain⟨t,e⟩:=(show ∃t,u=Value.str x t from r);subst e;exact QR P w x t
def NM{P:Program}{w:World}:∀ {ks:List Key} {us:List VL},Vals (ks.map kV) us→ItemsAre (DZ P w) ks us
 |[],_,r=>by rw[List.map_nil]at r;cases r;exact .nil
 |k::ks,_,r=>by
  rw[List.map_cons]at r;cases r with
  |cons h t=>exact .cons (Sf h) (NM t)
abbrev KT(H:Hp):List (List Key×V)→List (List Key×AD×VL)→Prop:=Paired fun p q=>p.1=q.1∧H q.2.1=some (.tup (p.1.map kV))∧RelV p.2 q.2.2
def KT.val{H:Hp}{kvs:List (List Key×V)}{xs:List (List Key×AD×VL)}(r:KT H kvs xs)(k:List Key):HF (FH kvs k) ((atKey xs k).map (·.2)):=by
 induction r with
 |nil=>exact True.intro
 | @cons p q ps qs h t ih =>
  obtain⟨h1,_,h2⟩:=h;by_cases e:p.1=k
  ·have e':q.1=k:=h1.symm.trans e;have b:atKey (q::qs) k=some q.2:=by simp[atKey,List.find?_cons,e']
   rw[P7 e,b];exact h2
  ·have e':¬q.1=k:=fun z=>e (h1.trans z);have b:atKey (q::qs) k=atKey qs k:=by simp[atKey,List.find?_cons,e']
   rw[PX e,b];exact ih
section
variable{P:Program}{w:World}{H:Hp}{h:Heap}{a:AD}
def WZ{u:HO}(ok:CY P w H h)(e:Rd H a u):Bb P w H h a u:=e.ok ok
def R6{kvs:List (Key×V)}(ok:CY P w H h)(e:Rd H a (.dK kvs)):kvs.length≤sizeLine∧(a==sysModules)=false∧∃vs,KV kvs vs∧h.DictOf (DZ P w) a vs :=
 show Bb P w H h a (.dK kvs) from WZ ok e
def Pd{ks:List Key}(ok:CY P w H h)(e:H a=some (.tup (ks.map kV))):(tupleKind (DZ P w)).is h ks a:=by
 obtain⟨_,its,r,o,h1,h2,n,h3⟩:=(show Bb P w H h a (.tup (ks.map kV)) from ok a _ e);exact⟨o,its.toArray,n,h1,h2,h3,by simpa using NM r⟩
def Sk{kvs:List (List Key×V)}(ok:CY P w H h)(e:Rd H a (.dT kvs)):kvs.length≤sizeLine∧(a==sysModules)=false ∧
  ∃xs,KT H kvs xs∧h.DictOfH (tupleKind (DZ P w)) a xs:=by
 obtain⟨z,y,xs,r,o,es,ep,h1,h2,h3,h4,h5⟩:=(show Bb P w H h a (.dT kvs) from WZ ok e);refine⟨z,y,xs,r,o,es,ep,h1,h2,h3,h4,fun x hx=>?_,h5⟩;have all:∀ {l:List (List Key×V)} {m:List (List Key×AD×VL)},KT H l m→∀x∈m,(tupleKind (DZ P w)).is h x.1 x.2.1:=by
  intro l m q
  induction q with
  |nil=>intro x hx;exact nomatch hx
  | @cons p q ps qs hq t ih =>
   intro x hx;rcases aL.mp hx with e|hx
   ·subst e;exact Pd ok (by rw[←hq.1];exact hq.2.1)
   ·exact ih x hx
 exact all r x hx
end
def Oe(H:Hp)(a:AD)(y:V)(r:Option V):Prop :=
 (∃kvs k,Rd H a (.dK kvs)∧y=kV k∧r=FH kvs k)∨∃kvs k b,Rd H a (.dT kvs)∧y=.ref b∧H b=some (.tup (k.map kV))∧r=FH kvs k
section
variable{X:Cx}{pins:List (AD×Obj)}{σ:St}{H:Hp}{s:SD}{a:AD}{y v:V}{u:VL}{o:Option V}{A:Around}{E:VL→SD→Prop}
def Tg{Q:VL→SD→Prop}(hu:A.units+1<cLine)(I:Inv X pins σ H s)(g:Oe H a y (some v))(ry:RelV y u)(h:∀w' s',Inv X pins σ H s'→RelV v w'→Q w' s') :
  wpAny (model X.prog X.w) A (getItem (.ref a) u) Q E s:=by
 rcases g with ⟨kvs,k,e,ey,l⟩|⟨kvs,k,b,e,ey,eb,l⟩
 ·subst ey;obtain⟨z,hd,vs,rel,dd⟩:=R6 I.Af e;obtain⟨w',hw,rw'⟩:=HF.some_of (v:=v) (o:=valueAt vs k) (by rw[l];exact rel.val k);exact wpAny_getItem_of (Sf ry) dd.mapOf hw (h w' _ (I.tok _) rw')
 ·subst ey;cases (show u=Value.ref b from ry);obtain⟨z,hd,xs,rel,dd⟩:=Sk I.Af e;obtain⟨w',hw,rw'⟩:=HF.some_of (v:=v) (o:=(atKey xs k).map (·.2)) (by rw[l];exact rel.val k);obtain⟨p,hp,hp2⟩:=aF.mp hw;refine wpAny_getItem_heap (tupleKind_room_in1 hu) (Pd I.Af eb) dd hp ?_;rw[hp2];exact h w' _ (I.tok _) rw'
def XS{Q:VL→SD→Prop}(hu:A.units+1<cLine)(I:Inv X pins σ H s)(g:Oe H a y o)(ry:RelV y u)(h:∀s',Inv X pins σ H s'→Q (.bool (!o.isSome)) s') :
  wpAny (model X.prog X.w) A (compareOp .NotIn u (.ref a)) Q E s:=by
 rcases g with ⟨kvs,k,e,ey,l⟩|⟨kvs,k,b,e,ey,eb,l⟩
 ·subst ey;obtain⟨z,hd,vs,rel,dd⟩:=R6 I.Af e;refine wpAny_notIn_of (Sf ry) hd dd.mapOf ?_;rw[←(rel.val k).NR,←l];exact h _ (I.tok _)
 ·subst ey;cases (show u=Value.ref b from ry);obtain⟨z,hd,xs,rel,dd⟩:=Sk I.Af e;refine wpAny_notIn_heap (tupleKind_room_in1 hu) (Pd I.Af eb) hd dd ?_;have q:=(rel.val k).NR;rw[Option.isSome_map]at q;rw[←q,←l];exact h _ (I.tok _)
end
def SV(i:Expr):Prop:=∀ov iv,subscripted i false ov iv=operate [ov,iv] (getItem ov iv)
def Qq{prog:Program}{w:World}{A:Around}{E:VL→SD→Prop}{s:SD}{env:Env}{value slice:Expr}{pos:Pos}{T id:String}{Q:VL→SD→Prop}
 (hl:typeLookup (.type T) "__getitem__" = pure (some (.builtin id)))(hs:SV slice)
 (h:wpAny (model prog w) A (eval value env) (fun o s₁=>wpAny (model prog w) A (eval slice env) (fun i s₂=>s₂.TypeIs o T∧wpAny (model prog w) A (getItem o i) Q E s₂) E s₁) E s) :
  wpAny (model prog w) A (eval (.Subscript value slice pos) env) Q E s:=by
 refine Subscript_ (af h (fun o s₁ h₁=>af h₁ (fun i s₂ h₂=>?_) fun _ _ x=>x) fun _ _ x=>x);obtain⟨hT,h₂⟩:=h₂;unfold subscriptTail;refine Wb ?_;rw[getitemInPython_of_ne hT.not_modules];refine Wb (wpAny_specialOf hT hl ?_);have fin:wpAny (model prog w) A (subscripted slice false o i) (fun r s₃=>wpAny (model prog w) A (letTemporaryGo value o r>>=fun _=>pure r) Q E s₃) E s₂:=by
  rw[hs o i];exact wpAny_operating (af h₂ (fun r s₃ h₃=>Wb (wpAny_letTemporaryGo (aA h₃))) fun _ _ x=>x)
 first
  |exact aA (Wb fin)
  |exact Wb (aA (Wb fin))
  |exact Wb fin
def QW{X:Cx}{pins:List (AD×Obj)}{σ:St}{H:Hp}{s:SD}{a:AD}{y:V}{o:Option V}(I:Inv X pins σ H s)(g:Oe H a y o):s.TypeIs (.ref a) "dict" := by
 rcases g with ⟨kvs,k,e,_,_⟩|⟨kvs,k,b,e,_,_,_⟩
 ·obtain⟨_,_,vs,_,dd⟩:=R6 I.Af e;exact dd.typeIs
 ·obtain⟨_,_,xs,_,dd⟩:=Sk I.Af e;exact dd.typeIs
def cQ(td ty:TE):TE:=fun σ H Q=>td σ H fun x H1=>ty σ H1 fun y H2=>∃a v,x=.ref a∧Oe H2 a y (some v)∧Q v H2
def X1(ty td:TE):TE:=fun σ H Q=>ty σ H fun y H1=>td σ H1 fun x H2=>∃a o,x=.ref a∧Oe H2 a y o∧Q (.bl (!o.isSome)) H2
section
variable{X:Cx}{o i:Expr}{pos:Pos}{td ty:TE}
def Xw(hu:X.A.units+1<cLine)(ho:PE X o td)(hi:PE X i ty)(hs:SV i):PE X (.Subscript o i pos) (cQ td ty):=by
 intro pins s σ H Q I h;refine Qq PySem.F.slot_dict_getitem.lookup hs (Az (ho pins s σ H _ I h) fun u s1 ⟨x,H1,I1,rx,q1⟩=>Az (hi pins s1 σ H1 _ I1 q1) fun iv s2 ⟨y,H2,I2,ry,a,v,ex,g,q2⟩=>?_);subst ex;obtain rfl:u=Value.ref a:=rx;exact⟨QW I2 g,Tg hu I2 g ry fun w' s3 I3 rw'=>⟨v,H2,I3,rw',q2⟩⟩
def S0(hu:X.A.units+1<cLine)(hi:PE X i ty)(ho:PE X o td):PC X .NotIn i o (X1 ty td):=by
 intro pins s σ H Q I h;refine Az (hi pins s σ H _ I h) fun iv s1 ⟨y,H1,I1,ry,q1⟩=>Az (ho pins s1 σ H1 _ I1 q1) fun u s2 ⟨x,H2,I2,rx,a,ov,ex,g,q2⟩=>?_;subst ex;obtain rfl:u=Value.ref a:=rx;exact XS hu I2 g ry fun s3 I3=>⟨.bl (!ov.isSome),H2,I3,rfl,q2⟩
end
end L2
namespace TH
open PySem PyProof.Rows PySem.SeqAt
def Gk:Tr→List Int
 |.nil=>[]
 |.cons b r=>reduceHash (Builtin.Tuple.tupleHashOf (Gk b))::Gk r
def A0(t:Tr):Int:=reduceHash (Builtin.Tuple.tupleHashOf (Gk t))
section
variable{prog:Program}{w:World}{E:VL→SD→Prop}
def IsTuple.ty{h:Heap}{a:AD}{x:Array VL}{s:SD}(e:s.heap=h)(k:h.IsTuple a x):s.TypeIs (.ref a) "tuple" := by
 subst e;obtain⟨o,ho,hc,_⟩:=k;exact⟨o,ho,hc⟩
def RI(prog:Program)(w:World)(E:VL→SD→Prop)(t:Tr):Prop:=∀(us:List VL) (A:Around) (s:SD) (b:Array Int) (Q:Array Int→SD→Prop),Vs s.heap t us→A.units+t.deep≤cLine →
 (∀tk b',b'.toList=b.toList++Gk t→Q b' {s with toks:=tk})→wpAny (model prog w) A (forIn us b fun x r=>do let h ←pyHash x;pure PUnit.unit;pure (ForInStep.yield (r.push h))) Q E s
def K8{t:Tr}(row:RI prog w E t){a:AD}{its:List VL}{A:Around}{s:SD}{Q:Int→SD→Prop}(h1:s.heap.IsTuple a its.toArray)(h2:Vs s.heap t its)(hu:A.units+t.deep<cLine)
 (h:∀tk,Q (A0 t) {s with toks:=tk}):wpAny (model prog w) A (pyHash (.ref a)) Q E s:=by
 have hT:=IsTuple.ty rfl h1;obtain⟨o,ho,hc,n,hd⟩:=id h1;refine PySem.W.pyHash_slot (T := "tuple") hT F.slot_tuple_hash F.entry_tuple_hash (F.args_tuple_hash_1 _) (beq_builtin_none _) (.inr (by lia)) ?_;show wpAny _ _ (Builtin.Tuple.tupleItemsOf (.ref a)>>=_) _ _ s;refine Wb (wpAny_tupleItemsOf ho hd ?_);refine Wb ?_;rw[←Array.forIn_toList];refine row its A.in1 s #[] _ h2 (by rw[Around.in1_units];lia) fun tk b hb=>?_;show wpAny _ _ (retInt (Builtin.Tuple.tupleHashOf b.toList)) _ _ _;rw[hb];exact Wb (wpAny_mkInt (aA ⟨_,_,rfl,h _⟩))
def LX:∀t:Tr,RI prog w E t
 |.nil=>fun us A s b Q e _ h=>by rw[Vs]at e;subst e;exact aA (h s.toks b (by simp[Gk]))
 |.cons c r=>fun us A s b Q e hu h=>by
  rw[Vs]at e;obtain⟨a,its,rest,rfl,h1,h2,h3⟩:=e;have hd:(Tr.cons c r).deep=max (c.deep+1) r.deep:=rfl;rw[List.forIn_cons];refine Wb (Wb (K8 (LX c) h1 h2 (by lia) fun tk=>?_));refine Wb (aA (aA ?_));exact LX r rest A _ _ Q h3 (by lia) fun tk' b' hb=>h tk' b' (by simp[hb,Gk,A0])
def XZ{t:Tr}{a:AD}{its:List VL}{A:Around}{s:SD}{Q:Int→SD→Prop}(h1:s.heap.IsTuple a its.toArray)(h2:Vs s.heap t its)(hu:A.units+t.deep<cLine)
 (h:∀tk,Q (A0 t) {s with toks:=tk}):wpAny (model prog w) A (pyHash (.ref a)) Q E s:=K8 (LX t) h1 h2 hu h
def Good(h:Heap)(n:Nat)(v:VL):Prop:=∃a its t,v=.ref a∧h.IsTuple a its.toArray∧Vs h t its∧t.deep<n
def JW{h:Heap}:∀ {t:Tr} {us:List VL} {n:Nat},Vs h t us→t.deep≤n→∀v∈us,Good h n v
 |.nil,us,n,e,_,v,hv=>by rw[Vs]at e;subst e;cases hv
 |.cons c r,us,n,e,hd,v,hv=>by
  rw[Vs]at e;obtain⟨a,its,rest,rfl,h1,h2,h3⟩:=e;rw[Tr.deep]at hd;rcases aL.mp hv with rfl|hv
  ·exact⟨a,its,c,rfl,h1,h2,by lia⟩
  ·exact JW h3 (by lia) v hv
def OT:∀(n:Nat) {v:VL} {A:Around} {s:SD} {Q:Bool→SD→Prop},Good s.heap n v→Q true s→wpAny (model prog w) A (hashByValue n v) Q E s
 |0,v,A,s,Q,⟨_,_,_,_,_,_,z⟩,_=>absurd z (ah _)
 |n+1,v,A,s,Q,⟨a,its,t,e,h1,h2,hd⟩,h=>by
  subst e;have hT:=IsTuple.ty rfl h1;obtain⟨o,ho,hc,k,hdt⟩:=id h1;unfold hashByValue;refine Wb (wpAny_specialOf hT F.slot_tuple_hash.lookup ?_);refine Wb (aQ ho hdt ?_);refine Wb ?_;show wpAny _ _ (forIn its.toArray _ _) _ _ s;rw[←Array.forIn_toList];refine wpAny_forIn_list _ (fun rest r s'=>r.1=none∧s'=s∧∀v∈rest,Good s.heap n v) _ ?_ ?_ _ _ ⟨rfl,rfl,JW h2 (by lia)⟩
  ·rintro v rest r s' ⟨hr,rfl,hall⟩;refine Wb (OT n (hall v aT) ?_);simp only[Bool.not_true,Bool.false_eq_true,if_false];exact aA ⟨rfl,rfl,fun u hu'=>hall u (aO _ hu')⟩
  ·rintro⟨r1,r2⟩ s' ⟨hr,rfl,_⟩;simp only at hr;subst hr;exact aA h
def quiet:∀(n:Nat) {v:VL} {A:Around} {s:SD} {Q:Bool→SD→Prop},Good s.heap n v→Q true s→wpAny (model prog w) A (eqIsQuiet n v) Q E s
 |0,v,A,s,Q,⟨_,_,_,_,_,_,z⟩,_=>absurd z (ah _)
 |n+1,v,A,s,Q,⟨a,its,t,e,h1,h2,hd⟩,h=>by
  subst e;have hT:=IsTuple.ty rfl h1;obtain⟨o,ho,hc,k,hdt⟩:=id h1;unfold eqIsQuiet;refine Wb (wpAny_specialOf hT F.slot_tuple_eq.lookup ?_);show wpAny _ _ (isInstance (.ref a) (.type "tuple")>>=_) _ _ s;refine Wb (wpAny_isInstance hT isSubtype_tuple_tuple ?_);simp only[Bool.not_true,Bool.false_eq_true,if_false];refine Wb (aQ ho hdt ?_);refine Wb ?_;show wpAny _ _ (forIn its.toArray _ _) _ _ s;rw[←Array.forIn_toList];refine wpAny_forIn_list _ (fun rest r s'=>r.1=none∧s'=s∧∀v∈rest,Good s.heap n v) _ ?_ ?_ _ _ ⟨rfl,rfl,JW h2 (by lia)⟩
  ·rintro v rest r s' ⟨hr,rfl,hall⟩;refine Wb (quiet n (hall v aT) ?_);simp only[Bool.not_true,Bool.false_eq_true,if_false];exact aA ⟨rfl,rfl,fun u hu'=>hall u (aO _ hu')⟩
  ·rintro⟨r1,r2⟩ s' ⟨hr,rfl,_⟩;simp only at hr;subst hr;exact aA h
def Lf:∀(n:Nat) {v:VL} {A:Around} {s:SD} {Q:Bool→SD→Prop},Good s.heap n v→Q false s→wpAny (model prog w) A (ofAClassStatement n v) Q E s
 |0,v,A,s,Q,⟨_,_,_,_,_,_,z⟩,_=>absurd z (ah _)
 |n+1,v,A,s,Q,⟨a,its,t,e,h1,h2,hd⟩,h=>by
  subst e;have hT:=IsTuple.ty rfl h1;obtain⟨o,ho,hc,k,hdt⟩:=id h1;unfold ofAClassStatement;refine Wb (wpAny_typeOf hT ?_);have ht:("tuple" == "tuple")=true:=by rfl
  dsimp only;rw[if_pos ht];refine Wb (aA ?_);simp only[Bool.not_true,Bool.false_eq_true,if_false];refine Wb (aQ ho hdt ?_);refine Wb ?_;rw[←Array.forIn_toList];refine wpAny_forIn_list _ (fun rest r s'=>r.1=none∧s'=s∧∀v∈rest,Good s.heap n v) _ ?_ ?_ _ _ ⟨rfl,rfl,JW h2 (by lia)⟩
  ·rintro v rest r s' ⟨hr,rfl,hall⟩;refine Wb (Lf n (hall v aT) ?_);simp only[Bool.false_eq_true,if_false];exact aA ⟨rfl,rfl,fun u hu'=>hall u (aO _ hu')⟩
  ·rintro⟨r1,r2⟩ s' ⟨hr,rfl,_⟩;simp only at hr;subst hr;exact aA h
def Vd{x:VL}{l:List VL}{A:Around}{s:SD}{Q:Bool→SD→Prop}(hx:Good s.heap 8 x)(hl:∀y∈l,Good s.heap 8 y)(h:Q false s):wpAny (model prog w) A (searchCouldBeSeen x l) Q E s:=by
  unfold searchCouldBeSeen
  refine Wb ?_
  refine wpAny_forIn_list _ (fun rest r s'=>r.1=none∧s'=s∧∀v∈rest,Good s.heap 8 v) _ ?_ ?_ _ _ ⟨rfl,rfl,hl⟩
  · rintro v rest r s' ⟨hr,rfl,hall⟩
    have go:∀b:Bool,wpAny (model prog w) A (if b=true then pure (ForInStep.yield (none,())) else do
        let q ←eqIsQuiet 8 x
        if(!q)=true then pure (ForInStep.done (some true,())) else do
          let q ←eqIsQuiet 8 v
          if(!q)=true then pure (ForInStep.done (some true,())) else do
            let q ←ofAClassStatement 8 x
            if q=true then pure (ForInStep.done (some true,())) else do
              let q ←ofAClassStatement 8 v
              if q=true then pure (ForInStep.done (some true,())) else pure (ForInStep.yield (none,())))
        (fun st s''=>match st with
          |ForInStep.yield r=>r.1=none∧s''=s'∧∀v∈rest,Good s'.heap 8 v
          |ForInStep.done r=>False) E s':=fun b=>by
      cases b with
      |true=>rw[if_pos rfl];exact aA ⟨rfl,rfl,fun u hu'=>hall u (aO _ hu')⟩
      |false =>
        rw[if_neg aJ]
        refine Wb (quiet 8 hx ?_)
        simp only[Bool.not_true,Bool.false_eq_true,if_false]
        refine Wb (quiet 8 (hall v aT) ?_)
        simp only[Bool.not_true,Bool.false_eq_true,if_false]
        refine Wb (Lf 8 hx ?_)
        simp only[Bool.false_eq_true,if_false]
        refine Wb (Lf 8 (hall v aT) ?_)
        simp only[Bool.false_eq_true,if_false]
        exact aA ⟨rfl,rfl,fun u hu'=>hall u (aO _ hu')⟩
    refine af (go _) (fun st s'' z=>?_) fun _ _ z=>z
    cases st with
    |yield r=>exact z
    |done r=>exact z.elim
  · rintro⟨r1,r2⟩ s' ⟨hr,rfl,_⟩
    simp only at hr
    subst hr
    exact aA h
end
end TH
namespace TH
open PySem PyProof.Rows PySem.SeqAt
abbrev ES:=Array (Int×Tr)
def LB(et:ES)(i:Nat):Int:=(et[i]?.map (·.1)).getD 0
def Sg(et:ES)(t:SetTable)(x:Tr)(h:Int):Option (Option Nat) :=
 if t.gaveWay then none else
 match t.probe (LB et) h (t.probeStart h) with
 |some (.empty j none)=>some (some j)
 |some (.candidate _ i _)=>match et[i]? with
  |some (_,y)=>if y=x then some none else none
  |none=>none
 |_=>none
def Sb(st:ES×SetTable)(x:Tr):Option (ES×SetTable) :=
 if(st.2.fits st.1.size&&decide (st.1.size≤1000)&&st.2.plain)=false then none else
 match Sg st.1 st.2 x (A0 x) with
 |none=>none
 |some none=>some st
 |some (some slot) =>
  if(st.2.put slot).1.tooFull=false then some (SetTable.insertAt st.1 (st.2.put slot).2 (A0 x,x),(st.2.put slot).1) else
  if((st.2.put slot).1.fits (SetTable.insertAt st.1 (st.2.put slot).2 (A0 x,x)).size&&decide (SetTable.sizeAbove (SetTable.grown (st.1.size+1))≤100000))=false then none else
  match (st.2.put slot).1.relaid ((SetTable.insertAt st.1 (st.2.put slot).2 (A0 x,x)).map (·.1)) (SetTable.grown (st.1.size+1)) with
  |none=>none
  |some (t',order) =>
   if(order.filterMap ((SetTable.insertAt st.1 (st.2.put slot).2 (A0 x,x))[·]?)).size=(SetTable.insertAt st.1 (st.2.put slot).2 (A0 x,x)).size then
    some (order.filterMap ((SetTable.insertAt st.1 (st.2.put slot).2 (A0 x,x))[·]?),t') else none
def Ll(G:VL→Tr→Prop)(h:Heap)(p:Int×VL)(q:Int×Tr):Prop:=p.1=q.1∧q.2.deep<8∧G p.2 q.2∧∃a its,p.2=.ref a∧h.IsTuple a its.toArray∧Vs h q.2 its
abbrev CL(G:VL→Tr→Prop)(h:Heap)(ev:Array (Int×VL))(et:ES):Prop:=Paired (Ll G h) ev.toList et.toList
variable{G:VL→Tr→Prop}
section
variable{α β:Type}{F:α→β→Prop}
def Paired.get:∀ {l:List α} {m:List β},Paired F l m→∀ {i:Nat} {y:β},m[i]? = some y→∃x,l[i]? = some x∧F x y
 |_,_,.nil,i,y,h=>by simp at h
 |_,_,.cons h1 r,0,y,h=>by simp at h;subst h;exact⟨_,rfl,h1⟩
 |_,_,.cons h1 r,i+1,y,h=>Paired.get r (by simpa using h)
def Paired.none:∀ {l:List α} {m:List β},Paired F l m→∀ {i:Nat},m[i]? = Option.none→l[i]? = Option.none:=fun {l m} r i h=>by
 have:=r.length;rw[List.getElem?_eq_none_iff]at h ⊢
 lia
def Paired.app{l2:List α}{m2:List β}(k:Paired F l2 m2):∀ {l:List α} {m:List β},Paired F l m→Paired F (l++l2) (m++m2)
 |_,_,.nil=>k
 |_,_,.cons h r=>.cons h (Paired.app k r)
def Paired.take:∀ {l:List α} {m:List β} (n:Nat),Paired F l m→Paired F (l.take n) (m.take n)
 |_,_,0,_=>by simpa using Paired.nil
 |_,_,n+1,.nil=>by simpa using Paired.nil
 |_,_,n+1,.cons h r=>.cons h (Paired.take n r)
def Paired.drop:∀ {l:List α} {m:List β} (n:Nat),Paired F l m→Paired F (l.drop n) (m.drop n)
 |_,_,0,h=>h
 |_,_,n+1,.nil=>by simpa using Paired.nil
 |_,_,n+1,.cons h r=>Paired.drop n r
def Paired.pick{l:List α}{m:List β}(r:Paired F l m):∀(o:List Nat),Paired F (o.filterMap (l[·]?)) (o.filterMap (m[·]?))
 |[]=>.nil
 |i::o=>by
  rw[List.filterMap_cons,List.filterMap_cons];cases e:m[i]? with
  |none=>rw[Paired.none r e];exact Paired.pick r o
  |some y =>
   obtain⟨x,e2,h⟩:=Paired.get r e;rw[e2];exact .cons h (Paired.pick r o)
def Paired.imp{G:α→β→Prop}(h:∀a b,F a b→G a b):∀ {l:List α} {m:List β},Paired F l m→Paired G l m
 |_,_,.nil=>.nil
 |_,_,.cons k r=>.cons (h _ _ k) (Paired.imp h r)
end
def GP{α:Type}(xs:Array α)(p:Nat)(x:α):(SetTable.insertAt xs p x).toList=xs.toList.take p++x::xs.toList.drop p:=by
 unfold SetTable.insertAt;simp[List.extract];rw[List.take_of_length_le (by simp)]
def CL.fst{h:Heap}{ev:Array (Int×VL)}{et:ES}(r:CL G h ev et):ev.map (·.1)=et.map (·.1):=by
 have key:∀ {l:List (Int×VL)} {m:List (Int×Tr)},Paired (Ll G h) l m→l.map (·.1)=m.map (·.1):=fun r=>by
  induction r with
  |nil=>rfl
  |cons k _ ih=>rw[List.map_cons,List.map_cons,ih,k.1]
 apply Array.toList_inj.mp
 simpa using key r
def CL.size{h:Heap}{ev:Array (Int×VL)}{et:ES}(r:CL G h ev et):ev.size=et.size:=by simpa using Paired.length r
def CL.LB{h:Heap}{ev:Array (Int×VL)}{et:ES}(r:CL G h ev et)(i:Nat):(ev[i]?.map (·.1)).getD 0=LB et i:=by
 have:=bF (fun a:Array Int=>a[i]?) r.fst;simp only[Array.getElem?_map]at this;rw[TH.LB,this]
def CL.good{h:Heap}{ev:Array (Int×VL)}{et:ES}(r:CL G h ev et):∀p∈ev.toList,Good h 8 p.2:=by
 have key:∀ {l:List (Int×VL)} {m:List (Int×Tr)},Paired (Ll G h) l m→∀p∈l,Good h 8 p.2:=fun r=>by
  induction r with
  |nil=>intro p hp;cases hp
  |cons k _ ih =>
   intro p hp;rcases aL.mp hp with rfl|hp
   ·obtain⟨_,hd,_,a,its,e,h1,h2⟩:=k;exact⟨a,its,_,e,h1,h2,hd⟩
   ·exact ih p hp
 exact key r
def CL.at{h:Heap}{ev:Array (Int×VL)}{et:ES}(r:CL G h ev et){i:Nat}{z:Int}{y:Tr}(e:et[i]? = some (z,y)):∃a its,ev[i]? = some (z,.ref a)∧h.IsTuple a its.toArray∧Vs h y its∧y.deep<8:=by
 obtain⟨⟨z',v⟩,h1,h2,hd,_,a,its,e2,h3,h4⟩:=Paired.get r (by simpa using e);have h2:z'=z:=h2;have e2:v=.ref a:=e2;subst h2 e2;exact⟨a,its,by simpa using h1,h3,h4,hd⟩
def CL.keeps{h h':Heap}{ev:Array (Int×VL)}{et:ES}(k:∀b o,h.get? b=some o→o.cls=.type "tuple" → h'.get? b=some o)(r:CL G h ev et):CL G h' ev et :=
 Paired.imp (fun p q ⟨e,hd,hg,a,its,e2,h1,h2⟩=>⟨e,hd,hg,a,its,e2,(by obtain⟨o,ho,hc,n,hdt⟩:=h1;exact⟨o,k _ _ ho hc,hc,n,hdt⟩),h2.keeps k⟩) r
section
variable{prog:Program}{w:World}{E:VL→SD→Prop}{A:Around}{s:SD}{a xa:AD}{o:Obj}{ev:Array (Int×VL)}{et:ES}{ep:Nat}{t:SetTable}{x:Tr}{its:List VL}{h:Int}
def Tf{r:Option Nat}{Q:SetFound→SD→Prop}(ho:s.heap.get? a=some o)(hd:o.data=.set ev ep t)(hf:t.fits et.size=true)(R:CL G s.heap ev et)(hx1:s.heap.IsTuple xa its.toArray)(hx2:Vs s.heap x its)(hxd:x.deep<8)
 (hu:A.units+8<cLine)(hs:Sg et t x h=some r)(h0:r=none→Q (.there none) s)(h1:∀j,r=some j→Q (.free j false) s):wpAny (model prog w) A (setSearch a (.ref xa) h true) Q E s:=by
 have hf':t.fits ev.size=true:=by rw[R.size];exact hf
 unfold Sg at hs;by_cases hg:t.gaveWay=true
 ·rw[if_pos hg]at hs;cases hs
 rw[if_neg hg]at hs;unfold setSearch;rw[show(100000:Nat)=99999+1 from rfl,setSearchFrom];refine Wb (av ho hd hf' ?_);dsimp only;rw[if_neg hg];have hpr:∀f:Nat→Int,(∀i,f i=LB et i)→t.probe f h ((none:Option SetTable.Probe).getD (t.probeStart h))=t.probe (LB et) h (t.probeStart h):=fun f hf=>by
  rw[show f=LB et from funext hf];rfl
 generalize hst:t.probe _ h ((none:Option SetTable.Probe).getD (t.probeStart h))=pr;have hpr':pr=t.probe (LB et) h (t.probeStart h):=hst.symm.trans (hpr _ fun i=>R.LB i);clear hst hpr;subst hpr';cases hp:t.probe (LB et) h (t.probeStart h) with
 |none=>rw[hp]at hs;cases hs
 |some met =>
  rw[hp]at hs;cases met with
  |empty j dummy =>
   cases dummy with
   |none=>cases hs;exact aA (h1 j rfl)
   |some d=>cases hs
  |candidate j i next =>
   cases he:et[i]? with
   |none=>simp only[he]at hs;cases hs
   |some zy =>
    obtain⟨z,y⟩:=zy;simp only[he]at hs;by_cases hy:y=x
    ·rw[if_pos hy]at hs;cases hs;subst hy;obtain⟨b,its2,e1,e2,e3,e4⟩:=R.at he;cases hl:t.led with
     |true =>
      simp only[Bool.not_true,Bool.false_eq_true,if_false];rw[e1];refine Wb (aU (Pn e2 e3 hx1 hx2 (by lia) prog w E _ ?_));rw[decide_eq_true rfl];refine Wb (av ho hd hf' ?_);exact aA (h0 rfl)
     |false =>
      simp only[Bool.not_false,if_true];refine Wb (Vd ⟨xa,its,_,rfl,hx1,hx2,hxd⟩ (fun v hv=>?_) ?_)
      ·obtain⟨p,hp1,rfl⟩:=aj.mp hv;exact R.good p (Array.mem_toList_iff.mpr (Array.mem_filter.mp (Array.mem_toList_iff.mp hp1)).1)
      simp only[Bool.false_eq_true,if_false];rw[e1];refine Wb (aU (Pn e2 e3 hx1 hx2 (by lia) prog w E _ ?_));rw[decide_eq_true rfl];refine Wb (av ho hd hf' ?_);exact aA (h0 rfl)
    ·rw[if_neg hy]at hs;cases hs
def E2{n:Nat}(h:n≤100000):n≤sizeLine:=aM h (by rw[sizeLine_eq];decide)
def Q3{hp:Heap}(ho:hp.get? a=some o)(hd:o.data=.set ev ep t)(ev':Array (Int×VL))(t':SetTable):(hp.update a (Obj.putSet ev' t')).get? a=some {o with data:=.set ev' (ep+1) t'}:=by
 have:=Heap.get?_update_self (Obj.putSet ev' t') ho (by rw[putSet_of ev' t' hd];rfl);rw[putSet_of ev' t' hd]at this;exact this
def OL{hp:Heap}(ho:hp.get? a=some o)(hc:o.cls=.type "set")(g:Obj→Obj):∀b u,hp.get? b=some u→u.cls=.type "tuple" →(hp.update a g).get? b=some u:=fun b u q hu=>by
 have:a≠b:=fun z=>by
  subst z;rw[ho]at q;cases q;rw[hc]at hu
  injection hu with z
  exact absurd z (by decide)
 rw[Heap.get?_update_other _ _ this];exact q
def ZP{et' : ES}{t' : SetTable}{Q : Bool→SD→Prop}(ho : s.heap.get? a = some o)(hc : o.cls = .type "set")(hd : o.data = .set ev ep t)(R : CL G s.heap ev et)(hx1 : s.heap.IsTuple xa its.toArray)(hx2 : Vs s.heap x its)(hxd : x.deep < 8)(hxg : G (.ref xa) x)
 (hu : A.units + 8 < cLine)(hs : Sb (et,t) x = some (et',t'))
 (k : ∀ (b : Bool) (h' : Heap) (tk : Nat) (ev' : Array (Int×VL)) (ep' : Nat),Heap.SameBut a s.heap h'→h'.get? a = some { o with data:=.set ev' ep' t' }→CL G h' ev' et'→Q b { s with heap:=h',toks:=tk }) :
    wpAny (model prog w) A (setAdd a (.ref xa)) Q E s := by
  unfold setAdd
  refine aU (Wb (XZ hx1 hx2 (by lia) fun tk => ?_))
  unfold setAddHashed
  refine aU ?_
  unfold Sb at hs
  by_cases h1 : (t.fits et.size && decide (et.size≤1000) && t.plain) = false
  · rw [if_pos h1] at hs; cases hs
  rw [if_neg h1] at hs
  simp only [Bool.not_eq_false,Bool.and_eq_true,decide_eq_true_eq] at h1
  obtain ⟨⟨hf,hz⟩,hpl⟩:=h1
  have hf' : t.fits ev.size = true := by rw [R.size]; exact hf
  cases hsr : Sg et t x (A0 x) with
  | none => simp only [hsr] at hs; cases hs
  | some r =>
    simp only [hsr] at hs
    rw [show (100000 : Nat) = 99999 + 1 from rfl,setAddHashedIn]
    refine Wb (av (s:={ s with toks:=tk }) ho hd hf' ?_)
    dsimp only
    have hbs : byScan (.ref xa) ev = false:=rfl
    rw [hbs,if_neg aJ]
    refine Wb (Tf (s:={ s with toks:=tk }) ho hd hf R hx1 hx2 hxd hu hsr (fun hr => ?_) fun j hr => ?_)
    · subst hr
      cases hs
      exact aA (k _ s.heap tk ev ep (Heap.SameBut.refl ..) (by rw [ho,← hd]) R)
    · subst hr
      dsimp only at hs ⊢
      refine Wb (av (s:={ s with toks:=tk }) ho hd hf' ?_)
      dsimp only
      have hpl2 : (t.put j).1.plain = true:=hpl
      rw [if_pos hpl2]
      refine Wb (OT 8 (s:={ s with toks:=tk }) ⟨xa,its,x,rfl,hx1,hx2,hxd⟩ ?_)
      simp only [if_true]
      have R1 : CL G s.heap (SetTable.insertAt ev (t.put j).2 (A0 x,.ref xa)) (SetTable.insertAt et (t.put j).2 (A0 x,x)) := by
        unfold CL
        rw [GP,GP]
        exact Paired.app (.cons ⟨rfl,hxd,hxg,xa,its,rfl,hx1,hx2⟩ (Paired.drop _ R)) (Paired.take _ R)
      have hz1 : (SetTable.insertAt ev (t.put j).2 (A0 x,Value.ref xa)).size≤1001 := by
        have h2:=bF List.length (GP ev (t.put j).2 (A0 x,Value.ref xa))
        simp only [Array.length_toList,List.length_append,List.length_take,List.length_cons,List.length_drop] at h2
        have:=R.size
        lia
      have hz2 : (SetTable.insertAt et (t.put j).2 (A0 x,x)).size = (SetTable.insertAt ev (t.put j).2 (A0 x,Value.ref xa)).size:=R1.size.symm
      refine Wb (wpAny_storeSet_of (s:={ s with toks:=tk }) ho hd ?_ (E2 (by lia)))
      have g1:=Q3 ho hd (SetTable.insertAt ev (t.put j).2 (A0 x,.ref xa)) (t.put j).1
      have k1:=OL ho hc (Obj.putSet (SetTable.insertAt ev (t.put j).2 (A0 x,.ref xa)) (t.put j).1)
      have sb1:=aZ s.heap a (Obj.putSet (SetTable.insertAt ev (t.put j).2 (A0 x,.ref xa)) (t.put j).1)
      by_cases hfull : (t.put j).1.tooFull = false
      · rw [if_pos hfull] at hs
        cases hs
        rw [hfull]
        simp only [Bool.and_false,Bool.false_eq_true,if_false]
        exact aA (k _ _ tk _ _ sb1 g1 (R1.keeps k1))
      · rw [if_neg hfull] at hs
        have hfull : (t.put j).1.tooFull = true := by simpa using hfull
        rw [hfull]
        simp only [Bool.not_false,Bool.and_true,if_true]
        by_cases h2 : ((t.put j).1.fits (SetTable.insertAt et (t.put j).2 (A0 x,x)).size && decide (SetTable.sizeAbove (SetTable.grown (et.size + 1))≤100000)) = false
        · rw [if_pos h2] at hs; cases hs
        rw [if_neg h2] at hs
        simp only [Bool.not_eq_false,Bool.and_eq_true,decide_eq_true_eq] at h2
        obtain ⟨hfit,hsa⟩:=h2
        cases hrl : (t.put j).1.relaid ((SetTable.insertAt et (t.put j).2 (A0 x,x)).map (·.1)) (SetTable.grown (et.size + 1)) with
        | none => simp only [hrl] at hs; cases hs
        | some to =>
          obtain ⟨t2,order⟩:=to
          simp only [hrl] at hs
          by_cases h3 : (order.filterMap ((SetTable.insertAt et (t.put j).2 (A0 x,x))[·]?)).size = (SetTable.insertAt et (t.put j).2 (A0 x,x)).size
          · rw [if_pos h3] at hs
            cases hs
            have R2 : CL G s.heap (order.filterMap ((SetTable.insertAt ev (t.put j).2 (A0 x,Value.ref xa))[·]?)) (order.filterMap ((SetTable.insertAt et (t.put j).2 (A0 x,x))[·]?)) := by
              unfold CL
              have:=Paired.pick R1 order.toList
              simpa using this
            have g2:=Q3 g1 rfl (order.filterMap ((SetTable.insertAt ev (t.put j).2 (A0 x,Value.ref xa))[·]?)) t'
            have k2:=OL g1 hc (Obj.putSet (order.filterMap ((SetTable.insertAt ev (t.put j).2 (A0 x,Value.ref xa))[·]?)) t')
            have sb2:=aZ (s.heap.update a (Obj.putSet (SetTable.insertAt ev (t.put j).2 (A0 x,.ref xa)) (t.put j).1)) a (Obj.putSet (order.filterMap ((SetTable.insertAt ev (t.put j).2 (A0 x,Value.ref xa))[·]?)) t')
            refine Wb ?_
            unfold setRelay
            refine Wb (av g1 rfl (by rw [← hz2]; exact hfit) ?_)
            dsimp only
            rw [R.size,if_neg (Nat.not_lt.mpr (E2 hsa))]
            refine Wb ?_
            rw [R1.fst,hrl]
            have hsz : (order.filterMap ((SetTable.insertAt ev (t.put j).2 (A0 x,Value.ref xa))[·]?)).size = (SetTable.insertAt ev (t.put j).2 (A0 x,Value.ref xa)).size := by rw [R2.size,h3,hz2]
            have hne : ¬ ((order.filterMap ((SetTable.insertAt ev (t.put j).2 (A0 x,Value.ref xa))[·]?)).size != (SetTable.insertAt ev (t.put j).2 (A0 x,Value.ref xa)).size) = true := by simp [hsz]
            show wpAny _ _ (do if (order.filterMap ((SetTable.insertAt ev (t.put j).2 (A0 x,Value.ref xa))[·]?)).size != (SetTable.insertAt ev (t.put j).2 (A0 x,Value.ref xa)).size then unsupported "internal:set-table-lost-an-element"
                               pure (order.filterMap ((SetTable.insertAt ev (t.put j).2 (A0 x,Value.ref xa))[·]?),t')) _ _ _
            rw [if_neg hne]
            refine aA ?_
            refine wpAny_storeSet_of g1 rfl ?_ (E2 (by rw [hsz]; lia))
            exact aA (k _ _ tk _ _ (sb1.trans sb2) g2 ((R2.keeps k1).keeps k2))
          · rw [if_neg h3] at hs; cases hs
end
end TH
namespace TH
open PySem
def grow:List Tr→Tr→List Tr
 |_,.nil=>[]
 |pre,.cons b r=>((Tr.of (Tr.Bh (b.bs++[.nil]))::grow [] b).map fun g=>Tr.of (Tr.Bh (pre++g::r.bs)))++grow (pre++[b]) r
def en(t:Tr):List Tr:=Tr.of (Tr.Bh (t.bs++[.nil]))::grow [] t
def ups(l:List Tr):List Tr:=l.flatMap en
def KY(st:ES×SetTable):List Tr→Option (ES×SetTable)
 |[]=>some st
 |x::r=>(Sb st x).bind fun st'=>KY st' r
def Iu(led:Bool):ES×SetTable:=(#[],.fresh 0 0 led)
def Md(st:ES×SetTable):List Tr:=st.1.toList.map (·.2)
def tz:Nat→List Tr
 |0=>[.nil]
 |n+1=>(Tr.Bh ((ups (tz n)).eraseDups)).reverse
end TH
namespace TH
open PySem PyProof.Rows PySem.SeqAt
def OA(G:VL→Tr→Prop)(h:Heap)(v:VL)(x:Tr):Prop:=x.deep<8∧G v x∧∃a its,v=.ref a∧h.IsTuple a its.toArray∧Vs h x its
abbrev Gq(G:VL→Tr→Prop)(h:Heap)(vs:List VL)(xs:List Tr):Prop:=Paired (OA G h) vs xs
variable{G:VL→Tr→Prop}
def OA.keeps{h h':Heap}(k:∀b o,h.get? b=some o→o.cls=.type "tuple" → h'.get? b=some o){v:VL}{x:Tr}(r:OA G h v x):OA G h' v x:=by
 obtain⟨hd,hg,a,its,e,h1,h2⟩:=r;exact⟨hd,hg,a,its,e,(by obtain⟨o,ho,hc,n,hdt⟩:=h1;exact⟨o,k _ _ ho hc,hc,n,hdt⟩),h2.keeps k⟩
def Gq.keeps{h h':Heap}(k:∀b o,h.get? b=some o→o.cls=.type "tuple" → h'.get? b=some o){vs:List VL}{xs:List Tr}(r:Gq G h vs xs):Gq G h' vs xs:=Paired.imp (fun _ _ z=>z.keeps k) r
def JT(G:VL→Tr→Prop)(h:Heap)(S:AD)(st:ES×SetTable):Prop:=∃o ev ep,h.get? S=some o∧o.ExactSet∧o.data=.set ev ep st.2∧CL G h ev st.1
def JT.keeps{h h':Heap}{S:AD}{st:ES×SetTable}(x:JT G h S st)(kS:∀o,h.get? S=some o→h'.get? S=some o)(k:∀b o,h.get? b=some o→o.cls=.type "tuple" → h'.get? b=some o):JT G h' S st:=by
 obtain⟨o,ev,ep,h1,h2,h3,h4⟩:=x;exact⟨o,ev,ep,kS _ h1,h2,h3,h4.keeps k⟩
section
variable{prog:Program}{w:World}{A:Around}{R:Result→SD→Prop}{I S:AD}{fp wr:List AD}{St:Nat→Heap→Prop}{items:Array VL}{xs:List Tr}{st':ES×SetTable}
def Xo(W:Walks prog w A.in1 I fp wr items.size (fun i v=>items[i]? = some v) St)(hSf:S ∉ fp)(hcl:∀i h b o,St i h→b∈wr→h.get? b=some o→o.cls≠.type "tuple")(hu:A.units+10<cLine) :
  ∀(k i:Nat) (s:SD) (st:ES×SetTable),items.size-i=k→i≤items.size→St i s.heap→JT G s.heap S st→Gq G s.heap items.toList xs→KY st (xs.drop i)=some st' →
   (∀(h':Heap) (tk:Nat),(∀b o,b≠S→b ∉ wr→s.heap.get? b=some o→h'.get? b=some o)→(∀b o,s.heap.get? b=some o→o.cls=.type "tuple" → h'.get? b=some o)→JT G h' S st'→R (.ok (.ret .none)) {s with heap:=h',toks:=tk}) →
   codeAny (model prog w) A (.builtin "set.update.loop" ⟨[.ref S,.ref I],[]⟩) R s:=by
 have hSw:S ∉ wr:=fun h=>hSf (W.sub _ h);intro k
 induction k with
 |zero =>
  intro i s st hk hi hst hS hT hrun hR;have hin:i=items.size:=by lia
  subst hin;have hlen:=Paired.length hT;rw[List.drop_of_length_le (by rw[←hlen];simp)]at hrun;cases hrun;refine codeAny_builtin F.entry_set_update_loop ?_;rw[Around.under_plainId F.plain_set_update_loop _];show wpAny _ A.in1 (pyNext (.ref I)>>=_) _ _ s;refine Wb (W.done s _ _ hst fun h' tk hm=>?_);show wpAny _ A.in1 (ret Value.none) _ _ _;have kt:∀b o,s.heap.get? b=some o→o.cls=.type "tuple" → h'.get? b=some o:=fun b o e hc=>hm b o (fun hb=>hcl _ _ b o hst hb e hc) e;exact aA (hR h' tk (fun b o _ hb e=>hm b o hb e) kt (hS.keeps (fun o e=>hm S o hSw e) kt))
 |succ k ih =>
  intro i s st hk hi hst hS hT hrun hR;have hlt:i<items.size:=by lia
  refine codeAny_builtin F.entry_set_update_loop ?_;rw[Around.under_plainId F.plain_set_update_loop _];show wpAny _ A.in1 (pyNext (.ref I)>>=_) _ _ s;refine Wb (W.item i s _ _ hlt hst fun v h1 tk hP hst' hm=>?_);have kt:∀b o,s.heap.get? b=some o→o.cls=.type "tuple" → h1.get? b=some o:=fun b o e hc=>hm b o (fun hb=>hcl _ _ b o hst hb e hc) e;have hS1:=hS.keeps (fun o e=>hm S o hSw e) kt;have hT1:=hT.keeps kt;have hlen:=Paired.length hT;have hxi:i<xs.length:=by rw[←hlen];simpa using hlt
  have hx:xs[i]? = some xs[i]:=aN hxi;obtain⟨v',hv',hxd,hxg,xa,its,e1,e2,e3⟩:=Paired.get hT1 hx;have hvv:v'=v:=by
   have h2:items.toList[i]? = some v:=by simpa using hP
   rw[h2]at hv';exact(ab hv').symm
  subst hvv;subst e1;rw[List.drop_eq_getElem_cons hxi,KY]at hrun;cases hadd:Sb st xs[i]with
  |none=>rw[hadd]at hrun;cases hrun
  |some st1 =>
   rw[hadd]at hrun;obtain⟨o,ev,ep,g1,g2,g3,g4⟩:=hS1;obtain⟨et,t⟩:=st;obtain⟨et1,t1⟩:=st1;show wpAny _ A.in1 (holding [Value.ref xa] (setAdd S (.ref xa))>>=_) _ _ _;refine Wb (aU (ZP (s:={s with heap:=h1,toks:=tk}) g1 g2.1 g3 g4 e2 e3 hxd hxg (by rw[Around.in1_units];lia) hadd fun b h2 tk2 ev2 ep2 sb gS R2=>?_));have kt2:∀b o,h1.get? b=some o→o.cls=.type "tuple" → h2.get? b=some o:=fun b o' e hc=>by
    rw[sb.2 b fun z=>?_]
    ·exact e
    ·subst z;rw[g1]at e;cases e;rw[g2.1]at hc
     injection hc with hc
     exact absurd hc (by decide)
   refine aA ⟨plainId_quiet F.plain_set_update_loop _,ih (i+1) {s with heap:=h2,toks:=tk2} (et1,t1) (by lia) hlt (W.frame _ _ _ hst' fun b hb o' e=>?_) ⟨_,ev2,ep2,gS,g2,rfl,R2⟩ (hT1.keeps kt2) hrun fun h3 tk3 m3 kt3 S3=>?_⟩
   ·rw[sb.2 b fun z=>hSf (z ▸ hb)];exact e
   ·refine hR h3 tk3 (fun b o' hbS hb e=>?_) (fun b o' e hc=>kt3 b o' (kt2 b o' (kt b o' e hc) hc) hc) S3;refine m3 b o' hbS hb ?_;show h2.get? b=some o';rw[sb.2 b hbS];exact hm b o' hb e
end
end TH
namespace TH
open PySem PyProof.Rows PySem.SeqAt
section
variable{G:VL→Tr→Prop}{prog:Program}{w:World}{A:Around}{E:VL→SD→Prop}{s:SD}{l:AD}{us:List VL}{xs:List Tr}
abbrev EB(led:Bool):Obj:={ cls:=.type "set",dict:=none,data:=.set #[] 0 (.fresh 0 0 led)}
def SW(v:VL){Q1:VL→SD→Prop}(k:Q1 (.ref s.heap.objs.size) {s with heap:=s.heap.push (EB (!w.params.followText "set-order"))}) :
  codeAny (model prog w) A (.call (.builtin "set.__new__") ⟨[.type "set",v],[]⟩) (wants Q1 E) s:=by
 refine codeAny_of_tree (show wpAny _ A.in1 (checkBuiltinCall "set.__new__" ⟨[.type "set",v],[]⟩>>=fun _=>again (.builtin "set.__new__" ⟨[.type "set",v],[]⟩)) _ _ s from ?_);refine Wb (wpAny_of_eq (F.newCall_set_1 v) (aA ⟨plainId_quiet F.plain_set_new _,codeAny_builtin F.entry_set_new ?_⟩));rw[Around.under_plainId F.plain_set_new _];unfold Builtin.«set.__new__»;unfold Builtin.Frozenset.newClass;have q:=sub_set_self;obtain⟨h0,g0,d0,t0,o0⟩:=s;dsimp only
 wp_walk
 refine wpAny_askSetting (aA ?_);dsimp only;simp only[newObj];exact Wb (wpAny_alloc (aA (aA k)))
def QT{Q:VL→SD→Prop}(hA:A.handled=none)(hL:s.heap.IsList l us.toArray)(hT:Gq G s.heap us xs)(hu:A.units+20<cLine){st:ES×SetTable}(hst:KY (Iu (!w.params.followText "set-order")) xs=some st)
 (k:∀(h2:Heap) (tk:Nat),JT G h2 s.heap.objs.size st→(∀b u,s.heap.get? b=some u→h2.get? b=some u)→Q (.ref s.heap.objs.size) {s with heap:=h2,toks:=tk}) :
  wpAny (model prog w) A (call (.type "set") [.ref l]) Q E s:=by
 obtain⟨mc,mt,hmro⟩:=F.called_set.mro;have q1:=F.called_set.made;have q2:=F.called_set.sub;have q3:=F.called_set.notType;have q4:=F.called_set.canCreate;have q5:=F.typeCall_set_1 (.ref l);refine wpAny_call (codeAny_of_tree (show wpAny _ _ (callAny (.type "set") _) _ _ _ from ?_));refine aA ⟨Code.quiet_builtin _ (by decide +kernel),codeAny_builtin F.entry_type_call ?_⟩;rw[Around.under_plain (weight_type_call_type "set" [.ref l] []) rfl]
 repeat (any_goals (first|assumption|wp_step))
 have hnew:=SW (prog:=prog) (w:=w) (s:=s) (A:=A.in1) (E:=E) (.ref l) (Q1:=fun v s1=>v=.ref s.heap.objs.size∧s1={s with heap:=s.heap.push (EB (!w.params.followText "set-order"))}) ⟨rfl,rfl⟩;refine codeAny_mono hnew fun r s1 hr=>?_;cases r with
 |error e=>exact hr
 |ok fl =>
  cases fl with
  |next=>exact hr.elim
  |brk=>exact hr.elim
  |cont=>exact hr.elim
  |ret obj =>
   obtain⟨rfl,rfl⟩:=hr;generalize (!w.params.followText "set-order")=led at hst;have gS:(s.heap.push (EB led)).get? s.heap.objs.size=some (EB led):=aH _ rfl;have tS:Shared.TypeIs {s with heap:=s.heap.push (EB led)} (.ref s.heap.objs.size) "set" := ⟨_,gS,rfl⟩;have q6:=F.called_set.init.lookup;have q7:=F.called_set.init.bind (.ref s.heap.objs.size)
   repeat (any_goals (first|assumption|wp_step))
   have hinit:codeAny (model prog w) A.in1 (.call (.builtin "set.__init__") ⟨[.ref s.heap.objs.size,.ref l],[]⟩)
     (wants (fun v s2=>v=.none∧∃h2 tk,s2={s with heap:=h2,toks:=tk}∧JT G h2 s.heap.objs.size st∧∀b u,s.heap.get? b=some u→h2.get? b=some u) E) {s with heap:=s.heap.push (EB led)}:=by
    refine codeAny_call_builtin F.called_set.init.plain F.entry_set_init (check_set_init_1 tS ?_);obtain⟨⟨c0,d0,dt0,sl0⟩,gl,c1,n0,dt1⟩:=id hL;simp only at c1 dt1;subst c1 dt1;have gl1:(s.heap.push (EB led)).get? l=some ⟨.type "list",d0,.seq us.toArray n0,sl0⟩:=aC _ gl;have isl:(s.heap.push (EB led)).IsList l us.toArray:=⟨_,gl1,rfl,n0,rfl⟩;have s1:=F.sub_list_set;have s2:=F.sub_list_frozenset;have s3:(Value.type "list" == Value.type "dict")=false:=by decide
    unfold Builtin.«set.__init__» noKeywords Builtin.Frozenset.updateFrom;generalize ePI:pyIter=PI
    wp_walk
    subst ePI;refine wpAny_pyIter_list isl (Wb (wpAny_runValue ?_));have ll:l<s.heap.objs.size:=aD gl;have zI:(s.heap.push (EB led)).objs.size=s.heap.objs.size+1:=Heap.size_push ..;have neI:l≠(s.heap.push (EB led)).objs.size:=by rw[zI];exact aK (bG ll)
    have nfp:s.heap.objs.size ∉ [(s.heap.push (EB led)).objs.size,l]:=by
     simp only[List.mem_cons,List.not_mem_nil,or_false,not_or];exact⟨by rw[zI];exact aK (bP _),Nat.ne_of_gt ll⟩
    have hA3:A.in1.in1.in1.handled=none:=by simp[hA]
    refine Xo (G:=G) (xs:=xs) (st':=st) (Walks.list hA3 _ l neI us.toArray) nfp (fun i h b o hit hb e hc=>?_) (by simp only[Around.in1_units];lia) _ 0 _ (Iu led) rfl (az _) ⟨⟨_,Heap.get?_push_size _ rfl,rfl,rfl⟩,isl.push _⟩ ?_ ?_ hst fun h2 tk m2 kt2 S2=>?_
    ·obtain⟨⟨oi,gi,ci,_⟩,_⟩:=hit;have:b=(s.heap.push (EB led)).objs.size:=by simpa using hb
     subst this;rw[gi]at e;cases e;rw[ci]at hc
     injection hc with hc
     exact absurd hc (by decide)
    ·exact⟨EB led,#[],0,Heap.get?_push_of_some _ gS,⟨rfl,rfl,rfl⟩,rfl,.nil⟩
    ·exact hT.keeps fun b o e _=>aC _ (aC _ e)
    ·refine aA ?_;show wpAny _ _ (ret Value.none) _ _ _;refine aA ⟨rfl,h2,tk,rfl,S2,fun b u e=>?_⟩;have lb:b<s.heap.objs.size:=aD e;refine m2 b u (aK lb) ?_ (aC _ (aC _ e));simp only[List.mem_cons,List.not_mem_nil,or_false];rw[zI];exact aK (bG lb)
   refine codeAny_mono hinit fun r2 s2 hr2=>?_;cases r2 with
   |error e=>exact hr2
   |ok f2 =>
    cases f2 with
    |next=>exact hr2.elim
    |brk=>exact hr2.elim
    |cont=>exact hr2.elim
    |ret v2 =>
     obtain⟨rfl,h2,tk,rfl,S2,k2⟩:=hr2
     repeat (any_goals (first|assumption|wp_step))
     exact k h2 tk S2 k2
end
end TH
namespace TH
open PySem PyProof.Rows PySem.SeqAt
def Mn:entryFor table "set.__iter__" = some Builtin.«frozenset.__iter__» :=
 entryFor_alias (id' := "frozenset.__iter__") (by kernel_rfl) rfl (by decide +kernel) (by kernel_rfl)
def Cb:Slot "set_iterator" "__next__" "set_iterator.__next__" :=
 .of (owner := "set_iterator") (n := "__next__") (by rw[typeLookup_type,builtinLookup_eq_fast];kernel_rfl) (by decide +kernel)
  (by decide +kernel) (by decide +kernel) (by first|exact .inl (by decide +kernel)|exact .inr (by decide +kernel)) (by rw[isSubtype_type];kernel_rfl)
def Ip:entryFor table "set_iterator.__next__" = some Builtin.«set_iterator.__next__»:=entryFor_of_fast (by kernel_rfl)
def Jj(a:VL):argsOk "set_iterator.__next__" ⟨[a],[]⟩:=by unfold argsOk;kernel_rfl
def Je:Slot "set_iterator" "__iter__" "set_iterator.__iter__" :=
 .of (owner := "set_iterator") (n := "__iter__") (by rw[typeLookup_type,builtinLookup_eq_fast];kernel_rfl) (by decide +kernel)
  (by decide +kernel) (by decide +kernel) (by first|exact .inl (by decide +kernel)|exact .inr (by decide +kernel)) (by rw[isSubtype_type];kernel_rfl)
def Mi:entryFor table "set_iterator.__iter__" = some Builtin.«dict_keyiterator.__iter__» :=
 entryFor_alias (id' := "dict_keyiterator.__iter__") (by kernel_rfl) rfl (by decide +kernel) (by kernel_rfl)
def N3(a:VL):argsOk "set_iterator.__iter__" ⟨[a],[]⟩:=by unfold argsOk;kernel_rfl
section
variable{α:Type}{next:Nat→Nat}
def QZ:∀(n k:Nat) (left:List α) (out:Array α),left.length=n→(pickOrder.go next n k left out).toList.Perm (out.toList++left)
 |0,k,left,out,h=>by
  have:left=[]:=bO h;subst this;rw[pickOrder.go];simp
 |n+1,k,left,out,h=>by
  rw[pickOrder.go];have hlt:next k % left.length<left.length:=Nat.mod_lt _ (by lia);rw[List.getElem?_eq_getElem hlt];refine(QZ n (k+1) _ _ (by rw[List.length_eraseIdx_of_lt hlt];lia)).trans ?_;rw[Array.toList_push,List.append_assoc];refine List.Perm.append_left _ ?_;rw[List.eraseIdx_eq_take_drop_succ];have e:left.take (next k % left.length)++left[next k % left.length]::left.drop (next k % left.length+1)=left:=by rw[←List.drop_eq_getElem_cons hlt,List.take_append_drop]
  have p:=List.perm_middle (a:=left[next k % left.length]) (l₁:=left.take (next k % left.length)) (l₂:=left.drop (next k % left.length+1));rw[e]at p;exact p.symm
def TN(xs:Array α):(pickOrder next xs).toList.Perm xs.toList:=by
 unfold pickOrder
 simpa using QZ xs.size 0 xs.toList #[] (by simp)
end
end TH
namespace TH
open PySem PyProof.Rows PySem.SeqAt
def D8(w:World)(S:AD)(ep:Nat)(ev:Array (Int×VL)):Array (Int×VL):=if w.params.followText "set-order" = true then pickOrder (w.params.setOrder S ep) ev else ev
def Nh(w:World)(S:AD)(ep:Nat)(ev:Array (Int×VL)):(D8 w S ep ev).toList.Perm ev.toList:=by
 unfold D8;split
 ·exact TN ev
 ·exact .refl _
def Hw(w:World)(S:AD)(ep:Nat)(ev:Array (Int×VL)):(D8 w S ep ev).size=ev.size:=by simpa using (Nh w S ep ev).length_eq
def F7(t:SetTable):Nat→Nat
 |0=>0
 |i+1=>t.place.getD i 0+1
def Cf(w:World)(t:SetTable)(i:Nat):Nat:=if w.params.followText "set-order" = true then 0 else F7 t i
def J6(t:SetTable)(n:Nat):Bool:=(List.range (n+1)).all fun i=>decide (SetTable.below t.place (F7 t i)=i)
abbrev Hz(w:World)(S:AD)(t:SetTable)(ep n i:Nat):Obj:={ cls:=.type "set_iterator",data:=.fields #[rawInt ((Cf w t i:Nat):Int),rawInt (i:Int),.ref S,rawInt (n:Int),rawInt (ep:Int)]}
structure DM(w:World)(o:Obj)(ev:Array (Int×Value))(ep:Nat)(t:SetTable):Prop where
 ex:o.ExactSet
 dat:o.data=.set ev ep t
 fit:t.fits ev.size=true
 plain:t.plain=true
 led:t.led=!w.params.followText "set-order"
 walk:J6 t ev.size=true
section
variable{prog:Program}{w:World}{A:Around}{E:VL→SD→Prop}{s:SD}{S I:AD}{o:Obj}{ev:Array (Int×VL)}{ep i:Nat}{t:SetTable}
def Mt{Q:Bool→SD→Prop}(h:Q (w.params.followText "set-order") s):wpAny (model prog w) A setsByText Q E s:=by
 unfold setsByText;exact Wb (wpAny_askSetting (aA h))
def DM.T7(W:DM w o ev ep t):(!t.plain&&decide (ev.size > 1))=false:=by rw[W.plain];rfl
def DM.place(W:DM w o ev ep t):t.place.size=ev.size:=by
 have:=W.fit;unfold SetTable.fits at this;simp only[Bool.and_eq_true,beq_iff_eq]at this;exact this.1
def Oa{Q:Option (VL×Nat)→SD→Prop}(W:DM w o ev ep t)(ho:s.heap.get? S=some o)(hi:i≤ev.size)(h:Q ((D8 w S ep ev)[i]?.map fun e=>(e.2,Cf w t (i+1))) s) :
  wpAny (model prog w) A (setNext S (Cf w t i) i ep) Q E s:=by
 unfold setNext;refine Wb (av ho W.dat W.fit ?_);refine Wb (Mt ?_);cases hb:w.params.followText "set-order" with
 |true =>
  rw[if_pos rfl];have hne:¬(ep != ep)=true:=by simp
  rw[if_neg hne];unfold setWalk;refine Wb (Wb (av ho W.dat W.fit ?_));refine Wb (Mt ?_);rw[if_pos hb];refine Wb (wpAny_askSetting (aA ?_));refine aA ?_;have e:D8 w S ep ev=pickOrder (w.params.setOrder S ep) ev:=by unfold D8;rw[if_pos hb]
  rw[e]at h;have e2:Cf w t i=Cf w t (i+1):=by unfold Cf;rw[if_pos hb,if_pos hb]
  rw[e2];exact h
 |false =>
  rw[if_neg aJ];refine wpAny_ite_split (fun hd=>?_) fun _=>?_
  ·have:(!t.plain&&decide (ev.size > 1))=true:=hd;rw[W.T7]at this;cases this
  ·refine Wb ?_;have hl:t.led=true:=by rw[W.led,hb];rfl
   have hn:¬(!t.led && !ev.isEmpty)=true:=by rw[hl];simp
   show wpAny _ _ (if(!t.led && !ev.isEmpty)=true then unsupported "set:maker-not-led" else pure ()) _ _ _;rw[if_neg hn];refine aA (aA ?_);have hw:=W.walk;unfold J6 at hw;have hw:=ao.mp hw i (ae.mpr (by lia));have hw:SetTable.below t.place (F7 t i)=i:=by simpa using hw
   have e1:Cf w t i=F7 t i:=by unfold Cf;rw[hb];rfl
   have e2:Cf w t (i+1)=F7 t (i+1):=by unfold Cf;rw[hb];rfl
   have e3:D8 w S ep ev=ev:=by unfold D8;rw[hb];rfl
   rw[e2,e3]at h;rw[e1,hw];by_cases hlt:i<ev.size
   ·have hp:i<t.place.size:=by rw[W.place];exact hlt
    rw[Array.getElem?_eq_getElem hlt]at h ⊢;rw[Array.getElem?_eq_getElem hp];have e4:F7 t (i+1)=t.place[i]+1:=by
     rw[F7,Array.getD_eq_getD_getElem?,Array.getElem?_eq_getElem hp]
     rfl
    rw[e4]at h;exact h
   ·rw[Array.getElem?_eq_none (by lia)]at h ⊢;exact h
def VO{Q:Option VL→SD→Prop}{z:Int}{v:VL}(W:DM w o ev ep t)(ho:s.heap.get? S=some o)(hI:s.heap.get? I=some (Hz w S t ep ev.size i))(hx:(D8 w S ep ev)[i]? = some (z,v))
 (h:∀h',h'.get? I=some (Hz w S t ep ev.size (i+1))→Heap.SameBut I s.heap h'→Q (some v) {s with heap:=h'}):wpAny (model prog w) A (pyNext (.ref I)) Q E s:=by
 have hT:s.TypeIs (.ref I) "set_iterator" := ⟨_,hI,rfl⟩;have hlt:i<ev.size:=by
  have:=(Array.getElem?_eq_some_iff.mp hx).1;rw[Hw]at this;exact this
 unfold pyNext;refine Wb (wpAny_attempt (aY (name:=Str.ofString "__next__") hT Cb (aS Cb hT Ip ?_ (Jj _))));unfold Builtin.«set_iterator.__next__»;refine Wb (wpAny_of_eq (a:=(Value.ref I,[])) rfl ?_);refine Wb (wpAny_fieldsOf hI rfl ?_);show wpAny _ _ (setEntries S>>=_) _ _ s;refine Wb (wpAny_setEntries_of ho W.dat W.fit ?_);have hne:¬((ev.size:Int) != (ev.size:Int))=true:=by simp
 dsimp only;rw[if_neg hne];refine Wb ?_;show wpAny _ _ (setNext S (Cf w t i) i ep) _ _ _;refine Oa W ho (by lia) ?_;rw[hx];show wpAny _ _ (setField (.ref I) 0 (rawInt ((Cf w t (i+1):Nat):Int))>>=_) _ _ _;refine Wb (wpAny_setField hI rfl (by simp) ?_);have g1:(s.heap.update I (Obj.mapFields (·.setIfInBounds 0 (rawInt ((Cf w t (i+1):Nat):Int))))).get? I=some { cls:=.type "set_iterator",data:=.fields #[rawInt ((Cf w t (i+1):Nat):Int),rawInt (i:Int),.ref S,rawInt (ev.size:Int),rawInt (ep:Int)]} :=
  Heap.get?_update_self _ hI rfl
 refine Wb (wpAny_setField g1 rfl (by simp) ?_);refine aA ⟨_,rfl,wpAny_pure (h _ ?_ ((aZ ..).trans (aZ ..)))⟩;exact Heap.get?_update_self _ g1 rfl
def VT{Q:Option VL→SD→Prop}(hh:A.handled=none)(W:DM w o ev ep t)(ho:s.heap.get? S=some o)(hI:s.heap.get? I=some (Hz w S t ep ev.size ev.size))
 (h:∀h',Heap.ExtBut I s.heap h'→Q none {s with heap:=h'}):wpAny (model prog w) A (pyNext (.ref I)) Q E s:=by
 have hT:s.TypeIs (.ref I) "set_iterator" := ⟨_,hI,rfl⟩;unfold pyNext;refine Wb (wpAny_attempt (aY (name:=Str.ofString "__next__") hT Cb (aS Cb hT Ip ?_ (Jj _))));unfold Builtin.«set_iterator.__next__»;refine Wb (wpAny_of_eq (a:=(Value.ref I,[])) rfl ?_);refine Wb (wpAny_fieldsOf hI rfl ?_);show wpAny _ _ (setEntries S>>=_) _ _ s;refine Wb (wpAny_setEntries_of ho W.dat W.fit ?_);have hne:¬((ev.size:Int) != (ev.size:Int))=true:=by simp
 dsimp only;rw[if_neg hne];refine Wb ?_;show wpAny _ _ (setNext S (Cf w t ev.size) ev.size ep) _ _ _;refine Oa W ho (aG _) ?_;rw[Array.getElem?_eq_none (by rw[Hw];exact aG _)];show wpAny _ _ (setField (.ref I) 2 Value.none>>=_) _ _ _;refine Wb (wpAny_setField hI rfl (by simp) ?_);refine Wb ?_;simp only[newExc,newTuple];refine Wb (ai ?_ (by size_fits));refine Wb (m:=firstArgMember _ _) (wpAny_of_eq (a:=Value.none) (by first|rfl|(simp only[firstArgMember];rfl)) (ai ?_ (by size_fits)));simp only[raiseNew];refine Wb (wpAny_handled ?_);have hh1:A.in1.handled=none:=hh;rw[hh1];refine Wb (aA (wpAny_throw ?_));refine Wb (wpAny_isInstance (b:=true) (T := "StopIteration") ⟨_,Heap.get?_push_size _ rfl,rfl⟩ isSubtype_stop ?_);exact aA (h _ (((aZ ..).extBut.push _).push _))
def Ut{Q:VL→SD→Prop}(hI:s.heap.get? I=some (Hz w S t ep ev.size i))(h:Q (.ref I) s):wpAny (model prog w) A (pyIter (.ref I)) Q E s:=by
 have hT:s.TypeIs (.ref I) "set_iterator" := ⟨_,hI,rfl⟩;refine wpAny_pyIter_slot hT Je (aS Je hT Mi ?_ (N3 _));show wpAny _ _ (ret (.ref I)) _ _ s;exact aA ⟨_,rfl, "set_iterator",_,hT,Cb.lookup,h⟩
def UE(hh:A.handled=none)(hne:S≠I)(W:DM w o ev ep t) :
  Walks prog w A I [I,S] [I] ev.size (fun i v=>∃z,(D8 w S ep ev)[i]? = some (z,v)) (fun i h=>h.get? I=some (Hz w S t ep ev.size i)∧h.get? S=some o) where
 sub:=fun b hb=>by simp at hb;simp[hb]
 frame:=fun _ _ _ x k=>⟨k I (by simp) _ x.1,k S (by simp) _ x.2⟩
 item:=fun i s Q E hi x hQ=>by
  have hi':i<(D8 w S ep ev).size:=by rw[Hw];exact hi
  obtain⟨z,v,hx⟩:∃z v,(D8 w S ep ev)[i]? = some (z,v):=⟨(D8 w S ep ev)[i].1,(D8 w S ep ev)[i].2,by rw[Array.getElem?_eq_getElem hi']⟩;refine VO W x.2 x.1 hx fun h' g sb=>hQ v h' s.toks ⟨z,hx⟩ ⟨g,(sb.2 S hne).trans x.2⟩ fun b u hb e=>?_;rw[sb.2 b fun q=>hb (by simp[q])];exact e
 done:=fun s Q E x hQ=>VT hh W x.2 x.1 fun h' eb=>hQ h' s.toks fun b u hb e=>eb b u (fun q=>hb (by simp[q])) e
 self:=fun _ _ _ _ x hQ=>Ut x.1 hQ
def VG{Q:Bool→SD→Prop}(hT:s.TypeIs (.ref S) "set")(h:Q false s):wpAny (model prog w) A (Builtin.List.listLengthHint (.ref S)) Q E s:=by
 unfold Builtin.List.listLengthHint;refine Wb (wpAny_specialOf hT PySem.F.slot_set_len.lookup ?_);generalize hid:("set.__len__" : String)=id0
 wp_delta
 rw[show splitId id0=some ("set", "__len__") from by subst hid;decide +kernel];subst hid;refine Wb (wpAny_isInstance (b:=true) (T := "set") hT (by rw[isSubtype_type];kernel_rfl) ?_);refine wpAny_ite_split (fun z=>absurd z (by decide)) fun _=>?_;refine wpAny_ite_split (fun _=>?_) fun z=>absurd (by decide +kernel) z;exact Wb (wpAny_typeOf hT (aA h))
def U9{Q:VL→SD→Prop}(W:DM w o ev ep t)(ho:s.heap.get? S=some o)(h:Q (.ref s.heap.objs.size) {s with heap:=s.heap.push (Hz w S t ep ev.size 0)}) :
  wpAny (model prog w) A (pyIter (.ref S)) Q E s:=by
 have hT:s.TypeIs (.ref S) "set" := ⟨o,ho,W.ex.1⟩;refine wpAny_pyIter_slot hT PySem.F.slot_set_iter (aS PySem.F.slot_set_iter hT Mn ?_ (PySem.F.args_set_iter_1 _));unfold Builtin.«frozenset.__iter__»;refine Wb (wpAny_of_eq (a:=S) rfl ?_);unfold Builtin.Frozenset.sizeOf;refine Wb (Wb (wpAny_setEntries_of ho W.dat W.fit (aA ?_)));unfold setDrawn;refine Wb (Wb (av ho W.dat W.fit (Wb (Mt (aA ?_)))));have hd:(!w.params.followText "set-order" && (!t.plain&&decide (ev.size > 1)))=false:=by rw[W.T7];simp
 refine wpAny_ite_split (fun z=>?_) fun _=>?_
 ·have:(!w.params.followText "set-order" && (!t.plain&&decide (ev.size > 1)))=true:=z;rw[hd]at this;cases this
 refine Wb (aA ?_);unfold setEpoch;refine Wb (Wb (av ho W.dat W.fit (aA ?_)));have e0:Cf w t 0=0:=by unfold Cf F7;split<;>rfl
 refine Wb (ai (aA ⟨_,rfl, "set_iterator",_,⟨_,Heap.get?_push_size _ rfl,rfl⟩,Cb.lookup,?_⟩));unfold Hz at h;rw[e0]at h;exact h
def Xs(W:DM w o ev ep t):PySem.W.KdlSrc prog w "set" S S ev.size (fun i v=>∃z,(D8 w S ep ev)[i]? = some (z,v)) (fun h=>h.get? S=some o) where
 type:=fun _ ho=>⟨o,ho,W.ex.1⟩
 there:=fun _ ho=>⟨aD ho,Heap.lt_size ho⟩
 keep:=fun _ _ ho k=>k S (.inl rfl) _ ho
 notList:=by decide
 notTuple:=by decide
 hint:=fun _ _ s _ ho h=>VG ⟨o,ho,W.ex.1⟩ h
 iter:=fun A s hh ho=>⟨Hz w S t ep ev.size 0,_,(fun E Q h=>U9 W ho h),UE hh (aK (aD ho)) W,⟨aH _ rfl,Heap.get?_push_of_some _ ho⟩⟩
end
end TH
namespace TH
open PySem PyProof.Rows PySem.SeqAt
def Paired.perm{α β:Type}{F:α→β→Prop}{l l':List α}(p:l'.Perm l):∀ {m:List β},Paired F l m→∃m',m'.Perm m∧Paired F l' m':=by
 induction p with
 |nil=>intro m r;exact⟨m,.refl _,r⟩
 |cons x _ ih =>
  intro m r;cases r with
  |cons h r' =>
   obtain⟨m',p',q⟩:=ih r';exact⟨_::m',p'.cons _,.cons h q⟩
 |swap x y l =>
  intro m r;cases r with
  |cons h r' =>
   cases r' with
   |cons h' r''=>exact⟨_::_::_,List.Perm.swap ..,.cons h' (.cons h r'')⟩
 |trans _ _ ih1 ih2 =>
  intro m r;obtain⟨m1,p1,q1⟩:=ih2 r;obtain⟨m2,p2,q2⟩:=ih1 q1;exact⟨m2,p2.trans p1,q2⟩
variable{G:VL→Tr→Prop}
def Qi{h:Heap}:∀ {l:List (Int×VL)} {m:List (Int×Tr)},Paired (Ll G h) l m→Vs h (Tr.of (m.map (·.2))) (l.map (·.2))
 |_,_,.nil=>by rw[List.map_nil,List.map_nil,Tr.of,Vs]
 |_,_,.cons (a:=(z,v)) ⟨_,_,_,a,its,e,h1,h2⟩ r=>by
  have e:v=.ref a:=e;subst e;rw[List.map_cons,List.map_cons,Tr.of,Vs];exact⟨a,its,_,rfl,h1,h2,Qi r⟩
def Nv{h:Heap}:∀ {l:List (Int×VL)} {m:List (Int×Tr)},Paired (Ll G h) l m→∀c∈m.map (·.2),c.deep<8
 |_,_,.nil,c,hc=>by cases hc
 |_,_,.cons ⟨_,hd,_⟩ r,c,hc=>by
  rw[List.map_cons]at hc;rcases aL.mp hc with rfl|hc
  ·exact hd
  ·exact Nv r c hc
def UG{h:Heap}:∀ {l:List (Int×VL)} {m:List (Int×Tr)},Paired (Ll G h) l m→Paired G (l.map (·.2)) (m.map (·.2))
 |_,_,.nil=>.nil
 |_,_,.cons ⟨_,_,hg,_⟩ r=>.cons hg (UG r)
def Paired.WK{α β:Type}{F:α→β→Prop}{l:List α}{m:List β}(r:Paired F l m)(d:α)(e:β):∀(ix:List Nat),(∀i∈ix,i<l.length)→Paired F (ix.map fun i=>l.getD i d) (ix.map fun i=>m.getD i e)
 |[],_=>.nil
 |i::ix,h=>by
  have hl:=r.length;have hi:=h i aT;have hm:m[i]? = some m[i]:=aN (by lia);obtain⟨x,e1,e2⟩:=Paired.get r hm;rw[List.map_cons,List.map_cons];refine .cons ?_ (Paired.WK r d e ix fun j hj=>h j (aO _ hj));rw[List.getD_eq_getElem?_getD,List.getD_eq_getElem?_getD,e1,hm];exact e2
def Vb{l m:List Tr}(p:l.Perm m):Tr.Bh l=Tr.Bh m:=Tr.IL (Tr.HC l) (Tr.HC m) ((Tr.Gy l).trans (p.trans (Tr.Gy m).symm))
section
variable{prog:Program}{w:World}{A:Around}{E:VL→SD→Prop}{s:SD}
def gather{T:String}{r d:AD}{n:Nat}{P:Nat→VL→Prop}{OK:Heap→Prop}{R:List VL→SD→Prop}(K:PySem.W.KdlSrc prog w T r d n P OK)(hA:A.handled=none)(Af:OK s.heap)(hn:n≤sizeLine)
 (k:∀(h1:Heap) (tk:Nat) (acc:Array VL),s.heap.objs.size<h1.objs.size→(∀b u,s.heap.get? b=some u→h1.get? b=some u)→ItemsOf P acc n→R acc.toList {s with heap:=h1,toks:=tk}) :
  wpAny (model prog w) A (collect (.ref r)) R E s:=by
 obtain⟨lr,ld⟩:=K.there _ Af;unfold collect;refine Wb (wpAny_runValue (codeAny_builtin entry_proto_collect' ?_));rw[Around.under_plainId PySem.F.plain_proto_collect _];show wpAny _ A.in1 (newList []>>=fun v=>again (.builtin "list.__iadd__" ⟨[v,.ref r],[]⟩)) _ _ s;refine Wb (ai (aA ⟨plainId_quiet PySem.F.plain_list_iadd _,codeAny_builtin entry_list_iadd' ?_⟩));rw[Around.under_plainId PySem.F.plain_list_iadd _];have g0:(s.heap.push { cls:=.type "list",data:=.seq ([]:List VL).toArray}).get? s.heap.objs.size=some { cls:=.type "list",data:=.seq #[]}:=aH _ rfl;have main:=PySem.W.kdl_extend (A:=A) (s:={s with heap:=s.heap.push { cls:=.type "list",data:=.seq ([]:List VL).toArray} }) K hA
  (K.keep _ _ Af fun _ _ _ e=>aC _ e) s.heap.objs.size (bK lr) (bK ld) (.ref s.heap.objs.size) 0 g0
  (R:=fun q s1=>∃h1 tk acc c,q=.ok (.ret (.ref s.heap.objs.size))∧s1={s with heap:=h1,toks:=tk}∧(∀b u,s.heap.get? b=some u→h1.get? b=some u)∧h1.get? s.heap.objs.size=some { cls:=.type "list",dict:=none,data:=.seq acc c,slots:=#[]}∧ItemsOf P acc n)
  (fun h1 tk acc c k1 g1 ha=>⟨h1,tk,acc,c,rfl,rfl,fun b u e=>k1 b u (aK (aD e)) (aC _ e),g1,ha⟩) hn
 refine af main (fun fin s1 x=>?_) fun e s1 x=>?_
 ·cases fin with
  |done f =>
   obtain⟨h1,tk,acc,c,e,rfl,k1,g1,ha⟩:=x;cases e;show wpAny _ A (load s.heap.objs.size>>=_) _ _ _;exact Wb (wpAny_load g1 (aA (k h1 tk acc (aD g1) k1 ha)))
  |again c1 =>
   refine⟨x.1,codeAny_mono x.2 fun q s2 y=>?_⟩;obtain⟨h1,tk,acc,c,rfl,rfl,k1,g1,ha⟩:=y;show wpAny _ A (load s.heap.objs.size>>=_) _ _ _;exact Wb (wpAny_load g1 (aA (k h1 tk acc (aD g1) k1 ha)))
 ·obtain⟨_,_,_,_,z,_⟩:=x;cases z
end
section
variable{prog:Program}{w:World}{A:Around}{E:VL→SD→Prop}{s:SD}{S:AD}{o:Obj}{ev:Array (Int×VL)}{et:ES}{ep:Nat}{t:SetTable}
def SI{Q:VL→SD→Prop}(hA:A.handled=none)(W:DM w o ev ep t)(ho:s.heap.get? S=some o)(R:CL G s.heap ev et)(h64:et.size<64)(hu:A.units+20<cLine)
 (h:∀(h':Heap) (D tk e1:Nat) (us:List VL),s.heap.objs.size≤D→(∀b u,s.heap.get? b=some u→h'.get? b=some u)→h'.get? D=some (seqObj "list" us.toArray e1)→Paired G us (Tr.Bh (et.toList.map (·.2))).reverse→us.length<64 →
   Q (.ref D) {s with heap:=h',toks:=tk}):wpAny (model prog w) A (call (.builtin "sorted") [.ref S]) Q E s:=by
 have hsz:=R.size;refine Calls.call_function_entry kind_sorted plain_sorted entry_sorted (args_sorted1 _) ?_;unfold Builtin.«sorted»;refine Wb (m:=checkCount "sorted" 1 1 _) (aA ?_);refine Wb (gather (A:=A.in1) (Xs W) hA ho (E2 (by lia)) fun h1 tk acc z1 k1 hacc=>?_);have hal:acc.toList=(D8 w S ep ev).toList.map (·.2):=by
  apply List.ext_getElem?;intro j;rw[List.getElem?_map];by_cases hj:j<acc.size
  ·have e1:acc[j]? = some acc[j]:=Array.getElem?_eq_getElem hj;obtain⟨z,e2⟩:=hacc.2 j _ e1;rw[Array.getElem?_toList,e1,Array.getElem?_toList,e2]
   rfl
  ·have hj2:¬j<(D8 w S ep ev).size:=by rw[Hw,←hacc.1];exact hj
   rw[List.getElem?_eq_none (by simpa using hj),List.getElem?_eq_none (by simpa using hj2)]
   rfl
 obtain⟨m,pm,rm⟩:=Paired.perm (Nh w S ep ev) R;have hvs:=Qi rm;rw[←hal]at hvs;have hd:(Tr.of (m.map (·.2))).deep≤8:=(Tr.Kw 8 _).mpr fun c hc=>by have:=Nv rm c hc;lia
 have hlen:acc.toList.length<64:=by rw[Array.length_toList,hacc.1,hsz];exact h64
 refine Wb (wpAny_newList ?_ (E2 (by lia)));have g1:(h1.push (seqObj "list" acc.toList.toArray 0)).get? h1.objs.size=some (seqObj "list" acc.toList.toArray 0):=aH _ rfl;have k2:∀b u,s.heap.get? b=some u→(h1.push (seqObj "list" acc.toList.toArray 0)).get? b=some u:=fun b u e=>aC _ (k1 b u e);refine Wb (aU (aS slot_list_sort ⟨_,g1,rfl⟩ entry_list_sort (Jk (s:={s with heap:=h1.push (seqObj "list" acc.toList.toArray 0),toks:=tk}) g1 (hvs.keeps fun b u e _=>k2 b u e) hlen
  (by rw[show A.in1.in1.units=A.units+2 from rfl];lia) fun ix a1 a2 a3=>⟨_,rfl,?_⟩) (args_list_sort _)))
 obtain⟨e1,he1⟩:=sortedHeap_at (vs:=acc.toList) (out:=(ix.map fun i=>acc.toList.getD i Value.none).toArray) g1;refine aA ⟨_,rfl,h _ h1.objs.size tk e1 (ix.map fun i=>acc.toList.getD i Value.none) ?_ (fun b u e=>?_) he1 ?_ (by rw[List.length_map,a1];exact hlen)⟩
 ·exact bA z1
 ·have lb:b<h1.objs.size:=aD (k1 b u e);rw[sortedHeap_old (aK lb) (by rw[Heap.size_push];exact bG lb)];exact k2 b u e
 ·have hg:=UG rm;rw[←hal]at hg;have:=Paired.WK hg Value.none Tr.nil ix a2;rw[Tr.Ku]at a3;rw[a3,Vb (pm.map (·.2))]at this;exact this
end
end TH
namespace TH
open PySem PyProof.Rows PySem.SeqAt
section
variable{prog:Program}{w:World}{E:VL→SD→Prop}
def Oi(prog:Program)(w:World)(E:VL→SD→Prop)(t:Tr):Prop:=∀(us:List VL) (A:Around) (s:SD) (b:Array Int) (Q:Array Int→SD→Prop),Vs s.heap t us→A.units+t.deep≤cLine →
 (∀b',b'.toList=b.toList++Gk t→Q b' {s with toks:=s.toks+(t.AR-1)})→wpAny (model prog w) A (forIn us b fun x r=>do let h ←pyHash x;pure PUnit.unit;pure (ForInStep.yield (r.push h))) Q E s
def KL{t:Tr}(row:Oi prog w E t){a:AD}{its:List VL}{A:Around}{s:SD}{Q:Int→SD→Prop}(h1:s.heap.IsTuple a its.toArray)(h2:Vs s.heap t its)(hu:A.units+t.deep<cLine)
 (h:Q (A0 t) {s with toks:=s.toks+t.AR}):wpAny (model prog w) A (pyHash (.ref a)) Q E s:=by
 have hT:=IsTuple.ty rfl h1;obtain⟨o,ho,hc,n,hd⟩:=id h1;refine PySem.W.pyHash_slot (T := "tuple") hT F.slot_tuple_hash F.entry_tuple_hash (F.args_tuple_hash_1 _) (beq_builtin_none _) (.inr (by lia)) ?_;show wpAny _ _ (Builtin.Tuple.tupleItemsOf (.ref a)>>=_) _ _ s;refine Wb (wpAny_tupleItemsOf ho hd ?_);refine Wb ?_;rw[←Array.forIn_toList];refine row its A.in1 s #[] _ h2 (by rw[Around.in1_units];lia) fun b hb=>?_;show wpAny _ _ (retInt (Builtin.Tuple.tupleHashOf b.toList)) _ _ _;rw[hb];have hk:s.toks+(t.AR-1)+1=s.toks+t.AR:=by have:=Tr.B1 t;lia
 refine Wb (wpAny_mkInt (aA ⟨_,_,rfl,?_⟩));rw[hk];exact h
def KJ:∀t:Tr,Oi prog w E t
 |.nil=>fun us A s b Q e _ h=>by rw[Vs]at e;subst e;exact aA (h b (by simp[Gk]))
 |.cons c r=>fun us A s b Q e hu h=>by
  rw[Vs]at e;obtain⟨a,its,rest,rfl,h1,h2,h3⟩:=e;have hd:(Tr.cons c r).deep=max (c.deep+1) r.deep:=rfl;have hk:(Tr.cons c r).AR=c.AR+r.AR:=rfl;have hr:=Tr.B1 r;rw[List.forIn_cons];refine Wb (Wb (KL (KJ c) h1 h2 (by lia) ?_));refine Wb (aA (aA ?_));refine KJ r rest A _ _ Q h3 (by lia) fun b' hb=>?_;have hz:s.toks+c.AR+(r.AR-1)=s.toks+((Tr.cons c r).AR-1):=by lia
  have:=h b' (by simp[hb,Gk,A0]);rw[←hz]at this;exact this
def HD(prog:Program)(w:World):HeapKind prog w Tr where
 is:=fun h t a=>t.deep<8∧∃its,h.IsTuple a its.toArray∧Vs h t its
 hash:=A0
 draws:=Tr.AR
 room:=fun A=>A.units+8<cLine
 inj:=fun⟨_,i1,a1,a2⟩ ⟨_,i2,b1,b2⟩=>by
  have:=Gf a1 b1;have e:i1=i2:=by simpa using this
  subst e;exact Vs.inj a2 b2
 keeps:=fun {h h' k a d o es ep} ⟨hd,its,h1,h2⟩ ho hdt sb=>by
  have kt:∀b u,h.get? b=some u→u.cls=.type "tuple" →(∃x n,u.data=.seq x n)→h'.get? b=some u:=fun b u e _ ⟨x,n,hx⟩=>by
   rw[sb.2 b fun z=>?_]
   ·exact e
   ·subst z;rw[ho]at e;cases e;rw[hdt]at hx;cases hx
  have kv:∀ {t:Tr} {us:List VL},Vs h t us→Vs h' t us:=fun {t}=>by
   induction t with
   |nil=>intro us e;rw[Vs]at e ⊢;exact e
   |cons b r ih1 ih2 =>
    intro us e;rw[Vs]at e ⊢;obtain⟨a,its,rest,e1,⟨u,hu,hc,n,hx⟩,e3,e4⟩:=e;exact⟨a,its,rest,e1,⟨u,kt _ _ hu hc ⟨_,n,hx⟩,hc,n,hx⟩,ih1 e3,ih2 e4⟩
  obtain⟨u,hu,hc,n,hx⟩:=h1;exact⟨hd,its,⟨u,kt _ _ hu hc ⟨_,n,hx⟩,hc,n,hx⟩,kv h2⟩
 pyHash:=fun hr ⟨hd,its,h1,h2⟩ h=>KL (KJ _) h1 h2 (by lia) h
 eqBool:=fun {A E s x y a b Q} hr ⟨hd,its,h1,h2⟩ ⟨_,its2,k1,k2⟩ h=>Pn h1 h2 k1 k2 (by lia) prog w E Q h
 quiet:=fun⟨hd,its,h1,h2⟩ h=>quiet 8 ⟨_,its,_,rfl,h1,h2,hd⟩ h
end
end TH
namespace TH
open PySem PyProof.Rows
def BG:Option Tr→Int
 |none=>4238894112
 |some t=>A0 t
def C3:Option Tr→Nat
 |none=>1
 |some t=>t.AR
def GV(h:Heap):Option Tr→VL→Prop
 |none,v=>v=.none
 |some t,v=>∃a,v=.ref a∧t.deep<8∧∃its,h.IsTuple a its.toArray∧Vs h t its
abbrev KE:=Option Tr×VL×VL
def CK(x:KE):DictEntry:=⟨BG x.1,x.2.1,x.2.2⟩
def MK{p:Nat→Bool}{j:Nat}:∀ {n:Nat},j<n→p j=true→(∀i,i<n→p i=true→i=j)→(List.range n).filter p=[j]
 |0,h,_,_=>absurd h (ah _)
 |n+1,h,hp,hu=>by
  rw[List.range_succ,List.filter_append];by_cases e:j=n
  ·subst e;have:(List.range j).filter p=[]:=List.filter_eq_nil_iff.mpr fun i hi hpi=>by
    have:=ae.mp hi;have:=hu i (by lia) hpi
    lia
   rw[this];simp[hp]
  ·have hn:p n=false:=by
    cases q:p n with
    |false=>rfl
    |true=>exact absurd (hu n (by lia) q).symm e
   rw[MK (show j<n by lia) hp fun i hi=>hu i (by lia)];simp[hn]
section
variable{prog:Program}{w:World}{A:Around}{E:VL→SD→Prop}{s:SD}{d:AD}{o:Obj}{es:Array DictEntry}{ep:Nat}{xs:List KE}{k:Option Tr}{kv:VL}
def Io(he:es.toList=xs.map CK)(j:Nat):es[j]? = (xs[j]?).map CK:=by rw[←Array.getElem?_toList,he,List.getElem?_map]
def Ol(he:es.toList=xs.map CK):es.size=xs.length:=by rw[←Array.length_toList,he,List.length_map]
def NQ(he:es.toList=xs.map CK)(hap:∀x∈xs,BG x.1=BG k→x.1=k)(hno:∀x∈xs,x.1≠k):placesWithHash es.size (fun i=>es[i]?.map (·.hash)) (BG k)=[]:=by
 unfold placesWithHash;refine List.filter_eq_nil_iff.mpr fun i hi hp=>?_;dsimp only at hp;rw[Io he]at hp;cases q:xs[i]? with
 |none=>rw[q]at hp;simp at hp
 |some x =>
  rw[q]at hp;have hx:=aP q;have:BG x.1=BG k:=by simpa[CK]using hp
  exact hno x hx (hap x hx this)
def MT(he:es.toList=xs.map CK)(hap:∀x∈xs,BG x.1=BG k→x.1=k)(hn:(xs.map (·.1)).Nodup){j:Nat}{x:KE}(hj:xs[j]? = some x)(hx:x.1=k):placesWithHash es.size (fun i=>es[i]?.map (·.hash)) (BG k)=[j]:=by
 unfold placesWithHash;have hl:j<xs.length:=(aE.mp hj).1;refine MK (by rw[Ol he];exact hl) (by dsimp only;rw[Io he,hj,←hx];simp[CK]) fun i hi hp=>?_;dsimp only at hp;rw[Io he]at hp;cases q:xs[i]? with
 |none=>rw[q]at hp;simp at hp
 |some y =>
  rw[q]at hp;have hy:=hap y (aP q) (by simpa[CK]using hp);have h1:(xs.map (·.1))[i]? = some k:=by rw[List.getElem?_map,q];show some y.1=_;rw[hy]
  have h2:(xs.map (·.1))[j]? = some k:=by rw[List.getElem?_map,hj];show some x.1=_;rw[hx]
  exact(List.getElem?_inj (aE.mp h1).1 hn).mp (h1.trans h2.symm)
def Xh{Q:Bool→SD→Prop}(h:Q true s):wpAny (model prog w) A (eqBool .none .none) Q E s:=by
 unfold eqBool;rw[if_pos (by rfl)];exact Wb (bH (aA h))
def GV.inj{h:Heap}{x y:Option Tr}{v:VL}(a:GV h x v)(b:GV h y v):x=y:=by
 cases x with
 |none =>
  cases y with
  |none=>rfl
  |some t =>
   obtain⟨_,e,_⟩:=b;rw[show v=.none from a]at e;cases e
 |some u =>
  cases y with
  |none =>
   obtain⟨_,e,_⟩:=a;rw[show v=.none from b]at e;cases e
  |some t =>
   obtain⟨a1,e1,k1⟩:=a;obtain⟨a2,e2,k2⟩:=b;rw[e1]at e2;cases e2;obtain⟨_,i1,b1,b2⟩:=k1;obtain⟨_,i2,c1,c2⟩:=k2;have:i1=i2:=by simpa using Gf b1 c1
   subst this;rw[Vs.inj b2 c2]
def S5{Q:Option Nat→SD→Prop}(hu:A.units+8<cLine)(hk:GV s.heap k kv)(ho:s.heap.get? d=some o)(hd:o.data=.dict es ep)(he:es.toList=xs.map CK)(his:∀x∈xs,GV s.heap x.1 x.2.1)(hn:(xs.map (·.1)).Nodup)(hap:∀x∈xs,BG x.1=BG k→x.1=k)
 (hno:(∀x∈xs,x.1≠k)→Q none s)(hyes:∀(j:Nat) (x:KE),xs[j]? = some x→x.1=k→Q (some j) s):wpAny (model prog w) A (dictFind d kv (BG k)) Q E s:=by
 unfold dictFind
 try with_reducible refine aU ?_
 refine Wb (wpAny_dictEntries ho hd ?_);cases k with
 |none =>
  have hk:kv=.none:=hk;subst hk;dsimp only;by_cases hx:∃x∈xs,x.1=none
  ·obtain⟨x,hm,hx⟩:=hx;obtain⟨j,hj⟩:=List.mem_iff_getElem?.mp hm;have hp:=MT (k:=none) he hap hn hj hx;have hej:es[j]? = some ⟨BG none,.none,x.2.2⟩:=by
    rw[Io he,hj];have h1:=his x hm;rw[hx]at h1;show some (CK x)=_;unfold CK;rw[hx,show x.2.1=Value.none from h1]
   rw[hp];rw[if_pos (by simp[hej,carriedByValue])];unfold dictWalkPlain;simp only[List.forIn_cons,List.forIn_nil,hej];refine Wb (Wb ?_);rw[if_pos (by simp)];refine Wb (wpAny_dictEpoch ho hd (Wb (Xh (Wb (wpAny_dictEpoch ho hd ?_)))));rw[if_neg (by simp),if_pos rfl];exact Wb (bH (aA (aA (aA (hyes j x hj hx)))))
  ·have hp:=NQ (k:=none) he hap fun x hm z=>hx ⟨x,hm,z⟩;rw[hp,if_pos (by simp[carriedByValue])];unfold dictWalkPlain;simp only[List.forIn_nil];exact Wb (aA (aA (hno fun x hm z=>hx ⟨x,hm,z⟩)))
 |some t =>
  obtain⟨a,rfl,hta⟩:=hk;dsimp only;have hany:¬(es.any fun e=>e.key==Value.ref a&&e.hash != BG (some t))=true:=by
   intro z;rw[←Array.any_toList,he,List.any_eq_true]at z;obtain⟨e,hm,z⟩:=z;obtain⟨x,hx,rfl⟩:=aj.mp hm;rw[Bool.and_eq_true]at z;have h1:x.2.1=.ref a:=by simpa[CK]using z.1
   have h2:=his x hx;rw[h1]at h2;have h3:=h2.inj (show GV s.heap (some t) (.ref a) from⟨a,rfl,hta⟩);have h4:=z.2;rw[CK,h3]at h4;simp at h4
  by_cases hx:∃x∈xs,x.1=some t
  ·obtain⟨x,hm,hx⟩:=hx;obtain⟨j,hj⟩:=List.mem_iff_getElem?.mp hm;have hp:=MT (k:=some t) he hap hn hj hx;have h1:=his x hm;rw[hx]at h1;obtain⟨b,hb,htb⟩:=h1;have hej:es[j]? = some ⟨BG (some t),.ref b,x.2.2⟩:=by
    rw[Io he,hj];show some (CK x)=_;unfold CK;rw[hx,hb]
   have hst:([j].filterMap fun i=>es[i]?.map (·.key))=[.ref b]:=by simp[hej]
   rw[hp,hst,if_neg (by simp[carriedByValue]),if_neg hany];by_cases hone:(([Value.ref b]:List VL)==[Value.ref a])=true<;>(first|rw[if_pos hone]|rw[if_neg hone])<;>(first|refine Wb (aA ?_)|refine Wb (wpAny_tableMayTell_quiet (knd:=HD prog w) hta (fun v hv=>⟨t,b,List.mem_singleton.mp hv,htb⟩) ?_))<;>(
    rw[if_neg (by simp)];simp only[List.forIn_cons,List.forIn_nil,hej];refine Wb (Wb ?_);rw[if_pos (by simp)];refine Wb (wpAny_dictEpoch ho hd (Wb ((HD prog w).eqBool (x:=t) (y:=t) hu htb hta (Wb (wpAny_dictEpoch ho hd ?_)))));rw[if_neg (by simp),if_pos (by simp),if_neg (by simp)];refine Wb (bH ?_);rw[if_pos (by simp)];exact aA (aA (aA (hyes j x hj hx))))
  ·have hp:=NQ (k:=some t) he hap fun x hm z=>hx ⟨x,hm,z⟩;rw[hp,if_neg (by simp[carriedByValue]),if_neg hany];rw[if_neg (by simp)];refine Wb (wpAny_tableMayTell_quiet (knd:=HD prog w) hta (fun v hv=>by cases hv) ?_);rw[if_neg (by simp)];simp only[List.forIn_nil];exact Wb (aA (aA (hno fun x hm z=>hx ⟨x,hm,z⟩)))
def Sl{Q:Int→SD→Prop}(hu:A.units+8<cLine)(hk:GV s.heap k kv)(h:Q (BG k) {s with toks:=s.toks+C3 k}):wpAny (model prog w) A (pyHash kv) Q E s:=by
 cases k with
 |some t =>
  obtain⟨a,rfl,hta⟩:=hk;exact(HD prog w).pyHash hu hta h
 |none =>
  have hk:kv=.none:=hk;subst hk;have ht:s.TypeIs .none "NoneType" := rfl;unfold pyHash pyHashByItsType;have hv:[Value.none].any Value.onHeap=false:=rfl;refine Wb ?_;rw[cRoomFor,if_neg (by rw[hv];exact aJ)];refine aA ?_;refine Wb (wpAny_specialOf ht F.slot_NoneType_hash.lookup ?_);show wpAny _ _ (if(some (Value.builtin "NoneType.__hash__")==some Value.none)=true then _ else _) Q E s;rw[if_neg (by rw[beq_builtin_none];exact aJ)];refine Wb (wpAny_specialOf ht F.slot_NoneType_hash.lookup ?_);show wpAny _ _ (callSpecialIfBoundUnlessNone? .none "__hash__" _>>=_) Q E s;refine Wb (wpAny_callSpecialIfBoundUnlessNone?_slot ht F.slot_NoneType_hash
   (aS F.slot_NoneType_hash ht F.entry_NoneType_hash
    (show wpAny _ _ (do ret (←mkInt 4238894112)) _ _ s from wpAny_ret_mkInt ?_) (F.args_NoneType_hash_1 _)))
  show wpAny _ _ (if(decide (-(2:Int)^63≤4238894112)&&decide ((4238894112:Int)<2^63))=true then _ else _) Q E _;rw[if_pos (by decide)];exact aA h
def Dk(xs:List KE)(k:Option Tr):Option KE:=xs.find? fun x=>decide (x.1=k)
def MS(hn:(xs.map (·.1)).Nodup){j:Nat}{x:KE}(hj:xs[j]? = some x)(hx:x.1=k):Dk xs k=some x:=by
 unfold Dk;cases q:xs.find? (fun x=>decide (x.1=k)) with
 |none=>exact absurd (decide_eq_true hx) (List.find?_eq_none.mp q x (aP hj))
 |some y =>
  have h1:y.1=k:=by simpa using List.find?_some q
  obtain⟨i,hi⟩:=List.mem_iff_getElem?.mp (List.mem_of_find?_eq_some q);have e1:(xs.map (·.1))[i]? = some k:=by rw[List.getElem?_map,hi];show some y.1=_;rw[h1]
  have e2:(xs.map (·.1))[j]? = some k:=by rw[List.getElem?_map,hj];show some x.1=_;rw[hx]
  have:=(List.getElem?_inj (aE.mp e1).1 hn).mp (e1.trans e2.symm);subst this;rw[hi]at hj;exact hj
def Me(h:∀x∈xs,x.1≠k):Dk xs k=none:=List.find?_eq_none.mpr fun x hx=>by simpa using h x hx
structure Gh(h:Heap)(d:Addr)(xs:List KE):Prop where
 ob:∃o es ep,h.get? d=some o∧o.ExactDict∧o.data=.dict es ep∧es.toList=xs.map CK
 ks:∀x∈xs,GV h x.1 x.2.1
 nd:(xs.map (·.1)).Nodup
def Gh.ty(hm:Gh s.heap d xs):s.TypeIs (.ref d) "dict" := let⟨o,_,_,ho,hc,_⟩:=hm.ob;⟨o,ho,hc.1⟩
def V4{Q:Option VL→SD→Prop}(hu:A.units+8<cLine)(hk:GV s.heap k kv)(hm:Gh s.heap d xs)(hap:∀x∈xs,BG x.1=BG k→x.1=k)(h:Q ((Dk xs k).map (·.2.2)) {s with toks:=s.toks+C3 k}):wpAny (model prog w) A (dictGet d kv) Q E s:=by
 obtain⟨o,es,ep,ho,_,hd,he⟩:=hm.ob;unfold dictGet
 try with_reducible refine aU ?_
 refine Wb (Sl hu hk (Wb (S5 (s:={s with toks:=s.toks+C3 k}) hu hk ho hd he hm.ks hm.nd hap (fun hno=>?_) fun j x hj hx=>?_)))
 ·rw[Me hno]at h;exact aA h
 ·rw[MS hm.nd hj hx]at h;refine Wb (wpAny_dictEntries (s:={s with toks:=s.toks+C3 k}) ho hd ?_);rw[Io he j,hj];exact aA h
def Yi{x:KE}{Q:VL→SD→Prop}(hu:A.in1.units+8<cLine)(hk:GV s.heap k kv)(hm:Gh s.heap d xs)(hap:∀x∈xs,BG x.1=BG k→x.1=k)(hx:Dk xs k=some x)(h:Q x.2.2 {s with toks:=s.toks+C3 k}):wpAny (model prog w) A (getItem (.ref d) kv) Q E s:=by
 unfold getItem
 try with_reducible refine aU ?_
 refine Wb (wpAny_sequenceKey hm.ty (by decide) ?_);refine Wb (aY (name:=Str.ofString "__getitem__") hm.ty slot_dict_getitem (aS slot_dict_getitem hm.ty entry_dict_getitem ?_ (args_dict_getitem _ _)));show wpAny _ _ (dictGet d kv>>=_) _ _ s;refine Wb (V4 hu hk hm hap ?_);rw[hx];exact aA ⟨x.2.2,rfl,wpAny_pure h⟩
def ef{Q:VL→SD→Prop}(hu:A.in1.units+8<cLine)(hk:GV s.heap k kv)(hd:(d==sysModules)=false)(hm:Gh s.heap d xs)(hap:∀x∈xs,BG x.1=BG k→x.1=k)(neg:Bool)
 (h:Q (.bool (if neg then !(Dk xs k).isSome else(Dk xs k).isSome)) {s with toks:=s.toks+C3 k}):wpAny (model prog w) A (compareOp (if neg then .NotIn else .In) kv (.ref d)) Q E s:=by
 have key:∀ {Q:Bool→SD→Prop},Q (Dk xs k).isSome {s with toks:=s.toks+C3 k}→wpAny (model prog w) A (contains (.ref d) kv) Q E s:=fun {Q} h=>by
  unfold contains
  try with_reducible refine aU ?_
  refine Wb (wpAny_specialOf hm.ty slot_dict_contains.lookup ?_);show wpAny _ _ (if(some (Value.builtin "dict.__contains__")==some Value.none)=true then _ else _) _ E s;rw[if_neg (by rw[beq_builtin_none];exact aJ)];refine Wb (wpAny_callSpecialUnlessNone?_slot (name:=Str.ofString "__contains__") hm.ty slot_dict_contains (aS slot_dict_contains hm.ty entry_dict_contains ?_ (args_dict_contains _ _)));show wpAny _ _ (dictGet d kv>>=_) _ _ s;refine Wb (V4 hu hk hm hap ?_);cases hf:Dk xs k with
  |some p =>
   rw[hf]at h;show wpAny _ _ (ret (.bool true)) _ _ _;exact aA ⟨_,rfl,wpAny_truthy_bool h⟩
  |none =>
   rw[hf]at h;show wpAny _ _ (Builtin.Dict.pendingKey? d kv>>=_) _ _ _;exact Wb (wpAny_pendingKey_other hd (aA ⟨_,rfl,wpAny_truthy_bool h⟩))
 cases neg with
 |false =>
  show wpAny _ _ (do return .bool (←contains (.ref d) kv)) Q E s;exact Wb (key (aA h))
 |true =>
  show wpAny _ _ (do return .bool (!(←contains (.ref d) kv))) Q E s;exact Wb (key (aA h))
def putN(k:Option Tr)(v:VL)(x:KE):KE:=if x.1=k then(x.1,x.2.1,v) else x
def Eo(xs:List KE)(k:Option Tr)(kv v:VL):List KE:=if(Dk xs k).isSome then xs.map (putN k v) else xs++[(k,kv,v)]
def PH(v:VL):∀xs:List KE,(xs.map (putN k v)).map (·.1)=xs.map (·.1)
 |[]=>rfl
 |x::xs=>by
  rw[List.map_cons,List.map_cons,List.map_cons,PH v xs]
  congr 1
  unfold putN;split<;>rfl
def Lz{v:VL}:∀ {xs:List KE} {j:Nat} {x:KE},(xs.map (·.1)).Nodup→xs[j]? = some x→x.1=k→(xs.map CK).modify j (fun e=>{e with val:=v})=(xs.map (putN k v)).map CK
 |[],_,_,_,h,_=>by simp at h
 |y::ys,0,x,hn,h,hx=>by
  have:y=x:=by simpa using h
  subst this;rw[List.map_cons,List.nodup_cons]at hn;rw[List.map_cons,List.map_cons,List.map_cons];have hno:ys.map (putN k v)=ys:=by
   refine(List.map_congr_left fun z hz=>?_).trans (List.map_id _);unfold putN;rw[if_neg fun e=>hn.1 (by rw[hx,←e];exact List.mem_map_of_mem hz)]
   rfl
  rw[hno];show { CK y with val:=v}::ys.map CK=_
  congr 1
  unfold putN;rw[if_pos hx]
  rfl
 |y::ys,j+1,x,hn,h,hx=>by
  have h':ys[j]? = some x:=by simpa using h
  rw[List.map_cons,List.nodup_cons]at hn;rw[List.map_cons,List.map_cons,List.map_cons];have hy:putN k v y=y:=by
   unfold putN;rw[if_neg fun e=>hn.1 (by rw[e,←hx];exact List.mem_map_of_mem (aP h'))]
  rw[hy];show CK y::(ys.map CK).modify j _=_;rw[Lz hn.2 h' hx]
def GV.keep{h h':Heap}{k:Option Tr}{v:VL}{o:Obj}{es ep}(a:GV h k v)(prog:Program)(w:World)(ho:h.get? d=some o)(hd:o.data=.dict es ep)(sb:Heap.SameBut d h h'):GV h' k v:=by
 cases k with
 |none=>exact a
 |some t =>
  obtain⟨a1,e1,k1⟩:=a;exact⟨a1,e1,(HD prog w).keeps k1 ho hd sb⟩
def cR{v:VL}{Q:Unit→SD→Prop}(hu:A.in1.units+8<cLine)(hk:GV s.heap k kv)(hm:Gh s.heap d xs)(hap:∀x∈xs,BG x.1=BG k→x.1=k)(hz:xs.length≤sizeLine)
 (hQ:∀h',Gh h' d (Eo xs k kv v)→Heap.SameBut d s.heap h'→Q () {s with heap:=h',toks:=s.toks+C3 k}):wpAny (model prog w) A (setItem (.ref d) kv v) Q E s:=by
 unfold setItem
 try with_reducible refine aU ?_
 refine Wb (wpAny_sequenceKey hm.ty (by decide) ?_);refine Wb (aY (name:=Str.ofString "__setitem__") hm.ty slot_dict_setitem (aS slot_dict_setitem hm.ty entry_dict_setitem ?_ (args_dict_setitem _ _ _)));show wpAny _ _ (Builtin.Dict.notOrdered "__setitem__" ⟨[.ref d,kv,v],[]⟩>>=_) _ _ s;refine Wb (wpAny_notOrdered_dict hm.ty ?_);show wpAny _ _ (dictSet d kv v>>=_) _ _ s;refine Wb ?_;have fin:∀h',Gh h' d (Eo xs k kv v)→Heap.SameBut d s.heap h'→wpAny (model prog w) A.in1 (ret .none) (fun fin s'=>∃v,fin=.done (.ret v)∧wpAny (model prog w) A (pure ()) Q E s') E {s with heap:=h',toks:=s.toks+C3 k}:=fun h' h1 h2=>aA ⟨.none,rfl,wpAny_pure (hQ h' h1 h2)⟩;obtain⟨o,es,ep,ho,hc,hd,he⟩:=hm.ob;unfold dictSet
 try with_reducible refine aU ?_
 refine Wb (Sl hu hk ?_);unfold dictSetHashed
 try with_reducible refine aU ?_
 refine Wb (S5 (s:={s with toks:=s.toks+C3 k}) hu hk ho hd he hm.ks hm.nd hap (fun hno=>?_) fun j x hj hx=>?_)
 ·have es':Eo xs k kv v=xs++[(k,kv,v)]:=by unfold Eo;rw[Me hno];rfl
  rw[es']at fin;refine Wb (bH (wpAny_updateDictKeys (hz:=by rw[Ol he];exact hz) (s:={s with toks:=s.toks+C3 k}) ho hd (fin _ ⟨⟨_,_,ep+1,Heap.get?_update_self _ ho (Obj.isFreed_of_dict (Obj.data_mapDictKeys hd _)),hc.mapDictKeys _,Obj.data_mapDictKeys hd _,?_⟩,fun y hy=>?_,?_⟩ (aZ ..))))
  ·simp[he,CK]
  ·rcases bR.mp hy with h|h
   ·exact(hm.ks y h).keep prog w ho hd (aZ ..)
   ·rw[List.mem_singleton.mp h];exact hk.keep prog w ho hd (aZ ..)
  ·rw[List.map_append,List.nodup_append];refine⟨hm.nd,by simp,fun a ha b hb=>?_⟩;have:b=k:=by simpa using hb
   subst this;obtain⟨y,hy,rfl⟩:=aj.mp ha;exact hno y hy
 ·have es':Eo xs k kv v=xs.map (putN k v):=by unfold Eo;rw[MS hm.nd hj hx];rfl
  rw[es']at fin;refine Wb (bH (Wb (wpAny_updateDict (s:={s with toks:=s.toks+C3 k}) ho hd (wpAny_point (fin _ ⟨⟨_,_,ep,Heap.get?_update_self _ ho (Obj.isFreed_of_dict (Obj.data_mapDict hd _)),hc.mapDict _,Obj.data_mapDict hd _,?_⟩,fun y hy=>?_,?_⟩ (aZ ..))))))
  ·have:=Lz (v:=v) hm.nd hj hx;rw[←he]at this;obtain⟨l⟩:=es
   simpa using this
  ·obtain⟨z,hz',rfl⟩:=aj.mp hy;unfold putN;split<;>exact(hm.ks z hz').keep prog w ho hd (aZ ..)
  ·rw[PH];exact hm.nd
end
end TH
namespace L2
open PySem PySem.Spec PyProof.Rows
abbrev KR:=Option Tr×V×V
def Mr(q:KR)(x:TH.KE):Prop:=x.1=q.1∧RelV q.2.1 x.2.1∧RelV q.2.2 x.2.2
def dN(d:AD)(r:List KR):HO:=.ext fun h=>(d==sysModules)=false∧∃o es ep xs,h.get? d=some o∧o.ExactDict∧o.data=.dict es ep∧es.toList=xs.map TH.CK∧PySem.Paired Mr r xs
def GL(H:Hp):Option Tr→V→Prop
 |none,v=>v=.BI
 |some t,v=>t.deep<8∧Tv H t v
def GL.same{H H':Hp}{k:Option Tr}{v:V}(h:GL H k v)(e:AG H H'):GL H' k v:=by
 cases k with
 |none=>exact h
 |some t=>exact⟨h.1,h.2.same e⟩
structure PL(H:Hp)(d:Addr)(r:List KR)(k:Option Tr):Prop where
 at_:H d=some (dN d r)
 ks:∀q∈r,GL H q.1 q.2.1
 nd:(r.map (·.1)).Nodup
 ap:∀q∈r,TH.BG q.1=TH.BG k→q.1=k
def MQ{α β:Type}{R:α→β→Prop}{l:List α}{m:List β}(h:PySem.Paired R l m):∀x∈m,∃q∈l,R q x:=by
 induction h with
 |nil=>intro x hx;cases hx
 |cons a _ ih =>
  intro x hx;rcases aL.mp hx with rfl|hx
  ·exact⟨_,.head _,a⟩
  ·obtain⟨q,h1,h2⟩:=ih x hx;exact⟨q,.tail _ h1,h2⟩
def NI{r:List KR}{xs:List TH.KE}(h:PySem.Paired Mr r xs):xs.map (·.1)=r.map (·.1):=by
 induction h with
 |nil=>rfl
 |cons a _ ih=>rw[List.map_cons,List.map_cons,ih,a.1]
section
variable{X:Cx}{pins:List (AD×Obj)}{σ:St}{H:Hp}{s:SD}{pos:Pos}
def GL.raw(I:Inv X pins σ H s){k:Option Tr}{v:V}{u:VL}(h:GL H k v)(r:RelV v u):TH.GV s.heap k u:=by
 cases k with
 |none =>
  have h:v=.BI:=h;subst h;exact r
 |some t =>
  obtain⟨h1,a,ys,rfl,h2,h3⟩:=h;obtain⟨its,rv,p,_⟩:=I.tuple (Au.of (K:=X.K) h2);exact⟨a,r,h1,its,p,h3.vs I rv⟩
def QA(I:Inv X pins σ H s){d:AD}{r:List KR}{k:Option Tr}(h:PL H d r k):(d==sysModules)=false∧∃xs,TH.Gh s.heap d xs∧PySem.Paired Mr r xs∧∀x∈xs,TH.BG x.1=TH.BG k→x.1=k:=by
 obtain⟨hs,o,es,ep,xs,g1,g2,g3,g4,g5⟩:=(show Bb X.prog X.w H s.heap d (dN d r) from I.Af d _ h.at_).1;refine⟨hs,xs,⟨⟨o,es,ep,g1,g2,g3,g4⟩,fun x hx=>?_,by rw[NI g5];exact h.nd⟩,g5,fun x hx=>?_⟩
 ·obtain⟨q,h1,h2,h3,_⟩:=MQ g5 x hx;rw[h2];exact(h.ks q h1).raw I h3
 ·obtain⟨q,h1,h2,_⟩:=MQ g5 x hx;rw[h2];exact h.ap q h1
def Lc{r:List KR}{xs:List TH.KE}(h:PySem.Paired Mr r xs)(k:Option Tr):match r.find? (fun q=>decide (q.1=k)) with
  |some q=>∃x,TH.Dk xs k=some x∧RelV q.2.2 x.2.2
  |none=>TH.Dk xs k=none:=by
 induction h with
 |nil=>exact rfl
 | @cons q x l m a _ ih =>
  unfold TH.Dk at ih ⊢;rw[List.find?_cons,List.find?_cons,a.1];by_cases z:q.1=k
  ·simp only[decide_eq_true z];exact⟨x,rfl,a.2.2⟩
  ·simp only[decide_eq_false z];exact ih
def d8:R2:=fun x y H Q=>∃d r k q,x=.ref d∧GL H k y∧PL H d r k∧r.find? (fun q=>decide (q.1=k))=some q∧Q q.2.2 H
def Zc{o i:Expr}{td ty:TE}(hu:X.A.units+64<cLine)(ho:PE X o td)(hi:PE X i ty)(hs:SV i):PE X (.Subscript o i pos) (Sm d8 td ty):=by
 intro pins s σ H Q I h;refine Qq PySem.F.slot_dict_getitem.lookup hs (Az (ho pins s σ H _ I h) fun u s1 ⟨x,H1,I1,rx,q1⟩=>Az (hi pins s1 σ H1 _ I1 q1) fun iv s2 ⟨y,H2,I2,ry,q2⟩=>?_);obtain⟨d,r,k,q,rfl,hk,hD,hf,q3⟩:=q2;obtain rfl:u=Value.ref d:=rx;obtain⟨hsm,xs,hm,hp,hap⟩:=QA I2 hD;have hr:=Lc hp k;rw[hf]at hr;obtain⟨x,h1,h2⟩:=hr;exact⟨hm.ty,TH.Yi (by show X.A.in1.units+8<cLine;rw[Around.in1_units];lia) (hk.raw I2 ry) hm hap h1 ⟨q.2.2,H2,I2.tok _,h2,q3⟩⟩
def ec(neg:Bool):R2:=fun x y H Q=>∃d r k,y=.ref d∧GL H k x∧PL H d r k∧Q (.bl (if neg then !(r.find? (fun q=>decide (q.1=k))).isSome else(r.find? (fun q=>decide (q.1=k))).isSome)) H
def Y5(hu:X.A.units+64<cLine)(neg:Bool):Bv X (compareOp (if neg then .NotIn else .In)) (ec neg):=by
 intro pins s σ H x y v u Q I rx ry h;obtain⟨d,r,k,rfl,hk,hD,q⟩:=h;obtain rfl:u=Value.ref d:=ry;obtain⟨hsm,xs,hm,hp,hap⟩:=QA I hD;have hr:=Lc hp k;have e:(TH.Dk xs k).isSome=(r.find? (fun q=>decide (q.1=k))).isSome:=by
  split at hr
  ·rename_i q e;obtain⟨x,h1,_⟩:=hr;rw[h1,e];rfl
  ·rename_i e;rw[hr,e];rfl
 refine TH.ef (by show X.A.in1.units+8<cLine;rw[Around.in1_units];lia) (hk.raw I rx) hsm hm hap neg ?_;rw[e];exact⟨.bl _,H,I.tok _,rfl,q⟩
def D7(r:List KR)(k:Option Tr)(kv v:V):List KR:=if(r.find? (fun q=>decide (q.1=k))).isSome then r.map (fun q=>if q.1=k then(q.1,q.2.1,v) else q) else r++[(k,kv,v)]
def XX{r:List KR}{xs:List TH.KE}{k:Option Tr}{kv v:V}{ku u:VL}(h:PySem.Paired Mr r xs)(hk:RelV kv ku)(hv:RelV v u):PySem.Paired Mr (D7 r k kv v) (TH.Eo xs k ku u):=by
 have hr:=Lc h k;unfold D7 TH.Eo;split at hr
 ·rename_i q e;obtain⟨x,h1,_⟩:=hr;rw[h1,e];simp only[Option.isSome_some,if_true];clear e h1 hk
  induction h with
  |nil=>exact .nil
  | @cons q x l m a _ ih =>
   rw[List.map_cons,List.map_cons];refine .cons ?_ ih;unfold TH.putN;rw[a.1];by_cases z:q.1=k
   ·rw[if_pos z,if_pos z];exact⟨rfl,a.2.1,hv⟩
   ·rw[if_neg z,if_neg z];exact a
 ·rename_i e;rw[hr,e];exact h.snoc ⟨rfl,hk,hv⟩
def cc:Rr:=fun o i v H Q=>∃d r k,o=.ref d∧GL H k i∧PL H d r k∧r.length≤1000∧Q (upd H d (dN d (D7 r k i v)))
def ZK(hu:X.A.units+64<cLine):ZZ X cc:=by
 intro pins s σ H o i v ov iv u Q I ro ri rv h;obtain⟨d,r,k,rfl,hk,hD,hl,q⟩:=h;obtain rfl:ov=Value.ref d:=ro;obtain⟨hsm,xs,hm,hp,hap⟩:=QA I hD;have hle:xs.length=r.length:=by have:=bF List.length (NI hp);simpa using this
 refine TH.cR (by show X.A.in1.units+8<cLine;rw[Around.in1_units];lia) (hk.raw I ri) hm hap (aM (by lia:xs.length≤1000) (by rw[sizeLine_eq];decide)) fun h' hm' sb=>?_;obtain⟨o',es,ep,g1,g2,g3,g4⟩:=hm'.ob;refine⟨_,I.write (x:=d) (e:=d) (o:=dN d (D7 r k i v)) (t':=s.toks+TH.C3 k) (by rw[hD.at_];exact trivial) (.inl rfl) (fun b w' hb e=>(sb.2 b hb).trans e) ⟨o',g1⟩ ?_,q⟩;exact⟨⟨hsm,o',es,ep,_,g1,g2,g3,g4,XX hp ri rv⟩,⟨o',g1⟩,fun h1 h2 ⟨a,o,es,ep,xs,q,r⟩ k=>⟨a,o,es,ep,xs,k _ q,r⟩⟩
def Y0:TE:=fun _ H Q=>∀p,H p=none→Q (.ref p) (upd H p (dN p []))
def V1:PE X (.Dict [] [] pos) Y0:=fun pins s σ H Q I h=>by
 refine wpAny_Dict_empty ⟨.ref s.heap.objs.size,_,I.laid (a:=s.heap.objs.size) (o:=dN s.heap.objs.size []) (t':=s.toks) (fun _ _ q=>aC _ q) (aG _) ?_,rfl,h _ (I.Af.fresh (aG _))⟩;have hb:sysModules<s.heap.objs.size:=Nat.lt_trans (by decide) (I.mod.glob.keeps I.bk).lt;have hn:(s.heap.objs.size==sysModules)=false:=beq_eq_false_iff_ne.mpr (Ne.symm (aK hb));exact⟨⟨hn,_,#[],0,[],Heap.get?_push_size _ rfl,⟨rfl,rfl,rfl⟩,rfl,rfl,.nil⟩,⟨_,Heap.get?_push_size _ rfl⟩,fun h1 h2 ⟨a,o,es,ep,xs,q,r⟩ k=>⟨a,o,es,ep,xs,k _ q,r⟩⟩
def find_key{r:List KR}{k:Option Tr}{q:KR}(h:r.find? (fun q=>decide (q.1=k))=some q):q∈r∧q.1=k:=⟨List.mem_of_find?_eq_some h,by simpa using List.find?_some h⟩
end
section
variable{X:Cx}
def TX(hc:X.calm=true):Cv X (.builtin "sum") (fun xs H Q=>∃(p:AD) (ns:List Int),xs=[.ref p]∧Au X.K H p (ns.map V.int)∧Q (.int ns.sum) H):=by
 intro pins s σ H xs us Q I r h;obtain⟨p,ns,rfl,hq,q⟩:=h;obtain⟨u,rfl,r1⟩:=r.one;cases r1;obtain⟨its,rv,pl,hz⟩:=I.tuple hq;have hi:=intsAre_of rv;obtain⟨xs,hx⟩:=hi.allInts.items;have hl':s.heap.IsTuple p (intItems xs):=hx ▸ pl
 have hlt:p<s.heap.objs.size:=by obtain⟨_,e,_⟩:=hl';exact aD e
 have e1:ns=xs.toList.map (·.1):=by
  rw[←nums_intItems,←hx];exact(show numsOf its.toArray.toList=ns from hi.numsOf).symm
 have e2:preSum (numAt xs) xs.size=ns.sum:=by
  rw[preSum_eq,List.take_of_length_le (by simp),e1]
 refine call_sum_walkG (wpAny_pyIter_tuple hl' ?_);refine⟨_,[_,p],[_],_,_,_,numAt xs,rfl,Walks.tuple (A:=X.A.in1) (I.ok.hd hc) _ p (aK hlt) (intItems xs),
  ⟨⟨_,Heap.get?_push_size _ rfl,rfl,rfl⟩,hl'.push _⟩,fun c hcc=>?_,(fun _ _=>intItems_at),fun h' tk t' hk=>?_⟩
 ·show c<(s.heap.push _).objs.size;rw[Heap.size_push];rcases aL.mp hcc with rfl|hcc
  ·exact bP _
  ·rw[List.mem_singleton.mp hcc];exact bG hlt
 ·have e3:preSum (numAt xs) (intItems xs).size=ns.sum:=by
   rw[←e2];simp[intItems]
  rw[e3];exact⟨.int _,H,I.kept (t':=tk) (PyProof.Rows.LSm.kept_iter hk),⟨t',rfl⟩,q⟩
end
end L2
set_option maxHeartbeats 1000000
namespace L2
open PySem PySem.Spec PyProof.Rows
def Rd.same{H H':Hp}{a:AD}{u:HO}(e:AG H H')(h:Rd H a u):Rd H' a u:=by
 rcases h with h|⟨o,h⟩
 ·exact .inl (e _ _ h)
 ·exact .inr ⟨o,e _ _ h⟩
def Ba:Tr→List PD
 |.nil=>[]
 |.cons b r=>.tuple (Ba b)::Ba r
def Z6:Option Tr→PD
 |none=>.none
 |some t=>.tuple (Ba t)
mutual
def Du(H:Hp):PD→V→Prop
 |.none,v=>v=.BI
 |.bool b,v=>v=.bl b
 |.int i,v=>v=.int i
 |.str x,v=>v=.str x
 |.tuple ds,v=>∃a xs,v=.ref a∧H a=some (.tup xs)∧Ag H ds xs
 |.list ds,v=>∃a xs,v=.ref a∧H a=some (.lst xs)∧Ag H ds xs
 |.dict kv,v=>(∃ea C:AD,kv=[(.int (C:Nat),.none)]∧v=.ref ea∧H ea=some (eK ea (.ref C)))∨(∃(a:AD) (ns:List Int),kv=[(.none,.list (ns.map .int))]∧v=.ref a∧Rd H a (.lst (ns.map V.int)))∨Jh H kv v
def Ag(H:Hp):List PD→List V→Prop
 |[],xs=>xs=[]
 |d::ds,xs=>∃x r,xs=x::r∧Du H d x∧Ag H ds r
def Jh(H:Hp):List (PD×PD)→V→Prop
 |[],_=>False
 |(k0,d0)::t,v=>k0=.bool true∧d0=.none∧∃a r,v=.ref a∧H a=some (dN a r)∧(r.map (·.1)).Nodup∧JZ H t r
def JZ(H:Hp):List (PD×PD)→List KR→Prop
 |[],r=>r=[]
 |(k,d)::t,r=>∃q r',r=q::r'∧k=Z6 q.1∧GL H q.1 q.2.1∧Du H d q.2.2∧JZ H t r'
end
mutual
def Du.same{H H':Hp}(e:AG H H'):∀ {d:PD} {v:V},Du H d v→Du H' d v
 |.none,_,h=>by rw[Du]at h ⊢;exact h
 |.bool _,_,h=>by rw[Du]at h ⊢;exact h
 |.int _,_,h=>by rw[Du]at h ⊢;exact h
 |.str _,_,h=>by rw[Du]at h ⊢;exact h
 |.tuple _,_,h=>by
  rw[Du]at h ⊢;obtain⟨a,xs,e1,h1,h2⟩:=h;exact⟨a,xs,e1,e _ _ h1,Ag.same e h2⟩
 |.list _,_,h=>by
  rw[Du]at h ⊢;obtain⟨a,xs,e1,h1,h2⟩:=h;exact⟨a,xs,e1,e _ _ h1,Ag.same e h2⟩
 |.dict _,_,h=>by
  rw[Du]at h ⊢;rcases h with ⟨ea,C,e1,e2,h1⟩|⟨a,ns,e1,e2,h1⟩|h
  ·exact .inl ⟨ea,C,e1,e2,e _ _ h1⟩
  ·exact .inr (.inl ⟨a,ns,e1,e2,h1.same e⟩)
  ·exact .inr (.inr (Jh.same e h))
def Ag.same{H H':Hp}(e:AG H H'):∀ {ds:List PD} {xs:List V},Ag H ds xs→Ag H' ds xs
 |[],_,h=>by rw[Ag]at h ⊢;exact h
 |_::_,_,h=>by
  rw[Ag]at h ⊢;obtain⟨x,r,e1,h1,h2⟩:=h;exact⟨x,r,e1,Du.same e h1,Ag.same e h2⟩
def Jh.same{H H':Hp}(e:AG H H'):∀ {kv:List (PD×PD)} {v:V},Jh H kv v→Jh H' kv v
 |[],_,h=>by rw[Jh]at h;exact h.elim
 |(_,_)::_,_,h=>by
  rw[Jh]at h ⊢;obtain⟨h1,h2,a,r,h3,h4,h5,h6⟩:=h;exact⟨h1,h2,a,r,h3,e _ _ h4,h5,JZ.same e h6⟩
def JZ.same{H H':Hp}(e:AG H H'):∀ {kv:List (PD×PD)} {r:List KR},JZ H kv r→JZ H' kv r
 |[],_,h=>by rw[JZ]at h ⊢;exact h
 |(_,_)::_,_,h=>by
  rw[JZ]at h ⊢;obtain⟨q,r',h1,h2,h3,h4,h5⟩:=h;exact⟨q,r',h1,h2,h3.same e,Du.same e h4,JZ.same e h5⟩
end
mutual
def Du.br{K:Fg}{H:Hp}:∀ {d:PD} {v:V},d.canLay0=true→Du H d v→Br K H d v
 |.none,_,_,h=>by rw[Du]at h;rw[Br];exact h
 |.bool _,_,_,h=>by rw[Du]at h;rw[Br];exact h
 |.int _,_,_,h=>by rw[Du]at h;rw[Br];exact h
 |.str _,_,_,h=>by rw[Du]at h;rw[Br];exact h
 |.tuple _,_,c,h=>by
  rw[Du]at h;rw[Br];obtain⟨a,xs,e1,h1,h2⟩:=h;exact⟨a,xs,e1,Au.of h1,Ag.br (by simp only[PyData.canLay0,Bool.and_eq_true]at c;first|exact c|exact c.2|exact c.1) h2⟩
 |.list _,_,c,h=>by
  rw[Du]at h;rw[Br];obtain⟨a,xs,e1,h1,h2⟩:=h;exact⟨a,xs,e1,Ae.of h1,Ag.br (by simp only[PyData.canLay0,Bool.and_eq_true]at c;first|exact c|exact c.2|exact c.1) h2⟩
 |.dict _,_,c,h=>by simp[PyData.canLay0]at c
def Ag.br{K:Fg}{H:Hp}:∀ {ds:List PD} {xs:List V},PyData.canLayAll0 ds=true→Ag H ds xs→EC K H ds xs
 |[],_,_,h=>by rw[Ag]at h;rw[EC];exact h
 |_::_,_,c,h=>by
  rw[Ag]at h;rw[EC];obtain⟨x,r,e1,h1,h2⟩:=h;simp only[PyData.canLayAll0,Bool.and_eq_true]at c;exact⟨x,r,e1,Du.br c.1 h1,Ag.br c.2 h2⟩
end
def Ag.nil{H:Hp}:Ag H [] []:=by rw[Ag]
def Ag.cons{H:Hp}{d:PD}{ds:List PD}{x:V}{xs:List V}(h:Du H d x)(k:Ag H ds xs):Ag H (d::ds) (x::xs):=by rw[Ag];exact⟨x,xs,rfl,h,k⟩
def Ag.un{H:Hp}{d:PD}{ds:List PD}{xs:List V}(h:Ag H (d::ds) xs):∃x r,xs=x::r∧Du H d x∧Ag H ds r:=by rw[Ag]at h;exact h
def Ag.nil_eq{H:Hp}{xs:List V}(h:Ag H [] xs):xs=[]:=by rw[Ag]at h;exact h
def Ag.len{H:Hp}:∀ {ds:List PD} {xs:List V},Ag H ds xs→xs.length=ds.length
 |[],_,h=>by rw[h.nil_eq];rfl
 |_::_,_,h=>by obtain⟨x,r,rfl,_,h2⟩:=h.un;simp[h2.len]
def Ag.get{H:Hp}:∀ {ds:List PD} {xs:List V} {i:Nat} {d:PD},Ag H ds xs→ds[i]? = some d→∃v,xs[i]? = some v∧Du H d v
 |[],_,i,_,_,e=>by simp at e
 |_::_,_,0,_,h,e=>by
  obtain⟨x,r,rfl,h1,_⟩:=h.un;simp at e;subst e;exact⟨x,rfl,h1⟩
 |_::_,_,i+1,_,h,e=>by
  obtain⟨x,r,rfl,_,h2⟩:=h.un;obtain⟨v,k1,k2⟩:=h2.get (i:=i) (by simpa using e);exact⟨v,by simpa using k1,k2⟩
def Ag.back{H:Hp}{ds:List PD}{xs:List V}{i:Nat}{v:V}(h:Ag H ds xs)(e:xs[i]? = some v):∃d,ds[i]? = some d∧Du H d v:=by
 have hl:=h.len;have hi:i<ds.length:=by rw[←hl];exact(aE.mp e).1
 have hd:ds[i]? = some ds[i]:=by simp[hi]
 obtain⟨w,k1,k2⟩:=h.get hd;rw[e]at k1;cases k1;exact⟨_,hd,k2⟩
def Ag.app{H:Hp}:∀ {ds es:List PD} {xs ys:List V},Ag H ds xs→Ag H es ys→Ag H (ds++es) (xs++ys)
 |[],_,_,_,h,k=>by rw[h.nil_eq];exact k
 |_::_,_,_,_,h,k=>by obtain⟨x,r,rfl,h1,h2⟩:=h.un;exact .cons h1 (h2.app k)
def Ag.take{H:Hp}:∀ {ds:List PD} {xs:List V} (i:Nat),Ag H ds xs→Ag H (ds.take i) (xs.take i)
 |_,_,0,_=>by rw[List.take_zero,List.take_zero];exact .nil
 |[],_,i+1,h=>by rw[h.nil_eq];exact .nil
 |_::_,_,i+1,h=>by obtain⟨x,r,rfl,h1,h2⟩:=h.un;exact .cons h1 (h2.take i)
def Ag.drop{H:Hp}:∀ {ds:List PD} {xs:List V} (i:Nat),Ag H ds xs→Ag H (ds.drop i) (xs.drop i)
 |_,_,0,h=>h
 |[],_,i+1,h=>by rw[h.nil_eq];exact .nil
 |_::_,_,i+1,h=>by obtain⟨x,r,rfl,h1,h2⟩:=h.un;exact h2.drop i
inductive Oc where
 |lst (xs:List PyData)|OX (kvs:List (List Key×PyData))|Uh (kvs:List (Option Tr×PyData))
inductive L where
 |no|d (x:PyData)|own (c:Oc)
abbrev Dv:=List L
def Ms(G:Hp):List (List Key×PD)→List (List Key×V)→Prop
 |[],r=>r=[]
 |q::t,r=>∃v r',r=(q.1,v)::r'∧Du G q.2 v∧Ms G t r'
def Ms.same{G G':Hp}(e:AG G G'):∀ {t:List (List Key×PD)} {r:List (List Key×V)},Ms G t r→Ms G' t r
 |[],r,h=>h
 |q::t,r,h=>by
  obtain⟨v,r',rfl,h1,h2⟩:=h;exact⟨v,r',rfl,h1.same e,Ms.same e h2⟩
abbrev WY(kvs:List (Option Tr×PD)):List (PD×PD):=kvs.map fun q=>(Z6 q.1,q.2)
abbrev Sj(kvs:List (Option Tr×PD)):PD:=.dict ((.bool true,.none)::WY kvs)
def GK(G:Hp)(a:AD):Oc→HO→Prop
 |.lst xs,o=>∃ys,o=.lst ys∧Ag G xs ys
 |.OX kvs,o=>∃r,o=.dT r∧Ms G kvs r
 |.Uh kvs,o=>∃r,o=dN a r∧(r.map (·.1)).Nodup∧JZ G (WY kvs) r
def GK.same{G G':Hp}{a:AD}{c:Oc}{o:HO}(h:GK G a c o)(e:AG G G'):GK G' a c o:=by
 cases c with
 |Uh kvs=>obtain⟨r,h1,h2,h3⟩:=h;exact⟨r,h1,h2,JZ.same e h3⟩
 |lst xs=>obtain⟨ys,h1,h2⟩:=h;exact⟨ys,h1,h2.same e⟩
 |OX kvs=>obtain⟨ys,h1,h2⟩:=h;exact⟨ys,h1,h2.same e⟩
def GK.NC{G:Hp}{a:AD}{c:Oc}{xs:List V}(h:GK G a c (.tup xs)):False:=by
 cases c with
 |Uh kvs=>obtain⟨r,h1,h2,h3⟩:=h;unfold dN at h1;cases h1
 |lst xs=>obtain⟨ys,h1,h2⟩:=h;cases h1
 |OX kvs=>obtain⟨ys,h1,h2⟩:=h;cases h1
def Nw(G0 H0 G:Hp):Prop:=∀a o,G a=some o→G0 a=some o∨H0 a=none∨∃xs,o=HO.tup xs
structure Rw(G0 H0 G H:Hp)(σ:St)(δ:Dv)(ts:List (PyData×V)):Prop where
 ext:AG G0 G
 new:Nw G0 H0 G
 ins:AG G H
 keep:AG H0 H
 len:σ.length=δ.length
 dat:∀(i:Nat) (x:PyData),δ[i]? = some (L.d x)→∃v,σ[i]? = some (some v)∧Du G x v
 own:∀(i:Nat) (xs:Oc),δ[i]? = some (L.own xs)→∃(a:Addr) (ys:HO),σ[i]? = some (some (V.ref a))∧G a=none∧H0 a=none∧H a=some ys∧GK G a xs ys
 apart:∀(i j:Nat) (xs ys:Oc),i≠j→δ[i]? = some (L.own xs)→δ[j]? = some (L.own ys)→σ[i]?≠σ[j]?
 Bd:∀p∈ts,Du G p.1 p.2
def DE(X:Cx)(e:Expr)(f:Dv→Option PD):Prop:=∃t,PE X e t∧∀δ x,f δ=some x→∀G0 H0 G H σ ts (Q:VK),Rw G0 H0 G H σ δ ts→(∀v G' H',Rw G0 H0 G' H' σ δ ((x,v)::ts)→Q v H')→t σ H Q
def DA(X:Cx)(es:List Expr)(f:Dv→Option (List PD)):Prop:=∃t,PA X es t∧∀δ xs,f δ=some xs→∀G0 H0 G H σ ts (Q:List V→Hp→Prop),Rw G0 H0 G H σ δ ts→(∀vs G' H',Rw G0 H0 G' H' σ δ (xs.zip vs++ts)→vs.length=xs.length→Q vs H')→t σ H Q
def DT(X:Cx)(e:Expr)(f:Dv→Option Bool):Prop:=∃t,PT X e t∧∀δ b,f δ=some b→∀G0 H0 G H σ ts (Q:Bool→Hp→Prop),Rw G0 H0 G H σ δ ts→(∀G' H',Rw G0 H0 G' H' σ δ ts→Q b H')→t σ H Q
section
variable{G0 H0 G H:Hp}{σ:St}{δ:Dv}{ts:List (PD×V)}
def Rw.drop{p:PD×V}(r:Rw G0 H0 G H σ δ (p::ts)):Rw G0 H0 G H σ δ ts:={r with Bd:=fun q hq=>r.Bd q (.tail _ hq)}
def Rw.less{us:List (PD×V)}(r:Rw G0 H0 G H σ δ ts)(h:∀p∈us,p∈ts):Rw G0 H0 G H σ δ us:={r with Bd:=fun q hq=>r.Bd q (h q hq)}
def Rw.put{x:PD}{v:V}(r:Rw G0 H0 G H σ δ ts)(h:Du G x v):Rw G0 H0 G H σ δ ((x,v)::ts):={r with Bd:=fun q hq=>by rcases aL.mp hq with rfl|hq;exact h;exact r.Bd q hq}
def Rw.newObj{p:AD}{o:HO}(r:Rw G0 H0 G H σ δ ts)(hp:H p=none):Rw G0 H0 (upd G p o) (upd H p o) σ δ ts:=by
 have hG:G p=none:=by
  cases q:G p with
  |none=>rfl
  |some u=>rw[r.ins _ _ q]at hp;cases hp
 have h0:H0 p=none:=by
  cases q:H0 p with
  |none=>rfl
  |some u=>rw[r.keep _ _ q]at hp;cases hp
 have e:AG G (upd G p o):=Aa hG o;refine⟨r.ext.trans e,fun a u h=>?_,fun a u h=>?_,r.keep.trans (Aa hp o),r.len,fun i x h=>?_,fun i xs h=>?_,r.apart,fun q hq=>(r.Bd q hq).same e⟩
 ·by_cases ha:a=p
  ·subst ha;exact .inr (.inl h0)
  ·rw[AF ha]at h;exact r.new _ _ h
 ·by_cases ha:a=p
  ·subst ha;rw[AI]at h ⊢;exact h
  ·rw[AF ha]at h ⊢;exact r.ins _ _ h
 ·obtain⟨v,k1,k2⟩:=r.dat i x h;exact⟨v,k1,k2.same e⟩
 ·obtain⟨a,ys,k1,k2,k3,k4,k5⟩:=r.own i xs h;have ha:a≠p:=fun z=>by subst z;rw[k4]at hp;cases hp
  exact⟨a,ys,k1,by rw[AF ha];exact k2,k3,by rw[AF ha];exact k4,k5.same e⟩
def Rw.YW{p:AD}{xs:List V}{H':Hp}(r:Rw G0 H0 G H σ δ ts)(e:AG H H')(hp:H' p=some (.tup xs)):Rw G0 H0 (upd G p (.tup xs)) H' σ δ ts:=by
 have e1:AG G (upd G p (.tup xs)):=fun a o h=>by
  by_cases ha:a=p
  ·subst ha;have:=e _ _ (r.ins _ _ h);rw[hp]at this;rw[AI];exact this
  ·rw[AF ha];exact h
 refine⟨r.ext.trans e1,fun a u h=>?_,fun a u h=>?_,r.keep.trans e,r.len,fun i x h=>?_,fun i xs h=>?_,r.apart,fun q hq=>(r.Bd q hq).same e1⟩
 ·by_cases ha:a=p
  ·subst ha;rw[AI]at h;cases h;exact .inr (.inr ⟨_,rfl⟩)
  ·rw[AF ha]at h;exact r.new _ _ h
 ·by_cases ha:a=p
  ·subst ha;rw[AI]at h;rw[hp];exact h
  ·rw[AF ha]at h;exact e _ _ (r.ins _ _ h)
 ·obtain⟨v,k1,k2⟩:=r.dat i x h;exact⟨v,k1,k2.same e1⟩
 ·obtain⟨a,ys,k1,k2,k3,k4,k5⟩:=r.own i xs h;have ha:a≠p:=fun z=>by subst z;rw[e _ _ k4]at hp;cases hp;exact k5.NC
  exact⟨a,ys,k1,by rw[AF ha];exact k2,k3,e _ _ k4,k5.same e1⟩
def Rw.lift{G' H':Hp}(r:Rw G0 H0 G H σ δ ts)(h1:AG G G')(h2:Nw G H G')(h3:AG G' H')(h4:AG H H'):Rw G0 H0 G' H' σ δ ts:=by
 refine⟨r.ext.trans h1,fun a o h=>?_,h3,r.keep.trans h4,r.len,fun i x h=>?_,fun i xs h=>?_,r.apart,fun q hq=>(r.Bd q hq).same h1⟩
 ·rcases h2 a o h with k|k|k
  ·exact r.new a o k
  ·right;left
   cases q:H0 a with
   |none=>rfl
   |some u=>rw[r.keep _ _ q]at k;cases k
  ·exact .inr (.inr k)
 ·obtain⟨v,k1,k2⟩:=r.dat i x h;exact⟨v,k1,k2.same h1⟩
 ·obtain⟨a,ys,k1,k2,k3,k4,k5⟩:=r.own i xs h;refine⟨a,ys,k1,?_,k3,h4 _ _ k4,k5.same h1⟩;cases q:G' a with
  |none=>rfl
  |some u =>
   rcases h2 a u q with z|z|⟨xs',z⟩
   ·rw[k2]at z;cases z
   ·rw[k4]at z;cases z
   ·have:=h3 _ _ q;rw[h4 _ _ k4,z]at this;cases this;exact k5.NC.elim
end
section
variable{X:Cx}{a b e:Expr}{f g h:Dv→Option PD}{pos:Pos}
def AN{i j pos}:DE X (.Constant (.int i) j pos) (fun _=>some (.int i)):=⟨_,Ao,fun δ x h G0 H0 G H σ ts Q r k=>by cases h;exact k _ _ _ (r.put (by rw[Du]))⟩
def cu{i j pos}:DE X (.Constant (.bool i) j pos) (fun _=>some (.bool i)):=⟨_,F3,fun δ x h G0 H0 G H σ ts Q r k=>by cases h;exact k _ _ _ (r.put (by rw[Du]))⟩
def PY{j pos}:DE X (.Constant .none j pos) (fun _=>some .none):=⟨_,ZR,fun δ x h G0 H0 G H σ ts Q r k=>by cases h;exact k _ _ _ (r.put (by rw[Du]))⟩
def Kd{i j pos}:DE X (.Constant (.str i) j pos) (fun _=>some (.str i)):=⟨_,ZS,fun δ x h G0 H0 G H σ ts Q r k=>by cases h;exact k _ _ _ (r.put (by rw[Du]))⟩
def nm(i:Nat)(δ:Dv):Option PD:=match δ[i]? with|some (.d x)=>some x|_=>none
def RY{i:Nat}{δ:Dv}{x:PD}(h:nm i δ=some x):δ[i]? = some (.d x):=by
 unfold nm at h;split at h
 ·rename_i y e;cases h;exact e
 ·cases h
def AB{i:Nat}{x:Str}(h:PE X (.Name x pos) (KS i)):DE X (.Name x pos) (nm i):=⟨_,h,fun δ y hy G0 H0 G H σ ts Q r k=>by
 obtain⟨v,h1,h2⟩:=r.dat _ _ (RY hy);exact⟨v,h1,k _ _ _ (r.put h2)⟩⟩
def AX(o:PD→PD→Option PD)(f g:Dv→Option PD)(δ:Dv):Option PD:=(f δ).bind fun x=>(g δ).bind fun y=>o x y
def Ct(X:Cx)(m:VL→VL→Sem VL)(o:PD→PD→Option PD):Prop:=∃r:R2,Bv X m r∧∀x y z,o x y=some z→∀G0 H0 G H σ δ ts u v (Q:VK),Rw G0 H0 G H σ δ ts→Du G x u→Du G y v→(∀w G' H',Rw G0 H0 G' H' σ δ ((z,w)::ts)→Q w H')→r u v H Q
def two{x y:PD}{f g:Dv→Option PD}{δ:Dv}{o:PD→PD→Option PD}{z:PD}(h:AX o f g δ=some z):∃x y,f δ=some x∧g δ=some y∧o x y=some z:=by
 unfold AX at h;obtain⟨x,h1,h2⟩:=aB.mp h;obtain⟨y,h3,h4⟩:=aB.mp h2;exact⟨x,y,h1,h3,h4⟩
def Ap{op:Operator}{o:PD→PD→Option PD}(ho:Ct X (binaryOp op) o)(ha:DE X a f)(hb:DE X b g):DE X (.BinOp a op b pos) (AX o f g):=by
 obtain⟨r,hr,kr⟩:=ho;obtain⟨ta,pa,ka⟩:=ha;obtain⟨tb,pb,kb⟩:=hb;refine⟨_,B0 hr pa pb,fun δ z hz G0 H0 G H σ ts Q R0 k=>?_⟩;obtain⟨x,y,h1,h2,h3⟩:=two (x:=.none) (y:=.none) hz;refine ka δ x h1 G0 H0 G H σ ts _ R0 fun u G1 H1 R1=>?_;refine kb δ y h2 G0 H0 G1 H1 σ _ _ R1 fun v G2 H2 R2=>?_;exact kr x y z h3 G0 H0 G2 H2 σ δ ts u v Q (R2.drop.drop) (R2.Bd (x,u) (.tail _ (.head _))) (R2.Bd (y,v) (.head _)) k
def Oo{op:CmpOp}{o:PD→PD→Option PD}(ho:Ct X (compareOp op) o)(ha:DE X a f)(hb:DE X b g)(hm:behindInMarks op b=false):DE X (.Compare a [op] [b] pos) (AX o f g):=by
 obtain⟨r,hr,kr⟩:=ho;obtain⟨ta,pa,ka⟩:=ha;obtain⟨tb,pb,kb⟩:=hb;refine⟨_,Kn hr pa pb hm,fun δ z hz G0 H0 G H σ ts Q R0 k=>?_⟩;obtain⟨x,y,h1,h2,h3⟩:=two (x:=.none) (y:=.none) hz;refine ka δ x h1 G0 H0 G H σ ts _ R0 fun u G1 H1 R1=>?_;refine kb δ y h2 G0 H0 G1 H1 σ _ _ R1 fun v G2 H2 R2=>?_;exact kr x y z h3 G0 H0 G2 H2 σ δ ts u v Q (R2.drop.drop) (R2.Bd (x,u) (.tail _ (.head _))) (R2.Bd (y,v) (.head _)) k
end
section
variable{X:Cx}
def NK(o o':PD→PD→Option PD)(x y:PD):Option PD:=match o x y with|some z=>some z|none=>o' x y
def Ct.or{m:VL→VL→Sem VL}{o o':PD→PD→Option PD}(h:Ct X m o)(h':Ct X m o'):Ct X m (NK o o'):=by
 obtain⟨r,hr,kr⟩:=h;obtain⟨r',hr',kr'⟩:=h';refine⟨_,Bv.or hr hr',fun x y z hz G0 H0 G H σ δ ts u v Q R0 du dv k=>?_⟩;unfold NK at hz;split at hz
 ·rename_i z' e;cases hz;exact .inl (kr x y z e G0 H0 G H σ δ ts u v Q R0 du dv k)
 ·exact .inr (kr' x y z hz G0 H0 G H σ δ ts u v Q R0 du dv k)
def Kr{m:VL→VL→Sem VL}{C:Int→Int→Prop}{gv:Int→Int→V}{o:Int→Int→Option PD}(ho:Bv X m (rI C gv))(hC:∀i j z,o i j=some z→C i j∧∀H,Du H z (gv i j)) :
  Ct X m (fun x y=>match x,y with|.int i,.int j=>o i j|_,_=>none):=by
 refine⟨_,ho,fun x y z hz G0 H0 G H σ δ ts u v Q R0 du dv k=>?_⟩;dsimp only at hz;split at hz
 ·rename_i i j;rw[Du]at du dv;obtain⟨h1,h2⟩:=hC i j z hz;exact⟨i,j,du,dv,h1,k _ _ _ (R0.put (h2 _))⟩
 ·cases hz
def HK{m:VL→VL→Sem VL}{gv:Int→Int→V}{o:Int→Int→PD}(ho:Bv X m (Nf gv))(hC:∀i j H,Du H (o i j) (gv i j)) :
  Ct X m (fun x y=>match x,y with|.int i,.int j=>some (o i j)|_,_=>none):=by
 refine⟨_,ho,fun x y z hz G0 H0 G H σ δ ts u v Q R0 du dv k=>?_⟩;dsimp only at hz;split at hz
 ·rename_i i j;cases hz;rw[Du]at du dv;exact⟨i,j,du,dv,k _ _ _ (R0.put (hC _ _ _))⟩
 ·cases hz
def Dy:Nat:=1000
def Qe{n:Nat}(h:n≤Dy):n<sizeLine:=NH h
def EL{n:Nat}(h:n≤Dy):n≤sizeLine:=bA (NH h)
def Zy:PD→PD→Option PD:=fun x y=>match x,y with|.int i,.int j=>some (.int (i+j))|_,_=>none
def Pw:PD→PD→Option PD:=fun x y=>match x,y with|.int i,.int j=>some (.int (i-j))|_,_=>none
def GU(n:Nat)(i:Int):Bool:=decide (i.natAbs<2^n)
def MC(i j:Int):Bool:=GU 64 i||GU 64 j||(GU 9000 i&&GU 9000 j)
def RL:PD→PD→Option PD:=fun x y=>match x,y with|.int i,.int j=>(if MC i j=true then some (.int (i*j)) else none)|_,_=>none
def LV:PD→PD→Option PD:=fun x y=>match x,y with|.int i,.int j=>(if j≠0∧GU 9000 j=true then some (.int (i.fdiv j)) else none)|_,_=>none
def FI:PD→PD→Option PD:=fun x y=>match x,y with|.int i,.int j=>(if j≠0 then some (.int (i.fmod j)) else none)|_,_=>none
def KQ:PD→PD→Option PD:=fun x y=>match x,y with|.int i,.int j=>(if 0≤j∧j≤1000∧GU 64 i=true then some (.int (i^j.toNat)) else none)|_,_=>none
def X0:Ct X (binaryOp .Add) Zy:=HK T4 fun _ _ _=>by rw[Du]
def Mv:Ct X (binaryOp .Sub) Pw:=HK TV fun _ _ _=>by rw[Du]
def WG{i:Int}(h:GU 64 i=true):-(2^64)<i∧i<2^64:=by
 have:=aV h
 lia
def XI:Ct X (binaryOp .Mult) RL:=Kr (o:=fun i j=>if MC i j=true then some (.int (i*j)) else none) Fq fun i j z h=>by
 split at h
 ·rename_i q;cases h;refine⟨?_,fun _=>by rw[Du]⟩;unfold MC at q;rw[Bool.or_eq_true,Bool.or_eq_true,Bool.and_eq_true]at q;rcases q with (q|q)|q
  ·exact .inl (.inl (WG q))
  ·exact .inl (.inr (WG q))
  ·exact .inr ⟨9000,by decide,of_decide_eq_true q.1,of_decide_eq_true q.2⟩
 ·cases h
def Ko:Ct X (binaryOp .FloorDiv) LV:=Kr (o:=fun i j=>if j≠0∧GU 9000 j=true then some (.int (i.fdiv j)) else none) Ei fun i j z h=>by
 split at h
 ·rename_i q;cases h;exact⟨⟨q.1,9000,Nat.le_refl _,of_decide_eq_true q.2⟩,fun _=>by rw[Du]⟩
 ·cases h
def Dc:Ct X (binaryOp .Mod) FI:=Kr (o:=fun i j=>if j≠0 then some (.int (i.fmod j)) else none) Mk fun i j z h=>by
 split at h
 ·rename_i q;cases h;exact⟨q,fun _=>by rw[Du]⟩
 ·cases h
def Mz:Ct X (binaryOp .Pow) KQ:=Kr (o:=fun i j=>if 0≤j∧j≤1000∧GU 64 i=true then some (.int (i^j.toNat)) else none) a7 fun i j z h=>by
 split at h
 ·rename_i q;cases h;exact⟨⟨q.1,by lia,of_decide_eq_true q.2.2⟩,fun _=>by rw[Du]⟩
 ·cases h
def HU(p:Int→Int→Bool):PD→PD→Option PD:=fun x y=>match x,y with|.int i,.int j=>some (.bool (p i j))|_,_=>none
def V8:Ct X (compareOp .Lt) (HU fun i j=>decide (i<j)):=HK (o:=fun i j=>.bool (decide (i<j))) OI fun _ _ _=>by rw[Du]
def WB:Ct X (compareOp .Gt) (HU fun i j=>decide (j<i)):=HK (o:=fun i j=>.bool (decide (j<i))) Mf fun _ _ _=>by rw[Du]
def cT:Ct X (compareOp .GtE) (HU fun i j=>decide (j≤i)):=HK (o:=fun i j=>.bool (decide (j≤i))) WO fun _ _ _=>by rw[Du]
def Vx:PD→PD→Option PD:=fun x y=>match x,y with|.list a,.list b=>(if a.length+b.length≤Dy then some (.list (a++b)) else none)|_,_=>none
def Xf:Ct X (binaryOp .Add) Vx:=by
 refine⟨_,Tq,fun x y z hz G0 H0 G H σ δ ts u v Q R0 du dv k=>?_⟩;unfold Vx at hz;split at hz
 ·rename_i a b;split at hz
  ·rename_i hl;cases hz;rw[Du]at du dv;obtain⟨p,xs,rfl,h1,h2⟩:=du;obtain⟨q,ys,rfl,h3,h4⟩:=dv;refine⟨p,q,xs,ys,rfl,rfl,R0.ins _ _ h1,R0.ins _ _ h3,EL (by rw[h2.len,h4.len];exact hl),fun l hl'=>?_⟩;have R1:=R0.newObj (o:=.lst (xs++ys)) hl';refine k _ _ _ (R1.put ?_);rw[Du];have e:AG G (upd G l (.lst (xs++ys))):=fun a o h=>by
    have:=R0.ins _ _ h;rw[AF (AJ this hl')];exact h
   exact⟨l,xs++ys,rfl,AI,(h2.same e).app (h4.same e)⟩
  ·cases hz
 ·cases hz
def SG:PD→PD→Option PD:=fun x y=>match x,y with|.tuple a,.tuple b=>(if a.length+b.length≤Dy then some (.tuple (a++b)) else none)|_,_=>none
def Wr:Ct X (binaryOp .Add) SG:=by
 refine⟨_,Ww,fun x y z hz G0 H0 G H σ δ ts u v Q R0 du dv k=>?_⟩;unfold SG at hz;split at hz
 ·rename_i a b;split at hz
  ·rename_i hl;cases hz;rw[Du]at du dv;obtain⟨p,xs,rfl,h1,h2⟩:=du;obtain⟨q,ys,rfl,h3,h4⟩:=dv;refine⟨p,q,xs,ys,rfl,rfl,R0.ins _ _ h1,R0.ins _ _ h3,EL (by rw[h2.len,h4.len];exact hl),fun l H' e hp=>?_⟩;have R1:=R0.YW e hp;refine k _ _ _ (R1.put ?_);rw[Du];have e1:AG G (upd G l (.tup (xs++ys))):=fun a o h=>by
    by_cases ha:a=l
    ·subst ha;have:=e _ _ (R0.ins _ _ h);rw[hp]at this;rw[AI];exact this
    ·rw[AF ha];exact h
   exact⟨l,xs++ys,rfl,AI,(h2.same e1).app (h4.same e1)⟩
  ·cases hz
 ·cases hz
def U4:PD→PD→Option PD:=fun x y=>match x,y with|.str a,.str b=>(if a.length+b.length≤Dy then some (.str (a++b)) else none)|_,_=>none
def Xg:Ct X (binaryOp .Add) U4:=by
 refine⟨_,Rz,fun x y z hz G0 H0 G H σ δ ts u v Q R0 du dv k=>?_⟩;unfold U4 at hz;split at hz
 ·rename_i a b;split at hz
  ·rename_i hl;cases hz;rw[Du]at du dv;exact⟨a,b,du,dv,EL hl,k _ _ _ (R0.put (by rw[Du]))⟩
  ·cases hz
 ·cases hz
def Ci:PD→PD→Option PD:=NK Zy (NK Vx (NK SG U4))
def B7:Ct X (binaryOp .Add) Ci:=X0.or (Xf.or (Wr.or Xg))
def RX:PD→PD→Option PD:=fun x y=>match x,y with|.list a,.int k=>(if a.length*k.toNat≤Dy∧-1000000≤k∧k≤1000000 then some (.list (List.replicate k.toNat a).flatten) else none)|_,_=>none
def Ag.rep{H:Hp}{ds:List PD}{xs:List V}(h:Ag H ds xs):∀n,Ag H (List.replicate n ds).flatten (List.replicate n xs).flatten
 |0=>.nil
 |n+1=>by rw[List.replicate_succ,List.replicate_succ,List.flatten_cons,List.flatten_cons];exact h.app (h.rep n)
def X3:Ct X (binaryOp .Mult) RX:=by
 refine⟨_,Ul,fun x y z hz G0 H0 G H σ δ ts u v Q R0 du dv k=>?_⟩;unfold RX at hz;split at hz
 ·rename_i a n;split at hz
  ·rename_i hl;cases hz;rw[Du]at du;rw[Du]at dv;obtain⟨p,xs,rfl,h1,h2⟩:=du;subst dv;refine⟨p,n,xs,rfl,rfl,R0.ins _ _ h1,by lia,by lia,EL (by rw[h2.len];exact hl.1),fun l hl'=>?_⟩;have R1:=R0.newObj (o:=.lst (List.replicate n.toNat xs).flatten) hl';refine k _ _ _ (R1.put ?_);rw[Du];have e:AG G (upd G l (.lst (List.replicate n.toNat xs).flatten)):=fun a o h=>by
    have:=R0.ins _ _ h;rw[AF (AJ this hl')];exact h
   exact⟨l,_,rfl,AI,(h2.same e).rep _⟩
  ·cases hz
 ·cases hz
def Em:PD→PD→Option PD:=NK RL RX
def FA:Ct X (binaryOp .Mult) Em:=XI.or X3
def Ng{d:PD}(h:SeqAt.shaped d=true):d.canLay0=true:=by unfold SeqAt.shaped at h;rw[Bool.and_eq_true]at h;exact h.1
def Dq(neg:Bool):PD→PD→Option PD:=fun x y=>if SeqAt.shaped x=true∧SeqAt.shaped y=true then some (.bool (if neg then !PyData.eqv x y else PyData.eqv x y)) else none
def UP{m:VL→VL→Sem VL}{neg:Bool}(ho:Bv X m (U8 X.K neg)):Ct X m (Dq neg):=by
 refine⟨_,ho,fun x y z hz G0 H0 G H σ δ ts u v Q R0 du dv k=>?_⟩;unfold Dq at hz;split at hz
 ·rename_i hs;cases hz;exact⟨x,y,(du.same R0.ins).br (Ng hs.1),(dv.same R0.ins).br (Ng hs.2),hs.1,hs.2,k _ _ _ (R0.put (by rw[Du]))⟩
 ·cases hz
def N6(hu:X.A.units+64<cLine):Ct X (compareOp .Eq) (Dq false):=UP (YQ hu)
def OE(hu:X.A.units+64<cLine):Ct X (compareOp .NotEq) (Dq true):=UP (ZY hu)
def PyData.Ve:PD→Bool
 |.none=>true
 |_=>false
def bg{H:Hp}:∀ {x:PD} {u:V},Du H x u→decide (u=.BI)=PyData.Ve x
 |.none,u,h=>by rw[Du]at h;subst h;rfl
 |.bool _,u,h=>by rw[Du]at h;subst h;rfl
 |.int _,u,h=>by rw[Du]at h;subst h;rfl
 |.str _,u,h=>by rw[Du]at h;subst h;rfl
 |.tuple _,u,h=>by rw[Du]at h;obtain⟨a,xs,rfl,_⟩:=h;rfl
 |.list _,u,h=>by rw[Du]at h;obtain⟨a,xs,rfl,_⟩:=h;rfl
 |.dict [],u,h=>by rw[Du,Jh]at h;rcases h with ⟨ea,C,_,rfl,_⟩|⟨a,ns,_,rfl,_⟩|h;rfl;rfl;exact h.elim
 |.dict ((_,_)::_),u,h=>by rw[Du,Jh]at h;rcases h with ⟨ea,C,_,rfl,_⟩|⟨a,ns,_,rfl,_⟩|⟨_,_,a,r,rfl,_⟩<;>rfl
def WU(neg:Bool):PD→PD→Option PD:=fun x y=>match y with
 |.none=>some (.bool (if neg then !PyData.Ve x else PyData.Ve x))
 |_=>none
def Vj:Ct X (compareOp .IsNot) (WU true):=by
 refine⟨_,Wl,fun x y z hz G0 H0 G H σ δ ts u v Q R0 du dv k=>?_⟩;unfold WU at hz;split at hz
 ·cases hz;rw[Du]at dv;refine⟨dv,?_⟩;rw[bg du];exact k _ _ _ (R0.put (by rw[Du];rfl))
 ·cases hz
end
section
variable{X:Cx}{a b c e:Expr}{es:List Expr}{f g h:Dv→Option PD}{pos p:Pos}
def Kc:PD→Option Bool
 |.bool b=>some b
 |_=>none
def V5:PD→Option Int
 |.int b=>some b
 |_=>none
def Lr{x:PD}{b:Bool}(h:Kc x=some b):x=.bool b:=by
 unfold Kc at h;split at h
 ·cases h;rfl
 ·cases h
def X9{x:PD}{b:Int}(h:V5 x=some b):x=.int b:=by
 unfold V5 at h;split at h
 ·cases h;rfl
 ·cases h
def YK{op}(ha:DE X a f):DE X (.BoolOp op [a] pos) f:=by
 obtain⟨ta,pa,ka⟩:=ha;exact⟨_,MX pa,ka⟩
def bo{rest:List Expr}(ha:DE X a f)(hb:DE X (.BoolOp .And (b::rest) pos) g):DE X (.BoolOp .And (a::b::rest) pos) (fun δ=>(f δ).bind fun x=>(Kc x).bind fun c=>if c=true then g δ else some (.bool false)):=by
 obtain⟨ta,pa,ka⟩:=ha;obtain⟨tb,pb,kb⟩:=hb;refine⟨_,Kb pa pb,fun δ z hz G0 H0 G H σ ts Q R0 k=>?_⟩;obtain⟨x,h1,h2⟩:=aB.mp hz;obtain⟨i,h3,h4⟩:=aB.mp h2;have:=Lr h3;subst this;refine ka δ _ h1 G0 H0 G H σ ts _ R0 fun u G1 H1 R1=>?_;have hu:=R1.Bd _ (.head _);rw[Du]at hu;refine⟨i,hu,?_⟩;split
 ·rename_i hc;rw[if_pos hc]at h4;exact kb δ z h4 G0 H0 G1 H1 σ ts Q R1.drop k
 ·rename_i hc;rw[if_neg hc]at h4;cases h4;exact k _ _ _ (R1.drop.put (by rw[Du]))
variable{fa fb:Dv→Option Bool}
def DW(X:Cx)(e:Expr)(f:Dv→Option Bool):Prop:=∃t,PW X e t∧∀δ b,f δ=some b→∀G0 H0 G H σ ts (Q:Bool→Hp→Prop),Rw G0 H0 G H σ δ ts→(∀G' H',Rw G0 H0 G' H' σ δ ts→Q b H')→t σ H Q
def DW.dt(h:DW X e fa):DT X e fa:=let⟨t,p,k⟩:=h;⟨t,p.pt,k⟩
def Ds{op:CmpOp}{o:PD→PD→Option PD}(ho:Ct X (compareOp op) o)(ha:DE X a f)(hb:DE X b g)(hm:behindInMarks op b=false):DT X (.Compare a [op] [b] pos) (fun δ=>(AX o f g δ).bind Kc):=by
 obtain⟨r,hr,kr⟩:=ho;obtain⟨ta,pa,ka⟩:=ha;obtain⟨tb,pb,kb⟩:=hb;refine⟨_,Bt hr pa pb hm,fun δ z hz G0 H0 G H σ ts Q R0 k=>?_⟩;obtain⟨q,h0,h4⟩:=aB.mp hz;have:=Lr h4;subst this;obtain⟨x,y,h1,h2,h3⟩:=two (x:=.none) (y:=.none) h0;refine ka δ x h1 G0 H0 G H σ ts _ R0 fun u G1 H1 R1=>?_;refine kb δ y h2 G0 H0 G1 H1 σ _ _ R1 fun v G2 H2 R2=>?_;refine kr x y _ h3 G0 H0 G2 H2 σ δ ts u v _ (R2.drop.drop) (R2.Bd (x,u) (.tail _ (.head _))) (R2.Bd (y,v) (.head _)) fun w G3 H3 R3=>?_;have hu:=R3.Bd _ (.head _);rw[Du]at hu;exact⟨z,hu,k _ _ R3.drop⟩
def Z7(ha : DE X e f)(he : ∀ whole,isTrue e X.env whole = (do let v ← whole; standAt e.pos; holding [v] (truthy v)) := by intro _; rfl) : DT X e (fun δ => (f δ).bind Kc) := by
  obtain ⟨ta,pa,ka⟩:=ha
  refine ⟨_,Ex pa he,fun δ z hz G0 H0 G H σ ts Q R0 k => ?_⟩
  obtain ⟨q,h0,h4⟩:=aB.mp hz
  have:=Lr h4; subst this
  refine ka δ _ h0 G0 H0 G H σ ts _ R0 fun u G1 H1 R1 => ?_
  have hu:=R1.Bd _ (.head _)
  rw [Du] at hu
  exact ⟨z,hu,k _ _ R1.drop⟩
def Yh(ha:DT X a fa):DT X (.UnaryOp .Not a pos) (fun δ=>(fa δ).map fun c=>!c):=by
 obtain⟨ta,pa,ka⟩:=ha;refine⟨_,Ew pa,fun δ z hz G0 H0 G H σ ts Q R0 k=>?_⟩;obtain⟨i,h3,rfl⟩:=aF.mp hz;exact ka δ _ h3 G0 H0 G H σ ts _ R0 fun G1 H1 R1=>k _ _ R1
def UC{op:BoolOp}(ha:DT X a fa):DW X (.BoolOp op [a] pos) fa:=by
 obtain⟨ta,pa,ka⟩:=ha;cases op
 ·exact⟨_,Xn pa,ka⟩
 ·exact⟨_,Ig pa,ka⟩
def WM{rest:List Expr}(ha:DT X a fa)(hb:DW X (.BoolOp .Or (b::rest) pos) fb):DW X (.BoolOp .Or (a::b::rest) pos) (fun δ=>(fa δ).bind fun c=>if c=true then some true else fb δ):=by
 obtain⟨ta,pa,ka⟩:=ha;obtain⟨tb,pb,kb⟩:=hb;refine⟨_,JJ pa pb,fun δ z hz G0 H0 G H σ ts Q R0 k=>?_⟩;obtain⟨i,h3,h4⟩:=aB.mp hz;refine ka δ _ h3 G0 H0 G H σ ts _ R0 fun G1 H1 R1=>?_;split
 ·rename_i hc;rw[if_pos hc]at h4;cases h4;exact k _ _ R1
 ·rename_i hc;rw[if_neg hc]at h4;exact kb δ z h4 G0 H0 G1 H1 σ ts Q R1 k
variable{fs:Dv→Option (List PD)}
def AM:DA X [] (fun _=>some []):=⟨_,AU,fun δ xs h G0 H0 G H σ ts Q R0 k=>by cases h;exact k [] G H (by simpa using R0) rfl⟩
def AE(ha:DE X e f)(hr:DA X es fs)(hs:starEach (e::es) X.env=(false,eval e X.env)::starEach es X.env:=by rfl):DA X (e::es) (fun δ=>(f δ).bind fun x=>(fs δ).map fun xs=>x::xs):=by
 obtain⟨ta,pa,ka⟩:=ha;obtain⟨tr,pr,kr⟩:=hr;refine⟨_,AH pa pr hs,fun δ z hz G0 H0 G H σ ts Q R0 k=>?_⟩;obtain⟨x,h1,h2⟩:=aB.mp hz;obtain⟨xs,h3,rfl⟩:=aF.mp h2;refine ka δ x h1 G0 H0 G H σ ts _ R0 fun u G1 H1 R1=>?_;refine kr δ xs h3 G0 H0 G1 H1 σ _ _ R1 fun vs G2 H2 R2 hl=>?_;refine k (u::vs) G2 H2 (R2.less fun q hq=>?_) (by simp[hl]);simp only[List.zip_cons_cons,List.cons_append,List.mem_cons,List.mem_append]at hq ⊢;rcases hq with h|h|h
 ·exact .inr (.inl h)
 ·exact .inl h
 ·exact .inr (.inr h)
def Ss{G:Hp}:∀ {xs:List PD} {vs:List V},vs.length=xs.length→(∀q∈xs.zip vs,Du G q.1 q.2)→Ag G xs vs
 |[],vs,hl,_=>by rw[List.eq_nil_of_length_eq_zero hl];exact .nil
 |x::xs,[],hl,_=>by simp at hl
 |x::xs,v::vs,hl,h=>.cons (h (x,v) (by simp)) (Ss (by simpa using hl) fun q hq=>h q (by simp[hq]))
def Rw.args{G0 H0 G H:Hp}{σ:St}{δ:Dv}{ts:List (PD×V)}{xs:List PD}{vs:List V}(r:Rw G0 H0 G H σ δ (xs.zip vs++ts))(hl:vs.length=xs.length):Ag G xs vs∧Rw G0 H0 G H σ δ ts :=
 ⟨Ss hl fun q hq=>r.Bd q (List.mem_append_left _ hq),r.less fun q hq=>aR _ hq⟩
def Rw.Mm{G0 H0 G H:Hp}{σ:St}{δ:Dv}{ts:List (PD×V)}{xs:List PD}{vs:List V}{p:AD}(r:Rw G0 H0 G H σ δ ts)(d:Ag G xs vs)(hp:H p=none):Rw G0 H0 (upd G p (.lst vs)) (upd H p (.lst vs)) σ δ ((.list xs,.ref p)::ts):=by
 refine(r.newObj hp).put ?_;have e:AG G (upd G p (.lst vs)):=fun a o h=>by rw[AF (AJ (r.ins _ _ h) hp)];exact h
 rw[Du];exact⟨p,vs,rfl,AI,d.same e⟩
def Rw.V0{G0 H0 G H:Hp}{σ:St}{δ:Dv}{ts:List (PD×V)}{xs:List PD}{vs:List V}{p:AD}(r:Rw G0 H0 G H σ δ ts)(d:Ag G xs vs)(hp:H p=none):Rw G0 H0 (upd G p (.tup vs)) (upd H p (.tup vs)) σ δ ((.tuple xs,.ref p)::ts):=by
 refine(r.newObj hp).put ?_;have e:AG G (upd G p (.tup vs)):=fun a o h=>by rw[AF (AJ (r.ins _ _ h) hp)];exact h
 rw[Du];exact⟨p,vs,rfl,AI,d.same e⟩
def HS(xs:List PD):Option (List PD):=if xs.length≤Dy then some xs else none
def MI{xs ys:List PD}(h:HS xs=some ys):xs=ys∧xs.length≤Dy:=by
 unfold HS at h;split at h
 ·rename_i q;cases h;exact⟨rfl,q⟩
 ·cases h
def DN{x1}(ha:DA X es fs):DE X (.Tuple es x1 pos) (fun δ=>((fs δ).bind HS).map .tuple):=by
 obtain⟨ta,pa,ka⟩:=ha;refine⟨_,Od pa,fun δ z hz G0 H0 G H σ ts Q R0 k=>?_⟩;obtain⟨ys,h1,rfl⟩:=aF.mp hz;obtain⟨xs,h2,h3⟩:=aB.mp h1;obtain⟨rfl,hl⟩:=MI h3;refine ka δ _ h2 G0 H0 G H σ ts _ R0 fun vs G1 H1 R1 hv=>?_;obtain⟨d,R2⟩:=R1.args hv;exact⟨EL (by rw[hv];exact hl),fun q hq=>k _ _ _ (R2.V0 d hq)⟩
def MF(ha:DA X es fs):DE X (.List es pos) (fun δ=>((fs δ).bind HS).map .list):=by
 obtain⟨ta,pa,ka⟩:=ha;refine⟨_,Jt pa,fun δ z hz G0 H0 G H σ ts Q R0 k=>?_⟩;obtain⟨ys,h1,rfl⟩:=aF.mp hz;obtain⟨xs,h2,h3⟩:=aB.mp h1;obtain⟨rfl,hl⟩:=MI h3;refine ka δ _ h2 G0 H0 G H σ ts _ R0 fun vs G1 H1 R1 hv=>?_;obtain⟨d,R2⟩:=R1.args hv;exact⟨EL (by rw[hv];exact hl),fun q hq=>k _ _ _ (R2.Mm d hq)⟩
def Ag.EZ{H:Hp}{ds:List PD}{xs:List V}{i:Int}{d:PD}(h:Ag H ds xs)(e:EZ ds i=some d):∃v,EZ xs i=some v∧Du H d v:=by
 unfold L2.EZ at e ⊢;rw[h.len];obtain⟨j,h1,h2⟩:=aB.mp e;obtain⟨v,h3,h4⟩:=h.get h2;exact⟨v,by rw[h1];exact h3,h4⟩
def Nu{G:Hp}:∀ns:List Int,Ag G (ns.map .int) (ns.map V.int)
 |[]=>.nil
 |n::ns=>.cons (by rw[Du]) (Nu ns)
def CH:PD→PD→Option PD:=fun x y=>match x,y with
 |.list xs,.int i=>EZ xs i
 |.tuple xs,.int i=>EZ xs i
 |.dict [(.none,.list xs)],.int i=>EZ xs i
 |.str z,.int i=>if z.length≤Dy then(EZ z.cps.toList i).map fun c=>.str ⟨#[c]⟩ else none
 |_,_=>none
def Bn(ha:DE X a f)(hb:DE X b g)(hs:RG b):DE X (.Subscript a b pos) (AX CH f g):=by
 obtain⟨ta,pa,ka⟩:=ha;obtain⟨tb,pb,kb⟩:=hb;refine⟨_,CM bw pa pb hs,fun δ z hz G0 H0 G H σ ts Q R0 k=>?_⟩;obtain⟨x,y,h1,h2,h3⟩:=two (x:=.none) (y:=.none) hz;refine ka δ x h1 G0 H0 G H σ ts _ R0 fun u G1 H1 R1=>?_;refine kb δ y h2 G0 H0 G1 H1 σ _ _ R1 fun v G2 H2 R2=>?_;have du:=R2.Bd (x,u) (.tail _ (.head _));have dv:=R2.Bd (y,v) (.head _);unfold CH at h3;split at h3
 ·rw[Du]at du;rw[Du]at dv;obtain⟨p,xs,rfl,h4,h5⟩:=du;obtain⟨w,h6,h7⟩:=h5.EZ h3;exact .inl ⟨p,xs,_,w,rfl,dv,Ae.of (R2.ins _ _ h4),h6,k _ _ _ (R2.drop.drop.put h7)⟩
 ·rw[Du]at du;rw[Du]at dv;obtain⟨p,xs,rfl,h4,h5⟩:=du;obtain⟨w,h6,h7⟩:=h5.EZ h3;exact .inr (.inl ⟨p,xs,_,w,rfl,dv,Au.of (R2.ins _ _ h4),h6,k _ _ _ (R2.drop.drop.put h7)⟩)
 ·rw[Du]at du;rw[Du]at dv;rcases du with ⟨ea,C,e1,_⟩|⟨p,ns,e1,rfl,h4⟩|z
  rotate_left 2
  ·rw[Jh]at z;cases z.1
  ·simp at e1
  ·obtain rfl:_=ns.map PyData.int:=by simpa using e1
   obtain⟨w,h6,h7⟩:=(Nu (G:=_) ns).EZ h3;exact .inl ⟨p,_,_,w,rfl,dv,.inl (h4.same R2.ins),h6,k _ _ _ (R2.drop.drop.put h7)⟩
 ·rw[Du]at du;rw[Du]at dv;split at h3
  ·rename_i hl;obtain⟨ch,h6,rfl⟩:=aF.mp h3;exact .inr (.inr ⟨_,_,ch,du,dv,EL hl,h6,k _ _ _ (R2.drop.drop.put (by rw[Du]))⟩)
  ·cases h3
 ·cases h3
end
def BP(g:MD):Sp:=fun vs H Q _=>∃ds x G,g ds=some x∧Ag G ds vs∧AG G H∧∀v G' H',AG G G'→Nw G H G'→AG G' H'→AG H H'→Du G' x v→Q v H'
section
variable{X:Cx}{e:Expr}{es:List Expr}{h:Dv→Option PD}{fs:Dv→Option (List PD)}{pos p:Pos}
def Am{k:Nat}{fA:AD}{fd:FuncData}{ps:List Str}{m:MD}{x:Str}{st:Stmt}(T:Fn X.K X.mg x st ps fA fd)(F:AL X.prog X.w X.K X.mg X.base Ah k fA fd ps (BP m))(hr:Cy k X.A)(hg:Gl X x)(ha:DA X (e::es) fs)
 (hdb:(x==("__debug__" : Str))=false:=by decide)(he:starEach (e::es) X.env=(false,eval e X.env)::starEach es X.env:=by rfl)(hpl:(backTo pos (starEach es X.env)).any (·.1)=false:=by rfl) :
  DE X (.Call (.Name x p) (e::es) [] pos) (fun δ=>(fs δ).bind m):=by
 obtain⟨ta,pa,ka⟩:=ha;refine⟨_,B9 T F hr hg pa hdb he hpl,fun δ z hz G0 H0 G H σ ts Q R0 k=>?_⟩;obtain⟨xs,h1,h2⟩:=aB.mp hz;refine ka δ _ h1 G0 H0 G H σ ts _ R0 fun vs G1 H1 R1 hv=>?_;obtain⟨d,R2⟩:=R1.args hv;refine⟨xs,z,G1,h2,by rw[List.append_nil];exact d,R2.ins,fun v G' H' h3 h4 h5 h6 h7=>?_⟩;exact k _ _ _ ((R2.lift h3 h4 h5 h6).put h7)
def Kk(X:Cx)(v:VL)(o:MD):Prop:=∃r,Cv X v r∧∀xs z,o xs=some z→∀G0 H0 G H σ δ ts us (Q:VK),Rw G0 H0 G H σ δ ts→Ag G xs us→(∀w G' H',Rw G0 H0 G' H' σ δ ((z,w)::ts)→Q w H')→r us H Q
def G7{x:Str}{id:String}{o:MD}(hc:Kk X (.builtin id) o)(hg:Gl X x)(hm:X.mg x=none)(hv:bootBuiltins x=some (.builtin id))(ha:DA X (e::es) fs)(hn:x ≠ "__name__" := by decide)(hdb:(x==("__debug__" : Str))=false:=by decide)
 (he:starEach (e::es) X.env=(false,eval e X.env)::starEach es X.env:=by rfl)(hpl:(backTo pos (starEach es X.env)).any (·.1)=false:=by rfl):DE X (.Call (.Name x p) (e::es) [] pos) (fun δ=>(fs δ).bind o):=by
 obtain⟨r,hr,kr⟩:=hc;obtain⟨ta,pa,ka⟩:=ha;refine⟨_,BB hr hg hm hv pa hn hdb he hpl,fun δ z hz G0 H0 G H σ ts Q R0 k=>?_⟩;obtain⟨xs,h1,h2⟩:=aB.mp hz;refine ka δ _ h1 G0 H0 G H σ ts _ R0 fun vs G1 H1 R1 hv=>?_;obtain⟨d,R2⟩:=R1.args hv;exact kr xs z h2 G0 H0 G1 H1 σ δ ts vs Q R2 d k
def Hb{x:Str}{T:String}{o:MD}(hc:Kk X (.type T) o)(hg:Gl X x)(hm:X.mg x=none)(hv:bootBuiltins x=some (.type T))(ha:DA X (e::es) fs)(hn:x ≠ "__name__" := by decide)(hdb:(x==("__debug__" : Str))=false:=by decide)
 (he:starEach (e::es) X.env=(false,eval e X.env)::starEach es X.env:=by rfl)(hpl:(backTo pos (starEach es X.env)).any (·.1)=false:=by rfl):DE X (.Call (.Name x p) (e::es) [] pos) (fun δ=>(fs δ).bind o):=by
 obtain⟨r,hr,kr⟩:=hc;obtain⟨ta,pa,ka⟩:=ha;refine⟨_,NP hr hg hm hv pa hn hdb he hpl,fun δ z hz G0 H0 G H σ ts Q R0 k=>?_⟩;obtain⟨xs,h1,h2⟩:=aB.mp hz;refine ka δ _ h1 G0 H0 G H σ ts _ R0 fun vs G1 H1 R1 hv=>?_;obtain⟨d,R2⟩:=R1.args hv;exact kr xs z h2 G0 H0 G1 H1 σ δ ts vs Q R2 d k
def Ag.F6{H:Hp}{d:PD}{xs:List V}(h:Ag H [d] xs):∃x,xs=[x]∧Du H d x:=by
 obtain⟨x,r,rfl,h1,h2⟩:=h.un;rw[h2.nil_eq];exact⟨x,rfl,h1⟩
def Ag.Qk{H:Hp}{d e:PD}{xs:List V}(h:Ag H [d,e] xs):∃x y,xs=[x,y]∧Du H d x∧Du H e y:=by
 obtain⟨x,r,rfl,h1,h2⟩:=h.un;obtain⟨y,rfl,h3⟩:=h2.F6;exact⟨x,y,rfl,h1,h3⟩
def NB:MD
 |[.list xs]=>some (.int xs.length)
 |[.tuple xs]=>some (.int xs.length)
 |[.dict [(.none,.list xs)]]=>some (.int xs.length)
 |_=>none
def T1:Kk X (.builtin "len") NB:=by
 refine⟨_,Bk,fun xs z hz G0 H0 G H σ δ ts us Q R0 d k=>?_⟩;unfold NB at hz;split at hz
 ·cases hz;obtain⟨u,rfl,du⟩:=d.F6;rw[Du]at du;obtain⟨p,ys,rfl,h4,h5⟩:=du;refine⟨p,ys,rfl,.inl (Ae.of (R0.ins _ _ h4)),?_⟩;rw[h5.len];exact k _ _ _ (R0.put (by rw[Du]))
 ·cases hz;obtain⟨u,rfl,du⟩:=d.F6;rw[Du]at du;obtain⟨p,ys,rfl,h4,h5⟩:=du;refine⟨p,ys,rfl,.inr (Au.of (R0.ins _ _ h4)),?_⟩;rw[h5.len];exact k _ _ _ (R0.put (by rw[Du]))
 ·cases hz;obtain⟨u,rfl,du⟩:=d.F6;rw[Du]at du;rcases du with ⟨ea,C,e1,_⟩|⟨p,ns,e1,rfl,h4⟩|z
  rotate_left 2
  ·rw[Jh]at z;cases z.1
  ·simp at e1
  ·obtain rfl:_=ns.map PyData.int:=by simpa using e1
   refine⟨p,_,rfl,.inl (.inl (h4.same R0.ins)),?_⟩;rw[List.length_map]at k ⊢;exact k _ _ _ (R0.put (by rw[Du]))
 ·cases hz
def LW:MD
 |[.list xs]=>some (.tuple xs)
 |[.tuple xs]=>some (.tuple xs)
 |_=>none
def VC:Kk X (.type "tuple") LW:=by
 refine⟨_,N2,fun xs z hz G0 H0 G H σ δ ts us Q R0 d k=>?_⟩;unfold LW at hz;split at hz
 ·cases hz;obtain⟨u,rfl,du⟩:=d.F6;rw[Du]at du;obtain⟨p,ys,rfl,h4,h5⟩:=du;exact⟨p,ys,rfl,.inl ⟨Ae.of (R0.ins _ _ h4),fun l hl=>k _ _ _ (R0.V0 h5 hl)⟩⟩
 ·cases hz;obtain⟨u,rfl,du⟩:=d.F6;have du':=du;rw[Du]at du;obtain⟨p,ys,rfl,h4,h5⟩:=du;exact⟨p,ys,rfl,.inr ⟨Au.of (R0.ins _ _ h4),k _ _ _ (R0.put du')⟩⟩
 ·cases hz
def IV:MD
 |[.list xs]=>some (.list xs)
 |[.tuple xs]=>some (.list xs)
 |_=>none
def NA:Kk X (.type "list") IV:=by
 refine⟨_,PN,fun xs z hz G0 H0 G H σ δ ts us Q R0 d k=>?_⟩;unfold IV at hz;split at hz
 ·cases hz;obtain⟨u,rfl,du⟩:=d.F6;rw[Du]at du;obtain⟨p,ys,rfl,h4,h5⟩:=du;exact⟨p,ys,rfl,.inl (Ae.of (R0.ins _ _ h4)),fun l hl=>k _ _ _ (R0.Mm h5 hl)⟩
 ·cases hz;obtain⟨u,rfl,du⟩:=d.F6;rw[Du]at du;obtain⟨p,ys,rfl,h4,h5⟩:=du;exact⟨p,ys,rfl,.inr (Au.of (R0.ins _ _ h4)),fun l hl=>k _ _ _ (R0.Mm h5 hl)⟩
 ·cases hz
end
inductive Ou where
 |nx (δ:Dv)|rt (x:PyData)|bk (δ:Dv)|ct (δ:Dv)|rn (xs:List PyData)
def Fin(G0 H0:Hp)(D:Ends):Ou→Prop
 |.nx δ=>∀σ G H,Rw G0 H0 G H σ δ []→D.nx σ H
 |.rt x=>∀v G H,AG G0 G→Nw G0 H0 G→AG G H→AG H0 H→Du G x v→D.rt v H
 |.bk δ=>∀σ G H,Rw G0 H0 G H σ δ []→D.bk σ H
 |.ct δ=>∀σ G H,Rw G0 H0 G H σ δ []→D.ct σ H
 |.rn xs=>∀a ys G H,AG G0 G→Nw G0 H0 G→AG G H→AG H0 H→H0 a=none→G a=none→H a=some (.lst ys)→Ag G xs ys→D.rt (.ref a) H
abbrev DF:=Dv→Option Ou
def DS(X:Cx)(st:Stmt)(F:DF):Prop:=∃t,PS X st t∧∀δ r,F δ=some r→∀G0 H0 G H σ D,Rw G0 H0 G H σ δ []→Fin G0 H0 D r→t D σ H
def Nx(X:Cx)(st:List Stmt)(F:DF):Prop:=∃t,Hr X st t∧∀δ r,F δ=some r→∀G0 H0 G H σ D,Rw G0 H0 G H σ δ []→Fin G0 H0 D r→t D σ H
def Ay(F1 F2:DF)(δ:Dv):Option Ou:=match F1 δ with
 |some (.nx δ')=>F2 δ'
 |o=>o
section
variable{X:Cx}{c e:Expr}{f h:Dv→Option PD}{fa:Dv→Option Bool}{pos p:Pos}{st:Stmt}{sts sts':List Stmt}{F1 F2:DF}
def C6:Nx X [] (fun δ=>some (.nx δ)):=⟨_,B8,fun δ r h G0 H0 G H σ D R k=>by cases h;exact k _ _ _ R⟩
def AW(h1:DS X st F1)(h2:Nx X sts F2):Nx X (st::sts) (Ay F1 F2):=by
 obtain⟨t1,p1,k1⟩:=h1;obtain⟨t2,p2,k2⟩:=h2;refine⟨_,AY p1 p2,fun δ r h G0 H0 G H σ D R k=>?_⟩;unfold Ay at h;split at h
 ·rename_i δ' e1;exact k1 δ _ e1 G0 H0 G H σ _ R fun σ' G' H' R'=>k2 δ' r h G0 H0 G' H' σ' D R' k
 ·rename_i hne;refine k1 δ r h G0 H0 G H σ _ R ?_;cases r with
  |nx δ'=>exact absurd h (hne δ')
  |rt x=>exact k
  |bk δ'=>exact k
  |ct δ'=>exact k
  |rn xs=>exact k
def Ai(h1:DS X st F1):Nx X [st] F1:=by
 obtain⟨t1,p1,k1⟩:=h1;exact⟨_,Ad p1,k1⟩
def JF:DS X st (fun _=>none):=⟨_,OJ,fun _ _ h=>by cases h⟩
def Bs(he:DE X e f):DS X (.Return (some e) pos) (fun δ=>(f δ).map .rt):=by
 obtain⟨t,p,k⟩:=he;refine⟨_,BJ p,fun δ r h G0 H0 G H σ D R q=>?_⟩;obtain⟨x,h1,rfl⟩:=aF.mp h;exact k δ x h1 G0 H0 G H σ [] _ R fun v G' H' R'=>q v G' H' R'.ext R'.new R'.ins R'.keep (R'.Bd _ (.head _))
def IY(he:DE X e f)(hs:swapsWith e none pos.line X.env=pure false:=by rfl):DS X (.Expr e pos) (fun δ=>(f δ).map fun _=>.nx δ):=by
 obtain⟨t,p,k⟩:=he;refine⟨_,Ib p hs,fun δ r h G0 H0 G H σ D R q=>?_⟩;obtain⟨x,h1,rfl⟩:=aF.mp h;exact k δ x h1 G0 H0 G H σ [] _ R fun v G' H' R'=>q _ _ _ R'.drop
def FF(hc:DT X c fa)(h1:Nx X sts F1)(h2:Nx X sts' F2):DS X (.If c sts sts' pos) (fun δ=>(fa δ).bind fun c=>if c=true then F1 δ else F2 δ):=by
 obtain⟨tc,pc,kc⟩:=hc;obtain⟨t1,p1,k1⟩:=h1;obtain⟨t2,p2,k2⟩:=h2;refine⟨_,Df pc p1 p2,fun δ r h G0 H0 G H σ D R q=>?_⟩;obtain⟨i,h3,h4⟩:=aB.mp h;refine kc δ i h3 G0 H0 G H σ [] _ R fun G' H' R'=>?_;split
 ·rename_i hc;rw[if_pos hc]at h4;exact k1 δ r h4 G0 H0 G' H' σ D R' q
 ·rename_i hc;rw[if_neg hc]at h4;exact k2 δ r h4 G0 H0 G' H' σ D R' q
end
section
variable{G0 H0 G H:Hp}{σ:St}{δ:Dv}{ts:List (PD×V)}
def Rw.HA{i:Nat}{x:PD}{v:V}(r:Rw G0 H0 G H σ δ ((x,v)::ts)):Rw G0 H0 G H (σ.set i (some v)) (δ.set i (.d x)) ts:=by
 have hl:=r.len;refine⟨r.ext,r.new,r.ins,r.keep,by simp[hl],fun j y h=>?_,fun j ys h=>?_,fun j l ys zs hjl h1 h2=>?_,fun q hq=>r.Bd q (.tail _ hq)⟩
 ·by_cases hj:i=j
  ·subst hj;by_cases hi:i<δ.length
   ·rw[List.getElem?_set_self hi]at h;cases h;exact⟨v,by rw[List.getElem?_set_self (by lia)],r.Bd _ (.head _)⟩
   ·rw[List.getElem?_eq_none (by simp;lia)]at h;cases h
  ·rw[List.getElem?_set_ne hj]at h;obtain⟨w,k1,k2⟩:=r.dat j y h;exact⟨w,by rw[List.getElem?_set_ne hj];exact k1,k2⟩
 ·by_cases hj:i=j
  ·subst hj;by_cases hi:i<δ.length
   ·rw[List.getElem?_set_self hi]at h;cases h
   ·rw[List.getElem?_eq_none (by simp;lia)]at h;cases h
  ·rw[List.getElem?_set_ne hj]at h;obtain⟨w,k1,k2,k3⟩:=r.own j ys h;exact⟨w,k1,by rw[List.getElem?_set_ne hj];exact k2,k3⟩
 ·have nj:i≠j:=fun z=>by
   subst z;by_cases hi:i<δ.length
   ·rw[List.getElem?_set_self hi]at h1;cases h1
   ·rw[List.getElem?_eq_none (by simp;lia)]at h1;cases h1
  have nl:i≠l:=fun z=>by
   subst z;by_cases hi:i<δ.length
   ·rw[List.getElem?_set_self hi]at h2;cases h2
   ·rw[List.getElem?_eq_none (by simp;lia)]at h2;cases h2
  rw[List.getElem?_set_ne nj]at h1 ⊢;rw[List.getElem?_set_ne nl]at h2 ⊢;exact r.apart j l ys zs hjl h1 h2
end
section
variable{X:Cx}{e:Expr}{f:Dv→Option PD}{pos p:Pos}
def BQ{i:Nat}{x:Str}{pos':Pos}(hN:X.N.Nodup)(hi:X.N[i]? = some x)(hx:Loc X.env.scope x)(he:DE X e f)(hs:swapsWith e (some (.Name x pos')) pos.line X.env=pure false:=by rfl)(hf:X.fn x=true∨X.env.scope.names.lookup x=some .local:=by first|exact .inl rfl|exact .inr rfl|assumption) :
  DS X (.Assign [.Name x pos'] e pos) (fun δ=>(f δ).map fun y=>.nx (δ.set i (.d y))):=by
 obtain⟨t,p,k⟩:=he;refine⟨_,BL hN hi hx p hs hf,fun δ r h G0 H0 G H σ D R q=>?_⟩;obtain⟨y,h1,rfl⟩:=aF.mp h;exact k δ y h1 G0 H0 G H σ [] _ R fun v G' H' R'=>q _ _ _ R'.HA
end
section
variable{G0 H0 G H:Hp}{σ:St}{δ:Dv}{ts:List (PD×V)}
def Rw.base(r:Rw G0 H0 G H σ δ ts):Rw G H0 G H σ δ ts:={r with ext:=AG.refl G,new:=fun _ _ h=>.inl h}
def Nw.trans{G1 G2:Hp}(a:Nw G0 H0 G1)(b:Nw G1 H0 G2):Nw G0 H0 G2:=fun c o h=>by
 rcases b c o h with z|z|z
 ·exact a c o z
 ·exact .inr (.inl z)
 ·exact .inr (.inr z)
def Rw.PF{G' H':Hp}{σ':St}{δ':Dv}{ts':List (PD×V)}(r:Rw G0 H0 G H σ δ ts)(q:Rw G H0 G' H' σ' δ' ts'):Rw G0 H0 G' H' σ' δ' ts':={q with ext:=r.ext.trans q.ext,new:=r.new.trans q.new}
def C8(i:Nat)(δ:Dv):Dv:=match δ[i]? with
 |some (.own (.lst xs))=>δ.set i (.d (.list xs))
 |some (.own (.Uh kvs))=>δ.set i (.d (Sj kvs))
 |_=>δ
def Rw.letGo{i:Nat}{c:Oc}{x:PD}(r:Rw G0 H0 G H σ δ ts)(hi:δ[i]? = some (.own c))(hx:∀a o,G a=none→GK G a c o→Du (upd G a o) x (.ref a)):∃a o,σ[i]? = some (some (.ref a))∧G a=none∧H0 a=none∧H a=some o∧GK G a c o∧Rw G0 H0 (upd G a o) H σ (δ.set i (.d x)) ts:=by
 obtain⟨a,o,k1,k2,k3,k4,k5⟩:=r.own i _ hi;have e:AG G (upd G a o):=Aa k2 _;have hlt:i<δ.length:=(aE.mp hi).1;refine⟨a,o,k1,k2,k3,k4,k5,r.ext.trans e,fun b o' h=>?_,fun b o' h=>?_,r.keep,by simp[r.len],fun j y h=>?_,fun j zs h=>?_,fun j l us ws hjl h1 h2=>?_,fun q hq=>(r.Bd q hq).same e⟩
 ·by_cases hb:b=a
  ·subst hb;exact .inr (.inl k3)
  ·rw[AF hb]at h;exact r.new _ _ h
 ·by_cases hb:b=a
  ·subst hb;rw[AI]at h;rw[k4];exact h
  ·rw[AF hb]at h;exact r.ins _ _ h
 ·by_cases hj:i=j
  ·subst hj;rw[List.getElem?_set_self hlt]at h;cases h;exact⟨.ref a,k1,hx a o k2 k5⟩
  ·rw[List.getElem?_set_ne hj]at h;obtain⟨w,m1,m2⟩:=r.dat j y h;exact⟨w,m1,m2.same e⟩
 ·by_cases hj:i=j
  ·subst hj;rw[List.getElem?_set_self hlt]at h;cases h
  ·rw[List.getElem?_set_ne hj]at h;obtain⟨b,us,m1,m2,m3,m4,m5⟩:=r.own j zs h;have nb:b≠a:=fun z=>by subst z;exact r.apart i j _ zs hj hi h (by rw[k1,m1])
   exact⟨b,us,m1,by rw[AF nb];exact m2,m3,m4,m5.same e⟩
 ·have nj:i≠j:=fun z=>by subst z;rw[List.getElem?_set_self hlt]at h1;cases h1
  have nl:i≠l:=fun z=>by subst z;rw[List.getElem?_set_self hlt]at h2;cases h2
  rw[List.getElem?_set_ne nj]at h1;rw[List.getElem?_set_ne nl]at h2;exact r.apart j l us ws hjl h1 h2
def ZI{a:AD}{o:HO}{xs:List PD}(hG:G a=none)(h:GK G a (.lst xs) o):Du (upd G a o) (.list xs) (.ref a):=by
 obtain⟨ys,rfl,k5⟩:=h;rw[Du];exact⟨a,ys,rfl,AI,k5.same (Aa hG _)⟩
def YI{a:AD}{o:HO}{kvs:List (Option Tr×PD)}(hG:G a=none)(h:GK G a (.Uh kvs) o):Du (upd G a o) (Sj kvs) (.ref a):=by
 obtain⟨r,rfl,n,k5⟩:=h;rw[Du,Jh];exact .inr (.inr ⟨rfl,rfl,a,r,rfl,AI,n,JZ.same (Aa hG _) k5⟩)
def Rw.C8(i:Nat)(r:Rw G0 H0 G H σ δ ts):∃G',Rw G0 H0 G' H σ (L2.C8 i δ) ts:=by
 unfold L2.C8;split
 ·rename_i xs hi;obtain⟨a,o,_,_,_,_,_,R⟩:=r.letGo (x:=.list xs) hi fun a o h=>ZI h;exact⟨_,R⟩
 ·rename_i kvs hi;obtain⟨a,o,_,_,_,_,_,R⟩:=r.letGo (x:=Sj kvs) hi fun a o h=>YI h;exact⟨_,R⟩
 ·exact⟨G,r⟩
def Rw.Zu{i:Nat}{xs:Oc}{ys:HO}{a:AD}(r:Rw G0 H0 G H σ δ ts)(d:GK G a xs ys)(ha:H a=none):Rw G0 H0 G (upd H a ys) (σ.set i (some (.ref a))) (δ.set i (.own xs)) ts:=by
 have hG:G a=none:=by
  cases q:G a with
  |none=>rfl
  |some u=>rw[r.ins _ _ q]at ha;cases ha
 have h0:H0 a=none:=by
  cases q:H0 a with
  |none=>rfl
  |some u=>rw[r.keep _ _ q]at ha;cases ha
 have e:AG H (upd H a ys):=Aa ha _;have hl:=r.len;have other:∀(j:Nat) (zs:Oc),i≠j→(δ.set i (.own xs))[j]? = some (L.own zs)→δ[j]? = some (L.own zs):=fun j zs hj h=>by rw[List.getElem?_set_ne hj]at h;exact h
 have nota:∀(j:Nat) (zs:Oc),δ[j]? = some (L.own zs)→σ[j]?≠some (some (V.ref a)):=fun j zs h z=>by
  obtain⟨b,us,m1,m2,m3,m4,m5⟩:=r.own j zs h;rw[z]at m1;cases m1;rw[m4]at ha;cases ha
 refine⟨r.ext,r.new,r.ins.trans e,r.keep.trans e,by simp[hl],fun j y h=>?_,fun j zs h=>?_,fun j l us ws hjl h1 h2=>?_,r.Bd⟩
 ·by_cases hj:i=j
  ·subst hj;by_cases hi:i<δ.length
   ·rw[List.getElem?_set_self hi]at h;cases h
   ·rw[List.getElem?_eq_none (by simp;lia)]at h;cases h
  ·rw[List.getElem?_set_ne hj]at h;obtain⟨w,m1,m2⟩:=r.dat j y h;exact⟨w,by rw[List.getElem?_set_ne hj];exact m1,m2⟩
 ·by_cases hj:i=j
  ·subst hj;by_cases hi:i<δ.length
   ·rw[List.getElem?_set_self hi]at h;cases h;exact⟨a,ys,by rw[List.getElem?_set_self (by lia)],hG,h0,AI,d⟩
   ·rw[List.getElem?_eq_none (by simp;lia)]at h;cases h
  ·have h:=other j zs hj h;obtain⟨b,us,m1,m2,m3,m4,m5⟩:=r.own j zs h;exact⟨b,us,by rw[List.getElem?_set_ne hj];exact m1,m2,m3,e _ _ m4,m5⟩
 ·by_cases hj:i=j
  ·subst hj;have hl2:i≠l:=hjl;have h2:=other l ws hl2 h2;by_cases hi:i<δ.length
   ·rw[List.getElem?_set_self (by lia),List.getElem?_set_ne hl2];exact fun z=>nota l ws h2 z.symm
   ·rw[List.getElem?_eq_none (by simp;lia)]at h1;cases h1
  ·have h1:=other j us hj h1;by_cases hk:i=l
   ·subst hk;by_cases hi:i<δ.length
    ·rw[List.getElem?_set_self (by lia),List.getElem?_set_ne hj];exact fun z=>nota j us h1 z
    ·rw[List.getElem?_eq_none (by simp;lia)]at h2;cases h2
   ·have h2:=other l ws hk h2;rw[List.getElem?_set_ne hj,List.getElem?_set_ne hk];exact r.apart j l us ws hjl h1 h2
def Rw.WD{i:Nat}{xs xs':Oc}{ys:HO}{a:AD}(r:Rw G0 H0 G H σ δ ts)(hi:δ[i]? = some (.own xs))(ha:σ[i]? = some (some (.ref a)))(d:GK G a xs' ys):Rw G0 H0 G (upd H a ys) σ (δ.set i (.own xs')) ts:=by
 obtain⟨a',ys0,k1,k2,k3,k4,k5⟩:=r.own i xs hi;rw[ha]at k1;cases k1;have hlt:i<δ.length:=(aE.mp hi).1;have hl:=r.len;refine⟨r.ext,r.new,fun b o h=>?_,fun b o h=>?_,by simp[hl],fun j y h=>?_,fun j zs h=>?_,fun j l us ws hjl h1 h2=>?_,r.Bd⟩
 ·rw[AF (fun z=>by subst z;rw[k2]at h;cases h)];exact r.ins _ _ h
 ·rw[AF (fun z=>by subst z;rw[k3]at h;cases h)];exact r.keep _ _ h
 ·by_cases hj:i=j
  ·subst hj;rw[List.getElem?_set_self hlt]at h;cases h
  ·rw[List.getElem?_set_ne hj]at h;exact r.dat j y h
 ·by_cases hj:i=j
  ·subst hj;rw[List.getElem?_set_self hlt]at h;cases h;exact⟨a,ys,ha,k2,k3,AI,d⟩
  ·rw[List.getElem?_set_ne hj]at h;obtain⟨b,us,m1,m2,m3,m4,m5⟩:=r.own j zs h;have nb:b≠a:=fun z=>by subst z;exact r.apart i j xs zs hj hi h (by rw[ha,m1])
   exact⟨b,us,m1,m2,m3,by rw[AF nb];exact m4,m5⟩
 ·have f:∀(j:Nat) (us:Oc),(δ.set i (.own xs'))[j]? = some (L.own us)→∃us',δ[j]? = some (L.own us'):=fun j us h=>by
   by_cases hj:i=j
   ·subst hj;exact⟨xs,hi⟩
   ·rw[List.getElem?_set_ne hj]at h;exact⟨us,h⟩
  obtain⟨us',h1⟩:=f j us h1;obtain⟨ws',h2⟩:=f l ws h2;exact r.apart j l us' ws' hjl h1 h2
end
section
variable{X:Cx}{a b e:Expr}{es:List Expr}{f h:Dv→Option PD}{fs:Dv→Option (List PD)}{pos p:Pos}{st:Stmt}{F:DF}
def Zj(i:Nat)(h1:DS X st F):DS X st (fun δ=>F (C8 i δ)):=by
 obtain⟨t,p,k⟩:=h1;refine⟨t,p,fun δ r h G0 H0 G H σ D R q=>?_⟩;obtain⟨G',R'⟩:=R.C8 i;exact k _ r h G0 H0 G' H σ D R' q
def UU{i:Nat}{x:Str}{pos' lp:Pos}(hN:X.N.Nodup)(hi:X.N[i]? = some x)(hx:Loc X.env.scope x)(ha:DA X es fs)(hs:swapsWith (.List es lp) (some (.Name x pos')) pos.line X.env=pure false:=by rfl)(hf:X.fn x=true∨X.env.scope.names.lookup x=some .local:=by first|exact .inl rfl|exact .inr rfl|assumption) :
  DS X (.Assign [.Name x pos'] (.List es lp) pos) (fun δ=>((fs δ).bind HS).map fun ys=>.nx (δ.set i (.own (.lst ys)))):=by
 obtain⟨t,p,k⟩:=ha;refine⟨_,BL hN hi hx (Jt p) hs hf,fun δ r h G0 H0 G H σ D R q=>?_⟩;obtain⟨y,h1,rfl⟩:=aF.mp h;obtain⟨xs,h2,h3⟩:=aB.mp h1;obtain⟨rfl,hl⟩:=MI h3;refine k δ _ h2 G0 H0 G H σ [] _ R fun vs G1 H1 R1 hv=>?_;obtain⟨d,R2⟩:=R1.args hv;exact⟨EL (by rw[hv];exact hl),fun l hl'=>q _ _ _ (R2.Zu ⟨_,rfl,d⟩ hl')⟩
def ow(i:Nat)(δ:Dv):Option (List PD):=match δ[i]? with
 |some (.own (.lst xs))=>some xs
 |_=>none
def Se{i:Nat}{δ:Dv}{xs:List PD}(h:ow i δ=some xs):δ[i]? = some (.own (.lst xs)):=by
 unfold ow at h;split at h
 ·rename_i y e;cases h;exact e
 ·cases h
def T6{i:Nat}{x:Str}{np ap cp:Pos}(hv:PE X (.Name x np) (KS i))(he:DE X e f)
 (hP:∀ {to:TE} {t:TA},PE X (.Name x np) to→PA X [e] t→PS X (.Expr (.Call (.Attribute (.Name x np) "append" ap) [e] [] cp) pos) (RS (Z4 X.K "list" RB to t)))(hs1:starEach [e] X.env=(false,eval e X.env)::starEach [] X.env:=by rfl) :
  DS X (.Expr (.Call (.Attribute (.Name x np) "append" ap) [e] [] cp) pos) (fun δ=>(f δ).bind fun y=>(ow i δ).bind fun xs=>if xs.length<Dy then some (.nx (δ.set i (.own (.lst (xs++[y]))))) else none):=by
 obtain⟨t,p,k⟩:=he;refine⟨_,hP hv (AH p AU hs1),fun δ r h G0 H0 G H σ D R q=>?_⟩;obtain⟨y,h1,h2⟩:=aB.mp h;obtain⟨xs,h3,h4⟩:=aB.mp h2;split at h4
 ·rename_i hl;cases h4;have hi:=Se h3;obtain⟨a,_,k1,k2,k3,k4,⟨ys,rfl,k5⟩⟩:=R.own i _ hi;refine⟨.ref a,k1,.inl ⟨rfl,ys,Ae.of k4⟩,?_⟩;refine k δ y h1 G0 H0 G H σ [] _ R fun u G1 H1 R1=>?_;obtain⟨a',_,m1,m2,m3,m4,⟨zs,rfl,m5⟩⟩:=R1.own i _ hi;rw[k1]at m1;cases m1;refine⟨a,zs,u,rfl,rfl,m4,Qe (by rw[m5.len];lia),?_⟩;exact q _ _ _ (R1.drop.WD hi k1 ⟨_,rfl,m5.app (.cons (R1.Bd _ (.head _)) .nil)⟩)
 ·cases h4
def Tt{i:Nat}{x:Str}{np ap cp:Pos}(hv:PE X (.Name x np) (KS i))(he:DE X e f)
 (hP:∀ {to:TE} {t:TA},PE X (.Name x np) to→PA X [e] t→PS X (.Expr (.Call (.Attribute (.Name x np) "extend" ap) [e] [] cp) pos) (RS (Z4 X.K "list" Qx to t)))(hs1:starEach [e] X.env=(false,eval e X.env)::starEach [] X.env:=by rfl) :
  DS X (.Expr (.Call (.Attribute (.Name x np) "extend" ap) [e] [] cp) pos) (fun δ=>(f δ).bind fun y=>(ow i δ).bind fun xs=>match y with|.list zs=>(if xs.length+zs.length≤Dy then some (.nx (δ.set i (.own (.lst (xs++zs))))) else none)|_=>none):=by
 obtain⟨t,p,k⟩:=he;refine⟨_,hP hv (AH p AU hs1),fun δ r h G0 H0 G H σ D R q=>?_⟩;obtain⟨y,h1,h2⟩:=aB.mp h;obtain⟨xs,h3,h4⟩:=aB.mp h2;split at h4
 ·rename_i zs;split at h4
  ·rename_i hl;cases h4;have hi:=Se h3;obtain⟨a,_,k1,k2,k3,k4,⟨ys,rfl,k5⟩⟩:=R.own i _ hi;refine⟨.ref a,k1,.inl ⟨rfl,ys,Ae.of k4⟩,?_⟩;refine k δ _ h1 G0 H0 G H σ [] _ R fun u G1 H1 R1=>?_;obtain⟨a',_,m1,m2,m3,m4,⟨us,rfl,m5⟩⟩:=R1.own i _ hi;rw[k1]at m1;cases m1;have du:=R1.Bd _ (.head _);rw[Du]at du;obtain⟨b,ws,rfl,n1,n2⟩:=du;refine⟨a,b,us,ws,rfl,rfl,m4,R1.ins _ _ n1,EL (by rw[m5.len,n2.len];exact hl),?_⟩;exact q _ _ _ (R1.drop.WD hi k1 ⟨_,rfl,m5.app n2⟩)
  ·cases h4
 ·cases h4
end
structure JP(J:It)(xs:List PyData)(G:Hp):Prop where
 stop:∀H,AG G H→J.stop xs.length H
 go:∀(i:Nat) (d:PyData) H,xs[i]? = some d→AG G H→J.go i H
 Dl:∀(i:Nat) (d:PyData) H x H',xs[i]? = some d→AG G H→J.Dl i H x H'→∀Gc,AG G Gc→AG Gc H→∃Gc',AG Gc Gc'∧Nw Gc H Gc'∧AG Gc' H'∧AG H H'∧Du Gc' d x
def Nw.refl{G H:Hp}:Nw G H G:=fun _ _ h=>.inl h
def XO{K:Fg}{G:Hp}{a:AD}{ys:List V}{xs:List PD}(ha:G a=some (.lst ys))(d:Ag G xs ys):JP (RE K a) xs G where
 stop:=fun H e=>⟨ys,Ae.of (e _ _ ha),by rw[d.len];exact aG _⟩
 go:=fun i x H hx e=>by
  obtain⟨v,h1,_⟩:=d.get hx;exact⟨ys,v,Ae.of (e _ _ ha),h1⟩
 Dl:=fun i x H v H' hx e y Gc e1 e2=>by
  obtain⟨rfl,y⟩:=y;have h1:=y ys (Ae.of (e _ _ ha));obtain⟨x',h2,h3⟩:=d.back h1;rw[hx]at h2;cases h2;exact⟨Gc,AG.refl _,Nw.refl,e2,AG.refl _,h3.same e1⟩
def Zs{K:Fg}{G:Hp}{a:AD}{ys:List V}{xs:List PD}(ha:G a=some (.tup ys))(d:Ag G xs ys):JP (Qf K a) xs G where
 stop:=fun H e=>⟨ys,Au.of (e _ _ ha),by rw[d.len];exact aG _⟩
 go:=fun i x H hx e=>by
  obtain⟨v,h1,_⟩:=d.get hx;exact⟨ys,v,Au.of (e _ _ ha),h1⟩
 Dl:=fun i x H v H' hx e y Gc e1 e2=>by
  obtain⟨rfl,y⟩:=y;have h1:=y ys (Au.of (e _ _ ha));obtain⟨x',h2,h3⟩:=d.back h1;rw[hx]at h2;cases h2;exact⟨Gc,AG.refl _,Nw.refl,e2,AG.refl _,h3.same e1⟩
def E8(lo:Int)(n:Nat):List PD:=(List.range n).map fun k=>.int (lo+(k:Nat))
def UY{G:Hp}{lo:Int}{n:Nat}:JP (S8 lo n) (E8 lo n) G where
 stop:=fun H e=>by show n≤_;simp[E8]
 go:=fun i x H hx e=>by
  have:=(aE.mp hx).1;show i<n
  simpa[E8]using this
 Dl:=fun i x H v H' hx e y Gc e1 e2=>by
  obtain⟨rfl,rfl⟩:=y;unfold E8 at hx;rw[List.getElem?_map]at hx;obtain⟨k,h1,rfl⟩:=aF.mp hx;have hk:k=i:=by
   have:=(aE.mp h1).1;rw[List.getElem?_range (by simpa using this)]at h1;cases h1;rfl
  subst hk;exact⟨Gc,AG.refl _,Nw.refl,e2,AG.refl _,by rw[Du]⟩
def Oh{Gc H:Hp}{p:AD}{d1 d2:PD}{v1 v2:V}(e2:AG Gc H)(hp:H p=none)(h1:Du Gc d1 v1)(h2:Du Gc d2 v2) :
  ∃Gc',AG Gc Gc'∧Nw Gc H Gc'∧AG Gc' (upd H p (.tup [v1,v2]))∧AG H (upd H p (.tup [v1,v2]))∧Du Gc' (.tuple [d1,d2]) (.ref p):=by
 have hG:Gc p=none:=by
  cases q:Gc p with
  |none=>rfl
  |some u=>rw[e2 _ _ q]at hp;cases hp
 have e:AG Gc (upd Gc p (.tup [v1,v2])):=Aa hG _;refine⟨upd Gc p (.tup [v1,v2]),e,fun a o h=>?_,fun a o h=>?_,Aa hp _,?_⟩
 ·by_cases ha:a=p
  ·subst ha;exact .inr (.inl hp)
  ·rw[AF ha]at h;exact .inl h
 ·by_cases ha:a=p
  ·subst ha;rw[AI]at h ⊢;exact h
  ·rw[AF ha]at h ⊢;exact e2 _ _ h
 ·rw[Du];exact⟨p,[v1,v2],rfl,AI,.cons (h1.same e) (.cons (h2.same e) .nil)⟩
def Hf(xs:List PD):List PD:=xs.zipIdx.map fun q=>.tuple [.int (q.2:Nat),q.1]
def He{xs:List PD}{i:Nat}{d:PD}(h:(Hf xs)[i]? = some d):∃x,xs[i]? = some x∧d=.tuple [.int (i:Nat),x]:=by
 unfold Hf at h;rw[List.getElem?_map]at h;obtain⟨q,h1,rfl⟩:=aF.mp h;rw[List.getElem?_zipIdx]at h1;obtain⟨x,h2,rfl⟩:=aF.mp h1;exact⟨x,h2,by simp⟩
def Vv{K:Fg}{G:Hp}{a:AD}{ys:List V}{xs:List PD}(ha:G a=some (.tup ys))(d:Ag G xs ys):JP (Y4 K a) (Hf xs) G where
 stop:=fun H e=>⟨ys,Au.of (e _ _ ha),by rw[d.len];simp[Hf]⟩
 go:=fun i x H hx e=>by
  obtain⟨x',h0,rfl⟩:=He hx;obtain⟨v,h1,_⟩:=d.get h0;exact⟨ys,v,Au.of (e _ _ ha),h1⟩
 Dl:=fun i x H v H' hx e y Gc e1 e2=>by
  obtain⟨x',h0,rfl⟩:=He hx;obtain⟨p,u,rfl,hp,rfl,y⟩:=y;have h1:=y ys (Au.of (e _ _ ha));obtain⟨x2,h2,h3⟩:=d.back h1;rw[h0]at h2;cases h2;exact Oh e2 hp (by rw[Du]) (h3.same e1)
def Vz{K:Fg}{G:Hp}{a:AD}{ys:List V}{xs:List PD}(ha:G a=some (.lst ys))(d:Ag G xs ys):JP (Qs K a) (Hf xs) G where
 stop:=fun H e=>⟨ys,Ae.of (e _ _ ha),by rw[d.len];simp[Hf]⟩
 go:=fun i x H hx e=>by
  obtain⟨x',h0,rfl⟩:=He hx;obtain⟨v,h1,_⟩:=d.get h0;exact⟨ys,v,Ae.of (e _ _ ha),h1⟩
 Dl:=fun i x H v H' hx e y Gc e1 e2=>by
  obtain⟨x',h0,rfl⟩:=He hx;obtain⟨p,u,rfl,hp,rfl,y⟩:=y;have h1:=y ys (Ae.of (e _ _ ha));obtain⟨x2,h2,h3⟩:=d.back h1;rw[h0]at h2;cases h2;exact Oh e2 hp (by rw[Du]) (h3.same e1)
def DI(X:Cx)(tg iter:Expr)(f:Dv→Option (List PD)):Prop:=∃wi,PI X tg iter wi∧∀δ xs,f δ=some xs→∀G0 H0 G H σ ts (R:It→Hp→Prop),Rw G0 H0 G H σ δ ts→(∀J G' H',Rw G0 H0 G' H' σ δ ts→JP J xs G'→R J H')→wi σ H R
section
variable{X:Cx}{tg a b e:Expr}{f g h:Dv→Option PD}{fs:Dv→Option (List PD)}{pos p:Pos}{sts:List Stmt}{F:DF}
def PI.or{wi wi':TI}(h:PI X tg e wi)(h':PI X tg e wi'):PI X tg e (fun σ H R=>wi σ H R∨wi' σ H R):=fun pins s σ H R I q=>by
 rcases q with q|q
 ·exact h pins s σ H R I q
 ·exact h' pins s σ H R I q
def Fv:PD→Option (List PD)
 |.list xs=>some xs
 |.tuple xs=>some xs
 |_=>none
def DL(he:DE X e f):DI X tg e (fun δ=>(f δ).bind Fv):=by
 obtain⟨t,p,k⟩:=he;refine⟨_,(DV p).or (Pe p),fun δ xs h G0 H0 G H σ ts R R0 q=>?_⟩;obtain⟨x,h1,h2⟩:=aB.mp h;unfold Fv at h2;split at h2
 ·cases h2
  left
  refine k δ _ h1 G0 H0 G H σ ts _ R0 fun v G' H' R'=>?_;have du:=R'.Bd _ (.head _);rw[Du]at du;obtain⟨a,ys,rfl,n1,n2⟩:=du;exact⟨a,rfl,⟨ys,Ae.of (R'.ins _ _ n1)⟩,q _ _ _ R'.drop (XO n1 n2)⟩
 ·cases h2
  right
  refine k δ _ h1 G0 H0 G H σ ts _ R0 fun v G' H' R'=>?_;have du:=R'.Bd _ (.head _);rw[Du]at du;obtain⟨a,ys,rfl,n1,n2⟩:=du;exact⟨a,rfl,⟨ys,Au.of (R'.ins _ _ n1)⟩,q _ _ _ R'.drop (Zs n1 n2)⟩
 ·cases h2
def Jx:List PD→Option (List PD)
 |[.int j]=>if -1000000≤j∧j≤1000000 then some (E8 0 j.toNat) else none
 |_=>none
def Vr:List PD→Option (List PD)
 |[.int i,.int j]=>if -1000000≤i∧i≤1000000∧-1000000≤j∧j≤1000000 then some (E8 i (j-i).toNat) else none
 |_=>none
def Nj(hg:Gl X "range")(hm:X.mg "range" = none)(ha:DA X [a] fs)(hs:starEach [a] X.env=[(false,eval a X.env)]:=by rfl):DI X tg (.Call (.Name "range" p) [a] [] pos) (fun δ=>(fs δ).bind Jx):=by
 obtain⟨t,p,k⟩:=ha;refine⟨_,TJ hg hm p hs,fun δ xs h G0 H0 G H σ ts R R0 q=>?_⟩;obtain⟨x,h1,h2⟩:=aB.mp h;refine k δ _ h1 G0 H0 G H σ ts _ R0 fun vs G' H' R' hv=>?_;obtain⟨d,R2⟩:=R'.args hv;unfold Jx at h2;split at h2
 ·split at h2
  ·cases h2;obtain⟨u,rfl,du⟩:=d.F6;rw[Du]at du;subst du;exact⟨_,rfl,by lia,by lia,q _ _ _ R2 UY⟩
  ·cases h2
 ·cases h2
def Uk(hg:Gl X "range")(hm:X.mg "range" = none)(ha:DA X [a,b] fs)(hs:starEach [a,b] X.env=[(false,eval a X.env),(false,eval b X.env)]:=by rfl)(hs2:starEach [b] X.env=[(false,eval b X.env)]:=by rfl):DI X tg (.Call (.Name "range" p) [a,b] [] pos) (fun δ=>(fs δ).bind Vr):=by
 obtain⟨t,p,k⟩:=ha;refine⟨_,T2 hg hm p hs hs2,fun δ xs h G0 H0 G H σ ts R R0 q=>?_⟩;obtain⟨x,h1,h2⟩:=aB.mp h;refine k δ _ h1 G0 H0 G H σ ts _ R0 fun vs G' H' R' hv=>?_;obtain⟨d,R2⟩:=R'.args hv;unfold Vr at h2;split at h2
 ·split at h2
  ·cases h2;obtain⟨u,v,rfl,du,dv⟩:=d.Qk;rw[Du]at du dv;subst du dv;exact⟨_,_,rfl,⟨by lia,by lia,by lia,by lia⟩,q _ _ _ R2 UY⟩
  ·cases h2
 ·cases h2
def RT:List PD→Option (List PD)
 |[.list xs]=>some (Hf xs)
 |[.tuple xs]=>some (Hf xs)
 |_=>none
def Wy{elts:List Expr}{x1}{tpos:Pos}(hg:Gl X "enumerate")(hm:X.mg "enumerate" = none)(ha:DA X [a] fs)(hs:starEach [a] X.env=[(false,eval a X.env)]:=by rfl):DI X (.Tuple elts x1 tpos) (.Call (.Name "enumerate" p) [a] [] pos) (fun δ=>(fs δ).bind RT):=by
 obtain⟨t,p,k⟩:=ha;refine⟨_,(OS hg hm p hs).or (XE hg hm p hs),fun δ xs h G0 H0 G H σ ts R R0 q=>?_⟩;obtain⟨x,h1,h2⟩:=aB.mp h;unfold RT at h2;split at h2
 ·cases h2
  left
  refine k δ _ h1 G0 H0 G H σ ts _ R0 fun vs G' H' R' hv=>?_;obtain⟨d,R2⟩:=R'.args hv;obtain⟨u,rfl,du⟩:=d.F6;rw[Du]at du;obtain⟨a,ys,rfl,n1,n2⟩:=du;exact⟨a,rfl,⟨ys,Ae.of (R2.ins _ _ n1)⟩,q _ _ _ R2 (Vz n1 n2)⟩
 ·cases h2
  right
  refine k δ _ h1 G0 H0 G H σ ts _ R0 fun vs G' H' R' hv=>?_;obtain⟨d,R2⟩:=R'.args hv;obtain⟨u,rfl,du⟩:=d.F6;rw[Du]at du;obtain⟨a,ys,rfl,n1,n2⟩:=du;exact⟨a,rfl,⟨ys,Au.of (R2.ins _ _ n1)⟩,q _ _ _ R2 (Vv n1 n2)⟩
 ·cases h2
def J9{G:Hp}{x:PD}{v:V}{xs:List PD}(h:Du G x v)(e:Fv x=some xs):∃(b:Bool) (a:AD) (ys:List V),v=.ref a∧G a=some (if b then .tup ys else .lst ys)∧Ag G xs ys:=by
 unfold Fv at e;split at e
 ·cases e;rw[Du]at h;obtain⟨a,ys,rfl,n1,n2⟩:=h;exact⟨false,a,ys,rfl,n1,n2⟩
 ·cases e;rw[Du]at h;obtain⟨a,ys,rfl,n1,n2⟩:=h;exact⟨true,a,ys,rfl,n1,n2⟩
 ·cases e
def DG(X:Cx)(tg:Expr)(set:PD→Dv→Option Dv):Prop:=∃g,PG X tg g∧∀δ x δ',set x δ=some δ'→∀G0 H0 G H σ v (Q:St→Hp→Prop),Rw G0 H0 G H σ δ [(x,v)]→(∀σ' G' H',Rw G0 H0 G' H' σ' δ' []→Q σ' H')→g v σ H Q
def Gp{i:Nat}{x:Str}(h:PG X (.Name x pos) (Cw i)):DG X (.Name x pos) (fun y δ=>some (δ.set i (.d y))) :=
 ⟨_,h,fun δ y δ' e G0 H0 G H σ v Q R k=>by cases e;exact k _ _ _ R.HA⟩
def U7(i j:Nat)(y:PD)(δ:Dv):Option Dv:=match y with
 |.tuple [u,v]=>some ((δ.set i (.d u)).set j (.d v))
 |_=>none
def Y3{x y:Str}{i j:Nat}{px py:Pos}{k1}(h:PG X (.Tuple [.Name x px,.Name y py] k1 pos) (RZ X.K 2 (Hk (Cw i) (Hk (Cw j) SH)))):DG X (.Tuple [.Name x px,.Name y py] k1 pos) (U7 i j):=by
 refine⟨_,h,fun δ z δ' e G0 H0 G H σ v Q R k=>?_⟩;unfold U7 at e;split at e
 ·cases e;have du:=R.Bd _ (.head _);rw[Du]at du;obtain⟨a,ys,rfl,n1,n2⟩:=du;obtain⟨w1,w2,rfl,m1,m2⟩:=n2.Qk;refine⟨a,[w1,w2],rfl,Au.of (R.ins _ _ n1),rfl,w1,[w2],rfl,w2,[],rfl,rfl,?_⟩;exact k _ _ _ (((R.drop.put m2).put m1).HA.HA)
 ·cases e
def De(set:PD→Dv→Option Dv)(body:DF):List PD→Dv→Option Ou
 |[],δ=>some (.nx δ)
 |x::xs,δ=>match (set x δ).bind body with
  |some (.nx δ')=>De set body xs δ'
  |some (.ct δ')=>De set body xs δ'
  |some (.bk δ')=>some (.nx δ')
  |some (.rt v)=>some (.rt v)
  |some (.rn v)=>some (.rn v)
  |none=>none
def GD{set:PD→Dv→Option Dv}(hp:PassesOwn (model X.prog X.w) X.A X.env X.xe)(hc:X.calm=true)(hi:DI X tg e fs)(hg:DG X tg set)(hb:Nx X sts F)(hs:∀x,foldedSetIterable e X.env x=pure x:=by intro _;rfl) :
  DS X (.For tg e sts [] pos) (fun δ=>(fs δ).bind fun xs=>De set F xs δ):=by
 obtain⟨wi,pi,ki⟩:=hi;obtain⟨g,pg,kg⟩:=hg;obtain⟨tb,pb,kb⟩:=hb;refine⟨_,Gu hp hc pi pg pb hs,fun δ r h G0 H0 G H σ D R q=>?_⟩;obtain⟨xs,h1,h2⟩:=aB.mp h;refine ki δ xs h1 G0 H0 G H σ [] _ R fun J Ga Ha Ra it=>?_;refine⟨fun i m σ' H'=>m=xs.length-i∧i≤xs.length∧∃δ' G',De set F (xs.drop i) δ'=some r∧Rw G0 H0 G' H' σ' δ' []∧AG Ga G',⟨xs.length,by simp,Nat.zero_le _,δ,Ga,by simpa using h2,Ra,AG.refl _⟩,?_⟩;rintro i m σ1 H1 ⟨rfl,hi,δ1,G1,f1,R1,s1⟩;have sH:AG Ga H1:=s1.trans R1.ins;by_cases hlt:i<xs.length
 ·right
  have hx:xs[i]? = some xs[i]:=by simp[hlt]
  refine⟨it.go i _ H1 hx sH,fun σ' H'=>i+1≤xs.length∧∃δ' G',De set F (xs.drop (i+1)) δ'=some r∧Rw G0 H0 G' H' σ' δ' []∧AG Ga G',fun σ' H' n=>⟨xs.length-(i+1),by lia,rfl,n⟩,fun x H' y=>?_⟩;obtain⟨G2,e1,e2,e3,e4,e5⟩:=it.Dl i _ H1 x H' hx sH y G1 s1 R1.ins;have R2:=(R1.lift e1 e2 e3 e4).put e5;have s2:=s1.trans e1;rw[List.drop_eq_getElem_cons hlt]at f1;unfold De at f1;cases hb2:(set xs[i] δ1).bind F with
  |none=>rw[hb2]at f1;cases f1
  |some o =>
   obtain⟨δ2,k1,k2⟩:=aB.mp hb2;rw[hb2]at f1;have R2b:=R2.base;refine kg δ1 _ δ2 k1 G2 H0 G2 H' σ1 x _ R2b fun σ3 G3 H3 R3=>?_;refine kb δ2 o k2 G2 H0 G3 H3 σ3 _ R3 ?_;cases o with
   |nx δ3=>exact fun σ4 G4 H4 R4=>⟨hlt,δ3,G4,f1,R2.drop.PF R4,s2.trans R4.ext⟩
   |ct δ3=>exact fun σ4 G4 H4 R4=>⟨hlt,δ3,G4,f1,R2.drop.PF R4,s2.trans R4.ext⟩
   |bk δ3=>cases f1;exact fun σ4 G4 H4 R4=>q σ4 G4 H4 (R2.drop.PF R4)
   |rt v=>cases f1;exact fun w G4 H4 h1 h2 h3 h4 h5=>q w G4 H4 (R2.ext.trans h1) (R2.new.trans h2) h3 h4 h5
   |rn v=>cases f1;exact fun w ys G4 H4 h1 h2=>q w ys G4 H4 (R2.ext.trans h1) (R2.new.trans h2)
 ·left
  have e:i=xs.length:=by lia
  subst e;refine⟨it.stop H1 sH,?_⟩;rw[List.drop_length]at f1;unfold De at f1;cases f1;exact q _ _ _ R1
end
def tD(f:Dv→Option PD):TE:=fun σ H Q=>∃δ x G0 H0 G ts,f δ=some x∧Rw G0 H0 G H σ δ ts∧∀v G' H',Rw G0 H0 G' H' σ δ ((x,v)::ts)→Q v H'
def bc(f:Dv→Option Bool):TT:=fun σ H Q=>∃δ x G0 H0 G ts,f δ=some x∧Rw G0 H0 G H σ δ ts∧∀G' H',Rw G0 H0 G' H' σ δ ts→Q x H'
def DE.pe{X:Cx}{e:Expr}{f:Dv→Option PD}(h:DE X e f):PE X e (tD f):=by
 obtain⟨t,p,k⟩:=h;intro pins s σ H Q I q;obtain⟨δ,x,G0,H0,G,ts,h1,h2,h3⟩:=q;exact p pins s σ H Q I (k δ x h1 G0 H0 G H σ ts Q h2 h3)
def YH(X:Cx)(ifs:List Expr)(f:Dv→Option Bool):Prop:=Jw X ifs (bc f)
def EI{X:Cx}:YH X [] (fun _=>some true):=by
 intro pins s σ H Q I q;obtain⟨δ,x,G0,H0,G,ts,h1,h2,h3⟩:=q;cases h1;exact EE pins s σ H Q I (h3 _ _ h2)
def DK(fr:List (Option Nat))(δ:Dv):Dv:=fr.map fun o=>match o with
 |some j=>(match δ[j]? with|some (.d x)=>.d x|_=>.no)
 |none=>.no
def Rw.inner{G0 H0 G H:Hp}{σ:St}{δ:Dv}{ts:List (PD×V)}(fr:List (Option Nat))(r:Rw G0 H0 G H σ δ ts):Rw G H G H (carry fr σ) (DK fr δ) ts:=by
 have key:∀(i:Nat) (l:L),(DK fr δ)[i]? = some l→∃o,fr[i]? = some o∧l=(match o with|some j=>(match δ[j]? with|some (.d x)=>.d x|_=>.no)|none=>.no):=fun i l h=>by
  unfold DK at h;rw[List.getElem?_map]at h;obtain⟨o,h1,rfl⟩:=aF.mp h;exact⟨o,h1,rfl⟩
 have noown:∀(i:Nat) (xs:Oc),(DK fr δ)[i]?≠some (L.own xs):=fun i xs h=>by
  obtain⟨o,_,h2⟩:=key i _ h;split at h2
  ·split at h2<;>cases h2
  ·cases h2
 refine⟨AG.refl _,Nw.refl,r.ins,AG.refl _,by simp[carry,DK],fun i x h=>?_,fun i xs h=>absurd h (noown i xs),fun i j xs ys _ h=>absurd h (noown i xs),r.Bd⟩;obtain⟨o,h1,h2⟩:=key i _ h;split at h2
 ·rename_i j;split at h2
  ·rename_i y hy;cases h2;obtain⟨v,k1,k2⟩:=r.dat j _ hy;refine⟨v,?_,k2⟩;unfold carry;rw[List.getElem?_map,h1];simp[k1]
  ·cases h2
 ·cases h2
def Rw.other{G0 H0 G H:Hp}{σ:St}{δ:Dv}{ts:List (PD×V)}{D:AD}{o:HO}(r:Rw G0 H0 G H σ δ ts)(hG:G D=none)(h0:H0 D=none)(ho:∀(i:Nat) (xs:Oc),δ[i]? = some (L.own xs)→σ[i]?≠some (some (V.ref D))):Rw G0 H0 G (upd H D o) σ δ ts:=by
 refine⟨r.ext,r.new,fun a u h=>?_,fun a u h=>?_,r.len,r.dat,fun i xs h=>?_,r.apart,r.Bd⟩
 ·rw[AF (fun z=>by subst z;rw[hG]at h;cases h)];exact r.ins _ _ h
 ·rw[AF (fun z=>by subst z;rw[h0]at h;cases h)];exact r.keep _ _ h
 ·obtain⟨a,ys,k1,k2,k3,k4,k5⟩:=r.own i xs h;exact⟨a,ys,k1,k2,k3,by rw[AF (fun z=>by subst z;exact ho i xs h k1)];exact k4,k5⟩
def Rw.adopt{G0 H0 G H:Hp}{σ:St}{δ:Dv}{ts:List (PD×V)}{D:AD}{ys:List V}(r:Rw G0 H0 G H σ δ ts)(hD:H D=some (.lst ys))(hG:G D=none)(h0:H0 D=none)(ho:∀(i:Nat) (xs:Oc),δ[i]? = some (L.own xs)→σ[i]?≠some (some (V.ref D))):Rw G0 H0 (upd G D (.lst ys)) H σ δ ts:=by
 have e:AG G (upd G D (.lst ys)):=Aa hG _;refine⟨r.ext.trans e,fun a u h=>?_,fun a u h=>?_,r.keep,r.len,fun i x h=>?_,fun i xs h=>?_,r.apart,fun q hq=>(r.Bd q hq).same e⟩
 ·by_cases ha:a=D
  ·subst ha;exact .inr (.inl h0)
  ·rw[AF ha]at h;exact r.new _ _ h
 ·by_cases ha:a=D
  ·subst ha;rw[AI]at h;rw[hD];exact h
  ·rw[AF ha]at h;exact r.ins _ _ h
 ·obtain⟨v,k1,k2⟩:=r.dat i x h;exact⟨v,k1,k2.same e⟩
 ·obtain⟨a,zs,k1,k2,k3,k4,k5⟩:=r.own i xs h;have ha:a≠D:=fun z=>by subst z;exact ho i xs h k1
  exact⟨a,zs,k1,by rw[AF ha];exact k2,k3,k4,k5.same e⟩
def Mx(set:PD→Dv→Option Dv)(tif:Dv→Option Bool)(f:Dv→Option PD)(δ:Dv)(x:PD):Option (Option PD) :=
 (set x δ).bind fun δ1=>(tif δ1).bind fun b=>if b=true then(f δ1).map some else some none
def collect(one:PD→Option (Option PD)):List PD→Option (List PD)
 |[]=>some []
 |x::xs=>(one x).bind fun o=>(collect one xs).map fun r=>o.toList++r
def Et(set:PD→Dv→Option Dv)(tif:Dv→Option Bool)(f:Dv→Option PD)(fr:List (Option Nat))(fs:Dv→Option (List PD))(δ:Dv):Option (List PD) :=
 (fs δ).bind fun xs=>(collect (Mx set tif f (DK fr δ)) xs).bind HS
def F4(set:PD→Dv→Option Dv)(tif:Dv→Option Bool)(f:Dv→Option PD)(fr:List (Option Nat))(fs:Dv→Option (List PD))(δ:Dv):Option PD :=
 (Et set tif f fr fs δ).map .list
structure X5(G0 H0 Ga:Hp)(σ:St)(δ:Dv)(ts:List (PyData×V))(one:PyData→Option (Option PyData))(xs full:List PyData)(D:Addr)(i:Nat)(ys:List V)(H:Hp):Prop where
 ex:∃G done rest,Rw G0 H0 G H σ δ ts∧AG Ga G∧G D=none∧collect one (xs.drop i)=some rest∧done++rest=full∧Ag G done ys
 h0:H0 D=none
 ap:∀(j:Nat) (us:Oc),δ[j]? = some (L.own us)→σ[j]?≠some (some (V.ref D))
def Vc{G0 H0 G H:Hp}{D:AD}{ys:List V}(hG:G0 D=none)(hD:H0 D=some (.lst ys))(n:Nw G0 H0 G)(e:AG G H)(k:AG H0 H):G D=none:=by
 cases q:G D with
 |none=>rfl
 |some o =>
  rcases n _ _ q with z|z|⟨us,z⟩
  ·rw[hG]at z;cases z
  ·rw[hD]at z;cases z
  ·have:=e _ _ q;rw[k _ _ hD,z]at this;cases this
section
variable{X:Cx}{elt iter:Expr}{x y:Str}{px pos:Pos}{ifs:List Expr}{scope:Scope}{fs:Dv→Option (List PD)}{tif:Dv→Option Bool}{f:Dv→Option PD}
def Cs(i:Nat)(y:PD)(δ:Dv):Option Dv:=some (δ.set i (.d y))
def Lw{wi:TI}{ix:Nat}{fr:List (Option Nat)}(ki:∀(δ:Dv) (xs:List PD),fs δ=some xs→∀(G0 H0 G H:Hp) (σ:St) (ts:List (PD×V)) (R:It→Hp→Prop),Rw G0 H0 G H σ δ ts→(∀J G' H',Rw G0 H0 G' H' σ δ ts→JP J xs G'→R J H')→wi σ H R){δ:Dv}{zs:List PD}(hz:Et (Cs ix) tif f fr fs δ=some zs){G0 H0 G H:Hp}{σ:St}{ts:List (PD×V)}{Q:VK}(R0:Rw G0 H0 G H σ δ ts)(k:∀D ys G' H',Rw G0 H0 G' H' σ δ ts→H' D=some (.lst ys)→G' D=none→H0 D=none→(∀(j:Nat) (us:Oc),δ[j]? = some (L.own us)→σ[j]?≠some (some (V.ref D)))→Ag G' zs ys→Q (.ref D) H') :
  Kl wi fr ix (bc tif) (tD f) σ H Q:=by
 unfold Et at hz;obtain⟨xs,m2,m3⟩:=aB.mp hz;obtain⟨full,m4,m5⟩:=aB.mp m3;obtain⟨rfl,hfew⟩:=MI m5;refine ki δ xs m2 G0 H0 G H σ ts _ R0 fun J Ga Ha Ra it D hD=>?_;have hGD:Ga D=none:=by
  cases q:Ga D with
  |none=>rfl
  |some u=>rw[Ra.ins _ _ q]at hD;cases hD
 have hHD:H0 D=none:=by
  cases q:H0 D with
  |none=>rfl
  |some u=>rw[Ra.keep _ _ q]at hD;cases hD
 have hap:∀(j:Nat) (us:Oc),δ[j]? = some (L.own us)→σ[j]?≠some (some (V.ref D)):=fun j us h z=>by
  obtain⟨a,ys,k1,k2,k3,k4,k5⟩:=Ra.own j us h;rw[z]at k1;cases k1;rw[k4]at hD;cases hD
 refine Ft (n:=xs.length) (X5 G0 H0 Ga σ δ ts (Mx (Cs ix) tif f (DK fr δ)) xs full D) ⟨⟨Ga,[],full,Ra.other hGD hHD hap,AG.refl _,hGD,by simpa using m4,rfl,.nil⟩,hHD,hap⟩ ?_ ?_
 ·rintro i ys H1 hlt ⟨⟨G1,done,rest,R1,s1,g1,c1,e1,d1⟩,_,_⟩ hD1;have hx:xs[i]? = some xs[i]:=by simp[hlt]
  have sH:=s1.trans R1.ins;have hyl:ys.length<sizeLine:=Qe (by
   rw[d1.len];have:done.length≤full.length:=by rw[←e1];simp
   lia)
  refine⟨it.go i _ H1 hx sH,hyl,fun v H' y=>?_⟩;obtain⟨G2,n1,n2,n3,n4,n5⟩:=it.Dl i _ H1 v H' hx sH y G1 s1 R1.ins;have R2:=R1.lift n1 n2 n3 n4;have hD2:=n4 _ _ hD1;have g2:G2 D=none:=Vc g1 hD1 n2 n3 n4;rw[List.drop_eq_getElem_cons hlt]at c1;unfold collect at c1;obtain⟨o,c2,c3⟩:=aB.mp c1;obtain⟨rest',c4,rfl⟩:=aF.mp c3;unfold Mx Cs at c2;simp only[Option.bind_some]at c2;obtain⟨b,c5,c6⟩:=aB.mp c2;have Ri:=((R2.inner fr).put n5).HA (i:=ix);have Ri0:Rw G2 H' G2 H' ((carry fr σ).set ix (some v)) ((DK fr δ).set ix (.d xs[i])) []:=Ri.less fun q hq=>by cases hq
  refine⟨_,b,G2,H',G2,[],c5,Ri0,fun G3 H3 R3=>?_⟩;have R3o:=R2.lift R3.ext R3.new R3.ins R3.keep;have hD3:=R3.keep _ _ hD2;have g3:G3 D=none:=Vc g2 hD2 R3.new R3.ins R3.keep;dsimp only;split
  ·rename_i hb;rw[if_pos hb]at c6;obtain⟨w,c7,rfl⟩:=aF.mp c6;refine⟨_,w,G2,H',G3,[],c7,R3,fun u G4 H4 R4=>?_⟩;have R4o:=R2.lift R4.ext R4.new R4.ins R4.keep;have hD4:=R4.keep _ _ hD2;have g4:G4 D=none:=Vc g2 hD2 R4.new R4.ins R4.keep;refine⟨hD4,EJ hlt ⟨⟨G4,done++[w],rest',R4o.other g4 hHD hap,s1.trans (n1.trans R4.ext),g4,c4,by simpa using e1,(d1.same (n1.trans R4.ext)).app (.cons (R4.Bd _ (.head _)) .nil)⟩,hHD,hap⟩⟩
  ·rename_i hb;rw[if_neg hb]at c6;cases c6;exact Ws hlt hD3 ⟨⟨G3,done,rest',R3o,s1.trans (n1.trans R3.ext),g3,c4,by simpa using e1,d1.same (n1.trans R3.ext)⟩,hHD,hap⟩
 ·rintro ys H1 ⟨⟨G1,done,rest,R1,s1,g1,c1,e1,d1⟩,_,_⟩ hD1;refine⟨it.stop H1 (s1.trans R1.ins),?_⟩;rw[List.drop_length]at c1;cases c1;rw[List.append_nil]at e1;subst e1;exact k _ _ _ _ R1 hD1 g1 hHD hap d1
def TY{wi:TI}{ix:Nat}{fr:List (Option Nat)}(ki:∀(δ:Dv) (xs:List PD),fs δ=some xs→∀(G0 H0 G H:Hp) (σ:St) (ts:List (PD×V)) (R:It→Hp→Prop),Rw G0 H0 G H σ δ ts→(∀J G' H',Rw G0 H0 G' H' σ δ ts→JP J xs G'→R J H')→wi σ H R){δ:Dv}{z:PD}(hz:F4 (Cs ix) tif f fr fs δ=some z){G0 H0 G H:Hp}{σ:St}{ts:List (PD×V)}{Q:VK}(R0:Rw G0 H0 G H σ δ ts)(k:∀v G' H',Rw G0 H0 G' H' σ δ ((z,v)::ts)→Q v H') :
  Kl wi fr ix (bc tif) (tD f) σ H Q:=by
 unfold F4 at hz;obtain⟨full,m1,rfl⟩:=aF.mp hz;refine Lw ki m1 R0 fun D ys G1 H1 R1 hD1 g1 hHD hap d1=>?_;have e:AG G1 (upd G1 D (.lst ys)):=Aa g1 _;have R2:=R1.adopt hD1 g1 hHD hap;refine k _ _ _ (R2.put ?_);rw[Du];exact⟨D,ys,rfl,AI,d1.same e⟩
def Ff(N:List Str)(ix:Nat)(fr:List (Option Nat))(hi:DI X (.Name x px) iter fs)(hif:∀cl C s₀ H₀ fp,YH (Aq X scope cl N C s₀ H₀ fp) ifs tif)(he:∀cl C s₀ H₀ fp,DE (Aq X scope cl N C s₀ H₀ fp) elt f)
 (h1:CO scope N x ix=true:=by decide +kernel)(h2:X.calm=true:=by rfl)(h3:EX N X.N scope X.env.scope fr 0=true:=by rfl)(h4:fr.length=N.length:=by rfl)(h5:freeOk X.env.scope scope.names=true:=by rfl)
 (hs:∀x,foldedSetIterable iter X.env x=pure x:=by intro _;rfl):DE X (.ListComp elt [⟨.Name x px,iter,ifs,0⟩] scope pos) (F4 (Cs ix) tif f fr fs):=by
 obtain⟨wi,pi,ki⟩:=hi;exact⟨_,FZ N ix fr pi hif (fun cl C s₀ H₀ fp=>(he cl C s₀ H₀ fp).pe) h1 h2 h3 h4 h5 hs,fun δ z hz G0 H0 G H σ ts Q R0 k=>TY ki hz R0 k⟩
end
section
variable{x y:Str}       
def II(N:List Str)(ds:List PD):Dv:=ds.map .d++List.replicate (N.length-ds.length) .no
def Bu(ps N:List Str)(F:DF)(ds:List PD):Option PD:=if ds.length=ps.length then(match F (II N ds) with
 |some (.rt x)=>some x
 |some (.nx _)=>some .none
 |some (.rn xs)=>some (.list xs)
 |_=>none) else none
def Rw.start{N:List Str}{ds:List PD}{vs:List V}{G H:Hp}(d:Ag G ds vs)(e:AG G H):Rw G H G H (start N vs) (II N ds) []:=by
 have hl:=d.len;refine⟨AG.refl _,Nw.refl,e,AG.refl _,by simp[L2.start,II,hl],fun i x h=>?_,fun i xs h=>?_,fun i j xs ys _ h=>?_,fun q hq=>by cases hq⟩
 ·unfold II at h;by_cases hi:i<ds.length
  ·rw[List.getElem?_append_left (by simpa using hi),List.getElem?_map]at h;obtain⟨y,h1,h2⟩:=aF.mp h;cases h2;obtain⟨v,h3,h4⟩:=d.get h1;refine⟨v,?_,h4⟩;unfold L2.start;rw[List.getElem?_append_left (by simp;lia),List.getElem?_map,h3];rfl
  ·rw[List.getElem?_append_right (by simpa using hi),List.getElem?_replicate]at h;split at h<;>cases h
 ·unfold II at h;by_cases hi:i<ds.length
  ·rw[List.getElem?_append_left (by simpa using hi),List.getElem?_map]at h;obtain⟨y,h1,h2⟩:=aF.mp h;cases h2
  ·rw[List.getElem?_append_right (by simpa using hi),List.getElem?_replicate]at h;split at h<;>cases h
 ·unfold II at h;by_cases hi:i<ds.length
  ·rw[List.getElem?_append_left (by simpa using hi),List.getElem?_map]at h;obtain⟨y,h1,h2⟩:=aF.mp h;cases h2
  ·rw[List.getElem?_append_right (by simpa using hi),List.getElem?_replicate]at h;split at h<;>cases h
def cU{G H G' H':Hp}{a:AD}{ys:List V}{xs:List PD}(m1:AG G G')(m2:Nw G H G')(m3:AG G' H')(m5:H a=none)(m6:G' a=none)(m7:H' a=some (.lst ys))(m8:Ag G' xs ys) :
  AG G (upd G' a (.lst ys))∧Nw G H (upd G' a (.lst ys))∧AG (upd G' a (.lst ys)) H'∧Du (upd G' a (.lst ys)) (.list xs) (.ref a):=by
 refine⟨m1.trans (Aa m6 _),fun b o hb=>?_,fun b o hb=>?_,?_⟩
 ·by_cases z:b=a
  ·subst z;exact .inr (.inl m5)
  ·rw[AF z]at hb;exact m2 _ _ hb
 ·by_cases z:b=a
  ·subst z;rw[AI]at hb;rw[m7];exact hb
  ·rw[AF z]at hb;exact m3 _ _ hb
 ·rw[Du];exact⟨a,ys,rfl,AI,m8.same (Aa m6 _)⟩
def FW{P:Program}{w:World}{K:Fg}{mg:Str→Option VL}{base:Heap}{x:Str}{st:Stmt}{fA:AD}{fd:FuncData}{N ps:List Str}{k:Nat}{F:DF}(T:Fn K mg x st ps fA fd)(S:Ac N ps (AO st))
 (hb:∀(cdv:VL) (A:Around) (outer:List Env) (s:SD) (H:Hp) (E:XK),Cy k (A.deeper (envOfC x (AO st) s.heap.objs.size fA cdv))→Nx (LS Ah P w K mg base N x (AO st) fA cdv A outer s H E).T9 (C1 st) F) :
  AL P w K mg base Ah (k+1) fA fd ps (BP (Bu ps N F)):=by
 refine T.F.ok S (fun vs H Q E h=>?_) fun cdv A outer s H vs Q E hr h=>?_
 ·obtain⟨ds,y,G,h1,h2,_⟩:=h;unfold Bu at h1;split at h1
  ·rename_i hl;rw[h2.len];exact hl
  ·cases h1
 ·obtain⟨ds,y,G,h1,h2,h3,h4⟩:=h;obtain⟨t,p,kk⟩:=hb cdv A outer s H E hr;refine⟨t,p,?_⟩;unfold Bu at h1;split at h1
  ·split at h1
   ·rename_i z e1;cases h1;exact kk _ _ e1 G H G H _ _ (Rw.start h2 h3) fun v G' H' m1 m2 m3 m4 m5=>h4 v G' H' m1 m2 m3 m4 m5
   ·rename_i δ e1;cases h1;exact kk _ _ e1 G H G H _ _ (Rw.start h2 h3) fun σ' G' H' R=>h4 .BI G' H' R.ext R.new R.ins R.keep (by rw[Du])
   ·rename_i xs e1;cases h1;exact kk _ _ e1 G H G H _ _ (Rw.start h2 h3) fun a ys G' H' m1 m2 m3 m4 m5 m6 m7 m8=>let⟨n1,n2,n3,n4⟩:=cU m1 m2 m3 m5 m6 m7 m8;h4 _ _ H' n1 n2 n3 m4 n4
   ·cases h1
  ·cases h1
end
section
variable{X:Cx}{a e:Expr}{f h:Dv→Option PD}{pos p p2:Pos}   
def Iy{x:Str}{i:Int}{tk:Tok}(hg:Gl X x)(hm:X.mg x=some (.int i tk))(hd:(x==("__debug__" : Str))=false:=by decide):DE X (.Name x pos) (fun _=>some (.int i)) :=
 ⟨_,Kf (v:=.int i) hg hm ⟨tk,rfl⟩ hd,fun δ x h G0 H0 G H σ ts Q r k=>by cases h;exact k _ _ _ (r.put (by rw[Du]))⟩
def DO(X:Cx)(o:Option Expr)(f:Dv→Option (Option Int)):Prop:=∃t,PO X o t∧∀δ x,f δ=some x→∀G0 H0 G H σ ts (Q:Option Int→Hp→Prop),Rw G0 H0 G H σ δ ts→(∀G' H',Rw G0 H0 G' H' σ δ ts→Q x H')→t σ H Q
variable{fo fu:Dv→Option (Option Int)}{lo hi:Option Expr}
def Qg:DO X none (fun _=>some none):=⟨_,Wq,fun δ x h G0 H0 G H σ ts Q r k=>by cases h;exact k _ _ r⟩
def RC(he:DE X e f):DO X (some e) (fun δ=>(f δ).bind fun x=>(V5 x).map some):=by
 obtain⟨t,p,k⟩:=he;refine⟨_,Xy p,fun δ z h G0 H0 G H σ ts Q r q=>?_⟩;obtain⟨x,h1,h2⟩:=aB.mp h;obtain⟨i,h3,rfl⟩:=aF.mp h2;have:=X9 h3;subst this;refine k δ _ h1 G0 H0 G H σ ts _ r fun v G' H' R'=>?_;have hv:=R'.Bd _ (.head _);rw[Du]at hv;exact⟨i,hv,q _ _ R'.drop⟩
def cutD(xs:List PD)(lo hi:Option Int):List PD:=(xs.drop (HT.BF xs.length 0 lo)).take (HT.BF xs.length xs.length hi-HT.BF xs.length 0 lo)
def Ag.cut{H:Hp}{ds:List PD}{xs:List V}(h:Ag H ds xs)(lo hi:Option Int):Ag H (cutD ds lo hi) (KU xs lo hi):=by
 unfold cutD KU;rw[h.len];exact(h.drop _).take _
def Vl(x:PD)(lo hi:Option Int):Option PD:=match x with
 |.list xs=>some (.list (cutD xs lo hi))
 |.tuple xs=>if ¬(HT.BF xs.length 0 lo=0∧HT.BF xs.length xs.length hi=xs.length) then some (.tuple (cutD xs lo hi)) else none
 |_=>none
def P4(he:DE X e f)(hl:DO X lo fo)(hh:DO X hi fu):DE X (.Subscript e (.Slice lo hi none p2) pos) (fun δ=>(f δ).bind fun x=>(fo δ).bind fun l=>(fu δ).bind fun u=>Vl x l u):=by
 obtain⟨te,pe,ke⟩:=he;obtain⟨tl,pl,kl⟩:=hl;obtain⟨th,ph,kh⟩:=hh;refine⟨_,Ux (XY.or Y1) pe pl ph,fun δ z hz G0 H0 G H σ ts Q R0 k=>?_⟩;obtain⟨x,h1,h2⟩:=aB.mp hz;obtain⟨l,h3,h4⟩:=aB.mp h2;obtain⟨u,h5,h6⟩:=aB.mp h4;refine ke δ x h1 G0 H0 G H σ ts _ R0 fun v G1 H1 R1=>?_;refine kl δ l h3 G0 H0 G1 H1 σ _ _ R1 fun G2 H2 R2=>?_;refine kh δ u h5 G0 H0 G2 H2 σ _ _ R2 fun G3 H3 R3=>?_;have du:=R3.Bd _ (.head _);unfold Vl at h6;split at h6
 ·cases h6;rw[Du]at du;obtain⟨a,ys,rfl,n1,n2⟩:=du;exact .inl ⟨a,ys,rfl,Ae.of (R3.ins _ _ n1),fun q hq=>k _ _ _ (R3.drop.Mm (n2.cut l u) hq)⟩
 ·split at h6
  ·rename_i hc;cases h6;rw[Du]at du;obtain⟨a,ys,rfl,n1,n2⟩:=du;exact .inr ⟨a,ys,rfl,Au.of (R3.ins _ _ n1),by rw[n2.len];exact hc,fun q hq=>k _ _ _ (R3.drop.V0 (n2.cut l u) hq)⟩
  ·cases h6
 ·cases h6
def PB:List PD→Option (List Int)
 |[]=>some []
 |.int i::r=>(PB r).map fun l=>i::l
 |_::_=>none
def Ag.ints{H:Hp}:∀ {ds:List PD} {xs:List V} {ns:List Int},Ag H ds xs→PB ds=some ns→xs=ns.map V.int
 |[],xs,ns,h,e=>by cases e;rw[h.nil_eq];rfl
 |.int i::r,xs,ns,h,e=>by
  unfold PB at e;obtain⟨l,h1,rfl⟩:=aF.mp e;obtain⟨x,q,rfl,k1,k2⟩:=h.un;rw[Du]at k1;subst k1;rw[List.map_cons,k2.ints h1]
 |.none::_,_,_,_,e=>by cases e
 |.bool _::_,_,_,_,e=>by cases e
 |.str _::_,_,_,_,e=>by cases e
 |.tuple _::_,_,_,_,e=>by cases e
 |.list _::_,_,_,_,e=>by cases e
 |.dict _::_,_,_,_,e=>by cases e
def O0:MD
 |[.list xs]=>(PB xs).map fun ns=>.int ns.sum
 |[.tuple xs]=>(PB xs).map fun ns=>.int ns.sum
 |_=>none
def O7(hc:X.calm=true):Kk X (.builtin "sum") O0:=by
 refine⟨_,(Lb hc).or (TX hc),fun xs z hz G0 H0 G H σ δ ts us Q R0 d k=>?_⟩;unfold O0 at hz;split at hz
 ·obtain⟨ns,h1,rfl⟩:=aF.mp hz;obtain⟨u,rfl,du⟩:=d.F6;rw[Du]at du;obtain⟨q,ys,rfl,h4,h5⟩:=du;refine .inl ⟨q,ns,rfl,by rw[←h5.ints h1];exact Ae.of (R0.ins _ _ h4),k _ _ _ (R0.put (by rw[Du]))⟩
 ·obtain⟨ns,h1,rfl⟩:=aF.mp hz;obtain⟨u,rfl,du⟩:=d.F6;rw[Du]at du;obtain⟨q,ys,rfl,h4,h5⟩:=du;refine .inr ⟨q,ns,rfl,by rw[←h5.ints h1];exact Au.of (R0.ins _ _ h4),k _ _ _ (R0.put (by rw[Du]))⟩
 ·cases hz
end
open PySem
abbrev fC(x:PD):Dv→Option PD:=fun _=>some x
abbrev Yt(f g:Dv→Option PD):Dv→Option PD:=fun δ=>(f δ).bind fun x=>(Kc x).bind fun c=>if c=true then g δ else some (.bool false)
abbrev AQ:Dv→Option (List PD):=fun _=>some []
abbrev AA(f:Dv→Option PD)(fs:Dv→Option (List PD)):Dv→Option (List PD):=fun δ=>(f δ).bind fun x=>(fs δ).map fun xs=>x::xs
abbrev DC(fs:Dv→Option (List PD)):Dv→Option PD:=fun δ=>((fs δ).bind HS).map .tuple
abbrev SX(fs:Dv→Option (List PD)):Dv→Option PD:=fun δ=>((fs δ).bind HS).map .list
abbrev AV(m:MD)(fs:Dv→Option (List PD)):Dv→Option PD:=fun δ=>(fs δ).bind m
abbrev WR:Dv→Option (Option Int):=fun _=>some none
abbrev WI(f:Dv→Option PD):Dv→Option (Option Int):=fun δ=>(f δ).bind fun x=>(V5 x).map some
abbrev Ys(f:Dv→Option PD)(fo fu:Dv→Option (Option Int)):Dv→Option PD:=fun δ=>(f δ).bind fun x=>(fo δ).bind fun l=>(fu δ).bind fun u=>Vl x l u
abbrev U2(f:Dv→Option PD):Dv→Option Bool:=fun δ=>(f δ).bind Kc
abbrev DD(o:PD→PD→Option PD)(f g:Dv→Option PD):Dv→Option Bool:=fun δ=>(AX o f g δ).bind Kc
abbrev Zf(f:Dv→Option Bool):Dv→Option Bool:=fun δ=>(f δ).map fun c=>!c
abbrev Yq(f g:Dv→Option Bool):Dv→Option Bool:=fun δ=>(f δ).bind fun c=>if c=true then some true else g δ
abbrev FC(f:Dv→Option PD):Dv→Option (List PD):=fun δ=>(f δ).bind Fv
abbrev Es(m:List PD→Option (List PD))(fs:Dv→Option (List PD)):Dv→Option (List PD):=fun δ=>(fs δ).bind m
abbrev FR:Dv→Option Bool:=fun _=>some true
abbrev KC(i:Nat):PD→Dv→Option Dv:=fun y δ=>some (δ.set i (.d y))
abbrev DH:DF:=fun δ=>some (.nx δ)
abbrev CN(f:Dv→Option PD):DF:=fun δ=>(f δ).map .rt
abbrev L5(f:Dv→Option PD):DF:=fun δ=>(f δ).map fun _=>.nx δ
abbrev GA(c:Dv→Option Bool)(F G:DF):DF:=fun δ=>(c δ).bind fun c=>if c=true then F δ else G δ
abbrev Bf(i:Nat)(f:Dv→Option PD):DF:=fun δ=>(f δ).map fun y=>.nx (δ.set i (.d y))
abbrev YX(i:Nat)(fs:Dv→Option (List PD)):DF:=fun δ=>((fs δ).bind HS).map fun ys=>.nx (δ.set i (.own (.lst ys)))
abbrev dW(i:Nat)(f:Dv→Option PD):DF:=fun δ=>(f δ).bind fun y=>(ow i δ).bind fun xs=>if xs.length<Dy then some (.nx (δ.set i (.own (.lst (xs++[y]))))) else none
abbrev de(i:Nat)(f:Dv→Option PD):DF:=fun δ=>(f δ).bind fun y=>(ow i δ).bind fun xs=>match y with|.list zs=>(if xs.length+zs.length≤Dy then some (.nx (δ.set i (.own (.lst (xs++zs))))) else none)|_=>none
abbrev Eh(fs:Dv→Option (List PD))(set:PD→Dv→Option Dv)(F:DF):DF:=fun δ=>(fs δ).bind fun xs=>De set F xs δ
abbrev eV(i:Nat)(F:DF):DF:=fun δ=>F (C8 i δ)
abbrev Mb:DF:=fun _=>none
def GH{P:Program}{w:World}{K:Fg}{mg:Str→Option VL}{base:Heap}{CX:GJ}{k:Nat}{f:AD}{fd:FuncData}{ps:List Str}{sp:Sp}(h:∀vs H Q E,¬sp vs H Q E):AL P w K mg base CX k f fd ps sp :=
 ⟨fun _ _ _ _ z=>(h _ _ _ _ z).elim,fun _ _ _ _ _ _ _ _ _ _ _ _ _ z=>(h _ _ _ _ z).elim⟩
def Mj{P:Program}{w:World}{K:Fg}{mg:Str→Option VL}{base:Heap}{CX:GJ}{k:Nat}{f:AD}{fd:FuncData}{ps:List Str}{sp:Sp}{m:MD}(F:AL P w K mg base CX k f fd ps sp)
 (h:∀ds x,m ds=some x→∀(G H:Hp) (vs:List V) (Q:VK) (E:XK),Ag G ds vs→AG G H→(∀v G' H',AG G G'→Nw G H G'→AG G' H'→AG H H'→Du G' x v→Q v H')→sp vs H Q E):AL P w K mg base CX k f fd ps (BP m) :=
 F.imp fun vs H Q E z=>by
  obtain⟨ds,x,G,h1,h2,h3,h4⟩:=z;exact h ds x h1 G H vs Q E h2 h3 h4
def A2(G H:Hp):Hp:=fun a=>match H a with
 |some (.tup xs)=>some (.tup xs)
 |_=>G a
def VZ{G H:Hp}{a:AD}{xs:List V}(h:H a=some (.tup xs)):A2 G H a=some (.tup xs):=by unfold A2;rw[h]
section
variable{G0 H0 G H:Hp}{σ:St}{δ:Dv}{ts:List (PD×V)}
def Rw.A2(r:Rw G0 H0 G H σ δ ts):Rw G0 H0 (L2.A2 G H) H σ δ ts:=by
 have e:AG G (L2.A2 G H):=fun a o h=>by
  unfold L2.A2;split
  ·rename_i xs hx;rw[r.ins _ _ h]at hx;exact hx.symm ▸ rfl
  ·exact h
 refine⟨r.ext.trans e,fun a o h=>?_,fun a o h=>?_,r.keep,r.len,fun i x h=>?_,fun i xs h=>?_,r.apart,fun q hq=>(r.Bd q hq).same e⟩
 ·unfold L2.A2 at h;split at h
  ·cases h;exact .inr (.inr ⟨_,rfl⟩)
  ·exact r.new _ _ h
 ·unfold L2.A2 at h;split at h
  ·rename_i xs hx;rw[hx];exact h
  ·exact r.ins _ _ h
 ·obtain⟨v,k1,k2⟩:=r.dat i x h;exact⟨v,k1,k2.same e⟩
 ·obtain⟨a,ys,k1,k2,k3,k4,k5⟩:=r.own i xs h;refine⟨a,ys,k1,?_,k3,k4,k5.same e⟩;unfold L2.A2;rw[k4];split
  ·rename_i q;cases q;exact k5.NC.elim
  ·exact k2
end
def Jr{G:Hp}:∀ {t:Tr} {xs:List V},Ag G (Ba t) xs→Ts G t xs
 |.nil,xs,h=>by rw[Ba]at h;rw[Ts];exact h.nil_eq
 |.cons b r,xs,h=>by
  rw[Ba]at h;obtain⟨x,q,rfl,h1,h2⟩:=h.un;rw[Du]at h1;obtain⟨a,ys,rfl,h3,h4⟩:=h1;rw[Ts];exact⟨a,ys,q,rfl,h3,Jr h4,Jr h2⟩
def MV{G H:Hp}:∀ {t:Tr} {xs:List V},Ts H t xs→Ag (A2 G H) (Ba t) xs
 |.nil,xs,h=>by rw[Ts]at h;rw[Ba,h];exact .nil
 |.cons b r,xs,h=>by
  rw[Ts]at h;obtain⟨a,ys,zs,rfl,h1,h2,h3⟩:=h;rw[Ba];refine .cons ?_ (MV h3);rw[Du];exact⟨a,ys,rfl,VZ h1,MV h2⟩
mutual
def MA:∀ {ds:List PD} {t:Tr},DJ ds=some t→ds=Ba t
 |[],t,h=>by rw[DJ]at h;cases h;rw[Ba]
 |d::ds,t,h=>by
  rw[DJ]at h;obtain⟨b,h1,h2⟩:=aB.mp h;obtain⟨r,h3,rfl⟩:=aF.mp h2;rw[Ba,←Xp h1,←MA h3]
def Xp:∀ {d:PD} {t:Tr},IG d=some t→d=.tuple (Ba t)
 |.tuple ds,t,h=>by rw[IG]at h;rw[MA h]
 |.none,_,h=>by simp[IG]at h
 |.bool _,_,h=>by simp[IG]at h
 |.int _,_,h=>by simp[IG]at h
 |.str _,_,h=>by simp[IG]at h
 |.list _,_,h=>by simp[IG]at h
 |.dict _,_,h=>by simp[IG]at h
end
def bh(rev:Bool)(t:Tr):Option PD:=if t.bs.length<64∧t.deep≤60 then some (.list (Ba (Tr.of (if rev then Tr.Bh t.bs else(Tr.Bh t.bs).reverse)))) else none
def Mg(rev:Bool):MD
 |[x]=>(Fv x).bind fun ds=>(DJ ds).bind (bh rev)
 |_=>none
section
variable{X:Cx}{a e:Expr}{fs:Dv→Option (List PD)}{pos p:Pos}
def Xv{rev:Bool}{G0 H0 G H:Hp}{σ:St}{δ:Dv}{ts:List (PD×V)}{x z:PD}{u:V}{Q:VK}(R0:Rw G0 H0 G H σ δ ts)(du:Du G x u)(hz:Mg rev [x]=some z)(k:∀w G' H',Rw G0 H0 G' H' σ δ ((z,w)::ts)→Q w H') :
  ∃(p:AD) (ys:List V) (t:Tr),[u]=[.ref p]∧(Ae X.K H p ys∨Au X.K H p ys)∧Ts H t ys∧ys.length<64∧t.deep≤60∧∀(l:AD) (zs:List V),H l=none→Ts H (Tr.of (if rev then Tr.Bh t.bs else(Tr.Bh t.bs).reverse)) zs→Q (.ref l) (upd H l (.lst zs)):=by
 unfold Mg at hz;obtain⟨ds,h1,h2⟩:=aB.mp hz;obtain⟨t,h3,h4⟩:=aB.mp h2;unfold bh at h4;split at h4
 ·rename_i hc;cases h4;have hds:=MA h3;obtain⟨bb,a,ys,rfl,n1,n2⟩:=J9 du h1;rw[hds]at n2;have ht:=(Jr n2).same R0.ins;have hl:ys.length=t.bs.length:=by rw[ht.len]
  refine⟨a,ys,t,rfl,?_,ht,by lia,hc.2,fun l zs hl' hz'=>?_⟩
  ·have:=R0.ins _ _ n1;cases bb
   ·exact .inl (Ae.of (by simpa using this))
   ·exact .inr (Au.of (by simpa using this))
  ·have R1:=R0.A2;exact k _ _ _ (R1.Mm (MV hz') hl')
 ·cases h4
def VU{e:Expr}{p pos kp kp2:Pos}{j}(hu:X.A.units+64<cLine)(hg:Gl X "sorted")(hm:X.mg "sorted" = none)(ha:DA X [e] fs)
 (hP:∀ {t:TA},PA X [e] t→PE X (.Call (.Name "sorted" p) [e] [⟨some "reverse",.Constant (.bool true) j kp2,kp⟩] pos) (fun σ H Q=>t σ H fun vs H1=>Tn X.K vs H1 Q)) :
  DE X (.Call (.Name "sorted" p) [e] [⟨some "reverse",.Constant (.bool true) j kp2,kp⟩] pos) (AV (Mg true) fs):=by
 obtain⟨t,p,k⟩:=ha;refine⟨_,hP p,fun δ z hz G0 H0 G H σ ts Q R0 q=>?_⟩;obtain⟨xs,h1,h2⟩:=aB.mp hz;refine k δ _ h1 G0 H0 G H σ ts _ R0 fun vs G1 H1 R1 hv=>?_;obtain⟨d,R2⟩:=R1.args hv;cases xs with
 |nil=>cases h2
 |cons x r =>
  cases r with
  |cons y q=>cases h2
  |nil =>
   obtain⟨u,rfl,du⟩:=d.F6;exact Xv (rev:=true) R2 du h2 q
end
section
variable{G0 H0 G H:Hp}{σ:St}{δ:Dv}{ts:List (PD×V)}
def Rw.on{H':Hp}(r:Rw G0 H0 G H σ δ ts)(e:AG H H'):Rw G0 H0 G H' σ δ ts:=r.lift (AG.refl _) Nw.refl (r.ins.trans e) e
end
section
variable{F F1 F2:DF}{δ δ':Dv}{r:Option Ou}{c:Dv→Option Bool}{f g:Dv→Option PD}{fs:Dv→Option (List PD)}
def A4(h:F1 δ=some (.nx δ'))(k:F2 δ'=r):Ay F1 F2 δ=r:=by unfold Ay;rw[h];exact k
def Kg{x:PD}(h:F1 δ=some (.rt x)):Ay F1 F2 δ=some (.rt x):=by unfold Ay;rw[h]
def Ks(h:c δ=some true)(k:F1 δ=r):GA c F1 F2 δ=r:=by show(c δ).bind _=r;rw[h];exact k
def Hd(h:c δ=some false)(k:F2 δ=r):GA c F1 F2 δ=r:=by show(c δ).bind _=r;rw[h];exact k
def Bc{i:Nat}{y:PD}(h:f δ=some y):Bf i f δ=some (.nx (δ.set i (.d y))):=by show(f δ).map _=_;rw[h];rfl
def Kh{y:PD}(h:f δ=some y):CN f δ=some (.rt y):=by show(f δ).map _=_;rw[h];rfl
def A7{o:PD→PD→Option PD}{x y:PD}{z:Option PD}(h1:f δ=some x)(h2:g δ=some y)(h3:o x y=z):AX o f g δ=z:=by unfold AX;rw[h1,h2];exact h3
def BO{m:MD}{xs:List PD}{z:Option PD}(h1:fs δ=some xs)(h2:m xs=z):AV m fs δ=z:=by show(fs δ).bind m=z;rw[h1];exact h2
def Cr{x:PD}{xs:List PD}(h1:f δ=some x)(h2:fs δ=some xs):AA f fs δ=some (x::xs):=by show(f δ).bind _=_;rw[h1];show(fs δ).map _=_;rw[h2];rfl
def Xq{xs:List PD}(h:fs δ=some xs)(hl:xs.length≤Dy):DC fs δ=some (.tuple xs):=by show((fs δ).bind HS).map _=_;rw[h];show(HS xs).map _=_;unfold HS;rw[if_pos hl];rfl
def EM{o:PD→PD→Option PD}{x y:PD}{b:Bool}(h1:f δ=some x)(h2:g δ=some y)(h3:o x y=some (.bool b)):DD o f g δ=some b:=by show(AX o f g δ).bind Kc=_;rw[A7 h1 h2 h3];rfl
def cv{a b:Dv→Option Bool}{q:Option Bool}(h:a δ=some false)(k:b δ=q):Yq a b δ=q:=by show(a δ).bind _=q;rw[h];exact k
def Xz{a:Dv→Option Bool}{b:Bool}(h:a δ=some b):Zf a δ=some (!b):=by show(a δ).map _=_;rw[h];rfl
def XA{b:Bool}(h:f δ=some (.bool b)):U2 f δ=some b:=by show(f δ).bind Kc=_;rw[h];rfl
def OO{set:PD→Dv→Option Dv}(Iv:Nat→Dv→Prop):∀(xs:List PD) (δ:Dv) (n:Nat),Iv n δ→(∀(i:Nat) (x:PD) (δ:Dv),xs[i]? = some x→Iv (n+i) δ→∃δ1 δ2,set x δ=some δ1∧F δ1=some (.nx δ2)∧Iv (n+i+1) δ2) →
  ∃δ',De set F xs δ=some (.nx δ')∧Iv (n+xs.length) δ'
 |[],δ,n,h,_=>⟨δ,rfl,h⟩
 |x::xs,δ,n,h,k=>by
  obtain⟨δ1,δ2,h1,h2,h3⟩:=k 0 x δ rfl h;obtain⟨δ',h4,h5⟩:=OO Iv xs δ2 (n+1) h3 fun i y δ hy hv=>by
   have:=k (i+1) y δ (by simpa using hy) (by rw[show n+(i+1)=n+1+i by lia];exact hv);rw[show n+(i+1)+1=n+1+i+1 by lia]at this;exact this
  refine⟨δ',?_,by rw[List.length_cons,show n+(xs.length+1)=n+1+xs.length by lia];exact h5⟩;unfold De;rw[h1,Option.bind_some,h2];exact h4
def VP{set:PD→Dv→Option Dv}{xs:List PD}(Iv:Nat→Dv→Prop)(hx:fs δ=some xs)(h0:Iv 0 δ)(hs:∀(i:Nat) (x:PD) (δ:Dv),xs[i]? = some x→Iv i δ→∃δ1 δ2,set x δ=some δ1∧F δ1=some (.nx δ2)∧Iv (i+1) δ2) :
  ∃δ',Eh fs set F δ=some (.nx δ')∧Iv xs.length δ':=by
 obtain⟨δ',h1,h2⟩:=OO (F:=F) (set:=set) Iv xs δ 0 h0 fun i x δ hx hv=>by
  have:=hs i x δ hx (by simpa using hv)
  simpa using this
 refine⟨δ',?_,by simpa using h2⟩;show(fs δ).bind _=_;rw[hx];exact h1
end
def Kp{ps N:List Str}{F:DF}{ds:List PD}{x:PD}(hl:ds.length=ps.length)(h:F (II N ds)=some (.rt x)):Bu ps N F ds=some x:=by unfold Bu;rw[if_pos hl,h]
def Qj{lo:Int}{n i:Nat}{x:PD}(h:(E8 lo n)[i]? = some x):x=.int (lo+(i:Nat))∧i<n:=by
 unfold E8 at h;rw[List.getElem?_map]at h;obtain⟨j,hj,rfl⟩:=aF.mp h;have hl:=(aE.mp hj).1;rw[List.getElem?_range (by simpa using hl)]at hj;cases hj;exact⟨rfl,by simpa using hl⟩
def YM{δ:Dv}{f:Dv→Option PD}{j:Int}(h:f δ=some (.int j))(h0:-1000000≤j)(h1:j≤1000000):Es Jx (AA f AQ) δ=some (E8 0 j.toNat):=by
 show(AA f AQ δ).bind Jx=_;rw[Cr h (show AQ δ=some [] from rfl)];exact if_pos ⟨h0,h1⟩
def UD{n:Nat}{i:Int}(h:i.natAbs<2^n):GU n i=true:=decide_eq_true h
def Yp{i j:Int}(h:MC i j=true):Em (.int i) (.int j)=some (.int (i*j)):=by
 show NK RL RX (.int i) (.int j)=_;unfold NK;rw[show RL (.int i) (.int j)=some (.int (i*j)) from if_pos h]
def mul_r{i j:Int}(h:j.natAbs<2^64):Em (.int i) (.int j)=some (.int (i*j)):=Yp (by unfold MC;rw[UD h];simp)
def mod_is{i j:Int}(h:0<j):FI (.int i) (.int j)=some (.int (i % j)):=by
 show(if j≠0 then some (PyData.int (i.fmod j)) else none)=_;rw[if_pos (by lia),Int.fmod_eq_emod_of_nonneg _ (by lia)]
def Ud{i:Int}{n:Nat}(hn:n≤1000)(hi:GU 64 i=true):KQ (.int i) (.int (n:Int))=some (.int (i^n)):=by
 show(if 0≤(n:Int)∧(n:Int)≤1000∧GU 64 i=true then some (PyData.int (i^(n:Int).toNat)) else none)=_;rw[if_pos ⟨by lia,by lia,hi⟩,Int.toNat_natCast]
def Dw(ns:List Int):PD:=.dict [(.none,.list (ns.map .int))]
def Yy{H:Hp}{a:AD}{ns:List Int}(h:Rd H a (.lst (ns.map V.int))):Du H (Dw ns) (.ref a):=by unfold Dw;rw[Du];exact .inr (.inl ⟨a,ns,rfl,rfl,h⟩)
def N5(K:Fg):Bool:=K.all fun p=>match p.2.cls with|.type n=>n != "list" |_=>true
def K0{a:AD}{o:Obj}:∀ {K:Fg},K.lookup a=some o→(a,o)∈K
 |[],h=>by cases h
 |(b,u)::K,h=>by
  rw[List.lookup_cons]at h;split at h
  ·rename_i e;cases h;rw[show a=b from by simpa using e];exact .head _
  ·exact .tail _ (K0 h)
def ZX{K:Fg}{H:Hp}{a:AD}{xs:List V}(hK:N5 K=true)(h:Ae K H a xs):Rd H a (.lst xs):=by
 rcases h with h|⟨o,its,n,h1,h2,_⟩
 ·exact h
 ·unfold N5 at hK;rw[List.all_eq_true]at hK;have:=hK _ (K0 h1);rw[h2]at this;exact absurd this (by decide)
abbrev OD(fs:Dv→Option (List PD)):DF:=fun δ=>(fs δ).map .rn
abbrev Wg(i:Nat):DF:=fun δ=>(ow i δ).map .rn
section
variable{X:Cx}{a:Expr}{h:Dv→Option PD}{pos:Pos}
def X4{i:Nat}{x:Str}{np:Pos}(hv:PE X (.Name x np) (KS i)):DS X (.Return (some (.Name x np)) pos) (Wg i):=by
 refine⟨_,BJ hv,fun δ r h G0 H0 G H σ D R q=>?_⟩;obtain⟨xs,h1,rfl⟩:=aF.mp h;obtain⟨a,_,k1,k2,k3,k4,⟨ys,rfl,k5⟩⟩:=R.own i _ (Se h1);exact⟨.ref a,k1,q a ys G H R.ext R.new R.ins R.keep k3 k2 k4 k5⟩
end
section
variable{X:Cx}{elt iter:Expr}{x:Str}{px pos spos:Pos}{ifs:List Expr}{scope:Scope}{fs:Dv→Option (List PD)}{tif:Dv→Option Bool}{f:Dv→Option PD}
def RF(N:List Str)(ix:Nat)(fr:List (Option Nat))(hi:DI X (.Name x px) iter fs)(hif:∀cl C s₀ H₀ fp,YH (Aq X scope cl N C s₀ H₀ fp) ifs tif)(he:∀cl C s₀ H₀ fp,DE (Aq X scope cl N C s₀ H₀ fp) elt f)
 (h1:CO scope N x ix=true:=by decide +kernel)(h2:X.calm=true:=by rfl)(h3:EX N X.N scope X.env.scope fr 0=true:=by rfl)(h4:fr.length=N.length:=by rfl)(h5:freeOk X.env.scope scope.names=true:=by rfl)
 (hs:∀x,foldedSetIterable iter X.env x=pure x:=by intro _;rfl):DS X (.Return (some (.ListComp elt [⟨.Name x px,iter,ifs,0⟩] scope pos)) spos) (OD (Et (Cs ix) tif f fr fs)):=by
 obtain⟨wi,pi,ki⟩:=hi;refine⟨_,BJ (FZ N ix fr pi hif (fun cl C s₀ H₀ fp=>(he cl C s₀ H₀ fp).pe) h1 h2 h3 h4 h5 hs),fun δ r h G0 H0 G H σ D R q=>?_⟩;obtain⟨zs,m1,rfl⟩:=aF.mp h;exact Lw ki m1 R fun D' ys G' H' R' n1 n2 n3 n4 n5=>q _ _ _ _ R'.ext R'.new R'.ins R'.keep n3 n2 n1 n5
end
section
variable{N ps:List Str} 
def XH{F:DF}{ds xs:List PD}(hl:ds.length=ps.length)(h:F (II N ds)=some (.rn xs)):Bu ps N F ds=some (.list xs):=by unfold Bu;rw[if_pos hl,h]
end
section
variable{F F2:DF}{δ δ':Dv}{fs:Dv→Option (List PD)}{xs:List PD}{set:PD→Dv→Option Dv}{r:Option Ou}
def YC(Iv:Nat→Dv→Prop)(hx:fs δ=some xs)(h0:Iv 0 δ)(hs:∀(i:Nat) (x:PD) (δ:Dv),xs[i]? = some x→Iv i δ→∃δ1,set x δ=some δ1∧∃δ2,F δ1=some (.nx δ2)∧Iv (i+1) δ2) :
  ∃δ',Eh fs set F δ=some (.nx δ')∧Iv xs.length δ':=VP Iv hx h0 fun i x δ a b=>let⟨δ1,c,δ2,e,g⟩:=hs i x δ a b;⟨δ1,δ2,c,e,g⟩
def VR(Iv:Nat→Dv→Prop)(hx:fs δ=some xs)(h0:Iv 0 δ)(hs:∀(i:Nat) (x:PD) (δ:Dv),xs[i]? = some x→Iv i δ→∃δ1,set x δ=some δ1∧∃δ2,F δ1=some (.nx δ2)∧Iv (i+1) δ2)
 (k:∀δ',Iv xs.length δ'→F2 δ'=r):Ay (Eh fs set F) F2 δ=r:=by
 obtain⟨δ',h1,h2⟩:=YC Iv hx h0 hs;exact A4 h1 (k δ' h2)
end
end L2
set_option maxHeartbeats 2000000
set_option maxHeartbeats 1000000
set_option maxHeartbeats 4000000
namespace L2
open PySem PySem.Spec PyProof.Rows
def GT(H:Hp)(v:VL)(x:Tr):Prop:=∃a ys,v=.ref a∧H a=some (.tup ys)∧Ts H x ys
def RK(S:AD)(ev:Array (Int×VL))(ep:Nat)(t:SetTable):HO:=.ext fun h=>∃o,h.get? S=some o∧o.ExactSet∧o.data=.set ev ep t
abbrev bT(H:Hp)(p:Int×VL)(q:Int×Tr):Prop:=p.1=q.1∧q.2.deep<8∧GT H p.2 q.2
def Vo(H:Hp)(S:AD)(st:TH.ES×SetTable):Prop:=∃ev ep,H S=some (RK S ev ep st.2)∧PySem.Paired (bT H) ev.toList st.1.toList
def GT.same{H H':Hp}{v:VL}{x:Tr}(h:GT H v x)(e:AG H H'):GT H' v x:=let⟨a,ys,e1,e2,e3⟩:=h;⟨a,ys,e1,e _ _ e2,e3.same e⟩
structure WE(w:World)(st:TH.ES×SetTable):Prop where
 fit:st.2.fits st.1.size=true
 plain:st.2.plain=true
 led:st.2.led=!w.params.followText "set-order"
 walk:TH.J6 st.2 st.1.size=true
 small:st.1.size<64
section
variable{X:Cx}{pins:List (AD×Obj)}{σ:St}{H:Hp}{s:SD}
def So(I:Inv X pins σ H s){v:VL}{x:Tr}(g:GT H v x):∃a its,v=.ref a∧s.heap.IsTuple a its.toArray∧TH.Vs s.heap x its:=by
 obtain⟨a,ys,rfl,h1,h2⟩:=g;obtain⟨its,r,p,_⟩:=I.tuple (Au.of (K:=X.K) h1);exact⟨a,its,rfl,p,h2.vs I r⟩
def Og(I:Inv X pins σ H s):∀ {t:Tr} {ys:List V} {us:List VL},Ts H t ys→Vals ys us→t.deep≤8→TH.Gq (GT H) s.heap us t.bs
 |.nil,ys,us,h,r,_=>by
  rw[Ts]at h;subst h;cases r;exact .nil
 |.cons b q,ys,us,h,r,hd=>by
  rw[Ts]at h;obtain⟨a,zs,rest,rfl,h1,h2,h3⟩:=h;rw[Tr.deep]at hd;cases r with
  |cons r1 r2 =>
   cases r1;have g:GT H (.ref a) b:=⟨a,zs,rfl,h1,h2⟩;exact .cons ⟨by lia,g,So I g⟩ (Og I h3 r2 (by lia))
def Vt(I:Inv X pins σ H s){l:List (Int×VL)}{m:List (Int×Tr)}(h:PySem.Paired (bT H) l m):PySem.Paired (TH.Ll (GT H) s.heap) l m :=
 TH.Paired.imp (fun _ _ ⟨a,b,c⟩=>⟨a,b,c,So I c⟩) h
def Zd:∀ {us:List VL} {ts:List Tr},PySem.Paired (GT H) us ts→∃zs,Vals zs us∧Ts H (Tr.of ts) zs
 |_,_,.nil=>⟨[],.nil,by rw[Tr.of,Ts]⟩
 |_,_,.cons ⟨a,ys,e,h1,h2⟩ r=>by
  obtain⟨zs,r1,r2⟩:=Zd r;subst e;exact⟨.ref a::zs,.cons rfl r1,by rw[Tr.of,Ts];exact⟨a,ys,zs,rfl,h1,h2,r2⟩⟩
def b8(w:World)(K:Fg):List V→Hp→VK→Prop:=fun xs H Q=>∃p ys t st,xs=[.ref p]∧Ae K H p ys∧Ts H t ys∧t.deep≤8∧TH.KY (TH.Iu (!w.params.followText "set-order")) t.bs=some st ∧
 ∀S H',AG H H'→Vo H' S st→Q (.ref S) H'
def S6(hc:X.calm=true)(hu:X.A.units+64<cLine):Cv X (.type "set") (b8 X.w X.K):=by
 intro pins s σ H xs us Q I r h;obtain⟨p,ys,t,st,rfl,hq,ht,hd,hst,q⟩:=h;obtain⟨u,rfl,r1⟩:=r.one;cases r1;obtain⟨its,rv,pl,hz⟩:=I.list hq;refine TH.QT (G:=GT H) (I.ok.hd hc) pl.isList (Og I ht rv hd) (by lia) hst fun h2 tk S2 k2=>?_;obtain⟨o,ev,ep,g1,g2,g3,g4⟩:=S2;have hf:=I.Af.fresh (aG s.heap.objs.size);have es:=Aa hf (RK s.heap.objs.size ev ep st.2);refine⟨.ref s.heap.objs.size,upd H s.heap.objs.size (RK s.heap.objs.size ev ep st.2),I.laid (t':=tk) k2 (aG _) ?_,rfl,q _ _ es ⟨ev,ep,AI,TH.Paired.imp (fun _ _ ⟨a,b,c,_⟩=>⟨a,b,c.same es⟩) g4⟩⟩;exact⟨⟨o,g1,g2,g3⟩,⟨o,g1⟩,fun h1 h2 ⟨o,q1,q2⟩ k=>⟨o,k _ q1,q2⟩⟩
def Wz(I:Inv X pins σ H s){S:AD}{st:TH.ES×SetTable}(h:Vo H S st)(ok:WE X.w st):∃o ev ep,s.heap.get? S=some o∧TH.DM X.w o ev ep st.2∧TH.CL (GT H) s.heap ev st.1:=by
 obtain⟨ev,ep,h1,h2⟩:=h;obtain⟨⟨o,g1,g2,g3⟩,_,_⟩:=(show Bb X.prog X.w H s.heap S (RK S ev ep st.2) from I.Af S _ h1);have R:=Vt I h2;have hz:ev.size=st.1.size:=TH.CL.size R;exact⟨o,ev,ep,g1,⟨g2,g3,by rw[hz];exact ok.fit,ok.plain,ok.led,by rw[hz];exact ok.walk⟩,R⟩
def Za(w:World):List V→Hp→VK→Prop:=fun xs H Q=>∃S st,xs=[.ref S]∧Vo H S st∧WE w st∧∀(l:AD) (zs:List V),H l=none→zs.length<64→Ts H (Tr.of (Tr.Bh (TH.Md st)).reverse) zs→Q (.ref l) (upd H l (.lst zs))
def RM(hc:X.calm=true)(hu:X.A.units+64<cLine):Cv X (.builtin "sorted") (Za X.w):=by
 intro pins s σ H xs us Q I r h;obtain⟨S,st,rfl,hS,ok,q⟩:=h;obtain⟨u,rfl,r1⟩:=r.one;cases r1;obtain⟨o,ev,ep,g1,W,R⟩:=Wz I hS ok;refine TH.SI (I.ok.hd hc) W g1 R ok.small (by lia) fun h' D tk e1 us hD k1 gD hp hl=>?_;obtain⟨zs,r1,r2⟩:=Zd hp;have hz:zs.length<64:=by rw[r1.length];exact hl
 refine⟨.ref D,upd H D (.lst zs),I.laid (t':=tk) k1 hD ⟨bA (aI hz (by rw[sizeLine_eq];decide)),us,e1,r1,gD⟩,rfl,q D zs (I.Af.fresh hD) hz r2⟩
end
open PySem PyProof.Rows
end L2
set_option maxHeartbeats 1000000
namespace L2
open PySem PySem.Spec PyProof.Rows
def MU(led:Bool)(l z:List Tr):Bool:=match TH.KY (TH.Iu led) l with
 |some st=>decide ((Tr.Bh (TH.Md st)).reverse=z)&&st.2.fits st.1.size&&st.2.plain&&decide (st.2.led=led)&&TH.J6 st.2 st.1.size&&decide (st.1.size<64)
 |none=>false
def Vg{led:Bool}{l z:List Tr}(h:MU led l z=true):∃st,TH.KY (TH.Iu led) l=some st∧(Tr.Bh (TH.Md st)).reverse=z∧st.2.fits st.1.size=true∧st.2.plain=true∧st.2.led=led∧TH.J6 st.2 st.1.size=true∧st.1.size<64:=by
 unfold MU at h;split at h
 ·rename_i st e;simp only[Bool.and_eq_true,decide_eq_true_eq]at h;obtain⟨⟨⟨⟨⟨h1,h2⟩,h3⟩,h4⟩,h5⟩,h6⟩:=h;exact⟨st,e,h1,h2,h3,h4,h5,h6⟩
 ·cases h
def Rl(l:List Tr):List Tr:=match TH.KY (TH.Iu true) l with
 |some st=>(Tr.Bh (TH.Md st)).reverse
 |none=>[]
def HA(t:Tr):Option PD:=if t.deep≤8∧MU true t.bs (Rl t.bs)=true∧MU false t.bs (Rl t.bs)=true then some (.list (Ba (Tr.of (Rl t.bs)))) else none
def Ln:PD→Option PD
 |.list ds=>(DJ ds).bind HA
 |_=>none
section
variable{X:Cx}{e:Expr}{f:Dv→Option PD}{pos p p2 pos2:Pos}
def SE(hc:X.calm=true)(hu:X.A.units+64<cLine)(hg:Gl X "sorted")(hm:X.mg "sorted" = none)(hg2:Gl X "set")(hm2:X.mg "set" = none)(ha:DE X e f)
 (hs1:starEach [e] X.env=(false,eval e X.env)::starEach [] X.env:=by rfl)(hs2:starEach [.Call (.Name "set" p2) [e] [] pos2] X.env=(false,eval (.Call (.Name "set" p2) [e] [] pos2) X.env)::starEach [] X.env:=by rfl)
 (hq1:(backTo pos2 (starEach [] X.env)).any (·.1)=false:=by rfl)(hq2:(backTo pos (starEach [] X.env)).any (·.1)=false:=by rfl) :
  DE X (.Call (.Name "sorted" p) [.Call (.Name "set" p2) [e] [] pos2] [] pos) (fun δ=>(f δ).bind Ln):=by
 obtain⟨ta,pa,ka⟩:=ha;refine⟨_,BB (RM hc hu) hg hm PyProof.Rows.boot_sorted (AH (NP (S6 hc hu) hg2 hm2 PyProof.Rows.boot_set (AH pa AU hs1) (by decide) (by decide) hs1 hq1) AU hs2) (by decide) (by decide) hs2 hq2,fun δ z hz G0 H0 G H σ ts Q R0 k=>?_⟩;obtain⟨y,h1,h2⟩:=aB.mp hz;refine ka δ y h1 G0 H0 G H σ ts _ R0 fun u G1 H1 R1=>?_;unfold Ln at h2;split at h2
 ·rename_i ds;obtain⟨t,h3,h4⟩:=aB.mp h2;unfold HA at h4;split at h4
  ·rename_i hh;cases h4;have hds:=MA h3;have du:=R1.Bd (_,u) (.head _);obtain⟨bb,a,ys,rfl,n1,n2⟩:=J9 du (show Fv (.list ds)=some ds from rfl);have n1':H1 a=some (.lst ys):=by
    have:=R1.ins _ _ n1;cases bb
    ·simpa using this
    ·exact absurd n1 (by
      have du':=du;intro n1;rw[Du]at du';obtain⟨a',ys',e1,e2,_⟩:=du';cases e1;rw[e2]at n1;cases n1)
   rw[hds]at n2;have ht:=(Jr n2).same R1.ins;have both:∀led,MU led t.bs (Rl t.bs)=true:=fun led=>by cases led;exact hh.2.2;exact hh.2.1
   obtain⟨st,r1,r2,r3,r4,r5,r6,r7⟩:=Vg (both (!X.w.params.followText "set-order"));refine⟨a,ys,t,st,rfl,Ae.of n1',ht,hh.1,r1,fun S H' e1 hS=>⟨S,st,rfl,hS,⟨r3,r4,r5,r6,r7⟩,fun l zs hl hz ht'=>?_⟩⟩;rw[r2]at ht';have R2:=(R1.drop.on e1).A2;exact k _ _ _ (R2.Mm (MV ht') hl)
  ·cases h4
 ·cases h2
end
end L2
set_option maxHeartbeats 4000000
namespace ZT
open PySem PyProof.Rows
abbrev Cd(h:Heap)(T:AD)(a b c:VL):Prop:=h.get? T=some { cls:=.type "tuple",data:=.seq #[a,b,c]}
section
variable{prog:Program}{w:World}{A:Around}{E:VL→SD→Prop}{s:SD}{z TI TO i1 i2 i3:AD}{f1 f2 f3:List AD}{n1 n2 n3 k:Nat}{P1 P2 P3:Nat→VL→Prop}{S1 S2 S3:Nat→Heap→Prop}{a b c:VL}
def put3{T:AD}{x:VL}{k:Nat}{Q:Unit→SD→Prop}(hT:Cd s.heap T a b c)
 (h:∀h',h'.get? T=some { cls:=.type "tuple",data:=.seq ((#[a,b,c]:Array VL).setIfInBounds k x)}→Heap.SameBut T s.heap h'→Q () {s with heap:=h'}):wpAny (model prog w) A (updateSeq T (·.setIfInBounds k x)) Q E s:=by
 refine wpAny_updateSeq hT rfl (h _ ?_ (aZ ..));rw[Heap.get?_update_self _ hT rfl];simp[Obj.mapSeq]
structure KG(z TI TO i1 i2 i3:Addr)(f1 f2 f3:List Addr):Prop where
 a1:TO≠z∧TO≠i1∧TO≠i2∧TO≠i3
 a2:i1≠z∧i2≠z∧i3≠z
 b1:z ∉ f1∧TO ∉ f1∧i2 ∉ f1∧i3 ∉ f1
 b2:z ∉ f2∧TO ∉ f2∧i1 ∉ f2∧i3 ∉ f2
 b3:z ∉ f3∧TO ∉ f3∧i1 ∉ f3∧i2 ∉ f3
def cH{Q:VL→SD→Prop}(D1:Draws prog w A i1 f1 n1 P1 S1)(D2:Draws prog w A i2 f2 n2 P2 S2)(D3:Draws prog w A i3 f3 n3 P3 S3)(ap:KG z TI TO i1 i2 i3 f1 f2 f3)(hz:IsZip s.heap z TI TO .none)(hI:Cd s.heap TI (.ref i1) (.ref i2) (.ref i3))(hO:Cd s.heap TO a b c)
 (t1:S1 k s.heap)(t2:S2 k s.heap)(t3:S3 k s.heap)(l1:k<n1)(l2:k<n2)(l3:k<n3)
 (q:∀x y u h' tk,P1 k x→P2 k y→P3 k u→IsZip h' z TI TO (rawInt s.heap.objs.size)→Cd h' TO x y u→S1 (k+1) h'→S2 (k+1) h'→S3 (k+1) h'→Cd h' s.heap.objs.size x y u→h'.objs.size=s.heap.objs.size+1 →
   (∀c o,c≠z→c≠TO→c≠i1→c≠i2→c≠i3→s.heap.get? c=some o→h'.get? c=some o)→Q (.ref s.heap.objs.size) {s with heap:=h',toks:=tk}) :
  wpAny (model prog w) A (Builtin.«zip.__next__» ⟨[.ref z],[]⟩) (fun fin s'=>∃v,fin=.done (.ret v)∧Q v s') E s:=by
 obtain⟨⟨c5,c6,c7,c7'⟩,⟨c8,c9,c9'⟩,⟨d1,d2,d3,d3'⟩,⟨d4,d5,d6,d6'⟩,e4,e5,e6,e6'⟩:=ap;show wpAny _ _ (field (.ref z) 2>>=_) _ _ _;refine Wb (aX hz rfl (x:=.bool false) rfl ?_);show wpAny _ _ (field (.ref z) 3>>=_) _ _ _;refine Wb (aX hz rfl (x:=.ref TI) rfl (Wb (aQ hI rfl ?_)));show wpAny _ _ (Builtin.SmallTypes.ownedTupleIsFree (.ref z)>>=_) _ _ _;unfold Builtin.SmallTypes.ownedTupleIsFree;refine Wb (Wb (aX hz rfl (x:=.none) rfl (aA ?_)));simp only[if_true];refine Wb (bH (Wb (aX hz rfl (x:=.ref TO) rfl (Wb (aa hz (by simp) fun g1 z1 m1=>Wb ?_)))));have m1:Heap.SameBut z s.heap g1:=m1;have z1:IsZip g1 z TI TO .ellipsis:=z1;simp only[List.zipIdx_cons,List.zipIdx_nil,List.forIn_cons,List.forIn_nil];refine Wb (Wb (bD ?_));show wpAny _ _ (Builtin.SmallTypes.nextOf (.ref i1)>>=_) _ _ _;refine Wb (D1.item k _ _ _ l1 (D1.frame _ _ _ t1 (AZ d1 m1)) fun x g2 tk2 p1 u1 m2=>aA ?_);have m2:Heap.SameBut i1 g1 g2:=m2;have o2:Cd g2 TO a b c:=(m2.2 _ c6).trans ((m1.2 _ c5).trans hO);refine Wb (aQ o2 rfl (Wb (put3 o2 fun g3 o3 m3=>Wb (wpAny_letGo (aA ?_)))));have o3:Cd g3 TO x b c:=o3;have m3:Heap.SameBut TO g2 g3:=m3;refine Wb (Wb (bD ?_));show wpAny _ _ (Builtin.SmallTypes.nextOf (.ref i2)>>=_) _ _ _;have t2':S2 k g3:=D2.frame _ _ _ (D2.frame _ _ _ (D2.frame _ _ _ t2 (AZ d4 m1)) (AZ d6 m2)) (AZ d5 m3);refine Wb (D2.item k _ _ _ l2 t2' fun y g4 tk4 p2 u2 m4=>aA ?_);have m4:Heap.SameBut i2 g3 g4:=m4;have o4:Cd g4 TO x b c:=(m4.2 _ c7).trans o3;refine Wb (aQ o4 rfl (Wb (put3 o4 fun g5 o5 m5=>Wb (wpAny_letGo (aA ?_)))));have m5:Heap.SameBut TO g4 g5:=m5;have o5:Cd g5 TO x y c:=o5;refine Wb (Wb (bD ?_));show wpAny _ _ (Builtin.SmallTypes.nextOf (.ref i3)>>=_) _ _ _;have t3':S3 k g5:=D3.frame _ _ _ (D3.frame _ _ _ (D3.frame _ _ _ (D3.frame _ _ _ (D3.frame _ _ _ t3 (AZ e4 m1)) (AZ e6 m2)) (AZ e5 m3)) (AZ e6' m4)) (AZ e5 m5);refine Wb (D3.item k _ _ _ l3 t3' fun u g6 tk6 p3 u3 m6=>aA ?_);have m6:Heap.SameBut i3 g5 g6:=m6;have o6:Cd g6 TO x y c:=(m6.2 _ c7').trans o5;refine Wb (aQ o6 rfl (Wb (put3 o6 fun g7 o7 m7=>Wb (wpAny_letGo (aA (aA ?_))))));have m7:Heap.SameBut TO g6 g7:=m7;have o7:Cd g7 TO x y u:=o7;refine Wb (aQ o7 rfl (Wb (wpAny_newTuple ?_)));have sz:g7.objs.size=s.heap.objs.size:=by rw[m7.1,m6.1,m5.1,m4.1,m3.1,m2.1,m1.1]
 have z7:IsZip g7 z TI TO .ellipsis:=(m7.2 _ c5.symm).trans ((m6.2 _ c9'.symm).trans ((m5.2 _ c5.symm).trans ((m4.2 _ c9.symm).trans ((m3.2 _ c5.symm).trans ((m2.2 _ c8.symm).trans z1)))));have kp:∀c o,c≠z→c≠TO→c≠i1→c≠i2→c≠i3→s.heap.get? c=some o→g7.get? c=some o:=fun c o e1 e2 e3 e4 e5 e=>(m7.2 _ e2).trans ((m6.2 _ e5).trans ((m5.2 _ e2).trans ((m4.2 _ e4).trans ((m3.2 _ e2).trans ((m2.2 _ e3).trans ((m1.2 _ e1).trans e))))));have v1:S1 (k+1) g7:=D1.frame _ _ _ (D1.frame _ _ _ (D1.frame _ _ _ (D1.frame _ _ _ (D1.frame _ _ _ u1 (AZ d2 m3)) (AZ d3 m4)) (AZ d2 m5)) (AZ d3' m6)) (AZ d2 m7);have v2:S2 (k+1) g7:=D2.frame _ _ _ (D2.frame _ _ _ (D2.frame _ _ _ u2 (AZ d5 m5)) (AZ d6' m6)) (AZ d5 m7);have v3:S3 (k+1) g7:=D3.frame _ _ _ u3 (AZ e5 m7);show wpAny _ _ (Builtin.SmallTypes.ownedTupleHandOut (.ref z) (.ref g7.objs.size)>>=_) _ _ _;unfold Builtin.SmallTypes.ownedTupleHandOut;have z8:IsZip (g7.push { cls:=.type "tuple",data:=.seq #[x,y,u]}) z TI TO .ellipsis:=aC _ z7;refine Wb (Wb (aa z8 (by simp) fun g8 w8 m8=>aa (show IsZip g8 z TI TO (rawInt g7.objs.size) from w8) (by simp) fun g9 w9 m9=>?_));have w9:IsZip g9 z TI TO (rawInt g7.objs.size):=w9;have up:∀c o,c≠z→(g7.push { cls:=.type "tuple",data:=.seq #[x,y,u]}).get? c=some o→g9.get? c=some o:=fun c o e1 e=>(m9.2 _ e1).trans ((m8.2 _ e1).trans e);have zl:z<g7.objs.size:=aD z7;refine aA ⟨_,rfl,?_⟩;show Q (.ref g7.objs.size) _;have fin:=q x y u g9 tk6 p1 p2 p3 (by rw[←sz];exact w9) (up _ _ c5 (aC _ o7)) (D1.frame _ _ _ v1 fun c hc o e=>up c o (fun y=>d1 (y ▸ hc)) (aC _ e)) (D2.frame _ _ _ v2 fun c hc o e=>up c o (fun y=>d4 (y ▸ hc)) (aC _ e)) (D3.frame _ _ _ v3 fun c hc o e=>up c o (fun y=>e4 (y ▸ hc)) (aC _ e))
  (by rw[←sz];exact up _ _ (bK zl) (aH _ rfl)) (by rw[←sz,m9.1,m8.1,Heap.size_push]) fun c o e1 e2 e3 e4 e5 e=>up c o e1 (aC _ (kp c o e1 e2 e3 e4 e5 e))
 rw[sz];exact fin
def Ze{Q:Fin→SD→Prop}(D1:Draws prog w A i1 f1 n1 P1 S1)(D2:Draws prog w A i2 f2 n2 P2 S2)(D3:Draws prog w A i3 f3 n3 P3 S3)(ap:KG z TI TO i1 i2 i3 f1 f2 f3)(hz:IsZip s.heap z TI TO .none)(hI:Cd s.heap TI (.ref i1) (.ref i2) (.ref i3))(hO:Cd s.heap TO a b c)
 (t1:S1 k s.heap)(t2:S2 k s.heap)(t3:S3 k s.heap)(he:k=n1∨(k<n1∧k=n2)∨(k<n1∧k<n2∧k=n3))
 (q:∀h' e tk,(∀c o,c≠z→c≠TO→c≠i1→c≠i2→c≠i3→s.heap.get? c=some o→h'.get? c=some o)→(∃o,h'.get? e=some o∧o.cls=.type "StopIteration")→E (.ref e) {s with heap:=h',toks:=tk}) :
  wpAny (model prog w) A (Builtin.«zip.__next__» ⟨[.ref z],[]⟩) Q E s:=by
 obtain⟨⟨c5,c6,c7,c7'⟩,⟨c8,c9,c9'⟩,⟨d1,d2,d3,d3'⟩,⟨d4,d5,d6,d6'⟩,e4,e5,e6,e6'⟩:=ap;show wpAny _ _ (field (.ref z) 2>>=_) _ _ _;refine Wb (aX hz rfl (x:=.bool false) rfl ?_);show wpAny _ _ (field (.ref z) 3>>=_) _ _ _;refine Wb (aX hz rfl (x:=.ref TI) rfl (Wb (aQ hI rfl ?_)));show wpAny _ _ (Builtin.SmallTypes.ownedTupleIsFree (.ref z)>>=_) _ _ _;unfold Builtin.SmallTypes.ownedTupleIsFree;refine Wb (Wb (aX hz rfl (x:=.none) rfl (aA ?_)));simp only[if_true];refine Wb (bH (Wb (aX hz rfl (x:=.ref TO) rfl (Wb (aa hz (by simp) fun g1 z1 m1=>Wb ?_)))));have m1:Heap.SameBut z s.heap g1:=m1;have z1:IsZip g1 z TI TO .ellipsis:=z1;simp only[List.zipIdx_cons,List.zipIdx_nil,List.forIn_cons,List.forIn_nil];refine Wb (Wb (bD ?_));show wpAny _ _ (Builtin.SmallTypes.nextOf (.ref i1)>>=_) _ _ _;have t1':=D1.frame _ _ _ t1 (AZ d1 m1);rcases he with he|⟨he1,he2⟩|⟨he1,he2,he3⟩
 ·rw[he]at t1';refine Wb (D1.done _ _ _ t1' fun g2 e m2 ho=>?_);obtain⟨o,ho,hc⟩:=ho;have z2:IsZip g2 z TI TO .ellipsis:=m2 _ _ c8.symm z1;have ez:e≠z:=fun y=>by subst y;rw[z2]at ho;cases ho;simp at hc
  exact aa z2 (by simp) fun g3 _ m3=>q g3 e _ (fun c o e1 e2 e3 e4 e5 y=>(m3.2 _ e1).trans (m2 _ _ e3 ((m1.2 _ e1).trans y))) ⟨o,(m3.2 _ ez).trans ho,hc⟩
 ·refine Wb (D1.item k _ _ _ he1 t1' fun x g2 tk2 p1 u1 m2=>aA ?_);have m2:Heap.SameBut i1 g1 g2:=m2;have o2:Cd g2 TO a b c:=(m2.2 _ c6).trans ((m1.2 _ c5).trans hO);refine Wb (aQ o2 rfl (Wb (put3 o2 fun g3 o3 m3=>Wb (wpAny_letGo (aA ?_)))));have m3:Heap.SameBut TO g2 g3:=m3;have t2':S2 k g3:=D2.frame _ _ _ (D2.frame _ _ _ (D2.frame _ _ _ t2 (AZ d4 m1)) (AZ d6 m2)) (AZ d5 m3);rw[he2]at t2';refine Wb (Wb (bD ?_));show wpAny _ _ (Builtin.SmallTypes.nextOf (.ref i2)>>=_) _ _ _;refine Wb (D2.done _ _ _ t2' fun g4 e m4 ho=>?_);obtain⟨o,ho,hc⟩:=ho;have z4:IsZip g4 z TI TO .ellipsis:=m4 _ _ c9.symm ((m3.2 _ c5.symm).trans ((m2.2 _ c8.symm).trans z1));have ez:e≠z:=fun y=>by subst y;rw[z4]at ho;cases ho;simp at hc
  exact aa z4 (by simp) fun g5 _ m5=>q g5 e _ (fun c o e1 e2 e3 e4 e5 y=>(m5.2 _ e1).trans (m4 _ _ e4 ((m3.2 _ e2).trans ((m2.2 _ e3).trans ((m1.2 _ e1).trans y))))) ⟨o,(m5.2 _ ez).trans ho,hc⟩
 ·refine Wb (D1.item k _ _ _ he1 t1' fun x g2 tk2 p1 u1 m2=>aA ?_);have m2:Heap.SameBut i1 g1 g2:=m2;have o2:Cd g2 TO a b c:=(m2.2 _ c6).trans ((m1.2 _ c5).trans hO);refine Wb (aQ o2 rfl (Wb (put3 o2 fun g3 o3 m3=>Wb (wpAny_letGo (aA ?_)))));have m3:Heap.SameBut TO g2 g3:=m3;have o3:Cd g3 TO x b c:=o3;have t2':S2 k g3:=D2.frame _ _ _ (D2.frame _ _ _ (D2.frame _ _ _ t2 (AZ d4 m1)) (AZ d6 m2)) (AZ d5 m3);refine Wb (Wb (bD ?_));show wpAny _ _ (Builtin.SmallTypes.nextOf (.ref i2)>>=_) _ _ _;refine Wb (D2.item k _ _ _ he2 t2' fun y g4 tk4 p2 u2 m4=>aA ?_);have m4:Heap.SameBut i2 g3 g4:=m4;have o4:Cd g4 TO x b c:=(m4.2 _ c7).trans o3;refine Wb (aQ o4 rfl (Wb (put3 o4 fun g5 o5 m5=>Wb (wpAny_letGo (aA ?_)))));have m5:Heap.SameBut TO g4 g5:=m5;have t3':S3 k g5:=D3.frame _ _ _ (D3.frame _ _ _ (D3.frame _ _ _ (D3.frame _ _ _ (D3.frame _ _ _ t3 (AZ e4 m1)) (AZ e6 m2)) (AZ e5 m3)) (AZ e6' m4)) (AZ e5 m5);rw[he3]at t3';refine Wb (Wb (bD ?_));show wpAny _ _ (Builtin.SmallTypes.nextOf (.ref i3)>>=_) _ _ _;refine Wb (D3.done _ _ _ t3' fun g6 e m6 ho=>?_);obtain⟨o,ho,hc⟩:=ho;have z6:IsZip g6 z TI TO .ellipsis:=m6 _ _ c9'.symm ((m5.2 _ c5.symm).trans ((m4.2 _ c9.symm).trans ((m3.2 _ c5.symm).trans ((m2.2 _ c8.symm).trans z1))));have ez:e≠z:=fun y=>by subst y;rw[z6]at ho;cases ho;simp at hc
  exact aa z6 (by simp) fun g7 _ m7=>q g7 e _ (fun c o e1 e2 e3 e4 e5 y=>(m7.2 _ e1).trans (m6 _ _ e5 ((m5.2 _ e2).trans ((m4.2 _ e4).trans ((m3.2 _ e2).trans ((m2.2 _ e3).trans ((m1.2 _ e1).trans y))))))) ⟨o,(m7.2 _ ez).trans ho,hc⟩
def SA{Q:Option VL→SD→Prop}(D1:Draws prog w A.in1 i1 f1 n1 P1 S1)(D2:Draws prog w A.in1 i2 f2 n2 P2 S2)(D3:Draws prog w A.in1 i3 f3 n3 P3 S3)(ap:KG z TI TO i1 i2 i3 f1 f2 f3)(hz:IsZip s.heap z TI TO .none)(hI:Cd s.heap TI (.ref i1) (.ref i2) (.ref i3))(hO:Cd s.heap TO a b c)
 (t1:S1 k s.heap)(t2:S2 k s.heap)(t3:S3 k s.heap)(l1:k<n1)(l2:k<n2)(l3:k<n3)
 (q:∀x y u h' tk,P1 k x→P2 k y→P3 k u→IsZip h' z TI TO (rawInt s.heap.objs.size)→Cd h' TO x y u→S1 (k+1) h'→S2 (k+1) h'→S3 (k+1) h'→Cd h' s.heap.objs.size x y u→h'.objs.size=s.heap.objs.size+1 →
   (∀c o,c≠z→c≠TO→c≠i1→c≠i2→c≠i3→s.heap.get? c=some o→h'.get? c=some o)→Q (some (.ref s.heap.objs.size)) {s with heap:=h',toks:=tk}) :
  wpAny (model prog w) A (pyNext (.ref z)) Q E s:=by
 have hT:s.TypeIs (.ref z) "zip" := ⟨_,hz,rfl⟩;unfold pyNext;exact Wb (wpAny_attempt (aY (name:=Str.ofString "__next__") hT bL
  (aS bL hT F.entry_zip_next (cH D1 D2 D3 ap hz hI hO t1 t2 t3 l1 l2 l3 fun x y u h' tk r1 r2 r3 r4 r5 r6 r7 r8 r9 r10 r11=>aA (q x y u h' tk r1 r2 r3 r4 r5 r6 r7 r8 r9 r10 r11)) (F.args_zip_next_1 _))))
def Ue{Q:Option VL→SD→Prop}(D1:Draws prog w A.in1 i1 f1 n1 P1 S1)(D2:Draws prog w A.in1 i2 f2 n2 P2 S2)(D3:Draws prog w A.in1 i3 f3 n3 P3 S3)(ap:KG z TI TO i1 i2 i3 f1 f2 f3)(hz:IsZip s.heap z TI TO .none)(hI:Cd s.heap TI (.ref i1) (.ref i2) (.ref i3))(hO:Cd s.heap TO a b c)
 (t1:S1 k s.heap)(t2:S2 k s.heap)(t3:S3 k s.heap)(he:k=n1∨(k<n1∧k=n2)∨(k<n1∧k<n2∧k=n3))
 (q:∀h' tk,(∀c o,c≠z→c≠TO→c≠i1→c≠i2→c≠i3→s.heap.get? c=some o→h'.get? c=some o)→Q none {s with heap:=h',toks:=tk}) :
  wpAny (model prog w) A (pyNext (.ref z)) Q E s:=by
 have hT:s.TypeIs (.ref z) "zip" := ⟨_,hz,rfl⟩;unfold pyNext;refine Wb (wpAny_attempt (aY (name:=Str.ofString "__next__") hT bL
  (aS bL hT F.entry_zip_next (Ze D1 D2 D3 ap hz hI hO t1 t2 t3 he fun h' e tk kp ho=>?_) (F.args_zip_next_1 _))))
 obtain⟨o,ho,hc⟩:=ho;exact Wb (wpAny_isInstance (T := "StopIteration") (b:=true) ⟨o,ho,hc⟩ isSubtype_stop (aA (q _ _ kp)))
abbrev KO(a b c:VL):Obj:={ cls:=.type "tuple",data:=.seq #[a,b,c]}
def bZ(b1 b2 b3:Bool)(h:Heap)(l1 l2 l3:AD):Heap :=
 (((((h.push (Av b1 l1)).push (Av b2 l2)).push (Av b3 l3)).push (KO (.ref h.objs.size) (.ref (h.push (Av b1 l1)).objs.size) (.ref ((h.push (Av b1 l1)).push (Av b2 l2)).objs.size))).push (KO .none .none .none)).push
  { cls:=.type "zip",data:=.fields #[.none,.bool false,.bool false,.ref (((h.push (Av b1 l1)).push (Av b2 l2)).push (Av b3 l3)).objs.size,.ref ((((h.push (Av b1 l1)).push (Av b2 l2)).push (Av b3 l3)).push (KO (.ref h.objs.size) (.ref (h.push (Av b1 l1)).objs.size) (.ref ((h.push (Av b1 l1)).push (Av b2 l2)).objs.size))).objs.size]}
def VD(b1 b2 b3:Bool)(l1 l2 l3:AD)(xs ys zs:List VL) :
  Meets (Builtin.«zip.__new__» ⟨[.type "zip",.ref l1,.ref l2,.ref l3],[]⟩) (fun _ R s=>Sq b1 s.heap l1 xs∧Sq b2 s.heap l2 ys∧Sq b3 s.heap l3 zs ∧
   R (.ok (.ret (.ref (((((s.heap.push (Av b1 l1)).push (Av b2 l2)).push (Av b3 l3)).push (KO (.ref s.heap.objs.size) (.ref (s.heap.push (Av b1 l1)).objs.size) (.ref ((s.heap.push (Av b1 l1)).push (Av b2 l2)).objs.size))).push (KO .none .none .none)).objs.size))) {s with heap:=bZ b1 b2 b3 s.heap l1 l2 l3}) :=
 .of_wp fun prog w A R s h=>by
  obtain⟨hp,g,d,tk,os⟩:=s;obtain⟨h1,h2,h3,h⟩:=h;have hsub:=sub_zip;have i1:∀(A:Around) (E:VL→SD→Prop) (Q:VL→SD→Prop),Q (.ref hp.objs.size) ⟨hp.push (Av b1 l1),g,d,tk,os⟩→wpAny (model prog w) A (pyIter (.ref l1)) Q E ⟨hp,g,d,tk,os⟩:=fun A E Q q=>IX (s:=⟨hp,g,d,tk,os⟩) h1 q;have i2:∀(A:Around) (E:VL→SD→Prop) (Q:VL→SD→Prop),Q (.ref (hp.push (Av b1 l1)).objs.size) ⟨(hp.push (Av b1 l1)).push (Av b2 l2),g,d,tk,os⟩→wpAny (model prog w) A (pyIter (.ref l2)) Q E ⟨hp.push (Av b1 l1),g,d,tk,os⟩:=fun A E Q q=>IX (s:=⟨hp.push (Av b1 l1),g,d,tk,os⟩) (h2.push _) q;have i3:∀(A:Around) (E:VL→SD→Prop) (Q:VL→SD→Prop),Q (.ref ((hp.push (Av b1 l1)).push (Av b2 l2)).objs.size) ⟨((hp.push (Av b1 l1)).push (Av b2 l2)).push (Av b3 l3),g,d,tk,os⟩→wpAny (model prog w) A (pyIter (.ref l3)) Q E ⟨(hp.push (Av b1 l1)).push (Av b2 l2),g,d,tk,os⟩:=fun A E Q q=>IX (s:=⟨(hp.push (Av b1 l1)).push (Av b2 l2),g,d,tk,os⟩) ((h3.push _).push _) q
  wp_walk using i1,i2,i3
  exact⟨_,rfl,h⟩
def W6(a b c:VL):checkTypeCall "zip" ⟨[a,b,c],[]⟩=pure ():=by kernel_rfl
def W3(a b c:VL):checkBuiltinCall "zip.__new__" ⟨[.type "zip",a,b,c],[]⟩=pure ():=by kernel_rfl
def W5(a b c d:VL):argsOk "object.__init__" ⟨[a,b,c,d],[]⟩:=by
 unfold argsOk;rw[signature?_of (n:=['_','_','t','i','n','i','_','_']) (o:=['t','c','e','j','b','o']) (by kernel_rfl) F.owner_object]
 kernel_rfl
def UT{b1 b2 b3:Bool}{l1 l2 l3:AD}{xs ys zs:List VL}{Q:VL→SD→Prop}(h1:Sq b1 s.heap l1 xs)(h2:Sq b2 s.heap l2 ys)(h3:Sq b3 s.heap l3 zs)
 (h:∀h',IsZip h' (s.heap.objs.size+5) (s.heap.objs.size+3) (s.heap.objs.size+4) .none→Cd h' (s.heap.objs.size+3) (.ref s.heap.objs.size) (.ref (s.heap.objs.size+1)) (.ref (s.heap.objs.size+2))→Cd h' (s.heap.objs.size+4) .none .none .none →
   Gv b1 h' s.heap.objs.size l1 0→Gv b2 h' (s.heap.objs.size+1) l2 0→Gv b3 h' (s.heap.objs.size+2) l3 0→(∀c o,s.heap.get? c=some o→h'.get? c=some o)→Q (.ref (s.heap.objs.size+5)) {s with heap:=h'}) :
  wpAny (model prog w) A (call (.type "zip") [.ref l1,.ref l2,.ref l3]) Q E s:=by
 refine callType_new F.called_zip (by decide) (W6 _ _ _) (W3 _ _ _) (fun obj=>W5 obj _ _ _) F.entry_zip_new (VD b1 b2 b3 l1 l2 l3 xs ys zs) ⟨h1,h2,h3,?_⟩;have up:∀(g:Heap) (o:Obj) (c:AD) (u:Obj),g.get? c=some u→(g.push o).get? c=some u:=fun g o c u e=>aC _ e;have n1:(s.heap.push (Av b1 l1)).objs.size=s.heap.objs.size+1:=Heap.size_push ..;have a0:(s.heap.push (Av b1 l1)).get? s.heap.objs.size=some (Av b1 l1):=aH _ (by cases b1<;>rfl);generalize hg1:s.heap.push (Av b1 l1)=g1 at n1 a0;have k1:∀c o,s.heap.get? c=some o→g1.get? c=some o:=fun c o e=>by rw[←hg1];exact up _ _ _ _ e
 have n2:(g1.push (Av b2 l2)).objs.size=s.heap.objs.size+2:=by rw[Heap.size_push,n1]
 have a1:(g1.push (Av b2 l2)).get? (s.heap.objs.size+1)=some (Av b2 l2):=by rw[←n1];exact aH _ (by cases b2<;>rfl)
 generalize hg2:g1.push (Av b2 l2)=g2 at n2 a1;have k2:∀c o,g1.get? c=some o→g2.get? c=some o:=fun c o e=>by rw[←hg2];exact up _ _ _ _ e
 have n3:(g2.push (Av b3 l3)).objs.size=s.heap.objs.size+3:=by rw[Heap.size_push,n2]
 have a2:(g2.push (Av b3 l3)).get? (s.heap.objs.size+2)=some (Av b3 l3):=by rw[←n2];exact aH _ (by cases b3<;>rfl)
 generalize hg3:g2.push (Av b3 l3)=g3 at n3 a2;have k3:∀c o,g2.get? c=some o→g3.get? c=some o:=fun c o e=>by rw[←hg3];exact up _ _ _ _ e
 have n4:(g3.push (KO (.ref s.heap.objs.size) (.ref (s.heap.objs.size+1)) (.ref (s.heap.objs.size+2)))).objs.size=s.heap.objs.size+4:=by rw[Heap.size_push,n3]
 have a3:Cd (g3.push (KO (.ref s.heap.objs.size) (.ref (s.heap.objs.size+1)) (.ref (s.heap.objs.size+2)))) (s.heap.objs.size+3) (.ref s.heap.objs.size) (.ref (s.heap.objs.size+1)) (.ref (s.heap.objs.size+2)):=by rw[←n3];exact aH _ rfl
 generalize hg4:g3.push (KO (.ref s.heap.objs.size) (.ref (s.heap.objs.size+1)) (.ref (s.heap.objs.size+2)))=g4 at n4 a3;have k4:∀c o,g3.get? c=some o→g4.get? c=some o:=fun c o e=>by rw[←hg4];exact up _ _ _ _ e
 have n5:(g4.push (KO .none .none .none)).objs.size=s.heap.objs.size+5:=by rw[Heap.size_push,n4]
 have a4:Cd (g4.push (KO .none .none .none)) (s.heap.objs.size+4) .none .none .none:=by rw[←n4];exact aH _ rfl
 generalize hg5:g4.push (KO .none .none .none)=g5 at n5 a4;have k5:∀c o,g4.get? c=some o→g5.get? c=some o:=fun c o e=>by rw[←hg5];exact up _ _ _ _ e
 have ez:bZ b1 b2 b3 s.heap l1 l2 l3=g5.push { cls:=.type "zip",data:=.fields #[.none,.bool false,.bool false,.ref (s.heap.objs.size+3),.ref (s.heap.objs.size+4)]}:=by
  unfold bZ;rw[hg1,hg2,hg3,n1,n2,hg4,hg5,n3,n4]
 have a5:IsZip (g5.push { cls:=.type "zip",data:=.fields #[.none,.bool false,.bool false,.ref (s.heap.objs.size+3),.ref (s.heap.objs.size+4)]}) (s.heap.objs.size+5) (s.heap.objs.size+3) (s.heap.objs.size+4) .none:=by rw[←n5];exact aH _ rfl
 rw[n1,n2,hg4,hg5,n5,ez];show _∧_;have k6:∀c o,g5.get? c=some o→(g5.push { cls:=.type "zip",data:=.fields #[.none,.bool false,.bool false,.ref (s.heap.objs.size+3),.ref (s.heap.objs.size+4)]}).get? c=some o:=fun c o e=>up _ _ _ _ e;refine⟨⟨_,a5,rfl⟩,h _ a5 (k6 _ _ (k5 _ _ a3)) (k6 _ _ a4) ?_ ?_ ?_ fun c o e=>k6 _ _ (k5 _ _ (k4 _ _ (k3 _ _ (k2 _ _ (k1 _ _ e)))))⟩
 ·have:=k6 _ _ (k5 _ _ (k4 _ _ (k3 _ _ (k2 _ _ a0))));cases b1 with
  |true=>exact⟨_,this,rfl,rfl⟩
  |false=>exact⟨_,this,rfl,rfl⟩
 ·have:=k6 _ _ (k5 _ _ (k4 _ _ (k3 _ _ a1)));cases b2 with
  |true=>exact⟨_,this,rfl,rfl⟩
  |false=>exact⟨_,this,rfl,rfl⟩
 ·have:=k6 _ _ (k5 _ _ (k4 _ _ a2));cases b3 with
  |true=>exact⟨_,this,rfl,rfl⟩
  |false=>exact⟨_,this,rfl,rfl⟩
end
end ZT
namespace L2
open PySem PySem.Spec PyProof.Rows
def U3(b1 b2 b3:Bool)(a1 a2 a3:AD):It :=
 ⟨fun i H=>∃xs x ys y zs u,Bq b1 H a1 xs∧Bq b2 H a2 ys∧Bq b3 H a3 zs∧xs[i]? = some x∧ys[i]? = some y∧zs[i]? = some u,
  fun i H v H'=>∃p x y u,v=.ref p∧H p=none∧H'=upd H p (.tup [x,y,u])∧(∀xs,Bq b1 H a1 xs→xs[i]? = some x)∧(∀ys,Bq b2 H a2 ys→ys[i]? = some y)∧∀zs,Bq b3 H a3 zs→zs[i]? = some u,
  fun i H=>∃xs ys zs,Bq b1 H a1 xs∧Bq b2 H a2 ys∧Bq b3 H a3 zs∧(i=xs.length∨(i<xs.length∧i=ys.length)∨(i<xs.length∧i<ys.length∧i=zs.length))⟩
def dg(b1 b2 b3:Bool)(a1 a2 a3 z TI TO i1 i2 i3:AD):Nat→Heap→Prop:=fun i h=>IsZip h z TI TO .none∧ZT.Cd h TI (.ref i1) (.ref i2) (.ref i3)∧(∃a b c,ZT.Cd h TO a b c)∧ZT.Gv b1 h i1 a1 i∧ZT.Gv b2 h i2 a2 i∧ZT.Gv b3 h i3 a3 i
def Tc{z TI TO i1 i2 i3 a1 a2 a3:AD}(ne:[z,TI,TO,i1,i2,i3].Nodup)(e1:∀b∈[z,TI,TO,i1,i2,i3],a1≠b)(e2:∀b∈[z,TI,TO,i1,i2,i3],a2≠b)(e3:∀b∈[z,TI,TO,i1,i2,i3],a3≠b):ZT.KG z TI TO i1 i2 i3 [i1,a1] [i2,a2] [i3,a3]:=by
 simp only[List.nodup_cons,List.mem_cons,List.not_mem_nil,or_false,not_or]at ne;obtain⟨⟨n1,n2,n3,n4,n4'⟩,⟨n5,n6,n7,n7'⟩,⟨n8,n9,n9'⟩,⟨n10,n11⟩,n12,_⟩:=ne;have x:∀ {a:AD},(∀b∈[z,TI,TO,i1,i2,i3],a≠b)→z≠a∧TO≠a∧i1≠a∧i2≠a∧i3≠a:=fun h=>⟨Ne.symm (h z (by simp)),Ne.symm (h TO (by simp)),Ne.symm (h i1 (by simp)),Ne.symm (h i2 (by simp)),Ne.symm (h i3 (by simp))⟩;have m:∀ {b i a:AD},b≠i→b≠a→b ∉ [i,a]:=fun h1 h2=>by simp[h1,h2]
 obtain⟨x1,x2,x3,x4,x5⟩:=x e1;obtain⟨y1,y2,y3,y4,y5⟩:=x e2;obtain⟨w1,w2,w3,w4,w5⟩:=x e3;exact⟨⟨Ne.symm n2,n8,n9,n9'⟩,⟨Ne.symm n3,Ne.symm n4,Ne.symm n4'⟩,⟨m n3 x1,m n8 x2,m (Ne.symm n10) x4,m (Ne.symm n11) x5⟩,⟨m n4 y1,m n9 y2,m n10 y3,m (Ne.symm n12) y5⟩,⟨m n4' w1,m n9' w2,m n11 w3,m n12 w4⟩⟩
def Th{P:Program}{w:World}{K:Fg}{elts:List Expr}{x1}{pos:Pos}{b1 b2 b3:Bool}{a1 a2 a3 z TI TO i1 i2 i3:AD}(ne:[z,TI,TO,i1,i2,i3].Nodup) :
  Turn P w K (.Tuple elts x1 pos) (U3 b1 b2 b3 a1 a2 a3) [z,TI,TO,i1,i2,i3] z (dg b1 b2 b3 a1 a2 a3 z TI TO i1 i2 i3) where
 mem:=by simp
 obj:=fun i h st b hb=>by
  obtain⟨h1,h2,⟨u,v,w,h3⟩,h4,h5,h6⟩:=st;have hb:b=z∨b=TI∨b=TO∨b=i1∨b=i2∨b=i3:=by simpa using hb
  rcases hb with rfl|rfl|rfl|rfl|rfl|rfl
  ·exact⟨_,h1,fun v y=>by cases y⟩
  ·exact⟨_,h2,fun v y=>by cases y⟩
  ·exact⟨_,h3,fun v y=>by cases y⟩
  ·exact DX h4
  ·exact DX h5
  ·exact DX h6
 keep:=fun i h h' st k=>by
  obtain⟨h1,h2,⟨u,v,w,h3⟩,h4,h5,h6⟩:=st;exact⟨k z (by simp) _ h1,k TI (by simp) _ h2,⟨u,v,w,k TO (by simp) _ h3⟩,Cq h4 fun o e=>k i1 (by simp) o e,Cq h5 fun o e=>k i2 (by simp) o e,Cq h6 fun o e=>k i3 (by simp) o e⟩
 item:=by
  intro X hP hw hK hc i pins s σ H E I hf st hg;subst hP hw hK;obtain⟨xs,x,ys,y,zs,t,q1,q2,q3,hx,hy,ht⟩:=hg;obtain⟨us,rv1,p1⟩:=q1.raw I;obtain⟨vs,rv2,p2⟩:=q2.raw I;obtain⟨ws,rv3,p3⟩:=q3.raw I;obtain⟨u,hu,ru⟩:=rv1.get hx;obtain⟨v,hv,rv⟩:=rv2.get hy;obtain⟨o3,hw,rw'⟩:=rv3.get ht;obtain⟨t1,t2,⟨ta,tb,tc,t3⟩,t4,t5,t6⟩:=st;have e1:∀b∈[z,TI,TO,i1,i2,i3],a1≠b:=fun b hb=>q1.none (hf b hb).1;have e2:∀b∈[z,TI,TO,i1,i2,i3],a2≠b:=fun b hb=>q2.none (hf b hb).1;have e3:∀b∈[z,TI,TO,i1,i2,i3],a3≠b:=fun b hb=>q3.none (hf b hb).1;refine ZT.SA (ZT.Ck (prog:=X.prog) (w:=X.w) (A:=X.A.in1) (I.ok.hd hc) b1 i1 a1 us (e1 i1 (by simp))) (ZT.Ck (prog:=X.prog) (w:=X.w) (A:=X.A.in1) (I.ok.hd hc) b2 i2 a2 vs (e2 i2 (by simp))) (ZT.Ck (prog:=X.prog) (w:=X.w) (A:=X.A.in1) (I.ok.hd hc) b3 i3 a3 ws (e3 i3 (by simp))) (Tc ne e1 e2 e3) t1 t2 t3 ⟨t4,p1⟩ ⟨t5,p2⟩ ⟨t6,p3⟩ (aE.mp hu).1 (aE.mp hv).1 (aE.mp hw).1
   fun u' v' w' h' tk r1 r2 r2' r3 r4 r5 r6 r6' r7 r8 r9=>⟨_,rfl,wpAny_letOwnedTupleGo_zip (s:={s with heap:=h',toks:=tk}) r3 fun h'' z'' sb=>?_⟩
  rw[hu]at r1;rw[hv]at r2;rw[hw]at r2';cases r1;cases r2;cases r2';have ne':=ne;simp only[List.nodup_cons,List.mem_cons,List.not_mem_nil,or_false,not_or]at ne';obtain⟨⟨n1,n2,n3,n4,n4'⟩,⟨n5,n6,n7,n7'⟩,⟨n8,n9,n9'⟩,⟨n10,n11⟩,n12,_⟩:=ne';have keep:∀b o,b ∉ [z,TI,TO,i1,i2,i3]→s.heap.get? b=some o→h''.get? b=some o:=fun b o hb q=>by
   simp only[List.mem_cons,List.not_mem_nil,or_false,not_or]at hb;exact(sb.2 b hb.1).trans (r9 b o hb.1 hb.2.2.1 hb.2.2.2.1 hb.2.2.2.2.1 hb.2.2.2.2.2 q)
  have lt:∀b∈[z,TI,TO,i1,i2,i3],b<s.heap.objs.size:=fun b hb=>by
   have hb:b=z∨b=TI∨b=TO∨b=i1∨b=i2∨b=i3:=by simpa using hb
   rcases hb with rfl|rfl|rfl|rfl|rfl|rfl
   ·exact aD t1
   ·exact aD t2
   ·exact aD t3
   ·obtain⟨o,e,_⟩:=DX t4;exact aD e
   ·obtain⟨o,e,_⟩:=DX t5;exact aD e
   ·obtain⟨o,e,_⟩:=DX t6;exact aD e
  have hTn:H s.heap.objs.size=none:=I.Af.fresh (aG _);have hT'':h''.get? s.heap.objs.size=some { cls:=.type "tuple",data:=.seq #[u,v,o3]}:=(sb.2 _ (bK (lt z (by simp)))).trans r7;have neT:∀b o,s.heap.get? b=some o→b≠s.heap.objs.size:=fun b o q=>aK (aD q);have C7:∀b o,H b=some o→b ∉ [z,TI,TO,i1,i2,i3]:=fun b o q hb=>by rw[(hf b hb).1]at q;cases q
  refine⟨.ref s.heap.objs.size,upd H s.heap.objs.size (.tup [x,y,t]),?_,rfl,⟨_,x,y,t,rfl,hTn,rfl,fun zs hz=>by rw[hz.inj q1];exact hx,fun zs hz=>by rw[hz.inj q2];exact hy,fun zs hz=>by rw[hz.inj q3];exact ht⟩,⟨z'',?_,⟨u,v,o3,?_⟩,?_,?_,?_⟩,fun b hb=>?_⟩
  ·show Inv X pins σ _ {s with heap:=h'',gens:=s.gens,drawn:=s.drawn,toks:=tk};refine I.step (h':=h'') (g':=s.gens) (d':=s.drawn) (t':=tk) (ch:=[z,TI,TO,i1,i2,i3]) (fun b hb=>?_) (fun b o _ _ hc q _=>keep b o hc q) (fun b o _ _ hc q _=>⟨o.slots,keep b o hc q⟩)
    (fun b o _ q n=>by rw[AF (neT b o q)];exact n) (fun b o hc q=>⟨o,keep b o hc q⟩) (fun b ys q=>by rw[AF (AJ q hTn)];exact q) (fun b o u q=>by rw[AF (AJ q hTn)];exact q)
    (fun b ps q=>⟨#[],by rw[AF (AJ q hTn),q];simp⟩) (fun b _ o hc _ q=>keep b o hc q) (fun m hm=>?_) (fun b o q=>?_) I.bare
   ·obtain⟨_,f1,_,f3,f4,f5⟩:=hf b hb;exact⟨f3,f1,f4,f5⟩
   ·obtain⟨o,es,ep,ho,r⟩:=hm;exact⟨o,es,ep,keep _ o (fun hb=>(hf _ hb).2.1 rfl) ho,r⟩
   ·by_cases hb:b=s.heap.objs.size
    ·subst hb;rw[AI]at q;cases q;exact⟨show 3≤sizeLine by decide,[u,v,o3],.cons ru (.cons rv (.cons rw' .nil)),_,hT'',rfl,_,rfl⟩
    ·rw[AF hb]at q;refine(I.Af b o q).Fd (fun c w hc r=>keep c w ?_ r) (fun c r=>by rw[AF (AJ r hTn)];exact r) fun c ys r=>by rw[AF (AJ r hTn)];exact r
     rcases hc with rfl|hc
     ·exact C7 _ _ q
     ·exact C7 _ _ hc
  ·exact(sb.2 _ (Ne.symm n1)).trans (r9 _ _ (Ne.symm n1) n5 n6 n7 n7' t2)
  ·exact(sb.2 _ (Ne.symm n2)).trans r4
  ·exact Cq r5.1 fun o e=>(sb.2 _ (Ne.symm n3)).trans e
  ·exact Cq r6.1 fun o e=>(sb.2 _ (Ne.symm n4)).trans e
  ·exact Cq r6'.1 fun o e=>(sb.2 _ (Ne.symm n4')).trans e
  ·rw[AF (aK (lt b hb))];exact(hf b hb).1
 done:=by
  intro X hP hw hK hc i pins s σ H E I hf st hg;subst hP hw hK;obtain⟨xs,ys,zs,q1,q2,q3,he⟩:=hg;obtain⟨us,rv1,p1⟩:=q1.raw I;obtain⟨vs,rv2,p2⟩:=q2.raw I;obtain⟨ws,rv3,p3⟩:=q3.raw I;obtain⟨t1,t2,⟨ta,tb,tc,t3⟩,t4,t5,t6⟩:=st;have e1:∀b∈[z,TI,TO,i1,i2,i3],a1≠b:=fun b hb=>q1.none (hf b hb).1;have e2:∀b∈[z,TI,TO,i1,i2,i3],a2≠b:=fun b hb=>q2.none (hf b hb).1;have e3:∀b∈[z,TI,TO,i1,i2,i3],a3≠b:=fun b hb=>q3.none (hf b hb).1;have he':i=us.length∨(i<us.length∧i=vs.length)∨(i<us.length∧i<vs.length∧i=ws.length):=by rw[←rv1.length,←rv2.length,←rv3.length];exact he
  refine ZT.Ue (ZT.Ck (prog:=X.prog) (w:=X.w) (A:=X.A.in1) (I.ok.hd hc) b1 i1 a1 us (e1 i1 (by simp))) (ZT.Ck (prog:=X.prog) (w:=X.w) (A:=X.A.in1) (I.ok.hd hc) b2 i2 a2 vs (e2 i2 (by simp))) (ZT.Ck (prog:=X.prog) (w:=X.w) (A:=X.A.in1) (I.ok.hd hc) b3 i3 a3 ws (e3 i3 (by simp))) (Tc ne e1 e2 e3) t1 t2 t3 ⟨t4,p1⟩ ⟨t5,p2⟩ ⟨t6,p3⟩ he' fun h' tk kp=>⟨rfl,?_⟩;have keep:∀b o,b ∉ [z,TI,TO,i1,i2,i3]→s.heap.get? b=some o→h'.get? b=some o:=fun b o hb q=>by
   simp only[List.mem_cons,List.not_mem_nil,or_false,not_or]at hb;exact kp b o hb.1 hb.2.2.1 hb.2.2.2.1 hb.2.2.2.2.1 hb.2.2.2.2.2 q
  have C7:∀b o,H b=some o→b ∉ [z,TI,TO,i1,i2,i3]:=fun b o q hb=>by rw[(hf b hb).1]at q;cases q
  show Inv X pins σ _ {s with heap:=h',gens:=s.gens,drawn:=s.drawn,toks:=tk};refine I.step (h':=h') (g':=s.gens) (d':=s.drawn) (t':=tk) (ch:=[z,TI,TO,i1,i2,i3]) (fun b hb=>?_) (fun b o _ _ hc q _=>keep b o hc q) (fun b o _ _ hc q _=>⟨o.slots,keep b o hc q⟩)
    (fun b o _ q n=>n) (fun b o hc q=>⟨o,keep b o hc q⟩) (fun b ys q=>q) (fun b o u q=>q)
    (fun b ps q=>⟨#[],by rw[q];simp⟩) (fun b _ o hc _ q=>keep b o hc q) (fun m hm=>?_) (fun b o q=>?_) I.bare
  ·obtain⟨_,f1,_,f3,f4,f5⟩:=hf b hb;exact⟨f3,f1,f4,f5⟩
  ·obtain⟨o,es,ep,ho,r⟩:=hm;exact⟨o,es,ep,keep _ o (fun hb=>(hf _ hb).2.1 rfl) ho,r⟩
  ·refine(I.Af b o q).Fd (fun c w hc r=>keep c w ?_ r) (fun c r=>r) fun c ys r=>r;rcases hc with rfl|hc
   ·exact C7 _ _ q
   ·exact C7 _ _ hc
 self:=fun _ _ _ _ _ st h=>wpAny_pyIter_zip st.1 h
def b9(ta:TA):TI:=fun σ H R=>ta σ H fun vs H1=>∃(b1 b2 b3:Bool) (a1 a2 a3:AD),vs=[.ref a1,.ref a2,.ref a3]∧(∃xs,Bq b1 H1 a1 xs)∧(∃ys,Bq b2 H1 a2 ys)∧(∃zs,Bq b3 H1 a3 zs)∧R (U3 b1 b2 b3 a1 a2 a3) H1
def W8{X:Cx}{elts:List Expr}{x1}{tpos:Pos}{a b c:Expr}{ta:TA}{p pos:Pos}(hg:Gl X "zip")(hm:X.mg "zip" = none)(ha:PA X [a,b,c] ta)(hs:starEach [a,b,c] X.env=[(false,eval a X.env),(false,eval b X.env),(false,eval c X.env)]:=by rfl)(hs2:starEach [b,c] X.env=[(false,eval b X.env),(false,eval c X.env)]:=by rfl) :
  PI X (.Tuple elts x1 tpos) (.Call (.Name "zip" p) [a,b,c] [] pos) (b9 ta):=by
 intro pins s σ H R I h;refine Call_ (Ec I hg hm boot_zip (aq (Az (ha pos pins s σ H _ I h) fun us s1 ⟨vs,H1,I1,r1,q1⟩=>?_) (by rw[hs,hs2]) (by rw[hs2];rfl)));obtain⟨b1,b2,b3,l1,l2,l3,e,⟨xs,h1⟩,⟨ys,h2⟩,⟨zs,h3⟩,q⟩:=q1;subst e;cases r1 with
 |cons r rr =>
  cases rr with
  |cons r' rr =>
   cases rr with
   |cons r'' rr =>
    cases rr;cases r;cases r';cases r'';obtain⟨us,_,p1⟩:=h1.raw I1;obtain⟨vs,_,p2⟩:=h2.raw I1;obtain⟨ws,_,p3⟩:=h3.raw I1;refine ZT.UT p1 p2 p3 fun h' z1 z2 z3 z4 z5 z6 hk=>wpAny_pyIter_zip z1 ?_;have I2:Inv X pins σ H1 {s1 with heap:=h'}:=I1.kept (t':=s1.toks) hk;refine⟨_,[s1.heap.objs.size+5,s1.heap.objs.size+3,s1.heap.objs.size+4,s1.heap.objs.size,s1.heap.objs.size+1,s1.heap.objs.size+2],_,_,H1,rfl,I2,Th ?_,⟨z1,z2,⟨_,_,_,z3⟩,z4,z5,z6⟩,fun b hb=>?_,q⟩
    ·simp
    have hb':s1.heap.objs.size≤b:=by
     have hb2:b=s1.heap.objs.size+5∨b=s1.heap.objs.size+3∨b=s1.heap.objs.size+4∨b=s1.heap.objs.size∨b=s1.heap.objs.size+1∨b=s1.heap.objs.size+2:=by simpa using hb
     rcases hb2 with h|h|h|h|h|h<;>rw[h]<;>first|exact aG _|exact Nat.le_add_right _ _
    exact I1.La hb' (I1.Af.fresh hb')
def Hi(xs ys zs:List PD):List PD:=(xs.zip (ys.zip zs)).map fun q=>.tuple [q.1,q.2.1,q.2.2]
def Nm{xs ys zs:List PD}{i:Nat}{d:PD}(h:(Hi xs ys zs)[i]? = some d):∃x y z,xs[i]? = some x∧ys[i]? = some y∧zs[i]? = some z∧d=.tuple [x,y,z]:=by
 unfold Hi at h;rw[List.getElem?_map]at h;obtain⟨q,h1,rfl⟩:=aF.mp h;obtain⟨k1,k2⟩:=List.getElem?_zip_eq_some.mp h1;obtain⟨k3,k4⟩:=List.getElem?_zip_eq_some.mp k2;exact⟨q.1,q.2.1,q.2.2,k1,k3,k4,rfl⟩
def Xr{Gc H:Hp}{p:AD}{x y z:PD}{u v w:V}(e2:AG Gc H)(hp:H p=none)(d1:Du Gc x u)(d2:Du Gc y v)(d3:Du Gc z w):∃Gc',AG Gc Gc'∧Nw Gc H Gc'∧AG Gc' (upd H p (.tup [u,v,w]))∧AG H (upd H p (.tup [u,v,w]))∧Du Gc' (.tuple [x,y,z]) (.ref p):=by
 have hG:Gc p=none:=by
  cases q:Gc p with
  |none=>rfl
  |some o=>rw[e2 _ _ q]at hp;cases hp
 have e:AG Gc (upd Gc p (.tup [u,v,w])):=Aa hG _;refine⟨upd Gc p (.tup [u,v,w]),e,fun b o h=>?_,fun b o h=>?_,Aa hp _,?_⟩
 ·by_cases hb:b=p
  ·subst hb;exact .inr (.inl hp)
  ·rw[AF hb]at h;exact .inl h
 ·by_cases hb:b=p
  ·subst hb;rw[AI]at h ⊢;exact h
  ·rw[AF hb]at h ⊢;exact e2 _ _ h
 ·rw[Du];exact⟨p,_,rfl,AI,.cons (d1.same e) (.cons (d2.same e) (.cons (d3.same e) .nil))⟩
def Wm{G:Hp}{b1 b2 b3:Bool}{a1 a2 a3:AD}{us vs ws:List V}{xs ys zs:List PD}(h1:G a1=some (if b1 then .tup us else .lst us))(h2:G a2=some (if b2 then .tup vs else .lst vs))(h3:G a3=some (if b3 then .tup ws else .lst ws))(d1:Ag G xs us)(d2:Ag G ys vs)(d3:Ag G zs ws):JP (U3 b1 b2 b3 a1 a2 a3) (Hi xs ys zs) G where
 stop:=fun H e=>by
  have k1:=e _ _ h1;have k2:=e _ _ h2;have k3:=e _ _ h3;refine⟨us,vs,ws,?_,?_,?_,?_⟩
  ·cases b1<;>simpa[Bq]using k1
  ·cases b2<;>simpa[Bq]using k2
  ·cases b3<;>simpa[Bq]using k3
  ·rw[d1.len,d2.len,d3.len];simp[Hi];lia
 go:=fun i x H hx e=>by
  obtain⟨x1,x2,x3,k1,k2,k3,rfl⟩:=Nm hx;obtain⟨v1,j1,_⟩:=d1.get k1;obtain⟨v2,j2,_⟩:=d2.get k2;obtain⟨v3,j3,_⟩:=d3.get k3;have m1:=e _ _ h1;have m2:=e _ _ h2;have m3:=e _ _ h3;refine⟨us,v1,vs,v2,ws,v3,?_,?_,?_,j1,j2,j3⟩
  ·cases b1<;>simpa[Bq]using m1
  ·cases b2<;>simpa[Bq]using m2
  ·cases b3<;>simpa[Bq]using m3
 Dl:=fun i x H v H' hx e y Gc e1 e2=>by
  obtain⟨x1,x2,x3,k1,k2,k3,rfl⟩:=Nm hx;obtain⟨p,v1,v2,v3,rfl,hp,rfl,y1,y2,y3⟩:=y;have m1:=e _ _ h1;have m2:=e _ _ h2;have m3:=e _ _ h3;have z1:=y1 us (by cases b1<;>simpa[Bq]using m1);have z2:=y2 vs (by cases b2<;>simpa[Bq]using m2);have z3:=y3 ws (by cases b3<;>simpa[Bq]using m3);obtain⟨w1,n1,n2⟩:=d1.back z1;obtain⟨w2,n3,n4⟩:=d2.back z2;obtain⟨w3,n5,n6⟩:=d3.back z3;rw[k1]at n1;cases n1;rw[k2]at n3;cases n3;rw[k3]at n5;cases n5;exact Xr e2 hp (n2.same e1) (n4.same e1) (n6.same e1)
def M6:List PD→Option (List PD)
 |[x,y,z]=>(Fv x).bind fun xs=>(Fv y).bind fun ys=>(Fv z).map fun zs=>Hi xs ys zs
 |_=>none
section
variable{X:Cx}{a b c:Expr}{fs:Dv→Option (List PD)}{pos p:Pos}
def XM{elts:List Expr}{x1}{tpos:Pos}(hg:Gl X "zip")(hm:X.mg "zip" = none)(ha:DA X [a,b,c] fs)(hs:starEach [a,b,c] X.env=[(false,eval a X.env),(false,eval b X.env),(false,eval c X.env)]:=by rfl)(hs2:starEach [b,c] X.env=[(false,eval b X.env),(false,eval c X.env)]:=by rfl) :
  DI X (.Tuple elts x1 tpos) (.Call (.Name "zip" p) [a,b,c] [] pos) (fun δ=>(fs δ).bind M6):=by
 obtain⟨t,p,k⟩:=ha;refine⟨_,W8 hg hm p hs hs2,fun δ xs h G0 H0 G H σ ts R R0 q=>?_⟩;obtain⟨x,h1,h2⟩:=aB.mp h;refine k δ _ h1 G0 H0 G H σ ts _ R0 fun vs G' H' R' hv=>?_;obtain⟨d,R2⟩:=R'.args hv;unfold M6 at h2;split at h2
 ·obtain⟨xs1,h3,h4⟩:=aB.mp h2;obtain⟨ys1,h5,h6⟩:=aB.mp h4;obtain⟨zs1,h7,rfl⟩:=aF.mp h6;obtain⟨v1,r1,rfl,du,d⟩:=d.un;obtain⟨v2,r2,rfl,dv,d⟩:=d.un;obtain⟨w,rfl,dw⟩:=d.F6;obtain⟨b1,a1,us,rfl,n1,n2⟩:=J9 du h3;obtain⟨b2,a2,vs,rfl,m1,m2⟩:=J9 dv h5;obtain⟨b3,a3,ws,rfl,o1,o2⟩:=J9 dw h7;have s1:=R2.ins _ _ n1;have s2:=R2.ins _ _ m1;have s3:=R2.ins _ _ o1;exact⟨b1,b2,b3,a1,a2,a3,rfl,⟨us,by cases b1<;>simpa[Bq]using s1⟩,⟨vs,by cases b2<;>simpa[Bq]using s2⟩,⟨ws,by cases b3<;>simpa[Bq]using s3⟩,q _ _ _ R2 (Wm n1 m1 o1 n2 m2 o2)⟩
 ·cases h2
def Pp(i j l:Nat)(y:PD)(δ:Dv):Option Dv:=match y with
 |.tuple [u,v,w]=>some (((δ.set i (.d u)).set j (.d v)).set l (.d w))
 |_=>none
def Vn{x y z:Str}{i j l:Nat}{px py pz:Pos}{k1}(h:PG X (.Tuple [.Name x px,.Name y py,.Name z pz] k1 pos) (RZ X.K 3 (Hk (Cw i) (Hk (Cw j) (Hk (Cw l) SH))))):DG X (.Tuple [.Name x px,.Name y py,.Name z pz] k1 pos) (Pp i j l):=by
 refine⟨_,h,fun δ z δ' e G0 H0 G H σ v Q R k=>?_⟩;unfold Pp at e;split at e
 ·cases e;have du:=R.Bd _ (.head _);rw[Du]at du;obtain⟨a,ys,rfl,n1,n2⟩:=du;obtain⟨w1,r1,rfl,m1,n2⟩:=n2.un;obtain⟨w2,r2,rfl,m2,n2⟩:=n2.un;obtain⟨w3,rfl,m3⟩:=n2.F6;refine⟨a,[w1,w2,w3],rfl,Au.of (R.ins _ _ n1),rfl,w1,[w2,w3],rfl,w2,[w3],rfl,w3,[],rfl,rfl,?_⟩;exact k _ _ _ ((((R.drop.put m3).put m2).put m1).HA.HA.HA)
 ·cases e
end
end L2
set_option maxHeartbeats 1000000
set_option maxHeartbeats 4000000
set_option maxHeartbeats 1000000
set_option maxHeartbeats 4000000
set_option maxHeartbeats 1000000
set_option maxHeartbeats 4000000
set_option maxHeartbeats 1000000
set_option maxHeartbeats 2000000
set_option maxHeartbeats 4000000
set_option maxHeartbeats 1000000
set_option maxHeartbeats 4000000
set_option maxHeartbeats 1000000
set_option maxHeartbeats 4000000
set_option maxHeartbeats 1000000
set_option maxHeartbeats 4000000
namespace L2
open PySem PySem.Spec PyProof.Rows
def R5:∀ {u:VL} {x:V},Rx u=some x→RelV x u
 |.none,_,e=>by cases e;exact rfl
 |.bool _,_,e=>by cases e;exact rfl
 |.int _ _,_,e=>by cases e;exact⟨_,rfl⟩
 |.str _ _,_,e=>by cases e;exact⟨_,rfl⟩
 |.bytes _ _,_,e=>by cases e;exact⟨_,rfl⟩
 |.float _ _,_,e=>by cases e;exact⟨_,rfl⟩
 |.ref _,_,e=>by cases e;exact rfl
 |.type _,_,e=>by cases e;exact rfl
def LG:∀ {us:List VL} {xs:List V},us.map Rx=xs.map some→Vals xs us
 |[],[],_=>.nil
 |[],_::_,e=>by simp at e
 |_::_,[],e=>by simp at e
 |_::_,_::_,e=>by
  simp only[List.map_cons,List.cons.injEq]at e;exact .cons (R5 e.1) (LG e.2)
abbrev eD(P:Params)(x:Str)(t a:Nat):DictEntry:=⟨PyData.keyHash P x,.str x t,.ref a⟩
abbrev ZH(P:Params)(d t1 t2 t3 t4 t5:Nat):Obj:=⟨.type "dict",none,.dict #[eD P "plain" t1 (d+5),eD P "middle" t2 (d+13),eD P "heel" t3 (d+21),eD P "third" t4 (d+33),eD P "fourth" t5 (d+50)] 5,#[]⟩
abbrev Rf(its:List VL):Obj:=⟨.type "tuple",none,.seq its.toArray 0,#[]⟩
def D6(d:Nat)(od:Obj):Hp:=fun(b:Nat)=>if b=d then some (.C8 od (.dK (Jv d))) else if b≤d then none else((Ji d)[b-d-1]?).map .tup
def Z8{d:Nat}{od:Obj}:D6 d od d=some (.C8 od (.dK (Jv d))):=if_pos rfl
def a8{d:Nat}{od:Obj}{j:Nat}{xs:List V}(e:(Ji d)[j]? = some xs):D6 d od (d+1+j)=some (.tup xs):=by
 unfold D6;rw[if_neg (by lia),if_neg (by lia),show d+1+j-d-1=j by lia,e];rfl
def HB{d b:Nat}{od:Obj}{u:HO}(e:D6 d od b=some u):(b=d∧u=.C8 od (.dK (Jv d)))∨∃j xs,b=d+1+j∧(Ji d)[j]? = some xs∧u=.tup xs:=by
 unfold D6 at e;by_cases h1:b=d
 ·rw[if_pos h1]at e;cases e;exact .inl ⟨h1,rfl⟩
 ·rw[if_neg h1]at e;by_cases h2:b≤d
  ·rw[if_pos h2]at e;cases e
  ·rw[if_neg h2]at e;obtain⟨xs,e1,e2⟩:=aF.mp e;exact .inr ⟨b-d-1,xs,by lia,e1,e2.symm⟩
structure L3(P:Params)(d:Nat)(od:Obj)(tv:List (List Value))(Kt:Fg):Prop where
 sys:(d==sysModules)=false
 obj:∃t1 t2 t3 t4 t5,od=ZH P d t1 t2 t3 t4 t5
 OX:Kt.lookup d=some od
 tup:∀j its,tv[j]? = some its→Kt.lookup (d+1+j)=some (Rf its)
 same:tv.map (·.map Rx)=(Ji d).map (·.map some)
 HS:(Ji d).all (fun xs=>decide (xs.length≤4))=true
def L3.Af{P:Program}{w:World}{d:Nat}{od:Obj}{tv:List (List VL)}{Kt:Fg}{h:Heap}(T:L3 w.params d od tv Kt)(K:Kt.In h):CY P w (D6 d od) h:=fun b u e=>by
 rcases HB e with ⟨rfl,rfl⟩|⟨j,xs,rfl,h1,rfl⟩
 ·obtain⟨t1,t2,t3,t4,t5,ho⟩:=T.obj;refine⟨K _ _ T.OX,(by decide:(5:Nat)≤sizeLine),T.sys,?_⟩;refine⟨[(.inr "plain",.ref (b+5)),(.inr "middle",.ref (b+13)),(.inr "heel",.ref (b+21)),(.inr "third",.ref (b+33)),(.inr "fourth",.ref (b+50))],?_,od,#[eD w.params "plain" t1 (b+5),eD w.params "middle" t2 (b+13),eD w.params "heel" t3 (b+21),eD w.params "third" t4 (b+33),eD w.params "fourth" t5 (b+50)],5,K _ _ T.OX,?_,?_,?_,?_,?_⟩
  ·exact .cons ⟨rfl,rfl⟩ (.cons ⟨rfl,rfl⟩ (.cons ⟨rfl,rfl⟩ (.cons ⟨rfl,rfl⟩ (.cons ⟨rfl,rfl⟩ .nil))))
  ·rw[ho];exact⟨rfl,rfl,rfl⟩
  ·rw[ho]
  ·intro e he;simp only[List.mem_toArray,List.mem_cons,List.not_mem_nil,or_false]at he;rcases he with rfl|rfl|rfl|rfl|rfl
   ·exact⟨.inr "plain",B5 _ t1,rfl⟩
   ·exact⟨.inr "middle",B5 _ t2,rfl⟩
   ·exact⟨.inr "heel",B5 _ t3,rfl⟩
   ·exact⟨.inr "third",B5 _ t4,rfl⟩
   ·exact⟨.inr "fourth",B5 _ t5,rfl⟩
  ·exact .cons (B5 _ t1) rfl (.cons (B5 _ t2) rfl (.cons (B5 _ t3) rfl (.cons (B5 _ t4) rfl (.cons (B5 _ t5) rfl .nil))))
  ·show([.inr "plain",.inr "middle",.inr "heel",.inr "third",.inr "fourth"]:List Key).Nodup
   decide
 ·have hs:=bF (fun l=>l[j]?) T.same;simp only[List.getElem?_map,h1,Option.map_some]at hs;obtain⟨its,e1,e2⟩:=aF.mp hs;refine⟨?_,its,LG e2,_,K _ _ (T.tup j its e1),rfl,0,rfl⟩;have:=ao.mp T.HS xs (aP h1);exact aM (aV this) (by decide)
def JR:Nat→List (List VL)→Fg
 |_,[]=>[]
 |n,its::r=>(n,Rf its)::JR (n+1) r
def O5:∀(tv:List (List VL)) (n j:Nat) (its:List VL),tv[j]? = some its→(JR n tv).lookup (n+j)=some (Rf its)
 |[],_,_,_,e=>by simp at e
 |x::r,n,0,its,e=>by simp at e;subst e;simp[JR]
 |x::r,n,j+1,its,e=>by
  have h:=O5 r (n+1) j its (by simpa using e);rw[JR,List.lookup_cons,beq_eq_false_iff_ne.mpr (show n+(j+1)≠n by lia),show n+(j+1)=n+1+j by lia];exact h
def VF{d:Nat}{od:Obj}{tv:List (List VL)}{j:Nat}{its:List VL}(e:tv[j]? = some its):List.lookup (d+1+j) ((d,od)::JR (d+1) tv)=some (Rf its):=by
 show List.lookup (d+1+j) ((d,od)::JR (d+1) tv)=_;rw[List.lookup_cons,beq_eq_false_iff_ne.mpr (show d+1+j≠d by lia)];exact O5 tv (d+1) j its e
def PQ:∀ {l:Fg} {b:Nat} {o:Obj},l.lookup b=some o→((b,o):AD×Obj)∈l
 |[],_,_,e=>by cases e
 |(c,p)::l,b,o,e=>by
  rw[List.lookup_cons]at e;by_cases h:b=c
  ·subst h;simp at e;subst e;exact .head _
  ·rw[beq_eq_false_iff_ne.mpr h]at e;exact .tail _ (PQ e)
def Tx{P:Program}{w:World}{K Kt:Fg}{mg mb:Str→Option VL}{CX:GJ}{k:Nat}{fa a:AD}{fd:FuncData}{x:Str}{sp:Sp}{s₁:SD}{vs:List VL}{ns:List Int}{d:Nat}{od:Obj}{tv:List (List VL)}
 (KX:K.In s₁.heap)(KTX:Kt.In s₁.heap)(T:L3 w.params d od tv Kt)(hTN:cStatics<d∧mainGlobals<d∧builtinsNs<d)(hTK:∀b u,D6 d od b=some u→K.lookup b=none)(hmg:mg "NAMED_TABLES" = some (.ref d))
 (hns:s₁.heap.Ns mainGlobals mg)(hb:s₁.heap.Ns builtinsNs mb)(hbb:∀x:Str,x ≠ "__name__" → mb x=bootBuiltins x)(hlim:s₁.heap.NoLimit)(hg:s₁.gens=#[])
 (ha:s₁.heap.get? a=some { cls:=.type "list",data:=.seq vs.toArray})(hi:IntsAre vs ns)(hl:ns.length≤sizeLine)(hr:Cy k callerA)
 (F:∀base:Heap,K.In base→base.Ns mainGlobals mg→AL P w K mg base CX k fa fd [x] sp)(hbind:∀(s:SD) (u:VL),BindsTo s fd ⟨[u],[]⟩ [(x,u)])
 (hsp:∀H:Hp,Ae K H a (ns.map V.int)→sp [.ref a] H (fun v _=>v=.bl true) fun _ _ _=>False)
 (hCX:∀H e s',CX [] H s₁ (fun _ _ _=>False) e s'→False) :
  codeAny (model P w) callerA (.call (.ref fa) ⟨[.ref a],[]⟩) (fun r s'=>r=.ok (.ret (.bool true))∧OldK s₁.heap s'.heap∧s'.os=s₁.os∧AllBare s'.gens) s₁:=by
 have rv:=NX hi;have lenV:=hi.length;have tok:=T.Af (P:=P) KTX;have Ta:D6 d od a=none:=by
  cases q:D6 d od a with
  |none=>rfl
  |some u =>
   rcases HB q with ⟨rfl,rfl⟩|⟨j,xs,rfl,h1,rfl⟩
   ·obtain⟨t1,t2,t3,t4,t5,ho⟩:=T.obj;have:=KTX _ _ T.OX;rw[ha,ho]at this;have z:=bF Obj.cls (ab this);simp at z
   ·obtain⟨_,its,_,o,e1,e2,_⟩:=tok _ _ q;rw[ha]at e1;cases e1;simp at e2
 have core:∀H:Hp,(∀b,b≠a→H b=D6 d od b)→(H a=none∨∃o xs,H a=some (.C8 o (.lst xs)))→Ae K H a (ns.map V.int)→CY P w H s₁.heap→(H a≠none→K.lookup a=none) →
   codeAny (model P w) callerA (.call (.ref fa) ⟨[.ref a],[]⟩) (fun r s'=>r=.ok (.ret (.bool true))∧OldK s₁.heap s'.heap∧s'.os=s₁.os∧AllBare s'.gens) s₁:=by
  intro H hO hA hS Af hK;have hT:∀b u,D6 d od b=some u→H b=some u:=fun b u e=>by
   rw[hO b (fun z=>by rw[z,Ta]at e;cases e)];exact e
  have dicA:∀ {m:Str→Option VL},s₁.heap.Ns a m→False:=fun {m} ⟨o,es,ep,e,q,_⟩=>by
   rw[ha]at e;cases e;have q':Data.seq vs.toArray _=Data.dict es ep:=q;cases q'
  have nsK:∀ {b:Nat} {m:Str→Option VL},b<d→s₁.heap.Ns b m→(Jz s₁.heap H).Ns b m:=fun {b m} hlt N=>by
   have hn:H b=none:=by
    have hba:b≠a:=fun z=>dicA (z ▸ N);rw[hO b hba];cases q:D6 d od b with
    |none=>rfl
    |some u=>rcases HB q with ⟨rfl,_⟩|⟨j,xs,rfl,_⟩<;>lia
   obtain⟨o,es,ep,e,r⟩:=N;exact⟨o,es,ep,OZ e hn,r⟩
  have hKb:K.In (Jz s₁.heap H):=fun b o e=>OZ (KX b o e) (by
   by_cases hba:b=a
   ·subst hba;cases q:H b with
    |none=>rfl
    |some u=>rw[hK (by rw[q];simp)]at e;cases e
   ·rw[hO b hba];cases q:D6 d od b with
    |none=>rfl
    |some u=>rw[hTK b u q]at e;cases e)
  have hM:Mod K mg (Jz s₁.heap H):=⟨hKb,nsK hTN.2.1 hns,⟨mb,nsK hTN.2.2 hb,hbb⟩,let⟨mc,h1,h2⟩:=hlim;⟨mc,nsK hTN.1 h1,h2⟩⟩;have kt:KTb mg H:=fun d' e=>by
   rw[hmg]at e;cases e;exact⟨⟨od,hT _ _ Z8⟩,fun j xs q=>hT _ _ (a8 q)⟩
  have e0:Rk P w K mg (Jz s₁.heap H) callerA [] s₁ H:=⟨rfl,hM,fun b o e=>Xu e,Nat.le_of_eq (TZ _ _),trivial,fun b hb=>absurd (show b∈([]:List AD) from hb) (by simp),Af,.of_eq hg,kt⟩;refine codeAny_mono ((F _ hKb (nsK hTN.2.1 hns)).run callerA [] s₁ H ⟨[.ref a],[]⟩ [.ref a] [.ref a] _ _ hr e0 (hbind s₁ (.ref a)) (.cons rfl .nil) (hsp H hS)) fun r s' h=>?_;cases r with
  |error e=>exact(hCX H e s' h).elim
  |ok fl =>
   cases fl with
   |next=>exact False.elim h
   |brk=>exact False.elim h
   |cont=>exact False.elim h
   |ret u =>
    obtain⟨v,H',os,bare,un,hok',r',q⟩:=h;have q':v=.bl true:=q;subst q';obtain rfl:u=Value.bool true:=r';have kf:∀b o ob u,s₁.heap.get? b=some o→H b=some (.C8 ob u)→s'.heap.get? b=some o:=fun b o ob u e z=>by
     obtain⟨e1,_⟩:=Af b _ z;obtain⟨e2,_⟩:=hok' b _ (un.HL b ob _ z);rw[e]at e1;cases e1;exact e2
    refine⟨rfl,OldK.of_keep fun b o e=>?_,os,bare⟩;by_cases hba:b=a
    ·subst hba;rcases hA with z|⟨ob,xs,z⟩
     ·exact un.keep b o e z (by intro z;exact absurd (show b∈([]:List AD) from z) (by simp)) (by simp)
     ·exact kf b o ob _ e z
    ·have hb':=hO b hba;cases q:D6 d od b with
     |none=>exact un.keep b o e (hb'.trans q) (by intro z;exact absurd (show b∈([]:List AD) from z) (by simp)) (by simp)
     |some u =>
      rw[q]at hb';rcases HB q with ⟨_,rfl⟩|⟨j,xs,_,_,rfl⟩
      ·exact kf b o _ _ e hb'
      ·exact un.IE b xs o hb' e (by simp)
 cases hk:K.lookup a with
 |some o =>
  have e:=KX a o hk;rw[ha]at e;cases e;refine core (D6 d od) (fun _ _=>rfl) (.inl Ta) (.inr ⟨_,vs.toArray,_,hk,rfl,rfl,rfl,by rw[List.size_toArray,lenV];exact hl,by simpa using rv⟩) tok fun z=>absurd Ta z
 |none =>
  refine core (upd (D6 d od) a (.C8 { cls:=.type "list",data:=.seq vs.toArray} (.lst (ns.map V.int)))) (fun b hb=>AF hb) (.inr ⟨_,_,AI⟩) (.inl (.inr ⟨{ cls:=.type "list",data:=.seq vs.toArray},AI⟩)) (fun b u z=>?_) fun _=>hk;by_cases hb:b=a
  ·subst hb;rw[AI]at z;cases z;exact⟨ha,by rw[List.length_map];exact hl,vs,_,rv,ha⟩
  ·rw[AF hb]at z;exact(tok b u z).Fd (fun _ _ _ q=>q) (fun c q=>by rw[AF (AJ q Ta)];exact q) fun c xs q=>by rw[AF (AJ q Ta)];exact q
def Vp{l:PySem.W.OpenLaw}{n k:Nat}{q:Program}{loose:List Str}{XP:(Str→Option VL)→Heap→Prop}{YP:World→Heap→Prop}{d:DefRec}{K Kt:Params→Fg}{CX:World→GJ}{sp:World→Sp}{x:Str}{da:Nat}{od:Params→Obj}{tv:List (List VL)}
 (hn:l.most=some n)(hn2:n≤sizeLine)(hdf:d.params.defaults=[])(hr:Cy k callerA)
 (hY:∀(w:World) (h:Heap),YP w h→(K w.params++Kt w.params).In h)
 (T:∀P,L3 P da (od P) tv (Kt P))(hTN:cStatics<da∧mainGlobals<da∧builtinsNs<da)(hTK:∀P,(K P).all (fun p=>decide ((p.1:Nat)<da)||decide (da+50<(p.1:Nat)))=true∧(Kt P).all (fun p=>decide (da≤(p.1:Nat))&&decide ((p.1:Nat)≤da+50))=true)
 (hmg:∀(w:World) (mg:Str→Option VL) (h:Heap),(K w.params).In h→h.Ns mainGlobals mg→mg "NAMED_TABLES" = some (.ref da))
 (F:∀(w:World) (mg:Str→Option VL) (fa:AD) (h:Heap),(K w.params).In h→h.Ns mainGlobals mg→mg d.name=some (.ref fa) →
   ∃fd:FuncData,(∀(s:SD) (u:VL),BindsTo s fd ⟨[u],[]⟩ [(x,u)]) ∧
    ∀base:Heap,(K w.params).In base→base.Ns mainGlobals mg→AL l.prog w (K w.params) mg base (CX w) k fa fd [x] (sp w))
 (hsp:∀(w:World) (H:Hp) (a:AD) (ns:List Int),ns.length≤n→Ae (K w.params) H a (ns.map V.int)→sp w [.ref a] H (fun v _=>v=.bl true) fun _ _ _=>False)
 (hCX:∀(w:World) (H:Hp) (s:SD) (e:VL) (s':SD),CX w [] H s (fun _ _ _=>False) e s'→False) :
  PySem.W.WalkO q loose XP YP l.row.toRowW d [] (fun f vs=>PySem.call f vs):=by
 refine Att.QK hn hdf fun w s₀ s₁ mg mb fa o pm cd doc a vs ns G Y ho hd hcd hmg' hobj hints hlen hg=>?_;have KK:=hY w _ Y;have lk:∀b,(K w.params++Kt w.params).lookup b=((K w.params).lookup b).or ((Kt w.params).lookup b):=fun b=>List.lookup_append;have away:∀(b:Nat) o,(K w.params).lookup b=some o→b<da∨da+50<b:=fun b o e=>by
  have:=ao.mp (hTK w.params).1 (b,o) (PQ e)
  simpa using this
 have len50:(Ji da).length=50:=rfl;have ktx:∀(b:Nat) u,D6 da (od w.params) b=some u→(K w.params).lookup b=none:=fun b u e=>by
  cases q:(K w.params).lookup b with
  |none=>rfl
  |some o =>
   have h1:=away b o q;rcases HB e with ⟨h2,_⟩|⟨j,xs,h2,h3,_⟩
   ·lia
   ·have:=(aE.mp h3).1
    lia
 have KX:(K w.params).In s₁.heap:=fun b o e=>KK b o (by rw[lk,e];rfl);have KTX:(Kt w.params).In s₁.heap:=fun(b:Nat) o e=>KK b o (by
  rw[lk];have h1:=ao.mp (hTK w.params).2 (b,o) (PQ e);have h1:da≤b∧b≤da+50:=by simpa using h1
  cases q:(K w.params).lookup b with
  |none=>exact e
  |some o'=>have:=away b o' q;lia)
 obtain⟨fd,hb,hF⟩:=F w mg fa _ KX G.T.g hmg';exact Tx KX KTX (T w.params) hTN ktx (hmg w mg _ KX G.T.g) G.T.g G.T.b G.T.builtins G.T.nolimit hg hobj hints (aM hlen hn2) hr hF hb (fun H hS=>hsp w H a ns hlen hS) fun H e s'=>hCX w H s₁ e s'
end L2
set_option maxHeartbeats 1000000
namespace L2
open PySem PySem.Spec PyProof.Rows
abbrev D4(a b:Int):PD:=.tuple [.int a,.int b]
def KN(x:Str):Option PD :=
 if x = "plain" then some (.tuple [.tuple [.tuple []],.tuple [D4 1 1]])
 else if x = "middle" then some (.tuple [.tuple [.tuple [],.tuple [D4 1 2]],.tuple [D4 0 1,D4 1 1]])
 else if x = "heel" then some (.tuple [.tuple [.tuple [],.tuple [D4 1 1]],.tuple [D4 1 2,D4 1 2]])
 else if x = "third" then some (.tuple [.tuple [.tuple [],.tuple [D4 1 3],.tuple [D4 0 1,D4 2 3]],.tuple [D4 1 4,D4 0 1,D4 3 4]])
 else if x = "fourth" then some (.tuple [.tuple [.tuple [],.tuple [D4 1 2],.tuple [D4 0 1,D4 1 2],.tuple [D4 0 1,D4 0 1,D4 1 1]],.tuple [D4 1 6,D4 1 3,D4 1 3,D4 1 6]])
 else none
def PZ:PD→Option PD
 |.str x=>KN x
 |_=>none
def Rn(neg:Bool):PD→Option PD
 |.str x=>some (.bool (if neg then !(KN x).isSome else(KN x).isSome))
 |_=>none
def Hs(G:Hp)(d:Nat):Hp:=fun(b:Nat)=>match G b with
 |some o=>some o
 |none=>if b≤d then none else((Ji d)[b-d-1]?).map .tup
def Hx{G:Hp}{d:Nat}:AG G (Hs G d):=fun b o e=>by unfold Hs;rw[e]
def KZ{G:Hp}{d b:Nat}{o:HO}(e:Hs G d b=some o):G b=some o∨∃j xs,b=d+1+j∧(Ji d)[j]? = some xs∧o=.tup xs:=by
 unfold Hs at e;split at e
 ·rename_i q;cases e;exact .inl q
 ·split at e
  ·cases e
  ·obtain⟨xs,e1,e2⟩:=aF.mp e;exact .inr ⟨b-d-1,xs,by lia,e1,e2.symm⟩
def Vw{G0 H0 G H:Hp}{σ:St}{δ:Dv}{ts:List (PD×V)}{d:Nat}(R:Rw G0 H0 G H σ δ ts)(hT:∀j xs,(Ji d)[j]? = some xs→H (d+1+j)=some (.tup xs)):Rw G0 H0 (Hs G d) H σ δ ts where
 ext:=fun b o e=>Hx b o (R.ext b o e)
 new:=fun b o e=>by
  rcases KZ e with h|⟨j,xs,_,_,rfl⟩
  ·exact R.new b o h
  ·exact .inr (.inr ⟨xs,rfl⟩)
 ins:=fun b o e=>by
  rcases KZ e with h|⟨j,xs,rfl,h,rfl⟩
  ·exact R.ins b o h
  ·exact hT j xs h
 keep:=R.keep
 len:=R.len
 dat:=fun i x h=>by
  obtain⟨v,h1,h2⟩:=R.dat i x h;exact⟨v,h1,h2.same Hx⟩
 own:=fun i xs h=>by
  obtain⟨a,ys,h1,h2,h3,h4,h5⟩:=R.own i xs h;refine⟨a,ys,h1,?_,h3,h4,h5.same Hx⟩;cases q:Hs G d a with
  |none=>rfl
  |some o =>
   rcases KZ q with z|⟨j,zs,rfl,z,rfl⟩
   ·rw[h2]at z;cases z
   ·have:=hT j zs z;rw[h4]at this;cases this;exact h5.NC.elim
 apart:=R.apart
 Bd:=fun p hp=>(R.Bd p hp).same Hx
def atT(d:Nat)(T:Hp):Prop:=∀j xs,(Ji d)[j]? = some xs→T (d+1+j)=some (.tup xs)
def VH{G H:Hp}{d:Nat}(hG:AG G H)(hT:atT d H):atT d (Hs G d):=fun j xs e=>by
 unfold Hs;split
 ·rename_i o q;have:=hG _ _ q;rw[hT j xs e]at this;cases this;rfl
 ·rw[if_neg (by lia),show d+1+j-d-1=j by lia,e];rfl
def cz:List (List (Sum Int Nat)):=[[],[.inr 1],[.inl 1,.inl 1],[.inr 3],[.inr 2,.inr 4],[],[.inl 1,.inl 2],[.inr 7],[.inr 6,.inr 8],[.inl 0,.inl 1],[.inl 1,.inl 1],[.inr 10,.inr 11],[.inr 9,.inr 12],[],[.inl 1,.inl 1],[.inr 15],[.inr 14,.inr 16],[.inl 1,.inl 2],[.inl 1,.inl 2],[.inr 18,.inr 19],[.inr 17,.inr 20],[],[.inl 1,.inl 3],[.inr 23],[.inl 0,.inl 1],[.inl 2,.inl 3],[.inr 25,.inr 26],[.inr 22,.inr 24,.inr 27],[.inl 1,.inl 4],[.inl 0,.inl 1],[.inl 3,.inl 4],[.inr 29,.inr 30,.inr 31],[.inr 28,.inr 32],[],[.inl 1,.inl 2],[.inr 35],[.inl 0,.inl 1],[.inl 1,.inl 2],[.inr 37,.inr 38],[.inl 0,.inl 1],[.inl 0,.inl 1],[.inl 1,.inl 1],[.inr 40,.inr 41,.inr 42],[.inr 34,.inr 36,.inr 39,.inr 43],[.inl 1,.inl 6],[.inl 1,.inl 3],[.inl 1,.inl 3],[.inl 1,.inl 6],[.inr 45,.inr 46,.inr 47,.inr 48],[.inr 44,.inr 49]]
def Rj(d:Nat):Sum Int Nat→V
 |.inl i=>.int i
 |.inr k=>.ref (d+k)
def cA(d:Nat):Ji d=cz.map (List.map (Rj d)):=rfl
def Dh:Nat→PD→Sum Int Nat→Bool
 |_,.int i,.inl k=>i==k
 |n+1,.tuple ds,.inr (a+1)=>match cz[a]? with
  |some xs=>(ds.length==xs.length)&&(ds.zip xs).all fun q=>Dh n q.1 q.2
  |none=>false
 |_,_,_=>false
def Py{d:Nat}{T:Hp}(hT:atT d T):∀(n:Nat) (x:PD) (v:Sum Int Nat),Dh n x v=true→Du T x (Rj d v)
 |n,.int i,.inl k,e=>by
  have:i=k:=by cases n<;>simpa[Dh]using e
  subst this;rw[Du];rfl
 |n+1,.tuple ds,.inr (a+1),e=>by
  rw[Dh]at e;split at e
  ·rename_i xs q;simp only[Bool.and_eq_true,beq_iff_eq,List.all_eq_true]at e;obtain⟨e2,e3⟩:=e;rw[Du];refine⟨d+(a+1),xs.map (Rj d),rfl,?_,?_⟩
   ·have:=hT a (xs.map (Rj d)) (by rw[cA,List.getElem?_map,q];rfl)
    rwa [show d+1+a=d+(a+1) by lia]at this
   ·have ih:=Py hT n;clear q
    induction ds generalizing xs with
    |nil=>cases xs with
     |nil=>exact .nil
     |cons _ _=>simp at e2
    |cons y ys ihd=>cases xs with
     |nil=>simp at e2
     |cons u us=>exact .cons (ih y u (e3 (y,u) (by simp))) (ihd us (by simpa using e2) fun q hq=>e3 q (by simp[hq]))
  ·cases e
 |0,.tuple _,v,e=>by cases v<;>simp[Dh]at e
 |_,.none,v,e=>by cases v<;>simp[Dh]at e
 |_,.bool _,v,e=>by cases v<;>simp[Dh]at e
 |_,.str _,v,e=>by cases v<;>simp[Dh]at e
 |_,.list _,v,e=>by cases v<;>simp[Dh]at e
 |_,.dict _,v,e=>by cases v<;>simp[Dh]at e
 |n+1,.tuple _,.inl _,e=>by simp[Dh]at e
 |n+1,.tuple _,.inr 0,e=>by simp[Dh]at e
 |n,.int _,.inr _,e=>by cases n<;>simp[Dh]at e
def YA{d:Nat}{T:Hp}{x:Str}{y:PD}(hT:atT d T)(e:KN x=some y):∃k:Nat,FH (Jv d) (.inr x)=some (.ref (d+k))∧Du T y (.ref (d+k)):=by
 unfold KN at e;have go:∀(k:Nat) (z:PD),Dh 4 z (.inr k)=true→Du T z (.ref (d+k)):=fun k z h=>Py hT 4 z (.inr k) h;split at e
 ·rename_i q;subst q;cases e;exact⟨5,rfl,go _ _ (by decide +kernel)⟩
 split at e
 ·rename_i q;subst q;cases e;exact⟨13,rfl,go _ _ (by decide +kernel)⟩
 split at e
 ·rename_i q;subst q;cases e;exact⟨21,rfl,go _ _ (by decide +kernel)⟩
 split at e
 ·rename_i q;subst q;cases e;exact⟨33,rfl,go _ _ (by decide +kernel)⟩
 split at e
 ·rename_i q;subst q;cases e;exact⟨50,rfl,go _ _ (by decide +kernel)⟩
 ·cases e
def Vu(d:Nat)(x:Str):(FH (Jv d) (.inr x)).isSome=(KN x).isSome:=by
 by_cases h1:x = "plain"
 ·subst h1;rfl
 by_cases h2:x = "middle"
 ·subst h2;rfl
 by_cases h3:x = "heel"
 ·subst h3;rfl
 by_cases h4:x = "third"
 ·subst h4;rfl
 by_cases h5:x = "fourth"
 ·subst h5;rfl
 have e1:KN x=none:=by unfold KN;rw[if_neg h1,if_neg h2,if_neg h3,if_neg h4,if_neg h5]
 have e2:FH (Jv d) (.inr x)=none:=by
  unfold FH Jv;simp[Sum.inr.injEq,eq_comm,h1,h2,h3,h4,h5]
 rw[e1,e2];rfl
section
variable{X:Cx}{d:Nat}{x:Str}{i:Nat}{np xp pos:Pos}
def PE.kt{e:Expr}{t:TE}(h:PE X e t):PE X e (fun σ H Q=>KTb X.mg H→t σ H Q):=fun pins s σ H Q I k=>h pins s σ H Q I (k I.kt)
def PT.kt{e:Expr}{t:TT}(h:PT X e t):PT X e (fun σ H Q=>KTb X.mg H→t σ H Q):=fun pins s σ H Q I k=>h pins s σ H Q I (k I.kt)
def Z1(hu:X.A.units+64<cLine)(hg:Gl X "NAMED_TABLES")(hm:X.mg "NAMED_TABLES" = some (.ref d))(hv:PE X (.Name x xp) (KS i))(hs:SV (.Name x xp)) :
  DE X (.Subscript (.Name "NAMED_TABLES" np) (.Name x xp) pos) (fun δ=>(nm i δ).bind PZ):=by
 refine⟨_,(Xw (ag (by lia) hu) (Kf (v:=.ref d) hg hm rfl) hv hs).kt,fun δ z hz G0 H0 G H σ ts Q R k kt=>?_⟩;obtain⟨y,h1,h2⟩:=aB.mp hz;obtain⟨v,h3,h4⟩:=R.dat _ _ (RY h1);obtain⟨⟨o,kd⟩,kT⟩:=kt d hm;cases y<;>simp only[PZ]at h2<;>try cases h2
 rename_i n;rw[Du]at h4;subst h4;have R':=Vw R kT;obtain⟨q,e1,e2⟩:=YA (VH R.ins kT) h2;exact⟨.str n,h3,d,.ref (d+q),rfl,.inl ⟨Jv d,.inr n,.inr ⟨o,kd⟩,rfl,e1.symm⟩,k _ _ _ (R'.put e2)⟩
def T8(hu:X.A.units+64<cLine)(hg:Gl X "NAMED_TABLES")(hm:X.mg "NAMED_TABLES" = some (.ref d))(hv:PE X (.Name x xp) (KS i)) :
  DT X (.Compare (.Name x xp) [.NotIn] [.Name "NAMED_TABLES" np] pos) (fun δ=>((nm i δ).bind (Rn true)).bind Kc):=by
 refine⟨_,(Zv (S0 (ag (by lia) hu) hv (Kf (v:=.ref d) hg hm rfl)) (by rfl)).kt,fun δ z hz G0 H0 G H σ ts Q R k kt=>?_⟩;obtain⟨q,h0,h9⟩:=aB.mp hz;have:=Lr h9;subst this;obtain⟨y,h1,h2⟩:=aB.mp h0;obtain⟨v,h3,h4⟩:=R.dat _ _ (RY h1);obtain⟨⟨o,kd⟩,kT⟩:=kt d hm;cases y<;>simp only[Rn]at h2<;>try cases h2
 rename_i n;rw[Du]at h4;subst h4;refine⟨.str n,h3,d,FH (Jv d) (.inr n),rfl,.inl ⟨Jv d,.inr n,.inr ⟨o,kd⟩,rfl,rfl⟩,_,rfl,?_⟩;rw[Vu];exact k _ _ R
end
end L2
set_option maxHeartbeats 4000000
namespace Opn
open PySem PySem.W PyProof.Rows PySem.Calls
noncomputable def q0:Pos:=⟨0,0,0,0⟩
noncomputable def dS:Obj:={ cls:=.type "tuple",data:=.seq #[]}
noncomputable def cy:Obj:={ cls:=.none,data:=.fields #[]}
noncomputable def dJ:Obj:={ cls:=.type "code",data:=.fields #[.str (Str.ofString "<module>") 182,.str (Str.ofString "<module>") 183,.str (Str.ofString "/claim/cut.py") 184,.int 1 0,.int 0 0,.int 0 0,.int 0 0,.int 0 0,.ref 11,.bool false,.int 181 0,.ref 12,.none,.none,.none,.none,.int 185 0,.int 1 0,.str (Str.ofString "/claim/cut.py") 186]}
noncomputable def dF:Obj:={ cls:=.type "frame",slots:=#[some (.ref 13),some (.ref 3),some (.ref 3),none,some (.str (Str.ofString "__main__") 164),none,some (.ref 0)]}
noncomputable def b0(P:Params):List Obj:=(boot_heap P).objs.toList++[dS,cy,dJ,dF]
noncomputable def nN(P:Params)(o:Params→Obj)(l r:BT):BT:=.node (o P) l r
noncomputable def lN(P:Params)(o:Params→Obj):BT:=.node (o P) .nil .nil
noncomputable def cC(P:Params):BT :=
 nN P boot_o_0 (nN P boot_o_1 (nN P boot_o_3 (lN P boot_o_7) (.node dS .nil .nil)) (nN P boot_o_5 (lN P boot_o_9) (.node dJ .nil .nil)))
  (nN P boot_o_2 (nN P boot_o_4 (lN P boot_o_8) (.node cy .nil .nil)) (nN P boot_o_6 (lN P boot_o_10) (.node dF .nil .nil)))
noncomputable def WV:Life:=Life.mk [] [] [] 0 [] [] false #[] [] 0 false false false 0 [2000,10,10] false 0 true [] [] 0 false
noncomputable def sA(w:World)(os:OsState):SD:=⟨⟨⟨b0 w.params⟩,WV⟩,#[],boot_drawn,187,os⟩
noncomputable def sB(w:World)(os:OsState):SharedT:=⟨cC w.params,15,WV,#[],boot_drawn,187,os⟩
noncomputable def Li(p:Program):Env:={ scope:=p.main.scope,locals:=mainNs,globals:=mainNs,cells:=[],code:=.ref 13,frame:=some 14}
noncomputable def cB(p:Program):Code:=.body (behindTheImports p) (Li p)
noncomputable abbrev GS:Option VL:=some (.ref 6)
noncomputable abbrev bB:List Frame:=[topFrame q0]
noncomputable def Ob(p:Program)(M:Nat)(w:World)(os:OsState):Option (Flow×SharedT×Code×Pos) :=
 PySem.W.Fast.tw10110043849684766642 PySem.W.Fast.tw14364793385576792824 p w 11 GS 1 M (sB w os) (piecesOf (behindTheImports p) (Li p) (cB p) q0 bB)
noncomputable def Pk(p:Program)(M:Nat)(w:World)(os:OsState):SharedT:=match Ob p M w os with|some (_,s,_)=>s|none=>sB w os
def Xe{p:Program}{M:Nat}{w:World}{os:OsState}{r:Option (Flow×SharedT×Code×Pos)}(h:Ob p M w os=r) :
  segRunT treeTable p w 11 GS 1 M (sB w os) (piecesOf (behindTheImports p) (Li p) (cB p) q0 bB)=r:=by
 have e:segRunT treeTable=PySem.W.Fast.tw10110043849684766642 PySem.W.Fast.tw14364793385576792824:=congr PySem.W.Fast.te10110043849684766642 PySem.W.Fast.te14364793385576792824;rw[e];exact h
def ZO{p:Program}{M M0:Nat}{posE:Pos}{w:World}{os:OsState}
 (pre:topGo treeTable p w 11 GS 12 ⟨boot_heap w.params,#[],boot_drawn,boot_toks,os⟩ (topStub p)=some (sA w os,⟨denote treeTable (cB p),cB p,q0,bB⟩))
 (blk:segRun treeTable p w 11 GS 1 1 (sA w os) (blockOf (behindTheImports p) (Li p) (cB p) q0 bB)=some (.next,(sB w os).abs,cB p,q0))
 (seg:Ob p M w os=some (.next,Pk p M w os,cB p,posE))
 (fin:∀s,topRun treeTable p w 11 GS 2 s (restOf [] (Li p) (cB p) posE bB)=some s)(hM:M0=12+(1+(M+2))) :
  topRun treeTable p w 11 GS M0 ⟨boot_heap w.params,#[],boot_drawn,boot_toks,os⟩ (topStub p)=some (Pk p M w os).abs:=by
 subst hM;refine go_top pre (piece_block blk ?_);have h:=piece_app (rest:=[]) (segRun_of (Xe seg)) (fin _);rw[List.append_nil]at h;exact h
def W7{p q:Program}{loose:List Str}{Xt:SD→Bool}{α:Type}{Yf:SD→α}{Ya:World→α}{N M:Nat}{S:World→OsState→SD}
 (open_:∀w:World,(fencedOpening treeTable p w N).map (fun s=>(s.heap,s.gens,s.drawn,s.toks))=some (boot_heap w.params,#[],boot_drawn,boot_toks))
 (size:∀w:World,((boot_heap w.params).isNs mainGlobals&&(#[]:Array GenState).size==0,(boot_heap w.params).objs.size,(boot_heap w.params).nsMap mainGlobals "__annotations__")=(true,11,GS))
 (run:∀w os,topRun treeTable p w 11 GS M ⟨boot_heap w.params,#[],boot_drawn,boot_toks,os⟩ (topStub p)=some (S w os))(le:Nat.ble M N=true)
 (ok:∀w os,(staticsOk (importedModules p.main.body) (boot_heap w.params) (S w os).heap&&namesBound p (S w os).heap&&gensDone (S w os)&&laidKept (boot_heap w.params) (S w os).heap)=true)
 (seen:∀w os,openSeen q loose (importedModules p.main.body) Xt true (S w os)=openGood q loose)
 (hY:∀w os,Yf (S w os)=Ya w):LeftO p q loose Xt Yf Ya N:=fun w=>by
 obtain⟨⟨h,gs,d,k,os⟩,e,e'⟩:=aF.mp (open_ w);obtain⟨rfl,rfl,rfl,rfl⟩:h=boot_heap w.params∧gs=#[]∧d=boot_drawn∧k=boot_toks:=by simpa using e'
 obtain⟨z1,z2,z3⟩:_∧_∧_:=by simpa only[Prod.mk.injEq]using size w
 have l1:=ok w os;have r:=topRun_mono (N-M) _ _ _ _ (run w os);rw[show M+(N-M)=N by have:=Nat.le_of_ble_eq_true le;lia]at r;have t:topFrom treeTable p w N ⟨boot_heap w.params,#[],boot_drawn,boot_toks,os⟩=some (S w os):=by
  unfold topFrom;dsimp only;rw[z1,z2,z3,r];show(match staticsOk (importedModules p.main.body) (boot_heap w.params) (S w os).heap&&namesBound p (S w os).heap&&gensDone (S w os)&&laidKept (boot_heap w.params) (S w os).heap with|true=>_|false=>_)=_;rw[l1]
 unfold openEnds;rw[e];show(topFrom treeTable p w N _).map _=_;rw[t];exact bF some (Prod.ext (seen w os) (hY w os))
def cj(w:World):((boot_heap w.params).isNs mainGlobals&&(#[]:Array GenState).size==0,(boot_heap w.params).objs.size,(boot_heap w.params).nsMap mainGlobals "__annotations__")=(true,11,GS):=by kernel_rfl
end Opn
namespace Q52
open PySem L2
def top(i:Nat):Stmt:=PySem.Challenge.pw_stepgrove_k52_whole_orders_of_named_rule.main.body.getD i (.Pass ⟨0,0,0,0⟩)
abbrev Eg:Stmt:=top 7
abbrev HH:Stmt:=top 8
abbrev GR:Stmt:=top 9
abbrev Dp:Stmt:=top 10
abbrev JD:Stmt:=top 11
abbrev B2:Stmt:=top 12
abbrev FP:Stmt:=top 13
abbrev JG:Stmt:=top 14
abbrev JH:Stmt:=top 18
abbrev JV:Stmt:=top 19
abbrev CI:Stmt:=top 20
abbrev JK:Stmt:=top 21
abbrev I0:Stmt:=top 24
abbrev D9:Stmt:=top 25
abbrev CP:Stmt:=top 26
abbrev En:Stmt:=top 27
abbrev D0:Stmt:=top 28
abbrev IJ:Stmt:=top 30
abbrev Fl:Stmt:=top 31
abbrev Fe:Stmt:=top 33
abbrev E9:Stmt:=top 34
abbrev JX:Stmt:=top 35
abbrev KD:Stmt:=top 36
abbrev GO:Stmt:=top 39
abbrev Fp:Stmt:=top 40
abbrev Fi:Stmt:=top 42
abbrev Fc:Stmt:=top 43
abbrev Cj:Stmt:=top 44
abbrev Le:Stmt:=top 45
abbrev IM:Stmt:=top 47
abbrev IU:Stmt:=top 48
abbrev HP:Stmt:=top 49
abbrev WN:Stmt:=top 50
def Q6{n:String}:Oq (.ty n)≠.none:=fun z=>nomatch z
def RU:Sp:=fun vs H Q _=>∃a b,vs=[.int a,.int b]∧Q (.int (FM.gi a b)) H
def RQ:Sp:=fun vs H Q _=>∃t b m,vs=[.int t,.int b]∧b≠0∧m≤9000∧b.natAbs<2^m∧∀l H',AG H H'→H' l=some (.tup (M7 (Rat.divInt t b)))→Q (.ref l) H'
section
variable{P:Program}{w:World}{K:Fg}{mg:Str→Option VL}{base:Heap}{f g:AD}{fd gd:FuncData}
def Jp:Ac ["one", "other", "greater", "lesser", "rest"] ["one", "other"] (AO B2):=CB
def dI(σ:St):Nat:=match σ[3]? with|some (some (V.int l))=>l.natAbs|_=>0
def Jq(F:Fn K mg "greatest_divisor" B2 ["one", "other"] f fd)(Hh:mg "abs" = none):AL P w K mg base Ah 1 f fd ["one", "other"] RU:=by
 have sc:=Jp;refine F.F.ok (k:=0) sc (fun vs H Q E h=>?_) (fun cdv A outer s H vs Q E hr h=>?_)
 ·obtain⟨a,b,rfl,_⟩:=h
  rfl
 obtain⟨a,b,rfl,q⟩:=h;refine⟨_,(AY (BL (i:=2) sc.nd rfl (Or.inl rfl) (BB Iz rfl Hh PyProof.Rows.boot_abs (AH (pv 0) AU)))
 (AY (BL (i:=3) sc.nd rfl (Or.inl rfl) (BB Iz rfl Hh PyProof.Rows.boot_abs (AH (pv 1) AU)))
 (AY (Lg aW (Bt OC (pv 3) Ao (A9 _))
  (AY (BL (i:=4) sc.nd rfl (Or.inl rfl) (B0 Mk (pv 2) (pv 3)))
  (AY (BL (i:=2) sc.nd rfl (Or.inl rfl) (pv 3))
  (Ad (BL (i:=3) sc.nd rfl (Or.inl rfl) (pv 4))))))
 (Ad (BJ (pv 2)))))),?_⟩
 refine⟨_,rfl,_,rfl,_,rfl,_,rfl,?_⟩;refine Lh (fun σ H'=>∃g l r,σ=[some (.int a),some (.int b),some (.int g),some (.int l),r]∧H=H'∧Int.gcd g l=Int.gcd a b∧0≤g∧0≤l) (fun σ _=>dI σ) ?_ ?_ ?_
 ·exact⟨_,_,_,rfl,rfl,FM.Q9 a b,FM.abs_nonneg a,FM.abs_nonneg b⟩
 ·rintro σ H' ⟨g,l,r,rfl,rfl,hg,h0,h1⟩;refine⟨_,rfl,rfl,_,rfl,Cm (fun c=>?_) (fun c=>?_)⟩
  ·have hl:l≠0:=fun z=>by subst z;simp at c
   refine⟨_,rfl,_,rfl,_,_,rfl,rfl,hl,_,rfl,_,rfl,⟨_,_,_,rfl,rfl,?_,h1,FM.fmod_nonneg hl h1⟩,?_⟩
   ·rw[FM.PM];exact hg
   ·exact FM.Ni g l hl
  ·have hl:l=0:=by simpa using c
   subst hl;refine⟨_,rfl,?_⟩;rw[FM.T3 hg h0];exact q
 ·exact fun σ H Q Q' hq ⟨v,e,s,k,e2,q⟩=>⟨v,e,s,k,e2,hq _ _ q⟩
def Mo:Ac ["top", "bottom", "shared"] ["top", "bottom"] (AO Eg):=CB
def M4(F:Fn K mg "fraction_of" Eg ["top", "bottom"] f fd)(A5:Fn K mg "greatest_divisor" B2 ["one", "other"] g gd)
 (B3:AL P w K mg base Ah 1 g gd ["one", "other"] RU):AL P w K mg base Ah 2 f fd ["top", "bottom"] RQ:=by
 have sc:=Mo;refine F.F.ok (k:=1) sc (fun vs H Q E h=>?_) (fun cdv A outer s H vs Q E hr h=>?_)
 ·obtain⟨t,b,m,rfl,_⟩:=h
  rfl
 obtain⟨t,b,m,rfl,hb,hm,hs,q⟩:=h;refine⟨_,(AY (Df (Bt OH (pv 1) Ao (A9 _))
  (Ad OJ)
  B8)
 (AY (BL (i:=2) sc.nd rfl (Or.inl rfl) (B9 A5 B3 hr rfl (AH (pv 0) (AH (pv 1) AU))))
 (AY (Df (Bt OI (pv 1) Ao (A9 _))
  (Ad (BL (i:=2) sc.nd rfl (Or.inl rfl) (WS TB (pv 2))))
  B8)
 (Ad (BJ (Od (AH (B0 Ei (pv 0) (pv 2)) (AH (B0 Ei (pv 1) (pv 2)) AU)))))))),?_⟩
 refine⟨_,rfl,rfl,_,rfl,Cm (fun c=>absurd c (by simpa using hb)) (fun _=>?_)⟩;refine⟨_,rfl,_,rfl,t,b,rfl,?_⟩
 try dsimp only[Cw]
 refine Lj (fun σ' H'=>σ'=[some (.int t),some (.int b),some (.int (FM.gs t b))]∧H=H') (fun nx hn=>?_) ?_
 ·refine⟨_,rfl,_,_,rfl,rfl,_,rfl,Cm (fun c=>?_) (fun c=>?_)⟩
  ·have c':b<0:=aV c;refine⟨_,rfl,_,rfl,hn _ _ ⟨?_,rfl⟩⟩;unfold FM.gs;rw[if_pos c']
   rfl
  ·have c':¬b<0:=bC (ak.mpr c);refine hn _ _ ⟨?_,rfl⟩;unfold FM.gs;rw[if_neg c']
   rfl
 ·rintro σ' H' ⟨rfl,rfl⟩;have h0:FM.gs t b≠0:=FM.WA hb;have h1:(FM.gs t b).natAbs<2^m:=ag (FM.Wc hb) hs;refine⟨_,rfl,_,rfl,_,_,rfl,rfl,⟨h0,m,hm,h1⟩,_,rfl,_,rfl,_,_,rfl,rfl,⟨h0,m,hm,h1⟩,UM,fun p hp=>?_⟩;refine q p _ (Aa hp _) ?_;rw[AI];show some (HO.tup [V.int (t.fdiv (FM.gs t b)),V.int (b.fdiv (FM.gs t b))])=_;rw[FM.UK hb,FM.Tw hb]
  rfl
end
def OV{c b:Int}(hc:1≤c)(hb:1≤b):1≤c.fdiv (FM.gi c b)*b∧c ∣ c.fdiv (FM.gi c b)*b∧b ∣ c.fdiv (FM.gi c b)*b∧(c.fdiv (FM.gi c b)).natAbs≤c.natAbs:=by
 have hg:0<FM.gi c b:=FM.J3 (by lia);obtain⟨q,hq⟩:=FM.LM c b;obtain⟨r,hr⟩:=FM.KP c b;have e:=FM.Eu (Int.ne_of_gt hg) hq;refine⟨?_,?_,Int.dvd_mul_left _ _,FM.IA _ _⟩
 ·rw[e];have hq0:0<q:=by
   rcases Int.lt_or_le 0 q with h|h
   ·exact h
   ·have:=Int.mul_nonpos_of_nonneg_of_nonpos (Int.le_of_lt hg) h
    lia
  exact Int.mul_pos hq0 (by lia)
 ·rw[e];refine⟨r,?_⟩;rw[hr]
  conv=>rhs;rw[hq]
  rw[←hr,Int.mul_comm (FM.gi c b) q,Int.mul_assoc,Int.mul_comm (FM.gi c b) r]
  conv=>lhs;rw[hr]
  rw[Int.mul_comm (FM.gi c b) r]
def V7:Sp:=fun vs H Q _=>∃(b:Int) (p k:Nat),vs=[.int b,.int p]∧b.natAbs<2^k∧k*p≤4000∧Q (.int (b^p)) H
def ML{b:Int}{k e p:Nat}(hb:b.natAbs<2^k)(he:e≤p):(b^e).natAbs<2^(k*p+1):=by
 rw[Int.natAbs_pow];have h1:b.natAbs^e≤(2^k)^e:=Nat.pow_le_pow_left (bA hb) e;rw[←Nat.pow_mul]at h1;exact ag h1 (Nat.pow_lt_pow_right (by decide) (Nat.lt_succ_of_le (au k he)))
def fI(σ:St):Nat:=match σ[4]? with|some (some (V.int l))=>l.natAbs|_=>0
section
variable{P:Program}{w:World}{K:Fg}{mg:Str→Option VL}{base:Heap}{f:AD}{fd:FuncData}
def LY:Ac ["bottoms", "common", "bottom"] ["bottoms"] (AO FP):=CB
def QI:Ac ["base", "power", "product", "square", "left"] ["base", "power"] (AO JG):=CB
def QN(F:Fn K mg "power_of" JG ["base", "power"] f fd):AL P w K mg base Ah 1 f fd ["base", "power"] V7:=by
 have sc:=QI;refine F.F.ok (k:=0) sc (fun vs H Q E h=>?_) (fun cdv A outer s H vs Q E hr h=>?_)
 ·obtain⟨b,p,k,rfl,_⟩:=h
  rfl
 obtain⟨b,p,k,rfl,hb,hk,q⟩:=h;refine⟨_,(AY (BL (i:=2) sc.nd rfl (Or.inl rfl) Ao)
 (AY (BL (i:=3) sc.nd rfl (Or.inl rfl) (pv 0))
 (AY (BL (i:=4) sc.nd rfl (Or.inl rfl) (pv 1))
 (AY (Lg aW (Bt Mf (pv 4) Ao (A9 _))
  (AY (Df (Bt OH (B0 bf (pv 4) Ao) Ao (A9 _))
   (Ad (BL (i:=2) sc.nd rfl (Or.inl rfl) (B0 Fq (pv 2) (pv 3))))
   B8)
  (AY (BL (i:=4) sc.nd rfl (Or.inl rfl) (B0 XQ (pv 4) Ao))
  (Ad (Df (Bt Mf (pv 4) Ao (A9 _))
   (Ad (BL (i:=3) sc.nd rfl (Or.inl rfl) (B0 Fq (pv 3) (pv 3))))
   B8)))))
 (Ad (BJ (pv 2))))))),?_⟩
 refine⟨_,rfl,_,rfl,?_⟩;refine Lh (fun σ H'=>∃e f l:Nat,σ=[some (.int b),some (.int p),some (.int (b^e)),some (.int (b^f)),some (.int l)]∧H=H'∧e+f*l=p) (fun σ _=>fI σ) ?_ ?_ ?_
 ·refine⟨0,1,p,?_,rfl,by lia⟩;rw[Int.pow_zero,Int.pow_succ,Int.pow_zero,Int.one_mul]
  rfl
 ·rintro σ H' ⟨e,f,l,rfl,rfl,he⟩;refine⟨_,rfl,_,_,rfl,rfl,_,rfl,Cm (fun c=>?_) (fun c=>?_)⟩
  ·have hl:0<l:=by have:=aV c;lia
   have hfp:f≤p:=by
    have:f*1≤f*l:=au f hl
    lia
   try dsimp only[Cw]
   refine Lj (fun σ' H'=>∃e':Nat,σ'=[some (.int b),some (.int p),some (.int (b^e')),some (.int (b^f)),some (.int l)]∧H=H'∧e'+f*(2*(l / 2))=p) (fun nx hnx=>?_) ?_
   ·refine⟨_,rfl,_,_,rfl,rfl,(by show(0:Int)<2;decide),rfl,_,rfl,Cm (fun c=>?_) (fun c=>?_)⟩
    ·have hodd:l % 2=1:=by
      have:((l:Int) % 2)=1:=by simpa using c
      lia
     refine⟨_,rfl,_,rfl,_,_,rfl,rfl,RN (ML hb (show e≤p by lia)) (ML hb hfp) (by lia),hnx _ _ ⟨e+f,?_,rfl,?_⟩⟩
     ·show [some (V.int b),some (V.int p),some (V.int (b^e*b^f)),some (V.int (b^f)),some (V.int l)]=_;rw[←Int.pow_add]
     ·have:l=2*(l / 2)+1:=by lia
      rw[←he]
      conv=>rhs;rw[this,Nat.mul_add,Nat.mul_one]
      lia
    ·have hev:l % 2=0:=by
      have:¬((l:Int) % 2)=1:=by simpa using c
      lia
     refine hnx _ _ ⟨e,rfl,rfl,?_⟩;rw[show 2*(l / 2)=l by lia];exact he
   ·rintro σ' _ ⟨e',rfl,rfl,he'⟩;refine⟨_,rfl,_,_,rfl,rfl,⟨by decide,by decide⟩,?_⟩;have el:((l:Int) / 2)=((l / 2:Nat):Int):=by lia
    refine⟨_,rfl,_,_,rfl,rfl,_,rfl,Cm (fun c=>?_) (fun c=>?_)⟩
    ·refine⟨_,rfl,_,rfl,_,_,rfl,rfl,RN (ML hb hfp) (ML hb hfp) (by lia),⟨e',f+f,l / 2,?_,rfl,?_⟩,?_⟩
     ·show [some (V.int b),some (V.int p),some (V.int (b^e')),some (V.int (b^f*b^f)),some (V.int ((l:Int) / 2))]=_;rw[el,←Int.pow_add]
     ·rw[←he',←Nat.two_mul,Nat.mul_assoc,Nat.mul_left_comm]
     ·show((l:Int) / 2).natAbs<((l:Nat):Int).natAbs
      lia
    ·refine⟨⟨e',f,l / 2,?_,rfl,?_⟩,?_⟩
     ·show [some (V.int b),some (V.int p),some (V.int (b^e')),some (V.int (b^f)),some (V.int ((l:Int) / 2))]=_;rw[el]
     ·have:l / 2=0:=by have:=bC (ak.mpr c);lia
      rw[this]at he' ⊢
      simpa using he'
     ·show((l:Int) / 2).natAbs<((l:Nat):Int).natAbs
      lia
  ·have hl:l=0:=by have:=bC (ak.mpr c);lia
   subst hl;rw[Nat.mul_zero,Nat.add_zero]at he;subst he;exact⟨_,rfl,q⟩
 ·exact fun σ H Q Q' hq ⟨v,e,s,k,e2,e3,e4,q1,q2⟩=>⟨v,e,s,k,e2,e3,e4,q1,hq _ _ q2⟩
end
def DU(H:Hp)(d:PD)(v:V):Prop:=∃N:Nat,∀l,N≤l→Dt l H d v
def CG(H:Hp)(ds:List PD)(xs:List V):Prop:=∃N:Nat,∀l,N≤l→Ar l H ds xs
def DU.same{H H':Hp}{d:PD}{v:V}(h:DU H d v)(e:AG H H'):DU H' d v:=let⟨N,k⟩:=h;⟨N,fun l hl=>(k l hl).same e⟩
def CG.same{H H':Hp}{d:List PD}{v:List V}(h:CG H d v)(e:AG H H'):CG H' d v:=let⟨N,k⟩:=h;⟨N,fun l hl=>(k l hl).same e⟩
def DU.int{H:Hp}{i:Int}:DU H (.int i) (.int i):=⟨0,fun _ _=>.int⟩
def DU.bool{H:Hp}{i:Bool}:DU H (.bool i) (.bl i):=⟨0,fun _ _=>.bool⟩
def DU.BI{H:Hp}:DU H .none .BI:=⟨0,fun _ _=>.BI⟩
def DU.str{H:Hp}{x:Str}:DU H (.str x) (.str x):=⟨0,fun _ _=>.str⟩
def CG.nil{H:Hp}:CG H [] []:=⟨0,fun _ _=>.nil⟩
def CG.cons{H:Hp}{d:PD}{ds:List PD}{x:V}{xs:List V}(h:DU H d x)(k:CG H ds xs):CG H (d::ds) (x::xs) :=
 let⟨N,a⟩:=h;let⟨M,b⟩:=k;⟨max N M,fun l hl=>.cons (a l (by lia)) (b l (by lia))⟩
def CG.len{H:Hp}{ds:List PD}{xs:List V}(h:CG H ds xs):xs.length=ds.length:=let⟨N,a⟩:=h;(a N (aG _)).len
def CG.get{H:Hp}{ds:List PD}{xs:List V}{i:Nat}{d:PD}(h:CG H ds xs)(e:ds[i]? = some d):∃v,xs[i]? = some v∧DU H d v:=by
 have hl:=h.len;have hi:i<xs.length:=by rw[hl];exact(aE.mp e).1
 have hx:xs[i]? = some xs[i]:=by simp[hi]
 obtain⟨N,a⟩:=h;refine⟨xs[i],hx,N,fun l hl=>?_⟩;obtain⟨d',h1,h2⟩:=(a l hl).get hx;rw[e]at h1;cases h1;exact h2
def DU.lst{H:Hp}{a:AD}{ds:List PD}{xs:List V}(h:H a=some (.lst xs))(k:CG H ds xs):DU H (.list ds) (.ref a) :=
 let⟨N,b⟩:=k;⟨max N (a+1),fun l hl=>.lst (aK (show a<l from aI (bP a) (aM (Nat.le_max_right _ _) hl))) h (b l (by lia))⟩
def DU.tup{H:Hp}{a:AD}{ds:List PD}{xs:List V}(h:H a=some (.tup xs))(k:CG H ds xs):DU H (.tuple ds) (.ref a) :=
 let⟨N,b⟩:=k;⟨max N (a+1),fun l hl=>.tup (aK (show a<l from aI (bP a) (aM (Nat.le_max_right _ _) hl))) h (b l (by lia))⟩
def DU.Zb{H:Hp}{ds:List PD}{v:V}(h:DU H (.list ds) v):∃a xs,v=.ref a∧H a=some (.lst xs)∧CG H ds xs:=by
 obtain⟨N,b⟩:=h;have h0:=b N (aG _);rw[Dt]at h0;obtain⟨a,xs,rfl,_,ha,_⟩:=h0;refine⟨a,xs,rfl,ha,N,fun l hl=>?_⟩;have h1:=b l hl;rw[Dt]at h1;obtain⟨a',xs',e,_,ha',hx'⟩:=h1;cases e;rw[ha]at ha';cases ha';exact hx'
def DU.dB{H:Hp}{ds:List PD}{v:V}(h:DU H (.tuple ds) v):∃a xs,v=.ref a∧H a=some (.tup xs)∧CG H ds xs:=by
 obtain⟨N,b⟩:=h;have h0:=b N (aG _);rw[Dt]at h0;obtain⟨a,xs,rfl,_,ha,_⟩:=h0;refine⟨a,xs,rfl,ha,N,fun l hl=>?_⟩;have h1:=b l hl;rw[Dt]at h1;obtain⟨a',xs',e,_,ha',hx'⟩:=h1;cases e;rw[ha]at ha';cases ha';exact hx'
def CG.Qk{H:Hp}{d e:PD}{xs:List V}(h:CG H [d,e] xs):∃x y,xs=[x,y]∧DU H d x∧DU H e y:=by
 obtain⟨x,h1,h2⟩:=h.get (i:=0) rfl;obtain⟨y,h3,h4⟩:=h.get (i:=1) rfl;have:=h.len
 match xs,this with
 |[a,b],_ =>
  simp at h1 h3;subst h1 h3;exact⟨a,b,rfl,h2,h4⟩
def DU.ints{H:Hp}{ps:List Int}{v:V}(h:DU H (.tuple (ps.map .int)) v):∃a,v=.ref a∧H a=some (.tup (ps.map V.int)):=by
 obtain⟨a,xs,rfl,ha,hx⟩:=h.dB;refine⟨a,rfl,?_⟩;rw[ha]
 congr 2
 obtain⟨N,b⟩:=hx;have:=b N (aG _);clear b ha h
 induction ps generalizing xs with
 |nil=>rw[List.map_nil,Ar]at this;exact this
 |cons p ps ih =>
  rw[List.map_cons,Ar]at this;obtain⟨x,r,rfl,h1,h2⟩:=this;rw[Dt]at h1;subst h1;rw[List.map_cons,ih r h2]
def Dg:PD→Bool
 |.tuple [.int a,.int b]=>decide (1≤b)&&(FM.gi a b==1)
 |_=>false
def LU{ds:List PD}(h:ds.length≠2∨∃d0 d1,ds=[d0,d1]∧((HJ d0 && !Fu d0)=false∨(HJ d1 && !Fu d1)=false)):Dg (.tuple ds)=false:=by
 rcases h with h|⟨d0,d1,rfl,h⟩
 ·match ds,h with
  |[],_=>rfl
  |[a],_=>cases a<;>rfl
  |[_,_],h=>exact absurd rfl h
  |a::b::_::_,_=>cases a<;>first|rfl|(cases b<;>rfl)
 ·cases d0<;>first|rfl|(cases d1<;>first|rfl|(exfalso;rcases h with h|h<;>exact absurd h (by simp[HJ,Fu])))
def Tj:Sp:=fun vs H Q _=>∃l d v,vs=[v]∧Dt l H d v∧Q (.bl (HJ d && !Fu d)) H
def UW:Sp:=fun vs H Q _=>∃l d v,vs=[v]∧Dt l H d v∧Q (.bl (Dg d)) H
def Nd{d:PD}(h:(HJ d && !Fu d)=true):∃i,d=.int i:=by
 cases d<;>first|exact⟨_,rfl⟩|(exact absurd h (by simp[HJ,Fu]))|(rename_i b;cases b<;>exact absurd h (by decide))
section
variable{P:Program}{w:World}{K:Fg}{mg:Str→Option VL}{base:Heap}{f g1 g2:AD}{fd gd1 gd2:FuncData}
def QH:Ac ["thing"] ["thing"] (AO JD):=CB
def QF(F:Fn K mg "is_whole" JD ["thing"] f fd)(A3:mg "isinstance" = none)(SO:mg "int" = none)(Pt:mg "bool" = none):AL P w K mg base Ah 1 f fd ["thing"] Tj:=by
 have sc:=QH;refine F.F.ok (k:=0) sc (fun vs H Q E h=>?_) (fun cdv A outer s H vs Q E hr h=>?_)
 ·obtain⟨l,d,v,rfl,_⟩:=h
  rfl
 obtain⟨l,d,v,rfl,hd,q⟩:=h;refine⟨_,(Ad (BJ (Kb (BB Fs rfl A3 ax (AH (pv 0) (AH (Gr (v:=.ty "int") rfl SO PyProof.Rows.boot_int rfl) AU))) (MX (YF (BB Fs rfl A3 ax (AH (pv 0) (AH (Gr (v:=.ty "bool") rfl Pt PyProof.Rows.boot_bool rfl) AU)))))))),?_⟩;refine⟨_,rfl,_,_,_,_,rfl,Q6,hd.ty,VB K d hd.nodict,_,rfl,Cm (fun c=>⟨_,rfl,_,_,_,_,rfl,Q6,hd.ty,Ui K d hd.nodict,_,rfl,?_⟩) (fun c=>?_)⟩
 ·rw[c,Bool.true_and]at q;exact q
 ·rw[Bool.eq_false_iff.mpr c,Bool.false_and]at q;exact q
def M1:Ac ["thing"] ["thing"] (AO GR):=CB
def Mu(F:Fn K mg "is_fraction" GR ["thing"] f fd)(FK:Fn K mg "is_whole" JD ["thing"] g1 gd1)(A5:Fn K mg "greatest_divisor" B2 ["one", "other"] g2 gd2)
 (L1:AL P w K mg base Ah 1 g1 gd1 ["thing"] Tj)(B3:AL P w K mg base Ah 1 g2 gd2 ["one", "other"] RU)(A3:mg "isinstance" = none)(EU:mg "tuple" = none)(Bl:mg "len" = none):AL P w K mg base Ah 2 f fd ["thing"] UW:=by
 have sc:=M1;refine F.F.ok (k:=1) sc (fun vs H Q E h=>?_) (fun cdv A outer s H vs Q E hr h=>?_)
 ·obtain⟨l,d,v,rfl,_⟩:=h
  rfl
 obtain⟨l,d,v,rfl,hd,q⟩:=h;refine⟨_,(AY (Df (PW.pt (JJ (Ew (Ex (BB Fs rfl A3 ax (AH (pv 0) (AH (Gr (v:=.ty "tuple") rfl EU PyProof.Rows.boot_tuple rfl) AU))))) (Ig (Bt OC (BB Bk rfl Bl bE (AH (pv 0) AU)) Ao (A9 _)))))
  (Ad (BJ F3))
  B8)
 (AY (Df (PW.pt (JJ (Ew (Ex (B9 FK L1 hr rfl (AH (CM CS (pv 0) Ao (fun _ _=>rfl)) AU)))) (Ig (Ew (Ex (B9 FK L1 hr rfl (AH (CM CS (pv 0) Ao (fun _ _=>rfl)) AU)))))))
  (Ad (BJ F3))
  B8)
 (Ad (BJ (Kb (Kn WO (CM CS (pv 0) Ao (fun _ _=>rfl)) Ao (A9 _)) (MX (Kn OH (B9 A5 B3 hr rfl (AH (CM CS (pv 0) Ao (fun _ _=>rfl)) (AH (CM CS (pv 0) Ao (fun _ _=>rfl)) AU))) Ao (A9 _)))))))),?_⟩
 refine⟨_,rfl,_,_,_,_,rfl,Q6,hd.ty,O9 K d hd.nodict,_,rfl,?_⟩;have no:Dx d=false→Dg d=false:=fun z=>by cases d<;>first|rfl|exact absurd z (by simp[Dx])
 by_cases ht:Dx d=true
 ·rw[ht];obtain⟨ds,rfl⟩:∃ds,d=.tuple ds:=by cases d<;>first|exact⟨_,rfl⟩|exact absurd ht (by simp[Dx])
  rw[Dt]at hd;obtain⟨a,xs,rfl,na,ha,hx⟩:=hd;have hlen:=hx.len;have s1:Au K H a xs:=Au.of ha;refine QB ⟨_,rfl,a,xs,rfl,.inr s1,rfl,_,rfl,Cm (fun c=>?_) (fun c=>?_)⟩
  ·have:ds.length≠2:=by
    rw[←hlen];intro z;rw[z]at c;exact absurd c (by decide)
   rw[LU (.inl this)]at q;exact q
  ·have h2:xs.length=2:=by
    by_cases z:xs.length=2
    ·exact z
    ·exfalso
     refine c ?_;have:¬(V.int (xs.length:Nat)=V.int 2):=by simp;lia
     rw[decide_eq_false this];rfl
   obtain⟨d0,d1,rfl⟩:∃d0 d1,ds=[d0,d1]:=by
    match ds,(show ds.length=2 by lia) with
    |[x,y],_=>exact⟨x,y,rfl⟩
   rw[Ar]at hx;obtain⟨x0,r,rfl,hx0,hx⟩:=hx;rw[Ar]at hx;obtain⟨x1,r,rfl,hx1,hx⟩:=hx;rw[Ar]at hx;subst hx;refine⟨_,rfl,_,_,_,_,rfl,rfl,s1,rfl,l,d0,x0,rfl,hx0,_,rfl,Cm (fun c0=>?_) (fun c0=>?_)⟩
   ·rw[LU (.inr ⟨d0,d1,rfl,.inl (by simp at c0;rcases c0 with c|c<;>simp[c])⟩)]at q;exact q
   refine⟨_,rfl,_,_,_,_,rfl,rfl,s1,rfl,l,d1,x1,rfl,hx1,_,rfl,Cm (fun c1=>?_) (fun c1=>?_)⟩
   ·rw[LU (.inr ⟨d0,d1,rfl,.inr (by simp at c1;rcases c1 with c|c<;>simp[c])⟩)]at q;exact q
   obtain⟨i,rfl⟩:=Nd (d:=d0) (by simpa using c0);obtain⟨j,rfl⟩:=Nd (d:=d1) (by simpa using c1);rw[Dt]at hx0 hx1;subst hx0 hx1;refine⟨_,rfl,_,_,_,_,rfl,rfl,s1,rfl,_,_,rfl,rfl,_,rfl,Cm (fun c=>?_) (fun c=>?_)⟩
   ·refine⟨_,rfl,_,_,_,_,rfl,rfl,s1,rfl,_,rfl,_,_,_,_,rfl,rfl,s1,rfl,i,j,rfl,rfl,?_⟩;have hj:1≤j:=by have:=aV c;lia
    have e:Dg (.tuple [.int i,.int j])=decide (V.int (FM.gi i j)=V.int 1):=by
     rw[Dg,decide_eq_true hj,Bool.true_and,Bool.eq_iff_iff];simp
    rw[e]at q;exact q
   ·have hj:¬1≤j:=fun z=>c (decide_eq_true (by lia));have e:Dg (.tuple [.int i,.int j])=false:=by rw[Dg,decide_eq_false hj,Bool.false_and]
    rw[e]at q;exact q
 ·rw[Bool.eq_false_iff.mpr ht];rw[no (ak.mpr ht)]at q;exact Dd (Dd q)
end
def CQ:PD→Bool
 |.list ds=>ds.all Dg
 |_=>false
def FY:PD→Nat
 |.list ds=>ds.length
 |_=>0
def rowAt(ds:List PD)(i:Nat):Bool:=match ds[i]? with
 |some d=>CQ d&&decide (FY d=i)
 |none=>true
def Il(ds:List PD):Bool:=(List.range ds.length).all (rowAt ds)
def CF:PD→Bool
 |.list ds=>decide (1≤ds.length)&&(decide (ds.length≤40)&&Il ds)
 |_=>false
def Ed:PD→Bool
 |.tuple [r,l]=>CF r&&(CQ l&&decide (FY l=FY r))
 |_=>false
def TF{d:PD}(h:C4 d=false):CQ d=false:=by cases d<;>first|rfl|exact absurd h (by simp[C4])
def QU{d:PD}(h:C4 d=false):CF d=false:=by cases d<;>first|rfl|exact absurd h (by simp[C4])
def Su{d:PD}(h:Dx d=false):Ed d=false:=by cases d<;>first|rfl|exact absurd h (by simp[Dx])
def RO{ds:List PD}(h:ds.length≠2):Ed (.tuple ds)=false:=by
 match ds,h with
 |[],_=>rfl
 |[_],_=>rfl
 |[_,_],h=>exact absurd rfl h
 |_::_::_::_,_=>rfl
def HI{d:PD}(h:C4 d=true):∃ds,d=.list ds:=by cases d<;>first|exact⟨_,rfl⟩|exact absurd h (by simp[C4])
def VA{d:PD}(h:Dx d=true):∃ds,d=.tuple ds:=by cases d<;>first|exact⟨_,rfl⟩|exact absurd h (by simp[Dx])
def Ma{d:PD}(h:CQ d=true):C4 d=true:=by cases d<;>first|rfl|exact absurd h (by simp[CQ])
def Pf{d:PD}(h:CF d=true):C4 d=true:=by cases d<;>first|rfl|exact absurd h (by simp[CF])
def NW{ds:List PD}(h:∀j,j<ds.length→rowAt ds j=true):Il ds=true:=by
 unfold Il;rw[List.all_eq_true];intro j hj;exact h j (ae.mp hj)
def NZ{ds:List PD}{i:Nat}(hi:i<ds.length)(h:rowAt ds i=false):Il ds=false:=by
 refine ak.mpr fun z=>?_;unfold Il at z;rw[List.all_eq_true]at z;rw[z i (ae.mpr hi)]at h;cases h
def JI{ds:List PD}{i:Nat}{d:PD}(h:ds[i]? = some d):rowAt ds i=(CQ d&&decide (FY d=i)):=by unfold rowAt;rw[h]
def Mp:Sp:=fun vs H Q _=>∃l d v,vs=[v]∧Dt l H d v∧Q (.bl (CQ d)) H
def S7:Sp:=fun vs H Q _=>∃l d v,vs=[v]∧Dt l H d v∧∀H',AG H H'→Q (.bl (CF d)) H'
def XW:Sp:=fun vs H Q _=>∃l d v,vs=[v]∧Dt l H d v∧∀H',AG H H'→Q (.bl (Ed d)) H'
section
variable{P:Program}{w:World}{K:Fg}{mg:Str→Option VL}{base:Heap}{f g1 g2:AD}{fd gd1 gd2:FuncData}
def Lo:Ac ["thing", "part"] ["thing"] (AO Dp):=CB
def LR(F:Fn K mg "are_fractions" Dp ["thing"] f fd)(Ee:Fn K mg "is_fraction" GR ["thing"] g1 gd1)
 (N1:AL P w K mg base Ah 2 g1 gd1 ["thing"] UW)(A3:mg "isinstance" = none)(C2:mg "list" = none):AL P w K mg base Ah 3 f fd ["thing"] Mp:=by
 have sc:=Lo;refine F.F.ok (k:=2) sc (fun vs H Q E h=>?_) (fun cdv A outer s H vs Q E hr h=>?_)
 ·obtain⟨l,d,v,rfl,_⟩:=h
  rfl
 obtain⟨l,d,v,rfl,hd,q⟩:=h;refine⟨_,(AY (Df (Ew (Ex (BB Fs rfl A3 ax (AH (pv 0) (AH (Gr (v:=.ty "list") rfl C2 bQ rfl) AU)))))
  (Ad (BJ F3))
  B8)
 (AY (Gu aW rfl (DV (pv 0)) (BM (i:=1) sc.nd rfl (Or.inl rfl))
  (Ad (Df (Ew (Ex (B9 Ee N1 hr rfl (AH (pv 1) AU))))
   (Ad (BJ F3))
   B8)))
 (Ad (BJ F3)))),?_⟩
 refine⟨_,rfl,_,_,_,_,rfl,Q6,hd.ty,Pj K d hd.nodict,_,rfl,?_⟩;by_cases hL:C4 d=false
 ·rw[hL];rw[TF hL]at q;exact Dd q
 have hL:C4 d=true:=by simpa using hL
 rw[hL];refine QB ?_;obtain⟨ds,rfl⟩:=HI hL;rw[Dt]at hd;obtain⟨a,xs,rfl,na,ha,ht⟩:=hd;have hlen:=ht.len;refine⟨_,rfl,a,rfl,⟨_,Ae.of ha⟩,JU (xs:=xs) (fun i σ H'=>∃r1,σ=[some (.ref a),r1]∧H=H'∧∀j c,j<i→ds[j]? = some c→Dg c=true) ?_ ?_ ?_ ?_⟩
 ·exact⟨_,rfl,rfl,fun j c h=>absurd h (ah _)⟩
 ·rintro i σ H' _ ⟨r1,rfl,rfl,_⟩;exact Ae.of ha
 ·rintro i x σ H' hx ⟨r1,rfl,rfl,hf⟩;obtain⟨c,hc,tc⟩:=ht.get hx;refine⟨_,rfl,l,c,x,rfl,tc,_,rfl,Cm (fun b=>?_) (fun b=>?_)⟩
  ·have hb:Dg c=false:=by simpa using b
   have e:CQ (.list ds)=false:=ak.mpr fun z=>by
    rw[CQ,List.all_eq_true]at z;rw[z c (aP hc)]at hb;cases hb
   rw[e]at q;exact q
  ·have hb:Dg c=true:=by simpa using b
   refine⟨_,rfl,rfl,fun j e hj he=>?_⟩;by_cases z:j=i
   ·subst z;rw[hc]at he;cases he;exact hb
   ·exact hf j e (by lia) he
 ·rintro σ H' ⟨r1,rfl,rfl,hf⟩;have e:CQ (.list ds)=true:=by
   rw[CQ,List.all_eq_true];intro c hc;obtain⟨j,hj⟩:=List.getElem?_of_mem hc;exact hf j c (by rw[hlen];exact(aE.mp hj).1) hj
  rw[e]at q;exact q
def QD:Ac ["thing", "k", "row"] ["thing"] (AO JK):=CB
def QP{tk:Tok}(F:Fn K mg "are_rows" JK ["thing"] f fd)(Bo:Fn K mg "are_fractions" Dp ["thing"] g1 gd1)
 (Ez:AL P w K mg base Ah 3 g1 gd1 ["thing"] Mp)(DY:mg "MOST_ROWS" = some (.int 40 tk))(A3:mg "isinstance" = none)(C2:mg "list" = none)(Bl:mg "len" = none)(Cg:mg "enumerate" = none):AL P w K mg base Ah 4 f fd ["thing"] S7:=by
 have sc:=QD;refine F.F.ok (k:=3) sc (fun vs H Q E h=>?_) (fun cdv A outer s H vs Q E hr h=>?_)
 ·obtain⟨l,d,v,rfl,_⟩:=h
  rfl
 obtain⟨l,d,v,rfl,hd,q⟩:=h;refine⟨_,(AY (Df (PW.pt (JJ (Ew (Ex (BB Fs rfl A3 ax (AH (pv 0) (AH (Gr (v:=.ty "list") rfl C2 bQ rfl) AU))))) (JJ (Bt OI (BB Bk rfl Bl bE (AH (pv 0) AU)) Ao (A9 _)) (Ig (Bt Mf (BB Bk rfl Bl bE (AH (pv 0) AU)) (Kf (v:=.int 40) rfl DY ⟨_,rfl⟩) (A9 _))))))
  (Ad (BJ F3))
  B8)
 (AY (Gu aW rfl (OS rfl Cg (AH (pv 0) AU)) (L9 rfl (C9 (BM (i:=1) sc.nd rfl (Or.inl rfl)) (C9 (BM (i:=2) sc.nd rfl (Or.inl rfl)) Ki)))
  (Ad (Df (PW.pt (JJ (Ew (Ex (B9 Bo Ez hr rfl (AH (pv 2) AU)))) (Ig (Bt OC (BB Bk rfl Bl bE (AH (pv 2) AU)) (pv 1) (A9 _)))))
   (Ad (BJ F3))
   B8)))
 (Ad (BJ F3)))),?_⟩
 refine⟨_,rfl,_,_,_,_,rfl,Q6,hd.ty,Pj K d hd.nodict,_,rfl,?_⟩;by_cases hL:C4 d=false
 ·rw[hL];have:=q H (.refl H);rw[QU hL]at this;exact Dd (Dd this)
 have hL:C4 d=true:=by simpa using hL
 rw[hL];refine QB ?_;obtain⟨ds,rfl⟩:=HI hL;rw[Dt]at hd;obtain⟨a,xs,rfl,na,ha,ht⟩:=hd;have hlen:=ht.len;refine⟨_,rfl,a,xs,rfl,.inl (Ae.of ha),_,_,rfl,rfl,_,rfl,Cm (fun c=>?_) (fun c=>?_)⟩
 ·have e:CF (.list ds)=false:=by
   have:¬1≤ds.length:=by rw[←hlen];have:=aV c;lia
   rw[CF,decide_eq_false this,Bool.false_and]
  have:=q H (.refl H);rw[e]at this;exact Dd this
 have h1:1≤ds.length:=by rw[←hlen];have:=bC (ak.mpr c);lia
 refine⟨_,rfl,a,xs,rfl,.inl (Ae.of ha),_,_,rfl,rfl,_,rfl,Cm (fun c=>?_) (fun c=>?_)⟩
 ·have e:CF (.list ds)=false:=by
   have:¬ds.length≤40:=by rw[←hlen];have:=aV c;lia
   rw[CF,decide_eq_false this,Bool.false_and,Bool.and_false]
  have:=q H (.refl H);rw[e]at this;exact this
 have h2:ds.length≤40:=by rw[←hlen];have:=bC (ak.mpr c);lia
 have e:CF (.list ds)=Il ds:=by rw[CF,decide_eq_true h1,decide_eq_true h2,Bool.true_and,Bool.true_and]
 rw[e]at q;refine⟨_,rfl,a,rfl,⟨_,Ae.of ha⟩,Sx (xs:=xs) (fun i σ H'=>∃r1 r2,σ=[some (.ref a),r1,r2]∧AG H H'∧∀j,j<i→rowAt ds j=true) ?_ ?_ ?_ ?_⟩
 ·exact⟨_,_,rfl,.refl _,fun j h=>absurd h (ah _)⟩
 ·rintro i σ H' _ ⟨r1,r2,rfl,e,_⟩;exact Ae.of (e _ _ ha)
 ·rintro i x σ H0 hx ⟨r1,r2,rfl,e0,hf⟩ p hp;obtain⟨c,hc,tc⟩:=ht.get hx;have hi:i<ds.length:=(aE.mp hc).1;have s1:=Aa hp (.tup [.int (i:Nat),x]);have e1:=e0.trans s1;have hp':(upd H0 p (.tup [.int (i:Nat),x])) p=some (.tup [.int (i:Nat),x]):=AI;generalize upd H0 p (.tup [.int (i:Nat),x])=H1 at s1 e1 hp';have tc:=tc.same e1;refine⟨p,_,rfl,Au.of hp',rfl,_,_,rfl,_,_,rfl,rfl,?_⟩;refine⟨_,rfl,l,c,x,rfl,tc,_,rfl,Cm (fun b=>?_) (fun b=>?_)⟩
  ·have hb:CQ c=false:=by simpa using b
   have:=q H1 e1;rw[NZ hi (by rw[JI hc,hb,Bool.false_and])]at this;exact Dd this
  have hb:CQ c=true:=by simpa using b
  obtain⟨cs,rfl⟩:=HI (Ma hb);rw[Dt]at tc;obtain⟨b,ys,rfl,nb,hb',hy⟩:=tc;refine⟨_,rfl,b,ys,rfl,.inl (Ae.of hb'),_,rfl,rfl,_,rfl,Cm (fun z=>?_) (fun z=>?_)⟩
  ·have hne:¬FY (.list cs)=i:=by
    rw[FY,←hy.len];intro zz;rw[zz]at z;simp at z
   have:=q H1 e1;rw[NZ hi (by rw[JI hc,hb,decide_eq_false hne,Bool.and_false])]at this;exact this
  ·have hne:FY (.list cs)=i:=by
    rw[FY,←hy.len];by_cases zz:ys.length=i
    ·exact zz
    ·exfalso
     refine z ?_;have:¬(V.int (ys.length:Nat)=V.int (i:Nat)):=by simp;lia
     rw[decide_eq_false this];rfl
   refine⟨_,_,rfl,e1,fun j hj=>?_⟩;by_cases zz:j=i
   ·subst zz;rw[JI hc,hb,decide_eq_true hne,Bool.and_self]
   ·exact hf j (by lia)
 ·rintro σ H' ⟨r1,r2,rfl,e1,hf⟩;have:=q H' e1;rw[NW fun j hj=>hf j (by rw[hlen];exact hj)]at this;exact this
def QX:Ac ["thing"] ["thing"] (AO JH):=CB
def QE(F:Fn K mg "is_table" JH ["thing"] f fd)(Gg:Fn K mg "are_rows" JK ["thing"] g1 gd1)(Bo:Fn K mg "are_fractions" Dp ["thing"] g2 gd2)
 (Ru:AL P w K mg base Ah 4 g1 gd1 ["thing"] S7)(Ez:AL P w K mg base Ah 4 g2 gd2 ["thing"] Mp)(A3:mg "isinstance" = none)(EU:mg "tuple" = none)(Bl:mg "len" = none):AL P w K mg base Ah 5 f fd ["thing"] XW:=by
 have sc:=QX;refine F.F.ok (k:=4) sc (fun vs H Q E h=>?_) (fun cdv A outer s H vs Q E hr h=>?_)
 ·obtain⟨l,d,v,rfl,_⟩:=h
  rfl
 obtain⟨l,d,v,rfl,hd,q⟩:=h;refine⟨_,(AY (Df (PW.pt (JJ (Ew (Ex (BB Fs rfl A3 ax (AH (pv 0) (AH (Gr (v:=.ty "tuple") rfl EU PyProof.Rows.boot_tuple rfl) AU))))) (Ig (Bt OC (BB Bk rfl Bl bE (AH (pv 0) AU)) Ao (A9 _)))))
  (Ad (BJ F3))
  B8)
 (Ad (BJ (Kb (B9 Gg Ru hr rfl (AH (CM CS (pv 0) Ao (fun _ _=>rfl)) AU)) (Kb (B9 Bo Ez hr rfl (AH (CM CS (pv 0) Ao (fun _ _=>rfl)) AU)) (MX (Kn OH (BB Bk rfl Bl bE (AH (CM CS (pv 0) Ao (fun _ _=>rfl)) AU)) (BB Bk rfl Bl bE (AH (CM CS (pv 0) Ao (fun _ _=>rfl)) AU)) (A9 _)))))))),?_⟩
 refine⟨_,rfl,_,_,_,_,rfl,Q6,hd.ty,O9 K d hd.nodict,_,rfl,?_⟩;by_cases hL:Dx d=false
 ·rw[hL];have:=q H (.refl H);rw[Su hL]at this;exact Dd (Dd this)
 have hL:Dx d=true:=by simpa using hL
 rw[hL];refine QB ?_;obtain⟨ds,rfl⟩:=VA hL;rw[Dt]at hd;obtain⟨a,xs,rfl,na,ha,hx⟩:=hd;have hlen:=hx.len;have s1:Au K H a xs:=Au.of ha;refine⟨_,rfl,a,xs,rfl,.inr s1,rfl,_,rfl,Cm (fun c=>?_) (fun c=>?_)⟩
 ·have:ds.length≠2:=by
   rw[←hlen];intro z;rw[z]at c;exact absurd c (by decide)
  have q:=q H (.refl H);rw[RO this]at q;exact q
 have h2:xs.length=2:=by
  by_cases z:xs.length=2
  ·exact z
  ·exfalso
   refine c ?_;have:¬(V.int (xs.length:Nat)=V.int 2):=by simp;lia
   rw[decide_eq_false this];rfl
 obtain⟨d0,d1,rfl⟩:∃d0 d1,ds=[d0,d1]:=by
  match ds,(show ds.length=2 by lia) with
  |[x,y],_=>exact⟨x,y,rfl⟩
 rw[Ar]at hx;obtain⟨x0,r,rfl,hx0,hx⟩:=hx;rw[Ar]at hx;obtain⟨x1,r,rfl,hx1,hx⟩:=hx;rw[Ar]at hx;subst hx;rw[Ed]at q;refine⟨_,rfl,_,_,_,_,rfl,rfl,s1,rfl,l,d0,x0,rfl,hx0,fun H1 e1=>⟨_,rfl,Cm (fun c0=>?_) (fun c0=>?_)⟩⟩
 ·rw[c0]at q;refine⟨_,rfl,_,_,_,_,rfl,rfl,e1.tup s1,rfl,l,d1,x1,rfl,hx1.same e1,_,rfl,Cm (fun c1=>?_) (fun c1=>?_)⟩
  ·rw[c1]at q;obtain⟨r0,rfl⟩:=HI (Pf c0);obtain⟨r1,rfl⟩:=HI (Ma c1);have hx0:=hx0.same e1;have hx1:=hx1.same e1;rw[Dt]at hx0 hx1;obtain⟨a0,y0,rfl,_,ha0,hy0⟩:=hx0;obtain⟨a1,y1,rfl,_,ha1,hy1⟩:=hx1;refine⟨_,rfl,_,_,_,_,rfl,rfl,e1.tup s1,rfl,a1,y1,rfl,.inl (Ae.of ha1),_,rfl,_,_,_,_,rfl,rfl,e1.tup s1,rfl,a0,y0,rfl,.inl (Ae.of ha0),rfl,?_⟩;have:=q H1 e1;rw[Bool.true_and,Bool.true_and,FY,FY,←hy0.len,←hy1.len]at this;have e:decide (V.int (y1.length:Nat)=V.int (y0.length:Nat))=decide (y1.length=y0.length):=by
    rw[Bool.eq_iff_iff];simp;lia
   rw[←e]at this;exact this
  ·rw[Bool.eq_false_iff.mpr c1,Bool.false_and,Bool.and_false]at q;exact q H1 e1
 ·rw[Bool.eq_false_iff.mpr c0,Bool.false_and]at q;exact q H1 e1
end
def Ym(r:Rat):Dg (An r)=true:=by
 have h:=r.den_nz;have k:=r.reduced;rw[An,Dg,decide_eq_true (show(1:Int)≤(r.den:Int) by lia),Bool.true_and];rw[beq_iff_eq];unfold FM.gi;unfold Nat.Coprime at k;rw[show r.num.gcd (r.den:Int)=1 from k]
 rfl
def Sa{i n:Nat}(h:i<n)(hn:n≤60):i<sizeLine:=aI (show i<60 by lia) (by rw[sizeLine_eq];decide)
def cb{n:Nat}(hn:n≤60):n≤sizeLine:=aM hn (by rw[sizeLine_eq];decide)
structure Tb where
 rs:List (List Rat)
 ls:List Rat
def Be(r:List Rat):List PD:=r.map An
def Ba(r:List Rat):PD:=.list (Be r)
def Ey(rs:List (List Rat)):List PD:=rs.map Ba
def BA(t:Tb):PD:=.tuple [.list (Ey t.rs),.list (Be t.ls)]
structure Tb.Ok(m:Nat)(t:Tb):Prop where
 one:1≤t.rs.length
 most:t.rs.length≤m
 last:t.ls.length=t.rs.length
 row:∀(i:Nat) r,t.rs[i]? = some r→r.length=i
def Pq(r:List Rat):∀e∈Be r,Dg e=true:=fun e he=>by
 obtain⟨q,_,rfl⟩:=aj.mp he;exact Ym q
def GI(r:List Rat):(Be r).length=r.length:=bM _
def JL(r:List (List Rat)):(Ey r).length=r.length:=bM _
def Tb.Ok.is{m:Nat}(hm:m≤40){t:Tb}(h:t.Ok m):Ed (BA t)=true:=by
 have h1:=h.one;have h2:=h.most;rw[BA,Ed,CF,FY,FY,JL,GI,decide_eq_true h1,decide_eq_true (show t.rs.length≤40 by lia),decide_eq_true h.last,CQ,Bool.true_and,Bool.true_and,Bool.and_true,List.all_eq_true.mpr (Pq _),Bool.and_true];refine NW fun j hj=>?_;rw[JL]at hj;have hr:t.rs[j]? = some t.rs[j]:=by simp[hj]
 rw[JI (d:=Ba t.rs[j]) (by rw[Ey,List.getElem?_map,hr];rfl),Ba,FY,GI,decide_eq_true (h.row j _ hr),CQ,Bool.and_true,List.all_eq_true.mpr (Pq _)]
def Tb.behind(a b:Tb):Tb:=⟨a.rs++b.rs.map (a.ls ++ ·),a.ls++b.ls⟩
def CG.fN{H:Hp}{d:PD}{ds:List PD}{xs:List V}(h:CG H (d::ds) xs):∃x r,xs=x::r∧DU H d x∧CG H ds r:=by
 obtain⟨N,b⟩:=h;have h0:=b N (aG _);rw[Ar]at h0;obtain⟨x,r,rfl,_,_⟩:=h0;refine⟨x,r,rfl,⟨N,fun l hl=>?_⟩,⟨N,fun l hl=>?_⟩⟩
 ·have:=b l hl;rw[Ar]at this;obtain⟨_,_,e,h1,_⟩:=this;cases e;exact h1
 ·have:=b l hl;rw[Ar]at this;obtain⟨_,_,e,_,h1⟩:=this;cases e;exact h1
def DU.rat{H:Hp}{q:Rat}{v:V}(h:DU H (An q) v):∃p,v=.ref p∧H p=some (.tup (M7 q)):=h.ints (ps:=[q.num,(q.den:Int)])
def Y6{H:Hp}{q:Rat}{p:AD}(h:H p=some (.tup (M7 q))):DU H (An q) (.ref p):=.tup h (.cons .int (.cons .int .nil))
def DU.tab{H:Hp}{t:Tb}{v:V}(h:DU H (BA t) v):∃p R L xs ys,v=.ref p∧H p=some (.tup [.ref R,.ref L])∧H R=some (.lst xs)∧CG H (Ey t.rs) xs∧H L=some (.lst ys)∧CG H (Be t.ls) ys:=by
 obtain⟨p,zs,rfl,hp,h1⟩:=h.dB;obtain⟨x,y,rfl,h2,h3⟩:=h1.Qk;obtain⟨R,xs,rfl,hR,h4⟩:=h2.Zb;obtain⟨L,ys,rfl,hL,h5⟩:=h3.Zb;exact⟨p,R,L,xs,ys,rfl,hp,hR,h4,hL,h5⟩
def OP{H:Hp}{rs:List (List Rat)}{xs:List V}{i:Nat}{r:List Rat}(h:CG H (Ey rs) xs)(hr:rs[i]? = some r):∃a ys,xs[i]? = some (.ref a)∧H a=some (.lst ys)∧CG H (Be r) ys:=by
 obtain⟨v,h1,h2⟩:=h.get (i:=i) (d:=Ba r) (by rw[Ey,List.getElem?_map,hr];rfl);obtain⟨a,ys,rfl,h3,h4⟩:=h2.Zb;exact⟨a,ys,h1,h3,h4⟩
def Ep(c b:Int):Int:=c.fdiv (FM.gi c b)*b
def FG(bs:List Int):Int:=bs.foldl Ep 1
def Pc{k:Nat}:∀(bs:List Int) (c:Int) (n:Nat),1≤c→c.natAbs<2^n→(∀b∈bs,1≤b∧b.natAbs<2^k) →
  1≤bs.foldl Ep c∧(bs.foldl Ep c).natAbs<2^(n+k*bs.length)∧c ∣ bs.foldl Ep c∧∀b∈bs,b ∣ bs.foldl Ep c
 |[],c,n,h1,h2,_=>⟨h1,by simpa using h2,Int.dvd_refl _,fun _ z=>(List.not_mem_nil z).elim⟩
 |b::bs,c,n,h1,h2,h=>by
  obtain⟨b1,b2⟩:=h b aT;obtain⟨s1,s2,s3,s4⟩:=OV h1 b1;have n1:(Ep c b).natAbs<2^(n+k):=FM.a6 (ag s4 h2) b2;obtain⟨r1,r2,r3,r4⟩:=Pc bs (Ep c b) (n+k) s1 n1 fun y hy=>h y (aO _ hy);refine⟨r1,?_,Int.dvd_trans s2 r3,fun y hy=>?_⟩
  ·rw[List.length_cons,Nat.mul_succ,show n+(k*bs.length+k)=n+k+k*bs.length by lia];exact r2
  ·rcases aL.mp hy with rfl|hy
   ·exact Int.dvd_trans s3 r3
   ·exact r4 y hy
def Qu{k:Nat}{bs:List Int}(h:∀b∈bs,1≤b∧b.natAbs<2^k):1≤FG bs∧(FG bs).natAbs<2^(1+k*bs.length)∧∀b∈bs,b ∣ FG bs:=by
 obtain⟨a,b,_,d⟩:=Pc bs 1 1 (by decide) (by decide) h;exact⟨a,b,d⟩
def UQ(bs:List Int)(b:Int):FG (bs++[b])=Ep (FG bs) b:=by
 unfold FG;rw[List.foldl_append]
 rfl
def Ti:Sp:=fun vs H Q _=>∃(a:AD) (bs:List Int) (k:Nat),vs=[.ref a]∧H a=some (.lst (bs.map V.int))∧(∀b∈bs,1≤b∧b.natAbs<2^k)∧k*bs.length≤4000∧Q (.int (FG bs)) H
def Gi(rs:List Rat)(B:Int):List Int:=rs.map fun r=>r.num*B.fdiv (r.den:Int)
def Ub:Sp:=fun vs H Q _=>∃(a:AD) (xs:List V) (rs:List Rat) (B:Int) (n m:Nat),vs=[.ref a,.int B]∧H a=some (.lst xs)∧CG H (Be rs) xs∧rs.length≤50∧(∀r∈rs,FM.Fits r n)∧B.natAbs<2^m∧n+m≤4000 ∧
 ∀D H',AG H H'→H D=none→H' D=some (.lst ((Gi rs B).map V.int))→Q (.ref D) H'
def JY{H:Hp}{qs:List Rat}{xs:List V}{i:Nat}{q:Rat}(h:CG H (Be qs) xs)(hq:qs[i]? = some q):∃p,xs[i]? = some (.ref p)∧H p=some (.tup (M7 q)):=by
 obtain⟨v,h1,h2⟩:=h.get (i:=i) (d:=An q) (by rw[Be,List.getElem?_map,hq];rfl);obtain⟨p,rfl,hp⟩:=h2.rat;exact⟨p,h1,hp⟩
def Qb{rs:List Rat}{n:Nat}(h:∀r∈rs,FM.Fits r n):∀b∈rs.map (fun r=>(r.den:Int)),1≤b∧b.natAbs<2^n:=fun b hb=>by
 obtain⟨r,hr,rfl⟩:=aj.mp hb;have:=r.den_nz;exact⟨by lia,(h r hr).d⟩
section
variable{P:Program}{w:World}{K:Fg}{mg:Str→Option VL}{base:Heap}{f g:AD}{fd gd:FuncData}
def Ky(F:Fn K mg "common_bottom" FP ["bottoms"] f fd)(A5:Fn K mg "greatest_divisor" B2 ["one", "other"] g gd)
 (B3:AL P w K mg base Ah 1 g gd ["one", "other"] RU):AL P w K mg base Ah 2 f fd ["bottoms"] Ti:=by
 have sc:=LY;refine F.F.ok (k:=1) sc (fun vs H Q E h=>?_) (fun cdv A outer s H vs Q E hr h=>?_)
 ·obtain⟨a,bs,k,rfl,_⟩:=h
  rfl
 obtain⟨a,bs,k,rfl,ha,hb,hk,q⟩:=h;refine⟨_,(AY (BL (i:=1) sc.nd rfl (Or.inl rfl) Ao)
 (AY (Gu aW rfl (DV (pv 0)) (BM (i:=2) sc.nd rfl (Or.inl rfl))
  (Ad (BL (i:=1) sc.nd rfl (Or.inl rfl) (B0 Fq (B0 Ei (pv 1) (B9 A5 B3 hr rfl (AH (pv 1) (AH (pv 2) AU)))) (pv 2)))))
 (Ad (BJ (pv 1))))),?_⟩
 refine⟨_,rfl,a,rfl,⟨_,Ae.of ha⟩,JU (xs:=bs.map V.int) (fun i σ H'=>∃(r:Option V),σ=[some (.ref a),some (.int (FG (bs.take i))),r]∧H=H') ?_ ?_ ?_ ?_⟩
 ·exact⟨_,rfl,rfl⟩
 ·rintro i σ H' _ ⟨r,rfl,rfl⟩;exact Ae.of ha
 ·rintro i x σ H' hx ⟨r,rfl,rfl⟩;have hi:i<bs.length:=by have:=(aE.mp hx).1;simpa using this
  rw[List.getElem?_map,List.getElem?_eq_getElem hi]at hx;cases hx;obtain⟨b1,b2⟩:=hb _ (List.getElem_mem hi);obtain⟨c1,c2,_⟩:=Qu (k:=k) (bs:=bs.take i) fun y hy=>hb y (List.mem_of_mem_take hy);rw[List.length_take,Nat.min_eq_left (by lia)]at c2;obtain⟨s1,s2,s3,s4⟩:=OV c1 b1;have hg:FM.gi (FG (bs.take i)) bs[i]≠0:=Int.ne_of_gt (FM.J3 (by lia));have hki:k*i+k≤4000:=by
   have:k*(i+1)≤k*bs.length:=au k hi;rw[Nat.mul_succ]at this
   lia
  have n1:((FG (bs.take i)).fdiv (FM.gi (FG (bs.take i)) bs[i])).natAbs<2^(1+k*i):=ag s4 c2;refine⟨_,rfl,_,rfl,_,rfl,FG (bs.take i),bs[i],rfl,_,_,rfl,rfl,⟨hg,k,by have:k*1≤k*bs.length:=au k (by lia);lia,Nat.lt_of_le_of_lt (FM.V2 (by lia)) b2⟩,_,rfl,_,_,rfl,rfl,RN n1 b2 (by lia),some (.int bs[i]),?_,rfl⟩;rw[List.take_add_one,List.getElem?_eq_getElem hi];show _=[some (V.ref a),some (V.int (FG (bs.take i++[bs[i]]))),some (V.int bs[i])];rw[UQ]
  rfl
 ·rintro σ H' ⟨r,rfl,rfl⟩;rw[List.length_map,List.take_length];exact⟨_,rfl,q⟩
def P8:Ac ["some", "bottom"] ["some", "bottom"] (AO IJ):=CB
def PU(F:Fn K mg "tops_over" IJ ["some", "bottom"] f fd):AL P w K mg base Ah 1 f fd ["some", "bottom"] Ub:=by
 have sc:=P8;refine F.F.ok (k:=0) sc (fun vs H Q E h=>?_) (fun cdv A outer s H vs Q E hr h=>?_)
 ·obtain⟨a,xs,rs,B,n,m,rfl,_⟩:=h
  rfl
 obtain⟨a,xs,rs,B,n,m,rfl,ha,dx,hl,hf,hB,hnm,q⟩:=h;have hxl:xs.length=rs.length:=by rw[dx.len,GI]
 refine⟨_,(Ad (BJ (FZ [".0", "part", "bottom"] 1 [none,none,some 1] (DV (pv 0)) (fun _ _ _ _ _=>EE) (fun _ _ _ _ _=>(B0 Fq (CM Kj (pv 1) Ao (fun _ _=>rfl)) (B0 Ei (pv 2) (CM Kj (pv 1) Ao (fun _ _=>rfl)))))))),?_⟩;refine⟨_,rfl,a,rfl,⟨_,Ae.of ha⟩,fun D hD=>Ft (n:=xs.length) (fun i ys H'=>AG H H'∧ys=(Gi (rs.take i) B).map V.int) ⟨Aa hD _,rfl⟩ ?_ ?_⟩
 ·rintro i ys H1 hi ⟨e1,rfl⟩ hD1;have hr:rs[i]? = some (rs[i]'(by lia)):=aN _;obtain⟨p,hp1,hp2⟩:=JY dx hr;have ft:=hf _ (aP hr);generalize rs[i]'(by lia)=r at hr hp2 ft;have hd:=r.den_nz;refine⟨⟨xs,.ref p,Ae.of (e1 _ _ ha),hp1⟩,Sa (n:=60) (by unfold Gi;simp;lia) (by decide),fun x H' y=>?_⟩;obtain⟨rfl,y⟩:=y;have hx:=y xs (Ae.of (e1 _ _ ha));rw[hp1]at hx;cases hx;unfold Gm;have n2:(B.fdiv (r.den:Int)).natAbs<2^m:=ag (FM.IA _ _) hB;refine Dd ⟨_,rfl,_,_,_,_,rfl,rfl,Au.of (e1 _ _ hp2),rfl,_,rfl,_,rfl,_,_,_,_,rfl,rfl,Au.of (e1 _ _ hp2),rfl,_,_,rfl,rfl,⟨by lia,n,by lia,ft.d⟩,_,_,rfl,rfl,RN ft.1 n2 (by lia),hD1,EJ hi ⟨fun b o z=>?_,?_⟩⟩
  ·rw[AF (AJ z hD)];exact e1 _ _ z
  ·rw[List.take_add_one,hr,Gi,Gi,List.map_append,List.map_append]
   rfl
 ·rintro ys H1 ⟨e1,rfl⟩ hD1;rw[hxl,List.take_length]at hD1;exact⟨⟨xs,Ae.of (e1 _ _ ha),Nat.le_refl _⟩,q D H1 e1 hD hD1⟩
end
def CD(a b:List Int):List Int:=List.zipWith (· * ·) a b
def Ph(a b:List Int):Int:=(CD a b).sum
def Cu(n:Nat):List Int:=List.replicate n 1
def LJ(rows:List (List Int)):Tr→List Int→List Int
 |.nil,acc=>acc
 |.cons b r,acc=>LJ rows r (CD acc (rows.map fun row=>Ph row (LJ rows b (Cu rows.length))))
def C5(rows:List (List Int))(t:Tr):List Int:=rows.map fun row=>Ph row (LJ rows t (Cu rows.length))
def MY(rows:List (List Int)):∀(t:Tr) (acc:List Int),LJ rows t acc=t.bs.foldl (fun a b=>CD a (C5 rows b)) acc
 |.nil,acc=>rfl
 |.cons b r,acc=>by
  rw[LJ,Tr.bs,List.foldl_cons,MY rows r]
  rfl
def Ii(rows:List (List Int))(t:Tr):(C5 rows t).length=rows.length:=bM _
def VV{a b:List Int}(h:a.length=b.length):(CD a b).length=a.length:=by unfold CD;rw[List.length_zipWith,h,Nat.min_self]
def Bz(n:Nat)(xs:List Int):Prop:=∀x∈xs,x.natAbs≤n
def Bz.mul{m n:Nat}:∀ {a b:List Int},Bz m a→Bz n b→Bz (m*n) (CD a b)
 |[],_,_,_=>fun x h=>by cases h
 |_::_,[],_,_=>fun x h=>by cases h
 |x::a,y::b,ha,hb=>fun z h=>by
  have h:z∈x*y::CD a b:=h;rcases aL.mp h with rfl|h
  ·rw[Int.natAbs_mul];exact Nat.mul_le_mul (ha x (.head _)) (hb y (.head _))
  ·exact Bz.mul (fun x h=>ha x (.tail _ h)) (fun x h=>hb x (.tail _ h)) z h
def TQ{n:Nat}:∀ {a:List Int},Bz n a→a.sum.natAbs≤a.length*n
 |[],_=>az _
 |x::a,h=>by
  have h1:=h x (.head _);have h2:=TQ (a:=a) fun x h'=>h x (.tail _ h');rw[List.sum_cons,List.length_cons,Nat.succ_mul];have:=Int.natAbs_add_le x a.sum
  lia
def ZF{m n:Nat}{a b:List Int}(ha:Bz m a)(hb:Bz n b):(Ph a b).natAbs≤a.length*m*n:=by
 have h:=TQ (ha.mul hb);have hl:(CD a b).length≤a.length:=by unfold CD;rw[List.length_zipWith];exact Nat.min_le_left _ _
 refine aM h ?_;rw[Nat.mul_assoc];exact Nat.mul_le_mul_right _ hl
structure Gw(rows:List (List Int))(c:Nat):Prop where
 len:rows.length≤1000
 one:∀row∈rows,row.length≤rows.length
 big:∃M,(∀row∈rows,Bz M row)∧M≤2^c∧∀row∈rows,row.length*M≤2^c
def Bz.mono{m n:Nat}{xs:List Int}(h:Bz m xs)(e:m≤n:=by decide):Bz n xs:=fun x hx=>aM (h x hx) e
def ND(n k:Nat):Bz (2^k) (Cu n):=fun x h=>by
 unfold Cu at h;rw[List.eq_of_mem_replicate h];exact Nat.one_le_two_pow
def WT{rows:List (List Int)}{c:Nat}(h:Gw rows c){t:Tr}{k:Nat}(hs:Bz (2^(c*k)) (LJ rows t (Cu rows.length))):Bz (2^(c*(k+1))) (C5 rows t):=fun x hx=>by
 unfold C5 at hx;obtain⟨row,hr,rfl⟩:=aj.mp hx;obtain⟨M,h1,_,h2⟩:=h.big;have:=ZF (h1 row hr) hs;refine aM this ?_;rw[Nat.mul_add,Nat.mul_one,Nat.add_comm,Nat.pow_add];exact Nat.mul_le_mul_right _ (h2 row hr)
def MO{rows:List (List Int)}{c:Nat}(h:Gw rows c):∀(t:Tr) (acc:List Int) (j:Nat),acc.length=rows.length→Bz (2^(c*j)) acc→(LJ rows t acc).length=rows.length∧Bz (2^(c*(j+(t.AR-1)))) (LJ rows t acc)
 |.nil,acc,j,hl,ha=>⟨hl,ha⟩
 |.cons b r,acc,j,hl,ha=>by
  have hb:=MO h b (Cu rows.length) 0 (List.length_replicate ..) (ND _ _);have kb:1≤b.AR:=Tr.B1 b;have kr:1≤r.AR:=Tr.B1 r;rw[Nat.zero_add]at hb;have h1:=WT h hb.2;rw[show b.AR-1+1=b.AR by lia]at h1;have h2:=ha.mul h1;rw[←Nat.pow_add,←Nat.mul_add]at h2;have h3:=MO h r (CD acc (C5 rows b)) (j+b.AR) (by rw[VV (by rw[hl,Ii])];exact hl) h2;rw[LJ,Tr.AR];refine⟨h3.1,?_⟩;rw[show j+(b.AR+r.AR-1)=j+b.AR+(r.AR-1) by lia];exact h3.2
def XJ{rows:List (List Int)}{c:Nat}(h:Gw rows c)(t:Tr):Bz (2^(c*t.AR)) (C5 rows t):=by
 have h1:=(MO h t (Cu rows.length) 0 (List.length_replicate ..) (ND _ _)).2;have kb:1≤t.AR:=Tr.B1 t;rw[Nat.zero_add]at h1;have h2:=WT h h1;rw[show t.AR-1+1=t.AR by lia]at h2;exact h2
def Qh{m:Nat}(hm:m+1≤1000000){x y:Int}(hx:x.natAbs≤2^m)(hy:y.natAbs≤2^m):Pl x y∨L8 x y:=by
 have:2^m<2^(m+1):=Nat.pow_lt_pow_of_lt (by decide) (bP m);exact .inr ⟨m+1,hm,Nat.lt_of_le_of_lt hx this,Nat.lt_of_le_of_lt hy this⟩
def HQ{n:Nat}(h:n≤1000):n<sizeLine:=ag h (by rw[sizeLine_eq];decide)
def N9{H H':Hp}{p:AD}(e:AG H H')(h:H' p=none):H p=none:=by
 cases z:H p with
 |none=>rfl
 |some o=>rw[e _ _ z]at h;cases h
def ints_get{ps:List Int}{i:Nat}{x:Int}(h:ps[i]? = some x):(ps.map V.int)[i]? = some (.int x):=by rw[List.getElem?_map,h];rfl
def Nt{xs ys:List Int}{i:Nat}{x y:Int}(hx:xs[i]? = some x)(hy:ys[i]? = some y):(CD xs ys).take (i+1)=(CD xs ys).take i++[x*y]:=by
 have h:(CD xs ys)[i]? = some (x*y):=by unfold CD;rw[List.getElem?_zipWith,hx,hy]
 rw[List.take_add_one,h];rfl
def Y9:Sp:=fun vs H Q _=>∃a b xs ys m,vs=[.ref a,.ref b]∧H a=some (.lst (xs.map V.int))∧H b=some (.lst (ys.map V.int))∧xs.length≤ys.length∧xs.length≤1000∧m+1≤1000000∧Bz (2^m) xs∧Bz (2^m) ys∧∀H',AG H H'→Q (.int (Ph xs ys)) H'
section
variable{P:Program}{w:World}{K:Fg}{mg:Str→Option VL}{base:Heap}{f:AD}{fd:FuncData}
def R8:Ac ["row", "shares"] ["row", "shares"] (AO KD):=CB
def SR(F:Fn K mg "read_by" KD ["row", "shares"] f fd)(CV:mg "sum" = none)(Fz:mg "zip" = none):AL P w K mg base Ah 1 f fd ["row", "shares"] Y9:=by
 have sc:=R8;refine F.F.ok (k:=0) sc (fun vs H Q E h=>?_) (fun cdv A outer s H vs Q E hr h=>?_)
 ·obtain⟨a,b,ps,qs,m,rfl,_⟩:=h
  rfl
 obtain⟨a,b,ps,qs,m,rfl,ha,hb,hl,h60,hm,sx,sy,q⟩:=h;refine⟨_,(Ad (BJ (BB (Lb rfl) rfl CV bS (AH (NL [".0", "part", "share"] 1 2 [none,none,none] (TL rfl Fz (AH (pv 0) (AH (pv 1) AU))) (fun _ _ _ _ _=>EE) (fun _ _ _ _ _=>(B0 Fq (pv 1) (pv 2)))) AU)))),?_⟩;refine⟨_,rfl,_,rfl,false,false,a,b,rfl,⟨_,ha⟩,⟨_,hb⟩,fun D hD=>Ow (n:=ps.length) (fun i us H'=>AG H H'∧us=((CD ps qs).take i).map V.int) ?_ ?_ ?_⟩
 ·exact⟨Aa hD _,by rw[List.take_zero];rfl⟩
 ·rintro i us H1 hi ⟨e1,rfl⟩ hD1;have hx:=aN hi;have hy:=aN (l:=qs) (i:=i) (by lia);have e1a:=e1 _ _ ha;have e1b:=e1 _ _ hb;refine⟨⟨_,_,_,_,e1a,e1b,ints_get hx,ints_get hy⟩,HQ (by rw[List.length_map,List.length_take];lia),fun v H' y=>?_⟩;obtain⟨p,x,z,rfl,np,rfl,k1,k2⟩:=y;have hx':=k1 _ e1a;have hy':=k2 _ e1b;rw[ints_get hx]at hx';rw[ints_get hy]at hy';cases hx';cases hy';have sp:=Aa np (.tup [.int ps[i],.int qs[i]]);refine⟨p,_,_,rfl,Au.of AI,?_⟩;unfold Gm;refine Dd ⟨_,rfl,_,rfl,_,_,rfl,rfl,Qh hm (sx _ (List.getElem_mem _)) (sy _ (List.getElem_mem _)),sp _ _ hD1,EJ hi ⟨fun c o z=>?_,?_⟩⟩
  ·rw[AF (AJ z hD)];exact sp _ _ (e1 _ _ z)
  ·rw[Nt hx hy,List.map_append]
   rfl
 ·rintro us H1 ⟨e1,rfl⟩ hD1;refine⟨⟨_,_,e1 _ _ ha,e1 _ _ hb,.inl (by rw[List.length_map])⟩,D,_,rfl,Ae.of hD1,?_⟩;rw[List.take_of_length_le (by unfold CD;rw[List.length_zipWith];lia)];exact q _ e1
end
def GW(d:AD)(H H':Hp):Prop:=∀a o,a≠d→H a=some o→H' a=some o
def GW.of{d:AD}{H H':Hp}(e:AG H H'):GW d H H':=fun a o _ h=>e a o h
def GW.trans{d:AD}{H H1 H2:Hp}(e:GW d H H1)(e':GW d H1 H2):GW d H H2:=fun a o n h=>e' a o n (e a o n h)
def YY{d:AD}{r:List KR}{xs:List V}:dN d r≠.lst xs:=by unfold dN;intro z;cases z
def YS{d:AD}{r:List KR}{xs:List V}:dN d r≠.tup xs:=by unfold dN;intro z;cases z
def GW.lst{d:AD}{H H':Hp}(e:GW d H H'){r:List KR}(hd:H d=some (dN d r)){l:AD}{xs:List V}(h:H l=some (.lst xs)):H' l=some (.lst xs):=e l _ (RP h hd fun z=>YY z.symm) h
def GW.A2{d:AD}{H H':Hp}(e:GW d H H'){r:List KR}(hd:H d=some (dN d r)):IC H H':=fun b xs h=>e b _ (RP h hd fun z=>YS z.symm) h
def Np(H:Hp)(vs:List V)(rows:List (List Int)):Prop:=vs.length=rows.length∧∀(i:Nat) (row:List Int),rows[i]? = some row→∃a:AD,vs[i]? = some (.ref a)∧H a=some (.lst (row.map V.int))
def Np.same{H H':Hp}{vs:List V}{rows:List (List Int)}(h:Np H vs rows)(e:AG H H'):Np H' vs rows:=⟨h.1,fun i row hi=>let⟨a,h1,h2⟩:=h.2 i row hi;⟨a,h1,e _ _ h2⟩⟩
def Np.but{d:AD}{H H':Hp}{vs:List V}{rows:List (List Int)}(h:Np H vs rows)(e:GW d H H'){r:List KR}(hd:H d=some (dN d r)):Np H' vs rows:=⟨h.1,fun i row hi=>let⟨a,h1,h2⟩:=h.2 i row hi;⟨a,h1,e.lst hd h2⟩⟩
structure Rc(Dm:List Tr)(c:Nat):Prop where
 len:Dm.length≤1000
 inj:∀a∈Dm,∀b∈Dm,TH.BG (some a)=TH.BG (some b)→a=b
 bs:∀t∈Dm,∀b∈t.bs,b∈Dm
 deep:∀t∈Dm,t.deep<8
 size:∀t∈Dm,c*t.AR+1≤1000000
structure Memo(Dm:List Tr)(rows:List (List Int))(W:Addr)(H:Hp)(d:Addr)(r:List KR):Prop where
 at_:H d=some (dN d r)
 nd:(r.map (·.1)).Nodup
 all:∀q∈r,∃(t:Tr) (l:Addr),q.1=some t∧t∈Dm∧Tv H t q.2.1∧q.2.2=.ref l∧H l=some (.lst ((C5 rows t).map V.int))∧l≠W
def Memo.same{Dm:List Tr}{rows:List (List Int)}{W:AD}{H H':Hp}{d:AD}{r:List KR}(h:Memo Dm rows W H d r)(e:AG H H'):Memo Dm rows W H' d r:=⟨e _ _ h.at_,h.nd,fun q hq=>let⟨t,l,h1,h2,h3,h4,h5,h6⟩:=h.all q hq;⟨t,l,h1,h2,h3.same e,h4,e _ _ h5,h6⟩⟩
def Memo.ok{Dm:List Tr}{c:Nat}{rows:List (List Int)}{W:AD}{H:Hp}{d:AD}{r:List KR}(h:Memo Dm rows W H d r)(D:Rc Dm c){t:Tr}(ht:t∈Dm):PL H d r (some t):=by
 refine⟨h.at_,fun q hq=>?_,h.nd,fun q hq hh=>?_⟩
 ·obtain⟨u,l,h1,h2,h3,_⟩:=h.all q hq;rw[h1];exact⟨D.deep u h2,h3⟩
 ·obtain⟨u,l,h1,h2,_⟩:=h.all q hq;rw[h1]at hh ⊢;rw[D.inj u h2 t ht hh]
def Na{α:Type}[DecidableEq α]:∀ {a b:List α},a.Nodup→(∀x∈a,x∈b)→a.length≤b.length
 |[],_,_,_=>az _
 |x::a,b,hn,h=>by
  have hx:=h x (.head _);obtain⟨h1,h2⟩:=List.nodup_cons.mp hn;have:=Na (a:=a) (b:=b.erase x) h2 fun y hy=>(List.mem_erase_of_ne (show y≠x from fun e=>h1 (by rw[←e];exact hy))).mpr (h y (.tail _ hy));rw[List.length_erase_of_mem hx]at this;have:=List.length_pos_of_mem hx;rw[List.length_cons]
  lia
def Memo.len{Dm:List Tr}{rows:List (List Int)}{W:AD}{H:Hp}{d:AD}{r:List KR}(h:Memo Dm rows W H d r):r.length≤Dm.length:=by
 have:=Na (b:=Dm.map some) h.nd fun x hx=>by
  obtain⟨q,hq,rfl⟩:=aj.mp hx;obtain⟨u,l,h1,h2,_⟩:=h.all q hq;rw[h1];exact List.mem_map_of_mem h2
 simpa using this
def Memo.put{Dm:List Tr}{rows:List (List Int)}{W:AD}{H H':Hp}{d:AD}{r:List KR}(h:Memo Dm rows W H d r){t:Tr}{v:V}{l:AD}(ht:t∈Dm)(tv:Tv H t v)(hl:H l=some (.lst ((C5 rows t).map V.int)))(hlW:l≠W)
 (e:H'=upd H d (dN d (D7 r (some t) v (.ref l)))):GW d H H'∧Memo Dm rows W H' d (D7 r (some t) v (.ref l))∧H' l=some (.lst ((C5 rows t).map V.int)):=by
 subst e;have hb:GW d H (upd H d (dN d (D7 r (some t) v (.ref l)))):=fun a o n h=>by rw[AF n];exact h
 have hl':=hb.lst h.at_ hl;have old:∀q∈r,∃(t':Tr) (l':AD),q.1=some t'∧t'∈Dm∧Tv (upd H d (dN d (D7 r (some t) v (.ref l)))) t' q.2.1∧q.2.2=.ref l'∧upd H d (dN d (D7 r (some t) v (.ref l))) l'=some (.lst ((C5 rows t').map V.int))∧l'≠W:=fun q hq=>by
  obtain⟨u,l',h1,h2,h3,h4,h5,h6⟩:=h.all q hq;exact⟨u,l',h1,h2,h3.A2 (hb.A2 h.at_),h4,hb.lst h.at_ h5,h6⟩
 refine⟨hb,⟨AI,?_,fun q hq=>?_⟩,hl'⟩
 ·unfold D7;split
  ·rw[List.map_map];rw[show((fun x:KR=>x.1) ∘ fun q:KR=>if q.1=some t then(q.1,q.2.1,V.ref l) else q)=fun x=>x.1 from funext fun q=>by
    show(if q.1=some t then(q.1,q.2.1,V.ref l) else q).1=q.1;split<;>rfl]
   exact h.nd
  ·rename_i hn;rw[List.map_append];refine List.nodup_append.mpr ⟨h.nd,by simp,fun a ha b hb'=>?_⟩;obtain⟨q,hq,rfl⟩:=aj.mp ha;have hb':b=some t:=by simpa using hb'
   subst hb';have hn:r.find? (fun q=>decide (q.1=some t))=none:=by
    cases z:r.find? (fun q=>decide (q.1=some t)) with
    |none=>rfl
    |some x=>rw[z]at hn;exact absurd rfl hn
   have:=List.find?_eq_none.mp hn q hq
   simpa using this
 ·have hq':q∈r∨(∃q'∈r,q'.1=some t∧q=(q'.1,q'.2.1,.ref l))∨q=(some t,v,.ref l):=by
   unfold D7 at hq;split at hq
   ·obtain⟨q',h1,h2⟩:=aj.mp hq;split at h2
    ·rename_i z;exact .inr (.inl ⟨q',h1,z,h2.symm⟩)
    ·subst h2;exact .inl h1
   ·rcases bR.mp hq with hq|hq
    ·exact .inl hq
    ·exact .inr (.inr (by simpa using hq))
  rcases hq' with hq'|⟨q',h1,h2,rfl⟩|rfl
  ·exact old q hq'
  ·obtain⟨u,l',k1,k2,k3,_⟩:=old q' h1;rw[h2]at k1;cases k1;exact⟨t,l,h2,k2,k3,rfl,hl',hlW⟩
  ·exact⟨t,l,rfl,ht,tv.A2 (hb.A2 h.at_),rfl,hl',hlW⟩
def Hj:∀ {t b:Tr},b∈t.bs→b.AR≤t.AR
 |.nil,b,h=>by cases h
 |.cons c r,b,h=>by
  rw[Tr.bs]at h;rw[Tr.AR];rcases aL.mp h with rfl|h
  ·exact Nat.le_add_right _ _
  ·exact aM (Hj h) (Nat.le_add_left _ _)
def VJ(r:List KR)(k:Option Tr)(kv v:V):∃q,(D7 r k kv v).find? (fun q=>decide (q.1=k))=some q:=by
 have:∃q∈D7 r k kv v,q.1=k:=by
  unfold D7;split
  ·rename_i h;obtain⟨q,hq⟩:=Option.isSome_iff_exists.mp h;obtain⟨h1,h2⟩:=find_key hq;exact⟨_,List.mem_map_of_mem h1,by rw[if_pos h2];exact h2⟩
  ·exact⟨_,List.mem_append_right _ (.head _),rfl⟩
 obtain⟨q,h1,h2⟩:=this;cases z:(D7 r k kv v).find? (fun q=>decide (q.1=k)) with
 |some q'=>exact⟨q',rfl⟩
 |none=>exact absurd h2 (by simpa using List.find?_eq_none.mp z q h1)
def MP:∀(t:Tr) (i:Nat),(Tr.of (t.bs.take i)).AR≤t.AR
 |.nil,i=>by rw[Tr.bs,List.take_nil];exact aG _
 |.cons b r,0=>by
  have:=Tr.B1 (.cons b r);exact this
 |.cons b r,i+1=>by
  rw[Tr.bs,List.take_succ_cons,Tr.of,Tr.AR,Tr.AR];exact Nat.add_le_add_left (MP r i) _
def Ur(Dm:List Tr)(c n:Nat):Sp:=fun vs H Q _=>∃R rvs rows v t d r W,vs=[.ref R,v,.ref d]∧H R=some (.lst rvs)∧Np H rvs rows∧Gw rows c∧Tv H t v∧t∈Dm∧t.deep<n∧(∃o,H W=some o)∧Memo Dm rows W H d r∧∀H' r' l,GW d H H'→Memo Dm rows W H' d r'→H' l=some (.lst ((C5 rows t).map V.int))→Q (.ref l) H'
section
variable{P:Program}{w:World}{K:Fg}{mg:Str→Option VL}{base:Heap}{f g1:AD}{fd gd1:FuncData}
def QO:Ac ["rows", "tree", "known", "shares", "bough"] ["rows", "tree", "known"] (AO JX):=CB
def LF{Dm:List Tr}{c:Nat}(DO:Rc Dm c)(Cc:Fn K mg "readings" JX ["rows", "tree", "known"] f fd)(GF:Fn K mg "read_by" KD ["row", "shares"] g1 gd1)(L7:AL P w K mg base Ah 1 g1 gd1 ["row", "shares"] Y9)(Bl:mg "len" = none)(Fz:mg "zip" = none) :
  ∀n,AL P w K mg base Ah (n+1) f fd ["rows", "tree", "known"] (Ur Dm c n)
 |0=>GH fun _ _ _ _ ⟨_,_,_,_,_,_,_,_,_,_,_,_,_,_,h,_⟩=>absurd h (ah _)
 |n+1=>by
  have sc:=QO;have JA:=LF DO Cc GF L7 Bl Fz n;have Sy:=L7.mono (show 1≤n+1 by lia);refine Cc.F.ok (k:=n+1) sc (fun vs H Q E h=>?_) (fun cdv A outer s H vs Q E hr h=>?_)
  ·obtain⟨R,rvs,rows,v,t,d,r,W,rfl,_⟩:=h
   rfl
  obtain⟨R,rvs,rows,v,t,d,r,W,rfl,hR,hrw,ro,tv,ht,hdp,⟨oW,hW⟩,me,q⟩:=h;have hWs:∀ {H':Hp} {ρ:List KR},GW d H H'→Memo Dm rows W H' d ρ→∃o,H' W=some o:=fun {H' ρ} e m=>by
   by_cases z:W=d
   ·exact⟨_,by rw[z];exact m.at_⟩
   ·exact⟨_,e _ _ z hW⟩
  refine⟨_,(AY (Df (Bt (Y5 (by have:=hr.units;exact this) true) (pv 1) (pv 2) rfl)
  (AY (BL (i:=3) sc.nd rfl (Or.inr rfl) (B0 Ul (Jt (AH Ao AU)) (BB Bk rfl Bl bE (AH (pv 0) AU))))
  (AY (Gu aW rfl (Pe (pv 1)) (BM (i:=4) sc.nd rfl (Or.inl rfl))
   (Ad (BL (i:=3) sc.nd rfl (Or.inr rfl) (NL [".0", "share", "read"] 1 2 [none,none,none] (TL rfl Fz (AH (pv 3) (AH (B9 Cc JA hr rfl (AH (pv 0) (AH (pv 4) (AH (pv 2) AU)))) AU))) (fun _ _ _ _ _=>EE) (fun _ _ _ _ _=>(B0 Fq (pv 1) (pv 2)))))))
  (Ad (ZU (FZ [".0", "row", "shares"] 1 [none,none,some 3] (DV (pv 0)) (fun _ _ _ _ _=>EE) (fun _ _ _ _ _=>(B9 GF Sy hr rfl (AH (pv 1) (AH (pv 2) AU))))) (Yu (pv 2) (pv 1) (ZK (by have:=hr.units;exact this)))))))
  B8)
 (Ad (BJ (Zc (by have:=hr.units;exact this) (pv 2) (pv 1) (fun _ _=>rfl))))),?_⟩
  have key:GL H (some t) v:=⟨DO.deep t ht,tv⟩;cases hz:r.find? (fun q=>decide (q.1=some t)) with
  |some q' =>
   refine⟨_,rfl,_,rfl,d,r,some t,rfl,key,me.ok DO ht,false,by rw[hz];rfl,QB ?_⟩;obtain⟨hm,hk⟩:=find_key hz;obtain⟨u,l,h1,h2,h3,h4,h5,_⟩:=me.all q' hm;rw[hk]at h1;cases h1;refine⟨_,rfl,_,rfl,d,r,some t,q',rfl,key,me.ok DO ht,hz,?_⟩;rw[h4];exact q H r l (fun a o _ h=>h) me h5
  |none =>
   refine⟨_,rfl,_,rfl,d,r,some t,rfl,key,me.ok DO ht,true,by rw[hz];rfl,Dd ?_⟩;refine⟨by show 1≤sizeLine;decide,fun p hp=>⟨_,rfl,_,_,rfl,.inl (Ae.of (Aa hp _ _ _ hR)),p,_,_,rfl,rfl,AI,by lia,?_,?_,fun S hS=>?_⟩⟩
   ·have:=hrw.1;have:=ro.len;lia
   ·have:=hrw.1;have:=ro.len;refine bA (HQ ?_);simp
    lia
   rw[List.flatten_replicate_singleton,show((rvs.length:Nat):Int).toNat=rows.length by rw[hrw.1];rfl];have e0:AG H (upd (upd H p (.lst [V.int 1])) S (.lst (List.replicate rows.length (V.int 1)))):=(Aa hp _).trans (Aa hS _);have hS0:upd (upd H p (.lst [V.int 1])) S (.lst (List.replicate rows.length (V.int 1))) S=some (.lst (((t.bs.take 0).foldl (fun a b=>CD a (C5 rows b)) (Cu rows.length)).map V.int)):=by
    rw[AI,List.take_zero,List.foldl_nil];unfold Cu;rw[List.map_replicate]
   generalize upd (upd H p (.lst [V.int 1])) S (.lst (List.replicate rows.length (V.int 1)))=H0 at e0 hS0;obtain⟨a,ys,rfl,ha,hts⟩:=tv;have hyl:=hts.len;have sizes:∀i,((t.bs.take i).foldl (fun a b=>CD a (C5 rows b)) (Cu rows.length)).length=rows.length∧Bz (2^(c*t.AR)) ((t.bs.take i).foldl (fun a b=>CD a (C5 rows b)) (Cu rows.length)):=fun i=>by
    have h:=MO ro (Tr.of (t.bs.take i)) (Cu rows.length) 0 (List.length_replicate ..) (ND _ _);rw[MY,Tr.Ku]at h;refine⟨h.1,h.2.mono (ar (by decide) (au _ ?_))⟩;have:=MP t i
    lia
   refine⟨_,rfl,a,rfl,⟨_,Au.of (e0 _ _ ha)⟩,Xl (xs:=ys) (fun i σ H'=>∃(r4:Option V) (S:AD) (ρ:List KR),σ=[some (.ref R),some (.ref a),some (.ref d),some (.ref S),r4]∧GW d H H'∧Memo Dm rows W H' d ρ∧H' S=some (.lst (((t.bs.take i).foldl (fun a b=>CD a (C5 rows b)) (Cu rows.length)).map V.int))) ?_ ?_ ?_ ?_⟩
   ·exact⟨_,S,r,rfl,.of e0,me.same e0,hS0⟩
   ·rintro i σ H' _ ⟨r4,S',ρ,rfl,e,_⟩;exact Au.of (e.A2 me.at_ _ _ ha)
   ·rintro i x σ H1 hx ⟨r4,S1,ρ,rfl,e1,me1,hS1⟩;obtain⟨b,hb,tb⟩:=hts.get hx;have hbm:b∈t.bs:=aP hb;have hbd:=Tr.Ov hbm;refine⟨_,rfl,_,rfl,_,rfl,_,rfl,R,rvs,rows,x,b,d,ρ,W,rfl,e1.lst me.at_ hR,hrw.but e1 me.at_,ro,tb.A2 (e1.A2 me.at_),DO.bs t ht b hbm,by lia,hWs e1 me1,me1,fun H2 r2 l e2 me2 hl2=>?_⟩;have hS2:=e2.lst me1.at_ hS1;have e02:=e1.trans e2;obtain⟨sl,sb⟩:=sizes i;generalize hsh:(t.bs.take i).foldl (fun a b=>CD a (C5 rows b)) (Cu rows.length)=sh at sl sb hS2;have hnext:(t.bs.take (i+1)).foldl (fun a b=>CD a (C5 rows b)) (Cu rows.length)=CD sh (C5 rows b):=by
     rw[List.take_add_one,hb,List.foldl_append,hsh];rfl
    have rl:=Ii rows b;have rb:=XJ ro b;have kb:b.AR≤t.AR:=Hj hbm;have rb':=rb.mono (ar (by decide) (au c kb));refine⟨false,false,S1,l,rfl,⟨_,hS2⟩,⟨_,hl2⟩,fun D hD=>Ow (n:=sh.length) (fun j us H'=>AG H2 H'∧us=((CD sh (C5 rows b)).take j).map V.int) ?_ ?_ ?_⟩
    ·exact⟨Aa hD _,by rw[List.take_zero];rfl⟩
    ·rintro j us H3 hj ⟨e3,rfl⟩ hD3;have hx:=aN hj;have hy:=aN (l:=C5 rows b) (i:=j) (by lia);have e3a:=e3 _ _ hS2;have e3b:=e3 _ _ hl2;refine⟨⟨_,_,_,_,e3a,e3b,ints_get hx,ints_get hy⟩,HQ (by have:=ro.len;rw[List.length_map,List.length_take];lia),fun v H' y=>?_⟩;obtain⟨p,x,z,rfl,np,rfl,k1,k2⟩:=y;have hx':=k1 _ e3a;have hy':=k2 _ e3b;rw[ints_get hx]at hx';rw[ints_get hy]at hy';cases hx';cases hy';have sp:=Aa np (.tup [.int sh[j],.int (C5 rows b)[j]]);refine⟨p,_,_,rfl,Au.of AI,?_⟩;unfold Gm;refine Dd ⟨_,rfl,_,rfl,_,_,rfl,rfl,Qh (DO.size t ht) (sb _ (List.getElem_mem _)) (rb' _ (List.getElem_mem _)),sp _ _ hD3,EJ hj ⟨fun c o z=>?_,?_⟩⟩
     ·rw[AF (AJ z hD)];exact sp _ _ (e3 _ _ z)
     ·rw[Nt hx hy,List.map_append]
      rfl
    ·rintro us H3 ⟨e3,rfl⟩ hD3;refine⟨⟨_,_,e3 _ _ hS2,e3 _ _ hl2,.inl (by rw[List.length_map])⟩,?_⟩;refine⟨_,D,r2,rfl,e02.trans (.of e3),me2.same e3,?_⟩;rw[hD3,hnext,List.take_of_length_le (by unfold CD;rw[List.length_zipWith];lia)]
   ·rintro σ H1 ⟨r4,S1,ρ,rfl,e1,me1,hS1⟩;rw[hyl,List.take_length,←MY]at hS1;obtain⟨sl,sb⟩:=sizes t.bs.length;rw[List.take_length,←MY]at sl sb;have hR1:=e1.lst me.at_ hR;have hrw1:=hrw.but e1 me.at_;refine⟨_,rfl,R,rfl,⟨_,Ae.of hR1⟩,fun D hD=>Ft (n:=rvs.length) (fun j us H'=>AG H1 H'∧us=((C5 rows t).take j).map V.int) ?_ ?_ ?_⟩
    ·exact⟨Aa hD _,by rw[List.take_zero];rfl⟩
    ·rintro j us H3 hj ⟨e3,rfl⟩ hD3;have hj':j<rows.length:=by rw[←hrw.1];exact hj
     have hrow:=aN hj';generalize rows[j]=row at hrow;have hrm:=aP hrow;obtain⟨pr,g1,g2⟩:=hrw1.2 j row hrow;have hR3:=e3 _ _ hR1;refine⟨⟨_,_,Ae.of hR3,g1⟩,HQ (by have:=ro.len;rw[List.length_map,List.length_take,Ii];lia),fun x H' y=>?_⟩;obtain⟨rfl,y⟩:=y;have hx:=y _ (Ae.of hR3);rw[g1]at hx;cases hx;unfold Gm;obtain⟨M,b1,b2,_⟩:=ro.big;refine Dd ⟨_,rfl,_,rfl,pr,S1,row,_,c*t.AR,rfl,e3 _ _ g2,e3 _ _ hS1,?_,?_,DO.size t ht,?_,sb,fun H4 e4=>?_⟩
     ·rw[sl];exact ro.one row hrm
     ·have:=ro.one row hrm;have:=ro.len;lia
     ·refine(b1 row hrm).mono (aM b2 (ar (by decide) ?_));have:=Tr.B1 t;exact Nat.le_mul_of_pos_right c this
     ·refine⟨e4 _ _ hD3,EJ hj ⟨fun c o z=>?_,?_⟩⟩
      ·rw[AF (AJ z hD)];exact e4 _ _ (e3 _ _ z)
      ·have:(C5 rows t)[j]? = some (Ph row (LJ rows t (Cu rows.length))):=by unfold C5;rw[List.getElem?_map,hrow];rfl
       rw[List.take_add_one,this,List.map_append]
       rfl
    ·rintro us H3 ⟨e3,rfl⟩ hD3;rw[List.take_of_length_le (by rw[Ii,hrw.1];exact aG _)]at hD3;have me3:=me1.same e3;have hDW:D≠W:=fun z=>by
      obtain⟨o,hw⟩:=hWs e1 me1;rw[←z,hD]at hw;cases hw
     have tv3:Tv H3 t (.ref a):=⟨a,ys,rfl,e3 _ _ (e1.A2 me.at_ _ _ ha),(hts.A2 (e1.A2 me.at_)).same e3⟩;refine⟨⟨_,Ae.of (e3 _ _ hR1),Nat.le_refl _⟩,_,rfl,_,rfl,d,ρ,some t,rfl,⟨DO.deep t ht,tv3⟩,me3.ok DO ht,Nat.le_trans me3.len DO.len,?_⟩;generalize h4:upd H3 d (dN d (D7 ρ (some t) (.ref a) (.ref D)))=H4;obtain⟨b4,me4,l4⟩:=me3.put ht tv3 hD3 hDW h4.symm;have tv4:=tv3.A2 (b4.A2 me3.at_);have key4:GL H4 (some t) (.ref a):=⟨DO.deep t ht,tv4⟩;obtain⟨q',hq',hv⟩:∃q',(D7 ρ (some t) (.ref a) (.ref D)).find? (fun q=>decide (q.1=some t))=some q'∧∃l,q'.2.2=.ref l∧H4 l=some (.lst ((C5 rows t).map V.int)):=by
      obtain⟨q',hq'⟩:=VJ ρ (some t) (.ref a) (.ref D);obtain⟨hm,hk⟩:=find_key hq';obtain⟨u,l,h1,h2,h3,h4,h5,_⟩:=me4.all q' hm;rw[hk]at h1;cases h1;exact⟨q',hq',l,h4,h5⟩
     obtain⟨l,hv,hl⟩:=hv;refine⟨_,rfl,_,rfl,d,_,some t,q',rfl,key4,me4.ok DO ht,hq',?_⟩;rw[hv];exact q H4 _ l ((e1.trans (.of e3)).trans b4) me4 hl
end
def DB(r:List Rat):List Int:=r.map fun q=>(q.den:Int)
def FD(t:Tb)(i:Nat):List Int:=DB t.ls++((t.rs.take i).map DB).flatten
def CZ(t:Tb):Int:=FG (FD t t.rs.length)
def Tb.Fits(t:Tb)(n:Nat):Prop:=(∀r∈t.rs,∀q∈r,FM.Fits q n)∧∀q∈t.ls,FM.Fits q n
def Ls{t:Tb}{i:Nat}{r:List Rat}(h:t.rs[i]? = some r):FD t (i+1)=FD t i++DB r:=by
 unfold FD;rw[List.take_add_one,h,List.map_append,List.flatten_append,List.append_assoc];simp
def HY{t:Tb}{m:Nat}(o:t.Ok m):∀i,i≤t.rs.length→(FD t i).length≤t.rs.length+t.rs.length*i
 |0,_=>by unfold FD DB;simp[o.last]
 |i+1,h=>by
  have hr:=aN (l:=t.rs) (i:=i) (by lia);have:=HY o i (by lia);rw[Ls hr,List.length_append,show(DB t.rs[i]).length=t.rs[i].length from bM _,o.row i _ hr,Nat.mul_succ]
  lia
def NU{t:Tb}{n:Nat}(h:t.Fits n)(i:Nat):∀b∈FD t i,1≤b∧b.natAbs<2^n:=fun b hb=>by
 unfold FD at hb;rcases bR.mp hb with hb|hb
 ·exact Qb h.2 b hb
 ·obtain⟨l,hl,hb⟩:=List.mem_flatten.mp hb;obtain⟨r,hr,rfl⟩:=aj.mp hl;exact Qb (h.1 r (List.mem_of_mem_take hr)) b hb
def YT:Sp:=fun vs H Q _=>∃(v:V) (t:Tb) (m n:Nat),vs=[v]∧DU H (BA t) v∧t.Ok m∧m≤40∧t.Fits n∧n*(m+m*m)≤4000∧∀H',AG H H'→Q (.int (CZ t)) H'
section
variable{P:Program}{w:World}{K:Fg}{mg:Str→Option VL}{base:Heap}{f g1 g2:AD}{fd gd1:FuncData}
def L4:Ac ["table", "bottoms", "row"] ["table"] (AO Fl):=CB
def MW(F:Fn K mg "table_bottom" Fl ["table"] f fd)(Dr:Fn K mg "common_bottom" FP ["bottoms"] g1 gd1)
 (MM:AL P w K mg base Ah 2 g1 gd1 ["bottoms"] Ti):AL P w K mg base Ah 3 f fd ["table"] YT:=by
 have sc:=L4;refine F.F.ok (k:=2) sc (fun vs H Q E h=>?_) (fun cdv A outer s H vs Q E hr h=>?_)
 ·obtain⟨v,t,m,n,rfl,_⟩:=h
  rfl
 obtain⟨v,t,m,n,rfl,dt,ot,hm,ft,hnm,q⟩:=h;obtain⟨p,R,L,xs,ys,rfl,hp,hR,dR,hL,dL⟩:=dt.tab;have hyl:ys.length=t.ls.length:=by rw[dL.len,GI]
 have hxl:xs.length=t.rs.length:=by rw[dR.len,JL]
 have h1:=ot.most;have h2:=ot.last;refine⟨_,(AY (LA (i:=1) [".0", "part"] 1 [none,none] sc.nd rfl rfl (DV (CM CS (pv 0) Ao (fun _ _=>rfl))) (fun _ _ _ _ _=>EE) (fun _ _ _ _ _=>(CM Kj (pv 1) Ao (fun _ _=>rfl))))
 (AY (Gu aW rfl (DV (CM CS (pv 0) Ao (fun _ _=>rfl))) (BM (i:=2) sc.nd rfl (Or.inl rfl))
  (Ad (Ib (OB PySem.F.plainAttrs_list PySem.F.slot_list_extend PySem.F.type_list_extend NY (pv 1) (AH (FZ [".0", "part"] 1 [none,none] (DV (pv 2)) (fun _ _ _ _ _=>EE) (fun _ _ _ _ _=>(CM Kj (pv 1) Ao (fun _ _=>rfl)))) AU)))))
 (Ad (BJ (B9 Dr MM hr rfl (AH (pv 1) AU)))))),?_⟩
 refine⟨_,rfl,_,_,_,_,rfl,rfl,Au.of hp,rfl,L,rfl,⟨_,Ae.of hL⟩,fun Z hZ=>Ft (n:=ys.length) (fun i us H'=>AG H H'∧us=(DB (t.ls.take i)).map V.int) ⟨Aa hZ _,rfl⟩ ?_ ?_⟩
 ·rintro i us H1 hi ⟨e1,rfl⟩ hD1;have hr:t.ls[i]? = some (t.ls[i]'(by lia)):=aN _;obtain⟨p,hp1,hp2⟩:=JY dL hr;generalize t.ls[i]'(by lia)=r at hr hp2;refine⟨⟨ys,.ref p,Ae.of (e1 _ _ hL),hp1⟩,Sa (n:=60) (by unfold DB;simp;lia) (by decide),fun x H' y=>?_⟩;obtain⟨rfl,y⟩:=y;have hx:=y ys (Ae.of (e1 _ _ hL));rw[hp1]at hx;cases hx;unfold Gm;refine Dd ⟨_,rfl,_,_,_,_,rfl,rfl,Au.of (e1 _ _ hp2),rfl,hD1,EJ hi ⟨fun b o z=>?_,?_⟩⟩
  ·rw[AF (AJ z hZ)];exact e1 _ _ z
  ·rw[List.take_add_one,hr,DB,DB,List.map_append,List.map_append]
   rfl
 rintro us H1 ⟨e1,rfl⟩ hZ1;rw[hyl,List.take_length]at hZ1;refine⟨⟨ys,Ae.of (e1 _ _ hL),Nat.le_refl _⟩,?_⟩;refine⟨_,rfl,_,_,_,_,rfl,rfl,Au.of (e1 _ _ hp),rfl,R,rfl,⟨_,Ae.of (e1 _ _ hR)⟩,JU (xs:=xs) (fun i σ H'=>∃r2,σ=[some (.ref p),some (.ref Z),r2]∧AG H H'∧H' Z=some (.lst ((FD t i).map V.int))) ?_ ?_ ?_ ?_⟩
 ·exact⟨_,rfl,e1,by rw[hZ1];unfold FD;simp⟩
 ·rintro i σ H' _ ⟨r2,rfl,e,_⟩;exact Ae.of (e _ _ hR)
 ·rintro i x σ H2 hx ⟨r2,rfl,e2,hZ2⟩;have hi:i<t.rs.length:=by rw[←hxl];exact(aE.mp hx).1
  have hr:t.rs[i]? = some t.rs[i]:=aN hi;have hrl:=ot.row _ _ hr;obtain⟨a,zs,g1,g2,dz⟩:=OP dR hr;generalize t.rs[i]=row at hr dz hrl;rw[hx]at g1;cases g1;have hzl:zs.length=row.length:=by rw[dz.len,GI]
  refine⟨_,rfl,.inl ⟨rfl,_,Ae.of hZ2⟩,_,rfl,a,rfl,⟨_,Ae.of (e2 _ _ g2)⟩,fun D hD=>Ft (n:=zs.length) (fun j ys H'=>AG H2 H'∧ys=(DB (row.take j)).map V.int) ⟨Aa hD _,rfl⟩ ?_ ?_⟩
  ·rintro j us H3 hj ⟨e3,rfl⟩ hD3;have E3:=e2.trans e3;have hr:row[j]? = some (row[j]'(by lia)):=aN _;obtain⟨p,hp1,hp2⟩:=JY dz hr;generalize row[j]'(by lia)=r at hr hp2;refine⟨⟨zs,.ref p,Ae.of (E3 _ _ g2),hp1⟩,Sa (n:=60) (by unfold DB;simp;lia) (by decide),fun x H' y=>?_⟩;obtain⟨rfl,y⟩:=y;have hx:=y zs (Ae.of (E3 _ _ g2));rw[hp1]at hx;cases hx;unfold Gm;refine Dd ⟨_,rfl,_,_,_,_,rfl,rfl,Au.of (E3 _ _ hp2),rfl,hD3,EJ hj ⟨fun b o z=>?_,?_⟩⟩
   ·rw[AF (AJ z hD)];exact e3 _ _ z
   ·rw[List.take_add_one,hr,DB,DB,List.map_append,List.map_append]
    rfl
  ·rintro us H3 ⟨e3,rfl⟩ hD3;have E3:=e2.trans e3;rw[hzl,List.take_length]at hD3;refine⟨⟨zs,Ae.of (E3 _ _ g2),Nat.le_refl _⟩,Z,D,_,_,rfl,rfl,e3 _ _ hZ2,hD3,?_,_,rfl,fun b o z=>?_,?_⟩
   ·have:=HY ot i (by lia);rw[List.length_map,List.length_map,show(DB row).length=row.length from bM _];have h40:t.rs.length*i≤40*40:=Nat.mul_le_mul (by lia) (by lia);exact aM (show _≤2000 by lia) (by rw[sizeLine_eq];decide)
   ·rw[AF (AJ z hZ)];exact e3 _ _ (e2 _ _ z)
   ·rw[AI,Ls hr,List.map_append]
 ·rintro σ H2 ⟨r2,rfl,e2,hZ2⟩;rw[hxl]at hZ2;refine⟨_,rfl,Z,_,n,rfl,hZ2,NU ft _,?_,q H2 e2⟩;have:=HY ot _ (aG _);have h3:t.rs.length*t.rs.length≤m*m:=Nat.mul_le_mul h1 h1;exact aM (au n (by lia)) hnm
end
def Dj(t:Tb):List (List Int):=(t.rs++[t.ls]).map fun r=>Gi r (CZ t)
def LP(t:Tb)(u:Tr):Rat:=Rat.divInt ((C5 (Dj t) u).getLast?.getD 0) (CZ t^u.AR)
def Zm:Sp:=fun vs H Q _=>∃v u,vs=[v]∧Tv H u v∧u.deep<8∧u.AR≤8∧∀H',AG H H'→Q (.int (u.AR:Nat)) H'
def X7(Dm:List Tr)(c:Nat):Sp:=fun vs H Q _=>∃(v:V) (t:Tb) (L:AD) (tvs:List V) (ts:List Tr) (m n k:Nat),vs=[v,.ref L]∧DU H (BA t) v∧t.Ok m∧m≤40∧t.Fits n∧n*(m+m*m)≤4000∧Gw (Dj t) c∧(CZ t).natAbs<2^k∧n+k≤4000∧1≤CZ t ∧
 H L=some (.lst tvs)∧tvs.length=ts.length∧ts.length≤1000∧(∀(i:Nat) (x:V),tvs[i]? = some x→∃u,ts[i]? = some u∧Tv H u x∧u∈Dm∧u.AR≤8∧k*u.AR≤4000) ∧
 ∀D H' zs,AG H H'→H D=none→H' D=some (.lst zs)→CG H' (Be (ts.map (LP t))) zs→Q (.ref D) H'
def K1(H:Hp)(zs:List V)(qs:List Rat):Prop:=zs.length=qs.length∧∀(i:Nat) (q:Rat),qs[i]? = some q→∃p:AD,zs[i]? = some (.ref p)∧H p=some (.tup (M7 q))
def K1.A2{H H':Hp}{zs:List V}{qs:List Rat}(h:K1 H zs qs)(e:IC H H'):K1 H' zs qs:=⟨h.1,fun i q hi=>let⟨p,h1,h2⟩:=h.2 i q hi;⟨p,h1,e _ _ h2⟩⟩
def K1.snoc{H:Hp}{zs:List V}{qs:List Rat}(h:K1 H zs qs){p:AD}{q:Rat}(hp:H p=some (.tup (M7 q))):K1 H (zs++[.ref p]) (qs++[q]):=by
 refine⟨by rw[List.length_append,List.length_append,h.1];rfl,fun i r hi=>?_⟩;by_cases z:i<qs.length
 ·rw[List.getElem?_append_left z]at hi;rw[List.getElem?_append_left (by rw[h.1];exact z)];exact h.2 i r hi
 ·rw[List.getElem?_append_right (by lia)]at hi;rw[List.getElem?_append_right (by rw[h.1];lia),h.1];have:i-qs.length=0:=by
   have:=(aE.mp hi).1;simp at this
   lia
  rw[this]at hi ⊢;cases hi;exact⟨p,rfl,hp⟩
def K1.dM{H:Hp}:∀ {qs:List Rat} {zs:List V},K1 H zs qs→CG H (Be qs) zs
 |[],[],_=>.nil
 |[],_::_,h=>by cases h.1
 |_::_,[],h=>by cases h.1
 |q::qs,z::zs,h=>by
  obtain⟨p,h1,h2⟩:=h.2 0 q rfl;cases h1;refine .cons (Y6 h2) (K1.dM ⟨by simpa using h.1,fun i r hi=>?_⟩);exact h.2 (i+1) r hi
def XC{xs:List Int}(h:1≤xs.length):EZ (xs.map V.int) (-1)=some (V.int (xs.getLast?.getD 0)):=by
 have hne:xs≠[]:=fun z=>by rw[z]at h;exact absurd h (by decide)
 have e:=List.dropLast_concat_getLast hne;rw[←e,List.map_append,List.getLast?_append];exact Uy _ _
def Z2{b:Int}(h:1≤b)(k:Nat):b^k≠0:=Int.ne_of_gt (Int.pow_pos h)
def VS{b:Int}{k p:Nat}(h:b.natAbs<2^k)(hk:k*p≤4000):∃m,m≤9000∧(b^p).natAbs<2^m:=by
 refine⟨k*p+1,by lia,?_⟩;rw[Int.natAbs_pow];refine ag (Nat.pow_le_pow_left (bA h) p) ?_;rw[←Nat.pow_mul];exact Nat.pow_lt_pow_of_lt (by decide) (by lia)
section
variable{P:Program}{w:World}{K:Fg}{mg:Str→Option VL}{base:Heap}{f g1 g2 g3 g4 g5 g6:AD}{fd gd1 gd2 gd3 gd4 gd5 gd6:FuncData}
def Lp:Ac ["table", "trees", "bottom", "rows", "known", "weights", "tree"] ["table", "trees"] (AO E9):=CB
def Lm{Dm:List Tr}{c:Nat}(DO:Rc Dm c)(F:Fn K mg "weights_under" E9 ["table", "trees"] f fd)(EK:Fn K mg "table_bottom" Fl ["table"] g1 gd1)(Fw:Fn K mg "tops_over" IJ ["some", "bottom"] g2 gd2)
 (Cc:Fn K mg "readings" JX ["rows", "tree", "known"] g3 gd3)(Gd:Fn K mg "power_of" JG ["base", "power"] g4 gd4)(Ak:Fn K mg "knots_within" CP ["tree"] g5 gd5)(CC:Fn K mg "fraction_of" Eg ["top", "bottom"] g6 gd6)
 (M9:AL P w K mg base Ah 11 g1 gd1 ["table"] YT)(QJ:AL P w K mg base Ah 11 g2 gd2 ["some", "bottom"] Ub)(JA:AL P w K mg base Ah 11 g3 gd3 ["rows", "tree", "known"] (Ur Dm c 8))(Rh:AL P w K mg base Ah 11 g4 gd4 ["base", "power"] V7)
 (BC:AL P w K mg base Ah 11 g5 gd5 ["tree"] Zm)(DP:AL P w K mg base Ah 11 g6 gd6 ["top", "bottom"] RQ):AL P w K mg base Ah 12 f fd ["table", "trees"] (X7 Dm c):=by
 have sc:=Lp;refine F.F.ok (k:=11) sc (fun vs H Q E h=>?_) (fun cdv A outer s H vs Q E hr h=>?_)
 ·obtain⟨v,t,L,tvs,ts,m,n,k,rfl,_⟩:=h
  rfl
 obtain⟨v,t,L,tvs,ts,m,n,k,rfl,dt,ot,hm,ft,hnm,ro,hB,hnk,hB1,hL,htl,hts,hall,q⟩:=h;have o1:=ot.most;have o2:=ot.last;have o3:=ot.one;refine⟨_,(AY (BL (i:=2) sc.nd rfl (Or.inr rfl) (B9 EK M9 hr rfl (AH (pv 0) AU)))
 (AY (LA (i:=3) [".0", "row", "bottom"] 1 [none,none,some 2] sc.nd rfl rfl (DV (B0 Tq (CM CS (pv 0) Ao (fun _ _=>rfl)) (Jt (AH (CM CS (pv 0) Ao (fun _ _=>rfl)) AU)))) (fun _ _ _ _ _=>EE) (fun _ _ _ _ _=>(B9 Fw QJ hr rfl (AH (pv 1) (AH (pv 2) AU)))))
 (AY (BL (i:=4) sc.nd rfl (Or.inl rfl) V1)
 (AY (BL (i:=5) sc.nd rfl (Or.inl rfl) (Jt AU))
 (AY (Gu aW rfl (DV (pv 1)) (BM (i:=6) sc.nd rfl (Or.inl rfl))
  (Ad (Ib (OB PySem.F.plainAttrs_list PySem.F.slot_list_append PySem.F.type_list_append J7 (pv 5) (AH (B9 CC DP hr rfl (AH (CM Qd (B9 Cc JA hr rfl (AH (pv 3) (AH (pv 6) (AH (pv 4) AU)))) (WS TB Ao) (fun _ _=>rfl)) (AH (B9 Gd Rh hr rfl (AH (pv 2) (AH (B9 Ak BC hr rfl (AH (pv 6) AU)) AU))) AU))) AU)))))
 (Ad (BJ (pv 5)))))))),?_⟩
 refine⟨_,rfl,v,t,m,n,rfl,dt,ot,hm,ft,hnm,fun H1 e1=>?_⟩;obtain⟨p,R,L',xs,ys,rfl,hp,hR,dR,hL',dL⟩:=(dt.same e1).tab;have hxl:xs.length=t.rs.length:=by rw[dR.len,JL]
 refine⟨_,rfl,_,_,_,_,rfl,rfl,Au.of hp,rfl,_,rfl,_,_,_,_,rfl,rfl,Au.of hp,rfl,(by show 1≤sizeLine;decide),fun q1 hq1=>?_⟩;have e2:=Aa hq1 (.lst [V.ref L']);have h2:upd H1 q1 (.lst [V.ref L']) q1=some (.lst [V.ref L']):=AI;generalize upd H1 q1 (.lst [V.ref L'])=H2 at e2 h2;refine⟨R,q1,_,_,rfl,rfl,e2 _ _ hR,h2,cb (by simp;lia),fun C0 hC0=>?_⟩;have e3:=Aa hC0 (.lst (xs++[V.ref L']));have h3:upd H2 C0 (.lst (xs++[V.ref L'])) C0=some (.lst (xs++[V.ref L'])):=AI;generalize upd H2 C0 (.lst (xs++[V.ref L']))=H3 at e3 h3;have E3:=(e1.trans e2).trans e3;have E13:=e2.trans e3;have get:∀(i:Nat) (row:List Rat),(t.rs++[t.ls])[i]? = some row→∃(a:AD) (zs:List V),(xs++[V.ref L'])[i]? = some (.ref a)∧H3 a=some (.lst zs)∧CG H3 (Be row) zs∧row.length≤50∧∀q∈row,FM.Fits q n:=fun i row hi=>by
  by_cases z:i<t.rs.length
  ·rw[List.getElem?_append_left z]at hi;rw[List.getElem?_append_left (by lia)];obtain⟨a,zs,g1,g2,g3⟩:=OP dR hi;exact⟨a,zs,g1,E13 _ _ g2,g3.same E13,by rw[ot.row i row hi];lia,ft.1 row (aP hi)⟩
  ·rw[List.getElem?_append_right (by lia)]at hi;have:i-t.rs.length=0:=by
    have:=(aE.mp hi).1;simp at this
    lia
   rw[this]at hi;cases hi;rw[List.getElem?_append_right (by lia),hxl,this];exact⟨L',ys,rfl,E13 _ _ hL',dL.same E13,by lia,ft.2⟩
 have hal:(t.rs++[t.ls]).length=(xs++[V.ref L']).length:=by rw[List.length_append,List.length_append,hxl];rfl
 have hal60:(xs++[V.ref L']).length<60:=by rw[List.length_append,hxl];simp;lia
 refine⟨C0,rfl,⟨_,Ae.of h3⟩,fun D hD=>Ft (n:=(xs++[V.ref L']).length) (fun i us H'=>AG H3 H'∧us.length=i∧∀(j:Nat) (row:List Rat),j<i→(t.rs++[t.ls])[j]? = some row→∃a:AD,us[j]? = some (.ref a)∧H' a=some (.lst ((Gi row (CZ t)).map V.int))∧a≠D) ?_ ?_ ?_⟩
 ·exact⟨Aa hD _,rfl,fun j row hj=>absurd hj (ah _)⟩
 ·rintro i us H4 hi ⟨e4,hul,hus⟩ hD4;have hr:(t.rs++[t.ls])[i]? = some ((t.rs++[t.ls])[i]'(by lia)):=aN _;generalize (t.rs++[t.ls])[i]'(by lia)=row at hr;obtain⟨a,zs,g1,g2,g3,g4,g5⟩:=get i row hr;refine⟨⟨_,.ref a,Ae.of (e4 _ _ h3),g1⟩,Sa (n:=60) (by lia) (by decide),fun x H' y=>?_⟩;obtain⟨rfl,y⟩:=y;have hx:=y _ (Ae.of (e4 _ _ h3));rw[g1]at hx;cases hx;unfold Gm;refine Dd ⟨_,rfl,_,rfl,a,zs,row,CZ t,n,k,rfl,e4 _ _ g2,g3.same e4,g4,g5,hB,hnk,fun D5 H5 e5 n5 h5=>⟨e5 _ _ hD4,EJ hi ⟨fun b o z=>?_,by simp[hul],fun j row' hj hr'=>?_⟩⟩⟩
  ·rw[AF (AJ z hD)];exact e5 _ _ (e4 _ _ z)
  ·by_cases z:j<i
   ·obtain⟨b,k1,k2,k3⟩:=hus j row' z hr';exact⟨b,by rw[List.getElem?_append_left (by lia)];exact k1,by rw[AF k3];exact e5 _ _ k2,k3⟩
   ·have:j=i:=by lia
    subst this;rw[hr]at hr';cases hr';have nD:D5≠D:=fun z=>by rw[z,hD4]at n5;cases n5
    exact⟨D5,by rw[List.getElem?_append_right (by lia),hul,Nat.sub_self];rfl,by rw[AF nD];exact h5,nD⟩
 rintro rvs H4 ⟨e4,hul,hus⟩ hD4;refine⟨⟨_,Ae.of (e4 _ _ h3),Nat.le_refl _⟩,?_⟩;have E4:=E3.trans e4;have hrw:Np H4 rvs (Dj t):=by
  refine⟨by rw[hul,←hal];exact(bM _).symm,fun j row hj=>?_⟩;unfold Dj at hj;rw[List.getElem?_map]at hj;cases hj':(t.rs++[t.ls])[j]? with
  |none=>rw[hj']at hj;cases hj
  |some row' =>
   rw[hj']at hj;cases hj;obtain⟨a,k1,k2,_⟩:=hus j row' (by rw[←hal];exact(aE.mp hj').1) hj';exact⟨a,k1,k2⟩
 have hDn:H D=none:=N9 E3 hD;refine fun d hd=>?_;have e5:=Aa hd (dN d []);have h5:upd H4 d (dN d []) d=some (dN d []):=AI;generalize upd H4 d (dN d [])=H5 at e5 h5;refine⟨(by show 0≤sizeLine;decide),fun W hW=>?_⟩;have e6:=Aa hW (.lst []);have h6:upd H5 W (.lst []) W=some (.lst []):=AI;generalize upd H5 W (.lst [])=H6 at e6 h6;have hdn:=N9 E4 hd;have E5:=E4.trans e5;have hWn:=N9 E5 hW;have E6:=E5.trans e6;have hdW:d≠W:=fun z=>by rw[←z,h5]at hW;cases hW
 have W4:H4 W=none:=N9 e5 hW;refine⟨_,rfl,L,rfl,⟨_,Ae.of (E6 _ _ hL)⟩,JU (xs:=tvs) (fun i σ H'=>∃(r6:Option V) (ρ:List KR) (zs:List V),σ=[some (.ref p),some (.ref L),some (.int (CZ t)),some (.ref D),some (.ref d),some (.ref W),r6]∧AG H4 H'∧Memo Dm (Dj t) W H' d ρ∧H' W=some (.lst zs)∧K1 H' zs ((ts.take i).map (LP t))) ?_ ?_ ?_ ?_⟩
 ·refine⟨_,[],[],rfl,e5.trans e6,⟨e6 _ _ h5,.nil,fun q hq=>by cases hq⟩,h6,rfl,fun i q hi=>by cases hi⟩
 ·rintro i σ H' _ ⟨r6,ρ,zs,rfl,e,_⟩;exact Ae.of (e _ _ (E4 _ _ hL))
 ·rintro i x σ H7 hx ⟨r6,ρ,zs,rfl,e7,me7,hW7,fl7⟩;obtain⟨u,hu,tu,hD,h8,hk⟩:=hall i x hx;have E7:=E4.trans e7;refine⟨_,rfl,.inl ⟨rfl,_,Ae.of hW7⟩,_,rfl,_,rfl,_,rfl,D,rvs,Dj t,x,u,d,ρ,W,rfl,e7 _ _ hD4,hrw.same e7,ro,tu.same E7,hD,DO.deep u hD,⟨_,hW7⟩,me7,fun H8 ρ8 l e8 me8 hl8=>?_⟩;have tu8:=(tu.same E7).A2 (e8.A2 me7.at_);have hW8:=e8.lst me7.at_ hW7;have fl8:=fl7.A2 (e8.A2 me7.at_);have hne:(C5 (Dj t) u).length=(t.rs++[t.ls]).length:=(Ii _ _).trans (bM _);have hE8:AG H4 H8:=fun b o z=>e8 _ _ (fun y=>by rw[y,hd]at z;cases z) (e7 _ _ z);refine⟨_,rfl,_,_,_,_,rfl,rfl,Ae.of hl8,XC (by rw[hne,List.length_append];simp),?_⟩;refine⟨_,rfl,_,rfl,x,u,rfl,tu8,DO.deep u hD,h8,fun H9 e9=>?_⟩;refine⟨CZ t,u.AR,k,rfl,hB,hk,?_⟩;obtain⟨mb,hmb,hpb⟩:=VS hB hk;refine⟨_,_,mb,rfl,Z2 hB1 _,hmb,hpb,fun l' H10 e10 hl10=>?_⟩;have E10:=e9.trans e10;refine⟨W,zs,.ref l',rfl,rfl,E10 _ _ hW8,HQ ?_,?_⟩
  ·rw[fl7.1,List.length_map,List.length_take];lia
  ·refine⟨_,ρ8,_,rfl,fun b o z=>?_,⟨?_,me8.nd,fun q' hq'=>?_⟩,AI,?_⟩
   ·rw[AF (AJ z W4)];exact E10 _ _ (hE8 _ _ z)
   ·rw[AF hdW];exact E10 _ _ me8.at_
   ·obtain⟨u',l2,k1,k2,k3,k4,k5,k6⟩:=me8.all q' hq';exact⟨u',l2,k1,k2,(k3.same E10).A2 (IC.upd (E10 _ _ hW8)),k4,by rw[AF k6];exact E10 _ _ k5,k6⟩
   ·rw[List.take_add_one,hu,List.map_append];refine((fl8.A2 (.of E10)).snoc (q:=LP t u) hl10).A2 (IC.upd (E10 _ _ hW8))
 ·rintro σ H7 ⟨r6,ρ,zs,rfl,e7,me7,hW7,fl7⟩;rw[htl,List.take_length]at fl7;exact⟨_,rfl,q W H7 zs (E4.trans e7) hWn hW7 fl7.dM⟩
end
section
variable{P:Program}{w:World}{K:Fg}{mg:Str→Option VL}{base:Heap}{f g:AD}{fd:FuncData}
def Pu:Ac ["_law_top", "_law_bottom", "_law_one", "_law_other"] ["_law_top", "_law_bottom"] (AO IU):=CB
def Px(F:Fn K mg "_law_frac" IU ["_law_top", "_law_bottom"] f fd)(Hh:mg "abs" = none):AL P w K mg base Ah 1 f fd ["_law_top", "_law_bottom"] RQ:=by
 have sc:=Pu;refine F.F.ok (k:=0) sc (fun vs H Q E h=>?_) (fun cdv A outer s H vs Q E hr h=>?_)
 ·obtain⟨t,b,m,rfl,_⟩:=h
  rfl
 obtain⟨t,b,m,rfl,hb,hm,hs,q⟩:=h;refine⟨_,(AY (BL (i:=2) sc.nd rfl (Or.inl rfl) (BB Iz rfl Hh PyProof.Rows.boot_abs (AH (pv 0) AU)))
 (AY (BL (i:=3) sc.nd rfl (Or.inl rfl) (BB Iz rfl Hh PyProof.Rows.boot_abs (AH (pv 1) AU)))
 (AY (Lg aW (Bt Mf (pv 3) Ao (A9 _))
  (Ad (Z9 (i:=2) (j:=3) rfl sc.nd rfl rfl (by decide) rfl rfl (AH (pv 3) (AH (B0 Mk (pv 2) (pv 3)) AU)) rfl)))
 (AY (Df (Bt OI (pv 1) Ao (A9 _))
  (Ad (BL (i:=2) sc.nd rfl (Or.inl rfl) (B0 TV Ao (pv 2))))
  B8)
 (Ad (BJ (Od (AH (B0 Ei (pv 0) (pv 2)) (AH (B0 Ei (pv 1) (pv 2)) AU))))))))),?_⟩
 refine⟨_,rfl,_,rfl,_,rfl,_,rfl,?_⟩;refine Lh (fun σ H'=>∃g l,σ=[some (.int t),some (.int b),some (.int g),some (.int l)]∧H=H'∧Int.gcd g l=Int.gcd t b∧0≤g∧0≤l) (fun σ _=>dI σ) ?_ ?_ ?_
 ·exact⟨_,_,rfl,rfl,FM.Q9 t b,FM.abs_nonneg t,FM.abs_nonneg b⟩
 ·rintro σ H' ⟨g,l,rfl,rfl,hg,h0,h1⟩;refine⟨_,rfl,_,_,rfl,rfl,_,rfl,Cm (fun c=>?_) (fun c=>?_)⟩
  ·have hl':0<l:=aV c;have hl:l≠0:=by lia
   refine⟨_,rfl,_,rfl,_,rfl,_,_,rfl,rfl,hl,_,_,rfl,⟨_,_,rfl,rfl,?_,h1,FM.fmod_nonneg hl h1⟩,?_⟩
   ·rw[FM.PM];exact hg
   ·exact FM.Ni g l hl
  ·have hl':¬0<l:=bC (ak.mpr c);have hl:l=0:=by lia
   subst hl;rw[FM.T3 hg h0]
   try dsimp only[Cw]
   refine Lj (fun σ' H'=>σ'=[some (.int t),some (.int b),some (.int (FM.gs t b)),some (.int 0)]∧H=H') (fun nx hn=>?_) ?_
   ·refine⟨_,rfl,_,_,rfl,rfl,_,rfl,Cm (fun c=>?_) (fun c=>?_)⟩
    ·have c':b<0:=aV c;refine⟨_,rfl,_,_,rfl,rfl,hn _ _ ⟨?_,rfl⟩⟩;show [some (V.int t),some (V.int b),some (V.int (0-FM.gi t b)),some (V.int 0)]=_;unfold FM.gs;rw[if_pos c',Int.zero_sub]
    ·have c':¬b<0:=bC (ak.mpr c);refine hn _ _ ⟨?_,rfl⟩;unfold FM.gs;rw[if_neg c']
   ·rintro σ' H' ⟨rfl,rfl⟩;have h0:FM.gs t b≠0:=FM.WA hb;have h1:(FM.gs t b).natAbs<2^m:=ag (FM.Wc hb) hs;refine⟨_,rfl,_,rfl,_,_,rfl,rfl,⟨h0,m,hm,h1⟩,_,rfl,_,rfl,_,_,rfl,rfl,⟨h0,m,hm,h1⟩,UM,fun p hp=>?_⟩;refine q p _ (Aa hp _) ?_;rw[AI];show some (HO.tup [V.int (t.fdiv (FM.gs t b)),V.int (b.fdiv (FM.gs t b))])=_;rw[FM.UK hb,FM.Tw hb]
    rfl
 ·exact fun σ H Q Q' hq ⟨v,e,i,j,e1,e2,k,e3,q⟩=>⟨v,e,i,j,e1,e2,k,e3,hq _ _ q⟩
end
section
variable{P:Program}{w:World}{K:Fg}{mg:Str→Option VL}{base:Heap}{f:AD}{fd:FuncData}
def MR:Ac ["tree"] ["tree"] (AO CP):=CB
def Ik(Aj:MD):DF :=
 (CN (AX Ci (fC (.int 1)) (AV O0 (AA (F4 (Cs 1) FR (AV Aj (AA (nm 1) AQ)) [none,none] (FC (nm 0))) AQ))))
def Aj:Nat→MD
 |0=>fun _=>none
 |n+1=>Bu ["tree"] ["tree"] (Ik (Aj n))
def Ht{k:Nat}(Ak:Fn K mg "knots_within" CP ["tree"] f fd)(CV:mg "sum" = none):∀n,
  AL P w K mg base Ah (k+n+1) f fd ["tree"] (BP (Aj n))
 |0=>GH fun _ _ _ _ ⟨_,_,_,h,_⟩=>by cases h
 |n+1=>by
  have sc:=MR;have BC:=Ht (k:=k) Ak CV n;refine FW (k:=k+n+1) (F:=Ik (Aj n)) Ak sc fun cdv A outer s H E hr=>?_;exact(Ai (Bs (Ap B7 AN (G7 (O7 rfl) rfl CV bS (AE (Ff [".0", "bough"] 1 [none,none] (DL (AB (pv 0))) (fun _ _ _ _ _=>EI) (fun _ _ _ _ _=>(Am Ak BC hr rfl (AE (AB (pv 1)) AM)))) AM)))))
def Kx:Ac ["tree", "density", "bough"] ["tree"] (AO En):=CB
def Gz(Aj:MD)(Aw:MD):DF :=
 (Ay (Bf 1 (AV Aj (AA (nm 0) AQ)))
 (Ay (Eh (FC (nm 0)) (KC 2)
  (Bf 1 (AX Em (nm 1) (AV Aw (AA (nm 2) AQ)))))
 (CN (nm 1))))
def Aw(Aj:MD):Nat→MD
 |0=>fun _=>none
 |n+1=>Bu ["tree"] ["tree", "density", "bough"] (Gz Aj (Aw Aj n))
def GZ{k:Nat}{Aj:MD}(BR:Fn K mg "density_within" En ["tree"] f fd)
 {Ir:AD}{Hu:FuncData}(Ak:Fn K mg "knots_within" CP ["tree"] Ir Hu)(BC:AL P w K mg base Ah k Ir Hu ["tree"] (BP Aj)):∀n,
  AL P w K mg base Ah (k+n+1) f fd ["tree"] (BP (Aw Aj n))
 |0=>GH fun _ _ _ _ ⟨_,_,_,h,_⟩=>by cases h
 |n+1=>by
  have sc:=Kx;have CT:=GZ (k:=k) (Aj:=Aj) BR Ak BC n;have BC:=BC.mono (show k≤k+n+1 by lia);refine FW (k:=k+n+1) (F:=Gz Aj (Aw Aj n)) BR sc fun cdv A outer s H E hr=>?_;exact(AW (BQ (i:=1) sc.nd rfl (Or.inl rfl) (Am Ak BC hr rfl (AE (AB (pv 0)) AM)))
 (AW (GD aW rfl (DL (AB (pv 0))) (Gp (BM (i:=2) sc.nd rfl (Or.inl rfl)))
  (Ai (BQ (i:=1) sc.nd rfl (Or.inl rfl) (Ap FA (AB (pv 1)) (Am BR CT hr rfl (AE (AB (pv 2)) AM))))))
 (Ai (Bs (AB (pv 1))))))
def FV:Ac ["boughs"] ["boughs"] (AO D9):=CB
def J1:DF :=
 (CN (AV LW (AA (AV (Mg true) (AA (nm 0) AQ)) AQ)))
def Ab:MD:=Bu ["boughs"] ["boughs"] (J1)
def Jo{k:Nat}(F:Fn K mg "in_falling_order" D9 ["boughs"] f fd)(Ej:mg "sorted" = none)(EU:mg "tuple" = none) :
  AL P w K mg base Ah (k+1) f fd ["boughs"] (BP (Ab)):=FW F FV fun cdv A outer s H E hr=>by
 have sc:=FV;exact(Ai (Bs (Hb VC rfl EU PyProof.Rows.boot_tuple (AE (VU (by have:=hr.units;exact this) rfl Ej (AE (AB (pv 0)) AM) (fun h=>VY (by have:=hr.units;exact this) rfl Ej h)) AM))))
def Jn:Ac ["tree", "larger", "k", "bough", "grown"] ["tree"] (AO D0):=CB
def GG(Ab:MD)(Al:MD):DF :=
 (Ay (YX 1 (AA (AV Ab (AA (AX Ci (nm 0) (DC (AA (DC AQ) AQ))) AQ)) AQ))
 (Ay (Eh (Es RT (AA (nm 0) AQ)) (U7 2 3)
  (Eh (FC (AV Al (AA (nm 3) AQ))) (KC 4)
   (dW 1 (AV Ab (AA (AX Ci (AX Ci (Ys (nm 0) WR (WI (nm 2))) (DC (AA (nm 4) AQ))) (Ys (nm 0) (WI (AX Ci (nm 2) (fC (.int 1)))) WR)) AQ)))))
 (Wg 1)))
def Al(Ab:MD):Nat→MD
 |0=>fun _=>none
 |n+1=>Bu ["tree"] ["tree", "larger", "k", "bough", "grown"] (GG Ab (Al Ab n))
def FX{k:Nat}{Ab:MD}(BH:Fn K mg "trees_one_larger" D0 ["tree"] f fd)
 {F5:AD}{FU:FuncData}(Bg:Fn K mg "in_falling_order" D9 ["boughs"] F5 FU)(BS:AL P w K mg base Ah k F5 FU ["boughs"] (BP Ab))(Cg:mg "enumerate" = none):∀n,
  AL P w K mg base Ah (k+n+1) f fd ["tree"] (BP (Al Ab n))
 |0=>GH fun _ _ _ _ ⟨_,_,_,h,_⟩=>by cases h
 |n+1=>by
  have sc:=Jn;have B4:=FX (k:=k) (Ab:=Ab) BH Bg BS Cg n;have BS:=BS.mono (show k≤k+n+1 by lia);refine FW (k:=k+n+1) (F:=GG Ab (Al Ab n)) BH sc fun cdv A outer s H E hr=>?_;exact(AW (UU (i:=1) sc.nd rfl (Or.inl rfl) (AE (Am Bg BS hr rfl (AE (Ap B7 (AB (pv 0)) (DN (AE (DN AM) AM))) AM)) AM))
 (AW (GD aW rfl (Wy rfl Cg (AE (AB (pv 0)) AM)) (Y3 (L9 rfl (C9 (BM (i:=2) sc.nd rfl (Or.inl rfl)) (C9 (BM (i:=3) sc.nd rfl (Or.inl rfl)) Ki))))
  (Ai (GD aW rfl (DL (Am BH B4 hr rfl (AE (AB (pv 3)) AM))) (Gp (BM (i:=4) sc.nd rfl (Or.inl rfl)))
   (Ai (T6 (pv 1) (Am Bg BS hr rfl (AE (Ap B7 (Ap B7 (P4 (AB (pv 0)) Qg (RC (AB (pv 2)))) (DN (AE (AB (pv 4)) AM))) (P4 (AB (pv 0)) (RC (Ap B7 (AB (pv 2)) AN)) Qg)) AM)) (fun ho ha=>Ib (OB PySem.F.plainAttrs_list PySem.F.slot_list_append PySem.F.type_list_append J7 ho ha)))))))
 (Ai (X4 (pv 1)))))
def K6:Ac ["many", "trees", "knots", "larger", "tree"] ["many"] (AO I0):=CB
def SF(Al:MD):DF :=
 (Ay (GA (Yq (DD (HU fun i j=>decide (i<j)) (nm 0) (fC (.int 1))) (DD (HU fun i j=>decide (j<i)) (nm 0) (fC (.int 7))))
  Mb
  DH)
 (Ay (Bf 1 (SX (AA (DC AQ) AQ)))
 (Ay (Eh (Es Vr (AA (fC (.int 1)) (AA (nm 0) AQ))) (KC 2)
  (Ay (YX 3 AQ)
  (Ay (Eh (FC (nm 1)) (KC 4)
   (de 3 (AV Al (AA (nm 4) AQ))))
  (eV 3 (Bf 1 (fun δ=>((nm 3) δ).bind Ln))))))
 (CN (nm 1)))))
def CJ(Al:MD):MD:=Bu ["many"] ["many", "trees", "knots", "larger", "tree"] (SF Al)
def QL{k:Nat}{Al:MD}(F:Fn K mg "trees_of" I0 ["many"] f fd)
 {GC:AD}{FT:FuncData}(BH:Fn K mg "trees_one_larger" D0 ["tree"] GC FT)(B4:AL P w K mg base Ah k GC FT ["tree"] (BP Al))(EN:mg "range" = none)(Si:mg "set" = none)(Ej:mg "sorted" = none){tk_MOST_KNOTS:Tok}(G6:mg "MOST_KNOTS" = some (.int 7 tk_MOST_KNOTS)) :
  AL P w K mg base Ah (k+1) f fd ["many"] (BP (CJ Al)):=FW F K6 fun cdv A outer s H E hr=>by
 have sc:=K6;exact(AW (FF (DW.dt (WM (Ds V8 (AB (pv 0)) AN (A9 _)) (UC (Ds WB (AB (pv 0)) (Iy rfl G6) (A9 _)))))
  (Ai JF)
  C6)
 (AW (BQ (i:=1) sc.nd rfl (Or.inl rfl) (MF (AE (DN AM) AM)))
 (AW (GD aW rfl (Uk rfl EN (AE AN (AE (AB (pv 0)) AM))) (Gp (BM (i:=2) sc.nd rfl (Or.inl rfl)))
  (AW (UU (i:=3) sc.nd rfl (Or.inl rfl) AM)
  (AW (GD aW rfl (DL (AB (pv 1))) (Gp (BM (i:=4) sc.nd rfl (Or.inl rfl)))
   (Ai (Tt (pv 3) (Am BH B4 hr rfl (AE (AB (pv 4)) AM)) (fun ho ha=>Ib (OB PySem.F.plainAttrs_list PySem.F.slot_list_extend PySem.F.type_list_extend NY ho ha)))))
  (Ai (Zj 3 (BQ (i:=1) sc.nd rfl (Or.inl rfl) (SE rfl (by have:=hr.units;exact this) rfl Ej rfl Si (AB (pv 3)))))))))
 (Ai (Bs (AB (pv 1)))))))
def Hm:Ac ["trees"] ["trees"] (AO Fe):=CB
def Ij(Aw:MD):DF :=
 (OD (Et (Cs 1) FR (DC (AA (fC (.int 1)) (AA (AV Aw (AA (nm 1) AQ)) AQ))) [none,none] (FC (nm 0))))
def BV(Aw:MD):MD:=Bu ["trees"] ["trees"] (Ij Aw)
def MB{k:Nat}{Aw:MD}(F:Fn K mg "true_weights" Fe ["trees"] f fd)
 {HR:AD}{GY:FuncData}(BR:Fn K mg "density_within" En ["tree"] HR GY)(CT:AL P w K mg base Ah k HR GY ["tree"] (BP Aw)) :
  AL P w K mg base Ah (k+1) f fd ["trees"] (BP (BV Aw)):=FW F Hm fun cdv A outer s H E hr=>by
 have sc:=Hm;exact(Ai (RF [".0", "tree"] 1 [none,none] (DL (AB (pv 0))) (fun _ _ _ _ _=>EI) (fun _ _ _ _ _=>(DN (AE AN (AE (Am BR CT hr rfl (AE (AB (pv 1)) AM)) AM))))))
def Hy:Ac ["trees", "one", "other", "tree", "weight", "due"] ["trees", "one", "other"] (AO Fp):=CB
def Ia:DF :=
 (Ay (Eh (Es M6 (AA (nm 0) (AA (nm 1) (AA (nm 2) AQ)))) (Pp 3 4 5)
  (GA (DD (Dq true) (nm 4) (nm 5))
   (CN (nm 3))
   DH))
 (CN (fC .none)))
def BD:MD:=Bu ["trees", "one", "other"] ["trees", "one", "other", "tree", "weight", "due"] (Ia)
def Ly{k:Nat}(F:Fn K mg "first_unlike" Fp ["trees", "one", "other"] f fd)(Fz:mg "zip" = none) :
  AL P w K mg base Ah (k+1) f fd ["trees", "one", "other"] (BP (BD)):=FW F Hy fun cdv A outer s H E hr=>by
 have sc:=Hy;exact(AW (GD aW rfl (XM rfl Fz (AE (AB (pv 0)) (AE (AB (pv 1)) (AE (AB (pv 2)) AM)))) (Vn (L9 rfl (C9 (BM (i:=3) sc.nd rfl (Or.inl rfl)) (C9 (BM (i:=4) sc.nd rfl (Or.inl rfl)) (C9 (BM (i:=5) sc.nd rfl (Or.inl rfl)) Ki)))))
  (Ai (FF (Ds (OE (by have:=hr.units;exact this)) (AB (pv 4)) (AB (pv 5)) (A9 _))
   (Ai (Bs (AB (pv 3))))
   C6)))
 (Ai (Bs PY)))
def LC:Ac ["name", "named"] ["name"] (AO JV):=CB
def SK:DF :=
 (Ay (GA (U2 fun δ=>(nm 0 δ).bind (Rn true))
  Mb
  DH)
 (Ay (Bf 1 (fun δ=>(nm 0 δ).bind PZ))
 (CN (DC (AA (F4 (Cs 1) FR (AV IV (AA (nm 1) AQ)) [none,none] (FC (AX CH (nm 1) (fC (.int 0))))) (AA (AV IV (AA (AX CH (nm 1) (fC (.int 1))) AQ)) AQ))))))
def BZ:MD:=Bu ["name"] ["name", "named"] (SK)
def QG{k:Nat}(F:Fn K mg "table_of" JV ["name"] f fd)(C2:mg "list" = none){c_NAMED_TABLES:Nat}(EA:mg "NAMED_TABLES" = some (.ref c_NAMED_TABLES)) :
  AL P w K mg base Ah (k+1) f fd ["name"] (BP (BZ)):=FW F LC fun cdv A outer s H E hr=>by
 have sc:=LC;exact(AW (FF (T8 (by have:=hr.units;exact this) rfl EA (pv 0))
  (Ai JF)
  C6)
 (AW (BQ (i:=1) sc.nd rfl (Or.inl rfl) (Z1 (by have:=hr.units;exact this) rfl EA (pv 0) (fun _ _=>rfl)))
 (Ai (Bs (DN (AE (Ff [".0", "row"] 1 [none,none] (DL (Bn (AB (pv 1)) AN (fun _ _=>rfl))) (fun _ _ _ _ _=>EI) (fun _ _ _ _ _=>(Hb NA rfl C2 bQ (AE (AB (pv 1)) AM)))) (AE (Hb NA rfl C2 bQ (AE (Bn (AB (pv 1)) AN (fun _ _=>rfl)) AM)) AM)))))))
def GB:Ac ["thing"] ["thing"] (AO CI):=CB
def EY(ED:MD):DF :=
 (GA (Zf (U2 (AV ED (AA (nm 0) AQ))))
  Mb
  DH)
def AK(ED:MD):MD:=Bu ["thing"] ["thing"] (EY ED)
def J4{k:Nat}{ED:MD}(F:Fn K mg "refuse_no_table" CI ["thing"] f fd)
 {MJ:AD}{K3:FuncData}(Gj:Fn K mg "is_table" JH ["thing"] MJ K3)(JM:AL P w K mg base Ah k MJ K3 ["thing"] (BP ED)) :
  AL P w K mg base Ah (k+1) f fd ["thing"] (BP (AK ED)):=FW F GB fun cdv A outer s H E hr=>by
 have sc:=GB;exact(Ai (FF (Yh (Z7 (Am Gj JM hr rfl (AE (AB (pv 0)) AM))))
  (Ai JF)
  C6))
def Iw:Ac ["table", "order", "trees", "tree"] ["table"] (AO GO):=CB
def Jm(BD:MD)(AK:MD)(CJ:MD)(BV:MD)(CA:MD):DF :=
 (Ay (L5 (AV AK (AA (nm 0) AQ)))
 (Ay (Eh (Es Jx (AA (fC (.int 6)) AQ)) (KC 1)
  (Ay (Bf 2 (AV CJ (AA (AX Ci (nm 1) (fC (.int 1))) AQ)))
  (Ay (Bf 3 (AV BD (AA (nm 2) (AA (AV CA (AA (nm 0) (AA (nm 2) AQ))) (AA (AV BV (AA (nm 2) AQ)) AQ)))))
  (GA (DD (WU true) (nm 3) (fC .none))
   (CN (DC (AA (nm 1) (AA (nm 3) AQ))))
   DH))))
 (CN (DC (AA (fC (.int 6)) (AA (fC .none) AQ))))))
def BU(BD:MD)(AK:MD)(CJ:MD)(BV:MD)(CA:MD):MD:=Bu ["table"] ["table", "order", "trees", "tree"] (Jm BD AK CJ BV CA)
def M5{k:Nat}{BD:MD}{AK:MD}{CJ:MD}{BV:MD}{CA:MD}(F:Fn K mg "table_order" GO ["table"] f fd)
 {IW:AD}{HX:FuncData}(ER:Fn K mg "first_unlike" Fp ["trees", "one", "other"] IW HX)(Fo:AL P w K mg base Ah k IW HX ["trees", "one", "other"] (BP BD))
 {BN:AD}{BK:FuncData}(A1:Fn K mg "refuse_no_table" CI ["thing"] BN BK)(A8:AL P w K mg base Ah k BN BK ["thing"] (BP AK))
 {Lq:AD}{K7:FuncData}(Ge:Fn K mg "trees_of" I0 ["many"] Lq K7)(JO:AL P w K mg base Ah k Lq K7 ["many"] (BP CJ))
 {IZ:AD}{Ho:FuncData}(EH:Fn K mg "true_weights" Fe ["trees"] IZ Ho)(Fj:AL P w K mg base Ah k IZ Ho ["trees"] (BP BV))
 {Hv:AD}{HE:FuncData}(Di:Fn K mg "weights_under" E9 ["table", "trees"] Hv HE)(FJ:AL P w K mg base Ah k Hv HE ["table", "trees"] (BP CA))(EN:mg "range" = none){tk_MOST_ORDER:Tok}(E1:mg "MOST_ORDER" = some (.int 6 tk_MOST_ORDER)) :
  AL P w K mg base Ah (k+1) f fd ["table"] (BP (BU BD AK CJ BV CA)):=FW F Iw fun cdv A outer s H E hr=>by
 have sc:=Iw;exact(AW (IY (Am A1 A8 hr rfl (AE (AB (pv 0)) AM)))
 (AW (GD aW rfl (Nj rfl EN (AE (Iy rfl E1) AM)) (Gp (BM (i:=1) sc.nd rfl (Or.inl rfl)))
  (AW (BQ (i:=2) sc.nd rfl (Or.inl rfl) (Am Ge JO hr rfl (AE (Ap B7 (AB (pv 1)) AN) AM)))
  (AW (BQ (i:=3) sc.nd rfl (Or.inl rfl) (Am ER Fo hr rfl (AE (AB (pv 2)) (AE (Am Di FJ hr rfl (AE (AB (pv 0)) (AE (AB (pv 2)) AM))) (AE (Am EH Fj hr rfl (AE (AB (pv 2)) AM)) AM)))))
  (Ai (FF (Ds Vj (AB (pv 3)) PY (A9 _))
   (Ai (Bs (DN (AE (AB (pv 1)) (AE (AB (pv 3)) AM)))))
   C6)))))
 (Ai (Bs (DN (AE (Iy rfl E1) (AE PY AM)))))))
def EW:Ac ["tables"] ["tables"] (AO Cj):=CB
def IQ:DF :=
 (GA (DD (HU fun i j=>decide (j<i)) (AV O0 (AA (F4 (Cs 1) FR (AV NB (AA (AX CH (nm 1) (fC (.int 0))) AQ)) [none,none] (FC (nm 0))) AQ)) (fC (.int 40)))
  Mb
  DH)
def Ax:MD:=Bu ["tables"] ["tables"] (IQ)
def HW{k:Nat}(F:Fn K mg "refuse_too_many_rows" Cj ["tables"] f fd)(Bl:mg "len" = none)(CV:mg "sum" = none){tk_MOST_ROWS:Tok}(DY:mg "MOST_ROWS" = some (.int 40 tk_MOST_ROWS)) :
  AL P w K mg base Ah (k+1) f fd ["tables"] (BP (Ax)):=FW F EW fun cdv A outer s H E hr=>by
 have sc:=EW;exact(Ai (FF (Ds WB (G7 (O7 rfl) rfl CV bS (AE (Ff [".0", "table"] 1 [none,none] (DL (AB (pv 0))) (fun _ _ _ _ _=>EI) (fun _ _ _ _ _=>(G7 T1 rfl Bl bE (AE (Bn (AB (pv 1)) AN (fun _ _=>rfl)) AM)))) AM)) (Iy rfl DY) (A9 _))
  (Ai JF)
  C6))
def HZ:Ac ["one", "other", "rows"] ["one", "other"] (AO Fi):=CB
def Mq(AK:MD)(Ax:MD):DF :=
 (Ay (L5 (AV AK (AA (nm 0) AQ)))
 (Ay (L5 (AV AK (AA (nm 1) AQ)))
 (Ay (L5 (AV Ax (AA (SX (AA (nm 0) (AA (nm 1) AQ))) AQ)))
 (Ay (Bf 2 (AX Ci (F4 (Cs 1) FR (AV IV (AA (nm 1) AQ)) [none,none] (FC (AX CH (nm 0) (fC (.int 0))))) (F4 (Cs 1) FR (AX Ci (AX CH (nm 2) (fC (.int 1))) (nm 1)) [none,none,some 0] (FC (AX CH (nm 1) (fC (.int 0)))))))
 (CN (DC (AA (nm 2) (AA (AX Ci (AX CH (nm 0) (fC (.int 1))) (AX CH (nm 1) (fC (.int 1)))) AQ))))))))
def BX(AK:MD)(Ax:MD):MD:=Bu ["one", "other"] ["one", "other", "rows"] (Mq AK Ax)
def Lv{k:Nat}{AK:MD}{Ax:MD}(F:Fn K mg "table_behind" Fi ["one", "other"] f fd)
 {BN:AD}{BK:FuncData}(A1:Fn K mg "refuse_no_table" CI ["thing"] BN BK)(A8:AL P w K mg base Ah k BN BK ["thing"] (BP AK))
 {Eb:AD}{EV:FuncData}(Bw:Fn K mg "refuse_too_many_rows" Cj ["tables"] Eb EV)(Cn:AL P w K mg base Ah k Eb EV ["tables"] (BP Ax))(C2:mg "list" = none) :
  AL P w K mg base Ah (k+1) f fd ["one", "other"] (BP (BX AK Ax)):=FW F HZ fun cdv A outer s H E hr=>by
 have sc:=HZ;exact(AW (IY (Am A1 A8 hr rfl (AE (AB (pv 0)) AM)))
 (AW (IY (Am A1 A8 hr rfl (AE (AB (pv 1)) AM)))
 (AW (IY (Am Bw Cn hr rfl (AE (MF (AE (AB (pv 0)) (AE (AB (pv 1)) AM))) AM)))
 (AW (BQ (i:=2) sc.nd rfl (Or.inl rfl) (Ap B7 (Ff [".0", "row"] 1 [none,none] (DL (Bn (AB (pv 0)) AN (fun _ _=>rfl))) (fun _ _ _ _ _=>EI) (fun _ _ _ _ _=>(Hb NA rfl C2 bQ (AE (AB (pv 1)) AM)))) (Ff [".0", "row", "one"] 1 [none,none,some 0] (DL (Bn (AB (pv 1)) AN (fun _ _=>rfl))) (fun _ _ _ _ _=>EI) (fun _ _ _ _ _=>(Ap B7 (Bn (AB (pv 2)) AN (fun _ _=>rfl)) (AB (pv 1)))))))
 (Ai (Bs (DN (AE (AB (pv 2)) (AE (Ap B7 (Bn (AB (pv 0)) AN (fun _ _=>rfl)) (Bn (AB (pv 1)) AN (fun _ _=>rfl))) AM)))))))))
def Jf:Ac ["one", "other"] ["one", "other"] (AO HH):=CB
def Pz(Ca:MD):DF :=
 (CN (AV Ca (AA (AX Em (AX CH (nm 0) (fC (.int 0))) (AX CH (nm 1) (fC (.int 0)))) (AA (AX Em (AX CH (nm 0) (fC (.int 1))) (AX CH (nm 1) (fC (.int 1)))) AQ))))
def Bj(Ca:MD):MD:=Bu ["one", "other"] ["one", "other"] (Pz Ca)
def Nz{k:Nat}{Ca:MD}(F:Fn K mg "frac_times" HH ["one", "other"] f fd)
 {Ja:AD}{Iq:FuncData}(CC:Fn K mg "fraction_of" Eg ["top", "bottom"] Ja Iq)(DP:AL P w K mg base Ah k Ja Iq ["top", "bottom"] (BP Ca)) :
  AL P w K mg base Ah (k+1) f fd ["one", "other"] (BP (Bj Ca)):=FW F Jf fun cdv A outer s H E hr=>by
 have sc:=Jf;exact(Ai (Bs (Am CC DP hr rfl (AE (Ap FA (Bn (AB (pv 0)) AN (fun _ _=>rfl)) (Bn (AB (pv 1)) AN (fun _ _=>rfl))) (AE (Ap FA (Bn (AB (pv 0)) AN (fun _ _=>rfl)) (Bn (AB (pv 1)) AN (fun _ _=>rfl))) AM)))))
def Nb:Ac ["row", "part"] ["row", "part"] (AO Le):=CB
def U0(Bj:MD):DF :=
 (OD (Et (Cs 1) FR (AV Bj (AA (nm 1) (AA (nm 2) AQ))) [none,none,some 1] (FC (nm 0))))
def Cp(Bj:MD):MD:=Bu ["row", "part"] ["row", "part"] (U0 Bj)
def Sv{k:Nat}{Bj:MD}(F:Fn K mg "scaled" Le ["row", "part"] f fd)
 {KW:AD}{Jc:FuncData}(FN:Fn K mg "frac_times" HH ["one", "other"] KW Jc)(G5:AL P w K mg base Ah k KW Jc ["one", "other"] (BP Bj)) :
  AL P w K mg base Ah (k+1) f fd ["row", "part"] (BP (Cp Bj)):=FW F Nb fun cdv A outer s H E hr=>by
 have sc:=Nb;exact(Ai (RF [".0", "one", "part"] 1 [none,none,some 1] (DL (AB (pv 0))) (fun _ _ _ _ _=>EI) (fun _ _ _ _ _=>(Am FN G5 hr rfl (AE (AB (pv 1)) (AE (AB (pv 2)) AM))))))
def Hg:Ac ["table", "part"] ["table", "part"] (AO Fc):=CB
def NG(AK:MD)(Cp:MD):DF :=
 (Ay (L5 (AV AK (AA (nm 0) AQ)))
 (CN (DC (AA (F4 (Cs 1) FR (AV Cp (AA (nm 1) (AA (nm 2) AQ))) [none,none,some 1] (FC (AX CH (nm 0) (fC (.int 0))))) (AA (AV Cp (AA (AX CH (nm 0) (fC (.int 1))) (AA (nm 1) AQ))) AQ)))))
def BW(AK:MD)(Cp:MD):MD:=Bu ["table", "part"] ["table", "part"] (NG AK Cp)
def MZ{k:Nat}{AK:MD}{Cp:MD}(F:Fn K mg "table_shrunk" Fc ["table", "part"] f fd)
 {BN:AD}{BK:FuncData}(A1:Fn K mg "refuse_no_table" CI ["thing"] BN BK)(A8:AL P w K mg base Ah k BN BK ["thing"] (BP AK))
 {Om:AD}{Nq:FuncData}(HN:Fn K mg "scaled" Le ["row", "part"] Om Nq)(JS:AL P w K mg base Ah k Om Nq ["row", "part"] (BP Cp)) :
  AL P w K mg base Ah (k+1) f fd ["table", "part"] (BP (BW AK Cp)):=FW F Hg fun cdv A outer s H E hr=>by
 have sc:=Hg;exact(AW (IY (Am A1 A8 hr rfl (AE (AB (pv 0)) AM)))
 (Ai (Bs (DN (AE (Ff [".0", "row", "part"] 1 [none,none,some 1] (DL (Bn (AB (pv 0)) AN (fun _ _=>rfl))) (fun _ _ _ _ _=>EI) (fun _ _ _ _ _=>(Am HN JS hr rfl (AE (AB (pv 1)) (AE (AB (pv 2)) AM))))) (AE (Am HN JS hr rfl (AE (Bn (AB (pv 0)) AN (fun _ _=>rfl)) (AE (AB (pv 1)) AM))) AM))))))
def Ke:Ac ["_law_script", "_law_k", "_law_cell_here", "_law_number"] ["_law_script", "_law_k"] (AO IM):=CB
def IT:DF :=
 (Ay (Bf 2 (fC (.int 0)))
 (Ay (GA (DD (HU fun i j=>decide (i<j)) (nm 1) (AV NB (AA (nm 0) AQ)))
  (Bf 2 (AX CH (nm 0) (nm 1)))
  DH)
 (Ay (GA (DD (HU fun i j=>decide (j≤i)) (nm 2) (AX KQ (fC (.int 10)) (fC (.int 18))))
  (CN (AX FI (AX Pw (nm 2) (AX KQ (fC (.int 10)) (fC (.int 18)))) (AX KQ (fC (.int 10)) (fC (.int 60)))))
  DH)
 (Ay (Bf 3 (AX FI (AX Ci (AX Ci (AX Em (nm 2) (fC (.int 48271))) (AX Em (nm 1) (fC (.int 69621)))) (fC (.int 11))) (fC (.int 2147483629))))
 (Ay (Bf 3 (AX FI (AX Em (nm 3) (nm 3)) (fC (.int 2147483587))))
 (CN (AX Ci (AX Em (nm 3) (fC (.int 2147483563))) (AX FI (AX Em (nm 3) (nm 3)) (fC (.int 2147483563))))))))))
def Bi:MD:=Bu ["_law_script", "_law_k"] ["_law_script", "_law_k", "_law_cell_here", "_law_number"] (IT)
def O3{k:Nat}(F:Fn K mg "_law_cell" IM ["_law_script", "_law_k"] f fd)(Bl:mg "len" = none) :
  AL P w K mg base Ah (k+1) f fd ["_law_script", "_law_k"] (BP (Bi)):=FW F Ke fun cdv A outer s H E hr=>by
 have sc:=Ke;exact(AW (BQ (i:=2) sc.nd rfl (Or.inl rfl) AN)
 (AW (FF (Ds V8 (AB (pv 1)) (G7 T1 rfl Bl bE (AE (AB (pv 0)) AM)) (A9 _))
  (Ai (BQ (i:=2) sc.nd rfl (Or.inl rfl) (Bn (AB (pv 0)) (AB (pv 1)) (fun _ _=>rfl))))
  C6)
 (AW (FF (Ds cT (AB (pv 2)) (Ap Mz AN AN) (A9 _))
  (Ai (Bs (Ap Dc (Ap Mv (AB (pv 2)) (Ap Mz AN AN)) (Ap Mz AN AN))))
  C6)
 (AW (BQ (i:=3) sc.nd rfl (Or.inl rfl) (Ap Dc (Ap B7 (Ap B7 (Ap FA (AB (pv 2)) AN) (Ap FA (AB (pv 1)) AN)) AN) AN))
 (AW (BQ (i:=3) sc.nd rfl (Or.inl rfl) (Ap Dc (Ap FA (AB (pv 3)) (AB (pv 3))) AN))
 (Ai (Bs (Ap B7 (Ap FA (AB (pv 3)) AN) (Ap Dc (Ap FA (AB (pv 3)) (AB (pv 3))) AN)))))))))
def N4:Ac ["_law_tree"] ["_law_tree"] (AO HP):=CB
def KA(BE:MD):DF :=
 (CN (AX Ci (fC (.int 1)) (AV O0 (AA (F4 (Cs 1) FR (AV BE (AA (nm 1) AQ)) [none,none] (FC (nm 0))) AQ))))
def BE:Nat→MD
 |0=>fun _=>none
 |n+1=>Bu ["_law_tree"] ["_law_tree"] (KA (BE n))
def Jd{k:Nat}(Bm:Fn K mg "_law_knots" HP ["_law_tree"] f fd)(CV:mg "sum" = none):∀n,
  AL P w K mg base Ah (k+n+1) f fd ["_law_tree"] (BP (BE n))
 |0=>GH fun _ _ _ _ ⟨_,_,_,h,_⟩=>by cases h
 |n+1=>by
  have sc:=N4;have Cz:=Jd (k:=k) Bm CV n;refine FW (k:=k+n+1) (F:=KA (BE n)) Bm sc fun cdv A outer s H E hr=>?_;exact(Ai (Bs (Ap B7 AN (G7 (O7 rfl) rfl CV bS (AE (Ff [".0", "_law_bough"] 1 [none,none] (DL (AB (pv 0))) (fun _ _ _ _ _=>EI) (fun _ _ _ _ _=>(Am Bm Cz hr rfl (AE (AB (pv 1)) AM)))) AM)))))
def UZ:Ac ["_law_script", "_law_cell_here", "_law_name", "_law_due", "_law_found", "_law_many", "_law_part", "_law_one", "_law_whole", "_law_k"] ["_law_script"] (AO WN):=CB
def V9(Bi:MD)(Co:MD)(BE:MD)(BX:MD)(BZ:MD)(BU:MD)(BW:MD):DF :=
 (Ay (Bf 1 (AV Bi (AA (nm 0) (AA (fC (.int 0)) AQ))))
 (Ay (Bf 2 (AX CH (SX (AA (fC (.str (Str.ofString "plain"))) (AA (fC (.str (Str.ofString "middle"))) (AA (fC (.str (Str.ofString "heel"))) (AA (fC (.str (Str.ofString "third"))) (AA (fC (.str (Str.ofString "fourth"))) AQ)))))) (AX FI (nm 1) (fC (.int 5)))))
 (Ay (Bf 3 (AX CH (SX (AA (fC (.int 1)) (AA (fC (.int 2)) (AA (fC (.int 2)) (AA (fC (.int 3)) (AA (fC (.int 4)) AQ)))))) (AX FI (nm 1) (fC (.int 5)))))
 (Ay (Bf 4 (AV BU (AA (AV BZ (AA (nm 2) AQ)) AQ)))
 (Ay (GA (Yq (DD (Dq true) (AX CH (nm 4) (fC (.int 0))) (nm 3)) (DD (Dq true) (AV BE (AA (AX CH (nm 4) (fC (.int 1))) AQ)) (AX Ci (nm 3) (fC (.int 1)))))
  (CN (fC (.bool false)))
  DH)
 (Ay (Bf 5 (AX Ci (fC (.int 1)) (AX FI (AX LV (nm 1) (fC (.int 5))) (fC (.int 3)))))
 (Ay (Bf 6 (AV Co (AA (fC (.int 1)) (AA (nm 5) AQ))))
 (Ay (GA (DD (Dq false) (AX FI (AX LV (nm 1) (fC (.int 15))) (fC (.int 2))) (fC (.int 1)))
  (Bf 6 (AV Co (AA (AX Pw (AX FI (AX LV (nm 1) (fC (.int 30))) (fC (.int 9))) (fC (.int 4))) (AA (AX Ci (fC (.int 1)) (AX FI (AX LV (nm 1) (fC (.int 270))) (fC (.int 5)))) AQ))))
  DH)
 (Ay (Bf 7 (AV BW (AA (AV BZ (AA (nm 2) AQ)) (AA (nm 6) AQ))))
 (Ay (Bf 8 (nm 7))
 (Ay (Eh (Es Jx (AA (AX Pw (nm 5) (fC (.int 1))) AQ)) (KC 9)
  (Bf 8 (AV BX (AA (nm 8) (AA (nm 7) AQ)))))
 (Ay (Bf 4 (AV BU (AA (nm 8) AQ)))
 (Ay (GA (DD (Dq true) (AX Em (AX CH (nm 6) (fC (.int 0))) (nm 5)) (AX CH (nm 6) (fC (.int 1))))
  (CN (AX (Dq false) (nm 4) (DC (AA (fC (.int 0)) (AA (DC AQ) AQ)))))
  DH)
 (CN (Yt (AX (Dq false) (AX CH (nm 4) (fC (.int 0))) (nm 3)) (AX (Dq false) (AV BE (AA (AX CH (nm 4) (fC (.int 1))) AQ)) (AX Ci (nm 3) (fC (.int 1)))))))))))))))))))
def WX(Bi:MD)(Co:MD)(BE:MD)(BX:MD)(BZ:MD)(BU:MD)(BW:MD):MD:=Bu ["_law_script"] ["_law_script", "_law_cell_here", "_law_name", "_law_due", "_law_found", "_law_many", "_law_part", "_law_one", "_law_whole", "_law_k"] (V9 Bi Co BE BX BZ BU BW)
def ZG{k:Nat}{Bi:MD}{Co:MD}{BE:MD}{BX:MD}{BZ:MD}{BU:MD}{BW:MD}(F:Fn K mg "law" WN ["_law_script"] f fd)
 {LN:AD}{J5:FuncData}(Fx:Fn K mg "_law_cell" IM ["_law_script", "_law_k"] LN J5)(IK:AL P w K mg base Ah k LN J5 ["_law_script", "_law_k"] (BP Bi))
 {K5:AD}{Ju:FuncData}(Ea:Fn K mg "_law_frac" IU ["_law_top", "_law_bottom"] K5 Ju)(Fy:AL P w K mg base Ah k K5 Ju ["_law_top", "_law_bottom"] (BP Co))
 {J0:AD}{Jg:FuncData}(Bm:Fn K mg "_law_knots" HP ["_law_tree"] J0 Jg)(Cz:AL P w K mg base Ah k J0 Jg ["_law_tree"] (BP BE))
 {Ic:AD}{Hc:FuncData}(EG:Fn K mg "table_behind" Fi ["one", "other"] Ic Hc)(Fm:AL P w K mg base Ah k Ic Hc ["one", "other"] (BP BX))
 {Mh:AD}{K2:FuncData}(FQ:Fn K mg "table_of" JV ["name"] Mh K2)(Gn:AL P w K mg base Ah k Mh K2 ["name"] (BP BZ))
 {Jb:AD}{Ie:FuncData}(DR:Fn K mg "table_order" GO ["table"] Jb Ie)(Ef:AL P w K mg base Ah k Jb Ie ["table"] (BP BU))
 {Im:AD}{Hl:FuncData}(EF:Fn K mg "table_shrunk" Fc ["table", "part"] Im Hl)(Fb:AL P w K mg base Ah k Im Hl ["table", "part"] (BP BW))(EN:mg "range" = none) :
  AL P w K mg base Ah (k+1) f fd ["_law_script"] (BP (WX Bi Co BE BX BZ BU BW)):=FW F UZ fun cdv A outer s H E hr=>by
 have sc:=UZ;exact(AW (BQ (i:=1) sc.nd rfl (Or.inl rfl) (Am Fx IK hr rfl (AE (AB (pv 0)) (AE AN AM))))
 (AW (BQ (i:=2) sc.nd rfl (Or.inl rfl) (Bn (MF (AE Kd (AE Kd (AE Kd (AE Kd (AE Kd AM)))))) (Ap Dc (AB (pv 1)) AN) (fun _ _=>rfl)))
 (AW (BQ (i:=3) sc.nd rfl (Or.inl rfl) (Bn (MF (AE AN (AE AN (AE AN (AE AN (AE AN AM)))))) (Ap Dc (AB (pv 1)) AN) (fun _ _=>rfl)))
 (AW (BQ (i:=4) sc.nd rfl (Or.inl rfl) (Am DR Ef hr rfl (AE (Am FQ Gn hr rfl (AE (AB (pv 2)) AM)) AM)))
 (AW (FF (DW.dt (WM (Ds (OE (by have:=hr.units;exact this)) (Bn (AB (pv 4)) AN (fun _ _=>rfl)) (AB (pv 3)) (A9 _)) (UC (Ds (OE (by have:=hr.units;exact this)) (Am Bm Cz hr rfl (AE (Bn (AB (pv 4)) AN (fun _ _=>rfl)) AM)) (Ap B7 (AB (pv 3)) AN) (A9 _)))))
  (Ai (Bs cu))
  C6)
 (AW (BQ (i:=5) sc.nd rfl (Or.inl rfl) (Ap B7 AN (Ap Dc (Ap Ko (AB (pv 1)) AN) AN)))
 (AW (BQ (i:=6) sc.nd rfl (Or.inl rfl) (Am Ea Fy hr rfl (AE AN (AE (AB (pv 5)) AM))))
 (AW (FF (Ds (N6 (by have:=hr.units;exact this)) (Ap Dc (Ap Ko (AB (pv 1)) AN) AN) AN (A9 _))
  (Ai (BQ (i:=6) sc.nd rfl (Or.inl rfl) (Am Ea Fy hr rfl (AE (Ap Mv (Ap Dc (Ap Ko (AB (pv 1)) AN) AN) AN) (AE (Ap B7 AN (Ap Dc (Ap Ko (AB (pv 1)) AN) AN)) AM)))))
  C6)
 (AW (BQ (i:=7) sc.nd rfl (Or.inl rfl) (Am EF Fb hr rfl (AE (Am FQ Gn hr rfl (AE (AB (pv 2)) AM)) (AE (AB (pv 6)) AM))))
 (AW (BQ (i:=8) sc.nd rfl (Or.inl rfl) (AB (pv 7)))
 (AW (GD aW rfl (Nj rfl EN (AE (Ap Mv (AB (pv 5)) AN) AM)) (Gp (BM (i:=9) sc.nd rfl (Or.inl rfl)))
  (Ai (BQ (i:=8) sc.nd rfl (Or.inl rfl) (Am EG Fm hr rfl (AE (AB (pv 8)) (AE (AB (pv 7)) AM))))))
 (AW (BQ (i:=4) sc.nd rfl (Or.inl rfl) (Am DR Ef hr rfl (AE (AB (pv 8)) AM)))
 (AW (FF (Ds (OE (by have:=hr.units;exact this)) (Ap FA (Bn (AB (pv 6)) AN (fun _ _=>rfl)) (AB (pv 5))) (Bn (AB (pv 6)) AN (fun _ _=>rfl)) (A9 _))
  (Ai (Bs (Oo (N6 (by have:=hr.units;exact this)) (AB (pv 4)) (DN (AE AN (AE (DN AM) AM))) (A9 _))))
  C6)
 (Ai (Bs (bo (Oo (N6 (by have:=hr.units;exact this)) (Bn (AB (pv 4)) AN (fun _ _=>rfl)) (AB (pv 3)) (A9 _)) (YK (Oo (N6 (by have:=hr.units;exact this)) (Am Bm Cz hr rfl (AE (Bn (AB (pv 4)) AN (fun _ _=>rfl)) AM)) (Ap B7 (AB (pv 3)) AN) (A9 _)))))))))))))))))))
end
mutual
def Ro{H:Hp}:∀ {d:PD} {v:V},d.canLay0=true→Du H d v→DU H d v
 |.none,_,_,h=>by rw[Du]at h;subst h;exact .BI
 |.bool _,_,_,h=>by rw[Du]at h;subst h;exact .bool
 |.int _,_,_,h=>by rw[Du]at h;subst h;exact .int
 |.str _,_,_,h=>by rw[Du]at h;subst h;exact .str
 |.tuple _,_,c,h=>by
  rw[Du]at h;obtain⟨a,xs,rfl,h1,h2⟩:=h;exact .tup h1 (NF (by simpa only[PyData.canLay0]using c) h2)
 |.list _,_,c,h=>by
  rw[Du]at h;obtain⟨a,xs,rfl,h1,h2⟩:=h;exact .lst h1 (NF (by simpa only[PyData.canLay0]using c) h2)
 |.dict _,_,c,h=>by simp[PyData.canLay0]at c
def NF{H:Hp}:∀ {ds:List PD} {xs:List V},PyData.canLayAll0 ds=true→Ag H ds xs→CG H ds xs
 |[],_,_,h=>by rw[h.nil_eq];exact .nil
 |_::_,_,c,h=>by
  obtain⟨x,r,rfl,h1,h2⟩:=h.un;simp only[PyData.canLayAll0,Bool.and_eq_true]at c;exact .cons (Ro c.1 h1) (NF c.2 h2)
end
def cM{G H H':Hp}{l:AD}{vs:List V}{ds:List PD}(e0:AG G H)(e:AG H H')(hl:H' l=some (.tup vs))(d:Ag G ds vs):∃G',AG G G'∧Nw G H G'∧AG G' H'∧Du G' (.tuple ds) (.ref l):=by
 have e1:AG G (upd G l (.tup vs)):=fun a o h=>by
  by_cases ha:a=l
  ·subst ha;have:=e _ _ (e0 _ _ h);rw[hl]at this;rw[AI];exact this
  ·rw[AF ha];exact h
 refine⟨upd G l (.tup vs),e1,fun a u h=>?_,fun a u h=>?_,?_⟩
 ·by_cases ha:a=l
  ·subst ha;rw[AI]at h;cases h;exact .inr (.inr ⟨_,rfl⟩)
  ·rw[AF ha]at h;exact .inl h
 ·by_cases ha:a=l
  ·subst ha;rw[AI]at h;rw[hl];exact h
  ·rw[AF ha]at h;exact e _ _ (e0 _ _ h)
 ·rw[Du];exact⟨l,vs,rfl,AI,d.same e1⟩
def Ld{G:Hp}:∀ps:List Int,Ag G (ps.map .int) (ps.map V.int)
 |[]=>.nil
 |p::ps=>.cons (by rw[Du]) (Ld ps)
section
variable{P:Program}{w:World}{K:Fg}{mg:Str→Option VL}{base:Heap}{CX:GJ}{k:Nat}{f:AD}{fd:FuncData}{ps:List Str}
def mB(q:PD→Bool):MD
 |[d]=>if d.canLay0=true then some (.bool (q d)) else none
 |_=>none
def cD{q:PD→Bool}{d:PD}(h:d.canLay0=true):mB q [d]=some (.bool (q d)):=if_pos h
def eO{q:PD→Bool}{d:PD}{b:Bool}(h:d.canLay0=true)(e:q d=b):mB q [d]=some (.bool b):=(cD h).trans (by rw[e])
def fL{sp:Sp}{q:PD→Bool}(F:AL P w K mg base CX k f fd ps sp)(h:∀(l:AD) d v H Q E,Dt l H d v→(∀H',AG H H'→Q (.bl (q d)) H')→sp [v] H Q E):AL P w K mg base CX k f fd ps (BP (mB q)) :=
 Mj F fun ds x hm G H vs Q E d e kk=>by
  unfold mB at hm;split at hm
  ·split at hm
   ·rename_i dd hc;cases hm;obtain⟨v,rfl,d1⟩:=d.F6;obtain⟨N,b⟩:=Ro hc (d1.same e);exact h N _ v H Q E (b N (aG _)) fun H' e'=>kk _ G H' (.refl _) Nw.refl (e.trans e') e' (by rw[Du])
   ·cases hm
  ·cases hm
end
def Pa:∀ps:List Int,PyData.canLayAll0 (ps.map .int)=true
 |[]=>by simp[PyData.canLayAll0]
 |p::ps=>by rw[List.map_cons];simp only[PyData.canLayAll0,PyData.canLay0];rw[Pa ps];rfl
def RV:PD→Rat
 |.tuple [.int a,.int b]=>Rat.divInt a b
 |_=>0
def Vm(r:Rat):RV (An r)=r:=FM.QC r
def X2(r:Rat):(An r).canLay0=true:=by unfold An;simp only[PyData.canLay0];exact Pa [r.num,(r.den:Int)]
section
variable{P:Program}{w:World}{K:Fg}{mg:Str→Option VL}{base:Heap}{CX:GJ}{k:Nat}{f:AD}{fd:FuncData}{ps:List Str}
def UB(ds:List PD):Option PD:=match ds with
 |[.int t,.int b]=>if b≠0∧b.natAbs<2^400 then some (An (Rat.divInt t b)) else none
 |_=>none
def Zn(F:AL P w K mg base CX k f fd ps RQ):AL P w K mg base CX k f fd ps (BP UB) :=
 Mj F fun ds x hm G H vs Q E d e kk=>by
  unfold UB at hm;split at hm
  ·split at hm
   ·rename_i hh;cases hm;obtain⟨v1,v2,rfl,d1,d2⟩:=d.Qk;rw[Du]at d1 d2;subst d1 d2;refine⟨_,_,400,rfl,hh.1,by decide,hh.2,fun l H' e' hl'=>?_⟩;obtain⟨G',n1,n2,n3,n4⟩:=cM e e' hl' (Ld [(Rat.divInt _ _).num,((Rat.divInt _ _).den:Int)]);exact kk _ G' H' n1 n2 n3 e' n4
   ·cases hm
  ·cases hm
end
def VE{n:Nat}{ds:List PD}(h:∀d∈ds,Ok n d):WJ n ds:=by
 induction ds with
 |nil=>exact⟨by simp[PyData.canLayAll0],by simp[PyData.depthAll]⟩
 |cons d ds ih =>
  obtain⟨a,b⟩:=h d (.head _);obtain⟨a',b'⟩:=ih fun e he=>h e (.tail _ he);exact⟨by simp only[PyData.canLayAll0];rw[a,a'];rfl,by simp only[PyData.depthAll];lia⟩
def eo{n:Nat}{ds:List PD}(h:∀d∈ds,Ok n d):Ok (n+1) (.tuple ds):=.tup (VE h)
def Sr(r:Rat):Ok 1 (An r):=eo (n:=0) fun d hd=>by
 rcases aL.mp hd with rfl|hd
 ·exact .int
 ·rw[List.mem_singleton.mp hd];exact .int
def ne_self{x:PD}{n:Nat}(h:Ok n x)(hn:n≤64):Dq true x x=some (.bool false):=by
 refine(if_pos ⟨h.shaped hn,h.shaped hn⟩).trans ?_;rw[JN x h.1];rfl
def Vy{x:PD}{n:Nat}(h:Ok n x)(hn:n≤64):Dq false x x=some (.bool true):=by
 refine(if_pos ⟨h.shaped hn,h.shaped hn⟩).trans ?_;rw[JN x h.1];rfl
def Kv(x y:Int):Dq false (.int x) (.int y)=some (.bool (decide (x=y))):=by
 have h:SeqAt.shaped (.int x)=true∧SeqAt.shaped (.int y)=true:=⟨(Ok.int (n:=0)).shaped (by decide),(Ok.int (n:=0)).shaped (by decide)⟩;refine(if_pos h).trans ?_;simp[PyData.eqv];exact Bool.eq_iff_iff.mpr (by simp)
def div_is{i j:Int}(h:0<j)(h2:j.natAbs<2^64):LV (.int i) (.int j)=some (.int (i / j)):=by
 refine(if_pos ⟨by lia,UD (aI h2 (ar (by decide) (by decide)))⟩).trans ?_;rw[Int.fdiv_eq_ediv_of_nonneg _ (by lia)]
def TU{t b:Int}(h:b≠0)(h2:b.natAbs<2^400):UB [.int t,.int b]=some (An (Rat.divInt t b)):=if_pos ⟨h,h2⟩
def Km:∀ts:List Tr,L2.Ba (Tr.of ts)=ts.map fun t=>.tuple (L2.Ba t)
 |[]=>rfl
 |t::ts=>by rw[List.map_cons,←Km ts];rfl
def Wn(ns:List Int)(k:Nat):∃c,Bi [Dw ns,.int (k:Nat)]=some (.int c):=by
 suffices hh:∃c,IT [.d (Dw ns),.d (.int (k:Nat)),.no,.no]=some (.rt (.int c)) by
  obtain⟨c,h⟩:=hh;exact⟨c,Kp rfl h⟩
 unfold IT;have e1:∃c0,(GA (DD (HU fun i j=>decide (i<j)) (nm 1) (AV NB (AA (nm 0) AQ))) (Bf 2 (AX CH (nm 0) (nm 1))) DH) [.d (Dw ns),.d (.int (k:Nat)),.d (.int 0),.no]=some (.nx [.d (Dw ns),.d (.int (k:Nat)),.d (.int c0),.no]):=by
  have t:DD (HU fun i j=>decide (i<j)) (nm 1) (AV NB (AA (nm 0) AQ)) [.d (Dw ns),.d (.int (k:Nat)),.d (.int 0),.no]=some (decide ((k:Int)<((ns.map PyData.int).length:Nat))):=EM (x:=.int (k:Nat)) (y:=.int ((ns.map PyData.int).length:Nat)) rfl rfl rfl;rw[List.length_map]at t;by_cases z:k<ns.length
  ·rw[decide_eq_true (show(k:Int)<(ns.length:Nat) by lia)]at t;exact⟨ns[k],Ks t (Bc (A7 (x:=Dw ns) (y:=.int (k:Nat)) rfl rfl (QY (by rw[List.getElem?_map,List.getElem?_eq_getElem z];rfl))))⟩
  ·rw[decide_eq_false (show ¬(k:Int)<(ns.length:Nat) by lia)]at t;exact⟨0,Hd t rfl⟩
 obtain⟨c0,e1⟩:=e1;have p18:AX KQ (fC (.int 10)) (fC (.int 18)) [.d (Dw ns),.d (.int (k:Nat)),.d (.int c0),.no]=some (.int ((10:Int)^18)):=A7 (x:=.int 10) (y:=.int 18) rfl rfl (Ud (n:=18) (by decide) (by decide));have p60:AX KQ (fC (.int 10)) (fC (.int 60)) [.d (Dw ns),.d (.int (k:Nat)),.d (.int c0),.no]=some (.int ((10:Int)^60)):=A7 (x:=.int 10) (y:=.int 60) rfl rfl (Ud (n:=60) (by decide) (by decide));have t2:DD (HU fun i j=>decide (j≤i)) (nm 2) (AX KQ (fC (.int 10)) (fC (.int 18))) [.d (Dw ns),.d (.int (k:Nat)),.d (.int c0),.no]=some (decide ((10:Int)^18≤c0)):=EM (x:=.int c0) (y:=.int ((10:Int)^18)) rfl p18 rfl;by_cases z:(10:Int)^18≤c0
 ·rw[decide_eq_true z]at t2;exact⟨_,A4 rfl (A4 e1 (Kg (Ks t2 (Kh (A7 (x:=.int (c0-(10:Int)^18)) (A7 (x:=.int c0) rfl p18 rfl) p60 (mod_is (Int.pow_pos (by decide))))))))⟩
 ·rw[decide_eq_false z]at t2;have hn:∀(a:Int) (m:Int),0<m→m<2^60→(a % m).natAbs<2^64:=fun a m h0 h1=>by
   have:=Int.emod_nonneg a (by lia:m≠0);have:=Int.emod_lt_of_pos a h0
   lia
  generalize hv:(c0*48271+(k:Int)*69621+11) % 2147483629=v;have v1:v.natAbs<2^64:=by rw[←hv];exact hn _ _ (by decide) (by decide)
  generalize hu:v*v % 2147483587=u;have u1:u.natAbs<2^64:=by rw[←hu];exact hn _ _ (by decide) (by decide)
  refine⟨_,A4 rfl (A4 e1 (A4 (Hd t2 rfl) (A4 (Bc (y:=.int v) ?_) (A4 (Bc (y:=.int u) ?_) (Kh (A7 (x:=.int (u*2147483563)) (y:=.int (u*u % 2147483563)) (A7 (x:=.int u) (y:=.int 2147483563) rfl rfl (mul_r (by decide))) (A7 (x:=.int (u*u)) (y:=.int 2147483563) (A7 (x:=.int u) (y:=.int u) rfl rfl (mul_r u1)) rfl (mod_is (by decide))) rfl))))))⟩
  ·refine A7 (x:=.int (c0*48271+(k:Int)*69621+11)) (y:=.int 2147483629) (A7 (x:=.int (c0*48271+(k:Int)*69621)) (y:=.int 11) (A7 (x:=.int (c0*48271)) (y:=.int ((k:Int)*69621)) (A7 (x:=.int c0) (y:=.int 48271) rfl rfl (mul_r (by decide))) (A7 (x:=.int (k:Nat)) (y:=.int 69621) rfl rfl (mul_r (by decide))) rfl) rfl rfl) rfl ((mod_is (by decide)).trans ?_);rw[hv]
  ·refine A7 (x:=.int (v*v)) (y:=.int 2147483587) (A7 (x:=.int v) (y:=.int v) rfl rfl (mul_r v1)) rfl ((mod_is (by decide)).trans ?_);rw[hu]
abbrev tD(t:Tr):PD:=.tuple (L2.Ba t)
def B6:Nat→List Tr
 |0=>[]
 |n+1=>B6 n++TH.tz n
def Vk(p q:Rat):PyData.eqv (An p) (An q)=decide (p=q):=by
 by_cases h:p=q
 ·subst h;rw[decide_eq_true rfl];exact JN _ (X2 p)
 ·rw[decide_eq_false h];refine ak.mpr fun z=>h ?_;unfold An at z;simp[PyData.eqv,PyData.eqvAll]at z;exact FM.Wx z.1 (by lia)
def Qo(p q:Rat):Dq true (An p) (An q)=some (.bool (!decide (p=q))):=by
 refine(if_pos ⟨(Sr p).shaped (by decide),(Sr q).shaped (by decide)⟩).trans ?_;rw[Vk];rfl
def RD(t:Tb):(BA t).canLay0=true:=by
 have f:∀r:List Rat,PyData.canLayAll0 (Be r)=true:=fun r=>by
  induction r with
  |nil=>rfl
  |cons q r ih=>show PyData.canLayAll0 (An q::Be r)=true;simp[PyData.canLayAll0,ih,An,PyData.canLay0]
 have g:∀rs:List (List Rat),PyData.canLayAll0 (Ey rs)=true:=fun rs=>by
  induction rs with
  |nil=>rfl
  |cons r rs ih=>show PyData.canLayAll0 (Ba r::Ey rs)=true;simp[PyData.canLayAll0,ih,Ba,PyData.canLay0,f]
 simp[BA,PyData.canLay0,PyData.canLayAll0,f,g]
def Gx(G H H':Hp):Hp:=fun b=>match H' b with
 |some (.tup xs)=>some (.tup xs)
 |some o=>if H b=none then some o else G b
 |none=>none
def ZC{G H H':Hp}{a:AD}{xs:List V}(h:H' a=some (.tup xs)):Gx G H H' a=some (.tup xs):=by unfold Gx;rw[h]
def YR{G H H':Hp}{a:AD}{xs:List V}(h:H' a=some (.lst xs))(h0:H a=none):Gx G H H' a=some (.lst xs):=by unfold Gx;rw[h];exact if_pos h0
def XF{G H H':Hp}(e0:AG G H)(e:AG H H'):AG G (Gx G H H')∧Nw G H (Gx G H H')∧AG (Gx G H H') H':=by
 refine⟨fun a o h=>?_,fun a o h=>?_,fun a o h=>?_⟩
 ·have h1:=e0 _ _ h;have h2:=e _ _ h1;unfold Gx;rw[h2];cases o with
  |tup xs=>rfl
  |_=>simp only[h1];exact h
 ·unfold Gx at h;split at h
  ·cases h;exact .inr (.inr ⟨_,rfl⟩)
  ·split at h
   ·rename_i z;exact .inr (.inl z)
   ·exact .inl h
  ·cases h
 ·unfold Gx at h;cases z:H' a with
  |none=>rw[z]at h;cases h
  |some u =>
   rw[z]at h;cases u with
   |tup xs=>exact h
   |_ =>
    simp only at h;split at h
    ·exact h
    ·rw[←z];exact e _ _ (e0 _ _ h)
def ME{G H H':Hp}:∀ {qs:List Rat} {xs:List V},CG H' (Be qs) xs→Ag (Gx G H H') (Be qs) xs
 |[],xs,h=>by
  have:=h.len;have e:xs=[]:=bO (by simpa[Be]using this);rw[e];exact .nil
 |q::qs,xs,h=>by
  obtain⟨x,r,rfl,h1,h2⟩:=CG.fN (d:=An q) (ds:=Be qs) h;obtain⟨p,rfl,hp⟩:=h1.rat;refine .cons ?_ (ME h2);unfold An;rw[Du];exact⟨p,_,rfl,ZC hp,Ld [q.num,(q.den:Int)]⟩
def IB(t:Tb):List (List Rat):=t.rs++[t.ls]
def SN(t:Tb):(IB t)[t.rs.length]? = some t.ls:=by
 unfold IB;rw[List.getElem?_append_right (aG _),Nat.sub_self];rfl
def UX{t:Tb}{m:Nat}(h:t.Ok m){i:Nat}{row:List Rat}(e:(IB t)[i]? = some row):row.length=i∧i≤t.rs.length:=by
 by_cases z:i<t.rs.length
 ·unfold IB at e;rw[List.getElem?_append_left z]at e;exact⟨h.row i row e,by lia⟩
 ·have hl:=(aE.mp e).1;unfold IB at hl;rw[List.length_append,List.length_singleton]at hl;have:i=t.rs.length:=by lia
  subst this;rw[SN]at e;cases e;exact⟨h.last,Nat.le_refl _⟩
def XD{t:Tb}{n:Nat}(h:t.Fits n){m:Nat}(o:t.Ok m):1≤CZ t∧(CZ t).natAbs<2^(1+n*(m+m*m))∧∀r∈IB t,∀q∈r,(q.den:Int) ∣ CZ t:=by
 obtain⟨h1,h2,h3⟩:=Qu (NU h t.rs.length);have hl:=HY o t.rs.length (aG _);have hm:=o.most;refine⟨h1,Nat.lt_of_lt_of_le h2 (ar (by decide) ?_),fun r hr q hq=>h3 _ ?_⟩
 ·have:t.rs.length+t.rs.length*t.rs.length≤m+m*m:=Nat.add_le_add hm (Nat.mul_le_mul hm hm);have:=au n (aM hl this)
  lia
 ·unfold FD;rw[List.take_length];rcases bR.mp hr with hr|hr
  ·exact aR _ (List.mem_flatten.mpr ⟨DB r,List.mem_map.mpr ⟨r,hr,rfl⟩,List.mem_map.mpr ⟨q,hq,rfl⟩⟩)
  ·rw[List.mem_singleton.mp hr]at hq;exact List.mem_append_left _ (aj.mpr ⟨q,hq,rfl⟩)
def We:Option Tr→PD
 |none=>.none
 |some t=>tD t
def MN:List Tr→List Rat→List Rat→Option Tr
 |t::ts,w::ws,v::vs=>if w=v then MN ts ws vs else some t
 |_,_,_=>none
abbrev Ih:DF:=GA (DD (Dq true) (nm 4) (nm 5)) (CN (nm 3)) DH
abbrev Qn(ts:List Tr)(ws vs:List Rat)(δ:Dv):Option Ou:=De (Pp 3 4 5) Ih (Hi (ts.map tD) (ws.map An) (vs.map An)) δ
def OY{t:Tr}{ts:List Tr}{w v:Rat}{ws vs:List Rat}(a b c d e f:L)(h:w=v):Qn (t::ts) (w::ws) (v::vs) [a,b,c,d,e,f]=Qn ts ws vs [a,b,c,.d (tD t),.d (An w),.d (An v)]:=by
 have e1:Ih [a,b,c,.d (tD t),.d (An w),.d (An v)]=some (.nx [a,b,c,.d (tD t),.d (An w),.d (An v)]):=Hd (EM (x:=An w) (y:=An v) rfl rfl ((Qo w v).trans (by rw[decide_eq_true h];rfl))) rfl;show(match Ih [a,b,c,.d (tD t),.d (An w),.d (An v)]with|some (.nx δ')=>_|some (.ct δ')=>_|some (.bk δ')=>_|some (.rt x)=>_|some (.rn x)=>_|none=>_)=_;rw[e1];rfl
def Ug{t:Tr}{ts:List Tr}{w v:Rat}{ws vs:List Rat}(a b c d e f:L)(h:w≠v):Qn (t::ts) (w::ws) (v::vs) [a,b,c,d,e,f]=some (.rt (tD t)):=by
 have e1:Ih [a,b,c,.d (tD t),.d (An w),.d (An v)]=some (.rt (tD t)):=Ks (EM (x:=An w) (y:=An v) rfl rfl ((Qo w v).trans (by rw[decide_eq_false h];rfl))) rfl;show(match Ih [a,b,c,.d (tD t),.d (An w),.d (An v)]with|some (.nx δ')=>_|some (.ct δ')=>_|some (.bk δ')=>_|some (.rt x)=>_|some (.rn x)=>_|none=>_)=_;rw[e1]
def Q2:∀ {ts:List Tr} {ws vs:List Rat} {t:Tr} (a b c d e f:L),MN ts ws vs=some t→Qn ts ws vs [a,b,c,d,e,f]=some (.rt (tD t))
 |[],_,_,_,_,_,_,_,_,_,h=>by cases h
 |_::_,[],[],_,_,_,_,_,_,_,h=>by cases h
 |_::_,[],_::_,_,_,_,_,_,_,_,h=>by cases h
 |_::_,_::_,[],_,_,_,_,_,_,_,h=>by cases h
 |s::ts,w::ws,v::vs,t,a,b,c,d,e,f,h=>by
  unfold MN at h;split at h
  ·rename_i z;rw[OY a b c d e f z];exact Q2 a b c _ _ _ h
  ·rename_i z;cases h;exact Ug a b c d e f z
def Q4:∀ {ts:List Tr} {ws vs:List Rat} (a b c d e f:L),MN ts ws vs=none→∃δ',Qn ts ws vs [a,b,c,d,e,f]=some (.nx δ')
 |[],_,_,_,_,_,_,_,_,_=>⟨_,rfl⟩
 |_::_,[],[],_,_,_,_,_,_,_=>⟨_,rfl⟩
 |_::_,[],_::_,_,_,_,_,_,_,_=>⟨_,rfl⟩
 |_::_,_::_,[],_,_,_,_,_,_,_=>⟨_,rfl⟩
 |s::ts,w::ws,v::vs,a,b,c,d,e,f,h=>by
  unfold MN at h;split at h
  ·rename_i z;rw[OY a b c d e f z];exact Q4 a b c _ _ _ h
  ·cases h
abbrev Gs(ws:List Rat):PD:=.list (ws.map An)
abbrev GX(ts:List Tr):PD:=.list (L2.Ba (Tr.of ts))
def first_is(ts:List Tr)(ws vs:List Rat):BD [GX ts,Gs ws,Gs vs]=some (We (MN ts ws vs)):=by
 refine Kp rfl ?_;unfold Ia;have hz:Es M6 (AA (nm 0) (AA (nm 1) (AA (nm 2) AQ))) [.d (GX ts),.d (Gs ws),.d (Gs vs),.no,.no,.no]=some (Hi (ts.map tD) (ws.map An) (vs.map An)):=by
  show some (Hi (L2.Ba (Tr.of ts)) (ws.map An) (vs.map An))=_;rw[Km]
 have hf:Eh (Es M6 (AA (nm 0) (AA (nm 1) (AA (nm 2) AQ)))) (Pp 3 4 5) Ih [.d (GX ts),.d (Gs ws),.d (Gs vs),.no,.no,.no]=Qn ts ws vs [.d (GX ts),.d (Gs ws),.d (Gs vs),.no,.no,.no]:=by
  show(Es M6 _ _).bind _=_;rw[hz];rfl
 cases h:MN ts ws vs with
 |some t=>exact Kg (hf.trans (Q2 _ _ _ _ _ _ h))
 |none =>
  obtain⟨δ',k⟩:=Q4 (.d (GX ts)) (.d (Gs ws)) (.d (Gs vs)) .no .no .no h;exact A4 (hf.trans k) rfl
def UI{α:Type}{i:Nat}{f:Dv→Option PD}{fs:Dv→Option (List PD)}{δ:Dv}{fr:List (Option Nat)}{zs:List α}{a g:α→PD}(hx:fs δ=some (zs.map a))(hl:zs.length≤Dy)
 (h:∀z∈zs,f ((DK fr δ).set i (.d (a z)))=some (g z)):Et (Cs i) FR f fr fs δ=some (zs.map g):=by
 unfold Et;rw[hx,Option.bind_some];have:∀zs:List α,(∀z∈zs,f ((DK fr δ).set i (.d (a z)))=some (g z))→L2.collect (Mx (Cs i) FR f (DK fr δ)) (zs.map a)=some (zs.map g):=fun zs=>by
  induction zs with
  |nil=>intro _;rfl
  |cons z zs ih =>
   intro h;rw[List.map_cons,List.map_cons];unfold L2.collect;rw[ih fun y hy=>h y (.tail _ hy)];have e:Mx (Cs i) FR f (DK fr δ) (a z)=some (some (g z)):=by
    unfold Mx Cs;rw[Option.bind_some];show(some true).bind _=_;rw[Option.bind_some,if_pos rfl,h z (.head _)]
    rfl
   rw[e];rfl
 rw[this zs h,Option.bind_some,HS,if_pos (by rw[List.length_map];exact hl)]
def Nl{set:PD→Dv→Option Dv}{F:DF}(Iv:Dv→Prop)(g:PD→Option PD):∀(xs:List PD) (δ:Dv),Iv δ→(∀x∈xs,∀δ,Iv δ→∃δ1,set x δ=some δ1∧((∃r,g x=some r∧F δ1=some (.rt r))∨(g x=none∧∃δ2,F δ1=some (.nx δ2)∧Iv δ2))) →
  (∃r,xs.findSome? g=some r∧De set F xs δ=some (.rt r))∨(xs.findSome? g=none∧∃δ',De set F xs δ=some (.nx δ')∧Iv δ')
 |[],δ,h,_=>.inr ⟨rfl,δ,rfl,h⟩
 |x::xs,δ,h,k=>by
  obtain⟨δ1,h1,h2⟩:=k x (.head _) δ h;rcases h2 with ⟨r,h3,h4⟩|⟨h3,δ2,h4,h5⟩
  ·refine .inl ⟨r,by rw[List.findSome?_cons,h3],?_⟩;unfold De;rw[h1,Option.bind_some,h4]
  ·have e:(x::xs).findSome? g=xs.findSome? g:=by rw[List.findSome?_cons,h3]
   have e2:De set F (x::xs) δ=De set F xs δ2:=by
    rw[De,h1,Option.bind_some,h4]
   rw[e,e2];exact Nl Iv g xs δ2 h5 fun y hy=>k y (.tail _ hy)
def UO{set:PD→Dv→Option Dv}{F F2:DF}{fs:Dv→Option (List PD)}{δ:Dv}{xs:List PD}{z:PD}(Iv:Dv→Prop)(g:PD→Option PD)(hx:fs δ=some xs)(h0:Iv δ)(hs:∀x∈xs,∀δ,Iv δ→∃δ1,set x δ=some δ1∧((∃r,g x=some r∧F δ1=some (.rt r))∨(g x=none∧∃δ2,F δ1=some (.nx δ2)∧Iv δ2)))
 (k:∀δ',Iv δ'→F2 δ'=some (.rt z)):Ay (Eh fs set F) F2 δ=some (.rt ((xs.findSome? g).getD z)):=by
 have e:Eh fs set F δ=De set F xs δ:=by show(fs δ).bind _=_;rw[hx];rfl
 rcases Nl (F:=F) Iv g xs δ h0 hs with ⟨r,h1,h2⟩|⟨h1,δ',h2,h3⟩
 ·rw[h1];exact Kg (e.trans h2)
 ·rw[h1];exact A4 (e.trans h2) (k δ' h3)
def M8:∀t:Tr,DJ (L2.Ba t)=some t
 |.nil=>by rw[L2.Ba,DJ]
 |.cons b r=>by rw[L2.Ba,DJ,IG,M8 b,M8 r];rfl
def Fh:PD→List Rat
 |.list xs=>xs.map RV
 |_=>[]
def MG(r:List Rat):Fh (.list (Be r))=r:=by
 unfold Fh Be;show List.map RV (r.map An)=r;rw[List.map_map];exact List.map_id'' (fun q=>Vm q) r
def tabOf:PD→Tb
 |.tuple [.list rs,d]=>⟨rs.map Fh,Fh d⟩
 |_=>⟨[],[]⟩
def LQ(t:Tb):tabOf (BA t)=t:=by
 unfold BA tabOf;have e:(Ey t.rs).map Fh=t.rs:=by
  unfold Ey;rw[List.map_map];exact List.map_id'' (fun r=>MG r) t.rs
 show Tb.mk ((Ey t.rs).map Fh) (Fh (.list (Be t.ls)))=t;rw[e,MG]
def UH:((B6 6).all fun t=>(B6 6).all fun u=>decide (TH.BG (some u)≠TH.BG (some t))||decide (u=t))=true:=by decide +kernel
def V6:∀u∈B6 6,u.U6=true∧u.deep<8∧u.AR≤6∧∀b∈u.bs,b∈B6 6:=by decide +kernel
def dU:Rc (B6 6) 1000:=⟨by decide +kernel,fun a ha b hb e=>by
 have:=ao.mp (ao.mp UH b hb) a ha;rw[Bool.or_eq_true]at this;rcases this with h|h
 ·exact absurd e (aV h)
 ·exact aV h,fun t ht=>(V6 t ht).2.2.2,fun t ht=>(V6 t ht).2.1,fun t ht=>by have:=(V6 t ht).2.2.1;lia⟩
def Tb.Wu(t:Tb):Prop:=∃m n k:Nat,t.Ok m∧m≤40∧t.Fits n∧n*(m+m*m)≤4000∧Gw (Dj t) 1000∧(CZ t).natAbs<2^k∧n+k≤4000∧1≤CZ t∧k*6≤4000
def Vh{t:Tb}{m n k:Nat}(o:t.Ok m)(hm:m≤40)(h:t.Fits n)(b1:1≤CZ t)(b2:(CZ t).natAbs<2^k)(b3:∀r∈IB t,∀q∈r,(q.den:Int) ∣ CZ t)(hc:n+k+6≤1000):Gw (Dj t) 1000:=by
 have h4:=o.most;have hl:(Dj t).length=t.rs.length+1:=by unfold Dj;rw[List.length_map,List.length_append];rfl
 have one:∀row∈Dj t,row.length≤40∧row.length≤t.rs.length:=fun row hr=>by
  unfold Dj at hr;obtain⟨r,hr',rfl⟩:=aj.mp hr;have e:(Gi r (CZ t)).length=r.length:=bM _;rw[e];obtain⟨i,hi⟩:=List.getElem?_of_mem hr';have:=UX o (show(IB t)[i]? = some r from hi)
  lia
 refine⟨by lia,fun row hr=>by have:=one row hr;lia,2^(n+k),fun row hr x hx=>?_,Nat.pow_le_pow_right (by decide) (by lia),fun row hr=>aM (Nat.mul_le_mul_right _ (aM (one row hr).1 (show 40≤2^6 by decide))) ?_⟩
 ·unfold Dj at hr;obtain⟨r,hr',rfl⟩:=aj.mp hr;unfold Gi at hx;obtain⟨q,hq,rfl⟩:=aj.mp hx;have f:FM.Fits q n:=by
   rcases bR.mp hr' with hr|hr
   ·exact h.1 r hr q hq
   ·rw[List.mem_singleton.mp hr]at hq;exact h.2 q hq
  obtain⟨c,hc⟩:=b3 r hr' q hq;have hd:(q.den:Int)≠0:=by have:=q.den_nz;lia
  have e:(CZ t).fdiv (q.den:Int)=c:=by rw[hc,Int.mul_fdiv_cancel_left _ hd]
  have hcb:c.natAbs≤(CZ t).natAbs:=by
   rw[hc,Int.natAbs_mul];exact Nat.le_mul_of_pos_left _ (by have:=q.den_nz;lia)
  rw[e,Int.natAbs_mul,Nat.pow_add];exact Nat.mul_le_mul (bA f.1) (aM hcb (bA b2))
 ·rw[←Nat.pow_add];exact ar (by decide) (by lia)
open Classical in
noncomputable def P6(ds:List PD):Option PD:=match ds with
 |[x,.list ys]=>if x=BA (tabOf x)∧(tabOf x).Wu∧ys=L2.Ba ((DJ ys).getD .nil)∧(∀u∈((DJ ys).getD .nil).bs,u∈B6 6)∧ys.length≤1000 then some (Gs (((DJ ys).getD .nil).bs.map (LP (tabOf x)))) else none
 |_=>none
def bq{t:Tb}(h:t.Wu){ts:List Tr}(hs:∀u∈ts,u∈B6 6)(hl:ts.length≤1000):P6 [BA t,GX ts]=some (Gs (ts.map (LP t))):=by
 unfold P6;have e:(DJ (L2.Ba (Tr.of ts))).getD .nil=Tr.of ts:=by rw[M8];rfl
 refine(if_pos ⟨by rw[LQ],by rw[LQ];exact h,by rw[e],fun u hu=>hs u (by rw[e,Tr.Ku]at hu;exact hu),by rw[Km,List.length_map];exact hl⟩).trans ?_;rw[LQ,e,Tr.Ku]
def eW{P:Program}{w:World}{K:Fg}{mg:Str→Option VL}{base:Heap}{f:AD}{fd:FuncData}{k:Nat}{ps:List Str}(F:AL P w K mg base Ah k f fd ps (X7 (B6 6) 1000)):AL P w K mg base Ah k f fd ps (BP P6) :=
 Mj F fun ds x hm G H vs Q E d e kk=>by
  unfold P6 at hm;split at hm
  ·rename_i tx ys;split at hm
   ·rename_i hc;obtain⟨c1,⟨m,n,kb,w1,w2,w3,w4,w5,w6,w7,w8,w9⟩,c3,c4,c5⟩:=hc;cases hm;generalize tabOf tx=t at c1 w1 w3 w5 w6 w8 kk;subst c1;generalize (DJ ys).getD .nil=T at c3 c4 kk;subst c3;obtain⟨v1,v2,rfl,d1,d2⟩:=d.Qk;rw[Du]at d2;obtain⟨L,tvs,rfl,hL,dts⟩:=d2;have ts:=(Jr dts).same e;have hlen:tvs.length=T.bs.length:=ts.len;have hll:T.bs.length≤1000:=by
     rw[←hlen,dts.len];exact c5
    refine⟨v1,t,L,tvs,T.bs,m,n,kb,rfl,Ro (RD t) (d1.same e),w1,w2,w3,w4,w5,w6,w7,w8,e _ _ hL,hlen,hll,fun i x hx=>?_,fun D H' zs e' hD hD' dz=>?_⟩
    ·obtain⟨u,hu,tu⟩:=ts.get hx;have hm:=c4 u (aP hu);have h6:=(V6 u hm).2.2.1;exact⟨u,hu,tu,hm,by lia,Nat.le_trans (au _ h6) w9⟩
    ·obtain⟨n1,n2,n3⟩:=XF e e';refine kk (.ref D) _ H' n1 n2 n3 e' ?_;rw[Du];exact⟨D,zs,rfl,YR hD' hD,ME dz⟩
   ·cases hm
  ·cases hm
abbrev dn:MD:=Al Ab 9
abbrev Tp:MD:=CJ dn
def HG:(List.range 6).map (fun k=>Tp [.int ((k+1:Nat):Int)])=(List.range 6).map fun k=>some (GX (TH.tz k)):=by kernel_rfl
def of_is{k:Nat}(h:k<6):Tp [.int ((k+1:Nat):Int)]=some (GX (TH.tz k)):=aw.mp HG k (ae.mpr h)
def Zx:Tr→Nat
 |.nil=>1
 |.cons b r=>b.AR*Zx b*Zx r
def Q7(u:Tr):Nat:=u.AR*Zx u
abbrev L0:MD:=Aw (Aj 9) 9
def VW:(B6 6).map (fun u=>L0 [tD u])=(B6 6).map fun u=>some (.int ((Q7 u:Nat):Int)):=by kernel_rfl
def Wt{u:Tr}(h:u∈B6 6):L0 [tD u]=some (.int ((Q7 u:Nat):Int)):=aw.mp VW u h
def LH(u:Tr):Rat:=Rat.divInt 1 (Q7 u:Nat)
def Wj:(B6 6).map (fun u=>An (LH u))=(B6 6).map fun u=>PyData.tuple [.int 1,.int ((Q7 u:Nat):Int)]:=by kernel_rfl
def cn{u:Tr}(h:u∈B6 6):An (LH u)=.tuple [.int 1,.int ((Q7 u:Nat):Int)]:=aw.mp Wj u h
abbrev OG:MD:=BV L0
def Xi{ts:List Tr}(hs:∀u∈ts,u∈B6 6)(hl:ts.length≤1000):OG [GX ts]=some (Gs (ts.map LH)):=by
 refine XH rfl ?_;unfold Ij;have e:Et (Cs 1) FR (DC (AA (fC (.int 1)) (AA (AV L0 (AA (nm 1) AQ)) AQ))) [none,none] (FC (nm 0)) [.d (GX ts)]=some (ts.map fun u=>An (LH u)):=by
  refine UI (zs:=ts) (a:=tD) (g:=fun u=>An (LH u)) ?_ (aM hl (by unfold Dy;lia)) fun u hu=>?_
  ·show some (L2.Ba (Tr.of ts))=_;rw[Km]
  ·rw[cn (hs u hu)];exact Xq (xs:=[.int 1,.int ((Q7 u:Nat):Int)]) (Cr rfl (Cr (BO (xs:=[tD u]) rfl (Wt (hs u hu))) rfl)) (by show(2:Nat)≤Dy;decide)
 have:OD (Et (Cs 1) FR (DC (AA (fC (.int 1)) (AA (AV L0 (AA (nm 1) AQ)) AQ))) [none,none] (FC (nm 0))) [.d (GX ts)]=some (.rn (ts.map fun u=>An (LH u))):=by
  show(Et _ _ _ _ _ _).map _=_;rw[e];rfl
 rw[show(ts.map LH).map An=ts.map fun u=>An (LH u) by rw[List.map_map];rfl];exact this
def JE(t:Tb)(u:Tr):Bool:=!decide (LP t u=LH u)
def PK(f g:Tr→Rat):∀ts:List Tr,MN ts (ts.map f) (ts.map g)=ts.find? fun u=>!decide (f u=g u)
 |[]=>rfl
 |u::ts=>by
  show(if f u=g u then MN ts (ts.map f) (ts.map g) else some u)=_;rw[List.find?_cons,PK f g ts];by_cases h:f u=g u
  ·rw[if_pos h,decide_eq_true h];rfl
  ·rw[if_neg h,decide_eq_false h];rfl
def S9(u:Tr):PD:=.tuple [.int ((u.AR-1:Nat):Int),tD u]
def Pb(t:Tb):PD:=(((B6 6).find? (JE t)).map S9).getD (.tuple [.int 6,.none])
abbrev Uo:MD:=AK (mB Ed)
noncomputable abbrev Uv:MD:=BU BD Uo Tp OG P6
def XG{ps N:List Str}{F:DF}{ds:List PD}{δ:Dv}(hl:ds.length=ps.length)(h:F (II N ds)=some (.nx δ)):Bu ps N F ds=some .none:=by unfold Bu;rw[if_pos hl,h]
def Zk{t:Tb}{m:Nat}(o:t.Ok m)(hm:m≤40):Uo [BA t]=some .none:=by
 have e:mB Ed [BA t]=some (.bool true):=eO (RD t) (o.is hm);have f:EY (mB Ed) (II ["thing"] [BA t])=some (.nx [.d (BA t)]):=by
  unfold EY;exact Hd (Xz (XA (BO (xs:=[BA t]) rfl e))) rfl
 exact XG rfl f
def GQ(t:Tb)(k:Nat):Option PD:=((TH.tz k).find? (JE t)).map fun u=>.tuple [.int (k:Nat),tD u]
def Ua:∀k,k<6→(TH.tz k).length≤100∧∀u∈TH.tz k,u∈B6 6∧u.AR=k+1:=by decide +kernel
def XT{k:Nat}(hk:k<6)(t:Tb):GQ t k=((TH.tz k).find? (JE t)).map S9:=by
 unfold GQ;cases h:(TH.tz k).find? (JE t) with
 |none=>rfl
 |some u =>
  have hu:=List.mem_of_find?_eq_some h;have:=((Ua k hk).2 u hu).2;show some (PyData.tuple [.int (k:Nat),tD u])=some (S9 u);unfold S9;rw[show u.AR-1=k by lia]
def OU(t:Tb):∀n,n≤6→(List.range n).findSome? (GQ t)=((B6 n).find? (JE t)).map S9
 |0,_=>rfl
 |n+1,h=>by
  rw[List.range_succ,List.findSome?_append,OU t n (by lia),B6,List.find?_append];rw[show([n]:List Nat).findSome? (GQ t)=GQ t n by rw[List.findSome?_cons];cases GQ t n<;>rfl,XT (by lia)];cases (B6 n).find? (JE t)<;>rfl
def Pr{t:Tb}(h:t.Wu):Uv [BA t]=some (Pb t):=by
 obtain⟨m,n,k,o,hm,_⟩:=id h;refine Kp rfl ?_;unfold Jm;refine A4 (δ':=[.d (BA t),.no,.no,.no]) ?_ ?_
 ·show(AV Uo (AA (nm 0) AQ) _).map _=_;rw[BO (xs:=[BA t]) rfl (Zk o hm)];rfl
 have e:=UO (F2:=CN (DC (AA (fC (.int 6)) (AA (fC .none) AQ)))) (set:=KC 1) (F:=(Ay (Bf 2 (AV Tp (AA (AX Ci (nm 1) (fC (.int 1))) AQ)))
  (Ay (Bf 3 (AV BD (AA (nm 2) (AA (AV P6 (AA (nm 0) (AA (nm 2) AQ))) (AA (AV OG (AA (nm 2) AQ)) AQ)))))
  (GA (DD (WU true) (nm 3) (fC .none))
   (CN (DC (AA (nm 1) (AA (nm 3) AQ))))
   DH)))) (fs:=Es Jx (AA (fC (.int 6)) AQ)) (δ:=[.d (BA t),.no,.no,.no]) (xs:=E8 0 6) (z:=.tuple [.int 6,.none]) (fun δ=>∃l1 l2 l3:L,δ=[.d (BA t),l1,l2,l3]) (fun x=>match x with|.int i=>GQ t i.toNat|_=>none) rfl ⟨_,_,_,rfl⟩ ?_ ?_
 ·refine e.trans ?_;have e2:(E8 0 6).findSome? (fun x=>match x with|.int i=>GQ t i.toNat|_=>none)=(List.range 6).findSome? (GQ t):=rfl;rw[e2,OU t 6 (aG _)]
  rfl
 ·rintro x hx δ ⟨l1,l2,l3,rfl⟩;obtain⟨i,hi⟩:=List.getElem?_of_mem hx;obtain⟨rfl,hi6⟩:=Qj hi;rw[Int.zero_add];obtain⟨tl,ts⟩:=Ua i hi6;refine⟨_,rfl,?_⟩;have b1:AV Tp (AA (AX Ci (nm 1) (fC (.int 1))) AQ) [.d (BA t),.d (.int (i:Nat)),l2,l3]=some (GX (TH.tz i)):=BO (xs:=[.int ((i+1:Nat):Int)]) rfl (of_is hi6);have b2:AV BD (AA (nm 2) (AA (AV P6 (AA (nm 0) (AA (nm 2) AQ))) (AA (AV OG (AA (nm 2) AQ)) AQ))) [.d (BA t),.d (.int (i:Nat)),.d (GX (TH.tz i)),l3]=some (We ((TH.tz i).find? (JE t))):=by
   refine BO (xs:=[GX (TH.tz i),Gs ((TH.tz i).map (LP t)),Gs ((TH.tz i).map LH)]) (Cr rfl (Cr (BO (xs:=[BA t,GX (TH.tz i)]) rfl (bq h (fun u hu=>(ts u hu).1) (by lia))) (Cr (BO (xs:=[GX (TH.tz i)]) rfl (Xi (fun u hu=>(ts u hu).1) (by lia))) rfl))) ?_;rw[first_is,PK]
   rfl
  show(∃r,GQ t i=some r∧_)∨(GQ t i=none∧_);unfold GQ;cases hf:(TH.tz i).find? (JE t) with
  |some u =>
   rw[hf]at b2;refine .inl ⟨_,rfl,A4 (Bc b1) (A4 (Bc b2) (Ks ?_ rfl))⟩
   rfl
  |none =>
   rw[hf]at b2;refine .inr ⟨rfl,_,A4 (Bc b1) (A4 (Bc b2) (Hd ?_ rfl)),_,_,_,rfl⟩
   rfl
 ·rintro δ ⟨l1,l2,l3,rfl⟩
  rfl
def YU(m n:Nat)(t:Tb):Bool:=decide (1≤t.rs.length)&&decide (t.rs.length≤m)&&decide (t.ls.length=t.rs.length)&&(List.range m).all (fun i=>match t.rs[i]? with|some r=>decide (r.length=i)|none=>true)&&t.rs.all (fun r=>r.all fun q=>decide (q.num.natAbs<2^n∧q.den<2^n))&&t.ls.all fun q=>decide (q.num.natAbs<2^n∧q.den<2^n)
def Zl{m n:Nat}{t:Tb}(h:YU m n t=true):t.Ok m∧t.Fits n:=by
 unfold YU at h;simp only[Bool.and_eq_true,decide_eq_true_eq,List.all_eq_true,List.mem_range]at h;obtain⟨⟨⟨⟨⟨h1,h2⟩,h3⟩,h4⟩,h5⟩,h6⟩:=h;refine⟨⟨h1,h2,h3,fun i r hr=>?_⟩,fun r hr q hq=>h5 r hr q hq,fun q hq=>h6 q hq⟩;have:=h4 i (by have:=(aE.mp hr).1;lia);rw[hr]at this
 simpa using this
def WC(t:Tb):Bool:=YU 12 6 t&&decide ((CZ t).natAbs<2^30)
def Uj{t:Tb}(h:WC t=true):t.Wu:=by
 unfold WC at h;rw[Bool.and_eq_true]at h;obtain⟨o,f⟩:=Zl h.1;have hk:(CZ t).natAbs<2^30:=aV h.2;obtain⟨b1,b2,b3⟩:=XD f o;exact⟨12,6,30,o,by decide,f,by decide,Vh o (by decide) f b1 hk b3 (by decide),hk,by decide,b1,by decide⟩
def DQ:Nat→Tb
 |0=>⟨[[]],[1]⟩
 |1=>⟨[[],[Rat.divInt 1 2]],[0,1]⟩
 |2=>⟨[[],[1]],[Rat.divInt 1 2,Rat.divInt 1 2]⟩
 |3=>⟨[[],[Rat.divInt 1 3],[0,Rat.divInt 2 3]],[Rat.divInt 1 4,0,Rat.divInt 3 4]⟩
 |_=>⟨[[],[Rat.divInt 1 2],[0,Rat.divInt 1 2],[0,0,1]],[Rat.divInt 1 6,Rat.divInt 1 3,Rat.divInt 1 3,Rat.divInt 1 6]⟩
def Nn:Nat→Str
 |0 => "plain" |1 => "middle" |2 => "heel" |3 => "third" |_ => "fourth"
def Ek:Nat→Nat
 |0=>1|1=>2|2=>2|3=>3|_=>4
def Xb:(List.range 5).map (fun i=>BZ [.str (Nn i)])=(List.range 5).map fun i=>some (BA (DQ i)):=by kernel_rfl
def Uc{i:Nat}(h:i<5):BZ [.str (Nn i)]=some (BA (DQ i)):=aw.mp Xb i (ae.mpr h)
abbrev SY:MD:=BW Uo (Cp (Bj UB))
abbrev SU:MD:=BX Uo Ax
def Dz(t:Tb)(p:Rat):Tb:=⟨t.rs.map fun r=>r.map (· * p),t.ls.map (· * p)⟩
def Js(o:Tb):Nat→Tb
 |0=>o
 |k+1=>(Js o k).behind o
def VX(a b:Nat):Rat:=Rat.divInt ((a:Int)-4) ((b:Int)+1)
def GN:List Rat:=[1,Rat.divInt 1 2,Rat.divInt 1 3]++(List.range 9).flatMap fun a=>(List.range 5).map fun b=>VX a b
def Wo:(List.range 5).map (fun i=>GN.map fun p=>SY [BA (DQ i),An p])=(List.range 5).map fun i=>GN.map fun p=>some (BA (Dz (DQ i) p)):=by kernel_rfl
def Yl{i:Nat}{p:Rat}(h:i<5)(hp:p∈GN):SY [BA (DQ i),An p]=some (BA (Dz (DQ i) p)):=aw.mp (aw.mp Wo i (ae.mpr h)) p hp
def X6:(List.range 5).map (fun i=>GN.map fun p=>(List.range 2).map fun k=>SU [BA (Js (Dz (DQ i) p) k),BA (Dz (DQ i) p)])=(List.range 5).map fun i=>GN.map fun p=>(List.range 2).map fun k=>some (BA (Js (Dz (DQ i) p) (k+1))):=by kernel_rfl
def ZV{i k:Nat}{p:Rat}(h:i<5)(hp:p∈GN)(hk:k<2):SU [BA (Js (Dz (DQ i) p) k),BA (Dz (DQ i) p)]=some (BA (Js (Dz (DQ i) p) (k+1))) :=
 aw.mp (aw.mp (aw.mp X6 i (ae.mpr h)) p hp) k (ae.mpr hk)
def Rm(t:Tb):Option Tr:=(B6 6).find? (JE t)
def N7(i:Nat)(t:Tb):Bool:=match Rm t with|some u=>decide (u.AR=Ek i+1)|none=>false
def V3(i k:Nat)(p:Rat):Bool:=WC (Js (Dz (DQ i) p) k)&&(if p.num*((k:Int)+1)=(p.den:Int) then N7 i (Js (Dz (DQ i) p) k) else decide (Rm (Js (Dz (DQ i) p) k)=some .nil))
def XB:((List.range 5).all fun i=>WC (DQ i)&&N7 i (DQ i))=true:=by decide +kernel
def U5:((List.range 5).all fun i=>GN.all fun p=>(List.range 3).all fun k=>V3 i k p)=true:=by decide +kernel
abbrev Rb:MD:=BE 9
def Xm:(B6 6).map (fun u=>Rb [tD u])=(B6 6).map fun u=>some (.int ((u.AR:Nat):Int)):=by kernel_rfl
def Sz{u:Tr}(h:u∈B6 6):Rb [tD u]=some (.int ((u.AR:Nat):Int)):=aw.mp Xm u h
noncomputable abbrev Z3:MD:=WX Bi UB Rb SU BZ Uv SY
def P0{i:Nat}{t:Tb}(h:N7 i t=true):∃u,u∈B6 6∧u.AR=Ek i+1∧Pb t=.tuple [.int ((Ek i:Nat):Int),tD u]:=by
 unfold N7 at h;split at h
 ·rename_i u e;have h:=aV h;refine⟨u,List.mem_of_find?_eq_some e,h,?_⟩;unfold Pb;unfold Rm at e;rw[e];show PyData.tuple [.int ((u.AR-1:Nat):Int),tD u]=_;rw[h];rfl
 ·cases h
def W9(a b:Nat)(ha:a<9)(hb:b<5):VX a b∈GN:=by
 unfold GN;refine aR _ (List.mem_flatMap.mpr ⟨a,List.mem_range.mpr ha,List.mem_map.mpr ⟨b,List.mem_range.mpr hb,rfl⟩⟩)
def Xx(k:Nat)(h:k<3):Rat.divInt 1 (1+(k:Int))∈GN:=by
 have:k=0∨k=1∨k=2:=by lia
 unfold GN;refine List.mem_append_left _ ?_;rcases this with rfl|rfl|rfl
 ·exact .head _
 ·exact .tail _ (.head _)
 ·exact .tail _ (.tail _ (.head _))
def Wa{xs:List PD}{i:Nat}{y:PD}(h:xs[i]? = some y):CH (.list xs) (.int (i:Nat))=some y:=QY h
def dQ(x y:Int):Dq true (.int x) (.int y)=some (.bool (!decide (x=y))):=by
 have h:SeqAt.shaped (.int x)=true∧SeqAt.shaped (.int y)=true:=⟨(Ok.int (n:=0)).shaped (by decide),(Ok.int (n:=0)).shaped (by decide)⟩;refine(if_pos h).trans ?_;have e:=Kv x y;unfold Dq at e;rw[if_pos h]at e;have:=PyData.bool.inj (ab e);simp at this ⊢;exact this
def Zq(ns:List Int):Z3 [Dw ns]=some (.bool true):=by
 obtain⟨c,hc⟩:=Wn ns 0;obtain⟨i,hi,hi5⟩:∃i:Nat,c % 5=(i:Int)∧i<5:=⟨(c % 5).toNat,by lia,by lia⟩;obtain⟨k,hk,hk3⟩:∃k:Nat,c / 5 % 3=(k:Int)∧k<3:=⟨(c / 5 % 3).toNat,by lia,by lia⟩;obtain⟨a,ha,ha9⟩:∃a:Nat,c / 30 % 9=(a:Int)∧a<9:=⟨(c / 30 % 9).toNat,by lia,by lia⟩;obtain⟨b,hb,hb5⟩:∃b:Nat,c / 270 % 5=(b:Int)∧b<5:=⟨(c / 270 % 5).toNat,by lia,by lia⟩;have m5:FI (.int c) (.int 5)=some (.int (i:Nat)):=(mod_is (by decide)).trans (by rw[hi]);have md:∀(d m:Int),0<d→d.natAbs<2^64→0<m→∀δ:Dv,nm 1 δ=some (.int c)→AX FI (AX LV (nm 1) (fC (.int d))) (fC (.int m)) δ=some (.int (c / d % m)):=fun d m h1 h2 h3 δ h=>A7 (x:=.int (c / d)) (y:=.int m) (A7 (x:=.int c) (y:=.int d) h rfl (div_is h1 h2)) rfl (mod_is h3);have h0:=ao.mp XB i (ae.mpr hi5);rw[Bool.and_eq_true]at h0;obtain⟨u,u1,u2,u3⟩:=P0 h0.2;refine Kp rfl ?_;unfold V9;refine A4 (Bc (BO (xs:=[Dw ns,.int 0]) rfl hc)) ?_;refine A4 (Bc (y:=.str (Nn i)) (A7 (x:=.list [.str "plain",.str "middle",.str "heel",.str "third",.str "fourth"]) (y:=.int (i:Nat)) rfl (A7 (x:=.int c) (y:=.int 5) rfl rfl m5) (Wa ?_))) ?_
 ·have:i=0∨i=1∨i=2∨i=3∨i=4:=by lia
  rcases this with rfl|rfl|rfl|rfl|rfl<;>rfl
 refine A4 (Bc (y:=.int ((Ek i:Nat):Int)) (A7 (x:=.list [.int 1,.int 2,.int 2,.int 3,.int 4]) (y:=.int (i:Nat)) rfl (A7 (x:=.int c) (y:=.int 5) rfl rfl m5) (Wa ?_))) ?_
 ·have:i=0∨i=1∨i=2∨i=3∨i=4:=by lia
  rcases this with rfl|rfl|rfl|rfl|rfl<;>rfl
 refine A4 (Bc (BO (xs:=[BA (DQ i)]) (Cr (BO (xs:=[.str (Nn i)]) rfl (Uc hi5)) rfl) ((Pr (Uj h0.1)).trans (by rw[u3])))) ?_;refine A4 (Hd (cv (EM (x:=.int ((Ek i:Nat):Int)) (y:=.int ((Ek i:Nat):Int)) rfl rfl (ne_self (n:=0) .int (by decide))) (EM (x:=.int ((u.AR:Nat):Int)) (y:=.int (((Ek i:Nat):Int)+1)) (BO (xs:=[tD u]) rfl (Sz u1)) rfl ((dQ _ _).trans (by rw[decide_eq_true (by lia)];rfl)))) rfl) ?_;refine A4 (Bc (y:=.int (1+(k:Int))) (A7 (x:=.int 1) (y:=.int (c / 5 % 3)) rfl (md 5 3 (by decide) (by decide) (by decide) _ rfl) (by rw[hk];rfl))) ?_;refine A4 (Bc (BO (xs:=[.int 1,.int (1+(k:Int))]) rfl (TU (by lia) (aI (show(1+(k:Int)).natAbs<2^4 by lia) (ar (by decide) (by decide)))))) ?_;have key:∀p∈GN,Ay (Bf 7 (AV SY (AA (AV BZ (AA (nm 2) AQ)) (AA (nm 6) AQ))))
   (Ay (Bf 8 (nm 7))
   (Ay (Eh (Es Jx (AA (AX Pw (nm 5) (fC (.int 1))) AQ)) (KC 9)
    (Bf 8 (AV SU (AA (nm 8) (AA (nm 7) AQ)))))
   (Ay (Bf 4 (AV Uv (AA (nm 8) AQ)))
   (Ay (GA (DD (Dq true) (AX Em (AX CH (nm 6) (fC (.int 0))) (nm 5)) (AX CH (nm 6) (fC (.int 1))))
    (CN (AX (Dq false) (nm 4) (DC (AA (fC (.int 0)) (AA (DC AQ) AQ)))))
    DH)
   (CN (Yt (AX (Dq false) (AX CH (nm 4) (fC (.int 0))) (nm 3)) (AX (Dq false) (AV Rb (AA (AX CH (nm 4) (fC (.int 1))) AQ)) (AX Ci (nm 3) (fC (.int 1))))))))))
   [.d (Dw ns),.d (.int c),.d (.str (Nn i)),.d (.int ((Ek i:Nat):Int)),.d (.tuple [.int ((Ek i:Nat):Int),tD u]),.d (.int (1+(k:Int))),.d (An p),.no,.no,.no]=some (.rt (.bool true)):=fun p hp=>by
  have hC:=ao.mp (ao.mp (ao.mp U5 i (ae.mpr hi5)) p hp) k (ae.mpr hk3);unfold V3 at hC;rw[Bool.and_eq_true]at hC;obtain⟨c1,c2⟩:=hC;refine A4 (Bc (BO (xs:=[BA (DQ i),An p]) (Cr (BO (xs:=[.str (Nn i)]) rfl (Uc hi5)) rfl) (Yl hi5 hp))) ?_;refine A4 (Bc rfl) ?_;refine VR (xs:=E8 0 k) (fun j δ=>∃l9:L,δ=[.d (Dw ns),.d (.int c),.d (.str (Nn i)),.d (.int ((Ek i:Nat):Int)),.d (.tuple [.int ((Ek i:Nat):Int),tD u]),.d (.int (1+(k:Int))),.d (An p),.d (BA (Dz (DQ i) p)),.d (BA (Js (Dz (DQ i) p) j)),l9]) ?_ ⟨_,rfl⟩ ?_ ?_
  ·refine(YM (j:=(k:Int)) (A7 (x:=.int (1+(k:Int))) (y:=.int 1) rfl rfl ?_) (by lia) (by lia)).trans ?_
   ·show some (PyData.int (1+(k:Int)-1))=_;rw[show 1+(k:Int)-1=(k:Int) by lia]
   ·rw[Int.toNat_natCast]
  ·rintro j x δ hx ⟨l9,rfl⟩;have hj:=(Qj hx).2;exact⟨_,rfl,_,Bc (BO (xs:=[BA (Js (Dz (DQ i) p) j),BA (Dz (DQ i) p)]) rfl (ZV hi5 hp (by lia))),_,rfl⟩
  ·rintro δ ⟨l9,rfl⟩;rw[show(E8 0 k).length=k by unfold E8;rw[List.length_map,List.length_range]];have ho:=Pr (Uj c1);generalize Js (Dz (DQ i) p) k=t at ho c2;have mu:Em (.int p.num) (.int (1+(k:Int)))=some (.int (p.num*(1+(k:Int)))):=mul_r (by lia);have tst:∀(l:L) (r:Dv),DD (Dq true) (AX Em (AX CH (nm 6) (fC (.int 0))) (nm 5)) (AX CH (nm 6) (fC (.int 1))) [.d (Dw ns),.d (.int c),.d (.str (Nn i)),.d (.int ((Ek i:Nat):Int)),l,.d (.int (1+(k:Int))),.d (An p),.d (BA (Dz (DQ i) p)),.d (BA t),l9]=some (!decide (p.num*(1+(k:Int))=(p.den:Int))):=fun l r =>
    EM (x:=.int (p.num*(1+(k:Int)))) (y:=.int (p.den:Int)) (A7 (x:=.int p.num) (y:=.int (1+(k:Int))) rfl rfl mu) rfl (dQ _ _)
   rw[Int.add_comm (k:Int) 1]at c2;refine A4 (Bc (BO (xs:=[BA t]) rfl ho)) ?_;by_cases z:p.num*(1+(k:Int))=(p.den:Int)
   ·rw[if_pos z]at c2;obtain⟨v,v1,v2,v3⟩:=P0 c2;rw[v3];refine A4 (Hd ((tst _ []).trans (by rw[decide_eq_true z];rfl)) rfl) (Kh ?_);show(AX _ _ _ _).bind _=_;rw[A7 (x:=.int ((Ek i:Nat):Int)) (y:=.int ((Ek i:Nat):Int)) rfl rfl (Vy (n:=0) .int (by decide))];exact A7 (x:=.int ((v.AR:Nat):Int)) (y:=.int (((Ek i:Nat):Int)+1)) (BO (xs:=[tD v]) rfl (Sz v1)) rfl ((Kv _ _).trans (by rw[decide_eq_true (by lia)]))
   ·rw[if_neg z]at c2;have e:Pb t=.tuple [.int 0,.tuple []]:=by
     have:=aV c2;unfold Rm at this;unfold Pb;rw[this];rfl
    rw[e];refine Kg (Ks ((tst _ []).trans (by rw[decide_eq_false z];rfl)) (Kh ?_));exact A7 (x:=.tuple [.int 0,.tuple []]) (y:=.tuple [.int 0,.tuple []]) rfl rfl (by kernel_rfl)
 by_cases z:c / 15 % 2=1
 ·refine A4 (Ks (EM (x:=.int (c / 15 % 2)) (y:=.int 1) (md 15 2 (by decide) (by decide) (by decide) _ rfl) rfl ((Kv _ _).trans (by rw[decide_eq_true z]))) (Bc (y:=An (VX a b)) (BO (xs:=[.int ((a:Int)-4),.int ((b:Int)+1)]) (Cr (A7 (x:=.int (c / 30 % 9)) (y:=.int 4) (md 30 9 (by decide) (by decide) (by decide) _ rfl) rfl (by rw[ha];rfl)) (Cr (A7 (x:=.int 1) (y:=.int (c / 270 % 5)) rfl (md 270 5 (by decide) (by decide) (by decide) _ rfl) (by rw[hb,Int.add_comm];rfl)) rfl)) (TU (by lia) (aI (show((b:Int)+1).natAbs<2^4 by lia) (ar (by decide) (by decide))))))) ?_;exact key _ (W9 a b ha9 hb5)
 ·refine A4 (Hd (EM (x:=.int (c / 15 % 2)) (y:=.int 1) (md 15 2 (by decide) (by decide) (by decide) _ rfl) rfl ((Kv _ _).trans (by rw[decide_eq_false z]))) rfl) ?_;exact key _ (Xx k hk3)
def Rt(K:Fg):Sp:=fun vs H Q _=>∃(a:AD) (ns:List Int),vs=[.ref a]∧Ae K H a (ns.map V.int)∧ns.length≤63∧∀H',Q (.bl true) H'
def YG{P:Program}{w:World}{K:Fg}{mg:Str→Option VL}{base:Heap}{f:AD}{fd:FuncData}{k:Nat}(hK:N5 K=true)(F:AL P w K mg base Ah k f fd ["_law_script"] (BP Z3)):AL P w K mg base Ah k f fd ["_law_script"] (Rt K) :=
 F.imp fun vs H Q E z=>by
  obtain⟨a,ns,rfl,hS,_,q⟩:=z;refine⟨[Dw ns],.bool true,H,Zq ns,.cons (Yy (ZX hK hS)) .nil,.refl _,fun v G' H' _ _ _ _ dv=>?_⟩;rw[Du]at dv;subst dv;exact q H'
def TR(n:Nat)(g:Tr→Nat):Sp:=fun vs H Q _=>∃v t,vs=[v]∧Tv H t v∧t.deep<n∧n≤60∧t.AR≤8∧∀H',AG H H'→Q (.int (g t)) H'
def VM{P:Program}{w:World}{K:Fg}{mg:Str→Option VL}{base:Heap}{CX:GJ}{k:Nat}{f:AD}{fd:FuncData}{ps:List Str}{sp:Sp}(h:∀vs H Q E,¬sp vs H Q E):AL P w K mg base CX k f fd ps sp :=
 ⟨fun _ _ _ _ z=>(h _ _ _ _ z).elim,fun _ _ _ _ _ _ _ _ _ _ _ _ _ z=>(h _ _ _ _ z).elim⟩
section
variable{P:Program}{w:World}{K:Fg}{mg:Str→Option VL}{base:Heap}{f:AD}{fd:FuncData}
def Mc:Ac ["tree"] ["tree"] (AO CP):=CB
def Hn(Ak:Fn K mg "knots_within" CP ["tree"] f fd)(CV:mg "sum" = none):∀n,AL P w K mg base Ah n f fd ["tree"] (TR n Tr.AR)
 |0=>VM fun _ _ _ _ ⟨_,_,_,_,h,_⟩=>absurd h (ah _)
 |n+1=>by
  have sc:=Mc;have BC:=Hn Ak CV n;refine Ak.F.ok (k:=n) sc (fun vs H Q E h=>?_) (fun cdv A outer s H vs Q E hr h=>?_)
  ·obtain⟨v,t,rfl,_⟩:=h
   rfl
  obtain⟨v,t,rfl,⟨a,xs,rfl,ha,ht⟩,hd,hn,hk,q⟩:=h;refine⟨_,(Ad (BJ (B0 T4 Ao (BB (Lb rfl) rfl CV bS (AH (FZ [".0", "bough"] 1 [none,none] (Pe (pv 0)) (fun _ _ _ _ _=>EE) (fun _ _ _ _ _=>(B9 Ak BC hr rfl (AH (pv 1) AU)))) AU))))),?_⟩;have hlen:=ht.len;have hsz:xs.length<8:=by rw[hlen];have:=Tr.J2 t;lia
  refine⟨_,rfl,a,rfl,⟨_,Au.of ha⟩,fun D hD=>Ft (n:=xs.length) (fun i ys H'=>AG H H'∧ys=(t.bs.take i).map fun c=>V.int (c.AR:Nat)) ?_ ?_ ?_⟩
  ·exact⟨Aa hD _,by simp⟩
  ·rintro i ys H0 hi ⟨e0,rfl⟩ hD0;have hi':i<t.bs.length:=by lia
   refine⟨⟨xs,xs[i],Au.of (e0 _ _ ha),by simp[hi]⟩,?_,fun x H' y=>?_⟩
   ·rw[List.length_map,List.length_take];exact ag (Nat.min_le_left _ _) (aI (Nat.lt_trans hi hsz) (by rw[sizeLine_eq];decide))
   ·obtain⟨rfl,y⟩:=y;have hx:=y xs (Au.of (e0 _ _ ha));obtain⟨c,hc,tc⟩:=ht.get hx;have hcm:c∈t.bs:=aP hc;have hcd:=Tr.Ov hcm;have hck:=Tr.Hj hcm;unfold Gm;refine Dd ⟨_,rfl,x,c,rfl,tc.same e0,by lia,by lia,by lia,fun H2 e2=>⟨e2 _ _ hD0,EJ hi ⟨?_,?_⟩⟩⟩
    ·exact fun b o z=>by
      rw[AF (AJ z hD)];exact e2 _ _ (e0 _ _ z)
    ·rw[List.take_succ,hc];simp
  ·rintro ys H0 ⟨e0,rfl⟩ hD0;refine⟨⟨xs,Au.of (e0 _ _ ha),Nat.le_refl _⟩,?_⟩;refine⟨D,t.bs.map fun c=>(c.AR:Int),rfl,Ae.of ?_,_,_,rfl,rfl,?_⟩
   ·rw[hD0,hlen,List.take_length,List.map_map]
    rfl
   ·show Q (.int (1+(t.bs.map fun c=>(c.AR:Int)).sum)) H0;rw[Tr.Ny];exact q H0 e0
end
def cK{P:Program}{w:World}{K:Fg}{mg:Str→Option VL}{base:Heap}{f:AD}{fd:FuncData}{k:Nat}{ps:List Str}(F:AL P w K mg base Ah k f fd ps (TR 8 Tr.AR)):AL P w K mg base Ah k f fd ps Zm :=
 F.imp fun vs H Q E z=>by
  obtain⟨v,u,rfl,tv,hd,hk,q⟩:=z;exact⟨v,u,rfl,tv,hd,by decide,hk,q⟩
section
open PySem.W PyProof.Rows PySem.Calls
abbrev CU:Program:=PySem.Challenge.pw_stepgrove_k52_whole_orders_of_named_rule
abbrev Bp:OpenLaw:=PySem.Challenge.rw_stepgrove_k52_whole_orders_of_named_rule
noncomputable abbrev dE(P:Params)(x:String)(t:Nat)(v:VL):DictEntry:=⟨PyData.keyHash P (Str.ofString x),.str (Str.ofString x) t,v⟩
noncomputable abbrev sV(x:String)(t:Nat):VL:=.str (Str.ofString x) t
noncomputable abbrev fO(n:String)(i:Nat)(m:String)(t c:Nat):Obj:=⟨.type "function",none,.func (fnOf n n (EO (top i)) (C1 (top i)) (AO (top i)) .none .none .none (.str (Str.ofString m) t) none (.ref c) .none),#[]⟩
noncomputable abbrev cO(n:String)(t l a k r:Nat)(b:Bool)(r2:Nat)(v1 v2 v3 v4:VL)(t2:Nat):Obj:=⟨.type "code",none,.fields #[sV n t,sV n (t+1),sV "/claim/cut.py" (t+2),.int l 0,.int a 0,.int 0 0,.int 0 0,.int k 0,.ref r,.bool b,.int 181 0,.ref r2,v1,v2,v3,v4,.int t2 0,.int l 0,sV "/claim/cut.py" (t2+1)],#[]⟩
noncomputable def kH:Params→Frag:=fun P =>
 (nat_lit 2,⟨.none,none,(.dict #[] 0),#[]⟩) ::
 (nat_lit 3,⟨(.type "dict"),none,(.dict #[dE P "__name__" 165 (sV "law_stepgrove_k52_whole_orders_of_named_rule" 573),dE P "__doc__" 166 .none,dE P "__package__" 167 .none,dE P "__loader__" 168 (.builtin "__main__.__loader__#opaque"),dE P "__spec__" 169 .none,dE P "__annotations__" 170 (.ref 6),dE P "__builtins__" 171 (.ref 4),dE P "__file__" 173 (sV "/claim/cut.py" 172),dE P "__cached__" 174 .none,dE P "GroveError" 206 (.ref 24),dE P "NoBottom" 222 (.ref 37),dE P "NoTable" 238 (.ref 49),dE P "NoName" 254 (.ref 61),dE P "TooMany" 270 (.ref 73),dE P "fraction_of" 281 (.ref 82),dE P "frac_times" 289 (.ref 89),dE P "is_fraction" 296 (.ref 96),dE P "are_fractions" 304 (.ref 103),dE P "is_whole" 311 (.ref 110),dE P "greatest_divisor" 322 (.ref 117),dE P "common_bottom" 331 (.ref 124),dE P "power_of" 342 (.ref 131),dE P "MOST_ROWS" 346 (.int 40 345),dE P "NAMED_TABLES" 403 (.ref 132),dE P "is_table" 410 (.ref 189),dE P "table_of" 416 (.ref 194),dE P "refuse_no_table" 423 (.ref 201),dE P "are_rows" 432 (.ref 208),dE P "MOST_KNOTS" 436 (.int 7 435),dE P "trees_of" 447 (.ref 215),dE P "in_falling_order" 454 (.ref 222),dE P "knots_within" 460 (.ref 227),dE P "density_within" 469 (.ref 234),dE P "trees_one_larger" 480 (.ref 241),dE P "tops_over" 488 (.ref 246),dE P "table_bottom" 494 (.ref 251),dE P "true_weights" 502 (.ref 256),dE P "weights_under" 508 (.ref 261),dE P "readings" 514 (.ref 266),dE P "read_by" 520 (.ref 271),dE P "MOST_ORDER" 524 (.int 6 523),dE P "table_order" 534 (.ref 278),dE P "first_unlike" 546 (.ref 285),dE P "table_behind" 554 (.ref 290),dE P "table_shrunk" 560 (.ref 295),dE P "refuse_too_many_rows" 566 (.ref 300),dE P "scaled" 572 (.ref 305),dE P "_law_cell" 584 (.ref 312),dE P "_law_frac" 594 (.ref 319),dE P "_law_knots" 600 (.ref 324),dE P "law" 616 (.ref 331)] 51),#[]⟩) ::
 (nat_lit 15,⟨(.type "tuple"),none,(.seq #[(.type "ValueError")] 0),#[]⟩) ::
 (nat_lit 22,⟨(.type "tuple"),none,(.seq #[] 0),#[]⟩) ::
 (nat_lit 23,⟨(.type "dict"),none,(.dict #[dE P "__module__" 196 (sV "stepgrove.errors" 187),dE P "__firstlineno__" 200 (.int 2 199),dE P "__static_attributes__" 201 (.ref 22),dE P "__weakref__" 203 (.ref 25),dE P "__doc__" 204 .none] 3),#[]⟩) ::
 (nat_lit 24,⟨(.type "type"),none,(.cls ⟨Str.ofString "GroveError",[(.type "ValueError")],[(.ref 24),(.type "ValueError"),(.type "Exception"),(.type "BaseException"),(.type "object")],23,Str.ofString "GroveError",true,[],[(.ref 37),(.ref 49),(.ref 61),(.ref 73)],false,none,false⟩),#[some (.ref 15),none,some (sV "GroveError" 189),some (sV "GroveError" 197),some (.builtin "ValueError.__new__"),some (.bool true)]⟩) ::
 (nat_lit 25,⟨(.type "getset_descriptor"),none,(.fields #[(sV "__weakref__" 202),(.ref 24),(.builtin "ExceptionGroup.__weakref__"),.none]),#[]⟩) ::
 (nat_lit 28,⟨(.type "tuple"),none,(.seq #[(.ref 24)] 0),#[]⟩) ::
 (nat_lit 35,⟨(.type "tuple"),none,(.seq #[] 0),#[]⟩) ::
 (nat_lit 36,⟨(.type "dict"),none,(.dict #[dE P "__module__" 214 (sV "stepgrove.errors" 187),dE P "__firstlineno__" 218 (.int 4 217),dE P "__static_attributes__" 219 (.ref 35),dE P "__doc__" 220 .none] 2),#[]⟩) ::
 (nat_lit 37,⟨(.type "type"),none,(.cls ⟨Str.ofString "NoBottom",[(.ref 24)],[(.ref 37),(.ref 24),(.type "ValueError"),(.type "Exception"),(.type "BaseException"),(.type "object")],36,Str.ofString "NoBottom",true,[],[],false,none,false⟩),#[some (.ref 28),none,some (sV "NoBottom" 207),some (sV "NoBottom" 215),some (.builtin "ValueError.__new__"),some (.bool true)]⟩) ::
 (nat_lit 40,⟨(.type "tuple"),none,(.seq #[(.ref 24)] 0),#[]⟩) ::
 (nat_lit 47,⟨(.type "tuple"),none,(.seq #[] 0),#[]⟩) ::
 (nat_lit 48,⟨(.type "dict"),none,(.dict #[dE P "__module__" 230 (sV "stepgrove.errors" 187),dE P "__firstlineno__" 234 (.int 6 233),dE P "__static_attributes__" 235 (.ref 47),dE P "__doc__" 236 .none] 2),#[]⟩) ::
 (nat_lit 49,⟨(.type "type"),none,(.cls ⟨Str.ofString "NoTable",[(.ref 24)],[(.ref 49),(.ref 24),(.type "ValueError"),(.type "Exception"),(.type "BaseException"),(.type "object")],48,Str.ofString "NoTable",true,[],[],false,none,false⟩),#[some (.ref 40),none,some (sV "NoTable" 223),some (sV "NoTable" 231),some (.builtin "ValueError.__new__"),some (.bool true)]⟩) ::
 (nat_lit 52,⟨(.type "tuple"),none,(.seq #[(.ref 24)] 0),#[]⟩) ::
 (nat_lit 59,⟨(.type "tuple"),none,(.seq #[] 0),#[]⟩) ::
 (nat_lit 60,⟨(.type "dict"),none,(.dict #[dE P "__module__" 246 (sV "stepgrove.errors" 187),dE P "__firstlineno__" 250 (.int 8 249),dE P "__static_attributes__" 251 (.ref 59),dE P "__doc__" 252 .none] 2),#[]⟩) ::
 (nat_lit 61,⟨(.type "type"),none,(.cls ⟨Str.ofString "NoName",[(.ref 24)],[(.ref 61),(.ref 24),(.type "ValueError"),(.type "Exception"),(.type "BaseException"),(.type "object")],60,Str.ofString "NoName",true,[],[],false,none,false⟩),#[some (.ref 52),none,some (sV "NoName" 239),some (sV "NoName" 247),some (.builtin "ValueError.__new__"),some (.bool true)]⟩) ::
 (nat_lit 64,⟨(.type "tuple"),none,(.seq #[(.ref 24)] 0),#[]⟩) ::
 (nat_lit 71,⟨(.type "tuple"),none,(.seq #[] 0),#[]⟩) ::
 (nat_lit 72,⟨(.type "dict"),none,(.dict #[dE P "__module__" 262 (sV "stepgrove.errors" 187),dE P "__firstlineno__" 266 (.int 10 265),dE P "__static_attributes__" 267 (.ref 71),dE P "__doc__" 268 .none] 2),#[]⟩) ::
 (nat_lit 73,⟨(.type "type"),none,(.cls ⟨Str.ofString "TooMany",[(.ref 24)],[(.ref 73),(.ref 24),(.type "ValueError"),(.type "Exception"),(.type "BaseException"),(.type "object")],72,Str.ofString "TooMany",true,[],[],false,none,false⟩),#[some (.ref 64),none,some (sV "TooMany" 255),some (sV "TooMany" 263),some (.builtin "ValueError.__new__"),some (.bool true)]⟩) ::
 (nat_lit 81,cO "fraction_of" 273 13 2 3 76 true 77 .none (.ref 78) (.ref 79) (.ref 80) 279) ::
 (nat_lit 82,fO "fraction_of" 7 "stepgrove.fracs" 271 81) ::
 (nat_lit 88,cO "frac_times" 282 20 2 3 83 true 84 .none (.ref 85) (.ref 86) (.ref 87) 287) ::
 (nat_lit 89,fO "frac_times" 8 "stepgrove.fracs" 271 88) ::
 (nat_lit 95,cO "is_fraction" 290 22 1 3 90 true 91 .none (.ref 92) (.ref 93) (.ref 94) 294) ::
 (nat_lit 96,fO "is_fraction" 9 "stepgrove.fracs" 271 95) ::
 (nat_lit 102,cO "are_fractions" 297 28 1 3 97 true 98 .none (.ref 99) (.ref 100) (.ref 101) 302) ::
 (nat_lit 103,fO "are_fractions" 10 "stepgrove.fracs" 271 102) ::
 (nat_lit 109,cO "is_whole" 305 35 1 3 104 true 105 .none (.ref 106) (.ref 107) (.ref 108) 309) ::
 (nat_lit 110,fO "is_whole" 11 "stepgrove.fracs" 271 109) ::
 (nat_lit 116,cO "greatest_divisor" 312 37 2 3 111 true 112 .none (.ref 113) (.ref 114) (.ref 115) 320) ::
 (nat_lit 117,fO "greatest_divisor" 12 "stepgrove.fracs" 271 116) ::
 (nat_lit 123,cO "common_bottom" 323 45 1 3 118 true 119 .none (.ref 120) (.ref 121) (.ref 122) 329) ::
 (nat_lit 124,fO "common_bottom" 13 "stepgrove.fracs" 271 123) ::
 (nat_lit 130,cO "power_of" 332 50 2 3 125 true 126 .none (.ref 127) (.ref 128) (.ref 129) 340) ::
 (nat_lit 131,fO "power_of" 14 "stepgrove.fracs" 271 130) ::
 (nat_lit 188,cO "is_table" 404 64 1 3 183 true 184 .none (.ref 185) (.ref 186) (.ref 187) 408) ::
 (nat_lit 189,fO "is_table" 18 "stepgrove.tables" 343 188) ::
 (nat_lit 193,cO "table_of" 411 68 1 3 190 true 191 .none .none .none (.ref 192) 414) ::
 (nat_lit 194,fO "table_of" 19 "stepgrove.tables" 343 193) ::
 (nat_lit 200,cO "refuse_no_table" 417 73 1 3 195 true 196 .none (.ref 197) (.ref 198) (.ref 199) 421) ::
 (nat_lit 201,fO "refuse_no_table" 20 "stepgrove.tables" 343 200) ::
 (nat_lit 207,cO "are_rows" 424 76 1 3 202 true 203 .none (.ref 204) (.ref 205) (.ref 206) 430) ::
 (nat_lit 208,fO "are_rows" 21 "stepgrove.tables" 343 207) ::
 (nat_lit 214,cO "trees_of" 437 85 1 3 209 true 210 .none (.ref 211) (.ref 212) (.ref 213) 445) ::
 (nat_lit 215,fO "trees_of" 24 "stepgrove.trees" 433 214) ::
 (nat_lit 221,cO "in_falling_order" 448 95 1 3 216 true 217 .none (.ref 218) (.ref 219) (.ref 220) 452) ::
 (nat_lit 222,fO "in_falling_order" 25 "stepgrove.trees" 433 221) ::
 (nat_lit 226,cO "knots_within" 455 97 1 3 223 true 224 .none .none .none (.ref 225) 458) ::
 (nat_lit 227,fO "knots_within" 26 "stepgrove.trees" 433 226) ::
 (nat_lit 233,cO "density_within" 461 99 1 3 228 true 229 .none (.ref 230) (.ref 231) (.ref 232) 467) ::
 (nat_lit 234,fO "density_within" 27 "stepgrove.trees" 433 233) ::
 (nat_lit 240,cO "trees_one_larger" 470 104 1 3 235 true 236 .none (.ref 237) (.ref 238) (.ref 239) 478) ::
 (nat_lit 241,fO "trees_one_larger" 28 "stepgrove.trees" 433 240) ::
 (nat_lit 245,cO "tops_over" 483 111 2 3 242 true 243 .none .none .none (.ref 244) 486) ::
 (nat_lit 246,fO "tops_over" 30 "stepgrove.wholes" 481 245) ::
 (nat_lit 250,cO "table_bottom" 489 113 1 3 247 true 248 .none .none .none (.ref 249) 492) ::
 (nat_lit 251,fO "table_bottom" 31 "stepgrove.wholes" 481 250) ::
 (nat_lit 255,cO "true_weights" 497 119 1 3 252 true 253 .none .none .none (.ref 254) 500) ::
 (nat_lit 256,fO "true_weights" 33 "stepgrove.weights" 495 255) ::
 (nat_lit 260,cO "weights_under" 503 121 2 3 257 true 258 .none .none .none (.ref 259) 506) ::
 (nat_lit 261,fO "weights_under" 34 "stepgrove.weights" 495 260) ::
 (nat_lit 265,cO "readings" 509 129 3 3 262 true 263 .none .none .none (.ref 264) 512) ::
 (nat_lit 266,fO "readings" 35 "stepgrove.weights" 495 265) ::
 (nat_lit 270,cO "read_by" 515 136 2 3 267 true 268 .none .none .none (.ref 269) 518) ::
 (nat_lit 271,fO "read_by" 36 "stepgrove.weights" 495 270) ::
 (nat_lit 277,cO "table_order" 525 140 1 3 272 true 273 .none (.ref 274) (.ref 275) (.ref 276) 532) ::
 (nat_lit 278,fO "table_order" 39 "stepgrove.orders" 521 277) ::
 (nat_lit 284,cO "first_unlike" 535 148 3 3 279 true 280 .none (.ref 281) (.ref 282) (.ref 283) 544) ::
 (nat_lit 285,fO "first_unlike" 40 "stepgrove.orders" 521 284) ::
 (nat_lit 289,cO "table_behind" 549 154 2 3 286 true 287 .none .none .none (.ref 288) 552) ::
 (nat_lit 290,fO "table_behind" 42 "stepgrove.joins" 547 289) ::
 (nat_lit 294,cO "table_shrunk" 555 160 2 3 291 true 292 .none .none .none (.ref 293) 558) ::
 (nat_lit 295,fO "table_shrunk" 43 "stepgrove.joins" 547 294) ::
 (nat_lit 299,cO "refuse_too_many_rows" 561 163 1 3 296 true 297 .none .none .none (.ref 298) 564) ::
 (nat_lit 300,fO "refuse_too_many_rows" 44 "stepgrove.joins" 547 299) ::
 (nat_lit 304,cO "scaled" 567 166 2 3 301 true 302 .none .none .none (.ref 303) 570) ::
 (nat_lit 305,fO "scaled" 45 "stepgrove.joins" 547 304) ::
 (nat_lit 311,cO "_law_cell" 575 169 2 3 306 true 307 .none (.ref 308) (.ref 309) (.ref 310) 582) ::
 (nat_lit 312,fO "_law_cell" 47 "law_stepgrove_k52_whole_orders_of_named_rule" 573 311) ::
 (nat_lit 318,cO "_law_frac" 585 178 2 3 313 true 314 .none (.ref 315) (.ref 316) (.ref 317) 592) ::
 (nat_lit 319,fO "_law_frac" 48 "law_stepgrove_k52_whole_orders_of_named_rule" 573 318) ::
 (nat_lit 323,cO "_law_knots" 595 186 1 3 320 true 321 .none .none .none (.ref 322) 598) ::
 (nat_lit 324,fO "_law_knots" 49 "law_stepgrove_k52_whole_orders_of_named_rule" 573 323) ::
 (nat_lit 330,cO "law" 601 188 1 3 325 true 326 .none (.ref 327) (.ref 328) (.ref 329) 614) ::
 (nat_lit 331,fO "law" 50 "law_stepgrove_k52_whole_orders_of_named_rule" 573 330)::[]
noncomputable def YD:List (List VL):=[[],
 [(.ref 133)],
 [(.int 1 348),(.int 1 349)],
 [(.ref 135)],
 [(.ref 134),(.ref 136)],
 [],
 [(.int 1 351),(.int 2 352)],
 [(.ref 139)],
 [(.ref 138),(.ref 140)],
 [(.int 0 353),(.int 1 354)],
 [(.int 1 355),(.int 1 356)],
 [(.ref 142),(.ref 143)],
 [(.ref 141),(.ref 144)],
 [],
 [(.int 1 358),(.int 1 359)],
 [(.ref 147)],
 [(.ref 146),(.ref 148)],
 [(.int 1 360),(.int 2 361)],
 [(.int 1 362),(.int 2 363)],
 [(.ref 150),(.ref 151)],
 [(.ref 149),(.ref 152)],
 [],
 [(.int 1 365),(.int 3 366)],
 [(.ref 155)],
 [(.int 0 367),(.int 1 368)],
 [(.int 2 369),(.int 3 370)],
 [(.ref 157),(.ref 158)],
 [(.ref 154),(.ref 156),(.ref 159)],
 [(.int 1 371),(.int 4 372)],
 [(.int 0 373),(.int 1 374)],
 [(.int 3 375),(.int 4 376)],
 [(.ref 161),(.ref 162),(.ref 163)],
 [(.ref 160),(.ref 164)],
 [],
 [(.int 1 378),(.int 2 379)],
 [(.ref 167)],
 [(.int 0 380),(.int 1 381)],
 [(.int 1 382),(.int 2 383)],
 [(.ref 169),(.ref 170)],
 [(.int 0 384),(.int 1 385)],
 [(.int 0 386),(.int 1 387)],
 [(.int 1 388),(.int 1 389)],
 [(.ref 172),(.ref 173),(.ref 174)],
 [(.ref 166),(.ref 168),(.ref 171),(.ref 175)],
 [(.int 1 390),(.int 6 391)],
 [(.int 1 392),(.int 3 393)],
 [(.int 1 394),(.int 3 395)],
 [(.int 1 396),(.int 6 397)],
 [(.ref 177),(.ref 178),(.ref 179),(.ref 180)],
 [(.ref 176),(.ref 181)]]
noncomputable abbrev YZ(P:Params):Obj:=ZH P 132 347 350 357 364 377
noncomputable def kT:Params→Frag:=fun P=>(nat_lit 132,YZ P)::JR (nat_lit 133) YD
noncomputable def kF:Params→Frag:=fun P=>kH P++kT P
def eS(P:Params):L3 P 132 (YZ P) YD (kT P):=⟨by kernel_rfl,⟨347,350,357,364,377,rfl⟩,by kernel_rfl,fun _ _ e=>VF e,by kernel_rfl,by kernel_rfl⟩
def WL{p:World→Prop}(h:∀(b:Bool) (w:World),p (w.withFollow "special-get-raises" b))(w:World):p w:=by
 have:=h (w.params.followText "special-get-raises") w
 rwa [World.withFollow_self]at this
abbrev qX:Program:=view CU [1,2,3,4,5,7,8,9,10,11,12,13,14,16,17,18,19,20,21,23,24,25,26,27,28,30,31,33,34,35,36,38,39,40,42,43,44,45,47,48,49,50]
noncomputable abbrev hX:Hook:=kHook kF [nat_lit 2,nat_lit 3,nat_lit 15,nat_lit 22,nat_lit 23,nat_lit 24,nat_lit 25,nat_lit 28,nat_lit 35,nat_lit 36,nat_lit 37,nat_lit 40,nat_lit 47,nat_lit 48,nat_lit 49,nat_lit 52,nat_lit 59,nat_lit 60,nat_lit 61,nat_lit 64,nat_lit 71,nat_lit 72,nat_lit 73,nat_lit 81,nat_lit 82,nat_lit 88,nat_lit 89,nat_lit 95,nat_lit 96,nat_lit 102,nat_lit 103,nat_lit 109,nat_lit 110,nat_lit 116,nat_lit 117,nat_lit 123,nat_lit 124,nat_lit 130,nat_lit 131,nat_lit 188,nat_lit 189,nat_lit 193,nat_lit 194,nat_lit 200,nat_lit 201,nat_lit 207,nat_lit 208,nat_lit 214,nat_lit 215,nat_lit 221,nat_lit 222,nat_lit 226,nat_lit 227,nat_lit 233,nat_lit 234,nat_lit 240,nat_lit 241,nat_lit 245,nat_lit 246,nat_lit 250,nat_lit 251,nat_lit 255,nat_lit 256,nat_lit 260,nat_lit 261,nat_lit 265,nat_lit 266,nat_lit 270,nat_lit 271,nat_lit 277,nat_lit 278,nat_lit 284,nat_lit 285,nat_lit 289,nat_lit 290,nat_lit 294,nat_lit 295,nat_lit 299,nat_lit 300,nat_lit 304,nat_lit 305,nat_lit 311,nat_lit 312,nat_lit 318,nat_lit 319,nat_lit 323,nat_lit 324,nat_lit 330,nat_lit 331,nat_lit 132,nat_lit 133,nat_lit 134,nat_lit 135,nat_lit 136,nat_lit 137,nat_lit 138,nat_lit 139,nat_lit 140,nat_lit 141,nat_lit 142,nat_lit 143,nat_lit 144,nat_lit 145,nat_lit 146,nat_lit 147,nat_lit 148,nat_lit 149,nat_lit 150,nat_lit 151,nat_lit 152,nat_lit 153,nat_lit 154,nat_lit 155,nat_lit 156,nat_lit 157,nat_lit 158,nat_lit 159,nat_lit 160,nat_lit 161,nat_lit 162,nat_lit 163,nat_lit 164,nat_lit 165,nat_lit 166,nat_lit 167,nat_lit 168,nat_lit 169,nat_lit 170,nat_lit 171,nat_lit 172,nat_lit 173,nat_lit 174,nat_lit 175,nat_lit 176,nat_lit 177,nat_lit 178,nat_lit 179,nat_lit 180,nat_lit 181,nat_lit 182] (fun _=>by kernel_rfl)
noncomputable def dX:DefRec:=⟨Str.ofString "law",EO (top 50),C1 (top 50),AO (top 50),⟨188,0,206,82⟩⟩
def cq:Bp.wellSaid=true:=(congrFun PySem.W.Fast.te9446332074065402090 _).trans (by kernel_rfl)
def eU(w:World)(os:OsState):topGo treeTable CU w 11 Opn.GS 12 ⟨boot_heap w.params,#[],boot_drawn,boot_toks,os⟩ (topStub CU)=some (Opn.sA w os,⟨denote treeTable (Opn.cB CU),Opn.cB CU,Opn.q0,Opn.bB⟩):=by kernel_rfl
def eE(w:World)(os:OsState):segRun treeTable CU w 11 Opn.GS 1 1 (Opn.sA w os) (blockOf (behindTheImports CU) (Opn.Li CU) (Opn.cB CU) Opn.q0 Opn.bB)=some (.next,(Opn.sB w os).abs,Opn.cB CU,Opn.q0):=by kernel_rfl
def eP(w:World)(s:SD):topRun treeTable CU w 11 Opn.GS 2 s (restOf [] (Opn.Li CU) (Opn.cB CU) ⟨188,0,206,82⟩ Opn.bB)=some s:=by kernel_rfl
def eY(w:World)(os:OsState):Opn.Ob CU 2340 w os=some (.next,Opn.Pk CU 2340 w os,Opn.cB CU,⟨188,0,206,82⟩):=WL (p:=fun w=>Opn.Ob CU 2340 w os=some (.next,Opn.Pk CU 2340 w os,Opn.cB CU,⟨188,0,206,82⟩)) (fun b w=>by cases b<;>kernel_rfl) w
noncomputable abbrev sX(w:World)(os:OsState):SD:=(Opn.Pk CU 2340 w os).abs
def fP(w:World)(os:OsState):(staticsOk (importedModules CU.main.body) (boot_heap w.params) (sX w os).heap&&namesBound CU (sX w os).heap&&gensDone (sX w os)&&laidKept (boot_heap w.params) (sX w os).heap)=true:=WL (p:=fun w=>(staticsOk (importedModules CU.main.body) (boot_heap w.params) (sX w os).heap&&namesBound CU (sX w os).heap&&gensDone (sX w os)&&laidKept (boot_heap w.params) (sX w os).heap)=true) (fun b w=>by cases b<;>kernel_rfl) w
def cG(w:World)(os:OsState):hX.obs (sX w os)=hX.val w:=WL (p:=fun w=>hX.obs (sX w os)=hX.val w) (fun b w=>by cases b<;>kernel_rfl) w
noncomputable abbrev WQ:SD→Bool:=fun s=>xlAt qX [] s&&recOk (RowW.records Bp.row.toRowW) s
def cg(w:World)(os:OsState):openSeen qX ["NAMED_TABLES"] (importedModules CU.main.body) WQ true (sX w os)=openGood qX ["NAMED_TABLES"]:=WL (p:=fun w=>openSeen qX ["NAMED_TABLES"] (importedModules CU.main.body) WQ true (sX w os)=openGood qX ["NAMED_TABLES"]) (fun b w=>by cases b<;>kernel_rfl) w
def cI(w:World):(fencedOpening treeTable CU w 4804).map (fun s=>(s.heap,s.gens,s.drawn,s.toks))=some (boot_heap w.params,#[],boot_drawn,boot_toks):=boot_open (p:=CU) (N:=4804) (by kernel_rfl) (by kernel_rfl) (fun _=>by kernel_rfl) w
def b6:LeftO CU qX ["NAMED_TABLES"] WQ hX.obs hX.val 4804:=Opn.W7 (M:=2355) (S:=sX) cI Opn.cj (fun w os=>Opn.ZO (eU w os) (eE w os) (eY w os) (eP w) (by kernel_rfl)) (by kernel_rfl) fP cg cG
def eM:defOf qX Bp.row.name=some (dX,[]):=by kernel_rfl
def eZ:CU.theDef Bp.row.name=some (dX.params,dX.body,dX.scope):=by kernel_rfl
def fD:kwWritten? dX.params.kwonlyargs dX.params.kw_defaults=some []:=by kernel_rfl
def dh:(chainsOk qX&&opensWell Bp.row.prog&&(frees Bp.row.toRowW&&Bp.row.within.isEmpty))=true:=by kernel_rfl
def cY:CU.bare:=⟨rfl,rfl,rfl,rfl,rfl,by decide +kernel⟩
def openX(hw:Bp.row.toRowW.promised)(hc:WalkO qX ["NAMED_TABLES"] (XL qX []) hX.says Bp.row.toRowW dX [] (fun f vs=>PySem.call f vs)):Bp.Holds :=
 holds_law cq fun said=>holds_open (r:=Bp.row) (q:=qX) (loose:=["NAMED_TABLES"]) (Xt:=WQ) (XP:=XL qX []) (Yf:=hX.obs) (Ya:=hX.val) (YP:=hX.says) (d:=dX) (kwd:=[]) (N:=4804) b6 hX.of hX.keeps (fun s e=>xl_of s (Bool.and_eq_true_iff.mp e).1) XL.keeps eM eZ fD (fun s e=>recFacts_of (Bool.and_eq_true_iff.mp e).2) rfl said dh cY hw hc
end
section
open PySem.W
def fnX{w:World}{mg:Str→Option VL}{h:Heap}(X:(kH w.params).In h)(G:h.Ns mainGlobals mg)(n:String)(i:Nat)(m:String)(t c f:Nat)(ps:List Str)
 (ha:nsIn (kH w.params) mainGlobals (Str.ofString n)=some (some (.ref f)):=by kernel_rfl)(hl:(kH w.params).lookup f=some (fO n i m t c):=by kernel_rfl)(hc:codeIn (kH w.params) (.ref c) (Str.ofString n)=true:=by kernel_rfl)(hk:keepIn (kH w.params) (.ref f)=true:=by kernel_rfl)
 (hb:∀(kV doc pm:VL) (an:Option AD) (cdv ct:VL) (us:List VL),us.length=ps.length→bindArgs (fnOf (Str.ofString n) (Str.ofString n) (EO (top i)) (C1 (top i)) (AO (top i)) .none kV doc pm an cdv ct) ⟨us,[]⟩=pure (ps.zip us):=by first|(exact fun _ _ _ _ _ _ us hl=>match us,hl with|[_],_=>rfl)|(exact fun _ _ _ _ _ _ us hl=>match us,hl with|[_,_],_=>rfl)|(exact fun _ _ _ _ _ _ us hl=>match us,hl with|[_,_,_],_=>rfl)|(exact fun _ _ _ _ _ _ us hl=>match us,hl with|[_,_,_,_],_=>rfl)|(exact fun _ _ _ _ _ _ us hl=>match us,hl with|[_,_,_,_,_],_=>rfl)|(exact fun _ _ _ _ _ _ us hl=>match us,hl with|[],_=>rfl)) :
  Fn (kH w.params) mg (Str.ofString n) (top i) ps f (fnOf (Str.ofString n) (Str.ofString n) (EO (top i)) (C1 (top i)) (AO (top i)) .none .none .none (.str (Str.ofString m) t) none (.ref c) .none) :=
 ⟨Uq hl hc hk,(Uq (st:=top i) hl hc hk).binds hb,mg_of X G ha⟩
set_option maxHeartbeats 4000000 in
def eB(w:World)(mg:Str→Option VL)(fa:AD)(h:Heap)(X:(kH w.params).In h)(G:h.Ns mainGlobals mg)(hfa:mg "law" = some (.ref fa)) :
  ∃fd:FuncData,(∀(s:SD) (v:VL),BindsTo s fd ⟨[v],[]⟩ [("_law_script",v)])∧∀base:Heap,(kH w.params).In base→base.Ns mainGlobals mg→AL Bp.prog w (kH w.params) mg base Ah 23 fa fd ["_law_script"] (Rt (kH w.params)):=by
 have e:=hfa.symm.trans (mg_of X G (v:=.ref 331) (by kernel_rfl));cases e;have CC:=fnX X G "fraction_of" 7 "stepgrove.fracs" 271 81 82 ["top", "bottom"];have FN:=fnX X G "frac_times" 8 "stepgrove.fracs" 271 88 89 ["one", "other"];have Ee:=fnX X G "is_fraction" 9 "stepgrove.fracs" 271 95 96 ["thing"];have Bo:=fnX X G "are_fractions" 10 "stepgrove.fracs" 271 102 103 ["thing"];have FK:=fnX X G "is_whole" 11 "stepgrove.fracs" 271 109 110 ["thing"];have A5:=fnX X G "greatest_divisor" 12 "stepgrove.fracs" 271 116 117 ["one", "other"];have Dr:=fnX X G "common_bottom" 13 "stepgrove.fracs" 271 123 124 ["bottoms"];have Gd:=fnX X G "power_of" 14 "stepgrove.fracs" 271 130 131 ["base", "power"];have Gj:=fnX X G "is_table" 18 "stepgrove.tables" 343 188 189 ["thing"];have FQ:=fnX X G "table_of" 19 "stepgrove.tables" 343 193 194 ["name"];have A1:=fnX X G "refuse_no_table" 20 "stepgrove.tables" 343 200 201 ["thing"];have Gg:=fnX X G "are_rows" 21 "stepgrove.tables" 343 207 208 ["thing"];have Ge:=fnX X G "trees_of" 24 "stepgrove.trees" 433 214 215 ["many"];have Bg:=fnX X G "in_falling_order" 25 "stepgrove.trees" 433 221 222 ["boughs"];have Ak:=fnX X G "knots_within" 26 "stepgrove.trees" 433 226 227 ["tree"];have BR:=fnX X G "density_within" 27 "stepgrove.trees" 433 233 234 ["tree"];have BH:=fnX X G "trees_one_larger" 28 "stepgrove.trees" 433 240 241 ["tree"];have Fw:=fnX X G "tops_over" 30 "stepgrove.wholes" 481 245 246 ["some", "bottom"];have EK:=fnX X G "table_bottom" 31 "stepgrove.wholes" 481 250 251 ["table"];have EH:=fnX X G "true_weights" 33 "stepgrove.weights" 495 255 256 ["trees"];have Di:=fnX X G "weights_under" 34 "stepgrove.weights" 495 260 261 ["table", "trees"];have Cc:=fnX X G "readings" 35 "stepgrove.weights" 495 265 266 ["rows", "tree", "known"];have GF:=fnX X G "read_by" 36 "stepgrove.weights" 495 270 271 ["row", "shares"];have DR:=fnX X G "table_order" 39 "stepgrove.orders" 521 277 278 ["table"];have ER:=fnX X G "first_unlike" 40 "stepgrove.orders" 521 284 285 ["trees", "one", "other"];have EG:=fnX X G "table_behind" 42 "stepgrove.joins" 547 289 290 ["one", "other"];have EF:=fnX X G "table_shrunk" 43 "stepgrove.joins" 547 294 295 ["table", "part"];have Bw:=fnX X G "refuse_too_many_rows" 44 "stepgrove.joins" 547 299 300 ["tables"];have HN:=fnX X G "scaled" 45 "stepgrove.joins" 547 304 305 ["row", "part"];have Fx:=fnX X G "_law_cell" 47 "law_stepgrove_k52_whole_orders_of_named_rule" 573 311 312 ["_law_script", "_law_k"];have Ea:=fnX X G "_law_frac" 48 "law_stepgrove_k52_whole_orders_of_named_rule" 573 318 319 ["_law_top", "_law_bottom"];have Bm:=fnX X G "_law_knots" 49 "law_stepgrove_k52_whole_orders_of_named_rule" 573 323 324 ["_law_tree"];have cJ:=fnX X G "law" 50 "law_stepgrove_k52_whole_orders_of_named_rule" 573 330 331 ["_law_script"];have Bl:mg "len" = none:=mg_none_of X G (by kernel_rfl);have EN:mg "range" = none:=mg_none_of X G (by kernel_rfl);have Hh:mg "abs" = none:=mg_none_of X G (by kernel_rfl);have A3:mg "isinstance" = none:=mg_none_of X G (by kernel_rfl)
 have SO:mg "int" = none:=mg_none_of X G (by kernel_rfl);have Pt:mg "bool" = none:=mg_none_of X G (by kernel_rfl);have EU:mg "tuple" = none:=mg_none_of X G (by kernel_rfl);have C2:mg "list" = none:=mg_none_of X G (by kernel_rfl);have Cg:mg "enumerate" = none:=mg_none_of X G (by kernel_rfl);have CV:mg "sum" = none:=mg_none_of X G (by kernel_rfl);have Fz:mg "zip" = none:=mg_none_of X G (by kernel_rfl);have Ej:mg "sorted" = none:=mg_none_of X G (by kernel_rfl);have Si:mg "set" = none:=mg_none_of X G (by kernel_rfl);have fB:mg "dict" = none:=mg_none_of X G (by kernel_rfl);have a_NT:nsIn (kH w.params) mainGlobals "NAMED_TABLES" = some (some (.ref 132)):=by kernel_rfl
 have a_MR:nsIn (kH w.params) mainGlobals "MOST_ROWS" = some (some (.int 40 345)):=by kernel_rfl
 have a_MK:nsIn (kH w.params) mainGlobals "MOST_KNOTS" = some (some (.int 7 435)):=by kernel_rfl
 have a_MO:nsIn (kH w.params) mainGlobals "MOST_ORDER" = some (some (.int 6 523)):=by kernel_rfl
 have hK:N5 (kH w.params)=true:=by kernel_rfl
 refine⟨fnOf (Str.ofString "law") (Str.ofString "law") (EO (top 50)) (C1 (top 50)) (AO (top 50)) .none .none .none (.str (Str.ofString "law_stepgrove_k52_whole_orders_of_named_rule") 573) none (.ref 330) .none,fun s v=>.of_eq rfl,fun base _ _=>?_⟩;have DY:=PySem.W.mg_of X G a_MR;have G6:=PySem.W.mg_of X G a_MK;have E1:=PySem.W.mg_of X G a_MO;have VQ:=Jq (P:=Bp.prog) (w:=w) (base:=base) A5 Hh;have Yj:=M4 CC A5 VQ;have dm:=Ky Dr A5 VQ;have eJ:=MW EK Dr dm;have eN:=PU (P:=Bp.prog) (w:=w) (base:=base) Fw;have dq:=QN (P:=Bp.prog) (w:=w) (base:=base) Gd;have eX:=SR (P:=Bp.prog) (w:=w) (base:=base) GF CV Fz;have d9:=LF dU Cc GF eX Bl Fz 8;have df:=cK (Hn (P:=Bp.prog) (w:=w) (base:=base) Ak CV 8);have eG:=Lm dU Di EK Fw Cc Gd Ak CC (eJ.mono) (eN.mono) (d9.mono) (dq.mono) (df.mono) (Yj.mono);have FJ:=eW eG;have dk:=QF (P:=Bp.prog) (w:=w) (base:=base) FK A3 SO Pt;have Yb:=Mu Ee FK A5 dk VQ A3 EU Bl;have Zt:=LR Bo Ee Yb A3 C2;have eh:=QP Gg Bo Zt DY A3 C2 Bl Cg;have eR:=QE Gj Gg Bo eh (Zt.mono) A3 EU Bl;have JM:=fL (q:=Ed) eR (fun l d v H Q E hd hq=>⟨l,d,v,rfl,hd,hq⟩);have A8:=J4 (P:=Bp.prog) (w:=w) (base:=base) (k:=5) A1 Gj (JM.mono);have Cn:=HW (P:=Bp.prog) (w:=w) (base:=base) (k:=0) Bw Bl CV DY;have Fm:=Lv (P:=Bp.prog) (w:=w) (base:=base) (k:=6) EG A1 (A8.mono) Bw (Cn.mono) C2;have BC:=Ht (P:=Bp.prog) (w:=w) (base:=base) (k:=0) Ak CV 9;have CT:=GZ (P:=Bp.prog) (w:=w) (base:=base) (k:=10) BR Ak (BC.mono) 9;have BS:=Jo (P:=Bp.prog) (w:=w) (base:=base) (k:=0) Bg Ej EU;have B4:=FX (P:=Bp.prog) (w:=w) (base:=base) (k:=1) BH Bg (BS.mono) Cg 9;have JO:=QL (P:=Bp.prog) (w:=w) (base:=base) (k:=11) Ge BH (B4.mono) EN Si Ej G6;have Fj:=MB (P:=Bp.prog) (w:=w) (base:=base) (k:=20) EH BR (CT.mono);have Fo:=Ly (P:=Bp.prog) (w:=w) (base:=base) (k:=0) ER Fz;have Ef:=M5 (P:=Bp.prog) (w:=w) (base:=base) (k:=21) DR ER (Fo.mono) A1 (A8.mono) Ge (JO.mono) EH (Fj.mono) Di (FJ.mono) EN E1;have EA:=PySem.W.mg_of X G a_NT;have DP:=Zn Yj;have G5:=Nz (P:=Bp.prog) (w:=w) (base:=base) (k:=2) FN CC (DP.mono);have JS:=Sv (P:=Bp.prog) (w:=w) (base:=base) (k:=3) HN FN (G5.mono);have Fb:=MZ (P:=Bp.prog) (w:=w) (base:=base) (k:=8) EF A1 (A8.mono) HN (JS.mono);have Gn:=QG (P:=Bp.prog) (w:=w) (base:=base) (k:=0) FQ C2 EA;have ed:=Px (P:=Bp.prog) (w:=w) (base:=base) Ea Hh;have Fy:=Zn ed;have IK:=O3 (P:=Bp.prog) (w:=w) (base:=base) (k:=0) Fx Bl;have Cz:=Jd (P:=Bp.prog) (w:=w) (base:=base) (k:=0) Bm CV 9;have cE:=ZG (P:=Bp.prog) (w:=w) (base:=base) (k:=22) cJ Fx (IK.mono) Ea (Fy.mono) Bm (Cz.mono) EG (Fm.mono) FQ (Gn.mono) DR (Ef.mono) EF (Fb.mono) EN;exact YG hK cE
def walkX:WalkO qX ["NAMED_TABLES"] (XL qX []) hX.says Bp.row.toRowW dX [] (fun f vs=>PySem.call f vs) :=
 L2.Vp (l:=Bp) (n:=63) (k:=23) (x := "_law_script") (CX:=fun _=>Ah) (K:=kH) (Kt:=kT) (da:=132) (od:=YZ) (tv:=YD) (sp:=fun w=>Rt (kH w.params)) rfl (by decide) rfl ⟨rfl,by decide,by decide⟩ (fun w h Y=>kIn_of Y) eS (by decide) (fun P=>⟨by kernel_rfl,by kernel_rfl⟩) (fun w mg h X G=>mg_of X G (v:=.ref 132) (by kernel_rfl)) eB (fun _ _ a ns hl hS=>⟨a,ns,rfl,hS,hl,fun _=>rfl⟩) fun _ _ _ _ _ z=>z
end
end Q52
open PySem PySem.W PyProof.Rows
set_option maxRecDepth 100000 in
theorem PySem.Challenge.cw_stepgrove_k52_whole_orders_of_named_rule_holds : PySem.Challenge.rw_stepgrove_k52_whole_orders_of_named_rule.Holds := by
  refine Q52.openX ?hw Q52.walkX
  w_witness2
#print axioms PySem.Challenge.cw_stepgrove_k52_whole_orders_of_named_rule_holds
