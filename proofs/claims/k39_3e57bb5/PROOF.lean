import PyProof.Rows.All
import Wide.All
import OpenK.AllK
import Wide.FinOn
import Lean
import PyProof.EqAt
import PyProof.EqKinds
import PyProof.TupleCall
import PySem.Challenge.RW_stepgrove_k39_tree_weights
set_option Elab.async false
set_option linter.all false
set_option maxRecDepth 100000
abbrev MD:=List PySem.PyData→Option PySem.PyData
abbrev Fg:=PySem.W.Frag
abbrev Wb:=@PySem.wpAny_bind
abbrev PD:=PySem.PyData
abbrev SD:=PySem.Shared
abbrev VL:=PySem.Value
abbrev AD:=PySem.Addr
abbrev aA:=@PySem.wpAny_pure
abbrev aB:=@Option.bind_eq_some_iff
abbrev aC:=@PySem.Heap.get?_push_of_some
abbrev aD:=@List.getElem?_eq_some_iff
abbrev aE:=@Nat.le_refl
abbrev aF:=@PySem.Heap.lt_size
abbrev aG:=@List.getElem?_eq_getElem
abbrev aH:=@Nat.lt_of_lt_of_le
abbrev aI:=@Bool.false_ne_true
abbrev aJ:=@Option.map_eq_some_iff
abbrev aK:=@Nat.ne_of_lt
abbrev aL:=@List.mem_cons
abbrev aM:=@Nat.le_trans
abbrev aN:=@PySem.Heap.get?_push_size
abbrev aO:=@List.mem_of_getElem?
abbrev aP:=@List.mem_cons_of_mem
abbrev aQ:=@PySem.PassesOwn.never
abbrev aR:=@List.mem_cons_self
abbrev aS:=@List.mem_append_right
abbrev aT:=@Nat.not_lt_zero
abbrev aU:=@PySem.boot_len
abbrev aV:=@PySem.wpAny_holding
abbrev aW:=@Nat.pow_le_pow_right
abbrev aX:=@PySem.wpAny_call_entry
abbrev aY:=@Nat.lt_of_le_of_lt
abbrev aZ:=@Bool.eq_false_iff
abbrev aa:=@of_decide_eq_true
abbrev ae:=@List.mem_map
abbrev af:=@PySem.Heap.SameBut.update
abbrev ag:=@Option.some.inj
abbrev ah:=@PyProof.Rows.boot_isinstance
abbrev ai:=@PySem.wpAny_mono
abbrev aj:=@PySem.wpAny_callSpecial?_slot
abbrev ak:=@PySem.wpAny_newObj_type
abbrev ao:=@List.all_eq_true
abbrev aq:=@PySem.wpAny_setState_of
abbrev ar:=@PySem.W.kia_one
abbrev au:=@PySem.wpAny_field
abbrev av:=@Nat.zero_le
abbrev aw:=@PyProof.Rows.callWith_type1
abbrev ax:=@of_decide_eq_false
abbrev ay:=@List.mem_range
abbrev az:=@PySem.wpAny_seqItems
abbrev bA:=@Nat.mul_le_mul_left
abbrev bC:=@decide_eq_false
abbrev bD:=@List.mem_append
abbrev bE:=@Nat.le_of_lt
abbrev bF:=@PySem.F.plainAttrs_list
abbrev bG:=@congrArg
abbrev bH:=@List.length_map
abbrev bI:=@List.map_congr_left
abbrev bJ:=@PyProof.Rows.KeyOrd.kle_refl
abbrev bK:=@PySem.F.slot_list_append
abbrev bL:=@PySem.F.type_list_append
abbrev bM:=@Nat.lt_succ_of_lt
abbrev bN:=@PyProof.Rows.boot_tuple
abbrev bO:=@Nat.lt_succ_self
abbrev bP:=@decide_eq_true
abbrev bQ:=@Nat.mul_le_mul
abbrev bR:=@PyProof.Rows.boot_list
namespace L2
open PySem PySem.Spec PyProof.Rows
abbrev Key:=Sum Int Str
def VW:Key→VL→Bool
 |.inl k,v=>Value.isInt k v
 |.inr x,v=>Value.isStrOf x v
def cA(w:World):Key→Int
 |.inl k=>hashInt k
 |.inr x=>hashStr w x
def Bq:∀ {k:Key} {v:VL},VW k v=true→(∃i t,k=Sum.inl i∧v=Value.int i t)∨(∃x t,k=Sum.inr x∧v=Value.str x t)
 |.inl i,v,h=>by
  obtain⟨t,e⟩:=Value.isInt_shape (k:=i) (v:=v) h;exact .inl ⟨i,t,rfl,e⟩
 |.inr x,v,h=>by
  obtain⟨t,e⟩:=Value.isStrOf_shape (x:=x) (v:=v) h;exact .inr ⟨x,t,rfl,e⟩
def Xx(a b:Int):decide ((Sum.inl a:Key)=Sum.inl b)=(a==b):=by
 by_cases e:a=b
 ·subst e;simp
 ·have h:¬(Sum.inl a:Key)=Sum.inl b:=fun q=>e (Sum.inl.inj q);rw [decide_eq_false h];exact(beq_eq_false_iff_ne.mpr e).symm
def Yw(a b:Str):decide ((Sum.inr a:Key)=Sum.inr b)=decide (a=b):=by
 by_cases e:a=b
 ·subst e;simp
 ·have h:¬(Sum.inr a:Key)=Sum.inr b:=fun q=>e (Sum.inr.inj q);rw [decide_eq_false h,decide_eq_false e]
def XD(a:Int)(b:Str):decide ((Sum.inl a:Key)=Sum.inr b)=false:=bC (fun q=>nomatch q)
def Wx(a:Str)(b:Int):decide ((Sum.inr a:Key)=Sum.inl b)=false:=bC (fun q=>nomatch q)
def Qi(prog:Program)(w:World):PySem.KeyKind prog w Key where
 is:=VW
 hash:=cA w
 inj:=fun v a b ha hb=>by
  rcases Bq ha with ⟨i,t,rfl,rfl⟩|⟨x,t,rfl,rfl⟩
  ·rcases Bq hb with ⟨j,u,rfl,e⟩|⟨y,u,rfl,e⟩
   ·injection e with e1 _;rw [e1]
   ·exact nomatch e
  ·rcases Bq hb with ⟨j,u,rfl,e⟩|⟨y,u,rfl,e⟩
   ·exact nomatch e
   ·injection e with e1 _;rw [e1]
 byValue:=fun k v h=>by
  rcases Bq h with ⟨i,t,rfl,rfl⟩|⟨x,t,rfl,rfl⟩<;>rfl
 pyHash:=fun hv h=>by
  rcases Bq hv with ⟨i,t,rfl,rfl⟩|⟨x,t,rfl,rfl⟩
  ·exact wpAny_pyHash_int h
  ·exact wpAny_pyHash_str h
 eqBool:=fun hu hv h=>by
  rcases Bq hu with ⟨i,t,rfl,rfl⟩|⟨x,t,rfl,rfl⟩
  ·rcases Bq hv with ⟨j,u,rfl,rfl⟩|⟨y,u,rfl,rfl⟩
   ·rw [Xx]at h;exact wpAny_eqBool_int h
   ·rw [XD]at h;exact SeqAt.EqAt.int_str i t y u _ _ _ _ h
  ·rcases Bq hv with ⟨j,u,rfl,rfl⟩|⟨y,u,rfl,rfl⟩
   ·rw [Wx]at h;exact SeqAt.EqAt.str_int x t j u _ _ _ _ h
   ·rw [Yw]at h;exact wpAny_eqBool_str h
 «strs»:=fun k x t v h=>by
  rcases Bq h with ⟨i,u,rfl,e⟩|⟨y,u,rfl,e⟩
  ·exact nomatch e
  ·injection e with e1 _
   subst e1;cases v<;>rfl
inductive V where
 |BG|bl (b:Bool)|int (i:Int)|str (x:Str)|Jn (b:Array UInt8)|D0 (b:UInt64)|ref (a:Addr)|ty (n:String)
 deriving DecidableEq
def RelV:V→VL→Prop
 |.BG,u=>u=Value.none
 |.bl b,u=>u=Value.bool b
 |.int i,u=>∃t,u=Value.int i t
 |.str x,u=>∃t,u=Value.str x t
 |.Jn b,u=>∃t,u=Value.bytes b t
 |.D0 b,u=>∃t,u=Value.float b t
 |.ref a,u=>u=Value.ref a
 |.ty n,u=>u=Value.type n
abbrev Vals:List V→List VL→Prop:=Paired RelV
def Vals.length{xs:List V}{us:List VL}(r:Vals xs us):xs.length=us.length:=Paired.length r
def Vals.get:∀ {xs:List V} {us:List VL} {i:Nat} {x:V},Vals xs us→xs[i]? = some x→∃u,us[i]? = some u∧RelV x u
 |_,_,_,_,.nil,e=>by simp at e
 |_,_,0,_,.cons r _,e=>by simp at e;subst e;exact⟨_,rfl,r⟩
 |_,_,i+1,x,.cons _ t,e=>by
  obtain⟨u,h1,h2⟩:=Vals.get (i:=i) (x:=x) t (by simpa using e);exact⟨u,by simpa using h1,h2⟩
def Vals.set{x:V}{u:VL}(r:RelV x u):∀ {xs:List V} {us:List VL} (i:Nat),Vals xs us→Vals (xs.set i x) (us.set i u)
 |_,_,_,.nil=>.nil
 |_,_,0,.cons _ t=>.cons r t
 |_,_,i+1,.cons q t=>.cons q (Vals.set r i t)
def Vals.append:∀ {xs ys:List V} {us ws:List VL},Vals xs us→Vals ys ws→Vals (xs++ys) (us++ws)
 |_,_,_,_,.nil,s=>s
 |_,_,_,_,.cons r t,s=>.cons r (Vals.append t s)
def Vals.take:∀ {xs:List V} {us:List VL} (n:Nat),Vals xs us→Vals (xs.take n) (us.take n)
 |_,_,0,_=>.nil
 |_,_,_+1,.nil=>.nil
 |_,_,n+1,.cons r t=>.cons r (Vals.take n t)
def Vals.drop:∀ {xs:List V} {us:List VL} (n:Nat),Vals xs us→Vals (xs.drop n) (us.drop n)
 |_,_,0,r=>r
 |_,_,_+1,.nil=>.nil
 |_,_,n+1,.cons _ t=>Vals.drop n t
def UB:Option V→Option VL→Prop
 |some v,some u=>RelV v u
 |none,none=>True
 |_,_=>False
def KV{κ:Type}:List (κ×V)→List (κ×VL)→Prop:=Paired fun(p:κ×V) (q:κ×VL)=>p.1=q.1∧RelV p.2 q.2
def kV:Key→V
 |.inl i=>.int i
 |.inr x=>.str x
inductive HO where
 |lst (xs:List V)
 |tup (xs:List V)
 |dK (kvs:List (Key×V))|dT (kvs:List (List Key×V))
 |set (S:Int→Bool) (n:Nat)
 |ins (C dx:Addr) (fs:List (Str×V))
 |own (x:Addr)
 |xd (fs:List (Str×V))
 |met (f x:Addr)
 |Yq (lo hi:Int)
 |Gx (o:Obj) (u:HO)
 |OG (ps:Array Value)
 |ext (φ:Heap→Prop)
abbrev Hp:=AD→Option HO
def upd(H:Hp)(a:AD)(o:HO):Hp:=fun b=>if b=a then some o else H b
def AJ{H:Hp}{a:AD}{o:HO}:upd H a o a=some o:=by unfold upd;rw [if_pos rfl]
def AG{H:Hp}{a b:AD}{o:HO}(h:b≠a):upd H a o b=H b:=by unfold upd;rw [if_neg h]
def RK{H:Hp}{a b:AD}{o u:HO}(h:H a=some o)(h':H b=some u)(d:o≠u):a≠b:=by
 intro e;subst e;rw [h]at h';exact d (ag h')
def AO{H:Hp}{a b:AD}{o:HO}(h:H a=some o)(h':H b=none):a≠b:=by
 intro e;subst e;rw [h]at h';cases h'
section
variable(P:Program)(w:World)
def Bl(H:Hp)(h:Heap)(a:AD):HO→Prop
 |.lst xs=>xs.length≤sizeLine∧∃(its:List VL) (n:Nat),Vals xs its∧h.get? a=some { cls:=.type "list",data:=.seq its.toArray n }
 |.tup xs=>xs.length≤sizeLine∧∃its:List VL,Vals xs its∧IsTup h a its.toArray
 |.dK kvs=>kvs.length≤sizeLine∧(a==sysModules)=false∧∃vs,KV kvs vs∧h.DictOf (Qi P w) a vs
 |.dT kvs=>kvs.length≤sizeLine∧(a==sysModules)=false∧∃xs:List (List Key×AD×VL),
   Paired (fun(p:List Key×V) (q:List Key×AD×VL)=>p.1=q.1∧H q.2.1=some (.tup (p.1.map kV))∧RelV p.2 q.2.2) kvs xs ∧
   ∃o es ep,h.get? a=some o∧o.ExactDict∧o.data=.dict es ep∧es.toList=xs.map (entryOfKey (tupleKind (Qi P w)))∧(xs.map (·.1)).Nodup
 |.set S n=>h.SetOf (intKind P w) a S n
 |.ins C dx fs=>H dx=some (.own a)∧fs.length≤1000∧dx≠a∧h.get? a=some (PySem.W.instObj C dx) ∧
   ∃mA,h.Ns1 dx mA∧(∀f,UB (fs.lookup f) (mA f))∧PySem.Within mA (fs.map (·.1))
 |.own _=>∃o,h.get? a=some o
 |.xd fs=>∃mA,h.Ns1 a mA∧∀f,UB (fs.lookup f) (mA f)
 |.Yq lo hi=>∃t u v,h.get? a=some { cls:=.type "range",data:=.fields #[.int lo t,.int hi u,.int 1 v] }
 |.Gx o u=>h.get? a=some o∧Bl H h a u
 |.OG ps=>h.get? a=some { cls:=.none,data:=.fields ps }
 |.met f x=>h.get? a=some (PySem.W.methodObj (.ref f) (.ref x))
 |.ext φ=>φ h∧(∃o,h.get? a=some o)∧∀h1 h2:Heap,φ h1→(∀o,h1.get? a=some o→h2.get? a=some o)→φ h2
def C1(H:Hp)(h:Heap):Prop:=∀a o,H a=some o→Bl P w H h a o
end
section
variable{P:Program}{w:World}{H H':Hp}{h h':Heap}{a:AD}{o:HO}
def Bl.lt(x:Bl P w H h a o):a<h.objs.size:=by
 cases o with
 |lst xs=>obtain⟨_,_,_,_,e⟩:=x;exact aF e
 |tup xs=>obtain⟨_,_,_,p⟩:=x;exact p.lt
 |dK kvs=>obtain⟨_,_,_,_,o,_,_,e,_⟩:=x;exact aF e
 |dT kvs=>obtain⟨_,_,_,_,o,_,_,e,_⟩:=x;exact aF e
 |set S n=>obtain⟨o,_,_,_,e,_⟩:=x;exact aF e
 |ins C dx fs=>obtain⟨_,_,_,e,_⟩:=x;exact aF e
 |own y=>obtain⟨_,e⟩:=x;exact aF e
 |xd fs=>obtain⟨_,⟨_,_,_,e,_⟩,_⟩:=x;exact aF e
 |Yq lo hi=>obtain⟨_,_,_,e⟩:=x;exact aF e
 |Gx ob u=>obtain⟨e,_⟩:=x;exact aF e
 |OG ps=>exact aF (show h.get? a=some _ from x)
 |met f y=>exact aF (show h.get? a=some _ from x)
 |ext φ=>obtain⟨_,⟨_,e⟩,_⟩:=x;exact aF e
def Paired.XF{α β:Type}{F G:α→β→Prop}:∀ {l₁:List α} {l₂:List β},Paired F l₁ l₂→(∀a b,F a b→G a b)→Paired G l₁ l₂
 |_,_,.nil,_=>.nil
 |_,_,.cons r t,f=>.cons (f _ _ r) (Paired.XF t f)
def Bl.HK(x:Bl P w H h a o)(k:∀b u,(b=a∨H b=some (.own a))→h.get? b=some u→h'.get? b=some u)
 (ho:∀b,H b=some (.own a)→H' b=some (.own a))(ht:∀b xs,H b=some (.tup xs)→H' b=some (.tup xs)):Bl P w H' h' a o:=by
 induction o with
 |lst xs=>obtain⟨z,its,n,r,e⟩:=x;exact⟨z,its,n,r,k _ _ (.inl rfl) e⟩
 |tup xs=>obtain⟨z,its,r,ob,e,c⟩:=x;exact⟨z,its,r,ob,k _ _ (.inl rfl) e,c⟩
 |dK kvs=>obtain⟨z,y,vs,r,ob,es,ep,e,c⟩:=x;exact⟨z,y,vs,r,ob,es,ep,k _ _ (.inl rfl) e,c⟩
 |dT kvs =>
  obtain⟨z,y,xs,r,ob,es,ep,e,c⟩:=x;exact⟨z,y,xs,Paired.XF r fun p q z=>⟨z.1,ht _ _ z.2.1,z.2.2⟩,ob,es,ep,k _ _ (.inl rfl) e,c⟩
 |set S n=>obtain⟨ob,es,ep,t,e,c⟩:=x;exact⟨ob,es,ep,t,k _ _ (.inl rfl) e,c⟩
 |ins C dx fs =>
  obtain⟨d,z,ne,e,mA,⟨od,es,ep,e2,c⟩,r⟩:=x;exact⟨ho _ d,z,ne,k _ _ (.inl rfl) e,mA,⟨od,es,ep,k _ _ (.inr d) e2,c⟩,r⟩
 |own y=>obtain⟨ob,e⟩:=x;exact⟨ob,k _ _ (.inl rfl) e⟩
 |xd fs=>obtain⟨mA,⟨od,es,ep,e,c⟩,r⟩:=x;exact⟨mA,⟨od,es,ep,k _ _ (.inl rfl) e,c⟩,r⟩
 |Yq lo hi=>obtain⟨t,u,v,e⟩:=x;exact⟨t,u,v,k _ _ (.inl rfl) e⟩
 |Gx ob u ih=>obtain⟨e,q⟩:=x;exact⟨k _ _ (.inl rfl) e,ih q⟩
 |OG ps =>
  have e:h.get? a=some { cls:=.none,data:=.fields ps }:=x;show h'.get? a=some { cls:=.none,data:=.fields ps };exact k a _ (.inl rfl) e
 |met f y =>
  have e:h.get? a=some (PySem.W.methodObj (.ref f) (.ref y)):=x;show h'.get? a=some (PySem.W.methodObj (.ref f) (.ref y));exact k a _ (.inl rfl) e
 |ext φ=>obtain⟨p,⟨o,e⟩,st⟩:=x;exact⟨st _ _ p fun o q=>k _ _ (.inl rfl) q,⟨o,k _ _ (.inl rfl) e⟩,st⟩
def C1.lt(x:C1 P w H h)(e:H a=some o):a<h.objs.size:=(x a o e).lt
def C1.fresh(x:C1 P w H h)(e:h.objs.size≤a):H a=none:=by
 cases q:H a with
 |none=>rfl
 |some u=>exact absurd (aH (x.lt q) e) (Nat.lt_irrefl _)
def C1.kept(x:C1 P w H h)(k:∀b u,h.get? b=some u→h'.get? b=some u):C1 P w H h':=fun a o e =>
 (x a o e).HK (fun b u _ q=>k b u q) (fun _ q=>q) fun _ _ q=>q
def C1.laid(x:C1 P w H h)(k:∀b u,h.get? b=some u→h'.get? b=some u)(hp:h.objs.size≤a)(new:Bl P w (upd H a o) h' a o):C1 P w (upd H a o) h':=fun b u e=>by
 have hn:=x.fresh hp;by_cases hb:b=a
 ·subst hb;rw [AJ]at e;cases e;exact new
 ·rw [AG hb]at e;exact(x b u e).HK (fun c v _ q=>k c v q) (fun c q=>by rw [AG (AO q hn)];exact q) fun c xs q=>by rw [AG (AO q hn)];exact q
end
def Rd(H:Hp)(a:AD)(u:HO):Prop:=H a=some u∨∃o,H a=some (.Gx o u)
def Rd.ok{P:Program}{w:World}{H:Hp}{h:Heap}{a:AD}{u:HO}(r:Rd H a u)(x:C1 P w H h):Bl P w H h a u:=by
 rcases r with r|⟨o,r⟩
 ·exact x a u r
 ·obtain⟨_,q⟩:=x a _ r;exact q
def Vg:Option HO→Prop
 |some (.lst _)=>True
 |some (.dK _)=>True
 |some (.dT _)=>True
 |some (.set _ _)=>True
 |some (.ins _ _ _)=>True
 |some (.ext _)=>True
 |_=>False
section
variable{P:Program}{w:World}{H:Hp}{h h':Heap}{x e:AD}{o':HO}
def C1.write(ok:C1 P w H h)(mu:Vg (H x))(he:e=x∨H e=some (.own x))(k:∀b u,b≠e→h.get? b=some u→h'.get? b=some u)(heo:∃u,h'.get? e=some u)
 (new:Bl P w (upd H x o') h' x o'):C1 P w (upd H x o') h':=fun b u q=>by
 have nown:∀c y,H c=some (.own y)→c≠x:=fun c y r z=>by subst z;rw [r]at mu;exact mu
 have OH:∀c xs,H c=some (.tup xs)→c≠x:=fun c xs r z=>by subst z;rw [r]at mu;exact mu
 by_cases hb:b=x
 ·subst hb;rw [AJ]at q;cases q;exact new
 ·rw [AG hb]at q;by_cases hbe:b=e
  ·have q':H b=some (.own x):=by
    rcases he with z|z
    ·exact absurd (hbe.trans z) hb
    ·rw [hbe];exact z
   rw [q]at q';cases q';obtain⟨v,hv⟩:=heo;exact⟨v,by rw [hbe];exact hv⟩
  ·refine(ok b u q).HK (fun c v hc r=>k c v ?_ r) (fun c r=>by rw [AG (nown c b r)];exact r) fun c xs r=>by rw [AG (OH c xs r)];exact r
   rcases hc with rfl|hc
   ·exact hbe
   ·rintro rfl;rcases he with z|z
    ·exact nown c b hc z
    ·rw [hc]at z;cases z;exact hb rfl
end
structure Un(fs ex:List Addr)(H H':Hp)(h h':Heap):Prop where
 keep:∀b o,h.get? b=some o→H b=none→b ∉ fs→b ∉ ex→h'.get? b=some o
 slot:∀b o,h.get? b=some o→H b=none→b∈fs→b ∉ ex→∃sl,h'.get? b=some { o with slots:=sl }
 free:∀b o,h.get? b=some o→H b=none→b ∉ ex→H' b=none
 there:∀b o,h.get? b=some o→b ∉ ex→∃o',h'.get? b=some o'
 Al:∀b xs,H b=some (.tup xs)→H' b=some (.tup xs)
 HR:∀b o u,H b=some (.Gx o u)→H' b=some (.Gx o u)
 IJ:∀b ps,H b=some (.OG ps)→∃more,H' b=some (.OG (ps++more))
section
variable{fs fs' ex ex':List AD}{H H1 H2:Hp}{h h1 h2 h':Heap}{a x e:AD}{o:HO}
def Un.any(u:Un fs ex H H1 h h1){b:AD}{ob:Obj}(q:h.get? b=some ob)(n:H b=none)(hx:b ∉ ex):∃sl,h1.get? b=some { ob with slots:=sl }:=by
 by_cases hb:b∈fs
 ·exact u.slot b ob q n hb hx
 ·exact⟨ob.slots,u.keep b ob q n hb hx⟩
def Un.kept(k:∀b u,h.get? b=some u→h'.get? b=some u):Un fs ex H H h h' :=
 ⟨fun b ob q _ _ _=>k b ob q,fun b ob q _ _ _=>⟨ob.slots,k b ob q⟩,fun _ _ _ n _=>n,fun b ob q _=>⟨ob,k b ob q⟩,fun _ _ q=>q,fun _ _ _ q=>q,fun _ ps q=>⟨#[],by rw [q];simp⟩⟩
def Un.refl:Un fs ex H H h h:=Un.kept fun _ _ q=>q
def Un.laid(k:∀b u,h.get? b=some u→h'.get? b=some u)(hp:h.objs.size≤a)(hn:H a=none):Un fs ex H (upd H a o) h h' where
 keep:=fun b u q _ _ _=>k b u q
 slot:=fun b u q _ _ _=>⟨u.slots,k b u q⟩
 free:=fun b u q n _=>by rw [AG (aK (aH (aF q) hp))];exact n
 there:=fun b u q _=>⟨u,k b u q⟩
 Al:=fun b xs q=>by rw [AG (AO q hn)];exact q
 HR:=fun b u xs q=>by rw [AG (AO q hn)];exact q
 IJ:=fun b ps q=>⟨#[],by rw [AG (AO q hn),q];simp⟩
def Un.write(mu:Vg (H x))(he:e=x∨H e=some (.own x))(k:∀b u,b≠e→h.get? b=some u→h'.get? b=some u)(heo:∃u,h'.get? e=some u):Un fs ex H (upd H x o) h h':=by
 have hx:∀b,H b=none→b≠x:=fun b n z=>by subst z;rw [n]at mu;exact mu
 have hb:∀b,H b=none→b≠e:=fun b n z=>by
  subst z;rcases he with r|r
  ·exact hx b n r
  ·rw [n]at r;cases r
 have hm:∀b u,H b=some u→¬Vg (some u)→b≠x:=fun b u q nm z=>by subst z;rw [q]at mu;exact nm mu
 refine⟨fun b u q n _ _=>k b u (hb b n) q,fun b u q n _ _=>⟨u.slots,k b u (hb b n) q⟩,fun b u q n _=>by rw [AG (hx b n)];exact n,fun b u q _=>?_,
  fun b xs q=>by rw [AG (hm b _ q fun z=>z)];exact q,fun b u xs q=>by rw [AG (hm b _ q fun z=>z)];exact q,fun b ps q=>⟨#[],by rw [AG (hm b _ q fun z=>z),q];simp⟩⟩
 by_cases hbe:b=e
 ·subst hbe;exact heo
 ·exact⟨u,k b u hbe q⟩
end
def EZ(h:Heap)(H:Hp):List AD:=(List.range h.objs.size).filter fun a=>(H a).isSome
def IK(h:Heap)(H:Hp):Heap:=PySem.W.hideAll h (EZ h H)
def Sd(h:Heap)(H:Hp):(IK h H).objs.size=h.objs.size:=PySem.W.hideAll_size _ _
def UA{h:Heap}{H:Hp}{b:AD}{o:Obj}(e:h.get? b=some o)(n:H b=none):(IK h H).get? b=some o :=
 PySem.W.hideAll_get _ e fun hm=>by
  have q:(H b).isSome=true:=(List.mem_filter.mp hm).2;rw [n]at q;simp at q
def WT{h:Heap}{H:Hp}{b:AD}{o:Obj}(e:(IK h H).get? b=some o):h.get? b=some o∧H b=none:=by
 have e':h.get? b=some o:=PySem.W.of_hideAll (EZ h H) e;refine⟨e',?_⟩;cases q:H b with
 |none=>rfl
 |some x =>
  have hm:b∈EZ h H:=List.mem_filter.mpr ⟨ay.mpr (aF e'),by simp [q]⟩;have z:(IK h H).get? b=none:=PySem.W.hideAll_none (EZ h H) hm;rw [z]at e;cases e
structure Mod(K:Fg)(mg:Str→Option Value)(base:Heap):Prop where
 Ym:K.In base
 glob:base.Ns mainGlobals mg
 blt:∃mb,base.Ns builtinsNs mb∧∀x:Str,x ≠ "__name__" → mb x=bootBuiltins x
 nolimit:base.NoLimit
structure Cx where
 prog:Program
 w:World
 K:Fg
 mg:Str→Option Value
 base:Heap
 A:Around
 N:List Str
 s₀:Shared
 H₀:Hp
 env:Env
 outer:List Env
 stack:List Env
 ex:List Addr
 fn:Str→Bool
 calm:Bool
 pn:List (Addr×Obj)
 xe:Value→Shared→Prop
def Il(l:List Env):List AD:=l.filterMap (·.frame)
abbrev Cx.fs(X:Cx):List AD:=Il X.outer
def Yt(sc:Scope)(x:Str):Prop:=sc.names.lookup x=some .local∨sc.names.lookup x=some .cell∨sc.names.lookup x=some .free
def Loc(sc:Scope)(x:Str):Prop:=sc.names.lookup x=some .local∨sc.names.lookup x=some .cell
def Look(env:Env)(h:Heap)(m:Str→Option VL)(x:Str)(u:VL):Prop :=
 (env.kindOf x=some .local∧m x=some u)∨((env.kindOf x=some .cell∨env.kindOf x=some .free)∧∃c,env.cells.lookup x=some c∧h.IsCell c (some u))
structure Cx.Ok(X:Cx):Prop where
 mod:Mod X.K X.mg X.base
 kind:X.env.scope.kind=.function
 glob:X.env.globals=mainGlobals
 blt:X.env.builtins=builtinsNs
 above:X.s₀.heap.objs.size≤X.env.locals
 inj:∀x y c,X.env.cells.lookup x=some c→X.env.cells.lookup y=some c→x=y
 has:∀x,(X.env.kindOf x=some .cell∨X.env.kindOf x=some .free)→∃c,X.env.cells.lookup x=some c
 Sa:∀x c,X.fn x=true→X.env.cells.lookup x=some c→X.s₀.heap.objs.size≤c
 hd:X.calm=true→X.A.handled=none
 frames:X.A.frames=some X.stack
 VR:X.stack=X.outer∨(X.stack=X.env::X.outer∧X.env.frame=some X.env.locals)
 a5:∀b∈X.ex,b≠X.env.locals∧∀x c,X.env.cells.lookup x=some c→c≠b
 bs:∀b o,X.base.get? b=some o→X.s₀.heap.get? b=some o∧X.H₀ b=none
 Mt:X.base.objs.size≤X.s₀.heap.objs.size
 O5:∀b o,X.base.get? b=some o→b ∉ X.ex
 O6:∀b∈X.ex,b ∉ X.fs
 Gj:X.s₀.heap.FunFrames X.base X.outer
 P7:∀b∈X.fs,X.H₀ b=none
structure Inv(X:Cx)(pins:List (Addr×Obj))(σ:List (Option V))(H:Hp)(s:Shared):Prop where
 ok:X.Ok
 os:s.os=X.s₀.os
 bare:AllBare s.gens
 base:Un X.fs X.ex X.H₀ H X.s₀.heap s.heap
 loc:∃m,s.heap.Ns X.env.locals m∧∀(i:Nat) (x:Str) (v:V),X.N[i]? = some x→σ[i]? = some (some v)→Yt X.env.scope x→∃u,RelV v u∧Look X.env s.heap m x u
 cell:∀x c,X.env.cells.lookup x=some c→∃v,s.heap.IsCell c v
 free:H X.env.locals=none
 FU:∀x c,X.env.cells.lookup x=some c→H c=none
 pin:∀p∈X.pn++pins,s.heap.get? p.1=some p.2∧H p.1=none∧p.1≠X.env.locals∧p.1 ∉ X.fs∧∀v,p.2.data≠.cell v
 Ah:C1 X.prog X.w H s.heap
 len:σ.length=X.N.length
section
variable{X:Cx}{pins:List (AD×Obj)}{σ:List (Option V)}{H H':Hp}{s:SD}{h':Heap}
def Cx.Ok.cj(ok:X.Ok){b:AD}{o:Obj}(e:X.base.get? b=some o):b ∉ X.fs:=fun hb=>by
 have:=(ok.Gj.mem hb).1;rw [e]at this;cases this
def Inv.bs(I:Inv X pins σ H s):∀b o,X.base.get? b=some o→s.heap.get? b=some o∧H b=none:=fun b o e =>
 ⟨I.base.keep b o (I.ok.bs b o e).1 (I.ok.bs b o e).2 (I.ok.cj e) (I.ok.O5 b o e),I.base.free b o (I.ok.bs b o e).1 (I.ok.bs b o e).2 (I.ok.O5 b o e)⟩
def Inv.bk(I:Inv X pins σ H s):∀b o,X.base.get? b=some o→s.heap.get? b=some o:=fun b o e=>(I.bs b o e).1
def Inv.mod(I:Inv X pins σ H s):Mod X.K X.mg X.base:=I.ok.mod
def Inv.Fj(I:Inv X pins σ H s):X.K.In s.heap:=I.ok.mod.Ym.keeps I.bk
def Inv.lt(I:Inv X pins σ H s):X.env.locals<s.heap.objs.size:=let⟨_,hn,_⟩:=I.loc;hn.lt
def Inv.sz(I:Inv X pins σ H s):X.s₀.heap.objs.size≤s.heap.objs.size:=aM I.ok.above (bE I.lt)
def Inv.bh(I:Inv X pins σ H s){a:AD}(h:s.heap.objs.size≤a):a ∉ X.fs:=fun hb=>by
 obtain⟨_,o,ho,_⟩:=I.ok.Gj.mem hb;exact absurd (aH (aF ho) (aM I.sz h)) (Nat.lt_irrefl _)
def Inv.Pc(I:Inv X pins σ H s):∀x c,X.env.cells.lookup x=some c→c≠X.env.locals:=fun x c e z=>by
 obtain⟨v,o,ho,hd⟩:=I.cell x c e;obtain⟨m,⟨o',es,ep,ho',hd',_⟩,_⟩:=I.loc;rw [z,ho']at ho;cases ho;rw [hd']at hd;cases hd
def Inv.Gj(I:Inv X pins σ H s):s.heap.FunFrames X.base X.outer:=by
 have all:∀(l:List Env),(∀b∈Il l,b∈X.fs)→X.s₀.heap.FunFrames X.base l→s.heap.FunFrames X.base l:=by
  intro l
  induction l with
  |nil=>intro _ _;trivial
  |cons env r ih =>
   intro hs hl;obtain⟨hk,⟨L,o,hf,hn,ho,hd⟩,hr⟩:=hl;have hL:L∈X.fs:=hs L (by unfold Il;rw [List.filterMap_cons,hf];exact aR);obtain⟨sl,e⟩:=I.base.slot L o ho (I.ok.P7 L hL) hL fun z=>I.ok.O6 L z hL;exact⟨hk,⟨L,_,hf,hn,e,hd⟩,ih (fun b hb=>hs b (by unfold Il;rw [List.filterMap_cons,hf];exact aP _ hb)) hr⟩
 exact all X.outer (fun _ hb=>hb) I.ok.Gj
def Inv.stack(I:Inv X pins σ H s):s.heap.FunFrames X.base X.stack:=by
 rcases I.ok.VR with e|⟨e,hf⟩
 ·rw [e];exact I.Gj
 ·rw [e];obtain⟨m,hn,_⟩:=I.loc;refine .cons (by rw [I.ok.kind];decide) hf hn ?_ I.Gj;exact Heap.get?_none_of_le (aM I.ok.Mt I.ok.above)
def Inv.N9(I:Inv X pins σ H s):∀b∈Il X.stack,b∈X.env.locals::X.fs:=fun b hb=>by
 rcases I.ok.VR with e|⟨e,hf⟩
 ·rw [e]at hb;exact aP _ hb
 ·rw [e]at hb;unfold Il at hb;rw [List.filterMap_cons,hf]at hb;exact hb
def Inv.QV(I:Inv X pins σ H s):∀b∈Il X.stack,H b=none:=fun b hb=>by
 rcases aL.mp (I.N9 b hb) with e|hb
 ·rw [e];exact I.free
 ·obtain⟨_,o,ho,_⟩:=I.ok.Gj.mem hb;exact I.base.free b o ho (I.ok.P7 b hb) fun z=>I.ok.O6 b z hb
def Inv.step{g':Array GenState}{t':Nat}{d':Drawn}{ch:List AD}(I:Inv X pins σ H s)
 (hch:∀b∈ch,(b∈X.ex∨X.s₀.heap.objs.size≤b)∧b≠X.env.locals∧(∀x c,X.env.cells.lookup x=some c→c≠b)∧∀p∈X.pn++pins,p.1≠b)
 (keep:∀b o,b≠X.env.locals→b ∉ X.fs→b ∉ ch→s.heap.get? b=some o→H b=none→h'.get? b=some o)
 (slot:∀b o,b≠X.env.locals→b∈X.fs→b ∉ ch→s.heap.get? b=some o→H b=none→∃sl,h'.get? b=some { o with slots:=sl })(free:∀b o,b ∉ ch→s.heap.get? b=some o→H b=none→H' b=none)
 (there:∀b o,b ∉ ch→s.heap.get? b=some o→∃o',h'.get? b=some o')
 (Al:∀b xs,H b=some (.tup xs)→H' b=some (.tup xs))(HR:∀b o u,H b=some (.Gx o u)→H' b=some (.Gx o u))(IJ:∀b ps,H b=some (.OG ps)→∃more,H' b=some (.OG (ps++more)))
 (ns:∀m,s.heap.Ns X.env.locals m→h'.Ns X.env.locals m)(Ah:C1 X.prog X.w H' h')(hg:AllBare g') :
  Inv X pins σ H' { s with heap:=h',gens:=g',drawn:=d',toks:=t' }:=by
 have neL:∀b o,X.s₀.heap.get? b=some o→b≠X.env.locals:=fun b o e=>aK (aH (aF e) I.ok.above);have neC:∀b o,X.s₀.heap.get? b=some o→b ∉ X.ex→b ∉ ch:=fun b o e hx hb=>by
  rcases(hch b hb).1 with z|z
  ·exact hx z
  ·exact absurd (aH (aF e) z) (Nat.lt_irrefl _)
 have cellK:∀x c,X.env.cells.lookup x=some c→∀v,s.heap.IsCell c v→h'.IsCell c v:=fun x c e v ⟨o,ho,hd⟩=>by
  have nch:c ∉ ch:=fun z=>(hch c z).2.2.1 x c e rfl;by_cases hc:c∈X.fs
  ·obtain⟨sl,q⟩:=slot c o (I.Pc x c e) hc nch ho (I.FU x c e);exact⟨_,q,hd⟩
  ·exact⟨o,keep c o (I.Pc x c e) hc nch ho (I.FU x c e),hd⟩
 refine⟨I.ok,I.os,hg,⟨fun b o e n hb hx=>?_,fun b o e n hb hx=>?_,fun b o e n hx=>?_,fun b o e hx=>?_,fun b xs e=>Al b xs (I.base.Al b xs e),fun b o xs e=>HR b o xs (I.base.HR b o xs e),fun b ps e=>?_⟩,?_,fun x c e=>?_,?_,fun x c e=>?_,fun p hp=>?_,Ah,I.len⟩
 ·exact keep b o (neL b o e) hb (neC b o e hx) (I.base.keep b o e n hb hx) (I.base.free b o e n hx)
 ·obtain⟨sl,e1⟩:=I.base.slot b o e n hb hx;obtain⟨sl',e2⟩:=slot b _ (neL b o e) hb (neC b o e hx) e1 (I.base.free b o e n hx);exact⟨sl',e2⟩
 ·obtain⟨o',e1⟩:=I.base.there b o e hx;exact free b o' (neC b o e hx) e1 (I.base.free b o e n hx)
 ·obtain⟨o',e1⟩:=I.base.there b o e hx;exact there b o' (neC b o e hx) e1
 ·obtain⟨m1,e1⟩:=I.base.IJ b ps e;obtain⟨m2,e2⟩:=IJ b _ e1;exact⟨m1++m2,by rw [e2,Array.append_assoc]⟩
 ·obtain⟨m,hn,hl⟩:=I.loc;refine⟨m,ns m hn,fun i x v e1 e2 e3=>?_⟩;obtain⟨u,r,l⟩:=hl i x v e1 e2 e3;refine⟨u,r,?_⟩;rcases l with l|⟨k,c,e,z⟩
  ·exact .inl l
  ·exact .inr ⟨k,c,e,cellK x c e _ z⟩
 ·obtain⟨v,z⟩:=I.cell x c e;exact⟨v,cellK x c e v z⟩
 ·obtain⟨m,⟨o,_,_,ho,_⟩,_⟩:=I.loc;exact free _ o (fun z=>(hch _ z).2.1 rfl) ho I.free
 ·obtain⟨v,o,ho,hd⟩:=I.cell x c e;exact free c o (fun z=>(hch c z).2.2.1 x c e rfl) ho (I.FU x c e)
 ·obtain⟨e,n,ne,nf,d⟩:=I.pin p hp;have nch:p.1 ∉ ch:=fun z=>(hch p.1 z).2.2.2 p hp rfl;exact⟨keep p.1 p.2 ne nf nch e n,free p.1 p.2 nch e n,ne,nf,d⟩
def Inv.un{t':Nat}(I:Inv X pins σ H s)(u:Un X.fs [] H H' s.heap h')(Ah:C1 X.prog X.w H' h'):Inv X pins σ H' { s with heap:=h',toks:=t' }:=by
 obtain⟨m,⟨o,es,ep,ho,r⟩,_⟩:=id I.loc;obtain⟨sl,hL⟩:=u.any ho I.free (by simp);exact I.step (g':=s.gens) (d':=s.drawn) (ch:=[]) (fun _ z=>nomatch z) (fun b o _ hb _ e n=>u.keep b o e n hb (by simp)) (fun b o _ hb _ e n=>u.slot b o e n hb (by simp)) (fun b o _ e n=>u.free b o e n (by simp)) (fun b o _ e=>u.there b o e (by simp)) u.Al u.HR u.IJ (fun m' hm=>by
  obtain⟨o',es',ep',ho',r'⟩:=hm;rw [ho]at ho';cases ho';exact⟨_,es',ep',hL,r'⟩) Ah I.bare
def Inv.call{g':Array GenState}{t':Nat}{d':Drawn}{ch:List AD}(I:Inv X pins σ H s)(u:Un (Il X.stack) ch H H' s.heap h')(Ah:C1 X.prog X.w H' h')(hg:AllBare g')
 (hch:∀b∈ch,(b∈X.ex∨X.s₀.heap.objs.size≤b)∧b≠X.env.locals∧(∀x c,X.env.cells.lookup x=some c→c≠b)∧∀p∈X.pn++pins,p.1≠b) :
  Inv X pins σ H' { s with heap:=h',gens:=g',drawn:=d',toks:=t' }:=by
 obtain⟨m,⟨o,es,ep,ho,r⟩,_⟩:=id I.loc;obtain⟨sl,hL⟩:=u.any ho I.free fun z=>(hch _ z).2.1 rfl;exact I.step (ch:=ch) hch (fun b o hL hb hc e n=>u.keep b o e n (fun z=>(aL.mp (I.N9 b z)).elim hL hb) hc) (fun b o _ _ hc e n=>u.any e n hc) (fun b o hc e n=>u.free b o e n hc) (fun b o hc e=>u.there b o e hc) u.Al u.HR u.IJ (fun m' hm=>by
  obtain⟨o',es',ep',ho',r'⟩:=hm;rw [ho]at ho';cases ho';exact⟨_,es',ep',hL,r'⟩) Ah hg
def Inv.turned{t':Nat}{it:AD}(I:Inv X pins σ H s)(k:∀b o,b≠it→s.heap.get? b=some o→h'.get? b=some o)(hn:H it=none)(hL:it≠X.env.locals)
 (h1:it∈X.ex∨X.s₀.heap.objs.size≤it)(h2:∀x c,X.env.cells.lookup x=some c→c≠it)(h3:∀p∈X.pn++pins,p.1≠it):Inv X pins σ H { s with heap:=h',toks:=t' }:=by
 have nit:∀b u,H b=some u→b≠it:=fun b u e z=>by rw [z,hn]at e;cases e
 refine I.step (g':=s.gens) (d':=s.drawn) (ch:=[it]) (fun b hb=>?_) (fun b o _ _ hc e _=>k b o (fun z=>hc (by simp [z])) e) (fun b o _ _ hc e _=>⟨o.slots,k b o (fun z=>hc (by simp [z])) e⟩) (fun _ _ _ _ n=>n)
  (fun b o hc e=>⟨o,k b o (fun z=>hc (by simp [z])) e⟩) (fun _ _ e=>e) (fun _ _ _ e=>e) (fun b ps e=>⟨#[],by rw [e];simp⟩) (fun m hm=>?_) (fun b u e=>?_) I.bare
 ·have e:b=it:=by simpa using hb
  subst e;exact⟨h1,hL,h2,h3⟩
 ·obtain⟨o,es,ep,ho,r⟩:=hm;exact⟨o,es,ep,k _ o (Ne.symm hL) ho,r⟩
 ·refine(I.Ah b u e).HK (fun c v hc q=>k c v ?_ q) (fun _ q=>q) fun _ _ q=>q;rcases hc with z|z
  ·rw [z];exact nit b u e
  ·exact nit c _ z
def Inv.tok(I:Inv X pins σ H s)(t:Nat):Inv X pins σ H { s with toks:=t }:=I.un (h':=s.heap) (t':=t) Un.refl I.Ah
def Inv.kept{t':Nat}(I:Inv X pins σ H s)(k:∀b u,s.heap.get? b=some u→h'.get? b=some u):Inv X pins σ H { s with heap:=h',toks:=t' }:=I.un (Un.kept k) (I.Ah.kept k)
def Inv.laid{a:AD}{o:HO}{t':Nat}(I:Inv X pins σ H s)(k:∀b u,s.heap.get? b=some u→h'.get? b=some u)(hp:s.heap.objs.size≤a)(new:Bl X.prog X.w (upd H a o) h' a o) :
  Inv X pins σ (upd H a o) { s with heap:=h',toks:=t' }:=I.un (Un.laid k hp (I.Ah.fresh hp)) (I.Ah.laid k hp new)
def Inv.write{x e:AD}{o:HO}{t':Nat}(I:Inv X pins σ H s)(mu:Vg (H x))(he:e=x∨H e=some (.own x))(k:∀b u,b≠e→s.heap.get? b=some u→h'.get? b=some u)(heo:∃u,h'.get? e=some u)
 (new:Bl X.prog X.w (upd H x o) h' x o):Inv X pins σ (upd H x o) { s with heap:=h',toks:=t' }:=I.un (Un.write mu he k heo) (I.Ah.write mu he k heo new)
def Inv.QB{pins':List (AD×Obj)}(I:Inv X pins σ H s)(h:∀p∈pins',s.heap.get? p.1=some p.2∧H p.1=none∧p.1≠X.env.locals∧p.1 ∉ X.fs∧∀v,p.2.data≠.cell v):Inv X pins' σ H s :=
 ⟨I.ok,I.os,I.bare,I.base,I.loc,I.cell,I.free,I.FU,fun p hp=>(bD.mp hp).elim (fun z=>I.pin p (List.mem_append_left _ z)) (h p),I.Ah,I.len⟩
def PZ{N:List Str}(hN:N.Nodup){i j:Nat}{x:Str}(a:N[i]? = some x)(b:N[j]? = some x):i=j:=by
 obtain⟨h1,e1⟩:=aD.mp a;obtain⟨h2,e2⟩:=aD.mp b;exact(List.getElem_inj hN).mp (e1.trans e2.symm)
def Mq{M:Model}{A:Around}{E:VL→SD→Prop}{i:Nat}{x:Str}{v:V}{u:VL}{Q:Unit→SD→Prop}(I:Inv X pins σ H s)(hN:X.N.Nodup)(hi:X.N[i]? = some x)(hx:Loc X.env.scope x)(r:RelV v u)
 (h:∀s',Inv X pins (σ.set i (some v)) H s'→(∃a,Heap.SameBut a s.heap s'.heap∧(a=X.env.locals∨X.env.cells.lookup x=some a))→Q () s')(hf:X.fn x=true∨X.env.scope.names.lookup x=some .local:=by first|exact .inl rfl|exact .inr rfl|assumption):wpAny M A (storeName X.env x u) Q E s:=by
 obtain⟨m,hn,hl⟩:=id I.loc;have hcls:(X.env.scope.kind==.class||(X.env.scope.kind==.module&&X.env.locals != X.env.globals))=false:=by rw [I.ok.kind];rfl
 have hiσ:i<σ.length:=by rw [I.len];exact(aD.mp hi).1
 have Pc:=I.Pc;have tracked:∀ {a:AD} {h':Heap},(∃o,s.heap.get? a=some o∧H a=none)→Heap.SameBut a s.heap h'→C1 X.prog X.w H h':=fun {a h'} ha hs b ob e=>by
  obtain⟨_,_,hfree⟩:=ha;refine(I.Ah b ob e).HK (fun c w' hc q=>(hs.2 c ?_).trans q) (fun _ q=>q) fun _ _ q=>q;rintro rfl;rcases hc with rfl|hc
  ·rw [hfree]at e;cases e
  ·rw [hfree]at hc;cases hc
 rcases hx with hk|hk
 ·refine wpAny_storeName_local hk hn (fun h' hn' hs=>?_) hcls;obtain⟨oL,_,_,hoL,_⟩:=id hn;refine h _ ⟨I.ok,I.os,I.bare,⟨fun b o e n hb hx=>?_,fun b o e n hb hx=>?_,I.base.free,fun b o e hx=>?_,I.base.Al,I.base.HR,I.base.IJ⟩,⟨_,hn',fun j y v' e1 e2 e3=>?_⟩,fun y c e=>?_,I.free,I.FU,fun p hp=>?_,tracked ⟨oL,hoL,I.free⟩ hs,by simpa using I.len⟩ ⟨_,hs,.inl rfl⟩
  ·exact(hs.2 b (aK (aH (aF e) I.ok.above))).trans (I.base.keep b o e n hb hx)
  ·obtain⟨sl,e1⟩:=I.base.slot b o e n hb hx;exact⟨sl,(hs.2 b (aK (aH (aF e) I.ok.above))).trans e1⟩
  ·obtain⟨o',e1⟩:=I.base.there b o e hx;exact⟨o',(hs.2 b (aK (aH (aF e) I.ok.above))).trans e1⟩
  ·by_cases hj:j=i
   ·subst hj;rw [hi]at e1;cases e1;rw [List.getElem?_set_self hiσ]at e2;cases e2;exact⟨u,r,.inl ⟨hk,by simp⟩⟩
   ·rw [List.getElem?_set_ne (Ne.symm hj)]at e2;obtain⟨u',r',q⟩:=hl j y v' e1 e2 e3;refine⟨u',r',?_⟩;rcases q with ⟨k,e⟩|⟨k,c,e,z⟩
    ·refine .inl ⟨k,?_⟩;have:y≠x:=fun e=>hj (PZ hN e1 (e ▸ hi));simp [this,e]
    ·exact .inr ⟨k,c,e,z.sameBut hs (Pc y c e)⟩
  ·obtain⟨w',z⟩:=I.cell y c e;exact⟨w',z.sameBut hs (Pc y c e)⟩
  ·obtain⟨e,n,ne,nf,d⟩:=I.pin p hp;exact⟨(hs.2 p.1 ne).trans e,n,ne,nf,d⟩
 ·have hfn:X.fn x=true:=by
   rcases hf with z|z
   ·exact z
   ·rw [z]at hk;cases hk
  obtain⟨c,hc⟩:=I.ok.has x (.inl hk);obtain⟨w',z⟩:=I.cell x c hc;refine wpAny_storeName_cell I.ok.kind hk hc z (fun h' hc' hs=>?_);obtain⟨oc,hoc,hocd⟩:=id z;refine h { s with heap:=h' } ⟨I.ok,I.os,I.bare,⟨fun b o e n hb hx=>?_,fun b o e n hb hx=>?_,I.base.free,fun b o e hx=>?_,I.base.Al,I.base.HR,I.base.IJ⟩,⟨m,hn.sameBut hs (Ne.symm (Pc x c hc)),fun j y v' e1 e2 e3=>?_⟩,fun y c' e=>?_,I.free,I.FU,fun p hp=>?_,tracked ⟨oc,hoc,I.FU x c hc⟩ hs,by simpa using I.len⟩ ⟨c,hs,.inr hc⟩
  ·exact(hs.2 b (aK (aH (aF e) (I.ok.Sa x c hfn hc)))).trans (I.base.keep b o e n hb hx)
  ·obtain⟨sl,e1⟩:=I.base.slot b o e n hb hx;exact⟨sl,(hs.2 b (aK (aH (aF e) (I.ok.Sa x c hfn hc)))).trans e1⟩
  ·obtain⟨o',e1⟩:=I.base.there b o e hx;exact⟨o',(hs.2 b (aK (aH (aF e) (I.ok.Sa x c hfn hc)))).trans e1⟩
  ·by_cases hj:j=i
   ·subst hj;rw [hi]at e1;cases e1;rw [List.getElem?_set_self hiσ]at e2;cases e2;exact⟨u,r,.inr ⟨.inl hk,c,hc,hc'⟩⟩
   ·rw [List.getElem?_set_ne (Ne.symm hj)]at e2;obtain⟨u',r',q⟩:=hl j y v' e1 e2 e3;refine⟨u',r',?_⟩;rcases q with q|⟨k,c',e,z'⟩
    ·exact .inl q
    ·refine .inr ⟨k,c',e,z'.sameBut hs ?_⟩;rintro rfl;exact hj (PZ hN e1 (I.ok.inj _ _ _ e hc ▸ hi))
  ·by_cases hcc:c'=c
   ·subst hcc;exact⟨_,hc'⟩
   ·obtain⟨w2,z2⟩:=I.cell y c' e;exact⟨w2,z2.sameBut hs hcc⟩
  ·obtain⟨e,n,ne,nf,d⟩:=I.pin p hp;refine⟨(hs.2 p.1 ?_).trans e,n,ne,nf,d⟩;intro q;rw [q,hoc]at e;have q':oc=p.2:=ag e;exact d w' (by rw [←q'];exact hocd)
def Hr{M:Model}{A:Around}{E:VL→SD→Prop}{i:Nat}{x:Str}{v:V}{u:VL}{Q:Unit→SD→Prop}(I:Inv X pins σ H s)(hN:X.N.Nodup)(hi:X.N[i]? = some x)(hx:Loc X.env.scope x)(r:RelV v u)
 (h:∀s',Inv X pins (σ.set i (some v)) H s'→Q () s')(hf:X.fn x=true∨X.env.scope.names.lookup x=some .local:=by first|exact .inl rfl|exact .inr rfl|assumption):wpAny M A (storeName X.env x u) Q E s :=
 Mq I hN hi hx r (fun s' I' _=>h s' I') hf
def Inv.Zi{s':SD}{ch:List AD}(I:Inv X pins σ H s)(ho:s'.os=s.os)(u:Un (Il X.stack) ch H H' s.heap s'.heap)(Ah:C1 X.prog X.w H' s'.heap)(hg:AllBare s'.gens)
 (hch:∀b∈ch,(b∈X.ex∨X.s₀.heap.objs.size≤b)∧b≠X.env.locals∧(∀x c,X.env.cells.lookup x=some c→c≠b)∧∀p∈X.pn++pins,p.1≠b):Inv X pins σ H' s':=by
 obtain⟨h',g',d',t',o'⟩:=s';have e:o'=s.os:=ho;subst e;exact I.call (g':=g') (t':=t') (d':=d') u Ah hg hch
end
abbrev XK:=VL→Option AD→Hp→Prop
abbrev St:=List (Option V)
abbrev VK:=V→Hp→Prop
abbrev TE:=St→Hp→VK→Prop
abbrev TT:=St→Hp→(Bool→Hp→Prop)→Prop
abbrev TA:=St→Hp→(List V→Hp→Prop)→Prop
structure Ends where
 nx:St→Hp→Prop
 rt:VK
 bk:St→Hp→Prop:=fun _ _=>False
 ct:St→Hp→Prop:=fun _ _=>False
abbrev TS:=Ends→St→Hp→Prop
def EP(X:Cx)(pins:List (AD×Obj))(σ:St)(Q:VK)(u:VL)(s':SD):Prop:=∃v H',Inv X pins σ H' s'∧RelV v u∧Q v H'
def TP(X:Cx)(pins:List (AD×Obj))(σ:St)(Q:Bool→Hp→Prop)(b:Bool)(s':SD):Prop:=∃H',Inv X pins σ H' s'∧Q b H'
def AP(X:Cx)(pins:List (AD×Obj))(σ:St)(Q:List V→Hp→Prop)(us:List VL)(s':SD):Prop:=∃vs H',Inv X pins σ H' s'∧Vals vs us∧Q vs H'
def SP(X:Cx)(pins:List (AD×Obj))(D:Ends)(f:Flow)(s':SD):Prop :=
 match f with
 |.next=>∃σ' H',Inv X pins σ' H' s'∧D.nx σ' H'
 |.brk=>∃σ' H',Inv X pins σ' H' s'∧D.bk σ' H'
 |.cont=>∃σ' H',Inv X pins σ' H' s'∧D.ct σ' H'
 |.ret u=>∃v σ' H',Inv X pins σ' H' s'∧RelV v u∧D.rt v H'
def PE(X:Cx)(e:Expr)(t:TE):Prop :=
 ∀(pins:List (AD×Obj)) (s:SD) (σ:St) (H:Hp) (Q:VK),Inv X pins σ H s→t σ H Q→wpAny (model X.prog X.w) X.A (eval e X.env) (EP X pins σ Q) X.xe s
def PT(X:Cx)(e:Expr)(t:TT):Prop :=
 ∀(pins:List (AD×Obj)) (s:SD) (σ:St) (H:Hp) (Q:Bool→Hp→Prop),Inv X pins σ H s→t σ H Q→wpAny (model X.prog X.w) X.A (isTrue e X.env (eval e X.env)) (TP X pins σ Q) X.xe s
def PW(X:Cx)(e:Expr)(t:TT):Prop :=
 ∀(whole:Sem VL) (pins:List (AD×Obj)) (s:SD) (σ:St) (H:Hp) (Q:Bool→Hp→Prop),Inv X pins σ H s→t σ H Q→wpAny (model X.prog X.w) X.A (isTrue e X.env whole) (TP X pins σ Q) X.xe s
def PW.pt{X:Cx}{e:Expr}{t:TT}(h:PW X e t):PT X e t:=h _
def PA(X:Cx)(es:List Expr)(t:TA):Prop :=
 ∀(pos:Pos) (pins:List (AD×Obj)) (s:SD) (σ:St) (H:Hp) (Q:List V→Hp→Prop),Inv X pins σ H s→t σ H Q→wpAny (model X.prog X.w) X.A (spliced (backTo pos (starEach es X.env))) (AP X pins σ Q) X.xe s
def PS(X:Cx)(st:Stmt)(t:TS):Prop :=
 ∀(pins:List (AD×Obj)) (s:SD) (σ:St) (H:Hp) (D:Ends),Inv X pins σ H s→t D σ H→wpAny (model X.prog X.w) X.A (exec st X.env) (SP X pins D) X.xe s
def G8(X:Cx)(st:List Stmt)(t:TS):Prop :=
 ∀(pins:List (AD×Obj)) (s:SD) (σ:St) (H:Hp) (D:Ends),Inv X pins σ H s→t D σ H→wpAny (model X.prog X.w) X.A (execs st X.env) (SP X pins D) X.xe s
def Az{α:Type}{t:Sem α}{Q Q':α→SD→Prop}{M:Model}{A:Around}{E:VL→SD→Prop}{s:SD}(h:wpAny M A t Q E s)(hQ:∀a s,Q a s→Q' a s):wpAny M A t Q' E s:=ai h hQ fun _ _ x=>x
section
variable{X:Cx}
def Om(i:Nat):TE:=fun σ H Q=>∃v,σ[i]? = some (some v)∧Q v H
def tC(v:V):TE:=fun _ H Q=>Q v H
def Xr{i:Nat}{x:Str}{pos:Pos}(hN:X.N[i]? = some x)(hv:Yt X.env.scope x)(hd:(x==("__debug__" : Str))=false:=by decide)(hcd:(x==("__classdict__" : Str))=false:=by decide):PE X (.Name x pos) (Om i):=by
 intro pins s σ H Q I h;obtain⟨v,e,h⟩:=h;obtain⟨m,hn,hl⟩:=I.loc;obtain⟨u,r,l⟩:=hl i x v hN e hv;have fin:EP X pins σ Q u s:=⟨v,H,I,r,h⟩;rcases l with ⟨hk,hm⟩|⟨hk,c,hc,hcell⟩
 ·exact wpAny_Name (wpAny_loadName_local I.ok.kind hk hn hm fin) hd
 ·rcases hk with hk|hk
  ·exact wpAny_Name (wpAny_loadName_cell I.ok.kind hk hc hcell fin) hd
  ·exact wpAny_Name (wpAny_loadName_free I.ok.kind hk hc hcell fin hcd) hd
def AN{i j pos}:PE X (.Constant (.int i) j pos) (tC (.int i)):=fun _ _ _ H _ I h=>wpAny_Constant_int ⟨.int i,H,I.tok _,⟨_,rfl⟩,h⟩
def DC{b j pos}:PE X (.Constant (.bool b) j pos) (tC (.bl b)):=fun _ _ _ H _ I h=>Constant_bool ⟨.bl b,H,I,rfl,h⟩
def Gl(X:Cx)(x:Str):Prop:=X.env.kindOf x=some .globalImplicit
def P6{E:VL→SD→Prop}{pins:List (AD×Obj)}{s:SD}{σ:St}{H:Hp}{x:Str}{u:VL}{pos:Pos}{Q:VL→SD→Prop}(I:Inv X pins σ H s)(hg:Gl X x)(hm:X.mg x=some u)(h:Q u s)
 (hd:(x==("__debug__" : Str))=false:=by decide):wpAny (model X.prog X.w) X.A (eval (.Name x pos) X.env) Q E s :=
 Calls.Name_function_global I.ok.kind hg (Calls.loadGlobal_global (by rw [I.ok.glob];exact I.mod.glob.keeps I.bk) hm h) hd
def Fe{E:VL→SD→Prop}{pins:List (AD×Obj)}{s:SD}{σ:St}{H:Hp}{x:Str}{u:VL}{pos:Pos}{Q:VL→SD→Prop}(I:Inv X pins σ H s)(hg:Gl X x)(hm:X.mg x=none)(hv:bootBuiltins x=some u)(h:Q u s)
 (hn:x ≠ "__name__" := by decide)(hd:(x==("__debug__" : Str))=false:=by decide):wpAny (model X.prog X.w) X.A (eval (.Name x pos) X.env) Q E s:=by
 obtain⟨mb,h1,h2⟩:=I.mod.blt;exact Calls.Name_function_global I.ok.kind hg (Calls.loadGlobal_builtin (by rw [I.ok.glob];exact I.mod.glob.keeps I.bk) hm (by rw [I.ok.blt];exact h1.keeps I.bk) ((h2 x hn).trans hv) h) hd
def WC{x:Str}{v:V}{u:VL}{pos:Pos}(hg:Gl X x)(hm:X.mg x=some u)(r:RelV v u)(hd:(x==("__debug__" : Str))=false:=by decide):PE X (.Name x pos) (tC v) :=
 fun _ _ _ H _ I h=>P6 I hg hm ⟨v,H,I,r,h⟩ hd
def ER{x:Str}{v:V}{u:VL}{pos:Pos}(hg:Gl X x)(hm:X.mg x=none)(hv:bootBuiltins x=some u)(r:RelV v u)(hn:x ≠ "__name__" := by decide)(hd:(x==("__debug__" : Str))=false:=by decide):PE X (.Name x pos) (tC v) :=
 fun _ _ _ H _ I h=>Fe I hg hm hv ⟨v,H,I,r,h⟩ hn hd
variable{a b:Expr}{ta tb:TE}{pos:Pos}
def tB(t:TE):TT:=fun σ H Q=>t σ H fun x H1=>∃c,x=.bl c∧Q c H1
def CM{e : Expr}{t : TE}(h : PE X e t)(he : ∀ whole,isTrue e X.env whole = (do let v ← whole; standAt e.pos; holding [v] (truthy v)) := by intro _; rfl) : PT X e (tB t) := by
  intro pins s σ H Q I hw
  refine isTrue_plain (Az (h pins s σ H _ I hw) fun v s1 ⟨x,H1,I1,r1,q1⟩ => ?_) (he _)
  obtain ⟨d,rfl,q⟩:=q1
  cases r1
  exact wpAny_truthy_bool ⟨H1,I1,q⟩
variable{tA tB':TT}{rest:List Expr}
def cF(t u:TT):TT:=fun σ H Q=>t σ H fun c H1=>if c=true then u σ H1 Q else Q false H1
def dA(t u:TT):TT:=fun σ H Q=>t σ H fun c H1=>if c=true then Q true H1 else u σ H1 Q
def cD(t:TT):TT:=fun σ H Q=>t σ H fun c H1=>Q (!c) H1
def MQ(ha:PT X a tA):PW X (.BoolOp .And [a] pos) tA:=by
 intro wh pins s σ H Q I h;refine isTrue_and (Az (ha pins s σ H Q I h) fun c s1 e=>?_);cases c with
 |true=>exact isTrue_and_nil e
 |false=>exact e
def Fh(ha:PT X a tA):PW X (.BoolOp .Or [a] pos) tA:=by
 intro wh pins s σ H Q I h;refine isTrue_or (Az (ha pins s σ H Q I h) fun c s1 e=>?_);cases c with
 |false=>exact isTrue_or_nil e
 |true=>exact e
def S6(ha:PT X a tA)(hb:PW X (.BoolOp .And (b::rest) pos) tB'):PW X (.BoolOp .And (a::b::rest) pos) (cF tA tB'):=by
 intro wh pins s σ H Q I h;refine isTrue_and (Az (ha pins s σ H _ I h) fun c s1 ⟨H1,I1,q1⟩=>?_);cases c with
 |true=>exact hb wh pins s1 σ H1 Q I1 q1
 |false=>exact⟨H1,I1,q1⟩
def FR(ha:PT X a tA)(hb:PW X (.BoolOp .Or (b::rest) pos) tB'):PW X (.BoolOp .Or (a::b::rest) pos) (dA tA tB'):=by
 intro wh pins s σ H Q I h;refine isTrue_or (Az (ha pins s σ H _ I h) fun c s1 ⟨H1,I1,q1⟩=>?_);cases c with
 |true=>exact⟨H1,I1,q1⟩
 |false=>exact hb wh pins s1 σ H1 Q I1 q1
def CK(ha:PT X a tA):PT X (.UnaryOp .Not a pos) (cD tA):=by
 intro pins s σ H Q I h;exact isTrue_not (ha pins s σ H (fun c H1=>Q (!c) H1) I h)
def Zn(ta tb:TE):TE:=fun σ H Q=>ta σ H fun x H1=>∃c,x=.bl c∧if c=true then tb σ H1 Q else Q (.bl false) H1
def ZU(ta:TE):TE:=fun σ H Q=>ta σ H fun x H1=>∃c,x=.bl c∧Q (.bl (!c)) H1
def N8{op}{t:TE}(h:PE X a t):PE X (.BoolOp op [a] pos) t:=fun pins s σ H Q I hw=>BoolOp_one (h pins s σ H Q I hw)
def Li(ha:PE X a ta)(hb:PE X (.BoolOp .And (b::rest) pos) tb):PE X (.BoolOp .And (a::b::rest) pos) (Zn ta tb):=by
 intro pins s σ H Q I h;refine BoolOp_and (Az (ha pins s σ H _ I h) fun v s1 ⟨x,H1,I1,r1,q1⟩=>?_);obtain⟨c,rfl,q1⟩:=q1;cases r1;refine wpAny_truthy_bool ?_;cases c with
 |true=>exact hb pins s1 σ H1 Q I1 q1
 |false=>exact⟨.bl false,H1,I1,rfl,q1⟩
def X3(ha:PE X a ta):PE X (.UnaryOp .Not a pos) (ZU ta):=by
 intro pins s σ H Q I h;refine UnaryOp_ (Az (ha pins s σ H _ I h) fun v s1 ⟨x,H1,I1,r1,q1⟩=>?_);obtain⟨c,rfl,q1⟩:=q1;cases r1;exact not_of (wpAny_truthy_bool ⟨.bl (!c),H1,I1,rfl,q1⟩)
end
def AZ(K:Fg)(H:Hp)(a:AD)(xs:List V):Prop :=
 Rd H a (.lst xs) ∨
  ∃(o:Obj) (its:Array VL) (n:Nat),K.lookup a=some o∧o.cls=.type "list" ∧ o.dict=none∧o.data=.seq its n∧its.size≤sizeLine∧Vals xs its.toList
def Ag(K:Fg)(H:Hp)(a:AD)(xs:List V):Prop :=
 Rd H a (.tup xs) ∨
  ∃(o:Obj) (its:Array VL) (n:Nat),K.lookup a=some o∧o.cls=.type "tuple" ∧ o.data=.seq its n∧its.size≤sizeLine∧Vals xs its.toList
def cx:VL→Option V
 |.none=>some .BG
 |.bool b=>some (.bl b)
 |.int i _=>some (.int i)
 |.str x _=>some (.str x)
 |.bytes b _=>some (.Jn b)
 |.float b _=>some (.D0 b)
 |.ref a=>some (.ref a)
 |.type n=>some (.ty n)
 |_=>none
def RelV.abs{x:V}{u:VL}(r:RelV x u):cx u=some x:=by
 cases x with
 |BG=>cases r;rfl
 |bl _=>cases r;rfl
 |int _=>obtain⟨t,rfl⟩:=r;rfl
 |str _=>obtain⟨t,rfl⟩:=r;rfl
 |Jn _=>obtain⟨t,rfl⟩:=r;rfl
 |D0 _=>obtain⟨t,rfl⟩:=r;rfl
 |ref _=>cases r;rfl
 |ty _=>cases r;rfl
def RelV.inj{x y:V}{u:VL}(r:RelV x u)(q:RelV y u):x=y:=ag (r.abs.symm.trans q.abs)
def Vals.inj:∀ {xs ys:List V} {us:List VL},Vals xs us→Vals ys us→xs=ys
 |_,_,_,.nil,.nil=>rfl
 |_,_,_,.cons r t,.cons r' t'=>by rw [r.inj r',Vals.inj t t']
section
variable{X:Cx}{pins:List (AD×Obj)}{σ:St}{H:Hp}{s:SD}{a:AD}{xs ys:List V}
def AZ.of{K:Fg}(h:H a=some (.lst xs)):AZ K H a xs:=.inl (.inl h)
def Ag.of{K:Fg}(h:H a=some (.tup xs)):Ag K H a xs:=.inl (.inl h)
def Inv.list(I:Inv X pins σ H s)(h:AZ X.K H a xs):∃its:List VL,Vals xs its∧PlainL s.heap a its.toArray∧xs.length≤sizeLine:=by
 rcases h with h|⟨o,its,n,hk,hc,hd,hs,hz,r⟩
 ·obtain⟨z,its,n,r,e⟩:=h.ok I.Ah;exact⟨its,r,⟨_,n,e,rfl,rfl,rfl⟩,z⟩
 ·refine⟨its.toList,r,⟨o,n,I.Fj a o hk,hc,hd,by simpa using hs⟩,?_⟩;have e:=r.length;simp only [Array.length_toList]at e;omega
def Inv.tuple(I:Inv X pins σ H s)(h:Ag X.K H a xs):∃its:List VL,Vals xs its∧IsTup s.heap a its.toArray∧xs.length≤sizeLine:=by
 rcases h with h|⟨o,its,n,hk,hc,hs,hz,r⟩
 ·obtain⟨z,its,r,p⟩:=h.ok I.Ah;exact⟨its,r,p,z⟩
 ·refine⟨its.toList,r,⟨o,I.Fj a o hk,hc,n,by simpa using hs⟩,?_⟩;have e:=r.length;simp only [Array.length_toList]at e;omega
def Inv.N0(I:Inv X pins σ H s)(h:AZ X.K H a xs)(h':AZ X.K H a ys):xs=ys:=by
 obtain⟨its,r,⟨o,n,e,_,_,d⟩,_⟩:=I.list h;obtain⟨its',r',⟨o',n',e',_,_,d'⟩,_⟩:=I.list h';rw [e]at e';cases e';rw [d]at d'
 injection d' with d1 _
 have:its=its':=by simpa using bG Array.toList d1
 subst this;exact r.inj r'
def Inv.M9(I:Inv X pins σ H s)(h:Ag X.K H a xs)(h':Ag X.K H a ys):xs=ys:=by
 obtain⟨its,r,⟨o,e,_,n,d⟩,_⟩:=I.tuple h;obtain⟨its',r',⟨o',e',_,n',d'⟩,_⟩:=I.tuple h';rw [e]at e';cases e';rw [d]at d'
 injection d' with d1 _
 have:its=its':=by simpa using bG Array.toList d1
 subst this;exact r.inj r'
end
abbrev Cx.HQ(X:Cx)(E:VL→SD→Prop):Cx:={ X with xe:=E }
abbrev Cx.Sb(X:Cx):Cx:=X.HQ fun _ _=>False
def Cx.Ok.HQ{X:Cx}(ok:X.Ok)(E:VL→SD→Prop):(X.HQ E).Ok :=
 ⟨ok.mod,ok.kind,ok.glob,ok.blt,ok.above,ok.inj,ok.has,ok.Sa,ok.hd,ok.frames,ok.VR,ok.a5,ok.bs,ok.Mt,ok.O5,ok.O6,ok.Gj,ok.P7⟩
def Cx.Ok.FZ{X:Cx}{E:VL→SD→Prop}(ok:(X.HQ E).Ok):X.Ok :=
 ⟨ok.mod,ok.kind,ok.glob,ok.blt,ok.above,ok.inj,ok.has,ok.Sa,ok.hd,ok.frames,ok.VR,ok.a5,ok.bs,ok.Mt,ok.O5,ok.O6,ok.Gj,ok.P7⟩
section
variable{X:Cx}{pins:List (AD×Obj)}{σ:St}{H:Hp}{s:SD}{E:VL→SD→Prop}
def Inv.HQ(I:Inv X pins σ H s)(E:VL→SD→Prop):Inv (X.HQ E) pins σ H s:=⟨I.ok.HQ E,I.os,I.bare,I.base,I.loc,I.cell,I.free,I.FU,I.pin,I.Ah,I.len⟩
def Inv.FZ(I:Inv (X.HQ E) pins σ H s):Inv X pins σ H s:=⟨I.ok.FZ,I.os,I.bare,I.base,I.loc,I.cell,I.free,I.FU,I.pin,I.Ah,I.len⟩
def SP.FZ{D:Ends}{f:Flow}{s':SD}(h:SP (X.HQ E) pins D f s'):SP X pins D f s':=by
 cases f with
 |next=>obtain⟨σ',H',I,q⟩:=h;exact⟨σ',H',I.FZ,q⟩
 |brk=>obtain⟨σ',H',I,q⟩:=h;exact⟨σ',H',I.FZ,q⟩
 |cont=>obtain⟨σ',H',I,q⟩:=h;exact⟨σ',H',I.FZ,q⟩
 |ret u=>obtain⟨v,σ',H',I,r,q⟩:=h;exact⟨v,σ',H',I.FZ,r,q⟩
def G8.Sb{st:List Stmt}{t:TS}(h:G8 X.Sb st t):G8 X st t:=fun pins s σ H D I hw =>
 ai (h pins s σ H D (I.HQ _) hw) (fun _ _ q=>q.FZ) fun _ _ z=>False.elim z
end
section
variable{X:Cx}{st:Stmt}{rest:List Stmt}{t u:TS}{e:Expr}{te:TE}{pos:Pos}
def ZI:TS:=fun D σ H=>D.nx σ H
def XH(t u:TS):TS:=fun D σ H=>t { D with nx:=u D } σ H
def BD:G8 X [] ZI:=fun _ _ σ H _ I h=>wpAny_execs_nil ⟨σ,H,I,h⟩
def AM(h1:PS X st t)(h2:G8 X rest u):G8 X (st::rest) (XH t u):=by
 intro pins s σ H D I h;refine wpAny_execs_cons (Az (h1 pins s σ H { D with nx:=u D } I h) fun f s1 q=>?_);cases f with
 |next =>
  obtain⟨σ',H',I',q⟩:=q;exact h2 pins s1 σ' H' D I' q
 |ret v=>exact q
 |brk=>exact q
 |cont=>exact q
def AR(h1:PS X st t):G8 X [st] t:=by
 intro pins s σ H D I h;refine wpAny_execs_cons (Az (h1 pins s σ H D I h) fun f s1 q=>?_);cases f with
 |next=>exact wpAny_execs_nil q
 |ret v=>exact q
 |brk=>exact q
 |cont=>exact q
def ZY:TS:=fun D σ H=>D.ct σ H
def Ph:PS X (.Continue pos) ZY:=fun _ _ σ H _ I h=>wpAny_Continue ⟨σ,H,I,h⟩
def Inv.quiet{pins:List (AD×Obj)}{σ:St}{H:Hp}{s:SD}(I:Inv X pins σ H s):interactive X.env=false:=by simp [interactive,I.ok.kind]
def Vc(te:TE):TS:=fun D σ H=>te σ H fun _ H1=>D.nx σ H1
def Ea(he:PE X e te)(hs:swapsWith e none pos.line X.env=pure false:=by rfl):PS X (.Expr e pos) (Vc te):=by
 intro pins s σ H D I h;exact wpAny_Expr_any (Az (he pins s σ H _ I h) fun v s1 ⟨x,H1,I1,r1,q1⟩=>⟨σ,H1,I1,q1⟩) I.quiet hs
def bz(te:TE):TS:=fun D σ H=>te σ H D.rt
def Aq(he:PE X e te):PS X (.Return (some e) pos) (bz te):=by
 intro pins s σ H D I h;exact wpAny_Return_some (Az (he pins s σ H _ I h) fun v s1 ⟨x,H1,I1,r1,q1⟩=>⟨x,σ,H1,I1,r1,q1⟩)
def bX(c:TT)(t u:TS):TS:=fun D σ H=>c σ H fun b H1=>if b=true then t D σ H1 else u D σ H1
def Bd{c:Expr}{a b:List Stmt}{tc:TT}(hc:PT X c tc)(ha:G8 X a t)(hb:G8 X b u):PS X (.If c a b pos) (bX tc t u):=by
 intro pins s σ H D I h;refine wpAny_If (Az (hc pins s σ H _ I h) fun d s1 ⟨H1,I1,q1⟩=>?_);cases d with
 |true=>exact ha pins s1 σ H1 D I1 q1
 |false=>exact hb pins s1 σ H1 D I1 q1
def Y0:TS:=fun _ _ _=>False
def Ks:PS X st Y0:=fun _ _ _ _ _ _ h=>h.elim
end
abbrev TG:=V→St→Hp→(St→Hp→Prop)→Prop
abbrev Ox:=List V→St→Hp→(St→Hp→Prop)→Prop
def PG(X:Cx)(target:Expr)(t:TG):Prop :=
 ∀(pins:List (AD×Obj)) (s:SD) (σ:St) (H:Hp) (v:V) (u:VL) (Q:St→Hp→Prop),Inv X pins σ H s→RelV v u→t v σ H Q →
  wpAny (model X.prog X.w) X.A (assign target X.env u) (fun _ s'=>∃σ' H',Inv X pins σ' H' s'∧Q σ' H') X.xe s
def VG(X:Cx)(ts:List Expr)(t:Ox):Prop :=
 ∀(pins:List (AD×Obj)) (s:SD) (σ:St) (H:Hp) (vs:List V) (us:List VL) (Q:St→Hp→Prop),Inv X pins σ H s→Vals vs us→t vs σ H Q →
  wpAny (model X.prog X.w) X.A (assignInOrder ((assignEach ts X.env).map (·.2)) us) (fun _ s'=>∃σ' H',Inv X pins σ' H' s'∧Q σ' H') X.xe s
abbrev RH:=V→V→V→Hp→(Hp→Prop)→Prop
def Uq(X:Cx)(t:RH):Prop :=
 ∀(pins:List (AD×Obj)) (s:SD) (σ:St) (H:Hp) (o i v:V) (ov iv u:VL) (Q:Hp→Prop),Inv X pins σ H s→RelV o ov→RelV i iv→RelV v u→t o i v H Q →
  wpAny (model X.prog X.w) X.A (setItem ov iv u) (fun _ s'=>∃H',Inv X pins σ H' s'∧Q H') X.xe s
section
variable{X:Cx}{pos:Pos}
def Ee(i:Nat):TG:=fun v σ H Q=>Q (σ.set i (some v)) H
def A7{i:Nat}{x:Str}(hN:X.N.Nodup)(hi:X.N[i]? = some x)(hx:Loc X.env.scope x)(hf:X.fn x=true∨X.env.scope.names.lookup x=some .local:=by first|exact .inl rfl|exact .inr rfl|assumption):PG X (.Name x pos) (Ee i):=by
 intro pins s σ H v u Q I r h;exact wpAny_assign_Name (Hr I hN hi hx r (fun s' I'=>⟨_,H,I',h⟩) hf)
def Xk:Ox:=fun vs σ H Q=>vs=[]∧Q σ H
def Qw(t:TG)(u:Ox):Ox:=fun vs σ H Q=>∃v r,vs=v::r∧t v σ H fun σ' H'=>u r σ' H' Q
def Jq:VG X [] Xk:=by
 intro pins s σ H vs us Q I r h;obtain⟨e,h⟩:=h;subst e;cases r;exact assignInOrder_nil ⟨σ,H,I,h⟩
def DQ{e:Expr}{es:List Expr}{t:TG}{u:Ox}(h1:PG X e t)(h2:VG X es u)
 (hs:(assignEach (e::es) X.env).map (·.2)=assign e X.env::(assignEach es X.env).map (·.2):=by rfl):VG X (e::es) (Qw t u):=by
 intro pins s σ H vs us Q I r h;obtain⟨v,vr,e1,h⟩:=h;subst e1;cases r with
 |cons r rr =>
  rw [hs];refine assignInOrder_cons (Az (h1 pins s σ H _ _ _ I r h) fun _ s1 ⟨σ1,H1,I1,q1⟩=>?_);exact h2 pins s1 σ1 H1 _ _ Q I1 rr q1
def YC(K:Fg)(n:Nat)(t:Ox):TG:=fun v σ H Q=>∃a xs,v=.ref a∧Ag K H a xs∧xs.length=n∧t xs σ H Q
def Lu{es:List Expr}{k:Nat}{t:Ox}{n:Nat}(hc:X.calm=true)(h:VG X es t)
 (hn:(assignEach es X.env).length=n:=by rfl)(hst:(assignEach es X.env).findIdx? (·.1)=none:=by rfl):PG X (.Tuple es k pos) (YC X.K n t):=by
 intro pins s σ H v u Q I r hw;obtain⟨a,xs,e1,hq,hl,hw⟩:=hw;subst e1;cases r;obtain⟨its,rv,ht,hz⟩:=I.tuple hq;refine assign_Tuple_tuple (I.ok.hd hc) ht (by simp [hn,←hl,rv.length]) hst fun h' hx=>?_;have I1:Inv X pins σ H { s with heap:=h' }:=I.kept (t':=s.toks) fun b o e=>hx b o (aK (aF e)) e;exact h pins _ σ H xs _ Q I1 (by simpa using rv) hw
def cv(to ti:TE)(t:RH):TG:=fun v σ H Q=>to σ H fun o H1=>ti σ H1 fun i H2=>t o i v H2 fun H3=>Q σ H3
def N5{o i:Expr}{to ti:TE}{t:RH}(ho:PE X o to)(hi:PE X i ti)(hs:Uq X t)
 (ha:∀v,assign (.Subscript o i pos) X.env v=(do
      let ov ←holding [v] (eval o X.env)
      let iv ←holding [v,ov] (eval i X.env)
      standAt pos
      holding [v,ov,iv] (setItem ov iv v)
      release [v,ov,iv] []):=by intro _;rfl):PG X (.Subscript o i pos) (cv to ti t):=by
  intro pins s σ H v u Q I r h
  rw [ha]
  refine Wb (aV (Az (ho pins s σ H _ I h) fun ov s1 ⟨x,H1,I1,r1,q1⟩=>?_))
  refine Wb (aV (Az (hi pins s1 σ H1 _ I1 q1) fun iv s2 ⟨y,H2,I2,r2,q2⟩=>?_))
  refine Wb (wpAny_standAt (Wb (aV (Az (hs pins s2 σ H2 x y v ov iv u _ I2 r1 r2 r q2) fun _ s3 ⟨H3,I3,q3⟩=>?_))))
  exact wpAny_release ⟨σ,H3,I3,q3⟩
def Rc(te:TE)(g:TG):TS:=fun D σ H=>te σ H fun x H1=>g x σ H1 D.nx
def Lv{tg e:Expr}{te:TE}{g:TG}(he:PE X e te)(hg:PG X tg g)(hs:swapsWithSole [tg] e pos.line X.env=pure false:=by rfl)(hw:swappedStores [tg] e X.env=pure none:=by rfl)
 (h1:(assignEach [tg] X.env).map (·.2)=[assign tg X.env]:=by rfl):PS X (.Assign [tg] e pos) (Rc te g):=by
 intro pins s σ H D I h;refine wpAny_Assign_stores (Az (he pins s σ H _ I h) fun v s1 ⟨x,H1,I1,r1,q1⟩=>?_) hs hw;rw [h1];exact Az (hg pins s1 σ H1 x v _ I1 r1 q1) fun _ s2 q=>q
def Aj{i:Nat}{x:Str}{e:Expr}{te:TE}{pos':Pos}(hN:X.N.Nodup)(hi:X.N[i]? = some x)(hx:Loc X.env.scope x)(he:PE X e te)(hs:swapsWith e (some (.Name x pos')) pos.line X.env=pure false:=by rfl)(hf:X.fn x=true∨X.env.scope.names.lookup x=some .local:=by first|exact .inl rfl|exact .inr rfl|assumption) :
  PS X (.Assign [.Name x pos'] e pos) (Rc te (Ee i)):=by
 intro pins s σ H D I h;refine wpAny_Assign_Name (Az (he pins s σ H _ I h) fun v s1 ⟨y,H1,I1,r1,q1⟩=>?_) hs;exact Hr I1 hN hi hx r1 (fun s2 I2=>⟨_,H1,I2,q1⟩) hf
def cX(i j:Nat)(ta:TA):TS:=fun D σ H=>ta σ H fun vs H1=>∃v w,vs=[v,w]∧D.nx ((σ.set i (some v)).set j (some w)) H1
def YZ{i j:Nat}{x y:Str}{a b:Expr}{ta:TA}{px py pt:Pos}{kt k2 pt2}(hc:X.calm=true)(hN:X.N.Nodup)(hi:X.N[i]? = some x)(hj:X.N[j]? = some y)(hij:i≠j)
 (hx:X.env.scope.names.lookup x=some .local)(hy:X.env.scope.names.lookup y=some .local)(ha:PA X [a,b] ta)
 (hw:swappedStores [.Tuple [.Name x px,.Name y py] kt pt] (.Tuple [a,b] k2 pt2) X.env=pure (some [x,y]))
 (hs:swapsWithSole [.Tuple [.Name x px,.Name y py] kt pt] (.Tuple [a,b] k2 pt2) pos.line X.env=pure false:=by rfl) :
  PS X (.Assign [.Tuple [.Name x px,.Name y py] kt pt] (.Tuple [a,b] k2 pt2) pos) (cX i j ta):=by
 intro pins s σ H D I h;rw [exec_Assign_arm];refine Wb (wpAny_standAt ?_);rw [hs];refine Wb (aA ?_);rw [if_neg (by decide)];refine Wb (Tuple_ (Az (ha _ pins s σ H _ I h) fun us s1 ⟨vs,H1,I1,r1,q1⟩=>?_));obtain⟨v,w,e1,q1⟩:=q1;subst e1;obtain⟨u1,u2,rfl,rv,rw'⟩:∃u1 u2,us=[u1,u2]∧RelV v u1∧RelV w u2:=by
  cases r1 with
  |cons p q =>
   cases q with
   |cons p' q' =>
    cases q';exact⟨_,_,rfl,p,p'⟩
 refine ak ?_ (by show 2≤sizeLine;decide);have I2:Inv X pins σ H1 { s1 with heap:=s1.heap.push { cls:=.type "tuple",data:=.seq [u1,u2].toArray } }:=I1.kept (t':=s1.toks) fun b o e=>aC _ e;rw [hw];refine Wb (aA ?_);show wpAny (model X.prog X.w) X.A (do rule "assign.swapped-stores"; let items ←unpackItems (.ref s1.heap.objs.size) 2 none;assignInOrder [fun v=>bindName X.env y v,fun v=>bindName X.env x v] items.reverse;pure Flow.next) _ _ _;refine Wb (wpAny_rule (Wb (unpackItems_tuple (items:=#[u1,u2]) (I.ok.hd hc) (IsTup.new s1.heap _) fun h' hx'=>?_)));have I3:=I2.kept (h':=h') (t':=s1.toks) fun b o e=>hx' b o (aK (aF e)) e;show wpAny _ _ (assignInOrder [fun v=>bindName X.env y v,fun v=>bindName X.env x v] [u2,u1]>>=fun _=>pure Flow.next) _ _ _;refine Wb (assignInOrder_cons (wpAny_bindName (Hr I3 hN hj (.inl hy) rw' (fun s2 I4=>?_) (.inr hy))));refine assignInOrder_cons (wpAny_bindName (Hr I4 hN hi (.inl hx) rv (fun s3 I5=>assignInOrder_nil (aA ?_)) (.inr hx)));rw [List.set_comm _ _ (Ne.symm hij)]at I5;exact⟨_,H1,I5,q1⟩
end
section
variable{X:Cx}{pos:Pos}
def SS(c:TT)(tb:TS):TS:=fun D σ H=>∃W:Nat→St→Hp→Prop,(∃m,W m σ H)∧∀m σ H,W m σ H →
 c σ H fun b H1=>if b=true then ∃N:St→Hp→Prop,(∀σ' H',N σ' H'→∃m',m'<m∧W m' σ' H')∧tb { D with nx:=N,ct:=N,bk:=D.nx } σ H1 else D.nx σ H1
def Kp{c:Expr}{body:List Stmt}{tc:TT}{tb:TS}(hp:PassesOwn (model X.prog X.w) X.A X.env X.xe)(hc:PT X c tc)(hb:G8 X body tb):PS X (.While c body [] pos) (SS tc tb):=by
 intro pins s σ H D I h;obtain⟨W,⟨m0,w0⟩,turn⟩:=h;refine wpAny_While (codeAny_whileLoop (fun n s'=>∃σ' H',Inv X pins σ' H' s'∧W n σ' H') ?_ m0 ⟨σ,H,I,w0⟩);rintro n s1 ⟨σ1,H1,I1,w1⟩;refine wpAny_passesOwn hp (Az (hc pins s1 σ1 H1 _ I1 (turn n σ1 H1 w1)) fun b s2 ⟨H2,I2,q2⟩=>?_);cases b with
 |true =>
  obtain⟨N,hN,q2⟩:=q2;rw [if_pos rfl];refine wpAny_passesOwn hp (Az (hb pins s2 σ1 H2 _ I2 q2) fun f s3 q3=>?_);cases f with
  |next =>
   obtain⟨σ3,H3,I3,n3⟩:=q3;obtain⟨m',hm,w3⟩:=hN σ3 H3 n3;exact⟨m',hm,σ3,H3,I3,w3⟩
  |cont =>
   obtain⟨σ3,H3,I3,n3⟩:=q3;obtain⟨m',hm,w3⟩:=hN σ3 H3 n3;exact⟨m',hm,σ3,H3,I3,w3⟩
  |brk=>exact q3
  |ret v=>exact q3
 |false =>
  rw [if_neg aI];exact wpAny_execs_nil ⟨σ1,H2,I2,q2⟩
end
structure It where
 go:Nat→Hp→Prop
 DZ:Nat→Hp→V→Hp→Prop
 stop:Nat→Hp→Prop
def HD(X:Cx)(pins:List (AD×Obj))(H:Hp)(b:AD):Prop :=
 H b=none∧b≠X.env.locals∧b ∉ X.fs∧(b∈X.ex∨X.s₀.heap.objs.size≤b)∧(∀x c,X.env.cells.lookup x=some c→c≠b)∧∀p∈X.pn++pins,p.1≠b
def Inv.MI{X:Cx}{pins:List (AD×Obj)}{σ:St}{H H':Hp}{s:SD}{b:AD}(I:Inv X pins σ H s)(hb:s.heap.objs.size≤b)(hn:H' b=none):HD X pins H' b:=by
 refine⟨hn,Nat.ne_of_gt (aH I.lt hb),I.bh hb,.inr (aM I.sz hb),fun x c e z=>?_,fun p hp z=>?_⟩
 ·obtain⟨v,q⟩:=I.cell x c e;exact absurd (aH q.lt (by rw [z];exact hb)) (Nat.lt_irrefl _)
 ·exact absurd (aH (aF (I.pin p hp).1) (by rw [z];exact hb)) (Nat.lt_irrefl _)
structure Turn(P:Program)(w:World)(K:Fg)(tg:Expr)(J:It)(fp:List Addr)(it:Addr)(tn:Nat→Heap→Prop):Prop where
 mem:it∈fp
 obj:∀i h,tn i h→∀b∈fp,∃o,h.get? b=some o∧∀v,o.data≠.cell v
 keep:∀i h h',tn i h→(∀b∈fp,∀o,h.get? b=some o→h'.get? b=some o)→tn i h'
 item:∀(X:Cx),X.prog=P→X.w=w→X.K=K→X.calm=true→∀(i:Nat) (pins:List (Addr×Obj)) (s:Shared) (σ:St) (H:Hp) (E:Value→Shared→Prop),Inv X pins σ H s→(∀b∈fp,HD X pins H b)→tn i s.heap→J.go i H →
  wpAny (model P w) X.A (pyNext (.ref it)) (fun r s1=>∃u,r=some u ∧
   wpAny (model P w) X.A (letOwnedTupleGo tg (.ref it) u) (fun _ s2=>∃x H',Inv X pins σ H' s2∧RelV x u∧J.DZ i H x H'∧tn (i+1) s2.heap∧∀b∈fp,H' b=none) E s1) E s
 done:∀(X:Cx),X.prog=P→X.w=w→X.K=K→X.calm=true→∀(i:Nat) (pins:List (Addr×Obj)) (s:Shared) (σ:St) (H:Hp) (E:Value→Shared→Prop),Inv X pins σ H s→(∀b∈fp,HD X pins H b)→tn i s.heap→J.stop i H →
  wpAny (model P w) X.A (pyNext (.ref it)) (fun r s1=>r=none∧Inv X pins σ H s1) E s
 self:∀(A:Around) (i:Nat) (s:Shared) (Q:Value→Shared→Prop) (E:Value→Shared→Prop),tn i s.heap→Q (.ref it) s→wpAny (model P w) A (pyIter (.ref it)) Q E s
abbrev TI:=St→Hp→(It→Hp→Prop)→Prop
def a9(X:Cx)(pins:List (AD×Obj))(σ:St)(tg:Expr)(R:It→Hp→Prop)(itv:VL)(s2:SD):Prop :=
 ∃(it:AD) (fp:List AD) (tn:Nat→Heap→Prop) (J:It) (H':Hp),itv=.ref it∧Inv X pins σ H' s2∧Turn X.prog X.w X.K tg J fp it tn∧tn 0 s2.heap∧(∀b∈fp,HD X pins H' b)∧R J H'
def PI(X:Cx)(tg iter:Expr)(wi:TI):Prop :=
 ∀(pins:List (AD×Obj)) (s:SD) (σ:St) (H:Hp) (R:It→Hp→Prop),Inv X pins σ H s→wi σ H R →
  wpAny (model X.prog X.w) X.A (eval iter X.env) (fun v s1=>wpAny (model X.prog X.w) X.A (pyIter v) (a9 X pins σ tg R) X.xe s1) X.xe s
def RV{M:Model}{A:Around}{E:VL→SD→Prop}{s:SD}{tg:Expr}{it:AD}{u:VL}{o:Obj}{n:String}{vs:Array VL}{Q:Unit→SD→Prop}(ho:s.heap.get? it=some o)(hc:o.cls=.type n)(hd:o.data=.fields vs)
 (hn:["enumerate", "zip", "dict_itemiterator", "dict_reverseitemiterator", "odict_iterator", "itertools.zip_longest", "itertools.pairwise"].contains n=false)(hQ:Q () s):wpAny M A (letOwnedTupleGo tg (.ref it) u) Q E s:=by
 unfold letOwnedTupleGo;cases tg<;>first
  |exact aA hQ
  |(cases u<;>first
    |exact aA hQ
    |(refine Wb (wpAny_load ho ?_)
      rw [hc,hd];show wpAny M A (if(["enumerate", "zip", "dict_itemiterator", "dict_reverseitemiterator", "odict_iterator", "itertools.zip_longest", "itertools.pairwise"].contains n&&vs[0]? == some (rawInt _))=true then _ else _) Q E s;rw [if_neg (by intro h;rw [hn,Bool.false_and]at h;cases h)];exact aA hQ))
def QE(K:Fg)(a:AD):It :=
 ⟨fun i H=>∃xs x,AZ K H a xs∧xs[i]? = some x,fun i H x H'=>H'=H∧∀xs,AZ K H a xs→xs[i]? = some x,fun i H=>∃xs,AZ K H a xs∧xs.length≤i⟩
def Qe(K:Fg)(a:AD):It :=
 ⟨fun i H=>∃xs x,Ag K H a xs∧xs[i]? = some x,fun i H x H'=>H'=H∧∀xs,Ag K H a xs→xs[i]? = some x,fun i H=>∃xs,Ag K H a xs∧xs.length≤i⟩
def NA(lo:Int)(n:Nat):It:=⟨fun i _=>i<n,fun i H x H'=>H'=H∧x=.int (lo+i),fun i _=>n≤i⟩
def Sx{P:Program}{w:World}{K:Fg}{tg:Expr}(a it:AD):Turn P w K tg (QE K a) [it] it (fun i h=>h.IsListIter it a i) where
 mem:=by simp
 obj:=fun i h st b hb=>by
  have e:b=it:=by simpa using hb
  subst e;obtain⟨o,e,c,d⟩:=st;exact⟨o,e,fun v z=>by rw [d]at z;cases z⟩
 keep:=fun i h h' st k=>st.at fun o e=>k it (by simp) o e
 item:=by
  intro X hP hw hK hc i pins s σ H E I hf st hg;subst hP hw hK;obtain⟨xs,x,hq,hx⟩:=hg;obtain⟨its,rv,p,hz⟩:=I.list hq;obtain⟨u,hu,ru⟩:=rv.get hx;obtain⟨f0,f1,f2,f3,f4,f5⟩:=hf it (by simp);refine wpAny_pyNext_list_item st p.isList (x:=u) (by simpa using hu) fun h' st' sb=>?_;have I1:Inv X pins σ H { s with heap:=h' }:=I.turned (t':=s.toks) (fun b o hb e=>(sb.2 b hb).trans e) f0 f1 f3 f4 f5;obtain⟨o,e,c,d⟩:=id st';exact⟨u,rfl,RV (s:={ s with heap:=h' }) e c d (by decide) ⟨x,H,I1,ru,⟨rfl,fun ys hy=>by rw [I.N0 hy hq];exact hx⟩,st',fun b hb=>(hf b hb).1⟩⟩
 done:=by
  intro X hP hw hK hc i pins s σ H E I hf st hg;subst hP hw hK;obtain⟨xs,hq,hx⟩:=hg;obtain⟨its,rv,p,hz⟩:=I.list hq;obtain⟨f0,f1,f2,f3,f4,f5⟩:=hf it (by simp);have hl:=rv.length;exact wpAny_pyNext_list_end (I.ok.hd hc) st p.isList (by simp;omega) fun h' eb=>⟨rfl,I.turned (t':=s.toks) (fun b o hb e=>eb b o hb e) f0 f1 f3 f4 f5⟩
 self:=fun _ _ _ _ _ st h=>wpAny_pyIter_listiter st h
def RL{P:Program}{w:World}{K:Fg}{tg:Expr}(a it:AD):Turn P w K tg (Qe K a) [it] it (fun i h=>h.IsTupleIter it a i) where
 mem:=by simp
 obj:=fun i h st b hb=>by
  have e:b=it:=by simpa using hb
  subst e;obtain⟨o,e,c,d⟩:=st;exact⟨o,e,fun v z=>by rw [d]at z;cases z⟩
 keep:=fun i h h' st k=>st.at fun o e=>k it (by simp) o e
 item:=by
  intro X hP hw hK hc i pins s σ H E I hf st hg;subst hP hw hK;obtain⟨xs,x,hq,hx⟩:=hg;obtain⟨its,rv,p,hz⟩:=I.tuple hq;obtain⟨u,hu,ru⟩:=rv.get hx;obtain⟨f0,f1,f2,f3,f4,f5⟩:=hf it (by simp);refine wpAny_pyNext_tuple_item st (show s.heap.IsTuple a its.toArray from p) (x:=u) (by simpa using hu) fun h' st' sb=>?_;have I1:Inv X pins σ H { s with heap:=h' }:=I.turned (t':=s.toks) (fun b o hb e=>(sb.2 b hb).trans e) f0 f1 f3 f4 f5;obtain⟨o,e,c,d⟩:=id st';exact⟨u,rfl,RV (s:={ s with heap:=h' }) e c d (by decide) ⟨x,H,I1,ru,⟨rfl,fun ys hy=>by rw [I.M9 hy hq];exact hx⟩,st',fun b hb=>(hf b hb).1⟩⟩
 done:=by
  intro X hP hw hK hc i pins s σ H E I hf st hg;subst hP hw hK;obtain⟨xs,hq,hx⟩:=hg;obtain⟨its,rv,p,hz⟩:=I.tuple hq;obtain⟨f0,f1,f2,f3,f4,f5⟩:=hf it (by simp);have hl:=rv.length;exact wpAny_pyNext_tuple_end (I.ok.hd hc) st (show s.heap.IsTuple a its.toArray from p) (by simp;omega) fun h' eb=>⟨rfl,I.turned (t':=s.toks) (fun b o hb e=>eb b o hb e) f0 f1 f3 f4 f5⟩
 self:=fun _ _ _ _ _ st h=>wpAny_pyIter_tupleiter st h
def Q8{P:Program}{w:World}{K:Fg}{tg:Expr}(it:AD)(lo:Int)(n:Nat):Turn P w K tg (NA lo n) [it] it (fun i h=>IsRangeIter h it (lo+(i:Nat)*1) ((n:Int)-(i:Nat)) 1) where
 mem:=by simp
 obj:=fun i h st b hb=>by
  have e:b=it:=by simpa using hb
  subst e;exact⟨_,st,fun v z=>by
   have z':Data.fields _=Data.cell v:=z;cases z'⟩
 keep:=fun i h h' st k=>k it (by simp) _ st
 item:=by
  intro X hP hw hK hc i pins s σ H E I hf st hg;subst hP hw hK;obtain⟨f0,f1,f2,f3,f4,f5⟩:=hf it (by simp);have W:=Walks.range (prog:=X.prog) (w:=X.w) (I.ok.hd hc) it lo 1 n;refine W.item i s _ _ hg st fun v h' tk hv st' kk=>?_;obtain⟨t,rfl⟩:=hv;have I1:Inv X pins σ H { s with heap:=h',toks:=tk }:=I.turned (fun b o hb e=>kk b o (by simpa using hb) e) f0 f1 f3 f4 f5;refine⟨_,rfl,RV (s:={ s with heap:=h',toks:=tk }) (n := "range_iterator") st' rfl rfl (by decide) ⟨.int (lo+i),H,I1,⟨t,?_⟩,⟨rfl,rfl⟩,st',fun b hb=>(hf b hb).1⟩⟩;rw [Int.mul_one]
 done:=by
  intro X hP hw hK hc i pins s σ H E I hf st hg;subst hP hw hK;obtain⟨f0,f1,f2,f3,f4,f5⟩:=hf it (by simp);exact wpAny_pyNext_range_end (I.ok.hd hc) st (by have:n≤i:=hg;omega) fun h' eb=>⟨rfl,I.turned (t':=s.toks) (fun b o hb e=>eb b o hb e) f0 f1 f3 f4 f5⟩
 self:=fun _ _ _ _ _ st h=>wpAny_pyIter_rangeiter st h
section
variable{X:Cx}{tg:Expr}
def ZH(K:Fg)(tl:TE):TI:=fun σ H R=>tl σ H fun x H1=>∃a,x=.ref a∧(∃xs,AZ K H1 a xs)∧R (QE K a) H1
def cw(K:Fg)(tl:TE):TI:=fun σ H R=>tl σ H fun x H1=>∃a,x=.ref a∧(∃xs,Ag K H1 a xs)∧R (Qe K a) H1
def CB{l:Expr}{tl:TE}(hl:PE X l tl):PI X tg l (ZH X.K tl):=by
 intro pins s σ H R I h;refine Az (hl pins s σ H _ I h) fun v s1 ⟨x,H1,I1,r1,q1⟩=>?_;obtain⟨a,e,⟨xs,hq⟩,q⟩:=q1;subst e;cases r1;obtain⟨its,rv,p,hz⟩:=I1.list hq;refine wpAny_pyIter_list p.isList ?_;refine⟨s1.heap.objs.size,[s1.heap.objs.size],_,_,H1,rfl,I1.kept (t':=s1.toks) fun b o e=>aC _ e,Sx a _,⟨_,Heap.get?_push_size _ rfl,rfl,rfl⟩,fun b hb=>?_,q⟩;have e:b=s1.heap.objs.size:=by simpa using hb
 subst e;exact I1.MI (aE _) (I1.Ah.fresh (aE _))
def Nx{l:Expr}{tl:TE}(hl:PE X l tl):PI X tg l (cw X.K tl):=by
 intro pins s σ H R I h;refine Az (hl pins s σ H _ I h) fun v s1 ⟨x,H1,I1,r1,q1⟩=>?_;obtain⟨a,e,⟨xs,hq⟩,q⟩:=q1;subst e;cases r1;obtain⟨its,rv,p,hz⟩:=I1.tuple hq;refine wpAny_pyIter_tuple (show s1.heap.IsTuple a its.toArray from p) ?_;refine⟨s1.heap.objs.size,[s1.heap.objs.size],_,_,H1,rfl,I1.kept (t':=s1.toks) fun b o e=>aC _ e,RL a _,⟨_,Heap.get?_push_size _ rfl,rfl,rfl⟩,fun b hb=>?_,q⟩;have e:b=s1.heap.objs.size:=by simpa using hb
 subst e;exact I1.MI (aE _) (I1.Ah.fresh (aE _))
def Ot{pins:List (AD×Obj)}{σ:St}{H:Hp}{s:SD}{R:It→Hp→Prop}{E:VL→SD→Prop}{lo hi:Int}{t u v:Tok}{tk:Nat}(I:Inv X pins σ H s)(h1:-(2^62)≤lo)(h2:lo<2^62)(h3:-(2^62)≤hi)(h4:hi<2^62)
 (q:R (NA lo (hi-lo).toNat) H):wpAny (model X.prog X.w) X.A (pyIter (.ref s.heap.objs.size)) (a9 X pins σ tg R) E { s with heap:=s.heap.push { cls:=.type "range",data:=.fields #[.int lo t,.int hi u,.int 1 v] },toks:=tk }:=by
 refine wpAny_pyIter_range (IsRange.new ..) (small_one h1 h2 h3 h4) ?_;have I1:Inv X pins σ H { s with heap:=s.heap.push { cls:=.type "range",data:=.fields #[.int lo t,.int hi u,.int 1 v] },toks:=tk }:=I.kept fun b o e=>aC _ e;refine⟨(s.heap.push { cls:=.type "range",data:=.fields #[.int lo t,.int hi u,.int 1 v] }).objs.size,[(s.heap.push { cls:=.type "range",data:=.fields #[.int lo t,.int hi u,.int 1 v] }).objs.size],_,_,H,rfl,
  I1.kept (t':=tk) fun b o e=>aC _ e,Q8 _ lo (hi-lo).toNat,?_,fun b hb=>?_,q⟩
 ·have e1:lo+((0:Nat):Int)*1=lo:=by simp
  have e2:(((hi-lo).toNat:Nat):Int)-((0:Nat):Int)=Builtin.Range.rangeSize lo hi 1:=by rw [rangeSize_one];split<;>omega
  show IsRangeIter _ _ (lo+((0:Nat):Int)*1) ((((hi-lo).toNat:Nat):Int)-((0:Nat):Int)) 1;rw [e1,e2];exact aN _ rfl
 ·have e:b=(s.heap.push { cls:=.type "range",data:=.fields #[.int lo t,.int hi u,.int 1 v] }).objs.size:=by simpa using hb
  subst e;exact I1.MI (aE _) (I1.Ah.fresh (aE _))
def Zv(ta:TA):TI:=fun σ H R=>ta σ H fun vs H1=>∃j:Int,vs=[.int j]∧-(2^62)≤j∧j<2^62∧R (NA 0 j.toNat) H1
def Zh(ta:TA):TI:=fun σ H R=>ta σ H fun vs H1=>∃i j:Int,vs=[.int i,.int j]∧(-(2^62)≤i∧i<2^62∧-(2^62)≤j∧j<2^62)∧R (NA i (j-i).toNat) H1
def JG{a:Expr}{ta:TA}{p pos:Pos}(hg:Gl X "range")(hm:X.mg "range" = none)(ha:PA X [a] ta)(hs:starEach [a] X.env=[(false,eval a X.env)]:=by rfl):PI X tg (.Call (.Name "range" p) [a] [] pos) (Zv ta):=by
 intro pins s σ H R I h;refine Call_ (Fe I hg hm boot_range (aw (Az (ha pos pins s σ H _ I h) fun us s1 ⟨vs,H1,I1,r1,q1⟩=>?_) hs rfl));obtain⟨j,e,q1,q2,q⟩:=q1;subst e;cases r1 with
 |cons r rr =>
  cases rr;obtain⟨t,rfl⟩:=r;exact call_range_1 (Ot I1 (by omega) (by omega) q1 q2 (by simpa using q))
def Sw{a b:Expr}{ta:TA}{p pos:Pos}(hg:Gl X "range")(hm:X.mg "range" = none)(ha:PA X [a,b] ta)(hs:starEach [a,b] X.env=[(false,eval a X.env),(false,eval b X.env)]:=by rfl)(hs2:starEach [b] X.env=[(false,eval b X.env)]:=by rfl) :
  PI X tg (.Call (.Name "range" p) [a,b] [] pos) (Zh ta):=by
 intro pins s σ H R I h;refine Call_ (Fe I hg hm boot_range (aw (Az (ha pos pins s σ H _ I h) fun us s1 ⟨vs,H1,I1,r1,q1⟩=>?_) (by rw [hs,hs2]) (by rw [hs2];rfl)));obtain⟨i,j,e,⟨q1,q2,q3,q4⟩,q⟩:=q1;subst e;cases r1 with
 |cons r rr =>
  cases rr with
  |cons r' rr =>
   cases rr;obtain⟨t,rfl⟩:=r;obtain⟨t',rfl⟩:=r';exact call_range_2 (Ot I1 q1 q2 q3 q4 q)
def b0(wi:TI)(g:TG)(tb:TS):TS:=fun D σ H=>wi σ H fun J H1=>∃W:Nat→Nat→St→Hp→Prop,(∃m,W 0 m σ H1)∧∀i m σ H,W i m σ H →
 (J.stop i H∧D.nx σ H)∨(J.go i H∧∃N:St→Hp→Prop,(∀σ' H',N σ' H'→∃m',m'<m∧W (i+1) m' σ' H')∧∀x H',J.DZ i H x H'→g x σ H' fun σ2 H2=>tb { D with nx:=N,ct:=N,bk:=D.nx } σ2 H2)
def JM(fp:List AD)(h:Heap):List (AD×Obj):=fp.filterMap fun b=>(h.get? b).map fun o=>(b,o)
def F9{fp:List AD}{h:Heap}{b:AD}{o:Obj}(hb:b∈fp)(e:h.get? b=some o):(b,o)∈JM fp h:=List.mem_filterMap.mpr ⟨b,hb,by rw [e];rfl⟩
def TL{fp:List AD}{h:Heap}{p:AD×Obj}(hp:p∈JM fp h):p.1∈fp∧h.get? p.1=some p.2:=by
 obtain⟨b,hb,e⟩:=List.mem_filterMap.mp hp;cases q:h.get? b with
 |none=>rw [q]at e;cases e
 |some o =>
  rw [q]at e;have e':(b,o)=p:=ag e;subst e';exact⟨hb,q⟩
def Inv.pinned{pins:List (AD×Obj)}{σ:St}{H:Hp}{s:SD}{fp:List AD}(I:Inv X pins σ H s)(hf:∀b∈fp,HD X pins H b)(ho:∀b∈fp,∃o,s.heap.get? b=some o∧∀v,o.data≠.cell v):Inv X (pins++JM fp s.heap) σ H s :=
 I.QB fun p hp=>(bD.mp hp).elim (fun z=>I.pin p (aS _ z)) fun z=>by
  obtain⟨hb,e⟩:=TL z;obtain⟨f0,f1,f2,_⟩:=hf p.1 hb;obtain⟨o,e',d⟩:=ho p.1 hb;rw [e]at e';cases e';exact⟨e,f0,f1,f2,d⟩
def Inv.IH{pins pl:List (AD×Obj)}{σ:St}{H:Hp}{s:SD}(I:Inv X (pins++pl) σ H s):Inv X pins σ H s:=I.QB fun p hp=>I.pin p (aS _ (List.mem_append_left _ hp))
def DR{iter:Expr}{body:List Stmt}{wi:TI}{g:TG}{tb:TS}{pos:Pos}(hp:PassesOwn (model X.prog X.w) X.A X.env X.xe)(hc:X.calm=true)(hi:PI X tg iter wi)(hg:PG X tg g)(hb:G8 X body tb)
 (hs:∀x,foldedSetIterable iter X.env x=pure x:=by intro _;rfl):PS X (.For tg iter body [] pos) (b0 wi g tb):=by
 intro pins s σ H D I h;refine wpAny_For (Az (hi pins s σ H _ I h) fun v s1 h1=>Az h1 fun itv s2 h2=>?_) hs;obtain⟨it,fp,tn,J,H2,e,I2,T,st2,f2,W,⟨m0,w0⟩,turn⟩:=h2;subst e;have stat:∀ {H':Hp},(∀b∈fp,H' b=none)→∀b∈fp,HD X pins H' b:=fun hn b hb=>⟨hn b hb,(f2 b hb).2⟩;refine codeAny_forLoop_any (fun n s'=>∃i σ' H',Inv X pins σ' H' s'∧tn i s'.heap∧(∀b∈fp,H' b=none)∧W i n σ' H') ?_ m0 ⟨0,σ,H2,I2,st2,fun b hb=>(f2 b hb).1,w0⟩;rintro n s3 ⟨i,σ3,H3,I3,st3,fr3,w3⟩;rcases turn i n σ3 H3 w3 with ⟨stop,qn⟩|⟨go,N,hN,step⟩
 ·refine wpAny_passesOwn hp (Az (T.done X rfl rfl rfl hc i pins s3 σ3 H3 X.xe I3 (stat fr3) st3 stop) fun r s4 ⟨hr,I4⟩=>?_);subst hr;exact wpAny_execs_nil ⟨σ3,H3,I4,qn⟩
 ·refine wpAny_passesOwn hp (Az (T.item X rfl rfl rfl hc i pins s3 σ3 H3 X.xe I3 (stat fr3) st3 go) fun r s4 ⟨u,hr,h4⟩=>?_);subst hr;refine wpAny_passesOwn hp (Az h4 fun _ s5 ⟨x,H5,I5,r5,y5,st5,fr5⟩=>?_);have I5':=I5.pinned (stat fr5) (T.obj _ _ st5);refine wpAny_passesOwn hp (Az (hg _ s5 σ3 H5 x u _ I5' r5 (step x H5 y5)) fun _ s6 ⟨σ6,H6,I6,q6⟩=>?_);refine wpAny_passesOwn hp (Az (hb _ s6 σ6 H6 _ I6 q6) fun f s7 q7=>?_);have again:∀ {σ7:St} {H7:Hp},Inv X (pins++JM fp s5.heap) σ7 H7 s7→N σ7 H7→∃m,m<n∧∃i σ' H',Inv X pins σ' H' s7∧tn i s7.heap∧(∀b∈fp,H' b=none)∧W i m σ' H':=fun {σ7 H7} I7 n7=>by
   obtain⟨m',hm,w7⟩:=hN σ7 H7 n7;refine⟨m',hm,i+1,σ7,H7,I7.IH,T.keep _ _ _ st5 fun b hb o e=>(I7.pin (b,o) (aS _ (aS _ (F9 hb e)))).1,fun b hb=>?_,w7⟩;obtain⟨o,e,d⟩:=T.obj _ _ st5 b hb;exact(I7.pin (b,o) (aS _ (aS _ (F9 hb e)))).2.1
  cases f with
  |next=>obtain⟨σ7,H7,I7,n7⟩:=q7;exact again I7 n7
  |cont=>obtain⟨σ7,H7,I7,n7⟩:=q7;exact again I7 n7
  |brk=>obtain⟨σ7,H7,I7,q7⟩:=q7;exact⟨σ7,H7,I7.IH,q7⟩
  |ret v=>obtain⟨x7,σ7,H7,I7,r7,q7⟩:=q7;exact⟨x7,σ7,H7,I7.IH,r7,q7⟩
end
def GY{K:Fg}{a:AD}{xs:List V}{g:TG}{tb:TS}{D:Ends}{σ:St}{H:Hp}(Pv:Nat→St→Hp→Prop)(h0:Pv 0 σ H)(hl:∀i σ H,i≤xs.length→Pv i σ H→AZ K H a xs)
 (hs:∀i x σ H,xs[i]? = some x→Pv i σ H→g x σ H fun σ2 H2=>tb { D with nx:=Pv (i+1),ct:=Pv (i+1),bk:=D.nx } σ2 H2)(hd:∀σ H,Pv xs.length σ H→D.nx σ H) :
  ∃W:Nat→Nat→St→Hp→Prop,(∃m,W 0 m σ H)∧∀i m σ H,W i m σ H →
   ((QE K a).stop i H∧D.nx σ H)∨((QE K a).go i H∧∃N:St→Hp→Prop,(∀σ' H',N σ' H'→∃m',m'<m∧W (i+1) m' σ' H')∧∀x H',(QE K a).DZ i H x H'→g x σ H' fun σ2 H2=>tb { D with nx:=N,ct:=N,bk:=D.nx } σ2 H2):=by
 refine⟨fun i m σ H=>m=xs.length-i∧i≤xs.length∧Pv i σ H,⟨xs.length,by simp,Nat.zero_le _,h0⟩,?_⟩;rintro i m σ H ⟨rfl,hi,p⟩;have q:=hl i σ H hi p;by_cases hlt:i<xs.length
 ·refine .inr ⟨⟨xs,xs[i],q,by simp [hlt]⟩,Pv (i+1),fun σ' H' p'=>⟨xs.length-(i+1),by omega,rfl,hlt,p'⟩,fun x H' y=>?_⟩;obtain⟨e,y⟩:=y;subst e;exact hs i x σ _ (y xs q) p
 ·have e:i=xs.length:=by omega
  subst e;exact .inl ⟨⟨xs,q,Nat.le_refl _⟩,hd σ H p⟩
def Vp{K:Fg}{a:AD}{xs:List V}{g:TG}{tb:TS}{D:Ends}{σ:St}{H:Hp}(Pv:Nat→St→Hp→Prop)(h0:Pv 0 σ H)(hl:∀i σ H,i≤xs.length→Pv i σ H→Ag K H a xs)
 (hs:∀i x σ H,xs[i]? = some x→Pv i σ H→g x σ H fun σ2 H2=>tb { D with nx:=Pv (i+1),ct:=Pv (i+1),bk:=D.nx } σ2 H2)(hd:∀σ H,Pv xs.length σ H→D.nx σ H) :
  ∃W:Nat→Nat→St→Hp→Prop,(∃m,W 0 m σ H)∧∀i m σ H,W i m σ H →
   ((Qe K a).stop i H∧D.nx σ H)∨((Qe K a).go i H∧∃N:St→Hp→Prop,(∀σ' H',N σ' H'→∃m',m'<m∧W (i+1) m' σ' H')∧∀x H',(Qe K a).DZ i H x H'→g x σ H' fun σ2 H2=>tb { D with nx:=N,ct:=N,bk:=D.nx } σ2 H2):=by
 refine⟨fun i m σ H=>m=xs.length-i∧i≤xs.length∧Pv i σ H,⟨xs.length,by simp,Nat.zero_le _,h0⟩,?_⟩;rintro i m σ H ⟨rfl,hi,p⟩;have q:=hl i σ H hi p;by_cases hlt:i<xs.length
 ·refine .inr ⟨⟨xs,xs[i],q,by simp [hlt]⟩,Pv (i+1),fun σ' H' p'=>⟨xs.length-(i+1),by omega,rfl,hlt,p'⟩,fun x H' y=>?_⟩;obtain⟨e,y⟩:=y;subst e;exact hs i x σ _ (y xs q) p
 ·have e:i=xs.length:=by omega
  subst e;exact .inl ⟨⟨xs,q,Nat.le_refl _⟩,hd σ H p⟩
def M1{lo:Int}{n:Nat}{g:TG}{tb:TS}{D:Ends}{σ:St}{H:Hp}(Pv:Nat→St→Hp→Prop)(h0:Pv 0 σ H)
 (hs:∀i σ H,i<n→Pv i σ H→g (.int (lo+i)) σ H fun σ2 H2=>tb { D with nx:=Pv (i+1),ct:=Pv (i+1),bk:=D.nx } σ2 H2)(hd:∀σ H,Pv n σ H→D.nx σ H) :
  ∃W:Nat→Nat→St→Hp→Prop,(∃m,W 0 m σ H)∧∀i m σ H,W i m σ H →
   ((NA lo n).stop i H∧D.nx σ H)∨((NA lo n).go i H∧∃N:St→Hp→Prop,(∀σ' H',N σ' H'→∃m',m'<m∧W (i+1) m' σ' H')∧∀x H',(NA lo n).DZ i H x H'→g x σ H' fun σ2 H2=>tb { D with nx:=N,ct:=N,bk:=D.nx } σ2 H2):=by
 refine⟨fun i m σ H=>m=n-i∧i≤n∧Pv i σ H,⟨n,by simp,Nat.zero_le _,h0⟩,?_⟩;rintro i m σ H ⟨rfl,hi,p⟩;by_cases hlt:i<n
 ·refine .inr ⟨hlt,Pv (i+1),fun σ' H' p'=>⟨n-(i+1),by omega,rfl,hlt,p'⟩,fun x H' y=>?_⟩;obtain⟨e,y⟩:=y;subst e y;exact hs i σ _ hlt p
 ·have e:i=n:=by omega
  subst e;exact .inl ⟨aE _,hd σ H p⟩
def Kf{c:TT}{tb:TS}{D:Ends}{σ:St}{H:Hp}(Pv:St→Hp→Prop)(μ:St→Hp→Nat)(h0:Pv σ H)
 (hs:∀σ H,Pv σ H→c σ H fun b H1=>if b=true then tb { D with nx:=fun σ' H'=>Pv σ' H'∧μ σ' H'<μ σ H,ct:=fun σ' H'=>Pv σ' H'∧μ σ' H'<μ σ H,bk:=D.nx } σ H1 else D.nx σ H1)
 (mono:∀σ H Q Q',(∀b H1,Q b H1→Q' b H1)→c σ H Q→c σ H Q'):SS c tb D σ H:=by
 refine⟨fun m σ H=>m=μ σ H∧Pv σ H,⟨_,rfl,h0⟩,?_⟩;rintro m σ H ⟨rfl,p⟩;refine mono σ H _ _ (fun b H1 q=>?_) (hs σ H p);cases b with
 |true=>exact⟨_,fun σ' H' ⟨p',l⟩=>⟨_,l,rfl,p'⟩,q⟩
 |false=>exact q
abbrev R2:=V→V→Hp→VK→Prop
def Bm(X:Cx)(f:VL→VL→Sem VL)(r:R2):Prop :=
 ∀(pins:List (AD×Obj)) (s:SD) (σ:St) (H:Hp) (x y:V) (v u:VL) (Q:VK),Inv X pins σ H s→RelV x v→RelV y u→r x y H Q →
  wpAny (model X.prog X.w) X.A (f v u) (EP X pins σ Q) X.xe s
def W0(X:Cx)(f:VL→Sem VL)(r:V→Hp→VK→Prop):Prop :=
 ∀(pins:List (AD×Obj)) (s:SD) (σ:St) (H:Hp) (x:V) (v:VL) (Q:VK),Inv X pins σ H s→RelV x v→r x H Q →
  wpAny (model X.prog X.w) X.A (f v) (EP X pins σ Q) X.xe s
def Df(X:Cx)(f:VL)(r:List V→Hp→VK→Prop):Prop :=
 ∀(pins:List (AD×Obj)) (s:SD) (σ:St) (H:Hp) (xs:List V) (us:List VL) (Q:VK),Inv X pins σ H s→Vals xs us→r xs H Q →
  wpAny (model X.prog X.w) X.A (call f us) (EP X pins σ Q) X.xe s
def Te(r:R2)(ta tb:TE):TE:=fun σ H Q=>ta σ H fun x H1=>tb σ H1 fun y H2=>r x y H2 Q
def dY(r:V→Hp→VK→Prop)(ta:TE):TE:=fun σ H Q=>ta σ H fun x H1=>r x H1 Q
def rI(C:Int→Int→Prop)(g:Int→Int→V):R2:=fun x y H Q=>∃i j,x=.int i∧y=.int j∧C i j∧Q (g i j) H
def Mp(g:Int→Int→V):R2:=fun x y H Q=>∃i j,x=.int i∧y=.int j∧Q (g i j) H
def rU(g:Int→V):V→Hp→VK→Prop:=fun x H Q=>∃i,x=.int i∧Q (g i) H
section
variable{X:Cx}{a b c:Expr}{ta tb tc:TE}{pos:Pos}
def Ug(ha:PE X a ta)(hb:PE X b tb){pins:List (AD×Obj)}{s:SD}{σ:St}{H:Hp}{R:V→V→Hp→Prop}(I:Inv X pins σ H s)
 (h:ta σ H fun x H1=>tb σ H1 fun y H2=>R x y H2){Q:VL→SD→Prop}{f:VL→VL→Sem VL}
 (hf:∀v u s2 x y H2,Inv X pins σ H2 s2→RelV x v→RelV y u→R x y H2→wpAny (model X.prog X.w) X.A (f v u) Q X.xe s2) :
  wpAny (model X.prog X.w) X.A (eval a X.env) (fun v s₁=>wpAny (model X.prog X.w) X.A (eval b X.env) (fun u s₂=>wpAny (model X.prog X.w) X.A (f v u) Q X.xe s₂) X.xe s₁) X.xe s:=by
 refine Az (ha pins s σ H _ I h) fun v s1 ⟨x,H1,I1,r1,q1⟩=>?_;refine Az (hb pins s1 σ H1 _ I1 q1) fun u s2 ⟨y,H2,I2,r2,q2⟩=>?_;exact hf v u s2 x y H2 I2 r1 r2 q2
def Au{op:Operator}{r:R2}(ho:Bm X (binaryOp op) r)(ha:PE X a ta)(hb:PE X b tb):PE X (.BinOp a op b pos) (Te r ta tb):=by
 intro pins s σ H Q I h;exact wpAny_BinOp (Ug ha hb I h fun v u s2 x y H2 I2 rx ry q=>ho pins s2 σ H2 x y v u Q I2 rx ry q)
def RB{op:UnaryOp}{r:V→Hp→VK→Prop}(ho:W0 X (unaryOp op) r)(ha:PE X a ta):PE X (.UnaryOp op a pos) (dY r ta):=by
 intro pins s σ H Q I h;exact UnaryOp_ (Az (ha pins s σ H _ I h) fun v s1 ⟨x,H1,I1,r1,q1⟩=>ho pins s1 σ H1 x v Q I1 r1 q1)
def QD{f:VL→VL→Sem VL}{C:Int→Int→Prop}{g:Int→Int→Int}
 (rule:∀(i j:Int) (t u:Tok) (s:SD) (Q:VL→SD→Prop) (E:VL→SD→Prop),C i j→Q (.int (g i j) s.toks) { s with toks:=s.toks+1 }→wpAny (model X.prog X.w) X.A (f (.int i t) (.int j u)) Q E s) :
  Bm X f (rI C fun i j=>.int (g i j)):=by
 intro pins s σ H x y v u Q I rx ry h;obtain⟨i,j,rfl,rfl,hc,q⟩:=h;obtain⟨t,rfl⟩:=rx;obtain⟨t',rfl⟩:=ry;exact rule i j t t' s _ _ hc ⟨.int (g i j),H,I.tok _,⟨_,rfl⟩,q⟩
def XR{f:VL→VL→Sem VL}{g:Int→Int→Int}
 (rule:∀(i j:Int) (t u:Tok) (s:SD) (Q:VL→SD→Prop) (E:VL→SD→Prop),Q (.int (g i j) s.toks) { s with toks:=s.toks+1 }→wpAny (model X.prog X.w) X.A (f (.int i t) (.int j u)) Q E s) :
  Bm X f (Mp fun i j=>.int (g i j)):=by
 intro pins s σ H x y v u Q I rx ry h;obtain⟨i,j,rfl,rfl,q⟩:=h;obtain⟨t,rfl⟩:=rx;obtain⟨t',rfl⟩:=ry;exact rule i j t t' s _ _ ⟨.int (g i j),H,I.tok _,⟨_,rfl⟩,q⟩
def UN{f:VL→VL→Sem VL}{g:Int→Int→Bool}
 (rule:∀(i j:Int) (t u:Tok) (s:SD) (Q:VL→SD→Prop) (E:VL→SD→Prop),Q (.bool (g i j)) s→wpAny (model X.prog X.w) X.A (f (.int i t) (.int j u)) Q E s) :
  Bm X f (Mp fun i j=>.bl (g i j)):=by
 intro pins s σ H x y v u Q I rx ry h;obtain⟨i,j,rfl,rfl,q⟩:=h;obtain⟨t,rfl⟩:=rx;obtain⟨t',rfl⟩:=ry;exact rule i j t t' s _ _ ⟨.bl (g i j),H,I,rfl,q⟩
def cW(i j:Int):Prop:=0<j∧j<1073741824
def cn(i j:Int):Prop:=0≤j∧j≤1000000∧i.natAbs<2^64
def N2(i j:Int):Prop:=(-(2^64)<i∧i<2^64)∨(-(2^64)<j∧j<2^64)
def N2.ok{i j:Int}(h:N2 i j):IntMulOk i j:=by
 rcases h with ⟨h1,h2⟩|⟨h1,h2⟩
 ·exact .of_left (intBits_le_64 h1 h2)
 ·exact .of_right (intBits_le_64 h1 h2)
def JX:Bm X (binaryOp .Add) (Mp fun i j=>.int (i+j)):=XR fun _ _ _ _ _ _ _ q=>add_int q
def JK:Bm X (binaryOp .Sub) (Mp fun i j=>.int (i-j)):=XR fun _ _ _ _ _ _ _ q=>sub_int q
def Dl:Bm X (binaryOp .FloorDiv) (rI cW fun i j=>.int (i / j)):=QD fun i j _ _ _ _ _ hc q=>by
 have h1:(0:Int)<j:=hc.1;have h2:j<1073741824:=hc.2;exact floordiv_int (by omega) (by rw [Int.fdiv_eq_ediv_of_nonneg i (by omega)];exact q) (.inl (PyProof.noPylong_small (by omega)))
def JB:Bm X (binaryOp .Mod) (rI (fun _ j=>0<j) fun i j=>.int (i % j)):=QD fun i j _ _ _ _ _ hc q=>by
 have h1:(0:Int)<j:=hc;exact mod_int' (by omega) (by rw [Int.fmod_eq_emod_of_nonneg i (by omega)];exact q)
def HV:Bm X (binaryOp .Mod) (rI (fun _ j=>j≠0) fun i j=>.int (i.fmod j)):=QD fun _ _ _ _ _ _ _ hc q=>mod_int' hc q
def YE:Bm X (binaryOp .Pow) (rI cn fun i j=>.int (i^j.toNat)):=QD fun _ _ _ _ _ _ _ hc q=>pow_int_small hc.1 hc.2.1 hc.2.2 q
def dG{f:VL→Sem VL}{g:Int→Int}
 (rule:∀(i:Int) (t:Tok) (s:SD) (Q:VL→SD→Prop) (E:VL→SD→Prop),Q (.int (g i) s.toks) { s with toks:=s.toks+1 }→wpAny (model X.prog X.w) X.A (f (.int i t)) Q E s) :
  W0 X f (rU fun i=>.int (g i)):=by
 intro pins s σ H x v Q I rx h;obtain⟨i,rfl,q⟩:=h;obtain⟨t,rfl⟩:=rx;exact rule i t s _ _ ⟨.int (g i),H,I.tok _,⟨_,rfl⟩,q⟩
def Og:W0 X (unaryOp .USub) (rU fun i=>.int (-i)):=dG fun _ _ _ _ _ q=>neg_int q
end
def Xq:V→V→Bool
 |.BG,.BG=>true|.BG,.int _=>true|.int _,.BG=>true|.BG,.bl _=>true|.bl _,.BG=>true|.BG,.str _=>true|.str _,.BG=>true
 |.int _,.int _=>true|.bl _,.bl _=>true|.str _,.str _=>true|.Jn _,.Jn _=>true
 |.int _,.str _=>true|.str _,.int _=>true|.bl _,.str _=>true|.str _,.bl _=>true
 |_,_=>false
def dP:R2:=fun x y H Q=>Xq x y=true∧Q (.bl (decide (x=y))) H
def dZ:R2:=fun x y H Q=>Xq x y=true∧Q (.bl (!decide (x=y))) H
def QM{i j:Int}:decide (V.int i=V.int j)=(i==j):=by
 rw [Bool.eq_iff_iff];simp
def TY{i j:Bool}:decide (V.bl i=V.bl j)=(i==j):=by
 rw [Bool.eq_iff_iff];simp
def QU{i j:Str}:decide (V.str i=V.str j)=(i==j):=by
 rw [Bool.eq_iff_iff];simp
def Qf{i j:Array UInt8}:decide (V.Jn i=V.Jn j)=(i.toList==j.toList):=by
 rw [Bool.eq_iff_iff];cases i;cases j;simp
section
variable{X:Cx}{a b c:Expr}{ta tb tc:TE}{pos:Pos}
def A4{pins:List (AD×Obj)}{σ:St}{H:Hp}{s:SD}{Q:VK}{k k':Bool}(I:Inv X pins σ H s)(q:Q (.bl k) H)(e:k=k'):EP X pins σ Q (.bool k') s:=by
 subst e;exact⟨.bl k,H,I,rfl,q⟩
def J3:Bm X (compareOp .Eq) dP:=by
 intro pins s σ H x y v u Q I rx ry h;obtain⟨hs,q⟩:=h;cases x with
 |BG =>
  cases rx;cases y with
  |BG=>cases ry;exact PySem.EqNone.eq_none_none (A4 I q (by simp))
  |bl j=>cases ry;exact PySem.EqNone.eq_none_bool (A4 I q (by simp))
  |int j=>obtain⟨t',rfl⟩:=ry;exact PySem.EqNone.eq_none_int (A4 I q (by simp))
  |str j=>obtain⟨t',rfl⟩:=ry;exact PySem.EqNone.eq_none_str (A4 I q (by simp))
  |_=>exact absurd (show false=true from hs) aI
 |bl i =>
  cases rx;cases y with
  |BG=>cases ry;exact PySem.EqNone.eq_bool_none (A4 I q (by simp))
  |bl j=>cases ry;exact eq_bool (A4 I q TY)
  |str j=>obtain⟨t',rfl⟩:=ry;exact PySem.EqMixed.eq_bool_str (A4 I q (by simp))
  |_=>exact absurd (show false=true from hs) aI
 |int i =>
  obtain⟨t,rfl⟩:=rx;cases y with
  |BG=>cases ry;exact PySem.EqNone.eq_int_none (A4 I q (by simp))
  |int j=>obtain⟨t',rfl⟩:=ry;exact eq_int (A4 I q QM)
  |str j=>obtain⟨t',rfl⟩:=ry;exact PySem.EqMixed.eq_int_str (A4 I q (by simp))
  |_=>exact absurd (show false=true from hs) aI
 |str i =>
  obtain⟨t,rfl⟩:=rx;cases y with
  |BG=>cases ry;exact PySem.EqNone.eq_str_none (A4 I q (by simp))
  |bl j=>cases ry;exact PySem.EqMixed.eq_str_bool (A4 I q (by simp))
  |int j=>obtain⟨t',rfl⟩:=ry;exact PySem.EqMixed.eq_str_int (A4 I q (by simp))
  |str j=>obtain⟨t',rfl⟩:=ry;exact eq_str (A4 I q QU)
  |_=>exact absurd (show false=true from hs) aI
 |Jn i =>
  obtain⟨t,rfl⟩:=rx;cases y with
  |Jn j=>obtain⟨t',rfl⟩:=ry;exact PySem.W.eq_bytes (A4 I q Qf)
  |_=>exact absurd (show false=true from hs) aI
 |_=>cases y<;>exact absurd (show false=true from hs) aI
def Nq:Bm X (compareOp .NotEq) dZ:=by
 intro pins s σ H x y v u Q I rx ry h;obtain⟨hs,q⟩:=h;cases x with
 |BG =>
  cases rx;cases y with
  |BG=>cases ry;exact PySem.EqNone.ne_none_none (A4 I q (by simp))
  |bl j=>cases ry;exact PySem.EqNone.ne_none_bool (A4 I q (by simp))
  |int j=>obtain⟨t',rfl⟩:=ry;exact PySem.EqNone.ne_none_int (A4 I q (by simp))
  |str j=>obtain⟨t',rfl⟩:=ry;exact PySem.EqNone.ne_none_str (A4 I q (by simp))
  |_=>exact absurd (show false=true from hs) aI
 |bl i =>
  cases rx;cases y with
  |BG=>cases ry;exact PySem.EqNone.ne_bool_none (A4 I q (by simp))
  |bl j=>cases ry;exact ne_bool (A4 I q (bG not TY))
  |str j=>obtain⟨t',rfl⟩:=ry;exact PySem.EqMixed.ne_bool_str (A4 I q (by simp))
  |_=>exact absurd (show false=true from hs) aI
 |int i =>
  obtain⟨t,rfl⟩:=rx;cases y with
  |BG=>cases ry;exact PySem.EqNone.ne_int_none (A4 I q (by simp))
  |int j=>obtain⟨t',rfl⟩:=ry;exact ne_int (A4 I q (bG not QM))
  |str j=>obtain⟨t',rfl⟩:=ry;exact PySem.EqMixed.ne_int_str (A4 I q (by simp))
  |_=>exact absurd (show false=true from hs) aI
 |str i =>
  obtain⟨t,rfl⟩:=rx;cases y with
  |BG=>cases ry;exact PySem.EqNone.ne_str_none (A4 I q (by simp))
  |bl j=>cases ry;exact PySem.EqMixed.ne_str_bool (A4 I q (by simp))
  |int j=>obtain⟨t',rfl⟩:=ry;exact PySem.EqMixed.ne_str_int (A4 I q (by simp))
  |str j=>obtain⟨t',rfl⟩:=ry;exact ne_str (A4 I q (bG not QU))
  |_=>exact absurd (show false=true from hs) aI
 |Jn i =>
  obtain⟨t,rfl⟩:=rx;cases y with
  |Jn j=>obtain⟨t',rfl⟩:=ry;exact PySem.W.ne_bytes (A4 I q (bG not Qf))
  |_=>exact absurd (show false=true from hs) aI
 |_=>cases y<;>exact absurd (show false=true from hs) aI
def Nj:Bm X (compareOp .Lt) (Mp fun i j=>.bl (decide (i<j))):=UN fun _ _ _ _ _ _ _ q=>lt_int q
def IL:Bm X (compareOp .Gt) (Mp fun i j=>.bl (decide (j<i))):=UN fun _ _ _ _ _ _ _ q=>gt_int q
def VC:Bm X (compareOp .GtE) (Mp fun i j=>.bl (decide (j≤i))):=UN fun _ _ _ _ _ _ _ q=>ge_int q
def Bm.or{f:VL→VL→Sem VL}{r r':R2}(h:Bm X f r)(h':Bm X f r'):Bm X f (fun x y H Q=>r x y H Q∨r' x y H Q):=by
 intro pins s σ H x y v u Q I rx ry q;rcases q with q|q
 ·exact h pins s σ H x y v u Q I rx ry q
 ·exact h' pins s σ H x y v u Q I rx ry q
def Am(b:Expr){op:CmpOp}(h:op≠.In:=by decide)(h2:op≠.NotIn:=by decide):behindInMarks op b=false:=by
 have e1:(op==CmpOp.In)=false:=by cases op<;>first|rfl|exact absurd rfl h
 have e2:(op==CmpOp.NotIn)=false:=by cases op<;>first|rfl|exact absurd rfl h2
 cases b<;>simp [behindInMarks,e1,e2]
def HX{op:CmpOp}{r:R2}(ho:Bm X (compareOp op) r)(ha:PE X a ta)(hb:PE X b tb)(hm:behindInMarks op b=false):PE X (.Compare a [op] [b] pos) (Te r ta tb):=by
 intro pins s σ H Q I h;exact wpAny_Compare1 (Ug ha hb I h fun v u s2 x y H2 I2 rx ry q=>ho pins s2 σ H2 x y v u Q I2 rx ry q) hm
def ZM(t:TE):TT:=fun σ H Q=>t σ H fun x H'=>∃k,x=.bl k∧Q k H'
def A9{op:CmpOp}{r:R2}(ho:Bm X (compareOp op) r)(ha:PE X a ta)(hb:PE X b tb)(hm:behindInMarks op b=false):PT X (.Compare a [op] [b] pos) (ZM (Te r ta tb)):=by
 intro pins s σ H Q I h;refine wpAny_isTrue_Compare1 (Az (ha pins s σ H _ I h) fun v s1 ⟨x,H1,I1,r1,q1⟩=>Az (hb pins s1 σ H1 _ I1 q1) fun u s2 ⟨y,H2,I2,r2,q2⟩ =>
  Az (ho pins s2 σ H2 x y v u _ I2 r1 r2 q2) fun c s3 ⟨z,H3,I3,r3,k,e,q3⟩=>?_) hm
 subst e;cases r3;exact wpAny_truthy_bool ⟨H3,I3,q3⟩
def JY:(sizeLine:Nat)<2^63:=by rw [sizeLine_eq];decide
def Qx:Bm X (binaryOp .Add) (fun x y H Q=>∃i j,x=.str i∧y=.str j∧i.length+j.length≤sizeLine∧Q (.str (i++j)) H):=by
 intro pins s σ H x y v u Q I rx ry h;obtain⟨i,j,rfl,rfl,hz,q⟩:=h;obtain⟨t,rfl⟩:=rx;obtain⟨t',rfl⟩:=ry;exact add_str (fun t' tk=>⟨.str (i++j),H,I.tok _,⟨_,rfl⟩,q⟩) hz
def vals1{x:V}{us:List VL}(r:Vals [x] us):∃u,us=[u]∧RelV x u:=by
 cases r with
 |cons r1 r2=>cases r2;exact⟨_,rfl,r1⟩
def IZ:Df X (.builtin "abs") (fun xs H Q=>∃i,xs=[.int i]∧Q (.int (if i<0 then -i else i)) H):=by
 intro pins s σ H xs us Q I r h;obtain⟨i,rfl,q⟩:=h;obtain⟨u,rfl,t,rfl⟩:=vals1 r;exact call_abs_int fun u tk=>⟨.int (if i<0 then -i else i),H,I.tok _,⟨_,rfl⟩,q⟩
end
structure Ul(h:Heap)(x dx C:Addr)(mA:Str→Option Value):Prop where
 obj:h.get? x=some (PySem.W.instObj C dx)
 ns:h.Ns1 dx mA
 ne:dx≠x
def Rz{h:Heap}{dx:AD}{mA:Str→Option VL}(n:h.Ns1 dx mA):∃od,h.get? dx=some od∧∀name,PySem.W.lookIn name od=some (mA name):=by
 obtain⟨o,es,ep,ho,hd,hk,_,hm⟩:=n;refine⟨o,ho,fun name=>?_⟩;have e:=hm name;unfold nsFind findBy at e;rw [←Array.find?_toList]at e;unfold PySem.W.lookIn;rw [hd];dsimp only;split
 ·rename_i y q;rw [q]at e;exact bG some e
 ·rename_i q;rw [q]at e;have a:es.toList.any (·.refKey)=false:=by
   rw [List.any_eq_false];intro y hy;obtain⟨z,t,hkey⟩:=hk y (Array.mem_toList_iff.mp hy);simp [DictEntry.refKey,hkey]
  have a':¬es.toList.any (·.refKey)=true:=by rw [a];exact aI
  rw [if_neg a'];exact bG some e
def Ul.look{h:Heap}{x dx C:AD}{mA:Str→Option VL}(I:Ul h x dx C mA):∃od,PySem.W.InstAt h x (PySem.W.instObj C dx) C (some od)∧∀name,PySem.W.lookIn name od=some (mA name) :=
 let⟨od,ho,hl⟩:=Rz I.ns
 ⟨od,⟨I.obj,rfl,rfl,ho⟩,hl⟩
section
variable{P:Program}{w:World}{H H':Hp}{h h':Heap}{a C dx:AD}{fs fs':List (Str×V)}
def V1(Ah:C1 P w H h)(e:H a=some (.ins C dx fs)):∃mA,Ul h a dx C mA∧(∀f,UB (fs.lookup f) (mA f))∧PySem.Within mA (fs.map (·.1))∧fs.length≤1000∧H dx=some (.own a):=by
 obtain⟨d,z,ne,ob,mA,n,r,q⟩:=(show Bl P w H h a (.ins C dx fs) from Ah a _ e);exact⟨mA,⟨ob,n,ne⟩,r,q,z,d⟩
end
structure Yn(K:Fg)(C:Addr):Prop where
 pg:PySem.W.plainGet K C Str.empty=true
 hd:PySem.W.hasDictIn K C=true
 po:PySem.W.plainOver K C=true
 sa:PySem.W.findIn K (.ref C) "__setattr__" = some (some (.builtin "object.__setattr__"))
def Yn.get{K:Fg}{C:AD}(c:Yn K C)(f:Str):PySem.W.plainGet K C f=true:=c.pg
section
variable{X:Cx}{pins:List (AD×Obj)}{σ:St}{H:Hp}{s:SD}{A:Around}{E:VL→SD→Prop}{Q:VL→SD→Prop}{c:VL}{b:Bool}
inductive Dy(K:Fg)(H:Hp):V→Value→Prop where
 |BG:Dy K H .BG (.type "NoneType")
 |bl (x:Bool):Dy K H (.bl x) (.type "bool")
 |int (i:Int):Dy K H (.int i) (.type "int")
 |str (x:Str):Dy K H (.str x) (.type "str")
 |D0 (x:UInt64):Dy K H (.D0 x) (.type "float")
 |lst {a:Addr} {xs:List V} (e:H a=some (.lst xs)):Dy K H (.ref a) (.type "list")
 |Gx {a:Addr} {o:Obj} {xs:List V} (e:H a=some (.Gx o (.lst xs))):Dy K H (.ref a) (.type "list")
 |tup {a:Addr} {xs:List V} (e:H a=some (.tup xs)):Dy K H (.ref a) (.type "tuple")
 |dK {a:Addr} {kvs:List (Key×V)} (e:H a=some (.dK kvs)):Dy K H (.ref a) (.type "dict")
 |dT {a:Addr} {kvs:List (List Key×V)} (e:H a=some (.dT kvs)):Dy K H (.ref a) (.type "dict")
 |ins {a C dx:Addr} {fs:List (Str×V)} (e:H a=some (.ins C dx fs)) (cl:Yn K C) (ha:PySem.W.findIn K (.ref C) "__class__" = some (some (.builtin "object.__class__")))
   (hn:PySem.W.specialIn K (.builtin "object.__class__") "__get__" = some (some (.builtin "getset_descriptor.__get__"))) (htk:PySem.W.takesIn K (.builtin "object.__class__")=some true)
   (hm:PySem.W.mroIn K C (.type "object")=some true):Dy K H (.ref a) (.ref C)
def S4{x:V}{u t:VL}(I:Inv X pins σ H s)(rx:RelV x u)(ty:Dy X.K H x t)(e:PySem.W.kitOne X.K t c=some b)(h:∀tk,Q (.bool b) { s with toks:=tk }) :
  wpAny (model X.prog X.w) A (call (.builtin "isinstance") [u,c]) Q E s:=by
 cases ty with
 |BG=>cases (show u=Value.none from rx);exact ar PySem.W.kitx_none I.Fj True.intro e (fun z=>nomatch z) h
 |bl y=>cases (show u=Value.bool y from rx);exact ar PySem.W.kitx_bool I.Fj True.intro e (fun z=>nomatch z) h
 |int i=>obtain⟨t,q⟩:=(show ∃t,u=Value.int i t from rx);cases q;exact ar PySem.W.kitx_int I.Fj True.intro e (fun z=>nomatch z) h
 |str y=>obtain⟨t,q⟩:=(show ∃t,u=Value.str y t from rx);cases q;exact ar PySem.W.kitx_str I.Fj True.intro e (fun z=>nomatch z) h
 |D0 y=>obtain⟨t,q⟩:=(show ∃t,u=Value.float y t from rx);cases q;exact ar PySem.W.kitx_float I.Fj True.intro e (fun z=>nomatch z) h
 | @lst a xs ea =>
  cases (show u=Value.ref a from rx);obtain⟨_,_,n,_,h1⟩:=(show Bl X.prog X.w H s.heap a (.lst xs) from I.Ah a _ ea);exact ar PySem.W.kitx_list I.Fj ⟨_,h1,rfl⟩ e (fun z=>nomatch z) h
 | @Gx a ob xs ea =>
  cases (show u=Value.ref a from rx);obtain⟨_,_,_,n,_,h1⟩:=(show Bl X.prog X.w H s.heap a (.Gx ob (.lst xs)) from I.Ah a _ ea);exact ar PySem.W.kitx_list I.Fj ⟨_,h1,rfl⟩ e (fun z=>nomatch z) h
 | @tup a xs ea =>
  cases (show u=Value.ref a from rx);obtain⟨_,_,_,p⟩:=(show Bl X.prog X.w H s.heap a (.tup xs) from I.Ah a _ ea);obtain⟨o,h1,h2,_⟩:=p;exact ar PySem.W.kitx_tuple I.Fj ⟨o,h1,h2⟩ e (fun z=>nomatch z) h
 | @dK a kvs ea =>
  cases (show u=Value.ref a from rx);obtain⟨_,_,vs,_,p⟩:=(show Bl X.prog X.w H s.heap a (.dK kvs) from I.Ah a _ ea);obtain⟨o,es,ep,h1,h2,_⟩:=p;exact ar PySem.W.kitx_dict I.Fj ⟨o,h1,h2.1⟩ e (fun z=>nomatch z) h
 | @dT a kvs ea =>
  cases (show u=Value.ref a from rx);obtain⟨_,_,xs,_,o,es,ep,h1,h2,_⟩:=(show Bl X.prog X.w H s.heap a (.dT kvs) from I.Ah a _ ea);exact ar PySem.W.kitx_dict I.Fj ⟨o,h1,h2.1⟩ e (fun z=>nomatch z) h
 | @ins a C dx fs ea cl ha hn htk hm =>
  cases (show u=Value.ref a from rx);obtain⟨mA,O,_⟩:=V1 I.Ah ea;obtain⟨od,J,_⟩:=O.look;exact ar (PySem.W.kitx_own (cl.get _) cl.hd ha hn htk hm) I.Fj J e (fun z=>nomatch z) h
end
structure Cn(k:Nat)(A:Around):Prop where
 hd:A.handled=none
 dp:A.depth+3*k+5<recursionLimit
 un:A.units+16*k+200<cLine
def Cn.mono{j k:Nat}{A:Around}(r:Cn k A)(h:j≤k):Cn j A:=⟨r.hd,by have:=r.dp;omega,by have:=r.un;omega⟩
def Cn.deeper{k:Nat}{A:Around}(r:Cn (k+1) A)(env:Env):Cn k (A.deeper env) :=
 ⟨r.hd,by have:=r.dp;show A.depth+1+3*k+5<_;omega,by have:=r.un;show A.units+3+16*k+200<_;omega⟩
def Cn.depth{k:Nat}{A:Around}(r:Cn k A):A.depth<recursionLimit:=by have:=r.dp;omega
def Cn.units{k:Nat}{A:Around}(r:Cn k A):A.units+64<cLine:=by have:=r.un;omega
def cZ:TA:=fun _ H Q=>Q [] H
def ZX(ta:TE)(tr:TA):TA:=fun σ H Q=>ta σ H fun x H1=>tr σ H1 fun xs H2=>Q (x::xs) H2
section
variable{X:Cx}{e:Expr}{es:List Expr}{te:TE}{t:TA}{pos:Pos}
def AF:PA X [] cZ:=fun _ _ _ _ H Q I h=>Calls.spliced_nil ⟨[],H,I,.nil,h⟩
def AB(ha:PE X e te)(hr:PA X es t)(hs:starEach (e::es) X.env=(false,eval e X.env)::starEach es X.env:=by rfl):PA X (e::es) (ZX te t):=by
 intro pos pins s σ H Q I h;rw [hs];show wpAny _ _ (spliced ((false,eval e X.env)::backTo pos (starEach es X.env))) _ _ s;refine Calls.spliced_cons (Az (ha pins s σ H _ I h) fun u s1 ⟨x,H1,I1,r1,q1⟩=>?_);exact Az (hr pos pins s1 σ H1 _ I1 q1) fun us s2 ⟨xs,H2,I2,r2,q2⟩=>⟨x::xs,H2,I2,.cons r1 r2,q2⟩
def cU(t:TA):TE:=fun σ H Q=>t σ H fun xs H1=>xs.length≤sizeLine∧∀p,H1 p=none→Q (.ref p) (upd H1 p (.tup xs))
def bZ(t:TA):TE:=fun σ H Q=>t σ H fun xs H1=>xs.length≤sizeLine∧∀p,H1 p=none→Q (.ref p) (upd H1 p (.lst xs))
def DV{x1}(h:PA X es t):PE X (.Tuple es x1 pos) (cU t):=by
 intro pins s σ H Q I hq;refine wpAny_Tuple_spliced (Az (h pos pins s σ H _ I hq) fun us s1 ⟨xs,H1,I1,r,z,q⟩=>⟨by rw [←r.length];exact z,?_⟩);have hf:H1 s1.heap.objs.size=none:=I1.Ah.fresh (aE _);refine⟨.ref s1.heap.objs.size,upd H1 s1.heap.objs.size (.tup xs),I1.laid (t':=s1.toks) (fun b u e=>aC _ e) (aE _) ?_,rfl,q _ hf⟩;exact⟨z,us,r,⟨_,Heap.get?_push_size _ rfl,rfl,_,rfl⟩⟩
def Cd(h:PA X es t):PE X (.List es pos) (bZ t):=by
 intro pins s σ H Q I hq;refine wpAny_List_spliced (Az (h pos pins s σ H _ I hq) fun us s1 ⟨xs,H1,I1,r,z,q⟩=>⟨by rw [←r.length];exact z,?_⟩);have hf:H1 s1.heap.objs.size=none:=I1.Ah.fresh (aE _);refine⟨.ref s1.heap.objs.size,upd H1 s1.heap.objs.size (.lst xs),I1.laid (t':=s1.toks) (fun b u e=>aC _ e) (aE _) ?_,rfl,q _ hf⟩;exact⟨z,us,0,r,Heap.get?_push_size _ rfl⟩
end
abbrev Sp:=List V→Hp→VK→XK→Prop
abbrev F4:=List Env→Hp→SD→XK→VL→SD→Prop
structure RF(P:Program)(w:World)(K:Fg)(mg:Str→Option Value)(base:Heap)(A:Around)(outer:List Env)(s:Shared)(H:Hp):Prop where
 frames:A.frames=some outer
 mod:Mod K mg base
 bs:∀b o,base.get? b=some o→s.heap.get? b=some o∧H b=none
 Mt:base.objs.size≤s.heap.objs.size
 Gj:s.heap.FunFrames base outer
 P7:∀b∈Il outer,H b=none
 Ah:C1 P w H s.heap
 bare:AllBare s.gens
def CE(outer:List Env)(P:Program)(w:World)(H:Hp)(s:SD)(Q:VK)(u:VL)(s':SD):Prop :=
 ∃v H',s'.os=s.os∧AllBare s'.gens∧Un (Il outer) [] H H' s.heap s'.heap∧C1 P w H' s'.heap∧RelV v u∧Q v H'
def CR(CX:F4)(outer:List Env)(P:Program)(w:World)(H:Hp)(s:SD)(Q:VK)(E:XK)(r:Result)(s':SD):Prop :=
 match r with
 |.ok (.ret u)=>CE outer P w H s Q u s'
 |.ok _=>False
 |.error e=>CX outer H s E e s'
structure AV(P:Program)(w:World)(K:Fg)(mg:Str→Option Value)(base:Heap)(CX:F4)(k:Nat)(f:Addr)(fd:FuncData)(ps:List Str)(sp:Sp):Prop where
 len:∀vs H Q E,sp vs H Q E→vs.length=ps.length
 run:∀(A:Around) (outer:List Env) (s:Shared) (H:Hp) (args:Args) (us:List Value) (vs:List V) (Q:VK) (E:XK),Cn k A→RF P w K mg base A outer s H→BindsTo s fd args (ps.zip us)→Vals vs us→sp vs H Q E →
  codeAny (model P w) A (.call (.ref f) args) (CR CX outer P w H s Q E) s
def AV.mono{P:Program}{w:World}{K:Fg}{mg:Str→Option VL}{base:Heap}{CX:F4}{j k:Nat}{f:AD}{fd:FuncData}{ps:List Str}{sp:Sp}(F:AV P w K mg base CX j f fd ps sp)(h:j≤k) :
  AV P w K mg base CX k f fd ps sp:=⟨F.len,fun A outer s H args us vs Q E hr=>F.run A outer s H args us vs Q E (hr.mono h)⟩
def AV.imp{P:Program}{w:World}{K:Fg}{mg:Str→Option VL}{base:Heap}{CX:F4}{k:Nat}{f:AD}{fd:FuncData}{ps:List Str}{sp sp':Sp}(F:AV P w K mg base CX k f fd ps sp)
 (h:∀vs H Q E,sp' vs H Q E→sp vs H Q E):AV P w K mg base CX k f fd ps sp' :=
 ⟨fun vs H Q E q=>F.len vs H Q E (h _ _ _ _ q),fun A outer s H args us vs Q E hr he hb hv hs=>F.run A outer s H args us vs Q E hr he hb hv (h _ _ _ _ hs)⟩
section
variable{X:Cx}{pins:List (AD×Obj)}{σ:St}{H:Hp}{s s':SD}
def Inv.cE(I:Inv X pins σ H s):RF X.prog X.w X.K X.mg X.base X.A X.stack s H :=
 ⟨I.ok.frames,I.ok.mod,I.bs,Nat.le_trans I.ok.Mt I.sz,I.stack,I.QV,I.Ah,I.bare⟩
def Inv.after{Q:VK}{u:VL}(I:Inv X pins σ H s)(h:CE X.stack X.prog X.w H s Q u s'):EP X pins σ Q u s':=by
 obtain⟨v,H',os,bare,un,Ah,r,q⟩:=h;obtain⟨hh,g,d,t,os'⟩:=s';obtain rfl:os'=s.os:=os;exact⟨v,H',I.call (h':=hh) (g':=g) (d':=d) (t':=t) (ch:=[]) un Ah bare (fun b z=>absurd z (by simp)),r,q⟩
end
def VU(sp:Sp)(dvs:List V)(E:XK)(t:TA):TE:=fun σ H Q=>t σ H fun vs H1=>sp (vs++dvs) H1 Q E
def Binds(K:Fg)(fd:FuncData)(ps:List Str)(ds:List VL):Prop :=
 ∀(s:SD) (us:List VL),K.In s.heap→(us++ds).length=ps.length→BindsTo s fd ⟨us,[]⟩ (ps.zip (us++ds))
def Binds.all{K:Fg}{fd:FuncData}{ps:List Str}(h:∀us:List VL,us.length=ps.length→bindArgs fd ⟨us,[]⟩=pure (ps.zip us)):Binds K fd ps []:=fun s us _ hl=>by
 rw [List.append_nil]at hl ⊢;exact .of_eq (h us hl)
def Passes(CX:F4)(X:Cx)(E:XK):Prop:=∀(pins:List (AD×Obj)) (σ:St) (H:Hp) (s:SD) (e:VL) (s':SD),Inv X pins σ H s→CX X.stack H s E e s'→X.xe e s'
section
variable{X:Cx}{CX:F4}{k:Nat}{f C:AD}{fd:FuncData}{ps:List Str}{sp:Sp}{dvs:List V}{ds:List VL}{E:XK}{x m:Str}{p pos apos:Pos}{e o:Expr}{es:List Expr}{ta:TE}{t:TA}
def Xh{pins:List (AD×Obj)}{σ:St}{H:Hp}{s:SD}{Q:VK}{us:List VL}{vs:List V}(F:AV X.prog X.w X.K X.mg X.base CX k f fd ps sp)(hr:Cn k X.A)(hb:Binds X.K fd ps ds)(hd:Vals dvs ds)(hx:Passes CX X E)
 (I:Inv X pins σ H s)(r:Vals vs us)(h:sp (vs++dvs) H Q E):wpAny (model X.prog X.w) X.A (call (.ref f) us) (EP X pins σ Q) X.xe s:=by
 have r2:Vals (vs++dvs) (us++ds):=r.append hd;have hl:(us++ds).length=ps.length:=by rw [←r2.length];exact F.len _ _ _ _ h
 refine wpAny_call (codeAny_mono (F.run X.A X.stack s H ⟨us,[]⟩ (us++ds) (vs++dvs) Q E hr I.cE (hb s us I.Fj hl) r2 h) fun r s' hq=>?_);cases r with
 |error e=>exact hx pins σ H s e s' I hq
 |ok fl =>
  cases fl with
  |ret u=>exact I.after hq
  |next=>exact False.elim hq
  |brk=>exact False.elim hq
  |cont=>exact False.elim hq
def WN(F:AV X.prog X.w X.K X.mg X.base CX k f fd ps sp)(hr:Cn k X.A)(hg:Gl X x)(hm:X.mg x=some (.ref f))(hk:PySem.W.keepIn X.K (.ref f)=true)(hb:Binds X.K fd ps ds)(hd:Vals dvs ds)(hx:Passes CX X E)
 (ha:PA X (e::es) t)(hdb:(x==("__debug__" : Str))=false:=by decide)(he:starEach (e::es) X.env=(false,eval e X.env)::starEach es X.env:=by rfl)(hpl:(backTo pos (starEach es X.env)).any (·.1)=false:=by rfl) :
  PE X (.Call (.Name x p) (e::es) [] pos) (VU sp dvs E t):=by
 intro pins s σ H Q I h;refine wpAny_Call_Name_kw (P6 I hg hm ?_ hdb);refine PySem.W.callWith_K (h₀:=X.base) I.ok.mod.Ym hk (Az (ha pos pins s σ H _ I h) fun us s1 ⟨vs,H1,I1,r,q⟩=>⟨I1.Fj,?_⟩) he hpl;exact Xh F hr hb hd hx I1 r q
end
structure Ab(N P:List Str)(sc:Scope):Prop where
 kind:sc.kind=.function
 co:sc.isCoroutine=false
 gen:sc.isGenerator=false
 nd:N.Nodup
 pre:N.take P.length=P
 par:∀x∈P,sc.names.lookup x=some .local∨sc.names.lookup x=some .cell
 YS:∀y∈sc.names,y.2≠.free
def Bo{N P:List Str}{sc:Scope}(a:sc.kind=.function:=by rfl)(b:sc.isCoroutine=false:=by rfl)(c:sc.isGenerator=false:=by rfl)(d:N.Nodup:=by decide +kernel)(e:N.take P.length=P:=by rfl)(f:∀x ∈ P, sc.names.lookup x=some .local ∨ sc.names.lookup x=some .cell:=by decide +kernel)(g:∀y ∈ sc.names, y.2 ≠ .free:=by decide +kernel):Ab N P sc:=⟨a, b, c, d, e, f, g⟩
def Mx{kindOf:Str→Option NameKind}{x:Str}:∀ {binds:List (Str×VL)} {m:Str→Option VL},(∀v,(x,v) ∉ binds)→bindL kindOf binds m x=m x
 |[],_,_=>rfl
 |(n,v)::r,m,h=>by
  unfold bindL;rw [Mx fun w hw=>h w (aP _ hw)];split
  ·have:x≠n:=by rintro rfl;exact h v aR
   simp [this]
  ·rfl
def NF{kindOf:Str→Option NameKind}{x:Str}:∀ {binds:List (Str×VL)} {m:Str→Option VL},(∀v,(x,v) ∉ binds)→bindC kindOf binds m x=m x
 |[],_,_=>rfl
 |(n,v)::r,m,h=>by
  unfold bindC;rw [NF fun w hw=>h w (aP _ hw)];split
  ·rfl
  ·have:x≠n:=by rintro rfl;exact h v aR
   simp [this]
def My{kindOf:Str→Option NameKind}{x:Str}{v:VL}:∀ {P:List Str} {vs:List VL} {i:Nat} {m:Str→Option VL},P.Nodup→P[i]? = some x→vs[i]? = some v→kindOf x=some .local →
  bindL kindOf (P.zip vs) m x=some v
 |[],_,_,_,_,h,_,_=>by simp at h
 |_::_,[],_,_,_,_,h,_=>by simp at h
 |p::P,w::vs,0,m,nd,h1,h2,hk=>by
  simp at h1 h2;subst h1;subst h2;show bindL kindOf ((p,w)::P.zip vs) m p=_;unfold bindL;rw [Mx fun v hv=>(List.nodup_cons.mp nd).1 (List.of_mem_zip hv).1,if_pos hk];simp
 |p::P,w::vs,i+1,m,nd,h1,h2,hk=>by
  show bindL kindOf ((p,w)::P.zip vs) m x=_;unfold bindL;exact My (i:=i) (List.nodup_cons.mp nd).2 (by simpa using h1) (by simpa using h2) hk
def NT{kindOf:Str→Option NameKind}{x:Str}{v:VL}:∀ {P:List Str} {vs:List VL} {i:Nat} {m:Str→Option VL},P.Nodup→P[i]? = some x→vs[i]? = some v→kindOf x≠some .local →
  bindC kindOf (P.zip vs) m x=some v
 |[],_,_,_,_,h,_,_=>by simp at h
 |_::_,[],_,_,_,_,h,_=>by simp at h
 |p::P,w::vs,0,m,nd,h1,h2,hk=>by
  simp at h1 h2;subst h1;subst h2;show bindC kindOf ((p,w)::P.zip vs) m p=_;unfold bindC;rw [NF fun v hv=>(List.nodup_cons.mp nd).1 (List.of_mem_zip hv).1,if_neg hk];simp
 |p::P,w::vs,i+1,m,nd,h1,h2,hk=>by
  show bindC kindOf ((p,w)::P.zip vs) m x=_;unfold bindC;exact NT (i:=i) (List.nodup_cons.mp nd).2 (by simpa using h1) (by simpa using h2) hk
def start(N:List Str)(vs:List V):St:=vs.map some++List.replicate (N.length-vs.length) none
def Kq(CX:F4)(P:Program)(w:World)(K:Fg)(mg:Str→Option VL)(base:Heap)(N:List Str)(qual:Str)(scope:Scope)(f:AD)(cd:VL)(A:Around)(outer:List Env)(s:SD)(H:Hp)(E:XK):Cx where
 prog:=P
 w:=w
 K:=K
 mg:=mg
 base:=base
 A:=A.deeper (envOfC qual scope s.heap.objs.size f cd)
 N:=N
 s₀:=s
 H₀:=H
 env:=envOfC qual scope s.heap.objs.size f cd
 outer:=outer
 stack:=envOfC qual scope s.heap.objs.size f cd::outer
 ex:=[]
 calm:=true
 fn:=fun _=>true
 pn:=[]
 xe:=fun e s'=>wpAny (model P w) (A.deeper (envOfC qual scope s.heap.objs.size f cd)) (leaving (envOfC qual scope s.heap.objs.size f cd) e) (fun _ s''=>CX outer H s E e s'') (fun e' s''=>CX outer H s E e' s'') s'
def O1{sc:Scope}{n:Nat}{x:Str}(h:sc.names.lookup x=some .cell):∃c,(cellsFrom n sc.names []).lookup x=some c:=by
 have q:=PySem.W.cellsFrom_some sc.names n [] (.inl h);exact Option.isSome_iff_exists.mp q
def SO{CX:F4}{P:Program}{w:World}{K:Fg}{mg:Str→Option VL}{base:Heap}{N ps:List Str}{qual:Str}{scope:Scope}{f:AD}{cd:VL}{A:Around}{outer:List Env}{s s1:SD}{H:Hp}{E:XK}{us:List VL}{vs:List V}
 (S:Ab N ps scope)(hd:A.handled=none)(e0:RF P w K mg base A outer s H)(hl:vs.length=ps.length)(r:Vals vs us)
 (x:InCallC s s.heap.objs.size (bindL (envOfC qual scope s.heap.objs.size f cd).kindOf (ps.zip us) fun _=>none) (cellsFrom (s.heap.objs.size+1) scope.names []) (bindC (envOfC qual scope s.heap.objs.size f cd).kindOf (ps.zip us) fun _=>none) s1) :
  Inv (Kq CX P w K mg base N qual scope f cd A outer s H E) [] (start N vs) H s1:=by
 have hpl:ps.length≤N.length:=by have:=bG List.length S.pre;rw [List.length_take]at this;omega
 obtain⟨h1,tk,rfl,hk⟩:=x.done;have noA:∀b:AD,b ∉ (Kq CX P w K mg base N qual scope f cd A outer s H E).ex:=fun b z=>absurd (show b∈([]:List AD) from z) (by simp);refine⟨⟨e0.mod,S.kind,rfl,rfl,Nat.le_refl _,fun y z c h1 h2=>?_,fun y hy=>?_,fun y c _ h=>?_,fun _=>hd,Around.frames_deeper e0.frames,.inr ⟨rfl,rfl⟩,fun b z=>absurd z (noA b),e0.bs,e0.Mt,fun b _ _=>noA b,fun b z=>absurd z (noA b),e0.Gj,e0.P7⟩,
  rfl,e0.bare,Un.kept hk,⟨_,x.toInCall.ns,fun i y v h1 h2 h3=>?_⟩,fun y c h=>⟨_,x.cell y c h⟩,e0.Ah.fresh (aE _),fun y c h=>?_,fun p hp=>absurd (show p∈([]:List (AD×Obj)) from hp) (by simp),e0.Ah.kept hk,?_⟩
 ·exact name_of_addr x.apart (PySem.mem_of_lookup h1) (PySem.mem_of_lookup h2)
 ·have hy:scope.names.lookup y=some .cell∨scope.names.lookup y=some .free:=hy;rcases hy with hy|hy
  ·exact O1 hy
  ·exact absurd rfl (S.YS _ (PySem.mem_of_lookup hy))
 ·exact bE (x.above y c (PySem.mem_of_lookup h))
 ·have hi:i<vs.length:=by
   unfold start at h2;by_cases hi:i<vs.length
   ·exact hi
   ·rw [List.getElem?_append_right (by simpa using hi)]at h2;rw [List.getElem?_replicate]at h2;split at h2<;>cases h2
  have ha:vs[i]? = some v:=by
   unfold start at h2;rw [List.getElem?_append_left (by simpa using hi),List.getElem?_map]at h2;cases e:vs[i]? with
   |none=>rw [e]at h2;cases h2
   |some a=>rw [e]at h2;cases h2;rfl
  obtain⟨u,hu,rv⟩:=r.get ha;have hp:ps[i]? = some y:=by
   rw [←S.pre,List.getElem?_take_of_lt (by omega)];exact h1
  have ndP:ps.Nodup:=by rw [←S.pre];exact S.nd.sublist (List.take_sublist _ _)
  refine⟨u,rv,?_⟩;rcases S.par y (aO hp) with k|k
  ·exact .inl ⟨k,My ndP hp hu k⟩
  ·obtain⟨c,e⟩:=O1 (n:=s.heap.objs.size+1) k;refine .inr ⟨.inl k,c,e,?_⟩;have q:=x.cell y c e;rw [NT ndP hp hu (by show scope.names.lookup y≠_;rw [k];decide)]at q;exact q
 ·exact e0.Ah.fresh (bE (x.above y c (PySem.mem_of_lookup h)))
 ·unfold start;show _=N.length;rw [List.length_append,List.length_map,List.length_replicate];omega
def ZJ{CX:F4}{P:Program}{w:World}{K:Fg}{mg:Str→Option VL}{base:Heap}{k:Nat}{f:AD}{name qual:Str}{params:Arguments}{body:List Stmt}{scope:Scope}{dV kV doc pm cdv ct oc:VL}{an od:Option AD}
 {osl:Array (Option VL)}{N ps:List Str}{sp:Sp}(lk:K.lookup f=some ⟨oc,od,.func (PySem.W.fnOf name qual params body scope dV kV doc pm an cdv ct),osl⟩)(hcd:PySem.W.codeIn K cdv qual=true)(S:Ab N ps scope)
 (len:∀vs H Q E,sp vs H Q E→vs.length=ps.length)
 (hbody:∀(A:Around) (outer:List Env) (s:SD) (H:Hp) (vs:List V) (Q:VK) (E:XK),Cn k (A.deeper (envOfC qual scope s.heap.objs.size f cdv))→sp vs H Q E →
   ∃t,G8 (Kq CX P w K mg base N qual scope f cdv A outer s H E) body t∧t { nx:=fun _ H'=>Q .BG H',rt:=Q } (start N vs) H) :
  AV P w K mg base CX (k+1) f (PySem.W.fnOf name qual params body scope dV kV doc pm an cdv ct) ps sp:=by
 refine⟨len,fun A outer s H args us vs Q E hr e0 hb r hsp=>?_⟩;have hl:=len _ _ _ _ hsp;have KX:K.In s.heap:=e0.mod.Ym.keeps fun b o e=>(e0.bs b o e).1;have lim:s.heap.NoLimit:=e0.mod.nolimit.keeps fun b o e=>(e0.bs b o e).1;have hkind:∀y∈ps.zip us,scope.names.lookup y.1=some .local∨(scope.names.lookup y.1=some .cell∧((cellsFrom (s.heap.objs.size+1) scope.names []).lookup y.1).isSome=true):=fun⟨n,v⟩ hy=>by
  rcases S.par n (List.of_mem_zip hy).1 with q|q
  ·exact .inl q
  ·exact .inr ⟨q,PySem.W.cellsFrom_some _ _ _ (.inl q)⟩
 refine codeAny_call_function hr.depth (KX _ _ lk) rfl S.co S.gen rfl (PySem.W.codeRec_of KX hcd) (hb _ _ _ _ ?_);refine wpAny_newFunctionEnv_cells S.kind hkind fun env he s1 x=>?_;subst he;refine⟨lim.keeps x.toInCall.keep,codeAny_func ?_⟩;obtain⟨t,ht,hq⟩:=hbody A outer s H vs Q E (hr.deeper _) hsp;have I:Inv (Kq CX P w K mg base N qual scope f cdv A outer s H E) [] (start N vs) H s1:=SO S hr.hd e0 hl r x;refine ai (ht [] s1 (start N vs) H _ I hq) (fun fl s' hs=>?_) fun e s' hs=>hs;have fin:∀ {σ':St} {H':Hp} {v:V} {u:VL},Inv (Kq CX P w K mg base N qual scope f cdv A outer s H E) [] σ' H' s'→RelV v u→Q v H'→CE outer P w H s Q u s' :=
  fun {σ' H' v u} J rv q=>⟨v,H',J.os,J.bare,J.base,J.Ah,rv,q⟩
 cases fl with
 |ret u =>
  obtain⟨v,σ',H',J,rv,q⟩:=hs;exact fin J rv q
 |next =>
  obtain⟨σ',H',J,q⟩:=hs;exact fin (v:=V.BG) (u:=Value.none) J rfl q
 |brk =>
  obtain⟨_,_,_,q⟩:=hs;exact False.elim q
 |cont =>
  obtain⟨_,_,_,q⟩:=hs;exact False.elim q
section
variable{X:Cx}{x:Str}{p pos:Pos}{e:Expr}{es:List Expr}{t:TA}{id T:String}{r:List V→Hp→VK→Prop}
def Z2(r:List V→Hp→VK→Prop)(t:TA):TE:=fun σ H Q=>t σ H fun vs H1=>r vs H1 Q
def Ao(hc:Df X (.builtin id) r)(hg:Gl X x)(hm:X.mg x=none)(hv:bootBuiltins x=some (.builtin id))(ha:PA X (e::es) t)(hn:x ≠ "__name__" := by decide)(hdb:(x==("__debug__" : Str))=false:=by decide)
 (he:starEach (e::es) X.env=(false,eval e X.env)::starEach es X.env:=by rfl)(hpl:(backTo pos (starEach es X.env)).any (·.1)=false:=by rfl):PE X (.Call (.Name x p) (e::es) [] pos) (Z2 r t):=by
 intro pins s σ H Q I h;refine wpAny_Call_Name_kw (Fe I hg hm hv ?_ hn hdb);exact PyProof.Rows.callWith_builtin1 (Az (ha pos pins s σ H _ I h) fun us s1 ⟨vs,H1,I1,r1,q1⟩=>hc pins s1 σ H1 vs us Q I1 r1 q1) he hpl
def FX(hc:Df X (.type T) r)(hg:Gl X x)(hm:X.mg x=none)(hv:bootBuiltins x=some (.type T))(ha:PA X (e::es) t)(hn:x ≠ "__name__" := by decide)(hdb:(x==("__debug__" : Str))=false:=by decide)
 (he:starEach (e::es) X.env=(false,eval e X.env)::starEach es X.env:=by rfl)(hpl:(backTo pos (starEach es X.env)).any (·.1)=false:=by rfl):PE X (.Call (.Name x p) (e::es) [] pos) (Z2 r t):=by
 intro pins s σ H Q I h;refine wpAny_Call_Name_kw (Fe I hg hm hv ?_ hn hdb);exact aw (Az (ha pos pins s σ H _ I h) fun us s1 ⟨vs,H1,I1,r1,q1⟩=>hc pins s1 σ H1 vs us Q I1 r1 q1) he hpl
end
end L2
namespace HT
open PySem PyProof.Rows
section
variable{prog:Program}{w:World}{A:Around}{E:VL→SD→Prop}{s:SD}
def Vx{t b:AD}{vs ws:List VL}{Q:VL→SD→Prop}(ht:IsTup s.heap t vs.toArray)(hb:IsTup s.heap b ws.toArray)(hv:vs≠[])
 (h1:ws=[]→Q (.ref t) s)(h2:ws≠[]→Q (.ref s.heap.objs.size) { s with heap:=s.heap.push { cls:=.type "tuple",data:=.seq (vs++ws).toArray } })
 (hsz:vs.length+ws.length≤sizeLine):wpAny (model prog w) A (binaryOp .Add (.ref t) (.ref b)) Q E s:=by
 obtain⟨⟨cls,dd,data,sl⟩,ho,hc,n,hd⟩:=id ht;obtain⟨⟨cls2,dd2,data2,sl2⟩,ho2,hc2,n2,hd2⟩:=id hb;simp only at hc hd hc2 hd2;subst hc hd hc2 hd2;have e:vs.toArray++ws.toArray=(vs++ws).toArray:=by simp
 by_cases hw:ws=[]
 ·exact concat_meets ⟨_,ho,rfl⟩ ⟨_,ho2,rfl⟩ noFill_tuple_add seq_tuple_add PySem.F.slot_tuple_add PySem.F.entry_tuple_add (PySem.F.args_tuple_add_2 _ _)
   (tuple_addW1 t b vs.toArray ws.toArray n n2 dd dd2 sl sl2 (by simpa using hv) (by simp [hw])) ⟨ho,ho2,h1 hw⟩
 ·refine concat_meets ⟨_,ho,rfl⟩ ⟨_,ho2,rfl⟩ noFill_tuple_add seq_tuple_add PySem.F.slot_tuple_add PySem.F.entry_tuple_add (PySem.F.args_tuple_add_2 _ _)
   (tuple_addW2 t b vs.toArray ws.toArray n n2 dd dd2 sl sl2 (by simpa using hv) (by simpa using hw) (by rw [List.size_toArray,List.size_toArray];exact hsz)) ⟨ho,ho2,?_⟩
  rw [e];exact h2 hw
def A5(n d:Nat):Option Int→Nat
 |none=>d
 |some v=>if v<0 then(v+(n:Int)).toNat else min v.toNat n
def Yp(n d:Nat)(hd:d≤n)(o:Option Int):A5 n d o≤n:=by
 cases o with
 |none=>exact hd
 |some v =>
  show(if v<0 then(v+(n:Int)).toNat else min v.toNat n)≤n;by_cases hv:v<0
  ·rw [if_pos hv];omega
  ·rw [if_neg hv];exact Nat.min_le_right _ _
def QZ(v:Int)(n d:Nat):(if v<0 then max (v+(n:Int)) 0 else min v (n:Int))=((A5 n d (some v):Nat):Int):=by
 show(if v<0 then max (v+(n:Int)) 0 else min v (n:Int))=(((if v<0 then(v+(n:Int)).toNat else min v.toNat n):Nat):Int);by_cases hv:v<0
 ·simp only [if_pos hv];omega
 ·simp only [if_neg hv];omega
def Rf(lo hi:Option Int)(n:Nat):Builtin.Slice.sliceAdjust lo hi 1 (n:Int)=(((A5 n 0 lo:Nat):Int),((A5 n n hi:Nat):Int)):=by
 have h1:¬((1:Int)<0):=by omega
 unfold Builtin.Slice.sliceAdjust;simp only [h1,if_false];refine Prod.ext ?_ ?_
 ·cases lo with
  |none=>rfl
  |some v=>exact QZ v n 0
 ·cases hi with
  |none=>rfl
  |some v=>exact QZ v n n
def RX(i j:Nat):Builtin.Slice.slicePlaces (i:Int) (j:Int) 1=j-i:=by
 unfold Builtin.Slice.slicePlaces;have h1:(1:Int) > 0:=by omega
 simp only [h1,if_true,Int.ediv_one];split<;>omega
def LM{v:VL}{o:Option Int}{Q:Option Int→SD→Prop}(p:IsPart v o)(h:Q o s):wpAny (model prog w) A (Builtin.Slice.slicePartIndex v) Q E s:=by
 cases p with
 |none=>exact slicePart_none h
 |int i t=>exact slicePart_int h
def Kr{sl:AD}{vl vu:VL}{lo hi:Option Int}{n:Nat}{Q:Int×Int×Nat→SD→Prop}(hs:s.heap.IsSliceOf sl vl vu .none)(pl:IsPart vl lo)(pu:IsPart vu hi)
 (h:Q (((A5 n 0 lo:Nat):Int),1,A5 n n hi-A5 n 0 lo) s):wpAny (model prog w) A (Builtin.Slice.sliceApplied (.ref sl) (pure (n:Int))) Q E s:=by
 obtain⟨os,hos,hcs,hds⟩:=id hs;unfold Builtin.Slice.sliceApplied Builtin.Slice.sliceFields;refine Wb (Wb (au hos hds (x:=vl) rfl (Wb (au hos hds (x:=vu) rfl (Wb (au hos hds (x:=.none) rfl (aA ?_)))))));refine Wb (slicePart_none ?_);show wpAny _ _ (if((1:Int)==0)=true then _ else _) _ _ s;rw [if_neg (by decide)];refine Wb (LM pl (Wb (LM pu (Wb (aA ?_)))));show wpAny _ _ (match Builtin.Slice.sliceAdjust lo hi 1 (n:Int) with|(lo,hi)=>pure (lo,(1:Int),Builtin.Slice.slicePlaces lo hi 1)) _ _ s;rw [Rf lo hi n];show wpAny _ _ (pure (((A5 n 0 lo:Nat):Int),(1:Int),Builtin.Slice.slicePlaces ((A5 n 0 lo:Nat):Int) ((A5 n n hi:Nat):Int) 1)) _ _ s;rw [RX];exact aA h
def Uc(xs:Array VL)(i k:Nat):((List.range k).filterMap fun(m:Nat)=>xs[((i:Int)+(m:Int)*1).toNat]?).toArray=((xs.toList.drop i).take k).toArray:=by
 have e:(fun(m:Nat)=>xs[((i:Int)+(m:Int)*1).toNat]?)=fun m=>xs[i+m]? := by
  funext m
  have:((i:Int)+(m:Int)*1).toNat=i+m:=by omega
  rw [this]
 rw [e];have:=pick_run xs i k;rw [List.filterMap_map]at this;have e2:((fun x=>xs[x]?) ∘ fun x=>i+x)=fun m=>xs[i+m]?:=rfl;rw [e2]at this;rw [this]
def J6{t sl:AD}{items:Array VL}{vl vu:VL}{lo hi:Option Int}{Q:VL→SD→Prop}(ht:IsTup s.heap t items)(hs:s.heap.IsSliceOf sl vl vu .none)(pl:IsPart vl lo)(pu:IsPart vu hi)
 (hw:¬(A5 items.size 0 lo=0∧A5 items.size items.size hi=items.size))
 (h:Q (.ref s.heap.objs.size) { s with heap:=s.heap.push { cls:=.type "tuple",data:=.seq ((items.toList.drop (A5 items.size 0 lo)).take (A5 items.size items.size hi-A5 items.size 0 lo)).toArray } })
 (hsz:items.size≤sizeLine):wpAny (model prog w) A (getItem (.ref t) (.ref sl)) Q E s:=by
 have htake:sizeOk (.seq ((items.toList.drop (A5 items.size 0 lo)).take (A5 items.size items.size hi-A5 items.size 0 lo)).toArray):=by
  show((items.toList.drop (A5 items.size 0 lo)).take (A5 items.size items.size hi-A5 items.size 0 lo)).toArray.size≤sizeLine;rw [List.size_toArray,List.length_take,List.length_drop,Array.length_toList];omega
 have hj:A5 items.size items.size hi≤items.size:=Yp _ _ (aE _) hi;obtain⟨os,hos,hcs,hds⟩:=id hs;have hTs:s.TypeIs (.ref sl) "slice" := ⟨os,hos,hcs⟩;unfold getItem
 try with_reducible refine aV ?_
 first|refine Wb (aA ?_)|skip
 refine Wb (wpAny_sequenceKey ht.typeIs (by decide) ?_);refine Wb (aj (name:=Str.ofString "__getitem__") ht.typeIs PyProof.Rows.slot_tuple_getitem
  (aX PyProof.Rows.slot_tuple_getitem ht.typeIs entry_tuple_getitem ?_ (args_tuple_getitem _ _)))
 show wpAny _ _ (Builtin.Tuple.tupleItemsOf (.ref t)>>=_) _ _ s;refine Wb (tupleItemsOf_ ht ?_);refine Wb (wpAny_typeOf hTs ?_);rw [if_pos (by decide)];refine Wb (Kr hs pl pu ?_);have hno:¬((((A5 items.size 0 lo:Nat):Int)==0&&(1:Int)==1&&(A5 items.size items.size hi-A5 items.size 0 lo)==items.size)=true):=by
  intro q;rw [Bool.and_eq_true,Bool.and_eq_true]at q;have q1:((A5 items.size 0 lo:Nat):Int)=0:=eq_of_beq q.1.1;have q2:A5 items.size items.size hi-A5 items.size 0 lo=items.size:=eq_of_beq q.2;exact hw ⟨by omega,by omega⟩
 show wpAny _ _ (if(((A5 items.size 0 lo:Nat):Int)==0&&(1:Int)==1&&(A5 items.size items.size hi-A5 items.size 0 lo)==items.size)=true then _ else _) _ _ s;rw [if_neg hno,Uc]
 first
  |exact Wb (m:=Builtin.Tuple.tupleExact _) (ak (aA ⟨_,rfl,wpAny_pure h⟩) htake)
  |exact Wb (m:=Builtin.Tuple.tupleExact _) (ak (Wb (aA (aA ⟨_,rfl,wpAny_pure h⟩))) htake)
  |exact Wb (Wb (m:=Builtin.Tuple.tupleExact _) (ak (aA (aA ⟨_,rfl,wpAny_pure h⟩)) htake))
  |exact Wb (Wb (m:=Builtin.Tuple.tupleExact _) (ak (aA ⟨_,rfl,wpAny_pure h⟩) htake))
end
end HT
namespace L2
open PySem PySem.Spec PyProof.Rows
abbrev TO:=St→Hp→(Option Int→Hp→Prop)→Prop
def PO(X:Cx)(e:Option Expr)(t:TO):Prop :=
 ∀(pins:List (AD×Obj)) (s:SD) (σ:St) (H:Hp) (Q:Option Int→Hp→Prop),Inv X pins σ H s→t σ H Q →
  wpAny (model X.prog X.w) X.A (evalPart e X.env) (fun u s'=>∃o H',Inv X pins σ H' s'∧IsPart u o∧Q o H') X.xe s
def WG:TO:=fun _ H Q=>Q none H
def Zl(t:TE):TO:=fun σ H Q=>t σ H fun x H1=>∃i,x=.int i∧Q (some i) H1
def intsAre_of{ns:List Int}:∀ {us:List VL},Vals (ns.map V.int) us→IntsAre us ns:=by
 induction ns with
 |nil=>intro us r;rw [List.map_nil]at r;cases r;exact .nil
 |cons n ns ih =>
  intro us r;rw [List.map_cons]at r;cases r with
  |cons r1 r2 =>
   obtain⟨t,e⟩:=r1;subst e;exact .cons n t (ih r2)
section
variable{X:Cx}{e:Expr}{te:TE}{lo hi:Option Expr}{tl th:TO}{pos p2:Pos}
def QR:PO X none WG:=by
 intro pins s σ H Q I h;rw [evalPart_none];exact aA ⟨none,H,I,.none,h⟩
def QQ(h:PE X e te):PO X (some e) (Zl te):=by
 intro pins s σ H Q I hw;rw [evalPart_some];refine Az (h pins s σ H _ I hw) fun u s1 ⟨x,H1,I1,r1,q1⟩=>?_;obtain⟨i,rfl,q⟩:=q1;obtain⟨t,rfl⟩:=r1;exact⟨some i,H1,I1,.int i t,q⟩
def PU(X:Cx)(r:V→Option Int→Option Int→Hp→VK→Prop):Prop :=
 ∀(pins:List (AD×Obj)) (s:SD) (σ:St) (H:Hp) (x:V) (v vl vu:VL) (lo hi:Option Int) (sl:AD) (Q:VK),Inv X pins σ H s→RelV x v→s.heap.IsSliceOf sl vl vu .none→IsPart vl lo→IsPart vu hi→r x lo hi H Q →
  ∃T id,typeLookup (.type T) "__getitem__" = pure (some (.builtin id))∧s.TypeIs v T∧wpAny (model X.prog X.w) X.A (getItem v (.ref sl)) (EP X pins σ Q) X.xe s
def PU.or{r r':V→Option Int→Option Int→Hp→VK→Prop}(h:PU X r)(h':PU X r'):PU X (fun x lo hi H Q=>r x lo hi H Q∨r' x lo hi H Q):=by
 intro pins s σ H x v vl vu lo hi sl Q I rx hs pl pu q;rcases q with q|q
 ·exact h pins s σ H x v vl vu lo hi sl Q I rx hs pl pu q
 ·exact h' pins s σ H x v vl vu lo hi sl Q I rx hs pl pu q
def dJ(r:V→Option Int→Option Int→Hp→VK→Prop)(te:TE)(tl th:TO):TE:=fun σ H Q=>te σ H fun x H1=>tl σ H1 fun l H2=>th σ H2 fun u H3=>r x l u H3 Q
def OE{r:V→Option Int→Option Int→Hp→VK→Prop}(hr:PU X r)(he:PE X e te)(hl:PO X lo tl)(hu:PO X hi th):PE X (.Subscript e (.Slice lo hi none p2) pos) (dJ r te tl th):=by
 intro pins s σ H Q I h;refine Subscript_ (Az (he pins s σ H _ I h) fun v s1 ⟨x,H1,I1,r1,q1⟩=>?_);refine wpAny_Slice (Az (hl pins s1 σ H1 _ I1 q1) fun vl s2 ⟨l,H2,I2,pl,q2⟩=>Az (hu pins s2 σ H2 _ I2 q2) fun vu s3 ⟨u,H3,I3,pu,q3⟩=>?_);rw [evalPart_none];refine aA ?_;have I4:Inv X pins σ H3 { s3 with heap:=s3.heap.push { cls:=.type "slice",data:=.fields #[vl,vu,.none] } }:=I3.kept (t':=s3.toks) fun b ob q=>aC _ q;obtain⟨T,id,hT,ht,hg⟩:=hr pins { s3 with heap:=s3.heap.push { cls:=.type "slice",data:=.fields #[vl,vu,.none] } } σ H3 x v vl vu l u s3.heap.objs.size Q I4 r1 (Heap.IsSliceOf.new ..) pl pu q3;show wpAny (model X.prog X.w) X.A (subscriptTail e (.Slice lo hi none p2) v (.ref s3.heap.objs.size)) (EP X pins σ Q) X.xe { s3 with heap:=s3.heap.push { cls:=.type "slice",data:=.fields #[vl,vu,.none] } };exact tail_any (ops:=[.ref s3.heap.objs.size,v]) ht hT hg (by with_unfolding_all rfl)
def Gn(xs:List V)(lo hi:Option Int):List V:=(xs.drop (HT.A5 xs.length 0 lo)).take (HT.A5 xs.length xs.length hi-HT.A5 xs.length 0 lo)
def KC(xs:List V)(lo hi:Option Int):(Gn xs lo hi).length≤xs.length:=by
 unfold Gn;rw [List.length_take,List.length_drop];omega
def cP(K:Fg):V→Option Int→Option Int→Hp→VK→Prop:=fun x lo hi H Q=>∃a xs,x=.ref a∧Ag K H a xs ∧
 ¬(HT.A5 xs.length 0 lo=0∧HT.A5 xs.length xs.length hi=xs.length)∧∀p,H p=none→Q (.ref p) (upd H p (.tup (Gn xs lo hi)))
def Ww:PU X (cP X.K):=by
 intro pins s σ H x v vl vu lo hi sl Q I rx hs pl pu h;obtain⟨a,xs,rfl,hx,hw,q⟩:=h;cases rx;obtain⟨its,r,ht,hz⟩:=I.tuple hx;have hlen:its.toArray.size=xs.length:=by rw [List.size_toArray];exact r.length.symm
 refine⟨"tuple",_,PyProof.Rows.slot_tuple_getitem.lookup,ht.typeIs,?_⟩;refine HT.J6 ht hs pl pu (by rw [hlen];exact hw) ?_ (by rw [hlen];exact hz);rw [hlen];refine⟨.ref s.heap.objs.size,_,I.laid (t':=s.toks) (o:=.tup (Gn xs lo hi)) (fun b ob q=>aC _ q) (aE _) ?_,rfl,q _ (I.Ah.fresh (aE _))⟩;exact⟨aM (KC xs lo hi) hz,_,(r.drop (HT.A5 xs.length 0 lo)).take (HT.A5 xs.length xs.length hi-HT.A5 xs.length 0 lo),IsTup.new _ _⟩
def Vals.Ql{xs:List V}{us:List VL}(r:Vals xs us):us=[] ↔ xs=[]:=by
 cases r with
 |nil=>simp
 |cons _ _=>simp
end
def Ji(n:Nat)(i:Int):Option Nat:=if 0≤i then(if i<n then some i.toNat else none) else if -(n:Int)≤i then some (i+n).toNat else none
def C2{α:Type}(xs:List α)(i:Int):Option α:=(Ji xs.length i).bind fun j=>xs[j]?
def Qc{n:Nat}{i:Int}{j:Nat}(h:Ji n i=some j):seqIndex? i n=some j∧j<n∧-(n:Int)≤i∧i<n:=by
 unfold Ji at h;by_cases h0:0≤i
 ·rw [if_pos h0]at h;by_cases h1:i<n
  ·rw [if_pos h1]at h;have e:i.toNat=j:=ag h;exact⟨by rw [seqIndex_of h0 h1,e],by omega,by omega,h1⟩
  ·rw [if_neg h1]at h;cases h
 ·rw [if_neg h0]at h;by_cases h1:-(n:Int)≤i
  ·rw [if_pos h1]at h;have e:(i+n).toNat=j:=ag h;exact⟨by rw [seqIndex_neg (by omega) h1,e],by omega,h1,by omega⟩
  ·rw [if_neg h1]at h;cases h
def MU{α:Type}{xs:List α}{i:Int}{v:α}(h:C2 xs i=some v):∃j,seqIndex? i xs.length=some j∧xs[j]? = some v∧j<xs.length∧-(xs.length:Int)≤i∧i<xs.length:=by
 unfold C2 at h;cases e:Ji xs.length i with
 |none=>rw [e]at h;cases h
 |some j =>
  rw [e]at h;obtain⟨h1,h2,h3,h4⟩:=Qc e;exact⟨j,h1,h,h2,h3,h4⟩
def EY{α:Type}{xs:List α}{j:Nat}{v:α}(h:xs[j]? = some v):C2 xs (j:Int)=some v:=by
 have hj:j<xs.length:=(aD.mp h).1;have e:Ji xs.length (j:Int)=some j:=by
  unfold Ji;rw [if_pos (by omega),if_pos (by omega)];simp
 unfold C2;rw [e];exact h
def U9{α:Type}(xs:List α)(v:α):C2 (xs++[v]) (-1)=some v:=by
 have hl:(xs++[v]).length=xs.length+1:=by simp
 have e:Ji (xs++[v]).length (-1)=some xs.length:=by
  unfold Ji;rw [hl,if_neg (by decide),if_pos (by omega)]
  congr 1
  omega
 unfold C2;rw [e];show(xs++[v])[xs.length]? = some v;simp
def L5(b:Expr):Prop:=∀o i,subscripted b false o i=operate [o,i] (getItem o i)
def KJ(X:Cx)(r:R2):Prop :=
 ∀(value slice:Expr) (pins:List (AD×Obj)) (s:SD) (σ:St) (H:Hp) (x y:V) (v u:VL) (Q:VK),Inv X pins σ H s→RelV x v→RelV y u→r x y H Q →
  subscripted slice false v u=operate [v,u] (getItem v u)→wpAny (model X.prog X.w) X.A (subscriptTail value slice v u) (EP X pins σ Q) X.xe s
def dW(X:Cx)(id:String)(r:V→List V→Hp→VK→Prop):Prop :=
 ∀(pins:List (AD×Obj)) (s:SD) (σ:St) (H:Hp) (x:V) (xs:List V) (v:VL) (us:List VL) (Q:VK),Inv X pins σ H s→RelV x v→Vals xs us→r x xs H Q →
  wpAny (model X.prog X.w) X.A (call (.builtin id) (v::us)) (EP X pins σ Q) X.xe s
section
variable{X:Cx}{a b:Expr}{ta tb:TE}{pos:Pos}
def KJ.or{r r':R2}(h:KJ X r)(h':KJ X r'):KJ X (fun x y H Q=>r x y H Q∨r' x y H Q):=by
 intro value slice pins s σ H x y v u Q I rx ry q hs;rcases q with q|q
 ·exact h value slice pins s σ H x y v u Q I rx ry q hs
 ·exact h' value slice pins s σ H x y v u Q I rx ry q hs
def BM{r:R2}(hr:KJ X r)(ha:PE X a ta)(hb:PE X b tb)(hs:L5 b):PE X (.Subscript a b pos) (Te r ta tb):=by
 intro pins s σ H Q I h;exact Subscript_ (Ug ha hb I h fun v u s2 x y H2 I2 rx ry q=>hr a b pins s2 σ H2 x y v u Q I2 rx ry q (hs _ _))
def X8(K:Fg):R2:=fun x y H Q=>∃p xs i v,x=.ref p∧y=.int i∧AZ K H p xs∧C2 xs i=some v∧Q v H
def Ud(K:Fg):R2:=fun x y H Q=>∃p xs i v,x=.ref p∧y=.int i∧Ag K H p xs∧C2 xs i=some v∧Q v H
def YR:R2:=fun x y H Q=>∃z i c,x=.str z∧y=.int i∧z.length≤sizeLine∧C2 z.cps.toList i=some c∧Q (.str ⟨#[c]⟩) H
def Jx:KJ X (X8 X.K):=by
 intro value slice pins s σ H x y v u Q I rx ry h hs;obtain⟨p,xs,i,z,rfl,rfl,hq,he,q⟩:=h;cases rx;obtain⟨t,rfl⟩:=ry;obtain⟨its,r,pl,hz⟩:=I.list hq;obtain⟨j,h1,h2,h3,h4,h5⟩:=MU he;obtain⟨w,ew,rw'⟩:=r.get h2;have hl:=r.length;have hn:=JY;have fin:EP X pins σ Q w s:=⟨z,H,I,rw',q⟩;by_cases h0:0≤i
 ·have hj:i.toNat=j:=by
   rw [seqIndex_of h0 h5]at h1;exact ag h1
  exact item_listR pl.isList h0 (by omega) (by rw [hj];simpa using ew) fin hs
 ·have hj:(i+(its.toArray.size:Int)).toNat=j:=by
   rw [seqIndex_neg (by omega) h4]at h1;rw [List.size_toArray,←hl];exact ag h1
  exact subscriptTail_builtinR (x:=w) pl.isList.typeIs slot_list_getitem.lookup
   (wpAny_getItem_list_neg (Q:=fun r s'=>r=w∧EP X pins σ Q r s') pl.isList (by omega) (by rw [List.size_toArray]<;>omega) (by omega) (by rw [hj];simpa using ew) ⟨rfl,fin⟩) hs
def BS:KJ X (Ud X.K):=by
 intro value slice pins s σ H x y v u Q I rx ry h hs;obtain⟨p,xs,i,z,rfl,rfl,hq,he,q⟩:=h;cases rx;obtain⟨t,rfl⟩:=ry;obtain⟨its,r,pl,hz⟩:=I.tuple hq;obtain⟨j,h1,h2,h3,h4,h5⟩:=MU he;obtain⟨w,ew,rw'⟩:=r.get h2;have hl:=r.length;have hn:=JY;have fin:EP X pins σ Q w s:=⟨z,H,I,rw',q⟩;exact subscriptTail_builtinR (x:=w) pl.typeIs slot_tuple_getitem.lookup
  (getItem_tuple (j:=j) (Q:=fun r s'=>r=w∧EP X pins σ Q r s') pl (by omega) (by omega) (by rw [List.size_toArray,←hl];exact h1) (by simpa using ew) ⟨rfl,fin⟩) hs
def Yd:KJ X YR:=by
 intro value slice pins s σ H x y v u Q I rx ry h hs;obtain⟨z,i,c,rfl,rfl,hz,he,q⟩:=h;obtain⟨t,rfl⟩:=rx;obtain⟨t',rfl⟩:=ry;obtain⟨j,h1,h2,h3,h4,h5⟩:=MU he;have hl:z.cps.toList.length=z.length:=by simp [Str.length]
 rw [hl]at h1 h4 h5;have hn:=JY;exact tail_any (typeIs_str s z t) slot_str_getitem.lookup (getItem_str (c:=c) (by
  have e1:decide (i < -(2^63:Int))=false:=bC (by omega);have e2:decide (i ≥ 2^63)=false:=bC (by omega);rw [e1,e2,Bool.or_false]) (by rw [h1];simpa using h2) ⟨.str ⟨#[c]⟩,H,I.tok _,⟨_,rfl⟩,q⟩) hs
def dF(K:Fg):R2:=fun x y H Q=>X8 K x y H Q∨Ud K x y H Q∨YR x y H Q
def Y5:KJ X (dF X.K):=Jx.or (BS.or Yd)
def Ro(its:List VL)(n j:Nat)(u:VL):Obj.mapSeq (·.setIfInBounds j u) { cls:=.type "list",data:=.seq its.toArray n }={ cls:=.type "list",data:=.seq (its.set j u).toArray n }:=by
 simp [Obj.mapSeq]
def Inv.lst{pins:List (AD×Obj)}{σ:St}{H:Hp}{s:SD}{p:AD}{xs:List V}(I:Inv X pins σ H s)(h:H p=some (.lst xs)) :
  ∃(its:List VL) (n:Nat),Vals xs its∧s.heap.get? p=some { cls:=.type "list",data:=.seq its.toArray n }∧xs.length≤sizeLine:=by
 obtain⟨z,its,n,r,e⟩:=I.Ah p _ h;exact⟨its,n,r,e,z⟩
def Inv.XX{pins:List (AD×Obj)}{σ:St}{H:Hp}{s:SD}{p:AD}{xs ys:List V}{its its':List VL}{n n':Nat}{f:Obj→Obj}(I:Inv X pins σ H s)(h:H p=some (.lst xs))
 (ho:s.heap.get? p=some { cls:=.type "list",data:=.seq its.toArray n })(hf:f { cls:=.type "list",data:=.seq its.toArray n }={ cls:=.type "list",data:=.seq its'.toArray n' })(r:Vals ys its')(hz:ys.length≤sizeLine)(t:Nat) :
  Inv X pins σ (upd H p (.lst ys)) { s with heap:=s.heap.update p f,toks:=t }:=by
 have e:(s.heap.update p f).get? p=some { cls:=.type "list",data:=.seq its'.toArray n' }:=by
  rw [Heap.get?_update_self f ho (by rw [hf]<;>rfl),hf]
 refine I.write (x:=p) (e:=p) (by rw [h];trivial) (.inl rfl) (fun b u hb q=>(Heap.get?_update_other _ _ (Ne.symm hb)).trans q) ⟨_,e⟩ ?_;exact⟨hz,its',n',r,e⟩
def Z1:V→V→V→Hp→(Hp→Prop)→Prop:=fun o i v H Q=>∃p xs k j,o=.ref p∧i=.int k∧H p=some (.lst xs)∧Ji xs.length k=some j∧Q (upd H p (.lst (xs.set j v)))
def set_list:Uq X Z1:=by
 intro pins s σ H o i v ov iv u Q I ro ri rv h;obtain⟨p,xs,k,j,rfl,rfl,hp,hj,q⟩:=h;cases ro;obtain⟨t,rfl⟩:=ri;obtain⟨its,n,r,ho,hz⟩:=I.lst hp;obtain⟨h1,h2,h3,h4⟩:=Qc hj;have hl:=r.length;have hn:=JY;have I':Inv X pins σ (upd H p (.lst (xs.set j v))) { s with heap:=s.heap.update p (Obj.mapSeq (·.setIfInBounds j u)) } :=
  I.XX hp ho (Ro its n j u) (r.set rv j) (by rw [List.length_set];exact hz) s.toks
 by_cases h0:0≤k
 ·have hk:k.toNat=j:=by
   rw [seqIndex_of h0 h4]at h1;exact ag h1
  exact PySem.W.ki_setAt ho h0 (by omega) (by rw [List.size_toArray,←hl];exact h4) (by rw [hk];exact⟨_,I',q⟩)
 ·have hk:(k+(its.toArray.size:Int)).toNat=j:=by
   rw [seqIndex_neg (by omega) h3]at h1;rw [List.size_toArray,←hl];exact ag h1
  exact PySem.W.ki_setBack ho (by omega) (by rw [List.size_toArray,←hl];exact h3) (by omega) (by rw [hk];exact⟨_,I',q⟩)
def O4(lo hi:Option Int)(n:Nat):(sliceBounds lo hi none n).1=((HT.A5 n 0 lo:Nat):Int)∧(sliceBounds lo hi none n).2.1=((HT.A5 n n hi:Nat):Int)∧(sliceBounds lo hi none n).2.2=1:=by
 refine⟨?_,?_,rfl⟩
 ·cases lo with
  |none=>simp [sliceBounds,HT.A5]
  |some i =>
   simp only [sliceBounds,HT.A5,Option.getD_none,show(1:Int) > 0 by decide,if_true];by_cases h:i<0
   ·simp only [h,if_true]<;>omega
   ·simp only [h,if_false]<;>omega
 ·cases hi with
  |none=>simp [sliceBounds,HT.A5]
  |some i =>
   simp only [sliceBounds,HT.A5,Option.getD_none,show(1:Int) > 0 by decide,if_true];by_cases h:i<0
   ·simp only [h,if_true]<;>omega
   ·simp only [h,if_false]<;>omega
def Nc(its:List VL)(lo hi:Option Int):slicePick its.toArray lo hi none=((its.drop (HT.A5 its.length 0 lo)).take (HT.A5 its.length its.length hi-HT.A5 its.length 0 lo)).toArray:=by
 obtain⟨h1,h2,h3⟩:=O4 lo hi its.toArray.size;unfold slicePick;rw [h1,h2,h3];simp only [sliceRange_one,pick_run,List.size_toArray]<;>rfl
def bU(K:Fg):V→Option Int→Option Int→Hp→VK→Prop:=fun x lo hi H Q=>∃a xs,x=.ref a∧AZ K H a xs∧∀p,H p=none→Q (.ref p) (upd H p (.lst (Gn xs lo hi)))
def QL:PU X (bU X.K):=by
 intro pins s σ H x v vl vu lo hi sl Q I rx hs pl pu h;obtain⟨a,xs,rfl,hx,q⟩:=h;cases rx;obtain⟨its,r,ht,hz⟩:=I.list hx;have hlen:=r.length;refine⟨"list",_,slot_list_getitem.lookup,ht.isList.typeIs,?_⟩;refine wpAny_getItem_list_slice ht.isList hs pl pu .none (by simp) ?_ (by rw [List.size_toArray]<;>omega);rw [Nc,←hlen];refine⟨.ref s.heap.objs.size,_,I.laid (t':=s.toks) (o:=.lst (Gn xs lo hi)) (fun b ob q=>aC _ q) (aE _) ?_,rfl,q _ (I.Ah.fresh (aE _))⟩;exact⟨aM (KC xs lo hi) hz,_,0,(r.drop (HT.A5 xs.length 0 lo)).take (HT.A5 xs.length xs.length hi-HT.A5 xs.length 0 lo),Heap.get?_push_size _ rfl⟩
def BQ:Df X (.builtin "len") (fun xs H Q=>∃p ys,xs=[.ref p]∧(AZ X.K H p ys∨Ag X.K H p ys)∧Q (.int ys.length) H):=by
 intro pins s σ H xs us Q I r h;obtain⟨p,ys,rfl,hq,q⟩:=h;obtain⟨u,rfl,rx⟩:=vals1 r;cases rx;have hn:=JY;rcases hq with hq|hq
 ·obtain⟨its,r',pl,hz⟩:=I.list hq;have hlen:=r'.length;exact Calls.call_len_list pl.isList (by simp only [List.size_toArray]<;>omega) ⟨.int ys.length,H,I.tok _,⟨s.toks+1,by rw [List.size_toArray,hlen]⟩,q⟩
 ·obtain⟨its,r',pl,hz⟩:=I.tuple hq;have hlen:=r'.length;exact len_tuple pl (by simp only [List.size_toArray]<;>omega) ⟨.int ys.length,H,I.tok _,⟨s.toks+1,by rw [List.size_toArray,hlen]⟩,q⟩
def JQ:Df X (.type "list") (fun xs H Q=>∃p ys,xs=[.ref p]∧(AZ X.K H p ys∨Ag X.K H p ys)∧∀l,H l=none→Q (.ref l) (upd H l (.lst ys))):=by
 intro pins s σ H xs us Q I r h;obtain⟨p,ys,rfl,hq,q⟩:=h;obtain⟨u,rfl,rx⟩:=vals1 r;cases rx;have fin:∀(its:List VL),Vals ys its→ys.length≤sizeLine→∀(h':Heap) (c':Nat),(∀b o',s.heap.get? b=some o'→h'.get? b=some o') →
   h'.get? s.heap.objs.size=some { cls:=.type "list",dict:=none,data:=.seq its.toArray c',slots:=#[] }→EP X pins σ Q (.ref s.heap.objs.size) { s with heap:=h' }:=fun its r' hz h' c' kp e =>
  ⟨.ref s.heap.objs.size,_,I.laid (t':=s.toks) kp (aE _) (show Bl X.prog X.w _ h' _ (.lst ys) from⟨hz,its,c',r',e⟩),rfl,q _ (I.Ah.fresh (aE _))⟩
 rcases hq with hq|hq
 ·obtain⟨its,r',pl,hz⟩:=I.list hq;have hlen:=r'.length;obtain⟨o,ho,hc,n,hd⟩:=pl.isList;exact call_list_seq p (.inl rfl) ho hc hd (fun h' c' kp e=>fin its r' hz h' c' kp e) (by simp only [List.size_toArray]<;>omega)
 ·obtain⟨its,r',pl,hz⟩:=I.tuple hq;have hlen:=r'.length;obtain⟨o,ho,hc,n,hd⟩:=pl;exact call_list_seq p (.inr rfl) ho hc hd (fun h' c' kp e=>fin its r' hz h' c' kp e) (by simp only [List.size_toArray]<;>omega)
def Na:Df X (.type "tuple") (fun xs H Q=>∃p ys,xs=[.ref p]∧((AZ X.K H p ys∧∀l,H l=none→Q (.ref l) (upd H l (.tup ys)))∨(Ag X.K H p ys∧Q (.ref p) H))):=by
 intro pins s σ H xs us Q I r h;obtain⟨p,ys,rfl,h⟩:=h;obtain⟨u,rfl,rx⟩:=vals1 r;cases rx;rcases h with ⟨hq,q⟩|⟨hq,q⟩
 ·obtain⟨its,r',pl,hz⟩:=I.list hq;have hlen:=r'.length;refine call_tuple_list pl.isList (fun h' kp=>?_) (by simp only [List.size_toArray]<;>omega);have I1:Inv X pins σ H { s with heap:=h' }:=I.kept (t':=s.toks) kp;have I2:Inv X pins σ (upd H h'.objs.size (.tup ys)) { s with heap:=h'.push { cls:=.type "tuple",data:=.seq its.toArray } } :=
   I1.laid (t':=s.toks) (fun b o e=>aC _ e) (aE _) (show Bl X.prog X.w _ _ _ (.tup ys) from⟨hz,its,r',IsTup.new _ _⟩)
  exact⟨.ref h'.objs.size,_,I2,rfl,q _ (I1.Ah.fresh (aE _))⟩
 ·obtain⟨its,r',pl,hz⟩:=I.tuple hq;exact call_tuple_same pl ⟨.ref p,H,I,rfl,q⟩
def a7(K:Fg)(T:String)(x:V)(H:Hp):Prop:=match x with
 |.str _=>T = "str"
 |.int _=>T = "int"
 |.ref p=>(T = "list" ∧ ∃xs,AZ K H p xs)∨(T = "tuple" ∧ ∃o,K.lookup p=some o∧o.cls=.type "tuple" ∧ o.dict=none) ∨
   (T = "dict" ∧((∃kvs,H p=some (.dK kvs))∨∃kvs,H p=some (.dT kvs)))∨(T = "set" ∧ ∃S n,H p=some (.set S n))
 |_=>False
def Xz{pins:List (AD×Obj)}{σ:St}{H:Hp}{s:SD}{T:String}{x:V}{v:VL}(I:Inv X pins σ H s)(r:RelV x v)(ty:a7 X.K T x H) :
  s.TypeIs v T∧∀a,v=.ref a→∃ob,s.heap.get? a=some ob∧ob.dict=none:=by
 cases x with
 |str z =>
  obtain⟨t,rfl⟩:=r;cases (show T = "str" from ty);exact⟨typeIs_str s z t,fun _ e=>nomatch e⟩
 |int i =>
  obtain⟨t,rfl⟩:=r;cases (show T = "int" from ty);exact⟨typeIs_int s i t,fun _ e=>nomatch e⟩
 |ref p =>
  cases r;rcases ty with ⟨rfl,xs,hq⟩|⟨rfl,o,hk,hc,hd⟩|⟨rfl,hk⟩|⟨rfl,S,n,hk⟩
  ·obtain⟨its,_,pl,_⟩:=I.list hq;refine⟨pl.isList.typeIs,fun a e=>?_⟩;cases e;obtain⟨o,n,e,c,hd,_⟩:=pl;exact⟨o,e,hd⟩
  ·refine⟨⟨o,I.Fj p o hk,hc⟩,fun a e=>?_⟩;cases e;exact⟨o,I.Fj _ o hk,hd⟩
  ·have z:∃o,s.heap.get? p=some o∧o.ExactDict:=by
    rcases hk with ⟨kvs,hk⟩|⟨kvs,hk⟩
    ·obtain⟨_,_,_,_,o,_,_,e,ex,_⟩:=I.Ah p _ hk;exact⟨o,e,ex⟩
    ·obtain⟨_,_,_,_,o,_,_,e,ex,_⟩:=I.Ah p _ hk;exact⟨o,e,ex⟩
   obtain⟨o,e,ex⟩:=z;refine⟨⟨o,e,ex.1⟩,fun a e2=>?_⟩;cases e2;exact⟨o,e,ex.2.1⟩
  ·obtain⟨o,_,_,_,e,ex,_⟩:=I.Ah p _ hk;refine⟨⟨o,e,ex.1⟩,fun a e2=>?_⟩;cases e2;exact⟨o,e,ex.2.1⟩
 |_=>exact False.elim ty
def bS(K:Fg)(T:String)(r:V→List V→Hp→VK→Prop)(to:TE)(t:TA):TE:=fun σ H Q=>to σ H fun x H1=>a7 K T x H1∧t σ H1 fun xs H2=>r x xs H2 Q
variable{o e:Expr}{es:List Expr}{to:TE}{t:TA}{name:Str}{apos cpos:Pos}{T id:String}{r:V→List V→Hp→VK→Prop}
def Jt(pa:PlainAttrs T)(slot:Slot T name id)(hty:typeOf (.builtin id)=pure (.type "method_descriptor"))(hm:dW X id r)(ho:PE X o to)(ha:PA X (e::es) t)
 (hbase:attributeBase o name X.env (eval o X.env)=eval o X.env:=by rfl)
 (hfew:((backTo cpos (starEach (e::es) X.env)).all (fun x=>!x.1)&&(backToKw cpos (keywordEach [] X.env)).all (fun x=>x.1.isSome)
   && decide ((e::es).length+([]:List Keyword).length+(if([]:List Keyword).isEmpty then 0 else 1)<30))=true:=by rfl)
 (hline:(apos.endLine==cpos.line)=true:=by rfl)(hs:starEach (e::es) X.env=(false,eval e X.env)::starEach es X.env:=by rfl)(hplain:(backTo cpos (starEach es X.env)).any (·.1)=false:=by rfl) :
  PE X (.Call (.Attribute o name apos) (e::es) [] cpos) (bS X.K T r to t):=by
 intro pins s σ H Q I h;refine wpAny_Call_method_late hbase hfew hline rfl (Az (ho pins s σ H _ I h) fun v s1 ⟨x,H1,I1,r1,ty,q1⟩=>?_);obtain⟨h1,h2⟩:=Xz I1 r1 ty;refine⟨T,id,pa,slot,hty,h1,h2,?_⟩;have hA:=ha cpos pins s1 σ H1 _ I1 q1;rw [hs]at hA ⊢;refine Calls.callWith_builtin (by show(false||(backTo cpos (starEach es X.env)).any (·.1))=false;rw [hplain]<;>rfl) (Calls.evalArgs_plain ?_);exact Az hA fun us s2 ⟨vs,H2,I2,r2,q2⟩=>hm pins s2 σ H2 x vs v us Q I2 r1 r2 q2
end
def a6(X:Cx)(id:String)(r:V→List V→Hp→VK→Prop):Prop :=
 ∀(pins:List (AD×Obj)) (s:SD) (σ:St) (H:Hp) (x:V) (xs:List V) (v:VL) (us:List VL) (Q:VK),Inv X pins σ H s→RelV x v→Vals xs us→r x xs H Q →
  wpAny (model X.prog X.w) X.A (call (.builtin id) (v::us)) (EP X pins σ Q) X.xe s
def Vals.one:∀ {x:V} {us:List VL},Vals [x] us→∃u,us=[u]∧RelV x u
 |_,_,.cons r .nil=>⟨_,rfl,r⟩
def Vals.two:∀ {x y:V} {us:List VL},Vals [x,y] us→∃u v,us=[u,v]∧RelV x u∧RelV y v
 |_,_,_,.cons r (.cons q .nil)=>⟨_,_,rfl,r,q⟩
def Vals.reverse{xs:List V}{us:List VL}(h:Vals xs us):Vals xs.reverse us.reverse:=by
 induction h with
 |nil=>exact .nil
 |cons r t ih=>rw [List.reverse_cons,List.reverse_cons];exact Vals.append ih (.cons r .nil)
def Vals.rep{xs:List V}{us:List VL}(h:Vals xs us):∀k:Nat,Vals (List.replicate k xs).flatten (List.replicate k us).flatten
 |0=>.nil
 |k+1=>by
  rw [List.replicate_succ,List.replicate_succ,List.flatten_cons,List.flatten_cons];exact Vals.append h (Vals.rep h k)
def foldl_rep(its:List VL):∀(k:Nat) (acc:List VL),
  List.foldl (fun x1 x2=>x1++x2) acc.toArray (List.replicate k its.toArray)=(acc++(List.replicate k its).flatten).toArray
 |0,acc=>by simp
 |k+1,acc=>by
  have e:acc.toArray++its.toArray=(acc++its).toArray:=by simp
  have e2:(acc++its)++(List.replicate k its).flatten=acc++(List.replicate (k+1) its).flatten:=by
   rw [List.replicate_succ,List.flatten_cons,List.append_assoc]
  rw [←e2,←foldl_rep its k (acc++its),←e,List.replicate_succ,List.foldl_cons]
section
variable{X:Cx}{pins:List (AD×Obj)}{σ:St}{H:Hp}{s:SD}{l b:AD}{xs ys zs:List V}
def Inv.X5{its its':List VL}{n:Nat}{f:Array VL→Array VL}{t':Nat}(I:Inv X pins σ H s)(hH:H l=some (.lst xs))
 (e:s.heap.get? l=some { cls:=.type "list",data:=.seq its.toArray n })(hf:f its.toArray=its'.toArray)(hv:Vals ys its')(hz:ys.length≤sizeLine) :
  Inv X pins σ (upd H l (.lst ys)) { s with heap:=s.heap.update l (Obj.mapSeq f),toks:=t' }:=by
 have q:=PySem.IsL.update e f;rw [hf]at q;refine I.write (x:=l) (e:=l) (by rw [hH];exact trivial) (.inl rfl) (fun b' u hb hu=>(Heap.get?_update_other s.heap (Obj.mapSeq f) (Ne.symm hb)).trans hu) ⟨_,q⟩ ?_;exact⟨hz,its',_,hv,q⟩
def Inv.Xw{its:List VL}{t':Nat}(I:Inv X pins σ H s)(hv:Vals ys its)(hz:ys.length≤sizeLine) :
  Inv X pins σ (upd H s.heap.objs.size (.lst ys)) { s with heap:=s.heap.push { cls:=.type "list",data:=.seq its.toArray },toks:=t' } :=
 I.laid (fun _ _ q=>aC _ q) (aE _) ⟨hz,its,0,hv,Heap.get?_push_size _ rfl⟩
def Inv.fresh(I:Inv X pins σ H s):H s.heap.objs.size=none:=I.Ah.fresh (aE _)
def Inv.MT(I:Inv X pins σ H s)(hH:H l=some (.lst xs)):xs.length≤sizeLine∧∃(its:List VL) (n:Nat),Vals xs its∧xs.length=its.length∧s.heap.get? l=some { cls:=.type "list",data:=.seq its.toArray n }:=by
 obtain⟨z,its,n,r,e⟩:=I.Ah l _ hH;exact⟨z,its,n,r,r.length,e⟩
def Oo{n:Nat}(h:n≤sizeLine):Builtin.List.listTooLong n=false:=by
 unfold Builtin.List.listTooLong;exact bC (by omega)
end
section
variable{X:Cx}
def Qk:V→List V→Hp→VK→Prop:=fun x vs H Q=>∃l xs y,x=.ref l∧vs=[y]∧H l=some (.lst xs)∧xs.length<sizeLine∧Q .BG (upd H l (.lst (xs++[y])))
def EO:a6 X "list.append" Qk:=by
 intro pins s σ H x vs v us Q I rx rv h;obtain⟨l,xs,y,rfl,rfl,hH,hz,q⟩:=h;cases rx;obtain⟨u,rfl,ru⟩:=rv.one;obtain⟨z,its,n,r,hl,e⟩:=I.MT hH;refine call_meets F.slot_list_append ⟨_,e,rfl⟩ F.entry_list_append (F.args_list_append_2 _ _) (PySem.list_append l its.toArray n u (by rw [List.size_toArray];omega)) ⟨e,?_⟩;refine⟨.BG,_,I.X5 (its':=its++[u]) hH e (by simp) (r.append (.cons ru .nil)) ?_,rfl,q⟩;rw [List.length_append,List.length_singleton];omega
def WW:V→List V→Hp→VK→Prop:=fun x vs H Q=>∃l b xs zs,x=.ref l∧vs=[.ref b]∧H l=some (.lst xs)∧H b=some (.lst zs)∧xs.length+zs.length≤sizeLine∧Q .BG (upd H l (.lst (xs++zs)))
def Ru:a6 X "list.extend" WW:=by
 intro pins s σ H x vs v us Q I rx rv h;obtain⟨l,b,xs,zs,rfl,rfl,hH,hB,hz,q⟩:=h;cases rx;obtain⟨u,rfl,ru⟩:=rv.one;cases ru;obtain⟨z,its,n,r,hl,e⟩:=I.MT hH;obtain⟨z2,its2,n2,r2,hl2,e2⟩:=I.MT hB;have hsz:its.toArray.size+its2.toArray.size≤sizeLine:=by rw [List.size_toArray,List.size_toArray];omega
 have hlong:¬(!its.toArray.isEmpty&&Builtin.List.listTooLong (its.toArray.size+its2.toArray.size))=true:=by
  rw [Oo hsz,Bool.and_false];exact aI
 refine call_meets F.slot_list_extend ⟨_,e,rfl⟩ F.entry_list_extend (F.args_list_extend_2 _ _)
  (AutoSeq1.list_extend_list_list_0 l its.toArray n b its2.toArray n2 hlong (by rw [List.size_toArray];omega) (by omega)) ⟨e,e2,?_⟩
 refine⟨.BG,_,I.X5 (its':=its++its2) hH e (by simp) (r.append r2) ?_,rfl,q⟩;rw [List.length_append];omega
def cu:R2:=fun x y H Q=>∃l b xs zs,x=.ref l∧y=.ref b∧H l=some (.lst xs)∧H b=some (.lst zs)∧xs.length+zs.length≤sizeLine∧∀p,H p=none→Q (.ref p) (upd H p (.lst (xs++zs)))
def OP:Bm X (binaryOp .Add) cu:=by
 intro pins s σ H x y v u Q I rx ry h;obtain⟨l,b,xs,zs,rfl,rfl,hH,hB,hz,q⟩:=h;cases rx;cases ry;obtain⟨z,its,n,r,hl,e⟩:=I.MT hH;obtain⟨z2,its2,n2,r2,hl2,e2⟩:=I.MT hB;refine PySem.P.add_list e e2 ?_ (by rw [List.size_toArray,List.size_toArray];omega);have ea:its.toArray++its2.toArray=(its++its2).toArray:=by simp
 rw [ea];exact⟨.ref _,_,I.Xw (t':=s.toks) (r.append r2) (by rw [List.length_append];omega),rfl,q _ I.fresh⟩
def bW:R2:=fun x y H Q=>∃l k xs,x=.ref l∧y=.int k∧H l=some (.lst xs)∧-(2^63)≤k∧k<2^63∧xs.length*k.toNat≤sizeLine ∧
 ∀p,H p=none→Q (.ref p) (upd H p (.lst (List.replicate k.toNat xs).flatten))
def len_rep{α:Type}(xs:List α)(k:Nat):(List.replicate k xs).flatten.length=k*xs.length:=by
 induction k with
 |zero=>simp
 |succ k ih=>rw [List.replicate_succ,List.flatten_cons,List.length_append,ih,Nat.succ_mul,Nat.add_comm]
def TV:Bm X (binaryOp .Mult) bW:=by
 intro pins s σ H x y v u Q I rx ry h;obtain⟨l,k,xs,rfl,rfl,hH,h1,h2,hz,q⟩:=h;cases rx;obtain⟨t,rfl⟩:=ry;obtain⟨z,its,n,r,hl,e⟩:=I.MT hH;have hlen:its.toArray.size*k.toNat≤sizeLine:=by rw [List.size_toArray,←hl];exact hz
 have hcap:¬its.toArray.size*k.toNat > (2^63-1) / 8:=by
  have:(sizeLine:Nat)≤(2^63-1) / 8:=by decide
  omega
 have hfit:¬(!Builtin.List.listFitsIndex k)=true:=by
  rw [fitsIndex_both h1 h2];exact aI
 have hlong:¬Builtin.List.listTooLong (its.toArray.size*k.toNat)=true:=by
  rw [Oo hlen];exact aI
 have hnew:List.foldl (fun x1 x2=>x1++x2) #[] (List.replicate (if its.toArray.isEmpty=true then 0 else k.toNat) its.toArray)=(List.replicate k.toNat its).flatten.toArray:=by
  have f0:∀m:Nat,List.foldl (fun x1 x2=>x1++x2) #[] (List.replicate m its.toArray)=(List.replicate m its).flatten.toArray:=fun m=>by
   have:=foldl_rep its m [];rw [List.nil_append]at this;exact this
  rw [f0];cases its with
  |nil=>simp
  |cons a r'=>rw [if_neg (by simp)]
 refine wpAny_binaryOp_repeat_ref (T := "list") (U := "int") (by decide) ⟨_,e,rfl⟩ (fun s'=>typeIs_int s' k t) noFill_list_mul F.fills_int_mul F.slot_int_rmul repeat_list F.slot_int_index.lookup
  (call_meets F.slot_int_rmul (typeIs_int s k t) F.entry_int_rmul (F.args_int_rmul_2 _ _) (int___rmul___int_list k t l its.toArray n)
   ⟨e,rfl,⟨_,e,rfl⟩,call_meets F.slot_list_mul ⟨_,e,rfl⟩ F.entry_list_mul (F.args_list_mul_2 _ _) (AutoListH.list___mul___list_int_3 l its.toArray n k t hfit hcap hlong) ⟨e,?_⟩⟩)
 rw [hnew];exact⟨.ref _,_,I.Xw (t':=s.toks) (r.rep k.toNat) (by rw [len_rep,Nat.mul_comm];exact hz),rfl,q _ I.fresh⟩
end
end L2
namespace Att
open PySem PySem.W PySem.Calls PyProof.Rows
def LC{P:Params}{h:Heap}:∀(ns:List Int) (vs:List VL),WellAll P h vs (ns.map WData.int)→IntsAre vs ns:=by
 intro ns
 induction ns with
 |nil =>
  intro vs w;rw [List.map_nil]at w;cases w;exact .nil
 |cons n ns ih =>
  intro vs w;rw [List.map_cons]at w;cases w with
  |cons a b =>
   cases a;exact .cons _ _ (ih _ b)
def Rr{l:OpenLaw}{n:Nat}(hn:l.most=some n){P:Params}{h:Heap}{args:List WData}{vals:List VL}
 (hpre:l.row.toRowW.claim.pre args=true)(hwl:WellAll P h vals args) :
  ∃a vs ns,vals=[Value.ref a]∧args=[WData.list (ns.map WData.int)]∧h.get? a=some { cls:=.type "list",data:=.seq vs.toArray }∧IntsAre vs ns∧ns.length≤n:=by
 have hsh:WShape.hasAll [] args [.list .int]=true:=(pre_splitW hpre).1;have hc:l.pre.holds [] { args:=args }=true:=(pre_splitW hpre).2;obtain⟨d,r,rfl,h1,h2⟩:=hasAllW_cons hsh;obtain rfl:=hasAllW_nil h2;obtain⟨xs,rfl,h3⟩:=hasW_list h1;obtain⟨ns,rfl⟩:=items_int h3;have hlen:ns.length≤n:=by
  unfold OpenLaw.pre at hc;have h4:(WTm.not (.lt (.lit (.int (n:Int))) (.len (.arg 0)))).holds [] { args:=[.list (ns.map .int)] }=true:=by
   have h4:=(holds_andW hc).1;rw [hn]at h4;exact h4
  have h5:=condW_of h4 (w_not (w_lt w_lit (w_len_list (w_arg rfl))));rw [List.length_map]at h5;refine Nat.le_of_not_lt fun q=>?_;have q':(n:Int)<((ns.length:Nat):Int):=by omega
  first
   |(rw [decide_eq_true q']at h5;exact absurd h5 (by decide))
   |(simp at h5;omega)
 cases hwl with
 |cons w1 w2 =>
  cases w2;cases w1 with
  |list ho hall=>exact⟨_,_,ns,rfl,rfl,ho,LC ns _ hall,hlen⟩
def R9(l:OpenLaw)(args:List WData):l.row.toRowW.claim.post args (.bool true) args=true :=
 postW_of (r:=l.row.toRowW) (X:=(true==true))
  (show WShape.has [] (.bool true) .bool=true by first|rfl|decide|simp [WShape.has,WShape.arms,WShape.armsAll])
  (show(WTm.eq .res (.lit (.bool true))).value [] { args:=args,res:=some (.bool true),after:=args }=some (.bool (true==true)) from w_eq_bool (w_res rfl) w_lit) rfl
def Pu{l:OpenLaw}{n:Nat}{q:Program}{loose:List Str}{XP:(Str→Option VL)→Heap→Prop}{YP:World→Heap→Prop}{d:DefRec}
 (hn:l.most=some n)(hdf:d.params.defaults=[])
 (call:∀(w:World) (s₀ s₁:SD) (mg mb:Str→Option VL) (fa:AD) (o:Obj) (pm cd doc:VL) (a:AD) (vs:List VL) (ns:List Int),
   Ground q loose [] XP w s₀ mg mb s₁.heap→YP w s₁.heap →
   s₁.heap.get? fa=some o→o.data=.func (docDef d.name d.params d.body d.scope pm cd doc)→s₁.heap.CodeRec cd d.name→mg d.name=some (.ref fa) →
   s₁.heap.get? a=some { cls:=.type "list",data:=.seq vs.toArray }→IntsAre vs ns→ns.length≤n→s₁.gens=#[] →
   codeAny (model l.prog w) callerA (.call (.ref fa) ⟨[.ref a],[]⟩) (fun r s'=>r=.ok (.ret (.bool true))∧OldK s₁.heap s'.heap∧s'.os=s₁.os∧AllBare s'.gens) s₁) :
  WalkO q loose XP YP l.row.toRowW d [] (fun f vs=>PySem.call f vs):=by
 intro w s₀ s₁ mg mb G Y fa o pm cd doc dV kV ho hd hcd hD hmg hg args vals as hpre hlay hrd hwl hlo;obtain rfl:dV=.none:=Dflts.none hD hdf;obtain rfl:kV=.none:=Dflts.noKw hD;obtain⟨a,vs,ns,rfl,rfl,hobj,hints,hlen⟩:=Rr hn hpre hwl;refine enter_call (codeAny_mono (call w s₀ s₁ mg mb fa o pm cd doc a vs ns G Y ho (fd_plain hd) hcd hmg hobj hints hlen hg) fun r s' hq=>?_);obtain⟨rfl,h2,h3,h4⟩:=hq;exact⟨.inl ⟨.bool true,.bool true,[],rfl,fun _=>rfl,.bool true,R9 l _,fun _=>⟨List.Pairwise.nil,fun _ hm=>(nomatch hm)⟩⟩,h2,h3,h4⟩
end Att
namespace L2
open PySem PySem.Spec PyProof.Rows
def NI:∀ {vs:List VL} {ns:List Int},IntsAre vs ns→Vals (ns.map V.int) vs
 |_,_,.nil=>.nil
 |_,_,.cons n t h=>.cons ⟨t,rfl⟩ (NI h)
def UU(H:Hp):Prop:=∀b,H b=none∨∃o xs,H b=some (.Gx o (.lst xs))
def UJ{P:Program}{w:World}{K:Fg}{mg mb:Str→Option VL}{CX:F4}{k:Nat}{fa a:AD}{fd:FuncData}{x:Str}{sp:Sp}{s₁:SD}{vs:List VL}{ns:List Int}
 (KX:K.In s₁.heap)(hns:s₁.heap.Ns mainGlobals mg)(hb:s₁.heap.Ns builtinsNs mb)(hbb:∀x:Str,x ≠ "__name__" → mb x=bootBuiltins x)(hlim:s₁.heap.NoLimit)(hg:s₁.gens=#[])
 (ha:s₁.heap.get? a=some { cls:=.type "list",data:=.seq vs.toArray })(hi:IntsAre vs ns)(hl:ns.length≤sizeLine)(hr:Cn k callerA)
 (F:∀base:Heap,K.In base→base.Ns mainGlobals mg→AV P w K mg base CX k fa fd [x] sp)(hbind:∀(s:SD) (u:VL),BindsTo s fd ⟨[u],[]⟩ [(x,u)])
 (hsp:∀H:Hp,UU H→AZ K H a (ns.map V.int)→sp [.ref a] H (fun v _=>v=.bl true) fun _ _ _=>False)
 (hCX:∀H e s',CX [] H s₁ (fun _ _ _=>False) e s'→False) :
  codeAny (model P w) callerA (.call (.ref fa) ⟨[.ref a],[]⟩) (fun r s'=>r=.ok (.ret (.bool true))∧OldK s₁.heap s'.heap∧s'.os=s₁.os∧AllBare s'.gens) s₁:=by
 have rv:=NI hi;have lenV:=hi.length;have core:∀H:Hp,UU H→AZ K H a (ns.map V.int)→C1 P w H s₁.heap→(∀b,H b≠none→b=a)→(H a≠none→K.lookup a=none) →
   codeAny (model P w) callerA (.call (.ref fa) ⟨[.ref a],[]⟩) (fun r s'=>r=.ok (.ret (.bool true))∧OldK s₁.heap s'.heap∧s'.os=s₁.os∧AllBare s'.gens) s₁:=by
  intro H hO hS Ah hA hK;have base_of:∀ {b:AD} {o:Obj},s₁.heap.get? b=some o→H b=none→(IK s₁.heap H).get? b=some o:=fun e n=>UA e n;have noA:∀ {b:AD} {o:Obj} {es:Array DictEntry} {ep:Nat},s₁.heap.get? b=some o→o.data=.dict es ep→H b=none:=fun {b o es ep} e d=>by
   cases q:H b with
   |none=>rfl
   |some u =>
    have e':b=a:=hA b (by rw [q];simp);subst e';rw [ha]at e;cases e;have d':Data.seq vs.toArray _=Data.dict es ep:=d;cases d'
  have nsK:∀ {b:AD} {m:Str→Option VL},s₁.heap.Ns b m→(IK s₁.heap H).Ns b m:=fun {b m} ⟨o,es,ep,e,d,r⟩=>⟨o,es,ep,base_of e (noA e d),d,r⟩;have hKb:K.In (IK s₁.heap H):=fun b o e=>base_of (KX b o e) (by
   cases q:H b with
   |none=>rfl
   |some u =>
    have e':b=a:=hA b (by rw [q];simp);subst e';rw [hK (by rw [q];simp)]at e;cases e)
  have hM:Mod K mg (IK s₁.heap H):=⟨hKb,nsK hns,⟨mb,nsK hb,hbb⟩,let⟨mc,h1,h2⟩:=hlim;⟨mc,nsK h1,h2⟩⟩;have e0:RF P w K mg (IK s₁.heap H) callerA [] s₁ H:=⟨rfl,hM,fun b o e=>WT e,Nat.le_of_eq (Sd _ _),trivial,fun b hb=>absurd (show b∈([]:List AD) from hb) (by simp),Ah,.of_eq hg⟩;refine codeAny_mono ((F _ hKb (nsK hns)).run callerA [] s₁ H ⟨[.ref a],[]⟩ [.ref a] [.ref a] _ _ hr e0 (hbind s₁ (.ref a)) (.cons rfl .nil) (hsp H hO hS)) fun r s' h=>?_;cases r with
  |error e=>exact(hCX H e s' h).elim
  |ok fl =>
   cases fl with
   |next=>exact False.elim h
   |brk=>exact False.elim h
   |cont=>exact False.elim h
   |ret u =>
    obtain⟨v,H',os,bare,un,hok',r',q⟩:=h;have q':v=.bl true:=q;subst q';obtain rfl:u=Value.bool true:=r';refine⟨rfl,OldK.of_keep fun b o e=>?_,os,bare⟩;cases q:H b with
    |none=>exact un.keep b o e q (by intro z;exact absurd (show b∈([]:List AD) from z) (by simp)) (by simp)
    |some u =>
     rcases hO b with z|⟨ob,xs,z⟩
     ·rw [q]at z;cases z
     ·have z2:=un.HR b ob _ z;obtain⟨e1,_⟩:=Ah b _ z;obtain⟨e2,_⟩:=hok' b _ z2;rw [e]at e1;cases e1;exact e2
 cases hk:K.lookup a with
 |some o =>
  have e:=KX a o hk;rw [ha]at e;cases e;refine core (fun _=>none) (fun _=>.inl rfl) (.inr ⟨_,vs.toArray,_,hk,rfl,rfl,rfl,by rw [List.size_toArray,lenV];exact hl,by simpa using rv⟩) (fun b u z=>by have z':(none:Option HO)=some u:=z;cases z') (fun b z=>absurd rfl z) fun z=>absurd rfl z
 |none =>
  refine core (fun b=>if b=a then some (.Gx { cls:=.type "list",data:=.seq vs.toArray } (.lst (ns.map V.int))) else none) (fun b=>?_) (.inl (.inr ⟨{ cls:=.type "list",data:=.seq vs.toArray },if_pos rfl⟩)) (fun b u z=>?_) (fun b z=>?_) fun _=>hk
  ·by_cases hb:b=a
   ·exact .inr ⟨_,_,if_pos hb⟩
   ·exact .inl (if_neg hb)
  ·by_cases hb:b=a
   ·have z':=(if_pos hb).symm.trans z;cases z';subst hb;exact⟨ha,by rw [List.length_map];exact hl,vs,_,rv,ha⟩
   ·have z':=(if_neg hb).symm.trans z;cases z'
  ·by_cases hb:b=a
   ·exact hb
   ·exact absurd (if_neg hb) z
def WD{l:PySem.W.OpenLaw}{n k:Nat}{q:Program}{loose:List Str}{XP:(Str→Option VL)→Heap→Prop}{YP:World→Heap→Prop}{d:DefRec}{K:Params→Fg}{CX:World→F4}{sp:World→Sp}{x:Str}
 (hn:l.most=some n)(hn2:n≤sizeLine)(hdf:d.params.defaults=[])(hr:Cn k callerA)
 (hY:∀(w:World) (h:Heap),YP w h→(K w.params).In h)
 (F:∀(w:World) (mg:Str→Option VL) (fa:AD) (h:Heap),(K w.params).In h→h.Ns mainGlobals mg→mg d.name=some (.ref fa) →
   ∃fd:FuncData,(∀(s:SD) (u:VL),BindsTo s fd ⟨[u],[]⟩ [(x,u)]) ∧
    ∀base:Heap,(K w.params).In base→base.Ns mainGlobals mg→AV l.prog w (K w.params) mg base (CX w) k fa fd [x] (sp w))
 (hsp:∀(w:World) (H:Hp) (a:AD) (ns:List Int),ns.length≤n→UU H→AZ (K w.params) H a (ns.map V.int)→sp w [.ref a] H (fun v _=>v=.bl true) fun _ _ _=>False)
 (hCX:∀(w:World) (H:Hp) (s:SD) (e:VL) (s':SD),CX w [] H s (fun _ _ _=>False) e s'→False) :
  PySem.W.WalkO q loose XP YP l.row.toRowW d [] (fun f vs=>PySem.call f vs):=by
 refine Att.Pu hn hdf fun w s₀ s₁ mg mb fa o pm cd doc a vs ns G Y ho hd hcd hmg hobj hints hlen hg=>?_;have KX:=hY w _ Y;obtain⟨fd,hb,hF⟩:=F w mg fa _ KX G.T.g hmg;exact UJ KX G.T.g G.T.b G.T.builtins G.T.nolimit hg hobj hints (aM hlen hn2) hr hF hb (fun H hO hS=>hsp w H a ns hlen hO hS) fun H e s'=>hCX w H s₁ e s'
def Dj(s:Stmt):Arguments:=match s with
 |.FunctionDef _ a _ _ _ _ _ _ _ _=>a
 |_=>{ posonlyargs:=[],args:=[],vararg:=none,kwonlyargs:=[],kw_defaults:=[],kwarg:=none,defaults:=[] }
def Cj(s:Stmt):List Stmt:=match s with
 |.FunctionDef _ _ b _ _ _ _ _ _ _=>b
 |_=>[]
def AW(s:Stmt):Scope:=match s with
 |.FunctionDef _ _ _ _ _ _ sc _ _ _=>sc
 |_=>{ kind:=.function,names:=[],isGenerator:=false,isCoroutine:=false }
abbrev Ad:F4:=fun _ _ _ _ _ _=>False
abbrev E0:XK:=fun _ _ _=>False
def Zd{X:Cx}:Passes Ad X E0:=fun _ _ _ _ _ _ _ h=>h.elim
structure P5(K:Fg)(x qual:Str)(st:Stmt)(f:Addr)(fd:FuncData):Prop where
 ex:∃(oc:Value) (od:Option Addr) (kV doc pm:Value) (an:Option Addr) (cdv ct:Value) (osl:Array (Option Value)),
  fd=PySem.W.fnOf x qual (Dj st) (Cj st) (AW st) .none kV doc pm an cdv ct∧K.lookup f=some ⟨oc,od,.func fd,osl⟩∧PySem.W.codeIn K cdv qual=true
 kp:PySem.W.keepIn K (.ref f)=true
section
variable{P:Program}{w:World}{K:Fg}{mg:Str→Option VL}{base:Heap}
def P5.ok{x qual:Str}{st:Stmt}{f:AD}{fd:FuncData}{N ps:List Str}{k:Nat}{sp:Sp}(F:P5 K x qual st f fd)(S:Ab N ps (AW st))(len:∀vs H Q E,sp vs H Q E→vs.length=ps.length)
 (hbody:∀(cdv:VL) (A:Around) (outer:List Env) (s:SD) (H:Hp) (vs:List V) (Q:VK) (E:XK),Cn k (A.deeper (envOfC qual (AW st) s.heap.objs.size f cdv))→sp vs H Q E →
   ∃t,G8 (Kq Ad P w K mg base N qual (AW st) f cdv A outer s H E).Sb (Cj st) t∧t { nx:=fun _ H'=>Q .BG H',rt:=Q } (start N vs) H):AV P w K mg base Ad (k+1) f fd ps sp:=by
 obtain⟨oc,od,kV,doc,pm,an,cdv,ct,osl,rfl,lk,hcd⟩:=F.ex;refine ZJ lk hcd S len fun A outer s H vs Q E hr hsp=>?_;obtain⟨t,h,q⟩:=hbody cdv A outer s H vs Q E hr hsp;exact⟨t,h.Sb,q⟩
def P5.binds{x qual:Str}{st:Stmt}{f:AD}{fd:FuncData}{ps:List Str}(F:P5 K x qual st f fd)
 (h:∀(kV doc pm:VL) (an:Option AD) (cdv ct:VL) (us:List VL),us.length=ps.length→bindArgs (PySem.W.fnOf x qual (Dj st) (Cj st) (AW st) .none kV doc pm an cdv ct) ⟨us,[]⟩=pure (ps.zip us)):Binds K fd ps []:=by
 obtain⟨oc,od,kV,doc,pm,an,cdv,ct,osl,rfl,lk,hcd⟩:=F.ex;exact .all (h kV doc pm an cdv ct)
def SY{x qual:Str}{st:Stmt}{f:AD}{oc:VL}{od an:Option AD}{osl:Array (Option VL)}{kV doc pm cdv ct:VL}(l:K.lookup f=some ⟨oc,od,.func (PySem.W.fnOf x qual (Dj st) (Cj st) (AW st) .none kV doc pm an cdv ct),osl⟩)
 (c:PySem.W.codeIn K cdv qual=true)(k:PySem.W.keepIn K (.ref f)=true):P5 K x qual st f (PySem.W.fnOf x qual (Dj st) (Cj st) (AW st) .none kV doc pm an cdv ct):=⟨⟨oc,od,kV,doc,pm,an,cdv,ct,osl,rfl,l,c⟩,k⟩
end
def NS{n:Nat}(h:n≤1000):n<sizeLine:=aY h (by decide)
section
variable{X:Cx}
def pv(i:Nat){x:Str}{pos:Pos}(hN:X.N[i]? = some x:=by rfl)(hv:Yt X.env.scope x:=by first|exact Or.inl rfl|exact Or.inr (Or.inl rfl)|exact Or.inr (Or.inr rfl))(hd:(x==("__debug__" : Str))=false:=by decide)
 (hcd:(x==("__classdict__" : Str))=false:=by decide):PE X (.Name x pos) (Om i):=Xr hN hv hd hcd
end
def Fp{A B:Prop}(h:B):if false=true then A else B:=by
 rw [if_neg aI];exact h
def Ce{A B:Prop}(h:A):if true=true then A else B:=by
 rw [if_pos rfl];exact h
def BV{c A B:Prop}[Decidable c](h1:c→A)(h2:¬c→B):if c then A else B:=by
 by_cases h:c
 ·rw [if_pos h];exact h1 h
 ·rw [if_neg h];exact h2 h
def AH(H H':Hp):Prop:=∀b o,H b=some o→H' b=some o
def AH.refl(H:Hp):AH H H:=fun _ _ h=>h
def AH.trans{H H1 H2:Hp}(a:AH H H1)(b:AH H1 H2):AH H H2:=fun c o h=>b c o (a c o h)
section
variable{X:Cx}
def LP(i j:Int):Prop:=∃m:Nat,m≤1000000∧i.natAbs<2^m∧j.natAbs<2^m
def LP.ok{i j:Int}(h:LP i j):IntMulOk i j:=by
 obtain⟨m,hm,h1,h2⟩:=h;exact IntMulOk.of_le (intBits_le_iff.mpr h1) (intBits_le_iff.mpr h2) (by omega)
def FE:Bm X (binaryOp .Mult) (rI (fun i j=>N2 i j∨LP i j) fun i j=>.int (i*j)) :=
 QD fun _ _ _ _ _ _ _ hc q=>mul_int q (hc.elim (fun z=>z.ok) fun z=>z.ok)
def Zk(_i j:Int):Prop:=j≠0∧∃m:Nat,m≤9000∧j.natAbs<2^m
def EF:Bm X (binaryOp .FloorDiv) (rI Zk fun i j=>.int (i.fdiv j)):=QD fun i j _ _ _ _ _ hc q=>by
 obtain⟨h0,m,hm,h1⟩:=hc;refine floordiv_int h0 q (.inl (PyProof.noPylong_of_log2 ?_));have hne:j.natAbs≠0:=by omega
 have:j.natAbs.log2<m:=(Nat.log2_lt hne).mpr h1;omega
mutual
def Br(K:Fg)(H:Hp):PD→V→Prop
 |.none,v=>v=.BG
 |.bool b,v=>v=.bl b
 |.int i,v=>v=.int i
 |.str x,v=>v=.str x
 |.tuple ds,v=>∃a xs,v=.ref a∧Ag K H a xs∧CV K H ds xs
 |.list ds,v=>∃a xs,v=.ref a∧AZ K H a xs∧CV K H ds xs
 |.dict _,_=>False
def CV(K:Fg)(H:Hp):List PD→List V→Prop
 |[],xs=>xs=[]
 |d::ds,xs=>∃x r,xs=x::r∧Br K H d x∧CV K H ds r
end
def AH.tup{K:Fg}{H H':Hp}{a:AD}{xs:List V}(e:AH H H')(h:Ag K H a xs):Ag K H' a xs:=by
 rcases h with (h|⟨o,h⟩)|h
 ·exact .inl (.inl (e _ _ h))
 ·exact .inl (.inr ⟨o,e _ _ h⟩)
 ·exact .inr h
mutual
def Br.reads{pins:List (AD×Obj)}{σ:St}{H:Hp}{s:SD}(I:Inv X pins σ H s):∀ {d:PD} {v:V} {u:VL},Br X.K H d v→RelV v u→∃as,Reads s.heap u d as
 |.none,_,u,h,r=>by rw [Br]at h;subst h;cases r;exact⟨_,.none⟩
 |.bool b,_,u,h,r=>by rw [Br]at h;subst h;cases r;exact⟨_,.bool b⟩
 |.int i,_,u,h,r=>by rw [Br]at h;subst h;obtain⟨t,rfl⟩:=r;exact⟨_,.int i t⟩
 |.str x,_,u,h,r=>by rw [Br]at h;subst h;obtain⟨t,rfl⟩:=r;exact⟨_,.str x t⟩
 |.tuple ds,_,u,h,r=>by
  rw [Br]at h;obtain⟨a,xs,e1,h1,h2⟩:=h;subst e1;cases r;obtain⟨its,rv,⟨o,e,c,n,hd⟩,_⟩:=I.tuple h1;obtain⟨as,ra⟩:=CV.reads I h2 rv;exact⟨_,.tuple e c hd (by simpa using ra)⟩
 |.list ds,_,u,h,r=>by
  rw [Br]at h;obtain⟨a,xs,e1,h1,h2⟩:=h;subst e1;cases r;obtain⟨its,rv,⟨o,n,e,c,_,hd⟩,_⟩:=I.list h1;obtain⟨as,ra⟩:=CV.reads I h2 rv;exact⟨_,.list e c hd (by simpa using ra)⟩
 |.dict _,_,_,h,_=>by rw [Br]at h;exact h.elim
def CV.reads{pins:List (AD×Obj)}{σ:St}{H:Hp}{s:SD}(I:Inv X pins σ H s):∀ {ds:List PD} {xs:List V} {us:List VL},CV X.K H ds xs→Vals xs us→∃as,ReadsAll s.heap us ds as
 |[],_,us,h,r=>by rw [CV]at h;subst h;cases r;exact⟨_,.nil⟩
 |_::_,_,us,h,r=>by
  rw [CV]at h;obtain⟨x,q,e1,h1,h2⟩:=h;subst e1;cases r with
  |cons r1 r2 =>
   obtain⟨as,ra⟩:=Br.reads I h1 r1;obtain⟨bs,rb⟩:=CV.reads I h2 r2;exact⟨_,.cons ra rb⟩
end
def UM(K:Fg)(neg:Bool):R2:=fun x y H Q=>∃d e,Br K H d x∧Br K H e y∧SeqAt.shaped d=true∧SeqAt.shaped e=true∧Q (.bl (if neg then !PyData.eqv d e else PyData.eqv d e)) H
def R8(hu:X.A.units+64<cLine):Bm X (compareOp .Eq) (UM X.K false):=by
 intro pins s σ H x y v u Q I rx ry h;obtain⟨d,e,h1,h2,s1,s2,q⟩:=h;obtain⟨as,ra⟩:=Br.reads I h1 rx;obtain⟨bs,rb⟩:=Br.reads I h2 ry;exact eq_dataH ra rb s1 s2 hu ⟨.bl _,H,I,rfl,q⟩
def OL(hu:X.A.units+64<cLine):Bm X (compareOp .NotEq) (UM X.K true):=by
 intro pins s σ H x y v u Q I rx ry h;obtain⟨d,e,h1,h2,s1,s2,q⟩:=h;obtain⟨as,ra⟩:=Br.reads I h1 rx;obtain⟨bs,rb⟩:=Br.reads I h2 ry;exact ne_dataH ra rb s1 s2 hu ⟨.bl _,H,I,rfl,q⟩
end
end L2
set_option maxHeartbeats 4000000
namespace L2
open PySem PySem.Spec PyProof.Rows
def Ip(X:Cx)(ifs:List Expr)(t:TT):Prop :=
 ∀(pins:List (AD×Obj)) (s:SD) (σ:St) (H:Hp) (Q:Bool→Hp→Prop),Inv X pins σ H s→t σ H Q →
  wpAny (model X.prog X.w) X.A (forIn ifs true fun c r=>if r=true then do let ok ←isTrue c X.env (eval c X.env);pure (ForInStep.yield ok) else pure (ForInStep.yield r)) (TP X pins σ Q) X.xe s
def En:TT:=fun _ H Q=>Q true H
def Cg{X:Cx}:Ip X [] En:=fun _ _ σ H _ I h=>wpAny_tests_nil ⟨H,I,h⟩
def V3{X:Cx}{c:Expr}{t:TT}(h:PT X c t):Ip X [c] t:=by
 intro pins s σ H Q I hw;simp only [List.forIn_cons,List.forIn_nil,if_true];refine Wb (Wb (Az (h pins s σ H Q I hw) fun b s1 q=>?_));exact aA (aA q)
def EH(N XN:List Str)(sc xsc:Scope):List (Option Nat)→Nat→Bool
 |[],_=>true
 |none::r,i=>EH N XN sc xsc r (i+1)
 |some j::r,i=>(match N[i]?,XN[j]? with
   |some n,some m=>n==m&&sc.names.lookup n==some .free&&xsc.names.lookup n==some .cell
   |_,_=>false)&&EH N XN sc xsc r (i+1)
def K9{N XN:List Str}{sc xsc:Scope}:∀ {fr:List (Option Nat)} {k:Nat},EH N XN sc xsc fr k=true→∀ {i j:Nat},fr[i]? = some (some j) →
  ∃n,N[k+i]? = some n∧XN[j]? = some n∧sc.names.lookup n=some .free∧xsc.names.lookup n=some .cell
 |[],_,_,i,j,e=>by simp at e
 |none::r,k,h,0,j,e=>by simp at e
 |none::r,k,h,i+1,j,e=>by
  have q:=K9 (fr:=r) (k:=k+1) h (i:=i) (j:=j) (by simpa using e);have z:k+(i+1)=k+1+i:=by omega
  rw [z];exact q
 |some j'::r,k,h,0,j,e=>by
  have e':j'=j:=by simpa using e
  subst e';rw [EH,Bool.and_eq_true]at h;have h1:=h.1;split at h1
  ·rename_i n m hn hm;simp only [Bool.and_eq_true,beq_iff_eq]at h1;obtain⟨⟨rfl,h2⟩,h3⟩:=h1;exact⟨n,by simpa using hn,hm,h2,h3⟩
  ·cases h1
 |some j'::r,k,h,i+1,j,e=>by
  rw [EH,Bool.and_eq_true]at h;have q:=K9 (fr:=r) (k:=k+1) h.2 (i:=i) (j:=j) (by simpa using e);have z:k+(i+1)=k+1+i:=by omega
  rw [z];exact q
def carry(fr:List (Option Nat))(σ:St):St:=fr.map fun o=>match o with
 |some j=>(σ[j]?).join
 |none=>none
def Se{fr:List (Option Nat)}{σ:St}{i:Nat}{v:V}(h:(carry fr σ)[i]? = some (some v)):∃j,fr[i]? = some (some j)∧σ[j]? = some (some v):=by
 unfold carry at h;rw [List.getElem?_map]at h;cases e:fr[i]? with
 |none=>rw [e]at h;cases h
 |some o =>
  rw [e]at h;cases o with
  |none=>simp at h
  |some j =>
   refine⟨j,rfl,?_⟩;simp only [Option.map_some,Option.some.injEq]at h;cases q:σ[j]? with
   |none=>rw [q]at h;cases h
   |some w=>rw [q]at h;simp at h;rw [h]
def Et{env:Env}:∀(names:List (Str×NameKind)) (cs:List (Str×AD)),(∀x∈names,x.2=NameKind.free→∃c,env.cells.lookup x.1=some c)→(∀x c,cs.lookup x=some c→env.cells.lookup x=some c) →
  ∃cl,(forIn names cs (fun(x:Str×NameKind) (r:List (Str×AD))=>do if(x.2==NameKind.free)=true then do let a ←cellOf env x.1;pure (ForInStep.yield ((x.1,a)::r)) else pure (ForInStep.yield r)):Sem (List (Str×AD)))=pure cl ∧
   (∀x c,cl.lookup x=some c→env.cells.lookup x=some c)∧(∀x,(∃c,cs.lookup x=some c)→∃c,cl.lookup x=some c)∧∀x∈names,x.2=NameKind.free→∃c,cl.lookup x.1=some c
 |[],cs,_,h2=>⟨cs,rfl,h2,fun _ q=>q,fun _ z=>(by cases z)⟩
 |(n,k)::r,cs,h1,h2=>by
  rw [List.forIn_cons];by_cases hk:(k==NameKind.free)=true
  ·obtain⟨c,hc⟩:=h1 (n,k) aR (by simpa using hk);have h2':∀x c',((n,c)::cs).lookup x=some c'→env.cells.lookup x=some c':=fun x c' e=>by
    rw [List.lookup_cons]at e;cases hx:x==n with
    |true=>rw [hx]at e;have:=beq_iff_eq.mp hx;subst this;simp at e;rw [←e];exact hc
    |false=>rw [hx]at e;exact h2 x c' e
   obtain⟨cl,q1,q2,q3,q4⟩:=Et r ((n,c)::cs) (fun x hx=>h1 x (aP _ hx)) h2';have hn:∃c',cl.lookup n=some c':=q3 n ⟨c,by rw [List.lookup_cons,beq_self_eq_true]⟩;refine⟨cl,?_,q2,fun x hx=>?_,fun x hx hf=>?_⟩
   ·simp only [hk,if_true];unfold cellOf;rw [hc];exact q1
   ·refine q3 x ?_;rw [List.lookup_cons];cases hxn:x==n with
    |true=>exact⟨c,rfl⟩
    |false=>exact hx
   ·rcases aL.mp hx with e|hx
    ·subst e;exact hn
    ·exact q4 x hx hf
  ·obtain⟨cl,q1,q2,q3,q4⟩:=Et r cs (fun x hx=>h1 x (aP _ hx)) h2;refine⟨cl,?_,q2,q3,fun x hx hf=>?_⟩
   ·simp only [hk];exact q1
   ·rcases aL.mp hx with e|hx
    ·subst e;exact absurd (by simpa using hf) hk
    ·exact q4 x hx hf
def Ak(X:Cx)(scope:Scope)(cl:List (Str×AD))(N:List Str)(C:AD)(s₀:SD)(H₀:Hp)(fp:List AD):Cx where
 prog:=X.prog
 w:=X.w
 K:=X.K
 mg:=X.mg
 base:=X.base
 A:=X.A
 N:=N
 s₀:=s₀
 H₀:=H₀
 env:=compEnvC scope cl C X.env
 outer:=X.stack
 stack:=X.stack
 ex:=fp
 fn:=fun _=>false
 calm:=X.calm
 pn:=[]
 xe:=fun _ _=>False
def Js(wi:TI)(fr:List (Option Nat))(ix:Nat)(tif:TT)(te:TE):TE:=fun σ H Q=>wi σ H fun J H1=>∀D,H1 D=none→∃W:Nat→Nat→List V→Hp→Prop,(∃m,W 0 m [] (upd H1 D (.lst []))) ∧
 ∀i m ys H,W i m ys H→H D=some (.lst ys)∧((J.stop i H∧Q (.ref D) H)∨(J.go i H∧ys.length<sizeLine∧∀x H',J.DZ i H x H' →
  tif ((carry fr σ).set ix (some x)) H' fun b H2=>if b=true then te ((carry fr σ).set ix (some x)) H2 fun y H3=>H3 D=some (.lst ys)∧∃m',m'<m∧W (i+1) m' (ys++[y]) (upd H3 D (.lst (ys++[y])))
   else ∃m',m'<m∧W (i+1) m' ys H2))
structure CO(scope:Scope)(N:List Str)(x:Str)(ix:Nat):Prop where
 kind:scope.kind=.function
 cell:∀y∈scope.names,y.2≠.cell
 names:∀y∈scope.names,y.2=.local→scope.names.lookup y.1=some .local
 free:∀y∈scope.names,y.2=.free→scope.names.lookup y.1=some .free
 loc:scope.names.lookup x=some .local
 nd:N.Nodup
 at_:N[ix]? = some x
def lookup_mem{names:List (Str×NameKind)}{n:Str}{k:NameKind}:names.lookup n=some k→(n,k)∈names:=by
 induction names with
 |nil=>intro h;cases h
 |cons y r ih =>
  intro h;obtain⟨m,j⟩:=y;rw [List.lookup_cons]at h;cases e:n==m with
  |true=>rw [e]at h;have:=beq_iff_eq.mp e;subst this;simp at h;subst h;exact aR
  |false=>rw [e]at h;exact aP _ (ih h)
def O3{scope:Scope}{env:Env}(hc:∀y∈scope.names,y.2≠.cell){n:Str}(h:(relabel scope env).names.lookup n=some .cell∨(relabel scope env).names.lookup n=some .free):∃k,(n,k)∈scope.names∧k=NameKind.free:=by
 have key:∀k',(relabel scope env).names.lookup n=some k'→(k'=.cell∨k'=.free)→∃k,(n,k)∈scope.names∧k=NameKind.free:=fun k' h hk=>by
  have hm:=lookup_mem h;unfold relabel at hm;obtain⟨⟨m,k⟩,hy,e⟩:=ae.mp hm;dsimp only at e;by_cases hcond:(k==NameKind.free&&env.scope.kind==.function&&env.kindOf m==some .cell)=true
  ·rw [if_pos hcond]at e
   injection e with e1 e2
   subst e1;refine⟨k,hy,?_⟩;simp only [Bool.and_eq_true,beq_iff_eq]at hcond;exact hcond.1.1
  ·rw [if_neg hcond]at e
   injection e with e1 e2
   subst e1 e2;rcases hk with rfl|rfl
   ·exact absurd rfl (hc _ hy)
   ·exact⟨_,hy,rfl⟩
 rcases h with h|h
 ·exact key _ h (.inl rfl)
 ·exact key _ h (.inr rfl)
section
variable{X:Cx}{elt iter:Expr}{x:Str}{px pos:Pos}{ifs:List Expr}{scope:Scope}{wi:TI}{fr:List (Option Nat)}{ix:Nat}{tif:TT}{te:TE}{N:List Str}
def Gq{prog:Program}{w:World}{A:Around}{R:Result→SD→Prop}{s:SD}{elt target iter:Expr}{ifs:List Expr}{scope:Scope}{pos:Pos}{it acc:VL}{env:Env}(I:Nat→SD→Prop)
 (turn:∀n s,I n s→wpAny (model prog w) A (pyNext it) (fun r s₁=>match r with
   |none=>R (.ok .next) s₁
   |some v=>wpAny (model prog w) A (letOwnedTupleGo target it v>>=fun _=>assign target env v) (fun _ s₂ =>
     wpAny (model prog w) A (forIn ifs true fun c r=>if r=true then do let ok ←isTrue c env (eval c env);pure (ForInStep.yield ok) else pure (ForInStep.yield r)) (fun ok s₃ =>
      if ok=true then wpAny (model prog w) A (eval elt env) (fun x s₄ =>
       wpAny (model prog w) A (call (.builtin "list.append") [acc,x]) (fun _ s₅=>∃m,m<n∧I m s₅) (notedBy (model prog w) A env fun e s'=>R (.error e) s') s₄) (notedBy (model prog w) A env fun e s'=>R (.error e) s') s₃
      else ∃m,m<n∧I m s₃) (notedBy (model prog w) A env fun e s'=>R (.error e) s') s₂) (notedBy (model prog w) A env fun e s'=>R (.error e) s') s₁) (notedBy (model prog w) A env fun e s'=>R (.error e) s') s)
 (n:Nat)(h:I n s) :
  codeAny (model prog w) A (.compLoop (.ListComp elt [⟨target,iter,ifs,0⟩] scope pos) 0 it acc env) R s:=by
 refine codeAny_loop rfl I (fun n s hI=>?_) n h;show wpAny _ A ((compTurn (.ListComp elt [⟨target,iter,ifs,0⟩] scope pos) 0 it acc env).onRaise (fun x=>do noteFrame x env;theTreesLotGoes x)) _ _ s;refine wpAny_noted ?_;rw [compTurn_list];refine Wb (wpAny_standAt (Wb (ai (turn n s hI) (fun r s₁ h₁=>?_) fun _ _ h'=>h')));cases r with
 |none=>exact aA h₁
 |some v =>
  show wpAny (model prog w) A (letOwnedTupleGo target it v>>=fun _=>assign target env v>>=_) _ _ s₁;rw [←bind_assoc];refine Wb (ai h₁ (fun _ s₂ h₂=>Wb (ai h₂ (fun ok s₃ h₃=>?_) fun _ _ h'=>h')) fun _ _ h'=>h');cases ok with
  |false=>exact aA ⟨rfl,h₃⟩
  |true =>
   exact Wb (Wb (ai h₃ (fun x s₄ h₄=>Wb (ai h₄ (fun _ s₅ h₅=>aA (aA ⟨rfl,h₅⟩)) fun _ _ h'=>h')) fun _ _ h'=>h'))
def KU{pins:List (AD×Obj)}{σ:St}{H2:Hp}{s2:SD}{Q:VK}{it:AD}{fp:List AD}{tn:Nat→Heap→Prop}{J:It}{cl:List (Str×AD)}{E:VL→SD→Prop}{RR:VL→AD→Result→SD→Prop}
 (S:CO scope N x ix)(hcalm:X.calm=true){tgE:Expr}{g:TG}(Rv:St→Prop)(r0:Rv (carry fr σ))(hpg:∀C,PG (Ak X scope cl N C s2 H2 fp) tgE g)(hfr:EH N X.N scope X.env.scope fr 0=true)(hlen:fr.length=N.length)
 (hif:∀cl C s₀ H₀ fp,Ip (Ak X scope cl N C s₀ H₀ fp) ifs tif)(he:∀cl C s₀ H₀ fp,PE (Ak X scope cl N C s₀ H₀ fp) elt te)
 (I2:Inv X pins σ H2 s2)(T:Turn X.prog X.w X.K tgE J fp it tn)(st2:tn 0 s2.heap)(f2:∀b∈fp,HD X pins H2 b)
 (c1:∀x c,cl.lookup x=some c→X.env.cells.lookup x=some c)(c2:∀x∈scope.names,x.2=NameKind.free→∃c,cl.lookup x.1=some c)
 (W:∀D,H2 D=none→∃W:Nat→Nat→List V→Hp→Prop,(∃m,W 0 m [] (upd H2 D (.lst []))) ∧
   ∀i m ys H,W i m ys H→H D=some (.lst ys)∧((J.stop i H∧Q (.ref D) H)∨(J.go i H∧ys.length<sizeLine∧∀x H',J.DZ i H x H'→∀σ',Rv σ'→g x σ' H' fun σ6 H6=>Rv σ6 ∧
    tif σ6 H6 fun b H2=>if b=true then te σ6 H2 fun y H3=>H3 D=some (.lst ys)∧∃m',m'<m∧W (i+1) m' (ys++[y]) (upd H3 D (.lst (ys++[y])))
     else ∃m',m'<m∧W (i+1) m' ys H2)))
 (fin:∀(D C:AD) (s':SD) (H':Hp) m,s'.heap.Ns C m→Q (.ref D) H'→(∀h',Heap.SameBut C s'.heap h'→Inv X pins σ H' { s' with heap:=h' })→C≠D→(∀b o,s2.heap.get? b=some o→b≠C)→H' C=none→s2.heap.objs.size≤C→RR (.ref D) C (.ok .next) s') :
  wpAny (model X.prog X.w) X.A (newList []) (fun acc s₃=>wpAny (model X.prog X.w) X.A (newFunctionEnv scope X.env.globals cl [] X.env.qual none .none (some X.env)) (fun cenv s₄ =>
   codeAny (model X.prog X.w) X.A (.compStart (.ListComp elt [⟨tgE,iter,ifs,0⟩] scope pos) 0 (.ref it) acc { cenv with scope:=relabel scope X.env }) (RR acc cenv.locals) s₄) E s₃) E s2:=by
 refine ak (wpAny_newFunctionEnv S.cell (by intro y hy;simp at hy) (fun h₁ hns₁ hsb₁=>?_) S.kind);dsimp only at hns₁ hsb₁ ⊢;generalize hHp:s2.heap.push { cls:=.type "list",dict:=none,data:=.seq ([]:List VL).toArray }=Hq at hns₁ hsb₁ ⊢;have hC:Hq.objs.size=s2.heap.objs.size+1:=by rw [←hHp,Heap.size_push]
 have hDC:s2.heap.objs.size≠Hq.objs.size:=by rw [hC];exact aK (bO _)
 have below:∀b,b<s2.heap.objs.size→b≠Hq.objs.size∧b≠s2.heap.objs.size:=fun b hb=>⟨by rw [hC];exact aK (bM hb),Nat.ne_of_lt hb⟩;have old:∀b o,s2.heap.get? b=some o→h₁.get? b=some o:=fun b o e=>hsb₁.extBut b o (below b (aF e)).1 (aC _ (hHp ▸ aC _ e));have hacc:h₁.get? s2.heap.objs.size=some { cls:=.type "list",data:=.seq ([]:List VL).toArray }:=hsb₁.extBut _ _ hDC (aC _ (hHp ▸ aN _ rfl));have hD2:H2 s2.heap.objs.size=none:=I2.Ah.fresh (aE _);have hC2:H2 Hq.objs.size=none:=I2.Ah.fresh (by rw [hC];exact Nat.le_succ _);have fpo:∀b∈fp,b<s2.heap.objs.size:=fun b hb=>by
  obtain⟨o,e,_⟩:=T.obj _ _ st2 b hb;exact aF e
 obtain⟨W,⟨m0,w0⟩,turn⟩:=W s2.heap.objs.size hD2;have ok:(Ak X scope cl N Hq.objs.size s2 H2 fp).Ok:=by
  refine⟨I2.ok.mod,S.kind,I2.ok.glob,I2.ok.blt,by show s2.heap.objs.size≤Hq.objs.size;rw [hC];exact Nat.le_succ _,?_,?_,?_,fun _=>I2.ok.hd hcalm,I2.ok.frames,.inl rfl,?_,I2.bs,Nat.le_trans I2.ok.Mt I2.sz,?_,?_,I2.stack,I2.QV⟩
  ·exact fun a b c h1 h2=>I2.ok.inj a b c (c1 _ _ h1) (c1 _ _ h2)
  ·intro y hy;obtain⟨k,hm,rfl⟩:=O3 S.cell hy;exact c2 _ hm rfl
  ·intro y c hf;cases hf
  ·intro b hb;refine⟨(below b (fpo b hb)).1,fun y c e=>?_⟩;obtain⟨_,_,_,_,f5,_⟩:=f2 b hb;exact f5 y c (c1 _ _ e)
  ·intro b o e hb;obtain⟨_,_,_,f4,_,_⟩:=f2 b hb;rcases f4 with z|z
   ·exact I2.ok.O5 b o e z
   ·exact absurd (aH (aF e) (aM I2.ok.Mt z)) (Nat.lt_irrefl _)
  ·intro b hb hs;obtain⟨_,f1,f3,_⟩:=f2 b hb;rcases aL.mp (I2.N9 b hs) with z|z
   ·exact f1 z
   ·exact f3 z
 have I4:Inv (Ak X scope cl N Hq.objs.size s2 H2 fp) [] (carry fr σ) (upd H2 s2.heap.objs.size (.lst [])) { s2 with heap:=h₁,toks:=s2.toks+([]:List (Str×VL)).length }:=by
  refine⟨ok,rfl,I2.bare,Un.laid old (aE _) hD2,⟨_,hns₁,fun i y v h1 h2 h3=>?_⟩,fun y c e=>?_,?_,fun y c e=>?_,fun p hp=>(by cases hp),I2.Ah.laid old (aE _) ⟨av _,[],0,.nil,hacc⟩,?_⟩
  ·obtain⟨j,e1,e2⟩:=Se h2;obtain⟨n,n1,n2,n3,n4⟩:=K9 hfr e1;rw [Nat.zero_add]at n1;have:y=n:=by
    have h1':N[i]? = some y:=h1;rw [h1']at n1;exact ag n1
   subst this;obtain⟨m,hn,hl⟩:=I2.loc;obtain⟨u,ru,lk⟩:=hl j y v n2 e2 (.inr (.inl n4));refine⟨u,ru,?_⟩;obtain⟨c,hc⟩:=c2 _ (lookup_mem n3) rfl;rcases lk with ⟨k1,_⟩|⟨_,c',hc',hcell⟩
   ·have k1':X.env.scope.names.lookup y=some .local:=k1;rw [n4]at k1';cases k1'
   ·have:=c1 _ _ hc;rw [hc']at this;cases this;refine .inr ⟨?_,c,hc,hcell.keeps old⟩;rcases h3 with z|z|z
    ·obtain⟨k,hm⟩:∃k,(y,k)∈scope.names∧k=NameKind.local:=by
      have hm:=lookup_mem z;have hm':(y,NameKind.local)∈(relabel scope X.env).names:=hm;unfold relabel at hm';obtain⟨⟨m',k⟩,hy,e⟩:=ae.mp hm';dsimp only at e;by_cases hcond:(k==NameKind.free&&X.env.scope.kind==.function&&X.env.kindOf m'==some .cell)=true
      ·rw [if_pos hcond]at e;injection e with _ e2';cases e2'
      ·rw [if_neg hcond]at e;injection e with e1' e2';subst e1' e2';exact⟨_,hy,rfl⟩
     obtain⟨hm,rfl⟩:=hm;have:=S.names _ hm rfl;rw [n3]at this;cases this
    ·exact .inl z
    ·exact .inr z
  ·obtain⟨v,z⟩:=I2.cell y c (c1 _ _ e);exact⟨v,z.keeps old⟩
  ·show upd H2 s2.heap.objs.size _ Hq.objs.size=none;rw [AG (Ne.symm hDC)];exact hC2
  ·obtain⟨v,o,ho,_⟩:=I2.cell y c (c1 _ _ e);rw [AG (below c (aF ho)).2];exact I2.FU y c (c1 _ _ e)
  ·show(carry fr σ).length=N.length;unfold carry;rw [List.length_map];exact hlen
 have fpX:∀(p:List (AD×Obj)) (H':Hp),(∀q∈p,q.1∈fp→False)→(∀b∈fp,H' b=none)→∀b∈fp,HD (Ak X scope cl N Hq.objs.size s2 H2 fp) p H' b:=fun p H' hp hn b hb=>by
  obtain⟨_,f1,f3,f4,f5,_⟩:=f2 b hb;refine⟨hn b hb,(below b (fpo b hb)).1,fun hs=>ok.O6 b hb hs,.inl hb,fun y c e=>f5 y c (c1 _ _ e),fun q hq e=>?_⟩;exact hp q hq (e ▸ hb)
 have hxv:(relabel scope X.env).names.lookup x=some .local:=lookup_relabel_local S.loc;have loop:∀s₃:SD,s₃={ s2 with heap:=h₁,toks:=s2.toks+([]:List (Str×VL)).length } →
   codeAny (model X.prog X.w) X.A (.compLoop (.ListComp elt [⟨tgE,iter,ifs,0⟩] scope pos) 0 (.ref it) (.ref s2.heap.objs.size) (compEnvC scope cl Hq.objs.size X.env)) (RR (.ref s2.heap.objs.size) Hq.objs.size) s₃:=by
  rintro s₃ rfl;refine Gq (fun n s'=>∃i ys σ' H',Inv (Ak X scope cl N Hq.objs.size s2 H2 fp) [] σ' H' s'∧Rv σ'∧tn i s'.heap∧(∀b∈fp,H' b=none)∧W i n ys H') ?_ m0
   ⟨0,[],carry fr σ,_,I4,r0,T.keep _ _ _ st2 fun b _ o e=>old b o e,fun b hb=>by rw [AG (below b (fpo b hb)).2];exact(f2 b hb).1,w0⟩
  rintro n s3 ⟨i,ys,σ3,H3,I3,hσ,st3,fr3,w3⟩;obtain⟨hD3,way⟩:=turn i n ys H3 w3;rcases way with ⟨stop,qn⟩|⟨go,hsz,step⟩
  ·refine ai (T.done (Ak X scope cl N Hq.objs.size s2 H2 fp) rfl rfl rfl hcalm i [] s3 σ3 H3 (fun _ _=>False) I3 (fpX [] H3 (fun _ z=>by cases z) fr3) st3 stop) (fun r s4 ⟨hr,I5⟩=>?_) fun _ _ z=>z.elim;subst hr;obtain⟨m,hn,_⟩:=id I5.loc;refine fin _ _ s4 H3 m hn qn (fun h' hs'=>?_) (Ne.symm hDC) (fun b o e=>(below b (aF e)).1) I5.free (by rw [hC];exact Nat.le_succ _);have nC:∀b u,H3 b=some u→b≠Hq.objs.size:=fun b u e z=>by
    have:=I5.free;rw [show(Ak X scope cl N Hq.objs.size s2 H2 fp).env.locals=Hq.objs.size from rfl,←z,e]at this;cases this
   have keepU:Un (Il X.stack) fp H2 H3 s2.heap h':=by
    have u:=I5.base;refine⟨fun b o e n hb hx=>?_,fun b o e n hb hx=>?_,fun b o e n hx=>u.free b o e n hx,fun b o e hx=>?_,u.Al,u.HR,u.IJ⟩
    ·exact(hs'.2 b (below b (aF e)).1).trans (u.keep b o e n hb hx)
    ·obtain⟨sl,e1⟩:=u.slot b o e n hb hx;exact⟨sl,(hs'.2 b (below b (aF e)).1).trans e1⟩
    ·obtain⟨o',e1⟩:=u.there b o e hx;exact⟨o',(hs'.2 b (below b (aF e)).1).trans e1⟩
   have hok':C1 X.prog X.w H3 h':=fun b u e=>(I5.Ah b u e).HK (fun c v hc q=>(hs'.2 c (by
    rcases hc with rfl|hc
    ·exact nC _ _ e
    ·exact nC _ _ hc)).trans q) (fun _ q=>q) fun _ _ q=>q
   refine I2.Zi (s':={ s4 with heap:=h' }) (ch:=fp) I5.os keepU hok' I5.bare fun b hb=>?_;obtain⟨_,f1,_,f4,f5,f6⟩:=f2 b hb;exact⟨f4,f1,f5,f6⟩
  ·refine ai (T.item (Ak X scope cl N Hq.objs.size s2 H2 fp) rfl rfl rfl hcalm i [] s3 σ3 H3 (fun _ _=>False) I3 (fpX [] H3 (fun _ z=>by cases z) fr3) st3 go) (fun r s4 ⟨u,hr,h4⟩=>?_) fun _ _ z=>z.elim;subst hr;show wpAny (model X.prog X.w) X.A (letOwnedTupleGo tgE (.ref it) u>>=fun _=>assign tgE (compEnvC scope cl Hq.objs.size X.env) u) _ _ s4;refine Wb (ai h4 (fun _ s5 ⟨xv,H5,I5,r5,y5,st5,fr5⟩=>?_) fun _ _ z=>z.elim);have I5':=I5.pinned (fpX [] H5 (fun _ z=>by cases z) fr5) (T.obj _ _ st5);refine ai (hpg _ _ s5 σ3 H5 xv u _ I5' r5 (step xv H5 y5 σ3 hσ)) (fun _ s6 ⟨σ6,H6,I6,rv6,step5⟩=>?_) fun _ _ z=>z.elim;refine ai (hif _ _ _ _ _ _ s6 _ H6 _ I6 step5) (fun b s7 ⟨H7,I7,q7⟩=>?_) fun _ _ z=>z.elim;have again:∀ {s8:SD} {H8:Hp} {k:Nat} {zs:List V},Inv (Ak X scope cl N Hq.objs.size s2 H2 fp) ([]++JM fp s5.heap) σ6 H8 s8→W (i+1) k zs H8→k<n →
     ∃m,m<n∧∃i ys σ' H',Inv (Ak X scope cl N Hq.objs.size s2 H2 fp) [] σ' H' s8∧Rv σ'∧tn i s8.heap∧(∀b∈fp,H' b=none)∧W i m ys H':=fun {s8 H8 k zs} I8 w8 hk=>by
    refine⟨k,hk,i+1,zs,_,H8,I8.IH,rv6,T.keep _ _ _ st5 fun b hb o e=>(I8.pin (b,o) (aS _ (aS _ (F9 hb e)))).1,fun b hb=>?_,w8⟩;obtain⟨o,e,d⟩:=T.obj _ _ st5 b hb;exact(I8.pin (b,o) (aS _ (aS _ (F9 hb e)))).2.1
   cases b with
   |false =>
    rw [if_neg aI]at q7 ⊢;obtain⟨k,hk,w7⟩:=q7;exact again I7 w7 hk
   |true =>
    rw [if_pos rfl]at q7 ⊢;refine ai (he _ _ _ _ _ _ s7 _ H7 _ I7 q7) (fun yv s8 ⟨y,H8,I8,r8,hD8,k,hk,w8⟩=>?_) fun _ _ z=>z.elim;refine ai (EO (X:=Ak X scope cl N Hq.objs.size s2 H2 fp) _ s8 _ H8 (.ref s2.heap.objs.size) [y] (.ref s2.heap.objs.size) [yv] (fun _ H9=>H9=upd H8 s2.heap.objs.size (.lst (ys++[y]))) I8 rfl (.cons r8 .nil) ⟨_,ys,y,rfl,rfl,hD8,hsz,rfl⟩) (fun _ s9 ⟨_,H9,I9,_,e9⟩=>?_) fun _ _ z=>z.elim;subst e9;exact again I9 w8 hk
 exact codeAny_compStart_list (loop _ rfl) (T.self X.A 0 _ _ _ (T.keep _ _ _ st2 fun b _ o e=>old b o e) (loop _ rfl))
def LX{pins:List (AD×Obj)}{σ:St}{H2:Hp}{s2:SD}{Q:VK}{it:AD}{fp:List AD}{tn:Nat→Heap→Prop}{J:It}{cl:List (Str×AD)}{E:VL→SD→Prop}{RR:VL→AD→Result→SD→Prop}
 (S:CO scope N x ix)(hcalm:X.calm=true)(hfr:EH N X.N scope X.env.scope fr 0=true)(hlen:fr.length=N.length)
 (hif:∀cl C s₀ H₀ fp,Ip (Ak X scope cl N C s₀ H₀ fp) ifs tif)(he:∀cl C s₀ H₀ fp,PE (Ak X scope cl N C s₀ H₀ fp) elt te)
 (I2:Inv X pins σ H2 s2)(T:Turn X.prog X.w X.K (.Name x px) J fp it tn)(st2:tn 0 s2.heap)(f2:∀b∈fp,HD X pins H2 b)
 (c1:∀x c,cl.lookup x=some c→X.env.cells.lookup x=some c)(c2:∀x∈scope.names,x.2=NameKind.free→∃c,cl.lookup x.1=some c)
 (W:∀D,H2 D=none→∃W:Nat→Nat→List V→Hp→Prop,(∃m,W 0 m [] (upd H2 D (.lst []))) ∧
   ∀i m ys H,W i m ys H→H D=some (.lst ys)∧((J.stop i H∧Q (.ref D) H)∨(J.go i H∧ys.length<sizeLine∧∀x H',J.DZ i H x H' →
    tif ((carry fr σ).set ix (some x)) H' fun b H2=>if b=true then te ((carry fr σ).set ix (some x)) H2 fun y H3=>H3 D=some (.lst ys)∧∃m',m'<m∧W (i+1) m' (ys++[y]) (upd H3 D (.lst (ys++[y])))
     else ∃m',m'<m∧W (i+1) m' ys H2)))
 (fin:∀(D C:AD) (s':SD) (H':Hp) m,s'.heap.Ns C m→Q (.ref D) H'→(∀h',Heap.SameBut C s'.heap h'→Inv X pins σ H' { s' with heap:=h' })→C≠D→(∀b o,s2.heap.get? b=some o→b≠C)→H' C=none→s2.heap.objs.size≤C→RR (.ref D) C (.ok .next) s') :
  wpAny (model X.prog X.w) X.A (newList []) (fun acc s₃=>wpAny (model X.prog X.w) X.A (newFunctionEnv scope X.env.globals cl [] X.env.qual none .none (some X.env)) (fun cenv s₄ =>
   codeAny (model X.prog X.w) X.A (.compStart (.ListComp elt [⟨.Name x px,iter,ifs,0⟩] scope pos) 0 (.ref it) acc { cenv with scope:=relabel scope X.env }) (RR acc cenv.locals) s₄) E s₃) E s2:=by
 have hxv:(relabel scope X.env).names.lookup x=some .local:=lookup_relabel_local S.loc;refine KU S hcalm (fun σ'=>∀v,σ'.set ix v=(carry fr σ).set ix v) (fun _=>rfl) (fun C=>A7 (X:=Ak X scope cl N C s2 H2 fp) S.nd S.at_ (.inl hxv) (.inr hxv)) hfr hlen hif he I2 T st2 f2 c1 c2 (fun D hD=>?_) fin;obtain⟨W,w0,st⟩:=W D hD;refine⟨W,w0,fun i m ys H w=>?_⟩;obtain⟨h1,h2|⟨h2,h3,h4⟩⟩:=st i m ys H w
 ·exact⟨h1,.inl h2⟩
 ·refine⟨h1,.inr ⟨h2,h3,fun x H' hy σ' hr=>?_⟩⟩;have:=h4 x H' hy;rw [←hr]at this;exact⟨fun v=>by rw [List.set_set,hr],this⟩
def Wj(S:CO scope N x ix)(hcalm:X.calm=true)(hfr:EH N X.N scope X.env.scope fr 0=true)(hlen:fr.length=N.length)(hfree:∀y∈scope.names,y.2=.free→X.env.scope.names.lookup y.1=some .cell∨X.env.scope.names.lookup y.1=some .free)
 (hi:PI X (.Name x px) iter wi)(hif:∀cl C s₀ H₀ fp,Ip (Ak X scope cl N C s₀ H₀ fp) ifs tif)(he:∀cl C s₀ H₀ fp,PE (Ak X scope cl N C s₀ H₀ fp) elt te)
 (hs:∀x,foldedSetIterable iter X.env x=pure x:=by intro _;rfl):PE X (.ListComp elt [⟨.Name x px,iter,ifs,0⟩] scope pos) (Js wi fr ix tif te):=by
 intro pins s σ H Q I hw;obtain⟨cl,hclos,c1,_,c2⟩:=Et (env:=X.env) scope.names [] (fun y hy hf=>I.ok.has y.1 (hfree y hy hf)) (fun y c z=>by cases z);have hclos':closureFor scope X.env=pure cl:=by
  have e:closureFor scope X.env=((forIn scope.names [] (fun(x:Str×NameKind) (r:List (Str×AD))=>do if(x.2==NameKind.free)=true then do let a ←cellOf X.env x.1;pure (ForInStep.yield ((x.1,a)::r)) else pure (ForInStep.yield r)):Sem (List (Str×AD)))>>=fun cs=>pure cs):=rfl;rw [e,hclos]
  rfl
 rw [eval_ListComp];refine wpAny_comprehension_free (use:=none) rfl hs hclos' S.kind S.names (Az (hi pins s σ H _ I hw) fun v s1 h1=>Az h1 fun itv s2 h2=>?_);obtain⟨it,fp,tn,J,H2,e,I2,T,st2,f2,W⟩:=h2;subst e;refine LX (RR:=fun acc C=>compPost (model X.prog X.w) X.A X.xe none (EP X pins σ Q) acc C) S hcalm hfr hlen hif he I2 T st2 f2 c1 c2 W ?_;intro D C s' H' m hn q hI _ _ _ _;exact⟨m,hn,fun h' hs'=>⟨.ref D,H',hI h' hs',rfl,q⟩⟩
def RA{i : Nat}{y : Str}{py spos : Pos}(hN : X.N.Nodup)(hy : X.N[i]? = some y)(hly : X.env.scope.names.lookup y = some .local)(S : CO scope N x ix)(hcalm : X.calm = true)(hfr : EH N X.N scope X.env.scope fr 0 = true)(hlen : fr.length = N.length)
 (hfree : ∀ y∈scope.names,y.2 = .free→X.env.scope.names.lookup y.1 = some .cell∨X.env.scope.names.lookup y.1 = some .free)
 (hi : PI X (.Name x px) iter wi)(hif : ∀ cl C s₀ H₀ fp,Ip (Ak X scope cl N C s₀ H₀ fp) ifs tif)(he : ∀ cl C s₀ H₀ fp,PE (Ak X scope cl N C s₀ H₀ fp) elt te)
 (hsw : swapsWith (.ListComp elt [⟨.Name x px,iter,ifs,0⟩] scope pos) (some (.Name y py)) spos.line X.env = pure true := by rfl)
 (hs : ∀ x,foldedSetIterable iter X.env x = pure x := by intro _; rfl) :
    PS X (.Assign [.Name y py] (.ListComp elt [⟨.Name x px,iter,ifs,0⟩] scope pos) spos) (Rc (Js wi fr ix tif te) (Ee i)) := by
  intro pins s σ H D I hw
  obtain ⟨cl,hclos,c1,_,c2⟩:=Et (env:=X.env) scope.names [] (fun y hy hf => I.ok.has y.1 (hfree y hy hf)) (fun y c z => by cases z)
  have hclos' : closureFor scope X.env = pure cl := by
    have e : closureFor scope X.env = ((forIn scope.names [] (fun (x : Str×NameKind) (r : List (Str×AD)) => do if (x.2 == NameKind.free) = true then do let a ← cellOf X.env x.1; pure (ForInStep.yield ((x.1,a) :: r)) else pure (ForInStep.yield r)) : Sem (List (Str×AD))) >>= fun cs => pure cs):=rfl
    rw [e,hclos]
    rfl
  rw [exec_Assign_Name_used _ _ _ _ hsw]
  refine Wb (wpAny_standAt (Wb ?_))
  show wpAny _ X.A (do let _ ← comprehension (.ListComp elt [⟨.Name x px,iter,ifs,0⟩] scope pos) scope X.env _ (newList []) false (eval iter X.env) (some (assign (.Name y py) X.env))) _ _ s
  refine Wb (ai (wpAny_comprehension_free (use:=some (assign (.Name y py) X.env)) (Q:=fun _ s' => SP X pins D .next s') rfl hs hclos' S.kind S.names
    (Az (hi pins s σ H _ I hw) fun v s1 h1 => Az h1 fun itv s2 h2 => ?_)) (fun _ s' hq => aA (aA hq)) fun _ _ e => e)
  obtain ⟨it,fp,tn,J,H2,e,I2,T,st2,f2,W⟩:=h2
  subst e
  refine LX (Q:=fun x H1 => Ee i x σ H1 D.nx) (RR:=fun acc C => compPost (model X.prog X.w) X.A X.xe (some (assign (.Name y py) X.env)) (fun _ s' => SP X pins D .next s') acc C) S hcalm hfr hlen hif he I2 T st2 f2 c1 c2 W ?_
  intro D' C s' H' m hn q hI hCD hold hfreeC hsz
  have I5 : Inv X pins σ H' s':=hI s'.heap (Heap.SameBut.refl ..)
  refine wpAny_assign_Name (Mq I5 hN hy (.inl hly) (v:=.ref D') rfl (fun s'' I6 ⟨a,hsb,ha⟩ => ?_) (.inr hly))
  have hL : C≠X.env.locals:=fun z => by
    obtain ⟨_,⟨o,_,_,e,_⟩,_⟩:=I2.loc
    exact hold _ _ e z.symm
  have hcl : ∀ z c,X.env.cells.lookup z = some c→c≠C:=fun z c e => by
    obtain ⟨_,o,ho,_⟩:=I2.cell z c e
    exact hold _ _ ho
  have hCa : C≠a := by
    rcases ha with z | z
    · rw [z]; exact hL
    · exact Ne.symm (hcl _ _ z)
  refine ⟨m,hn.sameBut hsb hCa,fun h' hs' => ⟨_,H',I6.turned (t':=s''.toks) (it:=C) (fun b o hb e => (hs'.2 b hb).trans e) hfreeC hL (.inr (aM I2.sz hsz)) hcl fun p hp => ?_,q⟩⟩
  obtain ⟨e,_⟩:=I2.pin p hp
  exact hold _ _ e
end
end L2
namespace FM
def gi(a b:Int):Int:=(Int.gcd a b:Int)
def OC(a b:Int):Int.gcd b (a.fmod b)=Int.gcd a b:=by
 have e:a.fmod b=a-b*a.fdiv b:=Int.fmod_def a b;rw [e,Int.gcd_comm a b];exact Int.gcd_sub_mul_left_right b a (a.fdiv b)
def NL(a b:Int)(hb:b≠0):(a.fmod b).natAbs<b.natAbs:=by
 rcases Int.lt_or_gt_of_ne hb with h|h
 ·have h1:-(a.fmod b)=(-a).fmod (-b):=by
   rw [Int.fmod_def,Int.fmod_def,Int.neg_fdiv_neg];have:-b*a.fdiv b=-(b*a.fdiv b):=Int.neg_mul _ _;omega
  have h2:=Int.fmod_nonneg_of_pos (-a) (show 0 < -b by omega);have h3:=Int.fmod_lt_of_pos (-a) (show 0 < -b by omega);omega
 ·have h2:=Int.fmod_nonneg_of_pos a h;have h3:=Int.fmod_lt_of_pos a h;omega
def Jj{a b:Int}(hb:b≠0):0<gi a b:=by
 have:0<Int.gcd a b:=Int.gcd_pos_of_ne_zero_right a hb;unfold gi;omega
def VM{a b:Int}(hb:b≠0):(gi a b).natAbs≤b.natAbs:=by
 have h:Int.gcd a b ∣ b.natAbs:=by
  have:=Int.gcd_dvd_right a b;exact Int.natAbs_dvd_natAbs.mpr this
 have h2:0<b.natAbs:=by omega
 have:=Nat.le_of_dvd h2 h;unfold gi;omega
def gs(t b:Int):Int:=if b<0 then -gi t b else gi t b
def Vi{t b:Int}(hb:b≠0):gs t b≠0:=by
 have:=Jj (a:=t) hb;unfold gs;split<;>omega
def VI{t b:Int}(hb:b≠0):(gs t b).natAbs≤b.natAbs:=by
 have:=VM (a:=t) hb;unfold gs;split<;>omega
def Ei{g x k:Int}(hg:g≠0)(e:x=g*k):x.fdiv g=k:=by
 subst e;exact Int.mul_fdiv_cancel_left k hg
def KN(a b:Int):gi a b ∣ a:=Int.gcd_dvd_left a b
def Je(a b:Int):gi a b ∣ b:=Int.gcd_dvd_right a b
def OQ{t b:Int}(hb:b≠0):t.fdiv (gs t b)=(Rat.divInt t b).num:=by
 have hp:=Jj (a:=t) hb;obtain⟨k,hk⟩:=KN t b;rw [Rat.num_divInt,Int.gcd_comm b t];show t.fdiv (gs t b)=b.sign*t / gi t b;unfold gs;generalize gi t b=g at hp hk ⊢;rcases Int.lt_or_gt_of_ne hb with h|h
 ·rw [if_pos h,Int.sign_eq_neg_one_of_neg h,Ei (k:=-k) (by omega) (by rw [hk];simp [Int.mul_neg,Int.neg_mul])];have:-1*t=g*(-k):=by rw [hk];simp [Int.mul_neg]
  rw [this,Int.mul_ediv_cancel_left _ (by omega)]
 ·rw [if_neg (by omega),Int.sign_eq_one_of_pos h,Ei (k:=k) (by omega) hk,Int.one_mul,hk,Int.mul_ediv_cancel_left _ (by omega)]
def O2{t b:Int}(hb:b≠0):b.fdiv (gs t b)=((Rat.divInt t b).den:Int):=by
 have hp:=Jj (a:=t) hb;obtain⟨k,hk⟩:=Je t b;rw [Rat.den_divInt,if_neg hb,Int.gcd_comm b t];have e:(((b.natAbs / Int.gcd t b:Nat)):Int)=(b.natAbs:Int) / gi t b:=by unfold gi;simp
 rw [e];unfold gs;generalize gi t b=g at hp hk ⊢;rcases Int.lt_or_gt_of_ne hb with h|h
 ·rw [if_pos h,Ei (k:=-k) (by omega) (by rw [Int.neg_mul_neg];exact hk)];have:(b.natAbs:Int)=g*(-k):=by rw [Int.mul_neg,←hk];omega
  rw [this,Int.mul_ediv_cancel_left _ (by omega)]
 ·rw [if_neg (by omega),Ei (k:=k) (by omega) hk];have:(b.natAbs:Int)=g*k:=by rw [←hk];omega
  rw [this,Int.mul_ediv_cancel_left _ (by omega)]
def C8(a b:Int):(a.fdiv b).natAbs≤a.natAbs:=by
 cases a with
 |ofNat n =>
  cases n with
  |zero =>
   have e:Int.fdiv (.ofNat 0) b=0:=Int.zero_fdiv b;rw [e];exact av _
  |succ k =>
   cases b with
   |ofNat j=>exact Nat.div_le_self (k+1) j
   |negSucc j=>exact Nat.succ_le_succ (Nat.div_le_self k (j+1))
 |negSucc k =>
  cases b with
  |ofNat j =>
   cases j with
   |zero=>exact av _
   |succ j=>exact Nat.succ_le_succ (Nat.div_le_self k (j+1))
  |negSucc j=>exact Nat.div_le_self (k+1) (j+1)
def YY{t b:Int}(hb:b≠0):(Rat.divInt t b).num.natAbs≤t.natAbs:=by
 rw [←OQ hb];exact C8 _ _
def Rx{t b:Int}(hb:b≠0):(Rat.divInt t b).den≤b.natAbs:=by
 have h:=C8 b (gs t b);rw [O2 hb]at h
 simpa using h
def Le(p:Rat):(p.den:Int)≠0:=by
 have:=p.den_nz;omega
def C5(p:Rat):Rat.divInt p.num p.den=p:=Rat.num_divInt_den p
def W7(p q:Rat):Rat.divInt (p.num*q.den+q.num*p.den) (p.den*q.den)=p+q:=by
 rw [←Rat.divInt_add_divInt _ _ (Le p) (Le q),C5,C5]
def UH(p q:Rat):Rat.divInt (p.num*q.num) (p.den*q.den)=p*q:=by
 rw [←Rat.divInt_mul_divInt,C5,C5]
def P4(p q:Rat):(p.den:Int)*q.den≠0:=Int.mul_ne_zero (Le p) (Le q)
def Wq{p q:Rat}(h1:p.num=q.num)(h2:(p.den:Int)=(q.den:Int)):p=q:=Rat.ext h1 (by omega)
def TJ{x y:Int}{m n:Nat}(hx:x.natAbs<2^m)(hy:y.natAbs<2^n):(x*y).natAbs<2^(m+n):=by
 rw [Int.natAbs_mul,Nat.pow_add];exact Nat.mul_lt_mul'' hx hy
def Qj{x:Nat}{m n:Nat}(hx:x<2^m)(h:m≤n):x<2^n:=aH hx (aW (by decide) h)
def Fits(p:Rat)(n:Nat):Prop:=p.num.natAbs<2^n∧p.den<2^n
def Fits.d{p:Rat}{n:Nat}(h:Fits p n):((p.den:Int)).natAbs<2^n:=by simpa using h.2
def Fits.SR{t b:Int}{n:Nat}(hb:b≠0)(h1:t.natAbs<2^n)(h2:b.natAbs<2^n):Fits (Rat.divInt t b) n :=
 ⟨aY (YY hb) h1,Nat.lt_of_le_of_lt (Rx hb) h2⟩
def dd{p q:Rat}{m n:Nat}(h:Fits p m)(k:Fits q n):((p.den:Int)*q.den).natAbs<2^(m+n):=TJ h.d k.d
end FM
namespace FM
def QY(a b:Int):Int.gcd (if a<0 then -a else a) (if b<0 then -b else b)=Int.gcd a b:=by
 split<;>split<;>simp [Int.gcd_neg,Int.neg_gcd]
def abs_nonneg(a:Int):0≤(if a<0 then -a else a):=by split<;>omega
def SX{g a b:Int}(h:Int.gcd g 0=Int.gcd a b)(h0:0≤g):g=gi a b:=by
 unfold gi;rw [←h,Int.gcd_zero_right];omega
def fmod_nonneg{g l:Int}(hl:l≠0)(h:0≤l):0≤g.fmod l:=Int.fmod_nonneg_of_pos g (by omega)
end FM
namespace L2
open PySem PySem.Spec PyProof.Rows
structure Fn(K:Fg)(mg:Str→Option Value)(x:Str)(st:Stmt)(ps:List Str)(f:Addr)(fd:FuncData):Prop where
 F:P5 K x x st f fd
 b:Binds K fd ps []
 m:mg x=some (.ref f)
section
variable{X:Cx}{k:Nat}{f:AD}{fd:FuncData}{ps:List Str}{sp:Sp}{x:Str}{st:Stmt}{p pos:Pos}{e:Expr}{es:List Expr}{t:TA}
def Av(T:Fn X.K X.mg x st ps f fd)(G:AV X.prog X.w X.K X.mg X.base Ad k f fd ps sp)(hr:Cn k X.A)(hg:Gl X x)(ha:PA X (e::es) t)
 (hdb:(x==("__debug__" : Str))=false:=by decide)(he:starEach (e::es) X.env=(false,eval e X.env)::starEach es X.env:=by rfl)(hpl:(backTo pos (starEach es X.env)).any (·.1)=false:=by rfl) :
  PE X (.Call (.Name x p) (e::es) [] pos) (VU sp [] E0 t):=WN G hr hg T.m T.F.kp T.b .nil Zd ha hdb he hpl
end
def Kt{t u:TS}{D:Ends}{σ:St}{H:Hp}(P:St→Hp→Prop)(h1:∀nx:St→Hp→Prop,(∀σ' H',P σ' H'→nx σ' H')→t { D with nx:=nx } σ H)(h2:∀σ' H',P σ' H'→u D σ' H'):XH t u D σ H:=h1 _ h2
def SW:2≤sizeLine:=by decide
def AU{H:Hp}{p:AD}(h:H p=none)(o:HO):AH H (upd H p o):=fun b u q=>by rw [AG (AO q h)];exact q
def SameBut(l:AD)(H H':Hp):Prop:=∀b o,b≠l→H b=some o→H' b=some o
def SameBut.of{l:AD}{H H':Hp}(h:AH H H'):SameBut l H H':=fun b o _ q=>h b o q
def SameBut.upd{l:AD}{H:Hp}{o:HO}:SameBut l H (upd H l o):=fun b u n q=>by rw [AG n];exact q
def Fl(p:Rat):List V:=[.int p.num,.int (p.den:Int)]
def Af(p:Rat):PD:=.tuple [.int p.num,.int (p.den:Int)]
def Q6{i j:Int}{m n:Nat}(h1:i.natAbs<2^m)(h2:j.natAbs<2^n)(h:m+n≤1000000):N2 i j∨LP i j :=
 .inr ⟨m+n,h,FM.Qj h1 (Nat.le_add_right _ _),FM.Qj h2 (Nat.le_add_left _ _)⟩
def bw(ea:AD)(cls:VL):HO:=.ext fun h=>∃o vs,h.get? ea=some o∧o.cls=cls∧o.data=.fields vs
open PySem PySem.Spec PyProof.Rows PySem.Builtin.ObjectAttr PySem.Builtin.Getset_descriptor
def L7:V→VL
 |.ref C=>.ref C
 |.ty n=>.type n
 |_=>.none
def WY{c:V}{u:VL}(r:RelV c u)(h:L7 c≠.none):u=L7 c:=by
 cases c with
 |ref C=>exact r
 |ty n=>exact r
 |_=>exact absurd rfl h
section
variable{X:Cx}
def cN(K:Fg):List V→Hp→VK→Prop:=fun xs H Q=>∃x c t b,xs=[x,c]∧L7 c≠.none∧Dy K H x t∧PySem.W.kitOne K t (L7 c)=some b∧Q (.bl b) H
def DY:Df X (.builtin "isinstance") (cN X.K):=by
 intro pins s σ H xs us Q I r h;obtain⟨x,c,t,b,rfl,hc,ty,e,q⟩:=h;obtain⟨u,v,rfl,r1,r2⟩:=r.two;rw [WY r2 hc];exact S4 I r1 ty e fun tk=>⟨.bl b,H,I.tok tk,rfl,q⟩
end
def SJ(K:Fg):PySem.W.kitOne K (.type "tuple") (.type "tuple")=some true:=rfl
def Xg(K:Fg):PySem.W.kitOne K (.type "int") (.type "int")=some true:=rfl
def Y6(K:Fg):PySem.W.kitOne K (.type "bool") (.type "bool")=some true:=rfl
def Xo(K:Fg):PySem.W.kitOne K (.type "int") (.type "bool")=some false:=by kernel_rfl
def Ys(K:Fg):PySem.W.kitOne K (.type "bool") (.type "int")=some true:=by kernel_rfl
def YQ(K:Fg):PySem.W.kitOne K (.type "list") (.type "tuple")=some false:=by kernel_rfl
def Ye(K:Fg):PySem.W.kitOne K (.type "tuple") (.type "list")=some false:=by kernel_rfl
def Xe(K:Fg):PySem.W.kitOne K (.type "list") (.type "list")=some true:=rfl
def Y7(K:Fg):PySem.W.kitOne K (.type "int") (.type "tuple")=some false:=by kernel_rfl
def X4(K:Fg):PySem.W.kitOne K (.type "bool") (.type "tuple")=some false:=by kernel_rfl
def YN(K:Fg):PySem.W.kitOne K (.type "NoneType") (.type "tuple")=some false:=by kernel_rfl
def Yy(K:Fg):PySem.W.kitOne K (.type "str") (.type "tuple")=some false:=by kernel_rfl
def YA(K:Fg):PySem.W.kitOne K (.type "tuple") (.type "int")=some false:=by kernel_rfl
def XZ(K:Fg):PySem.W.kitOne K (.type "list") (.type "int")=some false:=by kernel_rfl
def ZA(K:Fg):PySem.W.kitOne K (.type "NoneType") (.type "int")=some false:=by kernel_rfl
def W6(K:Fg):PySem.W.kitOne K (.type "str") (.type "int")=some false:=by kernel_rfl
def Y8(K:Fg):PySem.W.kitOne K (.type "int") (.type "list")=some false:=by kernel_rfl
def XW(K:Fg):PySem.W.kitOne K (.type "bool") (.type "list")=some false:=by kernel_rfl
def Xa(K:Fg):PySem.W.kitOne K (.type "NoneType") (.type "list")=some false:=by kernel_rfl
def YH(K:Fg):PySem.W.kitOne K (.type "str") (.type "list")=some false:=by kernel_rfl
def freeOk(xsc:Scope)(names:List (Str×NameKind)):Bool:=names.all fun y=>y.2 != .free||xsc.names.lookup y.1==some .cell||xsc.names.lookup y.1==some .free
def Jb{xsc:Scope}{names:List (Str×NameKind)}(h:freeOk xsc names=true):∀y∈names,y.2=.free→xsc.names.lookup y.1=some .cell∨xsc.names.lookup y.1=some .free:=fun y hy hf=>by
 have q:=ao.mp h y hy;rw [hf]at q;simp only [bne_self_eq_false,Bool.false_or,Bool.or_eq_true,beq_iff_eq]at q;exact q
def CQ(scope:Scope)(N:List Str)(x:Str)(ix:Nat):Bool :=
 scope.kind==.function&&(scope.names.all fun y=>y.2 != .cell&&(y.2 != .local||scope.names.lookup y.1==some .local)&&(y.2 != .free||scope.names.lookup y.1==some .free))&&scope.names.lookup x==some .local&&decide N.Nodup&&N[ix]? == some x
def Ep{scope:Scope}{N:List Str}{x:Str}{ix:Nat}(h:CQ scope N x ix=true):CO scope N x ix:=by
 unfold CQ at h;simp only [Bool.and_eq_true,beq_iff_eq,decide_eq_true_eq,List.all_eq_true,bne_iff_ne,Bool.or_eq_true]at h;obtain⟨⟨⟨⟨h1,h2⟩,h3⟩,h4⟩,h5⟩:=h;exact⟨h1,fun y hy=>(h2 y hy).1.1,fun y hy hl=>(h2 y hy).1.2.resolve_left fun z=>z hl,fun y hy hl=>(h2 y hy).2.resolve_left fun z=>z hl,h3,h4,h5⟩
section
variable{X:Cx}{elt iter:Expr}{x:Str}{px pos:Pos}{ifs:List Expr}{scope:Scope}{wi:TI}{tif:TT}{te:TE}
def EG(N:List Str)(ix:Nat)(fr:List (Option Nat))(hi:PI X (.Name x px) iter wi)(hif:∀cl C s₀ H₀ fp,Ip (Ak X scope cl N C s₀ H₀ fp) ifs tif)(he:∀cl C s₀ H₀ fp,PE (Ak X scope cl N C s₀ H₀ fp) elt te)
 (h1:CQ scope N x ix=true:=by decide +kernel)(h2:X.calm=true:=by rfl)(h3:EH N X.N scope X.env.scope fr 0=true:=by rfl)(h4:fr.length=N.length:=by rfl)(h5:freeOk X.env.scope scope.names=true:=by rfl)
 (hs:∀x,foldedSetIterable iter X.env x=pure x:=by intro _;rfl):PE X (.ListComp elt [⟨.Name x px,iter,ifs,0⟩] scope pos) (Js wi fr ix tif te) :=
 Wj (Ep h1) h2 h3 h4 (Jb h5) hi hif he hs
def KP{i:Nat}{y:Str}{py spos:Pos}(N:List Str)(ix:Nat)(fr:List (Option Nat))(hN:X.N.Nodup)(hy:X.N[i]? = some y)(hly:X.env.scope.names.lookup y=some .local)
 (hi:PI X (.Name x px) iter wi)(hif:∀cl C s₀ H₀ fp,Ip (Ak X scope cl N C s₀ H₀ fp) ifs tif)(he:∀cl C s₀ H₀ fp,PE (Ak X scope cl N C s₀ H₀ fp) elt te)
 (h1:CQ scope N x ix=true:=by decide +kernel)(h2:X.calm=true:=by rfl)(h3:EH N X.N scope X.env.scope fr 0=true:=by rfl)(h4:fr.length=N.length:=by rfl)(h5:freeOk X.env.scope scope.names=true:=by rfl)
 (hsw:swapsWith (.ListComp elt [⟨.Name x px,iter,ifs,0⟩] scope pos) (some (.Name y py)) spos.line X.env=pure true:=by rfl)
 (hs:∀x,foldedSetIterable iter X.env x=pure x:=by intro _;rfl):PS X (.Assign [.Name y py] (.ListComp elt [⟨.Name x px,iter,ifs,0⟩] scope pos) spos) (Rc (Js wi fr ix tif te) (Ee i)) :=
 RA hN hy hly (Ep h1) h2 h3 h4 (Jb h5) hi hif he hsw hs
end
end L2
inductive Tr where
 |nil
 |cons (b r:Tr)
 deriving DecidableEq
namespace Tr
def bs:Tr→List Tr
 |.nil=>[]
 |.cons b r=>b::r.bs
def of:List Tr→Tr
 |[]=>.nil
 |b::r=>.cons b (of r)
def Nm:∀t:Tr,of t.bs=t
 |.nil=>rfl
 |.cons b r=>by rw [bs,of,Nm r]
def J0:∀l:List Tr,(of l).bs=l
 |[]=>rfl
 |b::r=>by rw [of,bs,J0 r]
def Sz{t u:Tr}(h:t.bs=u.bs):t=u:=by rw [←Nm t,h,Nm]
def len:Tr→Nat
 |.nil=>0
 |.cons _ r=>r.len+1
def Dc:∀t:Tr,t.bs.length=t.len
 |.nil=>rfl
 |.cons _ r=>by rw [bs,List.length_cons,Dc r,len]
def AX:Tr→Nat
 |.nil=>1
 |.cons b r=>b.AX+r.AX
def deep:Tr→Nat
 |.nil=>0
 |.cons b r=>max (b.deep+1) r.deep
def lt:Tr→Tr→Bool
 |.nil,.nil=>false
 |.nil,.cons _ _=>true
 |.cons _ _,.nil=>false
 |.cons b r,.cons c q=>if b=c then lt r q else lt b c
def lt_irrefl:∀t:Tr,lt t t=false
 |.nil=>rfl
 |.cons b r=>by rw [lt,if_pos rfl];exact lt_irrefl r
def lt_trans:∀a b c:Tr,lt a b=true→lt b c=true→lt a c=true
 |.nil,.nil,_,h,_=>by cases h
 |.nil,.cons _ _,.nil,_,h=>by cases h
 |.nil,.cons _ _,.cons _ _,_,_=>rfl
 |.cons _ _,.nil,_,h,_=>by cases h
 |.cons _ _,.cons _ _,.nil,_,h=>by cases h
 |.cons a r,.cons b s,.cons c t,h1,h2=>by
  rw [lt]at h1 h2 ⊢;by_cases e1:a=b
  ·subst e1;rw [if_pos rfl]at h1;by_cases e2:a=c
   ·subst e2;rw [if_pos rfl]at h2 ⊢;exact lt_trans r s t h1 h2
   ·rw [if_neg e2]at h2 ⊢;exact h2
  ·rw [if_neg e1]at h1;by_cases e2:b=c
   ·subst e2;rw [if_neg e1];exact h1
   ·rw [if_neg e2]at h2;have h3:=lt_trans a b c h1 h2;by_cases e3:a=c
    ·subst e3;rw [lt_irrefl]at h3;cases h3
    ·rw [if_neg e3];exact h3
def GW:∀a b:Tr,lt a b=false→lt b a=false→a=b
 |.nil,.nil,_,_=>rfl
 |.nil,.cons _ _,h,_=>by cases h
 |.cons _ _,.nil,_,h=>by cases h
 |.cons a r,.cons b s,h1,h2=>by
  rw [lt]at h1 h2;by_cases e:a=b
  ·subst e;rw [if_pos rfl]at h1 h2;rw [GW r s h1 h2]
  ·rw [if_neg e]at h1;rw [if_neg (Ne.symm e)]at h2;exact absurd (GW a b h1 h2) e
def KS(a b c:Tr)(h:lt a c=true):lt a b=true∨lt b c=true:=by
 cases h1:lt a b with
 |true=>exact .inl rfl
 |false =>
  right
  cases h2:lt b a with
  |true=>exact lt_trans b a c h2 h
  |false=>rw [←GW a b h1 h2];exact h
def lt_asymm{a b:Tr}(h:lt a b=true):lt b a=false:=by
 cases h2:lt b a with
 |false=>rfl
 |true=>have:=lt_trans a b a h h2;rw [lt_irrefl]at this;cases this
def B6:Tr→Bool
 |.nil=>true
 |.cons b r=>b.B6&&r.B6&&(match r with
  |.nil=>true
  |.cons c _=>!lt b c)
def ins(x:Tr):List Tr→List Tr
 |[]=>[x]
 |y::r=>if lt x y=true then y::ins x r else x::y::r
def Be:List Tr→List Tr
 |[]=>[]
 |x::r=>ins x (Be r)
end Tr
namespace TH
open PySem PyProof.Rows PySem.SeqAt
def Vs(h:Heap):Tr→List VL→Prop
 |.nil,us=>us=[]
 |.cons b r,us=>∃(a:AD) (its rest:List VL),us=.ref a::rest∧h.IsTuple a its.toArray∧Vs h b its∧Vs h r rest
def Vs.length{h:Heap}:∀ {t:Tr} {us:List VL},Vs h t us→us.length=t.len
 |.nil,us,e=>by rw [Vs]at e;rw [e];rfl
 |.cons b r,us,e=>by
  rw [Vs]at e;obtain⟨a,its,rest,rfl,_,_,q⟩:=e;rw [List.length_cons,Tr.len,Vs.length q]
def GC{h:Heap}{a:AD}{x y:Array VL}(h1:h.IsTuple a x)(h2:h.IsTuple a y):x=y:=by
 obtain⟨o,e,_,n,d⟩:=h1;obtain⟨o',e',_,n',d'⟩:=h2;rw [e]at e';cases e';rw [d]at d';cases d';rfl
def Vs.inj{h:Heap}:∀ {t u:Tr} {us:List VL},Vs h t us→Vs h u us→t=u
 |.nil,.nil,_,_,_=>rfl
 |.nil,.cons _ _,us,e,f=>by
  rw [Vs]at e;rw [Vs]at f;obtain⟨_,_,_,f,_⟩:=f;rw [e]at f;cases f
 |.cons _ _,.nil,us,e,f=>by
  rw [Vs]at e;rw [Vs]at f;obtain⟨_,_,_,e,_⟩:=e;rw [f]at e;cases e
 |.cons b r,.cons c q,us,e,f=>by
  rw [Vs]at e f;obtain⟨a,its,rest,rfl,h1,h2,h3⟩:=e;obtain⟨a',its',rest',e',k1,k2,k3⟩:=f;cases e';have:=GC h1 k1;have e2:its=its':=by simpa using this
  subst e2;rw [Vs.inj h2 k2,Vs.inj h3 k3]
def Nr{s:SD}:∀(t u:Tr) (A:Around) (us vs:List VL),Vs s.heap t us→Vs s.heap u vs→A.units+t.deep≤cLine →
  ∀j (h1:j<us.length) (h2:j<vs.length),EqAt A s us[j] vs[j] (decide (t.bs[j]? = u.bs[j]?))
 |.nil,u,A,us,vs,e,f,_,j,h1,h2=>by
  rw [Vs]at e;subst e;exact absurd h1 (aT _)
 |.cons b r,.nil,A,us,vs,e,f,_,j,h1,h2=>by
  rw [Vs]at f;subst f;exact absurd h2 (aT _)
 |.cons b r,.cons c q,A,us,vs,e,f,hu,j,h1,h2=>by
  rw [Vs]at e f;obtain⟨a,its,rest,rfl,k1,k2,k3⟩:=e;obtain⟨a',its',rest',rfl,l1,l2,l3⟩:=f;have hd:(Tr.cons b r).deep=max (b.deep+1) r.deep:=rfl;cases j with
  |zero =>
   show EqAt A s (.ref a) (.ref a') (decide (some b=some c));by_cases ea:a=a'
   ·subst ea;have:=GC k1 l1;have e2:its=its':=by simpa using this
    subst e2;rw [Vs.inj k2 l2,decide_eq_true rfl];exact EqAt.same _
   ·refine EqAt.of_refs ea ?_;have key:=RcAt.tuples (s:=s) (A:=A) (e:=fun j=>decide (b.bs[j]? = c.bs[j]?)) k1 l1 (by omega) fun j x1 x2=>by
     have:=Nr b c A.in1 its its' k2 l2 (by rw [show A.in1.units=A.units+1 from rfl];omega) j (by simpa using x1) (by simpa using x2)
     simpa using this
    have ev:((List.range (min its.toArray.size its'.toArray.size)).all (fun j=>decide (b.bs[j]? = c.bs[j]?))&&its.toArray.size==its'.toArray.size)=decide (some b=some c):=by
     have z1:its.toArray.size=b.bs.length:=by rw [Tr.Dc,←Vs.length k2];simp
     have z2:its'.toArray.size=c.bs.length:=by rw [Tr.Dc,←Vs.length l2];simp
     rw [z1,z2];by_cases hbc:b=c
     ·subst hbc;simp
     ·rw [decide_eq_false (fun z=>hbc (ag z))];cases hl:b.bs.length==c.bs.length with
      |false=>rw [Bool.and_false]
      |true =>
       rw [Bool.and_true];have hl':b.bs.length=c.bs.length:=by simpa using hl
       refine aZ.mpr fun z=>hbc (Tr.Sz (List.ext_getElem? fun i=>?_));by_cases hi:i<b.bs.length
       ·have:=ao.mp z i (ay.mpr (by omega))
        simpa using this
       ·rw [List.getElem?_eq_none (by omega),List.getElem?_eq_none (by omega)]
    rw [ev]at key;exact key
  |succ j =>
   exact Nr r q A rest rest' k3 l3 (by omega) j (by simpa using h1) (by simpa using h2)
def MY{s:SD}{t u:Tr}{A:Around}{a b:AD}{its its':List VL}(h1:s.heap.IsTuple a its.toArray)(k1:Vs s.heap t its)(h2:s.heap.IsTuple b its'.toArray)(k2:Vs s.heap u its')(hu:A.units+t.deep<cLine) :
  EqAt A s (.ref a) (.ref b) (decide (t=u)):=by
 have:=Nr (.cons t .nil) (.cons u .nil) A [.ref a] [.ref b] ⟨a,its,[],rfl,h1,k1,by rw [Vs]⟩ ⟨b,its',[],rfl,h2,k2,by rw [Vs]⟩ (by show A.units+max (t.deep+1) 0≤cLine;omega) 0 (by simp) (by simp)
 simpa [Tr.bs]using this
def cY{s:SD}{t u:Tr}{A:Around}{a b:AD}{its its':List VL}(h1:s.heap.IsTuple a its.toArray)(k1:Vs s.heap t its)(h2:s.heap.IsTuple b its'.toArray)(k2:Vs s.heap u its')(hu:A.units+t.deep<cLine) :
  RcAt A s (.ref a) (.ref b) (decide (t=u)):=by
 have key:=RcAt.tuples (s:=s) (A:=A) (e:=fun j=>decide (t.bs[j]? = u.bs[j]?)) h1 h2 (by omega) fun j x1 x2=>by
  have:=Nr t u A.in1 its its' k1 k2 (by rw [show A.in1.units=A.units+1 from rfl];omega) j (by simpa using x1) (by simpa using x2)
  simpa using this
 have ev:((List.range (min its.toArray.size its'.toArray.size)).all (fun j=>decide (t.bs[j]? = u.bs[j]?))&&its.toArray.size==its'.toArray.size)=decide (t=u):=by
  have z1:its.toArray.size=t.bs.length:=by rw [Tr.Dc,←Vs.length k1];simp
  have z2:its'.toArray.size=u.bs.length:=by rw [Tr.Dc,←Vs.length k2];simp
  rw [z1,z2];by_cases hbc:t=u
  ·subst hbc;simp
  ·rw [decide_eq_false hbc];cases hl:t.bs.length==u.bs.length with
   |false=>rw [Bool.and_false]
   |true =>
    rw [Bool.and_true];have hl':t.bs.length=u.bs.length:=by simpa using hl
    refine aZ.mpr fun z=>hbc (Tr.Sz (List.ext_getElem? fun i=>?_));by_cases hi:i<t.bs.length
    ·have:=ao.mp z i (ay.mpr (by omega))
     simpa using this
    ·rw [List.getElem?_eq_none (by omega),List.getElem?_eq_none (by omega)]
 rw [ev]at key;exact key
section
open PySem.AutoSeq1 (wpAny_loadPart')
open PySem.MeetsSeq PySem.MeetsSeq2 PySem.MeetsSeq3
def Oy(n0:Nat)(ih:∀(t u:Tr) (A:Around) (s:SD) (a b:AD) (its its':List VL),t.deep<n0→s.heap.IsTuple a its.toArray→Vs s.heap t its→s.heap.IsTuple b its'.toArray→Vs s.heap u its'→A.units+t.deep<cLine →
   ∀(prog:Program) (w:World) (E:VL→SD→Prop) (Q:VL→SD→Prop),Q (.bool (Tr.lt t u)) s→wpAny (model prog w) A (richCompare .Lt (.ref a) (.ref b)) Q E s)
 (l b:AD)(items items2:Array VL)(n n2:Nat)(dd dd2:Option AD)(sl sl2:Array (Option VL))(t u:Tr)(ht:t.deep≤n0) :
  Meets (Builtin.«tuple.__lt__» ⟨[.ref l,.ref b],[]⟩)
   (fun A R s=>s.heap.get? l=some { cls:=.type "tuple",dict:=dd,data:=.seq items n,slots:=sl }∧s.heap.get? b=some { cls:=.type "tuple",dict:=dd2,data:=.seq items2 n2,slots:=sl2 } ∧
    Vs s.heap t items.toList∧Vs s.heap u items2.toList∧A.units+t.deep<cLine∧R (.ok (.ret (.bool (Tr.lt t u)))) s) :=
 .of_wp fun prog w A R s h=>by
  obtain⟨hp,g,d,tk,os⟩:=s;obtain⟨hl,hb,hi,hj,hun,h⟩:=h;have f2:=AutoSeq1.sub_tuple_tuple;have z1:items.size=t.len:=by rw [←Vs.length hi];simp
  have z2:items2.size=u.len:=by rw [←Vs.length hj];simp
  wp_walk using wpAny_loadPart' hl,wpAny_loadPart' hb,wpAny_forIn_list _ (fun rest b s'=>b.1=none∧s'=⟨hp,g,d,tk,os⟩∧∃(vs ws:List VL) (t' u':Tr),rest=vs.zip ws ∧
   Vs hp t' vs∧Vs hp u' ws∧t'.deep≤t.deep∧t'.len+items2.size=u'.len+items.size∧R (.ok (.ret (.bool (Tr.lt t' u')))) ⟨hp,g,d,tk,os⟩) _
  case turn =>
   rintro⟨y,x⟩ rest b s' ⟨hb',rfl,vs,ws,t',u',hz,hvi,hwi,hdp,hlen,hR⟩;cases t' with
   |nil=>rw [Vs]at hvi;subst hvi;rw [List.zip_nil_left]at hz;cases hz
   |cons bt rt =>
    cases u' with
    |nil=>rw [Vs]at hwi;subst hwi;rw [List.zip_nil_right]at hz;cases hz
    |cons bu ru =>
     rw [Vs]at hvi hwi;obtain⟨a1,i1,v1,rfl,p1,p2,p3⟩:=hvi;obtain⟨a2,i2,v2,rfl,q1,q2,q3⟩:=hwi;rw [List.zip_cons_cons]at hz
     injection hz with hyx hrest
     injection hyx with hy hx
     subst hy hx;have hdd:(Tr.cons bt rt).deep=max (bt.deep+1) rt.deep:=rfl;rw [Tr.lt]at hR;simp only [Tr.len]at hlen;have he:=MY (s:=⟨hp,g,d,tk,os⟩) (A:=A.in1) p1 p2 q1 q2 (by rw [show A.in1.units=A.units+1 from rfl];omega);refine Wb (he prog w _ _ ?_);cases hc:decide (bt=bu) with
     |true =>
      rw [if_pos (aa hc)]at hR
      wp_walk
      exact⟨rfl,rfl,_,_,_,_,hrest,p3,q3,by omega,by omega,hR⟩
     |false =>
      rw [if_neg (ax hc)]at hR;have hri:=ih bt bu A.in1 ⟨hp,g,d,tk,os⟩ a1 a2 i1 i2 (by omega) p1 p2 q1 q2 (by rw [show A.in1.units=A.units+1 from rfl];omega) prog w
      wp_walk using hri
      exact⟨_,rfl,by simpa using hR⟩
  case fin =>
   rintro⟨b1,b2⟩ s' ⟨hb',rfl,vs,ws,t',u',hz,hvi,hwi,hdp,hlen,hR⟩;simp only at hb';subst hb';have hv:Tr.lt t' u'=decide (items.size<items2.size):=by
    cases t' with
    |nil =>
     cases u' with
     |nil =>
      simp only [Tr.len]at hlen;exact(bC (by omega)).symm
     |cons c q =>
      simp only [Tr.len]at hlen;exact(bP (by omega)).symm
    |cons bt rt =>
     cases u' with
     |nil =>
      simp only [Tr.len]at hlen;exact(bC (by omega)).symm
     |cons c q =>
      rw [Vs]at hvi hwi;obtain⟨_,_,_,rfl,_⟩:=hvi;obtain⟨_,_,_,rfl,_⟩:=hwi;rw [List.zip_cons_cons]at hz;cases hz
   rw [hv]at hR
   wp_walk
   exact⟨_,rfl,by simpa [Builtin.Tuple.tupleCompareSizes]using hR⟩
  case h =>
   exact⟨rfl,rfl,items.toList,items2.toList,t,u,rfl,hi,hj,Nat.le_refl _,by omega,h⟩
def RE:∀(n0:Nat) (t u:Tr) (A:Around) (s:SD) (a b:AD) (its its':List VL),t.deep<n0→s.heap.IsTuple a its.toArray→Vs s.heap t its→s.heap.IsTuple b its'.toArray→Vs s.heap u its'→A.units+t.deep<cLine →
   ∀(prog:Program) (w:World) (E:VL→SD→Prop) (Q:VL→SD→Prop),Q (.bool (Tr.lt t u)) s→wpAny (model prog w) A (richCompare .Lt (.ref a) (.ref b)) Q E s
 |0,_,_,_,_,_,_,_,_,h,_,_,_,_,_=>absurd h (aT _)
 |n0+1,t,u,A,s,a,b,its,its',hd,hl,ht,hb,hu',hun=>fun prog w E Q h=>by
  obtain⟨⟨cls,dd,data,sl⟩,ho,hc,n,hdt⟩:=id hl;obtain⟨⟨cls2,dd2,data2,sl2⟩,ho2,hc2,n2,hdt2⟩:=id hb;simp only at hc hdt hc2 hdt2;subst hc hdt hc2 hdt2;exact richCompare_meets_room (op:=.Lt) ⟨_,ho,rfl⟩ ⟨_,ho2,rfl⟩ PySem.F.slot_tuple_lt PySem.F.entry_tuple_lt (PySem.F.args_tuple_lt_2 _ _) (Oy n0 (RE n0) a b its.toArray its'.toArray n n2 dd dd2 sl sl2 t u (by omega))
   ⟨ho,ho2,by simpa using ht,by simpa using hu',hun,show Value.bool (Tr.lt t u)≠Value.notImplemented∧Q (.bool (Tr.lt t u)) s from⟨(fun x=>nomatch x),h⟩⟩ (by omega)
end
section
open PySem.AutoSeq1 (wpAny_loadPart')
open PySem.MeetsSeq PySem.MeetsSeq2 PySem.MeetsSeq3
def Uk(n0:Nat)(ih:∀(t u:Tr) (A:Around) (s:SD) (a b:AD) (its its':List VL),t.deep<n0→s.heap.IsTuple a its.toArray→Vs s.heap t its→s.heap.IsTuple b its'.toArray→Vs s.heap u its'→A.units+t.deep<cLine →
   ∀(prog:Program) (w:World) (E:VL→SD→Prop) (Q:VL→SD→Prop),Q (.bool (Tr.lt u t)) s→wpAny (model prog w) A (richCompare .Gt (.ref a) (.ref b)) Q E s)
 (l b:AD)(items items2:Array VL)(n n2:Nat)(dd dd2:Option AD)(sl sl2:Array (Option VL))(t u:Tr)(ht:t.deep≤n0) :
  Meets (Builtin.«tuple.__gt__» ⟨[.ref l,.ref b],[]⟩)
   (fun A R s=>s.heap.get? l=some { cls:=.type "tuple",dict:=dd,data:=.seq items n,slots:=sl }∧s.heap.get? b=some { cls:=.type "tuple",dict:=dd2,data:=.seq items2 n2,slots:=sl2 } ∧
    Vs s.heap t items.toList∧Vs s.heap u items2.toList∧A.units+t.deep<cLine∧R (.ok (.ret (.bool (Tr.lt u t)))) s) :=
 .of_wp fun prog w A R s h=>by
  obtain⟨hp,g,d,tk,os⟩:=s;obtain⟨hl,hb,hi,hj,hun,h⟩:=h;have f2:=AutoSeq1.sub_tuple_tuple;have z1:items.size=t.len:=by rw [←Vs.length hi];simp
  have z2:items2.size=u.len:=by rw [←Vs.length hj];simp
  wp_walk using wpAny_loadPart' hl,wpAny_loadPart' hb,wpAny_forIn_list _ (fun rest b s'=>b.1=none∧s'=⟨hp,g,d,tk,os⟩∧∃(vs ws:List VL) (t' u':Tr),rest=vs.zip ws ∧
   Vs hp t' vs∧Vs hp u' ws∧t'.deep≤t.deep∧t'.len+items2.size=u'.len+items.size∧R (.ok (.ret (.bool (Tr.lt u' t')))) ⟨hp,g,d,tk,os⟩) _
  case turn =>
   rintro⟨y,x⟩ rest b s' ⟨hb',rfl,vs,ws,t',u',hz,hvi,hwi,hdp,hlen,hR⟩;cases t' with
   |nil=>rw [Vs]at hvi;subst hvi;rw [List.zip_nil_left]at hz;cases hz
   |cons bt rt =>
    cases u' with
    |nil=>rw [Vs]at hwi;subst hwi;rw [List.zip_nil_right]at hz;cases hz
    |cons bu ru =>
     rw [Vs]at hvi hwi;obtain⟨a1,i1,v1,rfl,p1,p2,p3⟩:=hvi;obtain⟨a2,i2,v2,rfl,q1,q2,q3⟩:=hwi;rw [List.zip_cons_cons]at hz
     injection hz with hyx hrest
     injection hyx with hy hx
     subst hy hx;have hdd:(Tr.cons bt rt).deep=max (bt.deep+1) rt.deep:=rfl;rw [Tr.lt]at hR;simp only [Tr.len]at hlen;have he:=MY (s:=⟨hp,g,d,tk,os⟩) (A:=A.in1) p1 p2 q1 q2 (by rw [show A.in1.units=A.units+1 from rfl];omega);refine Wb (he prog w _ _ ?_);cases hc:decide (bt=bu) with
     |true =>
      rw [if_pos (aa hc).symm]at hR
      wp_walk
      exact⟨rfl,rfl,_,_,_,_,hrest,p3,q3,by omega,by omega,hR⟩
     |false =>
      rw [if_neg (fun z=>ax hc z.symm)]at hR;have hri:=ih bt bu A.in1 ⟨hp,g,d,tk,os⟩ a1 a2 i1 i2 (by omega) p1 p2 q1 q2 (by rw [show A.in1.units=A.units+1 from rfl];omega) prog w
      wp_walk using hri
      exact⟨_,rfl,by simpa using hR⟩
  case fin =>
   rintro⟨b1,b2⟩ s' ⟨hb',rfl,vs,ws,t',u',hz,hvi,hwi,hdp,hlen,hR⟩;simp only at hb';subst hb';have hv:Tr.lt u' t'=decide (items2.size<items.size):=by
    cases t' with
    |nil =>
     cases u' with
     |nil =>
      simp only [Tr.len]at hlen;exact(bC (by omega)).symm
     |cons c q =>
      simp only [Tr.len]at hlen;exact(bC (by omega)).symm
    |cons bt rt =>
     cases u' with
     |nil =>
      simp only [Tr.len]at hlen;exact(bP (by omega)).symm
     |cons c q =>
      rw [Vs]at hvi hwi;obtain⟨_,_,_,rfl,_⟩:=hvi;obtain⟨_,_,_,rfl,_⟩:=hwi;rw [List.zip_cons_cons]at hz;cases hz
   rw [hv]at hR
   wp_walk
   exact⟨_,rfl,by simpa [Builtin.Tuple.tupleCompareSizes]using hR⟩
  case h =>
   exact⟨rfl,rfl,items.toList,items2.toList,t,u,rfl,hi,hj,Nat.le_refl _,by omega,h⟩
def VP:∀(n0:Nat) (t u:Tr) (A:Around) (s:SD) (a b:AD) (its its':List VL),t.deep<n0→s.heap.IsTuple a its.toArray→Vs s.heap t its→s.heap.IsTuple b its'.toArray→Vs s.heap u its'→A.units+t.deep<cLine →
   ∀(prog:Program) (w:World) (E:VL→SD→Prop) (Q:VL→SD→Prop),Q (.bool (Tr.lt u t)) s→wpAny (model prog w) A (richCompare .Gt (.ref a) (.ref b)) Q E s
 |0,_,_,_,_,_,_,_,_,h,_,_,_,_,_=>absurd h (aT _)
 |n0+1,t,u,A,s,a,b,its,its',hd,hl,ht,hb,hu',hun=>fun prog w E Q h=>by
  obtain⟨⟨cls,dd,data,sl⟩,ho,hc,n,hdt⟩:=id hl;obtain⟨⟨cls2,dd2,data2,sl2⟩,ho2,hc2,n2,hdt2⟩:=id hb;simp only at hc hdt hc2 hdt2;subst hc hdt hc2 hdt2;exact richCompare_meets_room (op:=.Gt) ⟨_,ho,rfl⟩ ⟨_,ho2,rfl⟩ PySem.F.slot_tuple_gt PySem.F.entry_tuple_gt (PySem.F.args_tuple_gt_2 _ _) (Uk n0 (VP n0) a b its.toArray its'.toArray n n2 dd dd2 sl sl2 t u (by omega))
   ⟨ho,ho2,by simpa using ht,by simpa using hu',hun,show Value.bool (Tr.lt u t)≠Value.notImplemented∧Q (.bool (Tr.lt u t)) s from⟨(fun x=>nomatch x),h⟩⟩ (by omega)
end
end TH
namespace SM
open PySem.W PyProof.Rows
def Wp{α:Type}(lt:Nat→Nat→Bool)(n:Nat):KasT α→(α→Prop)→Prop
 |.ret a,Q=>Q a
 |.ask i j k,Q=>i<n∧j<n∧Wp lt n (k (lt i j)) Q
def Wp.mono{α:Type}{lt:Nat→Nat→Bool}{n:Nat}{Q Q':α→Prop}(hq:∀a,Q a→Q' a):∀t:KasT α,Wp lt n t Q→Wp lt n t Q'
 |.ret a,h=>hq a h
 |.ask i j k,h=>⟨h.1,h.2.1,Wp.mono hq (k (lt i j)) h.2.2⟩
def Wp.bind{α β:Type}{lt:Nat→Nat→Bool}{n:Nat}{f:α→KasT β}{Q:β→Prop}:∀t:KasT α,Wp lt n t (fun a=>Wp lt n (f a) Q)→Wp lt n (t.bind f) Q
 |.ret _,h=>h
 |.ask i j k,h=>⟨h.1,h.2.1,Wp.bind (k (lt i j)) h.2.2⟩
def GO{p:Array Nat}{i j:Nat}(hj:j≤p.size)(k:Nat):(kas_rev p i j).getD k 0=if i≤k∧k<j then p.getD (i+j-1-k) 0 else p.getD k 0:=by
 have e:=getElem?_mirror_all (i:=i) hj k;unfold kas_rev;rw [Array.getD_eq_getD_getElem?,Array.getD_eq_getD_getElem?,Array.getD_eq_getD_getElem?,e];split<;>rfl
def Pg{p:Array Nat}{src d:Nat}(hs:src<p.size)(hd:d≤src)(k:Nat) :
  (bubble p src d).getD k 0=if k=src-d then p.getD src 0 else if src-d<k∧k≤src then p.getD (k-1) 0 else p.getD k 0:=by
 have e:=getElem?_bubble hs d hd k;simp only [Array.getD_eq_getD_getElem?,e];split
 ·rfl
 ·split<;>rfl
section
variable{O:KeyOrd}{key:Nat→O.α}{n:Nat}
def Key(key:Nat→O.α)(p:Array Nat)(i:Nat):O.α:=key (p.getD i 0)
def Up(key:Nat→O.α)(p:Array Nat)(m:Nat):Prop:=∀i j,i≤j→j<m→O.kle (Key key p i) (Key key p j)
def Dn(key:Nat→O.α)(p:Array Nat)(m:Nat):Prop:=∀i j,i≤j→j<m→O.kle (Key key p j) (Key key p i)
structure Pm(n:Nat)(p:Array Nat):Prop where
 perm:p.Perm (List.toArray (List.range n))
 pos:0<n
def Pm.size{p:Array Nat}(h:Pm n p):p.size=n:=by rw [h.perm.size_eq];simp
def Pm.lt{p:Array Nat}(h:Pm n p)(i:Nat):p.getD i 0<n:=by
 rw [Array.getD_eq_getD_getElem?];by_cases hi:i<p.size
 ·rw [Array.getElem?_eq_getElem hi];have hm:p[i]∈p:=Array.getElem_mem hi;have:=(h.perm.mem_iff).mp hm
  simpa using this
 ·rw [Array.getElem?_eq_none (by omega)];exact h.pos
def Pm.rev{p:Array Nat}(h:Pm n p)(i j:Nat):Pm n (kas_rev p i j):=⟨(mirror_perm _ _ _ _).trans h.perm,h.pos⟩
def Pm.bubble{p:Array Nat}(h:Pm n p)(i j:Nat):Pm n (bubble p i j):=⟨(bubble_perm _ _ _).trans h.perm,h.pos⟩
abbrev EJ(key:Nat→O.α):Nat→Nat→Bool:=fun i j=>O.blt (key i) (key j)
def Up.one{p:Array Nat}:Up key p 1:=fun i j h1 h2=>by
 have:i=j:=by omega
 subst this;exact bJ _
def Up.more{p:Array Nat}{m:Nat}(h:Up key p m)(h1:1≤m)(hk:O.kle (Key key p (m-1)) (Key key p m)):Up key p (m+1):=fun i j hij hj=>by
 by_cases e:j=m
 ·subst e;by_cases e2:i=j
  ·subst e2;exact bJ _
  ·exact KeyOrd.kle_trans (h i (j-1) (by omega) (by omega)) hk
 ·exact h i j hij (by omega)
def Dn.more{p:Array Nat}{m:Nat}(h:Dn key p m)(h1:1≤m)(hk:O.kle (Key key p m) (Key key p (m-1))):Dn key p (m+1):=fun i j hij hj=>by
 by_cases e:j=m
 ·subst e;by_cases e2:i=j
  ·subst e2;exact bJ _
  ·exact KeyOrd.kle_trans hk (h i (j-1) (by omega) (by omega))
 ·exact h i j hij (by omega)
def asc{p:Array Nat}(hp:Pm n p):∀(f m:Nat),1≤m→Up key p m→Wp (EJ key) n (kas_asc p f m) fun r=>m≤r∧r≤m+f∧Up key p r∧(r=m+f∨O.klt (Key key p r) (Key key p (r-1)))
 |0,m,_,h=>⟨aE _,Nat.le_refl _,h,.inl rfl⟩
 |f+1,m,h1,h=>by
  refine⟨hp.lt _,hp.lt _,?_⟩;cases c:EJ key (p.getD m 0) (p.getD (m-1) 0) with
  |true=>exact⟨aE _,by omega,h,.inr c⟩
  |false =>
   simp only [Bool.false_eq_true,if_false];refine Wp.mono (fun r hr=>?_) _ (asc hp f (m+1) (by omega) (h.more h1 c));exact⟨by omega,by omega,hr.2.2.1,hr.2.2.2.elim (fun z=>.inl (by omega)) .inr⟩
def Eq(key:Nat→O.α)(p:Array Nat)(m q:Nat):Prop:=q<m∧∀k,m-(q+1)≤k→k<m→Key key p k=Key key p (m-1)
def rev_eq{p:Array Nat}{m q:Nat}(h:Eq key p m q)(hm:m≤p.size)(k:Nat):Key key (kas_rev p (m-(q+1)) m) k=Key key p k:=by
 unfold Key;rw [GO hm];split
 ·have a:=h.2 (m-(q+1)+m-1-k) (by have:=h.1;omega) (by have:=h.1;omega);have b:=h.2 k (by omega) (by omega);exact a.trans b.symm
 ·rfl
def desc:∀(f:Nat) (p:Array Nat) (m q:Nat),Pm n p→1≤m→m+f≤n→Dn key p m→Eq key p m q→Wp (EJ key) n (kas_desc f p m q) fun r=>Pm n r.1∧m≤r.2.1∧r.2.1≤m+f∧Dn key r.1 r.2.1∧Eq key r.1 r.2.1 r.2.2
 |0,p,m,q,hp,_,_,h,e=>⟨hp,Nat.le_refl _,Nat.le_refl _,h,e⟩
 |f+1,p,m,q,hp,h1,hf,h,e=>by
  refine⟨hp.lt _,hp.lt _,?_⟩;have hm:m≤p.size:=by rw [hp.size];omega
  cases c:EJ key (p.getD m 0) (p.getD (m-1) 0) with
  |true =>
   have ck:O.klt (Key key p m) (Key key p (m-1)):=c;simp only [if_true];have fin:∀p':Array Nat,Pm n p'→(∀k,Key key p' k=Key key p k)→Wp (EJ key) n (kas_desc f p' (m+1) 0) fun r=>Pm n r.1∧m≤r.2.1∧r.2.1≤m+(f+1)∧Dn key r.1 r.2.1∧Eq key r.1 r.2.1 r.2.2:=fun p' hp' hk=>by
    have hd:Dn key p' (m+1):=fun i j hij hj=>by rw [hk,hk];exact h.more h1 (KeyOrd.kle_of_klt ck) i j hij hj
    have he:Eq key p' (m+1) 0:=⟨by omega,fun k h1 h2=>by rw [show k=m+1-1 by omega]⟩;exact Wp.mono (fun r hr=>⟨hr.1,by omega,by omega,hr.2.2.2.1,hr.2.2.2.2⟩) _ (desc f p' (m+1) 0 hp' (by omega) (by omega) hd he)
   split
   ·exact fin _ (hp.rev _ _) (rev_eq e hm)
   ·exact fin _ hp fun _=>rfl
  |false =>
   simp only [Bool.false_eq_true,if_false];refine⟨hp.lt _,hp.lt _,?_⟩;cases d:EJ key (p.getD (m-1) 0) (p.getD m 0) with
   |true =>
    simp only [if_true];exact⟨hp,Nat.le_refl _,Nat.le_add_right _ _,h,e⟩
   |false =>
    simp only [Bool.false_eq_true,if_false];have ek:Key key p m=Key key p (m-1):=KeyOrd.kle_antisymm (show O.kle (Key key p m) (Key key p (m-1)) from d) (show O.kle (Key key p (m-1)) (Key key p m) from c);refine Wp.mono (fun r hr=>⟨hr.1,by omega,by omega,hr.2.2.2.1,hr.2.2.2.2⟩) _ (desc f p (m+1) (q+1) hp (by omega) (by omega) (h.more h1 (by rw [ek];exact bJ _)) ⟨by have:=e.1;omega,fun k h2 h3=>?_⟩);rw [show m+1-1=m by omega,ek];by_cases z:k=m
    ·rw [z,ek]
    ·exact e.2 k (by omega) (by omega)
def Yh{p:Array Nat}{m:Nat}(h:Dn key p m)(hm:m≤p.size):Up key (kas_rev p 0 m) m:=fun i j hij hj=>by
 unfold Key;rw [GO hm,GO hm,if_pos ⟨av _,by omega⟩,if_pos ⟨av _,by omega⟩];exact h (0+m-1-j) (0+m-1-i) (by omega) (by omega)
def tail3{p:Array Nat}{m:Nat}(hp:Pm n p)(h1:1≤m)(hm:m≤n)(h:Dn key p m):Wp (EJ key) n (kas_tail3 m n p) fun r=>Pm n r.2∧1≤r.1∧r.1≤n∧Up key r.2 r.1:=by
 unfold kas_tail3;refine Wp.bind _ (Wp.mono (fun r hr=>?_) _ (asc (hp.rev 0 m) (n-m) m h1 (Yh h (by rw [hp.size];exact hm))));exact⟨hp.rev 0 m,by omega,by omega,hr.2.2.1⟩
def descPart{p:Array Nat}{m:Nat}(hp:Pm n p)(h1:1≤m)(hm:m+1≤n)(h:Dn key p (m+1)):Wp (EJ key) n (kas_descPart m n p) fun r=>Pm n r.2∧1≤r.1∧r.1≤n∧Up key r.2 r.1:=by
 unfold kas_descPart;refine Wp.bind _ (Wp.mono (fun r hr=>?_) _ (desc (n-(m+1)) p (m+1) 0 hp (by omega) (by omega) h ⟨by omega,fun k h1 h2=>by rw [show k=m+1-1 by omega]⟩));obtain⟨a,b,c,d,e⟩:=hr;have hz:r.2.1≤r.1.size:=by rw [a.size];omega
 split
 ·refine tail3 (a.rev _ _) (by omega) (by omega) fun i j hij hj=>?_;rw [rev_eq e hz,rev_eq e hz];exact d i j hij hj
 ·exact tail3 a (by omega) (by omega) d
def count{p:Array Nat}(hp:Pm n p):Wp (EJ key) n (kas_count n p) fun r=>Pm n r.2∧1≤r.1∧r.1≤n∧Up key r.2 r.1:=by
 have hn:=hp.pos;unfold kas_count;refine Wp.bind _ (Wp.mono (fun m hm=>?_) _ (asc hp (n-1) 1 (aE _) Up.one));obtain⟨h1,h2,h3,h4⟩:=hm;split
 ·exact⟨hp,h1,by omega,h3⟩
 ·rename_i hne;have hne':m≠n:=by simpa using hne
  have hk:O.klt (Key key p m) (Key key p (m-1)):=by
   rcases h4 with z|z
   ·exact absurd (by omega) hne'
   ·exact z
  have hz:m≤p.size:=by rw [hp.size];omega
  split
  ·refine⟨hp.lt _,hp.lt _,?_⟩;cases c:EJ key (p.getD 0 0) (p.getD (m-1) 0) with
   |true=>simp only [if_true];exact⟨hp,h1,by omega,h3⟩
   |false =>
    simp only [Bool.false_eq_true,if_false];have all:∀k,k<m→Key key p k=Key key p (m-1):=fun k hk'=>KeyOrd.kle_antisymm (h3 k (m-1) (by omega) (by omega)) (KeyOrd.kle_trans (show O.kle (Key key p (m-1)) (Key key p 0) from c) (h3 0 k (by omega) hk'));have ek:∀k,Key key (kas_rev p 0 m) k=Key key p k:=fun k=>by
     by_cases hk':k<m
     ·have:Key key (kas_rev p 0 m) k=Key key p (0+m-1-k):=by
       unfold Key;rw [GO hz,if_pos ⟨av _,hk'⟩]
      rw [this,all _ (by omega),all k hk']
     ·unfold Key;rw [GO hz,if_neg (by omega)]
    refine descPart (hp.rev _ _) h1 (by omega) fun i j hij hj=>?_;rw [ek,ek];by_cases e:j=m
    ·subst e;by_cases e2:i=j
     ·subst e2;exact bJ _
     ·rw [all i (by omega)];exact KeyOrd.kle_of_klt hk
    ·rw [all i (by omega),all j (by omega)];exact bJ _
  ·have:m=1:=by omega
   subst this;refine descPart hp h1 (by omega) fun i j hij hj=>?_;by_cases e:i=j
   ·subst e;exact bJ _
   ·rw [show i=0 by omega,show j=1 by omega];exact KeyOrd.kle_of_klt hk
def place{p:Array Nat}{k:Nat}(hp:Pm n p)(hs:Up key p k):∀(f l r:Nat),l≤r→r≤k→r-l≤f→(∀i,i<l→O.kle (Key key p i) (Key key p k))→(∀i,r≤i→i<k→O.klt (Key key p k) (Key key p i)) →
  Wp (EJ key) n (kas_place p k f l r) fun x=>x≤k∧(∀i,i<x→O.kle (Key key p i) (Key key p k))∧∀i,x≤i→i<k→O.klt (Key key p k) (Key key p i)
 |0,l,r,h1,h2,h3,a,b=>by
  have:l=r:=by omega
  subst this;exact⟨h2,a,b⟩
 |f+1,l,r,h1,h2,h3,a,b=>by
  unfold kas_place;split
  ·have:l=r:=by omega
   subst this;exact⟨h2,a,b⟩
  ·refine⟨hp.lt _,hp.lt _,?_⟩;cases c:EJ key (p.getD k 0) (p.getD ((l+r) / 2) 0) with
   |true =>
    simp only [if_true];exact place hp hs f l ((l+r) / 2) (by omega) (by omega) (by omega) a fun i x1 x2=>KeyOrd.klt_of_klt_of_kle (show O.klt (Key key p k) (Key key p ((l+r) / 2)) from c) (hs _ _ x1 x2)
   |false =>
    simp only [Bool.false_eq_true,if_false];exact place hp hs f ((l+r) / 2+1) r (by omega) h2 (by omega) (fun i x1=>KeyOrd.kle_trans (hs i ((l+r) / 2) (by omega) (by omega)) (show O.kle (Key key p ((l+r) / 2)) (Key key p k) from c)) b
def bin:∀(f:Nat) (p:Array Nat) (k:Nat),Pm n p→1≤k→k+f=n→Up key p k→Wp (EJ key) n (kas_bin f p k) fun r=>Pm n r∧Up key r n
 |0,p,k,hp,_,hk,h=>by
  have:k=n:=by omega
  subst this;exact⟨hp,h⟩
 |f+1,p,k,hp,h1,hk,h=>by
  have hks:k<p.size:=by rw [hp.size];omega
  refine Wp.bind _ (Wp.mono (fun l hl=>?_) _ (place hp h k 0 k (av _) (aE _) (by omega) (fun i z=>absurd z (by omega)) fun i z1 z2=>absurd z1 (by omega)));obtain⟨hlk,hlo,hhi⟩:=hl;refine bin f _ (k+1) (hp.bubble _ _) (by omega) (by omega) fun i j hij hj=>?_;have kb:∀x,Key key (PyProof.Rows.bubble p k (k-l)) x=if x=l then Key key p k else if l<x∧x≤k then Key key p (x-1) else Key key p x:=fun x=>by
   unfold Key;rw [Pg hks (by omega),show k-(k-l)=l by omega];split
   ·rfl
   ·split<;>rfl
  rw [kb,kb]
  repeat' split
  all_goals first
   |(exfalso;omega)
   |exact bJ _
   |exact hlo _ (by omega)
   |exact KeyOrd.kle_of_klt (hhi _ (by omega) (by omega))
   |exact h _ _ (by omega) (by omega)
def sort(hn:0<n):Wp (EJ key) n (kas_sort n) fun p=>Pm n p∧Up key p n:=by
 have hp:Pm n (List.toArray (List.range n)):=⟨Array.Perm.refl _,hn⟩;unfold kas_sort;refine Wp.bind _ (Wp.mono (fun r hr=>?_) _ (count hp));obtain⟨a,b,c,d⟩:=hr;split
 ·rw [show max r.1 1=r.1 by omega];exact bin _ _ _ a b (by omega) d
 ·have:r.1=n:=by omega
  rw [this]at d;exact⟨a,d⟩
end
end SM
namespace Tr
def LB(x:Tr):∀l:List Tr,(ins x l).Perm (x::l)
 |[]=>.refl _
 |y::r=>by
  rw [ins];split
  ·exact((LB x r).cons y).trans (.swap x y r)
  ·exact .refl _
def Gp:∀l:List Tr,(Be l).Perm l
 |[]=>.refl _
 |x::r=>by
  rw [Be];exact(LB x (Be r)).trans ((Gp r).cons x)
abbrev Mg(l:List Tr):Prop:=l.Pairwise fun a b=>lt a b=false
def PY(x:Tr):∀l:List Tr,Mg l→Mg (ins x l)
 |[],_=>List.pairwise_singleton _ _
 |y::r,h=>by
  obtain⟨h1,h2⟩:=List.pairwise_cons.mp h;rw [ins];split
  ·rename_i c;refine List.pairwise_cons.mpr ⟨fun z hz=>?_,PY x r h2⟩;rcases aL.mp ((LB x r).mem_iff.mp hz) with rfl|hz
   ·exact lt_asymm c
   ·exact h1 z hz
  ·rename_i c;have c':lt x y=false:=by simpa using c
   refine List.pairwise_cons.mpr ⟨fun z hz=>?_,h⟩;rcases aL.mp hz with rfl|hz
   ·exact c'
   ·cases e:lt x z with
    |false=>rfl
    |true =>
     rcases KS x y z e with q|q
     ·rw [c']at q;cases q
     ·rw [h1 z hz]at q;cases q
def Gh:∀l:List Tr,Mg (Be l)
 |[]=>List.Pairwise.nil
 |x::r=>by rw [Be];exact PY x _ (Gh r)
def HI:∀ {l m:List Tr},Mg l→Mg m→l.Perm m→l=m
 |[],m,_,_,p=>(List.nil_perm.mp p).symm
 |x::r,[],_,_,p=>absurd p.length_eq (by simp)
 |x::r,y::q,h1,h2,p=>by
  obtain⟨a1,a2⟩:=List.pairwise_cons.mp h1;obtain⟨b1,b2⟩:=List.pairwise_cons.mp h2;have hx:x∈y::q:=p.mem_iff.mp aR;have hy:y∈x::r:=p.mem_iff.mpr aR;have e:x=y:=by
   rcases aL.mp hx with e|hx
   ·exact e
   ·rcases aL.mp hy with e|hy
    ·exact e.symm
    ·exact GW x y (a1 y hy) (b1 x hx)
  subst e;rw [HI a2 b2 (List.Perm.cons_inv p)]
def SG{l m:List Tr}(h:Mg m)(p:m.Perm l):m=Be l:=HI h (Gh l) (p.trans (Gp l).symm)
def RJ{l m:List Tr}(h:m.Pairwise fun a b=>lt b a=false)(p:m.Perm l):m=(Be l).reverse:=by
 have:m.reverse=Be l:=SG (List.pairwise_reverse.mpr h) ((List.reverse_perm m).trans p);rw [←this,List.reverse_reverse]
def Jz(n:Nat):∀l:List Tr,(of l).deep≤n ↔ ∀c∈l,c.deep+1≤n
 |[]=>by simp [of,deep]
 |b::r=>by
  rw [of,deep,List.forall_mem_cons,←Jz n r];omega
def Sj{l m:List Tr}(p:l.Perm m):(of l).deep≤(of m).deep:=(Jz _ l).mpr fun c hc=>(Jz _ m).mp (aE _) c (p.mem_iff.mp hc)
def UK(t:Tr):(of t.bs.reverse).deep≤t.deep:=by
 have:=Sj (List.reverse_perm t.bs)
 rwa [Nm]at this
def ord:PyProof.Rows.KeyOrd where
 α:=Tr
 blt:=lt
 irrefl:=lt_irrefl
 trans:=lt_trans
 negTrans:=KS
 total:=GW
end Tr
namespace TH
open PySem PySem.W PyProof.Rows PySem.SeqAt
def Vs.at{h:Heap}:∀ {t:Tr} {us:List VL} {i:Nat},Vs h t us→i<us.length→∃(a:AD) (its:List VL) (c:Tr),us.getD i Value.none=.ref a∧h.IsTuple a its.toArray∧Vs h c its∧t.bs[i]? = some c∧c.deep<t.deep
 |.nil,us,i,e,hi=>by rw [Vs]at e;subst e;exact absurd hi (aT _)
 |.cons b r,us,i,e,hi=>by
  rw [Vs]at e;obtain⟨a,its,rest,rfl,h1,h2,h3⟩:=e;have hd:(Tr.cons b r).deep=max (b.deep+1) r.deep:=rfl;cases i with
  |zero=>exact⟨a,its,b,rfl,h1,h2,rfl,by omega⟩
  |succ i =>
   obtain⟨a',its',c,q1,q2,q3,q4,q5⟩:=Vs.at (i:=i) h3 (by simpa using hi);exact⟨a',its',c,by simpa using q1,q2,q3,by simpa [Tr.bs]using q4,by omega⟩
def Vs.JI{h:Heap}:∀(ts:List Tr) (us:List VL),us.length=ts.length→(∀i,i<ts.length→∃(a:AD) (its:List VL) (c:Tr),us[i]? = some (.ref a)∧h.IsTuple a its.toArray∧Vs h c its∧ts[i]? = some c)→Vs h (Tr.of ts) us
 |[],us,hl,_=>by
  rw [Tr.of,Vs];exact List.eq_nil_of_length_eq_zero (by simpa using hl)
 |t::ts,[],hl,_=>by simp at hl
 |t::ts,u::us,hl,h=>by
  rw [Tr.of,Vs];obtain⟨a,its,c,e1,e2,e3,e4⟩:=h 0 (by simp);simp at e1 e4;subst e1 e4;refine⟨a,its,us,rfl,e2,e3,Vs.JI ts us (by simpa using hl) fun i hi=>?_⟩;obtain⟨a',its',c',q1,q2,q3,q4⟩:=h (i+1) (by simpa using hi);exact⟨a',its',c',by simpa using q1,q2,q3,by simpa using q4⟩
def Vs.all{h:Heap}{t:Tr}{us:List VL}(e:Vs h t us):∀i,i<t.bs.length→∃(a:AD) (its:List VL) (c:Tr),us[i]? = some (.ref a)∧h.IsTuple a its.toArray∧Vs h c its∧t.bs[i]? = some c:=fun i hi=>by
 have hl:i<us.length:=by rw [Vs.length e,←Tr.Dc];exact hi
 obtain⟨a,its,c,q1,q2,q3,q4,_⟩:=e.at hl;refine⟨a,its,c,?_,q2,q3,q4⟩;rw [List.getD_eq_getElem?_getD,List.getElem?_eq_getElem hl]at q1;rw [List.getElem?_eq_getElem hl]
 simpa using q1
section
variable{prog:Program}{w:World}{A:Around}{E:VL→SD→Prop}{s:SD}{t u:Tr}{a b:AD}{its its':List VL}{Q:Bool→SD→Prop}
def P8(h1:s.heap.IsTuple a its.toArray)(k1:Vs s.heap t its)(h2:s.heap.IsTuple b its'.toArray)(k2:Vs s.heap u its')(hu:A.units+t.deep<cLine)(h:Q (Tr.lt t u) s):wpAny (model prog w) A (oneLt' false (.ref a) (.ref b)) Q E s:=by
 rw [oneLt'_eq];simp only [Bool.false_eq_true,if_false];exact Wb (RE (t.deep+1) t u A s a b its its' (bO _) h1 k1 h2 k2 hu prog w E _ (wpAny_truthy_bool h))
def WX(h1:s.heap.IsTuple a its.toArray)(k1:Vs s.heap t its)(h2:s.heap.IsTuple b its'.toArray)(k2:Vs s.heap u its')(hu:A.units+t.deep<cLine)(h:Q (Tr.lt t u) s):wpAny (model prog w) A (oneLt' true (.ref a) (.ref b)) Q E s:=by
 rw [oneLt'_eq];simp only [if_true];refine Wb (wpAny_cRoomFor (by omega) ?_);obtain⟨⟨cls,dd,data,sl⟩,ho,hc,n,hdt⟩:=id h1;obtain⟨⟨cls2,dd2,data2,sl2⟩,ho2,hc2,n2,hdt2⟩:=id h2;simp only at hc hdt hc2 hdt2;subst hc hdt hc2 hdt2;refine Wb (wpAny_callSpecialIfBound?_slot (T := "tuple") ⟨_,ho,rfl⟩ PySem.F.slot_tuple_lt (call_meets PySem.F.slot_tuple_lt ⟨_,ho,rfl⟩ PySem.F.entry_tuple_lt (PySem.F.args_tuple_lt_2 _ _)
  (Oy t.deep (RE t.deep) a b its.toArray its'.toArray n n2 dd dd2 sl sl2 t u (aE _)) ⟨ho,ho2,by simpa using k1,by simpa using k2,hu,?_⟩))
 exact wpAny_truthy_bool h
def Qn:∀(t u:Tr) (us vs:List VL) (i:Nat),Vs s.heap t us→Vs s.heap u vs→A.units+t.deep≤cLine→Q (Tr.lt t u) s→KatLex prog w A false (decide (t.len<u.len)) Q (us.zip vs) i s
 |.nil,.nil,us,vs,i,e,f,_,h=>by
  rw [Vs]at e;subst e;rw [List.zip_nil_left];exact kat_nil h
 |.nil,.cons c q,us,vs,i,e,f,_,h=>by
  rw [Vs]at e;subst e;rw [List.zip_nil_left];refine kat_nil ?_;rw [show decide (Tr.nil.len<(Tr.cons c q).len)=true from bP (Nat.zero_lt_succ _)];exact h
 |.cons b r,.nil,us,vs,i,e,f,_,h=>by
  rw [Vs]at f;subst f;rw [List.zip_nil_right];refine kat_nil ?_;rw [show decide ((Tr.cons b r).len<Tr.nil.len)=false from bC (aT _)];exact h
 |.cons b r,.cons c q,us,vs,i,e,f,hu,h=>by
  rw [Vs]at e f;obtain⟨a,its,rest,rfl,k1,k2,k3⟩:=e;obtain⟨a',its',rest',rfl,l1,l2,l3⟩:=f;have hd:(Tr.cons b r).deep=max (b.deep+1) r.deep:=rfl;rw [List.zip_cons_cons,show decide ((Tr.cons b r).len<(Tr.cons c q).len)=decide (r.len<q.len) from by simp [Tr.len]];rw [Tr.lt]at h;refine kat_cons (MY k1 k2 l1 l2 (by omega) prog w _ _ ?_);by_cases hbc:b=c
  ·rw [decide_eq_true hbc];rw [if_pos hbc]at h;exact kat_yes (Qn r q rest rest' (i+1) k3 l3 (by omega) h)
  ·rw [decide_eq_false hbc];rw [if_neg hbc]at h;exact kat_no (by rw [Bool.false_and];exact P8 k1 k2 l1 l2 (by omega) h)
def We(h1:s.heap.IsTuple a its.toArray)(k1:Vs s.heap t its)(h2:s.heap.IsTuple b its'.toArray)(k2:Vs s.heap u its')(hu:A.units+t.deep<cLine)(h:Q (Tr.lt t u) s):wpAny (model prog w) A (keyLt' (tuples' false) (.ref a) (.ref b)) Q E s:=by
 obtain⟨o,ho,hc,n,hd⟩:=id h1;obtain⟨o2,ho2,hc2,n2,hd2⟩:=id h2;refine kat_lt ho hd ho2 hd2 ?_;have z1:its.toArray.size=t.len:=by rw [←Vs.length k1];simp
 have z2:its'.toArray.size=u.len:=by rw [←Vs.length k2];simp
 rw [z1,z2];exact Qn t u its its' 0 k1 k2 (by omega) h
def Pb(κ:SortKind):Prop:=κ=general'∨κ=oneType'∨κ=tuples' false
def Wf{κ:SortKind}(hκ:Pb κ)(h1:s.heap.IsTuple a its.toArray)(k1:Vs s.heap t its)(h2:s.heap.IsTuple b its'.toArray)(k2:Vs s.heap u its')(hu:A.units+t.deep<cLine)(h:Q (Tr.lt t u) s):wpAny (model prog w) A (keyLt' κ (.ref a) (.ref b)) Q E s:=by
 rcases hκ with rfl|rfl|rfl
 ·exact P8 h1 k1 h2 k2 hu h
 ·rw [keyLt'_oneType];exact WX h1 k1 h2 k2 hu h
 ·exact We h1 k1 h2 k2 hu h
def KO{M:Model}{h:Heap}{a:AD}{x:Array VL}(h1:h.IsTuple a x):Looks M h (typeOf (.ref a)) (.type "tuple"):=by
 obtain⟨o,ho,hc,_⟩:=h1;exact hc ▸ (Looks.ld ho).andThen .now
def NH{M:Model}:∀(t:Tr) (us:List VL) {Q:List (Option VL)→SD→Prop},Vs s.heap t us→(∀fs:List (Option VL),(∀v,some v∈fs→Looks M s.heap (typeOf v) (.type "tuple"))→Q fs s)→wpAny M A (us.mapM firstOfTuple') Q E s
 |.nil,us,Q,e,h=>by
  rw [Vs]at e;subst e;rw [List.mapM_nil];exact aA (h [] fun _ z=>by cases z)
 |.cons b r,us,Q,e,h=>by
  rw [Vs]at e;obtain⟨a,its,rest,rfl,h1,h2,h3⟩:=e;obtain⟨o,ho,hc,n,hd⟩:=id h1;rw [List.mapM_cons];refine Wb ?_;rw [kas_first_eq];refine Wb (Looks.here (show Looks M s.heap (typeOf (.ref a)) o.cls from(Looks.ld ho).andThen .now) ?_);rw [hc,if_neg (by first|decide|simp)];refine Wb (listItems_at ho hd (aA ?_));refine Wb (NH r rest (Q:=fun bs s'=>wpAny M A (pure (its.toArray[0]? :: bs)) Q E s') h3 fun fs hfs=>aA (h _ fun v hv=>?_));rcases aL.mp hv with z|z
  ·cases b with
   |nil=>rw [Vs]at h2;subst h2;simp at z
   |cons c q =>
    rw [Vs]at h2;obtain⟨a',its',rest',rfl,k1,_⟩:=h2;simp at z;subst z;exact KO k1
  ·exact hfs v z
def QP{M:Model}{vs:List VL}{Q:Option VL→SD→Prop}(hT:∀v∈vs,Looks M s.heap (typeOf v) (.type "tuple"))(h0:vs=[]→Q none s)(h1:Q (some (.type "tuple")) s):wpAny M A (oneTypeOnly' vs.toArray) Q E s:=by
 rw [oneTypeOnly'_eq,List.mapM_toArray,map_eq_pure_bind];refine Wb (Wb (kas_mapM (r:=Value.type "tuple") _ (fun v hv Q' hq=>(hT v hv).here hq) (aA ?_)));cases vs with
 |nil=>exact aA (h0 rfl)
 |cons f r =>
  have hall:((List.map (fun _=>Value.type "tuple") (f::r)).toArray.all fun x=>x==Value.type "tuple")=true:=by
   simp only [List.all_toArray,List.all_map,List.all_eq_true];intro _ _
   rfl
  have e0:(List.map (fun _=>Value.type "tuple") (f::r)).toArray[0]? = some (Value.type "tuple"):=by simp
  rw [e0];simp only [hall,if_true];exact aA h1
def Vl{M:Model}{t:Tr}{us:List VL}{Q:SortKind→SD→Prop}(e:Vs s.heap t us)(h:∀κ,Pb κ→Q κ s):wpAny M A (keyKind' us.toArray) Q E s:=by
 rw [kat_kind_eq,List.mapM_toArray,map_eq_pure_bind];refine Wb (Wb (NH t us e fun fs hfs=>aA ?_));split
 ·refine Wb (wpAny_rule ?_);have e1:fs.toArray.filterMap id=(fs.filterMap id).toArray:=by simp
  rw [e1];have hl:∀v∈fs.filterMap id,Looks M s.heap (typeOf v) (.type "tuple"):=fun v hv=>hfs v (by simpa using hv);refine Wb (QP hl (fun _=>?_) ?_)
  ·exact aA (h _ (.inr (.inr rfl)))
  ·exact aA (h _ (.inr (.inr rfl)))
 ·split
  ·exact aA (h _ (.inl rfl))
  ·have hl:∀v∈us,Looks M s.heap (typeOf v) (.type "tuple"):=fun v hv=>by
    obtain⟨i,hi,rfl⟩:=List.getElem_of_mem hv;obtain⟨a,its,c,q1,q2,_⟩:=e.at hi;rw [List.getD_eq_getElem?_getD,List.getElem?_eq_getElem hi]at q1;simp at q1;rw [q1];exact KO q2
   refine Wb (QP hl (fun _=>?_) ?_)
   ·exact aA (h _ (.inl rfl))
   ·exact aA (h _ (.inr (.inl rfl)))
def Oj{α:Type}{cmp:Nat→Nat→(Bool→SD→Prop)→SD→Prop}{lt:Nat→Nat→Bool}{n:Nat}{Q':α→Prop}(hc:∀i j C,i<n→j<n→C (lt i j) s→cmp i j C s):∀T:KasT α,SM.Wp lt n T Q'→T.kasWp cmp (fun a s'=>s'=s∧Q' a) s
 |.ret a,h=>⟨rfl,h⟩
 |.ask i j k,h=>hc i j _ h.1 h.2.1 (Oj hc (k (lt i j)) h.2.2)
end
end TH
namespace TH
open PySem PySem.W PyProof.Rows PySem.SeqAt
def Vs.keeps{h h':Heap}(k:∀b o,h.get? b=some o→o.cls=.type "tuple" → h'.get? b=some o):∀ {t:Tr} {us:List VL},Vs h t us→Vs h' t us
 |.nil,us,e=>by rw [Vs]at e ⊢;exact e
 |.cons b r,us,e=>by
  rw [Vs]at e ⊢;obtain⟨a,its,rest,rfl,⟨o,ho,hc,hd⟩,h2,h3⟩:=e;exact⟨a,its,rest,rfl,⟨o,k _ _ ho hc,hc,hd⟩,h2.keeps k,h3.keeps k⟩
def map_getD{α:Type}(d:α)(l:List α):(List.range l.length).map (fun i=>l.getD i d)=l:=by
 refine List.ext_getElem (by simp) fun i h1 h2=>?_;simp [h2]
def Vs.rev{h:Heap}{t:Tr}{us:List VL}(e:Vs h t us):Vs h (Tr.of t.bs.reverse) us.reverse:=by
 have hl:us.length=t.bs.length:=by rw [e.length,Tr.Dc]
 refine Vs.JI _ _ (by simp [hl]) fun i hi=>?_;rw [List.length_reverse]at hi;obtain⟨a,its,c,q1,q2,q3,q4⟩:=e.all (t.bs.length-1-i) (by omega);exact⟨a,its,c,by rw [List.getElem?_reverse (by omega),hl];exact q1,q2,q3,by rw [List.getElem?_reverse hi];exact q4⟩
section
variable{prog:Program}{w:World}{A:Around}{E:VL→SD→Prop}{s:SD}
def T5{κ:SortKind}{t:Tr}{ws:List VL}(hκ:Pb κ)(e:Vs s.heap t ws)(h2:2≤ws.length)(h64:ws.length<64)(hu:A.units+t.deep≤cLine) :
  wpAny (model prog w) A ((sortRuns').run (SortSt.mk' κ (ws.toArray.zip ws.toArray) #[] 7 none)) (fun r s'=>s'=s∧failedOf r.2=none∧∃ix:List Nat,ix.length=ws.length∧(∀i∈ix,i<ws.length) ∧
   (arrOf r.2).map (·.2)=(ix.map fun i=>ws.getD i Value.none).toArray∧(ix.map fun i=>t.bs.getD i .nil)=(Tr.Be t.bs).reverse) E s:=by
 have hl:ws.length=t.bs.length:=by rw [e.length,Tr.Dc]
 have key:∀i,i<ws.length→∃(a:AD) (its:List VL),ws.getD i Value.none=.ref a∧s.heap.IsTuple a its.toArray∧Vs s.heap (t.bs.getD i .nil) its∧(t.bs.getD i .nil).deep<t.deep:=fun i hi=>by
  obtain⟨a,its,c,q1,q2,q3,q4,q5⟩:=e.at hi;have:t.bs.getD i .nil=c:=by rw [List.getD_eq_getElem?_getD,q4];rfl
  rw [this];exact⟨a,its,q1,q2,q3,q5⟩
 refine kat_run (Q:=fun st' s'=>s'=s∧failedOf st'=none∧∃ix:List Nat,ix.length=ws.length∧(∀i∈ix,i<ws.length)∧(arrOf st').map (·.2)=(ix.map fun i=>ws.getD i Value.none).toArray∧(ix.map fun i=>t.bs.getD i .nil)=(Tr.Be t.bs).reverse)
  (G:=fun p s'=>s'=s∧SM.Pm ws.length p∧SM.Up (O:=Tr.ord) (fun i=>t.bs.getD i .nil) p ws.length) rfl h2 h64 (fun p st' s' hp har hf hG=>?_)
  (Oj (lt:=SM.EJ (O:=Tr.ord) fun i=>t.bs.getD i .nil) (n:=ws.length) (fun i j C hi hj hC=>?_) _ (SM.sort (by omega)))
 ·obtain⟨rfl,hpm,hup⟩:=hG;have h1:p.toList.Perm (List.range ws.length):=by simpa using Array.perm_iff_toList_perm.mp hpm.perm
  refine⟨rfl,hf,p.toList,by rw [Array.length_toList,hp],fun i hi=>ay.mp (h1.mem_iff.mp hi),kat_snds rfl har,?_⟩;have perm:(p.toList.map fun i=>t.bs.getD i .nil).Perm t.bs:=by
   have h3:=h1.map fun i=>t.bs.getD i Tr.nil
   rwa [hl,map_getD]at h3
  refine Tr.RJ (List.pairwise_iff_getElem.mpr fun i j hi hj hij=>?_) perm;rw [List.length_map,Array.length_toList,hp]at hi hj;have:=hup i j (by omega) hj;have e1:∀k,k<ws.length→∀hk,(p.toList.map fun i=>t.bs.getD i Tr.nil)[k]'hk=t.bs.getD (p.getD k 0) .nil:=fun k hk hk'=>by
   rw [List.getElem_map,Array.getElem_toList,Array.getD,dif_pos (by omega)]
   rfl
  rw [e1 i hi,e1 j hj];exact this
 ·obtain⟨a,its,q1,q2,q3,q4⟩:=key i hi;obtain⟨a',its',r1,r2,r3,r4⟩:=key j hj;unfold kas_ask;rw [q1,r1];exact Wf hκ q2 q3 r2 r3 (by omega) hC
def SE(b:Bool)(us:List VL)(hz:us.length<2):(if b=true then((if b=true then(us.toArray.zip us.toArray).reverse else us.toArray.zip us.toArray).map (·.2)).reverse else(if b=true then(us.toArray.zip us.toArray).reverse else us.toArray.zip us.toArray).map (·.2))=us.toArray:=by
 match us,hz with
 |[],_=>cases b<;>simp
 |[x],_=>cases b<;>simp
def PQ{a : AD}{us : List VL}{t : Tr}{n : Nat}{b : Bool}{P : PySem.Fin→SD→Prop}(ho : s.heap.get? a = some (seqObj "list" us.toArray n))(e : Vs s.heap t us)(h64 : us.length < 64)(hu : A.units + t.deep≤cLine)
 (h : ∀ ix : List Nat,ix.length = us.length→(∀ i∈ix,i < us.length)→(ix.map fun i => t.bs.getD i .nil) = (if b then Tr.Be t.bs else (Tr.Be t.bs).reverse)→P (.done (.ret .none)) { s with heap:=sortedHeap s.heap a us (ix.map fun i => us.getD i Value.none).toArray }) :
    wpAny (model prog w) A (Builtin.«list.sort» ⟨[.ref a],[(Str.ofString "reverse",.bool b)]⟩) P E s := by
  rw [list_sort_rev]
  have ha : a < s.heap.objs.size:=aF ho
  refine Wb (listItems_at ho rfl ?_)
  refine Wb (listUpdate_at ho rfl ?_ (by rw [List.size_toArray,sizeLine_eq]; omega) (av _))
  obtain ⟨e1,ho1⟩ : ∃ e1,(s.heap.update a (Obj.mapSeq fun _ => #[])).get? a = some (seqObj "list" #[] e1):=⟨_,get?_update_seq ho (fun _ => #[])⟩
  refine Wb (seqEpoch_at ho1 rfl ?_)
  refine Wb (wpAny_newTuple ?_ (by show us.length≤_; rw [sizeLine_eq]; omega))
  refine Wb (wpAny_newList ?_ (av _))
  refine aV ?_
  have ho6 : (((s.heap.update a (Obj.mapSeq fun _ => #[])).push (seqObj "tuple" us.toArray 0)).push (seqObj "list" #[] 0)).get? a = some (seqObj "list" #[] e1) := by
    rw [Heap.get?_push_ne _ _ _ (by rw [size_push',Heap.size_update]; exact aK (bM ha)),Heap.get?_push_ne _ _ _ (by rw [Heap.size_update]; exact aK ha)]
    exact ho1
  have keep : ∀ c o,s.heap.get? c = some o→o.cls = .type "tuple" → (((s.heap.update a (Obj.mapSeq fun _ => #[])).push (seqObj "tuple" us.toArray 0)).push (seqObj "list" #[] 0)).get? c = some o:=fun c o hc hcl => by
    have hne : c≠a:=fun z => by
      rw [z,ho] at hc
      cases hc
      exact absurd (show Value.type "list" = Value.type "tuple" from hcl) (by decide)
    refine aC _ (aC _ ?_)
    rw [Heap.get?_update_ne _ _ _ _ hne]
    exact hc
  show wpAny (model prog w) A _ P E { s with heap:=((s.heap.update a (Obj.mapSeq fun _ => #[])).push (seqObj "tuple" us.toArray 0)).push (seqObj "list" #[] 0) }
  have e6:=e.keeps keep
  dsimp only
  have step : ∀ T : Sem PySem.Fin,wpAny (model prog w) A T P E { s with heap:=((s.heap.update a (Obj.mapSeq fun _ => #[])).push (seqObj "tuple" us.toArray 0)).push (seqObj "list" #[] 0) } →
      wpAny (model prog w) A (if b = true then (do let _ ← rule "list.sort.reverse"; T) else T) P E { s with heap:=((s.heap.update a (Obj.mapSeq fun _ => #[])).push (seqObj "tuple" us.toArray 0)).push (seqObj "list" #[] 0) } := by
    intro T hT
    split
    · exact Wb (wpAny_rule hT)
    · exact hT
  refine step _ ?_
  by_cases h2 : us.toArray.size < 2
  · rw [if_pos h2,if_pos h2]
    refine Wb (aA ?_)
    rw [StateT.run_pure]
    refine Wb (aA ?_)
    dsimp only
    have hz : us.length < 2 := by simpa using h2
    have hout:=SE b us hz
    refine Wb (seqEpoch_at ho6 rfl ?_)
    refine Wb (listUpdate_at ho6 rfl ?_ (av _) (by
      refine aM (Nat.le_of_eq (bG Array.size hout)) ?_
      rw [List.size_toArray,sizeLine_eq]; omega))
    simp only [bne_self_eq_false,Bool.false_eq_true,if_false]
    have hl : us.length = t.bs.length := by rw [e.length,Tr.Dc]
    have fin:=h (List.range us.length) (by simp) (fun i hi => ay.mp hi) (by
      rw [hl,map_getD]
      match hbs : t.bs,(show t.bs.length < 2 by omega) with
      | [],_ => cases b <;> rfl
      | [_],_ => cases b <;> rfl)
    rw [map_getD] at fin
    rw [← hout] at fin
    exact aA fin
  · rw [if_neg h2,if_neg h2]
    have hz : 2≤us.length := by simpa using h2
    refine Wb (Vl (s:={ s with heap:=((s.heap.update a (Obj.mapSeq fun _ => #[])).push (seqObj "tuple" us.toArray 0)).push (seqObj "list" #[] 0) }) e6 fun κ hκ => ?_)
    have hl : us.length = t.bs.length := by rw [e.length,Tr.Dc]
    obtain ⟨ws,tw,ew,hwl,hws,hdp,pick⟩ : ∃ (ws : List VL) (tw : Tr),Vs (((s.heap.update a (Obj.mapSeq fun _ => #[])).push (seqObj "tuple" us.toArray 0)).push (seqObj "list" #[] 0)) tw ws∧ws.length = us.length ∧
        (if b = true then (us.toArray.zip us.toArray).reverse else us.toArray.zip us.toArray) = ws.toArray.zip ws.toArray∧tw.deep≤t.deep ∧
        ∀ (_b : Bool) (ix : List Nat),ix.length = ws.length→(∀ i∈ix,i < ws.length)→(ix.map fun i => tw.bs.getD i .nil) = (Tr.Be tw.bs).reverse→∃ iy : List Nat,iy.length = us.length∧(∀ i∈iy,i < us.length)∧(iy.map fun i => t.bs.getD i .nil) = (if b then Tr.Be t.bs else (Tr.Be t.bs).reverse) ∧
          (if b = true then ((ix.map fun i => ws.getD i Value.none).toArray).reverse else (ix.map fun i => ws.getD i Value.none).toArray) = (iy.map fun i => us.getD i Value.none).toArray := by
      cases b with
      | false => exact ⟨us,t,e6,rfl,rfl,Nat.le_refl _,fun _ ix h1 h2 h3 => ⟨ix,h1,h2,h3,rfl⟩⟩
      | true =>
        have hsrt : Tr.Be t.bs.reverse = Tr.Be t.bs:=Tr.SG (Tr.Gh _) ((Tr.Gp _).trans (List.reverse_perm _))
        refine ⟨us.reverse,Tr.of t.bs.reverse,e6.rev,by simp,kat_pairs (ks:=us) (vs:=us) true rfl,Tr.UK t,fun _ ix h1 h2 h3 => ⟨(ix.map fun i => us.length - 1 - i).reverse,by simpa using h1,fun i hi => ?_,?_,?_⟩⟩
        · rw [List.mem_reverse,List.mem_map] at hi
          obtain ⟨k,hk,rfl⟩:=hi
          have:=h2 k hk
          rw [List.length_reverse] at this
          omega
        · rw [Tr.J0,hsrt] at h3
          rw [List.map_reverse,List.map_map]
          have : (ix.map ((fun i => t.bs.getD i Tr.nil) ∘ fun i => us.length - 1 - i)) = ix.map fun i => t.bs.reverse.getD i .nil:=bI fun i hi => by
            have:=h2 i hi
            rw [List.length_reverse] at this
            show t.bs.getD (us.length - 1 - i) Tr.nil = _
            rw [List.getD_eq_getElem?_getD,List.getD_eq_getElem?_getD,List.getElem?_reverse (by omega),hl]
          rw [this,h3,List.reverse_reverse]
          rfl
        · rw [if_pos rfl,List.map_reverse,List.map_map,List.reverse_toArray]
          congr 2
          exact bI fun i hi => by
            have:=h2 i hi
            rw [List.length_reverse] at this
            show us.reverse.getD i Value.none = us.getD (us.length - 1 - i) Value.none
            rw [List.getD_eq_getElem?_getD,List.getD_eq_getElem?_getD,List.getElem?_reverse (by omega)]
    rw [hws]
    refine Wb (ai (T5 (s:={ s with heap:=((s.heap.update a (Obj.mapSeq fun _ => #[])).push (seqObj "tuple" us.toArray 0)).push (seqObj "list" #[] 0) }) hκ ew (by omega) (by omega) (by omega)) ?_ fun _ _ z => z)
    rintro ⟨⟨⟩,st'⟩ s' ⟨rfl,hf,ix,hil,hix,hout,hst⟩
    dsimp only
    refine Wb (seqEpoch_at ho6 rfl ?_)
    obtain ⟨iy,y1,y2,y3,hfin⟩ : ∃ iy : List Nat,iy.length = us.length∧(∀ i∈iy,i < us.length)∧(iy.map fun i => t.bs.getD i .nil) = (if b then Tr.Be t.bs else (Tr.Be t.bs).reverse) ∧
        (if b = true then ((arrOf st').map (·.2)).reverse else (arrOf st').map (·.2)) = (iy.map fun i => us.getD i Value.none).toArray := by
      rw [show (arrOf st').map (·.2) = _ from hout]
      exact pick b ix hil hix hst
    refine Wb (listUpdate_at ho6 rfl ?_ (av _) (by
      refine aM (Nat.le_of_eq (bG Array.size hfin)) ?_
      rw [List.size_toArray,List.length_map,y1,sizeLine_eq]; omega))
    rw [show failedOf st' = none from hf]
    simp only [bne_self_eq_false,Bool.false_eq_true,if_false]
    have fin:=h iy y1 y2 y3
    rw [← hfin] at fin
    exact aA fin
end
end TH
namespace ET
open PySem
section
variable{prog:Program}{w:World}{A:Around}{E:VL→SD→Prop}{s:SD}
def next_item{it t:AD}{i:Nat}{items}{x:VL}{Q:VL→SD→Prop}(hit:s.heap.IsTupleIter it t i)(ht:s.heap.IsTuple t items)(hx:items[i]? = some x)
 (hQ:∀h',h'.IsTupleIter it t (i+1)→Heap.SameBut it s.heap h'→Q x { s with heap:=h' }):wpAny (model prog w) A (Builtin.SmallTypes.nextOf (.ref it)) Q E s:=by
 obtain⟨o,ho,hc,hd⟩:=id hit;obtain⟨ol,hol,_,nl,hdl⟩:=ht;unfold Builtin.SmallTypes.nextOf;refine Wb (aj (name:=Str.ofString "__next__") hit.typeIs F.slot_tuple_iterator_next
  (aX F.slot_tuple_iterator_next hit.typeIs F.entry_tuple_iterator_next ?_ (F.args_tuple_iterator_next_1 _)))
 show wpAny _ _ (field (.ref it) 0>>=_) _ _ s;refine Wb (au ho hd (x:=.ref t) rfl ?_);show wpAny _ _ (if(Value.ref t==Value.none)=true then _ else _) _ _ s;rw [if_neg (show ¬((Value.ref t==Value.none)=true) from aI)];show wpAny _ _ (field (.ref it) 1>>=_) _ _ s;refine Wb (au ho hd (x:=.int i 0) rfl ?_);show wpAny _ _ (seqItems? (.ref t)>>=_) _ _ s;refine Wb (az hol hdl ?_);simp only [Int.toNat_natCast,hx];refine Wb (wpAny_setField ho hd (by simp) (aA ⟨x,rfl,wpAny_pure (hQ _ ?_ (af ..))⟩));exact⟨_,Heap.get?_update_self _ ho (Obj.isFreed_of_fields (Obj.data_mapFields hd _)),(Obj.cls_mapFields ..).trans hc,by
  rw [Obj.data_mapFields hd];simp [rawInt]⟩
def next_end{it t:AD}{i:Nat}{items}{Q:VL→SD→Prop}(hh:A.handled=none)(hit:s.heap.IsTupleIter it t i)(ht:s.heap.IsTuple t items)(hx:items[i]? = none)
 (hE:∀h' e,Heap.ExtBut it s.heap h'→(∃o,h'.get? e=some o∧o.cls=.type "StopIteration")→E (.ref e) { s with heap:=h' }):wpAny (model prog w) A (Builtin.SmallTypes.nextOf (.ref it)) Q E s:=by
 obtain⟨o,ho,hc,hd⟩:=id hit;obtain⟨ol,hol,_,nl,hdl⟩:=ht;unfold Builtin.SmallTypes.nextOf;refine Wb (aj (name:=Str.ofString "__next__") hit.typeIs F.slot_tuple_iterator_next
  (aX F.slot_tuple_iterator_next hit.typeIs F.entry_tuple_iterator_next ?_ (F.args_tuple_iterator_next_1 _)))
 show wpAny _ _ (field (.ref it) 0>>=_) _ _ s;refine Wb (au ho hd (x:=.ref t) rfl ?_);show wpAny _ _ (if(Value.ref t==Value.none)=true then _ else _) _ _ s;rw [if_neg (show ¬((Value.ref t==Value.none)=true) from aI)];show wpAny _ _ (field (.ref it) 1>>=_) _ _ s;refine Wb (au ho hd (x:=.int i 0) rfl ?_);show wpAny _ _ (seqItems? (.ref t)>>=_) _ _ s;refine Wb (az hol hdl ?_);simp only [Int.toNat_natCast,hx];refine Wb (wpAny_rule (Wb (wpAny_setField ho hd (by simp) ?_)));show wpAny _ _ (newExc (.type "StopIteration") []>>=_) _ _ _;refine Wb ?_;simp only [newExc,newTuple];refine Wb (ak ?_ (by size_fits));refine Wb (m:=firstArgMember _ _) (wpAny_of_eq (a:=Value.none) (by first|rfl|(simp only [firstArgMember];rfl)) ?_);refine ak ?_ (by size_fits);simp only [raiseNew];refine Wb (wpAny_handled ?_)
 first|rw [show A.in1.handled=none from hh]|rw [hh]
 refine Wb (aA (wpAny_throw ?_));exact hE _ _ (((af ..).extBut.push _).push _) ⟨_,Heap.get?_push_size _ rfl,rfl⟩
end
section
open AutoSeq1 (wpAny_loadPart')
def T1(l:AD)(items:Array VL)(n:Nat)(dct:Option AD)(sl:Array (Option VL)) :
  Meets (Builtin.«enumerate.__new__» ⟨[.type "enumerate",.ref l],[]⟩) (fun _ R s=>s.heap.get? l=some { cls:=.type "tuple",dict:=dct,data:=.seq items n,slots:=sl } ∧
   R (.ok (.ret (.ref (s.heap.push { cls:=.type "tuple_iterator",data:=.fields #[.ref l,.int 0 0] }).objs.size)))
    { s with heap:=(s.heap.push { cls:=.type "tuple_iterator",data:=.fields #[.ref l,.int 0 0] }).push { cls:=.type "enumerate",data:=.fields #[.none,.bool false,.ref s.heap.objs.size,rawInt 0,.none,.none] } }) :=
 .of_wp fun prog w A R s h=>by
  obtain⟨hp,g,d,tk,os⟩:=s;obtain⟨hl,h⟩:=h;have hsub:=sub_enumerate;have hL:Heap.IsTuple (Shared.heap ⟨hp,g,d,tk,os⟩) l items:=⟨_,hl,rfl,n,rfl⟩
  wp_walk using wpAny_loadPart' hl
  refine wpAny_stack_any fun st=>aA ?_;split
  ·rename_i c _ _ _ _ _;cases (c==Value.type "enumerate")
   ·wp_walk using wpAny_loadPart' hl,wpAny_pyIter_tuple hL
    exact⟨_,rfl,h⟩
   ·wp_walk using wpAny_loadPart' hl,wpAny_pyIter_tuple hL
    exact⟨_,rfl,h⟩
  ·wp_walk using wpAny_loadPart' hl,wpAny_pyIter_tuple hL
   exact⟨_,rfl,h⟩
def Tn{prog:Program}{w:World}{A:Around}{E:VL→SD→Prop}{s:SD}{l:AD}{items:Array VL}{Q:VL→SD→Prop}(hL:s.heap.IsTuple l items)
 (h:∀h',IsEnum h' (s.heap.objs.size+1) s.heap.objs.size 0 .none→h'.IsTupleIter s.heap.objs.size l 0→h'.objs.size=s.heap.objs.size+2 →
   (∀b o,s.heap.get? b=some o→h'.get? b=some o)→Q (.ref (s.heap.objs.size+1)) { s with heap:=h' }) :
  wpAny (model prog w) A (call (.type "enumerate") [.ref l]) Q E s:=by
 obtain⟨⟨c,dct,dt,sl⟩,hl,hc,n,hd⟩:=hL
 replace hc:c=.type "tuple" := hc
 replace hd:dt=.seq items n:=hd
 subst hc hd;refine callType_new F.called_enumerate (by decide) (F.typeCall_enumerate_1 _) (F.newCall_enumerate_1 _) (fun obj=>F.args_object_init_2 obj _) F.entry_enumerate_new
  (T1 l items n dct sl) ⟨hl,?_⟩
 have hz:(s.heap.push { cls:=.type "tuple_iterator",data:=.fields #[.ref l,.int 0 0] }).objs.size=s.heap.objs.size+1:=Heap.size_push ..;show _∧_;rw [hz];have he:IsEnum ((s.heap.push { cls:=.type "tuple_iterator",data:=.fields #[.ref l,.int 0 0] }).push
   { cls:=.type "enumerate",data:=.fields #[.none,.bool false,.ref s.heap.objs.size,rawInt 0,.none,.none] }) (s.heap.objs.size+1) s.heap.objs.size 0 .none:=by
  have:=aN (s.heap.push { cls:=.type "tuple_iterator",data:=.fields #[.ref l,.int 0 0] })
   (o:={ cls:=.type "enumerate",data:=.fields #[.none,.bool false,.ref s.heap.objs.size,rawInt 0,.none,.none] }) rfl
  rw [hz]at this;exact this
 refine⟨⟨_,he,rfl⟩,h _ he ⟨_,Heap.get?_push_of_some _ (aN _ rfl),rfl,rfl⟩ (by rw [Heap.size_push,hz]) fun b o x=>aC _ (aC _ x)⟩
end
def draws{prog:Program}{w:World}{A:Around}(hh:A.handled=none)(it a:AD)(its:List VL)(hne:a≠it) :
  Draws prog w A it [it,a] its.length (fun i x=>its[i]? = some x) (fun i h=>h.IsTupleIter it a i∧h.IsTuple a its.toArray) where
 live:=fun i h st=>let⟨o,e,_⟩:=st.1;⟨o,e⟩
 frame:=fun i h h' st k=>by
  obtain⟨⟨o,e,r⟩,o2,e2,r2⟩:=st;exact⟨⟨o,k it (by simp) o e,r⟩,o2,k a (by simp) o2 e2,r2⟩
 item:=fun i s Q E hi st hQ=>next_item st.1 st.2 (x:=its[i]) (by simp [hi]) fun h' st' sb =>
  hQ _ h' s.toks (by simp [hi]) ⟨st',let⟨o,e,r⟩:=st.2;⟨o,(sb.2 a hne).trans e,r⟩⟩ sb
 done:=fun s Q E st hE=>next_end hh st.1 st.2 (by simp) hE
end ET
namespace L2
open PySem PySem.Spec PyProof.Rows
def Ts(H:Hp):Tr→List V→Prop
 |.nil,xs=>xs=[]
 |.cons b r,xs=>∃(a:AD) (ys zs:List V),xs=.ref a::zs∧H a=some (.tup ys)∧Ts H b ys∧Ts H r zs
def Tv(H:Hp)(t:Tr)(v:V):Prop:=∃(a:AD) (ys:List V),v=.ref a∧H a=some (.tup ys)∧Ts H t ys
def Ts.same{H H':Hp}(e:AH H H'):∀ {t:Tr} {xs:List V},Ts H t xs→Ts H' t xs
 |.nil,xs,h=>by rw [Ts]at h ⊢;exact h
 |.cons b r,xs,h=>by
  rw [Ts]at h ⊢;obtain⟨a,ys,zs,e1,h1,h2,h3⟩:=h;exact⟨a,ys,zs,e1,e _ _ h1,h2.same e,h3.same e⟩
def Tv.same{H H':Hp}{t:Tr}{v:V}(h:Tv H t v)(e:AH H H'):Tv H' t v:=let⟨a,ys,e1,h1,h2⟩:=h;⟨a,ys,e1,e _ _ h1,h2.same e⟩
def Gm(H H':Hp):Prop:=∀b xs,H b=some (.tup xs)→H' b=some (.tup xs)
def Gm.of{H H':Hp}(e:AH H H'):Gm H H':=fun b xs h=>e b _ h
def Gm.upd{H:Hp}{l:AD}{ys:List V}{o:HO}(hl:H l=some (.lst ys)):Gm H (upd H l o):=fun b xs h=>by
 rw [AG (RK h hl (by intro z;cases z))];exact h
def Ts.Al{H H':Hp}(e:Gm H H'):∀ {t:Tr} {xs:List V},Ts H t xs→Ts H' t xs
 |.nil,xs,h=>by rw [Ts]at h ⊢;exact h
 |.cons b r,xs,h=>by
  rw [Ts]at h ⊢;obtain⟨a,ys,zs,e1,h1,h2,h3⟩:=h;exact⟨a,ys,zs,e1,e _ _ h1,h2.Al e,h3.Al e⟩
def Tv.Al{H H':Hp}{t:Tr}{v:V}(h:Tv H t v)(e:Gm H H'):Tv H' t v:=let⟨a,ys,e1,h1,h2⟩:=h;⟨a,ys,e1,e _ _ h1,h2.Al e⟩
def Ts.length{H:Hp}:∀ {t:Tr} {xs:List V},Ts H t xs→xs.length=t.len
 |.nil,xs,h=>by rw [Ts]at h;rw [h];rfl
 |.cons b r,xs,h=>by
  rw [Ts]at h;obtain⟨a,ys,zs,rfl,_,_,h3⟩:=h;rw [List.length_cons,Tr.len,h3.length]
def Ts.len{H:Hp}{t:Tr}{xs:List V}(h:Ts H t xs):xs.length=t.bs.length:=by rw [h.length,Tr.Dc]
def Ts.get{H:Hp}:∀ {t:Tr} {xs:List V} {i:Nat} {v:V},Ts H t xs→xs[i]? = some v→∃c,t.bs[i]? = some c∧Tv H c v
 |.nil,xs,i,v,h,e=>by rw [Ts]at h;subst h;simp at e
 |.cons b r,xs,i,v,h,e=>by
  rw [Ts]at h;obtain⟨a,ys,zs,rfl,h1,h2,h3⟩:=h;cases i with
  |zero=>simp at e;subst e;exact⟨b,rfl,a,ys,rfl,h1,h2⟩
  |succ i =>
   obtain⟨c,q1,q2⟩:=h3.get (i:=i) (v:=v) (by simpa using e);exact⟨c,by simpa [Tr.bs]using q1,q2⟩
def Ts.JI{H:Hp}:∀(ts:List Tr) (xs:List V),xs.length=ts.length→(∀(i:Nat) (v:V),xs[i]? = some v→∃c,ts[i]? = some c∧Tv H c v)→Ts H (Tr.of ts) xs
 |[],xs,hl,_=>by
  rw [Tr.of,Ts];exact List.eq_nil_of_length_eq_zero (by simpa using hl)
 |t::ts,[],hl,_=>by simp at hl
 |t::ts,x::xs,hl,h=>by
  rw [Tr.of,Ts];obtain⟨c,e1,a,ys,rfl,h1,h2⟩:=h 0 x rfl;simp at e1;subst e1;exact⟨a,ys,xs,rfl,h1,h2,Ts.JI ts xs (by simpa using hl) fun i v e=>by
   obtain⟨c,q1,q2⟩:=h (i+1) v (by simpa using e);exact⟨c,by simpa using q1,q2⟩⟩
def Ts.pick{H:Hp}{t:Tr}{xs:List V}(h:Ts H t xs)(ix:List Nat)(hi:∀i∈ix,i<xs.length):Ts H (Tr.of (ix.map fun i=>t.bs.getD i .nil)) (ix.map fun i=>xs.getD i .BG):=by
 refine Ts.JI _ _ (by simp) fun i v e=>?_;rw [List.getElem?_map]at e ⊢;cases q:ix[i]? with
 |none=>rw [q]at e;cases e
 |some k =>
  rw [q]at e;have hk:k<xs.length:=hi k (aO q);simp only [Option.map_some,Option.some.injEq]at e;obtain⟨c,q1,q2⟩:=h.get (i:=k) (v:=v) (by rw [←e,List.getD_eq_getElem?_getD,List.getElem?_eq_getElem hk];rfl);refine⟨c,?_,q2⟩;simp only [Option.map_some,List.getD_eq_getElem?_getD,q1]
  rfl
section
variable{X:Cx}{pins:List (AD×Obj)}{σ:St}{H:Hp}{s:SD}
def Ts.vs(I:Inv X pins σ H s):∀ {t:Tr} {xs:List V} {us:List VL},Ts H t xs→Vals xs us→TH.Vs s.heap t us
 |.nil,xs,us,h,r=>by
  rw [Ts]at h;subst h;cases r;rw [TH.Vs]
 |.cons b rr,xs,us,h,r=>by
  rw [Ts]at h;obtain⟨a,ys,zs,rfl,h1,h2,h3⟩:=h;cases r with
  |cons r1 r2 =>
   cases r1;obtain⟨its,rv,p,_⟩:=I.tuple (Ag.of (K:=X.K) h1);rw [TH.Vs];exact⟨a,its,_,rfl,p,Ts.vs I h2 rv,Ts.vs I h3 r2⟩
def Tv.at(I:Inv X pins σ H s){t:Tr}{v:V}{u:VL}(h:Tv H t v)(r:RelV v u):∃(a:AD) (its:List VL),u=.ref a∧s.heap.IsTuple a its.toArray∧TH.Vs s.heap t its:=by
 obtain⟨a,ys,rfl,h1,h2⟩:=h;cases r;obtain⟨its,rv,p,_⟩:=I.tuple (Ag.of (K:=X.K) h1);exact⟨a,its,rfl,p,Ts.vs I h2 rv⟩
def Zg:R2:=fun x y H Q=>∃t u,Tv H t x∧Tv H u y∧t.deep≤60∧Q (.bl (Tr.lt u t)) H
def WA(hu:X.A.units+64<cLine):Bm X (compareOp .Gt) Zg:=by
 intro pins s σ H x y v u' Q I rx ry h;obtain⟨t,u,h1,h2,hd,q⟩:=h;obtain⟨a,its,rfl,p1,k1⟩:=h1.at I rx;obtain⟨b,its',rfl,p2,k2⟩:=h2.at I ry;exact TH.VP (t.deep+1) t u X.A s a b its its' (bO _) p1 k1 p2 k2 (by omega) X.prog X.w X.xe _ ⟨.bl _,H,I,rfl,q⟩
def Zu(neg:Bool):R2:=fun x y H Q=>∃t u,Tv H t x∧Tv H u y∧t.deep≤60∧Q (.bl (if neg then !decide (t=u) else decide (t=u))) H
def WH(hu:X.A.units+64<cLine):Bm X (compareOp .Eq) (Zu false):=by
 intro pins s σ H x y v u' Q I rx ry h;obtain⟨t,u,h1,h2,hd,q⟩:=h;obtain⟨a,its,rfl,p1,k1⟩:=h1.at I rx;obtain⟨b,its',rfl,p2,k2⟩:=h2.at I ry;exact TH.cY p1 k1 p2 k2 (by omega) X.prog X.w X.xe _ ⟨.bl _,H,I,rfl,q⟩
end
def Tw(K:Fg)(a:AD):It :=
 ⟨fun i H=>∃xs x,Ag K H a xs∧xs[i]? = some x,fun i H v H'=>∃p x,v=.ref p∧H p=none∧H'=upd H p (.tup [.int i,x])∧∀xs,Ag K H a xs→xs[i]? = some x,fun i H=>∃xs,Ag K H a xs∧xs.length=i⟩
def S9{P:Program}{w:World}{K:Fg}{elts:List Expr}{x1}{pos:Pos}(a e it:AD)(hne:e≠it) :
  Turn P w K (.Tuple elts x1 pos) (Tw K a) [e,it] e (fun i h=>(∃old,IsEnum h e it (i:Nat) old)∧h.IsTupleIter it a i) where
 mem:=by simp
 obj:=fun i h st b hb=>by
  rcases aL.mp hb with rfl|hb
  ·obtain⟨⟨old,q⟩,_⟩:=st;exact⟨_,q,fun v z=>by cases z⟩
  ·have e2:b=it:=by simpa using hb
   subst e2;obtain⟨_,o,q,c,d⟩:=st;exact⟨o,q,fun v z=>by rw [d]at z;cases z⟩
 keep:=fun i h h' st k=>by
  obtain⟨⟨old,q⟩,o,q2,r⟩:=st;exact⟨⟨old,k e (by simp) _ q⟩,o,k it (by simp) _ q2,r⟩
 item:=by
  intro X hP hw hK hc i pins s σ H E I hf st hg;subst hP hw hK;obtain⟨xs,x,hq,hx⟩:=hg;obtain⟨its,rv,p,hz⟩:=I.tuple hq;obtain⟨u,hu,ru⟩:=rv.get hx;obtain⟨⟨old,he⟩,hit⟩:=st;have hai:a≠it:=fun z=>by
   obtain⟨o,e1,c1,_⟩:=p;obtain⟨o2,e2,c2,_⟩:=hit;rw [z,e2]at e1;cases e1;rw [c1]at c2;exact absurd c2 (by decide)
  have hae:a≠e:=fun z=>by
   obtain⟨o,e1,c1,_⟩:=p;rw [z,he]at e1;cases e1;exact absurd (show Value.type "enumerate" = Value.type "tuple" from c1) (by decide)
  have hlt:i<its.length:=(aD.mp hu).1;have hE0:=hf e (by simp);have hI0:=hf it (by simp);refine wpAny_pyNext_enum_itemD (ET.draws (prog:=X.prog) (w:=X.w) (A:=X.A.in1) (I.ok.hd hc) it a its hai) he ⟨hit,p⟩ hlt hne (by simp [hne,Ne.symm hae]) fun y h' tk hy ho hs' hT hsz hk=>⟨_,rfl,wpAny_letOwnedTupleGo_enum (s:={ s with heap:=h',toks:=tk+1 }) ho fun h'' he'' sb=>?_⟩;have hyu:y=u:=by rw [hu]at hy;exact(ag hy).symm
  subst hyu;have keep:∀b o,b≠e→b≠it→s.heap.get? b=some o→h''.get? b=some o:=fun b o h1 h2 q=>(sb.2 b h1).trans (hk b o h1 h2 q);have hTe:s.heap.objs.size≠e:=Nat.ne_of_gt (aF he);have hTi:s.heap.objs.size≠it:=let⟨_,q,_⟩:=hit;Nat.ne_of_gt (aF q);have hT'':h''.get? s.heap.objs.size=some { cls:=.type "tuple",data:=.seq #[.int i tk,y] }:=(sb.2 _ hTe).trans hT;have hTn:H s.heap.objs.size=none:=I.Ah.fresh (aE _);have neT:∀b o,s.heap.get? b=some o→b≠s.heap.objs.size:=fun b o q=>aK (aF q);have EZ:∀b o,H b=some o→b≠e∧b≠it:=fun b o q=>⟨(fun z=>by rw [z,hE0.1]at q;cases q),(fun z=>by rw [z,hI0.1]at q;cases q)⟩;refine⟨.ref s.heap.objs.size,upd H s.heap.objs.size (.tup [.int i,x]),?_,rfl,⟨_,x,rfl,hTn,rfl,fun ys hy=>by rw [I.M9 hy hq];exact hx⟩,⟨⟨_,by simpa using he''⟩,?_⟩,fun b hb=>?_⟩
  ·show Inv X pins σ _ { s with heap:=h'',gens:=s.gens,drawn:=s.drawn,toks:=tk+1 };refine I.step (h':=h'') (g':=s.gens) (d':=s.drawn) (t':=tk+1) (ch:=[e,it]) (fun b hb=>?_) (fun b o _ _ hc q _=>keep b o (fun z=>hc (by simp [z])) (fun z=>hc (by simp [z])) q) (fun b o _ _ hc q _=>⟨o.slots,keep b o (fun z=>hc (by simp [z])) (fun z=>hc (by simp [z])) q⟩)
    (fun b o _ q n=>by rw [AG (neT b o q)];exact n) (fun b o hc q=>⟨o,keep b o (fun z=>hc (by simp [z])) (fun z=>hc (by simp [z])) q⟩) (fun b ys q=>by rw [AG (AO q hTn)];exact q) (fun b o u q=>by rw [AG (AO q hTn)];exact q)
    (fun b ps q=>⟨#[],by rw [AG (AO q hTn),q];simp⟩) (fun m hm=>?_) (fun b o q=>?_) I.bare
   ·rcases aL.mp hb with rfl|hb
    ·exact⟨hE0.2.2.2.1,hE0.2.1,hE0.2.2.2.2.1,hE0.2.2.2.2.2⟩
    ·have e2:b=it:=by simpa using hb
     subst e2;exact⟨hI0.2.2.2.1,hI0.2.1,hI0.2.2.2.2.1,hI0.2.2.2.2.2⟩
   ·obtain⟨o,es,ep,ho,r⟩:=hm;exact⟨o,es,ep,keep _ o (Ne.symm hE0.2.1) (Ne.symm hI0.2.1) ho,r⟩
   ·by_cases hb:b=s.heap.objs.size
    ·subst hb;rw [AJ]at q;cases q;exact⟨SW,[.int i tk,y],.cons ⟨tk,rfl⟩ (.cons ru .nil),_,hT'',rfl,_,rfl⟩
    ·rw [AG hb]at q;refine(I.Ah b o q).HK (fun c v hc r=>keep c v ?_ ?_ r) (fun c r=>by rw [AG (AO r hTn)];exact r) fun c ys r=>by rw [AG (AO r hTn)];exact r
     ·rcases hc with rfl|hc
      ·exact(EZ _ _ q).1
      ·exact(EZ _ _ hc).1
     ·rcases hc with rfl|hc
      ·exact(EZ _ _ q).2
      ·exact(EZ _ _ hc).2
  ·obtain⟨⟨o,q,r⟩,_⟩:=hs';exact⟨o,(sb.2 it (Ne.symm hne)).trans q,r⟩
  ·rcases aL.mp hb with rfl|hb
   ·rw [AG (Ne.symm hTe)];exact hE0.1
   ·have e2:b=it:=by simpa using hb
    subst e2;rw [AG (Ne.symm hTi)];exact hI0.1
 done:=by
  intro X hP hw hK hc i pins s σ H E I hf st hg;subst hP hw hK;obtain⟨xs,hq,hx⟩:=hg;obtain⟨its,rv,p,hz⟩:=I.tuple hq;obtain⟨⟨old,he⟩,hit⟩:=st;have hai:a≠it:=fun z=>by
   obtain⟨o,e1,c1,_⟩:=p;obtain⟨o2,e2,c2,_⟩:=hit;rw [z,e2]at e1;cases e1;rw [c1]at c2;exact absurd c2 (by decide)
  have hl:its.length=i:=by rw [←rv.length];exact hx
  subst hl;obtain⟨f0,f1,f2,f3,f4,f5⟩:=hf it (by simp);exact wpAny_pyNext_enum_endD (ET.draws (prog:=X.prog) (w:=X.w) (A:=X.A.in1) (I.ok.hd hc) it a its hai) he ⟨hit,p⟩ fun h' eb=>⟨rfl,I.turned (t':=s.toks) (fun b o hb q=>eb b o hb q) f0 f1 f3 f4 f5⟩
 self:=fun _ _ _ _ _ st h=>by
  obtain⟨⟨old,he⟩,_⟩:=st;exact wpAny_pyIter_enum he h
def Za(K:Fg)(ta:TA):TI:=fun σ H R=>ta σ H fun vs H1=>∃a,vs=[.ref a]∧(∃xs,Ag K H1 a xs)∧R (Tw K a) H1
def V8{X:Cx}{elts:List Expr}{x1}{tpos:Pos}{a:Expr}{ta:TA}{p pos:Pos}(hg:Gl X "enumerate")(hm:X.mg "enumerate" = none)(ha:PA X [a] ta)(hs:starEach [a] X.env=[(false,eval a X.env)]:=by rfl) :
  PI X (.Tuple elts x1 tpos) (.Call (.Name "enumerate" p) [a] [] pos) (Za X.K ta):=by
 intro pins s σ H R I h;refine Call_ (Fe I hg hm boot_enumerate (aw (Az (ha pos pins s σ H _ I h) fun us s1 ⟨vs,H1,I1,r1,q1⟩=>?_) hs rfl));obtain⟨t,e,⟨xs,hq⟩,q⟩:=q1;subst e;cases r1 with
 |cons r rr =>
  cases rr;cases r;obtain⟨its,rv,p',hz⟩:=I1.tuple hq;refine ET.Tn (show s1.heap.IsTuple t its.toArray from p') fun h' he hit hsz hk=>wpAny_pyIter_enum he ?_;have I2:Inv X pins σ H1 { s1 with heap:=h' }:=I1.kept (t':=s1.toks) hk;have hn:s1.heap.objs.size+1≠s1.heap.objs.size:=by omega
  refine⟨s1.heap.objs.size+1,[s1.heap.objs.size+1,s1.heap.objs.size],_,_,H1,rfl,I2,S9 t _ _ hn,⟨⟨_,he⟩,hit⟩,fun b hb=>?_,q⟩;have hb':s1.heap.objs.size≤b:=by
   have hb2:b=s1.heap.objs.size+1∨b=s1.heap.objs.size:=by simpa using hb
   rcases hb2 with z|z
   ·rw [z];exact Nat.le_succ _
   ·rw [z];exact aE _
  exact I1.MI hb' (I1.Ah.fresh hb')
def U3{K:Fg}{a:AD}{xs:List V}{g:TG}{tb:TS}{D:Ends}{σ:St}{H:Hp}(Pv:Nat→St→Hp→Prop)(h0:Pv 0 σ H)(hl:∀i σ H,i≤xs.length→Pv i σ H→Ag K H a xs)
 (hs:∀i x σ H,xs[i]? = some x→Pv i σ H→∀p,H p=none→g (.ref p) σ (upd H p (.tup [.int (i:Nat),x])) fun σ2 H2=>tb { D with nx:=Pv (i+1),ct:=Pv (i+1),bk:=D.nx } σ2 H2)(hd:∀σ H,Pv xs.length σ H→D.nx σ H) :
  ∃W:Nat→Nat→St→Hp→Prop,(∃m,W 0 m σ H)∧∀i m σ H,W i m σ H →
   ((Tw K a).stop i H∧D.nx σ H)∨((Tw K a).go i H∧∃N:St→Hp→Prop,(∀σ' H',N σ' H'→∃m',m'<m∧W (i+1) m' σ' H')∧∀x H',(Tw K a).DZ i H x H'→g x σ H' fun σ2 H2=>tb { D with nx:=N,ct:=N,bk:=D.nx } σ2 H2):=by
 refine⟨fun i m σ H=>m=xs.length-i∧i≤xs.length∧Pv i σ H,⟨xs.length,by simp,Nat.zero_le _,h0⟩,?_⟩;rintro i m σ H ⟨rfl,hi,p⟩;have q:=hl i σ H hi p;by_cases hlt:i<xs.length
 ·refine .inr ⟨⟨xs,xs[i],q,by simp [hlt]⟩,Pv (i+1),fun σ' H' p'=>⟨xs.length-(i+1),by omega,rfl,hlt,p'⟩,fun x H' y=>?_⟩;obtain⟨pp,x',rfl,hn,rfl,y⟩:=y;exact hs i x' σ _ (y xs q) p pp hn
 ·have e:i=xs.length:=by omega
  subst e;exact .inl ⟨⟨xs,q,rfl⟩,hd σ H p⟩
end L2
namespace TH
open PySem PySem.W PyProof.Rows PySem.SeqAt
section
variable{prog:Program}{w:World}{A:Around}{E:VL→SD→Prop}{s:SD}
def MJ(a:AD):Builtin.«list.sort» ⟨[.ref a],[]⟩=Builtin.«list.sort» ⟨[.ref a],[(Str.ofString "reverse",.bool false)]⟩:=by
 rw [list_sort_rev,list_sort_plain]
 rfl
def Fv{a:AD}{us:List VL}{t:Tr}{n:Nat}{P:PySem.Fin→SD→Prop}(ho:s.heap.get? a=some (seqObj "list" us.toArray n))(e:Vs s.heap t us)(h64:us.length<64)(hu:A.units+t.deep≤cLine)
 (h:∀ix:List Nat,ix.length=us.length→(∀i∈ix,i<us.length)→(ix.map fun i=>t.bs.getD i .nil)=(Tr.Be t.bs).reverse→P (.done (.ret .none)) { s with heap:=sortedHeap s.heap a us (ix.map fun i=>us.getD i Value.none).toArray }) :
  wpAny (model prog w) A (Builtin.«list.sort» ⟨[.ref a],[]⟩) P E s:=by
 rw [MJ];exact PQ (b:=false) ho e h64 hu h
def Po{l:AD}{vs:List VL}{Q:List VL→SD→Prop}(hl:s.heap.IsTuple l vs.toArray)
 (h:Q vs { s with heap:=(s.heap.push (seqObj "list" #[] 0)).update s.heap.objs.size (Obj.mapSeq (· ++ vs.toArray)) })(hsz:vs.length≤sizeLine) :
    wpAny (model prog w) A (collect (.ref l)) Q E s:=by
  obtain⟨o,ho,hc,n,hd⟩:=id hl
  unfold collect
  refine Wb (wpAny_runValue (codeAny_builtin entry_proto_collect' ?_))
  show wpAny _ _ (do again (.builtin "list.__iadd__" ⟨[←newList [],.ref l],[]⟩)) _ _ s
  refine Wb (wpAny_newList (aA ⟨Code.quiet_builtin _ (by decide +kernel),codeAny_builtin entry_list_iadd' ?_⟩))
  show wpAny _ _ (Builtin.List.listExtendWith (.ref s.heap.objs.size) (.ref l) (.ref s.heap.objs.size)) _ _ { s with heap:=s.heap.push (seqObj "list" #[] 0) }
  unfold Builtin.List.listExtendWith
  have ho':(s.heap.push (seqObj "list" #[] 0)).get? l=some o:=aC _ ho
  refine Wb (wpAny_typeOf (T := "tuple") ⟨o,ho',hc⟩ ?_)
  have ht:(Value.type "tuple" == Value.type "tuple")=true:=by rfl
  rw [if_pos (by rw [ht];simp)]
  refine Wb (listItems_at ho' hd ?_)
  refine Wb (listItems_at (xs:=#[]) (n:=0) (aN _ rfl) rfl ?_)
  rw [if_neg (by simp)]
  refine Wb (listUpdate_at (xs:=#[]) (n:=0) (aN _ rfl) rfl ?_ (av _) (by show(#[]++vs.toArray).size≤sizeLine+1;simp only [Array.size_append,List.size_toArray,List.length_nil];omega))
  refine aA ?_
  show wpAny (model prog w) A (do
      let o ←load s.heap.objs.size
      match o.data with
      |.seq xs _=>pure xs.toList
      |_=>unsupported "internal:collect") Q E { s with heap:=(s.heap.push (seqObj "list" #[] 0)).update s.heap.objs.size (Obj.mapSeq (· ++ vs.toArray)) }
  refine Wb (wpAny_load (get?_update_seq (aN _ rfl) _) ?_)
  show wpAny _ _ (pure ((#[]:Array VL)++vs.toArray).toList) Q E _
  rw [show((#[]:Array VL)++vs.toArray).toList=vs by simp]
  exact aA h
def Pw{l:AD}{us:List VL}{t:Tr}{Q:VL→SD→Prop}(hl:s.heap.IsList l us.toArray)(e:Vs s.heap t us)(h64:us.length<64)(hu:A.units+2+t.deep≤cLine)
 (h:∀(h':Heap) (ix:List Nat) (e1:Nat),ix.length=us.length→(∀i∈ix,i<us.length)→(ix.map fun i=>t.bs.getD i .nil)=(Tr.Be t.bs).reverse→(∀c o,s.heap.get? c=some o→h'.get? c=some o) →
   h'.get? (s.heap.objs.size+1)=some (seqObj "list" (ix.map fun i=>us.getD i Value.none).toArray e1)→Q (.ref (s.heap.objs.size+1)) { s with heap:=h' }) :
  wpAny (model prog w) A (call (.builtin "sorted") [.ref l]) Q E s:=by
 refine Calls.call_function_entry kind_sorted plain_sorted entry_sorted (args_sorted1 _) ?_;unfold Builtin.«sorted»;refine Wb (m:=checkCount "sorted" 1 1 _) (aA ?_);refine Wb (collect_list hl ?_ (by rw [sizeLine_eq];omega));refine Wb (wpAny_newList ?_ (by rw [sizeLine_eq];omega));have hsz:((s.heap.push (seqObj "list" #[] 0)).update s.heap.objs.size (Obj.mapSeq (· ++ us.toArray))).objs.size=s.heap.objs.size+1:=by
  rw [Heap.size_update,size_push']
 have hoL:(((s.heap.push (seqObj "list" #[] 0)).update s.heap.objs.size (Obj.mapSeq (· ++ us.toArray))).push (seqObj "list" us.toArray 0)).get? (s.heap.objs.size+1)=some (seqObj "list" us.toArray 0):=by
  rw [←hsz];exact aN _ rfl
 have keep:∀b o,s.heap.get? b=some o→o.cls=.type "tuple" →(((s.heap.push (seqObj "list" #[] 0)).update s.heap.objs.size (Obj.mapSeq (· ++ us.toArray))).push (seqObj "list" us.toArray 0)).get? b=some o:=fun b o q _=>by
  have hlt:b<s.heap.objs.size:=aF q;rw [Heap.get?_push_ne _ _ _ (by rw [hsz];exact aK (bM hlt)),Heap.get?_update_ne _ _ _ _ (aK hlt),Heap.get?_push_ne _ _ _ (aK hlt)];exact q
 show wpAny _ _ _ _ _ { s with heap:=((s.heap.push (seqObj "list" #[] 0)).update s.heap.objs.size (Obj.mapSeq (· ++ us.toArray))).push (seqObj "list" us.toArray 0) };rw [hsz];refine Wb (aV (aX slot_list_sort ⟨_,hoL,rfl⟩ entry_list_sort (Fv (s:={ s with heap:=((s.heap.push (seqObj "list" #[] 0)).update s.heap.objs.size (Obj.mapSeq (· ++ us.toArray))).push (seqObj "list" us.toArray 0) }) hoL (e.keeps keep) h64 (by
  rw [show A.in1.in1.units=A.units+2 from rfl];omega) fun ix a1 a2 a3=>⟨_,rfl,?_⟩) (args_list_sort _)))
 obtain⟨e1,he1⟩:=sortedAll_at s.heap us (ix.map fun i=>us.getD i Value.none).toArray;exact aA ⟨_,rfl,h _ ix e1 a1 a2 a3 (fun _ _=>sortedAll_old) he1⟩
def RP{l:AD}{us:List VL}{t:Tr}{Q:VL→SD→Prop}(hl:s.heap.IsTuple l us.toArray)(e:Vs s.heap t us)(h64:us.length<64)(hu:A.units+2+t.deep≤cLine)
 (h:∀(h':Heap) (ix:List Nat) (e1:Nat),ix.length=us.length→(∀i∈ix,i<us.length)→(ix.map fun i=>t.bs.getD i .nil)=(Tr.Be t.bs).reverse→(∀c o,s.heap.get? c=some o→h'.get? c=some o) →
   h'.get? (s.heap.objs.size+1)=some (seqObj "list" (ix.map fun i=>us.getD i Value.none).toArray e1)→Q (.ref (s.heap.objs.size+1)) { s with heap:=h' }) :
  wpAny (model prog w) A (call (.builtin "sorted") [.ref l]) Q E s:=by
 refine Calls.call_function_entry kind_sorted plain_sorted entry_sorted (args_sorted1 _) ?_;unfold Builtin.«sorted»;refine Wb (m:=checkCount "sorted" 1 1 _) (aA ?_);refine Wb (Po hl ?_ (by rw [sizeLine_eq];omega));refine Wb (wpAny_newList ?_ (by rw [sizeLine_eq];omega));have hsz:((s.heap.push (seqObj "list" #[] 0)).update s.heap.objs.size (Obj.mapSeq (· ++ us.toArray))).objs.size=s.heap.objs.size+1:=by
  rw [Heap.size_update,size_push']
 have hoL:(((s.heap.push (seqObj "list" #[] 0)).update s.heap.objs.size (Obj.mapSeq (· ++ us.toArray))).push (seqObj "list" us.toArray 0)).get? (s.heap.objs.size+1)=some (seqObj "list" us.toArray 0):=by
  rw [←hsz];exact aN _ rfl
 have keep:∀b o,s.heap.get? b=some o→o.cls=.type "tuple" →(((s.heap.push (seqObj "list" #[] 0)).update s.heap.objs.size (Obj.mapSeq (· ++ us.toArray))).push (seqObj "list" us.toArray 0)).get? b=some o:=fun b o q _=>by
  have hlt:b<s.heap.objs.size:=aF q;rw [Heap.get?_push_ne _ _ _ (by rw [hsz];exact aK (bM hlt)),Heap.get?_update_ne _ _ _ _ (aK hlt),Heap.get?_push_ne _ _ _ (aK hlt)];exact q
 show wpAny _ _ _ _ _ { s with heap:=((s.heap.push (seqObj "list" #[] 0)).update s.heap.objs.size (Obj.mapSeq (· ++ us.toArray))).push (seqObj "list" us.toArray 0) };rw [hsz];refine Wb (aV (aX slot_list_sort ⟨_,hoL,rfl⟩ entry_list_sort (Fv (s:={ s with heap:=((s.heap.push (seqObj "list" #[] 0)).update s.heap.objs.size (Obj.mapSeq (· ++ us.toArray))).push (seqObj "list" us.toArray 0) }) hoL (e.keeps keep) h64 (by
  rw [show A.in1.in1.units=A.units+2 from rfl];omega) fun ix a1 a2 a3=>⟨_,rfl,?_⟩) (args_list_sort _)))
 obtain⟨e1,he1⟩:=sortedAll_at s.heap us (ix.map fun i=>us.getD i Value.none).toArray;exact aA ⟨_,rfl,h _ ix e1 a1 a2 a3 (fun _ _=>sortedAll_old) he1⟩
end
end TH
namespace L2
open PySem PySem.Spec PyProof.Rows
def Vals.pick{xs:List V}{us:List VL}(r:Vals xs us):∀ix:List Nat,(∀i∈ix,i<xs.length)→Vals (ix.map fun i=>xs.getD i .BG) (ix.map fun i=>us.getD i Value.none)
 |[],_=>.nil
 |i::ix,h=>by
  refine .cons ?_ (Vals.pick r ix fun k hk=>h k (aP _ hk));have hi:=h i aR;obtain⟨u,h1,h2⟩:=r.get (i:=i) (x:=xs[i]) (by simp [hi]);show RelV (xs.getD i .BG) (us.getD i Value.none);rw [List.getD_eq_getElem?_getD,List.getD_eq_getElem?_getD,h1,List.getElem?_eq_getElem hi];exact h2
section
variable{X:Cx}
def Zj(K:Fg):List V→Hp→VK→Prop:=fun xs H Q=>∃(p:AD) (ys:List V) (t:Tr),xs=[.ref p]∧(AZ K H p ys∨Ag K H p ys)∧Ts H t ys∧ys.length<64∧t.deep≤60 ∧
 ∀(l:AD) (zs:List V),H l=none→Ts H (Tr.of (Tr.Be t.bs).reverse) zs→Q (.ref l) (upd H l (.lst zs))
def OU{pins:List (AD×Obj)}{σ:St}{H:Hp}{s:SD}{Q:VK}{t:Tr}{ts:List Tr}{ys:List V}{its:List VL}{h':Heap}{ix:List Nat}{e1:Nat}(I:Inv X pins σ H s)(ht:Ts H t ys)(rv:Vals ys its)(h64:ys.length<64)
 (a1:ix.length=its.length)(a2:∀i∈ix,i<its.length)(a3:(ix.map fun i=>t.bs.getD i .nil)=ts)(keep:∀c o,s.heap.get? c=some o→h'.get? c=some o)
 (hD:h'.get? (s.heap.objs.size+1)=some (seqObj "list" (ix.map fun i=>its.getD i Value.none).toArray e1))(q:∀(l:AD) (zs:List V),H l=none→Ts H (Tr.of ts) zs→Q (.ref l) (upd H l (.lst zs))) :
  EP X pins σ Q (.ref (s.heap.objs.size+1)) { s with heap:=h' }:=by
 have hl:=rv.length;have a2':∀i∈ix,i<ys.length:=fun i hi=>by rw [hl];exact a2 i hi
 refine⟨.ref (s.heap.objs.size+1),upd H (s.heap.objs.size+1) (.lst (ix.map fun i=>ys.getD i .BG)),I.laid (t':=s.toks) keep (Nat.le_succ _) ⟨?_,_,e1,rv.pick ix a2',hD⟩,rfl,q _ _ (I.Ah.fresh (Nat.le_succ _)) ?_⟩
 ·rw [List.length_map,a1,←hl];exact bE (aH h64 (by rw [sizeLine_eq];decide))
 ·rw [←a3];exact ht.pick ix a2'
def Sv(hu:X.A.units+64<cLine):Df X (.builtin "sorted") (Zj X.K):=by
 intro pins s σ H xs us Q I r h;obtain⟨p,ys,t,rfl,hq,ht,h64,hd,q⟩:=h;obtain⟨u,rfl,r1⟩:=r.one;cases r1;rcases hq with hq|hq
 ·obtain⟨its,rv,pl,hz⟩:=I.list hq;have hl:=rv.length;exact TH.Pw pl.isList (ht.vs I rv) (by omega) (by omega) fun h' ix e1 a1 a2 a3 keep hD=>OU I ht rv h64 a1 a2 a3 keep hD q
 ·obtain⟨its,rv,pl,hz⟩:=I.tuple hq;have hl:=rv.length;exact TH.RP (show s.heap.IsTuple p its.toArray from pl) (ht.vs I rv) (by omega) (by omega) fun h' ix e1 a1 a2 a3 keep hD=>OU I ht rv h64 a1 a2 a3 keep hD q
def Xl{e k:Expr}{te tk:TE}{pos p2:Pos}(he:PE X e te)(hk:PE X k tk):PE X (.Subscript e (.Slice none none (some k) p2) pos)
  (fun σ H Q=>te σ H fun x H1=>tk σ H1 fun z H2=>∃(a:AD) (xs:List V),x=.ref a∧z=.int (-1)∧AZ X.K H2 a xs∧∀p,H2 p=none→Q (.ref p) (upd H2 p (.lst xs.reverse))):=by
 intro pins s σ H Q I h;refine Subscript_ (Az (he pins s σ H _ I h) fun v s1 ⟨x,H1,I1,r1,q1⟩=>?_);refine wpAny_Slice ?_;rw [evalPart_none];refine aA ?_;refine aA ?_;rw [evalPart_some];refine Az (hk pins s1 σ H1 _ I1 q1) fun vk s3 ⟨z,H3,I3,r3,q3⟩=>?_;obtain⟨a,xs,rfl,rfl,hq,q⟩:=q3;cases r1;obtain⟨tk',rfl⟩:=r3;have I4:Inv X pins σ H3 { s3 with heap:=s3.heap.push { cls:=.type "slice",data:=.fields #[.none,.none,.int (-1) tk'] } }:=I3.kept (t':=s3.toks) fun b ob q=>aC _ q;obtain⟨its,rv,pl,hz⟩:=I4.list hq;have hlen:=rv.length;show wpAny (model X.prog X.w) X.A (subscriptTail e (.Slice none none (some k) p2) (.ref a) (.ref s3.heap.objs.size)) (EP X pins σ Q) X.xe { s3 with heap:=s3.heap.push { cls:=.type "slice",data:=.fields #[.none,.none,.int (-1) tk'] } };refine tail_any (ops:=[.ref a,.ref s3.heap.objs.size]) (T := "list") pl.isList.typeIs slot_list_getitem.lookup ?_ (by with_unfolding_all rfl);refine wpAny_getItem_list_slice pl.isList (Heap.IsSliceOf.new ..) .none .none (.int (-1) tk') (by decide) ?_ (by rw [List.size_toArray]<;>omega);rw [PySem.W.krv_pick];refine⟨.ref _,_,I4.laid (t':=s3.toks) (o:=.lst xs.reverse) (fun b ob q=>aC _ q) (aE _) ?_,rfl,q _ (I4.Ah.fresh (aE _))⟩;exact⟨by rw [List.length_reverse];exact hz,its.reverse,0,rv.reverse,Heap.get?_push_size _ rfl⟩
end
def CW(Pv:Nat→List V→Hp→Prop)(n:Nat)(D:AD):Nat→Nat→List V→Hp→Prop:=fun i m ys H=>m=n-i∧i≤n∧H D=some (.lst ys)∧Pv i ys H
def Ci{Pv:Nat→List V→Hp→Prop}{n i:Nat}{D:AD}{ys:List V}{y:V}{H:Hp}(hi:i<n)(p:Pv (i+1) (ys++[y]) (upd H D (.lst (ys++[y])))):∃m',m'<n-i∧CW Pv n D (i+1) m' (ys++[y]) (upd H D (.lst (ys++[y]))) :=
 ⟨n-(i+1),by omega,rfl,hi,AJ,p⟩
def WZ{Pv:Nat→List V→Hp→Prop}{n i:Nat}{D:AD}{ys:List V}{H:Hp}(hi:i<n)(hD:H D=some (.lst ys))(p:Pv (i+1) ys H):∃m',m'<n-i∧CW Pv n D (i+1) m' ys H:=⟨n-(i+1),by omega,rfl,hi,hD,p⟩
def Dq{J:It}{n:Nat}{D:AD}{H1:Hp}{fr:List (Option Nat)}{σ:St}{ix:Nat}{tif:TT}{te:TE}{G:Hp→Prop}(Pv:Nat→List V→Hp→Prop)(h0:Pv 0 [] (upd H1 D (.lst [])))
 (hgo:∀i ys H,i<n→Pv i ys H→H D=some (.lst ys)→J.go i H∧ys.length<sizeLine∧∀x H',J.DZ i H x H' →
   tif ((carry fr σ).set ix (some x)) H' fun b H2=>if b=true then te ((carry fr σ).set ix (some x)) H2 fun y H3=>H3 D=some (.lst ys)∧∃m',m'<n-i∧CW Pv n D (i+1) m' (ys++[y]) (upd H3 D (.lst (ys++[y])))
    else ∃m',m'<n-i∧CW Pv n D (i+1) m' ys H2)
 (hstop:∀ys H,Pv n ys H→H D=some (.lst ys)→J.stop n H∧G H) :
  ∃W:Nat→Nat→List V→Hp→Prop,(∃m,W 0 m [] (upd H1 D (.lst []))) ∧
   ∀i m ys H,W i m ys H→H D=some (.lst ys)∧((J.stop i H∧G H)∨(J.go i H∧ys.length<sizeLine∧∀x H',J.DZ i H x H' →
    tif ((carry fr σ).set ix (some x)) H' fun b H2=>if b=true then te ((carry fr σ).set ix (some x)) H2 fun y H3=>H3 D=some (.lst ys)∧∃m',m'<m∧W (i+1) m' (ys++[y]) (upd H3 D (.lst (ys++[y])))
     else ∃m',m'<m∧W (i+1) m' ys H2)):=by
 refine⟨CW Pv n D,⟨n,by simp,Nat.zero_le _,AJ,h0⟩,?_⟩;rintro i m ys H ⟨rfl,hi,hH,p⟩;refine⟨hH,?_⟩;by_cases hlt:i<n
 ·exact .inr (hgo i ys H hlt p hH)
 ·have e:i=n:=by omega
  subst e;exact .inl (hstop ys H p hH)
section
variable{X:Cx}
def Oa(hc:X.calm=true):Df X (.builtin "sum") (fun xs H Q=>∃(p:AD) (ns:List Int),xs=[.ref p]∧AZ X.K H p (ns.map V.int)∧Q (.int ns.sum) H):=by
 intro pins s σ H xs us Q I r h;obtain⟨p,ns,rfl,hq,q⟩:=h;obtain⟨u,rfl,r1⟩:=r.one;cases r1;obtain⟨its,rv,pl,hz⟩:=I.list hq;have hi:=intsAre_of rv;obtain⟨xs,hx⟩:=hi.allInts.items;have hl':s.heap.IsList p (intItems xs):=hx ▸ pl.isList
 refine sum_intListG (I.ok.hd hc) hl' fun h' tk t' hk=>?_;have e1:ns=xs.toList.map (·.1):=by
  rw [←nums_intItems,←hx];exact(show numsOf its.toArray.toList=ns from hi.numsOf).symm
 have e2:preSum (numAt xs) xs.size=ns.sum:=by
  rw [preSum_eq,List.take_of_length_le (by simp),e1]
 rw [e2];exact⟨.int _,H,I.kept (t':=tk) hk,⟨t',rfl⟩,q⟩
end
section
variable{X:Cx}{scope:Scope}{cl:List (Str×AD)}{N:List Str}{C:AD}{s₀:SD}{H₀:Hp}{fp:List AD}
def Jr:KJ (Ak X scope cl N C s₀ H₀ fp) (Ud X.K):=BS
end
mutual
def Dt(l:AD)(H:Hp):PD→V→Prop
 |.none,v=>v=.BG
 |.bool b,v=>v=.bl b
 |.int i,v=>v=.int i
 |.str x,v=>v=.str x
 |.tuple ds,v=>∃(a:AD) (xs:List V),v=.ref a∧a≠l∧H a=some (.tup xs)∧AY l H ds xs
 |.list ds,v=>∃(a:AD) (xs:List V),v=.ref a∧a≠l∧H a=some (.lst xs)∧AY l H ds xs
 |.dict _,_=>False
def AY(l:AD)(H:Hp):List PD→List V→Prop
 |[],xs=>xs=[]
 |d::ds,xs=>∃x r,xs=x::r∧Dt l H d x∧AY l H ds r
end
mutual
def Dt.but{l:AD}{H H':Hp}(e:SameBut l H H'):∀ {d:PD} {v:V},Dt l H d v→Dt l H' d v
 |.none,_,h=>by rw [Dt]at h ⊢;exact h
 |.bool _,_,h=>by rw [Dt]at h ⊢;exact h
 |.int _,_,h=>by rw [Dt]at h ⊢;exact h
 |.str _,_,h=>by rw [Dt]at h ⊢;exact h
 |.tuple _,_,h=>by
  rw [Dt]at h ⊢;obtain⟨a,xs,e1,n,h1,h2⟩:=h;exact⟨a,xs,e1,n,e _ _ n h1,AY.but e h2⟩
 |.list _,_,h=>by
  rw [Dt]at h ⊢;obtain⟨a,xs,e1,n,h1,h2⟩:=h;exact⟨a,xs,e1,n,e _ _ n h1,AY.but e h2⟩
 |.dict _,_,h=>by rw [Dt]at h;exact h.elim
def AY.but{l:AD}{H H':Hp}(e:SameBut l H H'):∀ {ds:List PD} {xs:List V},AY l H ds xs→AY l H' ds xs
 |[],_,h=>by rw [AY]at h ⊢;exact h
 |_::_,_,h=>by
  rw [AY]at h ⊢;obtain⟨x,r,e1,h1,h2⟩:=h;exact⟨x,r,e1,Dt.but e h1,AY.but e h2⟩
end
def Dt.same{l:AD}{H H':Hp}{d:PD}{v:V}(h:Dt l H d v)(e:AH H H'):Dt l H' d v:=Dt.but (.of e) h
def AY.same{l:AD}{H H':Hp}{d:List PD}{v:List V}(h:AY l H d v)(e:AH H H'):AY l H' d v:=AY.but (.of e) h
mutual
def Dt.br{K:Fg}{l:AD}{H:Hp}:∀ {d:PD} {v:V},Dt l H d v→Br K H d v
 |.none,_,h=>by rw [Dt]at h;rw [Br];exact h
 |.bool _,_,h=>by rw [Dt]at h;rw [Br];exact h
 |.int _,_,h=>by rw [Dt]at h;rw [Br];exact h
 |.str _,_,h=>by rw [Dt]at h;rw [Br];exact h
 |.tuple _,_,h=>by
  rw [Dt]at h;rw [Br];obtain⟨a,xs,e1,n,h1,h2⟩:=h;exact⟨a,xs,e1,Ag.of h1,AY.br h2⟩
 |.list _,_,h=>by
  rw [Dt]at h;rw [Br];obtain⟨a,xs,e1,n,h1,h2⟩:=h;exact⟨a,xs,e1,AZ.of h1,AY.br h2⟩
 |.dict _,_,h=>by rw [Dt]at h;exact h.elim
def AY.br{K:Fg}{l:AD}{H:Hp}:∀ {ds:List PD} {xs:List V},AY l H ds xs→CV K H ds xs
 |[],_,h=>by rw [AY]at h;rw [CV];exact h
 |_::_,_,h=>by
  rw [AY]at h;rw [CV];obtain⟨x,r,e1,h1,h2⟩:=h;exact⟨x,r,e1,Dt.br h1,AY.br h2⟩
end
def AY.len{l:AD}{H:Hp}:∀ {ds:List PD} {xs:List V},AY l H ds xs→xs.length=ds.length
 |[],_,h=>by rw [AY]at h;rw [h];rfl
 |_::_,_,h=>by
  rw [AY]at h;obtain⟨x,r,rfl,_,h2⟩:=h;rw [List.length_cons,List.length_cons,AY.len h2]
def AY.get{l:AD}{H:Hp}:∀ {ds:List PD} {xs:List V} {i:Nat} {v:V},AY l H ds xs→xs[i]? = some v→∃d,ds[i]? = some d∧Dt l H d v
 |[],_,i,v,h,e=>by rw [AY]at h;subst h;simp at e
 |d::ds,_,i,v,h,e=>by
  rw [AY]at h;obtain⟨x,r,rfl,h1,h2⟩:=h;cases i with
  |zero=>simp at e;subst e;exact⟨d,rfl,h1⟩
  |succ i =>
   obtain⟨c,q1,q2⟩:=h2.get (i:=i) (v:=v) (by simpa using e);exact⟨c,by simpa using q1,q2⟩
def AY.nil{l:AD}{H:Hp}:AY l H [] []:=by rw [AY]
def AY.cons{l:AD}{H:Hp}{d:PD}{ds:List PD}{x:V}{xs:List V}(h:Dt l H d x)(k:AY l H ds xs):AY l H (d::ds) (x::xs):=by
 rw [AY];exact⟨x,xs,rfl,h,k⟩
def AY.app{l:AD}{H:Hp}:∀ {ds es:List PD} {xs ys:List V},AY l H ds xs→AY l H es ys→AY l H (ds++es) (xs++ys)
 |[],_,_,_,h,k=>by rw [AY]at h;subst h;exact k
 |d::ds,es,_,ys,h,k=>by
  rw [AY]at h;obtain⟨x,r,rfl,h1,h2⟩:=h;exact .cons h1 (h2.app k)
def Dt.int{l:AD}{H:Hp}{i:Int}:Dt l H (.int i) (.int i):=by rw [Dt]
def Dt.bool{l:AD}{H:Hp}{b:Bool}:Dt l H (.bool b) (.bl b):=by rw [Dt]
def Dt.BG{l:AD}{H:Hp}:Dt l H .none .BG:=by rw [Dt]
def Dt.str{l:AD}{H:Hp}{x:Str}:Dt l H (.str x) (.str x):=by rw [Dt]
def Dt.tup{l a:AD}{H:Hp}{ds:List PD}{xs:List V}(n:a≠l)(h:H a=some (.tup xs))(k:AY l H ds xs):Dt l H (.tuple ds) (.ref a):=by rw [Dt];exact⟨a,xs,rfl,n,h,k⟩
def Dt.lst{l a:AD}{H:Hp}{ds:List PD}{xs:List V}(n:a≠l)(h:H a=some (.lst xs))(k:AY l H ds xs):Dt l H (.list ds) (.ref a):=by rw [Dt];exact⟨a,xs,rfl,n,h,k⟩
def Ok(n:Nat)(d:PD):Prop:=d.canLay0=true∧d.depth≤n
def D9(n:Nat)(ds:List PD):Prop:=PyData.canLayAll0 ds=true∧PyData.depthAll ds≤n
def Ok.shaped{n:Nat}{d:PD}(h:Ok n d)(hn:n≤64):SeqAt.shaped d=true:=by
 unfold SeqAt.shaped;rw [h.1,Bool.true_and];exact bP (aM h.2 hn)
def D9.nil{n:Nat}:D9 n []:=⟨by simp [PyData.canLayAll0],by simp [PyData.depthAll]⟩
def D9.cons{n:Nat}{d:PD}{ds:List PD}(h:Ok n d)(k:D9 n ds):D9 n (d::ds):=⟨by simp [PyData.canLayAll0,h.1,k.1],by simp only [PyData.depthAll];exact Nat.max_le.mpr ⟨h.2,k.2⟩⟩
def D9.of{n:Nat}:∀ {ds:List PD},(∀d∈ds,Ok n d)→D9 n ds
 |[],_=>.nil
 |d::ds,h=>.cons (h d aR) (D9.of fun e he=>h e (aP _ he))
def Ok.tup{n:Nat}{ds:List PD}(h:D9 n ds):Ok (n+1) (.tuple ds):=⟨by simp only [PyData.canLay0];exact h.1,by simp only [PyData.depth];exact Nat.succ_le_succ h.2⟩
def Ok.lst{n:Nat}{ds:List PD}(h:D9 n ds):Ok (n+1) (.list ds):=⟨by simp only [PyData.canLay0];exact h.1,by simp only [PyData.depth];exact Nat.succ_le_succ h.2⟩
def Ok.int{n:Nat}{i:Int}:Ok n (.int i):=⟨by simp [PyData.canLay0],by simp [PyData.depth]⟩
def Ok.bool{n:Nat}{b:Bool}:Ok n (.bool b):=⟨by simp [PyData.canLay0],by simp [PyData.depth]⟩
def Ok.BG{n:Nat}:Ok n .none:=⟨by simp [PyData.canLay0],by simp [PyData.depth]⟩
def Ok.str{n:Nat}{x:Str}(h:PyData.strOk x=true):Ok n (.str x):=⟨by simp [PyData.canLay0,h],by simp [PyData.depth]⟩
mutual
def FF:∀d:PD,d.canLay0=true→PyData.eqv d d=true
 |.none,_=>by simp [PyData.eqv]
 |.bool _,_=>by simp [PyData.eqv]
 |.int _,_=>by simp [PyData.eqv]
 |.str _,_=>by simp [PyData.eqv]
 |.tuple ds,h=>by simp only [PyData.eqv];exact HJ ds (by simpa only [PyData.canLay0]using h)
 |.list ds,h=>by simp only [PyData.eqv];exact HJ ds (by simpa only [PyData.canLay0]using h)
 |.dict _,h=>by simp [PyData.canLay0]at h
def HJ:∀ds:List PD,PyData.canLayAll0 ds=true→PyData.eqvAll ds ds=true
 |[],_=>by simp [PyData.eqvAll]
 |d::ds,h=>by
  simp only [PyData.canLayAll0,Bool.and_eq_true]at h;simp only [PyData.eqvAll,FF d h.1,HJ ds h.2,Bool.and_self]
end
def Kl:PD→String
 |.none => "NoneType"
 |.bool _ => "bool"
 |.int _ => "int"
 |.str _ => "str"
 |.tuple _ => "tuple"
 |.list _ => "list"
 |.dict _ => "dict"
def Dt.ty{K:Fg}{l:AD}{H:Hp}:∀ {d:PD} {v:V},Dt l H d v→Dy K H v (.type (Kl d))
 |.none,_,h=>by rw [Dt]at h;subst h;exact .BG
 |.bool _,_,h=>by rw [Dt]at h;subst h;exact .bl _
 |.int _,_,h=>by rw [Dt]at h;subst h;exact .int _
 |.str _,_,h=>by rw [Dt]at h;subst h;exact .str _
 |.tuple _,_,h=>by rw [Dt]at h;obtain⟨a,xs,rfl,_,h1,_⟩:=h;exact .tup h1
 |.list _,_,h=>by rw [Dt]at h;obtain⟨a,xs,rfl,_,h1,_⟩:=h;exact .lst h1
 |.dict _,_,h=>by rw [Dt]at h;exact h.elim
def C4:PD→Bool
 |.tuple _=>true
 |_=>false
def Cf:PD→Bool
 |.list _=>true
 |_=>false
def Fd:PD→Bool
 |.int _=>true
 |.bool _=>true
 |_=>false
def EW:PD→Bool
 |.bool _=>true
 |_=>false
def K5(K:Fg):∀d:PD,(∀kv,d≠.dict kv)→PySem.W.kitOne K (.type (Kl d)) (.type "tuple")=some (C4 d)
 |.none,_=>YN K
 |.bool _,_=>X4 K
 |.int _,_=>Y7 K
 |.str _,_=>Yy K
 |.tuple _,_=>SJ K
 |.list _,_=>YQ K
 |.dict kv,h=>absurd rfl (h kv)
def PB(K:Fg):∀d:PD,(∀kv,d≠.dict kv)→PySem.W.kitOne K (.type (Kl d)) (.type "list")=some (Cf d)
 |.none,_=>Xa K
 |.bool _,_=>XW K
 |.int _,_=>Y8 K
 |.str _,_=>YH K
 |.tuple _,_=>Ye K
 |.list _,_=>Xe K
 |.dict kv,h=>absurd rfl (h kv)
def Y1(K:Fg):PySem.W.kitOne K (.type "NoneType") (.type "bool")=some false:=by kernel_rfl
def XA(K:Fg):PySem.W.kitOne K (.type "str") (.type "bool")=some false:=by kernel_rfl
def X1(K:Fg):PySem.W.kitOne K (.type "tuple") (.type "bool")=some false:=by kernel_rfl
def W2(K:Fg):PySem.W.kitOne K (.type "list") (.type "bool")=some false:=by kernel_rfl
def OX(K:Fg):∀d:PD,(∀kv,d≠.dict kv)→PySem.W.kitOne K (.type (Kl d)) (.type "int")=some (Fd d)
 |.none,_=>ZA K
 |.bool _,_=>Ys K
 |.int _,_=>Xg K
 |.str _,_=>W6 K
 |.tuple _,_=>YA K
 |.list _,_=>XZ K
 |.dict kv,h=>absurd rfl (h kv)
def NU(K:Fg):∀d:PD,(∀kv,d≠.dict kv)→PySem.W.kitOne K (.type (Kl d)) (.type "bool")=some (EW d)
 |.none,_=>Y1 K
 |.bool _,_=>Y6 K
 |.int _,_=>Xo K
 |.str _,_=>XA K
 |.tuple _,_=>X1 K
 |.list _,_=>W2 K
 |.dict kv,h=>absurd rfl (h kv)
def Dt.nodict{l:AD}{H:Hp}{d:PD}{v:V}(h:Dt l H d v):∀kv,d≠.dict kv:=fun kv z=>by subst z;rw [Dt]at h;exact h
end L2
namespace Tr
def Tf{b r:Tr}:(cons b r).B6=true ↔ b.B6=true∧r.B6=true∧∀c,r.bs[0]? = some c→lt b c=false:=by
 cases r with
 |nil=>simp [bs,B6]
 |cons c q =>
  rw [show(cons b (cons c q)).B6=(b.B6&&(cons c q).B6 && !lt b c) from rfl];simp only [Bool.and_eq_true,Bool.not_eq_true',bs,List.getElem?_cons_zero,Option.some.injEq,forall_eq',and_assoc]
def Kw:∀t:Tr,t.B6=true ↔ (∀c∈t.bs,c.B6=true)∧∀(i:Nat) (a b:Tr),t.bs[i]? = some a→t.bs[i+1]? = some b→lt a b=false
 |.nil=>by simp [B6,bs]
 |.cons b r=>by
  rw [Tf,Kw r,bs,List.forall_mem_cons];constructor
  ·rintro⟨h1,⟨h2,h3⟩,h4⟩;refine⟨⟨h1,h2⟩,fun i x y ex ey=>?_⟩;cases i with
   |zero=>simp at ex;subst ex;exact h4 y (by simpa using ey)
   |succ i=>exact h3 i x y (by simpa using ex) (by simpa using ey)
  ·rintro⟨⟨h1,h2⟩,h3⟩;exact⟨h1,⟨h2,fun i x y ex ey=>h3 (i+1) x y (by simpa using ex) (by simpa using ey)⟩,fun c hc=>h3 0 b c rfl (by simpa using hc)⟩
def Hz{t c:Tr}(h:c∈t.bs):c.deep<t.deep:=by
 induction t with
 |nil=>cases h
 |cons b r _ ih =>
  rw [bs]at h;have hd:(cons b r).deep=max (b.deep+1) r.deep:=rfl;rcases aL.mp h with rfl|h
  ·omega
  ·have:=ih h;omega
def Bx:∀t:Tr,0<t.AX
 |.nil=>Nat.one_pos
 |.cons b r=>by rw [AX];have:=Bx b;omega
def Gs{t c:Tr}(h:c∈t.bs):c.AX<t.AX:=by
 induction t with
 |nil=>cases h
 |cons b r _ ih =>
  rw [bs]at h;have hk:(cons b r).AX=b.AX+r.AX:=rfl;have h3:=Bx b;have h4:=Bx r;rcases aL.mp h with rfl|h
  ·omega
  ·have:=ih h;omega
def NM:∀t:Tr,1+(t.bs.map fun c=>(c.AX:Int)).sum=(t.AX:Int)
 |.nil=>rfl
 |.cons b r=>by
  rw [bs,List.map_cons,List.sum_cons,AX];have:=NM r;omega
def JE:∀t:Tr,t.bs.length<t.AX
 |.nil=>Nat.one_pos
 |.cons b r=>by
  rw [bs,List.length_cons,AX];have:=JE r;have:=Bx b;omega
end Tr
namespace L2
open PySem PySem.Spec PyProof.Rows
def leaf:PD→Prop
 |.none=>True
 |.bool _=>True
 |.int _=>True
 |.str x=>PyData.strOk x=true
 |_=>False
def Sm:Nat→PD→Prop
 |0,d=>leaf d
 |n+1,d=>leaf d∨∃ds,(d=.tuple ds∨d=.list ds)∧ds.length≤60∧∀e∈ds,Sm n e
def leaf.ok{n:Nat}:∀ {d:PD},leaf d→Ok n d
 |.none,_=>.BG
 |.bool _,_=>.bool
 |.int _,_=>.int
 |.str _,h=>.str h
def leaf.sm{n:Nat}{d:PD}(h:leaf d):Sm n d:=by
 cases n with
 |zero=>exact h
 |succ n=>exact .inl h
def Sm.ok:∀ {n:Nat} {d:PD},Sm n d→Ok n d
 |0,_,h=>leaf.ok h
 |n+1,d,h=>by
  rcases h with h|⟨ds,h1,_,h2⟩
  ·exact h.ok
  ·have:=D9.of fun e he=>(h2 e he).ok;rcases h1 with rfl|rfl
   ·exact .tup this
   ·exact .lst this
def Sm.up:∀ {n:Nat} {d:PD},Sm n d→Sm (n+1) d
 |0,_,h=>.inl h
 |n+1,d,h=>by
  rcases h with h|⟨ds,h1,h2,h3⟩
  ·exact .inl h
  ·exact .inr ⟨ds,h1,h2,fun e he=>(h3 e he).up⟩
def Sm.tup{n:Nat}{ds:List PD}(h:ds.length≤60)(k:∀e∈ds,Sm n e):Sm (n+1) (.tuple ds):=.inr ⟨ds,.inl rfl,h,k⟩
def Sm.lst{n:Nat}{ds:List PD}(h:ds.length≤60)(k:∀e∈ds,Sm n e):Sm (n+1) (.list ds):=.inr ⟨ds,.inr rfl,h,k⟩
mutual
def IU:PD→Option Tr
 |.tuple ds=>II ds
 |_=>none
def II:List PD→Option Tr
 |[]=>some .nil
 |d::ds=>(IU d).bind fun b=>(II ds).map fun r=>.cons b r
end
section
variable{X:Cx}
def Zx:R2:=fun x y H Q=>∃a b xs ys,x=.ref a∧y=.ref b∧H a=some (.tup xs)∧H b=some (.tup ys)∧xs.length+ys.length≤sizeLine∧∀p H',AH H H'→H' p=some (.tup (xs++ys))→Q (.ref p) H'
def WB:Bm X (binaryOp .Add) Zx:=by
 intro pins s σ H x y v u Q I rx ry h;obtain⟨a,b,xs,ys,rfl,rfl,ha,hb,hz,q⟩:=h;cases rx;cases ry;obtain⟨its,r1,p1,_⟩:=I.tuple (Ag.of (K:=X.K) ha);obtain⟨its2,r2,p2,_⟩:=I.tuple (Ag.of (K:=X.K) hb);by_cases hv:its=[]
 ·have hx:=r1.Ql.mp hv;subst hv hx;obtain⟨⟨cls,dd,data,sl⟩,ho,hc,n,hd⟩:=id p1;obtain⟨⟨cls2,dd2,data2,sl2⟩,ho2,hc2,n2,hd2⟩:=id p2;simp only at hc hd hc2 hd2;subst hc hd hc2 hd2;exact concat_meets ⟨_,ho,rfl⟩ ⟨_,ho2,rfl⟩ noFill_tuple_add seq_tuple_add PySem.F.slot_tuple_add PySem.F.entry_tuple_add (PySem.F.args_tuple_add_2 _ _)
   (tuple_addW0 a b _ _ n n2 dd dd2 sl sl2 (by simp)) ⟨ho,ho2,⟨.ref b,H,I,rfl,q b H (.refl H) (by simpa using hb)⟩⟩
 ·refine HT.Vx p1 p2 hv (fun z=>?_) (fun z=>?_) (by rw [←r1.length,←r2.length];exact hz)
  ·have hy:=r2.Ql.mp z;subst hy;exact⟨.ref a,H,I,rfl,q a H (.refl H) (by simpa using ha)⟩
  ·refine⟨.ref s.heap.objs.size,_,I.laid (t':=s.toks) (o:=.tup (xs++ys)) (fun b ob q=>aC _ q) (aE _) ?_,rfl,q _ _ (AU (I.Ah.fresh (aE _)) _) AJ⟩;exact⟨by rw [List.length_append];exact hz,_,r1.append r2,IsTup.new _ _⟩
end
section
variable{P:Program}{w:World}{K:Fg}{mg:Str→Option VL}{base:Heap}{NN:List Str}{qual:Str}{fsc:Scope}{f:AD}{cd:VL}{A:Around}{outer:List Env}{s:SD}{H:Hp}{E:XK}
 {elt iter:Expr}{x:Str}{px pos:Pos}{ifs:List Expr}{scope:Scope}{wi:TI}{fr:List (Option Nat)}{ix:Nat}{tif:TT}{te:TE}{N:List Str}{pins pins0:List (AD×Obj)}{σ σ0:St}
end
end L2
namespace Tim
open PySem PyProof.Rows
section pure
variable(N:Nat)(lt:Nat→Nat→Bool)
end pure
section
variable{prog:Program}{w:World}{A:Around}{E:VL→SD→Prop}{s:SD}{N:Nat}{lt:Nat→Nat→Bool}{κ:SortKind}{it:Nat→Keyed}
variable{p:Array Nat}{pend:Array (Nat×Nat×Nat)}{g:Nat}
section pure
variable(N:Nat)(lt:Nat→Nat→Bool)(a b:Array Nat)
end pure
section pure
variable(N:Nat)(lt:Nat→Nat→Bool)
end pure
end
end Tim
set_option maxHeartbeats 0
set_option maxHeartbeats 4000000
namespace L2
open PySem PySem.Spec PyProof.Rows
variable{B B':AD→Prop}
abbrev Si(x y:Str)(px py:Pos)(tk:Nat)(tp:Pos):Expr:=.Tuple [.Name x px,.Name y py] tk tp
def Vr{ix iy:Nat}(h:ix≠iy)(σ:St)(a b c d:Option V):((((σ.set ix a).set iy b).set ix c).set iy d)=(σ.set ix c).set iy d:=by
 rw [List.set_comm _ _ h.symm,List.set_set,List.set_set]
def TM(K:Fg)(wi:TI)(fr:List (Option Nat))(ix iy:Nat)(tif:TT)(te:TE):TE:=fun σ H Q=>wi σ H fun J H1=>∀D,H1 D=none→∃W:Nat→Nat→List V→Hp→Prop,(∃m,W 0 m [] (upd H1 D (.lst []))) ∧
 ∀i m ys H,W i m ys H→H D=some (.lst ys)∧((J.stop i H∧Q (.ref D) H)∨(J.go i H∧ys.length<sizeLine∧∀x H',J.DZ i H x H'→∃a v1 v2,x=.ref a∧Ag K H' a [v1,v2] ∧
  tif (((carry fr σ).set ix (some v1)).set iy (some v2)) H' fun b H2=>if b=true then te (((carry fr σ).set ix (some v1)).set iy (some v2)) H2 fun y H3=>H3 D=some (.lst ys)∧∃m',m'<m∧W (i+1) m' (ys++[y]) (upd H3 D (.lst (ys++[y])))
   else ∃m',m'<m∧W (i+1) m' ys H2))
section
variable{X:Cx}{elt iter:Expr}{x y:Str}{px py tp pos:Pos}{tk:Nat}{ifs:List Expr}{scope:Scope}{wi:TI}{fr:List (Option Nat)}{ix iy:Nat}{tif:TT}{te:TE}{N:List Str}
def Pp{pins:List (AD×Obj)}{σ:St}{H2:Hp}{s2:SD}{Q:VK}{it:AD}{fp:List AD}{tn:Nat→Heap→Prop}{J:It}{cl:List (Str×AD)}{E:VL→SD→Prop}{RR:VL→AD→Result→SD→Prop}
 (S:CO scope N x ix)(S2:CO scope N y iy)(hxy:ix≠iy)(hcalm:X.calm=true)(hfr:EH N X.N scope X.env.scope fr 0=true)(hlen:fr.length=N.length)
 (hif:∀cl C s₀ H₀ fp,Ip (Ak X scope cl N C s₀ H₀ fp) ifs tif)(he:∀cl C s₀ H₀ fp,PE (Ak X scope cl N C s₀ H₀ fp) elt te)
 (I2:Inv X pins σ H2 s2)(T:Turn X.prog X.w X.K (Si x y px py tk tp) J fp it tn)(st2:tn 0 s2.heap)(f2:∀b∈fp,HD X pins H2 b)
 (c1:∀x c,cl.lookup x=some c→X.env.cells.lookup x=some c)(c2:∀x∈scope.names,x.2=NameKind.free→∃c,cl.lookup x.1=some c)
 (W:∀D,H2 D=none→∃W:Nat→Nat→List V→Hp→Prop,(∃m,W 0 m [] (upd H2 D (.lst []))) ∧
   ∀i m ys H,W i m ys H→H D=some (.lst ys)∧((J.stop i H∧Q (.ref D) H)∨(J.go i H∧ys.length<sizeLine∧∀x H',J.DZ i H x H'→∃a v1 v2,x=.ref a∧Ag X.K H' a [v1,v2] ∧
    tif (((carry fr σ).set ix (some v1)).set iy (some v2)) H' fun b H2=>if b=true then te (((carry fr σ).set ix (some v1)).set iy (some v2)) H2 fun y H3=>H3 D=some (.lst ys)∧∃m',m'<m∧W (i+1) m' (ys++[y]) (upd H3 D (.lst (ys++[y])))
     else ∃m',m'<m∧W (i+1) m' ys H2)))
 (fin:∀(D C:AD) (s':SD) (H':Hp) m,s'.heap.Ns C m→Q (.ref D) H'→(∀h',Heap.SameBut C s'.heap h'→Inv X pins σ H' { s' with heap:=h' })→C≠D→(∀b o,s2.heap.get? b=some o→b≠C)→H' C=none→s2.heap.objs.size≤C→RR (.ref D) C (.ok .next) s') :
  wpAny (model X.prog X.w) X.A (newList []) (fun acc s₃=>wpAny (model X.prog X.w) X.A (newFunctionEnv scope X.env.globals cl [] X.env.qual none .none (some X.env)) (fun cenv s₄ =>
   codeAny (model X.prog X.w) X.A (.compStart (.ListComp elt [⟨Si x y px py tk tp,iter,ifs,0⟩] scope pos) 0 (.ref it) acc { cenv with scope:=relabel scope X.env }) (RR acc cenv.locals) s₄) E s₃) E s2:=by
 have hxv:(relabel scope X.env).names.lookup x=some .local:=lookup_relabel_local S.loc;have hyv:(relabel scope X.env).names.lookup y=some .local:=lookup_relabel_local S2.loc;refine KU (g:=YC X.K 2 (Qw (Ee ix) (Qw (Ee iy) Xk))) S hcalm (fun σ'=>∀v w,(σ'.set ix v).set iy w=((carry fr σ).set ix v).set iy w) (fun _ _=>rfl) (fun C=>Lu (X:=Ak X scope cl N C s2 H2 fp) hcalm (DQ (A7 (X:=Ak X scope cl N C s2 H2 fp) S.nd S.at_ (.inl hxv) (.inr hxv)) (DQ (A7 (X:=Ak X scope cl N C s2 H2 fp) S2.nd S2.at_ (.inl hyv) (.inr hyv)) Jq))) hfr hlen hif he I2 T st2 f2 c1 c2 (fun D hD=>?_) fin;obtain⟨W,w0,st⟩:=W D hD;refine⟨W,w0,fun i m ys H w=>?_⟩;obtain⟨h1,h2|⟨h2,h3,h4⟩⟩:=st i m ys H w
 ·exact⟨h1,.inl h2⟩
 ·refine⟨h1,.inr ⟨h2,h3,fun x H' hy σ' hr=>?_⟩⟩;obtain⟨a,v1,v2,rfl,hs,q⟩:=h4 x H' hy;rw [←hr]at q;exact⟨a,[v1,v2],rfl,hs,rfl,v1,[v2],rfl,v2,[],rfl,rfl,fun v w=>by rw [Vr hxy,hr],q⟩
def Ub(S:CO scope N x ix)(S2:CO scope N y iy)(hxy:ix≠iy)(hcalm:X.calm=true)(hfr:EH N X.N scope X.env.scope fr 0=true)(hlen:fr.length=N.length)(hfree:∀y∈scope.names,y.2=.free→X.env.scope.names.lookup y.1=some .cell∨X.env.scope.names.lookup y.1=some .free)
 (hi:PI X (Si x y px py tk tp) iter wi)(hif:∀cl C s₀ H₀ fp,Ip (Ak X scope cl N C s₀ H₀ fp) ifs tif)(he:∀cl C s₀ H₀ fp,PE (Ak X scope cl N C s₀ H₀ fp) elt te)
 (hs:∀x,foldedSetIterable iter X.env x=pure x:=by intro _;rfl):PE X (.ListComp elt [⟨Si x y px py tk tp,iter,ifs,0⟩] scope pos) (TM X.K wi fr ix iy tif te):=by
 intro pins s σ H Q I hw;obtain⟨cl,hclos,c1,_,c2⟩:=Et (env:=X.env) scope.names [] (fun y hy hf=>I.ok.has y.1 (hfree y hy hf)) (fun y c z=>by cases z);have hclos':closureFor scope X.env=pure cl:=by
  have e:closureFor scope X.env=((forIn scope.names [] (fun(x:Str×NameKind) (r:List (Str×AD))=>do if(x.2==NameKind.free)=true then do let a ←cellOf X.env x.1;pure (ForInStep.yield ((x.1,a)::r)) else pure (ForInStep.yield r)):Sem (List (Str×AD)))>>=fun cs=>pure cs):=rfl;rw [e,hclos]
  rfl
 rw [eval_ListComp];refine wpAny_comprehension_free (use:=none) rfl hs hclos' S.kind S.names (Az (hi pins s σ H _ I hw) fun v s1 h1=>Az h1 fun itv s2 h2=>?_);obtain⟨it,fp,tn,J,H2,e,I2,T,st2,f2,W⟩:=h2;subst e;refine Pp (RR:=fun acc C=>compPost (model X.prog X.w) X.A X.xe none (EP X pins σ Q) acc C) S S2 hxy hcalm hfr hlen hif he I2 T st2 f2 c1 c2 W ?_;intro D C s' H' m hn q hI _ _ _ _;exact⟨m,hn,fun h' hs'=>⟨.ref D,H',hI h' hs',rfl,q⟩⟩
end
section
variable{X:Cx}{elt iter:Expr}{x y:Str}{px py tp pos:Pos}{tk:Nat}{ifs:List Expr}{scope:Scope}{wi:TI}{tif:TT}{te:TE}
def NK(N:List Str)(ix iy:Nat)(fr:List (Option Nat))(hi:PI X (Si x y px py tk tp) iter wi)(hif:∀cl C s₀ H₀ fp,Ip (Ak X scope cl N C s₀ H₀ fp) ifs tif)(he:∀cl C s₀ H₀ fp,PE (Ak X scope cl N C s₀ H₀ fp) elt te)
 (h1:CQ scope N x ix=true:=by decide +kernel)(h1':CQ scope N y iy=true:=by decide +kernel)(hxy:ix≠iy:=by decide)(h2:X.calm=true:=by rfl)(h3:EH N X.N scope X.env.scope fr 0=true:=by rfl)(h4:fr.length=N.length:=by rfl)(h5:freeOk X.env.scope scope.names=true:=by rfl)
 (hs:∀x,foldedSetIterable iter X.env x=pure x:=by intro _;rfl):PE X (.ListComp elt [⟨.Tuple [.Name x px,.Name y py] tk tp,iter,ifs,0⟩] scope pos) (TM X.K wi fr ix iy tif te) :=
 Ub (Ep h1) (Ep h1') hxy h2 h3 h4 (Jb h5) hi hif he hs
end
def OT{K:Fg}{J:It}{n:Nat}{D:AD}{H1:Hp}{fr:List (Option Nat)}{σ:St}{ix iy:Nat}{tif:TT}{te:TE}{G:Hp→Prop}(Pv:Nat→List V→Hp→Prop)(h0:Pv 0 [] (upd H1 D (.lst [])))
 (hgo:∀i ys H,i<n→Pv i ys H→H D=some (.lst ys)→J.go i H∧ys.length<sizeLine∧∀x H',J.DZ i H x H'→∃a v1 v2,x=.ref a∧Ag K H' a [v1,v2] ∧
   tif (((carry fr σ).set ix (some v1)).set iy (some v2)) H' fun b H2=>if b=true then te (((carry fr σ).set ix (some v1)).set iy (some v2)) H2 fun y H3=>H3 D=some (.lst ys)∧∃m',m'<n-i∧CW Pv n D (i+1) m' (ys++[y]) (upd H3 D (.lst (ys++[y])))
    else ∃m',m'<n-i∧CW Pv n D (i+1) m' ys H2)
 (hstop:∀ys H,Pv n ys H→H D=some (.lst ys)→J.stop n H∧G H) :
  ∃W:Nat→Nat→List V→Hp→Prop,(∃m,W 0 m [] (upd H1 D (.lst []))) ∧
   ∀i m ys H,W i m ys H→H D=some (.lst ys)∧((J.stop i H∧G H)∨(J.go i H∧ys.length<sizeLine∧∀x H',J.DZ i H x H'→∃a v1 v2,x=.ref a∧Ag K H' a [v1,v2] ∧
    tif (((carry fr σ).set ix (some v1)).set iy (some v2)) H' fun b H2=>if b=true then te (((carry fr σ).set ix (some v1)).set iy (some v2)) H2 fun y H3=>H3 D=some (.lst ys)∧∃m',m'<m∧W (i+1) m' (ys++[y]) (upd H3 D (.lst (ys++[y])))
     else ∃m',m'<m∧W (i+1) m' ys H2)):=by
 refine⟨CW Pv n D,⟨n,by simp,Nat.zero_le _,AJ,h0⟩,?_⟩;rintro i m ys H ⟨rfl,hi,hH,p⟩;refine⟨hH,?_⟩;by_cases hlt:i<n
 ·exact .inr (hgo i ys H hlt p hH)
 ·have:i=n:=by omega
  subst this;exact .inl (hstop ys H p hH)
end L2
namespace ZT
open PySem PyProof.Rows
structure Apart(z TI TO i1 i2:Addr)(f1 f2:List Addr):Prop where
 a1:TI≠z∧TI≠TO∧TI≠i1∧TI≠i2
 a2:TO≠z∧TO≠i1∧TO≠i2
 a3:i1≠z∧i2≠z∧i1≠i2
 b1:z ∉ f1∧TO ∉ f1∧i2 ∉ f1
 b2:z ∉ f2∧TO ∉ f2∧i1 ∉ f2
section
variable{prog:Program}{w:World}{A:Around}{E:VL→SD→Prop}{s:SD}{z TI TO i1 i2:AD}{f1 f2:List AD}{n1 n2 k:Nat}{P1 P2:Nat→VL→Prop}{S1 S2:Nat→Heap→Prop}{a b:VL}
def CH{f:List AD}{x:AD}{h h':Heap}(hx:x ∉ f)(e:Heap.SameBut x h h'):∀c∈f,∀o,h.get? c=some o→h'.get? c=some o:=fun c hc o q=>(e.2 c fun y=>hx (y ▸ hc)).trans q
def item{Q:VL→SD→Prop}(D1:Draws prog w A i1 f1 n1 P1 S1)(D2:Draws prog w A i2 f2 n2 P2 S2)(ap:Apart z TI TO i1 i2 f1 f2)(hz:IsZip s.heap z TI TO .none)(hI:IsPair s.heap TI (.ref i1) (.ref i2))(hO:IsPair s.heap TO a b)
 (t1:S1 k s.heap)(t2:S2 k s.heap)(l1:k<n1)(l2:k<n2)
 (q:∀x y h' tk,P1 k x→P2 k y→IsZip h' z TI TO (rawInt s.heap.objs.size)→IsPair h' TO x y→S1 (k+1) h'→S2 (k+1) h'→IsPair h' s.heap.objs.size x y→h'.objs.size=s.heap.objs.size+1 →
   (∀c o,c≠z→c≠TO→c≠i1→c≠i2→s.heap.get? c=some o→h'.get? c=some o)→Q (.ref s.heap.objs.size) { s with heap:=h',toks:=tk }) :
  wpAny (model prog w) A (Builtin.«zip.__next__» ⟨[.ref z],[]⟩) (fun fin s'=>∃v,fin=.done (.ret v)∧Q v s') E s:=by
 obtain⟨⟨c1,c2,c3,c4⟩,⟨c5,c6,c7⟩,⟨c8,c9,c10⟩,⟨d1,d2,d3⟩,d4,d5,d6⟩:=ap;show wpAny _ _ (field (.ref z) 2>>=_) _ _ _;refine Wb (au hz rfl (x:=.bool false) rfl ?_);show wpAny _ _ (field (.ref z) 3>>=_) _ _ _;refine Wb (au hz rfl (x:=.ref TI) rfl (Wb (az hI rfl ?_)));show wpAny _ _ (Builtin.SmallTypes.ownedTupleIsFree (.ref z)>>=_) _ _ _;unfold Builtin.SmallTypes.ownedTupleIsFree;refine Wb (Wb (au hz rfl (x:=.none) rfl (aA ?_)));simp only [if_true];refine Wb (wpAny_rule (Wb (au hz rfl (x:=.ref TO) rfl (Wb (wpAny_setField_rec hz (by simp) fun g1 z1 m1=>Wb ?_)))));have m1:Heap.SameBut z s.heap g1:=m1;have z1:IsZip g1 z TI TO .ellipsis:=z1;simp only [List.zipIdx_cons,List.zipIdx_nil,List.forIn_cons,List.forIn_nil];refine Wb (Wb (wpAny_onRaise ?_));show wpAny _ _ (Builtin.SmallTypes.nextOf (.ref i1)>>=_) _ _ _;refine Wb (D1.item k _ _ _ l1 (D1.frame _ _ _ t1 (CH d1 m1)) fun x g2 tk2 p1 u1 m2=>aA ?_);have o2:IsPair g2 TO a b:=(m2.2 _ c6).trans ((m1.2 _ c5).trans hO);refine Wb (az o2 rfl (Wb (wpAny_updateSeq_pair o2 fun g3 o3 m3=>Wb (wpAny_letGo (aA ?_)))));have o3:IsPair g3 TO x b:=o3;have t2':S2 k g3:=D2.frame _ _ _ (D2.frame _ _ _ (D2.frame _ _ _ t2 (CH d4 m1)) (CH d6 m2)) (CH d5 m3);refine Wb (Wb (wpAny_onRaise ?_));show wpAny _ _ (Builtin.SmallTypes.nextOf (.ref i2)>>=_) _ _ _;refine Wb (D2.item k _ _ _ l2 t2' fun y g4 tk4 p2 u2 m4=>aA ?_);have m3:Heap.SameBut TO g2 g3:=m3;have m4:Heap.SameBut i2 g3 g4:=m4;have o4:IsPair g4 TO x b:=(m4.2 _ c7).trans o3;refine Wb (az o4 rfl (Wb (wpAny_updateSeq_pair o4 fun g5 o5 m5=>Wb (wpAny_letGo (aA (aA ?_))))));have m5:Heap.SameBut TO g4 g5:=m5;have o5:IsPair g5 TO x y:=o5;refine Wb (az o5 rfl (Wb (wpAny_newTuple ?_)));have m2:Heap.SameBut i1 g1 g2:=m2;have sz:g5.objs.size=s.heap.objs.size:=by rw [m5.1,m4.1,m3.1,m2.1,m1.1]
 have z5:IsZip g5 z TI TO .ellipsis:=(m5.2 _ c5.symm).trans ((m4.2 _ c9.symm).trans ((m3.2 _ c5.symm).trans ((m2.2 _ c8.symm).trans z1)));have kp:∀c o,c≠z→c≠TO→c≠i1→c≠i2→s.heap.get? c=some o→g5.get? c=some o:=fun c o e1 e2 e3 e4 e=>(m5.2 _ e2).trans ((m4.2 _ e4).trans ((m3.2 _ e2).trans ((m2.2 _ e3).trans ((m1.2 _ e1).trans e))));have v1:S1 (k+1) g5:=D1.frame _ _ _ (D1.frame _ _ _ (D1.frame _ _ _ u1 (CH d2 m3)) (CH d3 m4)) (CH d2 m5);have v2:S2 (k+1) g5:=D2.frame _ _ _ u2 (CH d5 m5);show wpAny _ _ (Builtin.SmallTypes.ownedTupleHandOut (.ref z) (.ref g5.objs.size)>>=_) _ _ _;unfold Builtin.SmallTypes.ownedTupleHandOut;have z6:IsZip (g5.push { cls:=.type "tuple",data:=.seq #[x,y] }) z TI TO .ellipsis:=aC _ z5;refine Wb (Wb (wpAny_setField_rec z6 (by simp) fun g7 z7 m7=>wpAny_setField_rec (show IsZip g7 z TI TO (rawInt g5.objs.size) from z7) (by simp) fun g8 z8 m8=>?_));have z8:IsZip g8 z TI TO (rawInt g5.objs.size):=z8;have up:∀c o,c≠z→(g5.push { cls:=.type "tuple",data:=.seq #[x,y] }).get? c=some o→g8.get? c=some o:=fun c o e1 e=>(m8.2 _ e1).trans ((m7.2 _ e1).trans e);have zl:z<g5.objs.size:=aF z5;refine aA ⟨_,rfl,?_⟩;show Q (.ref g5.objs.size) _;have fin:=q x y g8 tk4 p1 p2 (by rw [←sz];exact z8) (up _ _ c5 (aC _ o5)) (D1.frame _ _ _ v1 fun c hc o e=>up c o (fun y=>d1 (y ▸ hc)) (aC _ e)) (D2.frame _ _ _ v2 fun c hc o e=>up c o (fun y=>d4 (y ▸ hc)) (aC _ e))
  (by rw [←sz];exact up _ _ (Nat.ne_of_gt zl) (aN _ rfl)) (by rw [←sz,m8.1,m7.1,Heap.size_push]) fun c o e1 e2 e3 e4 e=>up c o e1 (aC _ (kp c o e1 e2 e3 e4 e))
 rw [sz];exact fin
def ended{Q:Fin→SD→Prop}(D1:Draws prog w A i1 f1 n1 P1 S1)(D2:Draws prog w A i2 f2 n2 P2 S2)(ap:Apart z TI TO i1 i2 f1 f2)(hz:IsZip s.heap z TI TO .none)(hI:IsPair s.heap TI (.ref i1) (.ref i2))(hO:IsPair s.heap TO a b)
 (t1:S1 k s.heap)(t2:S2 k s.heap)(he:k=n1∨(k<n1∧k=n2))
 (q:∀h' e tk,(∀c o,c≠z→c≠TO→c≠i1→c≠i2→s.heap.get? c=some o→h'.get? c=some o)→(∃o,h'.get? e=some o∧o.cls=.type "StopIteration")→E (.ref e) { s with heap:=h',toks:=tk }) :
  wpAny (model prog w) A (Builtin.«zip.__next__» ⟨[.ref z],[]⟩) Q E s:=by
 obtain⟨⟨c1,c2,c3,c4⟩,⟨c5,c6,c7⟩,⟨c8,c9,c10⟩,⟨d1,d2,d3⟩,d4,d5,d6⟩:=ap;show wpAny _ _ (field (.ref z) 2>>=_) _ _ _;refine Wb (au hz rfl (x:=.bool false) rfl ?_);show wpAny _ _ (field (.ref z) 3>>=_) _ _ _;refine Wb (au hz rfl (x:=.ref TI) rfl (Wb (az hI rfl ?_)));show wpAny _ _ (Builtin.SmallTypes.ownedTupleIsFree (.ref z)>>=_) _ _ _;unfold Builtin.SmallTypes.ownedTupleIsFree;refine Wb (Wb (au hz rfl (x:=.none) rfl (aA ?_)));simp only [if_true];refine Wb (wpAny_rule (Wb (au hz rfl (x:=.ref TO) rfl (Wb (wpAny_setField_rec hz (by simp) fun g1 z1 m1=>Wb ?_)))));have m1:Heap.SameBut z s.heap g1:=m1;have z1:IsZip g1 z TI TO .ellipsis:=z1;simp only [List.zipIdx_cons,List.zipIdx_nil,List.forIn_cons,List.forIn_nil];refine Wb (Wb (wpAny_onRaise ?_));show wpAny _ _ (Builtin.SmallTypes.nextOf (.ref i1)>>=_) _ _ _;have t1':=D1.frame _ _ _ t1 (CH d1 m1);rcases he with he|⟨he1,he2⟩
 ·rw [he]at t1';refine Wb (D1.done _ _ _ t1' fun g2 e m2 ho=>?_);obtain⟨o,ho,hc⟩:=ho;have z2:IsZip g2 z TI TO .ellipsis:=m2 _ _ c8.symm z1;have ez:e≠z:=fun y=>by subst y;rw [z2]at ho;cases ho;simp at hc
  exact wpAny_setField_rec z2 (by simp) fun g3 _ m3=>q g3 e _ (fun c o e1 e2 e3 e4 y=>(m3.2 _ e1).trans (m2 _ _ e3 ((m1.2 _ e1).trans y))) ⟨o,(m3.2 _ ez).trans ho,hc⟩
 ·refine Wb (D1.item k _ _ _ he1 t1' fun x g2 tk2 p1 u1 m2=>aA ?_);have o2:IsPair g2 TO a b:=(m2.2 _ c6).trans ((m1.2 _ c5).trans hO);refine Wb (az o2 rfl (Wb (wpAny_updateSeq_pair o2 fun g3 o3 m3=>Wb (wpAny_letGo (aA ?_)))));have t2':S2 k g3:=D2.frame _ _ _ (D2.frame _ _ _ (D2.frame _ _ _ t2 (CH d4 m1)) (CH d6 m2)) (CH d5 m3);rw [he2]at t2';have m2:Heap.SameBut i1 g1 g2:=m2;have m3:Heap.SameBut TO g2 g3:=m3;refine Wb (Wb (wpAny_onRaise ?_));show wpAny _ _ (Builtin.SmallTypes.nextOf (.ref i2)>>=_) _ _ _;refine Wb (D2.done _ _ _ t2' fun g4 e m4 ho=>?_);obtain⟨o,ho,hc⟩:=ho;have z4:IsZip g4 z TI TO .ellipsis:=m4 _ _ c9.symm ((m3.2 _ c5.symm).trans ((m2.2 _ c8.symm).trans z1));have ez:e≠z:=fun y=>by subst y;rw [z4]at ho;cases ho;simp at hc
  exact wpAny_setField_rec z4 (by simp) fun g5 _ m5=>q g5 e _ (fun c o e1 e2 e3 e4 y=>(m5.2 _ e1).trans (m4 _ _ e4 ((m3.2 _ e2).trans ((m2.2 _ e3).trans ((m1.2 _ e1).trans y))))) ⟨o,(m5.2 _ ez).trans ho,hc⟩
def next_item{Q:Option VL→SD→Prop}(D1:Draws prog w A.in1 i1 f1 n1 P1 S1)(D2:Draws prog w A.in1 i2 f2 n2 P2 S2)(ap:Apart z TI TO i1 i2 f1 f2)(hz:IsZip s.heap z TI TO .none)(hI:IsPair s.heap TI (.ref i1) (.ref i2))(hO:IsPair s.heap TO a b)
 (t1:S1 k s.heap)(t2:S2 k s.heap)(l1:k<n1)(l2:k<n2)
 (q:∀x y h' tk,P1 k x→P2 k y→IsZip h' z TI TO (rawInt s.heap.objs.size)→IsPair h' TO x y→S1 (k+1) h'→S2 (k+1) h'→IsPair h' s.heap.objs.size x y→h'.objs.size=s.heap.objs.size+1 →
   (∀c o,c≠z→c≠TO→c≠i1→c≠i2→s.heap.get? c=some o→h'.get? c=some o)→Q (some (.ref s.heap.objs.size)) { s with heap:=h',toks:=tk }) :
  wpAny (model prog w) A (pyNext (.ref z)) Q E s:=by
 have hT:s.TypeIs (.ref z) "zip" := ⟨_,hz,rfl⟩;unfold pyNext;exact Wb (wpAny_attempt (aj (name:=Str.ofString "__next__") hT F.slot_zip_next
  (aX F.slot_zip_next hT F.entry_zip_next (item D1 D2 ap hz hI hO t1 t2 l1 l2 fun x y h' tk r1 r2 r3 r4 r5 r6 r7 r8 r9=>aA (q x y h' tk r1 r2 r3 r4 r5 r6 r7 r8 r9)) (F.args_zip_next_1 _))))
def next_end{Q:Option VL→SD→Prop}(D1:Draws prog w A.in1 i1 f1 n1 P1 S1)(D2:Draws prog w A.in1 i2 f2 n2 P2 S2)(ap:Apart z TI TO i1 i2 f1 f2)(hz:IsZip s.heap z TI TO .none)(hI:IsPair s.heap TI (.ref i1) (.ref i2))(hO:IsPair s.heap TO a b)
 (t1:S1 k s.heap)(t2:S2 k s.heap)(he:k=n1∨(k<n1∧k=n2))
 (q:∀h' tk,(∀c o,c≠z→c≠TO→c≠i1→c≠i2→s.heap.get? c=some o→h'.get? c=some o)→Q none { s with heap:=h',toks:=tk }) :
  wpAny (model prog w) A (pyNext (.ref z)) Q E s:=by
 have hT:s.TypeIs (.ref z) "zip" := ⟨_,hz,rfl⟩;unfold pyNext;refine Wb (wpAny_attempt (aj (name:=Str.ofString "__next__") hT F.slot_zip_next
  (aX F.slot_zip_next hT F.entry_zip_next (ended D1 D2 ap hz hI hO t1 t2 he fun h' e tk kp ho=>?_) (F.args_zip_next_1 _))))
 obtain⟨o,ho,hc⟩:=ho;exact Wb (wpAny_isInstance (T := "StopIteration") (b:=true) ⟨o,ho,hc⟩ isSubtype_stop (aA (q _ _ kp)))
end
end ZT
namespace ZT
open PySem PyProof.Rows
def Sq(b:Bool)(h:Heap)(l:AD)(xs:List VL):Prop:=if b then h.IsTuple l xs.toArray else h.IsList l xs.toArray
def Cp(b:Bool)(l:AD):Obj:=if b then { cls:=.type "tuple_iterator",data:=.fields #[.ref l,.int 0 0] } else { cls:=.type "list_iterator",data:=.fields #[.ref l,.int 0 0] }
def LD(b:Bool)(h:Heap)(it l:AD)(k:Nat):Prop:=if b then h.IsTupleIter it l k else h.IsListIter it l k
def Sq.push{b:Bool}{h:Heap}{l:AD}{xs:List VL}(o:Obj)(x:Sq b h l xs):Sq b (h.push o) l xs:=by
 cases b with
 |true=>obtain⟨u,e,r⟩:=(show h.IsTuple l xs.toArray from x);exact(show(h.push o).IsTuple l xs.toArray from⟨u,Heap.get?_push_of_some _ e,r⟩)
 |false=>obtain⟨u,e,r⟩:=(show h.IsList l xs.toArray from x);exact(show(h.push o).IsList l xs.toArray from⟨u,Heap.get?_push_of_some _ e,r⟩)
section
variable{prog:Program}{w:World}{A:Around}{E:VL→SD→Prop}{s:SD}
def QH{b:Bool}{l:AD}{xs:List VL}{Q:VL→SD→Prop}(x:Sq b s.heap l xs)(h:Q (.ref s.heap.objs.size) { s with heap:=s.heap.push (Cp b l) }):wpAny (model prog w) A (pyIter (.ref l)) Q E s:=by
 cases b with
 |true=>exact wpAny_pyIter_tuple x h
 |false=>exact wpAny_pyIter_list x h
def IY(hh:A.handled=none)(b:Bool)(it l:AD)(xs:List VL)(hne:l≠it):Draws prog w A it [it,l] xs.length (fun i v=>xs[i]? = some v) (fun i h=>LD b h it l i∧Sq b h l xs):=by
 cases b with
 |true=>exact ET.draws hh it l xs hne
 |false =>
  have:=Draws.list (prog:=prog) (w:=w) hh it l hne xs.toArray
  simpa [LD,Sq]using this
def zh(b1 b2:Bool)(h:Heap)(l1 l2:AD):Heap :=
 ((((h.push (Cp b1 l1)).push (Cp b2 l2)).push { cls:=.type "tuple",data:=.seq #[.ref h.objs.size,.ref (h.push (Cp b1 l1)).objs.size] }).push { cls:=.type "tuple",data:=.seq #[.none,.none] }).push
  { cls:=.type "zip",data:=.fields #[.none,.bool false,.bool false,.ref ((h.push (Cp b1 l1)).push (Cp b2 l2)).objs.size,.ref (((h.push (Cp b1 l1)).push (Cp b2 l2)).push { cls:=.type "tuple",data:=.seq #[.ref h.objs.size,.ref (h.push (Cp b1 l1)).objs.size] }).objs.size] }
def Vy(b1 b2:Bool)(l1 l2:AD)(xs ys:List VL) :
  Meets (Builtin.«zip.__new__» ⟨[.type "zip",.ref l1,.ref l2],[]⟩) (fun _ R s=>Sq b1 s.heap l1 xs∧Sq b2 s.heap l2 ys ∧
   R (.ok (.ret (.ref ((((s.heap.push (Cp b1 l1)).push (Cp b2 l2)).push { cls:=.type "tuple",data:=.seq #[.ref s.heap.objs.size,.ref (s.heap.push (Cp b1 l1)).objs.size] }).push { cls:=.type "tuple",data:=.seq #[.none,.none] }).objs.size)) ) { s with heap:=zh b1 b2 s.heap l1 l2 }) :=
 .of_wp fun prog w A R s h=>by
  obtain⟨hp,g,d,tk,os⟩:=s;obtain⟨h1,h2,h⟩:=h;have hsub:=sub_zip;have i1:∀(A:Around) (E:VL→SD→Prop) (Q:VL→SD→Prop),Q (.ref hp.objs.size) ⟨hp.push (Cp b1 l1),g,d,tk,os⟩→wpAny (model prog w) A (pyIter (.ref l1)) Q E ⟨hp,g,d,tk,os⟩:=fun A E Q q=>QH (s:=⟨hp,g,d,tk,os⟩) h1 q;have i2:∀(A:Around) (E:VL→SD→Prop) (Q:VL→SD→Prop),Q (.ref (hp.push (Cp b1 l1)).objs.size) ⟨(hp.push (Cp b1 l1)).push (Cp b2 l2),g,d,tk,os⟩→wpAny (model prog w) A (pyIter (.ref l2)) Q E ⟨hp.push (Cp b1 l1),g,d,tk,os⟩:=fun A E Q q=>QH (s:=⟨hp.push (Cp b1 l1),g,d,tk,os⟩) (h2.push _) q
  wp_walk using i1,i2
  exact⟨_,rfl,h⟩
def Ui{b1 b2:Bool}{l1 l2:AD}{xs ys:List VL}{Q:VL→SD→Prop}(h1:Sq b1 s.heap l1 xs)(h2:Sq b2 s.heap l2 ys)
 (h:∀h',IsZip h' (s.heap.objs.size+4) (s.heap.objs.size+2) (s.heap.objs.size+3) .none→IsPair h' (s.heap.objs.size+2) (.ref s.heap.objs.size) (.ref (s.heap.objs.size+1))→IsPair h' (s.heap.objs.size+3) .none .none →
   LD b1 h' s.heap.objs.size l1 0→LD b2 h' (s.heap.objs.size+1) l2 0→(∀c o,s.heap.get? c=some o→h'.get? c=some o)→Q (.ref (s.heap.objs.size+4)) { s with heap:=h' }) :
  wpAny (model prog w) A (call (.type "zip") [.ref l1,.ref l2]) Q E s:=by
 refine callType_new F.called_zip (by decide) (F.typeCall_zip_2 _ _) (F.newCall_zip_2 _ _) (fun obj=>F.args_object_init_3 obj _ _) F.entry_zip_new (Vy b1 b2 l1 l2 xs ys) ⟨h1,h2,?_⟩;have n1:(s.heap.push (Cp b1 l1)).objs.size=s.heap.objs.size+1:=Heap.size_push ..;have up:∀(g:Heap) (o:Obj) (c:AD) (u:Obj),g.get? c=some u→(g.push o).get? c=some u:=fun g o c u e=>aC _ e;have a0:(s.heap.push (Cp b1 l1)).get? s.heap.objs.size=some (Cp b1 l1):=aN _ (by cases b1<;>rfl);generalize hg1:s.heap.push (Cp b1 l1)=g1 at n1 a0;have k1:∀c o,s.heap.get? c=some o→g1.get? c=some o:=fun c o e=>by rw [←hg1];exact up _ _ _ _ e
 have n2:(g1.push (Cp b2 l2)).objs.size=s.heap.objs.size+2:=by rw [Heap.size_push,n1]
 have a1:(g1.push (Cp b2 l2)).get? (s.heap.objs.size+1)=some (Cp b2 l2):=by rw [←n1];exact aN _ (by cases b2<;>rfl)
 generalize hg2:g1.push (Cp b2 l2)=g2 at n2 a1;have k2:∀c o,g1.get? c=some o→g2.get? c=some o:=fun c o e=>by rw [←hg2];exact up _ _ _ _ e
 have n3:(g2.push { cls:=.type "tuple",data:=.seq #[.ref s.heap.objs.size,.ref (s.heap.objs.size+1)] }).objs.size=s.heap.objs.size+3:=by rw [Heap.size_push,n2]
 have a2:IsPair (g2.push { cls:=.type "tuple",data:=.seq #[.ref s.heap.objs.size,.ref (s.heap.objs.size+1)] }) (s.heap.objs.size+2) (.ref s.heap.objs.size) (.ref (s.heap.objs.size+1)):=by rw [←n2];exact aN _ rfl
 generalize hg3:g2.push { cls:=.type "tuple",data:=.seq #[.ref s.heap.objs.size,.ref (s.heap.objs.size+1)] }=g3 at n3 a2;have k3:∀c o,g2.get? c=some o→g3.get? c=some o:=fun c o e=>by rw [←hg3];exact up _ _ _ _ e
 have n4:(g3.push { cls:=.type "tuple",data:=.seq #[.none,.none] }).objs.size=s.heap.objs.size+4:=by rw [Heap.size_push,n3]
 have a3:IsPair (g3.push { cls:=.type "tuple",data:=.seq #[.none,.none] }) (s.heap.objs.size+3) .none .none:=by rw [←n3];exact aN _ rfl
 generalize hg4:g3.push { cls:=.type "tuple",data:=.seq #[.none,.none] }=g4 at n4 a3;have k4:∀c o,g3.get? c=some o→g4.get? c=some o:=fun c o e=>by rw [←hg4];exact up _ _ _ _ e
 have ez:zh b1 b2 s.heap l1 l2=g4.push { cls:=.type "zip",data:=.fields #[.none,.bool false,.bool false,.ref (s.heap.objs.size+2),.ref (s.heap.objs.size+3)] }:=by
  unfold zh;rw [hg1,hg2,n1,hg3,hg4,n2,n3]
 have a4:IsZip (g4.push { cls:=.type "zip",data:=.fields #[.none,.bool false,.bool false,.ref (s.heap.objs.size+2),.ref (s.heap.objs.size+3)] }) (s.heap.objs.size+4) (s.heap.objs.size+2) (s.heap.objs.size+3) .none:=by rw [←n4];exact aN _ rfl
 rw [n1,hg3,hg4,n4,ez];show _∧_;have k5:∀c o,g4.get? c=some o→(g4.push { cls:=.type "zip",data:=.fields #[.none,.bool false,.bool false,.ref (s.heap.objs.size+2),.ref (s.heap.objs.size+3)] }).get? c=some o:=fun c o e=>up _ _ _ _ e;refine⟨⟨_,a4,rfl⟩,h _ a4 (k5 _ _ (k4 _ _ a2)) (k5 _ _ a3) ?_ ?_ fun c o e=>k5 _ _ (k4 _ _ (k3 _ _ (k2 _ _ (k1 _ _ e))))⟩
 ·have:=k5 _ _ (k4 _ _ (k3 _ _ (k2 _ _ a0)));cases b1 with
  |true=>exact⟨_,this,rfl,rfl⟩
  |false=>exact⟨_,this,rfl,rfl⟩
 ·have:=k5 _ _ (k4 _ _ (k3 _ _ a1));cases b2 with
  |true=>exact⟨_,this,rfl,rfl⟩
  |false=>exact⟨_,this,rfl,rfl⟩
end
end ZT
namespace L2
open PySem PySem.Spec PyProof.Rows
def Gf(b:Bool)(H:Hp)(a:AD)(xs:List V):Prop:=if b then H a=some (.tup xs) else H a=some (.lst xs)
def Gf.inj{b:Bool}{H:Hp}{a:AD}{xs ys:List V}(h:Gf b H a xs)(k:Gf b H a ys):xs=ys:=by
 cases b with
 |true=>have h:H a=some (.tup xs):=h;have k:H a=some (.tup ys):=k;rw [h]at k;cases k;rfl
 |false=>have h:H a=some (.lst xs):=h;have k:H a=some (.lst ys):=k;rw [h]at k;cases k;rfl
def Gf.none{b:Bool}{H:Hp}{a c:AD}{xs:List V}(h:Gf b H a xs)(k:H c=none):a≠c:=fun z=>by
 subst z;cases b with
 |true=>have h:H a=some (.tup xs):=h;rw [k]at h;cases h
 |false=>have h:H a=some (.lst xs):=h;rw [k]at h;cases h
def Gf.raw{X:Cx}{pins:List (AD×Obj)}{σ:St}{H:Hp}{s:SD}(I:Inv X pins σ H s){b:Bool}{a:AD}{xs:List V}(h:Gf b H a xs):∃its,Vals xs its∧ZT.Sq b s.heap a its:=by
 cases b with
 |true =>
  obtain⟨its,rv,p,_⟩:=I.tuple (Ag.of (K:=X.K) (show H a=some (.tup xs) from h));exact⟨its,rv,p⟩
 |false =>
  obtain⟨its,rv,p,_⟩:=I.list (AZ.of (K:=X.K) (show H a=some (.lst xs) from h));exact⟨its,rv,p.isList⟩
def Z4(b1 b2:Bool)(a1 a2:AD):It :=
 ⟨fun i H=>∃xs x ys y,Gf b1 H a1 xs∧Gf b2 H a2 ys∧xs[i]? = some x∧ys[i]? = some y,
  fun i H v H'=>∃p x y,v=.ref p∧H p=none∧H'=upd H p (.tup [x,y])∧(∀xs,Gf b1 H a1 xs→xs[i]? = some x)∧∀ys,Gf b2 H a2 ys→ys[i]? = some y,
  fun i H=>∃xs ys,Gf b1 H a1 xs∧Gf b2 H a2 ys∧(i=xs.length∨(i<xs.length∧i=ys.length))⟩
def dD(b1 b2:Bool)(a1 a2 z TI TO i1 i2:AD):Nat→Heap→Prop:=fun i h=>IsZip h z TI TO .none∧IsPair h TI (.ref i1) (.ref i2)∧(∃a b,IsPair h TO a b)∧ZT.LD b1 h i1 a1 i∧ZT.LD b2 h i2 a2 i
def J1{b:Bool}{h:Heap}{it l:AD}{k:Nat}(x:ZT.LD b h it l k):∃o,h.get? it=some o∧∀v,o.data≠.cell v:=by
 cases b with
 |true=>obtain⟨o,e,_,d⟩:=(show h.IsTupleIter it l k from x);exact⟨o,e,fun v z=>by rw [d]at z;cases z⟩
 |false=>obtain⟨o,e,_,d⟩:=(show h.IsListIter it l k from x);exact⟨o,e,fun v z=>by rw [d]at z;cases z⟩
def IV{b:Bool}{h h':Heap}{it l:AD}{k:Nat}(x:ZT.LD b h it l k)(e:∀o,h.get? it=some o→h'.get? it=some o):ZT.LD b h' it l k:=by
 cases b with
 |true=>obtain⟨o,q,r⟩:=(show h.IsTupleIter it l k from x);exact(show h'.IsTupleIter it l k from⟨o,e _ q,r⟩)
 |false=>obtain⟨o,q,r⟩:=(show h.IsListIter it l k from x);exact(show h'.IsListIter it l k from⟨o,e _ q,r⟩)
def T6{P:Program}{w:World}{K:Fg}{elts:List Expr}{x1}{pos:Pos}{b1 b2:Bool}{a1 a2 z TI TO i1 i2:AD}(ne:[z,TI,TO,i1,i2].Nodup) :
  Turn P w K (.Tuple elts x1 pos) (Z4 b1 b2 a1 a2) [z,TI,TO,i1,i2] z (dD b1 b2 a1 a2 z TI TO i1 i2) where
 mem:=by simp
 obj:=fun i h st b hb=>by
  obtain⟨h1,h2,⟨u,v,h3⟩,h4,h5⟩:=st;have hb:b=z∨b=TI∨b=TO∨b=i1∨b=i2:=by simpa using hb
  rcases hb with rfl|rfl|rfl|rfl|rfl
  ·exact⟨_,h1,fun v y=>by cases y⟩
  ·exact⟨_,h2,fun v y=>by cases y⟩
  ·exact⟨_,h3,fun v y=>by cases y⟩
  ·exact J1 h4
  ·exact J1 h5
 keep:=fun i h h' st k=>by
  obtain⟨h1,h2,⟨u,v,h3⟩,h4,h5⟩:=st;exact⟨k z (by simp) _ h1,k TI (by simp) _ h2,⟨u,v,k TO (by simp) _ h3⟩,IV h4 fun o e=>k i1 (by simp) o e,IV h5 fun o e=>k i2 (by simp) o e⟩
 item:=by
  intro X hP hw hK hc i pins s σ H E I hf st hg;subst hP hw hK;obtain⟨xs,x,ys,y,q1,q2,hx,hy⟩:=hg;obtain⟨us,rv1,p1⟩:=q1.raw I;obtain⟨vs,rv2,p2⟩:=q2.raw I;obtain⟨u,hu,ru⟩:=rv1.get hx;obtain⟨v,hv,rv⟩:=rv2.get hy;obtain⟨t1,t2,⟨ta,tb,t3⟩,t4,t5⟩:=st;have e1:∀b∈[z,TI,TO,i1,i2],a1≠b:=fun b hb=>q1.none (hf b hb).1;have e2:∀b∈[z,TI,TO,i1,i2],a2≠b:=fun b hb=>q2.none (hf b hb).1;simp only [List.nodup_cons,List.mem_cons,List.not_mem_nil,or_false,not_or]at ne;obtain⟨⟨n1,n2,n3,n4⟩,⟨n5,n6,n7⟩,⟨n8,n9⟩,n10,_⟩:=ne;have ap:ZT.Apart z TI TO i1 i2 [i1,a1] [i2,a2]:=⟨⟨Ne.symm n1,n5,n6,n7⟩,⟨Ne.symm n2,n8,n9⟩,⟨Ne.symm n3,Ne.symm n4,n10⟩,
   ⟨by simp [n3,Ne.symm (e1 z (by simp))],by simp [n8,Ne.symm (e1 TO (by simp))],by simp [Ne.symm n10,Ne.symm (e1 i2 (by simp))]⟩,⟨by simp [n4,Ne.symm (e2 z (by simp))],by simp [n9,Ne.symm (e2 TO (by simp))],by simp [n10,Ne.symm (e2 i1 (by simp))]⟩⟩
  refine ZT.next_item (ZT.IY (prog:=X.prog) (w:=X.w) (A:=X.A.in1) (I.ok.hd hc) b1 i1 a1 us (e1 i1 (by simp))) (ZT.IY (prog:=X.prog) (w:=X.w) (A:=X.A.in1) (I.ok.hd hc) b2 i2 a2 vs (e2 i2 (by simp))) ap t1 t2 t3 ⟨t4,p1⟩ ⟨t5,p2⟩ (aD.mp hu).1 (aD.mp hv).1
   fun u' v' h' tk r1 r2 r3 r4 r5 r6 r7 r8 r9=>⟨_,rfl,wpAny_letOwnedTupleGo_zip (s:={ s with heap:=h',toks:=tk }) r3 fun h'' z'' sb=>?_⟩
  rw [hu]at r1;rw [hv]at r2;cases r1;cases r2;have keep:∀b o,b ∉ [z,TI,TO,i1,i2]→s.heap.get? b=some o→h''.get? b=some o:=fun b o hb q=>by
   simp only [List.mem_cons,List.not_mem_nil,or_false,not_or]at hb;exact(sb.2 b hb.1).trans (r9 b o hb.1 hb.2.2.1 hb.2.2.2.1 hb.2.2.2.2 q)
  have lt:∀b∈[z,TI,TO,i1,i2],b<s.heap.objs.size:=fun b hb=>by
   have hb:b=z∨b=TI∨b=TO∨b=i1∨b=i2:=by simpa using hb
   rcases hb with rfl|rfl|rfl|rfl|rfl
   ·exact aF t1
   ·exact aF t2
   ·exact aF t3
   ·obtain⟨o,e,_⟩:=J1 t4;exact aF e
   ·obtain⟨o,e,_⟩:=J1 t5;exact aF e
  have hTn:H s.heap.objs.size=none:=I.Ah.fresh (aE _);have hT'':h''.get? s.heap.objs.size=some { cls:=.type "tuple",data:=.seq #[u,v] }:=(sb.2 _ (Nat.ne_of_gt (lt z (by simp)))).trans r7;have neT:∀b o,s.heap.get? b=some o→b≠s.heap.objs.size:=fun b o q=>aK (aF q);have EZ:∀b o,H b=some o→b ∉ [z,TI,TO,i1,i2]:=fun b o q hb=>by rw [(hf b hb).1]at q;cases q
  refine⟨.ref s.heap.objs.size,upd H s.heap.objs.size (.tup [x,y]),?_,rfl,⟨_,x,y,rfl,hTn,rfl,fun zs hz=>by rw [hz.inj q1];exact hx,fun zs hz=>by rw [hz.inj q2];exact hy⟩,⟨z'',?_,⟨u,v,?_⟩,?_,?_⟩,fun b hb=>?_⟩
  ·show Inv X pins σ _ { s with heap:=h'',gens:=s.gens,drawn:=s.drawn,toks:=tk };refine I.step (h':=h'') (g':=s.gens) (d':=s.drawn) (t':=tk) (ch:=[z,TI,TO,i1,i2]) (fun b hb=>?_) (fun b o _ _ hc q _=>keep b o hc q) (fun b o _ _ hc q _=>⟨o.slots,keep b o hc q⟩)
    (fun b o _ q n=>by rw [AG (neT b o q)];exact n) (fun b o hc q=>⟨o,keep b o hc q⟩) (fun b ys q=>by rw [AG (AO q hTn)];exact q) (fun b o u q=>by rw [AG (AO q hTn)];exact q)
    (fun b ps q=>⟨#[],by rw [AG (AO q hTn),q];simp⟩) (fun m hm=>?_) (fun b o q=>?_) I.bare
   ·obtain⟨_,f1,_,f3,f4,f5⟩:=hf b hb;exact⟨f3,f1,f4,f5⟩
   ·obtain⟨o,es,ep,ho,r⟩:=hm;exact⟨o,es,ep,keep _ o (fun hb=>(hf _ hb).2.1 rfl) ho,r⟩
   ·by_cases hb:b=s.heap.objs.size
    ·subst hb;rw [AJ]at q;cases q;exact⟨SW,[u,v],.cons ru (.cons rv .nil),_,hT'',rfl,_,rfl⟩
    ·rw [AG hb]at q;refine(I.Ah b o q).HK (fun c w hc r=>keep c w ?_ r) (fun c r=>by rw [AG (AO r hTn)];exact r) fun c ys r=>by rw [AG (AO r hTn)];exact r
     rcases hc with rfl|hc
     ·exact EZ _ _ q
     ·exact EZ _ _ hc
  ·exact(sb.2 _ (Ne.symm n1)).trans (r9 _ _ (Ne.symm n1) n5 n6 n7 t2)
  ·exact(sb.2 _ (Ne.symm n2)).trans r4
  ·exact IV r5.1 fun o e=>(sb.2 _ (Ne.symm n3)).trans e
  ·exact IV r6.1 fun o e=>(sb.2 _ (Ne.symm n4)).trans e
  ·rw [AG (aK (lt b hb))];exact(hf b hb).1
 done:=by
  intro X hP hw hK hc i pins s σ H E I hf st hg;subst hP hw hK;obtain⟨xs,ys,q1,q2,he⟩:=hg;obtain⟨us,rv1,p1⟩:=q1.raw I;obtain⟨vs,rv2,p2⟩:=q2.raw I;obtain⟨t1,t2,⟨ta,tb,t3⟩,t4,t5⟩:=st;have e1:∀b∈[z,TI,TO,i1,i2],a1≠b:=fun b hb=>q1.none (hf b hb).1;have e2:∀b∈[z,TI,TO,i1,i2],a2≠b:=fun b hb=>q2.none (hf b hb).1;simp only [List.nodup_cons,List.mem_cons,List.not_mem_nil,or_false,not_or]at ne;obtain⟨⟨n1,n2,n3,n4⟩,⟨n5,n6,n7⟩,⟨n8,n9⟩,n10,_⟩:=ne;have ap:ZT.Apart z TI TO i1 i2 [i1,a1] [i2,a2]:=⟨⟨Ne.symm n1,n5,n6,n7⟩,⟨Ne.symm n2,n8,n9⟩,⟨Ne.symm n3,Ne.symm n4,n10⟩,
   ⟨by simp [n3,Ne.symm (e1 z (by simp))],by simp [n8,Ne.symm (e1 TO (by simp))],by simp [Ne.symm n10,Ne.symm (e1 i2 (by simp))]⟩,⟨by simp [n4,Ne.symm (e2 z (by simp))],by simp [n9,Ne.symm (e2 TO (by simp))],by simp [n10,Ne.symm (e2 i1 (by simp))]⟩⟩
  have he':i=us.length∨(i<us.length∧i=vs.length):=by rw [←rv1.length,←rv2.length];exact he
  refine ZT.next_end (ZT.IY (prog:=X.prog) (w:=X.w) (A:=X.A.in1) (I.ok.hd hc) b1 i1 a1 us (e1 i1 (by simp))) (ZT.IY (prog:=X.prog) (w:=X.w) (A:=X.A.in1) (I.ok.hd hc) b2 i2 a2 vs (e2 i2 (by simp))) ap t1 t2 t3 ⟨t4,p1⟩ ⟨t5,p2⟩ he' fun h' tk kp=>⟨rfl,?_⟩;have keep:∀b o,b ∉ [z,TI,TO,i1,i2]→s.heap.get? b=some o→h'.get? b=some o:=fun b o hb q=>by
   simp only [List.mem_cons,List.not_mem_nil,or_false,not_or]at hb;exact kp b o hb.1 hb.2.2.1 hb.2.2.2.1 hb.2.2.2.2 q
  have EZ:∀b o,H b=some o→b ∉ [z,TI,TO,i1,i2]:=fun b o q hb=>by rw [(hf b hb).1]at q;cases q
  show Inv X pins σ _ { s with heap:=h',gens:=s.gens,drawn:=s.drawn,toks:=tk };refine I.step (h':=h') (g':=s.gens) (d':=s.drawn) (t':=tk) (ch:=[z,TI,TO,i1,i2]) (fun b hb=>?_) (fun b o _ _ hc q _=>keep b o hc q) (fun b o _ _ hc q _=>⟨o.slots,keep b o hc q⟩)
    (fun b o _ q n=>n) (fun b o hc q=>⟨o,keep b o hc q⟩) (fun b ys q=>q) (fun b o u q=>q)
    (fun b ps q=>⟨#[],by rw [q];simp⟩) (fun m hm=>?_) (fun b o q=>?_) I.bare
  ·obtain⟨_,f1,_,f3,f4,f5⟩:=hf b hb;exact⟨f3,f1,f4,f5⟩
  ·obtain⟨o,es,ep,ho,r⟩:=hm;exact⟨o,es,ep,keep _ o (fun hb=>(hf _ hb).2.1 rfl) ho,r⟩
  ·refine(I.Ah b o q).HK (fun c w hc r=>keep c w ?_ r) (fun c r=>r) fun c ys r=>r;rcases hc with rfl|hc
   ·exact EZ _ _ q
   ·exact EZ _ _ hc
 self:=fun _ _ _ _ _ st h=>wpAny_pyIter_zip st.1 h
def cC(ta:TA):TI:=fun σ H R=>ta σ H fun vs H1=>∃(b1 b2:Bool) (a1 a2:AD),vs=[.ref a1,.ref a2]∧(∃xs,Gf b1 H1 a1 xs)∧(∃ys,Gf b2 H1 a2 ys)∧R (Z4 b1 b2 a1 a2) H1
def Td{X:Cx}{elts:List Expr}{x1}{tpos:Pos}{a b:Expr}{ta:TA}{p pos:Pos}(hg:Gl X "zip")(hm:X.mg "zip" = none)(ha:PA X [a,b] ta)(hs:starEach [a,b] X.env=[(false,eval a X.env),(false,eval b X.env)]:=by rfl)(hs2:starEach [b] X.env=[(false,eval b X.env)]:=by rfl) :
  PI X (.Tuple elts x1 tpos) (.Call (.Name "zip" p) [a,b] [] pos) (cC ta):=by
 intro pins s σ H R I h;refine Call_ (Fe I hg hm boot_zip (aw (Az (ha pos pins s σ H _ I h) fun us s1 ⟨vs,H1,I1,r1,q1⟩=>?_) (by rw [hs,hs2]) (by rw [hs2];rfl)));obtain⟨b1,b2,l1,l2,e,⟨xs,h1⟩,⟨ys,h2⟩,q⟩:=q1;subst e;cases r1 with
 |cons r rr =>
  cases rr with
  |cons r' rr =>
   cases rr;cases r;cases r';obtain⟨us,_,p1⟩:=h1.raw I1;obtain⟨vs,_,p2⟩:=h2.raw I1;refine ZT.Ui p1 p2 fun h' z1 z2 z3 z4 z5 hk=>wpAny_pyIter_zip z1 ?_;have I2:Inv X pins σ H1 { s1 with heap:=h' }:=I1.kept (t':=s1.toks) hk;refine⟨_,[s1.heap.objs.size+4,s1.heap.objs.size+2,s1.heap.objs.size+3,s1.heap.objs.size,s1.heap.objs.size+1],_,_,H1,rfl,I2,T6 ?_,⟨z1,z2,⟨_,_,z3⟩,z4,z5⟩,fun b hb=>?_,q⟩
   ·simp
   have hb':s1.heap.objs.size≤b:=by
    have hb2:b=s1.heap.objs.size+4∨b=s1.heap.objs.size+2∨b=s1.heap.objs.size+3∨b=s1.heap.objs.size∨b=s1.heap.objs.size+1:=by simpa using hb
    rcases hb2 with h|h|h|h|h<;>rw [h]<;>first|exact aE _|exact Nat.le_add_right _ _
   exact I1.MI hb' (I1.Ah.fresh hb')
def Tg(K:Fg)(a:AD):It :=
 ⟨fun i H=>∃xs x,AZ K H a xs∧xs[i]? = some x,fun i H v H'=>∃p x,v=.ref p∧H p=none∧H'=upd H p (.tup [.int i,x])∧∀xs,AZ K H a xs→xs[i]? = some x,fun i H=>∃xs,AZ K H a xs∧xs.length=i⟩
def Qo{P:Program}{w:World}{K:Fg}{elts:List Expr}{x1}{pos:Pos}(a e it:AD)(hne:e≠it) :
  Turn P w K (.Tuple elts x1 pos) (Tg K a) [e,it] e (fun i h=>(∃old,IsEnum h e it (i:Nat) old)∧h.IsListIter it a i) where
 mem:=by simp
 obj:=fun i h st b hb=>by
  rcases aL.mp hb with rfl|hb
  ·obtain⟨⟨old,q⟩,_⟩:=st;exact⟨_,q,fun v z=>by cases z⟩
  ·have e2:b=it:=by simpa using hb
   subst e2;obtain⟨_,o,q,c,d⟩:=st;exact⟨o,q,fun v z=>by rw [d]at z;cases z⟩
 keep:=fun i h h' st k=>by
  obtain⟨⟨old,q⟩,o,q2,r⟩:=st;exact⟨⟨old,k e (by simp) _ q⟩,o,k it (by simp) _ q2,r⟩
 item:=by
  intro X hP hw hK hc i pins s σ H E I hf st hg;subst hP hw hK;obtain⟨xs,x,hq,hx⟩:=hg;obtain⟨its,rv,pL,hz⟩:=I.list hq;have p:=pL.isList;obtain⟨u,hu,ru⟩:=rv.get hx;obtain⟨⟨old,he⟩,hit⟩:=st;have hai:a≠it:=fun z=>by
   obtain⟨o,e1,c1,_⟩:=p;obtain⟨o2,e2,c2,_⟩:=hit;rw [z,e2]at e1;cases e1;rw [c1]at c2;exact absurd c2 (by decide)
  have hae:a≠e:=fun z=>by
   obtain⟨o,e1,c1,_⟩:=p;rw [z,he]at e1;cases e1;exact absurd (show Value.type "enumerate" = Value.type "list" from c1) (by decide)
  have hlt:i<its.length:=(aD.mp hu).1;have hE0:=hf e (by simp);have hI0:=hf it (by simp);refine wpAny_pyNext_enum_itemD (Draws.list (prog:=X.prog) (w:=X.w) (A:=X.A.in1) (I.ok.hd hc) it a hai its.toArray) he ⟨hit,p⟩ (by simpa using hlt) hne (by simp [hne,Ne.symm hae]) fun y h' tk hy ho hs' hT hsz hk=>⟨_,rfl,wpAny_letOwnedTupleGo_enum (s:={ s with heap:=h',toks:=tk+1 }) ho fun h'' he'' sb=>?_⟩;have hyu:y=u:=by
   have hy:its[i]? = some y:=by simpa using hy
   rw [hu]at hy;exact(ag hy).symm
  subst hyu;have keep:∀b o,b≠e→b≠it→s.heap.get? b=some o→h''.get? b=some o:=fun b o h1 h2 q=>(sb.2 b h1).trans (hk b o h1 h2 q);have hTe:s.heap.objs.size≠e:=Nat.ne_of_gt (aF he);have hTi:s.heap.objs.size≠it:=let⟨_,q,_⟩:=hit;Nat.ne_of_gt (aF q);have hT'':h''.get? s.heap.objs.size=some { cls:=.type "tuple",data:=.seq #[.int i tk,y] }:=(sb.2 _ hTe).trans hT;have hTn:H s.heap.objs.size=none:=I.Ah.fresh (aE _);have neT:∀b o,s.heap.get? b=some o→b≠s.heap.objs.size:=fun b o q=>aK (aF q);have EZ:∀b o,H b=some o→b≠e∧b≠it:=fun b o q=>⟨(fun z=>by rw [z,hE0.1]at q;cases q),(fun z=>by rw [z,hI0.1]at q;cases q)⟩;refine⟨.ref s.heap.objs.size,upd H s.heap.objs.size (.tup [.int i,x]),?_,rfl,⟨_,x,rfl,hTn,rfl,fun ys hy=>by rw [I.N0 hy hq];exact hx⟩,⟨⟨_,by simpa using he''⟩,?_⟩,fun b hb=>?_⟩
  ·show Inv X pins σ _ { s with heap:=h'',gens:=s.gens,drawn:=s.drawn,toks:=tk+1 };refine I.step (h':=h'') (g':=s.gens) (d':=s.drawn) (t':=tk+1) (ch:=[e,it]) (fun b hb=>?_) (fun b o _ _ hc q _=>keep b o (fun z=>hc (by simp [z])) (fun z=>hc (by simp [z])) q) (fun b o _ _ hc q _=>⟨o.slots,keep b o (fun z=>hc (by simp [z])) (fun z=>hc (by simp [z])) q⟩)
    (fun b o _ q n=>by rw [AG (neT b o q)];exact n) (fun b o hc q=>⟨o,keep b o (fun z=>hc (by simp [z])) (fun z=>hc (by simp [z])) q⟩) (fun b ys q=>by rw [AG (AO q hTn)];exact q) (fun b o u q=>by rw [AG (AO q hTn)];exact q)
    (fun b ps q=>⟨#[],by rw [AG (AO q hTn),q];simp⟩) (fun m hm=>?_) (fun b o q=>?_) I.bare
   ·rcases aL.mp hb with rfl|hb
    ·exact⟨hE0.2.2.2.1,hE0.2.1,hE0.2.2.2.2.1,hE0.2.2.2.2.2⟩
    ·have e2:b=it:=by simpa using hb
     subst e2;exact⟨hI0.2.2.2.1,hI0.2.1,hI0.2.2.2.2.1,hI0.2.2.2.2.2⟩
   ·obtain⟨o,es,ep,ho,r⟩:=hm;exact⟨o,es,ep,keep _ o (Ne.symm hE0.2.1) (Ne.symm hI0.2.1) ho,r⟩
   ·by_cases hb:b=s.heap.objs.size
    ·subst hb;rw [AJ]at q;cases q;exact⟨SW,[.int i tk,y],.cons ⟨tk,rfl⟩ (.cons ru .nil),_,hT'',rfl,_,rfl⟩
    ·rw [AG hb]at q;refine(I.Ah b o q).HK (fun c v hc r=>keep c v ?_ ?_ r) (fun c r=>by rw [AG (AO r hTn)];exact r) fun c ys r=>by rw [AG (AO r hTn)];exact r
     ·rcases hc with rfl|hc
      ·exact(EZ _ _ q).1
      ·exact(EZ _ _ hc).1
     ·rcases hc with rfl|hc
      ·exact(EZ _ _ q).2
      ·exact(EZ _ _ hc).2
  ·obtain⟨⟨o,q,r⟩,_⟩:=hs';exact⟨o,(sb.2 it (Ne.symm hne)).trans q,r⟩
  ·rcases aL.mp hb with rfl|hb
   ·rw [AG (Ne.symm hTe)];exact hE0.1
   ·have e2:b=it:=by simpa using hb
    subst e2;rw [AG (Ne.symm hTi)];exact hI0.1
 done:=by
  intro X hP hw hK hc i pins s σ H E I hf st hg;subst hP hw hK;obtain⟨xs,hq,hx⟩:=hg;obtain⟨its,rv,pL,hz⟩:=I.list hq;have p:=pL.isList;obtain⟨⟨old,he⟩,hit⟩:=st;have hai:a≠it:=fun z=>by
   obtain⟨o,e1,c1,_⟩:=p;obtain⟨o2,e2,c2,_⟩:=hit;rw [z,e2]at e1;cases e1;rw [c1]at c2;exact absurd c2 (by decide)
  have hl:its.length=i:=by rw [←rv.length];exact hx
  subst hl;obtain⟨f0,f1,f2,f3,f4,f5⟩:=hf it (by simp);exact wpAny_pyNext_enum_endD (Draws.list (prog:=X.prog) (w:=X.w) (A:=X.A.in1) (I.ok.hd hc) it a hai its.toArray) he ⟨hit,p⟩ fun h' eb=>⟨rfl,I.turned (t':=s.toks) (fun b o hb q=>eb b o hb q) f0 f1 f3 f4 f5⟩
 self:=fun _ _ _ _ _ st h=>by
  obtain⟨⟨old,he⟩,_⟩:=st;exact wpAny_pyIter_enum he h
def Yu(K:Fg)(ta:TA):TI:=fun σ H R=>ta σ H fun vs H1=>∃a,vs=[.ref a]∧(∃xs,AZ K H1 a xs)∧R (Tg K a) H1
def UC{X:Cx}{elts:List Expr}{x1}{tpos:Pos}{a:Expr}{ta:TA}{p pos:Pos}(hg:Gl X "enumerate")(hm:X.mg "enumerate" = none)(ha:PA X [a] ta)(hs:starEach [a] X.env=[(false,eval a X.env)]:=by rfl) :
  PI X (.Tuple elts x1 tpos) (.Call (.Name "enumerate" p) [a] [] pos) (Yu X.K ta):=by
 intro pins s σ H R I h;refine Call_ (Fe I hg hm boot_enumerate (aw (Az (ha pos pins s σ H _ I h) fun us s1 ⟨vs,H1,I1,r1,q1⟩=>?_) hs rfl));obtain⟨t,e,⟨xs,hq⟩,q⟩:=q1;subst e;cases r1 with
 |cons r rr =>
  cases rr;cases r;obtain⟨its,rv,p',hz⟩:=I1.list hq;refine call_enumerate_list (show s1.heap.IsList t its.toArray from p'.isList) fun h' he hit hsz hk=>wpAny_pyIter_enum he ?_;have I2:Inv X pins σ H1 { s1 with heap:=h' }:=I1.kept (t':=s1.toks) hk;have hn:s1.heap.objs.size+1≠s1.heap.objs.size:=by omega
  refine⟨s1.heap.objs.size+1,[s1.heap.objs.size+1,s1.heap.objs.size],_,_,H1,rfl,I2,Qo t _ _ hn,⟨⟨_,he⟩,hit⟩,fun b hb=>?_,q⟩;have hb':s1.heap.objs.size≤b:=by
   have hb2:b=s1.heap.objs.size+1∨b=s1.heap.objs.size:=by simpa using hb
   rcases hb2 with z|z
   ·rw [z];exact Nat.le_succ _
   ·rw [z];exact aE _
  exact I1.MI hb' (I1.Ah.fresh hb')
def Sg{K:Fg}{a:AD}{xs:List V}{g:TG}{tb:TS}{D:Ends}{σ:St}{H:Hp}(Pv:Nat→St→Hp→Prop)(h0:Pv 0 σ H)(hl:∀i σ H,i≤xs.length→Pv i σ H→AZ K H a xs)
 (hs:∀i x σ H,xs[i]? = some x→Pv i σ H→∀p,H p=none→g (.ref p) σ (upd H p (.tup [.int (i:Nat),x])) fun σ2 H2=>tb { D with nx:=Pv (i+1),ct:=Pv (i+1),bk:=D.nx } σ2 H2)(hd:∀σ H,Pv xs.length σ H→D.nx σ H) :
  ∃W:Nat→Nat→St→Hp→Prop,(∃m,W 0 m σ H)∧∀i m σ H,W i m σ H →
   ((Tg K a).stop i H∧D.nx σ H)∨((Tg K a).go i H∧∃N:St→Hp→Prop,(∀σ' H',N σ' H'→∃m',m'<m∧W (i+1) m' σ' H')∧∀x H',(Tg K a).DZ i H x H'→g x σ H' fun σ2 H2=>tb { D with nx:=N,ct:=N,bk:=D.nx } σ2 H2):=by
 refine⟨fun i m σ H=>m=xs.length-i∧i≤xs.length∧Pv i σ H,⟨xs.length,by simp,Nat.zero_le _,h0⟩,?_⟩;rintro i m σ H ⟨rfl,hi,p⟩;have q:=hl i σ H hi p;by_cases hlt:i<xs.length
 ·refine .inr ⟨⟨xs,xs[i],q,by simp [hlt]⟩,Pv (i+1),fun σ' H' p'=>⟨xs.length-(i+1),by omega,rfl,hlt,p'⟩,fun x H' y=>?_⟩;obtain⟨pp,x',rfl,hn,rfl,y⟩:=y;exact hs i x' σ _ (y xs q) p pp hn
 ·have e:i=xs.length:=by omega
  subst e;exact .inl ⟨⟨xs,q,rfl⟩,hd σ H p⟩
section
variable{X:Cx}{scope:Scope}{cl:List (Str×AD)}{N:List Str}{C:AD}{s₀:SD}{H₀:Hp}{fp:List AD}
def Ij:Df (Ak X scope cl N C s₀ H₀ fp) (.type "list") (fun xs H Q=>∃p ys,xs=[.ref p]∧(AZ X.K H p ys∨Ag X.K H p ys)∧∀l,H l=none→Q (.ref l) (upd H l (.lst ys))):=JQ
end
def Yx(i:Expr):Prop:=∀ov iv,subscripted i false ov iv=operate [ov,iv] (getItem ov iv)
def WI{prog:Program}{w:World}{A:Around}{E:VL→SD→Prop}{s:SD}{env:Env}{value slice:Expr}{pos:Pos}{T id:String}{Q:VL→SD→Prop}
 (hl:typeLookup (.type T) "__getitem__" = pure (some (.builtin id)))(hs:Yx slice)
 (h:wpAny (model prog w) A (eval value env) (fun o s₁=>wpAny (model prog w) A (eval slice env) (fun i s₂=>s₂.TypeIs o T∧wpAny (model prog w) A (getItem o i) Q E s₂) E s₁) E s) :
  wpAny (model prog w) A (eval (.Subscript value slice pos) env) Q E s:=by
 refine Subscript_ (ai h (fun o s₁ h₁=>ai h₁ (fun i s₂ h₂=>?_) fun _ _ x=>x) fun _ _ x=>x);obtain⟨hT,h₂⟩:=h₂;unfold subscriptTail;refine Wb ?_;rw [getitemInPython_of_ne hT.not_modules];refine Wb (wpAny_specialOf hT hl ?_);have fin:wpAny (model prog w) A (subscripted slice false o i) (fun r s₃=>wpAny (model prog w) A (letTemporaryGo value o r>>=fun _=>pure r) Q E s₃) E s₂:=by
  rw [hs o i];exact wpAny_operating (ai h₂ (fun r s₃ h₃=>Wb (wpAny_letTemporaryGo (aA h₃))) fun _ _ x=>x)
 first
  |exact aA (Wb fin)
  |exact Wb (aA (Wb fin))
  |exact Wb fin
end L2
namespace TH
open PySem PyProof.Rows PySem.SeqAt
def GG:Tr→List Int
 |.nil=>[]
 |.cons b r=>reduceHash (Builtin.Tuple.tupleHashOf (GG b))::GG r
def Ay(t:Tr):Int:=reduceHash (Builtin.Tuple.tupleHashOf (GG t))
section
variable{prog:Program}{w:World}{E:VL→SD→Prop}
def IsTuple.ty{h:Heap}{a:AD}{x:Array VL}{s:SD}(e:s.heap=h)(k:h.IsTuple a x):s.TypeIs (.ref a) "tuple" := by
 subst e;obtain⟨o,ho,hc,_⟩:=k;exact⟨o,ho,hc⟩
def QC(prog:Program)(w:World)(E:VL→SD→Prop)(t:Tr):Prop:=∀(us:List VL) (A:Around) (s:SD) (b:Array Int) (Q:Array Int→SD→Prop),Vs s.heap t us→A.units+t.deep≤cLine →
 (∀tk b',b'.toList=b.toList++GG t→Q b' { s with toks:=tk })→wpAny (model prog w) A (forIn us b fun x r=>do let h ←pyHash x;pure PUnit.unit;pure (ForInStep.yield (r.push h))) Q E s
def Kd{t:Tr}(row:QC prog w E t){a:AD}{its:List VL}{A:Around}{s:SD}{Q:Int→SD→Prop}(h1:s.heap.IsTuple a its.toArray)(h2:Vs s.heap t its)(hu:A.units+t.deep<cLine)
 (h:∀tk,Q (Ay t) { s with toks:=tk }):wpAny (model prog w) A (pyHash (.ref a)) Q E s:=by
 have hT:=IsTuple.ty rfl h1;obtain⟨o,ho,hc,n,hd⟩:=id h1;refine PySem.W.pyHash_slot (T := "tuple") hT F.slot_tuple_hash F.entry_tuple_hash (F.args_tuple_hash_1 _) (beq_builtin_none _) (.inr (by omega)) ?_;show wpAny _ _ (Builtin.Tuple.tupleItemsOf (.ref a)>>=_) _ _ s;refine Wb (wpAny_tupleItemsOf ho hd ?_);refine Wb ?_;rw [←Array.forIn_toList];refine row its A.in1 s #[] _ h2 (by rw [Around.in1_units];omega) fun tk b hb=>?_;show wpAny _ _ (retInt (Builtin.Tuple.tupleHashOf b.toList)) _ _ _;rw [hb];exact Wb (wpAny_mkInt (aA ⟨_,_,rfl,h _⟩))
def Kh:∀t:Tr,QC prog w E t
 |.nil=>fun us A s b Q e _ h=>by rw [Vs]at e;subst e;exact aA (h s.toks b (by simp [GG]))
 |.cons c r=>fun us A s b Q e hu h=>by
  rw [Vs]at e;obtain⟨a,its,rest,rfl,h1,h2,h3⟩:=e;have hd:(Tr.cons c r).deep=max (c.deep+1) r.deep:=rfl;rw [List.forIn_cons];refine Wb (Wb (Kd (Kh c) h1 h2 (by omega) fun tk=>?_));refine Wb (aA (aA ?_));exact Kh r rest A _ _ Q h3 (by omega) fun tk' b' hb=>h tk' b' (by simp [hb,GG,Ay])
def Wo{t:Tr}{a:AD}{its:List VL}{A:Around}{s:SD}{Q:Int→SD→Prop}(h1:s.heap.IsTuple a its.toArray)(h2:Vs s.heap t its)(hu:A.units+t.deep<cLine)
 (h:∀tk,Q (Ay t) { s with toks:=tk }):wpAny (model prog w) A (pyHash (.ref a)) Q E s:=Kd (Kh t) h1 h2 hu h
def Good(h:Heap)(n:Nat)(v:VL):Prop:=∃a its t,v=.ref a∧h.IsTuple a its.toArray∧Vs h t its∧t.deep<n
def Ib{h:Heap}:∀ {t:Tr} {us:List VL} {n:Nat},Vs h t us→t.deep≤n→∀v∈us,Good h n v
 |.nil,us,n,e,_,v,hv=>by rw [Vs]at e;subst e;cases hv
 |.cons c r,us,n,e,hd,v,hv=>by
  rw [Vs]at e;obtain⟨a,its,rest,rfl,h1,h2,h3⟩:=e;rw [Tr.deep]at hd;rcases aL.mp hv with rfl|hv
  ·exact⟨a,its,c,rfl,h1,h2,by omega⟩
  ·exact Ib h3 (by omega) v hv
def OA:∀(n:Nat) {v:VL} {A:Around} {s:SD} {Q:Bool→SD→Prop},Good s.heap n v→Q true s→wpAny (model prog w) A (hashByValue n v) Q E s
 |0,v,A,s,Q,⟨_,_,_,_,_,_,z⟩,_=>absurd z (aT _)
 |n+1,v,A,s,Q,⟨a,its,t,e,h1,h2,hd⟩,h=>by
  subst e;have hT:=IsTuple.ty rfl h1;obtain⟨o,ho,hc,k,hdt⟩:=id h1;unfold hashByValue;refine Wb (wpAny_specialOf hT F.slot_tuple_hash.lookup ?_);refine Wb (az ho hdt ?_);refine Wb ?_;show wpAny _ _ (forIn its.toArray _ _) _ _ s;rw [←Array.forIn_toList];refine wpAny_forIn_list _ (fun rest r s'=>r.1=none∧s'=s∧∀v∈rest,Good s.heap n v) _ ?_ ?_ _ _ ⟨rfl,rfl,Ib h2 (by omega)⟩
  ·rintro v rest r s' ⟨hr,rfl,hall⟩;refine Wb (OA n (hall v aR) ?_);simp only [Bool.not_true,Bool.false_eq_true,if_false];exact aA ⟨rfl,rfl,fun u hu'=>hall u (aP _ hu')⟩
  ·rintro⟨r1,r2⟩ s' ⟨hr,rfl,_⟩;simp only at hr;subst hr;exact aA h
def quiet:∀(n:Nat) {v:VL} {A:Around} {s:SD} {Q:Bool→SD→Prop},Good s.heap n v→Q true s→wpAny (model prog w) A (eqIsQuiet n v) Q E s
 |0,v,A,s,Q,⟨_,_,_,_,_,_,z⟩,_=>absurd z (aT _)
 |n+1,v,A,s,Q,⟨a,its,t,e,h1,h2,hd⟩,h=>by
  subst e;have hT:=IsTuple.ty rfl h1;obtain⟨o,ho,hc,k,hdt⟩:=id h1;unfold eqIsQuiet;refine Wb (wpAny_specialOf hT F.slot_tuple_eq.lookup ?_);show wpAny _ _ (isInstance (.ref a) (.type "tuple")>>=_) _ _ s;refine Wb (wpAny_isInstance hT isSubtype_tuple_tuple ?_);simp only [Bool.not_true,Bool.false_eq_true,if_false];refine Wb (az ho hdt ?_);refine Wb ?_;show wpAny _ _ (forIn its.toArray _ _) _ _ s;rw [←Array.forIn_toList];refine wpAny_forIn_list _ (fun rest r s'=>r.1=none∧s'=s∧∀v∈rest,Good s.heap n v) _ ?_ ?_ _ _ ⟨rfl,rfl,Ib h2 (by omega)⟩
  ·rintro v rest r s' ⟨hr,rfl,hall⟩;refine Wb (quiet n (hall v aR) ?_);simp only [Bool.not_true,Bool.false_eq_true,if_false];exact aA ⟨rfl,rfl,fun u hu'=>hall u (aP _ hu')⟩
  ·rintro⟨r1,r2⟩ s' ⟨hr,rfl,_⟩;simp only at hr;subst hr;exact aA h
def K6:∀(n:Nat) {v:VL} {A:Around} {s:SD} {Q:Bool→SD→Prop},Good s.heap n v→Q false s→wpAny (model prog w) A (ofAClassStatement n v) Q E s
 |0,v,A,s,Q,⟨_,_,_,_,_,_,z⟩,_=>absurd z (aT _)
 |n+1,v,A,s,Q,⟨a,its,t,e,h1,h2,hd⟩,h=>by
  subst e;have hT:=IsTuple.ty rfl h1;obtain⟨o,ho,hc,k,hdt⟩:=id h1;unfold ofAClassStatement;refine Wb (wpAny_typeOf hT ?_);have ht:("tuple" == "tuple")=true:=by rfl
  dsimp only;rw [if_pos ht];refine Wb (aA ?_);simp only [Bool.not_true,Bool.false_eq_true,if_false];refine Wb (az ho hdt ?_);refine Wb ?_;rw [←Array.forIn_toList];refine wpAny_forIn_list _ (fun rest r s'=>r.1=none∧s'=s∧∀v∈rest,Good s.heap n v) _ ?_ ?_ _ _ ⟨rfl,rfl,Ib h2 (by omega)⟩
  ·rintro v rest r s' ⟨hr,rfl,hall⟩;refine Wb (K6 n (hall v aR) ?_);simp only [Bool.false_eq_true,if_false];exact aA ⟨rfl,rfl,fun u hu'=>hall u (aP _ hu')⟩
  ·rintro⟨r1,r2⟩ s' ⟨hr,rfl,_⟩;simp only at hr;subst hr;exact aA h
def U4{x:VL}{l:List VL}{A:Around}{s:SD}{Q:Bool→SD→Prop}(hx:Good s.heap 8 x)(hl:∀y∈l,Good s.heap 8 y)(h:Q false s):wpAny (model prog w) A (searchCouldBeSeen x l) Q E s:=by
  unfold searchCouldBeSeen
  refine Wb ?_
  refine wpAny_forIn_list _ (fun rest r s'=>r.1=none∧s'=s∧∀v∈rest,Good s.heap 8 v) _ ?_ ?_ _ _ ⟨rfl,rfl,hl⟩
  · rintro v rest r s' ⟨hr,rfl,hall⟩
    have go:∀b:Bool,wpAny (model prog w) A (if b=true then pure (ForInStep.yield (none,())) else do
        let q ←eqIsQuiet 8 x
        if(!q)=true then pure (ForInStep.done (some true,())) else do
          let q ←eqIsQuiet 8 v
          if(!q)=true then pure (ForInStep.done (some true,())) else do
            let q ←ofAClassStatement 8 x
            if q=true then pure (ForInStep.done (some true,())) else do
              let q ←ofAClassStatement 8 v
              if q=true then pure (ForInStep.done (some true,())) else pure (ForInStep.yield (none,())))
        (fun st s''=>match st with
          |ForInStep.yield r=>r.1=none∧s''=s'∧∀v∈rest,Good s'.heap 8 v
          |ForInStep.done r=>False) E s':=fun b=>by
      cases b with
      |true=>rw [if_pos rfl];exact aA ⟨rfl,rfl,fun u hu'=>hall u (aP _ hu')⟩
      |false =>
        rw [if_neg aI]
        refine Wb (quiet 8 hx ?_)
        simp only [Bool.not_true,Bool.false_eq_true,if_false]
        refine Wb (quiet 8 (hall v aR) ?_)
        simp only [Bool.not_true,Bool.false_eq_true,if_false]
        refine Wb (K6 8 hx ?_)
        simp only [Bool.false_eq_true,if_false]
        refine Wb (K6 8 (hall v aR) ?_)
        simp only [Bool.false_eq_true,if_false]
        exact aA ⟨rfl,rfl,fun u hu'=>hall u (aP _ hu')⟩
    refine ai (go _) (fun st s'' z=>?_) fun _ _ z=>z
    cases st with
    |yield r=>exact z
    |done r=>exact z.elim
  · rintro⟨r1,r2⟩ s' ⟨hr,rfl,_⟩
    simp only at hr
    subst hr
    exact aA h
end
end TH
namespace TH
open PySem PyProof.Rows PySem.SeqAt
abbrev ES:=Array (Int×Tr)
def Ke(et:ES)(i:Nat):Int:=(et[i]?.map (·.1)).getD 0
def Q2(et:ES)(t:SetTable)(x:Tr)(h:Int):Option (Option Nat) :=
 if t.gaveWay then none else
 match t.probe (Ke et) h (t.probeStart h) with
 |some (.empty j none)=>some (some j)
 |some (.candidate _ i _)=>match et[i]? with
  |some (_,y)=>if y=x then some none else none
  |none=>none
 |_=>none
def FK(st:ES×SetTable)(x:Tr):Option (ES×SetTable) :=
 if(st.2.fits st.1.size&&decide (st.1.size≤1000)&&st.2.plain)=false then none else
 match Q2 st.1 st.2 x (Ay x) with
 |none=>none
 |some none=>some st
 |some (some slot) =>
  if(st.2.put slot).1.tooFull=false then some (SetTable.insertAt st.1 (st.2.put slot).2 (Ay x,x),(st.2.put slot).1) else
  if((st.2.put slot).1.fits (SetTable.insertAt st.1 (st.2.put slot).2 (Ay x,x)).size&&decide (SetTable.sizeAbove (SetTable.grown (st.1.size+1))≤100000))=false then none else
  match (st.2.put slot).1.relaid ((SetTable.insertAt st.1 (st.2.put slot).2 (Ay x,x)).map (·.1)) (SetTable.grown (st.1.size+1)) with
  |none=>none
  |some (t',order) =>
   if(order.filterMap ((SetTable.insertAt st.1 (st.2.put slot).2 (Ay x,x))[·]?)).size=(SetTable.insertAt st.1 (st.2.put slot).2 (Ay x,x)).size then
    some (order.filterMap ((SetTable.insertAt st.1 (st.2.put slot).2 (Ay x,x))[·]?),t') else none
def Kk(G:VL→Tr→Prop)(h:Heap)(p:Int×VL)(q:Int×Tr):Prop:=p.1=q.1∧q.2.deep<8∧G p.2 q.2∧∃a its,p.2=.ref a∧h.IsTuple a its.toArray∧Vs h q.2 its
abbrev B1(G:VL→Tr→Prop)(h:Heap)(ev:Array (Int×VL))(et:ES):Prop:=Paired (Kk G h) ev.toList et.toList
variable{G:VL→Tr→Prop}
section
variable{α β:Type}{F:α→β→Prop}
def Paired.get:∀ {l:List α} {m:List β},Paired F l m→∀ {i:Nat} {y:β},m[i]? = some y→∃x,l[i]? = some x∧F x y
 |_,_,.nil,i,y,h=>by simp at h
 |_,_,.cons h1 r,0,y,h=>by simp at h;subst h;exact⟨_,rfl,h1⟩
 |_,_,.cons h1 r,i+1,y,h=>Paired.get r (by simpa using h)
def Paired.none:∀ {l:List α} {m:List β},Paired F l m→∀ {i:Nat},m[i]? = Option.none→l[i]? = Option.none:=fun {l m} r i h=>by
 have:=r.length;rw [List.getElem?_eq_none_iff]at h ⊢;omega
def Paired.app{l2:List α}{m2:List β}(k:Paired F l2 m2):∀ {l:List α} {m:List β},Paired F l m→Paired F (l++l2) (m++m2)
 |_,_,.nil=>k
 |_,_,.cons h r=>.cons h (Paired.app k r)
def Paired.take:∀ {l:List α} {m:List β} (n:Nat),Paired F l m→Paired F (l.take n) (m.take n)
 |_,_,0,_=>by simpa using Paired.nil
 |_,_,n+1,.nil=>by simpa using Paired.nil
 |_,_,n+1,.cons h r=>.cons h (Paired.take n r)
def Paired.drop:∀ {l:List α} {m:List β} (n:Nat),Paired F l m→Paired F (l.drop n) (m.drop n)
 |_,_,0,h=>h
 |_,_,n+1,.nil=>by simpa using Paired.nil
 |_,_,n+1,.cons h r=>Paired.drop n r
def Paired.pick{l:List α}{m:List β}(r:Paired F l m):∀(o:List Nat),Paired F (o.filterMap (l[·]?)) (o.filterMap (m[·]?))
 |[]=>.nil
 |i::o=>by
  rw [List.filterMap_cons,List.filterMap_cons];cases e:m[i]? with
  |none=>rw [Paired.none r e];exact Paired.pick r o
  |some y =>
   obtain⟨x,e2,h⟩:=Paired.get r e;rw [e2];exact .cons h (Paired.pick r o)
def Paired.imp{G:α→β→Prop}(h:∀a b,F a b→G a b):∀ {l:List α} {m:List β},Paired F l m→Paired G l m
 |_,_,.nil=>.nil
 |_,_,.cons k r=>.cons (h _ _ k) (Paired.imp h r)
end
def Fy{α:Type}(xs:Array α)(p:Nat)(x:α):(SetTable.insertAt xs p x).toList=xs.toList.take p++x::xs.toList.drop p:=by
 unfold SetTable.insertAt;simp [List.extract];rw [List.take_of_length_le (by simp)]
def B1.fst{h:Heap}{ev:Array (Int×VL)}{et:ES}(r:B1 G h ev et):ev.map (·.1)=et.map (·.1):=by
 have key:∀ {l:List (Int×VL)} {m:List (Int×Tr)},Paired (Kk G h) l m→l.map (·.1)=m.map (·.1):=fun r=>by
  induction r with
  |nil=>rfl
  |cons k _ ih=>rw [List.map_cons,List.map_cons,ih,k.1]
 apply Array.toList_inj.mp
 simpa using key r
def B1.size{h:Heap}{ev:Array (Int×VL)}{et:ES}(r:B1 G h ev et):ev.size=et.size:=by simpa using Paired.length r
def B1.Ke{h:Heap}{ev:Array (Int×VL)}{et:ES}(r:B1 G h ev et)(i:Nat):(ev[i]?.map (·.1)).getD 0=Ke et i:=by
 have:=bG (fun a:Array Int=>a[i]?) r.fst;simp only [Array.getElem?_map]at this;rw [TH.Ke,this]
def B1.good{h:Heap}{ev:Array (Int×VL)}{et:ES}(r:B1 G h ev et):∀p∈ev.toList,Good h 8 p.2:=by
 have key:∀ {l:List (Int×VL)} {m:List (Int×Tr)},Paired (Kk G h) l m→∀p∈l,Good h 8 p.2:=fun r=>by
  induction r with
  |nil=>intro p hp;cases hp
  |cons k _ ih =>
   intro p hp;rcases aL.mp hp with rfl|hp
   ·obtain⟨_,hd,_,a,its,e,h1,h2⟩:=k;exact⟨a,its,_,e,h1,h2,hd⟩
   ·exact ih p hp
 exact key r
def B1.at{h:Heap}{ev:Array (Int×VL)}{et:ES}(r:B1 G h ev et){i:Nat}{z:Int}{y:Tr}(e:et[i]? = some (z,y)):∃a its,ev[i]? = some (z,.ref a)∧h.IsTuple a its.toArray∧Vs h y its∧y.deep<8:=by
 obtain⟨⟨z',v⟩,h1,h2,hd,_,a,its,e2,h3,h4⟩:=Paired.get r (by simpa using e);have h2:z'=z:=h2;have e2:v=.ref a:=e2;subst h2 e2;exact⟨a,its,by simpa using h1,h3,h4,hd⟩
def B1.keeps{h h':Heap}{ev:Array (Int×VL)}{et:ES}(k:∀b o,h.get? b=some o→o.cls=.type "tuple" → h'.get? b=some o)(r:B1 G h ev et):B1 G h' ev et :=
 Paired.imp (fun p q ⟨e,hd,hg,a,its,e2,h1,h2⟩=>⟨e,hd,hg,a,its,e2,(by obtain⟨o,ho,hc,n,hdt⟩:=h1;exact⟨o,k _ _ ho hc,hc,n,hdt⟩),h2.keeps k⟩) r
section
variable{prog:Program}{w:World}{E:VL→SD→Prop}{A:Around}{s:SD}{a xa:AD}{o:Obj}{ev:Array (Int×VL)}{et:ES}{ep:Nat}{t:SetTable}{x:Tr}{its:List VL}{h:Int}
def TC{r:Option Nat}{Q:SetFound→SD→Prop}(ho:s.heap.get? a=some o)(hd:o.data=.set ev ep t)(hf:t.fits et.size=true)(R:B1 G s.heap ev et)(hx1:s.heap.IsTuple xa its.toArray)(hx2:Vs s.heap x its)(hxd:x.deep<8)
 (hu:A.units+8<cLine)(hs:Q2 et t x h=some r)(h0:r=none→Q (.there none) s)(h1:∀j,r=some j→Q (.free j false) s):wpAny (model prog w) A (setSearch a (.ref xa) h true) Q E s:=by
 have hf':t.fits ev.size=true:=by rw [R.size];exact hf
 unfold Q2 at hs;by_cases hg:t.gaveWay=true
 ·rw [if_pos hg]at hs;cases hs
 rw [if_neg hg]at hs;unfold setSearch;rw [show(100000:Nat)=99999+1 from rfl,setSearchFrom];refine Wb (aq ho hd hf' ?_);dsimp only;rw [if_neg hg];have hpr:∀f:Nat→Int,(∀i,f i=Ke et i)→t.probe f h ((none:Option SetTable.Probe).getD (t.probeStart h))=t.probe (Ke et) h (t.probeStart h):=fun f hf=>by
  rw [show f=Ke et from funext hf];rfl
 generalize hst:t.probe _ h ((none:Option SetTable.Probe).getD (t.probeStart h))=pr;have hpr':pr=t.probe (Ke et) h (t.probeStart h):=hst.symm.trans (hpr _ fun i=>R.Ke i);clear hst hpr;subst hpr';cases hp:t.probe (Ke et) h (t.probeStart h) with
 |none=>rw [hp]at hs;cases hs
 |some met =>
  rw [hp]at hs;cases met with
  |empty j dummy =>
   cases dummy with
   |none=>cases hs;exact aA (h1 j rfl)
   |some d=>cases hs
  |candidate j i next =>
   cases he:et[i]? with
   |none=>simp only [he]at hs;cases hs
   |some zy =>
    obtain⟨z,y⟩:=zy;simp only [he]at hs;by_cases hy:y=x
    ·rw [if_pos hy]at hs;cases hs;subst hy;obtain⟨b,its2,e1,e2,e3,e4⟩:=R.at he;cases hl:t.led with
     |true =>
      simp only [Bool.not_true,Bool.false_eq_true,if_false];rw [e1];refine Wb (aV (MY e2 e3 hx1 hx2 (by omega) prog w E _ ?_));rw [decide_eq_true rfl];refine Wb (aq ho hd hf' ?_);exact aA (h0 rfl)
     |false =>
      simp only [Bool.not_false,if_true];refine Wb (U4 ⟨xa,its,_,rfl,hx1,hx2,hxd⟩ (fun v hv=>?_) ?_)
      ·obtain⟨p,hp1,rfl⟩:=ae.mp hv;exact R.good p (Array.mem_toList_iff.mpr (Array.mem_filter.mp (Array.mem_toList_iff.mp hp1)).1)
      simp only [Bool.false_eq_true,if_false];rw [e1];refine Wb (aV (MY e2 e3 hx1 hx2 (by omega) prog w E _ ?_));rw [decide_eq_true rfl];refine Wb (aq ho hd hf' ?_);exact aA (h0 rfl)
    ·rw [if_neg hy]at hs;cases hs
def Es{n:Nat}(h:n≤100000):n≤sizeLine:=aM h (by rw [sizeLine_eq];decide)
def QJ{hp:Heap}(ho:hp.get? a=some o)(hd:o.data=.set ev ep t)(ev':Array (Int×VL))(t':SetTable):(hp.update a (Obj.putSet ev' t')).get? a=some { o with data:=.set ev' (ep+1) t' }:=by
 have:=Heap.get?_update_self (Obj.putSet ev' t') ho (by rw [putSet_of ev' t' hd];rfl);rw [putSet_of ev' t' hd]at this;exact this
def PJ{hp:Heap}(ho:hp.get? a=some o)(hc:o.cls=.type "set")(g:Obj→Obj):∀b u,hp.get? b=some u→u.cls=.type "tuple" →(hp.update a g).get? b=some u:=fun b u q hu=>by
 have:a≠b:=fun z=>by
  subst z;rw [ho]at q;cases q;rw [hc]at hu
  injection hu with z
  exact absurd z (by decide)
 rw [Heap.get?_update_other _ _ this];exact q
def XB{et' : ES}{t' : SetTable}{Q : Bool→SD→Prop}(ho : s.heap.get? a = some o)(hc : o.cls = .type "set")(hd : o.data = .set ev ep t)(R : B1 G s.heap ev et)(hx1 : s.heap.IsTuple xa its.toArray)(hx2 : Vs s.heap x its)(hxd : x.deep < 8)(hxg : G (.ref xa) x)
 (hu : A.units + 8 < cLine)(hs : FK (et,t) x = some (et',t'))
 (k : ∀ (b : Bool) (h' : Heap) (tk : Nat) (ev' : Array (Int×VL)) (ep' : Nat),Heap.SameBut a s.heap h'→h'.get? a = some { o with data:=.set ev' ep' t' }→B1 G h' ev' et'→Q b { s with heap:=h',toks:=tk }) :
    wpAny (model prog w) A (setAdd a (.ref xa)) Q E s := by
  unfold setAdd
  refine aV (Wb (Wo hx1 hx2 (by omega) fun tk => ?_))
  unfold setAddHashed
  refine aV ?_
  unfold FK at hs
  by_cases h1 : (t.fits et.size && decide (et.size≤1000) && t.plain) = false
  · rw [if_pos h1] at hs; cases hs
  rw [if_neg h1] at hs
  simp only [Bool.not_eq_false,Bool.and_eq_true,decide_eq_true_eq] at h1
  obtain ⟨⟨hf,hz⟩,hpl⟩:=h1
  have hf' : t.fits ev.size = true := by rw [R.size]; exact hf
  cases hsr : Q2 et t x (Ay x) with
  | none => simp only [hsr] at hs; cases hs
  | some r =>
    simp only [hsr] at hs
    rw [show (100000 : Nat) = 99999 + 1 from rfl,setAddHashedIn]
    refine Wb (aq (s:={ s with toks:=tk }) ho hd hf' ?_)
    dsimp only
    have hbs : byScan (.ref xa) ev = false:=rfl
    rw [hbs,if_neg aI]
    refine Wb (TC (s:={ s with toks:=tk }) ho hd hf R hx1 hx2 hxd hu hsr (fun hr => ?_) fun j hr => ?_)
    · subst hr
      cases hs
      exact aA (k _ s.heap tk ev ep (Heap.SameBut.refl ..) (by rw [ho,← hd]) R)
    · subst hr
      dsimp only at hs ⊢
      refine Wb (aq (s:={ s with toks:=tk }) ho hd hf' ?_)
      dsimp only
      have hpl2 : (t.put j).1.plain = true:=hpl
      rw [if_pos hpl2]
      refine Wb (OA 8 (s:={ s with toks:=tk }) ⟨xa,its,x,rfl,hx1,hx2,hxd⟩ ?_)
      simp only [if_true]
      have R1 : B1 G s.heap (SetTable.insertAt ev (t.put j).2 (Ay x,.ref xa)) (SetTable.insertAt et (t.put j).2 (Ay x,x)) := by
        unfold B1
        rw [Fy,Fy]
        exact Paired.app (.cons ⟨rfl,hxd,hxg,xa,its,rfl,hx1,hx2⟩ (Paired.drop _ R)) (Paired.take _ R)
      have hz1 : (SetTable.insertAt ev (t.put j).2 (Ay x,Value.ref xa)).size≤1001 := by
        have h2:=bG List.length (Fy ev (t.put j).2 (Ay x,Value.ref xa))
        simp only [Array.length_toList,List.length_append,List.length_take,List.length_cons,List.length_drop] at h2
        have:=R.size
        omega
      have hz2 : (SetTable.insertAt et (t.put j).2 (Ay x,x)).size = (SetTable.insertAt ev (t.put j).2 (Ay x,Value.ref xa)).size:=R1.size.symm
      refine Wb (wpAny_storeSet_of (s:={ s with toks:=tk }) ho hd ?_ (Es (by omega)))
      have g1:=QJ ho hd (SetTable.insertAt ev (t.put j).2 (Ay x,.ref xa)) (t.put j).1
      have k1:=PJ ho hc (Obj.putSet (SetTable.insertAt ev (t.put j).2 (Ay x,.ref xa)) (t.put j).1)
      have sb1:=af s.heap a (Obj.putSet (SetTable.insertAt ev (t.put j).2 (Ay x,.ref xa)) (t.put j).1)
      by_cases hfull : (t.put j).1.tooFull = false
      · rw [if_pos hfull] at hs
        cases hs
        rw [hfull]
        simp only [Bool.and_false,Bool.false_eq_true,if_false]
        exact aA (k _ _ tk _ _ sb1 g1 (R1.keeps k1))
      · rw [if_neg hfull] at hs
        have hfull : (t.put j).1.tooFull = true := by simpa using hfull
        rw [hfull]
        simp only [Bool.not_false,Bool.and_true,if_true]
        by_cases h2 : ((t.put j).1.fits (SetTable.insertAt et (t.put j).2 (Ay x,x)).size && decide (SetTable.sizeAbove (SetTable.grown (et.size + 1))≤100000)) = false
        · rw [if_pos h2] at hs; cases hs
        rw [if_neg h2] at hs
        simp only [Bool.not_eq_false,Bool.and_eq_true,decide_eq_true_eq] at h2
        obtain ⟨hfit,hsa⟩:=h2
        cases hrl : (t.put j).1.relaid ((SetTable.insertAt et (t.put j).2 (Ay x,x)).map (·.1)) (SetTable.grown (et.size + 1)) with
        | none => simp only [hrl] at hs; cases hs
        | some to =>
          obtain ⟨t2,order⟩:=to
          simp only [hrl] at hs
          by_cases h3 : (order.filterMap ((SetTable.insertAt et (t.put j).2 (Ay x,x))[·]?)).size = (SetTable.insertAt et (t.put j).2 (Ay x,x)).size
          · rw [if_pos h3] at hs
            cases hs
            have R2 : B1 G s.heap (order.filterMap ((SetTable.insertAt ev (t.put j).2 (Ay x,Value.ref xa))[·]?)) (order.filterMap ((SetTable.insertAt et (t.put j).2 (Ay x,x))[·]?)) := by
              unfold B1
              have:=Paired.pick R1 order.toList
              simpa using this
            have g2:=QJ g1 rfl (order.filterMap ((SetTable.insertAt ev (t.put j).2 (Ay x,Value.ref xa))[·]?)) t'
            have k2:=PJ g1 hc (Obj.putSet (order.filterMap ((SetTable.insertAt ev (t.put j).2 (Ay x,Value.ref xa))[·]?)) t')
            have sb2:=af (s.heap.update a (Obj.putSet (SetTable.insertAt ev (t.put j).2 (Ay x,.ref xa)) (t.put j).1)) a (Obj.putSet (order.filterMap ((SetTable.insertAt ev (t.put j).2 (Ay x,Value.ref xa))[·]?)) t')
            refine Wb ?_
            unfold setRelay
            refine Wb (aq g1 rfl (by rw [← hz2]; exact hfit) ?_)
            dsimp only
            rw [R.size,if_neg (Nat.not_lt.mpr (Es hsa))]
            refine Wb ?_
            rw [R1.fst,hrl]
            have hsz : (order.filterMap ((SetTable.insertAt ev (t.put j).2 (Ay x,Value.ref xa))[·]?)).size = (SetTable.insertAt ev (t.put j).2 (Ay x,Value.ref xa)).size := by rw [R2.size,h3,hz2]
            have hne : ¬ ((order.filterMap ((SetTable.insertAt ev (t.put j).2 (Ay x,Value.ref xa))[·]?)).size != (SetTable.insertAt ev (t.put j).2 (Ay x,Value.ref xa)).size) = true := by simp [hsz]
            show wpAny _ _ (do if (order.filterMap ((SetTable.insertAt ev (t.put j).2 (Ay x,Value.ref xa))[·]?)).size != (SetTable.insertAt ev (t.put j).2 (Ay x,Value.ref xa)).size then unsupported "internal:set-table-lost-an-element"
                               pure (order.filterMap ((SetTable.insertAt ev (t.put j).2 (Ay x,Value.ref xa))[·]?),t')) _ _ _
            rw [if_neg hne]
            refine aA ?_
            refine wpAny_storeSet_of g1 rfl ?_ (Es (by rw [hsz]; omega))
            exact aA (k _ _ tk _ _ (sb1.trans sb2) g2 ((R2.keeps k1).keeps k2))
          · rw [if_neg h3] at hs; cases hs
end
end TH
namespace TH
open PySem
def grow:List Tr→Tr→List Tr
 |_,.nil=>[]
 |pre,.cons b r=>((Tr.of (Tr.Be (b.bs++[.nil]))::grow [] b).map fun g=>Tr.of (Tr.Be (pre++g::r.bs)))++grow (pre++[b]) r
def bj(t:Tr):List Tr:=Tr.of (Tr.Be (t.bs++[.nil]))::grow [] t
def ups(l:List Tr):List Tr:=l.flatMap bj
def JS(st:ES×SetTable):List Tr→Option (ES×SetTable)
 |[]=>some st
 |x::r=>(FK st x).bind fun st'=>JS st' r
def Hd(led:Bool):ES×SetTable:=(#[],.fresh 0 0 led)
def LU(st:ES×SetTable):List Tr:=st.1.toList.map (·.2)
def tz:Nat→List Tr
 |0=>[.nil]
 |n+1=>(Tr.Be ((ups (tz n)).eraseDups)).reverse
end TH
namespace TH
open PySem PyProof.Rows PySem.SeqAt
def Nt(G:VL→Tr→Prop)(h:Heap)(v:VL)(x:Tr):Prop:=x.deep<8∧G v x∧∃a its,v=.ref a∧h.IsTuple a its.toArray∧Vs h x its
abbrev GL(G:VL→Tr→Prop)(h:Heap)(vs:List VL)(xs:List Tr):Prop:=Paired (Nt G h) vs xs
variable{G:VL→Tr→Prop}
def Nt.keeps{h h':Heap}(k:∀b o,h.get? b=some o→o.cls=.type "tuple" → h'.get? b=some o){v:VL}{x:Tr}(r:Nt G h v x):Nt G h' v x:=by
 obtain⟨hd,hg,a,its,e,h1,h2⟩:=r;exact⟨hd,hg,a,its,e,(by obtain⟨o,ho,hc,n,hdt⟩:=h1;exact⟨o,k _ _ ho hc,hc,n,hdt⟩),h2.keeps k⟩
def GL.keeps{h h':Heap}(k:∀b o,h.get? b=some o→o.cls=.type "tuple" → h'.get? b=some o){vs:List VL}{xs:List Tr}(r:GL G h vs xs):GL G h' vs xs:=Paired.imp (fun _ _ z=>z.keeps k) r
def IE(G:VL→Tr→Prop)(h:Heap)(S:AD)(st:ES×SetTable):Prop:=∃o ev ep,h.get? S=some o∧o.ExactSet∧o.data=.set ev ep st.2∧B1 G h ev st.1
def IE.keeps{h h':Heap}{S:AD}{st:ES×SetTable}(x:IE G h S st)(kS:∀o,h.get? S=some o→h'.get? S=some o)(k:∀b o,h.get? b=some o→o.cls=.type "tuple" → h'.get? b=some o):IE G h' S st:=by
 obtain⟨o,ev,ep,h1,h2,h3,h4⟩:=x;exact⟨o,ev,ep,kS _ h1,h2,h3,h4.keeps k⟩
section
variable{prog:Program}{w:World}{A:Around}{R:Result→SD→Prop}{I S:AD}{fp wr:List AD}{St:Nat→Heap→Prop}{items:Array VL}{xs:List Tr}{st':ES×SetTable}
def Wn(W:Walks prog w A.in1 I fp wr items.size (fun i v=>items[i]? = some v) St)(hSf:S ∉ fp)(hcl:∀i h b o,St i h→b∈wr→h.get? b=some o→o.cls≠.type "tuple")(hu:A.units+10<cLine) :
  ∀(k i:Nat) (s:SD) (st:ES×SetTable),items.size-i=k→i≤items.size→St i s.heap→IE G s.heap S st→GL G s.heap items.toList xs→JS st (xs.drop i)=some st' →
   (∀(h':Heap) (tk:Nat),(∀b o,b≠S→b ∉ wr→s.heap.get? b=some o→h'.get? b=some o)→(∀b o,s.heap.get? b=some o→o.cls=.type "tuple" → h'.get? b=some o)→IE G h' S st'→R (.ok (.ret .none)) { s with heap:=h',toks:=tk }) →
   codeAny (model prog w) A (.builtin "set.update.loop" ⟨[.ref S,.ref I],[]⟩) R s:=by
 have hSw:S ∉ wr:=fun h=>hSf (W.sub _ h);intro k
 induction k with
 |zero =>
  intro i s st hk hi hst hS hT hrun hR;have hin:i=items.size:=by omega
  subst hin;have hlen:=Paired.length hT;rw [List.drop_of_length_le (by rw [←hlen];simp)]at hrun;cases hrun;refine codeAny_builtin F.entry_set_update_loop ?_;rw [Around.under_plainId F.plain_set_update_loop _];show wpAny _ A.in1 (pyNext (.ref I)>>=_) _ _ s;refine Wb (W.done s _ _ hst fun h' tk hm=>?_);show wpAny _ A.in1 (ret Value.none) _ _ _;have kt:∀b o,s.heap.get? b=some o→o.cls=.type "tuple" → h'.get? b=some o:=fun b o e hc=>hm b o (fun hb=>hcl _ _ b o hst hb e hc) e;exact aA (hR h' tk (fun b o _ hb e=>hm b o hb e) kt (hS.keeps (fun o e=>hm S o hSw e) kt))
 |succ k ih =>
  intro i s st hk hi hst hS hT hrun hR;have hlt:i<items.size:=by omega
  refine codeAny_builtin F.entry_set_update_loop ?_;rw [Around.under_plainId F.plain_set_update_loop _];show wpAny _ A.in1 (pyNext (.ref I)>>=_) _ _ s;refine Wb (W.item i s _ _ hlt hst fun v h1 tk hP hst' hm=>?_);have kt:∀b o,s.heap.get? b=some o→o.cls=.type "tuple" → h1.get? b=some o:=fun b o e hc=>hm b o (fun hb=>hcl _ _ b o hst hb e hc) e;have hS1:=hS.keeps (fun o e=>hm S o hSw e) kt;have hT1:=hT.keeps kt;have hlen:=Paired.length hT;have hxi:i<xs.length:=by rw [←hlen];simpa using hlt
  have hx:xs[i]? = some xs[i]:=aG hxi;obtain⟨v',hv',hxd,hxg,xa,its,e1,e2,e3⟩:=Paired.get hT1 hx;have hvv:v'=v:=by
   have h2:items.toList[i]? = some v:=by simpa using hP
   rw [h2]at hv';exact(ag hv').symm
  subst hvv;subst e1;rw [List.drop_eq_getElem_cons hxi,JS]at hrun;cases hadd:FK st xs[i]with
  |none=>rw [hadd]at hrun;cases hrun
  |some st1 =>
   rw [hadd]at hrun;obtain⟨o,ev,ep,g1,g2,g3,g4⟩:=hS1;obtain⟨et,t⟩:=st;obtain⟨et1,t1⟩:=st1;show wpAny _ A.in1 (holding [Value.ref xa] (setAdd S (.ref xa))>>=_) _ _ _;refine Wb (aV (XB (s:={ s with heap:=h1,toks:=tk }) g1 g2.1 g3 g4 e2 e3 hxd hxg (by rw [Around.in1_units];omega) hadd fun b h2 tk2 ev2 ep2 sb gS R2=>?_));have kt2:∀b o,h1.get? b=some o→o.cls=.type "tuple" → h2.get? b=some o:=fun b o' e hc=>by
    rw [sb.2 b fun z=>?_]
    ·exact e
    ·subst z;rw [g1]at e;cases e;rw [g2.1]at hc
     injection hc with hc
     exact absurd hc (by decide)
   refine aA ⟨plainId_quiet F.plain_set_update_loop _,ih (i+1) { s with heap:=h2,toks:=tk2 } (et1,t1) (by omega) hlt (W.frame _ _ _ hst' fun b hb o' e=>?_) ⟨_,ev2,ep2,gS,g2,rfl,R2⟩ (hT1.keeps kt2) hrun fun h3 tk3 m3 kt3 S3=>?_⟩
   ·rw [sb.2 b fun z=>hSf (z ▸ hb)];exact e
   ·refine hR h3 tk3 (fun b o' hbS hb e=>?_) (fun b o' e hc=>kt3 b o' (kt2 b o' (kt b o' e hc) hc) hc) S3;refine m3 b o' hbS hb ?_;show h2.get? b=some o';rw [sb.2 b hbS];exact hm b o' hb e
end
end TH
namespace TH
open PySem PyProof.Rows PySem.SeqAt
section
variable{G:VL→Tr→Prop}{prog:Program}{w:World}{A:Around}{E:VL→SD→Prop}{s:SD}{l:AD}{us:List VL}{xs:List Tr}
abbrev Di(led:Bool):Obj:={ cls:=.type "set",dict:=none,data:=.set #[] 0 (.fresh 0 0 led) }
def Rb(v:VL){Q1:VL→SD→Prop}(k:Q1 (.ref s.heap.objs.size) { s with heap:=s.heap.push (Di (!w.params.followText "set-order")) }) :
  codeAny (model prog w) A (.call (.builtin "set.__new__") ⟨[.type "set",v],[]⟩) (wants Q1 E) s:=by
 refine codeAny_of_tree (show wpAny _ A.in1 (checkBuiltinCall "set.__new__" ⟨[.type "set",v],[]⟩>>=fun _=>again (.builtin "set.__new__" ⟨[.type "set",v],[]⟩)) _ _ s from ?_);refine Wb (wpAny_of_eq (F.newCall_set_1 v) (aA ⟨plainId_quiet F.plain_set_new _,codeAny_builtin F.entry_set_new ?_⟩));rw [Around.under_plainId F.plain_set_new _];unfold Builtin.«set.__new__»;unfold Builtin.Frozenset.newClass;have q:=sub_set_self;obtain⟨h0,g0,d0,t0,o0⟩:=s;dsimp only
 wp_walk
 refine wpAny_askSetting (aA ?_);dsimp only;simp only [newObj];exact Wb (wpAny_alloc (aA (aA k)))
def P0{Q:VL→SD→Prop}(hA:A.handled=none)(hL:s.heap.IsList l us.toArray)(hT:GL G s.heap us xs)(hu:A.units+20<cLine){st:ES×SetTable}(hst:JS (Hd (!w.params.followText "set-order")) xs=some st)
 (k:∀(h2:Heap) (tk:Nat),IE G h2 s.heap.objs.size st→(∀b u,s.heap.get? b=some u→h2.get? b=some u)→Q (.ref s.heap.objs.size) { s with heap:=h2,toks:=tk }) :
  wpAny (model prog w) A (call (.type "set") [.ref l]) Q E s:=by
 obtain⟨mc,mt,hmro⟩:=F.called_set.mro;have q1:=F.called_set.made;have q2:=F.called_set.sub;have q3:=F.called_set.notType;have q4:=F.called_set.canCreate;have q5:=F.typeCall_set_1 (.ref l);refine wpAny_call (codeAny_of_tree (show wpAny _ _ (callAny (.type "set") _) _ _ _ from ?_));refine aA ⟨Code.quiet_builtin _ (by decide +kernel),codeAny_builtin F.entry_type_call ?_⟩;rw [Around.under_plain (weight_type_call_type "set" [.ref l] []) rfl]
 repeat (any_goals (first|assumption|wp_step))
 have hnew:=Rb (prog:=prog) (w:=w) (s:=s) (A:=A.in1) (E:=E) (.ref l) (Q1:=fun v s1=>v=.ref s.heap.objs.size∧s1={ s with heap:=s.heap.push (Di (!w.params.followText "set-order")) }) ⟨rfl,rfl⟩;refine codeAny_mono hnew fun r s1 hr=>?_;cases r with
 |error e=>exact hr
 |ok fl =>
  cases fl with
  |next=>exact hr.elim
  |brk=>exact hr.elim
  |cont=>exact hr.elim
  |ret obj =>
   obtain⟨rfl,rfl⟩:=hr;generalize (!w.params.followText "set-order")=led at hst;have gS:(s.heap.push (Di led)).get? s.heap.objs.size=some (Di led):=aN _ rfl;have tS:Shared.TypeIs { s with heap:=s.heap.push (Di led) } (.ref s.heap.objs.size) "set" := ⟨_,gS,rfl⟩;have q6:=F.called_set.init.lookup;have q7:=F.called_set.init.bind (.ref s.heap.objs.size)
   repeat (any_goals (first|assumption|wp_step))
   have hinit:codeAny (model prog w) A.in1 (.call (.builtin "set.__init__") ⟨[.ref s.heap.objs.size,.ref l],[]⟩)
     (wants (fun v s2=>v=.none∧∃h2 tk,s2={ s with heap:=h2,toks:=tk }∧IE G h2 s.heap.objs.size st∧∀b u,s.heap.get? b=some u→h2.get? b=some u) E) { s with heap:=s.heap.push (Di led) }:=by
    refine codeAny_call_builtin F.called_set.init.plain F.entry_set_init (check_set_init_1 tS ?_);obtain⟨⟨c0,d0,dt0,sl0⟩,gl,c1,n0,dt1⟩:=id hL;simp only at c1 dt1;subst c1 dt1;have gl1:(s.heap.push (Di led)).get? l=some ⟨.type "list",d0,.seq us.toArray n0,sl0⟩:=aC _ gl;have isl:(s.heap.push (Di led)).IsList l us.toArray:=⟨_,gl1,rfl,n0,rfl⟩;have s1:=F.sub_list_set;have s2:=F.sub_list_frozenset;have s3:(Value.type "list" == Value.type "dict")=false:=by decide
    unfold Builtin.«set.__init__» noKeywords Builtin.Frozenset.updateFrom;generalize ePI:pyIter=PI
    wp_walk
    subst ePI;refine wpAny_pyIter_list isl (Wb (wpAny_runValue ?_));have ll:l<s.heap.objs.size:=aF gl;have zI:(s.heap.push (Di led)).objs.size=s.heap.objs.size+1:=Heap.size_push ..;have neI:l≠(s.heap.push (Di led)).objs.size:=by rw [zI];exact aK (bM ll)
    have nfp:s.heap.objs.size ∉ [(s.heap.push (Di led)).objs.size,l]:=by
     simp only [List.mem_cons,List.not_mem_nil,or_false,not_or];exact⟨by rw [zI];exact aK (bO _),Nat.ne_of_gt ll⟩
    have hA3:A.in1.in1.in1.handled=none:=by simp [hA]
    refine Wn (G:=G) (xs:=xs) (st':=st) (Walks.list hA3 _ l neI us.toArray) nfp (fun i h b o hit hb e hc=>?_) (by simp only [Around.in1_units];omega) _ 0 _ (Hd led) rfl (av _) ⟨⟨_,Heap.get?_push_size _ rfl,rfl,rfl⟩,isl.push _⟩ ?_ ?_ hst fun h2 tk m2 kt2 S2=>?_
    ·obtain⟨⟨oi,gi,ci,_⟩,_⟩:=hit;have:b=(s.heap.push (Di led)).objs.size:=by simpa using hb
     subst this;rw [gi]at e;cases e;rw [ci]at hc
     injection hc with hc
     exact absurd hc (by decide)
    ·exact⟨Di led,#[],0,Heap.get?_push_of_some _ gS,⟨rfl,rfl,rfl⟩,rfl,.nil⟩
    ·exact hT.keeps fun b o e _=>aC _ (aC _ e)
    ·refine aA ?_;show wpAny _ _ (ret Value.none) _ _ _;refine aA ⟨rfl,h2,tk,rfl,S2,fun b u e=>?_⟩;have lb:b<s.heap.objs.size:=aF e;refine m2 b u (aK lb) ?_ (aC _ (aC _ e));simp only [List.mem_cons,List.not_mem_nil,or_false];rw [zI];exact aK (bM lb)
   refine codeAny_mono hinit fun r2 s2 hr2=>?_;cases r2 with
   |error e=>exact hr2
   |ok f2 =>
    cases f2 with
    |next=>exact hr2.elim
    |brk=>exact hr2.elim
    |cont=>exact hr2.elim
    |ret v2 =>
     obtain⟨rfl,h2,tk,rfl,S2,k2⟩:=hr2
     repeat (any_goals (first|assumption|wp_step))
     exact k h2 tk S2 k2
end
end TH
namespace TH
open PySem PyProof.Rows PySem.SeqAt
def Mk:entryFor table "set.__iter__" = some Builtin.«frozenset.__iter__» :=
 entryFor_alias (id' := "frozenset.__iter__") (by kernel_rfl) rfl (by decide +kernel) (by kernel_rfl)
def CG:Slot "set_iterator" "__next__" "set_iterator.__next__" :=
 .of (owner := "set_iterator") (n := "__next__") (by rw [typeLookup_type,builtinLookup_eq_fast];kernel_rfl) (by decide +kernel)
  (by decide +kernel) (by decide +kernel) (by first|exact .inl (by decide +kernel)|exact .inr (by decide +kernel)) (by rw [isSubtype_type];kernel_rfl)
def HY:entryFor table "set_iterator.__next__" = some Builtin.«set_iterator.__next__»:=entryFor_of_fast (by kernel_rfl)
def Ih(a:VL):argsOk "set_iterator.__next__" ⟨[a],[]⟩:=by unfold argsOk;kernel_rfl
def Iz:Slot "set_iterator" "__iter__" "set_iterator.__iter__" :=
 .of (owner := "set_iterator") (n := "__iter__") (by rw [typeLookup_type,builtinLookup_eq_fast];kernel_rfl) (by decide +kernel)
  (by decide +kernel) (by decide +kernel) (by first|exact .inl (by decide +kernel)|exact .inr (by decide +kernel)) (by rw [isSubtype_type];kernel_rfl)
def MM:entryFor table "set_iterator.__iter__" = some Builtin.«dict_keyiterator.__iter__» :=
 entryFor_alias (id' := "dict_keyiterator.__iter__") (by kernel_rfl) rfl (by decide +kernel) (by kernel_rfl)
def Ng(a:VL):argsOk "set_iterator.__iter__" ⟨[a],[]⟩:=by unfold argsOk;kernel_rfl
section
variable{α:Type}{next:Nat→Nat}
def Qh:∀(n k:Nat) (left:List α) (out:Array α),left.length=n→(pickOrder.go next n k left out).toList.Perm (out.toList++left)
 |0,k,left,out,h=>by
  have:left=[]:=List.eq_nil_of_length_eq_zero h;subst this;rw [pickOrder.go];simp
 |n+1,k,left,out,h=>by
  rw [pickOrder.go];have hlt:next k % left.length<left.length:=Nat.mod_lt _ (by omega);rw [List.getElem?_eq_getElem hlt];refine(Qh n (k+1) _ _ (by rw [List.length_eraseIdx_of_lt hlt];omega)).trans ?_;rw [Array.toList_push,List.append_assoc];refine List.Perm.append_left _ ?_;rw [List.eraseIdx_eq_take_drop_succ];have e:left.take (next k % left.length)++left[next k % left.length]::left.drop (next k % left.length+1)=left:=by rw [←List.drop_eq_getElem_cons hlt,List.take_append_drop]
  have p:=List.perm_middle (a:=left[next k % left.length]) (l₁:=left.take (next k % left.length)) (l₂:=left.drop (next k % left.length+1));rw [e]at p;exact p.symm
def SI(xs:Array α):(pickOrder next xs).toList.Perm xs.toList:=by
 unfold pickOrder
 simpa using Qh xs.size 0 xs.toList #[] (by simp)
end
end TH
namespace TH
open PySem PyProof.Rows PySem.SeqAt
def DK(w:World)(S:AD)(ep:Nat)(ev:Array (Int×VL)):Array (Int×VL):=if w.params.followText "set-order" = true then pickOrder (w.params.setOrder S ep) ev else ev
def M8(w:World)(S:AD)(ep:Nat)(ev:Array (Int×VL)):(DK w S ep ev).toList.Perm ev.toList:=by
 unfold DK;split
 ·exact SI ev
 ·exact .refl _
def Gz(w:World)(S:AD)(ep:Nat)(ev:Array (Int×VL)):(DK w S ep ev).size=ev.size:=by simpa using (M8 w S ep ev).length_eq
def Fb(t:SetTable):Nat→Nat
 |0=>0
 |i+1=>t.place.getD i 0+1
def CI(w:World)(t:SetTable)(i:Nat):Nat:=if w.params.followText "set-order" = true then 0 else Fb t i
def Jd(t:SetTable)(n:Nat):Bool:=(List.range (n+1)).all fun i=>decide (SetTable.below t.place (Fb t i)=i)
abbrev G5(w:World)(S:AD)(t:SetTable)(ep n i:Nat):Obj:={ cls:=.type "set_iterator",data:=.fields #[rawInt ((CI w t i:Nat):Int),rawInt (i:Int),.ref S,rawInt (n:Int),rawInt (ep:Int)] }
structure Cv(w:World)(o:Obj)(ev:Array (Int×Value))(ep:Nat)(t:SetTable):Prop where
 ex:o.ExactSet
 dat:o.data=.set ev ep t
 fit:t.fits ev.size=true
 plain:t.plain=true
 led:t.led=!w.params.followText "set-order"
 walk:Jd t ev.size=true
section
variable{prog:Program}{w:World}{A:Around}{E:VL→SD→Prop}{s:SD}{S I:AD}{o:Obj}{ev:Array (Int×VL)}{ep i:Nat}{t:SetTable}
def MF{Q:Bool→SD→Prop}(h:Q (w.params.followText "set-order") s):wpAny (model prog w) A setsByText Q E s:=by
 unfold setsByText;exact Wb (wpAny_askSetting (aA h))
def Cv.R7(W:Cv w o ev ep t):(!t.plain&&decide (ev.size > 1))=false:=by rw [W.plain];rfl
def Cv.place(W:Cv w o ev ep t):t.place.size=ev.size:=by
 have:=W.fit;unfold SetTable.fits at this;simp only [Bool.and_eq_true,beq_iff_eq]at this;exact this.1
def Oq{Q:Option (VL×Nat)→SD→Prop}(W:Cv w o ev ep t)(ho:s.heap.get? S=some o)(hi:i≤ev.size)(h:Q ((DK w S ep ev)[i]?.map fun e=>(e.2,CI w t (i+1))) s) :
  wpAny (model prog w) A (setNext S (CI w t i) i ep) Q E s:=by
 unfold setNext;refine Wb (aq ho W.dat W.fit ?_);refine Wb (MF ?_);cases hb:w.params.followText "set-order" with
 |true =>
  rw [if_pos rfl];have hne:¬(ep != ep)=true:=by simp
  rw [if_neg hne];unfold setWalk;refine Wb (Wb (aq ho W.dat W.fit ?_));refine Wb (MF ?_);rw [if_pos hb];refine Wb (wpAny_askSetting (aA ?_));refine aA ?_;have e:DK w S ep ev=pickOrder (w.params.setOrder S ep) ev:=by unfold DK;rw [if_pos hb]
  rw [e]at h;have e2:CI w t i=CI w t (i+1):=by unfold CI;rw [if_pos hb,if_pos hb]
  rw [e2];exact h
 |false =>
  rw [if_neg aI];refine wpAny_ite_split (fun hd=>?_) fun _=>?_
  ·have:(!t.plain&&decide (ev.size > 1))=true:=hd;rw [W.R7]at this;cases this
  ·refine Wb ?_;have hl:t.led=true:=by rw [W.led,hb];rfl
   have hn:¬(!t.led && !ev.isEmpty)=true:=by rw [hl];simp
   show wpAny _ _ (if(!t.led && !ev.isEmpty)=true then unsupported "set:maker-not-led" else pure ()) _ _ _;rw [if_neg hn];refine aA (aA ?_);have hw:=W.walk;unfold Jd at hw;have hw:=ao.mp hw i (ay.mpr (by omega));have hw:SetTable.below t.place (Fb t i)=i:=by simpa using hw
   have e1:CI w t i=Fb t i:=by unfold CI;rw [hb];rfl
   have e2:CI w t (i+1)=Fb t (i+1):=by unfold CI;rw [hb];rfl
   have e3:DK w S ep ev=ev:=by unfold DK;rw [hb];rfl
   rw [e2,e3]at h;rw [e1,hw];by_cases hlt:i<ev.size
   ·have hp:i<t.place.size:=by rw [W.place];exact hlt
    rw [Array.getElem?_eq_getElem hlt]at h ⊢;rw [Array.getElem?_eq_getElem hp];have e4:Fb t (i+1)=t.place[i]+1:=by
     rw [Fb,Array.getD_eq_getD_getElem?,Array.getElem?_eq_getElem hp]
     rfl
    rw [e4]at h;exact h
   ·rw [Array.getElem?_eq_none (by omega)]at h ⊢;exact h
def UX{Q:Option VL→SD→Prop}{z:Int}{v:VL}(W:Cv w o ev ep t)(ho:s.heap.get? S=some o)(hI:s.heap.get? I=some (G5 w S t ep ev.size i))(hx:(DK w S ep ev)[i]? = some (z,v))
 (h:∀h',h'.get? I=some (G5 w S t ep ev.size (i+1))→Heap.SameBut I s.heap h'→Q (some v) { s with heap:=h' }):wpAny (model prog w) A (pyNext (.ref I)) Q E s:=by
 have hT:s.TypeIs (.ref I) "set_iterator" := ⟨_,hI,rfl⟩;have hlt:i<ev.size:=by
  have:=(Array.getElem?_eq_some_iff.mp hx).1;rw [Gz]at this;exact this
 unfold pyNext;refine Wb (wpAny_attempt (aj (name:=Str.ofString "__next__") hT CG (aX CG hT HY ?_ (Ih _))));unfold Builtin.«set_iterator.__next__»;refine Wb (wpAny_of_eq (a:=(Value.ref I,[])) rfl ?_);refine Wb (wpAny_fieldsOf hI rfl ?_);show wpAny _ _ (setEntries S>>=_) _ _ s;refine Wb (wpAny_setEntries_of ho W.dat W.fit ?_);have hne:¬((ev.size:Int) != (ev.size:Int))=true:=by simp
 dsimp only;rw [if_neg hne];refine Wb ?_;show wpAny _ _ (setNext S (CI w t i) i ep) _ _ _;refine Oq W ho (by omega) ?_;rw [hx];show wpAny _ _ (setField (.ref I) 0 (rawInt ((CI w t (i+1):Nat):Int))>>=_) _ _ _;refine Wb (wpAny_setField hI rfl (by simp) ?_);have g1:(s.heap.update I (Obj.mapFields (·.setIfInBounds 0 (rawInt ((CI w t (i+1):Nat):Int))))).get? I=some { cls:=.type "set_iterator",data:=.fields #[rawInt ((CI w t (i+1):Nat):Int),rawInt (i:Int),.ref S,rawInt (ev.size:Int),rawInt (ep:Int)] } :=
  Heap.get?_update_self _ hI rfl
 refine Wb (wpAny_setField g1 rfl (by simp) ?_);refine aA ⟨_,rfl,wpAny_pure (h _ ?_ ((af ..).trans (af ..)))⟩;exact Heap.get?_update_self _ g1 rfl
def Uu{Q:Option VL→SD→Prop}(hh:A.handled=none)(W:Cv w o ev ep t)(ho:s.heap.get? S=some o)(hI:s.heap.get? I=some (G5 w S t ep ev.size ev.size))
 (h:∀h',Heap.ExtBut I s.heap h'→Q none { s with heap:=h' }):wpAny (model prog w) A (pyNext (.ref I)) Q E s:=by
 have hT:s.TypeIs (.ref I) "set_iterator" := ⟨_,hI,rfl⟩;unfold pyNext;refine Wb (wpAny_attempt (aj (name:=Str.ofString "__next__") hT CG (aX CG hT HY ?_ (Ih _))));unfold Builtin.«set_iterator.__next__»;refine Wb (wpAny_of_eq (a:=(Value.ref I,[])) rfl ?_);refine Wb (wpAny_fieldsOf hI rfl ?_);show wpAny _ _ (setEntries S>>=_) _ _ s;refine Wb (wpAny_setEntries_of ho W.dat W.fit ?_);have hne:¬((ev.size:Int) != (ev.size:Int))=true:=by simp
 dsimp only;rw [if_neg hne];refine Wb ?_;show wpAny _ _ (setNext S (CI w t ev.size) ev.size ep) _ _ _;refine Oq W ho (aE _) ?_;rw [Array.getElem?_eq_none (by rw [Gz];exact aE _)];show wpAny _ _ (setField (.ref I) 2 Value.none>>=_) _ _ _;refine Wb (wpAny_setField hI rfl (by simp) ?_);refine Wb ?_;simp only [newExc,newTuple];refine Wb (ak ?_ (by size_fits));refine Wb (m:=firstArgMember _ _) (wpAny_of_eq (a:=Value.none) (by first|rfl|(simp only [firstArgMember];rfl)) (ak ?_ (by size_fits)));simp only [raiseNew];refine Wb (wpAny_handled ?_);have hh1:A.in1.handled=none:=hh;rw [hh1];refine Wb (aA (wpAny_throw ?_));refine Wb (wpAny_isInstance (b:=true) (T := "StopIteration") ⟨_,Heap.get?_push_size _ rfl,rfl⟩ isSubtype_stop ?_);exact aA (h _ (((af ..).extBut.push _).push _))
def T7{Q:VL→SD→Prop}(hI:s.heap.get? I=some (G5 w S t ep ev.size i))(h:Q (.ref I) s):wpAny (model prog w) A (pyIter (.ref I)) Q E s:=by
 have hT:s.TypeIs (.ref I) "set_iterator" := ⟨_,hI,rfl⟩;refine wpAny_pyIter_slot hT Iz (aX Iz hT MM ?_ (Ng _));show wpAny _ _ (ret (.ref I)) _ _ s;exact aA ⟨_,rfl, "set_iterator",_,hT,CG.lookup,h⟩
def Sf(hh:A.handled=none)(hne:S≠I)(W:Cv w o ev ep t) :
  Walks prog w A I [I,S] [I] ev.size (fun i v=>∃z,(DK w S ep ev)[i]? = some (z,v)) (fun i h=>h.get? I=some (G5 w S t ep ev.size i)∧h.get? S=some o) where
 sub:=fun b hb=>by simp at hb;simp [hb]
 frame:=fun _ _ _ x k=>⟨k I (by simp) _ x.1,k S (by simp) _ x.2⟩
 item:=fun i s Q E hi x hQ=>by
  have hi':i<(DK w S ep ev).size:=by rw [Gz];exact hi
  obtain⟨z,v,hx⟩:∃z v,(DK w S ep ev)[i]? = some (z,v):=⟨(DK w S ep ev)[i].1,(DK w S ep ev)[i].2,by rw [Array.getElem?_eq_getElem hi']⟩;refine UX W x.2 x.1 hx fun h' g sb=>hQ v h' s.toks ⟨z,hx⟩ ⟨g,(sb.2 S hne).trans x.2⟩ fun b u hb e=>?_;rw [sb.2 b fun q=>hb (by simp [q])];exact e
 done:=fun s Q E x hQ=>Uu hh W x.2 x.1 fun h' eb=>hQ h' s.toks fun b u hb e=>eb b u (fun q=>hb (by simp [q])) e
 self:=fun _ _ _ _ x hQ=>T7 x.1 hQ
def UE{Q:Bool→SD→Prop}(hT:s.TypeIs (.ref S) "set")(h:Q false s):wpAny (model prog w) A (Builtin.List.listLengthHint (.ref S)) Q E s:=by
 unfold Builtin.List.listLengthHint;refine Wb (wpAny_specialOf hT PySem.F.slot_set_len.lookup ?_);generalize hid:("set.__len__" : String)=id0
 wp_delta
 rw [show splitId id0=some ("set", "__len__") from by subst hid;decide +kernel];subst hid;refine Wb (wpAny_isInstance (b:=true) (T := "set") hT (by rw [isSubtype_type];kernel_rfl) ?_);refine wpAny_ite_split (fun z=>absurd z (by decide)) fun _=>?_;refine wpAny_ite_split (fun _=>?_) fun z=>absurd (by decide +kernel) z;exact Wb (wpAny_typeOf hT (aA h))
def Ur{Q:VL→SD→Prop}(W:Cv w o ev ep t)(ho:s.heap.get? S=some o)(h:Q (.ref s.heap.objs.size) { s with heap:=s.heap.push (G5 w S t ep ev.size 0) }) :
  wpAny (model prog w) A (pyIter (.ref S)) Q E s:=by
 have hT:s.TypeIs (.ref S) "set" := ⟨o,ho,W.ex.1⟩;refine wpAny_pyIter_slot hT PySem.F.slot_set_iter (aX PySem.F.slot_set_iter hT Mk ?_ (PySem.F.args_set_iter_1 _));unfold Builtin.«frozenset.__iter__»;refine Wb (wpAny_of_eq (a:=S) rfl ?_);unfold Builtin.Frozenset.sizeOf;refine Wb (Wb (wpAny_setEntries_of ho W.dat W.fit (aA ?_)));unfold setDrawn;refine Wb (Wb (aq ho W.dat W.fit (Wb (MF (aA ?_)))));have hd:(!w.params.followText "set-order" && (!t.plain&&decide (ev.size > 1)))=false:=by rw [W.R7];simp
 refine wpAny_ite_split (fun z=>?_) fun _=>?_
 ·have:(!w.params.followText "set-order" && (!t.plain&&decide (ev.size > 1)))=true:=z;rw [hd]at this;cases this
 refine Wb (aA ?_);unfold setEpoch;refine Wb (Wb (aq ho W.dat W.fit (aA ?_)));have e0:CI w t 0=0:=by unfold CI Fb;split<;>rfl
 refine Wb (ak (aA ⟨_,rfl, "set_iterator",_,⟨_,Heap.get?_push_size _ rfl,rfl⟩,CG.lookup,?_⟩));unfold G5 at h;rw [e0]at h;exact h
def V0(W:Cv w o ev ep t):PySem.W.KdlSrc prog w "set" S S ev.size (fun i v=>∃z,(DK w S ep ev)[i]? = some (z,v)) (fun h=>h.get? S=some o) where
 type:=fun _ ho=>⟨o,ho,W.ex.1⟩
 there:=fun _ ho=>⟨aF ho,Heap.lt_size ho⟩
 keep:=fun _ _ ho k=>k S (.inl rfl) _ ho
 notList:=by decide
 notTuple:=by decide
 hint:=fun _ _ s _ ho h=>UE ⟨o,ho,W.ex.1⟩ h
 iter:=fun A s hh ho=>⟨G5 w S t ep ev.size 0,_,(fun E Q h=>Ur W ho h),Sf hh (aK (aF ho)) W,⟨aN _ rfl,Heap.get?_push_of_some _ ho⟩⟩
end
end TH
namespace TH
open PySem PyProof.Rows PySem.SeqAt
def Paired.perm{α β:Type}{F:α→β→Prop}{l l':List α}(p:l'.Perm l):∀ {m:List β},Paired F l m→∃m',m'.Perm m∧Paired F l' m':=by
 induction p with
 |nil=>intro m r;exact⟨m,.refl _,r⟩
 |cons x _ ih =>
  intro m r;cases r with
  |cons h r' =>
   obtain⟨m',p',q⟩:=ih r';exact⟨_::m',p'.cons _,.cons h q⟩
 |swap x y l =>
  intro m r;cases r with
  |cons h r' =>
   cases r' with
   |cons h' r''=>exact⟨_::_::_,List.Perm.swap ..,.cons h' (.cons h r'')⟩
 |trans _ _ ih1 ih2 =>
  intro m r;obtain⟨m1,p1,q1⟩:=ih2 r;obtain⟨m2,p2,q2⟩:=ih1 q1;exact⟨m2,p2.trans p1,q2⟩
variable{G:VL→Tr→Prop}
def Qm{h:Heap}:∀ {l:List (Int×VL)} {m:List (Int×Tr)},Paired (Kk G h) l m→Vs h (Tr.of (m.map (·.2))) (l.map (·.2))
 |_,_,.nil=>by rw [List.map_nil,List.map_nil,Tr.of,Vs]
 |_,_,.cons (a:=(z,v)) ⟨_,_,_,a,its,e,h1,h2⟩ r=>by
  have e:v=.ref a:=e;subst e;rw [List.map_cons,List.map_cons,Tr.of,Vs];exact⟨a,its,_,rfl,h1,h2,Qm r⟩
def NR{h:Heap}:∀ {l:List (Int×VL)} {m:List (Int×Tr)},Paired (Kk G h) l m→∀c∈m.map (·.2),c.deep<8
 |_,_,.nil,c,hc=>by cases hc
 |_,_,.cons ⟨_,hd,_⟩ r,c,hc=>by
  rw [List.map_cons]at hc;rcases aL.mp hc with rfl|hc
  ·exact hd
  ·exact NR r c hc
def Tj{h:Heap}:∀ {l:List (Int×VL)} {m:List (Int×Tr)},Paired (Kk G h) l m→Paired G (l.map (·.2)) (m.map (·.2))
 |_,_,.nil=>.nil
 |_,_,.cons ⟨_,_,hg,_⟩ r=>.cons hg (Tj r)
def Paired.VH{α β:Type}{F:α→β→Prop}{l:List α}{m:List β}(r:Paired F l m)(d:α)(e:β):∀(ix:List Nat),(∀i∈ix,i<l.length)→Paired F (ix.map fun i=>l.getD i d) (ix.map fun i=>m.getD i e)
 |[],_=>.nil
 |i::ix,h=>by
  have hl:=r.length;have hi:=h i aR;have hm:m[i]? = some m[i]:=aG (by omega);obtain⟨x,e1,e2⟩:=Paired.get r hm;rw [List.map_cons,List.map_cons];refine .cons ?_ (Paired.VH r d e ix fun j hj=>h j (aP _ hj));rw [List.getD_eq_getElem?_getD,List.getD_eq_getElem?_getD,e1,hm];exact e2
def U2{l m:List Tr}(p:l.Perm m):Tr.Be l=Tr.Be m:=Tr.HI (Tr.Gh l) (Tr.Gh m) ((Tr.Gp l).trans (p.trans (Tr.Gp m).symm))
section
variable{prog:Program}{w:World}{A:Around}{E:VL→SD→Prop}{s:SD}
def gather{T:String}{r d:AD}{n:Nat}{P:Nat→VL→Prop}{OK:Heap→Prop}{R:List VL→SD→Prop}(K:PySem.W.KdlSrc prog w T r d n P OK)(hA:A.handled=none)(Ah:OK s.heap)(hn:n≤sizeLine)
 (k:∀(h1:Heap) (tk:Nat) (acc:Array VL),s.heap.objs.size<h1.objs.size→(∀b u,s.heap.get? b=some u→h1.get? b=some u)→ItemsOf P acc n→R acc.toList { s with heap:=h1,toks:=tk }) :
  wpAny (model prog w) A (collect (.ref r)) R E s:=by
 obtain⟨lr,ld⟩:=K.there _ Ah;unfold collect;refine Wb (wpAny_runValue (codeAny_builtin entry_proto_collect' ?_));rw [Around.under_plainId PySem.F.plain_proto_collect _];show wpAny _ A.in1 (newList []>>=fun v=>again (.builtin "list.__iadd__" ⟨[v,.ref r],[]⟩)) _ _ s;refine Wb (ak (aA ⟨plainId_quiet PySem.F.plain_list_iadd _,codeAny_builtin entry_list_iadd' ?_⟩));rw [Around.under_plainId PySem.F.plain_list_iadd _];have g0:(s.heap.push { cls:=.type "list",data:=.seq ([]:List VL).toArray }).get? s.heap.objs.size=some { cls:=.type "list",data:=.seq #[] }:=aN _ rfl;have main:=PySem.W.kdl_extend (A:=A) (s:={ s with heap:=s.heap.push { cls:=.type "list",data:=.seq ([]:List VL).toArray } }) K hA
  (K.keep _ _ Ah fun _ _ _ e=>aC _ e) s.heap.objs.size (Nat.ne_of_gt lr) (Nat.ne_of_gt ld) (.ref s.heap.objs.size) 0 g0
  (R:=fun q s1=>∃h1 tk acc c,q=.ok (.ret (.ref s.heap.objs.size))∧s1={ s with heap:=h1,toks:=tk }∧(∀b u,s.heap.get? b=some u→h1.get? b=some u)∧h1.get? s.heap.objs.size=some { cls:=.type "list",dict:=none,data:=.seq acc c,slots:=#[] }∧ItemsOf P acc n)
  (fun h1 tk acc c k1 g1 ha=>⟨h1,tk,acc,c,rfl,rfl,fun b u e=>k1 b u (aK (aF e)) (aC _ e),g1,ha⟩) hn
 refine ai main (fun fin s1 x=>?_) fun e s1 x=>?_
 ·cases fin with
  |done f =>
   obtain⟨h1,tk,acc,c,e,rfl,k1,g1,ha⟩:=x;cases e;show wpAny _ A (load s.heap.objs.size>>=_) _ _ _;exact Wb (wpAny_load g1 (aA (k h1 tk acc (aF g1) k1 ha)))
  |again c1 =>
   refine⟨x.1,codeAny_mono x.2 fun q s2 y=>?_⟩;obtain⟨h1,tk,acc,c,rfl,rfl,k1,g1,ha⟩:=y;show wpAny _ A (load s.heap.objs.size>>=_) _ _ _;exact Wb (wpAny_load g1 (aA (k h1 tk acc (aF g1) k1 ha)))
 ·obtain⟨_,_,_,_,z,_⟩:=x;cases z
end
section
variable{prog:Program}{w:World}{A:Around}{E:VL→SD→Prop}{s:SD}{S:AD}{o:Obj}{ev:Array (Int×VL)}{et:ES}{ep:Nat}{t:SetTable}
def Rp{Q:VL→SD→Prop}(hA:A.handled=none)(W:Cv w o ev ep t)(ho:s.heap.get? S=some o)(R:B1 G s.heap ev et)(h64:et.size<64)(hu:A.units+20<cLine)
 (h:∀(h':Heap) (D tk e1:Nat) (us:List VL),s.heap.objs.size≤D→(∀b u,s.heap.get? b=some u→h'.get? b=some u)→h'.get? D=some (seqObj "list" us.toArray e1)→Paired G us (Tr.Be (et.toList.map (·.2))).reverse→us.length<64 →
   Q (.ref D) { s with heap:=h',toks:=tk }):wpAny (model prog w) A (call (.builtin "sorted") [.ref S]) Q E s:=by
 have hsz:=R.size;refine Calls.call_function_entry kind_sorted plain_sorted entry_sorted (args_sorted1 _) ?_;unfold Builtin.«sorted»;refine Wb (m:=checkCount "sorted" 1 1 _) (aA ?_);refine Wb (gather (A:=A.in1) (V0 W) hA ho (Es (by omega)) fun h1 tk acc z1 k1 hacc=>?_);have hal:acc.toList=(DK w S ep ev).toList.map (·.2):=by
  apply List.ext_getElem?;intro j;rw [List.getElem?_map];by_cases hj:j<acc.size
  ·have e1:acc[j]? = some acc[j]:=Array.getElem?_eq_getElem hj;obtain⟨z,e2⟩:=hacc.2 j _ e1;rw [Array.getElem?_toList,e1,Array.getElem?_toList,e2]
   rfl
  ·have hj2:¬j<(DK w S ep ev).size:=by rw [Gz,←hacc.1];exact hj
   rw [List.getElem?_eq_none (by simpa using hj),List.getElem?_eq_none (by simpa using hj2)]
   rfl
 obtain⟨m,pm,rm⟩:=Paired.perm (M8 w S ep ev) R;have hvs:=Qm rm;rw [←hal]at hvs;have hd:(Tr.of (m.map (·.2))).deep≤8:=(Tr.Jz 8 _).mpr fun c hc=>by have:=NR rm c hc;omega
 have hlen:acc.toList.length<64:=by rw [Array.length_toList,hacc.1,hsz];exact h64
 refine Wb (wpAny_newList ?_ (Es (by omega)));have g1:(h1.push (seqObj "list" acc.toList.toArray 0)).get? h1.objs.size=some (seqObj "list" acc.toList.toArray 0):=aN _ rfl;have k2:∀b u,s.heap.get? b=some u→(h1.push (seqObj "list" acc.toList.toArray 0)).get? b=some u:=fun b u e=>aC _ (k1 b u e);refine Wb (aV (aX slot_list_sort ⟨_,g1,rfl⟩ entry_list_sort (Fv (s:={ s with heap:=h1.push (seqObj "list" acc.toList.toArray 0),toks:=tk }) g1 (hvs.keeps fun b u e _=>k2 b u e) hlen
  (by rw [show A.in1.in1.units=A.units+2 from rfl];omega) fun ix a1 a2 a3=>⟨_,rfl,?_⟩) (args_list_sort _)))
 obtain⟨e1,he1⟩:=sortedHeap_at (vs:=acc.toList) (out:=(ix.map fun i=>acc.toList.getD i Value.none).toArray) g1;refine aA ⟨_,rfl,h _ h1.objs.size tk e1 (ix.map fun i=>acc.toList.getD i Value.none) ?_ (fun b u e=>?_) he1 ?_ (by rw [List.length_map,a1];exact hlen)⟩
 ·exact bE z1
 ·have lb:b<h1.objs.size:=aF (k1 b u e);rw [sortedHeap_old (aK lb) (by rw [Heap.size_push];exact bM lb)];exact k2 b u e
 ·have hg:=Tj rm;rw [←hal]at hg;have:=Paired.VH hg Value.none Tr.nil ix a2;rw [Tr.J0]at a3;rw [a3,U2 (pm.map (·.2))]at this;exact this
end
end TH
namespace TH
open PySem PyProof.Rows PySem.SeqAt
section
variable{prog:Program}{w:World}{E:VL→SD→Prop}
def OB(prog:Program)(w:World)(E:VL→SD→Prop)(t:Tr):Prop:=∀(us:List VL) (A:Around) (s:SD) (b:Array Int) (Q:Array Int→SD→Prop),Vs s.heap t us→A.units+t.deep≤cLine →
 (∀b',b'.toList=b.toList++GG t→Q b' { s with toks:=s.toks+(t.AX-1) })→wpAny (model prog w) A (forIn us b fun x r=>do let h ←pyHash x;pure PUnit.unit;pure (ForInStep.yield (r.push h))) Q E s
def JV{t:Tr}(row:OB prog w E t){a:AD}{its:List VL}{A:Around}{s:SD}{Q:Int→SD→Prop}(h1:s.heap.IsTuple a its.toArray)(h2:Vs s.heap t its)(hu:A.units+t.deep<cLine)
 (h:Q (Ay t) { s with toks:=s.toks+t.AX }):wpAny (model prog w) A (pyHash (.ref a)) Q E s:=by
 have hT:=IsTuple.ty rfl h1;obtain⟨o,ho,hc,n,hd⟩:=id h1;refine PySem.W.pyHash_slot (T := "tuple") hT F.slot_tuple_hash F.entry_tuple_hash (F.args_tuple_hash_1 _) (beq_builtin_none _) (.inr (by omega)) ?_;show wpAny _ _ (Builtin.Tuple.tupleItemsOf (.ref a)>>=_) _ _ s;refine Wb (wpAny_tupleItemsOf ho hd ?_);refine Wb ?_;rw [←Array.forIn_toList];refine row its A.in1 s #[] _ h2 (by rw [Around.in1_units];omega) fun b hb=>?_;show wpAny _ _ (retInt (Builtin.Tuple.tupleHashOf b.toList)) _ _ _;rw [hb];have hk:s.toks+(t.AX-1)+1=s.toks+t.AX:=by have:=Tr.Bx t;omega
 refine Wb (wpAny_mkInt (aA ⟨_,_,rfl,?_⟩));rw [hk];exact h
def Jc:∀t:Tr,OB prog w E t
 |.nil=>fun us A s b Q e _ h=>by rw [Vs]at e;subst e;exact aA (h b (by simp [GG]))
 |.cons c r=>fun us A s b Q e hu h=>by
  rw [Vs]at e;obtain⟨a,its,rest,rfl,h1,h2,h3⟩:=e;have hd:(Tr.cons c r).deep=max (c.deep+1) r.deep:=rfl;have hk:(Tr.cons c r).AX=c.AX+r.AX:=rfl;have hr:=Tr.Bx r;rw [List.forIn_cons];refine Wb (Wb (JV (Jc c) h1 h2 (by omega) ?_));refine Wb (aA (aA ?_));refine Jc r rest A _ _ Q h3 (by omega) fun b' hb=>?_;have hz:s.toks+c.AX+(r.AX-1)=s.toks+((Tr.cons c r).AX-1):=by omega
  have:=h b' (by simp [hb,GG,Ay]);rw [←hz]at this;exact this
def GP(prog:Program)(w:World):HeapKind prog w Tr where
 is:=fun h t a=>t.deep<8∧∃its,h.IsTuple a its.toArray∧Vs h t its
 hash:=Ay
 draws:=Tr.AX
 room:=fun A=>A.units+8<cLine
 inj:=fun⟨_,i1,a1,a2⟩ ⟨_,i2,b1,b2⟩=>by
  have:=GC a1 b1;have e:i1=i2:=by simpa using this
  subst e;exact Vs.inj a2 b2
 keeps:=fun {h h' k a d o es ep} ⟨hd,its,h1,h2⟩ ho hdt sb=>by
  have kt:∀b u,h.get? b=some u→u.cls=.type "tuple" →(∃x n,u.data=.seq x n)→h'.get? b=some u:=fun b u e _ ⟨x,n,hx⟩=>by
   rw [sb.2 b fun z=>?_]
   ·exact e
   ·subst z;rw [ho]at e;cases e;rw [hdt]at hx;cases hx
  have kv:∀ {t:Tr} {us:List VL},Vs h t us→Vs h' t us:=fun {t}=>by
   induction t with
   |nil=>intro us e;rw [Vs]at e ⊢;exact e
   |cons b r ih1 ih2 =>
    intro us e;rw [Vs]at e ⊢;obtain⟨a,its,rest,e1,⟨u,hu,hc,n,hx⟩,e3,e4⟩:=e;exact⟨a,its,rest,e1,⟨u,kt _ _ hu hc ⟨_,n,hx⟩,hc,n,hx⟩,ih1 e3,ih2 e4⟩
  obtain⟨u,hu,hc,n,hx⟩:=h1;exact⟨hd,its,⟨u,kt _ _ hu hc ⟨_,n,hx⟩,hc,n,hx⟩,kv h2⟩
 pyHash:=fun hr ⟨hd,its,h1,h2⟩ h=>JV (Jc _) h1 h2 (by omega) h
 eqBool:=fun {A E s x y a b Q} hr ⟨hd,its,h1,h2⟩ ⟨_,its2,k1,k2⟩ h=>MY h1 h2 k1 k2 (by omega) prog w E Q h
 quiet:=fun⟨hd,its,h1,h2⟩ h=>quiet 8 ⟨_,its,_,rfl,h1,h2,hd⟩ h
end
end TH
namespace TH
open PySem PyProof.Rows
def BB:Option Tr→Int
 |none=>4238894112
 |some t=>Ay t
def CZ:Option Tr→Nat
 |none=>1
 |some t=>t.AX
def F0(h:Heap):Option Tr→VL→Prop
 |none,v=>v=.none
 |some t,v=>∃a,v=.ref a∧t.deep<8∧∃its,h.IsTuple a its.toArray∧Vs h t its
abbrev KE:=Option Tr×VL×VL
def B5(x:KE):DictEntry:=⟨BB x.1,x.2.1,x.2.2⟩
def Lz{p:Nat→Bool}{j:Nat}:∀ {n:Nat},j<n→p j=true→(∀i,i<n→p i=true→i=j)→(List.range n).filter p=[j]
 |0,h,_,_=>absurd h (aT _)
 |n+1,h,hp,hu=>by
  rw [List.range_succ,List.filter_append];by_cases e:j=n
  ·subst e;have:(List.range j).filter p=[]:=List.filter_eq_nil_iff.mpr fun i hi hpi=>by
    have:=ay.mp hi;have:=hu i (by omega) hpi;omega
   rw [this];simp [hp]
  ·have hn:p n=false:=by
    cases q:p n with
    |false=>rfl
    |true=>exact absurd (hu n (by omega) q).symm e
   rw [Lz (show j<n by omega) hp fun i hi=>hu i (by omega)];simp [hn]
section
variable{prog:Program}{w:World}{A:Around}{E:VL→SD→Prop}{s:SD}{d:AD}{o:Obj}{es:Array DictEntry}{ep:Nat}{xs:List KE}{k:Option Tr}{kv:VL}
def Ho(he:es.toList=xs.map B5)(j:Nat):es[j]? = (xs[j]?).map B5:=by rw [←Array.getElem?_toList,he,List.getElem?_map]
def OY(he:es.toList=xs.map B5):es.size=xs.length:=by rw [←Array.length_toList,he,List.length_map]
def M7(he:es.toList=xs.map B5)(hap:∀x∈xs,BB x.1=BB k→x.1=k)(hno:∀x∈xs,x.1≠k):placesWithHash es.size (fun i=>es[i]?.map (·.hash)) (BB k)=[]:=by
 unfold placesWithHash;refine List.filter_eq_nil_iff.mpr fun i hi hp=>?_;dsimp only at hp;rw [Ho he]at hp;cases q:xs[i]? with
 |none=>rw [q]at hp;simp at hp
 |some x =>
  rw [q]at hp;have hx:=aO q;have:BB x.1=BB k:=by simpa [B5]using hp
  exact hno x hx (hap x hx this)
def LY(he:es.toList=xs.map B5)(hap:∀x∈xs,BB x.1=BB k→x.1=k)(hn:(xs.map (·.1)).Nodup){j:Nat}{x:KE}(hj:xs[j]? = some x)(hx:x.1=k):placesWithHash es.size (fun i=>es[i]?.map (·.hash)) (BB k)=[j]:=by
 unfold placesWithHash;have hl:j<xs.length:=(aD.mp hj).1;refine Lz (by rw [OY he];exact hl) (by dsimp only;rw [Ho he,hj,←hx];simp [B5]) fun i hi hp=>?_;dsimp only at hp;rw [Ho he]at hp;cases q:xs[i]? with
 |none=>rw [q]at hp;simp at hp
 |some y =>
  rw [q]at hp;have hy:=hap y (aO q) (by simpa [B5]using hp);have h1:(xs.map (·.1))[i]? = some k:=by rw [List.getElem?_map,q];show some y.1=_;rw [hy]
  have h2:(xs.map (·.1))[j]? = some k:=by rw [List.getElem?_map,hj];show some x.1=_;rw [hx]
  exact(List.getElem?_inj (aD.mp h1).1 hn).mp (h1.trans h2.symm)
def V6{Q:Bool→SD→Prop}(h:Q true s):wpAny (model prog w) A (eqBool .none .none) Q E s:=by
 unfold eqBool;rw [if_pos (by rfl)];exact Wb (wpAny_rule (aA h))
def F0.inj{h:Heap}{x y:Option Tr}{v:VL}(a:F0 h x v)(b:F0 h y v):x=y:=by
 cases x with
 |none =>
  cases y with
  |none=>rfl
  |some t =>
   obtain⟨_,e,_⟩:=b;rw [show v=.none from a]at e;cases e
 |some u =>
  cases y with
  |none =>
   obtain⟨_,e,_⟩:=a;rw [show v=.none from b]at e;cases e
  |some t =>
   obtain⟨a1,e1,k1⟩:=a;obtain⟨a2,e2,k2⟩:=b;rw [e1]at e2;cases e2;obtain⟨_,i1,b1,b2⟩:=k1;obtain⟨_,i2,c1,c2⟩:=k2;have:i1=i2:=by simpa using GC b1 c1
   subst this;rw [Vs.inj b2 c2]
def Su{Q:Option Nat→SD→Prop}(hu:A.units+8<cLine)(hk:F0 s.heap k kv)(ho:s.heap.get? d=some o)(hd:o.data=.dict es ep)(he:es.toList=xs.map B5)(his:∀x∈xs,F0 s.heap x.1 x.2.1)(hn:(xs.map (·.1)).Nodup)(hap:∀x∈xs,BB x.1=BB k→x.1=k)
 (hno:(∀x∈xs,x.1≠k)→Q none s)(hyes:∀(j:Nat) (x:KE),xs[j]? = some x→x.1=k→Q (some j) s):wpAny (model prog w) A (dictFind d kv (BB k)) Q E s:=by
 unfold dictFind
 try with_reducible refine aV ?_
 refine Wb (wpAny_dictEntries ho hd ?_);cases k with
 |none =>
  have hk:kv=.none:=hk;subst hk;dsimp only;by_cases hx:∃x∈xs,x.1=none
  ·obtain⟨x,hm,hx⟩:=hx;obtain⟨j,hj⟩:=List.mem_iff_getElem?.mp hm;have hp:=LY (k:=none) he hap hn hj hx;have hej:es[j]? = some ⟨BB none,.none,x.2.2⟩:=by
    rw [Ho he,hj];have h1:=his x hm;rw [hx]at h1;show some (B5 x)=_;unfold B5;rw [hx,show x.2.1=Value.none from h1]
   rw [hp];rw [if_pos (by simp [hej,carriedByValue])];unfold dictWalkPlain;simp only [List.forIn_cons,List.forIn_nil,hej];refine Wb (Wb ?_);rw [if_pos (by simp)];refine Wb (wpAny_dictEpoch ho hd (Wb (V6 (Wb (wpAny_dictEpoch ho hd ?_)))));rw [if_neg (by simp),if_pos rfl];exact Wb (wpAny_rule (aA (aA (aA (hyes j x hj hx)))))
  ·have hp:=M7 (k:=none) he hap fun x hm z=>hx ⟨x,hm,z⟩;rw [hp,if_pos (by simp [carriedByValue])];unfold dictWalkPlain;simp only [List.forIn_nil];exact Wb (aA (aA (hno fun x hm z=>hx ⟨x,hm,z⟩)))
 |some t =>
  obtain⟨a,rfl,hta⟩:=hk;dsimp only;have hany:¬(es.any fun e=>e.key==Value.ref a&&e.hash != BB (some t))=true:=by
   intro z;rw [←Array.any_toList,he,List.any_eq_true]at z;obtain⟨e,hm,z⟩:=z;obtain⟨x,hx,rfl⟩:=ae.mp hm;rw [Bool.and_eq_true]at z;have h1:x.2.1=.ref a:=by simpa [B5]using z.1
   have h2:=his x hx;rw [h1]at h2;have h3:=h2.inj (show F0 s.heap (some t) (.ref a) from⟨a,rfl,hta⟩);have h4:=z.2;rw [B5,h3]at h4;simp at h4
  by_cases hx:∃x∈xs,x.1=some t
  ·obtain⟨x,hm,hx⟩:=hx;obtain⟨j,hj⟩:=List.mem_iff_getElem?.mp hm;have hp:=LY (k:=some t) he hap hn hj hx;have h1:=his x hm;rw [hx]at h1;obtain⟨b,hb,htb⟩:=h1;have hej:es[j]? = some ⟨BB (some t),.ref b,x.2.2⟩:=by
    rw [Ho he,hj];show some (B5 x)=_;unfold B5;rw [hx,hb]
   have hst:([j].filterMap fun i=>es[i]?.map (·.key))=[.ref b]:=by simp [hej]
   rw [hp,hst,if_neg (by simp [carriedByValue]),if_neg hany];by_cases hone:(([Value.ref b]:List VL)==[Value.ref a])=true<;>(first|rw [if_pos hone]|rw [if_neg hone])<;>(first|refine Wb (aA ?_)|refine Wb (wpAny_tableMayTell_quiet (knd:=GP prog w) hta (fun v hv=>⟨t,b,List.mem_singleton.mp hv,htb⟩) ?_))<;>(
    rw [if_neg (by simp)];simp only [List.forIn_cons,List.forIn_nil,hej];refine Wb (Wb ?_);rw [if_pos (by simp)];refine Wb (wpAny_dictEpoch ho hd (Wb ((GP prog w).eqBool (x:=t) (y:=t) hu htb hta (Wb (wpAny_dictEpoch ho hd ?_)))));rw [if_neg (by simp),if_pos (by simp),if_neg (by simp)];refine Wb (wpAny_rule ?_);rw [if_pos (by simp)];exact aA (aA (aA (hyes j x hj hx))))
  ·have hp:=M7 (k:=some t) he hap fun x hm z=>hx ⟨x,hm,z⟩;rw [hp,if_neg (by simp [carriedByValue]),if_neg hany];rw [if_neg (by simp)];refine Wb (wpAny_tableMayTell_quiet (knd:=GP prog w) hta (fun v hv=>by cases hv) ?_);rw [if_neg (by simp)];simp only [List.forIn_nil];exact Wb (aA (aA (hno fun x hm z=>hx ⟨x,hm,z⟩)))
def SH{Q:Int→SD→Prop}(hu:A.units+8<cLine)(hk:F0 s.heap k kv)(h:Q (BB k) { s with toks:=s.toks+CZ k }):wpAny (model prog w) A (pyHash kv) Q E s:=by
 cases k with
 |some t =>
  obtain⟨a,rfl,hta⟩:=hk;exact(GP prog w).pyHash hu hta h
 |none =>
  have hk:kv=.none:=hk;subst hk;have ht:s.TypeIs .none "NoneType" := rfl;unfold pyHash pyHashByItsType;have hv:[Value.none].any Value.onHeap=false:=rfl;refine Wb ?_;rw [cRoomFor,if_neg (by rw [hv];exact aI)];refine aA ?_;refine Wb (wpAny_specialOf ht F.slot_NoneType_hash.lookup ?_);show wpAny _ _ (if(some (Value.builtin "NoneType.__hash__")==some Value.none)=true then _ else _) Q E s;rw [if_neg (by rw [beq_builtin_none];exact aI)];refine Wb (wpAny_specialOf ht F.slot_NoneType_hash.lookup ?_);show wpAny _ _ (callSpecialIfBoundUnlessNone? .none "__hash__" _>>=_) Q E s;refine Wb (wpAny_callSpecialIfBoundUnlessNone?_slot ht F.slot_NoneType_hash
   (aX F.slot_NoneType_hash ht F.entry_NoneType_hash
    (show wpAny _ _ (do ret (←mkInt 4238894112)) _ _ s from wpAny_ret_mkInt ?_) (F.args_NoneType_hash_1 _)))
  show wpAny _ _ (if(decide (-(2:Int)^63≤4238894112)&&decide ((4238894112:Int)<2^63))=true then _ else _) Q E _;rw [if_pos (by decide)];exact aA h
def DH(xs:List KE)(k:Option Tr):Option KE:=xs.find? fun x=>decide (x.1=k)
def Lo(hn:(xs.map (·.1)).Nodup){j:Nat}{x:KE}(hj:xs[j]? = some x)(hx:x.1=k):DH xs k=some x:=by
 unfold DH;cases q:xs.find? (fun x=>decide (x.1=k)) with
 |none=>exact absurd (bP hx) (List.find?_eq_none.mp q x (aO hj))
 |some y =>
  have h1:y.1=k:=by simpa using List.find?_some q
  obtain⟨i,hi⟩:=List.mem_iff_getElem?.mp (List.mem_of_find?_eq_some q);have e1:(xs.map (·.1))[i]? = some k:=by rw [List.getElem?_map,hi];show some y.1=_;rw [h1]
  have e2:(xs.map (·.1))[j]? = some k:=by rw [List.getElem?_map,hj];show some x.1=_;rw [hx]
  have:=(List.getElem?_inj (aD.mp e1).1 hn).mp (e1.trans e2.symm);subst this;rw [hi]at hj;exact hj
def Lc(h:∀x∈xs,x.1≠k):DH xs k=none:=List.find?_eq_none.mpr fun x hx=>by simpa using h x hx
structure GB(h:Heap)(d:Addr)(xs:List KE):Prop where
 ob:∃o es ep,h.get? d=some o∧o.ExactDict∧o.data=.dict es ep∧es.toList=xs.map B5
 ks:∀x∈xs,F0 h x.1 x.2.1
 nd:(xs.map (·.1)).Nodup
def GB.ty(hm:GB s.heap d xs):s.TypeIs (.ref d) "dict" := let⟨o,_,_,ho,hc,_⟩:=hm.ob;⟨o,ho,hc.1⟩
def Vb{Q:Option VL→SD→Prop}(hu:A.units+8<cLine)(hk:F0 s.heap k kv)(hm:GB s.heap d xs)(hap:∀x∈xs,BB x.1=BB k→x.1=k)(h:Q ((DH xs k).map (·.2.2)) { s with toks:=s.toks+CZ k }):wpAny (model prog w) A (dictGet d kv) Q E s:=by
 obtain⟨o,es,ep,ho,_,hd,he⟩:=hm.ob;unfold dictGet
 try with_reducible refine aV ?_
 refine Wb (SH hu hk (Wb (Su (s:={ s with toks:=s.toks+CZ k }) hu hk ho hd he hm.ks hm.nd hap (fun hno=>?_) fun j x hj hx=>?_)))
 ·rw [Lc hno]at h;exact aA h
 ·rw [Lo hm.nd hj hx]at h;refine Wb (wpAny_dictEntries (s:={ s with toks:=s.toks+CZ k }) ho hd ?_);rw [Ho he j,hj];exact aA h
def XM{x:KE}{Q:VL→SD→Prop}(hu:A.in1.units+8<cLine)(hk:F0 s.heap k kv)(hm:GB s.heap d xs)(hap:∀x∈xs,BB x.1=BB k→x.1=k)(hx:DH xs k=some x)(h:Q x.2.2 { s with toks:=s.toks+CZ k }):wpAny (model prog w) A (getItem (.ref d) kv) Q E s:=by
 unfold getItem
 try with_reducible refine aV ?_
 refine Wb (wpAny_sequenceKey hm.ty (by decide) ?_);refine Wb (aj (name:=Str.ofString "__getitem__") hm.ty slot_dict_getitem (aX slot_dict_getitem hm.ty entry_dict_getitem ?_ (args_dict_getitem _ _)));show wpAny _ _ (dictGet d kv>>=_) _ _ s;refine Wb (Vb hu hk hm hap ?_);rw [hx];exact aA ⟨x.2.2,rfl,wpAny_pure h⟩
def b9{Q:VL→SD→Prop}(hu:A.in1.units+8<cLine)(hk:F0 s.heap k kv)(hd:(d==sysModules)=false)(hm:GB s.heap d xs)(hap:∀x∈xs,BB x.1=BB k→x.1=k)(neg:Bool)
 (h:Q (.bool (if neg then !(DH xs k).isSome else(DH xs k).isSome)) { s with toks:=s.toks+CZ k }):wpAny (model prog w) A (compareOp (if neg then .NotIn else .In) kv (.ref d)) Q E s:=by
 have key:∀ {Q:Bool→SD→Prop},Q (DH xs k).isSome { s with toks:=s.toks+CZ k }→wpAny (model prog w) A (contains (.ref d) kv) Q E s:=fun {Q} h=>by
  unfold contains
  try with_reducible refine aV ?_
  refine Wb (wpAny_specialOf hm.ty slot_dict_contains.lookup ?_);show wpAny _ _ (if(some (Value.builtin "dict.__contains__")==some Value.none)=true then _ else _) _ E s;rw [if_neg (by rw [beq_builtin_none];exact aI)];refine Wb (wpAny_callSpecialUnlessNone?_slot (name:=Str.ofString "__contains__") hm.ty slot_dict_contains (aX slot_dict_contains hm.ty entry_dict_contains ?_ (args_dict_contains _ _)));show wpAny _ _ (dictGet d kv>>=_) _ _ s;refine Wb (Vb hu hk hm hap ?_);cases hf:DH xs k with
  |some p =>
   rw [hf]at h;show wpAny _ _ (ret (.bool true)) _ _ _;exact aA ⟨_,rfl,wpAny_truthy_bool h⟩
  |none =>
   rw [hf]at h;show wpAny _ _ (Builtin.Dict.pendingKey? d kv>>=_) _ _ _;exact Wb (wpAny_pendingKey_other hd (aA ⟨_,rfl,wpAny_truthy_bool h⟩))
 cases neg with
 |false =>
  show wpAny _ _ (do return .bool (←contains (.ref d) kv)) Q E s;exact Wb (key (aA h))
 |true =>
  show wpAny _ _ (do return .bool (!(←contains (.ref d) kv))) Q E s;exact Wb (key (aA h))
def putN(k:Option Tr)(v:VL)(x:KE):KE:=if x.1=k then(x.1,x.2.1,v) else x
def EN(xs:List KE)(k:Option Tr)(kv v:VL):List KE:=if(DH xs k).isSome then xs.map (putN k v) else xs++[(k,kv,v)]
def OW(v:VL):∀xs:List KE,(xs.map (putN k v)).map (·.1)=xs.map (·.1)
 |[]=>rfl
 |x::xs=>by
  rw [List.map_cons,List.map_cons,List.map_cons,OW v xs]
  congr 1
  unfold putN;split<;>rfl
def Ly{v:VL}:∀ {xs:List KE} {j:Nat} {x:KE},(xs.map (·.1)).Nodup→xs[j]? = some x→x.1=k→(xs.map B5).modify j (fun e=>{ e with val:=v })=(xs.map (putN k v)).map B5
 |[],_,_,_,h,_=>by simp at h
 |y::ys,0,x,hn,h,hx=>by
  have:y=x:=by simpa using h
  subst this;rw [List.map_cons,List.nodup_cons]at hn;rw [List.map_cons,List.map_cons,List.map_cons];have hno:ys.map (putN k v)=ys:=by
   refine(bI fun z hz=>?_).trans (List.map_id _);unfold putN;rw [if_neg fun e=>hn.1 (by rw [hx,←e];exact List.mem_map_of_mem hz)]
   rfl
  rw [hno];show { B5 y with val:=v }::ys.map B5=_
  congr 1
  unfold putN;rw [if_pos hx]
  rfl
 |y::ys,j+1,x,hn,h,hx=>by
  have h':ys[j]? = some x:=by simpa using h
  rw [List.map_cons,List.nodup_cons]at hn;rw [List.map_cons,List.map_cons,List.map_cons];have hy:putN k v y=y:=by
   unfold putN;rw [if_neg fun e=>hn.1 (by rw [e,←hx];exact List.mem_map_of_mem (aO h'))]
  rw [hy];show B5 y::(ys.map B5).modify j _=_;rw [Ly hn.2 h' hx]
def F0.keep{h h':Heap}{k:Option Tr}{v:VL}{o:Obj}{es ep}(a:F0 h k v)(prog:Program)(w:World)(ho:h.get? d=some o)(hd:o.data=.dict es ep)(sb:Heap.SameBut d h h'):F0 h' k v:=by
 cases k with
 |none=>exact a
 |some t =>
  obtain⟨a1,e1,k1⟩:=a;exact⟨a1,e1,(GP prog w).keeps k1 ho hd sb⟩
def ZE{v:VL}{Q:Unit→SD→Prop}(hu:A.in1.units+8<cLine)(hk:F0 s.heap k kv)(hm:GB s.heap d xs)(hap:∀x∈xs,BB x.1=BB k→x.1=k)(hz:xs.length≤sizeLine)
 (hQ:∀h',GB h' d (EN xs k kv v)→Heap.SameBut d s.heap h'→Q () { s with heap:=h',toks:=s.toks+CZ k }):wpAny (model prog w) A (setItem (.ref d) kv v) Q E s:=by
 unfold setItem
 try with_reducible refine aV ?_
 refine Wb (wpAny_sequenceKey hm.ty (by decide) ?_);refine Wb (aj (name:=Str.ofString "__setitem__") hm.ty slot_dict_setitem (aX slot_dict_setitem hm.ty entry_dict_setitem ?_ (args_dict_setitem _ _ _)));show wpAny _ _ (Builtin.Dict.notOrdered "__setitem__" ⟨[.ref d,kv,v],[]⟩>>=_) _ _ s;refine Wb (wpAny_notOrdered_dict hm.ty ?_);show wpAny _ _ (dictSet d kv v>>=_) _ _ s;refine Wb ?_;have fin:∀h',GB h' d (EN xs k kv v)→Heap.SameBut d s.heap h'→wpAny (model prog w) A.in1 (ret .none) (fun fin s'=>∃v,fin=.done (.ret v)∧wpAny (model prog w) A (pure ()) Q E s') E { s with heap:=h',toks:=s.toks+CZ k }:=fun h' h1 h2=>aA ⟨.none,rfl,wpAny_pure (hQ h' h1 h2)⟩;obtain⟨o,es,ep,ho,hc,hd,he⟩:=hm.ob;unfold dictSet
 try with_reducible refine aV ?_
 refine Wb (SH hu hk ?_);unfold dictSetHashed
 try with_reducible refine aV ?_
 refine Wb (Su (s:={ s with toks:=s.toks+CZ k }) hu hk ho hd he hm.ks hm.nd hap (fun hno=>?_) fun j x hj hx=>?_)
 ·have es':EN xs k kv v=xs++[(k,kv,v)]:=by unfold EN;rw [Lc hno];rfl
  rw [es']at fin;refine Wb (wpAny_rule (wpAny_updateDictKeys (hz:=by rw [OY he];exact hz) (s:={ s with toks:=s.toks+CZ k }) ho hd (fin _ ⟨⟨_,_,ep+1,Heap.get?_update_self _ ho (Obj.isFreed_of_dict (Obj.data_mapDictKeys hd _)),hc.mapDictKeys _,Obj.data_mapDictKeys hd _,?_⟩,fun y hy=>?_,?_⟩ (af ..))))
  ·simp [he,B5]
  ·rcases bD.mp hy with h|h
   ·exact(hm.ks y h).keep prog w ho hd (af ..)
   ·rw [List.mem_singleton.mp h];exact hk.keep prog w ho hd (af ..)
  ·rw [List.map_append,List.nodup_append];refine⟨hm.nd,by simp,fun a ha b hb=>?_⟩;have:b=k:=by simpa using hb
   subst this;obtain⟨y,hy,rfl⟩:=ae.mp ha;exact hno y hy
 ·have es':EN xs k kv v=xs.map (putN k v):=by unfold EN;rw [Lo hm.nd hj hx];rfl
  rw [es']at fin;refine Wb (wpAny_rule (Wb (wpAny_updateDict (s:={ s with toks:=s.toks+CZ k }) ho hd (wpAny_point (fin _ ⟨⟨_,_,ep,Heap.get?_update_self _ ho (Obj.isFreed_of_dict (Obj.data_mapDict hd _)),hc.mapDict _,Obj.data_mapDict hd _,?_⟩,fun y hy=>?_,?_⟩ (af ..))))))
  ·have:=Ly (v:=v) hm.nd hj hx;rw [←he]at this;obtain⟨l⟩:=es
   simpa using this
  ·obtain⟨z,hz',rfl⟩:=ae.mp hy;unfold putN;split<;>exact(hm.ks z hz').keep prog w ho hd (af ..)
  ·rw [OW];exact hm.nd
end
end TH
namespace L2
open PySem PySem.Spec PyProof.Rows
abbrev KR:=Option Tr×V×V
def Mc(q:KR)(x:TH.KE):Prop:=x.1=q.1∧RelV q.2.1 x.2.1∧RelV q.2.2 x.2.2
def dN(d:AD)(r:List KR):HO:=.ext fun h=>(d==sysModules)=false∧∃o es ep xs,h.get? d=some o∧o.ExactDict∧o.data=.dict es ep∧es.toList=xs.map TH.B5∧PySem.Paired Mc r xs
def Fq(H:Hp):Option Tr→V→Prop
 |none,v=>v=.BG
 |some t,v=>t.deep<8∧Tv H t v
def Fq.same{H H':Hp}{k:Option Tr}{v:V}(h:Fq H k v)(e:AH H H'):Fq H' k v:=by
 cases k with
 |none=>exact h
 |some t=>exact⟨h.1,h.2.same e⟩
structure Oh(H:Hp)(d:Addr)(r:List KR)(k:Option Tr):Prop where
 at_:H d=some (dN d r)
 ks:∀q∈r,Fq H q.1 q.2.1
 nd:(r.map (·.1)).Nodup
 ap:∀q∈r,TH.BB q.1=TH.BB k→q.1=k
def Lk{α β:Type}{R:α→β→Prop}{l:List α}{m:List β}(h:PySem.Paired R l m):∀x∈m,∃q∈l,R q x:=by
 induction h with
 |nil=>intro x hx;cases hx
 |cons a _ ih =>
  intro x hx;rcases aL.mp hx with rfl|hx
  ·exact⟨_,.head _,a⟩
  ·obtain⟨q,h1,h2⟩:=ih x hx;exact⟨q,.tail _ h1,h2⟩
def M5{r:List KR}{xs:List TH.KE}(h:PySem.Paired Mc r xs):xs.map (·.1)=r.map (·.1):=by
 induction h with
 |nil=>rfl
 |cons a _ ih=>rw [List.map_cons,List.map_cons,ih,a.1]
section
variable{X:Cx}{pins:List (AD×Obj)}{σ:St}{H:Hp}{s:SD}{pos:Pos}
def Fq.raw(I:Inv X pins σ H s){k:Option Tr}{v:V}{u:VL}(h:Fq H k v)(r:RelV v u):TH.F0 s.heap k u:=by
 cases k with
 |none =>
  have h:v=.BG:=h;subst h;exact r
 |some t =>
  obtain⟨h1,a,ys,rfl,h2,h3⟩:=h;obtain⟨its,rv,p,_⟩:=I.tuple (Ag.of (K:=X.K) h2);exact⟨a,r,h1,its,p,h3.vs I rv⟩
def Ow(I:Inv X pins σ H s){d:AD}{r:List KR}{k:Option Tr}(h:Oh H d r k):(d==sysModules)=false∧∃xs,TH.GB s.heap d xs∧PySem.Paired Mc r xs∧∀x∈xs,TH.BB x.1=TH.BB k→x.1=k:=by
 obtain⟨hs,o,es,ep,xs,g1,g2,g3,g4,g5⟩:=(show Bl X.prog X.w H s.heap d (dN d r) from I.Ah d _ h.at_).1;refine⟨hs,xs,⟨⟨o,es,ep,g1,g2,g3,g4⟩,fun x hx=>?_,by rw [M5 g5];exact h.nd⟩,g5,fun x hx=>?_⟩
 ·obtain⟨q,h1,h2,h3,_⟩:=Lk g5 x hx;rw [h2];exact(h.ks q h1).raw I h3
 ·obtain⟨q,h1,h2,_⟩:=Lk g5 x hx;rw [h2];exact h.ap q h1
def Ki{r:List KR}{xs:List TH.KE}(h:PySem.Paired Mc r xs)(k:Option Tr):match r.find? (fun q=>decide (q.1=k)) with
  |some q=>∃x,TH.DH xs k=some x∧RelV q.2.2 x.2.2
  |none=>TH.DH xs k=none:=by
 induction h with
 |nil=>exact rfl
 | @cons q x l m a _ ih =>
  unfold TH.DH at ih ⊢;rw [List.find?_cons,List.find?_cons,a.1];by_cases z:q.1=k
  ·simp only [decide_eq_true z];exact⟨x,rfl,a.2.2⟩
  ·simp only [decide_eq_false z];exact ih
def cb:R2:=fun x y H Q=>∃d r k q,x=.ref d∧Fq H k y∧Oh H d r k∧r.find? (fun q=>decide (q.1=k))=some q∧Q q.2.2 H
def X0{o i:Expr}{td ty:TE}(hu:X.A.units+64<cLine)(ho:PE X o td)(hi:PE X i ty)(hs:Yx i):PE X (.Subscript o i pos) (Te cb td ty):=by
 intro pins s σ H Q I h;refine WI PySem.F.slot_dict_getitem.lookup hs (Az (ho pins s σ H _ I h) fun u s1 ⟨x,H1,I1,rx,q1⟩=>Az (hi pins s1 σ H1 _ I1 q1) fun iv s2 ⟨y,H2,I2,ry,q2⟩=>?_);obtain⟨d,r,k,q,rfl,hk,hD,hf,q3⟩:=q2;obtain rfl:u=Value.ref d:=rx;obtain⟨hsm,xs,hm,hp,hap⟩:=Ow I2 hD;have hr:=Ki hp k;rw [hf]at hr;obtain⟨x,h1,h2⟩:=hr;exact⟨hm.ty,TH.XM (by show X.A.in1.units+8<cLine;rw [Around.in1_units];omega) (hk.raw I2 ry) hm hap h1 ⟨q.2.2,H2,I2.tok _,h2,q3⟩⟩
def cK(neg:Bool):R2:=fun x y H Q=>∃d r k,y=.ref d∧Fq H k x∧Oh H d r k∧Q (.bl (if neg then !(r.find? (fun q=>decide (q.1=k))).isSome else(r.find? (fun q=>decide (q.1=k))).isSome)) H
def Y3(hu:X.A.units+64<cLine)(neg:Bool):Bm X (compareOp (if neg then .NotIn else .In)) (cK neg):=by
 intro pins s σ H x y v u Q I rx ry h;obtain⟨d,r,k,rfl,hk,hD,q⟩:=h;obtain rfl:u=Value.ref d:=ry;obtain⟨hsm,xs,hm,hp,hap⟩:=Ow I hD;have hr:=Ki hp k;have e:(TH.DH xs k).isSome=(r.find? (fun q=>decide (q.1=k))).isSome:=by
  split at hr
  ·rename_i q e;obtain⟨x,h1,_⟩:=hr;rw [h1,e];rfl
  ·rename_i e;rw [hr,e];rfl
 refine TH.b9 (by show X.A.in1.units+8<cLine;rw [Around.in1_units];omega) (hk.raw I rx) hsm hm hap neg ?_;rw [e];exact⟨.bl _,H,I.tok _,rfl,q⟩
def DL(r:List KR)(k:Option Tr)(kv v:V):List KR:=if(r.find? (fun q=>decide (q.1=k))).isSome then r.map (fun q=>if q.1=k then(q.1,q.2.1,v) else q) else r++[(k,kv,v)]
def Vq{r:List KR}{xs:List TH.KE}{k:Option Tr}{kv v:V}{ku u:VL}(h:PySem.Paired Mc r xs)(hk:RelV kv ku)(hv:RelV v u):PySem.Paired Mc (DL r k kv v) (TH.EN xs k ku u):=by
 have hr:=Ki h k;unfold DL TH.EN;split at hr
 ·rename_i q e;obtain⟨x,h1,_⟩:=hr;rw [h1,e];simp only [Option.isSome_some,if_true];clear e h1 hk
  induction h with
  |nil=>exact .nil
  | @cons q x l m a _ ih =>
   rw [List.map_cons,List.map_cons];refine .cons ?_ ih;unfold TH.putN;rw [a.1];by_cases z:q.1=k
   ·rw [if_pos z,if_pos z];exact⟨rfl,a.2.1,hv⟩
   ·rw [if_neg z,if_neg z];exact a
 ·rename_i e;rw [hr,e];exact h.snoc ⟨rfl,hk,hv⟩
def ZS:RH:=fun o i v H Q=>∃d r k,o=.ref d∧Fq H k i∧Oh H d r k∧r.length≤1000∧Q (upd H d (dN d (DL r k i v)))
def W9(hu:X.A.units+64<cLine):Uq X ZS:=by
 intro pins s σ H o i v ov iv u Q I ro ri rv h;obtain⟨d,r,k,rfl,hk,hD,hl,q⟩:=h;obtain rfl:ov=Value.ref d:=ro;obtain⟨hsm,xs,hm,hp,hap⟩:=Ow I hD;have hle:xs.length=r.length:=by have:=bG List.length (M5 hp);simpa using this
 refine TH.ZE (by show X.A.in1.units+8<cLine;rw [Around.in1_units];omega) (hk.raw I ri) hm hap (aM (by omega:xs.length≤1000) (by rw [sizeLine_eq];decide)) fun h' hm' sb=>?_;obtain⟨o',es,ep,g1,g2,g3,g4⟩:=hm'.ob;refine⟨_,I.write (x:=d) (e:=d) (o:=dN d (DL r k i v)) (t':=s.toks+TH.CZ k) (by rw [hD.at_];exact trivial) (.inl rfl) (fun b w' hb e=>(sb.2 b hb).trans e) ⟨o',g1⟩ ?_,q⟩;exact⟨⟨hsm,o',es,ep,_,g1,g2,g3,g4,Vq hp ri rv⟩,⟨o',g1⟩,fun h1 h2 ⟨a,o,es,ep,xs,q,r⟩ k=>⟨a,o,es,ep,xs,k _ q,r⟩⟩
def XE:TE:=fun _ H Q=>∀p,H p=none→Q (.ref p) (upd H p (dN p []))
def T4:PE X (.Dict [] [] pos) XE:=fun pins s σ H Q I h=>by
 refine wpAny_Dict_empty ⟨.ref s.heap.objs.size,_,I.laid (a:=s.heap.objs.size) (o:=dN s.heap.objs.size []) (t':=s.toks) (fun _ _ q=>aC _ q) (aE _) ?_,rfl,h _ (I.Ah.fresh (aE _))⟩;have hb:sysModules<s.heap.objs.size:=Nat.lt_trans (by decide) (I.mod.glob.keeps I.bk).lt;have hn:(s.heap.objs.size==sysModules)=false:=beq_eq_false_iff_ne.mpr (Ne.symm (aK hb));exact⟨⟨hn,_,#[],0,[],Heap.get?_push_size _ rfl,⟨rfl,rfl,rfl⟩,rfl,rfl,.nil⟩,⟨_,Heap.get?_push_size _ rfl⟩,fun h1 h2 ⟨a,o,es,ep,xs,q,r⟩ k=>⟨a,o,es,ep,xs,k _ q,r⟩⟩
def find_key{r:List KR}{k:Option Tr}{q:KR}(h:r.find? (fun q=>decide (q.1=k))=some q):q∈r∧q.1=k:=⟨List.mem_of_find?_eq_some h,by simpa using List.find?_some h⟩
end
end L2
set_option maxHeartbeats 1000000
namespace L2
open PySem PySem.Spec PyProof.Rows
def Rd.same{H H':Hp}{a:AD}{u:HO}(e:AH H H')(h:Rd H a u):Rd H' a u:=by
 rcases h with h|⟨o,h⟩
 ·exact .inl (e _ _ h)
 ·exact .inr ⟨o,e _ _ h⟩
def Bc:Tr→List PD
 |.nil=>[]
 |.cons b r=>.tuple (Bc b)::Bc r
def YJ:Option Tr→PD
 |none=>.none
 |some t=>.tuple (Bc t)
mutual
def Du(H:Hp):PD→V→Prop
 |.none,v=>v=.BG
 |.bool b,v=>v=.bl b
 |.int i,v=>v=.int i
 |.str x,v=>v=.str x
 |.tuple ds,v=>∃a xs,v=.ref a∧H a=some (.tup xs)∧Ae H ds xs
 |.list ds,v=>∃a xs,v=.ref a∧H a=some (.lst xs)∧Ae H ds xs
 |.dict kv,v=>(∃ea C:AD,kv=[(.int (C:Nat),.none)]∧v=.ref ea∧H ea=some (bw ea (.ref C)))∨(∃(a:AD) (ns:List Int),kv=[(.none,.list (ns.map .int))]∧v=.ref a∧Rd H a (.lst (ns.map V.int)))∨LO H kv v
def Ae(H:Hp):List PD→List V→Prop
 |[],xs=>xs=[]
 |d::ds,xs=>∃x r,xs=x::r∧Du H d x∧Ae H ds r
def LO(H:Hp):List (PD×PD)→V→Prop
 |[],_=>False
 |(k0,d0)::t,v=>k0=.bool true∧d0=.none∧∃a r,v=.ref a∧H a=some (dN a r)∧(r.map (·.1)).Nodup∧Jl H t r
def Jl(H:Hp):List (PD×PD)→List KR→Prop
 |[],r=>r=[]
 |(k,d)::t,r=>∃q r',r=q::r'∧k=YJ q.1∧Fq H q.1 q.2.1∧Du H d q.2.2∧Jl H t r'
end
mutual
def Du.same{H H':Hp}(e:AH H H'):∀ {d:PD} {v:V},Du H d v→Du H' d v
 |.none,_,h=>by rw [Du]at h ⊢;exact h
 |.bool _,_,h=>by rw [Du]at h ⊢;exact h
 |.int _,_,h=>by rw [Du]at h ⊢;exact h
 |.str _,_,h=>by rw [Du]at h ⊢;exact h
 |.tuple _,_,h=>by
  rw [Du]at h ⊢;obtain⟨a,xs,e1,h1,h2⟩:=h;exact⟨a,xs,e1,e _ _ h1,Ae.same e h2⟩
 |.list _,_,h=>by
  rw [Du]at h ⊢;obtain⟨a,xs,e1,h1,h2⟩:=h;exact⟨a,xs,e1,e _ _ h1,Ae.same e h2⟩
 |.dict _,_,h=>by
  rw [Du]at h ⊢;rcases h with ⟨ea,C,e1,e2,h1⟩|⟨a,ns,e1,e2,h1⟩|h
  ·exact .inl ⟨ea,C,e1,e2,e _ _ h1⟩
  ·exact .inr (.inl ⟨a,ns,e1,e2,h1.same e⟩)
  ·exact .inr (.inr (LO.same e h))
def Ae.same{H H':Hp}(e:AH H H'):∀ {ds:List PD} {xs:List V},Ae H ds xs→Ae H' ds xs
 |[],_,h=>by rw [Ae]at h ⊢;exact h
 |_::_,_,h=>by
  rw [Ae]at h ⊢;obtain⟨x,r,e1,h1,h2⟩:=h;exact⟨x,r,e1,Du.same e h1,Ae.same e h2⟩
def LO.same{H H':Hp}(e:AH H H'):∀ {kv:List (PD×PD)} {v:V},LO H kv v→LO H' kv v
 |[],_,h=>by rw [LO]at h;exact h.elim
 |(_,_)::_,_,h=>by
  rw [LO]at h ⊢;obtain⟨h1,h2,a,r,h3,h4,h5,h6⟩:=h;exact⟨h1,h2,a,r,h3,e _ _ h4,h5,Jl.same e h6⟩
def Jl.same{H H':Hp}(e:AH H H'):∀ {kv:List (PD×PD)} {r:List KR},Jl H kv r→Jl H' kv r
 |[],_,h=>by rw [Jl]at h ⊢;exact h
 |(_,_)::_,_,h=>by
  rw [Jl]at h ⊢;obtain⟨q,r',h1,h2,h3,h4,h5⟩:=h;exact⟨q,r',h1,h2,h3.same e,Du.same e h4,Jl.same e h5⟩
end
mutual
def Du.br{K:Fg}{H:Hp}:∀ {d:PD} {v:V},d.canLay0=true→Du H d v→Br K H d v
 |.none,_,_,h=>by rw [Du]at h;rw [Br];exact h
 |.bool _,_,_,h=>by rw [Du]at h;rw [Br];exact h
 |.int _,_,_,h=>by rw [Du]at h;rw [Br];exact h
 |.str _,_,_,h=>by rw [Du]at h;rw [Br];exact h
 |.tuple _,_,c,h=>by
  rw [Du]at h;rw [Br];obtain⟨a,xs,e1,h1,h2⟩:=h;exact⟨a,xs,e1,Ag.of h1,Ae.br (by simp only [PyData.canLay0,Bool.and_eq_true]at c;first|exact c|exact c.2|exact c.1) h2⟩
 |.list _,_,c,h=>by
  rw [Du]at h;rw [Br];obtain⟨a,xs,e1,h1,h2⟩:=h;exact⟨a,xs,e1,AZ.of h1,Ae.br (by simp only [PyData.canLay0,Bool.and_eq_true]at c;first|exact c|exact c.2|exact c.1) h2⟩
 |.dict _,_,c,h=>by simp [PyData.canLay0]at c
def Ae.br{K:Fg}{H:Hp}:∀ {ds:List PD} {xs:List V},PyData.canLayAll0 ds=true→Ae H ds xs→CV K H ds xs
 |[],_,_,h=>by rw [Ae]at h;rw [CV];exact h
 |_::_,_,c,h=>by
  rw [Ae]at h;rw [CV];obtain⟨x,r,e1,h1,h2⟩:=h;simp only [PyData.canLayAll0,Bool.and_eq_true]at c;exact⟨x,r,e1,Du.br c.1 h1,Ae.br c.2 h2⟩
end
def Ae.nil{H:Hp}:Ae H [] []:=by rw [Ae]
def Ae.cons{H:Hp}{d:PD}{ds:List PD}{x:V}{xs:List V}(h:Du H d x)(k:Ae H ds xs):Ae H (d::ds) (x::xs):=by rw [Ae];exact⟨x,xs,rfl,h,k⟩
def Ae.un{H:Hp}{d:PD}{ds:List PD}{xs:List V}(h:Ae H (d::ds) xs):∃x r,xs=x::r∧Du H d x∧Ae H ds r:=by rw [Ae]at h;exact h
def Ae.nil_eq{H:Hp}{xs:List V}(h:Ae H [] xs):xs=[]:=by rw [Ae]at h;exact h
def Ae.len{H:Hp}:∀ {ds:List PD} {xs:List V},Ae H ds xs→xs.length=ds.length
 |[],_,h=>by rw [h.nil_eq];rfl
 |_::_,_,h=>by obtain⟨x,r,rfl,_,h2⟩:=h.un;simp [h2.len]
def Ae.get{H:Hp}:∀ {ds:List PD} {xs:List V} {i:Nat} {d:PD},Ae H ds xs→ds[i]? = some d→∃v,xs[i]? = some v∧Du H d v
 |[],_,i,_,_,e=>by simp at e
 |_::_,_,0,_,h,e=>by
  obtain⟨x,r,rfl,h1,_⟩:=h.un;simp at e;subst e;exact⟨x,rfl,h1⟩
 |_::_,_,i+1,_,h,e=>by
  obtain⟨x,r,rfl,_,h2⟩:=h.un;obtain⟨v,k1,k2⟩:=h2.get (i:=i) (by simpa using e);exact⟨v,by simpa using k1,k2⟩
def Ae.back{H:Hp}{ds:List PD}{xs:List V}{i:Nat}{v:V}(h:Ae H ds xs)(e:xs[i]? = some v):∃d,ds[i]? = some d∧Du H d v:=by
 have hl:=h.len;have hi:i<ds.length:=by rw [←hl];exact(aD.mp e).1
 have hd:ds[i]? = some ds[i]:=by simp [hi]
 obtain⟨w,k1,k2⟩:=h.get hd;rw [e]at k1;cases k1;exact⟨_,hd,k2⟩
def Ae.app{H:Hp}:∀ {ds es:List PD} {xs ys:List V},Ae H ds xs→Ae H es ys→Ae H (ds++es) (xs++ys)
 |[],_,_,_,h,k=>by rw [h.nil_eq];exact k
 |_::_,_,_,_,h,k=>by obtain⟨x,r,rfl,h1,h2⟩:=h.un;exact .cons h1 (h2.app k)
def Ae.take{H:Hp}:∀ {ds:List PD} {xs:List V} (i:Nat),Ae H ds xs→Ae H (ds.take i) (xs.take i)
 |_,_,0,_=>by rw [List.take_zero,List.take_zero];exact .nil
 |[],_,i+1,h=>by rw [h.nil_eq];exact .nil
 |_::_,_,i+1,h=>by obtain⟨x,r,rfl,h1,h2⟩:=h.un;exact .cons h1 (h2.take i)
def Ae.drop{H:Hp}:∀ {ds:List PD} {xs:List V} (i:Nat),Ae H ds xs→Ae H (ds.drop i) (xs.drop i)
 |_,_,0,h=>h
 |[],_,i+1,h=>by rw [h.nil_eq];exact .nil
 |_::_,_,i+1,h=>by obtain⟨x,r,rfl,h1,h2⟩:=h.un;exact h2.drop i
def Ae.rev{H:Hp}:∀ {ds:List PD} {xs:List V},Ae H ds xs→Ae H ds.reverse xs.reverse
 |[],_,h=>by rw [h.nil_eq];exact .nil
 |_::_,_,h=>by
  obtain⟨x,r,rfl,h1,h2⟩:=h.un;rw [List.reverse_cons,List.reverse_cons];exact h2.rev.app (.cons h1 .nil)
inductive Oc where
 |lst (xs:List PyData)|YO (kvs:List (List Key×PyData))|Yi (kvs:List (Option Tr×PyData))
inductive L where
 |no|d (x:PyData)|own (c:Oc)
abbrev Dv:=List L
def L9(G:Hp):List (List Key×PD)→List (List Key×V)→Prop
 |[],r=>r=[]
 |q::t,r=>∃v r',r=(q.1,v)::r'∧Du G q.2 v∧L9 G t r'
def L9.same{G G':Hp}(e:AH G G'):∀ {t:List (List Key×PD)} {r:List (List Key×V)},L9 G t r→L9 G' t r
 |[],r,h=>h
 |q::t,r,h=>by
  obtain⟨v,r',rfl,h1,h2⟩:=h;exact⟨v,r',rfl,h1.same e,L9.same e h2⟩
abbrev ZO(kvs:List (Option Tr×PD)):List (PD×PD):=kvs.map fun q=>(YJ q.1,q.2)
def Ja(G:Hp)(a:AD):Oc→HO→Prop
 |.lst xs,o=>∃ys,o=.lst ys∧Ae G xs ys
 |.YO kvs,o=>∃r,o=.dT r∧L9 G kvs r
 |.Yi kvs,o=>∃r,o=dN a r∧(r.map (·.1)).Nodup∧Jl G (ZO kvs) r
def Ja.same{G G':Hp}{a:AD}{c:Oc}{o:HO}(h:Ja G a c o)(e:AH G G'):Ja G' a c o:=by
 cases c with
 |Yi kvs=>obtain⟨r,h1,h2,h3⟩:=h;exact⟨r,h1,h2,Jl.same e h3⟩
 |lst xs=>obtain⟨ys,h1,h2⟩:=h;exact⟨ys,h1,h2.same e⟩
 |YO kvs=>obtain⟨ys,h1,h2⟩:=h;exact⟨ys,h1,h2.same e⟩
def Ja.OH{G:Hp}{a:AD}{c:Oc}{xs:List V}(h:Ja G a c (.tup xs)):False:=by
 cases c with
 |Yi kvs=>obtain⟨r,h1,h2,h3⟩:=h;unfold dN at h1;cases h1
 |lst xs=>obtain⟨ys,h1,h2⟩:=h;cases h1
 |YO kvs=>obtain⟨ys,h1,h2⟩:=h;cases h1
def Nw(G0 H0 G:Hp):Prop:=∀a o,G a=some o→G0 a=some o∨H0 a=none∨∃xs,o=HO.tup xs
structure Rw(G0 H0 G H:Hp)(σ:St)(δ:Dv)(ts:List (PyData×V)):Prop where
 ext:AH G0 G
 new:Nw G0 H0 G
 ins:AH G H
 keep:AH H0 H
 len:σ.length=δ.length
 dat:∀(i:Nat) (x:PyData),δ[i]? = some (L.d x)→∃v,σ[i]? = some (some v)∧Du G x v
 own:∀(i:Nat) (xs:Oc),δ[i]? = some (L.own xs)→∃(a:Addr) (ys:HO),σ[i]? = some (some (V.ref a))∧G a=none∧H0 a=none∧H a=some ys∧Ja G a xs ys
 apart:∀(i j:Nat) (xs ys:Oc),i≠j→δ[i]? = some (L.own xs)→δ[j]? = some (L.own ys)→σ[i]?≠σ[j]?
 BW:∀p∈ts,Du G p.1 p.2
def DE(X:Cx)(e:Expr)(f:Dv→Option PD):Prop:=∃t,PE X e t∧∀δ x,f δ=some x→∀G0 H0 G H σ ts (Q:VK),Rw G0 H0 G H σ δ ts→(∀v G' H',Rw G0 H0 G' H' σ δ ((x,v)::ts)→Q v H')→t σ H Q
def DA(X:Cx)(es:List Expr)(f:Dv→Option (List PD)):Prop:=∃t,PA X es t∧∀δ xs,f δ=some xs→∀G0 H0 G H σ ts (Q:List V→Hp→Prop),Rw G0 H0 G H σ δ ts→(∀vs G' H',Rw G0 H0 G' H' σ δ (xs.zip vs++ts)→vs.length=xs.length→Q vs H')→t σ H Q
def DT(X:Cx)(e:Expr)(f:Dv→Option Bool):Prop:=∃t,PT X e t∧∀δ b,f δ=some b→∀G0 H0 G H σ ts (Q:Bool→Hp→Prop),Rw G0 H0 G H σ δ ts→(∀G' H',Rw G0 H0 G' H' σ δ ts→Q b H')→t σ H Q
section
variable{G0 H0 G H:Hp}{σ:St}{δ:Dv}{ts:List (PD×V)}
def Rw.drop{p:PD×V}(r:Rw G0 H0 G H σ δ (p::ts)):Rw G0 H0 G H σ δ ts:={ r with BW:=fun q hq=>r.BW q (.tail _ hq) }
def Rw.less{us:List (PD×V)}(r:Rw G0 H0 G H σ δ ts)(h:∀p∈us,p∈ts):Rw G0 H0 G H σ δ us:={ r with BW:=fun q hq=>r.BW q (h q hq) }
def Rw.put{x:PD}{v:V}(r:Rw G0 H0 G H σ δ ts)(h:Du G x v):Rw G0 H0 G H σ δ ((x,v)::ts):={ r with BW:=fun q hq=>by rcases aL.mp hq with rfl|hq;exact h;exact r.BW q hq }
def Rw.newObj{p:AD}{o:HO}(r:Rw G0 H0 G H σ δ ts)(hp:H p=none):Rw G0 H0 (upd G p o) (upd H p o) σ δ ts:=by
 have hG:G p=none:=by
  cases q:G p with
  |none=>rfl
  |some u=>rw [r.ins _ _ q]at hp;cases hp
 have h0:H0 p=none:=by
  cases q:H0 p with
  |none=>rfl
  |some u=>rw [r.keep _ _ q]at hp;cases hp
 have e:AH G (upd G p o):=AU hG o;refine⟨r.ext.trans e,fun a u h=>?_,fun a u h=>?_,r.keep.trans (AU hp o),r.len,fun i x h=>?_,fun i xs h=>?_,r.apart,fun q hq=>(r.BW q hq).same e⟩
 ·by_cases ha:a=p
  ·subst ha;exact .inr (.inl h0)
  ·rw [AG ha]at h;exact r.new _ _ h
 ·by_cases ha:a=p
  ·subst ha;rw [AJ]at h ⊢;exact h
  ·rw [AG ha]at h ⊢;exact r.ins _ _ h
 ·obtain⟨v,k1,k2⟩:=r.dat i x h;exact⟨v,k1,k2.same e⟩
 ·obtain⟨a,ys,k1,k2,k3,k4,k5⟩:=r.own i xs h;have ha:a≠p:=fun z=>by subst z;rw [k4]at hp;cases hp
  exact⟨a,ys,k1,by rw [AG ha];exact k2,k3,by rw [AG ha];exact k4,k5.same e⟩
def Rw.XC{p:AD}{xs:List V}{H':Hp}(r:Rw G0 H0 G H σ δ ts)(e:AH H H')(hp:H' p=some (.tup xs)):Rw G0 H0 (upd G p (.tup xs)) H' σ δ ts:=by
 have e1:AH G (upd G p (.tup xs)):=fun a o h=>by
  by_cases ha:a=p
  ·subst ha;have:=e _ _ (r.ins _ _ h);rw [hp]at this;rw [AJ];exact this
  ·rw [AG ha];exact h
 refine⟨r.ext.trans e1,fun a u h=>?_,fun a u h=>?_,r.keep.trans e,r.len,fun i x h=>?_,fun i xs h=>?_,r.apart,fun q hq=>(r.BW q hq).same e1⟩
 ·by_cases ha:a=p
  ·subst ha;rw [AJ]at h;cases h;exact .inr (.inr ⟨_,rfl⟩)
  ·rw [AG ha]at h;exact r.new _ _ h
 ·by_cases ha:a=p
  ·subst ha;rw [AJ]at h;rw [hp];exact h
  ·rw [AG ha]at h;exact e _ _ (r.ins _ _ h)
 ·obtain⟨v,k1,k2⟩:=r.dat i x h;exact⟨v,k1,k2.same e1⟩
 ·obtain⟨a,ys,k1,k2,k3,k4,k5⟩:=r.own i xs h;have ha:a≠p:=fun z=>by subst z;rw [e _ _ k4]at hp;cases hp;exact k5.OH
  exact⟨a,ys,k1,by rw [AG ha];exact k2,k3,e _ _ k4,k5.same e1⟩
def Rw.lift{G' H':Hp}(r:Rw G0 H0 G H σ δ ts)(h1:AH G G')(h2:Nw G H G')(h3:AH G' H')(h4:AH H H'):Rw G0 H0 G' H' σ δ ts:=by
 refine⟨r.ext.trans h1,fun a o h=>?_,h3,r.keep.trans h4,r.len,fun i x h=>?_,fun i xs h=>?_,r.apart,fun q hq=>(r.BW q hq).same h1⟩
 ·rcases h2 a o h with k|k|k
  ·exact r.new a o k
  ·right;left
   cases q:H0 a with
   |none=>rfl
   |some u=>rw [r.keep _ _ q]at k;cases k
  ·exact .inr (.inr k)
 ·obtain⟨v,k1,k2⟩:=r.dat i x h;exact⟨v,k1,k2.same h1⟩
 ·obtain⟨a,ys,k1,k2,k3,k4,k5⟩:=r.own i xs h;refine⟨a,ys,k1,?_,k3,h4 _ _ k4,k5.same h1⟩;cases q:G' a with
  |none=>rfl
  |some u =>
   rcases h2 a u q with z|z|⟨xs',z⟩
   ·rw [k2]at z;cases z
   ·rw [k4]at z;cases z
   ·have:=h3 _ _ q;rw [h4 _ _ k4,z]at this;cases this;exact k5.OH.elim
end
section
variable{X:Cx}{a b c e:Expr}{es:List Expr}{f g h:Dv→Option PD}{pos:Pos}
def AI{i j pos}:DE X (.Constant (.int i) j pos) (fun _=>some (.int i)):=⟨_,AN,fun δ x h G0 H0 G H σ ts Q r k=>by cases h;exact k _ _ _ (r.put (by rw [Du]))⟩
def ZV{i j pos}:DE X (.Constant (.bool i) j pos) (fun _=>some (.bool i)):=⟨_,DC,fun δ x h G0 H0 G H σ ts Q r k=>by cases h;exact k _ _ _ (r.put (by rw [Du]))⟩
def nm(i:Nat)(δ:Dv):Option PD:=match δ[i]? with|some (.d x)=>some x|_=>none
def Zf{i:Nat}{δ:Dv}{x:PD}(h:nm i δ=some x):δ[i]? = some (.d x):=by
 unfold nm at h;split at h
 ·rename_i y e;cases h;exact e
 ·cases h
def AL{i:Nat}{x:Str}(h:PE X (.Name x pos) (Om i)):DE X (.Name x pos) (nm i):=⟨_,h,fun δ y hy G0 H0 G H σ ts Q r k=>by
 obtain⟨v,h1,h2⟩:=r.dat _ _ (Zf hy);exact⟨v,h1,k _ _ _ (r.put h2)⟩⟩
def Ai(o:PD→PD→Option PD)(f g:Dv→Option PD)(δ:Dv):Option PD:=(f δ).bind fun x=>(g δ).bind fun y=>o x y
def Co(X:Cx)(m:VL→VL→Sem VL)(o:PD→PD→Option PD):Prop:=∃r:R2,Bm X m r∧∀x y z,o x y=some z→∀G0 H0 G H σ δ ts u v (Q:VK),Rw G0 H0 G H σ δ ts→Du G x u→Du G y v→(∀w G' H',Rw G0 H0 G' H' σ δ ((z,w)::ts)→Q w H')→r u v H Q
def two{x y:PD}{f g:Dv→Option PD}{δ:Dv}{o:PD→PD→Option PD}{z:PD}(h:Ai o f g δ=some z):∃x y,f δ=some x∧g δ=some y∧o x y=some z:=by
 unfold Ai at h;obtain⟨x,h1,h2⟩:=aB.mp h;obtain⟨y,h3,h4⟩:=aB.mp h2;exact⟨x,y,h1,h3,h4⟩
def A0{op:Operator}{o:PD→PD→Option PD}(ho:Co X (binaryOp op) o)(ha:DE X a f)(hb:DE X b g):DE X (.BinOp a op b pos) (Ai o f g):=by
 obtain⟨r,hr,kr⟩:=ho;obtain⟨ta,pa,ka⟩:=ha;obtain⟨tb,pb,kb⟩:=hb;refine⟨_,Au hr pa pb,fun δ z hz G0 H0 G H σ ts Q R0 k=>?_⟩;obtain⟨x,y,h1,h2,h3⟩:=two (x:=.none) (y:=.none) hz;refine ka δ x h1 G0 H0 G H σ ts _ R0 fun u G1 H1 R1=>?_;refine kb δ y h2 G0 H0 G1 H1 σ _ _ R1 fun v G2 H2 R2=>?_;exact kr x y z h3 G0 H0 G2 H2 σ δ ts u v Q (R2.drop.drop) (R2.BW (x,u) (.tail _ (.head _))) (R2.BW (y,v) (.head _)) k
def W5{op:CmpOp}{o:PD→PD→Option PD}(ho:Co X (compareOp op) o)(ha:DE X a f)(hb:DE X b g)(hm:behindInMarks op b=false):DE X (.Compare a [op] [b] pos) (Ai o f g):=by
 obtain⟨r,hr,kr⟩:=ho;obtain⟨ta,pa,ka⟩:=ha;obtain⟨tb,pb,kb⟩:=hb;refine⟨_,HX hr pa pb hm,fun δ z hz G0 H0 G H σ ts Q R0 k=>?_⟩;obtain⟨x,y,h1,h2,h3⟩:=two (x:=.none) (y:=.none) hz;refine ka δ x h1 G0 H0 G H σ ts _ R0 fun u G1 H1 R1=>?_;refine kb δ y h2 G0 H0 G1 H1 σ _ _ R1 fun v G2 H2 R2=>?_;exact kr x y z h3 G0 H0 G2 H2 σ δ ts u v Q (R2.drop.drop) (R2.BW (x,u) (.tail _ (.head _))) (R2.BW (y,v) (.head _)) k
end
section
variable{X:Cx}
def NG(o o':PD→PD→Option PD)(x y:PD):Option PD:=match o x y with|some z=>some z|none=>o' x y
def Co.or{m:VL→VL→Sem VL}{o o':PD→PD→Option PD}(h:Co X m o)(h':Co X m o'):Co X m (NG o o'):=by
 obtain⟨r,hr,kr⟩:=h;obtain⟨r',hr',kr'⟩:=h';refine⟨_,Bm.or hr hr',fun x y z hz G0 H0 G H σ δ ts u v Q R0 du dv k=>?_⟩;unfold NG at hz;split at hz
 ·rename_i z' e;cases hz;exact .inl (kr x y z e G0 H0 G H σ δ ts u v Q R0 du dv k)
 ·exact .inr (kr' x y z hz G0 H0 G H σ δ ts u v Q R0 du dv k)
def J2{m:VL→VL→Sem VL}{C:Int→Int→Prop}{gv:Int→Int→V}{o:Int→Int→Option PD}(ho:Bm X m (rI C gv))(hC:∀i j z,o i j=some z→C i j∧∀H,Du H z (gv i j)) :
  Co X m (fun x y=>match x,y with|.int i,.int j=>o i j|_,_=>none):=by
 refine⟨_,ho,fun x y z hz G0 H0 G H σ δ ts u v Q R0 du dv k=>?_⟩;dsimp only at hz;split at hz
 ·rename_i i j;rw [Du]at du dv;obtain⟨h1,h2⟩:=hC i j z hz;exact⟨i,j,du,dv,h1,k _ _ _ (R0.put (h2 _))⟩
 ·cases hz
def Hs{m:VL→VL→Sem VL}{gv:Int→Int→V}{o:Int→Int→PD}(ho:Bm X m (Mp gv))(hC:∀i j H,Du H (o i j) (gv i j)) :
  Co X m (fun x y=>match x,y with|.int i,.int j=>some (o i j)|_,_=>none):=by
 refine⟨_,ho,fun x y z hz G0 H0 G H σ δ ts u v Q R0 du dv k=>?_⟩;dsimp only at hz;split at hz
 ·rename_i i j;cases hz;rw [Du]at du dv;exact⟨i,j,du,dv,k _ _ _ (R0.put (hC _ _ _))⟩
 ·cases hz
def Ec:Nat:=1000
def Qb{n:Nat}(h:n≤Ec):n<sizeLine:=NS h
def EV{n:Nat}(h:n≤Ec):n≤sizeLine:=bE (NS h)
def Yo:PD→PD→Option PD:=fun x y=>match x,y with|.int i,.int j=>some (.int (i+j))|_,_=>none
def YW:PD→PD→Option PD:=fun x y=>match x,y with|.int i,.int j=>some (.int (i-j))|_,_=>none
def Fm(n:Nat)(i:Int):Bool:=decide (i.natAbs<2^n)
def Jv(i j:Int):Bool:=Fm 64 i||Fm 64 j||(Fm 9000 i&&Fm 9000 j)
def RO:PD→PD→Option PD:=fun x y=>match x,y with|.int i,.int j=>(if Jv i j=true then some (.int (i*j)) else none)|_,_=>none
def Qy:PD→PD→Option PD:=fun x y=>match x,y with|.int i,.int j=>(if j≠0∧Fm 9000 j=true then some (.int (i.fdiv j)) else none)|_,_=>none
def FL:PD→PD→Option PD:=fun x y=>match x,y with|.int i,.int j=>(if j≠0 then some (.int (i.fmod j)) else none)|_,_=>none
def JT:PD→PD→Option PD:=fun x y=>match x,y with|.int i,.int j=>(if 0≤j∧j≤1000∧Fm 64 i=true then some (.int (i^j.toNat)) else none)|_,_=>none
def Vu:Co X (binaryOp .Add) Yo:=Hs JX fun _ _ _=>by rw [Du]
def WQ:Co X (binaryOp .Sub) YW:=Hs JK fun _ _ _=>by rw [Du]
def Ve{i:Int}(h:Fm 64 i=true):-(2^64)<i∧i<2^64:=by
 have:=aa h;omega
def Wa:Co X (binaryOp .Mult) RO:=J2 (o:=fun i j=>if Jv i j=true then some (.int (i*j)) else none) FE fun i j z h=>by
 split at h
 ·rename_i q;cases h;refine⟨?_,fun _=>by rw [Du]⟩;unfold Jv at q;rw [Bool.or_eq_true,Bool.or_eq_true,Bool.and_eq_true]at q;rcases q with (q|q)|q
  ·exact .inl (.inl (Ve q))
  ·exact .inl (.inr (Ve q))
  ·exact .inr ⟨9000,by decide,of_decide_eq_true q.1,of_decide_eq_true q.2⟩
 ·cases h
def Vv:Co X (binaryOp .FloorDiv) Qy:=J2 (o:=fun i j=>if j≠0∧Fm 9000 j=true then some (.int (i.fdiv j)) else none) EF fun i j z h=>by
 split at h
 ·rename_i q;cases h;exact⟨⟨q.1,9000,Nat.le_refl _,of_decide_eq_true q.2⟩,fun _=>by rw [Du]⟩
 ·cases h
def De:Co X (binaryOp .Mod) FL:=J2 (o:=fun i j=>if j≠0 then some (.int (i.fmod j)) else none) HV fun i j z h=>by
 split at h
 ·rename_i q;cases h;exact⟨q,fun _=>by rw [Du]⟩
 ·cases h
def MA:Co X (binaryOp .Pow) JT:=J2 (o:=fun i j=>if 0≤j∧j≤1000∧Fm 64 i=true then some (.int (i^j.toNat)) else none) YE fun i j z h=>by
 split at h
 ·rename_i q;cases h;exact⟨⟨q.1,by omega,of_decide_eq_true q.2.2⟩,fun _=>by rw [Du]⟩
 ·cases h
def IA(p:Int→Int→Bool):PD→PD→Option PD:=fun x y=>match x,y with|.int i,.int j=>some (.bool (p i j))|_,_=>none
def VZ:Co X (compareOp .Lt) (IA fun i j=>decide (i<j)):=Hs (o:=fun i j=>.bool (decide (i<j))) Nj fun _ _ _=>by rw [Du]
def ZP:Co X (compareOp .GtE) (IA fun i j=>decide (j≤i)):=Hs (o:=fun i j=>.bool (decide (j≤i))) VC fun _ _ _=>by rw [Du]
def T9:PD→PD→Option PD:=fun x y=>match x,y with|.list a,.list b=>(if a.length+b.length≤Ec then some (.list (a++b)) else none)|_,_=>none
def Wh:Co X (binaryOp .Add) T9:=by
 refine⟨_,OP,fun x y z hz G0 H0 G H σ δ ts u v Q R0 du dv k=>?_⟩;unfold T9 at hz;split at hz
 ·rename_i a b;split at hz
  ·rename_i hl;cases hz;rw [Du]at du dv;obtain⟨p,xs,rfl,h1,h2⟩:=du;obtain⟨q,ys,rfl,h3,h4⟩:=dv;refine⟨p,q,xs,ys,rfl,rfl,R0.ins _ _ h1,R0.ins _ _ h3,EV (by rw [h2.len,h4.len];exact hl),fun l hl'=>?_⟩;have R1:=R0.newObj (o:=.lst (xs++ys)) hl';refine k _ _ _ (R1.put ?_);rw [Du];have e:AH G (upd G l (.lst (xs++ys))):=fun a o h=>by
    have:=R0.ins _ _ h;rw [AG (AO this hl')];exact h
   exact⟨l,xs++ys,rfl,AJ,(h2.same e).app (h4.same e)⟩
  ·cases hz
 ·cases hz
def RQ:PD→PD→Option PD:=fun x y=>match x,y with|.tuple a,.tuple b=>(if a.length+b.length≤Ec then some (.tuple (a++b)) else none)|_,_=>none
def Vk:Co X (binaryOp .Add) RQ:=by
 refine⟨_,WB,fun x y z hz G0 H0 G H σ δ ts u v Q R0 du dv k=>?_⟩;unfold RQ at hz;split at hz
 ·rename_i a b;split at hz
  ·rename_i hl;cases hz;rw [Du]at du dv;obtain⟨p,xs,rfl,h1,h2⟩:=du;obtain⟨q,ys,rfl,h3,h4⟩:=dv;refine⟨p,q,xs,ys,rfl,rfl,R0.ins _ _ h1,R0.ins _ _ h3,EV (by rw [h2.len,h4.len];exact hl),fun l H' e hp=>?_⟩;have R1:=R0.XC e hp;refine k _ _ _ (R1.put ?_);rw [Du];have e1:AH G (upd G l (.tup (xs++ys))):=fun a o h=>by
    by_cases ha:a=l
    ·subst ha;have:=e _ _ (R0.ins _ _ h);rw [hp]at this;rw [AJ];exact this
    ·rw [AG ha];exact h
   exact⟨l,xs++ys,rfl,AJ,(h2.same e1).app (h4.same e1)⟩
  ·cases hz
 ·cases hz
def VA:PD→PD→Option PD:=fun x y=>match x,y with|.str a,.str b=>(if a.length+b.length≤Ec then some (.str (a++b)) else none)|_,_=>none
def V9:Co X (binaryOp .Add) VA:=by
 refine⟨_,Qx,fun x y z hz G0 H0 G H σ δ ts u v Q R0 du dv k=>?_⟩;unfold VA at hz;split at hz
 ·rename_i a b;split at hz
  ·rename_i hl;cases hz;rw [Du]at du dv;exact⟨a,b,du,dv,EV hl,k _ _ _ (R0.put (by rw [Du]))⟩
  ·cases hz
 ·cases hz
def ED:PD→PD→Option PD:=NG Yo (NG T9 (NG RQ VA))
def CP:Co X (binaryOp .Add) ED:=Vu.or (Wh.or (Vk.or V9))
def RM:PD→PD→Option PD:=fun x y=>match x,y with|.list a,.int k=>(if a.length*k.toNat≤Ec∧-1000000≤k∧k≤1000000 then some (.list (List.replicate k.toNat a).flatten) else none)|_,_=>none
def Ae.rep{H:Hp}{ds:List PD}{xs:List V}(h:Ae H ds xs):∀n,Ae H (List.replicate n ds).flatten (List.replicate n xs).flatten
 |0=>.nil
 |n+1=>by rw [List.replicate_succ,List.replicate_succ,List.flatten_cons,List.flatten_cons];exact h.app (h.rep n)
def Wd:Co X (binaryOp .Mult) RM:=by
 refine⟨_,TV,fun x y z hz G0 H0 G H σ δ ts u v Q R0 du dv k=>?_⟩;unfold RM at hz;split at hz
 ·rename_i a n;split at hz
  ·rename_i hl;cases hz;rw [Du]at du;rw [Du]at dv;obtain⟨p,xs,rfl,h1,h2⟩:=du;subst dv;refine⟨p,n,xs,rfl,rfl,R0.ins _ _ h1,by omega,by omega,EV (by rw [h2.len];exact hl.1),fun l hl'=>?_⟩;have R1:=R0.newObj (o:=.lst (List.replicate n.toNat xs).flatten) hl';refine k _ _ _ (R1.put ?_);rw [Du];have e:AH G (upd G l (.lst (List.replicate n.toNat xs).flatten)):=fun a o h=>by
    have:=R0.ins _ _ h;rw [AG (AO this hl')];exact h
   exact⟨l,_,rfl,AJ,(h2.same e).rep _⟩
  ·cases hz
 ·cases hz
def EL:PD→PD→Option PD:=NG RO RM
def DP:Co X (binaryOp .Mult) EL:=Wa.or Wd
def ND{d:PD}(h:SeqAt.shaped d=true):d.canLay0=true:=by unfold SeqAt.shaped at h;rw [Bool.and_eq_true]at h;exact h.1
def FV(neg:Bool):PD→PD→Option PD:=fun x y=>if SeqAt.shaped x=true∧SeqAt.shaped y=true then some (.bool (if neg then !PyData.eqv x y else PyData.eqv x y)) else none
def Rt{m:VL→VL→Sem VL}{neg:Bool}(ho:Bm X m (UM X.K neg)):Co X m (FV neg):=by
 refine⟨_,ho,fun x y z hz G0 H0 G H σ δ ts u v Q R0 du dv k=>?_⟩;unfold FV at hz;split at hz
 ·rename_i hs;cases hz;exact⟨x,y,(du.same R0.ins).br (ND hs.1),(dv.same R0.ins).br (ND hs.2),hs.1,hs.2,k _ _ _ (R0.put (by rw [Du]))⟩
 ·cases hz
def LK(hu:X.A.units+64<cLine):Co X (compareOp .Eq) (FV false):=Rt (R8 hu)
def VJ(hu:X.A.units+64<cLine):Co X (compareOp .NotEq) (FV true):=Rt (OL hu)
end
section
variable{X:Cx}{a b c e:Expr}{es:List Expr}{f g h:Dv→Option PD}{pos p:Pos}
def PK:PD→Option Bool
 |.bool b=>some b
 |_=>none
def Mw:PD→Option Int
 |.int b=>some b
 |_=>none
def TU{x:PD}{b:Bool}(h:PK x=some b):x=.bool b:=by
 unfold PK at h;split at h
 ·cases h;rfl
 ·cases h
def Oe{x:PD}{b:Int}(h:Mw x=some b):x=.int b:=by
 unfold Mw at h;split at h
 ·cases h;rfl
 ·cases h
def Xs(ha:DE X a f):DE X (.UnaryOp .USub a pos) (fun δ=>(f δ).bind fun x=>(Mw x).map fun i=>.int (-i)):=by
 obtain⟨ta,pa,ka⟩:=ha;refine⟨_,RB Og pa,fun δ z hz G0 H0 G H σ ts Q R0 k=>?_⟩;obtain⟨x,h1,h2⟩:=aB.mp hz;obtain⟨i,h3,rfl⟩:=aJ.mp h2;have:=Oe h3;subst this;refine ka δ _ h1 G0 H0 G H σ ts _ R0 fun u G1 H1 R1=>?_;have:=R1.BW _ (.head _);rw [Du]at this;exact⟨i,this,k _ _ _ (R1.drop.put (by rw [Du]))⟩
variable{fa fb:Dv→Option Bool}
def DW(X:Cx)(e:Expr)(f:Dv→Option Bool):Prop:=∃t,PW X e t∧∀δ b,f δ=some b→∀G0 H0 G H σ ts (Q:Bool→Hp→Prop),Rw G0 H0 G H σ δ ts→(∀G' H',Rw G0 H0 G' H' σ δ ts→Q b H')→t σ H Q
def DW.dt(h:DW X e fa):DT X e fa:=let⟨t,p,k⟩:=h;⟨t,p.pt,k⟩
def Eb{op:CmpOp}{o:PD→PD→Option PD}(ho:Co X (compareOp op) o)(ha:DE X a f)(hb:DE X b g)(hm:behindInMarks op b=false):DT X (.Compare a [op] [b] pos) (fun δ=>(Ai o f g δ).bind PK):=by
 obtain⟨r,hr,kr⟩:=ho;obtain⟨ta,pa,ka⟩:=ha;obtain⟨tb,pb,kb⟩:=hb;refine⟨_,A9 hr pa pb hm,fun δ z hz G0 H0 G H σ ts Q R0 k=>?_⟩;obtain⟨q,h0,h4⟩:=aB.mp hz;have:=TU h4;subst this;obtain⟨x,y,h1,h2,h3⟩:=two (x:=.none) (y:=.none) h0;refine ka δ x h1 G0 H0 G H σ ts _ R0 fun u G1 H1 R1=>?_;refine kb δ y h2 G0 H0 G1 H1 σ _ _ R1 fun v G2 H2 R2=>?_;refine kr x y _ h3 G0 H0 G2 H2 σ δ ts u v _ (R2.drop.drop) (R2.BW (x,u) (.tail _ (.head _))) (R2.BW (y,v) (.head _)) fun w G3 H3 R3=>?_;have hu:=R3.BW _ (.head _);rw [Du]at hu;exact⟨z,hu,k _ _ R3.drop⟩
def OM(ha : DE X e f)(he : ∀ whole,isTrue e X.env whole = (do let v ← whole; standAt e.pos; holding [v] (truthy v)) := by intro _; rfl) : DT X e (fun δ => (f δ).bind PK) := by
  obtain ⟨ta,pa,ka⟩:=ha
  refine ⟨_,CM pa he,fun δ z hz G0 H0 G H σ ts Q R0 k => ?_⟩
  obtain ⟨q,h0,h4⟩:=aB.mp hz
  have:=TU h4; subst this
  refine ka δ _ h0 G0 H0 G H σ ts _ R0 fun u G1 H1 R1 => ?_
  have hu:=R1.BW _ (.head _)
  rw [Du] at hu
  exact ⟨z,hu,k _ _ R1.drop⟩
def Sn(ha:DT X a fa):DT X (.UnaryOp .Not a pos) (fun δ=>(fa δ).map fun c=>!c):=by
 obtain⟨ta,pa,ka⟩:=ha;refine⟨_,CK pa,fun δ z hz G0 H0 G H σ ts Q R0 k=>?_⟩;obtain⟨i,h3,rfl⟩:=aJ.mp hz;exact ka δ _ h3 G0 H0 G H σ ts _ R0 fun G1 H1 R1=>k _ _ R1
def Th{op:BoolOp}(ha:DT X a fa):DW X (.BoolOp op [a] pos) fa:=by
 obtain⟨ta,pa,ka⟩:=ha;cases op
 ·exact⟨_,MQ pa,ka⟩
 ·exact⟨_,Fh pa,ka⟩
def VD{rest:List Expr}(ha:DT X a fa)(hb:DW X (.BoolOp .Or (b::rest) pos) fb):DW X (.BoolOp .Or (a::b::rest) pos) (fun δ=>(fa δ).bind fun c=>if c=true then some true else fb δ):=by
 obtain⟨ta,pa,ka⟩:=ha;obtain⟨tb,pb,kb⟩:=hb;refine⟨_,FR pa pb,fun δ z hz G0 H0 G H σ ts Q R0 k=>?_⟩;obtain⟨i,h3,h4⟩:=aB.mp hz;refine ka δ _ h3 G0 H0 G H σ ts _ R0 fun G1 H1 R1=>?_;split
 ·rename_i hc;rw [if_pos hc]at h4;cases h4;exact k _ _ R1
 ·rename_i hc;rw [if_neg hc]at h4;exact kb δ z h4 G0 H0 G1 H1 σ ts Q R1 k
variable{fs:Dv→Option (List PD)}
def AK:DA X [] (fun _=>some []):=⟨_,AF,fun δ xs h G0 H0 G H σ ts Q R0 k=>by cases h;exact k [] G H (by simpa using R0) rfl⟩
def AA(ha:DE X e f)(hr:DA X es fs)(hs:starEach (e::es) X.env=(false,eval e X.env)::starEach es X.env:=by rfl):DA X (e::es) (fun δ=>(f δ).bind fun x=>(fs δ).map fun xs=>x::xs):=by
 obtain⟨ta,pa,ka⟩:=ha;obtain⟨tr,pr,kr⟩:=hr;refine⟨_,AB pa pr hs,fun δ z hz G0 H0 G H σ ts Q R0 k=>?_⟩;obtain⟨x,h1,h2⟩:=aB.mp hz;obtain⟨xs,h3,rfl⟩:=aJ.mp h2;refine ka δ x h1 G0 H0 G H σ ts _ R0 fun u G1 H1 R1=>?_;refine kr δ xs h3 G0 H0 G1 H1 σ _ _ R1 fun vs G2 H2 R2 hl=>?_;refine k (u::vs) G2 H2 (R2.less fun q hq=>?_) (by simp [hl]);simp only [List.zip_cons_cons,List.cons_append,List.mem_cons,List.mem_append]at hq ⊢;rcases hq with h|h|h
 ·exact .inr (.inl h)
 ·exact .inl h
 ·exact .inr (.inr h)
def Ti{G:Hp}:∀ {xs:List PD} {vs:List V},vs.length=xs.length→(∀q∈xs.zip vs,Du G q.1 q.2)→Ae G xs vs
 |[],vs,hl,_=>by rw [List.eq_nil_of_length_eq_zero hl];exact .nil
 |x::xs,[],hl,_=>by simp at hl
 |x::xs,v::vs,hl,h=>.cons (h (x,v) (by simp)) (Ti (by simpa using hl) fun q hq=>h q (by simp [hq]))
def Rw.args{G0 H0 G H:Hp}{σ:St}{δ:Dv}{ts:List (PD×V)}{xs:List PD}{vs:List V}(r:Rw G0 H0 G H σ δ (xs.zip vs++ts))(hl:vs.length=xs.length):Ae G xs vs∧Rw G0 H0 G H σ δ ts :=
 ⟨Ti hl fun q hq=>r.BW q (List.mem_append_left _ hq),r.less fun q hq=>aS _ hq⟩
def Rw.PX{G0 H0 G H:Hp}{σ:St}{δ:Dv}{ts:List (PD×V)}{xs:List PD}{vs:List V}{p:AD}(r:Rw G0 H0 G H σ δ ts)(d:Ae G xs vs)(hp:H p=none):Rw G0 H0 (upd G p (.lst vs)) (upd H p (.lst vs)) σ δ ((.list xs,.ref p)::ts):=by
 refine(r.newObj hp).put ?_;have e:AH G (upd G p (.lst vs)):=fun a o h=>by rw [AG (AO (r.ins _ _ h) hp)];exact h
 rw [Du];exact⟨p,vs,rfl,AJ,d.same e⟩
def Rw.U6{G0 H0 G H:Hp}{σ:St}{δ:Dv}{ts:List (PD×V)}{xs:List PD}{vs:List V}{p:AD}(r:Rw G0 H0 G H σ δ ts)(d:Ae G xs vs)(hp:H p=none):Rw G0 H0 (upd G p (.tup vs)) (upd H p (.tup vs)) σ δ ((.tuple xs,.ref p)::ts):=by
 refine(r.newObj hp).put ?_;have e:AH G (upd G p (.tup vs)):=fun a o h=>by rw [AG (AO (r.ins _ _ h) hp)];exact h
 rw [Du];exact⟨p,vs,rfl,AJ,d.same e⟩
def Lj(xs:List PD):Option (List PD):=if xs.length≤Ec then some xs else none
def LL{xs ys:List PD}(h:Lj xs=some ys):xs=ys∧xs.length≤Ec:=by
 unfold Lj at h;split at h
 ·rename_i q;cases h;exact⟨rfl,q⟩
 ·cases h
def Ap{x1}(ha:DA X es fs):DE X (.Tuple es x1 pos) (fun δ=>((fs δ).bind Lj).map .tuple):=by
 obtain⟨ta,pa,ka⟩:=ha;refine⟨_,DV pa,fun δ z hz G0 H0 G H σ ts Q R0 k=>?_⟩;obtain⟨ys,h1,rfl⟩:=aJ.mp hz;obtain⟨xs,h2,h3⟩:=aB.mp h1;obtain⟨rfl,hl⟩:=LL h3;refine ka δ _ h2 G0 H0 G H σ ts _ R0 fun vs G1 H1 R1 hv=>?_;obtain⟨d,R2⟩:=R1.args hv;exact⟨EV (by rw [hv];exact hl),fun q hq=>k _ _ _ (R2.U6 d hq)⟩
def BC(ha:DA X es fs):DE X (.List es pos) (fun δ=>((fs δ).bind Lj).map .list):=by
 obtain⟨ta,pa,ka⟩:=ha;refine⟨_,Cd pa,fun δ z hz G0 H0 G H σ ts Q R0 k=>?_⟩;obtain⟨ys,h1,rfl⟩:=aJ.mp hz;obtain⟨xs,h2,h3⟩:=aB.mp h1;obtain⟨rfl,hl⟩:=LL h3;refine ka δ _ h2 G0 H0 G H σ ts _ R0 fun vs G1 H1 R1 hv=>?_;obtain⟨d,R2⟩:=R1.args hv;exact⟨EV (by rw [hv];exact hl),fun q hq=>k _ _ _ (R2.PX d hq)⟩
def Ae.C2{H:Hp}{ds:List PD}{xs:List V}{i:Int}{d:PD}(h:Ae H ds xs)(e:C2 ds i=some d):∃v,C2 xs i=some v∧Du H d v:=by
 unfold L2.C2 at e ⊢;rw [h.len];obtain⟨j,h1,h2⟩:=aB.mp e;obtain⟨v,h3,h4⟩:=h.get h2;exact⟨v,by rw [h1];exact h3,h4⟩
def Ms{G:Hp}:∀ns:List Int,Ae G (ns.map .int) (ns.map V.int)
 |[]=>.nil
 |n::ns=>.cons (by rw [Du]) (Ms ns)
def DX:PD→PD→Option PD:=fun x y=>match x,y with
 |.list xs,.int i=>C2 xs i
 |.tuple xs,.int i=>C2 xs i
 |.dict [(.none,.list xs)],.int i=>C2 xs i
 |.str z,.int i=>if z.length≤Ec then(C2 z.cps.toList i).map fun c=>.str ⟨#[c]⟩ else none
 |_,_=>none
def B4(ha:DE X a f)(hb:DE X b g)(hs:L5 b):DE X (.Subscript a b pos) (Ai DX f g):=by
 obtain⟨ta,pa,ka⟩:=ha;obtain⟨tb,pb,kb⟩:=hb;refine⟨_,BM Y5 pa pb hs,fun δ z hz G0 H0 G H σ ts Q R0 k=>?_⟩;obtain⟨x,y,h1,h2,h3⟩:=two (x:=.none) (y:=.none) hz;refine ka δ x h1 G0 H0 G H σ ts _ R0 fun u G1 H1 R1=>?_;refine kb δ y h2 G0 H0 G1 H1 σ _ _ R1 fun v G2 H2 R2=>?_;have du:=R2.BW (x,u) (.tail _ (.head _));have dv:=R2.BW (y,v) (.head _);unfold DX at h3;split at h3
 ·rw [Du]at du;rw [Du]at dv;obtain⟨p,xs,rfl,h4,h5⟩:=du;obtain⟨w,h6,h7⟩:=h5.C2 h3;exact .inl ⟨p,xs,_,w,rfl,dv,AZ.of (R2.ins _ _ h4),h6,k _ _ _ (R2.drop.drop.put h7)⟩
 ·rw [Du]at du;rw [Du]at dv;obtain⟨p,xs,rfl,h4,h5⟩:=du;obtain⟨w,h6,h7⟩:=h5.C2 h3;exact .inr (.inl ⟨p,xs,_,w,rfl,dv,Ag.of (R2.ins _ _ h4),h6,k _ _ _ (R2.drop.drop.put h7)⟩)
 ·rw [Du]at du;rw [Du]at dv;rcases du with ⟨ea,C,e1,_⟩|⟨p,ns,e1,rfl,h4⟩|z
  rotate_left 2
  ·rw [LO]at z;cases z.1
  ·simp at e1
  ·obtain rfl:_=ns.map PyData.int:=by simpa using e1
   obtain⟨w,h6,h7⟩:=(Ms (G:=_) ns).C2 h3;exact .inl ⟨p,_,_,w,rfl,dv,.inl (h4.same R2.ins),h6,k _ _ _ (R2.drop.drop.put h7)⟩
 ·rw [Du]at du;rw [Du]at dv;split at h3
  ·rename_i hl;obtain⟨ch,h6,rfl⟩:=aJ.mp h3;exact .inr (.inr ⟨_,_,ch,du,dv,EV hl,h6,k _ _ _ (R2.drop.drop.put (by rw [Du]))⟩)
  ·cases h3
 ·cases h3
end
def CF(g:MD):Sp:=fun vs H Q _=>∃ds x G,g ds=some x∧Ae G ds vs∧AH G H∧∀v G' H',AH G G'→Nw G H G'→AH G' H'→AH H H'→Du G' x v→Q v H'
section
variable{X:Cx}{a b c e:Expr}{es:List Expr}{f g h:Dv→Option PD}{fs:Dv→Option (List PD)}{pos p:Pos}
def CA{k:Nat}{fA:AD}{fd:FuncData}{ps:List Str}{m:MD}{x:Str}{st:Stmt}(T:Fn X.K X.mg x st ps fA fd)(F:AV X.prog X.w X.K X.mg X.base Ad k fA fd ps (CF m))(hr:Cn k X.A)(hg:Gl X x)(ha:DA X (e::es) fs)
 (hdb:(x==("__debug__" : Str))=false:=by decide)(he:starEach (e::es) X.env=(false,eval e X.env)::starEach es X.env:=by rfl)(hpl:(backTo pos (starEach es X.env)).any (·.1)=false:=by rfl) :
  DE X (.Call (.Name x p) (e::es) [] pos) (fun δ=>(fs δ).bind m):=by
 obtain⟨ta,pa,ka⟩:=ha;refine⟨_,Av T F hr hg pa hdb he hpl,fun δ z hz G0 H0 G H σ ts Q R0 k=>?_⟩;obtain⟨xs,h1,h2⟩:=aB.mp hz;refine ka δ _ h1 G0 H0 G H σ ts _ R0 fun vs G1 H1 R1 hv=>?_;obtain⟨d,R2⟩:=R1.args hv;refine⟨xs,z,G1,h2,by rw [List.append_nil];exact d,R2.ins,fun v G' H' h3 h4 h5 h6 h7=>?_⟩;exact k _ _ _ ((R2.lift h3 h4 h5 h6).put h7)
def LH(X:Cx)(v:VL)(o:MD):Prop:=∃r,Df X v r∧∀xs z,o xs=some z→∀G0 H0 G H σ δ ts us (Q:VK),Rw G0 H0 G H σ δ ts→Ae G xs us→(∀w G' H',Rw G0 H0 G' H' σ δ ((z,w)::ts)→Q w H')→r us H Q
def CS{x:Str}{id:String}{o:MD}(hc:LH X (.builtin id) o)(hg:Gl X x)(hm:X.mg x=none)(hv:bootBuiltins x=some (.builtin id))(ha:DA X (e::es) fs)(hn:x ≠ "__name__" := by decide)(hdb:(x==("__debug__" : Str))=false:=by decide)
 (he:starEach (e::es) X.env=(false,eval e X.env)::starEach es X.env:=by rfl)(hpl:(backTo pos (starEach es X.env)).any (·.1)=false:=by rfl):DE X (.Call (.Name x p) (e::es) [] pos) (fun δ=>(fs δ).bind o):=by
 obtain⟨r,hr,kr⟩:=hc;obtain⟨ta,pa,ka⟩:=ha;refine⟨_,Ao hr hg hm hv pa hn hdb he hpl,fun δ z hz G0 H0 G H σ ts Q R0 k=>?_⟩;obtain⟨xs,h1,h2⟩:=aB.mp hz;refine ka δ _ h1 G0 H0 G H σ ts _ R0 fun vs G1 H1 R1 hv=>?_;obtain⟨d,R2⟩:=R1.args hv;exact kr xs z h2 G0 H0 G1 H1 σ δ ts vs Q R2 d k
def Sl{x:Str}{T:String}{o:MD}(hc:LH X (.type T) o)(hg:Gl X x)(hm:X.mg x=none)(hv:bootBuiltins x=some (.type T))(ha:DA X (e::es) fs)(hn:x ≠ "__name__" := by decide)(hdb:(x==("__debug__" : Str))=false:=by decide)
 (he:starEach (e::es) X.env=(false,eval e X.env)::starEach es X.env:=by rfl)(hpl:(backTo pos (starEach es X.env)).any (·.1)=false:=by rfl):DE X (.Call (.Name x p) (e::es) [] pos) (fun δ=>(fs δ).bind o):=by
 obtain⟨r,hr,kr⟩:=hc;obtain⟨ta,pa,ka⟩:=ha;refine⟨_,FX hr hg hm hv pa hn hdb he hpl,fun δ z hz G0 H0 G H σ ts Q R0 k=>?_⟩;obtain⟨xs,h1,h2⟩:=aB.mp hz;refine ka δ _ h1 G0 H0 G H σ ts _ R0 fun vs G1 H1 R1 hv=>?_;obtain⟨d,R2⟩:=R1.args hv;exact kr xs z h2 G0 H0 G1 H1 σ δ ts vs Q R2 d k
def Ae.M3{H:Hp}{d:PD}{xs:List V}(h:Ae H [d] xs):∃x,xs=[x]∧Du H d x:=by
 obtain⟨x,r,rfl,h1,h2⟩:=h.un;rw [h2.nil_eq];exact⟨x,rfl,h1⟩
def Ae.VV{H:Hp}{d e:PD}{xs:List V}(h:Ae H [d,e] xs):∃x y,xs=[x,y]∧Du H d x∧Du H e y:=by
 obtain⟨x,r,rfl,h1,h2⟩:=h.un;obtain⟨y,rfl,h3⟩:=h2.M3;exact⟨x,y,rfl,h1,h3⟩
def Dx:MD
 |[.list xs]=>some (.int xs.length)
 |[.tuple xs]=>some (.int xs.length)
 |[.dict [(.none,.list xs)]]=>some (.int xs.length)
 |_=>none
def Em:LH X (.builtin "len") Dx:=by
 refine⟨_,BQ,fun xs z hz G0 H0 G H σ δ ts us Q R0 d k=>?_⟩;unfold Dx at hz;split at hz
 ·cases hz;obtain⟨u,rfl,du⟩:=d.M3;rw [Du]at du;obtain⟨p,ys,rfl,h4,h5⟩:=du;refine⟨p,ys,rfl,.inl (AZ.of (R0.ins _ _ h4)),?_⟩;rw [h5.len];exact k _ _ _ (R0.put (by rw [Du]))
 ·cases hz;obtain⟨u,rfl,du⟩:=d.M3;rw [Du]at du;obtain⟨p,ys,rfl,h4,h5⟩:=du;refine⟨p,ys,rfl,.inr (Ag.of (R0.ins _ _ h4)),?_⟩;rw [h5.len];exact k _ _ _ (R0.put (by rw [Du]))
 ·cases hz;obtain⟨u,rfl,du⟩:=d.M3;rw [Du]at du;rcases du with ⟨ea,C,e1,_⟩|⟨p,ns,e1,rfl,h4⟩|z
  rotate_left 2
  ·rw [LO]at z;cases z.1
  ·simp at e1
  ·obtain rfl:_=ns.map PyData.int:=by simpa using e1
   refine⟨p,_,rfl,.inl (.inl (h4.same R0.ins)),?_⟩;rw [List.length_map]at k ⊢;exact k _ _ _ (R0.put (by rw [Du]))
 ·cases hz
def Kg:MD
 |[.list xs]=>some (.tuple xs)
 |[.tuple xs]=>some (.tuple xs)
 |_=>none
def Uw:LH X (.type "tuple") Kg:=by
 refine⟨_,Na,fun xs z hz G0 H0 G H σ δ ts us Q R0 d k=>?_⟩;unfold Kg at hz;split at hz
 ·cases hz;obtain⟨u,rfl,du⟩:=d.M3;rw [Du]at du;obtain⟨p,ys,rfl,h4,h5⟩:=du;exact⟨p,ys,rfl,.inl ⟨AZ.of (R0.ins _ _ h4),fun l hl=>k _ _ _ (R0.U6 h5 hl)⟩⟩
 ·cases hz;obtain⟨u,rfl,du⟩:=d.M3;have du':=du;rw [Du]at du;obtain⟨p,ys,rfl,h4,h5⟩:=du;exact⟨p,ys,rfl,.inr ⟨Ag.of (R0.ins _ _ h4),k _ _ _ (R0.put du')⟩⟩
 ·cases hz
def Du.ty{K:Fg}{H:Hp}:∀ {d:PD} {v:V},(∀kv,d≠.dict kv)→Du H d v→Dy K H v (.type (Kl d))∧∀kv,d≠.dict kv
 |.none,_,_,h=>by rw [Du]at h;subst h;exact⟨.BG,by simp⟩
 |.bool _,_,_,h=>by rw [Du]at h;subst h;exact⟨.bl _,by simp⟩
 |.int _,_,_,h=>by rw [Du]at h;subst h;exact⟨.int _,by simp⟩
 |.str _,_,_,h=>by rw [Du]at h;subst h;exact⟨.str _,by simp⟩
 |.tuple _,_,_,h=>by rw [Du]at h;obtain⟨a,xs,rfl,h1,_⟩:=h;exact⟨.tup h1,by simp⟩
 |.list _,_,_,h=>by rw [Du]at h;obtain⟨a,xs,rfl,h1,_⟩:=h;exact⟨.lst h1,by simp⟩
 |.dict _,_,n,h=>absurd rfl (n _)
def Qv(q:PD→Bool):PD→Option PD
 |.dict _=>none
 |x=>some (.bool (q x))
def WR{q:PD→Bool}{x z:PD}(h:Qv q x=some z):(∀kv,x≠.dict kv)∧z=.bool (q x):=by
 unfold Qv at h;split at h
 ·cases h
 ·rename_i n;cases h;exact⟨fun kv e=>n kv e,rfl⟩
def Ov{T:String}{q:PD→Bool}{xT:Str}{p1 p2:Pos}(hk:∀d:PD,(∀kv,d≠.dict kv)→PySem.W.kitOne X.K (.type (Kl d)) (.type T)=some (q d))(hg:Gl X "isinstance")(hm:X.mg "isinstance" = none)(hgT:Gl X xT)(hmT:X.mg xT=none)(hvT:bootBuiltins xT=some (.type T))(ha:DE X a f)
 (hnT:xT ≠ "__name__" := by decide)(hdT:(xT==("__debug__" : Str))=false:=by decide)(hs1:starEach [a,.Name xT p2] X.env=(false,eval a X.env)::starEach [.Name xT p2] X.env:=by rfl)(hpl:(backTo pos (starEach [.Name xT p2] X.env)).any (·.1)=false:=by rfl) :
  DE X (.Call (.Name "isinstance" p1) [a,.Name xT p2] [] pos) (fun δ=>(f δ).bind (Qv q)):=by
 obtain⟨ta,pa,ka⟩:=ha;have pT:PE X (.Name xT p2) (tC (.ty T)):=ER hgT hmT hvT rfl hnT hdT;refine⟨_,Ao DY hg hm ah (AB pa (AB pT AF) hs1) (by decide) (by decide) hs1 hpl,fun δ z hz G0 H0 G H σ ts Q R0 k=>?_⟩;obtain⟨x,h1,h2⟩:=aB.mp hz;obtain⟨n1,rfl⟩:=WR h2;refine ka δ _ h1 G0 H0 G H σ ts _ R0 fun u G1 H1 R1=>?_;have du:=R1.BW _ (.head _);obtain⟨t1,t2⟩:=(du.same R1.ins).ty (K:=X.K) n1;exact⟨u,.ty T,_,q x,rfl,by simp [L7],t1,hk x t2,k _ _ _ (R1.drop.put (by rw [Du]))⟩
end
inductive Ou where
 |nx (δ:Dv)|rt (x:PyData)|bk (δ:Dv)|ct (δ:Dv)|rn (xs:List PyData)
def Fin(G0 H0:Hp)(D:Ends):Ou→Prop
 |.nx δ=>∀σ G H,Rw G0 H0 G H σ δ []→D.nx σ H
 |.rt x=>∀v G H,AH G0 G→Nw G0 H0 G→AH G H→AH H0 H→Du G x v→D.rt v H
 |.bk δ=>∀σ G H,Rw G0 H0 G H σ δ []→D.bk σ H
 |.ct δ=>∀σ G H,Rw G0 H0 G H σ δ []→D.ct σ H
 |.rn xs=>∀a ys G H,AH G0 G→Nw G0 H0 G→AH G H→AH H0 H→H0 a=none→G a=none→H a=some (.lst ys)→Ae G xs ys→D.rt (.ref a) H
abbrev DF:=Dv→Option Ou
def DS(X:Cx)(st:Stmt)(F:DF):Prop:=∃t,PS X st t∧∀δ r,F δ=some r→∀G0 H0 G H σ D,Rw G0 H0 G H σ δ []→Fin G0 H0 D r→t D σ H
def Mr(X:Cx)(st:List Stmt)(F:DF):Prop:=∃t,G8 X st t∧∀δ r,F δ=some r→∀G0 H0 G H σ D,Rw G0 H0 G H σ δ []→Fin G0 H0 D r→t D σ H
def A8(F1 F2:DF)(δ:Dv):Option Ou:=match F1 δ with
 |some (.nx δ')=>F2 δ'
 |o=>o
section
variable{X:Cx}{a b c e:Expr}{es:List Expr}{f g h:Dv→Option PD}{fs:Dv→Option (List PD)}{fa:Dv→Option Bool}{pos p:Pos}{st:Stmt}{sts sts':List Stmt}{F F1 F2:DF}
def Dh:Mr X [] (fun δ=>some (.nx δ)):=⟨_,BD,fun δ r h G0 H0 G H σ D R k=>by cases h;exact k _ _ _ R⟩
def Ac(h1:DS X st F1)(h2:Mr X sts F2):Mr X (st::sts) (A8 F1 F2):=by
 obtain⟨t1,p1,k1⟩:=h1;obtain⟨t2,p2,k2⟩:=h2;refine⟨_,AM p1 p2,fun δ r h G0 H0 G H σ D R k=>?_⟩;unfold A8 at h;split at h
 ·rename_i δ' e1;exact k1 δ _ e1 G0 H0 G H σ _ R fun σ' G' H' R'=>k2 δ' r h G0 H0 G' H' σ' D R' k
 ·rename_i hne;refine k1 δ r h G0 H0 G H σ _ R ?_;cases r with
  |nx δ'=>exact absurd h (hne δ')
  |rt x=>exact k
  |bk δ'=>exact k
  |ct δ'=>exact k
  |rn xs=>exact k
def Ax(h1:DS X st F1):Mr X [st] F1:=by
 obtain⟨t1,p1,k1⟩:=h1;exact⟨_,AR p1,k1⟩
def Bf(he:DE X e f):DS X (.Return (some e) pos) (fun δ=>(f δ).map .rt):=by
 obtain⟨t,p,k⟩:=he;refine⟨_,Aq p,fun δ r h G0 H0 G H σ D R q=>?_⟩;obtain⟨x,h1,rfl⟩:=aJ.mp h;exact k δ x h1 G0 H0 G H σ [] _ R fun v G' H' R'=>q v G' H' R'.ext R'.new R'.ins R'.keep (R'.BW _ (.head _))
def GD(hc:DT X c fa)(h1:Mr X sts F1)(h2:Mr X sts' F2):DS X (.If c sts sts' pos) (fun δ=>(fa δ).bind fun c=>if c=true then F1 δ else F2 δ):=by
 obtain⟨tc,pc,kc⟩:=hc;obtain⟨t1,p1,k1⟩:=h1;obtain⟨t2,p2,k2⟩:=h2;refine⟨_,Bd pc p1 p2,fun δ r h G0 H0 G H σ D R q=>?_⟩;obtain⟨i,h3,h4⟩:=aB.mp h;refine kc δ i h3 G0 H0 G H σ [] _ R fun G' H' R'=>?_;split
 ·rename_i hc;rw [if_pos hc]at h4;exact k1 δ r h4 G0 H0 G' H' σ D R' q
 ·rename_i hc;rw [if_neg hc]at h4;exact k2 δ r h4 G0 H0 G' H' σ D R' q
end
section
variable{G0 H0 G H:Hp}{σ:St}{δ:Dv}{ts:List (PD×V)}
def Rw.L8{i:Nat}{x:PD}{v:V}(r:Rw G0 H0 G H σ δ ((x,v)::ts)):Rw G0 H0 G H (σ.set i (some v)) (δ.set i (.d x)) ts:=by
 have hl:=r.len;refine⟨r.ext,r.new,r.ins,r.keep,by simp [hl],fun j y h=>?_,fun j ys h=>?_,fun j l ys zs hjl h1 h2=>?_,fun q hq=>r.BW q (.tail _ hq)⟩
 ·by_cases hj:i=j
  ·subst hj;by_cases hi:i<δ.length
   ·rw [List.getElem?_set_self hi]at h;cases h;exact⟨v,by rw [List.getElem?_set_self (by omega)],r.BW _ (.head _)⟩
   ·rw [List.getElem?_eq_none (by simp;omega)]at h;cases h
  ·rw [List.getElem?_set_ne hj]at h;obtain⟨w,k1,k2⟩:=r.dat j y h;exact⟨w,by rw [List.getElem?_set_ne hj];exact k1,k2⟩
 ·by_cases hj:i=j
  ·subst hj;by_cases hi:i<δ.length
   ·rw [List.getElem?_set_self hi]at h;cases h
   ·rw [List.getElem?_eq_none (by simp;omega)]at h;cases h
  ·rw [List.getElem?_set_ne hj]at h;obtain⟨w,k1,k2,k3⟩:=r.own j ys h;exact⟨w,k1,by rw [List.getElem?_set_ne hj];exact k2,k3⟩
 ·have nj:i≠j:=fun z=>by
   subst z;by_cases hi:i<δ.length
   ·rw [List.getElem?_set_self hi]at h1;cases h1
   ·rw [List.getElem?_eq_none (by simp;omega)]at h1;cases h1
  have nl:i≠l:=fun z=>by
   subst z;by_cases hi:i<δ.length
   ·rw [List.getElem?_set_self hi]at h2;cases h2
   ·rw [List.getElem?_eq_none (by simp;omega)]at h2;cases h2
  rw [List.getElem?_set_ne nj]at h1 ⊢;rw [List.getElem?_set_ne nl]at h2 ⊢;exact r.apart j l ys zs hjl h1 h2
end
section
variable{X:Cx}{e:Expr}{f:Dv→Option PD}{pos p:Pos}
def BH{i:Nat}{x:Str}{pos':Pos}(hN:X.N.Nodup)(hi:X.N[i]? = some x)(hx:Loc X.env.scope x)(he:DE X e f)(hs:swapsWith e (some (.Name x pos')) pos.line X.env=pure false:=by rfl)(hf:X.fn x=true∨X.env.scope.names.lookup x=some .local:=by first|exact .inl rfl|exact .inr rfl|assumption) :
  DS X (.Assign [.Name x pos'] e pos) (fun δ=>(f δ).map fun y=>.nx (δ.set i (.d y))):=by
 obtain⟨t,p,k⟩:=he;refine⟨_,Aj hN hi hx p hs hf,fun δ r h G0 H0 G H σ D R q=>?_⟩;obtain⟨y,h1,rfl⟩:=aJ.mp h;exact k δ y h1 G0 H0 G H σ [] _ R fun v G' H' R'=>q _ _ _ R'.L8
end
section
variable{G0 H0 G H:Hp}{σ:St}{δ:Dv}{ts:List (PD×V)}
def Rw.base(r:Rw G0 H0 G H σ δ ts):Rw G H0 G H σ δ ts:={ r with ext:=AH.refl G,new:=fun _ _ h=>.inl h }
def Nw.trans{G1 G2:Hp}(a:Nw G0 H0 G1)(b:Nw G1 H0 G2):Nw G0 H0 G2:=fun c o h=>by
 rcases b c o h with z|z|z
 ·exact a c o z
 ·exact .inr (.inl z)
 ·exact .inr (.inr z)
def Rw.Ob{G' H':Hp}{σ':St}{δ':Dv}{ts':List (PD×V)}(r:Rw G0 H0 G H σ δ ts)(q:Rw G H0 G' H' σ' δ' ts'):Rw G0 H0 G' H' σ' δ' ts':={ q with ext:=r.ext.trans q.ext,new:=r.new.trans q.new }
def Rw.Xv{i:Nat}{xs:Oc}{ys:HO}{a:AD}(r:Rw G0 H0 G H σ δ ts)(d:Ja G a xs ys)(ha:H a=none):Rw G0 H0 G (upd H a ys) (σ.set i (some (.ref a))) (δ.set i (.own xs)) ts:=by
 have hG:G a=none:=by
  cases q:G a with
  |none=>rfl
  |some u=>rw [r.ins _ _ q]at ha;cases ha
 have h0:H0 a=none:=by
  cases q:H0 a with
  |none=>rfl
  |some u=>rw [r.keep _ _ q]at ha;cases ha
 have e:AH H (upd H a ys):=AU ha _;have hl:=r.len;have other:∀(j:Nat) (zs:Oc),i≠j→(δ.set i (.own xs))[j]? = some (L.own zs)→δ[j]? = some (L.own zs):=fun j zs hj h=>by rw [List.getElem?_set_ne hj]at h;exact h
 have nota:∀(j:Nat) (zs:Oc),δ[j]? = some (L.own zs)→σ[j]?≠some (some (V.ref a)):=fun j zs h z=>by
  obtain⟨b,us,m1,m2,m3,m4,m5⟩:=r.own j zs h;rw [z]at m1;cases m1;rw [m4]at ha;cases ha
 refine⟨r.ext,r.new,r.ins.trans e,r.keep.trans e,by simp [hl],fun j y h=>?_,fun j zs h=>?_,fun j l us ws hjl h1 h2=>?_,r.BW⟩
 ·by_cases hj:i=j
  ·subst hj;by_cases hi:i<δ.length
   ·rw [List.getElem?_set_self hi]at h;cases h
   ·rw [List.getElem?_eq_none (by simp;omega)]at h;cases h
  ·rw [List.getElem?_set_ne hj]at h;obtain⟨w,m1,m2⟩:=r.dat j y h;exact⟨w,by rw [List.getElem?_set_ne hj];exact m1,m2⟩
 ·by_cases hj:i=j
  ·subst hj;by_cases hi:i<δ.length
   ·rw [List.getElem?_set_self hi]at h;cases h;exact⟨a,ys,by rw [List.getElem?_set_self (by omega)],hG,h0,AJ,d⟩
   ·rw [List.getElem?_eq_none (by simp;omega)]at h;cases h
  ·have h:=other j zs hj h;obtain⟨b,us,m1,m2,m3,m4,m5⟩:=r.own j zs h;exact⟨b,us,by rw [List.getElem?_set_ne hj];exact m1,m2,m3,e _ _ m4,m5⟩
 ·by_cases hj:i=j
  ·subst hj;have hl2:i≠l:=hjl;have h2:=other l ws hl2 h2;by_cases hi:i<δ.length
   ·rw [List.getElem?_set_self (by omega),List.getElem?_set_ne hl2];exact fun z=>nota l ws h2 z.symm
   ·rw [List.getElem?_eq_none (by simp;omega)]at h1;cases h1
  ·have h1:=other j us hj h1;by_cases hk:i=l
   ·subst hk;by_cases hi:i<δ.length
    ·rw [List.getElem?_set_self (by omega),List.getElem?_set_ne hj];exact fun z=>nota j us h1 z
    ·rw [List.getElem?_eq_none (by simp;omega)]at h2;cases h2
   ·have h2:=other l ws hk h2;rw [List.getElem?_set_ne hj,List.getElem?_set_ne hk];exact r.apart j l us ws hjl h1 h2
def Rw.ZZ{i:Nat}{xs xs':Oc}{ys:HO}{a:AD}(r:Rw G0 H0 G H σ δ ts)(hi:δ[i]? = some (.own xs))(ha:σ[i]? = some (some (.ref a)))(d:Ja G a xs' ys):Rw G0 H0 G (upd H a ys) σ (δ.set i (.own xs')) ts:=by
 obtain⟨a',ys0,k1,k2,k3,k4,k5⟩:=r.own i xs hi;rw [ha]at k1;cases k1;have hlt:i<δ.length:=(aD.mp hi).1;have hl:=r.len;refine⟨r.ext,r.new,fun b o h=>?_,fun b o h=>?_,by simp [hl],fun j y h=>?_,fun j zs h=>?_,fun j l us ws hjl h1 h2=>?_,r.BW⟩
 ·rw [AG (fun z=>by subst z;rw [k2]at h;cases h)];exact r.ins _ _ h
 ·rw [AG (fun z=>by subst z;rw [k3]at h;cases h)];exact r.keep _ _ h
 ·by_cases hj:i=j
  ·subst hj;rw [List.getElem?_set_self hlt]at h;cases h
  ·rw [List.getElem?_set_ne hj]at h;exact r.dat j y h
 ·by_cases hj:i=j
  ·subst hj;rw [List.getElem?_set_self hlt]at h;cases h;exact⟨a,ys,ha,k2,k3,AJ,d⟩
  ·rw [List.getElem?_set_ne hj]at h;obtain⟨b,us,m1,m2,m3,m4,m5⟩:=r.own j zs h;have nb:b≠a:=fun z=>by subst z;exact r.apart i j xs zs hj hi h (by rw [ha,m1])
   exact⟨b,us,m1,m2,m3,by rw [AG nb];exact m4,m5⟩
 ·have f:∀(j:Nat) (us:Oc),(δ.set i (.own xs'))[j]? = some (L.own us)→∃us',δ[j]? = some (L.own us'):=fun j us h=>by
   by_cases hj:i=j
   ·subst hj;exact⟨xs,hi⟩
   ·rw [List.getElem?_set_ne hj]at h;exact⟨us,h⟩
  obtain⟨us',h1⟩:=f j us h1;obtain⟨ws',h2⟩:=f l ws h2;exact r.apart j l us' ws' hjl h1 h2
end
section
variable{X:Cx}{a b c e:Expr}{es:List Expr}{f g h:Dv→Option PD}{fs:Dv→Option (List PD)}{fa:Dv→Option Bool}{pos p:Pos}{st:Stmt}{sts sts':List Stmt}{F F1 F2:DF}
def X6{i:Nat}{x:Str}{pos' lp:Pos}(hN:X.N.Nodup)(hi:X.N[i]? = some x)(hx:Loc X.env.scope x)(ha:DA X es fs)(hs:swapsWith (.List es lp) (some (.Name x pos')) pos.line X.env=pure false:=by rfl)(hf:X.fn x=true∨X.env.scope.names.lookup x=some .local:=by first|exact .inl rfl|exact .inr rfl|assumption) :
  DS X (.Assign [.Name x pos'] (.List es lp) pos) (fun δ=>((fs δ).bind Lj).map fun ys=>.nx (δ.set i (.own (.lst ys)))):=by
 obtain⟨t,p,k⟩:=ha;refine⟨_,Aj hN hi hx (Cd p) hs hf,fun δ r h G0 H0 G H σ D R q=>?_⟩;obtain⟨y,h1,rfl⟩:=aJ.mp h;obtain⟨xs,h2,h3⟩:=aB.mp h1;obtain⟨rfl,hl⟩:=LL h3;refine k δ _ h2 G0 H0 G H σ [] _ R fun vs G1 H1 R1 hv=>?_;obtain⟨d,R2⟩:=R1.args hv;exact⟨EV (by rw [hv];exact hl),fun l hl'=>q _ _ _ (R2.Xv ⟨_,rfl,d⟩ hl')⟩
def ow(i:Nat)(δ:Dv):Option (List PD):=match δ[i]? with
 |some (.own (.lst xs))=>some xs
 |_=>none
def Q0{i:Nat}{δ:Dv}{xs:List PD}(h:ow i δ=some xs):δ[i]? = some (.own (.lst xs)):=by
 unfold ow at h;split at h
 ·rename_i y e;cases h;exact e
 ·cases h
def TX{i:Nat}{x:Str}{np ap cp:Pos}(hv:PE X (.Name x np) (Om i))(he:DE X e f)
 (hP:∀ {to:TE} {t:TA},PE X (.Name x np) to→PA X [e] t→PS X (.Expr (.Call (.Attribute (.Name x np) "append" ap) [e] [] cp) pos) (Vc (bS X.K "list" Qk to t)))(hs1:starEach [e] X.env=(false,eval e X.env)::starEach [] X.env:=by rfl) :
  DS X (.Expr (.Call (.Attribute (.Name x np) "append" ap) [e] [] cp) pos) (fun δ=>(f δ).bind fun y=>(ow i δ).bind fun xs=>if xs.length<Ec then some (.nx (δ.set i (.own (.lst (xs++[y]))))) else none):=by
 obtain⟨t,p,k⟩:=he;refine⟨_,hP hv (AB p AF hs1),fun δ r h G0 H0 G H σ D R q=>?_⟩;obtain⟨y,h1,h2⟩:=aB.mp h;obtain⟨xs,h3,h4⟩:=aB.mp h2;split at h4
 ·rename_i hl;cases h4;have hi:=Q0 h3;obtain⟨a,_,k1,k2,k3,k4,⟨ys,rfl,k5⟩⟩:=R.own i _ hi;refine⟨.ref a,k1,.inl ⟨rfl,ys,AZ.of k4⟩,?_⟩;refine k δ y h1 G0 H0 G H σ [] _ R fun u G1 H1 R1=>?_;obtain⟨a',_,m1,m2,m3,m4,⟨zs,rfl,m5⟩⟩:=R1.own i _ hi;rw [k1]at m1;cases m1;refine⟨a,zs,u,rfl,rfl,m4,Qb (by rw [m5.len];omega),?_⟩;exact q _ _ _ (R1.drop.ZZ hi k1 ⟨_,rfl,m5.app (.cons (R1.BW _ (.head _)) .nil)⟩)
 ·cases h4
def K0{i:Nat}{x:Str}{np:Pos}(hv:PE X (.Name x np) (Om i))(hb:DE X b g)(hs:L5 b):DE X (.Subscript (.Name x np) b pos) (fun δ=>(g δ).bind fun y=>(ow i δ).bind fun xs=>(Mw y).bind fun k=>C2 xs k):=by
 obtain⟨tb,pb,kb⟩:=hb;refine⟨_,BM Jx hv pb hs,fun δ z hz G0 H0 G H σ ts Q R0 k=>?_⟩;obtain⟨y,h1,h2⟩:=aB.mp hz;obtain⟨xs,h3,h4⟩:=aB.mp h2;obtain⟨j,h5,h6⟩:=aB.mp h4;have:=Oe h5;subst this;obtain⟨a,_,k1,k2,k3,k4,⟨ys,rfl,k5⟩⟩:=R0.own i _ (Q0 h3);refine⟨.ref a,k1,?_⟩;refine kb δ _ h1 G0 H0 G H σ ts _ R0 fun v G1 H1 R1=>?_;have dv:=R1.BW _ (.head _);rw [Du]at dv;obtain⟨a',_,m1,m2,m3,m4,⟨us,rfl,m5⟩⟩:=R1.own i _ (Q0 h3);rw [k1]at m1;cases m1;obtain⟨w,h7,h8⟩:=m5.C2 h6;exact⟨a,us,j,w,rfl,dv,AZ.of m4,h7,k _ _ _ (R1.drop.put h8)⟩
end
structure MB(J:It)(xs:List PyData)(G:Hp):Prop where
 stop:∀H,AH G H→J.stop xs.length H
 go:∀(i:Nat) (d:PyData) H,xs[i]? = some d→AH G H→J.go i H
 DZ:∀(i:Nat) (d:PyData) H x H',xs[i]? = some d→AH G H→J.DZ i H x H'→∀Gc,AH G Gc→AH Gc H→∃Gc',AH Gc Gc'∧Nw Gc H Gc'∧AH Gc' H'∧AH H H'∧Du Gc' d x
def Nw.refl{G H:Hp}:Nw G H G:=fun _ _ h=>.inl h
def WU{K:Fg}{G:Hp}{a:AD}{ys:List V}{xs:List PD}(ha:G a=some (.lst ys))(d:Ae G xs ys):MB (QE K a) xs G where
 stop:=fun H e=>⟨ys,AZ.of (e _ _ ha),by rw [d.len];exact aE _⟩
 go:=fun i x H hx e=>by
  obtain⟨v,h1,_⟩:=d.get hx;exact⟨ys,v,AZ.of (e _ _ ha),h1⟩
 DZ:=fun i x H v H' hx e y Gc e1 e2=>by
  obtain⟨rfl,y⟩:=y;have h1:=y ys (AZ.of (e _ _ ha));obtain⟨x',h2,h3⟩:=d.back h1;rw [hx]at h2;cases h2;exact⟨Gc,AH.refl _,Nw.refl,e2,AH.refl _,h3.same e1⟩
def Y2{K:Fg}{G:Hp}{a:AD}{ys:List V}{xs:List PD}(ha:G a=some (.tup ys))(d:Ae G xs ys):MB (Qe K a) xs G where
 stop:=fun H e=>⟨ys,Ag.of (e _ _ ha),by rw [d.len];exact aE _⟩
 go:=fun i x H hx e=>by
  obtain⟨v,h1,_⟩:=d.get hx;exact⟨ys,v,Ag.of (e _ _ ha),h1⟩
 DZ:=fun i x H v H' hx e y Gc e1 e2=>by
  obtain⟨rfl,y⟩:=y;have h1:=y ys (Ag.of (e _ _ ha));obtain⟨x',h2,h3⟩:=d.back h1;rw [hx]at h2;cases h2;exact⟨Gc,AH.refl _,Nw.refl,e2,AH.refl _,h3.same e1⟩
def EE(lo:Int)(n:Nat):List PD:=(List.range n).map fun k=>.int (lo+(k:Nat))
def Ta{G:Hp}{lo:Int}{n:Nat}:MB (NA lo n) (EE lo n) G where
 stop:=fun H e=>by show n≤_;simp [EE]
 go:=fun i x H hx e=>by
  have:=(aD.mp hx).1;show i<n
  simpa [EE]using this
 DZ:=fun i x H v H' hx e y Gc e1 e2=>by
  obtain⟨rfl,rfl⟩:=y;unfold EE at hx;rw [List.getElem?_map]at hx;obtain⟨k,h1,rfl⟩:=aJ.mp hx;have hk:k=i:=by
   have:=(aD.mp h1).1;rw [List.getElem?_range (by simpa using this)]at h1;cases h1;rfl
  subst hk;exact⟨Gc,AH.refl _,Nw.refl,e2,AH.refl _,by rw [Du]⟩
def DI(X:Cx)(tg iter:Expr)(f:Dv→Option (List PD)):Prop:=∃wi,PI X tg iter wi∧∀δ xs,f δ=some xs→∀G0 H0 G H σ ts (R:It→Hp→Prop),Rw G0 H0 G H σ δ ts→(∀J G' H',Rw G0 H0 G' H' σ δ ts→MB J xs G'→R J H')→wi σ H R
section
variable{X:Cx}{tg a b c e:Expr}{es:List Expr}{f g h:Dv→Option PD}{fs:Dv→Option (List PD)}{fa:Dv→Option Bool}{pos p:Pos}{st:Stmt}{sts sts':List Stmt}{F F1 F2:DF}
def PI.or{wi wi':TI}(h:PI X tg e wi)(h':PI X tg e wi'):PI X tg e (fun σ H R=>wi σ H R∨wi' σ H R):=fun pins s σ H R I q=>by
 rcases q with q|q
 ·exact h pins s σ H R I q
 ·exact h' pins s σ H R I q
def Hu:PD→Option (List PD)
 |.list xs=>some xs
 |.tuple xs=>some xs
 |_=>none
def Hi(he:DE X e f):DI X tg e (fun δ=>(f δ).bind Hu):=by
 obtain⟨t,p,k⟩:=he;refine⟨_,(CB p).or (Nx p),fun δ xs h G0 H0 G H σ ts R R0 q=>?_⟩;obtain⟨x,h1,h2⟩:=aB.mp h;unfold Hu at h2;split at h2
 ·cases h2
  left
  refine k δ _ h1 G0 H0 G H σ ts _ R0 fun v G' H' R'=>?_;have du:=R'.BW _ (.head _);rw [Du]at du;obtain⟨a,ys,rfl,n1,n2⟩:=du;exact⟨a,rfl,⟨ys,AZ.of (R'.ins _ _ n1)⟩,q _ _ _ R'.drop (WU n1 n2)⟩
 ·cases h2
  right
  refine k δ _ h1 G0 H0 G H σ ts _ R0 fun v G' H' R'=>?_;have du:=R'.BW _ (.head _);rw [Du]at du;obtain⟨a,ys,rfl,n1,n2⟩:=du;exact⟨a,rfl,⟨ys,Ag.of (R'.ins _ _ n1)⟩,q _ _ _ R'.drop (Y2 n1 n2)⟩
 ·cases h2
def HS:List PD→Option (List PD)
 |[.int j]=>if -1000000≤j∧j≤1000000 then some (EE 0 j.toNat) else none
 |_=>none
def Mm:List PD→Option (List PD)
 |[.int i,.int j]=>if -1000000≤i∧i≤1000000∧-1000000≤j∧j≤1000000 then some (EE i (j-i).toNat) else none
 |_=>none
def Ff(hg:Gl X "range")(hm:X.mg "range" = none)(ha:DA X [a] fs)(hs:starEach [a] X.env=[(false,eval a X.env)]:=by rfl):DI X tg (.Call (.Name "range" p) [a] [] pos) (fun δ=>(fs δ).bind HS):=by
 obtain⟨t,p,k⟩:=ha;refine⟨_,JG hg hm p hs,fun δ xs h G0 H0 G H σ ts R R0 q=>?_⟩;obtain⟨x,h1,h2⟩:=aB.mp h;refine k δ _ h1 G0 H0 G H σ ts _ R0 fun vs G' H' R' hv=>?_;obtain⟨d,R2⟩:=R'.args hv;unfold HS at h2;split at h2
 ·split at h2
  ·cases h2;obtain⟨u,rfl,du⟩:=d.M3;rw [Du]at du;subst du;exact⟨_,rfl,by omega,by omega,q _ _ _ R2 Ta⟩
  ·cases h2
 ·cases h2
def SN(hg:Gl X "range")(hm:X.mg "range" = none)(ha:DA X [a,b] fs)(hs:starEach [a,b] X.env=[(false,eval a X.env),(false,eval b X.env)]:=by rfl)(hs2:starEach [b] X.env=[(false,eval b X.env)]:=by rfl):DI X tg (.Call (.Name "range" p) [a,b] [] pos) (fun δ=>(fs δ).bind Mm):=by
 obtain⟨t,p,k⟩:=ha;refine⟨_,Sw hg hm p hs hs2,fun δ xs h G0 H0 G H σ ts R R0 q=>?_⟩;obtain⟨x,h1,h2⟩:=aB.mp h;refine k δ _ h1 G0 H0 G H σ ts _ R0 fun vs G' H' R' hv=>?_;obtain⟨d,R2⟩:=R'.args hv;unfold Mm at h2;split at h2
 ·split at h2
  ·cases h2;obtain⟨u,v,rfl,du,dv⟩:=d.VV;rw [Du]at du dv;subst du dv;exact⟨_,_,rfl,⟨by omega,by omega,by omega,by omega⟩,q _ _ _ R2 Ta⟩
  ·cases h2
 ·cases h2
def R5{G:Hp}{x:PD}{v:V}{xs:List PD}(h:Du G x v)(e:Hu x=some xs):∃(b:Bool) (a:AD) (ys:List V),v=.ref a∧G a=some (if b then .tup ys else .lst ys)∧Ae G xs ys:=by
 unfold Hu at e;split at e
 ·cases e;rw [Du]at h;obtain⟨a,ys,rfl,n1,n2⟩:=h;exact⟨false,a,ys,rfl,n1,n2⟩
 ·cases e;rw [Du]at h;obtain⟨a,ys,rfl,n1,n2⟩:=h;exact⟨true,a,ys,rfl,n1,n2⟩
 ·cases e
def DG(X:Cx)(tg:Expr)(set:PD→Dv→Option Dv):Prop:=∃g,PG X tg g∧∀δ x δ',set x δ=some δ'→∀G0 H0 G H σ v (Q:St→Hp→Prop),Rw G0 H0 G H σ δ [(x,v)]→(∀σ' G' H',Rw G0 H0 G' H' σ' δ' []→Q σ' H')→g v σ H Q
def EX{i:Nat}{x:Str}(h:PG X (.Name x pos) (Ee i)):DG X (.Name x pos) (fun y δ=>some (δ.set i (.d y))) :=
 ⟨_,h,fun δ y δ' e G0 H0 G H σ v Q R k=>by cases e;exact k _ _ _ R.L8⟩
def HF(set:PD→Dv→Option Dv)(body:DF):List PD→Dv→Option Ou
 |[],δ=>some (.nx δ)
 |x::xs,δ=>match (set x δ).bind body with
  |some (.nx δ')=>HF set body xs δ'
  |some (.ct δ')=>HF set body xs δ'
  |some (.bk δ')=>some (.nx δ')
  |some (.rt v)=>some (.rt v)
  |some (.rn v)=>some (.rn v)
  |none=>none
def FY{set:PD→Dv→Option Dv}(hp:PassesOwn (model X.prog X.w) X.A X.env X.xe)(hc:X.calm=true)(hi:DI X tg e fs)(hg:DG X tg set)(hb:Mr X sts F)(hs:∀x,foldedSetIterable e X.env x=pure x:=by intro _;rfl) :
  DS X (.For tg e sts [] pos) (fun δ=>(fs δ).bind fun xs=>HF set F xs δ):=by
 obtain⟨wi,pi,ki⟩:=hi;obtain⟨g,pg,kg⟩:=hg;obtain⟨tb,pb,kb⟩:=hb;refine⟨_,DR hp hc pi pg pb hs,fun δ r h G0 H0 G H σ D R q=>?_⟩;obtain⟨xs,h1,h2⟩:=aB.mp h;refine ki δ xs h1 G0 H0 G H σ [] _ R fun J Ga Ha Ra it=>?_;refine⟨fun i m σ' H'=>m=xs.length-i∧i≤xs.length∧∃δ' G',HF set F (xs.drop i) δ'=some r∧Rw G0 H0 G' H' σ' δ' []∧AH Ga G',⟨xs.length,by simp,Nat.zero_le _,δ,Ga,by simpa using h2,Ra,AH.refl _⟩,?_⟩;rintro i m σ1 H1 ⟨rfl,hi,δ1,G1,f1,R1,s1⟩;have sH:AH Ga H1:=s1.trans R1.ins;by_cases hlt:i<xs.length
 ·right
  have hx:xs[i]? = some xs[i]:=by simp [hlt]
  refine⟨it.go i _ H1 hx sH,fun σ' H'=>i+1≤xs.length∧∃δ' G',HF set F (xs.drop (i+1)) δ'=some r∧Rw G0 H0 G' H' σ' δ' []∧AH Ga G',fun σ' H' n=>⟨xs.length-(i+1),by omega,rfl,n⟩,fun x H' y=>?_⟩;obtain⟨G2,e1,e2,e3,e4,e5⟩:=it.DZ i _ H1 x H' hx sH y G1 s1 R1.ins;have R2:=(R1.lift e1 e2 e3 e4).put e5;have s2:=s1.trans e1;rw [List.drop_eq_getElem_cons hlt]at f1;unfold HF at f1;cases hb2:(set xs[i] δ1).bind F with
  |none=>rw [hb2]at f1;cases f1
  |some o =>
   obtain⟨δ2,k1,k2⟩:=aB.mp hb2;rw [hb2]at f1;have R2b:=R2.base;refine kg δ1 _ δ2 k1 G2 H0 G2 H' σ1 x _ R2b fun σ3 G3 H3 R3=>?_;refine kb δ2 o k2 G2 H0 G3 H3 σ3 _ R3 ?_;cases o with
   |nx δ3=>exact fun σ4 G4 H4 R4=>⟨hlt,δ3,G4,f1,R2.drop.Ob R4,s2.trans R4.ext⟩
   |ct δ3=>exact fun σ4 G4 H4 R4=>⟨hlt,δ3,G4,f1,R2.drop.Ob R4,s2.trans R4.ext⟩
   |bk δ3=>cases f1;exact fun σ4 G4 H4 R4=>q σ4 G4 H4 (R2.drop.Ob R4)
   |rt v=>cases f1;exact fun w G4 H4 h1 h2 h3 h4 h5=>q w G4 H4 (R2.ext.trans h1) (R2.new.trans h2) h3 h4 h5
   |rn v=>cases f1;exact fun w ys G4 H4 h1 h2=>q w ys G4 H4 (R2.ext.trans h1) (R2.new.trans h2)
 ·left
  have e:i=xs.length:=by omega
  subst e;refine⟨it.stop H1 sH,?_⟩;rw [List.drop_length]at f1;unfold HF at f1;cases f1;exact q _ _ _ R1
end
def tD(f:Dv→Option PD):TE:=fun σ H Q=>∃δ x G0 H0 G ts,f δ=some x∧Rw G0 H0 G H σ δ ts∧∀v G' H',Rw G0 H0 G' H' σ δ ((x,v)::ts)→Q v H'
def VN(f:Dv→Option Bool):TT:=fun σ H Q=>∃δ x G0 H0 G ts,f δ=some x∧Rw G0 H0 G H σ δ ts∧∀G' H',Rw G0 H0 G' H' σ δ ts→Q x H'
def DE.pe{X:Cx}{e:Expr}{f:Dv→Option PD}(h:DE X e f):PE X e (tD f):=by
 obtain⟨t,p,k⟩:=h;intro pins s σ H Q I q;obtain⟨δ,x,G0,H0,G,ts,h1,h2,h3⟩:=q;exact p pins s σ H Q I (k δ x h1 G0 H0 G H σ ts Q h2 h3)
def DT.pt{X:Cx}{e:Expr}{f:Dv→Option Bool}(h:DT X e f):PT X e (VN f):=by
 obtain⟨t,p,k⟩:=h;intro pins s σ H Q I q;obtain⟨δ,x,G0,H0,G,ts,h1,h2,h3⟩:=q;exact p pins s σ H Q I (k δ x h1 G0 H0 G H σ ts Q h2 h3)
def Xb(X:Cx)(ifs:List Expr)(f:Dv→Option Bool):Prop:=Ip X ifs (VN f)
def Mh{X:Cx}:Xb X [] (fun _=>some true):=by
 intro pins s σ H Q I q;obtain⟨δ,x,G0,H0,G,ts,h1,h2,h3⟩:=q;cases h1;exact Cg pins s σ H Q I (h3 _ _ h2)
def Wm{X:Cx}{c:Expr}{f:Dv→Option Bool}(h:DT X c f):Xb X [c] f:=V3 h.pt
def Cy(fr:List (Option Nat))(δ:Dv):Dv:=fr.map fun o=>match o with
 |some j=>(match δ[j]? with|some (.d x)=>.d x|_=>.no)
 |none=>.no
def Rw.inner{G0 H0 G H:Hp}{σ:St}{δ:Dv}{ts:List (PD×V)}(fr:List (Option Nat))(r:Rw G0 H0 G H σ δ ts):Rw G H G H (carry fr σ) (Cy fr δ) ts:=by
 have key:∀(i:Nat) (l:L),(Cy fr δ)[i]? = some l→∃o,fr[i]? = some o∧l=(match o with|some j=>(match δ[j]? with|some (.d x)=>.d x|_=>.no)|none=>.no):=fun i l h=>by
  unfold Cy at h;rw [List.getElem?_map]at h;obtain⟨o,h1,rfl⟩:=aJ.mp h;exact⟨o,h1,rfl⟩
 have noown:∀(i:Nat) (xs:Oc),(Cy fr δ)[i]?≠some (L.own xs):=fun i xs h=>by
  obtain⟨o,_,h2⟩:=key i _ h;split at h2
  ·split at h2<;>cases h2
  ·cases h2
 refine⟨AH.refl _,Nw.refl,r.ins,AH.refl _,by simp [carry,Cy],fun i x h=>?_,fun i xs h=>absurd h (noown i xs),fun i j xs ys _ h=>absurd h (noown i xs),r.BW⟩;obtain⟨o,h1,h2⟩:=key i _ h;split at h2
 ·rename_i j;split at h2
  ·rename_i y hy;cases h2;obtain⟨v,k1,k2⟩:=r.dat j _ hy;refine⟨v,?_,k2⟩;unfold carry;rw [List.getElem?_map,h1];simp [k1]
  ·cases h2
 ·cases h2
def Rw.other{G0 H0 G H:Hp}{σ:St}{δ:Dv}{ts:List (PD×V)}{D:AD}{o:HO}(r:Rw G0 H0 G H σ δ ts)(hG:G D=none)(h0:H0 D=none)(ho:∀(i:Nat) (xs:Oc),δ[i]? = some (L.own xs)→σ[i]?≠some (some (V.ref D))):Rw G0 H0 G (upd H D o) σ δ ts:=by
 refine⟨r.ext,r.new,fun a u h=>?_,fun a u h=>?_,r.len,r.dat,fun i xs h=>?_,r.apart,r.BW⟩
 ·rw [AG (fun z=>by subst z;rw [hG]at h;cases h)];exact r.ins _ _ h
 ·rw [AG (fun z=>by subst z;rw [h0]at h;cases h)];exact r.keep _ _ h
 ·obtain⟨a,ys,k1,k2,k3,k4,k5⟩:=r.own i xs h;exact⟨a,ys,k1,k2,k3,by rw [AG (fun z=>by subst z;exact ho i xs h k1)];exact k4,k5⟩
def Rw.adopt{G0 H0 G H:Hp}{σ:St}{δ:Dv}{ts:List (PD×V)}{D:AD}{ys:List V}(r:Rw G0 H0 G H σ δ ts)(hD:H D=some (.lst ys))(hG:G D=none)(h0:H0 D=none)(ho:∀(i:Nat) (xs:Oc),δ[i]? = some (L.own xs)→σ[i]?≠some (some (V.ref D))):Rw G0 H0 (upd G D (.lst ys)) H σ δ ts:=by
 have e:AH G (upd G D (.lst ys)):=AU hG _;refine⟨r.ext.trans e,fun a u h=>?_,fun a u h=>?_,r.keep,r.len,fun i x h=>?_,fun i xs h=>?_,r.apart,fun q hq=>(r.BW q hq).same e⟩
 ·by_cases ha:a=D
  ·subst ha;exact .inr (.inl h0)
  ·rw [AG ha]at h;exact r.new _ _ h
 ·by_cases ha:a=D
  ·subst ha;rw [AJ]at h;rw [hD];exact h
  ·rw [AG ha]at h;exact r.ins _ _ h
 ·obtain⟨v,k1,k2⟩:=r.dat i x h;exact⟨v,k1,k2.same e⟩
 ·obtain⟨a,zs,k1,k2,k3,k4,k5⟩:=r.own i xs h;have ha:a≠D:=fun z=>by subst z;exact ho i xs h k1
  exact⟨a,zs,k1,by rw [AG ha];exact k2,k3,k4,k5.same e⟩
def MC(set:PD→Dv→Option Dv)(tif:Dv→Option Bool)(f:Dv→Option PD)(δ:Dv)(x:PD):Option (Option PD) :=
 (set x δ).bind fun δ1=>(tif δ1).bind fun b=>if b=true then(f δ1).map some else some none
def collect(one:PD→Option (Option PD)):List PD→Option (List PD)
 |[]=>some []
 |x::xs=>(one x).bind fun o=>(collect one xs).map fun r=>o.toList++r
def Np(set:PD→Dv→Option Dv)(tif:Dv→Option Bool)(f:Dv→Option PD)(fr:List (Option Nat))(fs:Dv→Option (List PD))(δ:Dv):Option (List PD) :=
 (fs δ).bind fun xs=>(collect (MC set tif f (Cy fr δ)) xs).bind Lj
def GA(set:PD→Dv→Option Dv)(tif:Dv→Option Bool)(f:Dv→Option PD)(fr:List (Option Nat))(fs:Dv→Option (List PD))(δ:Dv):Option PD :=
 (Np set tif f fr fs δ).map .list
structure Vn(G0 H0 Ga:Hp)(σ:St)(δ:Dv)(ts:List (PyData×V))(one:PyData→Option (Option PyData))(xs full:List PyData)(D:Addr)(i:Nat)(ys:List V)(H:Hp):Prop where
 ex:∃G done rest,Rw G0 H0 G H σ δ ts∧AH Ga G∧G D=none∧collect one (xs.drop i)=some rest∧done++rest=full∧Ae G done ys
 h0:H0 D=none
 ap:∀(j:Nat) (us:Oc),δ[j]? = some (L.own us)→σ[j]?≠some (some (V.ref D))
def T8{G0 H0 G H:Hp}{D:AD}{ys:List V}(hG:G0 D=none)(hD:H0 D=some (.lst ys))(n:Nw G0 H0 G)(e:AH G H)(k:AH H0 H):G D=none:=by
 cases q:G D with
 |none=>rfl
 |some o =>
  rcases n _ _ q with z|z|⟨us,z⟩
  ·rw [hG]at z;cases z
  ·rw [hD]at z;cases z
  ·have:=e _ _ q;rw [k _ _ hD,z]at this;cases this
section
variable{X:Cx}{elt iter:Expr}{x y:Str}{px py tp pos:Pos}{tk:Nat}{ifs:List Expr}{scope:Scope}{fs:Dv→Option (List PD)}{tif:Dv→Option Bool}{f:Dv→Option PD}
def FC(i:Nat)(y:PD)(δ:Dv):Option Dv:=some (δ.set i (.d y))
def Qq{wi:TI}{ix:Nat}{fr:List (Option Nat)}(ki:∀(δ:Dv) (xs:List PD),fs δ=some xs→∀(G0 H0 G H:Hp) (σ:St) (ts:List (PD×V)) (R:It→Hp→Prop),Rw G0 H0 G H σ δ ts→(∀J G' H',Rw G0 H0 G' H' σ δ ts→MB J xs G'→R J H')→wi σ H R){δ:Dv}{zs:List PD}(hz:Np (FC ix) tif f fr fs δ=some zs){G0 H0 G H:Hp}{σ:St}{ts:List (PD×V)}{Q:VK}(R0:Rw G0 H0 G H σ δ ts)(k:∀D ys G' H',Rw G0 H0 G' H' σ δ ts→H' D=some (.lst ys)→G' D=none→H0 D=none→(∀(j:Nat) (us:Oc),δ[j]? = some (L.own us)→σ[j]?≠some (some (V.ref D)))→Ae G' zs ys→Q (.ref D) H') :
  Js wi fr ix (VN tif) (tD f) σ H Q:=by
 unfold Np at hz;obtain⟨xs,m2,m3⟩:=aB.mp hz;obtain⟨full,m4,m5⟩:=aB.mp m3;obtain⟨rfl,hfew⟩:=LL m5;refine ki δ xs m2 G0 H0 G H σ ts _ R0 fun J Ga Ha Ra it D hD=>?_;have hGD:Ga D=none:=by
  cases q:Ga D with
  |none=>rfl
  |some u=>rw [Ra.ins _ _ q]at hD;cases hD
 have hHD:H0 D=none:=by
  cases q:H0 D with
  |none=>rfl
  |some u=>rw [Ra.keep _ _ q]at hD;cases hD
 have hap:∀(j:Nat) (us:Oc),δ[j]? = some (L.own us)→σ[j]?≠some (some (V.ref D)):=fun j us h z=>by
  obtain⟨a,ys,k1,k2,k3,k4,k5⟩:=Ra.own j us h;rw [z]at k1;cases k1;rw [k4]at hD;cases hD
 refine Dq (n:=xs.length) (Vn G0 H0 Ga σ δ ts (MC (FC ix) tif f (Cy fr δ)) xs full D) ⟨⟨Ga,[],full,Ra.other hGD hHD hap,AH.refl _,hGD,by simpa using m4,rfl,.nil⟩,hHD,hap⟩ ?_ ?_
 ·rintro i ys H1 hlt ⟨⟨G1,done,rest,R1,s1,g1,c1,e1,d1⟩,_,_⟩ hD1;have hx:xs[i]? = some xs[i]:=by simp [hlt]
  have sH:=s1.trans R1.ins;have hyl:ys.length<sizeLine:=Qb (by
   rw [d1.len];have:done.length≤full.length:=by rw [←e1];simp
   omega)
  refine⟨it.go i _ H1 hx sH,hyl,fun v H' y=>?_⟩;obtain⟨G2,n1,n2,n3,n4,n5⟩:=it.DZ i _ H1 v H' hx sH y G1 s1 R1.ins;have R2:=R1.lift n1 n2 n3 n4;have hD2:=n4 _ _ hD1;have g2:G2 D=none:=T8 g1 hD1 n2 n3 n4;rw [List.drop_eq_getElem_cons hlt]at c1;unfold collect at c1;obtain⟨o,c2,c3⟩:=aB.mp c1;obtain⟨rest',c4,rfl⟩:=aJ.mp c3;unfold MC FC at c2;simp only [Option.bind_some]at c2;obtain⟨b,c5,c6⟩:=aB.mp c2;have Ri:=((R2.inner fr).put n5).L8 (i:=ix);have Ri0:Rw G2 H' G2 H' ((carry fr σ).set ix (some v)) ((Cy fr δ).set ix (.d xs[i])) []:=Ri.less fun q hq=>by cases hq
  refine⟨_,b,G2,H',G2,[],c5,Ri0,fun G3 H3 R3=>?_⟩;have R3o:=R2.lift R3.ext R3.new R3.ins R3.keep;have hD3:=R3.keep _ _ hD2;have g3:G3 D=none:=T8 g2 hD2 R3.new R3.ins R3.keep;dsimp only;split
  ·rename_i hb;rw [if_pos hb]at c6;obtain⟨w,c7,rfl⟩:=aJ.mp c6;refine⟨_,w,G2,H',G3,[],c7,R3,fun u G4 H4 R4=>?_⟩;have R4o:=R2.lift R4.ext R4.new R4.ins R4.keep;have hD4:=R4.keep _ _ hD2;have g4:G4 D=none:=T8 g2 hD2 R4.new R4.ins R4.keep;refine⟨hD4,Ci hlt ⟨⟨G4,done++[w],rest',R4o.other g4 hHD hap,s1.trans (n1.trans R4.ext),g4,c4,by simpa using e1,(d1.same (n1.trans R4.ext)).app (.cons (R4.BW _ (.head _)) .nil)⟩,hHD,hap⟩⟩
  ·rename_i hb;rw [if_neg hb]at c6;cases c6;exact WZ hlt hD3 ⟨⟨G3,done,rest',R3o,s1.trans (n1.trans R3.ext),g3,c4,by simpa using e1,d1.same (n1.trans R3.ext)⟩,hHD,hap⟩
 ·rintro ys H1 ⟨⟨G1,done,rest,R1,s1,g1,c1,e1,d1⟩,_,_⟩ hD1;refine⟨it.stop H1 (s1.trans R1.ins),?_⟩;rw [List.drop_length]at c1;cases c1;rw [List.append_nil]at e1;subst e1;exact k _ _ _ _ R1 hD1 g1 hHD hap d1
def Tz{wi:TI}{ix:Nat}{fr:List (Option Nat)}(ki:∀(δ:Dv) (xs:List PD),fs δ=some xs→∀(G0 H0 G H:Hp) (σ:St) (ts:List (PD×V)) (R:It→Hp→Prop),Rw G0 H0 G H σ δ ts→(∀J G' H',Rw G0 H0 G' H' σ δ ts→MB J xs G'→R J H')→wi σ H R){δ:Dv}{z:PD}(hz:GA (FC ix) tif f fr fs δ=some z){G0 H0 G H:Hp}{σ:St}{ts:List (PD×V)}{Q:VK}(R0:Rw G0 H0 G H σ δ ts)(k:∀v G' H',Rw G0 H0 G' H' σ δ ((z,v)::ts)→Q v H') :
  Js wi fr ix (VN tif) (tD f) σ H Q:=by
 unfold GA at hz;obtain⟨full,m1,rfl⟩:=aJ.mp hz;refine Qq ki m1 R0 fun D ys G1 H1 R1 hD1 g1 hHD hap d1=>?_;have e:AH G1 (upd G1 D (.lst ys)):=AU g1 _;have R2:=R1.adopt hD1 g1 hHD hap;refine k _ _ _ (R2.put ?_);rw [Du];exact⟨D,ys,rfl,AJ,d1.same e⟩
def Ju(N:List Str)(ix:Nat)(fr:List (Option Nat))(hi:DI X (.Name x px) iter fs)(hif:∀cl C s₀ H₀ fp,Xb (Ak X scope cl N C s₀ H₀ fp) ifs tif)(he:∀cl C s₀ H₀ fp,DE (Ak X scope cl N C s₀ H₀ fp) elt f)
 (h1:CQ scope N x ix=true:=by decide +kernel)(h2:X.calm=true:=by rfl)(h3:EH N X.N scope X.env.scope fr 0=true:=by rfl)(h4:fr.length=N.length:=by rfl)(h5:freeOk X.env.scope scope.names=true:=by rfl)
 (hs:∀x,foldedSetIterable iter X.env x=pure x:=by intro _;rfl):DE X (.ListComp elt [⟨.Name x px,iter,ifs,0⟩] scope pos) (GA (FC ix) tif f fr fs):=by
 obtain⟨wi,pi,ki⟩:=hi;exact⟨_,EG N ix fr pi hif (fun cl C s₀ H₀ fp=>(he cl C s₀ H₀ fp).pe) h1 h2 h3 h4 h5 hs,fun δ z hz G0 H0 G H σ ts Q R0 k=>Tz ki hz R0 k⟩
end
section
variable{X:Cx}{elt iter:Expr}{x y:Str}{px py tp pos:Pos}{tk:Nat}{ifs:List Expr}{scope:Scope}{fs:Dv→Option (List PD)}{tif:Dv→Option Bool}{f:Dv→Option PD}
def Ku(N:List Str)(ds:List PD):Dv:=ds.map .d++List.replicate (N.length-ds.length) .no
def Dd(ps N:List Str)(F:DF)(ds:List PD):Option PD:=if ds.length=ps.length then(match F (Ku N ds) with
 |some (.rt x)=>some x
 |some (.nx _)=>some .none
 |some (.rn xs)=>some (.list xs)
 |_=>none) else none
def Rw.start{N:List Str}{ds:List PD}{vs:List V}{G H:Hp}(d:Ae G ds vs)(e:AH G H):Rw G H G H (start N vs) (Ku N ds) []:=by
 have hl:=d.len;refine⟨AH.refl _,Nw.refl,e,AH.refl _,by simp [L2.start,Ku,hl],fun i x h=>?_,fun i xs h=>?_,fun i j xs ys _ h=>?_,fun q hq=>by cases hq⟩
 ·unfold Ku at h;by_cases hi:i<ds.length
  ·rw [List.getElem?_append_left (by simpa using hi),List.getElem?_map]at h;obtain⟨y,h1,h2⟩:=aJ.mp h;cases h2;obtain⟨v,h3,h4⟩:=d.get h1;refine⟨v,?_,h4⟩;unfold L2.start;rw [List.getElem?_append_left (by simp;omega),List.getElem?_map,h3];rfl
  ·rw [List.getElem?_append_right (by simpa using hi),List.getElem?_replicate]at h;split at h<;>cases h
 ·unfold Ku at h;by_cases hi:i<ds.length
  ·rw [List.getElem?_append_left (by simpa using hi),List.getElem?_map]at h;obtain⟨y,h1,h2⟩:=aJ.mp h;cases h2
  ·rw [List.getElem?_append_right (by simpa using hi),List.getElem?_replicate]at h;split at h<;>cases h
 ·unfold Ku at h;by_cases hi:i<ds.length
  ·rw [List.getElem?_append_left (by simpa using hi),List.getElem?_map]at h;obtain⟨y,h1,h2⟩:=aJ.mp h;cases h2
  ·rw [List.getElem?_append_right (by simpa using hi),List.getElem?_replicate]at h;split at h<;>cases h
def Zt{G H G' H':Hp}{a:AD}{ys:List V}{xs:List PD}(m1:AH G G')(m2:Nw G H G')(m3:AH G' H')(m5:H a=none)(m6:G' a=none)(m7:H' a=some (.lst ys))(m8:Ae G' xs ys) :
  AH G (upd G' a (.lst ys))∧Nw G H (upd G' a (.lst ys))∧AH (upd G' a (.lst ys)) H'∧Du (upd G' a (.lst ys)) (.list xs) (.ref a):=by
 refine⟨m1.trans (AU m6 _),fun b o hb=>?_,fun b o hb=>?_,?_⟩
 ·by_cases z:b=a
  ·subst z;exact .inr (.inl m5)
  ·rw [AG z]at hb;exact m2 _ _ hb
 ·by_cases z:b=a
  ·subst z;rw [AJ]at hb;rw [m7];exact hb
  ·rw [AG z]at hb;exact m3 _ _ hb
 ·rw [Du];exact⟨a,ys,rfl,AJ,m8.same (AU m6 _)⟩
def Ie{P:Program}{w:World}{K:Fg}{mg:Str→Option VL}{base:Heap}{x:Str}{st:Stmt}{fA:AD}{fd:FuncData}{N ps:List Str}{k:Nat}{F:DF}(T:Fn K mg x st ps fA fd)(S:Ab N ps (AW st))
 (hb:∀(cdv:VL) (A:Around) (outer:List Env) (s:SD) (H:Hp) (E:XK),Cn k (A.deeper (envOfC x (AW st) s.heap.objs.size fA cdv))→Mr (Kq Ad P w K mg base N x (AW st) fA cdv A outer s H E).Sb (Cj st) F) :
  AV P w K mg base Ad (k+1) fA fd ps (CF (Dd ps N F)):=by
 refine T.F.ok S (fun vs H Q E h=>?_) fun cdv A outer s H vs Q E hr h=>?_
 ·obtain⟨ds,y,G,h1,h2,_⟩:=h;unfold Dd at h1;split at h1
  ·rename_i hl;rw [h2.len];exact hl
  ·cases h1
 ·obtain⟨ds,y,G,h1,h2,h3,h4⟩:=h;obtain⟨t,p,kk⟩:=hb cdv A outer s H E hr;refine⟨t,p,?_⟩;unfold Dd at h1;split at h1
  ·split at h1
   ·rename_i z e1;cases h1;exact kk _ _ e1 G H G H _ _ (Rw.start h2 h3) fun v G' H' m1 m2 m3 m4 m5=>h4 v G' H' m1 m2 m3 m4 m5
   ·rename_i δ e1;cases h1;exact kk _ _ e1 G H G H _ _ (Rw.start h2 h3) fun σ' G' H' R=>h4 .BG G' H' R.ext R.new R.ins R.keep (by rw [Du])
   ·rename_i xs e1;cases h1;exact kk _ _ e1 G H G H _ _ (Rw.start h2 h3) fun a ys G' H' m1 m2 m3 m4 m5 m6 m7 m8=>let⟨n1,n2,n3,n4⟩:=Zt m1 m2 m3 m5 m6 m7 m8;h4 _ _ H' n1 n2 n3 m4 n4
   ·cases h1
  ·cases h1
end
section
variable{X:Cx}{tg a b c e:Expr}{es:List Expr}{f g h:Dv→Option PD}{fs:Dv→Option (List PD)}{fa:Dv→Option Bool}{pos p p2:Pos}{st:Stmt}{sts sts':List Stmt}{F F1 F2:DF}
def DO(X:Cx)(o:Option Expr)(f:Dv→Option (Option Int)):Prop:=∃t,PO X o t∧∀δ x,f δ=some x→∀G0 H0 G H σ ts (Q:Option Int→Hp→Prop),Rw G0 H0 G H σ δ ts→(∀G' H',Rw G0 H0 G' H' σ δ ts→Q x H')→t σ H Q
variable{fo fu:Dv→Option (Option Int)}{lo hi:Option Expr}
def MO:DO X none (fun _=>some none):=⟨_,QR,fun δ x h G0 H0 G H σ ts Q r k=>by cases h;exact k _ _ r⟩
def Mj(he:DE X e f):DO X (some e) (fun δ=>(f δ).bind fun x=>(Mw x).map some):=by
 obtain⟨t,p,k⟩:=he;refine⟨_,QQ p,fun δ z h G0 H0 G H σ ts Q r q=>?_⟩;obtain⟨x,h1,h2⟩:=aB.mp h;obtain⟨i,h3,rfl⟩:=aJ.mp h2;have:=Oe h3;subst this;refine k δ _ h1 G0 H0 G H σ ts _ r fun v G' H' R'=>?_;have hv:=R'.BW _ (.head _);rw [Du]at hv;exact⟨i,hv,q _ _ R'.drop⟩
def cutD(xs:List PD)(lo hi:Option Int):List PD:=(xs.drop (HT.A5 xs.length 0 lo)).take (HT.A5 xs.length xs.length hi-HT.A5 xs.length 0 lo)
def Ae.cut{H:Hp}{ds:List PD}{xs:List V}(h:Ae H ds xs)(lo hi:Option Int):Ae H (cutD ds lo hi) (Gn xs lo hi):=by
 unfold cutD Gn;rw [h.len];exact(h.drop _).take _
def UW(x:PD)(lo hi:Option Int):Option PD:=match x with
 |.list xs=>some (.list (cutD xs lo hi))
 |.tuple xs=>if ¬(HT.A5 xs.length 0 lo=0∧HT.A5 xs.length xs.length hi=xs.length) then some (.tuple (cutD xs lo hi)) else none
 |_=>none
def K3(he:DE X e f)(hl:DO X lo fo)(hh:DO X hi fu):DE X (.Subscript e (.Slice lo hi none p2) pos) (fun δ=>(f δ).bind fun x=>(fo δ).bind fun l=>(fu δ).bind fun u=>UW x l u):=by
 obtain⟨te,pe,ke⟩:=he;obtain⟨tl,pl,kl⟩:=hl;obtain⟨th,ph,kh⟩:=hh;refine⟨_,OE (QL.or Ww) pe pl ph,fun δ z hz G0 H0 G H σ ts Q R0 k=>?_⟩;obtain⟨x,h1,h2⟩:=aB.mp hz;obtain⟨l,h3,h4⟩:=aB.mp h2;obtain⟨u,h5,h6⟩:=aB.mp h4;refine ke δ x h1 G0 H0 G H σ ts _ R0 fun v G1 H1 R1=>?_;refine kl δ l h3 G0 H0 G1 H1 σ _ _ R1 fun G2 H2 R2=>?_;refine kh δ u h5 G0 H0 G2 H2 σ _ _ R2 fun G3 H3 R3=>?_;have du:=R3.BW _ (.head _);unfold UW at h6;split at h6
 ·cases h6;rw [Du]at du;obtain⟨a,ys,rfl,n1,n2⟩:=du;exact .inl ⟨a,ys,rfl,AZ.of (R3.ins _ _ n1),fun q hq=>k _ _ _ (R3.drop.PX (n2.cut l u) hq)⟩
 ·split at h6
  ·rename_i hc;cases h6;rw [Du]at du;obtain⟨a,ys,rfl,n1,n2⟩:=du;exact .inr ⟨a,ys,rfl,Ag.of (R3.ins _ _ n1),by rw [n2.len];exact hc,fun q hq=>k _ _ _ (R3.drop.U6 (n2.cut l u) hq)⟩
  ·cases h6
 ·cases h6
end
open PySem
abbrev fC(x:PD):Dv→Option PD:=fun _=>some x
abbrev cL(f:Dv→Option PD):Dv→Option PD:=fun δ=>(f δ).bind fun x=>(Mw x).map fun i=>.int (-i)
abbrev AQ:Dv→Option (List PD):=fun _=>some []
abbrev AE(f:Dv→Option PD)(fs:Dv→Option (List PD)):Dv→Option (List PD):=fun δ=>(f δ).bind fun x=>(fs δ).map fun xs=>x::xs
abbrev BK(fs:Dv→Option (List PD)):Dv→Option PD:=fun δ=>((fs δ).bind Lj).map .tuple
abbrev Bk(fs:Dv→Option (List PD)):Dv→Option PD:=fun δ=>((fs δ).bind Lj).map .list
abbrev BF(m:MD)(fs:Dv→Option (List PD)):Dv→Option PD:=fun δ=>(fs δ).bind m
abbrev UT(q:PD→Bool)(f:Dv→Option PD):Dv→Option PD:=fun δ=>(f δ).bind (Qv q)
abbrev Hl(i:Nat)(g:Dv→Option PD):Dv→Option PD:=fun δ=>(g δ).bind fun y=>(ow i δ).bind fun xs=>(Mw y).bind fun k=>C2 xs k
abbrev Rl:Dv→Option (Option Int):=fun _=>some none
abbrev RD(f:Dv→Option PD):Dv→Option (Option Int):=fun δ=>(f δ).bind fun x=>(Mw x).map some
abbrev U1(f:Dv→Option PD)(fo fu:Dv→Option (Option Int)):Dv→Option PD:=fun δ=>(f δ).bind fun x=>(fo δ).bind fun l=>(fu δ).bind fun u=>UW x l u
abbrev US(f:Dv→Option PD):Dv→Option Bool:=fun δ=>(f δ).bind PK
abbrev Ds(o:PD→PD→Option PD)(f g:Dv→Option PD):Dv→Option Bool:=fun δ=>(Ai o f g δ).bind PK
abbrev Yj(f:Dv→Option Bool):Dv→Option Bool:=fun δ=>(f δ).map fun c=>!c
abbrev YV(f g:Dv→Option Bool):Dv→Option Bool:=fun δ=>(f δ).bind fun c=>if c=true then some true else g δ
abbrev MR(f:Dv→Option PD):Dv→Option (List PD):=fun δ=>(f δ).bind Hu
abbrev FQ(m:List PD→Option (List PD))(fs:Dv→Option (List PD)):Dv→Option (List PD):=fun δ=>(fs δ).bind m
abbrev T2:Dv→Option Bool:=fun _=>some true
abbrev HB(i:Nat):PD→Dv→Option Dv:=fun y δ=>some (δ.set i (.d y))
abbrev Er:DF:=fun δ=>some (.nx δ)
abbrev Cm(f:Dv→Option PD):DF:=fun δ=>(f δ).map .rt
abbrev Hc(c:Dv→Option Bool)(F G:DF):DF:=fun δ=>(c δ).bind fun c=>if c=true then F δ else G δ
abbrev Bi(i:Nat)(f:Dv→Option PD):DF:=fun δ=>(f δ).map fun y=>.nx (δ.set i (.d y))
abbrev cM(i:Nat)(fs:Dv→Option (List PD)):DF:=fun δ=>((fs δ).bind Lj).map fun ys=>.nx (δ.set i (.own (.lst ys)))
abbrev UI(i:Nat)(f:Dv→Option PD):DF:=fun δ=>(f δ).bind fun y=>(ow i δ).bind fun xs=>if xs.length<Ec then some (.nx (δ.set i (.own (.lst (xs++[y]))))) else none
abbrev Ef(fs:Dv→Option (List PD))(set:PD→Dv→Option Dv)(F:DF):DF:=fun δ=>(fs δ).bind fun xs=>HF set F xs δ
def Gv{P:Program}{w:World}{K:Fg}{mg:Str→Option VL}{base:Heap}{CX:F4}{k:Nat}{f:AD}{fd:FuncData}{ps:List Str}{sp:Sp}(h:∀vs H Q E,¬sp vs H Q E):AV P w K mg base CX k f fd ps sp :=
 ⟨fun _ _ _ _ z=>(h _ _ _ _ z).elim,fun _ _ _ _ _ _ _ _ _ _ _ _ _ z=>(h _ _ _ _ z).elim⟩
def V7{P:Program}{w:World}{K:Fg}{mg:Str→Option VL}{base:Heap}{CX:F4}{k:Nat}{f:AD}{fd:FuncData}{ps:List Str}{sp:Sp}{m:MD}(F:AV P w K mg base CX k f fd ps sp)
 (h:∀ds x,m ds=some x→∀(G H:Hp) (vs:List V) (Q:VK) (E:XK),Ae G ds vs→AH G H→(∀v G' H',AH G G'→Nw G H G'→AH G' H'→AH H H'→Du G' x v→Q v H')→sp vs H Q E):AV P w K mg base CX k f fd ps (CF m) :=
 F.imp fun vs H Q E z=>by
  obtain⟨ds,x,G,h1,h2,h3,h4⟩:=z;exact h ds x h1 G H vs Q E h2 h3 h4
def Al(G H:Hp):Hp:=fun a=>match H a with
 |some (.tup xs)=>some (.tup xs)
 |_=>G a
def Um{G H:Hp}{a:AD}{xs:List V}(h:H a=some (.tup xs)):Al G H a=some (.tup xs):=by unfold Al;rw [h]
section
variable{G0 H0 G H:Hp}{σ:St}{δ:Dv}{ts:List (PD×V)}
def Rw.Al(r:Rw G0 H0 G H σ δ ts):Rw G0 H0 (L2.Al G H) H σ δ ts:=by
 have e:AH G (L2.Al G H):=fun a o h=>by
  unfold L2.Al;split
  ·rename_i xs hx;rw [r.ins _ _ h]at hx;exact hx.symm ▸ rfl
  ·exact h
 refine⟨r.ext.trans e,fun a o h=>?_,fun a o h=>?_,r.keep,r.len,fun i x h=>?_,fun i xs h=>?_,r.apart,fun q hq=>(r.BW q hq).same e⟩
 ·unfold L2.Al at h;split at h
  ·cases h;exact .inr (.inr ⟨_,rfl⟩)
  ·exact r.new _ _ h
 ·unfold L2.Al at h;split at h
  ·rename_i xs hx;rw [hx];exact h
  ·exact r.ins _ _ h
 ·obtain⟨v,k1,k2⟩:=r.dat i x h;exact⟨v,k1,k2.same e⟩
 ·obtain⟨a,ys,k1,k2,k3,k4,k5⟩:=r.own i xs h;refine⟨a,ys,k1,?_,k3,k4,k5.same e⟩;unfold L2.Al;rw [k4];split
  ·rename_i q;cases q;exact k5.OH.elim
  ·exact k2
end
def JD{G:Hp}:∀ {t:Tr} {xs:List V},Ae G (Bc t) xs→Ts G t xs
 |.nil,xs,h=>by rw [Bc]at h;rw [Ts];exact h.nil_eq
 |.cons b r,xs,h=>by
  rw [Bc]at h;obtain⟨x,q,rfl,h1,h2⟩:=h.un;rw [Du]at h1;obtain⟨a,ys,rfl,h3,h4⟩:=h1;rw [Ts];exact⟨a,ys,q,rfl,h3,JD h4,JD h2⟩
def Lx{G H:Hp}:∀ {t:Tr} {xs:List V},Ts H t xs→Ae (Al G H) (Bc t) xs
 |.nil,xs,h=>by rw [Ts]at h;rw [Bc,h];exact .nil
 |.cons b r,xs,h=>by
  rw [Ts]at h;obtain⟨a,ys,zs,rfl,h1,h2,h3⟩:=h;rw [Bc];refine .cons ?_ (Lx h3);rw [Du];exact⟨a,ys,rfl,Um h1,Lx h2⟩
mutual
def LV:∀ {ds:List PD} {t:Tr},II ds=some t→ds=Bc t
 |[],t,h=>by rw [II]at h;cases h;rw [Bc]
 |d::ds,t,h=>by
  rw [II]at h;obtain⟨b,h1,h2⟩:=aB.mp h;obtain⟨r,h3,rfl⟩:=aJ.mp h2;rw [Bc,←Wt h1,←LV h3]
def Wt:∀ {d:PD} {t:Tr},IU d=some t→d=.tuple (Bc t)
 |.tuple ds,t,h=>by rw [IU]at h;rw [LV h]
 |.none,_,h=>by simp [IU]at h
 |.bool _,_,h=>by simp [IU]at h
 |.int _,_,h=>by simp [IU]at h
 |.str _,_,h=>by simp [IU]at h
 |.list _,_,h=>by simp [IU]at h
 |.dict _,_,h=>by simp [IU]at h
end
def YG(rev:Bool)(t:Tr):Option PD:=if t.bs.length<64∧t.deep≤60 then some (.list (Bc (Tr.of (if rev then Tr.Be t.bs else(Tr.Be t.bs).reverse)))) else none
def Lh(rev:Bool):MD
 |[x]=>(Hu x).bind fun ds=>(II ds).bind (YG rev)
 |_=>none
section
variable{X:Cx}{a b c e:Expr}{es:List Expr}{f g h:Dv→Option PD}{fs:Dv→Option (List PD)}{fa:Dv→Option Bool}{pos p:Pos}
def WS{rev:Bool}{G0 H0 G H:Hp}{σ:St}{δ:Dv}{ts:List (PD×V)}{x z:PD}{u:V}{Q:VK}(R0:Rw G0 H0 G H σ δ ts)(du:Du G x u)(hz:Lh rev [x]=some z)(k:∀w G' H',Rw G0 H0 G' H' σ δ ((z,w)::ts)→Q w H') :
  ∃(p:AD) (ys:List V) (t:Tr),[u]=[.ref p]∧(AZ X.K H p ys∨Ag X.K H p ys)∧Ts H t ys∧ys.length<64∧t.deep≤60∧∀(l:AD) (zs:List V),H l=none→Ts H (Tr.of (if rev then Tr.Be t.bs else(Tr.Be t.bs).reverse)) zs→Q (.ref l) (upd H l (.lst zs)):=by
 unfold Lh at hz;obtain⟨ds,h1,h2⟩:=aB.mp hz;obtain⟨t,h3,h4⟩:=aB.mp h2;unfold YG at h4;split at h4
 ·rename_i hc;cases h4;have hds:=LV h3;obtain⟨bb,a,ys,rfl,n1,n2⟩:=R5 du h1;rw [hds]at n2;have ht:=(JD n2).same R0.ins;have hl:ys.length=t.bs.length:=by rw [ht.len]
  refine⟨a,ys,t,rfl,?_,ht,by omega,hc.2,fun l zs hl' hz'=>?_⟩
  ·have:=R0.ins _ _ n1;cases bb
   ·exact .inl (AZ.of (by simpa using this))
   ·exact .inr (Ag.of (by simpa using this))
  ·have R1:=R0.Al;exact k _ _ _ (R1.PX (Lx hz') hl')
 ·cases h4
def Wl(hu:X.A.units+64<cLine):LH X (.builtin "sorted") (Lh false):=by
 refine⟨_,Sv hu,fun xs z hz G0 H0 G H σ δ ts us Q R0 d k=>?_⟩;cases xs with
 |nil=>cases hz
 |cons x r =>
  cases r with
  |cons y q=>cases hz
  |nil =>
   obtain⟨u,rfl,du⟩:=d.M3;exact WS R0 du hz k
def YI(x k:PD):Option PD:=match x,k with
 |.list xs,.int i=>if i=-1 then some (.list xs.reverse) else none
 |_,_=>none
abbrev Yc(f g:Dv→Option PD):Dv→Option PD:=Ai YI f g
def YT{p2:Pos}{k:Expr}(he:DE X e f)(hk:DE X k g):DE X (.Subscript e (.Slice none none (some k) p2) pos) (Yc f g):=by
 obtain⟨te,pe,ke⟩:=he;obtain⟨tk,pk,kk⟩:=hk;refine⟨_,Xl pe pk,fun δ z hz G0 H0 G H σ ts Q R0 k=>?_⟩;obtain⟨x,y,h1,h2,h3⟩:=two (x:=.none) (y:=.none) hz;refine ke δ x h1 G0 H0 G H σ ts _ R0 fun u G1 H1 R1=>?_;refine kk δ y h2 G0 H0 G1 H1 σ _ _ R1 fun v G2 H2 R2=>?_;have du:=R2.BW (x,u) (.tail _ (.head _));have dv:=R2.BW (y,v) (.head _);unfold YI at h3;split at h3
 ·split at h3
  ·rename_i hi;cases h3;subst hi;rw [Du]at du;rw [Du]at dv;obtain⟨a,ys,rfl,n1,n2⟩:=du;exact⟨a,ys,rfl,dv,AZ.of (R2.ins _ _ n1),fun q hq=>k _ _ _ (R2.drop.drop.PX n2.rev hq)⟩
  ·cases h3
 ·cases h3
end
section
variable{G0 H0 G H:Hp}{σ:St}{δ:Dv}{ts:List (PD×V)}
def Rw.on{H':Hp}(r:Rw G0 H0 G H σ δ ts)(e:AH H H'):Rw G0 H0 G H' σ δ ts:=r.lift (AH.refl _) Nw.refl (r.ins.trans e) e
end
section
variable{F F1 F2:DF}{δ δ':Dv}{r:Option Ou}{c:Dv→Option Bool}{f g:Dv→Option PD}{fs:Dv→Option (List PD)}
def BA(h:F1 δ=some (.nx δ'))(k:F2 δ'=r):A8 F1 F2 δ=r:=by unfold A8;rw [h];exact k
def GN{x:PD}(h:F1 δ=some (.rt x)):A8 F1 F2 δ=some (.rt x):=by unfold A8;rw [h]
def Gr(h:c δ=some true)(k:F1 δ=r):Hc c F1 F2 δ=r:=by show(c δ).bind _=r;rw [h];exact k
def Cu(h:c δ=some false)(k:F2 δ=r):Hc c F1 F2 δ=r:=by show(c δ).bind _=r;rw [h];exact k
def Dg{i:Nat}{y:PD}(h:f δ=some y):Bi i f δ=some (.nx (δ.set i (.d y))):=by show(f δ).map _=_;rw [h];rfl
def GJ{y:PD}(h:f δ=some y):Cm f δ=some (.rt y):=by show(f δ).map _=_;rw [h];rfl
def A2{o:PD→PD→Option PD}{x y:PD}{z:Option PD}(h1:f δ=some x)(h2:g δ=some y)(h3:o x y=z):Ai o f g δ=z:=by unfold Ai;rw [h1,h2];exact h3
def DN{m:MD}{xs:List PD}{z:Option PD}(h1:fs δ=some xs)(h2:m xs=z):BF m fs δ=z:=by show(fs δ).bind m=z;rw [h1];exact h2
def BO{x:PD}{xs:List PD}(h1:f δ=some x)(h2:fs δ=some xs):AE f fs δ=some (x::xs):=by show(f δ).bind _=_;rw [h1];show(fs δ).map _=_;rw [h2];rfl
def GK{o:PD→PD→Option PD}{x y:PD}{b:Bool}(h1:f δ=some x)(h2:g δ=some y)(h3:o x y=some (.bool b)):Ds o f g δ=some b:=by show(Ai o f g δ).bind PK=_;rw [A2 h1 h2 h3];rfl
def Zy{a b:Dv→Option Bool}{q:Option Bool}(h:a δ=some false)(k:b δ=q):YV a b δ=q:=by show(a δ).bind _=q;rw [h];exact k
def O7{set:PD→Dv→Option Dv}(Iv:Nat→Dv→Prop):∀(xs:List PD) (δ:Dv) (n:Nat),Iv n δ→(∀(i:Nat) (x:PD) (δ:Dv),xs[i]? = some x→Iv (n+i) δ→∃δ1 δ2,set x δ=some δ1∧F δ1=some (.nx δ2)∧Iv (n+i+1) δ2) →
  ∃δ',HF set F xs δ=some (.nx δ')∧Iv (n+xs.length) δ'
 |[],δ,n,h,_=>⟨δ,rfl,h⟩
 |x::xs,δ,n,h,k=>by
  obtain⟨δ1,δ2,h1,h2,h3⟩:=k 0 x δ rfl h;obtain⟨δ',h4,h5⟩:=O7 Iv xs δ2 (n+1) h3 fun i y δ hy hv=>by
   have:=k (i+1) y δ (by simpa using hy) (by rw [show n+(i+1)=n+1+i by omega];exact hv);rw [show n+(i+1)+1=n+1+i+1 by omega]at this;exact this
  refine⟨δ',?_,by rw [List.length_cons,show n+(xs.length+1)=n+1+xs.length by omega];exact h5⟩;unfold HF;rw [h1,Option.bind_some,h2];exact h4
def Us{set:PD→Dv→Option Dv}{xs:List PD}(Iv:Nat→Dv→Prop)(hx:fs δ=some xs)(h0:Iv 0 δ)(hs:∀(i:Nat) (x:PD) (δ:Dv),xs[i]? = some x→Iv i δ→∃δ1 δ2,set x δ=some δ1∧F δ1=some (.nx δ2)∧Iv (i+1) δ2) :
  ∃δ',Ef fs set F δ=some (.nx δ')∧Iv xs.length δ':=by
 obtain⟨δ',h1,h2⟩:=O7 (F:=F) (set:=set) Iv xs δ 0 h0 fun i x δ hx hv=>by
  have:=hs i x δ hx (by simpa using hv)
  simpa using this
 refine⟨δ',?_,by simpa using h2⟩;show(fs δ).bind _=_;rw [hx];exact h1
end
def Ca{ps N:List Str}{F:DF}{ds:List PD}{x:PD}(hl:ds.length=ps.length)(h:F (Ku N ds)=some (.rt x)):Dd ps N F ds=some x:=by unfold Dd;rw [if_pos hl,h]
def MN{lo:Int}{n i:Nat}{x:PD}(h:(EE lo n)[i]? = some x):x=.int (lo+(i:Nat))∧i<n:=by
 unfold EE at h;rw [List.getElem?_map]at h;obtain⟨j,hj,rfl⟩:=aJ.mp h;have hl:=(aD.mp hj).1;rw [List.getElem?_range (by simpa using hl)]at hj;cases hj;exact⟨rfl,by simpa using hl⟩
def Sh{δ:Dv}{f:Dv→Option PD}{j:Int}(h:f δ=some (.int j))(h0:-1000000≤j)(h1:j≤1000000):FQ HS (AE f AQ) δ=some (EE 0 j.toNat):=by
 show(AE f AQ δ).bind HS=_;rw [BO h (show AQ δ=some [] from rfl)];exact if_pos ⟨h0,h1⟩
def Lw{n:Nat}{i:Int}(h:i.natAbs<2^n):Fm n i=true:=bP h
def S8{i j:Int}(h:Jv i j=true):EL (.int i) (.int j)=some (.int (i*j)):=by
 show NG RO RM (.int i) (.int j)=_;unfold NG;rw [show RO (.int i) (.int j)=some (.int (i*j)) from if_pos h]
def mul_r{i j:Int}(h:j.natAbs<2^64):EL (.int i) (.int j)=some (.int (i*j)):=S8 (by unfold Jv;rw [Lw h];simp)
def mod_is{i j:Int}(h:0<j):FL (.int i) (.int j)=some (.int (i % j)):=by
 show(if j≠0 then some (PyData.int (i.fmod j)) else none)=_;rw [if_pos (by omega),Int.fmod_eq_emod_of_nonneg _ (by omega)]
def TF{i:Int}{n:Nat}(hn:n≤1000)(hi:Fm 64 i=true):JT (.int i) (.int (n:Int))=some (.int (i^n)):=by
 show(if 0≤(n:Int)∧(n:Int)≤1000∧Fm 64 i=true then some (PyData.int (i^(n:Int).toNat)) else none)=_;rw [if_pos ⟨by omega,by omega,hi⟩,Int.toNat_natCast]
def Fw(ns:List Int):PD:=.dict [(.none,.list (ns.map .int))]
def YD{H:Hp}{a:AD}{ns:List Int}(h:Rd H a (.lst (ns.map V.int))):Du H (Fw ns) (.ref a):=by unfold Fw;rw [Du];exact .inr (.inl ⟨a,ns,rfl,rfl,h⟩)
def Nk(K:Fg):Bool:=K.all fun p=>match p.2.cls with|.type n=>n != "list" |_=>true
def KD{a:AD}{o:Obj}:∀ {K:Fg},K.lookup a=some o→(a,o)∈K
 |[],h=>by cases h
 |(b,u)::K,h=>by
  rw [List.lookup_cons]at h;split at h
  ·rename_i e;cases h;rw [show a=b from by simpa using e];exact .head _
  ·exact .tail _ (KD h)
def YM{K:Fg}{H:Hp}{a:AD}{xs:List V}(hK:Nk K=true)(h:AZ K H a xs):Rd H a (.lst xs):=by
 rcases h with h|⟨o,its,n,h1,h2,_⟩
 ·exact h
 ·unfold Nk at hK;rw [List.all_eq_true]at hK;have:=hK _ (KD h1);rw [h2]at this;exact absurd this (by decide)
section
variable{F F1 F2:DF}{δ δ':Dv}{fs:Dv→Option (List PD)}{xs:List PD}{set:PD→Dv→Option Dv}{r:Option Ou}
def Jp{Q:Dv→Prop}(h:F1 δ=some (.nx δ'))(k:∃δ2,F2 δ'=some (.nx δ2)∧Q δ2):∃δ2,A8 F1 F2 δ=some (.nx δ2)∧Q δ2:=let⟨δ2,a,b⟩:=k;⟨δ2,BA h a,b⟩
def Tq(Iv:Nat→Dv→Prop)(hx:fs δ=some xs)(h0:Iv 0 δ)(hs:∀(i:Nat) (x:PD) (δ:Dv),xs[i]? = some x→Iv i δ→∃δ1,set x δ=some δ1∧∃δ2,F δ1=some (.nx δ2)∧Iv (i+1) δ2) :
  ∃δ',Ef fs set F δ=some (.nx δ')∧Iv xs.length δ':=Us Iv hx h0 fun i x δ a b=>let⟨δ1,c,δ2,e,g⟩:=hs i x δ a b;⟨δ1,δ2,c,e,g⟩
def UR(Iv:Nat→Dv→Prop)(hx:fs δ=some xs)(h0:Iv 0 δ)(hs:∀(i:Nat) (x:PD) (δ:Dv),xs[i]? = some x→Iv i δ→∃δ1,set x δ=some δ1∧∃δ2,F δ1=some (.nx δ2)∧Iv (i+1) δ2)
 (k:∀δ',Iv xs.length δ'→F2 δ'=r):A8 (Ef fs set F) F2 δ=r:=by
 obtain⟨δ',h1,h2⟩:=Tq Iv hx h0 hs;exact BA h1 (k δ' h2)
def QI{Q:Dv→Prop}(Iv:Nat→Dv→Prop)(hx:fs δ=some xs)(h0:Iv 0 δ)(hs:∀(i:Nat) (x:PD) (δ:Dv),xs[i]? = some x→Iv i δ→∃δ1,set x δ=some δ1∧∃δ2,F δ1=some (.nx δ2)∧Iv (i+1) δ2)(hq:∀δ,Iv xs.length δ→Q δ) :
  ∃δ',Ef fs set F δ=some (.nx δ')∧Q δ':=let⟨δ',a,b⟩:=Tq Iv hx h0 hs;⟨δ',a,hq _ b⟩
end
end L2
set_option maxHeartbeats 2000000
set_option maxHeartbeats 1000000
set_option maxHeartbeats 4000000
namespace L2
open PySem PySem.Spec PyProof.Rows
def GT(H:Hp)(v:VL)(x:Tr):Prop:=∃a ys,v=.ref a∧H a=some (.tup ys)∧Ts H x ys
def RZ(S:AD)(ev:Array (Int×VL))(ep:Nat)(t:SetTable):HO:=.ext fun h=>∃o,h.get? S=some o∧o.ExactSet∧o.data=.set ev ep t
abbrev XJ(H:Hp)(p:Int×VL)(q:Int×Tr):Prop:=p.1=q.1∧q.2.deep<8∧GT H p.2 q.2
def Uz(H:Hp)(S:AD)(st:TH.ES×SetTable):Prop:=∃ev ep,H S=some (RZ S ev ep st.2)∧PySem.Paired (XJ H) ev.toList st.1.toList
def GT.same{H H':Hp}{v:VL}{x:Tr}(h:GT H v x)(e:AH H H'):GT H' v x:=let⟨a,ys,e1,e2,e3⟩:=h;⟨a,ys,e1,e _ _ e2,e3.same e⟩
structure VX(w:World)(st:TH.ES×SetTable):Prop where
 fit:st.2.fits st.1.size=true
 plain:st.2.plain=true
 led:st.2.led=!w.params.followText "set-order"
 walk:TH.Jd st.2 st.1.size=true
 small:st.1.size<64
section
variable{X:Cx}{pins:List (AD×Obj)}{σ:St}{H:Hp}{s:SD}
def TN(I:Inv X pins σ H s){v:VL}{x:Tr}(g:GT H v x):∃a its,v=.ref a∧s.heap.IsTuple a its.toArray∧TH.Vs s.heap x its:=by
 obtain⟨a,ys,rfl,h1,h2⟩:=g;obtain⟨its,r,p,_⟩:=I.tuple (Ag.of (K:=X.K) h1);exact⟨a,its,rfl,p,h2.vs I r⟩
def N6(I:Inv X pins σ H s):∀ {t:Tr} {ys:List V} {us:List VL},Ts H t ys→Vals ys us→t.deep≤8→TH.GL (GT H) s.heap us t.bs
 |.nil,ys,us,h,r,_=>by
  rw [Ts]at h;subst h;cases r;exact .nil
 |.cons b q,ys,us,h,r,hd=>by
  rw [Ts]at h;obtain⟨a,zs,rest,rfl,h1,h2,h3⟩:=h;rw [Tr.deep]at hd;cases r with
  |cons r1 r2 =>
   cases r1;have g:GT H (.ref a) b:=⟨a,zs,rfl,h1,h2⟩;exact .cons ⟨by omega,g,TN I g⟩ (N6 I h3 r2 (by omega))
def UP(I:Inv X pins σ H s){l:List (Int×VL)}{m:List (Int×Tr)}(h:PySem.Paired (XJ H) l m):PySem.Paired (TH.Kk (GT H) s.heap) l m :=
 TH.Paired.imp (fun _ _ ⟨a,b,c⟩=>⟨a,b,c,TN I c⟩) h
def Xn:∀ {us:List VL} {ts:List Tr},PySem.Paired (GT H) us ts→∃zs,Vals zs us∧Ts H (Tr.of ts) zs
 |_,_,.nil=>⟨[],.nil,by rw [Tr.of,Ts]⟩
 |_,_,.cons ⟨a,ys,e,h1,h2⟩ r=>by
  obtain⟨zs,r1,r2⟩:=Xn r;subst e;exact⟨.ref a::zs,.cons rfl r1,by rw [Tr.of,Ts];exact⟨a,ys,zs,rfl,h1,h2,r2⟩⟩
def Zp(w:World)(K:Fg):List V→Hp→VK→Prop:=fun xs H Q=>∃p ys t st,xs=[.ref p]∧AZ K H p ys∧Ts H t ys∧t.deep≤8∧TH.JS (TH.Hd (!w.params.followText "set-order")) t.bs=some st ∧
 ∀S H',AH H H'→Uz H' S st→Q (.ref S) H'
def Sr(hc:X.calm=true)(hu:X.A.units+64<cLine):Df X (.type "set") (Zp X.w X.K):=by
 intro pins s σ H xs us Q I r h;obtain⟨p,ys,t,st,rfl,hq,ht,hd,hst,q⟩:=h;obtain⟨u,rfl,r1⟩:=r.one;cases r1;obtain⟨its,rv,pl,hz⟩:=I.list hq;refine TH.P0 (G:=GT H) (I.ok.hd hc) pl.isList (N6 I ht rv hd) (by omega) hst fun h2 tk S2 k2=>?_;obtain⟨o,ev,ep,g1,g2,g3,g4⟩:=S2;have hf:=I.Ah.fresh (aE s.heap.objs.size);have es:=AU hf (RZ s.heap.objs.size ev ep st.2);refine⟨.ref s.heap.objs.size,upd H s.heap.objs.size (RZ s.heap.objs.size ev ep st.2),I.laid (t':=tk) k2 (aE _) ?_,rfl,q _ _ es ⟨ev,ep,AJ,TH.Paired.imp (fun _ _ ⟨a,b,c,_⟩=>⟨a,b,c.same es⟩) g4⟩⟩;exact⟨⟨o,g1,g2,g3⟩,⟨o,g1⟩,fun h1 h2 ⟨o,q1,q2⟩ k=>⟨o,k _ q1,q2⟩⟩
def Wk(I:Inv X pins σ H s){S:AD}{st:TH.ES×SetTable}(h:Uz H S st)(ok:VX X.w st):∃o ev ep,s.heap.get? S=some o∧TH.Cv X.w o ev ep st.2∧TH.B1 (GT H) s.heap ev st.1:=by
 obtain⟨ev,ep,h1,h2⟩:=h;obtain⟨⟨o,g1,g2,g3⟩,_,_⟩:=(show Bl X.prog X.w H s.heap S (RZ S ev ep st.2) from I.Ah S _ h1);have R:=UP I h2;have hz:ev.size=st.1.size:=TH.B1.size R;exact⟨o,ev,ep,g1,⟨g2,g3,by rw [hz];exact ok.fit,ok.plain,ok.led,by rw [hz];exact ok.walk⟩,R⟩
def XU(w:World):List V→Hp→VK→Prop:=fun xs H Q=>∃S st,xs=[.ref S]∧Uz H S st∧VX w st∧∀(l:AD) (zs:List V),H l=none→zs.length<64→Ts H (Tr.of (Tr.Be (TH.LU st)).reverse) zs→Q (.ref l) (upd H l (.lst zs))
def RG(hc:X.calm=true)(hu:X.A.units+64<cLine):Df X (.builtin "sorted") (XU X.w):=by
 intro pins s σ H xs us Q I r h;obtain⟨S,st,rfl,hS,ok,q⟩:=h;obtain⟨u,rfl,r1⟩:=r.one;cases r1;obtain⟨o,ev,ep,g1,W,R⟩:=Wk I hS ok;refine TH.Rp (I.ok.hd hc) W g1 R ok.small (by omega) fun h' D tk e1 us hD k1 gD hp hl=>?_;obtain⟨zs,r1,r2⟩:=Xn hp;have hz:zs.length<64:=by rw [r1.length];exact hl
 refine⟨.ref D,upd H D (.lst zs),I.laid (t':=tk) k1 hD ⟨bE (aH hz (by rw [sizeLine_eq];decide)),us,e1,r1,gD⟩,rfl,q D zs (I.Ah.fresh hD) hz r2⟩
end
open PySem PyProof.Rows
end L2
set_option maxHeartbeats 1000000
namespace L2
open PySem PySem.Spec PyProof.Rows
def La(led:Bool)(l z:List Tr):Bool:=match TH.JS (TH.Hd led) l with
 |some st=>decide ((Tr.Be (TH.LU st)).reverse=z)&&st.2.fits st.1.size&&st.2.plain&&decide (st.2.led=led)&&TH.Jd st.2 st.1.size&&decide (st.1.size<64)
 |none=>false
def U0{led:Bool}{l z:List Tr}(h:La led l z=true):∃st,TH.JS (TH.Hd led) l=some st∧(Tr.Be (TH.LU st)).reverse=z∧st.2.fits st.1.size=true∧st.2.plain=true∧st.2.led=led∧TH.Jd st.2 st.1.size=true∧st.1.size<64:=by
 unfold La at h;split at h
 ·rename_i st e;simp only [Bool.and_eq_true,decide_eq_true_eq]at h;obtain⟨⟨⟨⟨⟨h1,h2⟩,h3⟩,h4⟩,h5⟩,h6⟩:=h;exact⟨st,e,h1,h2,h3,h4,h5,h6⟩
 ·cases h
def Rm(l:List Tr):List Tr:=match TH.JS (TH.Hd true) l with
 |some st=>(Tr.Be (TH.LU st)).reverse
 |none=>[]
def L8(t:Tr):Option PD:=if t.deep≤8∧La true t.bs (Rm t.bs)=true∧La false t.bs (Rm t.bs)=true then some (.list (Bc (Tr.of (Rm t.bs)))) else none
def Kn:PD→Option PD
 |.list ds=>(II ds).bind L8
 |_=>none
section
variable{X:Cx}{e:Expr}{f:Dv→Option PD}{pos p p2 pos2:Pos}
def Rj(hc:X.calm=true)(hu:X.A.units+64<cLine)(hg:Gl X "sorted")(hm:X.mg "sorted" = none)(hg2:Gl X "set")(hm2:X.mg "set" = none)(ha:DE X e f)
 (hs1:starEach [e] X.env=(false,eval e X.env)::starEach [] X.env:=by rfl)(hs2:starEach [.Call (.Name "set" p2) [e] [] pos2] X.env=(false,eval (.Call (.Name "set" p2) [e] [] pos2) X.env)::starEach [] X.env:=by rfl)
 (hq1:(backTo pos2 (starEach [] X.env)).any (·.1)=false:=by rfl)(hq2:(backTo pos (starEach [] X.env)).any (·.1)=false:=by rfl) :
  DE X (.Call (.Name "sorted" p) [.Call (.Name "set" p2) [e] [] pos2] [] pos) (fun δ=>(f δ).bind Kn):=by
 obtain⟨ta,pa,ka⟩:=ha;refine⟨_,Ao (RG hc hu) hg hm PyProof.Rows.boot_sorted (AB (FX (Sr hc hu) hg2 hm2 PyProof.Rows.boot_set (AB pa AF hs1) (by decide) (by decide) hs1 hq1) AF hs2) (by decide) (by decide) hs2 hq2,fun δ z hz G0 H0 G H σ ts Q R0 k=>?_⟩;obtain⟨y,h1,h2⟩:=aB.mp hz;refine ka δ y h1 G0 H0 G H σ ts _ R0 fun u G1 H1 R1=>?_;unfold Kn at h2;split at h2
 ·rename_i ds;obtain⟨t,h3,h4⟩:=aB.mp h2;unfold L8 at h4;split at h4
  ·rename_i hh;cases h4;have hds:=LV h3;have du:=R1.BW (_,u) (.head _);obtain⟨bb,a,ys,rfl,n1,n2⟩:=R5 du (show Hu (.list ds)=some ds from rfl);have n1':H1 a=some (.lst ys):=by
    have:=R1.ins _ _ n1;cases bb
    ·simpa using this
    ·exact absurd n1 (by
      have du':=du;intro n1;rw [Du]at du';obtain⟨a',ys',e1,e2,_⟩:=du';cases e1;rw [e2]at n1;cases n1)
   rw [hds]at n2;have ht:=(JD n2).same R1.ins;have both:∀led,La led t.bs (Rm t.bs)=true:=fun led=>by cases led;exact hh.2.2;exact hh.2.1
   obtain⟨st,r1,r2,r3,r4,r5,r6,r7⟩:=U0 (both (!X.w.params.followText "set-order"));refine⟨a,ys,t,st,rfl,AZ.of n1',ht,hh.1,r1,fun S H' e1 hS=>⟨S,st,rfl,hS,⟨r3,r4,r5,r6,r7⟩,fun l zs hl hz ht'=>?_⟩⟩;rw [r2]at ht';have R2:=(R1.drop.on e1).Al;exact k _ _ _ (R2.PX (Lx ht') hl)
  ·cases h4
 ·cases h2
end
end L2
set_option maxHeartbeats 4000000
set_option maxHeartbeats 1000000
set_option maxHeartbeats 4000000
set_option maxHeartbeats 1000000
set_option maxHeartbeats 4000000
set_option maxHeartbeats 1000000
set_option maxHeartbeats 4000000
set_option maxHeartbeats 1000000
set_option maxHeartbeats 4000000
namespace Opn
open PySem PySem.W PyProof.Rows PySem.Calls
noncomputable def q0:Pos:=⟨0,0,0,0⟩
noncomputable def Z7:Obj:={ cls:=.type "tuple",data:=.seq #[] }
noncomputable def a8:Obj:={ cls:=.none,data:=.fields #[] }
noncomputable def Z5:Obj:={ cls:=.type "code",data:=.fields #[.str (Str.ofString "<module>") 182,.str (Str.ofString "<module>") 183,.str (Str.ofString "/claim/cut.py") 184,.int 1 0,.int 0 0,.int 0 0,.int 0 0,.int 0 0,.ref 11,.bool false,.int 181 0,.ref 12,.none,.none,.none,.none,.int 185 0,.int 1 0,.str (Str.ofString "/claim/cut.py") 186] }
noncomputable def Z6:Obj:={ cls:=.type "frame",slots:=#[some (.ref 13),some (.ref 3),some (.ref 3),none,some (.str (Str.ofString "__main__") 164),none,some (.ref 0)] }
noncomputable def Z0(P:Params):List Obj:=(boot_heap P).objs.toList++[Z7,a8,Z5,Z6]
noncomputable def nN(P:Params)(o:Params→Obj)(l r:BT):BT:=.node (o P) l r
noncomputable def lN(P:Params)(o:Params→Obj):BT:=.node (o P) .nil .nil
noncomputable def ZF(P:Params):BT :=
 nN P boot_o_0 (nN P boot_o_1 (nN P boot_o_3 (lN P boot_o_7) (.node Z7 .nil .nil)) (nN P boot_o_5 (lN P boot_o_9) (.node Z5 .nil .nil)))
  (nN P boot_o_2 (nN P boot_o_4 (lN P boot_o_8) (.node a8 .nil .nil)) (nN P boot_o_6 (lN P boot_o_10) (.node Z6 .nil .nil)))
noncomputable def Vf:Life:=Life.mk [] [] [] 0 [] [] false #[] [] 0 false false false 0 [2000,10,10] false 0 true [] [] 0 false
noncomputable def sA(w:World)(os:OsState):SD:=⟨⟨⟨Z0 w.params⟩,Vf⟩,#[],boot_drawn,187,os⟩
noncomputable def sB(w:World)(os:OsState):SharedT:=⟨ZF w.params,15,Vf,#[],boot_drawn,187,os⟩
noncomputable def Ky(p:Program):Env:={ scope:=p.main.scope,locals:=mainNs,globals:=mainNs,cells:=[],code:=.ref 13,frame:=some 14 }
noncomputable def cB(p:Program):Code:=.body (behindTheImports p) (Ky p)
noncomputable abbrev Ft:Option VL:=some (.ref 6)
noncomputable abbrev bB:List Frame:=[topFrame q0]
noncomputable def Q7(p:Program)(M:Nat)(w:World)(os:OsState):Option (Flow×SharedT×Code×Pos) :=
 PySem.W.Fast.tw10110043849684766642 PySem.W.Fast.tw14364793385576792824 p w 11 Ft 1 M (sB w os) (piecesOf (behindTheImports p) (Ky p) (cB p) q0 bB)
noncomputable def Rh(p:Program)(M:Nat)(w:World)(os:OsState):SharedT:=match Q7 p M w os with|some (_,s,_)=>s|none=>sB w os
def WM{p:Program}{M:Nat}{w:World}{os:OsState}{r:Option (Flow×SharedT×Code×Pos)}(h:Q7 p M w os=r) :
  segRunT treeTable p w 11 Ft 1 M (sB w os) (piecesOf (behindTheImports p) (Ky p) (cB p) q0 bB)=r:=by
 have e:segRunT treeTable=PySem.W.Fast.tw10110043849684766642 PySem.W.Fast.tw14364793385576792824:=congr PySem.W.Fast.te10110043849684766642 PySem.W.Fast.te14364793385576792824;rw [e];exact h
def Yb{p:Program}{M M0:Nat}{posE:Pos}{w:World}{os:OsState}
 (pre:topGo treeTable p w 11 Ft 12 ⟨boot_heap w.params,#[],boot_drawn,boot_toks,os⟩ (topStub p)=some (sA w os,⟨denote treeTable (cB p),cB p,q0,bB⟩))
 (blk:segRun treeTable p w 11 Ft 1 1 (sA w os) (blockOf (behindTheImports p) (Ky p) (cB p) q0 bB)=some (.next,(sB w os).abs,cB p,q0))
 (seg:Q7 p M w os=some (.next,Rh p M w os,cB p,posE))
 (fin:∀s,topRun treeTable p w 11 Ft 2 s (restOf [] (Ky p) (cB p) posE bB)=some s)(hM:M0=12+(1+(M+2))) :
  topRun treeTable p w 11 Ft M0 ⟨boot_heap w.params,#[],boot_drawn,boot_toks,os⟩ (topStub p)=some (Rh p M w os).abs:=by
 subst hM;refine go_top pre (piece_block blk ?_);have h:=piece_app (rest:=[]) (segRun_of (WM seg)) (fin _);rw [List.append_nil]at h;exact h
def V4{p q:Program}{loose:List Str}{Xt:SD→Bool}{α:Type}{Yf:SD→α}{Ya:World→α}{N M:Nat}{S:World→OsState→SD}
 (open_:∀w:World,(fencedOpening treeTable p w N).map (fun s=>(s.heap,s.gens,s.drawn,s.toks))=some (boot_heap w.params,#[],boot_drawn,boot_toks))
 (size:∀w:World,((boot_heap w.params).isNs mainGlobals&&(#[]:Array GenState).size==0,(boot_heap w.params).objs.size,(boot_heap w.params).nsMap mainGlobals "__annotations__")=(true,11,Ft))
 (run:∀w os,topRun treeTable p w 11 Ft M ⟨boot_heap w.params,#[],boot_drawn,boot_toks,os⟩ (topStub p)=some (S w os))(le:Nat.ble M N=true)
 (ok:∀w os,(staticsOk (importedModules p.main.body) (boot_heap w.params) (S w os).heap&&namesBound p (S w os).heap&&gensDone (S w os)&&laidKept (boot_heap w.params) (S w os).heap)=true)
 (seen:∀w os,openSeen q loose (importedModules p.main.body) Xt true (S w os)=openGood q loose)
 (hY:∀w os,Yf (S w os)=Ya w):LeftO p q loose Xt Yf Ya N:=fun w=>by
 obtain⟨⟨h,gs,d,k,os⟩,e,e'⟩:=aJ.mp (open_ w);obtain⟨rfl,rfl,rfl,rfl⟩:h=boot_heap w.params∧gs=#[]∧d=boot_drawn∧k=boot_toks:=by simpa using e'
 obtain⟨z1,z2,z3⟩:_∧_∧_:=by simpa only [Prod.mk.injEq]using size w
 have l1:=ok w os;have r:=topRun_mono (N-M) _ _ _ _ (run w os);rw [show M+(N-M)=N by have:=Nat.le_of_ble_eq_true le;omega]at r;have t:topFrom treeTable p w N ⟨boot_heap w.params,#[],boot_drawn,boot_toks,os⟩=some (S w os):=by
  unfold topFrom;dsimp only;rw [z1,z2,z3,r];show(match staticsOk (importedModules p.main.body) (boot_heap w.params) (S w os).heap&&namesBound p (S w os).heap&&gensDone (S w os)&&laidKept (boot_heap w.params) (S w os).heap with|true=>_|false=>_)=_;rw [l1]
 unfold openEnds;rw [e];show(topFrom treeTable p w N _).map _=_;rw [t];exact bG some (Prod.ext (seen w os) (hY w os))
def Zw(w:World):((boot_heap w.params).isNs mainGlobals&&(#[]:Array GenState).size==0,(boot_heap w.params).objs.size,(boot_heap w.params).nsMap mainGlobals "__annotations__")=(true,11,Ft):=by kernel_rfl
end Opn
namespace Q39
open PySem L2
def top(i:Nat):Stmt:=PySem.Challenge.pw_stepgrove_k39_tree_weights.main.body.getD i (.Pass ⟨0,0,0,0⟩)
abbrev Fs:Stmt:=top 6
abbrev Fu:Stmt:=top 7
abbrev C7:Stmt:=top 8
abbrev IW:Stmt:=top 9
abbrev Bt:Stmt:=top 10
abbrev E1:Stmt:=top 11
abbrev Hv:Stmt:=top 12
abbrev IM:Stmt:=top 15
abbrev Dz:Stmt:=top 16
abbrev IX:Stmt:=top 17
abbrev Jg:Stmt:=top 19
abbrev EK:Stmt:=top 20
abbrev FD:Stmt:=top 21
abbrev HN:Stmt:=top 23
abbrev FJ:Stmt:=top 24
abbrev FH:Stmt:=top 26
abbrev Eo:Stmt:=top 27
abbrev IT:Stmt:=top 28
abbrev Jm:Stmt:=top 29
abbrev HM:Stmt:=top 31
abbrev D7:Stmt:=top 32
abbrev Ht:Stmt:=top 33
abbrev IP:Stmt:=top 34
abbrev HG:Stmt:=top 36
abbrev Fo:Stmt:=top 37
abbrev GU:Stmt:=top 38
abbrev GR:Stmt:=top 40
abbrev GZ:Stmt:=top 41
abbrev GQ:Stmt:=top 42
abbrev Fx:Stmt:=top 43
abbrev HE:Stmt:=top 44
abbrev Gk:Stmt:=top 45
abbrev HC:Stmt:=top 46
abbrev Fz:Stmt:=top 47
abbrev JU:Stmt:=top 48
abbrev VB:Stmt:=top 49
def OI{n:String}:L7 (.ty n)≠.none:=fun z=>nomatch z
def Qp:Sp:=fun vs H Q _=>∃a b,vs=[.int a,.int b]∧Q (.int (FM.gi a b)) H
def Oz:Sp:=fun vs H Q _=>∃t b m,vs=[.int t,.int b]∧b≠0∧m≤9000∧b.natAbs<2^m∧∀l H',AH H H'→H' l=some (.tup (Fl (Rat.divInt t b)))→Q (.ref l) H'
section
variable{P:Program}{w:World}{K:Fg}{mg:Str→Option VL}{base:Heap}{f g:AD}{fd gd:FuncData}
def JA:Ab ["one", "other", "greater", "lesser", "rest"] ["one", "other"] (AW Bt):=Bo
def Z8(σ:St):Nat:=match σ[3]? with|some (some (V.int l))=>l.natAbs|_=>0
def I0(F:Fn K mg "greatest_divisor" Bt ["one", "other"] f fd)(Gw:mg "abs" = none):AV P w K mg base Ad 1 f fd ["one", "other"] Qp:=by
 have sc:=JA;refine F.F.ok (k:=0) sc (fun vs H Q E h=>?_) (fun cdv A outer s H vs Q E hr h=>?_)
 ·obtain⟨a,b,rfl,_⟩:=h
  rfl
 obtain⟨a,b,rfl,q⟩:=h;refine⟨_,(AM (Aj (i:=2) sc.nd rfl (Or.inl rfl) (Ao IZ rfl Gw PyProof.Rows.boot_abs (AB (pv 0) AF)))
 (AM (Aj (i:=3) sc.nd rfl (Or.inl rfl) (Ao IZ rfl Gw PyProof.Rows.boot_abs (AB (pv 1) AF)))
 (AM (Kp aQ (A9 Nq (pv 3) AN (Am _))
  (AM (Aj (i:=4) sc.nd rfl (Or.inl rfl) (Au HV (pv 2) (pv 3)))
  (AM (Aj (i:=2) sc.nd rfl (Or.inl rfl) (pv 3))
  (AR (Aj (i:=3) sc.nd rfl (Or.inl rfl) (pv 4))))))
 (AR (Aq (pv 2)))))),?_⟩
 refine⟨_,rfl,_,rfl,_,rfl,_,rfl,?_⟩;refine Kf (fun σ H'=>∃g l r,σ=[some (.int a),some (.int b),some (.int g),some (.int l),r]∧H=H'∧Int.gcd g l=Int.gcd a b∧0≤g∧0≤l) (fun σ _=>Z8 σ) ?_ ?_ ?_
 ·exact⟨_,_,_,rfl,rfl,FM.QY a b,FM.abs_nonneg a,FM.abs_nonneg b⟩
 ·rintro σ H' ⟨g,l,r,rfl,rfl,hg,h0,h1⟩;refine⟨_,rfl,rfl,_,rfl,BV (fun c=>?_) (fun c=>?_)⟩
  ·have hl:l≠0:=fun z=>by subst z;simp at c
   refine⟨_,rfl,_,rfl,_,_,rfl,rfl,hl,_,rfl,_,rfl,⟨_,_,_,rfl,rfl,?_,h1,FM.fmod_nonneg hl h1⟩,?_⟩
   ·rw [FM.OC];exact hg
   ·exact FM.NL g l hl
  ·have hl:l=0:=by simpa using c
   subst hl;refine⟨_,rfl,?_⟩;rw [FM.SX hg h0];exact q
 ·exact fun σ H Q Q' hq ⟨v,e,s,k,e2,q⟩=>⟨v,e,s,k,e2,hq _ _ q⟩
def Mi:Ab ["top", "bottom", "shared"] ["top", "bottom"] (AW Fs):=Bo
def Md(F:Fn K mg "fraction_of" Fs ["top", "bottom"] f fd)(A1:Fn K mg "greatest_divisor" Bt ["one", "other"] g gd)
 (Bv:AV P w K mg base Ad 1 g gd ["one", "other"] Qp):AV P w K mg base Ad 2 f fd ["top", "bottom"] Oz:=by
 have sc:=Mi;refine F.F.ok (k:=1) sc (fun vs H Q E h=>?_) (fun cdv A outer s H vs Q E hr h=>?_)
 ·obtain⟨t,b,m,rfl,_⟩:=h
  rfl
 obtain⟨t,b,m,rfl,hb,hm,hs,q⟩:=h;refine⟨_,(AM (Bd (A9 J3 (pv 1) AN (Am _))
  (AR Ks)
  BD)
 (AM (Aj (i:=2) sc.nd rfl (Or.inl rfl) (Av A1 Bv hr rfl (AB (pv 0) (AB (pv 1) AF))))
 (AM (Bd (A9 Nj (pv 1) AN (Am _))
  (AR (Aj (i:=2) sc.nd rfl (Or.inl rfl) (RB Og (pv 2))))
  BD)
 (AR (Aq (DV (AB (Au EF (pv 0) (pv 2)) (AB (Au EF (pv 1) (pv 2)) AF)))))))),?_⟩
 refine⟨_,rfl,rfl,_,rfl,BV (fun c=>absurd c (by simpa using hb)) (fun _=>?_)⟩;refine⟨_,rfl,_,rfl,t,b,rfl,?_⟩
 try dsimp only [Ee]
 refine Kt (fun σ' H'=>σ'=[some (.int t),some (.int b),some (.int (FM.gs t b))]∧H=H') (fun nx hn=>?_) ?_
 ·refine⟨_,rfl,_,_,rfl,rfl,_,rfl,BV (fun c=>?_) (fun c=>?_)⟩
  ·have c':b<0:=aa c;refine⟨_,rfl,_,rfl,hn _ _ ⟨?_,rfl⟩⟩;unfold FM.gs;rw [if_pos c']
   rfl
  ·have c':¬b<0:=ax (aZ.mpr c);refine hn _ _ ⟨?_,rfl⟩;unfold FM.gs;rw [if_neg c']
   rfl
 ·rintro σ' H' ⟨rfl,rfl⟩;have h0:FM.gs t b≠0:=FM.Vi hb;have h1:(FM.gs t b).natAbs<2^m:=aY (FM.VI hb) hs;refine⟨_,rfl,_,rfl,_,_,rfl,rfl,⟨h0,m,hm,h1⟩,_,rfl,_,rfl,_,_,rfl,rfl,⟨h0,m,hm,h1⟩,SW,fun p hp=>?_⟩;refine q p _ (AU hp _) ?_;rw [AJ];show some (HO.tup [V.int (t.fdiv (FM.gs t b)),V.int (b.fdiv (FM.gs t b))])=_;rw [FM.OQ hb,FM.O2 hb]
  rfl
end
def PL{c b:Int}(hc:1≤c)(hb:1≤b):1≤c.fdiv (FM.gi c b)*b∧c ∣ c.fdiv (FM.gi c b)*b∧b ∣ c.fdiv (FM.gi c b)*b∧(c.fdiv (FM.gi c b)).natAbs≤c.natAbs:=by
 have hg:0<FM.gi c b:=FM.Jj (by omega);obtain⟨q,hq⟩:=FM.KN c b;obtain⟨r,hr⟩:=FM.Je c b;have e:=FM.Ei (Int.ne_of_gt hg) hq;refine⟨?_,?_,Int.dvd_mul_left _ _,FM.C8 _ _⟩
 ·rw [e];have hq0:0<q:=by
   rcases Int.lt_or_le 0 q with h|h
   ·exact h
   ·have:=Int.mul_nonpos_of_nonneg_of_nonpos (Int.le_of_lt hg) h;omega
  exact Int.mul_pos hq0 (by omega)
 ·rw [e];refine⟨r,?_⟩;rw [hr]
  conv=>rhs;rw [hq]
  rw [←hr,Int.mul_comm (FM.gi c b) q,Int.mul_assoc,Int.mul_comm (FM.gi c b) r]
  conv=>lhs;rw [hr]
  rw [Int.mul_comm (FM.gi c b) r]
def Vj:Sp:=fun vs H Q _=>∃(b:Int) (p k:Nat),vs=[.int b,.int p]∧b.natAbs<2^k∧k*p≤4000∧Q (.int (b^p)) H
def Lr{b:Int}{k e p:Nat}(hb:b.natAbs<2^k)(he:e≤p):(b^e).natAbs<2^(k*p+1):=by
 rw [Int.natAbs_pow];have h1:b.natAbs^e≤(2^k)^e:=Nat.pow_le_pow_left (bE hb) e;rw [←Nat.pow_mul]at h1;exact aY h1 (Nat.pow_lt_pow_right (by decide) (Nat.lt_succ_of_le (bA k he)))
def de(σ:St):Nat:=match σ[4]? with|some (some (V.int l))=>l.natAbs|_=>0
section
variable{P:Program}{w:World}{K:Fg}{mg:Str→Option VL}{base:Heap}{f g g1 g2:AD}{fd gd gd1 gd2:FuncData}
def K7:Ab ["bottoms", "common", "bottom"] ["bottoms"] (AW E1):=Bo
def Pz:Ab ["base", "power", "product", "square", "left"] ["base", "power"] (AW Hv):=Bo
def Pt(F:Fn K mg "power_of" Hv ["base", "power"] f fd):AV P w K mg base Ad 1 f fd ["base", "power"] Vj:=by
 have sc:=Pz;refine F.F.ok (k:=0) sc (fun vs H Q E h=>?_) (fun cdv A outer s H vs Q E hr h=>?_)
 ·obtain⟨b,p,k,rfl,_⟩:=h
  rfl
 obtain⟨b,p,k,rfl,hb,hk,q⟩:=h;refine⟨_,(AM (Aj (i:=2) sc.nd rfl (Or.inl rfl) AN)
 (AM (Aj (i:=3) sc.nd rfl (Or.inl rfl) (pv 0))
 (AM (Aj (i:=4) sc.nd rfl (Or.inl rfl) (pv 1))
 (AM (Kp aQ (A9 IL (pv 4) AN (Am _))
  (AM (Bd (A9 J3 (Au JB (pv 4) AN) AN (Am _))
   (AR (Aj (i:=2) sc.nd rfl (Or.inl rfl) (Au FE (pv 2) (pv 3))))
   BD)
  (AM (Aj (i:=4) sc.nd rfl (Or.inl rfl) (Au Dl (pv 4) AN))
  (AR (Bd (A9 IL (pv 4) AN (Am _))
   (AR (Aj (i:=3) sc.nd rfl (Or.inl rfl) (Au FE (pv 3) (pv 3))))
   BD)))))
 (AR (Aq (pv 2))))))),?_⟩
 refine⟨_,rfl,_,rfl,?_⟩;refine Kf (fun σ H'=>∃e f l:Nat,σ=[some (.int b),some (.int p),some (.int (b^e)),some (.int (b^f)),some (.int l)]∧H=H'∧e+f*l=p) (fun σ _=>de σ) ?_ ?_ ?_
 ·refine⟨0,1,p,?_,rfl,by omega⟩;rw [Int.pow_zero,Int.pow_succ,Int.pow_zero,Int.one_mul]
  rfl
 ·rintro σ H' ⟨e,f,l,rfl,rfl,he⟩;refine⟨_,rfl,_,_,rfl,rfl,_,rfl,BV (fun c=>?_) (fun c=>?_)⟩
  ·have hl:0<l:=by have:=aa c;omega
   have hfp:f≤p:=by
    have:f*1≤f*l:=bA f hl;omega
   try dsimp only [Ee]
   refine Kt (fun σ' H'=>∃e':Nat,σ'=[some (.int b),some (.int p),some (.int (b^e')),some (.int (b^f)),some (.int l)]∧H=H'∧e'+f*(2*(l / 2))=p) (fun nx hnx=>?_) ?_
   ·refine⟨_,rfl,_,_,rfl,rfl,(by show(0:Int)<2;decide),rfl,_,rfl,BV (fun c=>?_) (fun c=>?_)⟩
    ·have hodd:l % 2=1:=by
      have:((l:Int) % 2)=1:=by simpa using c
      omega
     refine⟨_,rfl,_,rfl,_,_,rfl,rfl,Q6 (Lr hb (show e≤p by omega)) (Lr hb hfp) (by omega),hnx _ _ ⟨e+f,?_,rfl,?_⟩⟩
     ·show [some (V.int b),some (V.int p),some (V.int (b^e*b^f)),some (V.int (b^f)),some (V.int l)]=_;rw [←Int.pow_add]
     ·have:l=2*(l / 2)+1:=by omega
      rw [←he]
      conv=>rhs;rw [this,Nat.mul_add,Nat.mul_one]
      omega
    ·have hev:l % 2=0:=by
      have:¬((l:Int) % 2)=1:=by simpa using c
      omega
     refine hnx _ _ ⟨e,rfl,rfl,?_⟩;rw [show 2*(l / 2)=l by omega];exact he
   ·rintro σ' _ ⟨e',rfl,rfl,he'⟩;refine⟨_,rfl,_,_,rfl,rfl,⟨by decide,by decide⟩,?_⟩;have el:((l:Int) / 2)=((l / 2:Nat):Int):=by omega
    refine⟨_,rfl,_,_,rfl,rfl,_,rfl,BV (fun c=>?_) (fun c=>?_)⟩
    ·refine⟨_,rfl,_,rfl,_,_,rfl,rfl,Q6 (Lr hb hfp) (Lr hb hfp) (by omega),⟨e',f+f,l / 2,?_,rfl,?_⟩,?_⟩
     ·show [some (V.int b),some (V.int p),some (V.int (b^e')),some (V.int (b^f*b^f)),some (V.int ((l:Int) / 2))]=_;rw [el,←Int.pow_add]
     ·rw [←he',←Nat.two_mul,Nat.mul_assoc,Nat.mul_left_comm]
     ·show((l:Int) / 2).natAbs<((l:Nat):Int).natAbs;omega
    ·refine⟨⟨e',f,l / 2,?_,rfl,?_⟩,?_⟩
     ·show [some (V.int b),some (V.int p),some (V.int (b^e')),some (V.int (b^f)),some (V.int ((l:Int) / 2))]=_;rw [el]
     ·have:l / 2=0:=by have:=ax (aZ.mpr c);omega
      rw [this]at he' ⊢
      simpa using he'
     ·show((l:Int) / 2).natAbs<((l:Nat):Int).natAbs;omega
  ·have hl:l=0:=by have:=ax (aZ.mpr c);omega
   subst hl;rw [Nat.mul_zero,Nat.add_zero]at he;subst he;exact⟨_,rfl,q⟩
 ·exact fun σ H Q Q' hq ⟨v,e,s,k,e2,e3,e4,q1,q2⟩=>⟨v,e,s,k,e2,e3,e4,q1,hq _ _ q2⟩
end
def Qd{l:AD}{H:Hp}:∀ {ds:List PD} {xs:List V} (i:Nat),AY l H ds xs→AY l H (ds.drop i) (xs.drop i)
 |ds,xs,0,h=>h
 |[],xs,i+1,h=>by rw [AY]at h;subst h;exact .nil
 |d::ds,xs,i+1,h=>by
  rw [AY]at h;obtain⟨x,r,rfl,_,h2⟩:=h;exact Qd i h2
def DU(H:Hp)(d:PD)(v:V):Prop:=∃N:Nat,∀l,N≤l→Dt l H d v
def A3(H:Hp)(ds:List PD)(xs:List V):Prop:=∃N:Nat,∀l,N≤l→AY l H ds xs
def DU.same{H H':Hp}{d:PD}{v:V}(h:DU H d v)(e:AH H H'):DU H' d v:=let⟨N,k⟩:=h;⟨N,fun l hl=>(k l hl).same e⟩
def A3.same{H H':Hp}{d:List PD}{v:List V}(h:A3 H d v)(e:AH H H'):A3 H' d v:=let⟨N,k⟩:=h;⟨N,fun l hl=>(k l hl).same e⟩
def DU.int{H:Hp}{i:Int}:DU H (.int i) (.int i):=⟨0,fun _ _=>.int⟩
def DU.bool{H:Hp}{i:Bool}:DU H (.bool i) (.bl i):=⟨0,fun _ _=>.bool⟩
def DU.BG{H:Hp}:DU H .none .BG:=⟨0,fun _ _=>.BG⟩
def DU.str{H:Hp}{x:Str}:DU H (.str x) (.str x):=⟨0,fun _ _=>.str⟩
def A3.nil{H:Hp}:A3 H [] []:=⟨0,fun _ _=>.nil⟩
def A3.cons{H:Hp}{d:PD}{ds:List PD}{x:V}{xs:List V}(h:DU H d x)(k:A3 H ds xs):A3 H (d::ds) (x::xs) :=
 let⟨N,a⟩:=h;let⟨M,b⟩:=k;⟨max N M,fun l hl=>.cons (a l (by omega)) (b l (by omega))⟩
def A3.drop{H:Hp}{ds:List PD}{xs:List V}(i:Nat)(h:A3 H ds xs):A3 H (ds.drop i) (xs.drop i):=let⟨N,a⟩:=h;⟨N,fun l hl=>Qd i (a l hl)⟩
def A3.len{H:Hp}{ds:List PD}{xs:List V}(h:A3 H ds xs):xs.length=ds.length:=let⟨N,a⟩:=h;(a N (aE _)).len
def A3.get{H:Hp}{ds:List PD}{xs:List V}{i:Nat}{d:PD}(h:A3 H ds xs)(e:ds[i]? = some d):∃v,xs[i]? = some v∧DU H d v:=by
 have hl:=h.len;have hi:i<xs.length:=by rw [hl];exact(aD.mp e).1
 have hx:xs[i]? = some xs[i]:=by simp [hi]
 obtain⟨N,a⟩:=h;refine⟨xs[i],hx,N,fun l hl=>?_⟩;obtain⟨d',h1,h2⟩:=(a l hl).get hx;rw [e]at h1;cases h1;exact h2
def DU.lst{H:Hp}{a:AD}{ds:List PD}{xs:List V}(h:H a=some (.lst xs))(k:A3 H ds xs):DU H (.list ds) (.ref a) :=
 let⟨N,b⟩:=k;⟨max N (a+1),fun l hl=>.lst (aK (show a<l from aH (bO a) (aM (Nat.le_max_right _ _) hl))) h (b l (by omega))⟩
def DU.tup{H:Hp}{a:AD}{ds:List PD}{xs:List V}(h:H a=some (.tup xs))(k:A3 H ds xs):DU H (.tuple ds) (.ref a) :=
 let⟨N,b⟩:=k;⟨max N (a+1),fun l hl=>.tup (aK (show a<l from aH (bO a) (aM (Nat.le_max_right _ _) hl))) h (b l (by omega))⟩
def DU.VT{H:Hp}{ds:List PD}{v:V}(h:DU H (.list ds) v):∃a xs,v=.ref a∧H a=some (.lst xs)∧A3 H ds xs:=by
 obtain⟨N,b⟩:=h;have h0:=b N (aE _);rw [Dt]at h0;obtain⟨a,xs,rfl,_,ha,_⟩:=h0;refine⟨a,xs,rfl,ha,N,fun l hl=>?_⟩;have h1:=b l hl;rw [Dt]at h1;obtain⟨a',xs',e,_,ha',hx'⟩:=h1;cases e;rw [ha]at ha';cases ha';exact hx'
def DU.Z9{H:Hp}{ds:List PD}{v:V}(h:DU H (.tuple ds) v):∃a xs,v=.ref a∧H a=some (.tup xs)∧A3 H ds xs:=by
 obtain⟨N,b⟩:=h;have h0:=b N (aE _);rw [Dt]at h0;obtain⟨a,xs,rfl,_,ha,_⟩:=h0;refine⟨a,xs,rfl,ha,N,fun l hl=>?_⟩;have h1:=b l hl;rw [Dt]at h1;obtain⟨a',xs',e,_,ha',hx'⟩:=h1;cases e;rw [ha]at ha';cases ha';exact hx'
def A3.VV{H:Hp}{d e:PD}{xs:List V}(h:A3 H [d,e] xs):∃x y,xs=[x,y]∧DU H d x∧DU H e y:=by
 obtain⟨x,h1,h2⟩:=h.get (i:=0) rfl;obtain⟨y,h3,h4⟩:=h.get (i:=1) rfl;have:=h.len
 match xs,this with
 |[a,b],_ =>
  simp at h1 h3;subst h1 h3;exact⟨a,b,rfl,h2,h4⟩
mutual
def Zr{c:AD}{H:Hp}:∀ {d:PD} {v:V},Dt c H d v→DU H d v
 |.none,_,h=>by rw [Dt]at h;subst h;exact .BG
 |.bool _,_,h=>by rw [Dt]at h;subst h;exact .bool
 |.int _,_,h=>by rw [Dt]at h;subst h;exact .int
 |.str _,_,h=>by rw [Dt]at h;subst h;exact .str
 |.tuple _,_,h=>by
  rw [Dt]at h;obtain⟨a,xs,rfl,n,h1,h2⟩:=h;exact .tup h1 (EI h2)
 |.list _,_,h=>by
  rw [Dt]at h;obtain⟨a,xs,rfl,n,h1,h2⟩:=h;exact .lst h1 (EI h2)
 |.dict _,_,h=>by rw [Dt]at h;exact h.elim
def EI{c:AD}{H:Hp}:∀ {ds:List PD} {xs:List V},AY c H ds xs→A3 H ds xs
 |[],_,h=>by rw [AY]at h;subst h;exact .nil
 |_::_,_,h=>by
  rw [AY]at h;obtain⟨x,r,rfl,h1,h2⟩:=h;exact .cons (Zr h1) (EI h2)
end
def DU.br{K:Fg}{H:Hp}{d:PD}{v:V}(h:DU H d v):Br K H d v:=let⟨N,b⟩:=h;(b N (aE _)).br
def DU.ints{H:Hp}{ps:List Int}{v:V}(h:DU H (.tuple (ps.map .int)) v):∃a,v=.ref a∧H a=some (.tup (ps.map V.int)):=by
 obtain⟨a,xs,rfl,ha,hx⟩:=h.Z9;refine⟨a,rfl,?_⟩;rw [ha]
 congr 2
 obtain⟨N,b⟩:=hx;have:=b N (aE _);clear b ha h
 induction ps generalizing xs with
 |nil=>rw [List.map_nil,AY]at this;exact this
 |cons p ps ih =>
  rw [List.map_cons,AY]at this;obtain⟨x,r,rfl,h1,h2⟩:=this;rw [Dt]at h1;subst h1;rw [List.map_cons,ih r h2]
def DD:PD→Bool
 |.tuple [.int a,.int b]=>decide (1≤b)&&(FM.gi a b==1)
 |_=>false
def K1{ds:List PD}(h:ds.length≠2∨∃d0 d1,ds=[d0,d1]∧((Fd d0 && !EW d0)=false∨(Fd d1 && !EW d1)=false)):DD (.tuple ds)=false:=by
 rcases h with h|⟨d0,d1,rfl,h⟩
 ·match ds,h with
  |[],_=>rfl
  |[a],_=>cases a<;>rfl
  |[_,_],h=>exact absurd rfl h
  |a::b::_::_,_=>cases a<;>first|rfl|(cases b<;>rfl)
 ·cases d0<;>first|rfl|(cases d1<;>first|rfl|(exfalso;rcases h with h|h<;>exact absurd h (by simp [Fd,EW])))
def Ss:Sp:=fun vs H Q _=>∃l d v,vs=[v]∧Dt l H d v∧Q (.bl (Fd d && !EW d)) H
def TQ:Sp:=fun vs H Q _=>∃l d v,vs=[v]∧Dt l H d v∧Q (.bl (DD d)) H
def Mo{d:PD}(h:(Fd d && !EW d)=true):∃i,d=.int i:=by
 cases d<;>first|exact⟨_,rfl⟩|(exact absurd h (by simp [Fd,EW]))|(rename_i b;cases b<;>exact absurd h (by decide))
section
variable{P:Program}{w:World}{K:Fg}{mg:Str→Option VL}{base:Heap}{f g g1 g2 g3 g4 g5:AD}{fd gd gd1 gd2 gd3 gd4 gd5:FuncData}
def Pr:Ab ["thing"] ["thing"] (AW IW):=Bo
def Pl(F:Fn K mg "is_whole" IW ["thing"] f fd)(Aa:mg "isinstance" = none)(Jy:mg "int" = none)(Hj:mg "bool" = none):AV P w K mg base Ad 1 f fd ["thing"] Ss:=by
 have sc:=Pr;refine F.F.ok (k:=0) sc (fun vs H Q E h=>?_) (fun cdv A outer s H vs Q E hr h=>?_)
 ·obtain⟨l,d,v,rfl,_⟩:=h
  rfl
 obtain⟨l,d,v,rfl,hd,q⟩:=h;refine⟨_,(AR (Aq (Li (Ao DY rfl Aa ah (AB (pv 0) (AB (ER (v:=.ty "int") rfl Jy PyProof.Rows.boot_int rfl) AF))) (N8 (X3 (Ao DY rfl Aa ah (AB (pv 0) (AB (ER (v:=.ty "bool") rfl Hj PyProof.Rows.boot_bool rfl) AF)))))))),?_⟩;refine⟨_,rfl,_,_,_,_,rfl,OI,hd.ty,OX K d hd.nodict,_,rfl,BV (fun c=>⟨_,rfl,_,_,_,_,rfl,OI,hd.ty,NU K d hd.nodict,_,rfl,?_⟩) (fun c=>?_)⟩
 ·rw [c,Bool.true_and]at q;exact q
 ·rw [Bool.eq_false_iff.mpr c,Bool.false_and]at q;exact q
def MK:Ab ["thing"] ["thing"] (AW Fu):=Bo
def MX(F:Fn K mg "is_fraction" Fu ["thing"] f fd)(Eh:Fn K mg "is_whole" IW ["thing"] g1 gd1)(A1:Fn K mg "greatest_divisor" Bt ["one", "other"] g2 gd2)
 (LZ:AV P w K mg base Ad 1 g1 gd1 ["thing"] Ss)(Bv:AV P w K mg base Ad 1 g2 gd2 ["one", "other"] Qp)(Aa:mg "isinstance" = none)(BX:mg "tuple" = none)(Ar:mg "len" = none):AV P w K mg base Ad 2 f fd ["thing"] TQ:=by
 have sc:=MK;refine F.F.ok (k:=1) sc (fun vs H Q E h=>?_) (fun cdv A outer s H vs Q E hr h=>?_)
 ·obtain⟨l,d,v,rfl,_⟩:=h
  rfl
 obtain⟨l,d,v,rfl,hd,q⟩:=h;refine⟨_,(AM (Bd (PW.pt (FR (CK (CM (Ao DY rfl Aa ah (AB (pv 0) (AB (ER (v:=.ty "tuple") rfl BX bN rfl) AF))))) (Fh (A9 Nq (Ao BQ rfl Ar aU (AB (pv 0) AF)) AN (Am _)))))
  (AR (Aq DC))
  BD)
 (AM (Bd (PW.pt (FR (CK (CM (Av Eh LZ hr rfl (AB (BM BS (pv 0) AN (fun _ _=>rfl)) AF)))) (Fh (CK (CM (Av Eh LZ hr rfl (AB (BM BS (pv 0) AN (fun _ _=>rfl)) AF)))))))
  (AR (Aq DC))
  BD)
 (AR (Aq (Li (HX VC (BM BS (pv 0) AN (fun _ _=>rfl)) AN (Am _)) (N8 (HX J3 (Av A1 Bv hr rfl (AB (BM BS (pv 0) AN (fun _ _=>rfl)) (AB (BM BS (pv 0) AN (fun _ _=>rfl)) AF))) AN (Am _)))))))),?_⟩
 refine⟨_,rfl,_,_,_,_,rfl,OI,hd.ty,K5 K d hd.nodict,_,rfl,?_⟩;have no:C4 d=false→DD d=false:=fun z=>by cases d<;>first|rfl|exact absurd z (by simp [C4])
 by_cases ht:C4 d=true
 ·rw [ht];obtain⟨ds,rfl⟩:∃ds,d=.tuple ds:=by cases d<;>first|exact⟨_,rfl⟩|exact absurd ht (by simp [C4])
  rw [Dt]at hd;obtain⟨a,xs,rfl,na,ha,hx⟩:=hd;have hlen:=hx.len;have s1:Ag K H a xs:=Ag.of ha;refine Fp ⟨_,rfl,a,xs,rfl,.inr s1,rfl,_,rfl,BV (fun c=>?_) (fun c=>?_)⟩
  ·have:ds.length≠2:=by
    rw [←hlen];intro z;rw [z]at c;exact absurd c (by decide)
   rw [K1 (.inl this)]at q;exact q
  ·have h2:xs.length=2:=by
    by_cases z:xs.length=2
    ·exact z
    ·exfalso
     refine c ?_;have:¬(V.int (xs.length:Nat)=V.int 2):=by simp;omega
     rw [decide_eq_false this];rfl
   obtain⟨d0,d1,rfl⟩:∃d0 d1,ds=[d0,d1]:=by
    match ds,(show ds.length=2 by omega) with
    |[x,y],_=>exact⟨x,y,rfl⟩
   rw [AY]at hx;obtain⟨x0,r,rfl,hx0,hx⟩:=hx;rw [AY]at hx;obtain⟨x1,r,rfl,hx1,hx⟩:=hx;rw [AY]at hx;subst hx;refine⟨_,rfl,_,_,_,_,rfl,rfl,s1,rfl,l,d0,x0,rfl,hx0,_,rfl,BV (fun c0=>?_) (fun c0=>?_)⟩
   ·rw [K1 (.inr ⟨d0,d1,rfl,.inl (by simp at c0;rcases c0 with c|c<;>simp [c])⟩)]at q;exact q
   refine⟨_,rfl,_,_,_,_,rfl,rfl,s1,rfl,l,d1,x1,rfl,hx1,_,rfl,BV (fun c1=>?_) (fun c1=>?_)⟩
   ·rw [K1 (.inr ⟨d0,d1,rfl,.inr (by simp at c1;rcases c1 with c|c<;>simp [c])⟩)]at q;exact q
   obtain⟨i,rfl⟩:=Mo (d:=d0) (by simpa using c0);obtain⟨j,rfl⟩:=Mo (d:=d1) (by simpa using c1);rw [Dt]at hx0 hx1;subst hx0 hx1;refine⟨_,rfl,_,_,_,_,rfl,rfl,s1,rfl,_,_,rfl,rfl,_,rfl,BV (fun c=>?_) (fun c=>?_)⟩
   ·refine⟨_,rfl,_,_,_,_,rfl,rfl,s1,rfl,_,rfl,_,_,_,_,rfl,rfl,s1,rfl,i,j,rfl,rfl,?_⟩;have hj:1≤j:=by have:=aa c;omega
    have e:DD (.tuple [.int i,.int j])=decide (V.int (FM.gi i j)=V.int 1):=by
     rw [DD,decide_eq_true hj,Bool.true_and,Bool.eq_iff_iff];simp
    rw [e]at q;exact q
   ·have hj:¬1≤j:=fun z=>c (bP (by omega));have e:DD (.tuple [.int i,.int j])=false:=by rw [DD,decide_eq_false hj,Bool.false_and]
    rw [e]at q;exact q
 ·rw [Bool.eq_false_iff.mpr ht];rw [no (aZ.mpr ht)]at q;exact Ce (Ce q)
end
def CC:PD→Bool
 |.list ds=>ds.all DD
 |_=>false
def FI:PD→Nat
 |.list ds=>ds.length
 |_=>0
def rowAt(ds:List PD)(i:Nat):Bool:=match ds[i]? with
 |some d=>CC d&&decide (FI d=i)
 |none=>true
def Hf(ds:List PD):Bool:=(List.range ds.length).all (rowAt ds)
def B0:PD→Bool
 |.list ds=>decide (1≤ds.length)&&(decide (ds.length≤40)&&Hf ds)
 |_=>false
def Hm:PD→Bool
 |.tuple [r,l]=>B0 r&&(CC l&&decide (FI l=FI r))
 |_=>false
def Rq{d:PD}(h:Cf d=false):CC d=false:=by cases d<;>first|rfl|exact absurd h (by simp [Cf])
def Pj{d:PD}(h:Cf d=false):B0 d=false:=by cases d<;>first|rfl|exact absurd h (by simp [Cf])
def Ry{d:PD}(h:C4 d=false):Hm d=false:=by cases d<;>first|rfl|exact absurd h (by simp [C4])
def RN{ds:List PD}(h:ds.length≠2):Hm (.tuple ds)=false:=by
 match ds,h with
 |[],_=>rfl
 |[_],_=>rfl
 |[_,_],h=>exact absurd rfl h
 |_::_::_::_,_=>rfl
def GX{d:PD}(h:Cf d=true):∃ds,d=.list ds:=by cases d<;>first|exact⟨_,rfl⟩|exact absurd h (by simp [Cf])
def UL{d:PD}(h:C4 d=true):∃ds,d=.tuple ds:=by cases d<;>first|exact⟨_,rfl⟩|exact absurd h (by simp [C4])
def Lb{d:PD}(h:CC d=true):Cf d=true:=by cases d<;>first|rfl|exact absurd h (by simp [CC])
def PR{d:PD}(h:B0 d=true):Cf d=true:=by cases d<;>first|rfl|exact absurd h (by simp [B0])
def NC{ds:List PD}(h:∀j,j<ds.length→rowAt ds j=true):Hf ds=true:=by
 unfold Hf;rw [List.all_eq_true];intro j hj;exact h j (ay.mp hj)
def NQ{ds:List PD}{i:Nat}(hi:i<ds.length)(h:rowAt ds i=false):Hf ds=false:=by
 refine aZ.mpr fun z=>?_;unfold Hf at z;rw [List.all_eq_true]at z;rw [z i (ay.mpr hi)]at h;cases h
def Ic{ds:List PD}{i:Nat}{d:PD}(h:ds[i]? = some d):rowAt ds i=(CC d&&decide (FI d=i)):=by unfold rowAt;rw [h]
def Ml:Sp:=fun vs H Q _=>∃l d v,vs=[v]∧Dt l H d v∧Q (.bl (CC d)) H
def SQ:Sp:=fun vs H Q _=>∃l d v,vs=[v]∧Dt l H d v∧∀H',AH H H'→Q (.bl (B0 d)) H'
def QF:Sp:=fun vs H Q _=>∃l d v,vs=[v]∧Dt l H d v∧∀H',AH H H'→Q (.bl (Hm d)) H'
section
variable{P:Program}{w:World}{K:Fg}{mg:Str→Option VL}{base:Heap}{f g g1 g2 g3 g4 g5:AD}{fd gd gd1 gd2 gd3 gd4 gd5:FuncData}
def Kj:Ab ["thing", "part"] ["thing"] (AW C7):=Bo
def K8(F:Fn K mg "are_fractions" C7 ["thing"] f fd)(EA:Fn K mg "is_fraction" Fu ["thing"] g1 gd1)
 (NZ:AV P w K mg base Ad 2 g1 gd1 ["thing"] TQ)(Aa:mg "isinstance" = none)(Cc:mg "list" = none):AV P w K mg base Ad 3 f fd ["thing"] Ml:=by
 have sc:=Kj;refine F.F.ok (k:=2) sc (fun vs H Q E h=>?_) (fun cdv A outer s H vs Q E hr h=>?_)
 ·obtain⟨l,d,v,rfl,_⟩:=h
  rfl
 obtain⟨l,d,v,rfl,hd,q⟩:=h;refine⟨_,(AM (Bd (CK (CM (Ao DY rfl Aa ah (AB (pv 0) (AB (ER (v:=.ty "list") rfl Cc bR rfl) AF)))))
  (AR (Aq DC))
  BD)
 (AM (DR aQ rfl (CB (pv 0)) (A7 (i:=1) sc.nd rfl (Or.inl rfl))
  (AR (Bd (CK (CM (Av EA NZ hr rfl (AB (pv 1) AF))))
   (AR (Aq DC))
   BD)))
 (AR (Aq DC)))),?_⟩
 refine⟨_,rfl,_,_,_,_,rfl,OI,hd.ty,PB K d hd.nodict,_,rfl,?_⟩;by_cases hL:Cf d=false
 ·rw [hL];rw [Rq hL]at q;exact Ce q
 have hL:Cf d=true:=by simpa using hL
 rw [hL];refine Fp ?_;obtain⟨ds,rfl⟩:=GX hL;rw [Dt]at hd;obtain⟨a,xs,rfl,na,ha,ht⟩:=hd;have hlen:=ht.len;refine⟨_,rfl,a,rfl,⟨_,AZ.of ha⟩,GY (xs:=xs) (fun i σ H'=>∃r1,σ=[some (.ref a),r1]∧H=H'∧∀j c,j<i→ds[j]? = some c→DD c=true) ?_ ?_ ?_ ?_⟩
 ·exact⟨_,rfl,rfl,fun j c h=>absurd h (aT _)⟩
 ·rintro i σ H' _ ⟨r1,rfl,rfl,_⟩;exact AZ.of ha
 ·rintro i x σ H' hx ⟨r1,rfl,rfl,hf⟩;obtain⟨c,hc,tc⟩:=ht.get hx;refine⟨_,rfl,l,c,x,rfl,tc,_,rfl,BV (fun b=>?_) (fun b=>?_)⟩
  ·have hb:DD c=false:=by simpa using b
   have e:CC (.list ds)=false:=aZ.mpr fun z=>by
    rw [CC,List.all_eq_true]at z;rw [z c (aO hc)]at hb;cases hb
   rw [e]at q;exact q
  ·have hb:DD c=true:=by simpa using b
   refine⟨_,rfl,rfl,fun j e hj he=>?_⟩;by_cases z:j=i
   ·subst z;rw [hc]at he;cases he;exact hb
   ·exact hf j e (by omega) he
 ·rintro σ H' ⟨r1,rfl,rfl,hf⟩;have e:CC (.list ds)=true:=by
   rw [CC,List.all_eq_true];intro c hc;obtain⟨j,hj⟩:=List.getElem?_of_mem hc;exact hf j c (by rw [hlen];exact(aD.mp hj).1) hj
  rw [e]at q;exact q
def Pn:Ab ["thing", "k", "row"] ["thing"] (AW IX):=Bo
def Pk{tk:Tok}(F:Fn K mg "are_rows" IX ["thing"] f fd)(Bg:Fn K mg "are_fractions" C7 ["thing"] g1 gd1)
 (Ex:AV P w K mg base Ad 3 g1 gd1 ["thing"] Ml)(HP:mg "MOST_ROWS" = some (.int 40 tk))(Aa:mg "isinstance" = none)(Cc:mg "list" = none)(Ar:mg "len" = none)(CT:mg "enumerate" = none):AV P w K mg base Ad 4 f fd ["thing"] SQ:=by
 have sc:=Pn;refine F.F.ok (k:=3) sc (fun vs H Q E h=>?_) (fun cdv A outer s H vs Q E hr h=>?_)
 ·obtain⟨l,d,v,rfl,_⟩:=h
  rfl
 obtain⟨l,d,v,rfl,hd,q⟩:=h;refine⟨_,(AM (Bd (PW.pt (FR (CK (CM (Ao DY rfl Aa ah (AB (pv 0) (AB (ER (v:=.ty "list") rfl Cc bR rfl) AF))))) (FR (A9 Nj (Ao BQ rfl Ar aU (AB (pv 0) AF)) AN (Am _)) (Fh (A9 IL (Ao BQ rfl Ar aU (AB (pv 0) AF)) (WC (v:=.int 40) rfl HP ⟨_,rfl⟩) (Am _))))))
  (AR (Aq DC))
  BD)
 (AM (DR aQ rfl (UC rfl CT (AB (pv 0) AF)) (Lu rfl (DQ (A7 (i:=1) sc.nd rfl (Or.inl rfl)) (DQ (A7 (i:=2) sc.nd rfl (Or.inl rfl)) Jq)))
  (AR (Bd (PW.pt (FR (CK (CM (Av Bg Ex hr rfl (AB (pv 2) AF)))) (Fh (A9 Nq (Ao BQ rfl Ar aU (AB (pv 2) AF)) (pv 1) (Am _)))))
   (AR (Aq DC))
   BD)))
 (AR (Aq DC)))),?_⟩
 refine⟨_,rfl,_,_,_,_,rfl,OI,hd.ty,PB K d hd.nodict,_,rfl,?_⟩;by_cases hL:Cf d=false
 ·rw [hL];have:=q H (.refl H);rw [Pj hL]at this;exact Ce (Ce this)
 have hL:Cf d=true:=by simpa using hL
 rw [hL];refine Fp ?_;obtain⟨ds,rfl⟩:=GX hL;rw [Dt]at hd;obtain⟨a,xs,rfl,na,ha,ht⟩:=hd;have hlen:=ht.len;refine⟨_,rfl,a,xs,rfl,.inl (AZ.of ha),_,_,rfl,rfl,_,rfl,BV (fun c=>?_) (fun c=>?_)⟩
 ·have e:B0 (.list ds)=false:=by
   have:¬1≤ds.length:=by rw [←hlen];have:=aa c;omega
   rw [B0,decide_eq_false this,Bool.false_and]
  have:=q H (.refl H);rw [e]at this;exact Ce this
 have h1:1≤ds.length:=by rw [←hlen];have:=ax (aZ.mpr c);omega
 refine⟨_,rfl,a,xs,rfl,.inl (AZ.of ha),_,_,rfl,rfl,_,rfl,BV (fun c=>?_) (fun c=>?_)⟩
 ·have e:B0 (.list ds)=false:=by
   have:¬ds.length≤40:=by rw [←hlen];have:=aa c;omega
   rw [B0,decide_eq_false this,Bool.false_and,Bool.and_false]
  have:=q H (.refl H);rw [e]at this;exact this
 have h2:ds.length≤40:=by rw [←hlen];have:=ax (aZ.mpr c);omega
 have e:B0 (.list ds)=Hf ds:=by rw [B0,decide_eq_true h1,decide_eq_true h2,Bool.true_and,Bool.true_and]
 rw [e]at q;refine⟨_,rfl,a,rfl,⟨_,AZ.of ha⟩,Sg (xs:=xs) (fun i σ H'=>∃r1 r2,σ=[some (.ref a),r1,r2]∧AH H H'∧∀j,j<i→rowAt ds j=true) ?_ ?_ ?_ ?_⟩
 ·exact⟨_,_,rfl,.refl _,fun j h=>absurd h (aT _)⟩
 ·rintro i σ H' _ ⟨r1,r2,rfl,e,_⟩;exact AZ.of (e _ _ ha)
 ·rintro i x σ H0 hx ⟨r1,r2,rfl,e0,hf⟩ p hp;obtain⟨c,hc,tc⟩:=ht.get hx;have hi:i<ds.length:=(aD.mp hc).1;have s1:=AU hp (.tup [.int (i:Nat),x]);have e1:=e0.trans s1;have hp':(upd H0 p (.tup [.int (i:Nat),x])) p=some (.tup [.int (i:Nat),x]):=AJ;generalize upd H0 p (.tup [.int (i:Nat),x])=H1 at s1 e1 hp';have tc:=tc.same e1;refine⟨p,_,rfl,Ag.of hp',rfl,_,_,rfl,_,_,rfl,rfl,?_⟩;refine⟨_,rfl,l,c,x,rfl,tc,_,rfl,BV (fun b=>?_) (fun b=>?_)⟩
  ·have hb:CC c=false:=by simpa using b
   have:=q H1 e1;rw [NQ hi (by rw [Ic hc,hb,Bool.false_and])]at this;exact Ce this
  have hb:CC c=true:=by simpa using b
  obtain⟨cs,rfl⟩:=GX (Lb hb);rw [Dt]at tc;obtain⟨b,ys,rfl,nb,hb',hy⟩:=tc;refine⟨_,rfl,b,ys,rfl,.inl (AZ.of hb'),_,rfl,rfl,_,rfl,BV (fun z=>?_) (fun z=>?_)⟩
  ·have hne:¬FI (.list cs)=i:=by
    rw [FI,←hy.len];intro zz;rw [zz]at z;simp at z
   have:=q H1 e1;rw [NQ hi (by rw [Ic hc,hb,decide_eq_false hne,Bool.and_false])]at this;exact this
  ·have hne:FI (.list cs)=i:=by
    rw [FI,←hy.len];by_cases zz:ys.length=i
    ·exact zz
    ·exfalso
     refine z ?_;have:¬(V.int (ys.length:Nat)=V.int (i:Nat)):=by simp;omega
     rw [decide_eq_false this];rfl
   refine⟨_,_,rfl,e1,fun j hj=>?_⟩;by_cases zz:j=i
   ·subst zz;rw [Ic hc,hb,decide_eq_true hne,Bool.and_self]
   ·exact hf j (by omega)
 ·rintro σ H' ⟨r1,r2,rfl,e1,hf⟩;have:=q H' e1;rw [NC fun j hj=>hf j (by rw [hlen];exact hj)]at this;exact this
def Px:Ab ["thing"] ["thing"] (AW IM):=Bo
def Pf(F:Fn K mg "is_table" IM ["thing"] f fd)(GF:Fn K mg "are_rows" IX ["thing"] g1 gd1)(Bg:Fn K mg "are_fractions" C7 ["thing"] g2 gd2)
 (RS:AV P w K mg base Ad 4 g1 gd1 ["thing"] SQ)(Ex:AV P w K mg base Ad 4 g2 gd2 ["thing"] Ml)(Aa:mg "isinstance" = none)(BX:mg "tuple" = none)(Ar:mg "len" = none):AV P w K mg base Ad 5 f fd ["thing"] QF:=by
 have sc:=Px;refine F.F.ok (k:=4) sc (fun vs H Q E h=>?_) (fun cdv A outer s H vs Q E hr h=>?_)
 ·obtain⟨l,d,v,rfl,_⟩:=h
  rfl
 obtain⟨l,d,v,rfl,hd,q⟩:=h;refine⟨_,(AM (Bd (PW.pt (FR (CK (CM (Ao DY rfl Aa ah (AB (pv 0) (AB (ER (v:=.ty "tuple") rfl BX bN rfl) AF))))) (Fh (A9 Nq (Ao BQ rfl Ar aU (AB (pv 0) AF)) AN (Am _)))))
  (AR (Aq DC))
  BD)
 (AR (Aq (Li (Av GF RS hr rfl (AB (BM BS (pv 0) AN (fun _ _=>rfl)) AF)) (Li (Av Bg Ex hr rfl (AB (BM BS (pv 0) AN (fun _ _=>rfl)) AF)) (N8 (HX J3 (Ao BQ rfl Ar aU (AB (BM BS (pv 0) AN (fun _ _=>rfl)) AF)) (Ao BQ rfl Ar aU (AB (BM BS (pv 0) AN (fun _ _=>rfl)) AF)) (Am _)))))))),?_⟩
 refine⟨_,rfl,_,_,_,_,rfl,OI,hd.ty,K5 K d hd.nodict,_,rfl,?_⟩;by_cases hL:C4 d=false
 ·rw [hL];have:=q H (.refl H);rw [Ry hL]at this;exact Ce (Ce this)
 have hL:C4 d=true:=by simpa using hL
 rw [hL];refine Fp ?_;obtain⟨ds,rfl⟩:=UL hL;rw [Dt]at hd;obtain⟨a,xs,rfl,na,ha,hx⟩:=hd;have hlen:=hx.len;have s1:Ag K H a xs:=Ag.of ha;refine⟨_,rfl,a,xs,rfl,.inr s1,rfl,_,rfl,BV (fun c=>?_) (fun c=>?_)⟩
 ·have:ds.length≠2:=by
   rw [←hlen];intro z;rw [z]at c;exact absurd c (by decide)
  have q:=q H (.refl H);rw [RN this]at q;exact q
 have h2:xs.length=2:=by
  by_cases z:xs.length=2
  ·exact z
  ·exfalso
   refine c ?_;have:¬(V.int (xs.length:Nat)=V.int 2):=by simp;omega
   rw [decide_eq_false this];rfl
 obtain⟨d0,d1,rfl⟩:∃d0 d1,ds=[d0,d1]:=by
  match ds,(show ds.length=2 by omega) with
  |[x,y],_=>exact⟨x,y,rfl⟩
 rw [AY]at hx;obtain⟨x0,r,rfl,hx0,hx⟩:=hx;rw [AY]at hx;obtain⟨x1,r,rfl,hx1,hx⟩:=hx;rw [AY]at hx;subst hx;rw [Hm]at q;refine⟨_,rfl,_,_,_,_,rfl,rfl,s1,rfl,l,d0,x0,rfl,hx0,fun H1 e1=>⟨_,rfl,BV (fun c0=>?_) (fun c0=>?_)⟩⟩
 ·rw [c0]at q;refine⟨_,rfl,_,_,_,_,rfl,rfl,e1.tup s1,rfl,l,d1,x1,rfl,hx1.same e1,_,rfl,BV (fun c1=>?_) (fun c1=>?_)⟩
  ·rw [c1]at q;obtain⟨r0,rfl⟩:=GX (PR c0);obtain⟨r1,rfl⟩:=GX (Lb c1);have hx0:=hx0.same e1;have hx1:=hx1.same e1;rw [Dt]at hx0 hx1;obtain⟨a0,y0,rfl,_,ha0,hy0⟩:=hx0;obtain⟨a1,y1,rfl,_,ha1,hy1⟩:=hx1;refine⟨_,rfl,_,_,_,_,rfl,rfl,e1.tup s1,rfl,a1,y1,rfl,.inl (AZ.of ha1),_,rfl,_,_,_,_,rfl,rfl,e1.tup s1,rfl,a0,y0,rfl,.inl (AZ.of ha0),rfl,?_⟩;have:=q H1 e1;rw [Bool.true_and,Bool.true_and,FI,FI,←hy0.len,←hy1.len]at this;have e:decide (V.int (y1.length:Nat)=V.int (y0.length:Nat))=decide (y1.length=y0.length):=by
    rw [Bool.eq_iff_iff];simp;omega
   rw [←e]at this;exact this
  ·rw [Bool.eq_false_iff.mpr c1,Bool.false_and,Bool.and_false]at q;exact q H1 e1
 ·rw [Bool.eq_false_iff.mpr c0,Bool.false_and]at q;exact q H1 e1
end
def bf{p:AD}{H H':Hp}{xs:List V}{ds:List PD}(hH:upd H p (.lst xs)=H')(hp:H p=none)(k:A3 H ds xs):AH H H'∧DU H' (.list ds) (.ref p)∧H' p=some (.lst xs):=by
 subst hH;have es:=AU hp (.lst xs);exact⟨es,.lst AJ (k.same es),AJ⟩
def Y9(r:Rat):DD (Af r)=true:=by
 have h:=r.den_nz;have k:=r.reduced;rw [Af,DD,decide_eq_true (show(1:Int)≤(r.den:Int) by omega),Bool.true_and];rw [beq_iff_eq];unfold FM.gi;unfold Nat.Coprime at k;rw [show r.num.gcd (r.den:Int)=1 from k]
 rfl
def IB{i n:Nat}(h:i<n)(hn:n≤60):i<sizeLine:=aH (show i<60 by omega) (by rw [sizeLine_eq];decide)
def RC{n:Nat}(hn:n≤60):n≤sizeLine:=aM hn (by rw [sizeLine_eq];decide)
structure Tb where
 rs:List (List Rat)
 ls:List Rat
def Aw(r:List Rat):List PD:=r.map Af
def Bc(r:List Rat):PD:=.list (Aw r)
def Bh(rs:List (List Rat)):List PD:=rs.map Bc
def BE(t:Tb):PD:=.tuple [.list (Bh t.rs),.list (Aw t.ls)]
structure Tb.Ok(m:Nat)(t:Tb):Prop where
 one:1≤t.rs.length
 most:t.rs.length≤m
 last:t.ls.length=t.rs.length
 row:∀(i:Nat) r,t.rs[i]? = some r→r.length=i
def PN(r:List Rat):∀e∈Aw r,DD e=true:=fun e he=>by
 obtain⟨q,_,rfl⟩:=ae.mp he;exact Y9 q
def B8(r:List Rat):(Aw r).length=r.length:=bH _
def Cr(r:List (List Rat)):(Bh r).length=r.length:=bH _
def YL(q:Rat):Sm 1 (Af q):=by
 refine .tup (Nat.le_of_ble_eq_true rfl) fun x hx=>?_;rcases aL.mp hx with rfl|hx
 ·exact leaf.sm trivial
 ·rw [List.mem_singleton.mp hx];exact leaf.sm trivial
def S5{r:List Rat}(h:r.length≤60):Sm 2 (Bc r):=by
 refine .lst (by rw [B8];omega) fun x hx=>?_;obtain⟨q,_,rfl⟩:=ae.mp hx;exact YL q
def Tb.Ok.bc{m:Nat}{t:Tb}(h:t.Ok m):∀r∈t.rs,r.length<t.rs.length:=fun r hr=>by
 obtain⟨i,hi⟩:=List.getElem?_of_mem hr;rw [h.row i r hi];exact(aD.mp hi).1
def Tb.Ok.sm{m:Nat}(hm:m≤60){t:Tb}(h:t.Ok m):Sm 4 (BE t):=by
 have h1:=h.most;have h2:=h.last;refine .tup (Nat.le_of_ble_eq_true rfl) fun x hx=>?_;rcases aL.mp hx with rfl|hx
 ·refine .lst (by rw [Cr];omega) fun r hr=>?_;obtain⟨q,hq,rfl⟩:=ae.mp hr;exact S5 (by have:=h.bc q hq;omega)
 ·rw [List.mem_singleton.mp hx];exact(S5 (r:=t.ls) (by omega)).up
def Tb.Ok.is{m:Nat}(hm:m≤40){t:Tb}(h:t.Ok m):Hm (BE t)=true:=by
 have h1:=h.one;have h2:=h.most;rw [BE,Hm,B0,FI,FI,Cr,B8,decide_eq_true h1,decide_eq_true (show t.rs.length≤40 by omega),decide_eq_true h.last,CC,Bool.true_and,Bool.true_and,Bool.and_true,List.all_eq_true.mpr (PN _),Bool.and_true];refine NC fun j hj=>?_;rw [Cr]at hj;have hr:t.rs[j]? = some t.rs[j]:=by simp [hj]
 rw [Ic (d:=Bc t.rs[j]) (by rw [Bh,List.getElem?_map,hr];rfl),Bc,FI,B8,decide_eq_true (h.row j _ hr),CC,Bool.and_true,List.all_eq_true.mpr (PN _)]
def A3.Xi{H:Hp}{d:PD}{ds:List PD}{xs:List V}(h:A3 H (d::ds) xs):∃x r,xs=x::r∧DU H d x∧A3 H ds r:=by
 obtain⟨N,b⟩:=h;have h0:=b N (aE _);rw [AY]at h0;obtain⟨x,r,rfl,_,_⟩:=h0;refine⟨x,r,rfl,⟨N,fun l hl=>?_⟩,⟨N,fun l hl=>?_⟩⟩
 ·have:=b l hl;rw [AY]at this;obtain⟨_,_,e,h1,_⟩:=this;cases e;exact h1
 ·have:=b l hl;rw [AY]at this;obtain⟨_,_,e,_,h1⟩:=this;cases e;exact h1
def DU.rat{H:Hp}{q:Rat}{v:V}(h:DU H (Af q) v):∃p,v=.ref p∧H p=some (.tup (Fl q)):=h.ints (ps:=[q.num,(q.den:Int)])
def Fc{H:Hp}{q:Rat}{p:AD}(h:H p=some (.tup (Fl q))):DU H (Af q) (.ref p):=.tup h (.cons .int (.cons .int .nil))
def Kx{c:AD}{zs:List V}{H:Hp}(hc:H c=some (.lst zs)):∀ {qs:List Rat} {xs:List V},A3 H (Aw qs) xs→AY c H (Aw qs) xs
 |[],xs,h=>by
  have:=h.len;rw [show Aw []=[] from rfl,List.length_nil]at this;rw [List.eq_nil_of_length_eq_zero this];exact .nil
 |q::qs,xs,h=>by
  obtain⟨x,r,rfl,h1,h2⟩:=A3.Xi h;obtain⟨p,rfl,hp⟩:=h1.rat;exact .cons (.tup (fun z=>by subst z;rw [hp]at hc;cases hc) hp (.cons .int (.cons .int .nil))) (Kx hc h2)
def M4{c:AD}{zs:List V}{H H':Hp}(hc:H c=some (.lst zs))(e:SameBut c H H'){qs:List Rat}{xs:List V}(h:A3 H (Aw qs) xs):A3 H' (Aw qs) xs:=EI (.but e (Kx hc h))
def Sk{c a:AD}{zs xs:List V}{H:Hp}{qs:List Rat}(hc:H c=some (.lst zs))(n:a≠c)(ha:H a=some (.lst xs))(h:A3 H (Aw qs) xs):Dt c H (Bc qs) (.ref a):=.lst n ha (Kx hc h)
def A3.set{H:Hp}{d:PD}{v:V}(hv:DU H d v):∀ {ds:List PD} {xs:List V} {j:Nat},A3 H ds xs→A3 H (ds.set j d) (xs.set j v)
 |[],xs,j,h=>by
  have:=h.len;rw [List.length_nil]at this;rw [List.eq_nil_of_length_eq_zero this];exact .nil
 |e::es,xs,j,h=>by
  obtain⟨x,r,rfl,h1,h2⟩:=h.Xi;cases j with
  |zero=>exact .cons hv h2
  |succ j=>exact .cons h1 (A3.set (j:=j) hv h2)
def DU.tab{H:Hp}{t:Tb}{v:V}(h:DU H (BE t) v):∃p R L xs ys,v=.ref p∧H p=some (.tup [.ref R,.ref L])∧H R=some (.lst xs)∧A3 H (Bh t.rs) xs∧H L=some (.lst ys)∧A3 H (Aw t.ls) ys:=by
 obtain⟨p,zs,rfl,hp,h1⟩:=h.Z9;obtain⟨x,y,rfl,h2,h3⟩:=h1.VV;obtain⟨R,xs,rfl,hR,h4⟩:=h2.VT;obtain⟨L,ys,rfl,hL,h5⟩:=h3.VT;exact⟨p,R,L,xs,ys,rfl,hp,hR,h4,hL,h5⟩
def FW{H:Hp}{t:Tb}{p R L:AD}{xs ys:List V}(hp:H p=some (.tup [.ref R,.ref L]))(hR:H R=some (.lst xs))(h4:A3 H (Bh t.rs) xs)(hL:H L=some (.lst ys))(h5:A3 H (Aw t.ls) ys):DU H (BE t) (.ref p) :=
 .tup hp (.cons (.lst hR h4) (.cons (.lst hL h5) .nil))
def FG{H:Hp}{rs:List (List Rat)}{xs:List V}{i:Nat}{r:List Rat}(h:A3 H (Bh rs) xs)(hr:rs[i]? = some r):∃a ys,xs[i]? = some (.ref a)∧H a=some (.lst ys)∧A3 H (Aw r) ys:=by
 obtain⟨v,h1,h2⟩:=h.get (i:=i) (d:=Bc r) (by rw [Bh,List.getElem?_map,hr];rfl);obtain⟨a,ys,rfl,h3,h4⟩:=h2.VT;exact⟨a,ys,h1,h3,h4⟩
def Made(H0:Hp)(D:AD)(rs:List (List Rat))(i:Nat)(ys:List V)(H:Hp):Prop :=
 AH H0 H∧ys.length=i∧AY D H (Bh (rs.take i)) ys∧∀y∈ys,∃a zs,y=.ref a∧a≠D∧H0 a=none∧H a=some (.lst zs)
def SU{H0:Hp}{D:AD}{rs:List (List Rat)}(hD:H0 D=none):Made H0 D rs 0 [] (upd H0 D (.lst [])):=⟨AU hD _,rfl,.nil,fun _ z=>(List.not_mem_nil z).elim⟩
def Mz{H0 H:Hp}{D l:AD}{rs:List (List Rat)}{i:Nat}{ys zs:List V}{r:List Rat}(hD:H0 D=none)(m:Made H0 D rs i ys H)(hH:H D=some (.lst ys))(hr:rs[i]? = some r)(hl:H l=none)(hz:A3 H (Aw r) zs) :
  upd H l (.lst zs) D=some (.lst ys)∧Made H0 D rs (i+1) (ys++[.ref l]) (upd (upd H l (.lst zs)) D (.lst (ys++[.ref l]))):=by
 obtain⟨e,hyl,d,n⟩:=m;have nl:l≠D:=fun z=>by subst z;rw [hH]at hl;cases hl
 have e1:=AU hl (.lst zs);have hl1:upd H l (.lst zs) l=some (.lst zs):=AJ;generalize upd H l (.lst zs)=H1 at e1 hl1;have hD1:=e1 _ _ hH;have hl0:H0 l=none:=by
  cases hx:H0 l with
  |none=>rfl
  |some o=>have:=e _ _ hx;rw [hl]at this;cases this
 refine⟨hD1,fun b o z=>?_,by simp [hyl],?_,fun y hy=>?_⟩
 ·rw [AG (AO z hD)];exact e1 _ _ (e _ _ z)
 ·rw [List.take_add_one,hr,Bh,List.map_append];exact .but .upd ((d.same e1).app (.cons (Sk hD1 nl hl1 (hz.same e1)) .nil))
 ·rcases bD.mp hy with hy|hy
  ·obtain⟨a,ws,rfl,na,h0,h1⟩:=n y hy;exact⟨a,ws,rfl,na,h0,by rw [AG na];exact e1 _ _ h1⟩
  ·rw [List.mem_singleton.mp hy];exact⟨l,zs,rfl,nl,hl0,by rw [AG nl];exact hl1⟩
def EU(c b:Int):Int:=c.fdiv (FM.gi c b)*b
def Ey(bs:List Int):Int:=bs.foldl EU 1
def Oi{k:Nat}:∀(bs:List Int) (c:Int) (n:Nat),1≤c→c.natAbs<2^n→(∀b∈bs,1≤b∧b.natAbs<2^k) →
  1≤bs.foldl EU c∧(bs.foldl EU c).natAbs<2^(n+k*bs.length)∧c ∣ bs.foldl EU c∧∀b∈bs,b ∣ bs.foldl EU c
 |[],c,n,h1,h2,_=>⟨h1,by simpa using h2,Int.dvd_refl _,fun _ z=>(List.not_mem_nil z).elim⟩
 |b::bs,c,n,h1,h2,h=>by
  obtain⟨b1,b2⟩:=h b aR;obtain⟨s1,s2,s3,s4⟩:=PL h1 b1;have n1:(EU c b).natAbs<2^(n+k):=FM.TJ (aY s4 h2) b2;obtain⟨r1,r2,r3,r4⟩:=Oi bs (EU c b) (n+k) s1 n1 fun y hy=>h y (aP _ hy);refine⟨r1,?_,Int.dvd_trans s2 r3,fun y hy=>?_⟩
  ·rw [List.length_cons,Nat.mul_succ,show n+(k*bs.length+k)=n+k+k*bs.length by omega];exact r2
  ·rcases aL.mp hy with rfl|hy
   ·exact Int.dvd_trans s3 r3
   ·exact r4 y hy
def QG{k:Nat}{bs:List Int}(h:∀b∈bs,1≤b∧b.natAbs<2^k):1≤Ey bs∧(Ey bs).natAbs<2^(1+k*bs.length)∧∀b∈bs,b ∣ Ey bs:=by
 obtain⟨a,b,_,d⟩:=Oi bs 1 1 (by decide) (by decide) h;exact⟨a,b,d⟩
def S0(bs:List Int)(b:Int):Ey (bs++[b])=EU (Ey bs) b:=by
 unfold Ey;rw [List.foldl_append]
 rfl
def Tc:Sp:=fun vs H Q _=>∃(a:AD) (bs:List Int) (k:Nat),vs=[.ref a]∧H a=some (.lst (bs.map V.int))∧(∀b∈bs,1≤b∧b.natAbs<2^k)∧k*bs.length≤4000∧Q (.int (Ey bs)) H
def C9(rs:List Rat)(B:Int):List Int:=rs.map fun r=>r.num*B.fdiv (r.den:Int)
def So:Sp:=fun vs H Q _=>∃(a:AD) (xs:List V) (rs:List Rat) (B:Int) (n m:Nat),vs=[.ref a,.int B]∧H a=some (.lst xs)∧A3 H (Aw rs) xs∧rs.length≤50∧(∀r∈rs,FM.Fits r n)∧B.natAbs<2^m∧n+m≤4000 ∧
 ∀D H',AH H H'→H D=none→H' D=some (.lst ((C9 rs B).map V.int))→Q (.ref D) H'
def Ew{H:Hp}{qs:List Rat}{xs:List V}{i:Nat}{q:Rat}(h:A3 H (Aw qs) xs)(hq:qs[i]? = some q):∃p,xs[i]? = some (.ref p)∧H p=some (.tup (Fl q)):=by
 obtain⟨v,h1,h2⟩:=h.get (i:=i) (d:=Af q) (by rw [Aw,List.getElem?_map,hq];rfl);obtain⟨p,rfl,hp⟩:=h2.rat;exact⟨p,h1,hp⟩
def QW{rs:List Rat}{n:Nat}(h:∀r∈rs,FM.Fits r n):∀b∈rs.map (fun r=>(r.den:Int)),1≤b∧b.natAbs<2^n:=fun b hb=>by
 obtain⟨r,hr,rfl⟩:=ae.mp hb;have:=r.den_nz;exact⟨by omega,(h r hr).d⟩
section
variable{P:Program}{w:World}{K:Fg}{mg:Str→Option VL}{base:Heap}{f g g1 g2:AD}{fd gd gd1 gd2:FuncData}
def J7(F:Fn K mg "common_bottom" E1 ["bottoms"] f fd)(A1:Fn K mg "greatest_divisor" Bt ["one", "other"] g gd)
 (Bv:AV P w K mg base Ad 1 g gd ["one", "other"] Qp):AV P w K mg base Ad 2 f fd ["bottoms"] Tc:=by
 have sc:=K7;refine F.F.ok (k:=1) sc (fun vs H Q E h=>?_) (fun cdv A outer s H vs Q E hr h=>?_)
 ·obtain⟨a,bs,k,rfl,_⟩:=h
  rfl
 obtain⟨a,bs,k,rfl,ha,hb,hk,q⟩:=h;refine⟨_,(AM (Aj (i:=1) sc.nd rfl (Or.inl rfl) AN)
 (AM (DR aQ rfl (CB (pv 0)) (A7 (i:=2) sc.nd rfl (Or.inl rfl))
  (AR (Aj (i:=1) sc.nd rfl (Or.inl rfl) (Au FE (Au EF (pv 1) (Av A1 Bv hr rfl (AB (pv 1) (AB (pv 2) AF)))) (pv 2)))))
 (AR (Aq (pv 1))))),?_⟩
 refine⟨_,rfl,a,rfl,⟨_,AZ.of ha⟩,GY (xs:=bs.map V.int) (fun i σ H'=>∃(r:Option V),σ=[some (.ref a),some (.int (Ey (bs.take i))),r]∧H=H') ?_ ?_ ?_ ?_⟩
 ·exact⟨_,rfl,rfl⟩
 ·rintro i σ H' _ ⟨r,rfl,rfl⟩;exact AZ.of ha
 ·rintro i x σ H' hx ⟨r,rfl,rfl⟩;have hi:i<bs.length:=by have:=(aD.mp hx).1;simpa using this
  rw [List.getElem?_map,List.getElem?_eq_getElem hi]at hx;cases hx;obtain⟨b1,b2⟩:=hb _ (List.getElem_mem hi);obtain⟨c1,c2,_⟩:=QG (k:=k) (bs:=bs.take i) fun y hy=>hb y (List.mem_of_mem_take hy);rw [List.length_take,Nat.min_eq_left (by omega)]at c2;obtain⟨s1,s2,s3,s4⟩:=PL c1 b1;have hg:FM.gi (Ey (bs.take i)) bs[i]≠0:=Int.ne_of_gt (FM.Jj (by omega));have hki:k*i+k≤4000:=by
   have:k*(i+1)≤k*bs.length:=bA k hi;rw [Nat.mul_succ]at this;omega
  have n1:((Ey (bs.take i)).fdiv (FM.gi (Ey (bs.take i)) bs[i])).natAbs<2^(1+k*i):=aY s4 c2;refine⟨_,rfl,_,rfl,_,rfl,Ey (bs.take i),bs[i],rfl,_,_,rfl,rfl,⟨hg,k,by have:k*1≤k*bs.length:=bA k (by omega);omega,Nat.lt_of_le_of_lt (FM.VM (by omega)) b2⟩,_,rfl,_,_,rfl,rfl,Q6 n1 b2 (by omega),some (.int bs[i]),?_,rfl⟩;rw [List.take_add_one,List.getElem?_eq_getElem hi];show _=[some (V.ref a),some (V.int (Ey (bs.take i++[bs[i]]))),some (V.int bs[i])];rw [S0]
  rfl
 ·rintro σ H' ⟨r,rfl,rfl⟩;rw [List.length_map,List.take_length];exact⟨_,rfl,q⟩
def PC:Ab ["some", "bottom"] ["some", "bottom"] (AW HN):=Bo
def Nu(F:Fn K mg "tops_over" HN ["some", "bottom"] f fd):AV P w K mg base Ad 1 f fd ["some", "bottom"] So:=by
 have sc:=PC;refine F.F.ok (k:=0) sc (fun vs H Q E h=>?_) (fun cdv A outer s H vs Q E hr h=>?_)
 ·obtain⟨a,xs,rs,B,n,m,rfl,_⟩:=h
  rfl
 obtain⟨a,xs,rs,B,n,m,rfl,ha,dx,hl,hf,hB,hnm,q⟩:=h;have hxl:xs.length=rs.length:=by rw [dx.len,B8]
 refine⟨_,(AR (Aq (EG [".0", "part", "bottom"] 1 [none,none,some 1] (CB (pv 0)) (fun _ _ _ _ _=>Cg) (fun _ _ _ _ _=>(Au FE (BM Jr (pv 1) AN (fun _ _=>rfl)) (Au EF (pv 2) (BM Jr (pv 1) AN (fun _ _=>rfl)))))))),?_⟩;refine⟨_,rfl,a,rfl,⟨_,AZ.of ha⟩,fun D hD=>Dq (n:=xs.length) (fun i ys H'=>AH H H'∧ys=(C9 (rs.take i) B).map V.int) ⟨AU hD _,rfl⟩ ?_ ?_⟩
 ·rintro i ys H1 hi ⟨e1,rfl⟩ hD1;have hr:rs[i]? = some (rs[i]'(by omega)):=aG _;obtain⟨p,hp1,hp2⟩:=Ew dx hr;have ft:=hf _ (aO hr);generalize rs[i]'(by omega)=r at hr hp2 ft;have hd:=r.den_nz;refine⟨⟨xs,.ref p,AZ.of (e1 _ _ ha),hp1⟩,IB (n:=60) (by unfold C9;simp;omega) (by decide),fun x H' y=>?_⟩;obtain⟨rfl,y⟩:=y;have hx:=y xs (AZ.of (e1 _ _ ha));rw [hp1]at hx;cases hx;unfold En;have n2:(B.fdiv (r.den:Int)).natAbs<2^m:=aY (FM.C8 _ _) hB;refine Ce ⟨_,rfl,_,_,_,_,rfl,rfl,Ag.of (e1 _ _ hp2),rfl,_,rfl,_,rfl,_,_,_,_,rfl,rfl,Ag.of (e1 _ _ hp2),rfl,_,_,rfl,rfl,⟨by omega,n,by omega,ft.d⟩,_,_,rfl,rfl,Q6 ft.1 n2 (by omega),hD1,Ci hi ⟨fun b o z=>?_,?_⟩⟩
  ·rw [AG (AO z hD)];exact e1 _ _ z
  ·rw [List.take_add_one,hr,C9,C9,List.map_append,List.map_append]
   rfl
 ·rintro ys H1 ⟨e1,rfl⟩ hD1;rw [hxl,List.take_length]at hD1;exact⟨⟨xs,AZ.of (e1 _ _ ha),Nat.le_refl _⟩,q D H1 e1 hD hD1⟩
end
def Bn(a b:List Int):List Int:=List.zipWith (· * ·) a b
def OO(a b:List Int):Int:=(Bn a b).sum
def CU(n:Nat):List Int:=List.replicate n 1
def F6(rows:List (List Int)):Tr→List Int→List Int
 |.nil,acc=>acc
 |.cons b r,acc=>F6 rows r (Bn acc (rows.map fun row=>OO row (F6 rows b (CU rows.length))))
def CL(rows:List (List Int))(t:Tr):List Int:=rows.map fun row=>OO row (F6 rows t (CU rows.length))
def Lp(rows:List (List Int)):∀(t:Tr) (acc:List Int),F6 rows t acc=t.bs.foldl (fun a b=>Bn a (CL rows b)) acc
 |.nil,acc=>rfl
 |.cons b r,acc=>by
  rw [F6,Tr.bs,List.foldl_cons,Lp rows r]
  rfl
def Hn(rows:List (List Int))(t:Tr):(CL rows t).length=rows.length:=bH _
def T3{a b:List Int}(h:a.length=b.length):(Bn a b).length=a.length:=by unfold Bn;rw [List.length_zipWith,h,Nat.min_self]
def Bp(n:Nat)(xs:List Int):Prop:=∀x∈xs,x.natAbs≤n
def Bp.mul{m n:Nat}:∀ {a b:List Int},Bp m a→Bp n b→Bp (m*n) (Bn a b)
 |[],_,_,_=>fun x h=>by cases h
 |_::_,[],_,_=>fun x h=>by cases h
 |x::a,y::b,ha,hb=>fun z h=>by
  have h:z∈x*y::Bn a b:=h;rcases aL.mp h with rfl|h
  ·rw [Int.natAbs_mul];exact bQ (ha x (.head _)) (hb y (.head _))
  ·exact Bp.mul (fun x h=>ha x (.tail _ h)) (fun x h=>hb x (.tail _ h)) z h
def R6{n:Nat}:∀ {a:List Int},Bp n a→a.sum.natAbs≤a.length*n
 |[],_=>av _
 |x::a,h=>by
  have h1:=h x (.head _);have h2:=R6 (a:=a) fun x h'=>h x (.tail _ h');rw [List.sum_cons,List.length_cons,Nat.succ_mul];have:=Int.natAbs_add_le x a.sum;omega
def XT{m n:Nat}{a b:List Int}(ha:Bp m a)(hb:Bp n b):(OO a b).natAbs≤a.length*m*n:=by
 have h:=R6 (ha.mul hb);have hl:(Bn a b).length≤a.length:=by unfold Bn;rw [List.length_zipWith];exact Nat.min_le_left _ _
 refine aM h ?_;rw [Nat.mul_assoc];exact Nat.mul_le_mul_right _ hl
structure He(rows:List (List Int))(c:Nat):Prop where
 len:rows.length≤1000
 one:∀row∈rows,row.length≤rows.length
 big:∃M,(∀row∈rows,Bp M row)∧M≤2^c∧∀row∈rows,row.length*M≤2^c
def Bp.mono{m n:Nat}{xs:List Int}(h:Bp m xs)(e:m≤n):Bp n xs:=fun x hx=>aM (h x hx) e
def Me(n k:Nat):Bp (2^k) (CU n):=fun x h=>by
 unfold CU at h;rw [List.eq_of_mem_replicate h];exact Nat.one_le_two_pow
def Vh{rows:List (List Int)}{c:Nat}(h:He rows c){t:Tr}{k:Nat}(hs:Bp (2^(c*k)) (F6 rows t (CU rows.length))):Bp (2^(c*(k+1))) (CL rows t):=fun x hx=>by
 unfold CL at hx;obtain⟨row,hr,rfl⟩:=ae.mp hx;obtain⟨M,h1,_,h2⟩:=h.big;have:=XT (h1 row hr) hs;refine aM this ?_;rw [Nat.mul_add,Nat.mul_one,Nat.add_comm,Nat.pow_add];exact Nat.mul_le_mul_right _ (h2 row hr)
def Lg{rows:List (List Int)}{c:Nat}(h:He rows c):∀(t:Tr) (acc:List Int) (j:Nat),acc.length=rows.length→Bp (2^(c*j)) acc→(F6 rows t acc).length=rows.length∧Bp (2^(c*(j+(t.AX-1)))) (F6 rows t acc)
 |.nil,acc,j,hl,ha=>⟨hl,ha⟩
 |.cons b r,acc,j,hl,ha=>by
  have hb:=Lg h b (CU rows.length) 0 (List.length_replicate ..) (Me _ _);have kb:1≤b.AX:=Tr.Bx b;have kr:1≤r.AX:=Tr.Bx r;rw [Nat.zero_add]at hb;have h1:=Vh h hb.2;rw [show b.AX-1+1=b.AX by omega]at h1;have h2:=ha.mul h1;rw [←Nat.pow_add,←Nat.mul_add]at h2;have h3:=Lg h r (Bn acc (CL rows b)) (j+b.AX) (by rw [T3 (by rw [hl,Hn])];exact hl) h2;rw [F6,Tr.AX];refine⟨h3.1,?_⟩;rw [show j+(b.AX+r.AX-1)=j+b.AX+(r.AX-1) by omega];exact h3.2
def V5{rows:List (List Int)}{c:Nat}(h:He rows c)(t:Tr):Bp (2^(c*t.AX)) (CL rows t):=by
 have h1:=(Lg h t (CU rows.length) 0 (List.length_replicate ..) (Me _ _)).2;have kb:1≤t.AX:=Tr.Bx t;rw [Nat.zero_add]at h1;have h2:=Vh h h1;rw [show t.AX-1+1=t.AX by omega]at h2;exact h2
def Qa{m:Nat}(hm:m+1≤1000000){x y:Int}(hx:x.natAbs≤2^m)(hy:y.natAbs≤2^m):N2 x y∨LP x y:=by
 have:2^m<2^(m+1):=Nat.pow_lt_pow_of_lt (by decide) (bO m);exact .inr ⟨m+1,hm,Nat.lt_of_le_of_lt hx this,Nat.lt_of_le_of_lt hy this⟩
def GS{n:Nat}(h:n≤1000):n<sizeLine:=aY h (by rw [sizeLine_eq];decide)
def Hw{H H':Hp}{p:AD}(e:AH H H')(h:H' p=none):H p=none:=by
 cases z:H p with
 |none=>rfl
 |some o=>rw [e _ _ z]at h;cases h
def ints_get{ps:List Int}{i:Nat}{x:Int}(h:ps[i]? = some x):(ps.map V.int)[i]? = some (.int x):=by rw [List.getElem?_map,h];rfl
def NO{xs ys:List Int}{i:Nat}{x y:Int}(hx:xs[i]? = some x)(hy:ys[i]? = some y):(Bn xs ys).take (i+1)=(Bn xs ys).take i++[x*y]:=by
 have h:(Bn xs ys)[i]? = some (x*y):=by unfold Bn;rw [List.getElem?_zipWith,hx,hy]
 rw [List.take_add_one,h];rfl
def XY:Sp:=fun vs H Q _=>∃a b xs ys m,vs=[.ref a,.ref b]∧H a=some (.lst (xs.map V.int))∧H b=some (.lst (ys.map V.int))∧xs.length≤ys.length∧xs.length≤1000∧m+1≤1000000∧Bp (2^m) xs∧Bp (2^m) ys∧∀H',AH H H'→Q (.int (OO xs ys)) H'
section
variable{P:Program}{w:World}{K:Fg}{mg:Str→Option VL}{base:Heap}{f g1:AD}{fd gd1:FuncData}
def Qt:Ab ["row", "shares"] ["row", "shares"] (AW Jm):=Bo
def Qs(F:Fn K mg "read_by" Jm ["row", "shares"] f fd)(Hy:mg "sum" = none)(IQ:mg "zip" = none):AV P w K mg base Ad 1 f fd ["row", "shares"] XY:=by
 have sc:=Qt;refine F.F.ok (k:=0) sc (fun vs H Q E h=>?_) (fun cdv A outer s H vs Q E hr h=>?_)
 ·obtain⟨a,b,ps,qs,m,rfl,_⟩:=h
  rfl
 obtain⟨a,b,ps,qs,m,rfl,ha,hb,hl,h60,hm,sx,sy,q⟩:=h;refine⟨_,(AR (Aq (Ao (Oa rfl) rfl Hy PyProof.Rows.boot_sum (AB (NK [".0", "part", "share"] 1 2 [none,none,none] (Td rfl IQ (AB (pv 0) (AB (pv 1) AF))) (fun _ _ _ _ _=>Cg) (fun _ _ _ _ _=>(Au FE (pv 1) (pv 2)))) AF)))),?_⟩;refine⟨_,rfl,_,rfl,false,false,a,b,rfl,⟨_,ha⟩,⟨_,hb⟩,fun D hD=>OT (n:=ps.length) (fun i us H'=>AH H H'∧us=((Bn ps qs).take i).map V.int) ?_ ?_ ?_⟩
 ·exact⟨AU hD _,by rw [List.take_zero];rfl⟩
 ·rintro i us H1 hi ⟨e1,rfl⟩ hD1;have hx:=aG hi;have hy:=aG (l:=qs) (i:=i) (by omega);have e1a:=e1 _ _ ha;have e1b:=e1 _ _ hb;refine⟨⟨_,_,_,_,e1a,e1b,ints_get hx,ints_get hy⟩,GS (by rw [List.length_map,List.length_take];omega),fun v H' y=>?_⟩;obtain⟨p,x,z,rfl,np,rfl,k1,k2⟩:=y;have hx':=k1 _ e1a;have hy':=k2 _ e1b;rw [ints_get hx]at hx';rw [ints_get hy]at hy';cases hx';cases hy';have sp:=AU np (.tup [.int ps[i],.int qs[i]]);refine⟨p,_,_,rfl,Ag.of AJ,?_⟩;unfold En;refine Ce ⟨_,rfl,_,rfl,_,_,rfl,rfl,Qa hm (sx _ (List.getElem_mem _)) (sy _ (List.getElem_mem _)),sp _ _ hD1,Ci hi ⟨fun c o z=>?_,?_⟩⟩
  ·rw [AG (AO z hD)];exact sp _ _ (e1 _ _ z)
  ·rw [NO hx hy,List.map_append]
   rfl
 ·rintro us H1 ⟨e1,rfl⟩ hD1;refine⟨⟨_,_,e1 _ _ ha,e1 _ _ hb,.inl (by rw [List.length_map])⟩,D,_,rfl,AZ.of hD1,?_⟩;rw [List.take_of_length_le (by unfold Bn;rw [List.length_zipWith];omega)];exact q _ e1
end
def F5(d:AD)(H H':Hp):Prop:=∀a o,a≠d→H a=some o→H' a=some o
def F5.of{d:AD}{H H':Hp}(e:AH H H'):F5 d H H':=fun a o _ h=>e a o h
def F5.trans{d:AD}{H H1 H2:Hp}(e:F5 d H H1)(e':F5 d H1 H2):F5 d H H2:=fun a o n h=>e' a o n (e a o n h)
def X9{d:AD}{r:List KR}{xs:List V}:dN d r≠.lst xs:=by unfold dN;intro z;cases z
def Yr{d:AD}{r:List KR}{xs:List V}:dN d r≠.tup xs:=by unfold dN;intro z;cases z
def F5.lst{d:AD}{H H':Hp}(e:F5 d H H'){r:List KR}(hd:H d=some (dN d r)){l:AD}{xs:List V}(h:H l=some (.lst xs)):H' l=some (.lst xs):=e l _ (RK h hd fun z=>X9 z.symm) h
def F5.Al{d:AD}{H H':Hp}(e:F5 d H H'){r:List KR}(hd:H d=some (dN d r)):Gm H H':=fun b xs h=>e b _ (RK h hd fun z=>Yr z.symm) h
def Mu(H:Hp)(vs:List V)(rows:List (List Int)):Prop:=vs.length=rows.length∧∀(i:Nat) (row:List Int),rows[i]? = some row→∃a:AD,vs[i]? = some (.ref a)∧H a=some (.lst (row.map V.int))
def Mu.same{H H':Hp}{vs:List V}{rows:List (List Int)}(h:Mu H vs rows)(e:AH H H'):Mu H' vs rows:=⟨h.1,fun i row hi=>let⟨a,h1,h2⟩:=h.2 i row hi;⟨a,h1,e _ _ h2⟩⟩
def Mu.but{d:AD}{H H':Hp}{vs:List V}{rows:List (List Int)}(h:Mu H vs rows)(e:F5 d H H'){r:List KR}(hd:H d=some (dN d r)):Mu H' vs rows:=⟨h.1,fun i row hi=>let⟨a,h1,h2⟩:=h.2 i row hi;⟨a,h1,e.lst hd h2⟩⟩
structure RY(Dm:List Tr)(c:Nat):Prop where
 len:Dm.length≤1000
 inj:∀a∈Dm,∀b∈Dm,TH.BB (some a)=TH.BB (some b)→a=b
 bs:∀t∈Dm,∀b∈t.bs,b∈Dm
 deep:∀t∈Dm,t.deep<8
 size:∀t∈Dm,c*t.AX+1≤1000000
structure Memo(Dm:List Tr)(rows:List (List Int))(W:Addr)(H:Hp)(d:Addr)(r:List KR):Prop where
 at_:H d=some (dN d r)
 nd:(r.map (·.1)).Nodup
 all:∀q∈r,∃(t:Tr) (l:Addr),q.1=some t∧t∈Dm∧Tv H t q.2.1∧q.2.2=.ref l∧H l=some (.lst ((CL rows t).map V.int))∧l≠W
def Memo.same{Dm:List Tr}{rows:List (List Int)}{W:AD}{H H':Hp}{d:AD}{r:List KR}(h:Memo Dm rows W H d r)(e:AH H H'):Memo Dm rows W H' d r:=⟨e _ _ h.at_,h.nd,fun q hq=>let⟨t,l,h1,h2,h3,h4,h5,h6⟩:=h.all q hq;⟨t,l,h1,h2,h3.same e,h4,e _ _ h5,h6⟩⟩
def Memo.ok{Dm:List Tr}{c:Nat}{rows:List (List Int)}{W:AD}{H:Hp}{d:AD}{r:List KR}(h:Memo Dm rows W H d r)(D:RY Dm c){t:Tr}(ht:t∈Dm):Oh H d r (some t):=by
 refine⟨h.at_,fun q hq=>?_,h.nd,fun q hq hh=>?_⟩
 ·obtain⟨u,l,h1,h2,h3,_⟩:=h.all q hq;rw [h1];exact⟨D.deep u h2,h3⟩
 ·obtain⟨u,l,h1,h2,_⟩:=h.all q hq;rw [h1]at hh ⊢;rw [D.inj u h2 t ht hh]
def M6{α:Type}[DecidableEq α]:∀ {a b:List α},a.Nodup→(∀x∈a,x∈b)→a.length≤b.length
 |[],_,_,_=>av _
 |x::a,b,hn,h=>by
  have hx:=h x (.head _);obtain⟨h1,h2⟩:=List.nodup_cons.mp hn;have:=M6 (a:=a) (b:=b.erase x) h2 fun y hy=>(List.mem_erase_of_ne (show y≠x from fun e=>h1 (by rw [←e];exact hy))).mpr (h y (.tail _ hy));rw [List.length_erase_of_mem hx]at this;have:=List.length_pos_of_mem hx;rw [List.length_cons];omega
def Memo.len{Dm:List Tr}{rows:List (List Int)}{W:AD}{H:Hp}{d:AD}{r:List KR}(h:Memo Dm rows W H d r):r.length≤Dm.length:=by
 have:=M6 (b:=Dm.map some) h.nd fun x hx=>by
  obtain⟨q,hq,rfl⟩:=ae.mp hx;obtain⟨u,l,h1,h2,_⟩:=h.all q hq;rw [h1];exact List.mem_map_of_mem h2
 simpa using this
def Memo.put{Dm:List Tr}{rows:List (List Int)}{W:AD}{H H':Hp}{d:AD}{r:List KR}(h:Memo Dm rows W H d r){t:Tr}{v:V}{l:AD}(ht:t∈Dm)(tv:Tv H t v)(hl:H l=some (.lst ((CL rows t).map V.int)))(hlW:l≠W)
 (e:H'=upd H d (dN d (DL r (some t) v (.ref l)))):F5 d H H'∧Memo Dm rows W H' d (DL r (some t) v (.ref l))∧H' l=some (.lst ((CL rows t).map V.int)):=by
 subst e;have hb:F5 d H (upd H d (dN d (DL r (some t) v (.ref l)))):=fun a o n h=>by rw [AG n];exact h
 have hl':=hb.lst h.at_ hl;have old:∀q∈r,∃(t':Tr) (l':AD),q.1=some t'∧t'∈Dm∧Tv (upd H d (dN d (DL r (some t) v (.ref l)))) t' q.2.1∧q.2.2=.ref l'∧upd H d (dN d (DL r (some t) v (.ref l))) l'=some (.lst ((CL rows t').map V.int))∧l'≠W:=fun q hq=>by
  obtain⟨u,l',h1,h2,h3,h4,h5,h6⟩:=h.all q hq;exact⟨u,l',h1,h2,h3.Al (hb.Al h.at_),h4,hb.lst h.at_ h5,h6⟩
 refine⟨hb,⟨AJ,?_,fun q hq=>?_⟩,hl'⟩
 ·unfold DL;split
  ·rw [List.map_map];rw [show((fun x:KR=>x.1) ∘ fun q:KR=>if q.1=some t then(q.1,q.2.1,V.ref l) else q)=fun x=>x.1 from funext fun q=>by
    show(if q.1=some t then(q.1,q.2.1,V.ref l) else q).1=q.1;split<;>rfl]
   exact h.nd
  ·rename_i hn;rw [List.map_append];refine List.nodup_append.mpr ⟨h.nd,by simp,fun a ha b hb'=>?_⟩;obtain⟨q,hq,rfl⟩:=ae.mp ha;have hb':b=some t:=by simpa using hb'
   subst hb';have hn:r.find? (fun q=>decide (q.1=some t))=none:=by
    cases z:r.find? (fun q=>decide (q.1=some t)) with
    |none=>rfl
    |some x=>rw [z]at hn;exact absurd rfl hn
   have:=List.find?_eq_none.mp hn q hq
   simpa using this
 ·have hq':q∈r∨(∃q'∈r,q'.1=some t∧q=(q'.1,q'.2.1,.ref l))∨q=(some t,v,.ref l):=by
   unfold DL at hq;split at hq
   ·obtain⟨q',h1,h2⟩:=ae.mp hq;split at h2
    ·rename_i z;exact .inr (.inl ⟨q',h1,z,h2.symm⟩)
    ·subst h2;exact .inl h1
   ·rcases bD.mp hq with hq|hq
    ·exact .inl hq
    ·exact .inr (.inr (by simpa using hq))
  rcases hq' with hq'|⟨q',h1,h2,rfl⟩|rfl
  ·exact old q hq'
  ·obtain⟨u,l',k1,k2,k3,_⟩:=old q' h1;rw [h2]at k1;cases k1;exact⟨t,l,h2,k2,k3,rfl,hl',hlW⟩
  ·exact⟨t,l,rfl,ht,tv.Al (hb.Al h.at_),rfl,hl',hlW⟩
def Gs:∀ {t b:Tr},b∈t.bs→b.AX≤t.AX
 |.nil,b,h=>by cases h
 |.cons c r,b,h=>by
  rw [Tr.bs]at h;rw [Tr.AX];rcases aL.mp h with rfl|h
  ·exact Nat.le_add_right _ _
  ·exact aM (Gs h) (Nat.le_add_left _ _)
def UG(r:List KR)(k:Option Tr)(kv v:V):∃q,(DL r k kv v).find? (fun q=>decide (q.1=k))=some q:=by
 have:∃q∈DL r k kv v,q.1=k:=by
  unfold DL;split
  ·rename_i h;obtain⟨q,hq⟩:=Option.isSome_iff_exists.mp h;obtain⟨h1,h2⟩:=find_key hq;exact⟨_,List.mem_map_of_mem h1,by rw [if_pos h2];exact h2⟩
  ·exact⟨_,List.mem_append_right _ (.head _),rfl⟩
 obtain⟨q,h1,h2⟩:=this;cases z:(DL r k kv v).find? (fun q=>decide (q.1=k)) with
 |some q'=>exact⟨q',rfl⟩
 |none=>exact absurd h2 (by simpa using List.find?_eq_none.mp z q h1)
def LI:∀(t:Tr) (i:Nat),(Tr.of (t.bs.take i)).AX≤t.AX
 |.nil,i=>by rw [Tr.bs,List.take_nil];exact aE _
 |.cons b r,0=>by
  have:=Tr.Bx (.cons b r);exact this
 |.cons b r,i+1=>by
  rw [Tr.bs,List.take_succ_cons,Tr.of,Tr.AX,Tr.AX];exact Nat.add_le_add_left (LI r i) _
def Tx(Dm:List Tr)(c n:Nat):Sp:=fun vs H Q _=>∃R rvs rows v t d r W,vs=[.ref R,v,.ref d]∧H R=some (.lst rvs)∧Mu H rvs rows∧He rows c∧Tv H t v∧t∈Dm∧t.deep<n∧(∃o,H W=some o)∧Memo Dm rows W H d r∧∀H' r' l,F5 d H H'→Memo Dm rows W H' d r'→H' l=some (.lst ((CL rows t).map V.int))→Q (.ref l) H'
section
variable{P:Program}{w:World}{K:Fg}{mg:Str→Option VL}{base:Heap}{f g1:AD}{fd gd1:FuncData}
def Pd:Ab ["rows", "tree", "known", "shares", "bough"] ["rows", "tree", "known"] (AW IT):=Bo
def Kb{Dm:List Tr}{c:Nat}(DO:RY Dm c)(CJ:Fn K mg "readings" IT ["rows", "tree", "known"] f fd)(Fi:Fn K mg "read_by" Jm ["row", "shares"] g1 gd1)(LG:AV P w K mg base Ad 1 g1 gd1 ["row", "shares"] XY)(Ar:mg "len" = none)(IQ:mg "zip" = none) :
  ∀n,AV P w K mg base Ad (n+1) f fd ["rows", "tree", "known"] (Tx Dm c n)
 |0=>Gv fun _ _ _ _ ⟨_,_,_,_,_,_,_,_,_,_,_,_,_,_,h,_⟩=>absurd h (aT _)
 |n+1=>by
  have sc:=Pd;have IC:=Kb DO CJ Fi LG Ar IQ n;have TK:=LG.mono (show 1≤n+1 by omega);refine CJ.F.ok (k:=n+1) sc (fun vs H Q E h=>?_) (fun cdv A outer s H vs Q E hr h=>?_)
  ·obtain⟨R,rvs,rows,v,t,d,r,W,rfl,_⟩:=h
   rfl
  obtain⟨R,rvs,rows,v,t,d,r,W,rfl,hR,hrw,ro,tv,ht,hdp,⟨oW,hW⟩,me,q⟩:=h;have hWs:∀ {H':Hp} {ρ:List KR},F5 d H H'→Memo Dm rows W H' d ρ→∃o,H' W=some o:=fun {H' ρ} e m=>by
   by_cases z:W=d
   ·exact⟨_,by rw [z];exact m.at_⟩
   ·exact⟨_,e _ _ z hW⟩
  refine⟨_,(AM (Bd (A9 (Y3 (by have:=hr.units;exact this) true) (pv 1) (pv 2) rfl)
  (AM (Aj (i:=3) sc.nd rfl (Or.inr rfl) (Au TV (Cd (AB AN AF)) (Ao BQ rfl Ar aU (AB (pv 0) AF))))
  (AM (DR aQ rfl (Nx (pv 1)) (A7 (i:=4) sc.nd rfl (Or.inl rfl))
   (AR (Aj (i:=3) sc.nd rfl (Or.inr rfl) (NK [".0", "share", "read"] 1 2 [none,none,none] (Td rfl IQ (AB (pv 3) (AB (Av CJ IC hr rfl (AB (pv 0) (AB (pv 4) (AB (pv 2) AF)))) AF))) (fun _ _ _ _ _=>Cg) (fun _ _ _ _ _=>(Au FE (pv 1) (pv 2)))))))
  (AR (Lv (EG [".0", "row", "shares"] 1 [none,none,some 3] (CB (pv 0)) (fun _ _ _ _ _=>Cg) (fun _ _ _ _ _=>(Av Fi TK hr rfl (AB (pv 1) (AB (pv 2) AF))))) (N5 (pv 2) (pv 1) (W9 (by have:=hr.units;exact this)))))))
  BD)
 (AR (Aq (X0 (by have:=hr.units;exact this) (pv 2) (pv 1) (fun _ _=>rfl))))),?_⟩
  have key:Fq H (some t) v:=⟨DO.deep t ht,tv⟩;cases hz:r.find? (fun q=>decide (q.1=some t)) with
  |some q' =>
   refine⟨_,rfl,_,rfl,d,r,some t,rfl,key,me.ok DO ht,false,by rw [hz];rfl,Fp ?_⟩;obtain⟨hm,hk⟩:=find_key hz;obtain⟨u,l,h1,h2,h3,h4,h5,_⟩:=me.all q' hm;rw [hk]at h1;cases h1;refine⟨_,rfl,_,rfl,d,r,some t,q',rfl,key,me.ok DO ht,hz,?_⟩;rw [h4];exact q H r l (fun a o _ h=>h) me h5
  |none =>
   refine⟨_,rfl,_,rfl,d,r,some t,rfl,key,me.ok DO ht,true,by rw [hz];rfl,Ce ?_⟩;refine⟨by show 1≤sizeLine;decide,fun p hp=>⟨_,rfl,_,_,rfl,.inl (AZ.of (AU hp _ _ _ hR)),p,_,_,rfl,rfl,AJ,by omega,?_,?_,fun S hS=>?_⟩⟩
   ·have:=hrw.1;have:=ro.len;omega
   ·have:=hrw.1;have:=ro.len;refine bE (GS ?_);simp;omega
   rw [List.flatten_replicate_singleton,show((rvs.length:Nat):Int).toNat=rows.length by rw [hrw.1];rfl];have e0:AH H (upd (upd H p (.lst [V.int 1])) S (.lst (List.replicate rows.length (V.int 1)))):=(AU hp _).trans (AU hS _);have hS0:upd (upd H p (.lst [V.int 1])) S (.lst (List.replicate rows.length (V.int 1))) S=some (.lst (((t.bs.take 0).foldl (fun a b=>Bn a (CL rows b)) (CU rows.length)).map V.int)):=by
    rw [AJ,List.take_zero,List.foldl_nil];unfold CU;rw [List.map_replicate]
   generalize upd (upd H p (.lst [V.int 1])) S (.lst (List.replicate rows.length (V.int 1)))=H0 at e0 hS0;obtain⟨a,ys,rfl,ha,hts⟩:=tv;have hyl:=hts.len;have sizes:∀i,((t.bs.take i).foldl (fun a b=>Bn a (CL rows b)) (CU rows.length)).length=rows.length∧Bp (2^(c*t.AX)) ((t.bs.take i).foldl (fun a b=>Bn a (CL rows b)) (CU rows.length)):=fun i=>by
    have h:=Lg ro (Tr.of (t.bs.take i)) (CU rows.length) 0 (List.length_replicate ..) (Me _ _);rw [Lp,Tr.J0]at h;refine⟨h.1,h.2.mono (aW (by decide) (bA _ ?_))⟩;have:=LI t i;omega
   refine⟨_,rfl,a,rfl,⟨_,Ag.of (e0 _ _ ha)⟩,Vp (xs:=ys) (fun i σ H'=>∃(r4:Option V) (S:AD) (ρ:List KR),σ=[some (.ref R),some (.ref a),some (.ref d),some (.ref S),r4]∧F5 d H H'∧Memo Dm rows W H' d ρ∧H' S=some (.lst (((t.bs.take i).foldl (fun a b=>Bn a (CL rows b)) (CU rows.length)).map V.int))) ?_ ?_ ?_ ?_⟩
   ·exact⟨_,S,r,rfl,.of e0,me.same e0,hS0⟩
   ·rintro i σ H' _ ⟨r4,S',ρ,rfl,e,_⟩;exact Ag.of (e.Al me.at_ _ _ ha)
   ·rintro i x σ H1 hx ⟨r4,S1,ρ,rfl,e1,me1,hS1⟩;obtain⟨b,hb,tb⟩:=hts.get hx;have hbm:b∈t.bs:=aO hb;have hbd:=Tr.Hz hbm;refine⟨_,rfl,_,rfl,_,rfl,_,rfl,R,rvs,rows,x,b,d,ρ,W,rfl,e1.lst me.at_ hR,hrw.but e1 me.at_,ro,tb.Al (e1.Al me.at_),DO.bs t ht b hbm,by omega,hWs e1 me1,me1,fun H2 r2 l e2 me2 hl2=>?_⟩;have hS2:=e2.lst me1.at_ hS1;have e02:=e1.trans e2;obtain⟨sl,sb⟩:=sizes i;generalize hsh:(t.bs.take i).foldl (fun a b=>Bn a (CL rows b)) (CU rows.length)=sh at sl sb hS2;have hnext:(t.bs.take (i+1)).foldl (fun a b=>Bn a (CL rows b)) (CU rows.length)=Bn sh (CL rows b):=by
     rw [List.take_add_one,hb,List.foldl_append,hsh];rfl
    have rl:=Hn rows b;have rb:=V5 ro b;have kb:b.AX≤t.AX:=Gs hbm;have rb':=rb.mono (aW (by decide) (bA c kb));refine⟨false,false,S1,l,rfl,⟨_,hS2⟩,⟨_,hl2⟩,fun D hD=>OT (n:=sh.length) (fun j us H'=>AH H2 H'∧us=((Bn sh (CL rows b)).take j).map V.int) ?_ ?_ ?_⟩
    ·exact⟨AU hD _,by rw [List.take_zero];rfl⟩
    ·rintro j us H3 hj ⟨e3,rfl⟩ hD3;have hx:=aG hj;have hy:=aG (l:=CL rows b) (i:=j) (by omega);have e3a:=e3 _ _ hS2;have e3b:=e3 _ _ hl2;refine⟨⟨_,_,_,_,e3a,e3b,ints_get hx,ints_get hy⟩,GS (by have:=ro.len;rw [List.length_map,List.length_take];omega),fun v H' y=>?_⟩;obtain⟨p,x,z,rfl,np,rfl,k1,k2⟩:=y;have hx':=k1 _ e3a;have hy':=k2 _ e3b;rw [ints_get hx]at hx';rw [ints_get hy]at hy';cases hx';cases hy';have sp:=AU np (.tup [.int sh[j],.int (CL rows b)[j]]);refine⟨p,_,_,rfl,Ag.of AJ,?_⟩;unfold En;refine Ce ⟨_,rfl,_,rfl,_,_,rfl,rfl,Qa (DO.size t ht) (sb _ (List.getElem_mem _)) (rb' _ (List.getElem_mem _)),sp _ _ hD3,Ci hj ⟨fun c o z=>?_,?_⟩⟩
     ·rw [AG (AO z hD)];exact sp _ _ (e3 _ _ z)
     ·rw [NO hx hy,List.map_append]
      rfl
    ·rintro us H3 ⟨e3,rfl⟩ hD3;refine⟨⟨_,_,e3 _ _ hS2,e3 _ _ hl2,.inl (by rw [List.length_map])⟩,?_⟩;refine⟨_,D,r2,rfl,e02.trans (.of e3),me2.same e3,?_⟩;rw [hD3,hnext,List.take_of_length_le (by unfold Bn;rw [List.length_zipWith];omega)]
   ·rintro σ H1 ⟨r4,S1,ρ,rfl,e1,me1,hS1⟩;rw [hyl,List.take_length,←Lp]at hS1;obtain⟨sl,sb⟩:=sizes t.bs.length;rw [List.take_length,←Lp]at sl sb;have hR1:=e1.lst me.at_ hR;have hrw1:=hrw.but e1 me.at_;refine⟨_,rfl,R,rfl,⟨_,AZ.of hR1⟩,fun D hD=>Dq (n:=rvs.length) (fun j us H'=>AH H1 H'∧us=((CL rows t).take j).map V.int) ?_ ?_ ?_⟩
    ·exact⟨AU hD _,by rw [List.take_zero];rfl⟩
    ·rintro j us H3 hj ⟨e3,rfl⟩ hD3;have hj':j<rows.length:=by rw [←hrw.1];exact hj
     have hrow:=aG hj';generalize rows[j]=row at hrow;have hrm:=aO hrow;obtain⟨pr,g1,g2⟩:=hrw1.2 j row hrow;have hR3:=e3 _ _ hR1;refine⟨⟨_,_,AZ.of hR3,g1⟩,GS (by have:=ro.len;rw [List.length_map,List.length_take,Hn];omega),fun x H' y=>?_⟩;obtain⟨rfl,y⟩:=y;have hx:=y _ (AZ.of hR3);rw [g1]at hx;cases hx;unfold En;obtain⟨M,b1,b2,_⟩:=ro.big;refine Ce ⟨_,rfl,_,rfl,pr,S1,row,_,c*t.AX,rfl,e3 _ _ g2,e3 _ _ hS1,?_,?_,DO.size t ht,?_,sb,fun H4 e4=>?_⟩
     ·rw [sl];exact ro.one row hrm
     ·have:=ro.one row hrm;have:=ro.len;omega
     ·refine(b1 row hrm).mono (aM b2 (aW (by decide) ?_));have:=Tr.Bx t;exact Nat.le_mul_of_pos_right c this
     ·refine⟨e4 _ _ hD3,Ci hj ⟨fun c o z=>?_,?_⟩⟩
      ·rw [AG (AO z hD)];exact e4 _ _ (e3 _ _ z)
      ·have:(CL rows t)[j]? = some (OO row (F6 rows t (CU rows.length))):=by unfold CL;rw [List.getElem?_map,hrow];rfl
       rw [List.take_add_one,this,List.map_append]
       rfl
    ·rintro us H3 ⟨e3,rfl⟩ hD3;rw [List.take_of_length_le (by rw [Hn,hrw.1];exact aE _)]at hD3;have me3:=me1.same e3;have hDW:D≠W:=fun z=>by
      obtain⟨o,hw⟩:=hWs e1 me1;rw [←z,hD]at hw;cases hw
     have tv3:Tv H3 t (.ref a):=⟨a,ys,rfl,e3 _ _ (e1.Al me.at_ _ _ ha),(hts.Al (e1.Al me.at_)).same e3⟩;refine⟨⟨_,AZ.of (e3 _ _ hR1),Nat.le_refl _⟩,_,rfl,_,rfl,d,ρ,some t,rfl,⟨DO.deep t ht,tv3⟩,me3.ok DO ht,Nat.le_trans me3.len DO.len,?_⟩;generalize h4:upd H3 d (dN d (DL ρ (some t) (.ref a) (.ref D)))=H4;obtain⟨b4,me4,l4⟩:=me3.put ht tv3 hD3 hDW h4.symm;have tv4:=tv3.Al (b4.Al me3.at_);have key4:Fq H4 (some t) (.ref a):=⟨DO.deep t ht,tv4⟩;obtain⟨q',hq',hv⟩:∃q',(DL ρ (some t) (.ref a) (.ref D)).find? (fun q=>decide (q.1=some t))=some q'∧∃l,q'.2.2=.ref l∧H4 l=some (.lst ((CL rows t).map V.int)):=by
      obtain⟨q',hq'⟩:=UG ρ (some t) (.ref a) (.ref D);obtain⟨hm,hk⟩:=find_key hq';obtain⟨u,l,h1,h2,h3,h4,h5,_⟩:=me4.all q' hm;rw [hk]at h1;cases h1;exact⟨q',hq',l,h4,h5⟩
     obtain⟨l,hv,hl⟩:=hv;refine⟨_,rfl,_,rfl,d,_,some t,q',rfl,key4,me4.ok DO ht,hq',?_⟩;rw [hv];exact q H4 _ l ((e1.trans (.of e3)).trans b4) me4 hl
end
def Ct(r:List Rat):List Int:=r.map fun q=>(q.den:Int)
def Ej(t:Tb)(i:Nat):List Int:=Ct t.ls++((t.rs.take i).map Ct).flatten
def Dw(t:Tb):Int:=Ey (Ej t t.rs.length)
def Tb.Fits(t:Tb)(n:Nat):Prop:=(∀r∈t.rs,∀q∈r,FM.Fits q n)∧∀q∈t.ls,FM.Fits q n
def LQ{t:Tb}{i:Nat}{r:List Rat}(h:t.rs[i]? = some r):Ej t (i+1)=Ej t i++Ct r:=by
 unfold Ej;rw [List.take_add_one,h,List.map_append,List.flatten_append,List.append_assoc];simp
def Gy{t:Tb}{m:Nat}(o:t.Ok m):∀i,i≤t.rs.length→(Ej t i).length≤t.rs.length+t.rs.length*i
 |0,_=>by unfold Ej Ct;simp [o.last]
 |i+1,h=>by
  have hr:=aG (l:=t.rs) (i:=i) (by omega);have:=Gy o i (by omega);rw [LQ hr,List.length_append,show(Ct t.rs[i]).length=t.rs[i].length from bH _,o.row i _ hr,Nat.mul_succ];omega
def Mv{t:Tb}{n:Nat}(h:t.Fits n)(i:Nat):∀b∈Ej t i,1≤b∧b.natAbs<2^n:=fun b hb=>by
 unfold Ej at hb;rcases bD.mp hb with hb|hb
 ·exact QW h.2 b hb
 ·obtain⟨l,hl,hb⟩:=List.mem_flatten.mp hb;obtain⟨r,hr,rfl⟩:=ae.mp hl;exact QW (h.1 r (List.mem_of_mem_take hr)) b hb
def Yk:Sp:=fun vs H Q _=>∃(v:V) (t:Tb) (m n:Nat),vs=[v]∧DU H (BE t) v∧t.Ok m∧m≤40∧t.Fits n∧n*(m+m*m)≤4000∧∀H',AH H H'→Q (.int (Dw t)) H'
section
variable{P:Program}{w:World}{K:Fg}{mg:Str→Option VL}{base:Heap}{f g g1 g2:AD}{fd gd gd1 gd2:FuncData}
def Lf:Ab ["table", "bottoms", "row"] ["table"] (AW FJ):=Bo
def LW(F:Fn K mg "table_bottom" FJ ["table"] f fd)(C6:Fn K mg "common_bottom" E1 ["bottoms"] g1 gd1)
 (Lq:AV P w K mg base Ad 2 g1 gd1 ["bottoms"] Tc):AV P w K mg base Ad 3 f fd ["table"] Yk:=by
 have sc:=Lf;refine F.F.ok (k:=2) sc (fun vs H Q E h=>?_) (fun cdv A outer s H vs Q E hr h=>?_)
 ·obtain⟨v,t,m,n,rfl,_⟩:=h
  rfl
 obtain⟨v,t,m,n,rfl,dt,ot,hm,ft,hnm,q⟩:=h;obtain⟨p,R,L,xs,ys,rfl,hp,hR,dR,hL,dL⟩:=dt.tab;have hyl:ys.length=t.ls.length:=by rw [dL.len,B8]
 have hxl:xs.length=t.rs.length:=by rw [dR.len,Cr]
 have h1:=ot.most;have h2:=ot.last;refine⟨_,(AM (KP (i:=1) [".0", "part"] 1 [none,none] sc.nd rfl rfl (CB (BM BS (pv 0) AN (fun _ _=>rfl))) (fun _ _ _ _ _=>Cg) (fun _ _ _ _ _=>(BM Jr (pv 1) AN (fun _ _=>rfl))))
 (AM (DR aQ rfl (CB (BM BS (pv 0) AN (fun _ _=>rfl))) (A7 (i:=2) sc.nd rfl (Or.inl rfl))
  (AR (Ea (Jt bF PySem.F.slot_list_extend PySem.F.type_list_extend Ru (pv 1) (AB (EG [".0", "part"] 1 [none,none] (CB (pv 2)) (fun _ _ _ _ _=>Cg) (fun _ _ _ _ _=>(BM Jr (pv 1) AN (fun _ _=>rfl)))) AF)))))
 (AR (Aq (Av C6 Lq hr rfl (AB (pv 1) AF)))))),?_⟩
 refine⟨_,rfl,_,_,_,_,rfl,rfl,Ag.of hp,rfl,L,rfl,⟨_,AZ.of hL⟩,fun Z hZ=>Dq (n:=ys.length) (fun i us H'=>AH H H'∧us=(Ct (t.ls.take i)).map V.int) ⟨AU hZ _,rfl⟩ ?_ ?_⟩
 ·rintro i us H1 hi ⟨e1,rfl⟩ hD1;have hr:t.ls[i]? = some (t.ls[i]'(by omega)):=aG _;obtain⟨p,hp1,hp2⟩:=Ew dL hr;generalize t.ls[i]'(by omega)=r at hr hp2;refine⟨⟨ys,.ref p,AZ.of (e1 _ _ hL),hp1⟩,IB (n:=60) (by unfold Ct;simp;omega) (by decide),fun x H' y=>?_⟩;obtain⟨rfl,y⟩:=y;have hx:=y ys (AZ.of (e1 _ _ hL));rw [hp1]at hx;cases hx;unfold En;refine Ce ⟨_,rfl,_,_,_,_,rfl,rfl,Ag.of (e1 _ _ hp2),rfl,hD1,Ci hi ⟨fun b o z=>?_,?_⟩⟩
  ·rw [AG (AO z hZ)];exact e1 _ _ z
  ·rw [List.take_add_one,hr,Ct,Ct,List.map_append,List.map_append]
   rfl
 rintro us H1 ⟨e1,rfl⟩ hZ1;rw [hyl,List.take_length]at hZ1;refine⟨⟨ys,AZ.of (e1 _ _ hL),Nat.le_refl _⟩,?_⟩;refine⟨_,rfl,_,_,_,_,rfl,rfl,Ag.of (e1 _ _ hp),rfl,R,rfl,⟨_,AZ.of (e1 _ _ hR)⟩,GY (xs:=xs) (fun i σ H'=>∃r2,σ=[some (.ref p),some (.ref Z),r2]∧AH H H'∧H' Z=some (.lst ((Ej t i).map V.int))) ?_ ?_ ?_ ?_⟩
 ·exact⟨_,rfl,e1,by rw [hZ1];unfold Ej;simp⟩
 ·rintro i σ H' _ ⟨r2,rfl,e,_⟩;exact AZ.of (e _ _ hR)
 ·rintro i x σ H2 hx ⟨r2,rfl,e2,hZ2⟩;have hi:i<t.rs.length:=by rw [←hxl];exact(aD.mp hx).1
  have hr:t.rs[i]? = some t.rs[i]:=aG hi;have hrl:=ot.row _ _ hr;obtain⟨a,zs,g1,g2,dz⟩:=FG dR hr;generalize t.rs[i]=row at hr dz hrl;rw [hx]at g1;cases g1;have hzl:zs.length=row.length:=by rw [dz.len,B8]
  refine⟨_,rfl,.inl ⟨rfl,_,AZ.of hZ2⟩,_,rfl,a,rfl,⟨_,AZ.of (e2 _ _ g2)⟩,fun D hD=>Dq (n:=zs.length) (fun j ys H'=>AH H2 H'∧ys=(Ct (row.take j)).map V.int) ⟨AU hD _,rfl⟩ ?_ ?_⟩
  ·rintro j us H3 hj ⟨e3,rfl⟩ hD3;have E3:=e2.trans e3;have hr:row[j]? = some (row[j]'(by omega)):=aG _;obtain⟨p,hp1,hp2⟩:=Ew dz hr;generalize row[j]'(by omega)=r at hr hp2;refine⟨⟨zs,.ref p,AZ.of (E3 _ _ g2),hp1⟩,IB (n:=60) (by unfold Ct;simp;omega) (by decide),fun x H' y=>?_⟩;obtain⟨rfl,y⟩:=y;have hx:=y zs (AZ.of (E3 _ _ g2));rw [hp1]at hx;cases hx;unfold En;refine Ce ⟨_,rfl,_,_,_,_,rfl,rfl,Ag.of (E3 _ _ hp2),rfl,hD3,Ci hj ⟨fun b o z=>?_,?_⟩⟩
   ·rw [AG (AO z hD)];exact e3 _ _ z
   ·rw [List.take_add_one,hr,Ct,Ct,List.map_append,List.map_append]
    rfl
  ·rintro us H3 ⟨e3,rfl⟩ hD3;have E3:=e2.trans e3;rw [hzl,List.take_length]at hD3;refine⟨⟨zs,AZ.of (E3 _ _ g2),Nat.le_refl _⟩,Z,D,_,_,rfl,rfl,e3 _ _ hZ2,hD3,?_,_,rfl,fun b o z=>?_,?_⟩
   ·have:=Gy ot i (by omega);rw [List.length_map,List.length_map,show(Ct row).length=row.length from bH _];have h40:t.rs.length*i≤40*40:=bQ (by omega) (by omega);exact aM (show _≤2000 by omega) (by rw [sizeLine_eq];decide)
   ·rw [AG (AO z hZ)];exact e3 _ _ (e2 _ _ z)
   ·rw [AJ,LQ hr,List.map_append]
 ·rintro σ H2 ⟨r2,rfl,e2,hZ2⟩;rw [hxl]at hZ2;refine⟨_,rfl,Z,_,n,rfl,hZ2,Mv ft _,?_,q H2 e2⟩;have:=Gy ot _ (aE _);have h3:t.rs.length*t.rs.length≤m*m:=bQ h1 h1;exact aM (bA n (by omega)) hnm
end
def DB(t:Tb):List (List Int):=(t.rs++[t.ls]).map fun r=>C9 r (Dw t)
def MG(t:Tb)(u:Tr):Rat:=Rat.divInt ((CL (DB t) u).getLast?.getD 0) (Dw t^u.AX)
def Yz:Sp:=fun vs H Q _=>∃v u,vs=[v]∧Tv H u v∧u.deep<8∧u.AX≤8∧∀H',AH H H'→Q (.int (u.AX:Nat)) H'
def XS(Dm:List Tr)(c:Nat):Sp:=fun vs H Q _=>∃(v:V) (t:Tb) (L:AD) (tvs:List V) (ts:List Tr) (m n k:Nat),vs=[v,.ref L]∧DU H (BE t) v∧t.Ok m∧m≤40∧t.Fits n∧n*(m+m*m)≤4000∧He (DB t) c∧(Dw t).natAbs<2^k∧n+k≤4000∧1≤Dw t ∧
 H L=some (.lst tvs)∧tvs.length=ts.length∧ts.length≤1000∧(∀(i:Nat) (x:V),tvs[i]? = some x→∃u,ts[i]? = some u∧Tv H u x∧u∈Dm∧u.AX≤8∧k*u.AX≤4000) ∧
 ∀D H' zs,AH H H'→H D=none→H' D=some (.lst zs)→A3 H' (Aw (ts.map (MG t))) zs→Q (.ref D) H'
def E9(H:Hp)(zs:List V)(qs:List Rat):Prop:=zs.length=qs.length∧∀(i:Nat) (q:Rat),qs[i]? = some q→∃p:AD,zs[i]? = some (.ref p)∧H p=some (.tup (Fl q))
def E9.Al{H H':Hp}{zs:List V}{qs:List Rat}(h:E9 H zs qs)(e:Gm H H'):E9 H' zs qs:=⟨h.1,fun i q hi=>let⟨p,h1,h2⟩:=h.2 i q hi;⟨p,h1,e _ _ h2⟩⟩
def E9.snoc{H:Hp}{zs:List V}{qs:List Rat}(h:E9 H zs qs){p:AD}{q:Rat}(hp:H p=some (.tup (Fl q))):E9 H (zs++[.ref p]) (qs++[q]):=by
 refine⟨by rw [List.length_append,List.length_append,h.1];rfl,fun i r hi=>?_⟩;by_cases z:i<qs.length
 ·rw [List.getElem?_append_left z]at hi;rw [List.getElem?_append_left (by rw [h.1];exact z)];exact h.2 i r hi
 ·rw [List.getElem?_append_right (by omega)]at hi;rw [List.getElem?_append_right (by rw [h.1];omega),h.1];have:i-qs.length=0:=by
   have:=(aD.mp hi).1;simp at this;omega
  rw [this]at hi ⊢;cases hi;exact⟨p,rfl,hp⟩
def E9.Qg{H:Hp}:∀ {qs:List Rat} {zs:List V},E9 H zs qs→A3 H (Aw qs) zs
 |[],[],_=>.nil
 |[],_::_,h=>by cases h.1
 |_::_,[],h=>by cases h.1
 |q::qs,z::zs,h=>by
  obtain⟨p,h1,h2⟩:=h.2 0 q rfl;cases h1;refine .cons (Fc h2) (E9.Qg ⟨by simpa using h.1,fun i r hi=>?_⟩);exact h.2 (i+1) r hi
def Wu{xs:List Int}(h:1≤xs.length):C2 (xs.map V.int) (-1)=some (V.int (xs.getLast?.getD 0)):=by
 have hne:xs≠[]:=fun z=>by rw [z]at h;exact absurd h (by decide)
 have e:=List.dropLast_concat_getLast hne;rw [←e,List.map_append,List.getLast?_append];exact U9 _ _
def X7{b:Int}(h:1≤b)(k:Nat):b^k≠0:=Int.ne_of_gt (Int.pow_pos h)
def Ue{b:Int}{k p:Nat}(h:b.natAbs<2^k)(hk:k*p≤4000):∃m,m≤9000∧(b^p).natAbs<2^m:=by
 refine⟨k*p+1,by omega,?_⟩;rw [Int.natAbs_pow];refine aY (Nat.pow_le_pow_left (bE h) p) ?_;rw [←Nat.pow_mul];exact Nat.pow_lt_pow_of_lt (by decide) (by omega)
section
variable{P:Program}{w:World}{K:Fg}{mg:Str→Option VL}{base:Heap}{f g g1 g2 g3 g4 g5 g6:AD}{fd gd gd1 gd2 gd3 gd4 gd5 gd6:FuncData}
def Kv:Ab ["table", "trees", "bottom", "rows", "known", "weights", "tree"] ["table", "trees"] (AW Eo):=Bo
def K4{Dm:List Tr}{c:Nat}(DO:RY Dm c)(F:Fn K mg "weights_under" Eo ["table", "trees"] f fd)(Dp:Fn K mg "table_bottom" FJ ["table"] g1 gd1)(FO:Fn K mg "tops_over" HN ["some", "bottom"] g2 gd2)
 (CJ:Fn K mg "readings" IT ["rows", "tree", "known"] g3 gd3)(GI:Fn K mg "power_of" Hv ["base", "power"] g4 gd4)(BZ:Fn K mg "knots_within" FD ["tree"] g5 gd5)(EB:Fn K mg "fraction_of" Fs ["top", "bottom"] g6 gd6)
 (MS:AV P w K mg base Ad 11 g1 gd1 ["table"] Yk)(Pe:AV P w K mg base Ad 11 g2 gd2 ["some", "bottom"] So)(IC:AV P w K mg base Ad 11 g3 gd3 ["rows", "tree", "known"] (Tx Dm c 8))(Q9:AV P w K mg base Ad 11 g4 gd4 ["base", "power"] Vj)
 (FA:AV P w K mg base Ad 11 g5 gd5 ["tree"] Yz)(Ni:AV P w K mg base Ad 11 g6 gd6 ["top", "bottom"] Oz):AV P w K mg base Ad 12 f fd ["table", "trees"] (XS Dm c):=by
 have sc:=Kv;refine F.F.ok (k:=11) sc (fun vs H Q E h=>?_) (fun cdv A outer s H vs Q E hr h=>?_)
 ·obtain⟨v,t,L,tvs,ts,m,n,k,rfl,_⟩:=h
  rfl
 obtain⟨v,t,L,tvs,ts,m,n,k,rfl,dt,ot,hm,ft,hnm,ro,hB,hnk,hB1,hL,htl,hts,hall,q⟩:=h;have o1:=ot.most;have o2:=ot.last;have o3:=ot.one;refine⟨_,(AM (Aj (i:=2) sc.nd rfl (Or.inr rfl) (Av Dp MS hr rfl (AB (pv 0) AF)))
 (AM (KP (i:=3) [".0", "row", "bottom"] 1 [none,none,some 2] sc.nd rfl rfl (CB (Au OP (BM BS (pv 0) AN (fun _ _=>rfl)) (Cd (AB (BM BS (pv 0) AN (fun _ _=>rfl)) AF)))) (fun _ _ _ _ _=>Cg) (fun _ _ _ _ _=>(Av FO Pe hr rfl (AB (pv 1) (AB (pv 2) AF)))))
 (AM (Aj (i:=4) sc.nd rfl (Or.inl rfl) T4)
 (AM (Aj (i:=5) sc.nd rfl (Or.inl rfl) (Cd AF))
 (AM (DR aQ rfl (CB (pv 1)) (A7 (i:=6) sc.nd rfl (Or.inl rfl))
  (AR (Ea (Jt bF bK bL EO (pv 5) (AB (Av EB Ni hr rfl (AB (BM Jx (Av CJ IC hr rfl (AB (pv 3) (AB (pv 6) (AB (pv 4) AF)))) (RB Og AN) (fun _ _=>rfl)) (AB (Av GI Q9 hr rfl (AB (pv 2) (AB (Av BZ FA hr rfl (AB (pv 6) AF)) AF))) AF))) AF)))))
 (AR (Aq (pv 5)))))))),?_⟩
 refine⟨_,rfl,v,t,m,n,rfl,dt,ot,hm,ft,hnm,fun H1 e1=>?_⟩;obtain⟨p,R,L',xs,ys,rfl,hp,hR,dR,hL',dL⟩:=(dt.same e1).tab;have hxl:xs.length=t.rs.length:=by rw [dR.len,Cr]
 refine⟨_,rfl,_,_,_,_,rfl,rfl,Ag.of hp,rfl,_,rfl,_,_,_,_,rfl,rfl,Ag.of hp,rfl,(by show 1≤sizeLine;decide),fun q1 hq1=>?_⟩;have e2:=AU hq1 (.lst [V.ref L']);have h2:upd H1 q1 (.lst [V.ref L']) q1=some (.lst [V.ref L']):=AJ;generalize upd H1 q1 (.lst [V.ref L'])=H2 at e2 h2;refine⟨R,q1,_,_,rfl,rfl,e2 _ _ hR,h2,RC (by simp;omega),fun C0 hC0=>?_⟩;have e3:=AU hC0 (.lst (xs++[V.ref L']));have h3:upd H2 C0 (.lst (xs++[V.ref L'])) C0=some (.lst (xs++[V.ref L'])):=AJ;generalize upd H2 C0 (.lst (xs++[V.ref L']))=H3 at e3 h3;have E3:=(e1.trans e2).trans e3;have E13:=e2.trans e3;have get:∀(i:Nat) (row:List Rat),(t.rs++[t.ls])[i]? = some row→∃(a:AD) (zs:List V),(xs++[V.ref L'])[i]? = some (.ref a)∧H3 a=some (.lst zs)∧A3 H3 (Aw row) zs∧row.length≤50∧∀q∈row,FM.Fits q n:=fun i row hi=>by
  by_cases z:i<t.rs.length
  ·rw [List.getElem?_append_left z]at hi;rw [List.getElem?_append_left (by omega)];obtain⟨a,zs,g1,g2,g3⟩:=FG dR hi;exact⟨a,zs,g1,E13 _ _ g2,g3.same E13,by rw [ot.row i row hi];omega,ft.1 row (aO hi)⟩
  ·rw [List.getElem?_append_right (by omega)]at hi;have:i-t.rs.length=0:=by
    have:=(aD.mp hi).1;simp at this;omega
   rw [this]at hi;cases hi;rw [List.getElem?_append_right (by omega),hxl,this];exact⟨L',ys,rfl,E13 _ _ hL',dL.same E13,by omega,ft.2⟩
 have hal:(t.rs++[t.ls]).length=(xs++[V.ref L']).length:=by rw [List.length_append,List.length_append,hxl];rfl
 have hal60:(xs++[V.ref L']).length<60:=by rw [List.length_append,hxl];simp;omega
 refine⟨C0,rfl,⟨_,AZ.of h3⟩,fun D hD=>Dq (n:=(xs++[V.ref L']).length) (fun i us H'=>AH H3 H'∧us.length=i∧∀(j:Nat) (row:List Rat),j<i→(t.rs++[t.ls])[j]? = some row→∃a:AD,us[j]? = some (.ref a)∧H' a=some (.lst ((C9 row (Dw t)).map V.int))∧a≠D) ?_ ?_ ?_⟩
 ·exact⟨AU hD _,rfl,fun j row hj=>absurd hj (aT _)⟩
 ·rintro i us H4 hi ⟨e4,hul,hus⟩ hD4;have hr:(t.rs++[t.ls])[i]? = some ((t.rs++[t.ls])[i]'(by omega)):=aG _;generalize (t.rs++[t.ls])[i]'(by omega)=row at hr;obtain⟨a,zs,g1,g2,g3,g4,g5⟩:=get i row hr;refine⟨⟨_,.ref a,AZ.of (e4 _ _ h3),g1⟩,IB (n:=60) (by omega) (by decide),fun x H' y=>?_⟩;obtain⟨rfl,y⟩:=y;have hx:=y _ (AZ.of (e4 _ _ h3));rw [g1]at hx;cases hx;unfold En;refine Ce ⟨_,rfl,_,rfl,a,zs,row,Dw t,n,k,rfl,e4 _ _ g2,g3.same e4,g4,g5,hB,hnk,fun D5 H5 e5 n5 h5=>⟨e5 _ _ hD4,Ci hi ⟨fun b o z=>?_,by simp [hul],fun j row' hj hr'=>?_⟩⟩⟩
  ·rw [AG (AO z hD)];exact e5 _ _ (e4 _ _ z)
  ·by_cases z:j<i
   ·obtain⟨b,k1,k2,k3⟩:=hus j row' z hr';exact⟨b,by rw [List.getElem?_append_left (by omega)];exact k1,by rw [AG k3];exact e5 _ _ k2,k3⟩
   ·have:j=i:=by omega
    subst this;rw [hr]at hr';cases hr';have nD:D5≠D:=fun z=>by rw [z,hD4]at n5;cases n5
    exact⟨D5,by rw [List.getElem?_append_right (by omega),hul,Nat.sub_self];rfl,by rw [AG nD];exact h5,nD⟩
 rintro rvs H4 ⟨e4,hul,hus⟩ hD4;refine⟨⟨_,AZ.of (e4 _ _ h3),Nat.le_refl _⟩,?_⟩;have E4:=E3.trans e4;have hrw:Mu H4 rvs (DB t):=by
  refine⟨by rw [hul,←hal];exact(bH _).symm,fun j row hj=>?_⟩;unfold DB at hj;rw [List.getElem?_map]at hj;cases hj':(t.rs++[t.ls])[j]? with
  |none=>rw [hj']at hj;cases hj
  |some row' =>
   rw [hj']at hj;cases hj;obtain⟨a,k1,k2,_⟩:=hus j row' (by rw [←hal];exact(aD.mp hj').1) hj';exact⟨a,k1,k2⟩
 have hDn:H D=none:=Hw E3 hD;refine fun d hd=>?_;have e5:=AU hd (dN d []);have h5:upd H4 d (dN d []) d=some (dN d []):=AJ;generalize upd H4 d (dN d [])=H5 at e5 h5;refine⟨(by show 0≤sizeLine;decide),fun W hW=>?_⟩;have e6:=AU hW (.lst []);have h6:upd H5 W (.lst []) W=some (.lst []):=AJ;generalize upd H5 W (.lst [])=H6 at e6 h6;have hdn:=Hw E4 hd;have E5:=E4.trans e5;have hWn:=Hw E5 hW;have E6:=E5.trans e6;have hdW:d≠W:=fun z=>by rw [←z,h5]at hW;cases hW
 have W4:H4 W=none:=Hw e5 hW;refine⟨_,rfl,L,rfl,⟨_,AZ.of (E6 _ _ hL)⟩,GY (xs:=tvs) (fun i σ H'=>∃(r6:Option V) (ρ:List KR) (zs:List V),σ=[some (.ref p),some (.ref L),some (.int (Dw t)),some (.ref D),some (.ref d),some (.ref W),r6]∧AH H4 H'∧Memo Dm (DB t) W H' d ρ∧H' W=some (.lst zs)∧E9 H' zs ((ts.take i).map (MG t))) ?_ ?_ ?_ ?_⟩
 ·refine⟨_,[],[],rfl,e5.trans e6,⟨e6 _ _ h5,.nil,fun q hq=>by cases hq⟩,h6,rfl,fun i q hi=>by cases hi⟩
 ·rintro i σ H' _ ⟨r6,ρ,zs,rfl,e,_⟩;exact AZ.of (e _ _ (E4 _ _ hL))
 ·rintro i x σ H7 hx ⟨r6,ρ,zs,rfl,e7,me7,hW7,fl7⟩;obtain⟨u,hu,tu,hD,h8,hk⟩:=hall i x hx;have E7:=E4.trans e7;refine⟨_,rfl,.inl ⟨rfl,_,AZ.of hW7⟩,_,rfl,_,rfl,_,rfl,D,rvs,DB t,x,u,d,ρ,W,rfl,e7 _ _ hD4,hrw.same e7,ro,tu.same E7,hD,DO.deep u hD,⟨_,hW7⟩,me7,fun H8 ρ8 l e8 me8 hl8=>?_⟩;have tu8:=(tu.same E7).Al (e8.Al me7.at_);have hW8:=e8.lst me7.at_ hW7;have fl8:=fl7.Al (e8.Al me7.at_);have hne:(CL (DB t) u).length=(t.rs++[t.ls]).length:=(Hn _ _).trans (bH _);have hE8:AH H4 H8:=fun b o z=>e8 _ _ (fun y=>by rw [y,hd]at z;cases z) (e7 _ _ z);refine⟨_,rfl,_,_,_,_,rfl,rfl,AZ.of hl8,Wu (by rw [hne,List.length_append];simp),?_⟩;refine⟨_,rfl,_,rfl,x,u,rfl,tu8,DO.deep u hD,h8,fun H9 e9=>?_⟩;refine⟨Dw t,u.AX,k,rfl,hB,hk,?_⟩;obtain⟨mb,hmb,hpb⟩:=Ue hB hk;refine⟨_,_,mb,rfl,X7 hB1 _,hmb,hpb,fun l' H10 e10 hl10=>?_⟩;have E10:=e9.trans e10;refine⟨W,zs,.ref l',rfl,rfl,E10 _ _ hW8,GS ?_,?_⟩
  ·rw [fl7.1,List.length_map,List.length_take];omega
  ·refine⟨_,ρ8,_,rfl,fun b o z=>?_,⟨?_,me8.nd,fun q' hq'=>?_⟩,AJ,?_⟩
   ·rw [AG (AO z W4)];exact E10 _ _ (hE8 _ _ z)
   ·rw [AG hdW];exact E10 _ _ me8.at_
   ·obtain⟨u',l2,k1,k2,k3,k4,k5,k6⟩:=me8.all q' hq';exact⟨u',l2,k1,k2,(k3.same E10).Al (Gm.upd (E10 _ _ hW8)),k4,by rw [AG k6];exact E10 _ _ k5,k6⟩
   ·rw [List.take_add_one,hu,List.map_append];refine((fl8.Al (.of E10)).snoc (q:=MG t u) hl10).Al (Gm.upd (E10 _ _ hW8))
 ·rintro σ H7 ⟨r6,ρ,zs,rfl,e7,me7,hW7,fl7⟩;rw [htl,List.take_length]at fl7;exact⟨_,rfl,q W H7 zs (E4.trans e7) hWn hW7 fl7.Qg⟩
end
def HU(r:Rat):Prop:=FM.Fits r 3∧r.den≤6
def Tb.Sm(t:Tb):Prop:=(∀r∈t.rs,∀q∈r,HU q)∧∀q∈t.ls,HU q
def YB:Sp:=fun vs H Q _=>∃(a:AD) (ns:List Int) (k:Nat),vs=[.ref a,.int (k:Int)]∧Rd H a (.lst (ns.map V.int))∧∀(x:Int) H',AH H H'→Q (.int x) H'
def Wy:Sp:=fun vs H Q _=>∃n:Int,vs=[.int n]∧∀(l:AD) H' q,AH H H'→H' l=some (.tup (Fl q))→HU q→Q (.ref l) H'
def Xd:Sp:=fun vs H Q _=>∃(n:Int) (z:AD),vs=[.int n]∧H z≠none∧∀v H' t,AH H H'→DU H' (BE t) v→t.Ok 4→t.Sm→(∀p R L,v=.ref p→H' p=some (.tup [.ref R,.ref L])→H L=none)→Q v H'
def XO:Sp:=fun vs H Q _=>∃(a:AD) (ns:List Int) (k most:Nat),vs=[.ref a,.int (k:Int),.int (most:Int)]∧Rd H a (.lst (ns.map V.int))∧1≤most∧most≤4∧∀v H' t,AH H H'→DU H' (BE t) v→t.Ok 4→t.Sm→Q v H'
def q0:Rat:=⟨0,1,by decide,by decide⟩
def q1:Rat:=⟨1,1,by decide,by decide⟩
def SA:Rat:=⟨1,2,by decide,by decide⟩
def Xu:Rat:=⟨1,3,by decide,by decide⟩
def dH:Rat:=⟨2,3,by decide,by decide⟩
def dQ:Rat:=⟨1,4,by decide,by decide⟩
def dB:Rat:=⟨3,4,by decide,by decide⟩
def bT:Rat:=⟨1,6,by decide,by decide⟩
def W3:Tb:=⟨[[]],[q1]⟩
def dU:Tb:=⟨[[],[SA]],[q0,q1]⟩
def dC:Tb:=⟨[[],[q1]],[SA,SA]⟩
def dc:Tb:=⟨[[],[Xu],[q0,dH]],[dQ,q0,dB]⟩
def dI:Tb:=⟨[[],[SA],[q0,SA],[q0,q0,q1]],[bT,Xu,Xu,bT]⟩
instance (r:Rat):Decidable (HU r):=inferInstanceAs (Decidable ((r.num.natAbs<2^3∧r.den<2^3)∧r.den≤6))
def Uy(t:Tb):Bool:=decide (1≤t.rs.length)&&decide (t.rs.length≤4)&&decide (t.ls.length=t.rs.length)&&(List.range 4).all (fun i=>match t.rs[i]? with|some r=>decide (r.length=i)|none=>true)&&t.rs.all (fun r=>r.all fun q=>decide (HU q))&&t.ls.all fun q=>decide (HU q)
def P9{t:Tb}(h:Uy t=true):t.Ok 4∧t.Sm:=by
 unfold Uy at h;simp only [Bool.and_eq_true,decide_eq_true_eq,List.all_eq_true,List.mem_range]at h;obtain⟨⟨⟨⟨⟨h1,h2⟩,h3⟩,h4⟩,h5⟩,h6⟩:=h;refine⟨⟨h1,h2,h3,fun i r hr=>?_⟩,h5,h6⟩;have:=h4 i (by have:=(aD.mp hr).1;omega);rw [hr]at this
 simpa using this
def QN{H H':Hp}{a:AD}{u:HO}(h:Rd H a u)(e:AH H H'):Rd H' a u:=h.elim (fun z=>.inl (e _ _ z)) fun⟨o,z⟩=>.inr ⟨o,e _ _ z⟩
def Wv{H:Hp}{a:AD}{u:HO}(h:Rd H a u):H a≠none:=h.elim (fun z=>by rw [z];exact fun y=>nomatch y) fun⟨o,z⟩=>by rw [z];exact fun y=>nomatch y
section
variable{P:Program}{w:World}{K:Fg}{mg:Str→Option VL}{base:Heap}{f g g1 g2 g3:AD}{fd gd gd1 gd2 gd3:FuncData}
def Nd:Ab ["_law_number"] ["_law_number"] (AW GR):=Bo
def NX(F:Fn K mg "_law_entry" GR ["_law_number"] f fd)(Bb:Fn K mg "_law_frac" D7 ["_law_top", "_law_bottom"] g1 gd1)(B7:AV P w K mg base Ad 1 g1 gd1 ["_law_top", "_law_bottom"] Oz):AV P w K mg base Ad 2 f fd ["_law_number"] Wy:=by
 have sc:=Nd;refine F.F.ok (k:=1) sc (fun vs H Q E h=>?_) (fun cdv A outer s H vs Q E hr h=>?_)
 ·obtain⟨n,rfl,_⟩:=h
  rfl
 obtain⟨n,rfl,q⟩:=h;refine⟨_,(AR (Aq (Av Bb B7 hr rfl (AB (Au JK (Au JB (pv 0) AN) AN) (AB (Au JX AN (Au JB (Au Dl (pv 0) AN) AN)) AF))))),?_⟩;refine⟨_,rfl,_,_,rfl,rfl,(by show(0:Int)<13;decide),_,_,rfl,rfl,_,rfl,_,_,rfl,rfl,⟨by decide,by decide⟩,_,_,rfl,rfl,(by show(0:Int)<6;decide),_,_,rfl,rfl,?_⟩;refine⟨n % 13-6,1+n / 13 % 6,3,rfl,by omega,by decide,by omega,fun l H5 e5 hl=>q l H5 _ e5 hl ⟨.SR (by omega) (by omega) (by omega),?_⟩⟩;have:=FM.Rx (t:=n % 13-6) (b:=1+n / 13 % 6) (by omega);omega
end
section
variable{P:Program}{w:World}{K:Fg}{mg:Str→Option VL}{base:Heap}{f:AD}{fd:FuncData}
def Jh:Ab ["_law_script", "_law_k", "_law_cell_here", "_law_number"] ["_law_script", "_law_k"] (AW HM):=Bo
def HL:DF :=
 (A8 (Bi 2 (fC (.int 0)))
 (A8 (Hc (Ds (IA fun i j=>decide (i<j)) (nm 1) (BF Dx (AE (nm 0) AQ)))
  (Bi 2 (Ai DX (nm 0) (nm 1)))
  Er)
 (A8 (Hc (Ds (IA fun i j=>decide (j≤i)) (nm 2) (Ai JT (fC (.int 10)) (fC (.int 18))))
  (Cm (Ai FL (Ai YW (nm 2) (Ai JT (fC (.int 10)) (fC (.int 18)))) (Ai JT (fC (.int 10)) (fC (.int 60)))))
  Er)
 (A8 (Bi 3 (Ai FL (Ai ED (Ai ED (Ai EL (nm 2) (fC (.int 48271))) (Ai EL (nm 1) (fC (.int 69621)))) (fC (.int 11))) (fC (.int 2147483629))))
 (A8 (Bi 3 (Ai FL (Ai EL (nm 3) (nm 3)) (fC (.int 2147483587))))
 (Cm (Ai ED (Ai EL (nm 3) (fC (.int 2147483563))) (Ai FL (Ai EL (nm 3) (nm 3)) (fC (.int 2147483563))))))))))
def HA:MD:=Dd ["_law_script", "_law_k"] ["_law_script", "_law_k", "_law_cell_here", "_law_number"] (HL)
def N4{k:Nat}(F:Fn K mg "_law_cell" HM ["_law_script", "_law_k"] f fd)(Ar:mg "len" = none) :
  AV P w K mg base Ad (k+1) f fd ["_law_script", "_law_k"] (CF (HA)):=Ie F Jh fun cdv A outer s H E hr=>by
 have sc:=Jh;exact(Ac (BH (i:=2) sc.nd rfl (Or.inl rfl) AI)
 (Ac (GD (Eb VZ (AL (pv 1)) (CS Em rfl Ar aU (AA (AL (pv 0)) AK)) (Am _))
  (Ax (BH (i:=2) sc.nd rfl (Or.inl rfl) (B4 (AL (pv 0)) (AL (pv 1)) (fun _ _=>rfl))))
  Dh)
 (Ac (GD (Eb ZP (AL (pv 2)) (A0 MA AI AI) (Am _))
  (Ax (Bf (A0 De (A0 WQ (AL (pv 2)) (A0 MA AI AI)) (A0 MA AI AI))))
  Dh)
 (Ac (BH (i:=3) sc.nd rfl (Or.inl rfl) (A0 De (A0 CP (A0 CP (A0 DP (AL (pv 2)) AI) (A0 DP (AL (pv 1)) AI)) AI) AI))
 (Ac (BH (i:=3) sc.nd rfl (Or.inl rfl) (A0 De (A0 DP (AL (pv 3)) (AL (pv 3))) AI))
 (Ax (Bf (A0 CP (A0 DP (AL (pv 3)) AI) (A0 De (A0 DP (AL (pv 3)) (AL (pv 3))) AI)))))))))
def Im:Ab ["_law_number"] ["_law_number"] (AW GZ):=Bo
def PV:DF :=
 (A8 (Hc (Ds (FV false) (Ai FL (nm 0) (fC (.int 5))) (fC (.int 0)))
  (Cm (BK (AE (Bk (AE (Bk AQ) AQ)) (AE (Bk (AE (BK (AE (fC (.int 1)) (AE (fC (.int 1)) AQ))) AQ)) AQ))))
  Er)
 (A8 (Hc (Ds (FV false) (Ai FL (nm 0) (fC (.int 5))) (fC (.int 1)))
  (Cm (BK (AE (Bk (AE (Bk AQ) (AE (Bk (AE (BK (AE (fC (.int 1)) (AE (fC (.int 2)) AQ))) AQ)) AQ))) (AE (Bk (AE (BK (AE (fC (.int 0)) (AE (fC (.int 1)) AQ))) (AE (BK (AE (fC (.int 1)) (AE (fC (.int 1)) AQ))) AQ))) AQ))))
  Er)
 (A8 (Hc (Ds (FV false) (Ai FL (nm 0) (fC (.int 5))) (fC (.int 2)))
  (Cm (BK (AE (Bk (AE (Bk AQ) (AE (Bk (AE (BK (AE (fC (.int 1)) (AE (fC (.int 1)) AQ))) AQ)) AQ))) (AE (Bk (AE (BK (AE (fC (.int 1)) (AE (fC (.int 2)) AQ))) (AE (BK (AE (fC (.int 1)) (AE (fC (.int 2)) AQ))) AQ))) AQ))))
  Er)
 (A8 (Hc (Ds (FV false) (Ai FL (nm 0) (fC (.int 5))) (fC (.int 3)))
  (Cm (BK (AE (Bk (AE (Bk AQ) (AE (Bk (AE (BK (AE (fC (.int 1)) (AE (fC (.int 3)) AQ))) AQ)) (AE (Bk (AE (BK (AE (fC (.int 0)) (AE (fC (.int 1)) AQ))) (AE (BK (AE (fC (.int 2)) (AE (fC (.int 3)) AQ))) AQ))) AQ)))) (AE (Bk (AE (BK (AE (fC (.int 1)) (AE (fC (.int 4)) AQ))) (AE (BK (AE (fC (.int 0)) (AE (fC (.int 1)) AQ))) (AE (BK (AE (fC (.int 3)) (AE (fC (.int 4)) AQ))) AQ)))) AQ))))
  Er)
 (Cm (BK (AE (Bk (AE (Bk AQ) (AE (Bk (AE (BK (AE (fC (.int 1)) (AE (fC (.int 2)) AQ))) AQ)) (AE (Bk (AE (BK (AE (fC (.int 0)) (AE (fC (.int 1)) AQ))) (AE (BK (AE (fC (.int 1)) (AE (fC (.int 2)) AQ))) AQ))) (AE (Bk (AE (BK (AE (fC (.int 0)) (AE (fC (.int 1)) AQ))) (AE (BK (AE (fC (.int 0)) (AE (fC (.int 1)) AQ))) (AE (BK (AE (fC (.int 1)) (AE (fC (.int 1)) AQ))) AQ)))) AQ))))) (AE (Bk (AE (BK (AE (fC (.int 1)) (AE (fC (.int 6)) AQ))) (AE (BK (AE (fC (.int 1)) (AE (fC (.int 3)) AQ))) (AE (BK (AE (fC (.int 1)) (AE (fC (.int 3)) AQ))) (AE (BK (AE (fC (.int 1)) (AE (fC (.int 6)) AQ))) AQ))))) AQ))))))))
def Gd:MD:=Dd ["_law_number"] ["_law_number"] (PV)
def NW{k:Nat}(F:Fn K mg "_law_named" GZ ["_law_number"] f fd) :
  AV P w K mg base Ad (k+1) f fd ["_law_number"] (CF (Gd)):=Ie F Im fun cdv A outer s H E hr=>by
 have sc:=Im;exact(Ac (GD (Eb (LK (by have:=hr.units;exact this)) (A0 De (AL (pv 0)) AI) AI (Am _))
  (Ax (Bf (Ap (AA (BC (AA (BC AK) AK)) (AA (BC (AA (Ap (AA AI (AA AI AK))) AK)) AK)))))
  Dh)
 (Ac (GD (Eb (LK (by have:=hr.units;exact this)) (A0 De (AL (pv 0)) AI) AI (Am _))
  (Ax (Bf (Ap (AA (BC (AA (BC AK) (AA (BC (AA (Ap (AA AI (AA AI AK))) AK)) AK))) (AA (BC (AA (Ap (AA AI (AA AI AK))) (AA (Ap (AA AI (AA AI AK))) AK))) AK)))))
  Dh)
 (Ac (GD (Eb (LK (by have:=hr.units;exact this)) (A0 De (AL (pv 0)) AI) AI (Am _))
  (Ax (Bf (Ap (AA (BC (AA (BC AK) (AA (BC (AA (Ap (AA AI (AA AI AK))) AK)) AK))) (AA (BC (AA (Ap (AA AI (AA AI AK))) (AA (Ap (AA AI (AA AI AK))) AK))) AK)))))
  Dh)
 (Ac (GD (Eb (LK (by have:=hr.units;exact this)) (A0 De (AL (pv 0)) AI) AI (Am _))
  (Ax (Bf (Ap (AA (BC (AA (BC AK) (AA (BC (AA (Ap (AA AI (AA AI AK))) AK)) (AA (BC (AA (Ap (AA AI (AA AI AK))) (AA (Ap (AA AI (AA AI AK))) AK))) AK)))) (AA (BC (AA (Ap (AA AI (AA AI AK))) (AA (Ap (AA AI (AA AI AK))) (AA (Ap (AA AI (AA AI AK))) AK)))) AK)))))
  Dh)
 (Ax (Bf (Ap (AA (BC (AA (BC AK) (AA (BC (AA (Ap (AA AI (AA AI AK))) AK)) (AA (BC (AA (Ap (AA AI (AA AI AK))) (AA (Ap (AA AI (AA AI AK))) AK))) (AA (BC (AA (Ap (AA AI (AA AI AK))) (AA (Ap (AA AI (AA AI AK))) (AA (Ap (AA AI (AA AI AK))) AK)))) AK))))) (AA (BC (AA (Ap (AA AI (AA AI AK))) (AA (Ap (AA AI (AA AI AK))) (AA (Ap (AA AI (AA AI AK))) (AA (Ap (AA AI (AA AI AK))) AK))))) AK)))))))))
end
def U7(n:Int):∃t,Gd [.int n]=some (BE t)∧Uy t=true:=by
 have c:∀(k:Int) (b:Bool),decide (n % 5=k)=b→Ds (FV false) (Ai FL (nm 0) (fC (.int 5))) (fC (.int k)) [.d (.int n)]=some b:=fun k b h=>GK (A2 rfl rfl (mod_is (by decide))) rfl (by
  show some (PyData.bool _)=_;rw [←h]
  rfl)
 have r:=Int.emod_nonneg n (show(5:Int)≠0 by decide);by_cases h0:n % 5=0
 ·exact⟨W3,Ca rfl (GN (Gr (c 0 true (by simp [h0])) rfl)),by decide +kernel⟩
 by_cases h1:n % 5=1
 ·exact⟨dU,Ca rfl (BA (Cu (c 0 false (by simp [h0])) rfl) (GN (Gr (c 1 true (by simp [h1])) rfl))),by decide +kernel⟩
 by_cases h2:n % 5=2
 ·exact⟨dC,Ca rfl (BA (Cu (c 0 false (by simp [h0])) rfl) (BA (Cu (c 1 false (by simp [h1])) rfl) (GN (Gr (c 2 true (by simp [h2])) rfl)))),by decide +kernel⟩
 by_cases h3:n % 5=3
 ·exact⟨dc,Ca rfl (BA (Cu (c 0 false (by simp [h0])) rfl) (BA (Cu (c 1 false (by simp [h1])) rfl) (BA (Cu (c 2 false (by simp [h2])) rfl) (GN (Gr (c 3 true (by simp [h3])) rfl))))),by decide +kernel⟩
 ·exact⟨dI,Ca rfl (BA (Cu (c 0 false (by simp [h0])) rfl) (BA (Cu (c 1 false (by simp [h1])) rfl) (BA (Cu (c 2 false (by simp [h2])) rfl) (BA (Cu (c 3 false (by simp [h3])) rfl) rfl)))),by decide +kernel⟩
mutual
def Nl{H:Hp}:∀ {d:PD} {v:V},d.canLay0=true→Du H d v→DU H d v
 |.none,_,_,h=>by rw [Du]at h;subst h;exact .BG
 |.bool _,_,_,h=>by rw [Du]at h;subst h;exact .bool
 |.int _,_,_,h=>by rw [Du]at h;subst h;exact .int
 |.str _,_,_,h=>by rw [Du]at h;subst h;exact .str
 |.tuple _,_,c,h=>by
  rw [Du]at h;obtain⟨a,xs,rfl,h1,h2⟩:=h;exact .tup h1 (Mb (by simpa only [PyData.canLay0]using c) h2)
 |.list _,_,c,h=>by
  rw [Du]at h;obtain⟨a,xs,rfl,h1,h2⟩:=h;exact .lst h1 (Mb (by simpa only [PyData.canLay0]using c) h2)
 |.dict _,_,c,h=>by simp [PyData.canLay0]at c
def Mb{H:Hp}:∀ {ds:List PD} {xs:List V},PyData.canLayAll0 ds=true→Ae H ds xs→A3 H ds xs
 |[],_,_,h=>by rw [h.nil_eq];exact .nil
 |_::_,_,c,h=>by
  obtain⟨x,r,rfl,h1,h2⟩:=h.un;simp only [PyData.canLayAll0,Bool.and_eq_true]at c;exact .cons (Nl c.1 h1) (Mb c.2 h2)
end
mutual
def VS{l:AD}{H:Hp}:∀ {d:PD} {v:V},Dt l H d v→Du H d v
 |.none,_,h=>by rw [Dt]at h;rw [Du];exact h
 |.bool _,_,h=>by rw [Dt]at h;rw [Du];exact h
 |.int _,_,h=>by rw [Dt]at h;rw [Du];exact h
 |.str _,_,h=>by rw [Dt]at h;rw [Du];exact h
 |.tuple _,_,h=>by
  rw [Dt]at h;rw [Du];obtain⟨a,xs,rfl,n,h1,h2⟩:=h;exact⟨a,xs,rfl,h1,MV h2⟩
 |.list _,_,h=>by
  rw [Dt]at h;rw [Du];obtain⟨a,xs,rfl,n,h1,h2⟩:=h;exact⟨a,xs,rfl,h1,MV h2⟩
 |.dict _,_,h=>by rw [Dt]at h;exact h.elim
def MV{l:AD}{H:Hp}:∀ {ds:List PD} {xs:List V},AY l H ds xs→Ae H ds xs
 |[],_,h=>by rw [AY]at h;subst h;exact .nil
 |_::_,_,h=>by
  rw [AY]at h;obtain⟨x,r,rfl,h1,h2⟩:=h;exact .cons (VS h1) (MV h2)
end
def DU.du{H:Hp}{d:PD}{v:V}(h:DU H d v):Du H d v:=let⟨N,k⟩:=h;VS (k N (aE _))
def Zo{G H H':Hp}{l:AD}{vs:List V}{ds:List PD}(e0:AH G H)(e:AH H H')(hl:H' l=some (.tup vs))(d:Ae G ds vs):∃G',AH G G'∧Nw G H G'∧AH G' H'∧Du G' (.tuple ds) (.ref l):=by
 have e1:AH G (upd G l (.tup vs)):=fun a o h=>by
  by_cases ha:a=l
  ·subst ha;have:=e _ _ (e0 _ _ h);rw [hl]at this;rw [AJ];exact this
  ·rw [AG ha];exact h
 refine⟨upd G l (.tup vs),e1,fun a u h=>?_,fun a u h=>?_,?_⟩
 ·by_cases ha:a=l
  ·subst ha;rw [AJ]at h;cases h;exact .inr (.inr ⟨_,rfl⟩)
  ·rw [AG ha]at h;exact .inl h
 ·by_cases ha:a=l
  ·subst ha;rw [AJ]at h;rw [hl];exact h
  ·rw [AG ha]at h;exact e _ _ (e0 _ _ h)
 ·rw [Du];exact⟨l,vs,rfl,AJ,d.same e1⟩
def Ol{G:Hp}:∀ps:List Int,Ae G (ps.map .int) (ps.map V.int)
 |[]=>.nil
 |p::ps=>.cons (by rw [Du]) (Ol ps)
def O9:∀ps:List Int,PyData.canLayAll0 (ps.map .int)=true
 |[]=>by simp [PyData.canLayAll0]
 |p::ps=>by rw [List.map_cons];simp only [PyData.canLayAll0,PyData.canLay0];rw [O9 ps];rfl
def QO(t:Tb):(BE t).canLay0=true:=by
 have f:∀r:List Rat,PyData.canLayAll0 (Aw r)=true:=fun r=>by
  induction r with
  |nil=>rfl
  |cons q r ih=>show PyData.canLayAll0 (Af q::Aw r)=true;simp [PyData.canLayAll0,ih,Af,PyData.canLay0]
 have g:∀rs:List (List Rat),PyData.canLayAll0 (Bh rs)=true:=fun rs=>by
  induction rs with
  |nil=>rfl
  |cons r rs ih=>show PyData.canLayAll0 (Bc r::Bh rs)=true;simp [PyData.canLayAll0,ih,Bc,PyData.canLay0,f]
 simp [BE,PyData.canLay0,PyData.canLayAll0,f,g]
def Uh{P:Program}{w:World}{K:Fg}{mg:Str→Option VL}{base:Heap}{f:AD}{fd:FuncData}{k:Nat}{ps:List Str}(F:AV P w K mg base Ad k f fd ps (CF Gd)):AV P w K mg base Ad k f fd ps Xd :=
 F.imp fun vs H Q E z=>by
  obtain⟨n,zz,rfl,hz,q⟩:=z;obtain⟨t,h1,h2⟩:=U7 n;obtain⟨o1,o2⟩:=P9 h2;refine⟨[.int n],BE t,fun _=>none,h1,.cons (by rw [Du]) .nil,fun a o h=>(by cases h),fun v G' H' _ nw e1 e2 dv=>?_⟩;refine q v H' t e2 (Nl (QO t) (dv.same e1)) o1 o2 fun p R L ev hp=>?_;rw [BE,Du]at dv;obtain⟨a,xs,e3,g1,g2⟩:=dv;subst e3;cases ev;have:=e1 _ _ g1;rw [hp]at this;cases this;obtain⟨x,r,e4,_,g3⟩:=g2.un;cases e4;obtain⟨x,r,e4,g4,_⟩:=g3.un;cases e4;rw [Du]at g4;obtain⟨a,xs,e5,g5,_⟩:=g4;cases e5;rcases nw _ _ g5 with h|h|⟨ys,h⟩
  ·cases h
  ·exact h
  ·cases h
def QX{c:AD}{ws:List V}{H:Hp}(hc:H c=some (.lst ws)):∀ {rs:List (List Rat)} {zs:List V},A3 H (Bh rs) zs→(∀y∈zs,y≠.ref c)→AY c H (Bh rs) zs
 |[],zs,h,_=>by
  have:=h.len;rw [show Bh []=[] from rfl,List.length_nil]at this;rw [List.eq_nil_of_length_eq_zero this];exact .nil
 |r::rs,zs,h,n=>by
  obtain⟨x,t,rfl,h1,h2⟩:=A3.Xi h;obtain⟨a,xs,rfl,ha,dx⟩:=DU.VT h1;exact .cons (Sk hc (fun z=>n (.ref a) aR (by rw [z])) ha dx) (QX hc h2 fun y hy=>n y (aP _ hy))
def OV{c:AD}{ws:List V}{H H':Hp}(hc:H c=some (.lst ws))(e:SameBut c H H'){rs:List (List Rat)}{zs:List V}(h:A3 H (Bh rs) zs)(n:∀y∈zs,y≠.ref c):A3 H' (Bh rs) zs:=EI (.but e (QX hc h n))
def Iw(H:Hp)(R L:AD)(xs:List V)(rs:List (List Rat)):Prop:=xs.length=rs.length∧∀(i:Nat) (r:List Rat),rs[i]? = some r→r.length=i∧(∀q∈r,HU q)∧∃(a:AD) (zs:List V),xs[i]? = some (.ref a)∧H a=some (.lst zs)∧E9 H zs r∧a≠R∧a≠L
def Iw.same{H H':Hp}{R L:AD}{xs:List V}{rs:List (List Rat)}(h:Iw H R L xs rs)(e:AH H H'):Iw H' R L xs rs:=⟨h.1,fun i r hi=>let⟨h1,h2,a,zs,h3,h4,h5,h6⟩:=h.2 i r hi;⟨h1,h2,a,zs,h3,e _ _ h4,h5.Al (.of e),h6⟩⟩
def Iw.upd{H:Hp}{R L c:AD}{xs us vs:List V}{rs:List (List Rat)}(h:Iw H R L xs rs)(hc:H c=some (.lst us))(o:c=R∨c=L):Iw (upd H c (.lst vs)) R L xs rs:=⟨h.1,fun i r hi=>by
 obtain⟨h1,h2,a,zs,h3,h4,h5,h6,h7⟩:=h.2 i r hi;refine⟨h1,h2,a,zs,h3,?_,h5.Al (.upd hc),h6,h7⟩;rw [AG (by rcases o with o|o<;>rw [o]<;>assumption)];exact h4⟩
def Iw.snoc{H:Hp}{R L a:AD}{xs zs:List V}{rs:List (List Rat)}{r:List Rat}(h:Iw H R L xs rs)(ha:H a=some (.lst zs))(f:E9 H zs r)(nR:a≠R)(nL:a≠L)(hl:r.length=rs.length)(sm:∀q∈r,HU q):Iw H R L (xs++[.ref a]) (rs++[r]):=by
 refine⟨by rw [List.length_append,List.length_append,h.1];rfl,fun i r' hi=>?_⟩;by_cases z:i<rs.length
 ·rw [List.getElem?_append_left z]at hi;rw [List.getElem?_append_left (by rw [h.1];exact z)];exact h.2 i r' hi
 ·have hz:i-rs.length=0:=by
   have:=(aD.mp hi).1;simp at this;omega
  rw [List.getElem?_append_right (by omega),hz]at hi;rw [List.getElem?_append_right (by rw [h.1];omega),h.1,hz];cases hi;exact⟨by omega,sm,a,zs,rfl,ha,f,nR,nL⟩
def PH{H:Hp}:∀ {rs:List (List Rat)} {xs:List V},xs.length=rs.length→(∀(i:Nat) (r:List Rat),rs[i]? = some r→∃(a:AD) (zs:List V),xs[i]? = some (.ref a)∧H a=some (.lst zs)∧E9 H zs r)→A3 H (Bh rs) xs
 |[],[],_,_=>.nil
 |[],_::_,h,_=>by cases h
 |_::_,[],h,_=>by cases h
 |r::rs,x::xs,h,g=>by
  obtain⟨a,zs,h1,h2,h3⟩:=g 0 r rfl;cases h1;exact .cons (.lst h2 h3.Qg) (PH (by simpa using h) fun i r hi=>g (i+1) r hi)
def Iw.Qg{H:Hp}{R L:AD}{xs:List V}{rs:List (List Rat)}(h:Iw H R L xs rs):A3 H (Bh rs) xs:=PH h.1 fun i r hi=>let⟨_,_,a,zs,h3,h4,h5,_⟩:=h.2 i r hi;⟨a,zs,h3,h4,h5⟩
def E9.same{H H':Hp}{zs:List V}{qs:List Rat}(h:E9 H zs qs)(e:AH H H'):E9 H' zs qs:=h.Al (.of e)
section
variable{P:Program}{w:World}{K:Fg}{mg:Str→Option VL}{base:Heap}{f g g1 g2 g3:AD}{fd gd gd1 gd2 gd3:FuncData}
def Nb:Ab ["_law_script", "_law_at", "_law_most", "_law_number", "_law_other", "_law_rows", "_law_last", "_law_many", "_law_k", "_law_row", "_law_j"] ["_law_script", "_law_at", "_law_most"] (AW GQ):=Bo
def NY(F:Fn K mg "_law_table" GQ ["_law_script", "_law_at", "_law_most"] f fd)(D4:Fn K mg "_law_cell" HM ["_law_script", "_law_k"] g1 gd1)(Cb:Fn K mg "_law_entry" GR ["_law_number"] g2 gd2)(Ek:Fn K mg "_law_named" GZ ["_law_number"] g3 gd3)
 (FP:AV P w K mg base Ad 3 g1 gd1 ["_law_script", "_law_k"] YB)(Ge:AV P w K mg base Ad 3 g2 gd2 ["_law_number"] Wy)(Gi:AV P w K mg base Ad 3 g3 gd3 ["_law_number"] Xd)(BR:mg "range" = none)(Ar:mg "len" = none):AV P w K mg base Ad 4 f fd ["_law_script", "_law_at", "_law_most"] XO:=by
 have sc:=Nb;refine F.F.ok (k:=3) sc (fun vs H Q E h=>?_) (fun cdv A outer s H vs Q E hr h=>?_)
 ·obtain⟨a,ns,k,most,rfl,_⟩:=h
  rfl
 obtain⟨a,ns,k,most,rfl,ha,m1,m4,q⟩:=h;refine⟨_,(AM (Aj (i:=3) sc.nd rfl (Or.inl rfl) (Av D4 FP hr rfl (AB (pv 0) (AB (pv 1) AF))))
 (AM (Aj (i:=4) sc.nd rfl (Or.inl rfl) (Av D4 FP hr rfl (AB (pv 0) (AB (Au JX (pv 1) AN) AF))))
 (AM (Bd (A9 J3 (Au JB (pv 3) AN) AN (Am _))
  (AM (Lv (Av Ek Gi hr rfl (AB (Au Dl (pv 3) AN) AF)) (Lu rfl (DQ (A7 (i:=5) sc.nd rfl (Or.inl rfl)) (DQ (A7 (i:=6) sc.nd rfl (Or.inl rfl)) Jq))))
  (AM (Bd (A9 IL (Ao BQ rfl Ar aU (AB (pv 5) AF)) (pv 2) (Am _))
   (AR (Aq (DV (AB (Cd (AB (Cd AF) AF)) (AB (Cd (AB (DV (AB AN (AB AN AF))) AF)) AF)))))
   BD)
  (AM (Bd (A9 J3 (Au JB (Au Dl (pv 3) AN) AN) AN (Am _))
   (AR (Lv (Av Cb Ge hr rfl (AB (pv 4) AF)) (N5 (pv 6) (Au HV (Au Dl (pv 3) AN) (Ao BQ rfl Ar aU (AB (pv 6) AF))) set_list)))
   BD)
  (AR (Aq (DV (AB (pv 5) (AB (pv 6) AF))))))))
  BD)
 (AM (Aj (i:=5) sc.nd rfl (Or.inl rfl) (Cd AF))
 (AM (Aj (i:=6) sc.nd rfl (Or.inl rfl) (Cd AF))
 (AM (Aj (i:=7) sc.nd rfl (Or.inl rfl) (Au JX AN (Au HV (Au Dl (pv 3) AN) (pv 2))))
 (AM (Aj (i:=3) sc.nd rfl (Or.inl rfl) (Au Dl (pv 3) AN))
 (AM (DR aQ rfl (JG rfl BR (AB (pv 7) AF)) (A7 (i:=8) sc.nd rfl (Or.inl rfl))
  (AM (Aj (i:=9) sc.nd rfl (Or.inl rfl) (Cd AF))
  (AM (DR aQ rfl (JG rfl BR (AB (pv 8) AF)) (A7 (i:=10) sc.nd rfl (Or.inl rfl))
   (AM (Ea (Jt bF bK bL EO (pv 9) (AB (Av Cb Ge hr rfl (AB (pv 3) AF)) AF)))
   (AR (Aj (i:=3) sc.nd rfl (Or.inl rfl) (Au Dl (pv 3) AN)))))
  (AM (Ea (Jt bF bK bL EO (pv 5) (AB (pv 9) AF)))
  (AM (Ea (Jt bF bK bL EO (pv 6) (AB (Av Cb Ge hr rfl (AB (pv 4) AF)) AF)))
  (AR (Aj (i:=4) sc.nd rfl (Or.inl rfl) (Au Dl (pv 4) AN))))))))
 (AR (Aq (DV (AB (pv 5) (AB (pv 6) AF))))))))))))),?_⟩
 refine⟨_,rfl,_,rfl,a,ns,k,rfl,ha,fun x0 H1 e1=>?_⟩;refine⟨_,rfl,_,rfl,_,_,rfl,rfl,a,ns,k+1,rfl,QN ha e1,fun x1 H2 e2=>?_⟩;have E2:=e1.trans e2;refine⟨_,rfl,_,_,rfl,rfl,(by show(0:Int)<4;decide),rfl,_,rfl,BV (fun c=>?_) (fun c=>?_)⟩
 ·refine⟨_,rfl,_,_,rfl,rfl,⟨by decide,by decide⟩,x0 / 4,a,rfl,Wv (QN ha E2),fun v H3 t e3 dt ot st hn=>?_⟩;obtain⟨p,R,L,xs,ys,rfl,hp,hR,dR,hL,dL⟩:=dt.tab;have hLn:H2 L=none:=hn p R L rfl hp;have hyl:ys.length=t.ls.length:=by rw [dL.len,B8]
  have hxl:xs.length=t.rs.length:=by rw [dR.len,Cr]
  have o1:=ot.one;have o2:=ot.last;have E3:=E2.trans e3;refine⟨p,_,rfl,Ag.of hp,rfl,_,_,rfl,_,_,rfl,rfl,?_⟩;refine⟨_,rfl,_,_,rfl,.inl (AZ.of hR),_,rfl,_,_,rfl,rfl,_,rfl,BV (fun c2=>?_) (fun c2=>?_)⟩
  ·refine⟨(by show 0≤sizeLine;decide),fun p1 hp1=>?_⟩;have f1:=AU hp1 (.lst []);have g1:upd H3 p1 (.lst []) p1=some (.lst []):=AJ;generalize upd H3 p1 (.lst [])=I1 at f1 g1;refine⟨(by show 1≤sizeLine;decide),fun p2 hp2=>?_⟩;have f2:=AU hp2 (.lst [V.ref p1]);have g2:upd I1 p2 (.lst [V.ref p1]) p2=some (.lst [V.ref p1]):=AJ;generalize upd I1 p2 (.lst [V.ref p1])=I2 at f2 g2;refine⟨(by show 2≤sizeLine;decide),fun p3 hp3=>?_⟩;have f3:=AU hp3 (.tup [V.int 1,V.int 1]);have g3:upd I2 p3 (.tup [V.int 1,V.int 1]) p3=some (.tup (Fl q1)):=AJ;generalize upd I2 p3 (.tup [V.int 1,V.int 1])=I3 at f3 g3;refine⟨(by show 1≤sizeLine;decide),fun p4 hp4=>?_⟩;have f4:=AU hp4 (.lst [V.ref p3]);have g4:upd I3 p4 (.lst [V.ref p3]) p4=some (.lst [V.ref p3]):=AJ;generalize upd I3 p4 (.lst [V.ref p3])=I4 at f4 g4;refine⟨(by show 2≤sizeLine;decide),fun p5 hp5=>?_⟩;have f5:=AU hp5 (.tup [V.ref p2,V.ref p4]);have g5:upd I4 p5 (.tup [V.ref p2,V.ref p4]) p5=some (.tup [V.ref p2,V.ref p4]):=AJ;generalize upd I4 p5 (.tup [V.ref p2,V.ref p4])=I5 at f5 g5;have F35:=(f3.trans f4).trans f5;obtain⟨k1,k2⟩:=P9 (t:=W3) (by decide +kernel);exact q _ I5 W3 (((E3.trans f1).trans f2).trans F35) (FW g5 (F35 _ _ g2) (.cons (.lst ((f2.trans F35) _ _ g1) .nil) .nil) (f5 _ _ g4) (.cons (Fc ((f4.trans f5) _ _ g3)) .nil)) k1 k2
  refine⟨_,rfl,_,_,rfl,rfl,⟨by decide,by decide⟩,_,_,rfl,rfl,(by show(0:Int)<3;decide),rfl,_,rfl,BV (fun c3=>?_) (fun c3=>?_)⟩
  ·refine⟨_,rfl,x1,rfl,fun l H4 q4 e4 hl4 hs4=>?_⟩;have hL4:=e4 _ _ hL;have hyp:(0:Int)<((ys.length:Nat):Int):=by omega
   have i1:0≤(x0 / 60).fmod ((ys.length:Nat):Int):=Int.fmod_nonneg_of_pos _ hyp;have i2:(x0 / 60).fmod ((ys.length:Nat):Int)<((ys.length:Nat):Int):=Int.fmod_lt_of_pos _ hyp;refine⟨_,rfl,_,rfl,_,_,rfl,rfl,⟨by decide,by decide⟩,_,rfl,_,_,rfl,.inl (AZ.of hL4),_,_,rfl,rfl,(by show((ys.length:Nat):Int)≠0;omega),L,ys,_,((x0 / 60).fmod ((ys.length:Nat):Int)).toNat,rfl,rfl,hL4,(by unfold Ji;rw [if_pos i1,if_pos i2]),?_⟩;have hj:((x0 / 60).fmod ((ys.length:Nat):Int)).toNat<t.ls.length:=by omega
   generalize ((x0 / 60).fmod ((ys.length:Nat):Int)).toNat=j at hj;have nR:∀y∈xs,y≠V.ref L:=fun y hy z=>by
    subst z;obtain⟨i,hi⟩:=List.getElem?_of_mem hy;have hil:i<t.rs.length:=by have:=(aD.mp hi).1;omega
    obtain⟨a',zs,k1,k2,k3⟩:=FG dR (aG hil);rw [hi]at k1;cases k1;rw [hL]at k2;cases k2;have:=k3.len;rw [B8,ot.row i _ (aG hil)]at this;omega
   have nRL:R≠L:=fun z=>by
    subst z;rw [hR]at hL;cases hL;obtain⟨a',zs,k1,k2,k3⟩:=FG dR (aG (show 0<t.rs.length by omega));obtain⟨p',k4,k5⟩:=Ew dL (aG (show 0<t.ls.length by omega));rw [k1]at k4;cases k4;rw [k2]at k5;cases k5
   have u:SameBut L H4 (upd H4 L (.lst (ys.set j (.ref l)))):=.upd;have dL':=M4 hL4 u (show A3 H4 (Aw (t.ls.set j q4)) (ys.set j (.ref l)) by
    rw [Aw,List.map_set];exact .set (Fc hl4) (dL.same e4))
   have dR':=OV hL4 u (dR.same e4) nR;have hR':upd H4 L (.lst (ys.set j (.ref l))) R=some (.lst xs):=by rw [AG nRL];exact e4 _ _ hR
   have hL':upd H4 L (.lst (ys.set j (.ref l))) L=some (.lst (ys.set j (.ref l))):=AJ;have E5:AH H (upd H4 L (.lst (ys.set j (.ref l)))):=fun b o zz=>by
    rw [AG (AO (E2 _ _ zz) hLn)];exact e4 _ _ (E3 _ _ zz)
   generalize upd H4 L (.lst (ys.set j (.ref l)))=H5 at dL' dR' hR' hL' E5;refine⟨_,rfl,_,rfl,(by show 2≤sizeLine;decide),fun p2 hp2=>?_⟩;have e6:=AU hp2 (.tup [V.ref R,V.ref L]);refine q _ _ ⟨t.rs,t.ls.set j q4⟩ (E5.trans e6) (FW AJ (e6 _ _ hR') (dR'.same e6) (e6 _ _ hL') (dL'.same e6)) ⟨ot.one,ot.most,by show(t.ls.set j q4).length=_;rw [List.length_set];exact o2,ot.row⟩ ⟨st.1,fun x hx=>?_⟩;rcases List.mem_or_eq_of_mem_set hx with h|h
   ·exact st.2 x h
   ·rw [h];exact hs4
  ·refine⟨_,rfl,_,rfl,(by show 2≤sizeLine;decide),fun p2 hp2=>?_⟩;have e4:=AU hp2 (.tup [V.ref R,V.ref L]);exact q _ _ t (E3.trans e4) (FW AJ (e4 _ _ hR) (dR.same e4) (e4 _ _ hL) (dL.same e4)) ot st
 ·refine⟨(by show 0≤sizeLine;decide),fun R hR=>?_⟩;have f1:=AU hR (.lst []);have g1:upd H2 R (.lst []) R=some (.lst []):=AJ;generalize upd H2 R (.lst [])=I1 at f1 g1;refine⟨(by show 0≤sizeLine;decide),fun L hL=>?_⟩;have f2:=AU hL (.lst []);have g2:upd I1 L (.lst []) L=some (.lst []):=AJ;generalize upd I1 L (.lst [])=I2 at f2 g2;have nRL:R≠L:=AO g1 hL;have hL2:H2 L=none:=Hw f1 hL;have m0:(most:Int)≠0:=by omega
  refine⟨_,rfl,_,_,rfl,rfl,⟨by decide,by decide⟩,_,rfl,_,_,rfl,rfl,m0,_,_,rfl,rfl,?_⟩;obtain⟨many,hn1,hn4,em⟩:∃many:Nat,1≤many∧many≤most∧1+(x0 / 4).fmod most=(many:Int):=by
   have e:=Int.fmod_eq_emod_of_nonneg (x0 / 4) (show(0:Int)≤(most:Int) by omega);have a:=Int.emod_nonneg (x0 / 4) m0;have b:=Int.emod_lt_of_pos (x0 / 4) (show(0:Int)<(most:Int) by omega);exact⟨(1+(x0 / 4).fmod most).toNat,by omega,by omega,by omega⟩
  rw [show((fun i j:Int=>V.int (i+j)) 1 ((x0 / 4).fmod most))=V.int (many:Int) from bG V.int em];refine⟨_,rfl,_,_,rfl,rfl,⟨by decide,by decide⟩,?_⟩;refine⟨_,rfl,(many:Int),rfl,by omega,by omega,M1 (n:=(many:Int).toNat) (fun i σ H'=>∃(num oth:Int) (r8 r9 r10:Option V) (xs ys:List V) (rs:List (List Rat)) (ls:List Rat),σ=[some (.ref a),some (.int (k:Int)),some (.int most),some (.int num),some (.int oth),some (.ref R),some (.ref L),some (.int many),r8,r9,r10]∧AH H2 H'∧H' R=some (.lst xs)∧H' L=some (.lst ys)∧Iw H' R L xs rs∧E9 H' ys ls∧rs.length=i∧ls.length=i∧∀q∈ls,HU q) ?_ ?_ ?_⟩
  ·exact⟨_,_,_,_,_,[],[],[],[],rfl,f1.trans f2,f2 _ _ g1,g2,⟨rfl,fun i r z=>by simp at z⟩,⟨rfl,fun i r z=>by simp at z⟩,rfl,rfl,fun _ z=>(List.not_mem_nil z).elim⟩
  ·rintro i σ H3 hi ⟨num,oth,r8,r9,r10,xs,ys,rs,ls,rfl,e3,hR3,hL3,rw3,fl3,hrl,hll,hls⟩;refine⟨(by show 0≤sizeLine;decide),fun A hA=>?_⟩;have f3:=AU hA (.lst []);have g3:upd H3 A (.lst []) A=some (.lst []):=AJ;generalize upd H3 A (.lst [])=I3 at f3 g3;have nAR:A≠R:=(AO hR3 hA).symm;have nAL:A≠L:=(AO hL3 hA).symm;refine⟨_,rfl,0+(i:Int),rfl,by omega,by omega,M1 (n:=(0+(i:Int)).toNat) (fun j σ H'=>∃(num:Int) (r10:Option V) (zs:List V) (r:List Rat),σ=[some (.ref a),some (.int (k:Int)),some (.int most),some (.int num),some (.int oth),some (.ref R),some (.ref L),some (.int many),some (.int (0+(i:Int))),some (.ref A),r10]∧AH H3 H'∧H' A=some (.lst zs)∧E9 H' zs r∧r.length=j∧∀q∈r,HU q) ?_ ?_ ?_⟩
   ·exact⟨_,_,[],[],rfl,f3,g3,⟨rfl,fun i r z=>by simp at z⟩,rfl,fun _ z=>(List.not_mem_nil z).elim⟩
   ·rintro j σ H4 hj ⟨num,r10,zs,r,rfl,e4,hA4,fz,hzl,hzs⟩;have hl:=fz.1;refine⟨_,rfl,.inl ⟨rfl,_,AZ.of hA4⟩,_,rfl,num,rfl,fun l H5 q5 e5 hl5 hs5=>?_⟩;have hA5:=e5 _ _ hA4;refine⟨A,zs,_,rfl,rfl,hA5,IB (n:=60) (by omega) (by decide),?_⟩;refine⟨_,rfl,_,_,rfl,rfl,⟨by decide,by decide⟩,_,_,zs++[.ref l],r++[q5],rfl,fun b o zz=>?_,AJ,((fz.same e5).snoc hl5).Al (.upd hA5),by simp [hzl],fun q' hq'=>?_⟩
    ·rw [AG (AO zz hA)];exact e5 _ _ (e4 _ _ zz)
    ·rcases bD.mp hq' with h|h
     ·exact hzs _ h
     ·rw [List.mem_singleton.mp h];exact hs5
   ·rintro σ H4 ⟨num,r10,zs,r,rfl,e4,hA4,fz,hzl,hzs⟩;have hR4:=e4 _ _ hR3;have hxl:=rw3.1;have hyl:=fl3.1;refine⟨_,rfl,.inl ⟨rfl,_,AZ.of hR4⟩,_,rfl,R,xs,_,rfl,rfl,hR4,IB (n:=60) (by omega) (by decide),?_⟩;have rw4:=((rw3.same e4).snoc hA4 fz nAR nAL (by omega) hzs).upd (vs:=xs++[.ref A]) hR4 (.inl rfl);have fl4:=(fl3.same e4).Al (Gm.upd (o:=.lst (xs++[.ref A])) hR4);have hR5:upd H4 R (.lst (xs++[.ref A])) R=some (.lst (xs++[.ref A])):=AJ;have hL5:upd H4 R (.lst (xs++[.ref A])) L=some (.lst ys):=by rw [AG nRL.symm];exact e4 _ _ hL3
    have e5:AH H2 (upd H4 R (.lst (xs++[.ref A]))):=fun b o zz=>by rw [AG (AO zz hR)];exact e4 _ _ (e3 _ _ zz)
    generalize upd H4 R (.lst (xs++[.ref A]))=H5 at rw4 fl4 hR5 hL5 e5;refine⟨_,rfl,.inl ⟨rfl,_,AZ.of hL5⟩,_,rfl,oth,rfl,fun l H6 q6 e6 hl6 hs6=>?_⟩;have hL6:=e6 _ _ hL5;refine⟨L,ys,_,rfl,rfl,hL6,IB (n:=60) (by omega) (by decide),?_⟩;refine⟨_,rfl,_,_,rfl,rfl,⟨by decide,by decide⟩,_,_,_,_,_,xs++[.ref A],ys++[.ref l],rs++[r],ls++[q6],rfl,fun b o zz=>?_,?_,AJ,(rw4.same e6).upd hL6 (.inr rfl),((fl4.same e6).snoc hl6).Al (.upd hL6),by simp [hrl],by simp [hll],fun q' hq'=>?_⟩
    ·rw [AG (AO zz hL2)];exact e6 _ _ (e5 _ _ zz)
    ·rw [AG nRL];exact e6 _ _ hR5
    ·rcases bD.mp hq' with h|h
     ·exact hls _ h
     ·rw [List.mem_singleton.mp h];exact hs6
  rintro σ H3 ⟨num,oth,r8,r9,r10,xs,ys,rs,ls,rfl,e3,hR3,hL3,rw3,fl3,hrl,hll,hls⟩;refine⟨_,rfl,_,rfl,(by show 2≤sizeLine;decide),fun p2 hp2=>?_⟩;have e4:=AU hp2 (.tup [V.ref R,V.ref L]);refine q _ _ ⟨rs,ls⟩ ((E2.trans e3).trans e4) (FW AJ (e4 _ _ hR3) (rw3.Qg.same e4) (e4 _ _ hL3) (fl3.Qg.same e4)) ⟨by show 1≤rs.length;omega,by show rs.length≤4;omega,by show ls.length=rs.length;omega,fun i r hi=>(rw3.2 i r hi).1⟩ ⟨fun r hr=>?_,hls⟩;obtain⟨i,hi⟩:=List.getElem?_of_mem hr;exact(rw3.2 i r hi).2.1
end
section
variable{P:Program}{w:World}{K:Fg}{mg:Str→Option VL}{base:Heap}{f:AD}{fd:FuncData}
def N7:Ab ["_law_tree"] ["_law_tree"] (AW HG):=Bo
def KY(An:MD):DF :=
 (Cm (BF Kg (AE (Yc (BF (Lh false) (AE (GA (FC 1) T2 (BF An (AE (nm 1) AQ)) [none,none] (MR (nm 0))) AQ)) (cL (fC (.int 1)))) AQ)))
def An:Nat→MD
 |0=>fun _=>none
 |n+1=>Dd ["_law_tree"] ["_law_tree"] (KY (An n))
def JF{k:Nat}(Ba:Fn K mg "_law_kept" HG ["_law_tree"] f fd)(EM:mg "sorted" = none)(BX:mg "tuple" = none):∀n,
  AV P w K mg base Ad (k+n+1) f fd ["_law_tree"] (CF (An n))
 |0=>Gv fun _ _ _ _ ⟨_,_,_,h,_⟩=>by cases h
 |n+1=>by
  have sc:=N7;have Bs:=JF (k:=k) Ba EM BX n;refine Ie (k:=k+n+1) (F:=KY (An n)) Ba sc fun cdv A outer s H E hr=>?_;exact(Ax (Bf (Sl Uw rfl BX bN (AA (YT (CS (Wl (by have:=hr.units;exact this)) rfl EM PyProof.Rows.boot_sorted (AA (Ju [".0", "_law_bough"] 1 [none,none] (Hi (AL (pv 0))) (fun _ _ _ _ _=>Mh) (fun _ _ _ _ _=>(CA Ba Bs hr rfl (AA (AL (pv 1)) AK)))) AK)) (Xs AI)) AK))))
def Mf:Ab ["_law_tree", "_law_found", "_law_k"] ["_law_tree"] (AW Fo):=Bo
def Ii(An:MD)(A6:MD):DF :=
 (A8 (Bi 1 (Bk (AE (BF An (AE (Ai ED (nm 0) (BK (AE (BK AQ) AQ))) AQ)) AQ)))
 (A8 (Ef (FQ HS (AE (BF Dx (AE (nm 0) AQ)) AQ)) (HB 2)
  (Bi 1 (Ai ED (nm 1) (GA (FC 1) T2 (BF An (AE (Ai ED (Ai ED (U1 (nm 2) Rl (RD (nm 3))) (BK (AE (nm 1) AQ))) (U1 (nm 2) (RD (Ai ED (nm 3) (fC (.int 1)))) Rl)) AQ)) [none,none,some 0,some 2] (MR (BF A6 (AE (Ai DX (nm 0) (nm 2)) AQ)))))))
 (Cm (nm 1))))
def A6(An:MD):Nat→MD
 |0=>fun _=>none
 |n+1=>Dd ["_law_tree"] ["_law_tree", "_law_found", "_law_k"] (Ii An (A6 An n))
def Hb{k:Nat}{An:MD}(Bj:Fn K mg "_law_longer" Fo ["_law_tree"] f fd)
 {KL:AD}{JC:FuncData}(Ba:Fn K mg "_law_kept" HG ["_law_tree"] KL JC)(Bs:AV P w K mg base Ad k KL JC ["_law_tree"] (CF An))(Ar:mg "len" = none)(BR:mg "range" = none):∀n,
  AV P w K mg base Ad (k+n+1) f fd ["_law_tree"] (CF (A6 An n))
 |0=>Gv fun _ _ _ _ ⟨_,_,_,h,_⟩=>by cases h
 |n+1=>by
  have sc:=Mf;have Cz:=Hb (k:=k) (An:=An) Bj Ba Bs Ar BR n;have Bs:=Bs.mono (show k≤k+n+1 by omega);refine Ie (k:=k+n+1) (F:=Ii An (A6 An n)) Bj sc fun cdv A outer s H E hr=>?_;exact(Ac (BH (i:=1) sc.nd rfl (Or.inl rfl) (BC (AA (CA Ba Bs hr rfl (AA (A0 CP (AL (pv 0)) (Ap (AA (Ap AK) AK))) AK)) AK)))
 (Ac (FY aQ rfl (Ff rfl BR (AA (CS Em rfl Ar aU (AA (AL (pv 0)) AK)) AK)) (EX (A7 (i:=2) sc.nd rfl (Or.inr rfl)))
  (Ax (BH (i:=1) sc.nd rfl (Or.inl rfl) (A0 CP (AL (pv 1)) (Ju [".0", "_law_more", "_law_tree", "_law_k"] 1 [none,none,some 0,some 2] (Hi (CA Bj Cz hr rfl (AA (B4 (AL (pv 0)) (AL (pv 2)) (fun _ _=>rfl)) AK))) (fun _ _ _ _ _=>Mh) (fun _ _ _ _ _=>(CA Ba Bs hr rfl (AA (A0 CP (A0 CP (K3 (AL (pv 2)) MO (Mj (AL (pv 3)))) (Ap (AA (AL (pv 1)) AK))) (K3 (AL (pv 2)) (Mj (A0 CP (AL (pv 3)) AI)) MO)) AK))))))))
 (Ax (Bf (AL (pv 1))))))
def Iu:Ab ["_law_most", "_law_found", "_law_row", "_law_many", "_law_wider", "_law_tree"] ["_law_most"] (AW GU):=Bo
def O0(A6:MD):DF :=
 (A8 (Bi 1 (Bk AQ))
 (A8 (Bi 2 (Bk (AE (BK AQ) AQ)))
 (A8 (Ef (FQ HS (AE (nm 0) AQ)) (HB 3)
  (A8 (Bi 1 (Ai ED (nm 1) (nm 2)))
  (A8 (Bi 4 (Bk AQ))
  (A8 (Ef (MR (nm 2)) (HB 5)
   (Bi 4 (Ai ED (nm 4) (BF A6 (AE (nm 5) AQ)))))
  (Bi 2 (fun δ=>((nm 4) δ).bind Kn))))))
 (Cm (nm 1)))))
def JN(A6:MD):MD:=Dd ["_law_most"] ["_law_most", "_law_found", "_law_row", "_law_many", "_law_wider", "_law_tree"] (O0 A6)
def NV{k:Nat}{A6:MD}(F:Fn K mg "_law_trees" GU ["_law_most"] f fd)
 {Io:AD}{Hg:FuncData}(Bj:Fn K mg "_law_longer" Fo ["_law_tree"] Io Hg)(Cz:AV P w K mg base Ad k Io Hg ["_law_tree"] (CF A6))(BR:mg "range" = none)(Q4:mg "set" = none)(EM:mg "sorted" = none) :
  AV P w K mg base Ad (k+1) f fd ["_law_most"] (CF (JN A6)):=Ie F Iu fun cdv A outer s H E hr=>by
 have sc:=Iu;exact(Ac (BH (i:=1) sc.nd rfl (Or.inl rfl) (BC AK))
 (Ac (BH (i:=2) sc.nd rfl (Or.inl rfl) (BC (AA (Ap AK) AK)))
 (Ac (FY aQ rfl (Ff rfl BR (AA (AL (pv 0)) AK)) (EX (A7 (i:=3) sc.nd rfl (Or.inl rfl)))
  (Ac (BH (i:=1) sc.nd rfl (Or.inl rfl) (A0 CP (AL (pv 1)) (AL (pv 2))))
  (Ac (BH (i:=4) sc.nd rfl (Or.inl rfl) (BC AK))
  (Ac (FY aQ rfl (Hi (AL (pv 2))) (EX (A7 (i:=5) sc.nd rfl (Or.inl rfl)))
   (Ax (BH (i:=4) sc.nd rfl (Or.inl rfl) (A0 CP (AL (pv 4)) (CA Bj Cz hr rfl (AA (AL (pv 5)) AK))))))
  (Ax (BH (i:=2) sc.nd rfl (Or.inl rfl) (Rj rfl (by have:=hr.units;exact this) rfl EM rfl Q4 (AL (pv 4)))))))))
 (Ax (Bf (AL (pv 1)))))))
def KG:Ab ["_law_one", "_law_other"] ["_law_one", "_law_other"] (AW Ht):=Bo
def Ls(BI:MD):DF :=
 (Cm (BF BI (AE (Ai ED (Ai EL (Ai DX (nm 0) (fC (.int 0))) (Ai DX (nm 1) (fC (.int 1)))) (Ai EL (Ai DX (nm 1) (fC (.int 0))) (Ai DX (nm 0) (fC (.int 1))))) (AE (Ai EL (Ai DX (nm 0) (fC (.int 1))) (Ai DX (nm 1) (fC (.int 1)))) AQ))))
def B2(BI:MD):MD:=Dd ["_law_one", "_law_other"] ["_law_one", "_law_other"] (Ls BI)
def Pq{k:Nat}{BI:MD}(F:Fn K mg "_law_add" Ht ["_law_one", "_law_other"] f fd)
 {D3:AD}{DM:FuncData}(Bb:Fn K mg "_law_frac" D7 ["_law_top", "_law_bottom"] D3 DM)(B7:AV P w K mg base Ad k D3 DM ["_law_top", "_law_bottom"] (CF BI)) :
  AV P w K mg base Ad (k+1) f fd ["_law_one", "_law_other"] (CF (B2 BI)):=Ie F KG fun cdv A outer s H E hr=>by
 have sc:=KG;exact(Ax (Bf (CA Bb B7 hr rfl (AA (A0 CP (A0 DP (B4 (AL (pv 0)) AI (fun _ _=>rfl)) (B4 (AL (pv 1)) AI (fun _ _=>rfl))) (A0 DP (B4 (AL (pv 1)) AI (fun _ _=>rfl)) (B4 (AL (pv 0)) AI (fun _ _=>rfl)))) (AA (A0 DP (B4 (AL (pv 0)) AI (fun _ _=>rfl)) (B4 (AL (pv 1)) AI (fun _ _=>rfl))) AK)))))
def KQ:Ab ["_law_one", "_law_other"] ["_law_one", "_law_other"] (AW IP):=Bo
def Ln(BI:MD):DF :=
 (Cm (BF BI (AE (Ai EL (Ai DX (nm 0) (fC (.int 0))) (Ai DX (nm 1) (fC (.int 0)))) (AE (Ai EL (Ai DX (nm 0) (fC (.int 1))) (Ai DX (nm 1) (fC (.int 1)))) AQ))))
def B3(BI:MD):MD:=Dd ["_law_one", "_law_other"] ["_law_one", "_law_other"] (Ln BI)
def Py{k:Nat}{BI:MD}(F:Fn K mg "_law_mul" IP ["_law_one", "_law_other"] f fd)
 {D3:AD}{DM:FuncData}(Bb:Fn K mg "_law_frac" D7 ["_law_top", "_law_bottom"] D3 DM)(B7:AV P w K mg base Ad k D3 DM ["_law_top", "_law_bottom"] (CF BI)) :
  AV P w K mg base Ad (k+1) f fd ["_law_one", "_law_other"] (CF (B3 BI)):=Ie F KQ fun cdv A outer s H E hr=>by
 have sc:=KQ;exact(Ax (Bf (CA Bb B7 hr rfl (AA (A0 DP (B4 (AL (pv 0)) AI (fun _ _=>rfl)) (B4 (AL (pv 1)) AI (fun _ _=>rfl))) (AA (A0 DP (B4 (AL (pv 0)) AI (fun _ _=>rfl)) (B4 (AL (pv 1)) AI (fun _ _=>rfl))) AK)))))
def O8:Ab ["_law_tree", "_law_above", "_law_bough", "_law_place"] ["_law_tree"] (AW HE):=Bo
def KH(BJ:MD):DF :=
 (A8 (Bi 1 (Bk (AE (fC (.int 0)) AQ)))
 (A8 (Ef (MR (nm 0)) (HB 2)
  (A8 (Bi 3 (BF Dx (AE (nm 1) AQ)))
  (Bi 1 (Ai ED (Ai ED (nm 1) (Bk (AE (fC (.int 0)) AQ))) (GA (FC 1) T2 (Ai ED (nm 2) (nm 1)) [none,none,some 3] (MR (U1 (BF BJ (AE (nm 2) AQ)) (RD (fC (.int 1))) Rl)))))))
 (Cm (nm 1))))
def BJ:Nat→MD
 |0=>fun _=>none
 |n+1=>Dd ["_law_tree"] ["_law_tree", "_law_above", "_law_bough", "_law_place"] (KH (BJ n))
def JH{k:Nat}(B9:Fn K mg "_law_flat" HE ["_law_tree"] f fd)(Ar:mg "len" = none):∀n,
  AV P w K mg base Ad (k+n+1) f fd ["_law_tree"] (CF (BJ n))
 |0=>Gv fun _ _ _ _ ⟨_,_,_,h,_⟩=>by cases h
 |n+1=>by
  have sc:=O8;have D6:=JH (k:=k) B9 Ar n;refine Ie (k:=k+n+1) (F:=KH (BJ n)) B9 sc fun cdv A outer s H E hr=>?_;exact(Ac (BH (i:=1) sc.nd rfl (Or.inl rfl) (BC (AA AI AK)))
 (Ac (FY aQ rfl (Hi (AL (pv 0))) (EX (A7 (i:=2) sc.nd rfl (Or.inl rfl)))
  (Ac (BH (i:=3) sc.nd rfl (Or.inr rfl) (CS Em rfl Ar aU (AA (AL (pv 1)) AK)))
  (Ax (BH (i:=1) sc.nd rfl (Or.inl rfl) (A0 CP (A0 CP (AL (pv 1)) (BC (AA AI AK))) (Ju [".0", "_law_one", "_law_place"] 1 [none,none,some 3] (Hi (K3 (CA B9 D6 hr rfl (AA (AL (pv 2)) AK)) (Mj AI) MO)) (fun _ _ _ _ _=>Mh) (fun _ _ _ _ _=>(A0 CP (AL (pv 2)) (AL (pv 1))))))))))
 (Ax (Bf (AL (pv 1))))))
def Iy:Ab ["_law_many", "_law_count", "_law_found", "_law_k"] ["_law_many", "_law_count"] (AW Gk):=Bo
def N1:DF :=
 (A8 (Bi 2 (fC (.int 1)))
 (A8 (Ef (FQ HS (AE (nm 1) AQ)) (HB 3)
  (Bi 2 (Ai EL (nm 2) (nm 0))))
 (Cm (nm 2))))
def BP:MD:=Dd ["_law_many", "_law_count"] ["_law_many", "_law_count", "_law_found", "_law_k"] (N1)
def Nf{k:Nat}(F:Fn K mg "_law_power" Gk ["_law_many", "_law_count"] f fd)(BR:mg "range" = none) :
  AV P w K mg base Ad (k+1) f fd ["_law_many", "_law_count"] (CF (BP)):=Ie F Iy fun cdv A outer s H E hr=>by
 have sc:=Iy;exact(Ac (BH (i:=2) sc.nd rfl (Or.inl rfl) AI)
 (Ac (FY aQ rfl (Ff rfl BR (AA (AL (pv 1)) AK)) (EX (A7 (i:=3) sc.nd rfl (Or.inl rfl)))
  (Ax (BH (i:=2) sc.nd rfl (Or.inl rfl) (A0 DP (AL (pv 2)) (AL (pv 0))))))
 (Ax (Bf (AL (pv 2))))))
def JP:Ab ["_law_table_here", "_law_row", "_law_other"] ["_law_table_here", "_law_row", "_law_other"] (AW HC):=Bo
def KZ:DF :=
 (A8 (Hc (Ds (IA fun i j=>decide (i<j)) (nm 2) (nm 1))
  (Cm (Ai DX (Ai DX (Ai DX (nm 0) (fC (.int 0))) (nm 1)) (nm 2)))
  Er)
 (Cm (BK (AE (fC (.int 0)) (AE (fC (.int 1)) AQ)))))
def BU:MD:=Dd ["_law_table_here", "_law_row", "_law_other"] ["_law_table_here", "_law_row", "_law_other"] (KZ)
def Ny{k:Nat}(F:Fn K mg "_law_read" HC ["_law_table_here", "_law_row", "_law_other"] f fd) :
  AV P w K mg base Ad (k+1) f fd ["_law_table_here", "_law_row", "_law_other"] (CF (BU)):=Ie F JP fun cdv A outer s H E hr=>by
 have sc:=JP;exact(Ac (GD (Eb VZ (AL (pv 2)) (AL (pv 1)) (Am _))
  (Ax (Bf (B4 (B4 (B4 (AL (pv 0)) AI (fun _ _=>rfl)) (AL (pv 1)) (fun _ _=>rfl)) (AL (pv 2)) (fun _ _=>rfl))))
  Dh)
 (Ax (Bf (Ap (AA AI (AA AI AK))))))
def Hk:Ab ["_law_table_here", "_law_tree", "_law_above", "_law_many", "_law_found", "_law_start", "_law_number", "_law_rows", "_law_k", "_law_worth"] ["_law_table_here", "_law_tree"] (AW Fz):=Bo
def Ik(B2:MD)(BJ:MD)(B3:MD)(BP:MD)(BU:MD):DF :=
 (A8 (Bi 2 (BF BJ (AE (nm 1) AQ)))
 (A8 (Bi 3 (BF Dx (AE (Ai DX (nm 0) (fC (.int 0))) AQ)))
 (A8 (Bi 4 (BK (AE (fC (.int 0)) (AE (fC (.int 1)) AQ))))
 (A8 (Ef (FQ HS (AE (BF BP (AE (nm 3) (AE (BF Dx (AE (nm 2) AQ)) AQ))) AQ)) (HB 5)
  (A8 (Bi 6 (nm 5))
  (A8 (cM 7 AQ)
  (A8 (Ef (FQ HS (AE (BF Dx (AE (nm 2) AQ)) AQ)) (HB 8)
   (A8 (UI 7 (Ai FL (nm 6) (nm 3)))
   (Bi 6 (Ai Qy (nm 6) (nm 3)))))
  (A8 (Bi 9 (Ai DX (Ai DX (nm 0) (fC (.int 1))) (Hl 7 (fC (.int 0)))))
  (A8 (Ef (FQ Mm (AE (fC (.int 1)) (AE (BF Dx (AE (nm 2) AQ)) AQ))) (HB 8)
   (Hc (Ds (FV true) (nm 9) (BK (AE (fC (.int 0)) (AE (fC (.int 1)) AQ))))
    (Bi 9 (BF B3 (AE (nm 9) (AE (BF BU (AE (nm 0) (AE (Hl 7 (Ai DX (nm 2) (nm 8))) (AE (Hl 7 (nm 8)) AQ)))) AQ))))
    Er))
  (Bi 4 (BF B2 (AE (nm 4) (AE (nm 9) AQ))))))))))
 (Cm (nm 4))))))
def Ir(B2:MD)(BJ:MD)(B3:MD)(BP:MD)(BU:MD):MD:=Dd ["_law_table_here", "_law_tree"] ["_law_table_here", "_law_tree", "_law_above", "_law_many", "_law_found", "_law_start", "_law_number", "_law_rows", "_law_k", "_law_worth"] (Ik B2 BJ B3 BP BU)
def Mn{k:Nat}{B2:MD}{BJ:MD}{B3:MD}{BP:MD}{BU:MD}(F:Fn K mg "_law_weight" Fz ["_law_table_here", "_law_tree"] f fd)
 {LS:AD}{KI:FuncData}(GH:Fn K mg "_law_add" Ht ["_law_one", "_law_other"] LS KI)(Ia:AV P w K mg base Ad k LS KI ["_law_one", "_law_other"] (CF B2))
 {KW:AD}{Jf:FuncData}(B9:Fn K mg "_law_flat" HE ["_law_tree"] KW Jf)(D6:AV P w K mg base Ad k KW Jf ["_law_tree"] (CF BJ))
 {Ld:AD}{Ka:FuncData}(F7:Fn K mg "_law_mul" IP ["_law_one", "_law_other"] Ld Ka)(IG:AV P w K mg base Ad k Ld Ka ["_law_one", "_law_other"] (CF B3))
 {JZ:AD}{Iq:FuncData}(Ez:Fn K mg "_law_power" Gk ["_law_many", "_law_count"] JZ Iq)(Gg:AV P w K mg base Ad k JZ Iq ["_law_many", "_law_count"] (CF BP))
 {Kc:AD}{Jk:FuncData}(FT:Fn K mg "_law_read" HC ["_law_table_here", "_law_row", "_law_other"] Kc Jk)(HH:AV P w K mg base Ad k Kc Jk ["_law_table_here", "_law_row", "_law_other"] (CF BU))(Ar:mg "len" = none)(BR:mg "range" = none) :
  AV P w K mg base Ad (k+1) f fd ["_law_table_here", "_law_tree"] (CF (Ir B2 BJ B3 BP BU)):=Ie F Hk fun cdv A outer s H E hr=>by
 have sc:=Hk;exact(Ac (BH (i:=2) sc.nd rfl (Or.inl rfl) (CA B9 D6 hr rfl (AA (AL (pv 1)) AK)))
 (Ac (BH (i:=3) sc.nd rfl (Or.inl rfl) (CS Em rfl Ar aU (AA (B4 (AL (pv 0)) AI (fun _ _=>rfl)) AK)))
 (Ac (BH (i:=4) sc.nd rfl (Or.inl rfl) (Ap (AA AI (AA AI AK))))
 (Ac (FY aQ rfl (Ff rfl BR (AA (CA Ez Gg hr rfl (AA (AL (pv 3)) (AA (CS Em rfl Ar aU (AA (AL (pv 2)) AK)) AK))) AK)) (EX (A7 (i:=5) sc.nd rfl (Or.inl rfl)))
  (Ac (BH (i:=6) sc.nd rfl (Or.inl rfl) (AL (pv 5)))
  (Ac (X6 (i:=7) sc.nd rfl (Or.inl rfl) AK)
  (Ac (FY aQ rfl (Ff rfl BR (AA (CS Em rfl Ar aU (AA (AL (pv 2)) AK)) AK)) (EX (A7 (i:=8) sc.nd rfl (Or.inl rfl)))
   (Ac (TX (pv 7) (A0 De (AL (pv 6)) (AL (pv 3))) (fun ho ha=>Ea (Jt bF bK bL EO ho ha)))
   (Ax (BH (i:=6) sc.nd rfl (Or.inl rfl) (A0 Vv (AL (pv 6)) (AL (pv 3)))))))
  (Ac (BH (i:=9) sc.nd rfl (Or.inl rfl) (B4 (B4 (AL (pv 0)) AI (fun _ _=>rfl)) (K0 (pv 7) AI (fun _ _=>rfl)) (fun _ _=>rfl)))
  (Ac (FY aQ rfl (SN rfl BR (AA AI (AA (CS Em rfl Ar aU (AA (AL (pv 2)) AK)) AK))) (EX (A7 (i:=8) sc.nd rfl (Or.inl rfl)))
   (Ax (GD (Eb (VJ (by have:=hr.units;exact this)) (AL (pv 9)) (Ap (AA AI (AA AI AK))) (Am _))
    (Ax (BH (i:=9) sc.nd rfl (Or.inl rfl) (CA F7 IG hr rfl (AA (AL (pv 9)) (AA (CA FT HH hr rfl (AA (AL (pv 0)) (AA (K0 (pv 7) (B4 (AL (pv 2)) (AL (pv 8)) (fun _ _=>rfl)) (fun _ _=>rfl)) (AA (K0 (pv 7) (AL (pv 8)) (fun _ _=>rfl)) AK)))) AK)))))
    Dh)))
  (Ax (BH (i:=4) sc.nd rfl (Or.inl rfl) (CA GH Ia hr rfl (AA (AL (pv 4)) (AA (AL (pv 9)) AK)))))))))))
 (Ax (Bf (AL (pv 4))))))))
def LF:Ab ["_law_found"] ["_law_found"] (AW JU):=Bo
def NJ:DF :=
 (A8 (Hc (YV (Yj (US (UT C4 (nm 0)))) (Ds (FV true) (BF Dx (AE (nm 0) AQ)) (fC (.int 2))))
  (Cm (fC (.bool false)))
  Er)
 (Cm (Ai (FV false) (BF Dx (AE (GA (FC 1) (YV (Yj (US (UT Fd (nm 1)))) (US (UT EW (nm 1)))) (nm 1) [none,none] (MR (nm 0))) AQ)) (fC (.int 0)))))
def JW:MD:=Dd ["_law_found"] ["_law_found"] (NJ)
def Q5{k:Nat}(F:Fn K mg "_law_is" JU ["_law_found"] f fd)(Hj:mg "bool" = none)(Jy:mg "int" = none)(Aa:mg "isinstance" = none)(Ar:mg "len" = none)(BX:mg "tuple" = none) :
  AV P w K mg base Ad (k+1) f fd ["_law_found"] (CF (JW)):=Ie F LF fun cdv A outer s H E hr=>by
 have sc:=LF;exact(Ac (GD (DW.dt (VD (Sn (OM (Ov (K5 _) rfl Aa rfl BX bN (AL (pv 0))))) (Th (Eb (VJ (by have:=hr.units;exact this)) (CS Em rfl Ar aU (AA (AL (pv 0)) AK)) AI (Am _)))))
  (Ax (Bf ZV))
  Dh)
 (Ax (Bf (W5 (LK (by have:=hr.units;exact this)) (CS Em rfl Ar aU (AA (Ju [".0", "_law_one"] 1 [none,none] (Hi (AL (pv 0))) (fun _ _ _ _ _=>(Wm (DW.dt (VD (Sn (OM (Ov (OX _) rfl Aa rfl Jy PyProof.Rows.boot_int (AL (pv 1))))) (Th (OM (Ov (NU _) rfl Aa rfl Hj PyProof.Rows.boot_bool (AL (pv 1))))))))) (fun _ _ _ _ _=>(AL (pv 1)))) AK)) AI (Am _)))))
end
def HW(r:Rat):(Af r).canLay0=true:=by unfold Af;simp only [PyData.canLay0];exact O9 [r.num,(r.den:Int)]
section
variable{P:Program}{w:World}{K:Fg}{mg:Str→Option VL}{base:Heap}{CX:F4}{k:Nat}{f:AD}{fd:FuncData}{ps:List Str}
def Sy(ds:List PD):Option PD:=match ds with
 |[.int t,.int b]=>if b≠0∧b.natAbs<2^400 then some (Af (Rat.divInt t b)) else none
 |_=>none
def bq(F:AV P w K mg base CX k f fd ps Oz):AV P w K mg base CX k f fd ps (CF Sy) :=
 V7 F fun ds x hm G H vs Q E d e kk=>by
  unfold Sy at hm;split at hm
  ·split at hm
   ·rename_i hh;cases hm;obtain⟨v1,v2,rfl,d1,d2⟩:=d.VV;rw [Du]at d1 d2;subst d1 d2;refine⟨_,_,400,rfl,hh.1,by decide,hh.2,fun l H' e' hl'=>?_⟩;obtain⟨G',n1,n2,n3,n4⟩:=Zo e e' hl' (Ol [(Rat.divInt _ _).num,((Rat.divInt _ _).den:Int)]);exact kk _ G' H' n1 n2 n3 e' n4
   ·cases hm
  ·cases hm
end
def Uv{n:Nat}{ds:List PD}(h:∀d∈ds,Ok n d):D9 n ds:=by
 induction ds with
 |nil=>exact⟨by simp [PyData.canLayAll0],by simp [PyData.depthAll]⟩
 |cons d ds ih =>
  obtain⟨a,b⟩:=h d (.head _);obtain⟨a',b'⟩:=ih fun e he=>h e (.tail _ he);exact⟨by simp only [PyData.canLayAll0];rw [a,a'];rfl,by simp only [PyData.depthAll];omega⟩
def cy{n:Nat}{ds:List PD}(h:∀d∈ds,Ok n d):Ok (n+1) (.tuple ds):=.tup (Uv h)
def HZ(r:Rat):Ok 1 (Af r):=cy (n:=0) fun d hd=>by
 rcases aL.mp hd with rfl|hd
 ·exact .int
 ·rw [List.mem_singleton.mp hd];exact .int
def ne_self{x:PD}{n:Nat}(h:Ok n x)(hn:n≤64):FV true x x=some (.bool false):=by
 refine(if_pos ⟨h.shaped hn,h.shaped hn⟩).trans ?_;rw [FF x h.1];rfl
def WV(x y:Int):FV false (.int x) (.int y)=some (.bool (decide (x=y))):=by
 have h:SeqAt.shaped (.int x)=true∧SeqAt.shaped (.int y)=true:=⟨(Ok.int (n:=0)).shaped (by decide),(Ok.int (n:=0)).shaped (by decide)⟩;refine(if_pos h).trans ?_;simp [PyData.eqv];exact Bool.eq_iff_iff.mpr (by simp)
def Nv{i j:Int}{n:Nat}(h1:i.natAbs<2^n)(h2:j.natAbs<2^n)(hn:n≤9000):EL (.int i) (.int j)=some (.int (i*j)):=S8 (by
 unfold Jv;rw [Lw (n:=9000) (aH h1 (aW (by decide) hn)),Lw (n:=9000) (aH h2 (aW (by decide) hn))];simp)
def div_is{i j:Int}(h:0<j)(h2:j.natAbs<2^64):Qy (.int i) (.int j)=some (.int (i / j)):=by
 refine(if_pos ⟨by omega,Lw (aH h2 (aW (by decide) (by decide)))⟩).trans ?_;rw [Int.fdiv_eq_ediv_of_nonneg _ (by omega)]
def TZ{t b:Int}(h:b≠0)(h2:b.natAbs<2^400):Sy [.int t,.int b]=some (Af (Rat.divInt t b)):=if_pos ⟨h,h2⟩
def Vt(ns:List Int)(k:Nat):∃c,HA [Fw ns,.int (k:Nat)]=some (.int c):=by
 suffices hh:∃c,HL [.d (Fw ns),.d (.int (k:Nat)),.no,.no]=some (.rt (.int c)) by
  obtain⟨c,h⟩:=hh;exact⟨c,Ca rfl h⟩
 unfold HL;have e1:∃c0,(Hc (Ds (IA fun i j=>decide (i<j)) (nm 1) (BF Dx (AE (nm 0) AQ))) (Bi 2 (Ai DX (nm 0) (nm 1))) Er) [.d (Fw ns),.d (.int (k:Nat)),.d (.int 0),.no]=some (.nx [.d (Fw ns),.d (.int (k:Nat)),.d (.int c0),.no]):=by
  have t:Ds (IA fun i j=>decide (i<j)) (nm 1) (BF Dx (AE (nm 0) AQ)) [.d (Fw ns),.d (.int (k:Nat)),.d (.int 0),.no]=some (decide ((k:Int)<((ns.map PyData.int).length:Nat))):=GK (x:=.int (k:Nat)) (y:=.int ((ns.map PyData.int).length:Nat)) rfl rfl rfl;rw [List.length_map]at t;by_cases z:k<ns.length
  ·rw [decide_eq_true (show(k:Int)<(ns.length:Nat) by omega)]at t;exact⟨ns[k],Gr t (Dg (A2 (x:=Fw ns) (y:=.int (k:Nat)) rfl rfl (EY (by rw [List.getElem?_map,List.getElem?_eq_getElem z];rfl))))⟩
  ·rw [decide_eq_false (show ¬(k:Int)<(ns.length:Nat) by omega)]at t;exact⟨0,Cu t rfl⟩
 obtain⟨c0,e1⟩:=e1;have p18:Ai JT (fC (.int 10)) (fC (.int 18)) [.d (Fw ns),.d (.int (k:Nat)),.d (.int c0),.no]=some (.int ((10:Int)^18)):=A2 (x:=.int 10) (y:=.int 18) rfl rfl (TF (n:=18) (by decide) (by decide));have p60:Ai JT (fC (.int 10)) (fC (.int 60)) [.d (Fw ns),.d (.int (k:Nat)),.d (.int c0),.no]=some (.int ((10:Int)^60)):=A2 (x:=.int 10) (y:=.int 60) rfl rfl (TF (n:=60) (by decide) (by decide));have t2:Ds (IA fun i j=>decide (j≤i)) (nm 2) (Ai JT (fC (.int 10)) (fC (.int 18))) [.d (Fw ns),.d (.int (k:Nat)),.d (.int c0),.no]=some (decide ((10:Int)^18≤c0)):=GK (x:=.int c0) (y:=.int ((10:Int)^18)) rfl p18 rfl;by_cases z:(10:Int)^18≤c0
 ·rw [decide_eq_true z]at t2;exact⟨_,BA rfl (BA e1 (GN (Gr t2 (GJ (A2 (x:=.int (c0-(10:Int)^18)) (A2 (x:=.int c0) rfl p18 rfl) p60 (mod_is (Int.pow_pos (by decide))))))))⟩
 ·rw [decide_eq_false z]at t2;have hn:∀(a:Int) (m:Int),0<m→m<2^60→(a % m).natAbs<2^64:=fun a m h0 h1=>by
   have:=Int.emod_nonneg a (by omega:m≠0);have:=Int.emod_lt_of_pos a h0;omega
  generalize hv:(c0*48271+(k:Int)*69621+11) % 2147483629=v;have v1:v.natAbs<2^64:=by rw [←hv];exact hn _ _ (by decide) (by decide)
  generalize hu:v*v % 2147483587=u;have u1:u.natAbs<2^64:=by rw [←hu];exact hn _ _ (by decide) (by decide)
  refine⟨_,BA rfl (BA e1 (BA (Cu t2 rfl) (BA (Dg (y:=.int v) ?_) (BA (Dg (y:=.int u) ?_) (GJ (A2 (x:=.int (u*2147483563)) (y:=.int (u*u % 2147483563)) (A2 (x:=.int u) (y:=.int 2147483563) rfl rfl (mul_r (by decide))) (A2 (x:=.int (u*u)) (y:=.int 2147483563) (A2 (x:=.int u) (y:=.int u) rfl rfl (mul_r u1)) rfl (mod_is (by decide))) rfl))))))⟩
  ·refine A2 (x:=.int (c0*48271+(k:Int)*69621+11)) (y:=.int 2147483629) (A2 (x:=.int (c0*48271+(k:Int)*69621)) (y:=.int 11) (A2 (x:=.int (c0*48271)) (y:=.int ((k:Int)*69621)) (A2 (x:=.int c0) (y:=.int 48271) rfl rfl (mul_r (by decide))) (A2 (x:=.int (k:Nat)) (y:=.int 69621) rfl rfl (mul_r (by decide))) rfl) rfl rfl) rfl ((mod_is (by decide)).trans ?_);rw [hv]
  ·refine A2 (x:=.int (v*v)) (y:=.int 2147483587) (A2 (x:=.int v) (y:=.int v) rfl rfl (mul_r v1)) rfl ((mod_is (by decide)).trans ?_);rw [hu]
abbrev UD:MD:=B3 Sy
def XI{p q:Rat}(hp:FM.Fits p 190)(hq:FM.Fits q 190):UD [Af p,Af q]=some (Af (p*q)):=by
 refine Ca rfl ?_;unfold Ln;refine GJ (DN (xs:=[.int (p.num*q.num),.int ((p.den:Int)*q.den)]) (BO (A2 (x:=.int p.num) (y:=.int q.num) rfl rfl (Nv hp.1 hq.1 (by decide))) (BO (A2 (x:=.int (p.den:Int)) (y:=.int (q.den:Int)) rfl rfl (Nv hp.d hq.d (by decide))) rfl)) ?_);refine(TZ (FM.P4 p q) (aH (FM.dd hp hq) (aW (by decide) (by decide)))).trans ?_;rw [FM.UH]
abbrev YU:MD:=B2 Sy
def Xp{p q:Rat}(hp:FM.Fits p 190)(hq:FM.Fits q 190):YU [Af p,Af q]=some (Af (p+q)):=by
 refine Ca rfl ?_;unfold Ls;refine GJ (DN (xs:=[.int (p.num*q.den+q.num*p.den),.int ((p.den:Int)*q.den)]) (BO (A2 (x:=.int (p.num*q.den)) (y:=.int (q.num*p.den)) (A2 (x:=.int p.num) (y:=.int (q.den:Int)) rfl rfl (Nv hp.1 hq.d (by decide))) (A2 (x:=.int q.num) (y:=.int (p.den:Int)) rfl rfl (Nv hq.1 hp.d (by decide))) rfl) (BO (A2 (x:=.int (p.den:Int)) (y:=.int (q.den:Int)) rfl rfl (Nv hp.d hq.d (by decide))) rfl)) ?_);refine(TZ (FM.P4 p q) (aH (FM.dd hp hq) (aW (by decide) (by decide)))).trans ?_;rw [FM.W7]
abbrev tD(t:Tr):PD:=.tuple (L2.Bc t)
def Ws{ix:Nat}{f:Dv→Option PD}{tif:Dv→Option Bool}{fs:Dv→Option (List PD)}{fr:List (Option Nat)}{xs:List PD}{δ:Dv}(hx:fs δ=some xs)(h:∀x∈xs,tif ((Cy fr δ).set ix (.d x))=some false):GA (FC ix) tif f fr fs δ=some (.list []):=by
 unfold GA Np;rw [hx,Option.bind_some];have:∀xs:List PD,(∀x∈xs,tif ((Cy fr δ).set ix (.d x))=some false)→L2.collect (MC (FC ix) tif f (Cy fr δ)) xs=some []:=fun xs=>by
  induction xs with
  |nil=>intro _;rfl
  |cons x xs ih =>
   intro h;unfold L2.collect;rw [ih fun y hy=>h y (.tail _ hy)];have e:MC (FC ix) tif f (Cy fr δ) x=some none:=by
    unfold MC FC;rw [Option.bind_some];show(tif _).bind _=_;rw [h x (.head _),Option.bind_some,if_neg (by decide)]
   rw [e];rfl
 rw [this xs h,Option.bind_some]
 rfl
def ZC(p:Rat):JW [Af p]=some (.bool true):=by
 refine Ca rfl ?_;unfold NJ;refine BA (Cu (Zy rfl (GK (x:=.int 2) (y:=.int 2) rfl rfl ?_)) rfl) (GJ (A2 (x:=.int 0) (y:=.int 0) (DN (xs:=[.list []]) (BO (Ws (xs:=[.int p.num,.int (p.den:Int)]) rfl fun x hx=>?_) rfl) rfl) rfl (WV 0 0)))
 ·exact(ne_self (Ok.int (n:=0)) (by decide))
 ·rcases aL.mp hx with rfl|hx
  ·rfl
  ·rw [List.mem_singleton.mp hx];rfl
def VQ(n:Nat):((60:Int)^n)≠0:=Int.pow_ne_zero (by decide)
def Dr(m:Int)(c:Nat)(q:Rat):Prop:=∃a:Int,q=Rat.divInt a m∧a.natAbs≤c
def Dr.add{m:Int}{c d:Nat}{p q:Rat}(hm:m≠0)(h:Dr m c p)(k:Dr m d q):Dr m (c+d) (p+q):=by
 obtain⟨a,rfl,h1⟩:=h;obtain⟨b,rfl,h2⟩:=k;exact⟨a+b,by rw [Rat.divInt_add_divInt _ _ hm hm,←Int.add_mul,Rat.divInt_mul_right hm],by omega⟩
def Dr.mul{m n:Int}{c d:Nat}{p q:Rat}(h:Dr m c p)(k:Dr n d q):Dr (m*n) (c*d) (p*q):=by
 obtain⟨a,rfl,h1⟩:=h;obtain⟨b,rfl,h2⟩:=k;exact⟨a*b,by rw [Rat.divInt_mul_divInt],by rw [Int.natAbs_mul];exact bQ h1 h2⟩
def Dr.zero{m:Int}{c:Nat}:Dr m c 0:=⟨0,by rw [Rat.zero_divInt],by simp⟩
def Dr.fits{m:Int}{c n:Nat}{q:Rat}(hm:m≠0)(h:Dr m c q)(h1:c<2^n)(h2:m.natAbs<2^n):FM.Fits q n:=by
 obtain⟨a,rfl,h3⟩:=h;exact .SR hm (aY h3 h1) h2
abbrev Zq:MD:=An 9
abbrev V2:MD:=A6 Zq 9
abbrev Tu:MD:=JN V2
def CD:Nat→List Tr
 |0=>[]
 |n+1=>CD n++TH.tz n
abbrev N3(n:Nat):PD:=.list (L2.Bc (Tr.of (CD n)))
def Wg:Tu [.int 5]=some (N3 5):=by kernel_rfl
def Uo:((CD 5).all fun t=>(CD 5).all fun u=>decide (TH.BB (some u)≠TH.BB (some t))||decide (u=t))=true:=by decide +kernel
def WK{t u:Tr}(ht:t∈CD 5)(hu:u∈CD 5)(e:TH.BB (some u)=TH.BB (some t)):u=t:=by
 have:=ao.mp (ao.mp Uo t ht) u hu;rw [Bool.or_eq_true]at this;rcases this with h|h
 ·exact absurd e (aa h)
 ·exact aa h
def YX:Tr→List Nat→List Nat
 |.nil,acc=>acc
 |.cons b r,acc=>YX r (acc++[0]++((YX b [0]).tail.map (acc.length + ·)))
def D0(u:Tr):List Nat:=YX u [0]
abbrev BN(ns:List Nat):List PD:=ns.map fun(n:Nat)=>PyData.int (n:Int)
abbrev RU:MD:=BJ 9
def Uj:(CD 5).map (fun u=>RU [tD u])=(CD 5).map fun u=>some (PyData.list (BN (D0 u))):=by kernel_rfl
def WJ{u:Tr}(hu:u∈CD 5):RU [tD u]=some (.list (BN (D0 u))):=List.map_inj_left.mp Uj u hu
def WO:∀u∈CD 5,(D0 u).length≤5∧(D0 u).length=u.AX∧1≤(D0 u).length∧∀a∈D0 u,a<(D0 u).length:=by decide +kernel
def Tp:(List.range 5).map (fun m=>(List.range 6).map fun n=>BP [.int (m:Nat),.int (n:Nat)])=(List.range 5).map fun m=>(List.range 6).map fun n=>some (PyData.int ((m^n:Nat):Int)):=by kernel_rfl
def UZ{m n:Nat}(hm:m≤4)(hn:n≤5):BP [.int (m:Nat),.int (n:Nat)]=some (.int ((m^n:Nat):Int)):=List.map_inj_left.mp (List.map_inj_left.mp Tp m (ay.mpr (by omega))) n (ay.mpr (by omega))
def NB(t:Tb)(r j:Nat):Rat:=if j<r then(t.rs.getD r []).getD j 0 else 0
def ZD{t:Tb}(h:t.Ok 4){r j:Nat}(hr:r<t.rs.length):BU [BE t,.int (r:Nat),.int (j:Nat)]=some (Af (NB t r j)):=by
 refine Ca rfl ?_;unfold KZ;have t1:Ds (IA fun i j=>decide (i<j)) (nm 2) (nm 1) [.d (BE t),.d (.int (r:Nat)),.d (.int (j:Nat))]=some (decide ((j:Int)<(r:Int))):=GK (x:=.int (j:Nat)) (y:=.int (r:Nat)) rfl rfl rfl;unfold NB;by_cases z:j<r
 ·rw [decide_eq_true (show(j:Int)<(r:Int) by omega)]at t1;rw [if_pos z];have e1:t.rs[r]? = some (t.rs[r]):=aG hr;have hl:=h.row _ _ e1;rw [List.getD_eq_getElem?_getD (l:=t.rs),e1];generalize t.rs[r]=row at e1 hl;have e2:row[j]? = some (row[j]'(by omega)):=aG _;show _=some (Ou.rt (Af (row.getD j 0)));rw [List.getD_eq_getElem?_getD,e2];refine GN (Gr t1 (GJ (A2 (x:=.list (Aw row)) (y:=.int (j:Nat)) (A2 (x:=.list (Bh t.rs)) (y:=.int (r:Nat)) rfl rfl (EY ?_)) rfl (EY ?_))))
  ·unfold Bh;rw [List.getElem?_map,e1];rfl
  ·unfold Aw;rw [List.getElem?_map,e2];rfl
 ·rw [decide_eq_false (show ¬(j:Int)<(r:Int) by omega)]at t1;rw [if_neg z];exact BA (Cu t1 rfl) rfl
def dg(m s k:Nat):Nat:=s / m^k % m
def wk(t:Tb)(ab:List Nat)(s:Nat):Nat→Rat
 |0=>t.ls.getD (dg t.rs.length s 0) 0
 |k+1=>wk t ab s k*NB t (dg t.rs.length s (ab.getD (k+1) 0)) (dg t.rs.length s (k+1))
def sm(f:Nat→Rat):Nat→Rat
 |0=>0
 |s+1=>sm f s+f s
def Eu(t:Tb)(u:Tr):Rat:=sm (fun s=>wk t (D0 u) s ((D0 u).length-1)) (t.rs.length^(D0 u).length)
def Tb.S7(t:Tb):Prop:=(∀r∈t.rs,∀q∈r,Dr 60 420 q)∧∀q∈t.ls,Dr 60 420 q
def Ko{p:Rat→Prop}(h0:p 0){l:List Rat}(h:∀q∈l,p q)(i:Nat):p (l.getD i 0):=by
 rw [List.getD_eq_getElem?_getD];cases e:l[i]? with
 |none=>exact h0
 |some q=>exact h q (aO e)
def TB{t:Tb}(h:t.S7)(r j:Nat):Dr 60 420 (NB t r j):=by
 unfold NB;split
 ·rw [List.getD_eq_getElem?_getD (l:=t.rs)];cases e:t.rs[r]? with
  |none=>exact Ko .zero (l:=[]) (fun q hq=>by cases hq) j
  |some row=>exact Ko .zero (h.1 row (aO e)) j
 ·exact .zero
def Q3{t:Tb}(h:t.S7)(ab:List Nat)(s:Nat):∀k,Dr (60^(k+1)) (420^(k+1)) (wk t ab s k)
 |0=>Ko .zero h.2 _
 |k+1=>by
  have:=(Q3 h ab s k).mul (TB h (dg t.rs.length s (ab.getD (k+1) 0)) (dg t.rs.length s (k+1)));rw [←Int.pow_succ,←Nat.pow_succ]at this;exact this
def Va{f:Nat→Rat}{m:Int}{c:Nat}(hm:m≠0)(h:∀s,Dr m c (f s)):∀n,Dr m (n*c) (sm f n)
 |0=>.zero
 |n+1=>by
  have:=(Va hm h n).add hm (h n);rw [←Nat.succ_mul]at this;exact this
def Ll{k c:Nat}(hk:k≤5)(hc:c≤2^20){q:Rat}(h:Dr (60^k) (c*420^k) q):FM.Fits q 190:=by
 refine h.fits (VQ _) ?_ ?_
 ·refine aY (bQ hc (aW (by decide) hk)) (by decide)
 ·rw [Int.natAbs_pow];exact aY (aW (by decide) hk) (by decide)
def Wi{δ:Dv}{f g:Dv→Option PD}{i j:Int}(h:f δ=some (.int i))(k:g δ=some (.int j))(h0:-1000000≤i∧i≤1000000∧-1000000≤j∧j≤1000000):FQ Mm (AE f (AE g AQ)) δ=some (EE i (j-i).toNat):=by
 show(AE f (AE g AQ) δ).bind Mm=_;rw [BO h (BO k (show AQ δ=some [] from rfl))];exact if_pos h0
def UO(p q:Rat):PyData.eqv (Af p) (Af q)=decide (p=q):=by
 by_cases h:p=q
 ·subst h;rw [decide_eq_true rfl];exact FF _ (HW p)
 ·rw [decide_eq_false h];refine aZ.mpr fun z=>h ?_;unfold Af at z;simp [PyData.eqv,PyData.eqvAll]at z;exact FM.Wq z.1 (by omega)
def Wc(p q:Rat):FV true (Af p) (Af q)=some (.bool (!decide (p=q))):=by
 refine(if_pos ⟨(HZ p).shaped (by decide),(HZ q).shaped (by decide)⟩).trans ?_;rw [UO];rfl
def Xf{i:Nat}{f:Dv→Option PD}{δ:Dv}{y:PD}{xs:List PD}(h:f δ=some y)(o:ow i δ=some xs)(hl:xs.length<Ec):UI i f δ=some (.nx (δ.set i (.own (.lst (xs++[y]))))):=by
 show(f δ).bind _=_;rw [h];show(ow i δ).bind _=_;rw [o];exact if_pos hl
def K2{i p:Nat}{g:Dv→Option PD}{δ:Dv}{y:PD}{xs:List PD}(h:g δ=some (.int (p:Nat)))(o:ow i δ=some xs)(k:xs[p]? = some y):Hl i g δ=some y:=by
 show(g δ).bind _=_;rw [h];show(ow i δ).bind _=_;rw [o];exact EY k
def Ma(a:Int)(n:Nat):(EE a n).length=n:=by unfold EE;simp
abbrev YK:MD:=Ir YU RU UD BP BU
def SV{t:Tb}(ht:t.Ok 4)(hs:t.S7){u:Tr}(hu:u∈CD 5):YK [BE t,tD u]=some (Af (Eu t u)):=by
 obtain⟨n5,nk,n1,nab⟩:=WO u hu;have fl:=WJ hu;unfold Eu;generalize D0 u=ab at n5 nk n1 nab fl;have o1:=ht.one;have o2:=ht.most;have o3:=ht.last;refine Ca rfl ?_;unfold Ik;refine BA (Dg (DN (xs:=[tD u]) rfl fl)) (BA (Dg (y:=.int ((Bh t.rs).length:Nat)) rfl) (BA rfl ?_));rw [Cr];have hp:=UZ o2 n5;have hn:(BN ab).length=ab.length:=bH _;have hpow:t.rs.length^ab.length≤1024:=aM (Nat.pow_le_pow_left o2 _) (aM (aW (by decide) n5) (by decide));have hm0:(0:Int)<(t.rs.length:Int):=by omega
 have hm64:((t.rs.length:Nat):Int).natAbs<2^64:=by omega
 generalize hN:t.rs.length^ab.length=N at hp hpow;have kl:∀(l4 l5 l6 l7 l8 l9:L),BF Dx (AE (nm 2) AQ) [.d (BE t),.d (tD u),.d (.list (BN ab)),.d (.int (t.rs.length:Nat)),l4,l5,l6,l7,l8,l9]=some (.int (ab.length:Nat)):=fun _ _ _ _ _ _=>by rw [←hn];rfl
 refine UR (xs:=EE 0 N) (fun i δ=>∃l5 l6 l7 l8 l9:L,δ=[.d (BE t),.d (tD u),.d (.list (BN ab)),.d (.int (t.rs.length:Nat)),.d (Af (sm (fun s=>wk t ab s (ab.length-1)) i)),l5,l6,l7,l8,l9]) ?_ ⟨_,_,_,_,_,rfl⟩ ?_ ?_
 ·refine(Sh (j:=(N:Int)) (DN (xs:=[.int (t.rs.length:Nat),.int (ab.length:Nat)]) (BO rfl (BO (kl _ _ _ _ _ _) rfl)) hp) (by omega) (by omega)).trans ?_;rw [Int.toNat_natCast]
 ·rintro s x δ hx ⟨l5,l6,l7,l8,l9,rfl⟩;obtain⟨rfl,hsN⟩:=MN hx;rw [Int.zero_add];refine⟨_,rfl,Jp rfl (Jp rfl ?_)⟩;obtain⟨δ',f1,l8',rfl⟩:∃δ',Ef (FQ HS (AE (BF Dx (AE (nm 2) AQ)) AQ)) (HB 8) (A8 (UI 7 (Ai FL (nm 6) (nm 3))) (Bi 6 (Ai Qy (nm 6) (nm 3)))) [.d (BE t),.d (tD u),.d (.list (BN ab)),.d (.int (t.rs.length:Nat)),.d (Af (sm (fun s=>wk t ab s (ab.length-1)) s)),.d (.int (s:Nat)),.d (.int (s:Nat)),.own (.lst []),l8,l9]=some (.nx δ')∧∃l8,δ'=[.d (BE t),.d (tD u),.d (.list (BN ab)),.d (.int (t.rs.length:Nat)),.d (Af (sm (fun s=>wk t ab s (ab.length-1)) s)),.d (.int (s:Nat)),.d (.int ((s / t.rs.length^ab.length:Nat):Int)),.own (.lst (BN ((List.range ab.length).map (dg t.rs.length s)))),l8,l9]:=by
   refine QI (xs:=EE 0 ab.length) (fun i δ=>∃l8,δ=[.d (BE t),.d (tD u),.d (.list (BN ab)),.d (.int (t.rs.length:Nat)),.d (Af (sm (fun s=>wk t ab s (ab.length-1)) s)),.d (.int (s:Nat)),.d (.int ((s / t.rs.length^i:Nat):Int)),.own (.lst (BN ((List.range i).map (dg t.rs.length s)))),l8,l9]) ?_ ⟨_,by rw [Nat.pow_zero,Nat.div_one];rfl⟩ ?_ ?_
   ·refine(Sh (j:=(ab.length:Int)) (kl _ _ _ _ _ _) (by omega) (by omega)).trans ?_;rw [Int.toNat_natCast]
   ·rintro i x δ hx ⟨l8,rfl⟩;obtain⟨rfl,hi⟩:=MN hx;refine⟨_,rfl,Jp (Xf (y:=.int ((dg t.rs.length s i:Nat):Int)) (xs:=BN ((List.range i).map (dg t.rs.length s))) ?_ rfl ?_) ⟨_,Dg (y:=.int ((s / t.rs.length^(i+1):Nat):Int)) ?_,?_⟩⟩
    ·exact A2 (x:=.int ((s / t.rs.length^i:Nat):Int)) (y:=.int (t.rs.length:Nat)) rfl rfl ((mod_is hm0).trans rfl)
    ·unfold BN;rw [List.length_map,List.length_map,List.length_range];show i<Ec;unfold Ec;omega
    ·refine A2 (x:=.int ((s / t.rs.length^i:Nat):Int)) (y:=.int (t.rs.length:Nat)) rfl rfl ((div_is hm0 hm64).trans ?_);rw [Nat.pow_succ,←Nat.div_div_eq_div_mul]
     rfl
    ·refine⟨.d (.int (0+(i:Int))),?_⟩;rw [List.range_succ,List.map_append];unfold BN;rw [List.map_append]
     rfl
   ·rintro δ ⟨l8,rfl⟩;rw [Ma];exact⟨_,rfl⟩
  have gd:∀k,k<ab.length→(BN ((List.range ab.length).map (dg t.rs.length s)))[k]? = some (.int ((dg t.rs.length s k:Nat):Int)):=fun k hk=>by
   unfold BN;rw [List.getElem?_map,List.getElem?_map,List.getElem?_range hk]
   rfl
  have dlt:∀k,dg t.rs.length s k<t.rs.length:=fun k=>Nat.mod_lt _ (by omega);refine Jp f1 (Jp (Dg (y:=Af (wk t ab s 0)) ?_) ?_)
  ·refine A2 (x:=.list (Aw t.ls)) (y:=.int ((dg t.rs.length s 0:Nat):Int)) rfl (K2 (p:=0) rfl rfl (gd 0 (by omega))) (EY ?_);have hl:=dlt 0;unfold Aw wk;rw [List.getElem?_map,List.getD_eq_getElem?_getD,List.getElem?_eq_getElem (show dg t.rs.length s 0<t.ls.length by omega)]
   rfl
  obtain⟨δ',f2,l8',rfl⟩:∃δ',Ef (FQ Mm (AE (fC (.int 1)) (AE (BF Dx (AE (nm 2) AQ)) AQ))) (HB 8) (Hc (Ds (FV true) (nm 9) (BK (AE (fC (.int 0)) (AE (fC (.int 1)) AQ)))) (Bi 9 (BF UD (AE (nm 9) (AE (BF BU (AE (nm 0) (AE (Hl 7 (Ai DX (nm 2) (nm 8))) (AE (Hl 7 (nm 8)) AQ)))) AQ)))) Er) [.d (BE t),.d (tD u),.d (.list (BN ab)),.d (.int (t.rs.length:Nat)),.d (Af (sm (fun s=>wk t ab s (ab.length-1)) s)),.d (.int (s:Nat)),.d (.int ((s / t.rs.length^ab.length:Nat):Int)),.own (.lst (BN ((List.range ab.length).map (dg t.rs.length s)))),l8',.d (Af (wk t ab s 0))]=some (.nx δ')∧∃l8,δ'=[.d (BE t),.d (tD u),.d (.list (BN ab)),.d (.int (t.rs.length:Nat)),.d (Af (sm (fun s=>wk t ab s (ab.length-1)) s)),.d (.int (s:Nat)),.d (.int ((s / t.rs.length^ab.length:Nat):Int)),.own (.lst (BN ((List.range ab.length).map (dg t.rs.length s)))),l8,.d (Af (wk t ab s (ab.length-1)))]:=by
   refine QI (xs:=EE 1 (ab.length-1)) (fun i δ=>∃l8,δ=[.d (BE t),.d (tD u),.d (.list (BN ab)),.d (.int (t.rs.length:Nat)),.d (Af (sm (fun s=>wk t ab s (ab.length-1)) s)),.d (.int (s:Nat)),.d (.int ((s / t.rs.length^ab.length:Nat):Int)),.own (.lst (BN ((List.range ab.length).map (dg t.rs.length s)))),l8,.d (Af (wk t ab s i))]) ?_ ⟨_,rfl⟩ ?_ ?_
   ·refine(Wi (i:=1) (j:=(ab.length:Int)) rfl (kl _ _ _ _ _ _) (by omega)).trans ?_;rw [show((ab.length:Int)-1).toNat=ab.length-1 by omega]
   ·rintro i x δ hx ⟨l8,rfl⟩;obtain⟨rfl,hi⟩:=MN hx;refine⟨[.d (BE t),.d (tD u),.d (.list (BN ab)),.d (.int (t.rs.length:Nat)),.d (Af (sm (fun s=>wk t ab s (ab.length-1)) s)),.d (.int (s:Nat)),.d (.int ((s / t.rs.length^ab.length:Nat):Int)),.own (.lst (BN ((List.range ab.length).map (dg t.rs.length s)))),.d (.int ((i+1:Nat):Int)),.d (Af (wk t ab s i))],by rw [show(1:Int)+(i:Int)=((i+1:Nat):Int) by omega];rfl,?_⟩;have tst:=GK (o:=FV true) (f:=nm 9) (g:=BK (AE (fC (.int 0)) (AE (fC (.int 1)) AQ))) (δ:=[.d (BE t),.d (tD u),.d (.list (BN ab)),.d (.int (t.rs.length:Nat)),.d (Af (sm (fun s=>wk t ab s (ab.length-1)) s)),.d (.int (s:Nat)),.d (.int ((s / t.rs.length^ab.length:Nat):Int)),.own (.lst (BN ((List.range ab.length).map (dg t.rs.length s)))),.d (.int ((i+1:Nat):Int)),.d (Af (wk t ab s i))]) rfl (show _=some (Af 0) from rfl) (Wc _ _);by_cases z:wk t ab s i=0
    ·rw [decide_eq_true z]at tst;refine⟨_,Cu tst rfl,.d (.int ((i+1:Nat):Int)),?_⟩;rw [show wk t ab s (i+1)=wk t ab s i by show wk t ab s i*_=_;rw [z,Rat.zero_mul]]
    ·rw [decide_eq_false z]at tst;have hia:i+1<ab.length:=by omega
     have ea:ab[i+1]? = some (ab[i+1]'hia):=aG _;have ha:=nab _ (aO ea);have eg:ab.getD (i+1) 0=ab[i+1]'hia:=by rw [List.getD_eq_getElem?_getD,ea];rfl
     have en:(BN ab)[i+1]? = some (.int ((ab[i+1]'hia:Nat):Int)):=by unfold BN;rw [List.getElem?_map,ea];rfl
     refine⟨_,Gr tst (Dg (y:=Af (wk t ab s (i+1))) ?_),_,rfl⟩;show _=some (Af (wk t ab s i*NB t (dg t.rs.length s (ab.getD (i+1) 0)) (dg t.rs.length s (i+1))));rw [eg];refine DN (BO rfl (BO (DN (xs:=[BE t,.int ((dg t.rs.length s (ab[i+1]'hia):Nat):Int),.int ((dg t.rs.length s (i+1):Nat):Int)]) (BO rfl (BO (K2 (p:=ab[i+1]'hia) (A2 (x:=.list (BN ab)) (y:=.int ((i+1:Nat):Int)) rfl rfl (EY en)) rfl (gd _ ha)) (BO (K2 (p:=i+1) rfl rfl (gd _ hia)) rfl))) (ZD ht (dlt _))) rfl)) (XI (Ll (k:=i+1) (c:=1) (by omega) (by decide) ?_) (Ll (k:=1) (c:=1) (by decide) (by decide) ?_))
     ·rw [Nat.one_mul];exact Q3 hs ab s i
     ·rw [Nat.one_mul];exact TB hs _ _
   ·rintro δ ⟨l8,rfl⟩;rw [Ma];exact⟨_,rfl⟩
  refine Jp f2 ⟨_,Dg (y:=Af (sm (fun s=>wk t ab s (ab.length-1)) (s+1))) ?_,_,_,_,_,_,rfl⟩;have hw:∀s,Dr (60^ab.length) (420^ab.length) (wk t ab s (ab.length-1)):=fun s=>by
   have:=Q3 hs ab s (ab.length-1);rw [show ab.length-1+1=ab.length by omega]at this;exact this
  refine DN (BO rfl (BO rfl rfl)) (Xp (Ll n5 (c:=s) (by omega) (Va (VQ _) hw s)) (Ll n5 (c:=1) (by decide) ?_));rw [Nat.one_mul];exact hw s
 ·rintro δ ⟨l5,l6,l7,l8,l9,rfl⟩;rw [Ma]
  rfl
abbrev Mon:=List Nat
abbrev CN:=List (Mon×Int)
def Bu(x:Nat→Rat):Mon→Rat
 |[]=>1
 |i::m=>x i*Bu x m
def BL(x:Nat→Rat):CN→Rat
 |[]=>0
 |t::p=>(t.2:Rat)*Bu x t.1+BL x p
def MZ(a:Nat):Mon→Mon
 |[]=>[a]
 |b::m=>if a≤b then a::b::m else b::MZ a m
def QK(x:Nat→Rat)(a:Nat):∀m:Mon,Bu x (MZ a m)=x a*Bu x m
 |[]=>rfl
 |b::m=>by
  unfold MZ;split
  ·rfl
  ·show x b*Bu x (MZ a m)=x a*(x b*Bu x m);rw [QK x a m,←Rat.mul_assoc,←Rat.mul_assoc,Rat.mul_comm (x b)]
def mulM:Mon→Mon→Mon
 |[],n=>n
 |a::m,n=>MZ a (mulM m n)
def QA(x:Nat→Rat):∀m n:Mon,Bu x (mulM m n)=Bu x m*Bu x n
 |[],n=>by show Bu x n=1*Bu x n;rw [Rat.one_mul]
 |a::m,n=>by
  show Bu x (MZ a (mulM m n))=x a*Bu x m*Bu x n;rw [QK,QA x m n,Rat.mul_assoc]
def ID(m:Mon)(c:Int):CN→CN
 |[]=>if c=0 then [] else [(m,c)]
 |(n,d)::p=>if m=n then(if c+d=0 then p else(n,c+d)::p) else(n,d)::ID m c p
def Od:((0:Int):Rat)=0:=rfl
def WL(a b:Int):((a+b:Int):Rat)=(a:Rat)+(b:Rat):=Rat.intCast_add a b
def WE(a b:Int):((a*b:Int):Rat)=(a:Rat)*(b:Rat):=Rat.intCast_mul a b
def LA(x:Nat→Rat)(m:Mon)(c:Int):∀p:CN,BL x (ID m c p)=(c:Rat)*Bu x m+BL x p
 |[]=>by
  unfold ID;split
  ·rename_i e;subst e;show(0:Rat)=((0:Int):Rat)*_+0;rw [Od,Rat.zero_mul,Rat.add_zero]
  ·rfl
 |(n,d)::p=>by
  unfold ID;split
  ·rename_i e;subst e;have h:(c:Rat)*Bu x m+BL x ((m,d)::p)=((c+d:Int):Rat)*Bu x m+BL x p:=by
    show(c:Rat)*Bu x m+((d:Rat)*Bu x m+BL x p)=_;rw [←Rat.add_assoc,←Rat.add_mul,WL]
   rw [h];split
   ·rename_i e;rw [e,Od,Rat.zero_mul,Rat.zero_add]
   ·rfl
  ·show(d:Rat)*Bu x n+BL x (ID m c p)=_;rw [LA x m c p];show _=(c:Rat)*Bu x m+((d:Rat)*Bu x n+BL x p);rw [←Rat.add_assoc,←Rat.add_assoc,Rat.add_comm (_*_) (_*_)]
def FK:CN→CN→CN
 |[],q=>q
 |t::p,q=>ID t.1 t.2 (FK p q)
def Hh(x:Nat→Rat):∀p q:CN,BL x (FK p q)=BL x p+BL x q
 |[],q=>by show BL x q=0+_;rw [Rat.zero_add]
 |t::p,q=>by
  show BL x (ID t.1 t.2 (FK p q))=(t.2:Rat)*Bu x t.1+BL x p+BL x q;rw [LA,Hh x p q,Rat.add_assoc]
def ML(m:Mon)(c:Int):CN→CN
 |[]=>[]
 |t::p=>ID (mulM m t.1) (c*t.2) (ML m c p)
def MH(x:Nat→Rat)(m:Mon)(c:Int):∀p:CN,BL x (ML m c p)=(c:Rat)*Bu x m*BL x p
 |[]=>by show(0:Rat)=_*0;rw [Rat.mul_zero]
 |t::p=>by
  show BL x (ID (mulM m t.1) (c*t.2) (ML m c p))=_;rw [LA,MH x m c p,QA,WE];show _=(c:Rat)*Bu x m*((t.2:Rat)*Bu x t.1+BL x p);rw [Rat.mul_add]
  congr 1
  rw [Rat.mul_assoc,Rat.mul_assoc,←Rat.mul_assoc (t.2:Rat),Rat.mul_comm (t.2:Rat) (Bu x m),Rat.mul_assoc]
def L4:CN→CN→CN
 |[],_=>[]
 |t::p,q=>FK (ML t.1 t.2 q) (L4 p q)
def L6(x:Nat→Rat):∀p q:CN,BL x (L4 p q)=BL x p*BL x q
 |[],q=>by show(0:Rat)=0*_;rw [Rat.zero_mul]
 |t::p,q=>by
  show BL x (FK (ML t.1 t.2 q) (L4 p q))=((t.2:Rat)*Bu x t.1+BL x p)*BL x q;rw [Hh,MH,L6 x p q,Rat.add_mul]
def Rk(p:CN):CN:=ML [] (-1) p
def Vz(x:Nat→Rat)(p:CN):BL x (Rk p)=- BL x p:=by
 unfold Rk;rw [MH];show((-1:Int):Rat)*1*BL x p=_;rw [Rat.mul_one,show((-1:Int):Rat)=-1 from rfl,Rat.neg_mul,Rat.one_mul]
structure Rg(α:Type) where
 add:α→α→α
 mul:α→α→α
 z:α
 o:α
def Kz{α:Type}(R:Rg α)(a b:List α):α:=(List.zipWith R.mul a b).foldr R.add R.z
def GV{α:Type}(R:Rg α)(rows:List (List α)):Tr→List α→List α
 |.nil,acc=>acc
 |.cons b r,acc=>GV R rows r (List.zipWith R.mul acc (rows.map fun row=>Kz R row (GV R rows b (List.replicate rows.length R.o))))
def J5{α:Type}(R:Rg α)(rows:List (List α))(ls:List α)(u:Tr):α:=Kz R ls (GV R rows u (List.replicate rows.length R.o))
structure F3{α β:Type}(R:Rg α)(S:Rg β)(φ:α→β):Prop where
 add:∀a b,φ (R.add a b)=S.add (φ a) (φ b)
 mul:∀a b,φ (R.mul a b)=S.mul (φ a) (φ b)
 z:φ R.z=S.z
 o:φ R.o=S.o
section
variable{α β:Type}{R:Rg α}{S:Rg β}{φ:α→β}
def F3.zip(h:F3 R S φ):∀a b:List α,(List.zipWith R.mul a b).map φ=List.zipWith S.mul (a.map φ) (b.map φ)
 |[],_=>rfl
 |_::_,[]=>rfl
 |x::a,y::b=>by
  show φ (R.mul x y)::(List.zipWith R.mul a b).map φ=S.mul (φ x) (φ y)::List.zipWith S.mul (a.map φ) (b.map φ);rw [h.mul,F3.zip h a b]
def F3.fold(h:F3 R S φ):∀a:List α,φ (a.foldr R.add R.z)=(a.map φ).foldr S.add S.z
 |[]=>h.z
 |x::a=>by
  show φ (R.add x (a.foldr R.add R.z))=S.add (φ x) ((a.map φ).foldr S.add S.z);rw [h.add,F3.fold h a]
def F3.dot(h:F3 R S φ)(a b:List α):φ (Kz R a b)=Kz S (a.map φ) (b.map φ):=by
 unfold Kz;rw [h.fold,h.zip]
def F3.F6(h:F3 R S φ)(rows:List (List α)):∀(t:Tr) (acc:List α),(GV R rows t acc).map φ=GV S (rows.map (List.map φ)) t (acc.map φ)
 |.nil,acc=>rfl
 |.cons b r,acc=>by
  rw [GV,GV,F3.F6 h rows r,h.zip,List.map_map,List.map_map]
  congr 2
  refine bI fun row _=>?_;show φ (Kz R row _)=Kz S (row.map φ) _;rw [h.dot,F3.F6 h rows b,List.map_replicate,h.o,List.length_map]
def F3.last(h:F3 R S φ)(rows:List (List α))(ls:List α)(u:Tr):φ (J5 R rows ls u)=J5 S (rows.map (List.map φ)) (ls.map φ) u:=by
 unfold J5;rw [h.dot,h.F6,List.map_replicate,h.o,List.length_map]
end
def rI:Rg Int:=⟨fun a b=>a+b,fun a b=>a*b,0,1⟩
def rQ:Rg Rat:=⟨fun a b=>a+b,fun a b=>a*b,0,1⟩
def rP:Rg CN:=⟨FK,L4,[],[([],1)]⟩
def Yv:F3 rI rQ (fun n:Int=>(n:Rat)):=⟨Rat.intCast_add,Rat.intCast_mul,rfl,rfl⟩
def Yg(x:Nat→Rat):F3 rP rQ (BL x):=⟨Hh x,L6 x,rfl,by show((1:Int):Rat)*1+0=1;rw [Rat.mul_one,Rat.add_zero];rfl⟩
def RI(rows:List (List Int)):∀(t:Tr) (acc:List Int),F6 rows t acc=GV rI rows t acc
 |.nil,acc=>rfl
 |.cons b r,acc=>by
  rw [F6,GV,RI rows r];show GV rI rows r (Bn acc _)=GV rI rows r (Bn acc _)
  congr 2
  refine bI fun row _=>?_;rw [RI rows b]
  rfl
def X2(rows:List (List Int))(ls:List Int)(u:Tr):(CL (rows++[ls]) u).getLast?.getD 0=J5 rI (rows++[ls]) ls u:=by
 unfold CL;rw [List.map_append,List.map_singleton,List.getLast?_concat,Option.getD_some,RI]
 rfl
def Nn(m:Nat):List (List CN):=(List.range m).map fun i=>(List.range i).map fun j=>[([5*i+j],1)]
def FN(m:Nat)(u:Tr):CN:=J5 rP (Nn (m+1)) ((List.range m).map fun j=>[([5*m+j],1)]) u
def XQ(r j:Nat):CN:=if j<r then [([5*r+j],1)] else []
def TR(m:Nat)(ab:List Nat)(s:Nat):Nat→CN
 |0=>[([5*m+dg m s 0],1)]
 |k+1=>L4 (TR m ab s k) (XQ (dg m s (ab.getD (k+1) 0)) (dg m s (k+1)))
def Vd(f:Nat→CN):Nat→CN
 |0=>[]
 |s+1=>FK (f s) (Vd f s)
def Ig(m:Nat)(u:Tr):CN:=Vd (fun s=>TR m (D0 u) s ((D0 u).length-1)) (m^(D0 u).length)
def Jw(p q:CN)(k:Nat):Bool:=(FK (Rk q) p).isEmpty&&p.all fun t=>decide (t.1.length=k)
def Ut:((CD 5).all fun u=>Jw (FN 1 u) (Ig 1 u) u.AX)=true:=by decide +kernel
def Ua:((CD 5).all fun u=>Jw (FN 2 u) (Ig 2 u) u.AX)=true:=by decide +kernel
def Ux:((CD 5).all fun u=>Jw (FN 3 u) (Ig 3 u) u.AX)=true:=by decide +kernel
def UY:((CD 5).all fun u=>Jw (FN 4 u) (Ig 4 u) u.AX)=true:=by decide +kernel
def Xm{m:Nat}(h1:1≤m)(h4:m≤4){u:Tr}(hu:u∈CD 5)(x:Nat→Rat):BL x (FN m u)=BL x (Ig m u)∧∀t∈FN m u,t.1.length=u.AX:=by
 have h:Jw (FN m u) (Ig m u) u.AX=true:=by
  match m,h1,h4 with
  |1,_,_=>exact ao.mp Ut u hu
  |2,_,_=>exact ao.mp Ua u hu
  |3,_,_=>exact ao.mp Ux u hu
  |4,_,_=>exact ao.mp UY u hu
 unfold Jw at h;rw [Bool.and_eq_true]at h;refine⟨?_,fun t ht=>aa (ao.mp h.2 t ht)⟩;have e:=Hh x (Rk (Ig m u)) (FN m u);rw [List.isEmpty_iff.mp h.1,Vz]at e;have e:(0:Rat)=-BL x (Ig m u)+BL x (FN m u):=e;have:BL x (Ig m u)+0=BL x (Ig m u)+(-BL x (Ig m u)+BL x (FN m u)):=by rw [←e]
 rw [Rat.add_zero,←Rat.add_assoc,Rat.add_neg_cancel,Rat.zero_add]at this;exact this.symm
def QS(x:Nat→Rat)(b:Rat):∀m:Mon,Bu (fun n=>x n*b) m=Bu x m*b^m.length
 |[]=>by show(1:Rat)=1*b^0;rw [Rat.one_mul,Rat.pow_zero]
 |i::m=>by
  show x i*b*Bu (fun n=>x n*b) m=x i*Bu x m*b^(m.length+1);rw [QS x b m,Rat.pow_succ];rw [Rat.mul_assoc,Rat.mul_assoc,←Rat.mul_assoc b,Rat.mul_comm b (Bu x m),Rat.mul_assoc,Rat.mul_comm b]
def QT(x:Nat→Rat)(b:Rat)(k:Nat):∀p:CN,(∀t∈p,t.1.length=k)→BL (fun n=>x n*b) p=BL x p*b^k
 |[],_=>by show(0:Rat)=0*_;rw [Rat.zero_mul]
 |t::p,h=>by
  show(t.2:Rat)*Bu (fun n=>x n*b) t.1+BL (fun n=>x n*b) p=((t.2:Rat)*Bu x t.1+BL x p)*b^k;rw [QS,QT x b k p fun u hu=>h u (.tail _ hu),h t (.head _),Rat.add_mul,Rat.mul_assoc]
def Bz(t:Tb):List (List Rat):=t.rs++[t.ls]
def xT(t:Tb)(n:Nat):Rat:=((Bz t).getD (n / 5) []).getD (n % 5) 0
def Pa(x:Nat→Rat)(n:Nat):BL x [([n],1)]=x n:=by
 show((1:Int):Rat)*(x n*1)+0=x n;rw [Rat.add_zero,Rat.mul_one,show((1:Int):Rat)=1 from rfl,Rat.one_mul]
def Rn(t:Tb){i j:Nat}(hj:j<5):xT t (5*i+j)=((Bz t).getD i []).getD j 0:=by
 unfold xT;rw [show(5*i+j) / 5=i by omega,show(5*i+j) % 5=j by omega]
def U5{t:Tb}{i:Nat}(h:i<t.rs.length):(Bz t).getD i []=t.rs.getD i []:=by
 unfold Bz;rw [List.getD_eq_getElem?_getD,List.getD_eq_getElem?_getD,List.getElem?_append_left h]
def Hx(t:Tb):(Bz t)[t.rs.length]? = some t.ls:=by
 unfold Bz;rw [List.getElem?_append_right (aE _),Nat.sub_self];rfl
def NP{t:Tb}{m:Nat}(h:t.Ok m){i:Nat}{row:List Rat}(e:(Bz t)[i]? = some row):row.length=i∧i≤t.rs.length:=by
 by_cases z:i<t.rs.length
 ·unfold Bz at e;rw [List.getElem?_append_left z]at e;exact⟨h.row i row e,by omega⟩
 ·have hl:=(aD.mp e).1;unfold Bz at hl;rw [List.length_append,List.length_singleton]at hl;have:i=t.rs.length:=by omega
  subst this;rw [Hx]at e;cases e;exact⟨h.last,Nat.le_refl _⟩
def Ze{t:Tb}(h:t.Ok 4){r j:Nat}(hr:r<t.rs.length):BL (xT t) (XQ r j)=NB t r j:=by
 have:=h.most;unfold XQ NB;split
 ·rw [Pa,Rn t (by omega),U5 hr]
 ·rfl
def VY{t:Tb}(h:t.Ok 4)(ab:List Nat)(s:Nat):∀k,BL (xT t) (TR t.rs.length ab s k)=wk t ab s k
 |0=>by
  have h1:=h.one;have h4:=h.most;have hd:dg t.rs.length s 0<t.rs.length:=Nat.mod_lt _ (by omega);rw [TR,wk,Pa,Rn t (by omega),List.getD_eq_getElem?_getD (l:=Bz t),Hx]
  rfl
 |k+1=>by
  have h1:=h.one;rw [TR,wk,L6,VY h ab s k,Ze h (r:=dg t.rs.length s (ab.getD (k+1) 0)) (Nat.mod_lt _ (by omega))]
def VF(x:Nat→Rat){f:Nat→CN}{g:Nat→Rat}(h:∀s,BL x (f s)=g s):∀n,BL x (Vd f n)=sm g n
 |0=>rfl
 |n+1=>by rw [Vd,sm,Hh,h,VF x h n,Rat.add_comm]
def ZW{t:Tb}(h:t.Ok 4)(u:Tr):BL (xT t) (Ig t.rs.length u)=Eu t u:=VF _ (fun s=>VY h _ s _) _
def SF{t:Tb}(h:t.Ok 4)(b:Rat){i:Nat}{row:List Rat}(e:(Bz t)[i]? = some row):((List.range i).map fun j=>[([5*i+j],(1:Int))]).map (BL fun n=>xT t n*b)=row.map (· * b):=by
 obtain⟨hl,hi⟩:=NP h e;have h4:=h.most;refine List.ext_getElem? fun j=>?_;rw [List.getElem?_map,List.getElem?_map,List.getElem?_map];by_cases z:j<i
 ·rw [List.getElem?_range z,List.getElem?_eq_getElem (show j<row.length by omega),Option.map_some,Option.map_some,Option.map_some,Pa];rw [Rn t (by omega),List.getD_eq_getElem?_getD (l:=Bz t),e,Option.getD_some,List.getD_eq_getElem?_getD,List.getElem?_eq_getElem (show j<row.length by omega)]
  rfl
 ·rw [List.getElem?_eq_none (by rw [List.length_range];omega),List.getElem?_eq_none (show row.length≤j by omega)]
  rfl
def Wr{t:Tb}(h:t.Ok 4)(b:Rat):(Nn (t.rs.length+1)).map (List.map (BL fun n=>xT t n*b))=(Bz t).map (List.map (· * b)):=by
 have hl:(Bz t).length=t.rs.length+1:=by unfold Bz;rw [List.length_append];rfl
 refine List.ext_getElem? fun i=>?_;unfold Nn;rw [List.getElem?_map,List.getElem?_map,List.getElem?_map];by_cases z:i<t.rs.length+1
 ·have e:=aG (l:=Bz t) (i:=i) (by omega);rw [List.getElem?_range z,e,Option.map_some,Option.map_some,Option.map_some,SF h b e]
 ·rw [List.getElem?_eq_none (by rw [List.length_range];omega),List.getElem?_eq_none (show(Bz t).length≤i by omega)]
  rfl
def Vm(q:Rat):q*(((q.den:Nat):Int):Rat)=(q.num:Rat):=by
 have h:=FM.C5 q;have hd:(((q.den:Nat):Int):Rat)≠0:=fun e=>q.den_nz (by have:=Rat.intCast_eq_zero_iff.mp e;omega);rw [Rat.divInt_eq_div]at h;have e:=Rat.div_mul_cancel (a:=(q.num:Rat)) hd;rw [h]at e;exact e
def UQ{q:Rat}{B:Int}(h:(q.den:Int) ∣ B):((q.num*B.fdiv (q.den:Int):Int):Rat)=q*(B:Rat):=by
 obtain⟨c,rfl⟩:=h;have hd:(q.den:Int)≠0:=by have:=q.den_nz;omega
 rw [Int.mul_fdiv_cancel_left _ hd,Rat.intCast_mul,Rat.intCast_mul,←Rat.mul_assoc,Vm]
def JJ{r:List Rat}{B:Int}(h:∀q∈r,(q.den:Int) ∣ B):(C9 r B).map (fun n:Int=>(n:Rat))=r.map (· * (B:Rat)):=by
 unfold C9;rw [List.map_map];exact bI fun q hq=>UQ (h q hq)
def ME{t:Tb}{n:Nat}(h:t.Fits n){m:Nat}(o:t.Ok m):1≤Dw t∧(Dw t).natAbs<2^(1+n*(m+m*m))∧∀r∈Bz t,∀q∈r,(q.den:Int) ∣ Dw t:=by
 obtain⟨h1,h2,h3⟩:=QG (Mv h t.rs.length);have hl:=Gy o t.rs.length (aE _);have hm:=o.most;refine⟨h1,Nat.lt_of_lt_of_le h2 (aW (by decide) ?_),fun r hr q hq=>h3 _ ?_⟩
 ·have:t.rs.length+t.rs.length*t.rs.length≤m+m*m:=Nat.add_le_add hm (bQ hm hm);have:=bA n (aM hl this);omega
 ·unfold Ej;rw [List.take_length];rcases bD.mp hr with hr|hr
  ·exact aS _ (List.mem_flatten.mpr ⟨Ct r,List.mem_map.mpr ⟨r,hr,rfl⟩,List.mem_map.mpr ⟨q,hq,rfl⟩⟩)
  ·rw [List.mem_singleton.mp hr]at hq;exact List.mem_append_left _ (ae.mpr ⟨q,hq,rfl⟩)
def Xj{t:Tb}(h:t.Ok 4){n:Nat}(hf:t.Fits n){u:Tr}(hu:u∈CD 5):MG t u=Eu t u:=by
 obtain⟨b1,_,b3⟩:=ME hf h;obtain⟨e1,e2⟩:=Xm h.one h.most hu (xT t);unfold MG DB;generalize Dw t=B at b1 b3;rw [List.map_append,List.map_singleton,X2];have z:((J5 rI (t.rs.map (fun r=>C9 r B)++[C9 t.ls B]) (C9 t.ls B) u:Int):Rat)=Eu t u*(B:Rat)^u.AX:=by
  rw [←ZW h,←e1,←QT (xT t) (B:Rat) u.AX _ e2];refine(Yv.last _ _ u).trans ?_;refine Eq.trans ?_ ((Yg (fun n=>xT t n*(B:Rat))).last (Nn (t.rs.length+1)) ((List.range t.rs.length).map fun j=>[([5*t.rs.length+j],1)]) u).symm;rw [Wr h,SF h (B:Rat) (Hx t),JJ fun q hq=>b3 t.ls (aS _ (List.mem_singleton.mpr rfl)) q hq]
  congr 1
  unfold Bz;rw [List.map_append,List.map_append,List.map_map]
  congr 1
  ·exact bI fun r hr=>JJ fun q hq=>b3 r (List.mem_append_left _ hr) q hq
  ·exact bG (fun x=>[x]) (JJ fun q hq=>b3 t.ls (aS _ (List.mem_singleton.mpr rfl)) q hq)
 have hB:((B^u.AX:Int):Rat)≠0:=fun e=>Int.pow_ne_zero (by omega:B≠0) (Rat.intCast_eq_zero_iff.mp e);rw [Rat.divInt_eq_div,z,←Rat.intCast_pow];exact Rat.mul_div_cancel hB
def Nz:Sp:=fun vs H Q _=>∃(v:V) (t:Tb) (m:Nat),vs=[v]∧DU H (BE t) v∧t.Ok m∧m≤40∧∀H',AH H H'→Q .BG H'
section
variable{P:Program}{w:World}{K:Fg}{mg:Str→Option VL}{base:Heap}{f g g1 g2 g3:AD}{fd gd gd1 gd2 gd3:FuncData}
def JL:Ab ["thing"] ["thing"] (AW Dz):=Bo
def JR(F:Fn K mg "refuse_no_table" Dz ["thing"] f fd)(F8:Fn K mg "is_table" IM ["thing"] g1 gd1)
 (Qz:AV P w K mg base Ad 5 g1 gd1 ["thing"] QF):AV P w K mg base Ad 6 f fd ["thing"] Nz:=by
 have sc:=JL;refine F.F.ok (k:=5) sc (fun vs H Q E h=>?_) (fun cdv A outer s H vs Q E hr h=>?_)
 ·obtain⟨v,t,m,rfl,_⟩:=h
  rfl
 obtain⟨v,t,m,rfl,⟨N,b⟩,ok,hm,q⟩:=h;refine⟨_,(AR (Bd (CK (CM (Av F8 Qz hr rfl (AB (pv 0) AF))))
  (AR Ks)
  BD)),?_⟩
 refine⟨_,rfl,N,BE t,v,rfl,b N (aE _),fun H' e=>?_⟩;rw [ok.is hm];exact⟨_,rfl,Fp (q H' e)⟩
end
def OJ(n:Nat):Sp:=fun vs H Q _=>∃v t,vs=[v]∧Tv H t v∧t.deep<n∧n≤60∧∀H',AH H H'→Q (.bl t.B6) H'
def OD:Sp:=fun vs H Q _=>∃v t,vs=[v]∧Tv H t v∧t.deep<8∧t.B6=true∧∀H',AH H H'→Q .BG H'
def SK(n:Nat)(g:Tr→Nat):Sp:=fun vs H Q _=>∃v t,vs=[v]∧Tv H t v∧t.deep<n∧n≤60∧t.AX≤8∧∀H',AH H H'→Q (.int (g t)) H'
def PF{P:Program}{w:World}{K:Fg}{mg:Str→Option VL}{base:Heap}{CX:F4}{k:Nat}{f:AD}{fd:FuncData}{ps:List Str}{sp:Sp}(h:∀vs H Q E,¬sp vs H Q E):AV P w K mg base CX k f fd ps sp :=
 ⟨fun _ _ _ _ z=>(h _ _ _ _ z).elim,fun _ _ _ _ _ _ _ _ _ _ _ _ _ z=>(h _ _ _ _ z).elim⟩
section
variable{P:Program}{w:World}{K:Fg}{mg:Str→Option VL}{base:Heap}{f g g1 g2 g3 g4:AD}{fd gd gd1 gd2 gd3 gd4:FuncData}
def RT:Ab ["thing", "k", "bough"] ["thing"] (AW Jg):=Bo
def LR(Cq:Fn K mg "is_tree" Jg ["thing"] f fd)(Aa:mg "isinstance" = none)(BX:mg "tuple" = none)(CT:mg "enumerate" = none) :
  ∀n,AV P w K mg base Ad n f fd ["thing"] (OJ n)
 |0=>PF fun _ _ _ _ ⟨_,_,_,_,h,_⟩=>absurd h (aT _)
 |n+1=>by
  have sc:=RT;have Jo:=LR Cq Aa BX CT n;refine Cq.F.ok (k:=n) sc (fun vs H Q E h=>?_) (fun cdv A outer s H vs Q E hr h=>?_)
  ·obtain⟨v,t,rfl,_⟩:=h
   rfl
  obtain⟨v,t,rfl,⟨a,xs,rfl,ha,ht⟩,hd,hn,q⟩:=h;refine⟨_,(AM (Bd (CK (CM (Ao DY rfl Aa ah (AB (pv 0) (AB (ER (v:=.ty "tuple") rfl BX bN rfl) AF)))))
  (AR (Aq DC))
  BD)
 (AM (DR aQ rfl (V8 rfl CT (AB (pv 0) AF)) (Lu rfl (DQ (A7 (i:=1) sc.nd rfl (Or.inl rfl)) (DQ (A7 (i:=2) sc.nd rfl (Or.inl rfl)) Jq)))
  (AM (Bd (PW.pt (S6 (A9 IL (pv 1) AN (Am _)) (MQ (A9 (WH (by have:=hr.units;exact this)) (pv 2) (BM BS (pv 0) (Au JK (pv 1) AN) (fun _ _=>rfl)) (Am _)))))
   (AR Ph)
   BD)
  (AR (Bd (PW.pt (FR (CK (CM (Av Cq Jo hr rfl (AB (pv 2) AF)))) (Fh (PW.pt (S6 (A9 IL (pv 1) AN (Am _)) (MQ (A9 (WA (by have:=hr.units;exact this)) (pv 2) (BM BS (pv 0) (Au JK (pv 1) AN) (fun _ _=>rfl)) (Am _))))))))
   (AR (Aq DC))
   BD))))
 (AR (Aq DC)))),?_⟩
  refine⟨_,rfl,_,_,_,_,rfl,OI,Dy.tup ha,SJ K,_,rfl,Fp ?_⟩;have hlen:=ht.len;refine⟨_,rfl,a,rfl,⟨_,Ag.of ha⟩,U3 (xs:=xs) (fun i σ H'=>∃r1 r2,σ=[some (.ref a),r1,r2]∧AH H H'∧(∀j c,j<i→t.bs[j]? = some c→c.B6=true)∧∀(j:Nat) (b c:Tr),j+1<i→t.bs[j]? = some b→t.bs[j+1]? = some c→Tr.lt b c=false) ?_ ?_ ?_ ?_⟩
  ·exact⟨_,_,rfl,AH.refl _,fun j c h=>absurd h (aT _),fun j b c h=>absurd h (aT _)⟩
  ·rintro i σ H' _ ⟨r1,r2,rfl,e,_⟩;exact Ag.of (e _ _ ha)
  ·rintro i x σ H0 hx ⟨r1,r2,rfl,e0,hf,hl⟩ p hp;obtain⟨c,hc,tc⟩:=ht.get hx;have hcm:c∈t.bs:=aO hc;have hcd:=Tr.Hz hcm;have s1:=AU hp (.tup [.int (i:Nat),x]);have e1:=e0.trans s1;refine⟨p,_,rfl,Ag.of AJ,rfl,_,_,rfl,_,_,rfl,rfl,?_⟩;have at1:=e1.tup (Ag.of (K:=K) ha);have tc1:=tc.same e1;have next:∀(H':Hp),AH (upd H0 p (.tup [.int (i:Nat),x])) H'→c.B6=true→(∀(b:Tr),0<i→t.bs[i-1]? = some b→Tr.lt b c=false) →
     ∃r1 r2,[some (V.ref a),some (V.int (i:Nat)),some x]=[some (.ref a),r1,r2]∧AH H H'∧(∀j c,j<i+1→t.bs[j]? = some c→c.B6=true)∧∀(j:Nat) (b c:Tr),j+1<i+1→t.bs[j]? = some b→t.bs[j+1]? = some c→Tr.lt b c=false:=fun H' e' h1 h2=>by
    refine⟨_,_,rfl,e1.trans e',fun j d hj hjd=>?_,fun j b d hj hb hjd=>?_⟩
    ·by_cases z:j=i
     ·subst z;rw [hc]at hjd;cases hjd;exact h1
     ·exact hf j d (by omega) hjd
    ·by_cases z:j+1=i
     ·subst z;rw [hc]at hjd;cases hjd;exact h2 b (by omega) (by simpa using hb)
     ·exact hl j b d (by omega) hb hjd
   have fin:∀(H':Hp),AH (upd H0 p (.tup [.int (i:Nat),x])) H'→(c.B6=false∨∃b,0<i∧t.bs[i-1]? = some b∧Tr.lt b c=true)→Q (.bl false) H':=fun H' e' h=>by
    have hfalse:t.B6=false:=by
     refine aZ.mpr fun z=>?_;obtain⟨z1,z2⟩:=(Tr.Kw t).mp z;rcases h with h|⟨b,hi,hb,h⟩
     ·rw [z1 c hcm]at h;cases h
     ·rw [z2 (i-1) b c hb (by rw [show i-1+1=i by omega];exact hc)]at h;cases h
    have:=q H' (e1.trans e');rw [hfalse]at this;exact this
   have ahead:0<i→∃y b,C2 xs ((i:Int)-1)=some y∧t.bs[i-1]? = some b∧Tv H b y∧b.deep<t.deep:=fun hi=>by
    have hi2:i-1<xs.length:=by
     have:=(aD.mp hx).1;omega
    obtain⟨b,hb,tb⟩:=ht.get (i:=i-1) (v:=xs[i-1]) (by simp [hi2]);refine⟨xs[i-1],b,?_,hb,tb,Tr.Hz (aO hb)⟩;have:=EY (xs:=xs) (j:=i-1) (v:=xs[i-1]) (by simp [hi2])
    rwa [show(((i-1:Nat)):Int)=(i:Int)-1 by omega]at this
   have body2:∀(nx:St→Hp→Prop),(∀H',AH (upd H0 p (.tup [.int (i:Nat),x])) H'→c.B6=true→(∀(b:Tr),0<i→t.bs[i-1]? = some b→Tr.lt b c=false)→nx [some (.ref a),some (.int (i:Nat)),some x] H')→True:=fun _ _=>trivial;refine⟨_,rfl,_,_,rfl,rfl,_,rfl,BV (fun hk=>?_) (fun hk=>?_)⟩
   ·have hi:0<i:=by have:=aa hk;omega
    obtain⟨y,b,hat,hb,tb,hbd⟩:=ahead hi;refine⟨_,rfl,_,rfl,_,rfl,_,_,rfl,rfl,_,_,_,_,rfl,rfl,at1,hat,c,b,tc1,tb.same e1,by omega,_,rfl,BV (fun hcb=>?_) (fun hcb=>?_)⟩
    ·have ecb:c=b:=by simpa using hcb
     refine next _ (AH.refl _) ?_ fun b' _ hb'=>?_
     ·rw [ecb];exact hf (i-1) b (by omega) hb
     ·rw [hb]at hb';cases hb';rw [ecb];exact Tr.lt_irrefl _
    ·refine⟨_,rfl,_,c,rfl,tc1,by omega,by omega,fun H2 e2=>⟨_,rfl,BV (fun hcf=>?_) (fun hcf=>?_)⟩⟩
     ·exact fin H2 e2 (.inl (by simpa using hcf))
     ·have hcf':c.B6=true:=by simpa using hcf
      refine⟨_,rfl,_,_,rfl,rfl,_,rfl,BV (fun _=>?_) (fun hk'=>absurd hk hk')⟩;refine⟨_,rfl,_,rfl,_,rfl,_,_,rfl,rfl,_,_,_,_,rfl,rfl,e2.tup at1,hat,c,b,tc1.same e2,(tb.same e1).same e2,by omega,_,rfl,BV (fun hlt=>?_) (fun hlt=>?_)⟩
      ·exact fin H2 e2 (.inr ⟨b,hi,hb,hlt⟩)
      ·refine next H2 e2 hcf' fun b' _ hb'=>?_;rw [hb]at hb';cases hb'
       simpa using hlt
   ·have hi:¬0<i:=fun z=>hk (bP (by omega));refine Fp ?_;refine⟨_,rfl,_,c,rfl,tc1,by omega,by omega,fun H2 e2=>⟨_,rfl,BV (fun hcf=>?_) (fun hcf=>?_)⟩⟩
    ·exact fin H2 e2 (.inl (by simpa using hcf))
    ·have hcf':c.B6=true:=by simpa using hcf
     refine⟨_,rfl,_,_,rfl,rfl,_,rfl,BV (fun hk'=>absurd hk' hk) (fun _=>Fp ?_)⟩;exact next H2 e2 hcf' fun b' h _=>absurd h hi
  ·rintro σ H' ⟨r1,r2,rfl,e,hf,hl⟩;have htrue:t.B6=true:=(Tr.Kw t).mpr ⟨fun c hc=>by
    obtain⟨j,hj,rfl⟩:=List.getElem_of_mem hc;exact hf j _ (by omega) (aG hj),fun j b c hb hc=>hl j b c (by
     have:=(aD.mp hc).1;omega) hb hc⟩
   have:=q H' e;rw [htrue]at this;exact this
def J9:Ab ["thing"] ["thing"] (AW EK):=Bo
def KA(F:Fn K mg "refuse_no_tree" EK ["thing"] f fd)(Cq:Fn K mg "is_tree" Jg ["thing"] g gd)(Jo:AV P w K mg base Ad 8 g gd ["thing"] (OJ 8)) :
  AV P w K mg base Ad 9 f fd ["thing"] OD:=by
 have sc:=J9;refine F.F.ok (k:=8) sc (fun vs H Q E h=>?_) (fun cdv A outer s H vs Q E hr h=>?_)
 ·obtain⟨v,t,rfl,_⟩:=h
  rfl
 obtain⟨v,t,rfl,tv,hd,hf,q⟩:=h;refine⟨_,(AR (Bd (CK (CM (Av Cq Jo hr rfl (AB (pv 0) AF))))
  (AR Ks)
  BD)),?_⟩
 refine⟨_,rfl,v,t,rfl,tv,hd,by decide,fun H' e=>⟨_,rfl,BV (fun z=>?_) (fun _=>q H' e)⟩⟩;rw [hf]at z;cases z
end
section
variable{P:Program}{w:World}{K:Fg}{mg:Str→Option VL}{base:Heap}{f g g1 g2 g3:AD}{fd gd gd1 gd2 gd3:FuncData}
def LJ:Ab ["tree"] ["tree"] (AW FD):=Bo
def G9(BZ:Fn K mg "knots_within" FD ["tree"] f fd)(Hy:mg "sum" = none):∀n,AV P w K mg base Ad n f fd ["tree"] (SK n Tr.AX)
 |0=>PF fun _ _ _ _ ⟨_,_,_,_,h,_⟩=>absurd h (aT _)
 |n+1=>by
  have sc:=LJ;have FA:=G9 BZ Hy n;refine BZ.F.ok (k:=n) sc (fun vs H Q E h=>?_) (fun cdv A outer s H vs Q E hr h=>?_)
  ·obtain⟨v,t,rfl,_⟩:=h
   rfl
  obtain⟨v,t,rfl,⟨a,xs,rfl,ha,ht⟩,hd,hn,hk,q⟩:=h;refine⟨_,(AR (Aq (Au JX AN (Ao (Oa rfl) rfl Hy PyProof.Rows.boot_sum (AB (EG [".0", "bough"] 1 [none,none] (Nx (pv 0)) (fun _ _ _ _ _=>Cg) (fun _ _ _ _ _=>(Av BZ FA hr rfl (AB (pv 1) AF)))) AF))))),?_⟩;have hlen:=ht.len;have hsz:xs.length<8:=by rw [hlen];have:=Tr.JE t;omega
  refine⟨_,rfl,a,rfl,⟨_,Ag.of ha⟩,fun D hD=>Dq (n:=xs.length) (fun i ys H'=>AH H H'∧ys=(t.bs.take i).map fun c=>V.int (c.AX:Nat)) ?_ ?_ ?_⟩
  ·exact⟨AU hD _,by simp⟩
  ·rintro i ys H0 hi ⟨e0,rfl⟩ hD0;have hi':i<t.bs.length:=by omega
   refine⟨⟨xs,xs[i],Ag.of (e0 _ _ ha),by simp [hi]⟩,?_,fun x H' y=>?_⟩
   ·rw [List.length_map,List.length_take];exact aY (Nat.min_le_left _ _) (aH (Nat.lt_trans hi hsz) (by rw [sizeLine_eq];decide))
   ·obtain⟨rfl,y⟩:=y;have hx:=y xs (Ag.of (e0 _ _ ha));obtain⟨c,hc,tc⟩:=ht.get hx;have hcm:c∈t.bs:=aO hc;have hcd:=Tr.Hz hcm;have hck:=Tr.Gs hcm;unfold En;refine Ce ⟨_,rfl,x,c,rfl,tc.same e0,by omega,by omega,by omega,fun H2 e2=>⟨e2 _ _ hD0,Ci hi ⟨?_,?_⟩⟩⟩
    ·exact fun b o z=>by
      rw [AG (AO z hD)];exact e2 _ _ (e0 _ _ z)
    ·rw [List.take_succ,hc];simp
  ·rintro ys H0 ⟨e0,rfl⟩ hD0;refine⟨⟨xs,Ag.of (e0 _ _ ha),Nat.le_refl _⟩,?_⟩;refine⟨D,t.bs.map fun c=>(c.AX:Int),rfl,AZ.of ?_,_,_,rfl,rfl,?_⟩
   ·rw [hD0,hlen,List.take_length,List.map_map]
    rfl
   ·show Q (.int (1+(t.bs.map fun c=>(c.AX:Int)).sum)) H0;rw [Tr.NM];exact q H0 e0
end
def Qr{H:Hp}:∀ {t:Tr} {xs:List V},Ts H t xs→Ae H (L2.Bc t) xs
 |.nil,xs,h=>by rw [Ts]at h;rw [L2.Bc,h];exact .nil
 |.cons b r,xs,h=>by
  rw [Ts]at h;obtain⟨a,ys,zs,rfl,h1,h2,h3⟩:=h;rw [L2.Bc];refine .cons ?_ (Qr h3);rw [Du];exact⟨a,ys,rfl,h1,Qr h2⟩
def VE{H:Hp}{u:Tr}{v:V}(h:Tv H u v):Du H (tD u) v:=by
 obtain⟨a,xs,rfl,ha,ht⟩:=h;rw [Du];exact⟨a,xs,rfl,ha,Qr ht⟩
def Zs{P:Program}{w:World}{K:Fg}{mg:Str→Option VL}{base:Heap}{f:AD}{fd:FuncData}{k:Nat}{ps:List Str}(F:AV P w K mg base Ad k f fd ps (SK 8 Tr.AX)):AV P w K mg base Ad k f fd ps Yz :=
 F.imp fun vs H Q E z=>by
  obtain⟨v,u,rfl,tv,hd,hk,q⟩:=z;exact⟨v,u,rfl,tv,hd,by decide,hk,q⟩
def J4:∀u∈CD 5,u.B6=true∧u.deep<8∧u.AX≤5∧∀b∈u.bs,b∈CD 5:=by decide +kernel
def VO:RY (CD 5) 70:=⟨by decide +kernel,fun a ha b hb e=>WK hb ha e,fun t ht=>(J4 t ht).2.2.2,fun t ht=>(J4 t ht).2.1,fun t ht=>by have:=(J4 t ht).2.2.1;omega⟩
def Tb.Sm.fits{t:Tb}(h:t.Sm):t.Fits 3:=⟨fun r hr q hq=>(h.1 r hr q hq).1,fun q hq=>(h.2 q hq).1⟩
def HU.Z3{q:Rat}(h:HU q):Dr 60 420 q:=by
 obtain⟨⟨h1,_⟩,h3⟩:=h;have hz:=q.den_nz;have e:=FM.C5 q;have go:∀k:Int,k≠0→(q.den:Int)*k=60→k.natAbs≤60→Dr 60 420 q:=fun k hk e2 hl=>⟨q.num*k,by rw [←e2,Rat.divInt_mul_right hk];exact e.symm,by
  rw [Int.natAbs_mul];exact aM (bQ (show q.num.natAbs≤7 by omega) hl) (by decide)⟩
 have:q.den=1∨q.den=2∨q.den=3∨q.den=4∨q.den=5∨q.den=6:=by omega
 rcases this with h|h|h|h|h|h
 ·exact go 60 (by decide) (by rw [h];decide) (by decide)
 ·exact go 30 (by decide) (by rw [h];decide) (by decide)
 ·exact go 20 (by decide) (by rw [h];decide) (by decide)
 ·exact go 15 (by decide) (by rw [h];decide) (by decide)
 ·exact go 12 (by decide) (by rw [h];decide) (by decide)
 ·exact go 10 (by decide) (by rw [h];decide) (by decide)
def Tb.Sm.s7{t:Tb}(h:t.Sm):t.S7:=⟨fun r hr q hq=>(h.1 r hr q hq).Z3,fun q hq=>(h.2 q hq).Z3⟩
def Vo{t:Tb}(o:t.Ok 4)(h:t.Sm):He (DB t) 70:=by
 obtain⟨b1,b2,b3⟩:=ME h.fits o;have h4:=o.most;have hl:(DB t).length=t.rs.length+1:=by unfold DB;rw [List.length_map,List.length_append];rfl
 have one:∀row∈DB t,row.length≤4∧row.length≤t.rs.length:=fun row hr=>by
  unfold DB at hr;obtain⟨r,hr',rfl⟩:=ae.mp hr;have e:(C9 r (Dw t)).length=r.length:=bH _;rw [e];obtain⟨i,hi⟩:=List.getElem?_of_mem hr';have:=NP o (show(Bz t)[i]? = some r from hi);omega
 refine⟨by omega,fun row hr=>by have:=one row hr;omega,2^65,fun row hr x hx=>?_,by decide,fun row hr=>aM (Nat.mul_le_mul_right _ (one row hr).1) (by decide)⟩;unfold DB at hr;obtain⟨r,hr',rfl⟩:=ae.mp hr;unfold C9 at hx;obtain⟨q,hq,rfl⟩:=ae.mp hx;have f:FM.Fits q 3:=by
  rcases bD.mp hr' with hr|hr
  ·exact h.fits.1 r hr q hq
  ·rw [List.mem_singleton.mp hr]at hq;exact h.fits.2 q hq
 obtain⟨c,hc⟩:=b3 r hr' q hq;have hd:(q.den:Int)≠0:=by have:=q.den_nz;omega
 have e:(Dw t).fdiv (q.den:Int)=c:=by rw [hc,Int.mul_fdiv_cancel_left _ hd]
 have hcb:c.natAbs≤(Dw t).natAbs:=by
  rw [hc,Int.natAbs_mul];exact Nat.le_mul_of_pos_left _ (by have:=q.den_nz;omega)
 rw [e,Int.natAbs_mul];exact aM (bQ (bE f.1) (aM hcb (bE b2))) (by decide)
def Yl:Sp:=fun vs H Q _=>∃(v x:V) (t:Tb) (u:Tr),vs=[v,x]∧DU H (BE t) v∧t.Ok 4∧t.Sm∧Tv H u x∧u∈CD 5∧∀(p:AD) H',AH H H'→H' p=some (.tup (Fl (Eu t u)))→Q (.ref p) H'
def Xc:Sp:=fun vs H Q _=>∃(v:V) (a:Tb) (m:Nat),vs=[v]∧DU H (BE a) v∧a.Ok m∧m≤40∧∀(p R L:AD) xs ys H',AH H H'→H R=none→H L=none→R≠L→H' p=some (.tup [.ref R,.ref L])→H' R=some (.lst xs)→H' L=some (.lst ys)→A3 H' (Bh a.rs) xs→A3 H' (Aw a.ls) ys→(∀y∈xs,∃b,y=.ref b∧b≠R∧b≠L∧H b=none)→Q (.ref p) H'
section
variable{P:Program}{w:World}{K:Fg}{mg:Str→Option VL}{base:Heap}{f g g1 g2 g3:AD}{fd gd gd1 gd2 gd3:FuncData}
def Lm:Ab ["table", "tree"] ["table", "tree"] (AW FH):=Bo
def LN(F:Fn K mg "table_weight" FH ["table", "tree"] f fd)(CY:Fn K mg "refuse_no_table" Dz ["thing"] g1 gd1)(Cs:Fn K mg "refuse_no_tree" EK ["thing"] g2 gd2)(DJ:Fn K mg "weights_under" Eo ["table", "trees"] g3 gd3)
 (J8:AV P w K mg base Ad 12 g1 gd1 ["thing"] Nz)(Km:AV P w K mg base Ad 12 g2 gd2 ["thing"] OD)(L3:AV P w K mg base Ad 12 g3 gd3 ["table", "trees"] (XS (CD 5) 70)):AV P w K mg base Ad 13 f fd ["table", "tree"] Yl:=by
 have sc:=Lm;refine F.F.ok (k:=12) sc (fun vs H Q E h=>?_) (fun cdv A outer s H vs Q E hr h=>?_)
 ·obtain⟨v,x,t,u,rfl,_⟩:=h
  rfl
 obtain⟨v,x,t,u,rfl,dt,ot,st,tx,hu,q⟩:=h;obtain⟨u1,u2,u3,u4⟩:=J4 u hu;obtain⟨b1,b2,b3⟩:=ME st.fits ot;refine⟨_,(AM (Ea (Av CY J8 hr rfl (AB (pv 0) AF)))
 (AM (Ea (Av Cs Km hr rfl (AB (pv 1) AF)))
 (AR (Aq (BM Jx (Av DJ L3 hr rfl (AB (pv 0) (AB (Cd (AB (pv 1) AF)) AF))) AN (fun _ _=>rfl)))))),?_⟩
 refine⟨_,rfl,v,t,4,rfl,dt,ot,by decide,fun H1 e1=>?_⟩;refine⟨_,rfl,x,u,rfl,tx.same e1,u2,u1,fun H2 e2=>?_⟩;refine⟨_,rfl,_,rfl,(by show 1≤sizeLine;decide),fun p hp=>?_⟩;have e3:=AU hp (.lst [x]);have h3:upd H2 p (.lst [x]) p=some (.lst [x]):=AJ;generalize upd H2 p (.lst [x])=H3 at e3 h3;have E3:=(e1.trans e2).trans e3;refine⟨v,t,p,[x],[u],4,3,1+3*(4+4*4),rfl,dt.same E3,ot,by decide,st.fits,by decide,Vo ot st,b2,by decide,b1,h3,rfl,by show 1≤1000;decide,fun i y hy=>?_,fun D H4 zs e4 _ hD4 d4=>?_⟩
 ·have:i=0:=by have:=(aD.mp hy).1;simp at this;exact this
  subst this;cases hy;exact⟨u,rfl,tx.same E3,hu,by omega,by omega⟩
 ·obtain⟨pq,k1,k2⟩:=Ew d4 (i:=0) (q:=MG t u) rfl;refine⟨_,_,_,_,rfl,rfl,AZ.of hD4,EY k1,?_⟩;rw [Xj ot st.fits hu]at k2;exact q _ _ (E3.trans e4) k2
def MW:Ab ["_law_table_here"] ["_law_table_here"] (AW Fx):=Bo
def MP(F:Fn K mg "_law_copied" Fx ["_law_table_here"] f fd)(Cc:mg "list" = none):AV P w K mg base Ad 1 f fd ["_law_table_here"] Xc:=by
 have sc:=MW;refine F.F.ok (k:=0) sc (fun vs H Q E h=>?_) (fun cdv A outer s H vs Q E hr h=>?_)
 ·obtain⟨v,a,m,rfl,_⟩:=h
  rfl
 obtain⟨v,a,m,rfl,da,oa,hm,q⟩:=h;refine⟨_,(AR (Aq (DV (AB (EG [".0", "_law_row"] 1 [none,none] (CB (BM BS (pv 0) AN (fun _ _=>rfl))) (fun _ _ _ _ _=>Cg) (fun _ _ _ _ _=>(FX Ij rfl Cc bR (AB (pv 1) AF)))) (AB (FX JQ rfl Cc bR (AB (BM BS (pv 0) AN (fun _ _=>rfl)) AF)) AF))))),?_⟩;obtain⟨p1,R1,L1,xs1,ys1,rfl,hp1,hR1,dR1,hL1,dL1⟩:=da.tab;have l1:xs1.length=a.rs.length:=by rw [dR1.len,Cr]
 have ma:=oa.most;refine⟨_,rfl,_,_,_,_,rfl,rfl,Ag.of hp1,rfl,R1,rfl,⟨_,AZ.of hR1⟩,fun D hD=>Dq (n:=xs1.length) (Made H D a.rs) (SU hD) ?_ ?_⟩
 ·rintro i ys H5 hi mk hD5;have e5:=mk.1;have hr:a.rs[i]? = some (a.rs[i]'(by omega)):=aG _;obtain⟨r,zs,g1,g2,g3⟩:=FG dR1 hr;refine⟨⟨xs1,.ref r,AZ.of (e5 _ _ hR1),g1⟩,IB (n:=60) (by rw [mk.2.1];omega) (by decide),fun x H' y=>?_⟩;obtain⟨rfl,y⟩:=y;have hx:=y xs1 (AZ.of (e5 _ _ hR1));rw [g1]at hx;cases hx;unfold En;refine Ce ⟨_,rfl,r,zs,rfl,.inl (AZ.of (e5 _ _ g2)),fun l hl=>?_⟩;obtain⟨k1,k2⟩:=Mz hD mk hD5 hr hl (g3.same e5);exact⟨k1,Ci hi k2⟩
 rintro zs1 H5 ⟨e5,zl1,d5,n5⟩ hD5;refine⟨⟨xs1,AZ.of (e5 _ _ hR1),Nat.le_refl _⟩,?_⟩;rw [l1,List.take_length]at d5;have d5:=EI d5;refine⟨_,rfl,_,_,_,_,rfl,rfl,Ag.of (e5 _ _ hp1),rfl,L1,ys1,rfl,.inl (AZ.of (e5 _ _ hL1)),fun L hL=>?_⟩;generalize hH:upd _ L _=H8;obtain⟨e8,_,h8⟩:=bf hH hL (dL1.same e5);clear hH;refine⟨RC (show 2≤60 by decide),fun t ht=>?_⟩;have e9:=AU ht (.tup [V.ref D,V.ref L]);have h9:upd H8 t (.tup [V.ref D,V.ref L]) t=some (.tup [V.ref D,V.ref L]):=AJ;generalize upd H8 t (.tup [V.ref D,V.ref L])=H9 at e9 h9;have nDL:D≠L:=fun z=>by subst z;rw [hD5]at hL;cases hL
 have E:=e5.trans (e8.trans e9);have hLn:H L=none:=Hw e5 hL;refine q t D L zs1 ys1 H9 E hD hLn nDL h9 (e9 _ _ (e8 _ _ hD5)) (e9 _ _ h8) (d5.same (e8.trans e9)) (dL1.same E) fun y hy=>?_;obtain⟨b,ws,rfl,nb,hb0,hb1⟩:=n5 y hy;exact⟨b,rfl,nb,fun z=>(by subst z;rw [hL]at hb1;cases hb1),hb0⟩
end
section
variable{P:Program}{w:World}{K:Fg}{mg:Str→Option VL}{base:Heap}{f g:AD}{fd gd:FuncData}
def OZ:Ab ["_law_top", "_law_bottom", "_law_one", "_law_other"] ["_law_top", "_law_bottom"] (AW D7):=Bo
def OS(F:Fn K mg "_law_frac" D7 ["_law_top", "_law_bottom"] f fd)(Gw:mg "abs" = none):AV P w K mg base Ad 1 f fd ["_law_top", "_law_bottom"] Oz:=by
 have sc:=OZ;refine F.F.ok (k:=0) sc (fun vs H Q E h=>?_) (fun cdv A outer s H vs Q E hr h=>?_)
 ·obtain⟨t,b,m,rfl,_⟩:=h
  rfl
 obtain⟨t,b,m,rfl,hb,hm,hs,q⟩:=h;refine⟨_,(AM (Aj (i:=2) sc.nd rfl (Or.inl rfl) (Ao IZ rfl Gw PyProof.Rows.boot_abs (AB (pv 0) AF)))
 (AM (Aj (i:=3) sc.nd rfl (Or.inl rfl) (Ao IZ rfl Gw PyProof.Rows.boot_abs (AB (pv 1) AF)))
 (AM (Kp aQ (A9 IL (pv 3) AN (Am _))
  (AR (YZ (i:=2) (j:=3) rfl sc.nd rfl rfl (by decide) rfl rfl (AB (pv 3) (AB (Au HV (pv 2) (pv 3)) AF)) rfl)))
 (AM (Bd (A9 Nj (pv 1) AN (Am _))
  (AR (Aj (i:=2) sc.nd rfl (Or.inl rfl) (Au JK AN (pv 2))))
  BD)
 (AR (Aq (DV (AB (Au EF (pv 0) (pv 2)) (AB (Au EF (pv 1) (pv 2)) AF))))))))),?_⟩
 refine⟨_,rfl,_,rfl,_,rfl,_,rfl,?_⟩;refine Kf (fun σ H'=>∃g l,σ=[some (.int t),some (.int b),some (.int g),some (.int l)]∧H=H'∧Int.gcd g l=Int.gcd t b∧0≤g∧0≤l) (fun σ _=>Z8 σ) ?_ ?_ ?_
 ·exact⟨_,_,rfl,rfl,FM.QY t b,FM.abs_nonneg t,FM.abs_nonneg b⟩
 ·rintro σ H' ⟨g,l,rfl,rfl,hg,h0,h1⟩;refine⟨_,rfl,_,_,rfl,rfl,_,rfl,BV (fun c=>?_) (fun c=>?_)⟩
  ·have hl':0<l:=aa c;have hl:l≠0:=by omega
   refine⟨_,rfl,_,rfl,_,rfl,_,_,rfl,rfl,hl,_,_,rfl,⟨_,_,rfl,rfl,?_,h1,FM.fmod_nonneg hl h1⟩,?_⟩
   ·rw [FM.OC];exact hg
   ·exact FM.NL g l hl
  ·have hl':¬0<l:=ax (aZ.mpr c);have hl:l=0:=by omega
   subst hl;rw [FM.SX hg h0]
   try dsimp only [Ee]
   refine Kt (fun σ' H'=>σ'=[some (.int t),some (.int b),some (.int (FM.gs t b)),some (.int 0)]∧H=H') (fun nx hn=>?_) ?_
   ·refine⟨_,rfl,_,_,rfl,rfl,_,rfl,BV (fun c=>?_) (fun c=>?_)⟩
    ·have c':b<0:=aa c;refine⟨_,rfl,_,_,rfl,rfl,hn _ _ ⟨?_,rfl⟩⟩;show [some (V.int t),some (V.int b),some (V.int (0-FM.gi t b)),some (V.int 0)]=_;unfold FM.gs;rw [if_pos c',Int.zero_sub]
    ·have c':¬b<0:=ax (aZ.mpr c);refine hn _ _ ⟨?_,rfl⟩;unfold FM.gs;rw [if_neg c']
   ·rintro σ' H' ⟨rfl,rfl⟩;have h0:FM.gs t b≠0:=FM.Vi hb;have h1:(FM.gs t b).natAbs<2^m:=aY (FM.VI hb) hs;refine⟨_,rfl,_,rfl,_,_,rfl,rfl,⟨h0,m,hm,h1⟩,_,rfl,_,rfl,_,_,rfl,rfl,⟨h0,m,hm,h1⟩,SW,fun p hp=>?_⟩;refine q p _ (AU hp _) ?_;rw [AJ];show some (HO.tup [V.int (t.fdiv (FM.gs t b)),V.int (b.fdiv (FM.gs t b))])=_;rw [FM.OQ hb,FM.O2 hb]
    rfl
 ·exact fun σ H Q Q' hq ⟨v,e,i,j,e1,e2,k,e3,q⟩=>⟨v,e,i,j,e1,e2,k,e3,hq _ _ q⟩
end
def Vw{P:Program}{w:World}{K:Fg}{mg:Str→Option VL}{base:Heap}{f:AD}{fd:FuncData}{k:Nat}{ps:List Str}(F:AV P w K mg base Ad k f fd ps (CF HA)):AV P w K mg base Ad k f fd ps YB :=
 F.imp fun vs H Q E z=>by
  obtain⟨a,ns,k,rfl,ha,q⟩:=z;obtain⟨c,hc⟩:=Vt ns k;refine⟨[Fw ns,.int (k:Nat)],.int c,H,hc,.cons (YD ha) (.cons (by rw [Du]) .nil),.refl _,fun v G' H' _ _ _ e dv=>?_⟩;rw [Du]at dv;subst dv;exact q c H' e
def DU.Zz{H:Hp}{p:AD}{q:Rat}(h:H p=some (.tup (Fl q))):Du H (Af q) (.ref p):=(Fc h).du
def Qu(K:Fg):Sp:=fun vs H Q _=>∃(a:AD) (ns:List Int),vs=[.ref a]∧AZ K H a (ns.map V.int)∧ns.length≤63∧∀H',Q (.bl true) H'
def Tt{xs:List V}(h:1≤xs.length):Gn xs (some 1) none=xs.drop 1:=by
 have:=HT.A5;unfold Gn;have e1:HT.A5 xs.length 0 (some 1)=1:=by
  unfold HT.A5;simp;omega
 have e2:HT.A5 xs.length xs.length none=xs.length:=rfl;rw [e1,e2];exact List.take_of_length_le (by rw [List.length_drop];exact aE _)
def Eg:Rat:=⟨7,2,by decide,by decide⟩
section
variable{P:Program}{w:World}{K:Fg}{mg:Str→Option VL}{base:Heap}{f g g1 g2 g3 g4 g5 g6:AD}{fd gd gd1 gd2 gd3 gd4 gd5 gd6:FuncData}
def XG:Ab ["_law_script", "_law_table_here", "_law_tree", "_law_handed", "_law_found", "_law_other"] ["_law_script"] (AW VB):=Bo
def W8(hK:Nk K=true)(F:Fn K mg "law" VB ["_law_script"] f fd)(El:Fn K mg "_law_table" GQ ["_law_script", "_law_at", "_law_most"] g1 gd1)(Ed:Fn K mg "_law_trees" GU ["_law_most"] g2 gd2)(EC:Fn K mg "_law_copied" Fx ["_law_table_here"] g3 gd3)(Ck:Fn K mg "table_weight" FH ["table", "tree"] g4 gd4)(Gu:Fn K mg "_law_is" JU ["_law_found"] g5 gd5)(Cw:Fn K mg "_law_weight" Fz ["_law_table_here", "_law_tree"] g6 gd6)
 (PM:AV P w K mg base Ad 21 g1 gd1 ["_law_script", "_law_at", "_law_most"] XO)(Gb:AV P w K mg base Ad 21 g2 gd2 ["_law_most"] (CF Tu))(Nh:AV P w K mg base Ad 21 g3 gd3 ["_law_table_here"] Xc)(Dk:AV P w K mg base Ad 21 g4 gd4 ["table", "tree"] Yl)(JO:AV P w K mg base Ad 21 g5 gd5 ["_law_found"] (CF JW))(D8:AV P w K mg base Ad 21 g6 gd6 ["_law_table_here", "_law_tree"] (CF YK))(Cc:mg "list" = none):AV P w K mg base Ad 22 f fd ["_law_script"] (Qu K):=by
 have sc:=XG;refine F.F.ok (k:=21) sc (fun vs H Q E h=>?_) (fun cdv A outer s H vs Q E hr h=>?_)
 ·obtain⟨a,ns,rfl,_⟩:=h
  rfl
 obtain⟨a,ns,rfl,hS,_,q⟩:=h;refine⟨_,(AM (Aj (i:=1) sc.nd rfl (Or.inl rfl) (Av El PM hr rfl (AB (pv 0) (AB AN (AB AN AF)))))
 (AM (DR aQ rfl (CB (Av Ed Gb hr rfl (AB AN AF))) (A7 (i:=2) sc.nd rfl (Or.inl rfl))
  (AM (Aj (i:=3) sc.nd rfl (Or.inl rfl) (Av EC Nh hr rfl (AB (pv 1) AF)))
  (AM (Aj (i:=4) sc.nd rfl (Or.inl rfl) (Av Ck Dk hr rfl (AB (pv 3) (AB (pv 2) AF))))
  (AR (Bd (PW.pt (FR (CK (CM (Av Gu JO hr rfl (AB (pv 4) AF)))) (FR (A9 (OL (by have:=hr.units;exact this)) (pv 4) (Av Cw D8 hr rfl (AB (pv 1) (AB (pv 2) AF))) (Am _)) (Fh (A9 (OL (by have:=hr.units;exact this)) (pv 3) (pv 1) (Am _))))))
   (AR (Aq DC))
   BD)))))
 (AM (Lv (DV (AB AN (AB AN AF))) (N5 (BM BS (pv 3) AN (fun _ _=>rfl)) AN set_list))
 (AM (Aj (i:=5) sc.nd rfl (Or.inl rfl) (DV (AB (EG [".0", "_law_row"] 1 [none,none] (CB (BM BS (pv 1) AN (fun _ _=>rfl))) (fun _ _ _ _ _=>Cg) (fun _ _ _ _ _=>(FX Ij rfl Cc bR (AB (pv 1) AF)))) (AB (Au OP (Cd (AB (DV (AB AN (AB AN AF))) AF)) (OE QL (BM BS (pv 1) AN (fun _ _=>rfl)) (QQ AN) QR)) AF))))
 (AR (Aq (HX (R8 (by have:=hr.units;exact this)) (Av Ck Dk hr rfl (AB (pv 3) (AB (pv 2) AF))) (Av Cw D8 hr rfl (AB (pv 5) (AB (pv 2) AF))) (Am _)))))))),?_⟩
 refine⟨_,rfl,a,ns,0,4,rfl,YM hK hS,by decide,by decide,fun v H1 t e1 dt ot st=>?_⟩;refine⟨[.int 5],N3 5,H1,Wg,.cons (by rw [Du]) .nil,.refl _,fun v' G' H2 _ _ g3 e2 dv=>?_⟩;have dv:=dv.same g3;rw [N3,Du]at dv;obtain⟨C,tvs,rfl,hC,dts⟩:=dv;have ts:=JD dts;have dt2:=dt.same e2;have smx:=ot.sm (show 4≤60 by decide);have hlen:tvs.length=17:=by
  have:=ts.len;rw [Tr.J0]at this;exact this
 refine⟨C,rfl,⟨_,AZ.of hC⟩,GY (xs:=tvs) (fun i σ H'=>∃r2 r3 r4:Option V,σ=[some (.ref a),some v,r2,r3,r4,none]∧AH H2 H'∧(i≠0→∃(x:V) (u:Tr) (p R L:AD) (xs ys:List V),r2=some x∧Tv H' u x∧u∈CD 5∧r3=some (.ref p)∧H2 L=none∧R≠L∧H' p=some (.tup [.ref R,.ref L])∧H' R=some (.lst xs)∧H' L=some (.lst ys)∧A3 H' (Bh t.rs) xs∧A3 H' (Aw t.ls) ys∧∀y∈xs,y≠.ref L)) ?_ ?_ ?_ ?_⟩
 ·exact⟨_,_,_,rfl,.refl _,fun z=>absurd rfl z⟩
 ·rintro i σ H3 _ ⟨r2,r3,r4,rfl,e3,_⟩;exact AZ.of (e3 _ _ hC)
 ·rintro i x σ H3 hx ⟨r2,r3,r4,rfl,e3,_⟩;obtain⟨u,hu,tu⟩:=ts.get hx;rw [Tr.J0]at hu;have hu:=aO hu;refine⟨_,rfl,v,t,4,rfl,dt2.same e3,ot,by decide,fun p R L xs ys H4 e4 hR0 hL0 nRL hp hR hL dR dL hn=>?_⟩;have E4:=e3.trans e4;refine⟨_,rfl,_,rfl,.ref p,x,t,u,rfl,FW hp hR dR hL dL,ot,st,tu.same E4,hu,fun pf H5 e5 hpf=>?_⟩;refine⟨_,rfl,[Af (Eu t u)],.bool true,H5,ZC _,.cons (DU.Zz hpf) .nil,.refl _,fun w1 G6 H6 _ _ g6 e6 dw=>?_⟩;rw [Du]at dw;subst dw;refine⟨_,rfl,Fp ?_⟩;have E6:=e5.trans e6;refine⟨_,rfl,_,rfl,_,rfl,[BE t,tD u],Af (Eu t u),H6,SV ot st.s7 hu,.cons (dt2.same (E4.trans E6)).du (.cons (VE (tu.same (E4.trans E6))) .nil),.refl _,fun w2 G7 H7 _ _ g7 e7 dw2=>?_⟩;have E7:=E6.trans e7;have dw2:=Nl (HW _) (dw2.same g7);have zq:=FF (Af (Eu t u)) (HW _);have zt:=FF (BE t) (QO t);refine⟨_,_,(Fc ((e6.trans e7) _ _ hpf)).br,dw2.br,(HZ _).shaped (by decide),(HZ _).shaped (by decide),_,rfl,?_⟩;have z1:(if true=true then !PyData.eqv (Af (Eu t u)) (Af (Eu t u)) else PyData.eqv (Af (Eu t u)) (Af (Eu t u)))=false:=by rw [zq];rfl
  first
   |rw [z1]
   |rw [zq]
  refine Fp ?_;have hp7:=E7 _ _ hp;have hR7:=E7 _ _ hR;have hL7:=E7 _ _ hL;have dR7:=dR.same E7;have dL7:=dL.same E7;refine⟨_,rfl,_,rfl,_,_,(FW hp7 hR7 dR7 hL7 dL7).br,(dt2.same (E4.trans E7)).br,smx.ok.shaped (by decide),smx.ok.shaped (by decide),_,rfl,?_⟩;have z2:(if true=true then !PyData.eqv (BE t) (BE t) else PyData.eqv (BE t) (BE t))=false:=by rw [zt];rfl
  first
   |rw [z2]
   |rw [zt]
  refine Fp ⟨_,_,_,rfl,E4.trans E7,fun _=>⟨x,u,p,R,L,xs,ys,rfl,tu.same (E4.trans E7),hu,rfl,Hw e3 hL0,nRL,hp7,hR7,hL7,dR7,dL7,fun y hy z=>?_⟩⟩;obtain⟨b,rfl,_,nb,_⟩:=hn y hy;cases z;exact nb rfl
 ·rintro σ H3 ⟨r2,r3,r4,rfl,e3,k⟩;obtain⟨x,u,p,R,L,xs,ys,rfl,tu,hu,rfl,hL0,nRL,hp,hR,hL,dR,dL,hn⟩:=k (by omega);have dt3:=dt2.same e3;have o1:=ot.one;have o3:=ot.last;have hyl:ys.length=t.ls.length:=by rw [dL.len,B8]
  refine⟨(by show 2≤sizeLine;decide),fun p1 hp1=>?_⟩;have e4:=AU hp1 (.tup [V.int 7,V.int 2]);have h4:upd H3 p1 (.tup [V.int 7,V.int 2]) p1=some (.tup (Fl Eg)):=AJ;generalize upd H3 p1 (.tup [V.int 7,V.int 2])=H4 at e4 h4;have hL4:=e4 _ _ hL;refine⟨_,rfl,_,_,_,_,rfl,rfl,Ag.of (e4 _ _ hp),rfl,L,ys,0,0,rfl,rfl,hL4,(by unfold Ji;rw [if_pos (by decide),if_pos (by omega)];rfl),?_⟩;have u5:SameBut L H4 (upd H4 L (.lst (ys.set 0 (.ref p1)))):=.upd;have dL5:=M4 hL4 u5 (show A3 H4 (Aw (t.ls.set 0 Eg)) (ys.set 0 (.ref p1)) by
   rw [Aw,List.map_set];exact .set (Fc h4) (dL.same e4))
  have dR5:=OV hL4 u5 (dR.same e4) hn;have hR5:upd H4 L (.lst (ys.set 0 (.ref p1))) R=some (.lst xs):=by rw [AG nRL];exact e4 _ _ hR
  have hp5:upd H4 L (.lst (ys.set 0 (.ref p1))) p=some (.tup [.ref R,.ref L]):=by
   rw [AG fun z=>by rw [z,hL]at hp;cases hp];exact e4 _ _ hp
  have hL5:upd H4 L (.lst (ys.set 0 (.ref p1))) L=some (.lst (ys.set 0 (.ref p1))):=AJ;have tu5:Tv (upd H4 L (.lst (ys.set 0 (.ref p1)))) u x:=(tu.same e4).Al (.upd hL4);have E5:AH H2 (upd H4 L (.lst (ys.set 0 (.ref p1)))):=fun b o zz=>by
   rw [AG (AO zz hL0)];exact e4 _ _ (e3 _ _ zz)
  generalize upd H4 L (.lst (ys.set 0 (.ref p1)))=H5 at dL5 dR5 hR5 hp5 hL5 tu5 E5;have dh:DU H5 (BE ⟨t.rs,t.ls.set 0 Eg⟩) (.ref p):=FW hp5 hR5 dR5 hL5 dL5;have dt5:=dt2.same E5;obtain⟨p0,R0,L0,xs0,ys0,rfl,hp0,hR0,dR0,hL0',dL0⟩:=dt5.tab;have l0:xs0.length=t.rs.length:=by rw [dR0.len,Cr]
  have hy0:ys0.length=t.ls.length:=by rw [dL0.len,B8]
  have o4:=ot.most;refine⟨_,rfl,_,_,_,_,rfl,rfl,Ag.of hp0,rfl,R0,rfl,⟨_,AZ.of hR0⟩,fun D hD=>Dq (n:=xs0.length) (Made H5 D t.rs) (SU hD) ?_ ?_⟩
  ·rintro i zs H6 hi mk hD6;have e6:=mk.1;have hr:t.rs[i]? = some (t.rs[i]'(by omega)):=aG _;obtain⟨r,ws,g1,g2,g3⟩:=FG dR0 hr;refine⟨⟨xs0,.ref r,AZ.of (e6 _ _ hR0),g1⟩,IB (n:=60) (by rw [mk.2.1];omega) (by decide),fun x H' y=>?_⟩;obtain⟨rfl,y⟩:=y;have hx:=y xs0 (AZ.of (e6 _ _ hR0));rw [g1]at hx;cases hx;unfold En;refine Ce ⟨_,rfl,r,ws,rfl,.inl (AZ.of (e6 _ _ g2)),fun l hl=>?_⟩;obtain⟨k1,k2⟩:=Mz hD mk hD6 hr hl (g3.same e6);exact⟨k1,Ci hi k2⟩
  rintro zs1 H6 ⟨e6,zl1,d6,n6⟩ hD6;refine⟨⟨xs0,AZ.of (e6 _ _ hR0),Nat.le_refl _⟩,?_⟩;rw [l0,List.take_length]at d6;have d6:=EI d6;refine⟨(by show 2≤sizeLine;decide),fun p7 hp7=>?_⟩;have e7:=AU hp7 (.tup [V.int 7,V.int 2]);have h7:upd H6 p7 (.tup [V.int 7,V.int 2]) p7=some (.tup (Fl Eg)):=AJ;generalize upd H6 p7 (.tup [V.int 7,V.int 2])=H7 at e7 h7;refine⟨(by show 1≤sizeLine;decide),fun p8 hp8=>?_⟩;have e8:=AU hp8 (.lst [V.ref p7]);have h8:upd H7 p8 (.lst [V.ref p7]) p8=some (.lst [V.ref p7]):=AJ;generalize upd H7 p8 (.lst [V.ref p7])=H8 at e8 h8;have E8:=e6.trans (e7.trans e8);refine⟨_,rfl,_,_,_,_,rfl,rfl,Ag.of (E8 _ _ hp0),rfl,_,rfl,L0,ys0,rfl,AZ.of (E8 _ _ hL0'),fun p9 hp9=>?_⟩;have hcut:Gn ys0 (some 1) none=ys0.drop 1:=by
   exact Tt (by omega)
  rw [hcut];have e9:=AU hp9 (.lst (ys0.drop 1));have h9:upd H8 p9 (.lst (ys0.drop 1)) p9=some (.lst (ys0.drop 1)):=AJ;generalize upd H8 p9 (.lst (ys0.drop 1))=H9 at e9 h9;refine⟨p8,p9,_,_,rfl,rfl,e9 _ _ h8,h9,RC (by simp;omega),fun p10 hp10=>?_⟩;have dn:A3 H9 (Aw (Eg::t.ls.drop 1)) ([V.ref p7]++ys0.drop 1):=by
   have:=(dL0.same (E8.trans e9)).drop 1;rw [Aw,←List.map_drop]at this;exact .cons (Fc ((e8.trans e9) _ _ h7)) this
  have e10:=AU hp10 (.lst ([V.ref p7]++ys0.drop 1));have h10:upd H9 p10 (.lst ([V.ref p7]++ys0.drop 1)) p10=some (.lst ([V.ref p7]++ys0.drop 1)):=AJ;generalize upd H9 p10 (.lst ([V.ref p7]++ys0.drop 1))=H10 at e10 h10;refine⟨(by show 2≤sizeLine;decide),fun p11 hp11=>?_⟩;have e11:=AU hp11 (.tup [V.ref D,V.ref p10]);have h11:upd H10 p11 (.tup [V.ref D,V.ref p10]) p11=some (.tup [V.ref D,V.ref p10]):=AJ;generalize upd H10 p11 (.tup [V.ref D,V.ref p10])=H11 at e11 h11;have el:t.ls.set 0 Eg=Eg::t.ls.drop 1:=by
   cases hls:t.ls with
   |nil=>rw [hls]at o3;simp at o3;omega
   |cons y l=>rfl
  have ok2:(Tb.mk t.rs (t.ls.set 0 Eg)).Ok 4:=⟨ot.one,ot.most,by show(t.ls.set 0 Eg).length=_;rw [List.length_set];exact o3,ot.row⟩;have sm2:(Tb.mk t.rs (t.ls.set 0 Eg)).Sm:=⟨st.1,fun y hy=>by
   rcases List.mem_or_eq_of_mem_set hy with h|h
   ·exact st.2 y h
   ·rw [h];exact(show HU Eg by decide)⟩
  have E911:=e10.trans e11;have E611:=(e7.trans e8).trans (e9.trans E911);have do11:DU H11 (BE ⟨t.rs,t.ls.set 0 Eg⟩) (.ref p11):=by
   rw [el];exact FW h11 (E611 _ _ hD6) (d6.same E611) (e11 _ _ h10) (dn.same E911)
  have E511:=e6.trans E611;refine⟨_,rfl,_,rfl,.ref p,x,_,u,rfl,dh.same E511,ok2,sm2,tu5.same E511,hu,fun pf H12 e12 hpf=>?_⟩;refine⟨_,rfl,_,rfl,[BE ⟨t.rs,t.ls.set 0 Eg⟩,tD u],Af (Eu ⟨t.rs,t.ls.set 0 Eg⟩ u),H12,SV ok2 sm2.s7 hu,.cons (do11.same e12).du (.cons (VE (tu5.same (E511.trans e12))) .nil),.refl _,fun w2 G13 H13 _ _ g13 e13 dw2=>?_⟩;have dw2:=Nl (HW _) (dw2.same g13);have zq:=FF (Af (Eu ⟨t.rs,t.ls.set 0 Eg⟩ u)) (HW _);refine⟨_,_,(Fc (e13 _ _ hpf)).br,dw2.br,(HZ _).shaped (by decide),(HZ _).shaped (by decide),?_⟩;have z1:(if false=true then !PyData.eqv (Af (Eu ⟨t.rs,t.ls.set 0 Eg⟩ u)) (Af (Eu ⟨t.rs,t.ls.set 0 Eg⟩ u)) else PyData.eqv (Af (Eu ⟨t.rs,t.ls.set 0 Eg⟩ u)) (Af (Eu ⟨t.rs,t.ls.set 0 Eg⟩ u)))=true:=by rw [zq];rfl
  first
   |rw [z1]
   |rw [zq]
  exact q H13
end
section
open PySem.W PyProof.Rows PySem.Calls
abbrev C3:Program:=PySem.Challenge.pw_stepgrove_k39_tree_weights
abbrev Bw:OpenLaw:=PySem.Challenge.rw_stepgrove_k39_tree_weights
noncomputable abbrev dE(P:Params)(x:String)(t:Nat)(v:VL):DictEntry:=⟨PyData.keyHash P (Str.ofString x),.str (Str.ofString x) t,v⟩
noncomputable abbrev sV(x:String)(t:Nat):VL:=.str (Str.ofString x) t
noncomputable abbrev fO(n:String)(i:Nat)(m:String)(t c:Nat):Obj:=⟨.type "function",none,.func (fnOf n n (Dj (top i)) (Cj (top i)) (AW (top i)) .none .none .none (.str (Str.ofString m) t) none (.ref c) .none),#[]⟩
noncomputable abbrev cO(n:String)(t l a k r:Nat)(b:Bool)(r2:Nat)(v1 v2 v3 v4:VL)(t2:Nat):Obj:=⟨.type "code",none,.fields #[sV n t,sV n (t+1),sV "/claim/cut.py" (t+2),.int l 0,.int a 0,.int 0 0,.int 0 0,.int k 0,.ref r,.bool b,.int 181 0,.ref r2,v1,v2,v3,v4,.int t2 0,.int l 0,sV "/claim/cut.py" (t2+1)],#[]⟩
noncomputable def kH:Params→Frag:=fun P =>
 (nat_lit 2,⟨.none,none,(.dict #[] 0),#[]⟩) ::
 (nat_lit 3,⟨(.type "dict"),none,(.dict #[dE P "__name__" 165 (sV "law_stepgrove_k39_tree_weights" 412),dE P "__doc__" 166 .none,dE P "__package__" 167 .none,dE P "__loader__" 168 (.builtin "__main__.__loader__#opaque"),dE P "__spec__" 169 .none,dE P "__annotations__" 170 (.ref 6),dE P "__builtins__" 171 (.ref 4),dE P "__file__" 173 (sV "/claim/cut.py" 172),dE P "__cached__" 174 .none,dE P "GroveError" 206 (.ref 24),dE P "NoBottom" 222 (.ref 37),dE P "NoTree" 238 (.ref 49),dE P "NoTable" 254 (.ref 61),dE P "fraction_of" 265 (.ref 70),dE P "is_fraction" 272 (.ref 77),dE P "are_fractions" 280 (.ref 84),dE P "is_whole" 287 (.ref 91),dE P "greatest_divisor" 298 (.ref 98),dE P "common_bottom" 307 (.ref 105),dE P "power_of" 318 (.ref 112),dE P "MOST_ROWS" 322 (.int 40 321),dE P "is_table" 329 (.ref 119),dE P "refuse_no_table" 336 (.ref 126),dE P "are_rows" 345 (.ref 133),dE P "is_tree" 356 (.ref 140),dE P "refuse_no_tree" 363 (.ref 147),dE P "knots_within" 369 (.ref 152),dE P "tops_over" 377 (.ref 157),dE P "table_bottom" 383 (.ref 162),dE P "table_weight" 393 (.ref 169),dE P "weights_under" 399 (.ref 174),dE P "readings" 405 (.ref 179),dE P "read_by" 411 (.ref 184),dE P "_law_cell" 423 (.ref 191),dE P "_law_frac" 433 (.ref 198),dE P "_law_add" 441 (.ref 205),dE P "_law_mul" 449 (.ref 212),dE P "_law_all" 458 (.ref 219),dE P "_law_kept" 464 (.ref 224),dE P "_law_longer" 470 (.ref 229),dE P "_law_trees" 482 (.ref 236),dE P "_law_knots" 488 (.ref 241),dE P "_law_entry" 495 (.ref 248),dE P "_law_named" 502 (.ref 255),dE P "_law_table" 519 (.ref 262),dE P "_law_copied" 525 (.ref 267),dE P "_law_flat" 531 (.ref 272),dE P "_law_power" 541 (.ref 279),dE P "_law_read" 550 (.ref 286),dE P "_law_weight" 566 (.ref 293),dE P "_law_is" 572 (.ref 298),dE P "law" 578 (.ref 303)] 52),#[]⟩) ::
 (nat_lit 15,⟨(.type "tuple"),none,(.seq #[(.type "ValueError")] 0),#[]⟩) ::
 (nat_lit 22,⟨(.type "tuple"),none,(.seq #[] 0),#[]⟩) ::
 (nat_lit 23,⟨(.type "dict"),none,(.dict #[dE P "__module__" 196 (sV "stepgrove.errors" 187),dE P "__firstlineno__" 200 (.int 2 199),dE P "__static_attributes__" 201 (.ref 22),dE P "__weakref__" 203 (.ref 25),dE P "__doc__" 204 .none] 3),#[]⟩) ::
 (nat_lit 24,⟨(.type "type"),none,(.cls ⟨Str.ofString "GroveError",[(.type "ValueError")],[(.ref 24),(.type "ValueError"),(.type "Exception"),(.type "BaseException"),(.type "object")],23,Str.ofString "GroveError",true,[],[(.ref 37),(.ref 49),(.ref 61)],false,none,false⟩),#[some (.ref 15),none,some (sV "GroveError" 189),some (sV "GroveError" 197),some (.builtin "ValueError.__new__"),some (.bool true)]⟩) ::
 (nat_lit 25,⟨(.type "getset_descriptor"),none,(.fields #[(sV "__weakref__" 202),(.ref 24),(.builtin "ExceptionGroup.__weakref__"),.none]),#[]⟩) ::
 (nat_lit 28,⟨(.type "tuple"),none,(.seq #[(.ref 24)] 0),#[]⟩) ::
 (nat_lit 35,⟨(.type "tuple"),none,(.seq #[] 0),#[]⟩) ::
 (nat_lit 36,⟨(.type "dict"),none,(.dict #[dE P "__module__" 214 (sV "stepgrove.errors" 187),dE P "__firstlineno__" 218 (.int 4 217),dE P "__static_attributes__" 219 (.ref 35),dE P "__doc__" 220 .none] 2),#[]⟩) ::
 (nat_lit 37,⟨(.type "type"),none,(.cls ⟨Str.ofString "NoBottom",[(.ref 24)],[(.ref 37),(.ref 24),(.type "ValueError"),(.type "Exception"),(.type "BaseException"),(.type "object")],36,Str.ofString "NoBottom",true,[],[],false,none,false⟩),#[some (.ref 28),none,some (sV "NoBottom" 207),some (sV "NoBottom" 215),some (.builtin "ValueError.__new__"),some (.bool true)]⟩) ::
 (nat_lit 40,⟨(.type "tuple"),none,(.seq #[(.ref 24)] 0),#[]⟩) ::
 (nat_lit 47,⟨(.type "tuple"),none,(.seq #[] 0),#[]⟩) ::
 (nat_lit 48,⟨(.type "dict"),none,(.dict #[dE P "__module__" 230 (sV "stepgrove.errors" 187),dE P "__firstlineno__" 234 (.int 6 233),dE P "__static_attributes__" 235 (.ref 47),dE P "__doc__" 236 .none] 2),#[]⟩) ::
 (nat_lit 49,⟨(.type "type"),none,(.cls ⟨Str.ofString "NoTree",[(.ref 24)],[(.ref 49),(.ref 24),(.type "ValueError"),(.type "Exception"),(.type "BaseException"),(.type "object")],48,Str.ofString "NoTree",true,[],[],false,none,false⟩),#[some (.ref 40),none,some (sV "NoTree" 223),some (sV "NoTree" 231),some (.builtin "ValueError.__new__"),some (.bool true)]⟩) ::
 (nat_lit 52,⟨(.type "tuple"),none,(.seq #[(.ref 24)] 0),#[]⟩) ::
 (nat_lit 59,⟨(.type "tuple"),none,(.seq #[] 0),#[]⟩) ::
 (nat_lit 60,⟨(.type "dict"),none,(.dict #[dE P "__module__" 246 (sV "stepgrove.errors" 187),dE P "__firstlineno__" 250 (.int 8 249),dE P "__static_attributes__" 251 (.ref 59),dE P "__doc__" 252 .none] 2),#[]⟩) ::
 (nat_lit 61,⟨(.type "type"),none,(.cls ⟨Str.ofString "NoTable",[(.ref 24)],[(.ref 61),(.ref 24),(.type "ValueError"),(.type "Exception"),(.type "BaseException"),(.type "object")],60,Str.ofString "NoTable",true,[],[],false,none,false⟩),#[some (.ref 52),none,some (sV "NoTable" 239),some (sV "NoTable" 247),some (.builtin "ValueError.__new__"),some (.bool true)]⟩) ::
 (nat_lit 69,cO "fraction_of" 257 11 2 3 64 true 65 .none (.ref 66) (.ref 67) (.ref 68) 263) ::
 (nat_lit 70,fO "fraction_of" 6 "stepgrove.fracs" 255 69) ::
 (nat_lit 76,cO "is_fraction" 266 18 1 3 71 true 72 .none (.ref 73) (.ref 74) (.ref 75) 270) ::
 (nat_lit 77,fO "is_fraction" 7 "stepgrove.fracs" 255 76) ::
 (nat_lit 83,cO "are_fractions" 273 24 1 3 78 true 79 .none (.ref 80) (.ref 81) (.ref 82) 278) ::
 (nat_lit 84,fO "are_fractions" 8 "stepgrove.fracs" 255 83) ::
 (nat_lit 90,cO "is_whole" 281 31 1 3 85 true 86 .none (.ref 87) (.ref 88) (.ref 89) 285) ::
 (nat_lit 91,fO "is_whole" 9 "stepgrove.fracs" 255 90) ::
 (nat_lit 97,cO "greatest_divisor" 288 33 2 3 92 true 93 .none (.ref 94) (.ref 95) (.ref 96) 296) ::
 (nat_lit 98,fO "greatest_divisor" 10 "stepgrove.fracs" 255 97) ::
 (nat_lit 104,cO "common_bottom" 299 41 1 3 99 true 100 .none (.ref 101) (.ref 102) (.ref 103) 305) ::
 (nat_lit 105,fO "common_bottom" 11 "stepgrove.fracs" 255 104) ::
 (nat_lit 111,cO "power_of" 308 46 2 3 106 true 107 .none (.ref 108) (.ref 109) (.ref 110) 316) ::
 (nat_lit 112,fO "power_of" 12 "stepgrove.fracs" 255 111) ::
 (nat_lit 118,cO "is_table" 323 59 1 3 113 true 114 .none (.ref 115) (.ref 116) (.ref 117) 327) ::
 (nat_lit 119,fO "is_table" 15 "stepgrove.tables" 319 118) ::
 (nat_lit 125,cO "refuse_no_table" 330 63 1 3 120 true 121 .none (.ref 122) (.ref 123) (.ref 124) 334) ::
 (nat_lit 126,fO "refuse_no_table" 16 "stepgrove.tables" 319 125) ::
 (nat_lit 132,cO "are_rows" 337 66 1 3 127 true 128 .none (.ref 129) (.ref 130) (.ref 131) 343) ::
 (nat_lit 133,fO "are_rows" 17 "stepgrove.tables" 319 132) ::
 (nat_lit 139,cO "is_tree" 348 74 1 3 134 true 135 .none (.ref 136) (.ref 137) (.ref 138) 354) ::
 (nat_lit 140,fO "is_tree" 19 "stepgrove.trees" 346 139) ::
 (nat_lit 146,cO "refuse_no_tree" 357 83 1 3 141 true 142 .none (.ref 143) (.ref 144) (.ref 145) 361) ::
 (nat_lit 147,fO "refuse_no_tree" 20 "stepgrove.trees" 346 146) ::
 (nat_lit 151,cO "knots_within" 364 86 1 3 148 true 149 .none .none .none (.ref 150) 367) ::
 (nat_lit 152,fO "knots_within" 21 "stepgrove.trees" 346 151) ::
 (nat_lit 156,cO "tops_over" 372 89 2 3 153 true 154 .none .none .none (.ref 155) 375) ::
 (nat_lit 157,fO "tops_over" 23 "stepgrove.wholes" 370 156) ::
 (nat_lit 161,cO "table_bottom" 378 91 1 3 158 true 159 .none .none .none (.ref 160) 381) ::
 (nat_lit 162,fO "table_bottom" 24 "stepgrove.wholes" 370 161) ::
 (nat_lit 168,cO "table_weight" 386 97 2 3 163 true 164 .none (.ref 165) (.ref 166) (.ref 167) 391) ::
 (nat_lit 169,fO "table_weight" 26 "stepgrove.weights" 384 168) ::
 (nat_lit 173,cO "weights_under" 394 101 2 3 170 true 171 .none .none .none (.ref 172) 397) ::
 (nat_lit 174,fO "weights_under" 27 "stepgrove.weights" 384 173) ::
 (nat_lit 178,cO "readings" 400 109 3 3 175 true 176 .none .none .none (.ref 177) 403) ::
 (nat_lit 179,fO "readings" 28 "stepgrove.weights" 384 178) ::
 (nat_lit 183,cO "read_by" 406 116 2 3 180 true 181 .none .none .none (.ref 182) 409) ::
 (nat_lit 184,fO "read_by" 29 "stepgrove.weights" 384 183) ::
 (nat_lit 190,cO "_law_cell" 414 119 2 3 185 true 186 .none (.ref 187) (.ref 188) (.ref 189) 421) ::
 (nat_lit 191,fO "_law_cell" 31 "law_stepgrove_k39_tree_weights" 412 190) ::
 (nat_lit 197,cO "_law_frac" 424 128 2 3 192 true 193 .none (.ref 194) (.ref 195) (.ref 196) 431) ::
 (nat_lit 198,fO "_law_frac" 32 "law_stepgrove_k39_tree_weights" 412 197) ::
 (nat_lit 204,cO "_law_add" 434 136 2 3 199 true 200 .none (.ref 201) (.ref 202) (.ref 203) 439) ::
 (nat_lit 205,fO "_law_add" 33 "law_stepgrove_k39_tree_weights" 412 204) ::
 (nat_lit 211,cO "_law_mul" 442 138 2 3 206 true 207 .none (.ref 208) (.ref 209) (.ref 210) 447) ::
 (nat_lit 212,fO "_law_mul" 34 "law_stepgrove_k39_tree_weights" 412 211) ::
 (nat_lit 223,cO "_law_kept" 459 145 1 3 220 true 221 .none .none .none (.ref 222) 462) ::
 (nat_lit 224,fO "_law_kept" 36 "law_stepgrove_k39_tree_weights" 412 223) ::
 (nat_lit 228,cO "_law_longer" 465 147 1 3 225 true 226 .none .none .none (.ref 227) 468) ::
 (nat_lit 229,fO "_law_longer" 37 "law_stepgrove_k39_tree_weights" 412 228) ::
 (nat_lit 235,cO "_law_trees" 471 152 1 3 230 true 231 .none (.ref 232) (.ref 233) (.ref 234) 480) ::
 (nat_lit 236,fO "_law_trees" 38 "law_stepgrove_k39_tree_weights" 412 235) ::
 (nat_lit 247,cO "_law_entry" 489 164 1 3 242 true 243 .none (.ref 244) (.ref 245) (.ref 246) 493) ::
 (nat_lit 248,fO "_law_entry" 40 "law_stepgrove_k39_tree_weights" 412 247) ::
 (nat_lit 254,cO "_law_named" 496 166 1 3 249 true 250 .none (.ref 251) (.ref 252) (.ref 253) 500) ::
 (nat_lit 255,fO "_law_named" 41 "law_stepgrove_k39_tree_weights" 412 254) ::
 (nat_lit 261,cO "_law_table" 503 176 3 3 256 true 257 .none (.ref 258) (.ref 259) (.ref 260) 517) ::
 (nat_lit 262,fO "_law_table" 42 "law_stepgrove_k39_tree_weights" 412 261) ::
 (nat_lit 266,cO "_law_copied" 520 199 1 3 263 true 264 .none .none .none (.ref 265) 523) ::
 (nat_lit 267,fO "_law_copied" 43 "law_stepgrove_k39_tree_weights" 412 266) ::
 (nat_lit 271,cO "_law_flat" 526 201 1 3 268 true 269 .none .none .none (.ref 270) 529) ::
 (nat_lit 272,fO "_law_flat" 44 "law_stepgrove_k39_tree_weights" 412 271) ::
 (nat_lit 278,cO "_law_power" 532 207 2 3 273 true 274 .none (.ref 275) (.ref 276) (.ref 277) 539) ::
 (nat_lit 279,fO "_law_power" 45 "law_stepgrove_k39_tree_weights" 412 278) ::
 (nat_lit 285,cO "_law_read" 542 212 3 3 280 true 281 .none (.ref 282) (.ref 283) (.ref 284) 548) ::
 (nat_lit 286,fO "_law_read" 46 "law_stepgrove_k39_tree_weights" 412 285) ::
 (nat_lit 292,cO "_law_weight" 551 216 2 3 287 true 288 .none (.ref 289) (.ref 290) (.ref 291) 564) ::
 (nat_lit 293,fO "_law_weight" 47 "law_stepgrove_k39_tree_weights" 412 292) ::
 (nat_lit 297,cO "_law_is" 567 232 1 3 294 true 295 .none .none .none (.ref 296) 570) ::
 (nat_lit 298,fO "_law_is" 48 "law_stepgrove_k39_tree_weights" 412 297) ::
 (nat_lit 302,cO "law" 573 236 1 3 299 true 300 .none .none .none (.ref 301) 576) ::
 (nat_lit 303,fO "law" 49 "law_stepgrove_k39_tree_weights" 412 302)::[]
abbrev qX:Program:=view C3 [1,2,3,4,6,7,8,9,10,11,12,14,15,16,17,19,20,21,23,24,26,27,28,29,31,32,33,34,35,36,37,38,39,40,41,42,43,44,45,46,47,48,49]
noncomputable abbrev hX:Hook:=kHook kH [nat_lit 2,nat_lit 3,nat_lit 15,nat_lit 22,nat_lit 23,nat_lit 24,nat_lit 25,nat_lit 28,nat_lit 35,nat_lit 36,nat_lit 37,nat_lit 40,nat_lit 47,nat_lit 48,nat_lit 49,nat_lit 52,nat_lit 59,nat_lit 60,nat_lit 61,nat_lit 69,nat_lit 70,nat_lit 76,nat_lit 77,nat_lit 83,nat_lit 84,nat_lit 90,nat_lit 91,nat_lit 97,nat_lit 98,nat_lit 104,nat_lit 105,nat_lit 111,nat_lit 112,nat_lit 118,nat_lit 119,nat_lit 125,nat_lit 126,nat_lit 132,nat_lit 133,nat_lit 139,nat_lit 140,nat_lit 146,nat_lit 147,nat_lit 151,nat_lit 152,nat_lit 156,nat_lit 157,nat_lit 161,nat_lit 162,nat_lit 168,nat_lit 169,nat_lit 173,nat_lit 174,nat_lit 178,nat_lit 179,nat_lit 183,nat_lit 184,nat_lit 190,nat_lit 191,nat_lit 197,nat_lit 198,nat_lit 204,nat_lit 205,nat_lit 211,nat_lit 212,nat_lit 223,nat_lit 224,nat_lit 228,nat_lit 229,nat_lit 235,nat_lit 236,nat_lit 247,nat_lit 248,nat_lit 254,nat_lit 255,nat_lit 261,nat_lit 262,nat_lit 266,nat_lit 267,nat_lit 271,nat_lit 272,nat_lit 278,nat_lit 279,nat_lit 285,nat_lit 286,nat_lit 292,nat_lit 293,nat_lit 297,nat_lit 298,nat_lit 302,nat_lit 303] (fun _=>by kernel_rfl)
noncomputable def dX:DefRec:=⟨Str.ofString "law",Dj (top 49),Cj (top 49),AW (top 49),⟨236,0,245,85⟩⟩
def ZR:Bw.wellSaid=true:=(congrFun PySem.W.Fast.te9446332074065402090 _).trans (by kernel_rfl)
def bo(w:World)(os:OsState):topGo treeTable C3 w 11 Opn.Ft 12 ⟨boot_heap w.params,#[],boot_drawn,boot_toks,os⟩ (topStub C3)=some (Opn.sA w os,⟨denote treeTable (Opn.cB C3),Opn.cB C3,Opn.q0,Opn.bB⟩):=by kernel_rfl
def cm(w:World)(os:OsState):segRun treeTable C3 w 11 Opn.Ft 1 1 (Opn.sA w os) (blockOf (behindTheImports C3) (Opn.Ky C3) (Opn.cB C3) Opn.q0 Opn.bB)=some (.next,(Opn.sB w os).abs,Opn.cB C3,Opn.q0):=by kernel_rfl
def cf(w:World)(s:SD):topRun treeTable C3 w 11 Opn.Ft 2 s (restOf [] (Opn.Ky C3) (Opn.cB C3) ⟨236,0,245,85⟩ Opn.bB)=some s:=by kernel_rfl
def cI(w:World)(os:OsState):Opn.Q7 C3 2018 w os=some (.next,Opn.Rh C3 2018 w os,Opn.cB C3,⟨236,0,245,85⟩):=by kernel_rfl
noncomputable abbrev sX(w:World)(os:OsState):SD:=(Opn.Rh C3 2018 w os).abs
def cz(w:World)(os:OsState):(staticsOk (importedModules C3.main.body) (boot_heap w.params) (sX w os).heap&&namesBound C3 (sX w os).heap&&gensDone (sX w os)&&laidKept (boot_heap w.params) (sX w os).heap)=true:=by kernel_rfl
def ZL(w:World)(os:OsState):hX.obs (sX w os)=hX.val w:=by kernel_rfl
noncomputable abbrev Xy:SD→Bool:=fun s=>xlAt qX [] s&&recOk (RowW.records Bw.row.toRowW) s
def ZN(w:World)(os:OsState):openSeen qX [] (importedModules C3.main.body) Xy true (sX w os)=openGood qX []:=by kernel_rfl
def ZK(w:World):(fencedOpening treeTable C3 w 4160).map (fun s=>(s.heap,s.gens,s.drawn,s.toks))=some (boot_heap w.params,#[],boot_drawn,boot_toks):=boot_open (p:=C3) (N:=4160) (by kernel_rfl) (by kernel_rfl) (fun _=>by kernel_rfl) w
def ZG:LeftO C3 qX [] Xy hX.obs hX.val 4160:=Opn.V4 (M:=2033) (S:=sX) ZK Opn.Zw (fun w os=>Opn.Yb (bo w os) (cm w os) (cI w os) (cf w) (by kernel_rfl)) (by kernel_rfl) cz ZN ZL
def bg:defOf qX Bw.row.name=some (dX,[]):=by kernel_rfl
def b8:C3.theDef Bw.row.name=some (dX.params,dX.body,dX.scope):=by kernel_rfl
def dS:kwWritten? dX.params.kwonlyargs dX.params.kw_defaults=some []:=by kernel_rfl
def b7:(chainsOk qX&&opensWell Bw.row.prog&&(frees Bw.row.toRowW&&Bw.row.within.isEmpty))=true:=by kernel_rfl
def Zb:C3.bare:=⟨rfl,rfl,rfl,rfl,rfl,by decide +kernel⟩
def openX(hw:Bw.row.toRowW.promised)(hc:WalkO qX [] (XL qX []) hX.says Bw.row.toRowW dX [] (fun f vs=>PySem.call f vs)):Bw.Holds :=
 holds_law ZR fun said=>holds_open (r:=Bw.row) (q:=qX) (loose:=[]) (Xt:=Xy) (XP:=XL qX []) (Yf:=hX.obs) (Ya:=hX.val) (YP:=hX.says) (d:=dX) (kwd:=[]) (N:=4160) ZG hX.of hX.keeps (fun s e=>xl_of s (Bool.and_eq_true_iff.mp e).1) XL.keeps bg b8 dS (fun s e=>recFacts_of (Bool.and_eq_true_iff.mp e).2) rfl said b7 Zb hw hc
end
section
open PySem.W
def fnX{w:World}{mg:Str→Option VL}{h:Heap}(X:(kH w.params).In h)(G:h.Ns mainGlobals mg)(n:String)(i:Nat)(m:String)(t c f:Nat)(ps:List Str)
 (ha:nsIn (kH w.params) mainGlobals (Str.ofString n)=some (some (.ref f)):=by kernel_rfl)(hl:(kH w.params).lookup f=some (fO n i m t c):=by kernel_rfl)(hc:codeIn (kH w.params) (.ref c) (Str.ofString n)=true:=by kernel_rfl)(hk:keepIn (kH w.params) (.ref f)=true:=by kernel_rfl)
 (hb:∀(kV doc pm:VL) (an:Option AD) (cdv ct:VL) (us:List VL),us.length=ps.length→bindArgs (fnOf (Str.ofString n) (Str.ofString n) (Dj (top i)) (Cj (top i)) (AW (top i)) .none kV doc pm an cdv ct) ⟨us,[]⟩=pure (ps.zip us):=by first|(exact fun _ _ _ _ _ _ us hl=>match us,hl with|[_],_=>rfl)|(exact fun _ _ _ _ _ _ us hl=>match us,hl with|[_,_],_=>rfl)|(exact fun _ _ _ _ _ _ us hl=>match us,hl with|[_,_,_],_=>rfl)|(exact fun _ _ _ _ _ _ us hl=>match us,hl with|[_,_,_,_],_=>rfl)|(exact fun _ _ _ _ _ _ us hl=>match us,hl with|[_,_,_,_,_],_=>rfl)) :
  Fn (kH w.params) mg (Str.ofString n) (top i) ps f (fnOf (Str.ofString n) (Str.ofString n) (Dj (top i)) (Cj (top i)) (AW (top i)) .none .none .none (.str (Str.ofString m) t) none (.ref c) .none) :=
 ⟨SY hl hc hk,(SY (st:=top i) hl hc hk).binds hb,mg_of X G ha⟩
set_option maxHeartbeats 4000000 in
def cQ(w:World)(mg:Str→Option VL)(fa:AD)(h:Heap)(X:(kH w.params).In h)(G:h.Ns mainGlobals mg)(hfa:mg "law" = some (.ref fa)) :
  ∃fd:FuncData,(∀(s:SD) (v:VL),BindsTo s fd ⟨[v],[]⟩ [("_law_script",v)])∧∀base:Heap,(kH w.params).In base→base.Ns mainGlobals mg→AV Bw.prog w (kH w.params) mg base Ad 22 fa fd ["_law_script"] (Qu (kH w.params)):=by
 have e:=hfa.symm.trans (mg_of X G (v:=.ref 303) (by kernel_rfl));cases e;have EB:=fnX X G "fraction_of" 6 "stepgrove.fracs" 255 69 70 ["top", "bottom"];have EA:=fnX X G "is_fraction" 7 "stepgrove.fracs" 255 76 77 ["thing"];have Bg:=fnX X G "are_fractions" 8 "stepgrove.fracs" 255 83 84 ["thing"];have Eh:=fnX X G "is_whole" 9 "stepgrove.fracs" 255 90 91 ["thing"];have A1:=fnX X G "greatest_divisor" 10 "stepgrove.fracs" 255 97 98 ["one", "other"];have C6:=fnX X G "common_bottom" 11 "stepgrove.fracs" 255 104 105 ["bottoms"];have GI:=fnX X G "power_of" 12 "stepgrove.fracs" 255 111 112 ["base", "power"];have F8:=fnX X G "is_table" 15 "stepgrove.tables" 319 118 119 ["thing"];have CY:=fnX X G "refuse_no_table" 16 "stepgrove.tables" 319 125 126 ["thing"];have GF:=fnX X G "are_rows" 17 "stepgrove.tables" 319 132 133 ["thing"];have Cq:=fnX X G "is_tree" 19 "stepgrove.trees" 346 139 140 ["thing"];have Cs:=fnX X G "refuse_no_tree" 20 "stepgrove.trees" 346 146 147 ["thing"];have BZ:=fnX X G "knots_within" 21 "stepgrove.trees" 346 151 152 ["tree"];have FO:=fnX X G "tops_over" 23 "stepgrove.wholes" 370 156 157 ["some", "bottom"];have Dp:=fnX X G "table_bottom" 24 "stepgrove.wholes" 370 161 162 ["table"];have Ck:=fnX X G "table_weight" 26 "stepgrove.weights" 384 168 169 ["table", "tree"];have DJ:=fnX X G "weights_under" 27 "stepgrove.weights" 384 173 174 ["table", "trees"];have CJ:=fnX X G "readings" 28 "stepgrove.weights" 384 178 179 ["rows", "tree", "known"];have Fi:=fnX X G "read_by" 29 "stepgrove.weights" 384 183 184 ["row", "shares"];have D4:=fnX X G "_law_cell" 31 "law_stepgrove_k39_tree_weights" 412 190 191 ["_law_script", "_law_k"];have Bb:=fnX X G "_law_frac" 32 "law_stepgrove_k39_tree_weights" 412 197 198 ["_law_top", "_law_bottom"];have GH:=fnX X G "_law_add" 33 "law_stepgrove_k39_tree_weights" 412 204 205 ["_law_one", "_law_other"];have F7:=fnX X G "_law_mul" 34 "law_stepgrove_k39_tree_weights" 412 211 212 ["_law_one", "_law_other"];have Ba:=fnX X G "_law_kept" 36 "law_stepgrove_k39_tree_weights" 412 223 224 ["_law_tree"];have Bj:=fnX X G "_law_longer" 37 "law_stepgrove_k39_tree_weights" 412 228 229 ["_law_tree"];have Ed:=fnX X G "_law_trees" 38 "law_stepgrove_k39_tree_weights" 412 235 236 ["_law_most"];have Cb:=fnX X G "_law_entry" 40 "law_stepgrove_k39_tree_weights" 412 247 248 ["_law_number"];have Ek:=fnX X G "_law_named" 41 "law_stepgrove_k39_tree_weights" 412 254 255 ["_law_number"];have El:=fnX X G "_law_table" 42 "law_stepgrove_k39_tree_weights" 412 261 262 ["_law_script", "_law_at", "_law_most"];have EC:=fnX X G "_law_copied" 43 "law_stepgrove_k39_tree_weights" 412 266 267 ["_law_table_here"];have B9:=fnX X G "_law_flat" 44 "law_stepgrove_k39_tree_weights" 412 271 272 ["_law_tree"];have Ez:=fnX X G "_law_power" 45 "law_stepgrove_k39_tree_weights" 412 278 279 ["_law_many", "_law_count"];have FT:=fnX X G "_law_read" 46 "law_stepgrove_k39_tree_weights" 412 285 286 ["_law_table_here", "_law_row", "_law_other"];have Cw:=fnX X G "_law_weight" 47 "law_stepgrove_k39_tree_weights" 412 292 293 ["_law_table_here", "_law_tree"]
 have Gu:=fnX X G "_law_is" 48 "law_stepgrove_k39_tree_weights" 412 297 298 ["_law_found"];have Zm:=fnX X G "law" 49 "law_stepgrove_k39_tree_weights" 412 302 303 ["_law_script"];have Ar:mg "len" = none:=mg_none_of X G (by kernel_rfl);have BR:mg "range" = none:=mg_none_of X G (by kernel_rfl);have Gw:mg "abs" = none:=mg_none_of X G (by kernel_rfl);have Aa:mg "isinstance" = none:=mg_none_of X G (by kernel_rfl);have Jy:mg "int" = none:=mg_none_of X G (by kernel_rfl);have Hj:mg "bool" = none:=mg_none_of X G (by kernel_rfl);have BX:mg "tuple" = none:=mg_none_of X G (by kernel_rfl);have Cc:mg "list" = none:=mg_none_of X G (by kernel_rfl);have CT:mg "enumerate" = none:=mg_none_of X G (by kernel_rfl);have Hy:mg "sum" = none:=mg_none_of X G (by kernel_rfl);have IQ:mg "zip" = none:=mg_none_of X G (by kernel_rfl);have EM:mg "sorted" = none:=mg_none_of X G (by kernel_rfl);have Q4:mg "set" = none:=mg_none_of X G (by kernel_rfl);have dM:mg "dict" = none:=mg_none_of X G (by kernel_rfl);have a_MR:nsIn (kH w.params) mainGlobals "MOST_ROWS" = some (some (.int 40 321)):=by kernel_rfl
 have hK:Nk (kH w.params)=true:=by kernel_rfl
 refine⟨fnOf (Str.ofString "law") (Str.ofString "law") (Dj (top 49)) (Cj (top 49)) (AW (top 49)) .none .none .none (.str (Str.ofString "law_stepgrove_k39_tree_weights") 412) none (.ref 302) .none,fun s v=>.of_eq rfl,fun base _ _=>?_⟩;have HP:=PySem.W.mg_of X G a_MR;have U8:=I0 (P:=Bw.prog) (w:=w) (base:=base) A1 Gw;have b6:=Md EB A1 U8;have b5:=J7 C6 A1 U8;have bx:=LW Dp C6 b5;have cS:=Nu (P:=Bw.prog) (w:=w) (base:=base) FO;have cq:=Pt (P:=Bw.prog) (w:=w) (base:=base) GI;have cg:=Qs (P:=Bw.prog) (w:=w) (base:=base) Fi Hy IQ;have bV:=Kb VO CJ Fi cg Ar IQ 8;have cT:=Zs (G9 (P:=Bw.prog) (w:=w) (base:=base) BZ Hy 8);have cV:=K4 VO DJ Dp FO CJ GI BZ EB (bx.mono (by decide)) (cS.mono (by decide)) (bV.mono (by decide)) (cq.mono (by decide)) (cT.mono (by decide)) (b6.mono (by decide));have cR:=Pl (P:=Bw.prog) (w:=w) (base:=base) Eh Aa Jy Hj;have YF:=MX EA Eh A1 cR U8 Aa BX Ar;have Y4:=K8 Bg EA YF Aa Cc;have ba:=Pk GF Bg Y4 HP Aa Cc Ar CT;have cJ:=Pf F8 GF Bg ba (Y4.mono (by decide)) Aa BX Ar;have cH:=JR CY F8 cJ;have ZQ:=LR (P:=Bw.prog) (w:=w) (base:=base) Cq Aa BX CT 8;have Zc:=KA Cs Cq ZQ;have Dk:=LN Ck CY Cs DJ (cH.mono (by decide)) (Zc.mono (by decide)) cV;have Wz:=OS (P:=Bw.prog) (w:=w) (base:=base) Bb Gw;have B7:=bq Wz;have cG:=NX Cb Bb Wz;have FP:=N4 (P:=Bw.prog) (w:=w) (base:=base) (k:=0) D4 Ar;have Gi:=NW (P:=Bw.prog) (w:=w) (base:=base) (k:=0) Ek;have bp:=NY El D4 Cb Ek ((Vw FP).mono (by decide)) (cG.mono (by decide)) ((Uh Gi).mono (by decide)) BR Ar;have Bs:=JF (P:=Bw.prog) (w:=w) (base:=base) (k:=0) Ba EM BX 9;have Cz:=Hb (P:=Bw.prog) (w:=w) (base:=base) (k:=10) Bj Ba (Bs.mono (by decide)) Ar BR 9;have Gb:=NV (P:=Bw.prog) (w:=w) (base:=base) (k:=20) Ed Bj (Cz.mono (by decide)) BR Q4 EM;have Ia:=Pq (P:=Bw.prog) (w:=w) (base:=base) (k:=1) GH Bb (B7.mono (by decide));have IG:=Py (P:=Bw.prog) (w:=w) (base:=base) (k:=1) F7 Bb (B7.mono (by decide));have D6:=JH (P:=Bw.prog) (w:=w) (base:=base) (k:=0) B9 Ar 9;have Gg:=Nf (P:=Bw.prog) (w:=w) (base:=base) (k:=0) Ez BR;have HH:=Ny (P:=Bw.prog) (w:=w) (base:=base) (k:=0) FT;have D8:=Mn (P:=Bw.prog) (w:=w) (base:=base) (k:=10) Cw GH (Ia.mono (by decide)) B9 (D6.mono (by decide)) F7 (IG.mono (by decide)) Ez (Gg.mono (by decide)) FT (HH.mono (by decide)) Ar BR;have JO:=Q5 (P:=Bw.prog) (w:=w) (base:=base) (k:=0) Gu Hj Jy Aa Ar BX;have cc:=MP (P:=Bw.prog) (w:=w) (base:=base) EC Cc;exact W8 hK Zm El Ed EC Ck Gu Cw (bp.mono (by decide)) (Gb.mono (by decide)) (cc.mono (by decide)) (Dk.mono (by decide)) (JO.mono (by decide)) (D8.mono (by decide)) Cc
def walkX:WalkO qX [] (XL qX []) hX.says Bw.row.toRowW dX [] (fun f vs=>PySem.call f vs) :=
 L2.WD (l:=Bw) (n:=63) (k:=22) (x := "_law_script") (CX:=fun _=>Ad) (K:=kH) (sp:=fun w=>Qu (kH w.params)) rfl (by decide) rfl ⟨rfl,by decide,by decide⟩ (fun w h Y=>kIn_of Y) cQ (fun _ _ a ns hl _ hS=>⟨a,ns,rfl,hS,hl,fun _=>rfl⟩) fun _ _ _ _ _ z=>z
end
end Q39
open PySem PySem.W PyProof.Rows
set_option maxRecDepth 100000 in
theorem PySem.Challenge.cw_stepgrove_k39_tree_weights_holds : PySem.Challenge.rw_stepgrove_k39_tree_weights.Holds := by
  refine Q39.openX ?hw Q39.walkX
  w_witness2
#print axioms PySem.Challenge.cw_stepgrove_k39_tree_weights_holds
