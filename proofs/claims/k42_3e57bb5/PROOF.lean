import PyProof.Rows.All
import Wide.All
import OpenK.AllK
import Wide.FinOn
import Lean
import PyProof.EqAt
import PyProof.EqKinds
import PyProof.TupleCall
import PySem.Challenge.RW_stepgrove_k42_no_tables_no_trees
set_option Elab.async false
set_option linter.all false
set_option maxRecDepth 100000
abbrev MD:=List PySem.PyData→Option PySem.PyData
abbrev Fg:=PySem.W.Frag
abbrev Wb:=@PySem.wpAny_bind
abbrev PD:=PySem.PyData
abbrev SD:=PySem.Shared
abbrev VL:=PySem.Value
abbrev AD:=PySem.Addr
abbrev aA:=@PySem.wpAny_pure
abbrev aB:=@Option.bind_eq_some_iff
abbrev aC:=@List.getElem?_eq_some_iff
abbrev aD:=@PySem.Heap.get?_push_of_some
abbrev aE:=@Option.map_eq_some_iff
abbrev aF:=@PySem.Heap.lt_size
abbrev aG:=@Nat.le_refl
abbrev aH:=@Nat.ne_of_lt
abbrev aI:=@PySem.Heap.get?_push_size
abbrev aJ:=@List.mem_cons
abbrev aK:=@Bool.false_ne_true
abbrev aL:=@List.getElem?_eq_getElem
abbrev aM:=@Nat.lt_of_lt_of_le
abbrev aN:=@PySem.PassesOwn.never
abbrev aO:=@List.mem_cons_of_mem
abbrev aP:=@List.mem_of_getElem?
abbrev aQ:=@Nat.le_trans
abbrev aR:=@List.mem_cons_self
abbrev aS:=@PySem.wpAny_holding
abbrev aT:=@of_decide_eq_true
abbrev aU:=@PySem.wpAny_mono
abbrev aV:=@PySem.F.plainAttrs_list
abbrev aW:=@PySem.wpAny_call_entry
abbrev aX:=@PySem.wpAny_seqItems
abbrev aY:=@Bool.eq_false_iff
abbrev aZ:=@List.mem_map
abbrev aa:=@List.all_eq_true
abbrev ae:=@Nat.not_lt_zero
abbrev af:=@PySem.wpAny_field
abbrev ag:=@PySem.wpAny_callSpecial?_slot
abbrev ah:=@List.mem_append_right
abbrev ai:=@PySem.Heap.SameBut.update
abbrev aj:=@PySem.boot_len
abbrev ak:=@PySem.wpAny_setField_rec
abbrev ao:=@Option.some.inj
abbrev aq:=@PyProof.Rows.boot_isinstance
abbrev ar:=@PySem.F.slot_list_append
abbrev au:=@PySem.F.type_list_append
abbrev av:=@PySem.wpAny_newObj_type
abbrev ay:=@Nat.lt_of_le_of_lt
abbrev az:=@PyProof.Rows.callWith_type1
abbrev bA:=@PyProof.Rows.boot_tuple
abbrev bC:=@decide_eq_false
abbrev bD:=@PySem.W.kia_one
abbrev bE:=@Nat.zero_le
abbrev bF:=@Nat.mul_le_mul_left
abbrev bG:=@Nat.lt_succ_of_lt
abbrev bH:=@PySem.wpAny_setState_of
abbrev bI:=@of_decide_eq_false
abbrev bJ:=@congrArg
abbrev bK:=@List.getElem?_of_mem
abbrev bL:=@List.mem_range
abbrev bM:=@List.eq_nil_of_length_eq_zero
abbrev bN:=@Nat.le_of_lt
abbrev bO:=@PySem.wpAny_onRaise
abbrev bP:=@Nat.pow_le_pow_right
abbrev bQ:=@decide_eq_true
abbrev bR:=@List.mem_append
abbrev bS:=@Int.fmod_nonneg_of_pos
abbrev bT:=@PySem.wpAny_rule
abbrev bU:=@Nat.lt_succ_self
abbrev bV:=@PyProof.Rows.KeyOrd.kle_refl
abbrev bW:=@Nat.ne_of_gt
abbrev bX:=@PySem.F.slot_zip_next
abbrev bY:=@List.length_map
abbrev bZ:=@List.getElem_mem
namespace L2
open PySem PySem.Spec PyProof.Rows
abbrev Key:=Sum Int Str
def cF:Key→VL→Bool
 |.inl k,v=>Value.isInt k v
 |.inr x,v=>Value.isStrOf x v
def ng(w:World):Key→Int
 |.inl k=>hashInt k
 |.inr x=>hashStr w x
def Cz:∀ {k:Key} {v:VL},cF k v=true→(∃i t,k=Sum.inl i∧v=Value.int i t)∨(∃x t,k=Sum.inr x∧v=Value.str x t)
 |.inl i,v,h=>by
  obtain⟨t,e⟩:=Value.isInt_shape (k:=i) (v:=v) h;exact .inl ⟨i,t,rfl,e⟩
 |.inr x,v,h=>by
  obtain⟨t,e⟩:=Value.isStrOf_shape (x:=x) (v:=v) h;exact .inr ⟨x,t,rfl,e⟩
def gZ(a b:Int):decide ((Sum.inl a:Key)=Sum.inl b)=(a==b):=by
 by_cases e:a=b
 ·subst e;simp
 ·have h:¬(Sum.inl a:Key)=Sum.inl b:=fun q=>e (Sum.inl.inj q);rw[decide_eq_false h];exact(beq_eq_false_iff_ne.mpr e).symm
def j0(a b:Str):decide ((Sum.inr a:Key)=Sum.inr b)=decide (a=b):=by
 by_cases e:a=b
 ·subst e;simp
 ·have h:¬(Sum.inr a:Key)=Sum.inr b:=fun q=>e (Sum.inr.inj q);rw[decide_eq_false h,decide_eq_false e]
def iG(a:Int)(b:Str):decide ((Sum.inl a:Key)=Sum.inr b)=false:=bC (fun q=>nomatch q)
def fY(a:Str)(b:Int):decide ((Sum.inr a:Key)=Sum.inl b)=false:=bC (fun q=>nomatch q)
def Vn(prog:Program)(w:World):PySem.KeyKind prog w Key where
 is:=cF
 hash:=ng w
 inj:=fun v a b ha hb=>by
  rcases Cz ha with ⟨i,t,rfl,rfl⟩|⟨x,t,rfl,rfl⟩
  ·rcases Cz hb with ⟨j,u,rfl,e⟩|⟨y,u,rfl,e⟩
   ·injection e with e1 _;rw[e1]
   ·exact nomatch e
  ·rcases Cz hb with ⟨j,u,rfl,e⟩|⟨y,u,rfl,e⟩
   ·exact nomatch e
   ·injection e with e1 _;rw[e1]
 byValue:=fun k v h=>by
  rcases Cz h with ⟨i,t,rfl,rfl⟩|⟨x,t,rfl,rfl⟩<;>rfl
 pyHash:=fun hv h=>by
  rcases Cz hv with ⟨i,t,rfl,rfl⟩|⟨x,t,rfl,rfl⟩
  ·exact wpAny_pyHash_int h
  ·exact wpAny_pyHash_str h
 eqBool:=fun hu hv h=>by
  rcases Cz hu with ⟨i,t,rfl,rfl⟩|⟨x,t,rfl,rfl⟩
  ·rcases Cz hv with ⟨j,u,rfl,rfl⟩|⟨y,u,rfl,rfl⟩
   ·rw[gZ]at h;exact wpAny_eqBool_int h
   ·rw[iG]at h;exact SeqAt.EqAt.int_str i t y u _ _ _ _ h
  ·rcases Cz hv with ⟨j,u,rfl,rfl⟩|⟨y,u,rfl,rfl⟩
   ·rw[fY]at h;exact SeqAt.EqAt.str_int x t j u _ _ _ _ h
   ·rw[j0]at h;exact wpAny_eqBool_str h
 «strs»:=fun k x t v h=>by
  rcases Cz h with ⟨i,u,rfl,e⟩|⟨y,u,rfl,e⟩
  ·exact nomatch e
  ·injection e with e1 _
   subst e1;cases v<;>rfl
inductive V where
 |BF|bl (b:Bool)|int (i:Int)|str (x:Str)|NH (b:Array UInt8)|Vq (b:UInt64)|ref (a:Addr)|ty (n:String)
 deriving DecidableEq
def RelV:V→VL→Prop
 |.BF,u=>u=Value.none
 |.bl b,u=>u=Value.bool b
 |.int i,u=>∃t,u=Value.int i t
 |.str x,u=>∃t,u=Value.str x t
 |.NH b,u=>∃t,u=Value.bytes b t
 |.Vq b,u=>∃t,u=Value.float b t
 |.ref a,u=>u=Value.ref a
 |.ty n,u=>u=Value.type n
abbrev Vals:List V→List VL→Prop:=Paired RelV
def Vals.length{xs:List V}{us:List VL}(r:Vals xs us):xs.length=us.length:=Paired.length r
def Vals.get:∀ {xs:List V} {us:List VL} {i:Nat} {x:V},Vals xs us→xs[i]? = some x→∃u,us[i]? = some u∧RelV x u
 |_,_,_,_,.nil,e=>by simp at e
 |_,_,0,_,.cons r _,e=>by simp at e;subst e;exact⟨_,rfl,r⟩
 |_,_,i+1,x,.cons _ t,e=>by
  obtain⟨u,h1,h2⟩:=Vals.get (i:=i) (x:=x) t (by simpa using e);exact⟨u,by simpa using h1,h2⟩
def Vals.set{x:V}{u:VL}(r:RelV x u):∀ {xs:List V} {us:List VL} (i:Nat),Vals xs us→Vals (xs.set i x) (us.set i u)
 |_,_,_,.nil=>.nil
 |_,_,0,.cons _ t=>.cons r t
 |_,_,i+1,.cons q t=>.cons q (Vals.set r i t)
def Vals.append:∀ {xs ys:List V} {us ws:List VL},Vals xs us→Vals ys ws→Vals (xs++ys) (us++ws)
 |_,_,_,_,.nil,s=>s
 |_,_,_,_,.cons r t,s=>.cons r (Vals.append t s)
def Vals.take:∀ {xs:List V} {us:List VL} (n:Nat),Vals xs us→Vals (xs.take n) (us.take n)
 |_,_,0,_=>.nil
 |_,_,_+1,.nil=>.nil
 |_,_,n+1,.cons r t=>.cons r (Vals.take n t)
def Vals.drop:∀ {xs:List V} {us:List VL} (n:Nat),Vals xs us→Vals (xs.drop n) (us.drop n)
 |_,_,0,r=>r
 |_,_,_+1,.nil=>.nil
 |_,_,n+1,.cons _ t=>Vals.drop n t
def bo:Option V→Option VL→Prop
 |some v,some u=>RelV v u
 |none,none=>True
 |_,_=>False
def KV{κ:Type}:List (κ×V)→List (κ×VL)→Prop:=Paired fun(p:κ×V) (q:κ×VL)=>p.1=q.1∧RelV p.2 q.2
def kV:Key→V
 |.inl i=>.int i
 |.inr x=>.str x
inductive HO where
 |lst (xs:List V)
 |tup (xs:List V)
 |dK (kvs:List (Key×V))|dT (kvs:List (List Key×V))
 |set (S:Int→Bool) (n:Nat)
 |ins (C dx:Addr) (fs:List (Str×V))
 |own (x:Addr)
 |xd (fs:List (Str×V))
 |met (f x:Addr)
 |cP (lo hi:Int)
 |FN (o:Obj) (u:HO)
 |Nx (ps:Array Value)
 |ext (φ:Heap→Prop)
abbrev Hp:=AD→Option HO
def upd(H:Hp)(a:AD)(o:HO):Hp:=fun b=>if b=a then some o else H b
def AI{H:Hp}{a:AD}{o:HO}:upd H a o a=some o:=by unfold upd;rw[if_pos rfl]
def AJ{H:Hp}{a b:AD}{o:HO}(h:b≠a):upd H a o b=H b:=by unfold upd;rw[if_neg h]
def Wd{H:Hp}{a b:AD}{o u:HO}(h:H a=some o)(h':H b=some u)(d:o≠u):a≠b:=by
 intro e;subst e;rw[h]at h';exact d (ao h')
def AU{H:Hp}{a b:AD}{o:HO}(h:H a=some o)(h':H b=none):a≠b:=by
 intro e;subst e;rw[h]at h';cases h'
section
variable(P:Program)(w:World)
def CU(H:Hp)(h:Heap)(a:AD):HO→Prop
 |.lst xs=>xs.length≤sizeLine∧∃(its:List VL) (n:Nat),Vals xs its∧h.get? a=some { cls:=.type "list",data:=.seq its.toArray n}
 |.tup xs=>xs.length≤sizeLine∧∃its:List VL,Vals xs its∧IsTup h a its.toArray
 |.dK kvs=>kvs.length≤sizeLine∧(a==sysModules)=false∧∃vs,KV kvs vs∧h.DictOf (Vn P w) a vs
 |.dT kvs=>kvs.length≤sizeLine∧(a==sysModules)=false∧∃xs:List (List Key×AD×VL),
   Paired (fun(p:List Key×V) (q:List Key×AD×VL)=>p.1=q.1∧H q.2.1=some (.tup (p.1.map kV))∧RelV p.2 q.2.2) kvs xs ∧
   ∃o es ep,h.get? a=some o∧o.ExactDict∧o.data=.dict es ep∧es.toList=xs.map (entryOfKey (tupleKind (Vn P w)))∧(xs.map (·.1)).Nodup
 |.set S n=>h.SetOf (intKind P w) a S n
 |.ins C dx fs=>H dx=some (.own a)∧fs.length≤1000∧dx≠a∧h.get? a=some (PySem.W.instObj C dx) ∧
   ∃mA,h.Ns1 dx mA∧(∀f,bo (fs.lookup f) (mA f))∧PySem.Within mA (fs.map (·.1))
 |.own _=>∃o,h.get? a=some o
 |.xd fs=>∃mA,h.Ns1 a mA∧∀f,bo (fs.lookup f) (mA f)
 |.cP lo hi=>∃t u v,h.get? a=some { cls:=.type "range",data:=.fields #[.int lo t,.int hi u,.int 1 v]}
 |.FN o u=>h.get? a=some o∧CU H h a u
 |.Nx ps=>h.get? a=some { cls:=.none,data:=.fields ps}
 |.met f x=>h.get? a=some (PySem.W.methodObj (.ref f) (.ref x))
 |.ext φ=>φ h∧(∃o,h.get? a=some o)∧∀h1 h2:Heap,φ h1→(∀o,h1.get? a=some o→h2.get? a=some o)→φ h2
def EG(H:Hp)(h:Heap):Prop:=∀a o,H a=some o→CU P w H h a o
end
section
variable{P:Program}{w:World}{H H':Hp}{h h':Heap}{a:AD}{o:HO}
def CU.lt(x:CU P w H h a o):a<h.objs.size:=by
 cases o with
 |lst xs=>obtain⟨_,_,_,_,e⟩:=x;exact aF e
 |tup xs=>obtain⟨_,_,_,p⟩:=x;exact p.lt
 |dK kvs=>obtain⟨_,_,_,_,o,_,_,e,_⟩:=x;exact aF e
 |dT kvs=>obtain⟨_,_,_,_,o,_,_,e,_⟩:=x;exact aF e
 |set S n=>obtain⟨o,_,_,_,e,_⟩:=x;exact aF e
 |ins C dx fs=>obtain⟨_,_,_,e,_⟩:=x;exact aF e
 |own y=>obtain⟨_,e⟩:=x;exact aF e
 |xd fs=>obtain⟨_,⟨_,_,_,e,_⟩,_⟩:=x;exact aF e
 |cP lo hi=>obtain⟨_,_,_,e⟩:=x;exact aF e
 |FN ob u=>obtain⟨e,_⟩:=x;exact aF e
 |Nx ps=>exact aF (show h.get? a=some _ from x)
 |met f y=>exact aF (show h.get? a=some _ from x)
 |ext φ=>obtain⟨_,⟨_,e⟩,_⟩:=x;exact aF e
def Paired.jO{α β:Type}{F G:α→β→Prop}:∀ {l₁:List α} {l₂:List β},Paired F l₁ l₂→(∀a b,F a b→G a b)→Paired G l₁ l₂
 |_,_,.nil,_=>.nil
 |_,_,.cons r t,f=>.cons (f _ _ r) (Paired.jO t f)
def CU.Ge(x:CU P w H h a o)(k:∀b u,(b=a∨H b=some (.own a))→h.get? b=some u→h'.get? b=some u)
 (ho:∀b,H b=some (.own a)→H' b=some (.own a))(ht:∀b xs,H b=some (.tup xs)→H' b=some (.tup xs)):CU P w H' h' a o:=by
 induction o with
 |lst xs=>obtain⟨z,its,n,r,e⟩:=x;exact⟨z,its,n,r,k _ _ (.inl rfl) e⟩
 |tup xs=>obtain⟨z,its,r,ob,e,c⟩:=x;exact⟨z,its,r,ob,k _ _ (.inl rfl) e,c⟩
 |dK kvs=>obtain⟨z,y,vs,r,ob,es,ep,e,c⟩:=x;exact⟨z,y,vs,r,ob,es,ep,k _ _ (.inl rfl) e,c⟩
 |dT kvs =>
  obtain⟨z,y,xs,r,ob,es,ep,e,c⟩:=x;exact⟨z,y,xs,Paired.jO r fun p q z=>⟨z.1,ht _ _ z.2.1,z.2.2⟩,ob,es,ep,k _ _ (.inl rfl) e,c⟩
 |set S n=>obtain⟨ob,es,ep,t,e,c⟩:=x;exact⟨ob,es,ep,t,k _ _ (.inl rfl) e,c⟩
 |ins C dx fs =>
  obtain⟨d,z,ne,e,mA,⟨od,es,ep,e2,c⟩,r⟩:=x;exact⟨ho _ d,z,ne,k _ _ (.inl rfl) e,mA,⟨od,es,ep,k _ _ (.inr d) e2,c⟩,r⟩
 |own y=>obtain⟨ob,e⟩:=x;exact⟨ob,k _ _ (.inl rfl) e⟩
 |xd fs=>obtain⟨mA,⟨od,es,ep,e,c⟩,r⟩:=x;exact⟨mA,⟨od,es,ep,k _ _ (.inl rfl) e,c⟩,r⟩
 |cP lo hi=>obtain⟨t,u,v,e⟩:=x;exact⟨t,u,v,k _ _ (.inl rfl) e⟩
 |FN ob u ih=>obtain⟨e,q⟩:=x;exact⟨k _ _ (.inl rfl) e,ih q⟩
 |Nx ps =>
  have e:h.get? a=some { cls:=.none,data:=.fields ps}:=x;show h'.get? a=some { cls:=.none,data:=.fields ps};exact k a _ (.inl rfl) e
 |met f y =>
  have e:h.get? a=some (PySem.W.methodObj (.ref f) (.ref y)):=x;show h'.get? a=some (PySem.W.methodObj (.ref f) (.ref y));exact k a _ (.inl rfl) e
 |ext φ=>obtain⟨p,⟨o,e⟩,st⟩:=x;exact⟨st _ _ p fun o q=>k _ _ (.inl rfl) q,⟨o,k _ _ (.inl rfl) e⟩,st⟩
def EG.lt(x:EG P w H h)(e:H a=some o):a<h.objs.size:=(x a o e).lt
def EG.fresh(x:EG P w H h)(e:h.objs.size≤a):H a=none:=by
 cases q:H a with
 |none=>rfl
 |some u=>exact absurd (aM (x.lt q) e) (Nat.lt_irrefl _)
def EG.kept(x:EG P w H h)(k:∀b u,h.get? b=some u→h'.get? b=some u):EG P w H h':=fun a o e =>
 (x a o e).Ge (fun b u _ q=>k b u q) (fun _ q=>q) fun _ _ q=>q
def EG.laid(x:EG P w H h)(k:∀b u,h.get? b=some u→h'.get? b=some u)(hp:h.objs.size≤a)(new:CU P w (upd H a o) h' a o):EG P w (upd H a o) h':=fun b u e=>by
 have hn:=x.fresh hp;by_cases hb:b=a
 ·subst hb;rw[AI]at e;cases e;exact new
 ·rw[AJ hb]at e;exact(x b u e).Ge (fun c v _ q=>k c v q) (fun c q=>by rw[AJ (AU q hn)];exact q) fun c xs q=>by rw[AJ (AU q hn)];exact q
end
def Rd(H:Hp)(a:AD)(u:HO):Prop:=H a=some u∨∃o,H a=some (.FN o u)
def Rd.ok{P:Program}{w:World}{H:Hp}{h:Heap}{a:AD}{u:HO}(r:Rd H a u)(x:EG P w H h):CU P w H h a u:=by
 rcases r with r|⟨o,r⟩
 ·exact x a u r
 ·obtain⟨_,q⟩:=x a _ r;exact q
def cY:Option HO→Prop
 |some (.lst _)=>True
 |some (.dK _)=>True
 |some (.dT _)=>True
 |some (.set _ _)=>True
 |some (.ins _ _ _)=>True
 |some (.ext _)=>True
 |_=>False
section
variable{P:Program}{w:World}{H:Hp}{h h':Heap}{x e:AD}{o':HO}
def EG.write(ok:EG P w H h)(mu:cY (H x))(he:e=x∨H e=some (.own x))(k:∀b u,b≠e→h.get? b=some u→h'.get? b=some u)(heo:∃u,h'.get? e=some u)
 (new:CU P w (upd H x o') h' x o'):EG P w (upd H x o') h':=fun b u q=>by
 have nown:∀c y,H c=some (.own y)→c≠x:=fun c y r z=>by subst z;rw[r]at mu;exact mu
 have SS:∀c xs,H c=some (.tup xs)→c≠x:=fun c xs r z=>by subst z;rw[r]at mu;exact mu
 by_cases hb:b=x
 ·subst hb;rw[AI]at q;cases q;exact new
 ·rw[AJ hb]at q;by_cases hbe:b=e
  ·have q':H b=some (.own x):=by
    rcases he with z|z
    ·exact absurd (hbe.trans z) hb
    ·rw[hbe];exact z
   rw[q]at q';cases q';obtain⟨v,hv⟩:=heo;exact⟨v,by rw[hbe];exact hv⟩
  ·refine(ok b u q).Ge (fun c v hc r=>k c v ?_ r) (fun c r=>by rw[AJ (nown c b r)];exact r) fun c xs r=>by rw[AJ (SS c xs r)];exact r
   rcases hc with rfl|hc
   ·exact hbe
   ·rintro rfl;rcases he with z|z
    ·exact nown c b hc z
    ·rw[hc]at z;cases z;exact hb rfl
end
structure Un(fs ex:List Addr)(H H':Hp)(h h':Heap):Prop where
 keep:∀b o,h.get? b=some o→H b=none→b ∉ fs→b ∉ ex→h'.get? b=some o
 slot:∀b o,h.get? b=some o→H b=none→b∈fs→b ∉ ex→∃sl,h'.get? b=some {o with slots:=sl}
 free:∀b o,h.get? b=some o→H b=none→b ∉ ex→H' b=none
 there:∀b o,h.get? b=some o→b ∉ ex→∃o',h'.get? b=some o'
 A6:∀b xs,H b=some (.tup xs)→H' b=some (.tup xs)
 FT:∀b o u,H b=some (.FN o u)→H' b=some (.FN o u)
 F5:∀b ps,H b=some (.Nx ps)→∃more,H' b=some (.Nx (ps++more))
section
variable{fs fs' ex ex':List AD}{H H1 H2:Hp}{h h1 h2 h':Heap}{a x e:AD}{o:HO}
def Un.any(u:Un fs ex H H1 h h1){b:AD}{ob:Obj}(q:h.get? b=some ob)(n:H b=none)(hx:b ∉ ex):∃sl,h1.get? b=some {ob with slots:=sl}:=by
 by_cases hb:b∈fs
 ·exact u.slot b ob q n hb hx
 ·exact⟨ob.slots,u.keep b ob q n hb hx⟩
def Un.kept(k:∀b u,h.get? b=some u→h'.get? b=some u):Un fs ex H H h h' :=
 ⟨fun b ob q _ _ _=>k b ob q,fun b ob q _ _ _=>⟨ob.slots,k b ob q⟩,fun _ _ _ n _=>n,fun b ob q _=>⟨ob,k b ob q⟩,fun _ _ q=>q,fun _ _ _ q=>q,fun _ ps q=>⟨#[],by rw[q];simp⟩⟩
def Un.refl:Un fs ex H H h h:=Un.kept fun _ _ q=>q
def Un.laid(k:∀b u,h.get? b=some u→h'.get? b=some u)(hp:h.objs.size≤a)(hn:H a=none):Un fs ex H (upd H a o) h h' where
 keep:=fun b u q _ _ _=>k b u q
 slot:=fun b u q _ _ _=>⟨u.slots,k b u q⟩
 free:=fun b u q n _=>by rw[AJ (aH (aM (aF q) hp))];exact n
 there:=fun b u q _=>⟨u,k b u q⟩
 A6:=fun b xs q=>by rw[AJ (AU q hn)];exact q
 FT:=fun b u xs q=>by rw[AJ (AU q hn)];exact q
 F5:=fun b ps q=>⟨#[],by rw[AJ (AU q hn),q];simp⟩
def Un.write(mu:cY (H x))(he:e=x∨H e=some (.own x))(k:∀b u,b≠e→h.get? b=some u→h'.get? b=some u)(heo:∃u,h'.get? e=some u):Un fs ex H (upd H x o) h h':=by
 have hx:∀b,H b=none→b≠x:=fun b n z=>by subst z;rw[n]at mu;exact mu
 have hb:∀b,H b=none→b≠e:=fun b n z=>by
  subst z;rcases he with r|r
  ·exact hx b n r
  ·rw[n]at r;cases r
 have hm:∀b u,H b=some u→¬cY (some u)→b≠x:=fun b u q nm z=>by subst z;rw[q]at mu;exact nm mu
 refine⟨fun b u q n _ _=>k b u (hb b n) q,fun b u q n _ _=>⟨u.slots,k b u (hb b n) q⟩,fun b u q n _=>by rw[AJ (hx b n)];exact n,fun b u q _=>?_,
  fun b xs q=>by rw[AJ (hm b _ q fun z=>z)];exact q,fun b u xs q=>by rw[AJ (hm b _ q fun z=>z)];exact q,fun b ps q=>⟨#[],by rw[AJ (hm b _ q fun z=>z),q];simp⟩⟩
 by_cases hbe:b=e
 ·subst hbe;exact heo
 ·exact⟨u,k b u hbe q⟩
end
def Eg(h:Heap)(H:Hp):List AD:=(List.range h.objs.size).filter fun a=>(H a).isSome
def MG(h:Heap)(H:Hp):Heap:=PySem.W.hideAll h (Eg h H)
def YD(h:Heap)(H:Hp):(MG h H).objs.size=h.objs.size:=PySem.W.hideAll_size _ _
def Zi{h:Heap}{H:Hp}{b:AD}{o:Obj}(e:h.get? b=some o)(n:H b=none):(MG h H).get? b=some o :=
 PySem.W.hideAll_get _ e fun hm=>by
  have q:(H b).isSome=true:=(List.mem_filter.mp hm).2;rw[n]at q;simp at q
def ef{h:Heap}{H:Hp}{b:AD}{o:Obj}(e:(MG h H).get? b=some o):h.get? b=some o∧H b=none:=by
 have e':h.get? b=some o:=PySem.W.of_hideAll (Eg h H) e;refine⟨e',?_⟩;cases q:H b with
 |none=>rfl
 |some x =>
  have hm:b∈Eg h H:=List.mem_filter.mpr ⟨bL.mpr (aF e'),by simp[q]⟩;have z:(MG h H).get? b=none:=PySem.W.hideAll_none (Eg h H) hm;rw[z]at e;cases e
structure Mod(K:Fg)(mg:Str→Option Value)(base:Heap):Prop where
 Nr:K.In base
 glob:base.Ns mainGlobals mg
 blt:∃mb,base.Ns builtinsNs mb∧∀x:Str,x ≠ "__name__" → mb x=bootBuiltins x
 nolimit:base.NoLimit
structure Cx where
 prog:Program
 w:World
 K:Fg
 mg:Str→Option Value
 base:Heap
 A:Around
 N:List Str
 s₀:Shared
 H₀:Hp
 env:Env
 outer:List Env
 stack:List Env
 ex:List Addr
 fn:Str→Bool
 calm:Bool
 pn:List (Addr×Obj)
 xe:Value→Shared→Prop
def FJ(l:List Env):List AD:=l.filterMap (·.frame)
abbrev Cx.fs(X:Cx):List AD:=FJ X.outer
def gg(sc:Scope)(x:Str):Prop:=sc.names.lookup x=some .local∨sc.names.lookup x=some .cell∨sc.names.lookup x=some .free
def Loc(sc:Scope)(x:Str):Prop:=sc.names.lookup x=some .local∨sc.names.lookup x=some .cell
def Look(env:Env)(h:Heap)(m:Str→Option VL)(x:Str)(u:VL):Prop :=
 (env.kindOf x=some .local∧m x=some u)∨((env.kindOf x=some .cell∨env.kindOf x=some .free)∧∃c,env.cells.lookup x=some c∧h.IsCell c (some u))
structure Cx.Ok(X:Cx):Prop where
 mod:Mod X.K X.mg X.base
 kind:X.env.scope.kind=.function
 glob:X.env.globals=mainGlobals
 blt:X.env.builtins=builtinsNs
 above:X.s₀.heap.objs.size≤X.env.locals
 inj:∀x y c,X.env.cells.lookup x=some c→X.env.cells.lookup y=some c→x=y
 has:∀x,(X.env.kindOf x=some .cell∨X.env.kindOf x=some .free)→∃c,X.env.cells.lookup x=some c
 VF:∀x c,X.fn x=true→X.env.cells.lookup x=some c→X.s₀.heap.objs.size≤c
 hd:X.calm=true→X.A.handled=none
 frames:X.A.frames=some X.stack
 Ye:X.stack=X.outer∨(X.stack=X.env::X.outer∧X.env.frame=some X.env.locals)
 jc:∀b∈X.ex,b≠X.env.locals∧∀x c,X.env.cells.lookup x=some c→c≠b
 bs:∀b o,X.base.get? b=some o→X.s₀.heap.get? b=some o∧X.H₀ b=none
 QB:X.base.objs.size≤X.s₀.heap.objs.size
 QZ:∀b o,X.base.get? b=some o→b ∉ X.ex
 QO:∀b∈X.ex,b ∉ X.fs
 HQ:X.s₀.heap.FunFrames X.base X.outer
 O6:∀b∈X.fs,X.H₀ b=none
structure Inv(X:Cx)(pins:List (Addr×Obj))(σ:List (Option V))(H:Hp)(s:Shared):Prop where
 ok:X.Ok
 os:s.os=X.s₀.os
 bare:AllBare s.gens
 base:Un X.fs X.ex X.H₀ H X.s₀.heap s.heap
 loc:∃m,s.heap.Ns X.env.locals m∧∀(i:Nat) (x:Str) (v:V),X.N[i]? = some x→σ[i]? = some (some v)→gg X.env.scope x→∃u,RelV v u∧Look X.env s.heap m x u
 cell:∀x c,X.env.cells.lookup x=some c→∃v,s.heap.IsCell c v
 free:H X.env.locals=none
 FI:∀x c,X.env.cells.lookup x=some c→H c=none
 pin:∀p∈X.pn++pins,s.heap.get? p.1=some p.2∧H p.1=none∧p.1≠X.env.locals∧p.1 ∉ X.fs∧∀v,p.2.data≠.cell v
 Ap:EG X.prog X.w H s.heap
 len:σ.length=X.N.length
section
variable{X:Cx}{pins:List (AD×Obj)}{σ:List (Option V)}{H H':Hp}{s:SD}{h':Heap}
def Cx.Ok.nq(ok:X.Ok){b:AD}{o:Obj}(e:X.base.get? b=some o):b ∉ X.fs:=fun hb=>by
 have:=(ok.HQ.mem hb).1;rw[e]at this;cases this
def Inv.bs(I:Inv X pins σ H s):∀b o,X.base.get? b=some o→s.heap.get? b=some o∧H b=none:=fun b o e =>
 ⟨I.base.keep b o (I.ok.bs b o e).1 (I.ok.bs b o e).2 (I.ok.nq e) (I.ok.QZ b o e),I.base.free b o (I.ok.bs b o e).1 (I.ok.bs b o e).2 (I.ok.QZ b o e)⟩
def Inv.bk(I:Inv X pins σ H s):∀b o,X.base.get? b=some o→s.heap.get? b=some o:=fun b o e=>(I.bs b o e).1
def Inv.mod(I:Inv X pins σ H s):Mod X.K X.mg X.base:=I.ok.mod
def Inv.F0(I:Inv X pins σ H s):X.K.In s.heap:=I.ok.mod.Nr.keeps I.bk
def Inv.lt(I:Inv X pins σ H s):X.env.locals<s.heap.objs.size:=let⟨_,hn,_⟩:=I.loc;hn.lt
def Inv.sz(I:Inv X pins σ H s):X.s₀.heap.objs.size≤s.heap.objs.size:=aQ I.ok.above (bN I.lt)
def Inv.mf(I:Inv X pins σ H s){a:AD}(h:s.heap.objs.size≤a):a ∉ X.fs:=fun hb=>by
 obtain⟨_,o,ho,_⟩:=I.ok.HQ.mem hb;exact absurd (aM (aF ho) (aQ I.sz h)) (Nat.lt_irrefl _)
def Inv.Pl(I:Inv X pins σ H s):∀x c,X.env.cells.lookup x=some c→c≠X.env.locals:=fun x c e z=>by
 obtain⟨v,o,ho,hd⟩:=I.cell x c e;obtain⟨m,⟨o',es,ep,ho',hd',_⟩,_⟩:=I.loc;rw[z,ho']at ho;cases ho;rw[hd']at hd;cases hd
def Inv.HQ(I:Inv X pins σ H s):s.heap.FunFrames X.base X.outer:=by
 have all:∀(l:List Env),(∀b∈FJ l,b∈X.fs)→X.s₀.heap.FunFrames X.base l→s.heap.FunFrames X.base l:=by
  intro l
  induction l with
  |nil=>intro _ _;trivial
  |cons env r ih =>
   intro hs hl;obtain⟨hk,⟨L,o,hf,hn,ho,hd⟩,hr⟩:=hl;have hL:L∈X.fs:=hs L (by unfold FJ;rw[List.filterMap_cons,hf];exact aR);obtain⟨sl,e⟩:=I.base.slot L o ho (I.ok.O6 L hL) hL fun z=>I.ok.QO L z hL;exact⟨hk,⟨L,_,hf,hn,e,hd⟩,ih (fun b hb=>hs b (by unfold FJ;rw[List.filterMap_cons,hf];exact aO _ hb)) hr⟩
 exact all X.outer (fun _ hb=>hb) I.ok.HQ
def Inv.stack(I:Inv X pins σ H s):s.heap.FunFrames X.base X.stack:=by
 rcases I.ok.Ye with e|⟨e,hf⟩
 ·rw[e];exact I.HQ
 ·rw[e];obtain⟨m,hn,_⟩:=I.loc;refine .cons (by rw[I.ok.kind];decide) hf hn ?_ I.HQ;exact Heap.get?_none_of_le (aQ I.ok.QB I.ok.above)
def Inv.NG(I:Inv X pins σ H s):∀b∈FJ X.stack,b∈X.env.locals::X.fs:=fun b hb=>by
 rcases I.ok.Ye with e|⟨e,hf⟩
 ·rw[e]at hb;exact aO _ hb
 ·rw[e]at hb;unfold FJ at hb;rw[List.filterMap_cons,hf]at hb;exact hb
def Inv.QV(I:Inv X pins σ H s):∀b∈FJ X.stack,H b=none:=fun b hb=>by
 rcases aJ.mp (I.NG b hb) with e|hb
 ·rw[e];exact I.free
 ·obtain⟨_,o,ho,_⟩:=I.ok.HQ.mem hb;exact I.base.free b o ho (I.ok.O6 b hb) fun z=>I.ok.QO b z hb
def Inv.step{g':Array GenState}{t':Nat}{d':Drawn}{ch:List AD}(I:Inv X pins σ H s)
 (hch:∀b∈ch,(b∈X.ex∨X.s₀.heap.objs.size≤b)∧b≠X.env.locals∧(∀x c,X.env.cells.lookup x=some c→c≠b)∧∀p∈X.pn++pins,p.1≠b)
 (keep:∀b o,b≠X.env.locals→b ∉ X.fs→b ∉ ch→s.heap.get? b=some o→H b=none→h'.get? b=some o)
 (slot:∀b o,b≠X.env.locals→b∈X.fs→b ∉ ch→s.heap.get? b=some o→H b=none→∃sl,h'.get? b=some {o with slots:=sl})(free:∀b o,b ∉ ch→s.heap.get? b=some o→H b=none→H' b=none)
 (there:∀b o,b ∉ ch→s.heap.get? b=some o→∃o',h'.get? b=some o')
 (A6:∀b xs,H b=some (.tup xs)→H' b=some (.tup xs))(FT:∀b o u,H b=some (.FN o u)→H' b=some (.FN o u))(F5:∀b ps,H b=some (.Nx ps)→∃more,H' b=some (.Nx (ps++more)))
 (ns:∀m,s.heap.Ns X.env.locals m→h'.Ns X.env.locals m)(Ap:EG X.prog X.w H' h')(hg:AllBare g') :
  Inv X pins σ H' {s with heap:=h',gens:=g',drawn:=d',toks:=t'}:=by
 have neL:∀b o,X.s₀.heap.get? b=some o→b≠X.env.locals:=fun b o e=>aH (aM (aF e) I.ok.above);have neC:∀b o,X.s₀.heap.get? b=some o→b ∉ X.ex→b ∉ ch:=fun b o e hx hb=>by
  rcases(hch b hb).1 with z|z
  ·exact hx z
  ·exact absurd (aM (aF e) z) (Nat.lt_irrefl _)
 have cellK:∀x c,X.env.cells.lookup x=some c→∀v,s.heap.IsCell c v→h'.IsCell c v:=fun x c e v ⟨o,ho,hd⟩=>by
  have nch:c ∉ ch:=fun z=>(hch c z).2.2.1 x c e rfl;by_cases hc:c∈X.fs
  ·obtain⟨sl,q⟩:=slot c o (I.Pl x c e) hc nch ho (I.FI x c e);exact⟨_,q,hd⟩
  ·exact⟨o,keep c o (I.Pl x c e) hc nch ho (I.FI x c e),hd⟩
 refine⟨I.ok,I.os,hg,⟨fun b o e n hb hx=>?_,fun b o e n hb hx=>?_,fun b o e n hx=>?_,fun b o e hx=>?_,fun b xs e=>A6 b xs (I.base.A6 b xs e),fun b o xs e=>FT b o xs (I.base.FT b o xs e),fun b ps e=>?_⟩,?_,fun x c e=>?_,?_,fun x c e=>?_,fun p hp=>?_,Ap,I.len⟩
 ·exact keep b o (neL b o e) hb (neC b o e hx) (I.base.keep b o e n hb hx) (I.base.free b o e n hx)
 ·obtain⟨sl,e1⟩:=I.base.slot b o e n hb hx;obtain⟨sl',e2⟩:=slot b _ (neL b o e) hb (neC b o e hx) e1 (I.base.free b o e n hx);exact⟨sl',e2⟩
 ·obtain⟨o',e1⟩:=I.base.there b o e hx;exact free b o' (neC b o e hx) e1 (I.base.free b o e n hx)
 ·obtain⟨o',e1⟩:=I.base.there b o e hx;exact there b o' (neC b o e hx) e1
 ·obtain⟨m1,e1⟩:=I.base.F5 b ps e;obtain⟨m2,e2⟩:=F5 b _ e1;exact⟨m1++m2,by rw[e2,Array.append_assoc]⟩
 ·obtain⟨m,hn,hl⟩:=I.loc;refine⟨m,ns m hn,fun i x v e1 e2 e3=>?_⟩;obtain⟨u,r,l⟩:=hl i x v e1 e2 e3;refine⟨u,r,?_⟩;rcases l with l|⟨k,c,e,z⟩
  ·exact .inl l
  ·exact .inr ⟨k,c,e,cellK x c e _ z⟩
 ·obtain⟨v,z⟩:=I.cell x c e;exact⟨v,cellK x c e v z⟩
 ·obtain⟨m,⟨o,_,_,ho,_⟩,_⟩:=I.loc;exact free _ o (fun z=>(hch _ z).2.1 rfl) ho I.free
 ·obtain⟨v,o,ho,hd⟩:=I.cell x c e;exact free c o (fun z=>(hch c z).2.2.1 x c e rfl) ho (I.FI x c e)
 ·obtain⟨e,n,ne,nf,d⟩:=I.pin p hp;have nch:p.1 ∉ ch:=fun z=>(hch p.1 z).2.2.2 p hp rfl;exact⟨keep p.1 p.2 ne nf nch e n,free p.1 p.2 nch e n,ne,nf,d⟩
def Inv.un{t':Nat}(I:Inv X pins σ H s)(u:Un X.fs [] H H' s.heap h')(Ap:EG X.prog X.w H' h'):Inv X pins σ H' {s with heap:=h',toks:=t'}:=by
 obtain⟨m,⟨o,es,ep,ho,r⟩,_⟩:=id I.loc;obtain⟨sl,hL⟩:=u.any ho I.free (by simp);exact I.step (g':=s.gens) (d':=s.drawn) (ch:=[]) (fun _ z=>nomatch z) (fun b o _ hb _ e n=>u.keep b o e n hb (by simp)) (fun b o _ hb _ e n=>u.slot b o e n hb (by simp)) (fun b o _ e n=>u.free b o e n (by simp)) (fun b o _ e=>u.there b o e (by simp)) u.A6 u.FT u.F5 (fun m' hm=>by
  obtain⟨o',es',ep',ho',r'⟩:=hm;rw[ho]at ho';cases ho';exact⟨_,es',ep',hL,r'⟩) Ap I.bare
def Inv.call{g':Array GenState}{t':Nat}{d':Drawn}{ch:List AD}(I:Inv X pins σ H s)(u:Un (FJ X.stack) ch H H' s.heap h')(Ap:EG X.prog X.w H' h')(hg:AllBare g')
 (hch:∀b∈ch,(b∈X.ex∨X.s₀.heap.objs.size≤b)∧b≠X.env.locals∧(∀x c,X.env.cells.lookup x=some c→c≠b)∧∀p∈X.pn++pins,p.1≠b) :
  Inv X pins σ H' {s with heap:=h',gens:=g',drawn:=d',toks:=t'}:=by
 obtain⟨m,⟨o,es,ep,ho,r⟩,_⟩:=id I.loc;obtain⟨sl,hL⟩:=u.any ho I.free fun z=>(hch _ z).2.1 rfl;exact I.step (ch:=ch) hch (fun b o hL hb hc e n=>u.keep b o e n (fun z=>(aJ.mp (I.NG b z)).elim hL hb) hc) (fun b o _ _ hc e n=>u.any e n hc) (fun b o hc e n=>u.free b o e n hc) (fun b o hc e=>u.there b o e hc) u.A6 u.FT u.F5 (fun m' hm=>by
  obtain⟨o',es',ep',ho',r'⟩:=hm;rw[ho]at ho';cases ho';exact⟨_,es',ep',hL,r'⟩) Ap hg
def Inv.turned{t':Nat}{it:AD}(I:Inv X pins σ H s)(k:∀b o,b≠it→s.heap.get? b=some o→h'.get? b=some o)(hn:H it=none)(hL:it≠X.env.locals)
 (h1:it∈X.ex∨X.s₀.heap.objs.size≤it)(h2:∀x c,X.env.cells.lookup x=some c→c≠it)(h3:∀p∈X.pn++pins,p.1≠it):Inv X pins σ H {s with heap:=h',toks:=t'}:=by
 have nit:∀b u,H b=some u→b≠it:=fun b u e z=>by rw[z,hn]at e;cases e
 refine I.step (g':=s.gens) (d':=s.drawn) (ch:=[it]) (fun b hb=>?_) (fun b o _ _ hc e _=>k b o (fun z=>hc (by simp[z])) e) (fun b o _ _ hc e _=>⟨o.slots,k b o (fun z=>hc (by simp[z])) e⟩) (fun _ _ _ _ n=>n)
  (fun b o hc e=>⟨o,k b o (fun z=>hc (by simp[z])) e⟩) (fun _ _ e=>e) (fun _ _ _ e=>e) (fun b ps e=>⟨#[],by rw[e];simp⟩) (fun m hm=>?_) (fun b u e=>?_) I.bare
 ·have e:b=it:=by simpa using hb
  subst e;exact⟨h1,hL,h2,h3⟩
 ·obtain⟨o,es,ep,ho,r⟩:=hm;exact⟨o,es,ep,k _ o (Ne.symm hL) ho,r⟩
 ·refine(I.Ap b u e).Ge (fun c v hc q=>k c v ?_ q) (fun _ q=>q) fun _ _ q=>q;rcases hc with z|z
  ·rw[z];exact nit b u e
  ·exact nit c _ z
def Inv.tok(I:Inv X pins σ H s)(t:Nat):Inv X pins σ H {s with toks:=t}:=I.un (h':=s.heap) (t':=t) Un.refl I.Ap
def Inv.kept{t':Nat}(I:Inv X pins σ H s)(k:∀b u,s.heap.get? b=some u→h'.get? b=some u):Inv X pins σ H {s with heap:=h',toks:=t'}:=I.un (Un.kept k) (I.Ap.kept k)
def Inv.laid{a:AD}{o:HO}{t':Nat}(I:Inv X pins σ H s)(k:∀b u,s.heap.get? b=some u→h'.get? b=some u)(hp:s.heap.objs.size≤a)(new:CU X.prog X.w (upd H a o) h' a o) :
  Inv X pins σ (upd H a o) {s with heap:=h',toks:=t'}:=I.un (Un.laid k hp (I.Ap.fresh hp)) (I.Ap.laid k hp new)
def Inv.write{x e:AD}{o:HO}{t':Nat}(I:Inv X pins σ H s)(mu:cY (H x))(he:e=x∨H e=some (.own x))(k:∀b u,b≠e→s.heap.get? b=some u→h'.get? b=some u)(heo:∃u,h'.get? e=some u)
 (new:CU X.prog X.w (upd H x o) h' x o):Inv X pins σ (upd H x o) {s with heap:=h',toks:=t'}:=I.un (Un.write mu he k heo) (I.Ap.write mu he k heo new)
def Inv.U4{pins':List (AD×Obj)}(I:Inv X pins σ H s)(h:∀p∈pins',s.heap.get? p.1=some p.2∧H p.1=none∧p.1≠X.env.locals∧p.1 ∉ X.fs∧∀v,p.2.data≠.cell v):Inv X pins' σ H s :=
 ⟨I.ok,I.os,I.bare,I.base,I.loc,I.cell,I.free,I.FI,fun p hp=>(bR.mp hp).elim (fun z=>I.pin p (List.mem_append_left _ z)) (h p),I.Ap,I.len⟩
def Ob{N:List Str}(hN:N.Nodup){i j:Nat}{x:Str}(a:N[i]? = some x)(b:N[j]? = some x):i=j:=by
 obtain⟨h1,e1⟩:=aC.mp a;obtain⟨h2,e2⟩:=aC.mp b;exact(List.getElem_inj hN).mp (e1.trans e2.symm)
def RT{M:Model}{A:Around}{E:VL→SD→Prop}{i:Nat}{x:Str}{v:V}{u:VL}{Q:Unit→SD→Prop}(I:Inv X pins σ H s)(hN:X.N.Nodup)(hi:X.N[i]? = some x)(hx:Loc X.env.scope x)(r:RelV v u)
 (h:∀s',Inv X pins (σ.set i (some v)) H s'→(∃a,Heap.SameBut a s.heap s'.heap∧(a=X.env.locals∨X.env.cells.lookup x=some a))→Q () s')(hf:X.fn x=true∨X.env.scope.names.lookup x=some .local:=by first|exact .inl rfl|exact .inr rfl|assumption):wpAny M A (storeName X.env x u) Q E s:=by
 obtain⟨m,hn,hl⟩:=id I.loc;have hcls:(X.env.scope.kind==.class||(X.env.scope.kind==.module&&X.env.locals != X.env.globals))=false:=by rw[I.ok.kind];rfl
 have hiσ:i<σ.length:=by rw[I.len];exact(aC.mp hi).1
 have Pl:=I.Pl;have tracked:∀ {a:AD} {h':Heap},(∃o,s.heap.get? a=some o∧H a=none)→Heap.SameBut a s.heap h'→EG X.prog X.w H h':=fun {a h'} ha hs b ob e=>by
  obtain⟨_,_,hfree⟩:=ha;refine(I.Ap b ob e).Ge (fun c w' hc q=>(hs.2 c ?_).trans q) (fun _ q=>q) fun _ _ q=>q;rintro rfl;rcases hc with rfl|hc
  ·rw[hfree]at e;cases e
  ·rw[hfree]at hc;cases hc
 rcases hx with hk|hk
 ·refine wpAny_storeName_local hk hn (fun h' hn' hs=>?_) hcls;obtain⟨oL,_,_,hoL,_⟩:=id hn;refine h _ ⟨I.ok,I.os,I.bare,⟨fun b o e n hb hx=>?_,fun b o e n hb hx=>?_,I.base.free,fun b o e hx=>?_,I.base.A6,I.base.FT,I.base.F5⟩,⟨_,hn',fun j y v' e1 e2 e3=>?_⟩,fun y c e=>?_,I.free,I.FI,fun p hp=>?_,tracked ⟨oL,hoL,I.free⟩ hs,by simpa using I.len⟩ ⟨_,hs,.inl rfl⟩
  ·exact(hs.2 b (aH (aM (aF e) I.ok.above))).trans (I.base.keep b o e n hb hx)
  ·obtain⟨sl,e1⟩:=I.base.slot b o e n hb hx;exact⟨sl,(hs.2 b (aH (aM (aF e) I.ok.above))).trans e1⟩
  ·obtain⟨o',e1⟩:=I.base.there b o e hx;exact⟨o',(hs.2 b (aH (aM (aF e) I.ok.above))).trans e1⟩
  ·by_cases hj:j=i
   ·subst hj;rw[hi]at e1;cases e1;rw[List.getElem?_set_self hiσ]at e2;cases e2;exact⟨u,r,.inl ⟨hk,by simp⟩⟩
   ·rw[List.getElem?_set_ne (Ne.symm hj)]at e2;obtain⟨u',r',q⟩:=hl j y v' e1 e2 e3;refine⟨u',r',?_⟩;rcases q with ⟨k,e⟩|⟨k,c,e,z⟩
    ·refine .inl ⟨k,?_⟩;have:y≠x:=fun e=>hj (Ob hN e1 (e ▸ hi));simp[this,e]
    ·exact .inr ⟨k,c,e,z.sameBut hs (Pl y c e)⟩
  ·obtain⟨w',z⟩:=I.cell y c e;exact⟨w',z.sameBut hs (Pl y c e)⟩
  ·obtain⟨e,n,ne,nf,d⟩:=I.pin p hp;exact⟨(hs.2 p.1 ne).trans e,n,ne,nf,d⟩
 ·have hfn:X.fn x=true:=by
   rcases hf with z|z
   ·exact z
   ·rw[z]at hk;cases hk
  obtain⟨c,hc⟩:=I.ok.has x (.inl hk);obtain⟨w',z⟩:=I.cell x c hc;refine wpAny_storeName_cell I.ok.kind hk hc z (fun h' hc' hs=>?_);obtain⟨oc,hoc,hocd⟩:=id z;refine h {s with heap:=h'} ⟨I.ok,I.os,I.bare,⟨fun b o e n hb hx=>?_,fun b o e n hb hx=>?_,I.base.free,fun b o e hx=>?_,I.base.A6,I.base.FT,I.base.F5⟩,⟨m,hn.sameBut hs (Ne.symm (Pl x c hc)),fun j y v' e1 e2 e3=>?_⟩,fun y c' e=>?_,I.free,I.FI,fun p hp=>?_,tracked ⟨oc,hoc,I.FI x c hc⟩ hs,by simpa using I.len⟩ ⟨c,hs,.inr hc⟩
  ·exact(hs.2 b (aH (aM (aF e) (I.ok.VF x c hfn hc)))).trans (I.base.keep b o e n hb hx)
  ·obtain⟨sl,e1⟩:=I.base.slot b o e n hb hx;exact⟨sl,(hs.2 b (aH (aM (aF e) (I.ok.VF x c hfn hc)))).trans e1⟩
  ·obtain⟨o',e1⟩:=I.base.there b o e hx;exact⟨o',(hs.2 b (aH (aM (aF e) (I.ok.VF x c hfn hc)))).trans e1⟩
  ·by_cases hj:j=i
   ·subst hj;rw[hi]at e1;cases e1;rw[List.getElem?_set_self hiσ]at e2;cases e2;exact⟨u,r,.inr ⟨.inl hk,c,hc,hc'⟩⟩
   ·rw[List.getElem?_set_ne (Ne.symm hj)]at e2;obtain⟨u',r',q⟩:=hl j y v' e1 e2 e3;refine⟨u',r',?_⟩;rcases q with q|⟨k,c',e,z'⟩
    ·exact .inl q
    ·refine .inr ⟨k,c',e,z'.sameBut hs ?_⟩;rintro rfl;exact hj (Ob hN e1 (I.ok.inj _ _ _ e hc ▸ hi))
  ·by_cases hcc:c'=c
   ·subst hcc;exact⟨_,hc'⟩
   ·obtain⟨w2,z2⟩:=I.cell y c' e;exact⟨w2,z2.sameBut hs hcc⟩
  ·obtain⟨e,n,ne,nf,d⟩:=I.pin p hp;refine⟨(hs.2 p.1 ?_).trans e,n,ne,nf,d⟩;intro q;rw[q,hoc]at e;have q':oc=p.2:=ao e;exact d w' (by rw[←q'];exact hocd)
def KG{M:Model}{A:Around}{E:VL→SD→Prop}{i:Nat}{x:Str}{v:V}{u:VL}{Q:Unit→SD→Prop}(I:Inv X pins σ H s)(hN:X.N.Nodup)(hi:X.N[i]? = some x)(hx:Loc X.env.scope x)(r:RelV v u)
 (h:∀s',Inv X pins (σ.set i (some v)) H s'→Q () s')(hf:X.fn x=true∨X.env.scope.names.lookup x=some .local:=by first|exact .inl rfl|exact .inr rfl|assumption):wpAny M A (storeName X.env x u) Q E s :=
 RT I hN hi hx r (fun s' I' _=>h s' I') hf
def Inv.cu{s':SD}{ch:List AD}(I:Inv X pins σ H s)(ho:s'.os=s.os)(u:Un (FJ X.stack) ch H H' s.heap s'.heap)(Ap:EG X.prog X.w H' s'.heap)(hg:AllBare s'.gens)
 (hch:∀b∈ch,(b∈X.ex∨X.s₀.heap.objs.size≤b)∧b≠X.env.locals∧(∀x c,X.env.cells.lookup x=some c→c≠b)∧∀p∈X.pn++pins,p.1≠b):Inv X pins σ H' s':=by
 obtain⟨h',g',d',t',o'⟩:=s';have e:o'=s.os:=ho;subst e;exact I.call (g':=g') (t':=t') (d':=d') u Ap hg hch
end
abbrev XK:=VL→Option AD→Hp→Prop
abbrev St:=List (Option V)
abbrev VK:=V→Hp→Prop
abbrev TE:=St→Hp→VK→Prop
abbrev TT:=St→Hp→(Bool→Hp→Prop)→Prop
abbrev TA:=St→Hp→(List V→Hp→Prop)→Prop
structure Ends where
 nx:St→Hp→Prop
 rt:VK
 bk:St→Hp→Prop:=fun _ _=>False
 ct:St→Hp→Prop:=fun _ _=>False
abbrev TS:=Ends→St→Hp→Prop
def EP(X:Cx)(pins:List (AD×Obj))(σ:St)(Q:VK)(u:VL)(s':SD):Prop:=∃v H',Inv X pins σ H' s'∧RelV v u∧Q v H'
def TP(X:Cx)(pins:List (AD×Obj))(σ:St)(Q:Bool→Hp→Prop)(b:Bool)(s':SD):Prop:=∃H',Inv X pins σ H' s'∧Q b H'
def AP(X:Cx)(pins:List (AD×Obj))(σ:St)(Q:List V→Hp→Prop)(us:List VL)(s':SD):Prop:=∃vs H',Inv X pins σ H' s'∧Vals vs us∧Q vs H'
def SP(X:Cx)(pins:List (AD×Obj))(D:Ends)(f:Flow)(s':SD):Prop :=
 match f with
 |.next=>∃σ' H',Inv X pins σ' H' s'∧D.nx σ' H'
 |.brk=>∃σ' H',Inv X pins σ' H' s'∧D.bk σ' H'
 |.cont=>∃σ' H',Inv X pins σ' H' s'∧D.ct σ' H'
 |.ret u=>∃v σ' H',Inv X pins σ' H' s'∧RelV v u∧D.rt v H'
def PE(X:Cx)(e:Expr)(t:TE):Prop :=
 ∀(pins:List (AD×Obj)) (s:SD) (σ:St) (H:Hp) (Q:VK),Inv X pins σ H s→t σ H Q→wpAny (model X.prog X.w) X.A (eval e X.env) (EP X pins σ Q) X.xe s
def PT(X:Cx)(e:Expr)(t:TT):Prop :=
 ∀(pins:List (AD×Obj)) (s:SD) (σ:St) (H:Hp) (Q:Bool→Hp→Prop),Inv X pins σ H s→t σ H Q→wpAny (model X.prog X.w) X.A (isTrue e X.env (eval e X.env)) (TP X pins σ Q) X.xe s
def PW(X:Cx)(e:Expr)(t:TT):Prop :=
 ∀(whole:Sem VL) (pins:List (AD×Obj)) (s:SD) (σ:St) (H:Hp) (Q:Bool→Hp→Prop),Inv X pins σ H s→t σ H Q→wpAny (model X.prog X.w) X.A (isTrue e X.env whole) (TP X pins σ Q) X.xe s
def PW.pt{X:Cx}{e:Expr}{t:TT}(h:PW X e t):PT X e t:=h _
def PA(X:Cx)(es:List Expr)(t:TA):Prop :=
 ∀(pos:Pos) (pins:List (AD×Obj)) (s:SD) (σ:St) (H:Hp) (Q:List V→Hp→Prop),Inv X pins σ H s→t σ H Q→wpAny (model X.prog X.w) X.A (spliced (backTo pos (starEach es X.env))) (AP X pins σ Q) X.xe s
def PS(X:Cx)(st:Stmt)(t:TS):Prop :=
 ∀(pins:List (AD×Obj)) (s:SD) (σ:St) (H:Hp) (D:Ends),Inv X pins σ H s→t D σ H→wpAny (model X.prog X.w) X.A (exec st X.env) (SP X pins D) X.xe s
def HI(X:Cx)(st:List Stmt)(t:TS):Prop :=
 ∀(pins:List (AD×Obj)) (s:SD) (σ:St) (H:Hp) (D:Ends),Inv X pins σ H s→t D σ H→wpAny (model X.prog X.w) X.A (execs st X.env) (SP X pins D) X.xe s
def BN{α:Type}{t:Sem α}{Q Q':α→SD→Prop}{M:Model}{A:Around}{E:VL→SD→Prop}{s:SD}(h:wpAny M A t Q E s)(hQ:∀a s,Q a s→Q' a s):wpAny M A t Q' E s:=aU h hQ fun _ _ x=>x
section
variable{X:Cx}
def OU(i:Nat):TE:=fun σ H Q=>∃v,σ[i]? = some (some v)∧Q v H
def tC(v:V):TE:=fun _ H Q=>Q v H
def jk{i:Nat}{x:Str}{pos:Pos}(hN:X.N[i]? = some x)(hv:gg X.env.scope x)(hd:(x==("__debug__" : Str))=false:=by decide)(hcd:(x==("__classdict__" : Str))=false:=by decide):PE X (.Name x pos) (OU i):=by
 intro pins s σ H Q I h;obtain⟨v,e,h⟩:=h;obtain⟨m,hn,hl⟩:=I.loc;obtain⟨u,r,l⟩:=hl i x v hN e hv;have fin:EP X pins σ Q u s:=⟨v,H,I,r,h⟩;rcases l with ⟨hk,hm⟩|⟨hk,c,hc,hcell⟩
 ·exact wpAny_Name (wpAny_loadName_local I.ok.kind hk hn hm fin) hd
 ·rcases hk with hk|hk
  ·exact wpAny_Name (wpAny_loadName_cell I.ok.kind hk hc hcell fin) hd
  ·exact wpAny_Name (wpAny_loadName_free I.ok.kind hk hc hcell fin hcd) hd
def AR{i j pos}:PE X (.Constant (.int i) j pos) (tC (.int i)):=fun _ _ _ H _ I h=>wpAny_Constant_int ⟨.int i,H,I.tok _,⟨_,rfl⟩,h⟩
def FD{b j pos}:PE X (.Constant (.bool b) j pos) (tC (.bl b)):=fun _ _ _ H _ I h=>Constant_bool ⟨.bl b,H,I,rfl,h⟩
def PY{j pos}:PE X (.Constant .none j pos) (tC .BF):=fun _ _ _ H _ I h=>Constant_none ⟨.BF,H,I,rfl,h⟩
def T2{x j pos}:PE X (.Constant (.str x) j pos) (tC (.str x)):=fun _ _ _ H _ I h=>Calls.Constant_str ⟨.str x,H,I.tok _,⟨_,rfl⟩,h⟩
def Gl(X:Cx)(x:Str):Prop:=X.env.kindOf x=some .globalImplicit
def Jc{E:VL→SD→Prop}{pins:List (AD×Obj)}{s:SD}{σ:St}{H:Hp}{x:Str}{u:VL}{pos:Pos}{Q:VL→SD→Prop}(I:Inv X pins σ H s)(hg:Gl X x)(hm:X.mg x=some u)(h:Q u s)
 (hd:(x==("__debug__" : Str))=false:=by decide):wpAny (model X.prog X.w) X.A (eval (.Name x pos) X.env) Q E s :=
 Calls.Name_function_global I.ok.kind hg (Calls.loadGlobal_global (by rw[I.ok.glob];exact I.mod.glob.keeps I.bk) hm h) hd
def GD{E:VL→SD→Prop}{pins:List (AD×Obj)}{s:SD}{σ:St}{H:Hp}{x:Str}{u:VL}{pos:Pos}{Q:VL→SD→Prop}(I:Inv X pins σ H s)(hg:Gl X x)(hm:X.mg x=none)(hv:bootBuiltins x=some u)(h:Q u s)
 (hn:x ≠ "__name__" := by decide)(hd:(x==("__debug__" : Str))=false:=by decide):wpAny (model X.prog X.w) X.A (eval (.Name x pos) X.env) Q E s:=by
 obtain⟨mb,h1,h2⟩:=I.mod.blt;exact Calls.Name_function_global I.ok.kind hg (Calls.loadGlobal_builtin (by rw[I.ok.glob];exact I.mod.glob.keeps I.bk) hm (by rw[I.ok.blt];exact h1.keeps I.bk) ((h2 x hn).trans hv) h) hd
def LX{x:Str}{v:V}{u:VL}{pos:Pos}(hg:Gl X x)(hm:X.mg x=some u)(r:RelV v u)(hd:(x==("__debug__" : Str))=false:=by decide):PE X (.Name x pos) (tC v) :=
 fun _ _ _ H _ I h=>Jc I hg hm ⟨v,H,I,r,h⟩ hd
def Gu{x:Str}{v:V}{u:VL}{pos:Pos}(hg:Gl X x)(hm:X.mg x=none)(hv:bootBuiltins x=some u)(r:RelV v u)(hn:x ≠ "__name__" := by decide)(hd:(x==("__debug__" : Str))=false:=by decide):PE X (.Name x pos) (tC v) :=
 fun _ _ _ H _ I h=>GD I hg hm hv ⟨v,H,I,r,h⟩ hn hd
variable{a b:Expr}{ta tb:TE}{pos:Pos}
def tB(t:TE):TT:=fun σ H Q=>t σ H fun x H1=>∃c,x=.bl c∧Q c H1
def FU{e : Expr}{t : TE}(h : PE X e t)(he : ∀ whole,isTrue e X.env whole = (do let v ← whole; standAt e.pos; holding [v] (truthy v)) := by intro _; rfl) : PT X e (tB t) := by
  intro pins s σ H Q I hw
  refine isTrue_plain (BN (h pins s σ H _ I hw) fun v s1 ⟨x,H1,I1,r1,q1⟩ => ?_) (he _)
  obtain ⟨d,rfl,q⟩:=q1
  cases r1
  exact wpAny_truthy_bool ⟨H1,I1,q⟩
variable{tA tB':TT}{rest:List Expr}
def mm(t u:TT):TT:=fun σ H Q=>t σ H fun c H1=>if c=true then u σ H1 Q else Q false H1
def oG(t u:TT):TT:=fun σ H Q=>t σ H fun c H1=>if c=true then Q true H1 else u σ H1 Q
def nr(t:TT):TT:=fun σ H Q=>t σ H fun c H1=>Q (!c) H1
def Na(ha:PT X a tA):PW X (.BoolOp .And [a] pos) tA:=by
 intro wh pins s σ H Q I h;refine isTrue_and (BN (ha pins s σ H Q I h) fun c s1 e=>?_);cases c with
 |true=>exact isTrue_and_nil e
 |false=>exact e
def KL(ha:PT X a tA):PW X (.BoolOp .Or [a] pos) tA:=by
 intro wh pins s σ H Q I h;refine isTrue_or (BN (ha pins s σ H Q I h) fun c s1 e=>?_);cases c with
 |false=>exact isTrue_or_nil e
 |true=>exact e
def Sb(ha:PT X a tA)(hb:PW X (.BoolOp .And (b::rest) pos) tB'):PW X (.BoolOp .And (a::b::rest) pos) (mm tA tB'):=by
 intro wh pins s σ H Q I h;refine isTrue_and (BN (ha pins s σ H _ I h) fun c s1 ⟨H1,I1,q1⟩=>?_);cases c with
 |true=>exact hb wh pins s1 σ H1 Q I1 q1
 |false=>exact⟨H1,I1,q1⟩
def Kx(ha:PT X a tA)(hb:PW X (.BoolOp .Or (b::rest) pos) tB'):PW X (.BoolOp .Or (a::b::rest) pos) (oG tA tB'):=by
 intro wh pins s σ H Q I h;refine isTrue_or (BN (ha pins s σ H _ I h) fun c s1 ⟨H1,I1,q1⟩=>?_);cases c with
 |true=>exact⟨H1,I1,q1⟩
 |false=>exact hb wh pins s1 σ H1 Q I1 q1
def FX(ha:PT X a tA):PT X (.UnaryOp .Not a pos) (nr tA):=by
 intro pins s σ H Q I h;exact isTrue_not (ha pins s σ H (fun c H1=>Q (!c) H1) I h)
def kG(ta tb:TE):TE:=fun σ H Q=>ta σ H fun x H1=>∃c,x=.bl c∧if c=true then tb σ H1 Q else Q (.bl false) H1
def km(ta:TE):TE:=fun σ H Q=>ta σ H fun x H1=>∃c,x=.bl c∧Q (.bl (!c)) H1
def Te{op}{t:TE}(h:PE X a t):PE X (.BoolOp op [a] pos) t:=fun pins s σ H Q I hw=>BoolOp_one (h pins s σ H Q I hw)
def Pu(ha:PE X a ta)(hb:PE X (.BoolOp .And (b::rest) pos) tb):PE X (.BoolOp .And (a::b::rest) pos) (kG ta tb):=by
 intro pins s σ H Q I h;refine BoolOp_and (BN (ha pins s σ H _ I h) fun v s1 ⟨x,H1,I1,r1,q1⟩=>?_);obtain⟨c,rfl,q1⟩:=q1;cases r1;refine wpAny_truthy_bool ?_;cases c with
 |true=>exact hb pins s1 σ H1 Q I1 q1
 |false=>exact⟨.bl false,H1,I1,rfl,q1⟩
def fm(ha:PE X a ta):PE X (.UnaryOp .Not a pos) (km ta):=by
 intro pins s σ H Q I h;refine UnaryOp_ (BN (ha pins s σ H _ I h) fun v s1 ⟨x,H1,I1,r1,q1⟩=>?_);obtain⟨c,rfl,q1⟩:=q1;cases r1;exact not_of (wpAny_truthy_bool ⟨.bl (!c),H1,I1,rfl,q1⟩)
def oM(t:TT)(ta tb:TE):TE:=fun σ H Q=>t σ H fun c H1=>if c=true then ta σ H1 Q else tb σ H1 Q
def ZE{c:Expr}(hc:PT X c tA)(ha:PE X a ta)(hb:PE X b tb):PE X (.IfExp c a b pos) (oM tA ta tb):=by
 intro pins s σ H Q I h;refine wpAny_IfExp (BN (hc pins s σ H _ I h) fun d s1 ⟨H1,I1,q1⟩=>?_);cases d with
 |true=>exact ha pins s1 σ H1 Q I1 q1
 |false=>exact hb pins s1 σ H1 Q I1 q1
end
def Ab(K:Fg)(H:Hp)(a:AD)(xs:List V):Prop :=
 Rd H a (.lst xs) ∨
  ∃(o:Obj) (its:Array VL) (n:Nat),K.lookup a=some o∧o.cls=.type "list" ∧ o.dict=none∧o.data=.seq its n∧its.size≤sizeLine∧Vals xs its.toList
def Ay(K:Fg)(H:Hp)(a:AD)(xs:List V):Prop :=
 Rd H a (.tup xs) ∨
  ∃(o:Obj) (its:Array VL) (n:Nat),K.lookup a=some o∧o.cls=.type "tuple" ∧ o.data=.seq its n∧its.size≤sizeLine∧Vals xs its.toList
def mq:VL→Option V
 |.none=>some .BF
 |.bool b=>some (.bl b)
 |.int i _=>some (.int i)
 |.str x _=>some (.str x)
 |.bytes b _=>some (.NH b)
 |.float b _=>some (.Vq b)
 |.ref a=>some (.ref a)
 |.type n=>some (.ty n)
 |_=>none
def RelV.abs{x:V}{u:VL}(r:RelV x u):mq u=some x:=by
 cases x with
 |BF=>cases r;rfl
 |bl _=>cases r;rfl
 |int _=>obtain⟨t,rfl⟩:=r;rfl
 |str _=>obtain⟨t,rfl⟩:=r;rfl
 |NH _=>obtain⟨t,rfl⟩:=r;rfl
 |Vq _=>obtain⟨t,rfl⟩:=r;rfl
 |ref _=>cases r;rfl
 |ty _=>cases r;rfl
def RelV.inj{x y:V}{u:VL}(r:RelV x u)(q:RelV y u):x=y:=ao (r.abs.symm.trans q.abs)
def Vals.inj:∀ {xs ys:List V} {us:List VL},Vals xs us→Vals ys us→xs=ys
 |_,_,_,.nil,.nil=>rfl
 |_,_,_,.cons r t,.cons r' t'=>by rw[r.inj r',Vals.inj t t']
section
variable{X:Cx}{pins:List (AD×Obj)}{σ:St}{H:Hp}{s:SD}{a:AD}{xs ys:List V}
def Ab.of{K:Fg}(h:H a=some (.lst xs)):Ab K H a xs:=.inl (.inl h)
def Ay.of{K:Fg}(h:H a=some (.tup xs)):Ay K H a xs:=.inl (.inl h)
def Inv.list(I:Inv X pins σ H s)(h:Ab X.K H a xs):∃its:List VL,Vals xs its∧PlainL s.heap a its.toArray∧xs.length≤sizeLine:=by
 rcases h with h|⟨o,its,n,hk,hc,hd,hs,hz,r⟩
 ·obtain⟨z,its,n,r,e⟩:=h.ok I.Ap;exact⟨its,r,⟨_,n,e,rfl,rfl,rfl⟩,z⟩
 ·refine⟨its.toList,r,⟨o,n,I.F0 a o hk,hc,hd,by simpa using hs⟩,?_⟩;have e:=r.length;simp only[Array.length_toList]at e;omega
def Inv.tuple(I:Inv X pins σ H s)(h:Ay X.K H a xs):∃its:List VL,Vals xs its∧IsTup s.heap a its.toArray∧xs.length≤sizeLine:=by
 rcases h with h|⟨o,its,n,hk,hc,hs,hz,r⟩
 ·obtain⟨z,its,r,p⟩:=h.ok I.Ap;exact⟨its,r,p,z⟩
 ·refine⟨its.toList,r,⟨o,I.F0 a o hk,hc,n,by simpa using hs⟩,?_⟩;have e:=r.length;simp only[Array.length_toList]at e;omega
def Inv.Ti(I:Inv X pins σ H s)(h:Ab X.K H a xs)(h':Ab X.K H a ys):xs=ys:=by
 obtain⟨its,r,⟨o,n,e,_,_,d⟩,_⟩:=I.list h;obtain⟨its',r',⟨o',n',e',_,_,d'⟩,_⟩:=I.list h';rw[e]at e';cases e';rw[d]at d'
 injection d' with d1 _
 have:its=its':=by simpa using bJ Array.toList d1
 subst this;exact r.inj r'
def Inv.RV(I:Inv X pins σ H s)(h:Ay X.K H a xs)(h':Ay X.K H a ys):xs=ys:=by
 obtain⟨its,r,⟨o,e,_,n,d⟩,_⟩:=I.tuple h;obtain⟨its',r',⟨o',e',_,n',d'⟩,_⟩:=I.tuple h';rw[e]at e';cases e';rw[d]at d'
 injection d' with d1 _
 have:its=its':=by simpa using bJ Array.toList d1
 subst this;exact r.inj r'
end
abbrev Cx.F3(X:Cx)(E:VL→SD→Prop):Cx:={X with xe:=E}
abbrev Cx.Gv(X:Cx):Cx:=X.F3 fun _ _=>False
def Cx.Ok.F3{X:Cx}(ok:X.Ok)(E:VL→SD→Prop):(X.F3 E).Ok :=
 ⟨ok.mod,ok.kind,ok.glob,ok.blt,ok.above,ok.inj,ok.has,ok.VF,ok.hd,ok.frames,ok.Ye,ok.jc,ok.bs,ok.QB,ok.QZ,ok.QO,ok.HQ,ok.O6⟩
def Cx.Ok.Dj{X:Cx}{E:VL→SD→Prop}(ok:(X.F3 E).Ok):X.Ok :=
 ⟨ok.mod,ok.kind,ok.glob,ok.blt,ok.above,ok.inj,ok.has,ok.VF,ok.hd,ok.frames,ok.Ye,ok.jc,ok.bs,ok.QB,ok.QZ,ok.QO,ok.HQ,ok.O6⟩
section
variable{X:Cx}{pins:List (AD×Obj)}{σ:St}{H:Hp}{s:SD}{E:VL→SD→Prop}
def Inv.F3(I:Inv X pins σ H s)(E:VL→SD→Prop):Inv (X.F3 E) pins σ H s:=⟨I.ok.F3 E,I.os,I.bare,I.base,I.loc,I.cell,I.free,I.FI,I.pin,I.Ap,I.len⟩
def Inv.Dj(I:Inv (X.F3 E) pins σ H s):Inv X pins σ H s:=⟨I.ok.Dj,I.os,I.bare,I.base,I.loc,I.cell,I.free,I.FI,I.pin,I.Ap,I.len⟩
def SP.Dj{D:Ends}{f:Flow}{s':SD}(h:SP (X.F3 E) pins D f s'):SP X pins D f s':=by
 cases f with
 |next=>obtain⟨σ',H',I,q⟩:=h;exact⟨σ',H',I.Dj,q⟩
 |brk=>obtain⟨σ',H',I,q⟩:=h;exact⟨σ',H',I.Dj,q⟩
 |cont=>obtain⟨σ',H',I,q⟩:=h;exact⟨σ',H',I.Dj,q⟩
 |ret u=>obtain⟨v,σ',H',I,r,q⟩:=h;exact⟨v,σ',H',I.Dj,r,q⟩
def HI.Gv{st:List Stmt}{t:TS}(h:HI X.Gv st t):HI X st t:=fun pins s σ H D I hw =>
 aU (h pins s σ H D (I.F3 _) hw) (fun _ _ q=>q.Dj) fun _ _ z=>False.elim z
end
section
variable{X:Cx}{st:Stmt}{rest:List Stmt}{t u:TS}{e:Expr}{te:TE}{pos:Pos}
def kI:TS:=fun D σ H=>D.nx σ H
def jj(t u:TS):TS:=fun D σ H=>t {D with nx:=u D} σ H
def BL:HI X [] kI:=fun _ _ σ H _ I h=>wpAny_execs_nil ⟨σ,H,I,h⟩
def AN(h1:PS X st t)(h2:HI X rest u):HI X (st::rest) (jj t u):=by
 intro pins s σ H D I h;refine wpAny_execs_cons (BN (h1 pins s σ H {D with nx:=u D} I h) fun f s1 q=>?_);cases f with
 |next =>
  obtain⟨σ',H',I',q⟩:=q;exact h2 pins s1 σ' H' D I' q
 |ret v=>exact q
 |brk=>exact q
 |cont=>exact q
def AX(h1:PS X st t):HI X [st] t:=by
 intro pins s σ H D I h;refine wpAny_execs_cons (BN (h1 pins s σ H D I h) fun f s1 q=>?_);cases f with
 |next=>exact wpAny_execs_nil q
 |ret v=>exact q
 |brk=>exact q
 |cont=>exact q
def kQ:TS:=fun D σ H=>D.ct σ H
def Ul:PS X (.Continue pos) kQ:=fun _ _ σ H _ I h=>wpAny_Continue ⟨σ,H,I,h⟩
def Inv.quiet{pins:List (AD×Obj)}{σ:St}{H:Hp}{s:SD}(I:Inv X pins σ H s):interactive X.env=false:=by simp[interactive,I.ok.kind]
def SG(te:TE):TS:=fun D σ H=>te σ H fun _ H1=>D.nx σ H1
def CO(he:PE X e te)(hs:swapsWith e none pos.line X.env=pure false:=by rfl):PS X (.Expr e pos) (SG te):=by
 intro pins s σ H D I h;exact wpAny_Expr_any (BN (he pins s σ H _ I h) fun v s1 ⟨x,H1,I1,r1,q1⟩=>⟨σ,H1,I1,q1⟩) I.quiet hs
def mx(te:TE):TS:=fun D σ H=>te σ H D.rt
def A3(he:PE X e te):PS X (.Return (some e) pos) (mx te):=by
 intro pins s σ H D I h;exact wpAny_Return_some (BN (he pins s σ H _ I h) fun v s1 ⟨x,H1,I1,r1,q1⟩=>⟨x,σ,H1,I1,r1,q1⟩)
def nO(c:TT)(t u:TS):TS:=fun D σ H=>c σ H fun b H1=>if b=true then t D σ H1 else u D σ H1
def Bw{c:Expr}{a b:List Stmt}{tc:TT}(hc:PT X c tc)(ha:HI X a t)(hb:HI X b u):PS X (.If c a b pos) (nO tc t u):=by
 intro pins s σ H D I h;refine wpAny_If (BN (hc pins s σ H _ I h) fun d s1 ⟨H1,I1,q1⟩=>?_);cases d with
 |true=>exact ha pins s1 σ H1 D I1 q1
 |false=>exact hb pins s1 σ H1 D I1 q1
def jx:TS:=fun _ _ _=>False
def Se:PS X st jx:=fun _ _ _ _ _ _ h=>h.elim
end
abbrev TG:=V→St→Hp→(St→Hp→Prop)→Prop
abbrev S0:=List V→St→Hp→(St→Hp→Prop)→Prop
def PG(X:Cx)(target:Expr)(t:TG):Prop :=
 ∀(pins:List (AD×Obj)) (s:SD) (σ:St) (H:Hp) (v:V) (u:VL) (Q:St→Hp→Prop),Inv X pins σ H s→RelV v u→t v σ H Q →
  wpAny (model X.prog X.w) X.A (assign target X.env u) (fun _ s'=>∃σ' H',Inv X pins σ' H' s'∧Q σ' H') X.xe s
def cQ(X:Cx)(ts:List Expr)(t:S0):Prop :=
 ∀(pins:List (AD×Obj)) (s:SD) (σ:St) (H:Hp) (vs:List V) (us:List VL) (Q:St→Hp→Prop),Inv X pins σ H s→Vals vs us→t vs σ H Q →
  wpAny (model X.prog X.w) X.A (assignInOrder ((assignEach ts X.env).map (·.2)) us) (fun _ s'=>∃σ' H',Inv X pins σ' H' s'∧Q σ' H') X.xe s
abbrev V4:=V→V→V→Hp→(Hp→Prop)→Prop
def bw(X:Cx)(t:V4):Prop :=
 ∀(pins:List (AD×Obj)) (s:SD) (σ:St) (H:Hp) (o i v:V) (ov iv u:VL) (Q:Hp→Prop),Inv X pins σ H s→RelV o ov→RelV i iv→RelV v u→t o i v H Q →
  wpAny (model X.prog X.w) X.A (setItem ov iv u) (fun _ s'=>∃H',Inv X pins σ H' s'∧Q H') X.xe s
section
variable{X:Cx}{pos:Pos}
def EJ(i:Nat):TG:=fun v σ H Q=>Q (σ.set i (some v)) H
def Az{i:Nat}{x:Str}(hN:X.N.Nodup)(hi:X.N[i]? = some x)(hx:Loc X.env.scope x)(hf:X.fn x=true∨X.env.scope.names.lookup x=some .local:=by first|exact .inl rfl|exact .inr rfl|assumption):PG X (.Name x pos) (EJ i):=by
 intro pins s σ H v u Q I r h;exact wpAny_assign_Name (KG I hN hi hx r (fun s' I'=>⟨_,H,I',h⟩) hf)
def WY:S0:=fun vs σ H Q=>vs=[]∧Q σ H
def Kg(t:TG)(u:S0):S0:=fun vs σ H Q=>∃v r,vs=v::r∧t v σ H fun σ' H'=>u r σ' H' Q
def Hu:cQ X [] WY:=by
 intro pins s σ H vs us Q I r h;obtain⟨e,h⟩:=h;subst e;cases r;exact assignInOrder_nil ⟨σ,H,I,h⟩
def CV{e:Expr}{es:List Expr}{t:TG}{u:S0}(h1:PG X e t)(h2:cQ X es u)
 (hs:(assignEach (e::es) X.env).map (·.2)=assign e X.env::(assignEach es X.env).map (·.2):=by rfl):cQ X (e::es) (Kg t u):=by
 intro pins s σ H vs us Q I r h;obtain⟨v,vr,e1,h⟩:=h;subst e1;cases r with
 |cons r rr =>
  rw[hs];refine assignInOrder_cons (BN (h1 pins s σ H _ _ _ I r h) fun _ s1 ⟨σ1,H1,I1,q1⟩=>?_);exact h2 pins s1 σ1 H1 _ _ Q I1 rr q1
def Wc(K:Fg)(n:Nat)(t:S0):TG:=fun v σ H Q=>∃a xs,v=.ref a∧Ay K H a xs∧xs.length=n∧t xs σ H Q
def KP{es:List Expr}{k:Nat}{t:S0}{n:Nat}(hc:X.calm=true)(h:cQ X es t)
 (hn:(assignEach es X.env).length=n:=by rfl)(hst:(assignEach es X.env).findIdx? (·.1)=none:=by rfl):PG X (.Tuple es k pos) (Wc X.K n t):=by
 intro pins s σ H v u Q I r hw;obtain⟨a,xs,e1,hq,hl,hw⟩:=hw;subst e1;cases r;obtain⟨its,rv,ht,hz⟩:=I.tuple hq;refine assign_Tuple_tuple (I.ok.hd hc) ht (by simp[hn,←hl,rv.length]) hst fun h' hx=>?_;have I1:Inv X pins σ H {s with heap:=h'}:=I.kept (t':=s.toks) fun b o e=>hx b o (aH (aF e)) e;exact h pins _ σ H xs _ Q I1 (by simpa using rv) hw
def mh(to ti:TE)(t:V4):TG:=fun v σ H Q=>to σ H fun o H1=>ti σ H1 fun i H2=>t o i v H2 fun H3=>Q σ H3
def LU{o i:Expr}{to ti:TE}{t:V4}(ho:PE X o to)(hi:PE X i ti)(hs:bw X t)
 (ha:∀v,assign (.Subscript o i pos) X.env v=(do
      let ov ←holding [v] (eval o X.env)
      let iv ←holding [v,ov] (eval i X.env)
      standAt pos
      holding [v,ov,iv] (setItem ov iv v)
      release [v,ov,iv] []):=by intro _;rfl):PG X (.Subscript o i pos) (mh to ti t):=by
  intro pins s σ H v u Q I r h
  rw[ha]
  refine Wb (aS (BN (ho pins s σ H _ I h) fun ov s1 ⟨x,H1,I1,r1,q1⟩=>?_))
  refine Wb (aS (BN (hi pins s1 σ H1 _ I1 q1) fun iv s2 ⟨y,H2,I2,r2,q2⟩=>?_))
  refine Wb (wpAny_standAt (Wb (aS (BN (hs pins s2 σ H2 x y v ov iv u _ I2 r1 r2 r q2) fun _ s3 ⟨H3,I3,q3⟩=>?_))))
  exact wpAny_release ⟨σ,H3,I3,q3⟩
def Wg(te:TE)(g:TG):TS:=fun D σ H=>te σ H fun x H1=>g x σ H1 D.nx
def IY{tg e:Expr}{te:TE}{g:TG}(he:PE X e te)(hg:PG X tg g)(hs:swapsWithSole [tg] e pos.line X.env=pure false:=by rfl)(hw:swappedStores [tg] e X.env=pure none:=by rfl)
 (h1:(assignEach [tg] X.env).map (·.2)=[assign tg X.env]:=by rfl):PS X (.Assign [tg] e pos) (Wg te g):=by
 intro pins s σ H D I h;refine wpAny_Assign_stores (BN (he pins s σ H _ I h) fun v s1 ⟨x,H1,I1,r1,q1⟩=>?_) hs hw;rw[h1];exact BN (hg pins s1 σ H1 x v _ I1 r1 q1) fun _ s2 q=>q
def A5{i:Nat}{x:Str}{e:Expr}{te:TE}{pos':Pos}(hN:X.N.Nodup)(hi:X.N[i]? = some x)(hx:Loc X.env.scope x)(he:PE X e te)(hs:swapsWith e (some (.Name x pos')) pos.line X.env=pure false:=by rfl)(hf:X.fn x=true∨X.env.scope.names.lookup x=some .local:=by first|exact .inl rfl|exact .inr rfl|assumption) :
  PS X (.Assign [.Name x pos'] e pos) (Wg te (EJ i)):=by
 intro pins s σ H D I h;refine wpAny_Assign_Name (BN (he pins s σ H _ I h) fun v s1 ⟨y,H1,I1,r1,q1⟩=>?_) hs;exact KG I1 hN hi hx r1 (fun s2 I2=>⟨_,H1,I2,q1⟩) hf
def mP(i j:Nat)(ta:TA):TS:=fun D σ H=>ta σ H fun vs H1=>∃v w,vs=[v,w]∧D.nx ((σ.set i (some v)).set j (some w)) H1
def gc{i j:Nat}{x y:Str}{a b:Expr}{ta:TA}{px py pt:Pos}{kt k2 pt2}(hc:X.calm=true)(hN:X.N.Nodup)(hi:X.N[i]? = some x)(hj:X.N[j]? = some y)(hij:i≠j)
 (hx:X.env.scope.names.lookup x=some .local)(hy:X.env.scope.names.lookup y=some .local)(ha:PA X [a,b] ta)
 (hw:swappedStores [.Tuple [.Name x px,.Name y py] kt pt] (.Tuple [a,b] k2 pt2) X.env=pure (some [x,y]))
 (hs:swapsWithSole [.Tuple [.Name x px,.Name y py] kt pt] (.Tuple [a,b] k2 pt2) pos.line X.env=pure false:=by rfl) :
  PS X (.Assign [.Tuple [.Name x px,.Name y py] kt pt] (.Tuple [a,b] k2 pt2) pos) (mP i j ta):=by
 intro pins s σ H D I h;rw[exec_Assign_arm];refine Wb (wpAny_standAt ?_);rw[hs];refine Wb (aA ?_);rw[if_neg (by decide)];refine Wb (Tuple_ (BN (ha _ pins s σ H _ I h) fun us s1 ⟨vs,H1,I1,r1,q1⟩=>?_));obtain⟨v,w,e1,q1⟩:=q1;subst e1;obtain⟨u1,u2,rfl,rv,rw'⟩:∃u1 u2,us=[u1,u2]∧RelV v u1∧RelV w u2:=by
  cases r1 with
  |cons p q =>
   cases q with
   |cons p' q' =>
    cases q';exact⟨_,_,rfl,p,p'⟩
 refine av ?_ (by show 2≤sizeLine;decide);have I2:Inv X pins σ H1 {s1 with heap:=s1.heap.push { cls:=.type "tuple",data:=.seq [u1,u2].toArray} }:=I1.kept (t':=s1.toks) fun b o e=>aD _ e;rw[hw];refine Wb (aA ?_);show wpAny (model X.prog X.w) X.A (do rule "assign.swapped-stores"; let items ←unpackItems (.ref s1.heap.objs.size) 2 none;assignInOrder [fun v=>bindName X.env y v,fun v=>bindName X.env x v] items.reverse;pure Flow.next) _ _ _;refine Wb (bT (Wb (unpackItems_tuple (items:=#[u1,u2]) (I.ok.hd hc) (IsTup.new s1.heap _) fun h' hx'=>?_)));have I3:=I2.kept (h':=h') (t':=s1.toks) fun b o e=>hx' b o (aH (aF e)) e;show wpAny _ _ (assignInOrder [fun v=>bindName X.env y v,fun v=>bindName X.env x v] [u2,u1]>>=fun _=>pure Flow.next) _ _ _;refine Wb (assignInOrder_cons (wpAny_bindName (KG I3 hN hj (.inl hy) rw' (fun s2 I4=>?_) (.inr hy))));refine assignInOrder_cons (wpAny_bindName (KG I4 hN hi (.inl hx) rv (fun s3 I5=>assignInOrder_nil (aA ?_)) (.inr hx)));rw[List.set_comm _ _ (Ne.symm hij)]at I5;exact⟨_,H1,I5,q1⟩
end
section
variable{X:Cx}{pos:Pos}
def Yq(c:TT)(tb:TS):TS:=fun D σ H=>∃W:Nat→St→Hp→Prop,(∃m,W m σ H)∧∀m σ H,W m σ H →
 c σ H fun b H1=>if b=true then ∃N:St→Hp→Prop,(∀σ' H',N σ' H'→∃m',m'<m∧W m' σ' H')∧tb {D with nx:=N,ct:=N,bk:=D.nx} σ H1 else D.nx σ H1
def Oj{c:Expr}{body:List Stmt}{tc:TT}{tb:TS}(hp:PassesOwn (model X.prog X.w) X.A X.env X.xe)(hc:PT X c tc)(hb:HI X body tb):PS X (.While c body [] pos) (Yq tc tb):=by
 intro pins s σ H D I h;obtain⟨W,⟨m0,w0⟩,turn⟩:=h;refine wpAny_While (codeAny_whileLoop (fun n s'=>∃σ' H',Inv X pins σ' H' s'∧W n σ' H') ?_ m0 ⟨σ,H,I,w0⟩);rintro n s1 ⟨σ1,H1,I1,w1⟩;refine wpAny_passesOwn hp (BN (hc pins s1 σ1 H1 _ I1 (turn n σ1 H1 w1)) fun b s2 ⟨H2,I2,q2⟩=>?_);cases b with
 |true =>
  obtain⟨N,hN,q2⟩:=q2;rw[if_pos rfl];refine wpAny_passesOwn hp (BN (hb pins s2 σ1 H2 _ I2 q2) fun f s3 q3=>?_);cases f with
  |next =>
   obtain⟨σ3,H3,I3,n3⟩:=q3;obtain⟨m',hm,w3⟩:=hN σ3 H3 n3;exact⟨m',hm,σ3,H3,I3,w3⟩
  |cont =>
   obtain⟨σ3,H3,I3,n3⟩:=q3;obtain⟨m',hm,w3⟩:=hN σ3 H3 n3;exact⟨m',hm,σ3,H3,I3,w3⟩
  |brk=>exact q3
  |ret v=>exact q3
 |false =>
  rw[if_neg aK];exact wpAny_execs_nil ⟨σ1,H2,I2,q2⟩
end
structure It where
 go:Nat→Hp→Prop
 Ef:Nat→Hp→V→Hp→Prop
 stop:Nat→Hp→Prop
def LB(X:Cx)(pins:List (AD×Obj))(H:Hp)(b:AD):Prop :=
 H b=none∧b≠X.env.locals∧b ∉ X.fs∧(b∈X.ex∨X.s₀.heap.objs.size≤b)∧(∀x c,X.env.cells.lookup x=some c→c≠b)∧∀p∈X.pn++pins,p.1≠b
def Inv.Ov{X:Cx}{pins:List (AD×Obj)}{σ:St}{H H':Hp}{s:SD}{b:AD}(I:Inv X pins σ H s)(hb:s.heap.objs.size≤b)(hn:H' b=none):LB X pins H' b:=by
 refine⟨hn,Nat.ne_of_gt (aM I.lt hb),I.mf hb,.inr (aQ I.sz hb),fun x c e z=>?_,fun p hp z=>?_⟩
 ·obtain⟨v,q⟩:=I.cell x c e;exact absurd (aM q.lt (by rw[z];exact hb)) (Nat.lt_irrefl _)
 ·exact absurd (aM (aF (I.pin p hp).1) (by rw[z];exact hb)) (Nat.lt_irrefl _)
structure Turn(P:Program)(w:World)(K:Fg)(tg:Expr)(J:It)(fp:List Addr)(it:Addr)(tn:Nat→Heap→Prop):Prop where
 mem:it∈fp
 obj:∀i h,tn i h→∀b∈fp,∃o,h.get? b=some o∧∀v,o.data≠.cell v
 keep:∀i h h',tn i h→(∀b∈fp,∀o,h.get? b=some o→h'.get? b=some o)→tn i h'
 item:∀(X:Cx),X.prog=P→X.w=w→X.K=K→X.calm=true→∀(i:Nat) (pins:List (Addr×Obj)) (s:Shared) (σ:St) (H:Hp) (E:Value→Shared→Prop),Inv X pins σ H s→(∀b∈fp,LB X pins H b)→tn i s.heap→J.go i H →
  wpAny (model P w) X.A (pyNext (.ref it)) (fun r s1=>∃u,r=some u ∧
   wpAny (model P w) X.A (letOwnedTupleGo tg (.ref it) u) (fun _ s2=>∃x H',Inv X pins σ H' s2∧RelV x u∧J.Ef i H x H'∧tn (i+1) s2.heap∧∀b∈fp,H' b=none) E s1) E s
 done:∀(X:Cx),X.prog=P→X.w=w→X.K=K→X.calm=true→∀(i:Nat) (pins:List (Addr×Obj)) (s:Shared) (σ:St) (H:Hp) (E:Value→Shared→Prop),Inv X pins σ H s→(∀b∈fp,LB X pins H b)→tn i s.heap→J.stop i H →
  wpAny (model P w) X.A (pyNext (.ref it)) (fun r s1=>r=none∧Inv X pins σ H s1) E s
 self:∀(A:Around) (i:Nat) (s:Shared) (Q:Value→Shared→Prop) (E:Value→Shared→Prop),tn i s.heap→Q (.ref it) s→wpAny (model P w) A (pyIter (.ref it)) Q E s
abbrev TI:=St→Hp→(It→Hp→Prop)→Prop
def l6(X:Cx)(pins:List (AD×Obj))(σ:St)(tg:Expr)(R:It→Hp→Prop)(itv:VL)(s2:SD):Prop :=
 ∃(it:AD) (fp:List AD) (tn:Nat→Heap→Prop) (J:It) (H':Hp),itv=.ref it∧Inv X pins σ H' s2∧Turn X.prog X.w X.K tg J fp it tn∧tn 0 s2.heap∧(∀b∈fp,LB X pins H' b)∧R J H'
def PI(X:Cx)(tg iter:Expr)(wi:TI):Prop :=
 ∀(pins:List (AD×Obj)) (s:SD) (σ:St) (H:Hp) (R:It→Hp→Prop),Inv X pins σ H s→wi σ H R →
  wpAny (model X.prog X.w) X.A (eval iter X.env) (fun v s1=>wpAny (model X.prog X.w) X.A (pyIter v) (l6 X pins σ tg R) X.xe s1) X.xe s
def Wq{M:Model}{A:Around}{E:VL→SD→Prop}{s:SD}{tg:Expr}{it:AD}{u:VL}{o:Obj}{n:String}{vs:Array VL}{Q:Unit→SD→Prop}(ho:s.heap.get? it=some o)(hc:o.cls=.type n)(hd:o.data=.fields vs)
 (hn:["enumerate", "zip", "dict_itemiterator", "dict_reverseitemiterator", "odict_iterator", "itertools.zip_longest", "itertools.pairwise"].contains n=false)(hQ:Q () s):wpAny M A (letOwnedTupleGo tg (.ref it) u) Q E s:=by
 unfold letOwnedTupleGo;cases tg<;>first
  |exact aA hQ
  |(cases u<;>first
    |exact aA hQ
    |(refine Wb (wpAny_load ho ?_)
      rw[hc,hd];show wpAny M A (if(["enumerate", "zip", "dict_itemiterator", "dict_reverseitemiterator", "odict_iterator", "itertools.zip_longest", "itertools.pairwise"].contains n&&vs[0]? == some (rawInt _))=true then _ else _) Q E s;rw[if_neg (by intro h;rw[hn,Bool.false_and]at h;cases h)];exact aA hQ))
def VW(K:Fg)(a:AD):It :=
 ⟨fun i H=>∃xs x,Ab K H a xs∧xs[i]? = some x,fun i H x H'=>H'=H∧∀xs,Ab K H a xs→xs[i]? = some x,fun i H=>∃xs,Ab K H a xs∧xs.length≤i⟩
def Vb(K:Fg)(a:AD):It :=
 ⟨fun i H=>∃xs x,Ay K H a xs∧xs[i]? = some x,fun i H x H'=>H'=H∧∀xs,Ay K H a xs→xs[i]? = some x,fun i H=>∃xs,Ay K H a xs∧xs.length≤i⟩
def Qx(lo:Int)(n:Nat):It:=⟨fun i _=>i<n,fun i H x H'=>H'=H∧x=.int (lo+i),fun i _=>n≤i⟩
def Yn{P:Program}{w:World}{K:Fg}{tg:Expr}(a it:AD):Turn P w K tg (VW K a) [it] it (fun i h=>h.IsListIter it a i) where
 mem:=by simp
 obj:=fun i h st b hb=>by
  have e:b=it:=by simpa using hb
  subst e;obtain⟨o,e,c,d⟩:=st;exact⟨o,e,fun v z=>by rw[d]at z;cases z⟩
 keep:=fun i h h' st k=>st.at fun o e=>k it (by simp) o e
 item:=by
  intro X hP hw hK hc i pins s σ H E I hf st hg;subst hP hw hK;obtain⟨xs,x,hq,hx⟩:=hg;obtain⟨its,rv,p,hz⟩:=I.list hq;obtain⟨u,hu,ru⟩:=rv.get hx;obtain⟨f0,f1,f2,f3,f4,f5⟩:=hf it (by simp);refine wpAny_pyNext_list_item st p.isList (x:=u) (by simpa using hu) fun h' st' sb=>?_;have I1:Inv X pins σ H {s with heap:=h'}:=I.turned (t':=s.toks) (fun b o hb e=>(sb.2 b hb).trans e) f0 f1 f3 f4 f5;obtain⟨o,e,c,d⟩:=id st';exact⟨u,rfl,Wq (s:={s with heap:=h'}) e c d (by decide) ⟨x,H,I1,ru,⟨rfl,fun ys hy=>by rw[I.Ti hy hq];exact hx⟩,st',fun b hb=>(hf b hb).1⟩⟩
 done:=by
  intro X hP hw hK hc i pins s σ H E I hf st hg;subst hP hw hK;obtain⟨xs,hq,hx⟩:=hg;obtain⟨its,rv,p,hz⟩:=I.list hq;obtain⟨f0,f1,f2,f3,f4,f5⟩:=hf it (by simp);have hl:=rv.length;exact wpAny_pyNext_list_end (I.ok.hd hc) st p.isList (by simp;omega) fun h' eb=>⟨rfl,I.turned (t':=s.toks) (fun b o hb e=>eb b o hb e) f0 f1 f3 f4 f5⟩
 self:=fun _ _ _ _ _ st h=>wpAny_pyIter_listiter st h
def WS{P:Program}{w:World}{K:Fg}{tg:Expr}(a it:AD):Turn P w K tg (Vb K a) [it] it (fun i h=>h.IsTupleIter it a i) where
 mem:=by simp
 obj:=fun i h st b hb=>by
  have e:b=it:=by simpa using hb
  subst e;obtain⟨o,e,c,d⟩:=st;exact⟨o,e,fun v z=>by rw[d]at z;cases z⟩
 keep:=fun i h h' st k=>st.at fun o e=>k it (by simp) o e
 item:=by
  intro X hP hw hK hc i pins s σ H E I hf st hg;subst hP hw hK;obtain⟨xs,x,hq,hx⟩:=hg;obtain⟨its,rv,p,hz⟩:=I.tuple hq;obtain⟨u,hu,ru⟩:=rv.get hx;obtain⟨f0,f1,f2,f3,f4,f5⟩:=hf it (by simp);refine wpAny_pyNext_tuple_item st (show s.heap.IsTuple a its.toArray from p) (x:=u) (by simpa using hu) fun h' st' sb=>?_;have I1:Inv X pins σ H {s with heap:=h'}:=I.turned (t':=s.toks) (fun b o hb e=>(sb.2 b hb).trans e) f0 f1 f3 f4 f5;obtain⟨o,e,c,d⟩:=id st';exact⟨u,rfl,Wq (s:={s with heap:=h'}) e c d (by decide) ⟨x,H,I1,ru,⟨rfl,fun ys hy=>by rw[I.RV hy hq];exact hx⟩,st',fun b hb=>(hf b hb).1⟩⟩
 done:=by
  intro X hP hw hK hc i pins s σ H E I hf st hg;subst hP hw hK;obtain⟨xs,hq,hx⟩:=hg;obtain⟨its,rv,p,hz⟩:=I.tuple hq;obtain⟨f0,f1,f2,f3,f4,f5⟩:=hf it (by simp);have hl:=rv.length;exact wpAny_pyNext_tuple_end (I.ok.hd hc) st (show s.heap.IsTuple a its.toArray from p) (by simp;omega) fun h' eb=>⟨rfl,I.turned (t':=s.toks) (fun b o hb e=>eb b o hb e) f0 f1 f3 f4 f5⟩
 self:=fun _ _ _ _ _ st h=>wpAny_pyIter_tupleiter st h
def Wm{P:Program}{w:World}{K:Fg}{tg:Expr}(it:AD)(lo:Int)(n:Nat):Turn P w K tg (Qx lo n) [it] it (fun i h=>IsRangeIter h it (lo+(i:Nat)*1) ((n:Int)-(i:Nat)) 1) where
 mem:=by simp
 obj:=fun i h st b hb=>by
  have e:b=it:=by simpa using hb
  subst e;exact⟨_,st,fun v z=>by
   have z':Data.fields _=Data.cell v:=z;cases z'⟩
 keep:=fun i h h' st k=>k it (by simp) _ st
 item:=by
  intro X hP hw hK hc i pins s σ H E I hf st hg;subst hP hw hK;obtain⟨f0,f1,f2,f3,f4,f5⟩:=hf it (by simp);have W:=Walks.range (prog:=X.prog) (w:=X.w) (I.ok.hd hc) it lo 1 n;refine W.item i s _ _ hg st fun v h' tk hv st' kk=>?_;obtain⟨t,rfl⟩:=hv;have I1:Inv X pins σ H {s with heap:=h',toks:=tk}:=I.turned (fun b o hb e=>kk b o (by simpa using hb) e) f0 f1 f3 f4 f5;refine⟨_,rfl,Wq (s:={s with heap:=h',toks:=tk}) (n := "range_iterator") st' rfl rfl (by decide) ⟨.int (lo+i),H,I1,⟨t,?_⟩,⟨rfl,rfl⟩,st',fun b hb=>(hf b hb).1⟩⟩;rw[Int.mul_one]
 done:=by
  intro X hP hw hK hc i pins s σ H E I hf st hg;subst hP hw hK;obtain⟨f0,f1,f2,f3,f4,f5⟩:=hf it (by simp);exact wpAny_pyNext_range_end (I.ok.hd hc) st (by have:n≤i:=hg;omega) fun h' eb=>⟨rfl,I.turned (t':=s.toks) (fun b o hb e=>eb b o hb e) f0 f1 f3 f4 f5⟩
 self:=fun _ _ _ _ _ st h=>wpAny_pyIter_rangeiter st h
section
variable{X:Cx}{tg:Expr}
def lE(K:Fg)(tl:TE):TI:=fun σ H R=>tl σ H fun x H1=>∃a,x=.ref a∧(∃xs,Ab K H1 a xs)∧R (VW K a) H1
def nE(K:Fg)(tl:TE):TI:=fun σ H R=>tl σ H fun x H1=>∃a,x=.ref a∧(∃xs,Ay K H1 a xs)∧R (Vb K a) H1
def EY{l:Expr}{tl:TE}(hl:PE X l tl):PI X tg l (lE X.K tl):=by
 intro pins s σ H R I h;refine BN (hl pins s σ H _ I h) fun v s1 ⟨x,H1,I1,r1,q1⟩=>?_;obtain⟨a,e,⟨xs,hq⟩,q⟩:=q1;subst e;cases r1;obtain⟨its,rv,p,hz⟩:=I1.list hq;refine wpAny_pyIter_list p.isList ?_;refine⟨s1.heap.objs.size,[s1.heap.objs.size],_,_,H1,rfl,I1.kept (t':=s1.toks) fun b o e=>aD _ e,Yn a _,⟨_,Heap.get?_push_size _ rfl,rfl,rfl⟩,fun b hb=>?_,q⟩;have e:b=s1.heap.objs.size:=by simpa using hb
 subst e;exact I1.Ov (aG _) (I1.Ap.fresh (aG _))
def SQ{l:Expr}{tl:TE}(hl:PE X l tl):PI X tg l (nE X.K tl):=by
 intro pins s σ H R I h;refine BN (hl pins s σ H _ I h) fun v s1 ⟨x,H1,I1,r1,q1⟩=>?_;obtain⟨a,e,⟨xs,hq⟩,q⟩:=q1;subst e;cases r1;obtain⟨its,rv,p,hz⟩:=I1.tuple hq;refine wpAny_pyIter_tuple (show s1.heap.IsTuple a its.toArray from p) ?_;refine⟨s1.heap.objs.size,[s1.heap.objs.size],_,_,H1,rfl,I1.kept (t':=s1.toks) fun b o e=>aD _ e,WS a _,⟨_,Heap.get?_push_size _ rfl,rfl,rfl⟩,fun b hb=>?_,q⟩;have e:b=s1.heap.objs.size:=by simpa using hb
 subst e;exact I1.Ov (aG _) (I1.Ap.fresh (aG _))
def UQ{pins:List (AD×Obj)}{σ:St}{H:Hp}{s:SD}{R:It→Hp→Prop}{E:VL→SD→Prop}{lo hi:Int}{t u v:Tok}{tk:Nat}(I:Inv X pins σ H s)(h1:-(2^62)≤lo)(h2:lo<2^62)(h3:-(2^62)≤hi)(h4:hi<2^62)
 (q:R (Qx lo (hi-lo).toNat) H):wpAny (model X.prog X.w) X.A (pyIter (.ref s.heap.objs.size)) (l6 X pins σ tg R) E {s with heap:=s.heap.push { cls:=.type "range",data:=.fields #[.int lo t,.int hi u,.int 1 v]},toks:=tk}:=by
 refine wpAny_pyIter_range (IsRange.new ..) (small_one h1 h2 h3 h4) ?_;have I1:Inv X pins σ H {s with heap:=s.heap.push { cls:=.type "range",data:=.fields #[.int lo t,.int hi u,.int 1 v]},toks:=tk}:=I.kept fun b o e=>aD _ e;refine⟨(s.heap.push { cls:=.type "range",data:=.fields #[.int lo t,.int hi u,.int 1 v]}).objs.size,[(s.heap.push { cls:=.type "range",data:=.fields #[.int lo t,.int hi u,.int 1 v]}).objs.size],_,_,H,rfl,
  I1.kept (t':=tk) fun b o e=>aD _ e,Wm _ lo (hi-lo).toNat,?_,fun b hb=>?_,q⟩
 ·have e1:lo+((0:Nat):Int)*1=lo:=by simp
  have e2:(((hi-lo).toNat:Nat):Int)-((0:Nat):Int)=Builtin.Range.rangeSize lo hi 1:=by rw[rangeSize_one];split<;>omega
  show IsRangeIter _ _ (lo+((0:Nat):Int)*1) ((((hi-lo).toNat:Nat):Int)-((0:Nat):Int)) 1;rw[e1,e2];exact aI _ rfl
 ·have e:b=(s.heap.push { cls:=.type "range",data:=.fields #[.int lo t,.int hi u,.int 1 v]}).objs.size:=by simpa using hb
  subst e;exact I1.Ov (aG _) (I1.Ap.fresh (aG _))
def k9(ta:TA):TI:=fun σ H R=>ta σ H fun vs H1=>∃j:Int,vs=[.int j]∧-(2^62)≤j∧j<2^62∧R (Qx 0 j.toNat) H1
def lP(ta:TA):TI:=fun σ H R=>ta σ H fun vs H1=>∃i j:Int,vs=[.int i,.int j]∧(-(2^62)≤i∧i<2^62∧-(2^62)≤j∧j<2^62)∧R (Qx i (j-i).toNat) H1
def Ml{a:Expr}{ta:TA}{p pos:Pos}(hg:Gl X "range")(hm:X.mg "range" = none)(ha:PA X [a] ta)(hs:starEach [a] X.env=[(false,eval a X.env)]:=by rfl):PI X tg (.Call (.Name "range" p) [a] [] pos) (k9 ta):=by
 intro pins s σ H R I h;refine Call_ (GD I hg hm boot_range (az (BN (ha pos pins s σ H _ I h) fun us s1 ⟨vs,H1,I1,r1,q1⟩=>?_) hs rfl));obtain⟨j,e,q1,q2,q⟩:=q1;subst e;cases r1 with
 |cons r rr =>
  cases rr;obtain⟨t,rfl⟩:=r;exact call_range_1 (UQ I1 (by omega) (by omega) q1 q2 (by simpa using q))
def Yx{a b:Expr}{ta:TA}{p pos:Pos}(hg:Gl X "range")(hm:X.mg "range" = none)(ha:PA X [a,b] ta)(hs:starEach [a,b] X.env=[(false,eval a X.env),(false,eval b X.env)]:=by rfl)(hs2:starEach [b] X.env=[(false,eval b X.env)]:=by rfl) :
  PI X tg (.Call (.Name "range" p) [a,b] [] pos) (lP ta):=by
 intro pins s σ H R I h;refine Call_ (GD I hg hm boot_range (az (BN (ha pos pins s σ H _ I h) fun us s1 ⟨vs,H1,I1,r1,q1⟩=>?_) (by rw[hs,hs2]) (by rw[hs2];rfl)));obtain⟨i,j,e,⟨q1,q2,q3,q4⟩,q⟩:=q1;subst e;cases r1 with
 |cons r rr =>
  cases rr with
  |cons r' rr =>
   cases rr;obtain⟨t,rfl⟩:=r;obtain⟨t',rfl⟩:=r';exact call_range_2 (UQ I1 q1 q2 q3 q4 q)
def mR(wi:TI)(g:TG)(tb:TS):TS:=fun D σ H=>wi σ H fun J H1=>∃W:Nat→Nat→St→Hp→Prop,(∃m,W 0 m σ H1)∧∀i m σ H,W i m σ H →
 (J.stop i H∧D.nx σ H)∨(J.go i H∧∃N:St→Hp→Prop,(∀σ' H',N σ' H'→∃m',m'<m∧W (i+1) m' σ' H')∧∀x H',J.Ef i H x H'→g x σ H' fun σ2 H2=>tb {D with nx:=N,ct:=N,bk:=D.nx} σ2 H2)
def NI(fp:List AD)(h:Heap):List (AD×Obj):=fp.filterMap fun b=>(h.get? b).map fun o=>(b,o)
def JR{fp:List AD}{h:Heap}{b:AD}{o:Obj}(hb:b∈fp)(e:h.get? b=some o):(b,o)∈NI fp h:=List.mem_filterMap.mpr ⟨b,hb,by rw[e];rfl⟩
def XU{fp:List AD}{h:Heap}{p:AD×Obj}(hp:p∈NI fp h):p.1∈fp∧h.get? p.1=some p.2:=by
 obtain⟨b,hb,e⟩:=List.mem_filterMap.mp hp;cases q:h.get? b with
 |none=>rw[q]at e;cases e
 |some o =>
  rw[q]at e;have e':(b,o)=p:=ao e;subst e';exact⟨hb,q⟩
def Inv.pinned{pins:List (AD×Obj)}{σ:St}{H:Hp}{s:SD}{fp:List AD}(I:Inv X pins σ H s)(hf:∀b∈fp,LB X pins H b)(ho:∀b∈fp,∃o,s.heap.get? b=some o∧∀v,o.data≠.cell v):Inv X (pins++NI fp s.heap) σ H s :=
 I.U4 fun p hp=>(bR.mp hp).elim (fun z=>I.pin p (ah _ z)) fun z=>by
  obtain⟨hb,e⟩:=XU z;obtain⟨f0,f1,f2,_⟩:=hf p.1 hb;obtain⟨o,e',d⟩:=ho p.1 hb;rw[e]at e';cases e';exact⟨e,f0,f1,f2,d⟩
def Inv.Lp{pins pl:List (AD×Obj)}{σ:St}{H:Hp}{s:SD}(I:Inv X (pins++pl) σ H s):Inv X pins σ H s:=I.U4 fun p hp=>I.pin p (ah _ (List.mem_append_left _ hp))
def F9{iter:Expr}{body:List Stmt}{wi:TI}{g:TG}{tb:TS}{pos:Pos}(hp:PassesOwn (model X.prog X.w) X.A X.env X.xe)(hc:X.calm=true)(hi:PI X tg iter wi)(hg:PG X tg g)(hb:HI X body tb)
 (hs:∀x,foldedSetIterable iter X.env x=pure x:=by intro _;rfl):PS X (.For tg iter body [] pos) (mR wi g tb):=by
 intro pins s σ H D I h;refine wpAny_For (BN (hi pins s σ H _ I h) fun v s1 h1=>BN h1 fun itv s2 h2=>?_) hs;obtain⟨it,fp,tn,J,H2,e,I2,T,st2,f2,W,⟨m0,w0⟩,turn⟩:=h2;subst e;have stat:∀ {H':Hp},(∀b∈fp,H' b=none)→∀b∈fp,LB X pins H' b:=fun hn b hb=>⟨hn b hb,(f2 b hb).2⟩;refine codeAny_forLoop_any (fun n s'=>∃i σ' H',Inv X pins σ' H' s'∧tn i s'.heap∧(∀b∈fp,H' b=none)∧W i n σ' H') ?_ m0 ⟨0,σ,H2,I2,st2,fun b hb=>(f2 b hb).1,w0⟩;rintro n s3 ⟨i,σ3,H3,I3,st3,fr3,w3⟩;rcases turn i n σ3 H3 w3 with ⟨stop,qn⟩|⟨go,N,hN,step⟩
 ·refine wpAny_passesOwn hp (BN (T.done X rfl rfl rfl hc i pins s3 σ3 H3 X.xe I3 (stat fr3) st3 stop) fun r s4 ⟨hr,I4⟩=>?_);subst hr;exact wpAny_execs_nil ⟨σ3,H3,I4,qn⟩
 ·refine wpAny_passesOwn hp (BN (T.item X rfl rfl rfl hc i pins s3 σ3 H3 X.xe I3 (stat fr3) st3 go) fun r s4 ⟨u,hr,h4⟩=>?_);subst hr;refine wpAny_passesOwn hp (BN h4 fun _ s5 ⟨x,H5,I5,r5,y5,st5,fr5⟩=>?_);have I5':=I5.pinned (stat fr5) (T.obj _ _ st5);refine wpAny_passesOwn hp (BN (hg _ s5 σ3 H5 x u _ I5' r5 (step x H5 y5)) fun _ s6 ⟨σ6,H6,I6,q6⟩=>?_);refine wpAny_passesOwn hp (BN (hb _ s6 σ6 H6 _ I6 q6) fun f s7 q7=>?_);have again:∀ {σ7:St} {H7:Hp},Inv X (pins++NI fp s5.heap) σ7 H7 s7→N σ7 H7→∃m,m<n∧∃i σ' H',Inv X pins σ' H' s7∧tn i s7.heap∧(∀b∈fp,H' b=none)∧W i m σ' H':=fun {σ7 H7} I7 n7=>by
   obtain⟨m',hm,w7⟩:=hN σ7 H7 n7;refine⟨m',hm,i+1,σ7,H7,I7.Lp,T.keep _ _ _ st5 fun b hb o e=>(I7.pin (b,o) (ah _ (ah _ (JR hb e)))).1,fun b hb=>?_,w7⟩;obtain⟨o,e,d⟩:=T.obj _ _ st5 b hb;exact(I7.pin (b,o) (ah _ (ah _ (JR hb e)))).2.1
  cases f with
  |next=>obtain⟨σ7,H7,I7,n7⟩:=q7;exact again I7 n7
  |cont=>obtain⟨σ7,H7,I7,n7⟩:=q7;exact again I7 n7
  |brk=>obtain⟨σ7,H7,I7,q7⟩:=q7;exact⟨σ7,H7,I7.Lp,q7⟩
  |ret v=>obtain⟨x7,σ7,H7,I7,r7,q7⟩:=q7;exact⟨x7,σ7,H7,I7.Lp,r7,q7⟩
end
def Lx{K:Fg}{a:AD}{xs:List V}{g:TG}{tb:TS}{D:Ends}{σ:St}{H:Hp}(Pv:Nat→St→Hp→Prop)(h0:Pv 0 σ H)(hl:∀i σ H,i≤xs.length→Pv i σ H→Ab K H a xs)
 (hs:∀i x σ H,xs[i]? = some x→Pv i σ H→g x σ H fun σ2 H2=>tb {D with nx:=Pv (i+1),ct:=Pv (i+1),bk:=D.nx} σ2 H2)(hd:∀σ H,Pv xs.length σ H→D.nx σ H) :
  ∃W:Nat→Nat→St→Hp→Prop,(∃m,W 0 m σ H)∧∀i m σ H,W i m σ H →
   ((VW K a).stop i H∧D.nx σ H)∨((VW K a).go i H∧∃N:St→Hp→Prop,(∀σ' H',N σ' H'→∃m',m'<m∧W (i+1) m' σ' H')∧∀x H',(VW K a).Ef i H x H'→g x σ H' fun σ2 H2=>tb {D with nx:=N,ct:=N,bk:=D.nx} σ2 H2):=by
 refine⟨fun i m σ H=>m=xs.length-i∧i≤xs.length∧Pv i σ H,⟨xs.length,by simp,Nat.zero_le _,h0⟩,?_⟩;rintro i m σ H ⟨rfl,hi,p⟩;have q:=hl i σ H hi p;by_cases hlt:i<xs.length
 ·refine .inr ⟨⟨xs,xs[i],q,by simp[hlt]⟩,Pv (i+1),fun σ' H' p'=>⟨xs.length-(i+1),by omega,rfl,hlt,p'⟩,fun x H' y=>?_⟩;obtain⟨e,y⟩:=y;subst e;exact hs i x σ _ (y xs q) p
 ·have e:i=xs.length:=by omega
  subst e;exact .inl ⟨⟨xs,q,Nat.le_refl _⟩,hd σ H p⟩
def eg{K:Fg}{a:AD}{xs:List V}{g:TG}{tb:TS}{D:Ends}{σ:St}{H:Hp}(Pv:Nat→St→Hp→Prop)(h0:Pv 0 σ H)(hl:∀i σ H,i≤xs.length→Pv i σ H→Ay K H a xs)
 (hs:∀i x σ H,xs[i]? = some x→Pv i σ H→g x σ H fun σ2 H2=>tb {D with nx:=Pv (i+1),ct:=Pv (i+1),bk:=D.nx} σ2 H2)(hd:∀σ H,Pv xs.length σ H→D.nx σ H) :
  ∃W:Nat→Nat→St→Hp→Prop,(∃m,W 0 m σ H)∧∀i m σ H,W i m σ H →
   ((Vb K a).stop i H∧D.nx σ H)∨((Vb K a).go i H∧∃N:St→Hp→Prop,(∀σ' H',N σ' H'→∃m',m'<m∧W (i+1) m' σ' H')∧∀x H',(Vb K a).Ef i H x H'→g x σ H' fun σ2 H2=>tb {D with nx:=N,ct:=N,bk:=D.nx} σ2 H2):=by
 refine⟨fun i m σ H=>m=xs.length-i∧i≤xs.length∧Pv i σ H,⟨xs.length,by simp,Nat.zero_le _,h0⟩,?_⟩;rintro i m σ H ⟨rfl,hi,p⟩;have q:=hl i σ H hi p;by_cases hlt:i<xs.length
 ·refine .inr ⟨⟨xs,xs[i],q,by simp[hlt]⟩,Pv (i+1),fun σ' H' p'=>⟨xs.length-(i+1),by omega,rfl,hlt,p'⟩,fun x H' y=>?_⟩;obtain⟨e,y⟩:=y;subst e;exact hs i x σ _ (y xs q) p
 ·have e:i=xs.length:=by omega
  subst e;exact .inl ⟨⟨xs,q,Nat.le_refl _⟩,hd σ H p⟩
def Q8{lo:Int}{n:Nat}{g:TG}{tb:TS}{D:Ends}{σ:St}{H:Hp}(Pv:Nat→St→Hp→Prop)(h0:Pv 0 σ H)
 (hs:∀i σ H,i<n→Pv i σ H→g (.int (lo+i)) σ H fun σ2 H2=>tb {D with nx:=Pv (i+1),ct:=Pv (i+1),bk:=D.nx} σ2 H2)(hd:∀σ H,Pv n σ H→D.nx σ H) :
  ∃W:Nat→Nat→St→Hp→Prop,(∃m,W 0 m σ H)∧∀i m σ H,W i m σ H →
   ((Qx lo n).stop i H∧D.nx σ H)∨((Qx lo n).go i H∧∃N:St→Hp→Prop,(∀σ' H',N σ' H'→∃m',m'<m∧W (i+1) m' σ' H')∧∀x H',(Qx lo n).Ef i H x H'→g x σ H' fun σ2 H2=>tb {D with nx:=N,ct:=N,bk:=D.nx} σ2 H2):=by
 refine⟨fun i m σ H=>m=n-i∧i≤n∧Pv i σ H,⟨n,by simp,Nat.zero_le _,h0⟩,?_⟩;rintro i m σ H ⟨rfl,hi,p⟩;by_cases hlt:i<n
 ·refine .inr ⟨hlt,Pv (i+1),fun σ' H' p'=>⟨n-(i+1),by omega,rfl,hlt,p'⟩,fun x H' y=>?_⟩;obtain⟨e,y⟩:=y;subst e y;exact hs i σ _ hlt p
 ·have e:i=n:=by omega
  subst e;exact .inl ⟨aG _,hd σ H p⟩
def OS{c:TT}{tb:TS}{D:Ends}{σ:St}{H:Hp}(Pv:St→Hp→Prop)(μ:St→Hp→Nat)(h0:Pv σ H)
 (hs:∀σ H,Pv σ H→c σ H fun b H1=>if b=true then tb {D with nx:=fun σ' H'=>Pv σ' H'∧μ σ' H'<μ σ H,ct:=fun σ' H'=>Pv σ' H'∧μ σ' H'<μ σ H,bk:=D.nx} σ H1 else D.nx σ H1)
 (mono:∀σ H Q Q',(∀b H1,Q b H1→Q' b H1)→c σ H Q→c σ H Q'):Yq c tb D σ H:=by
 refine⟨fun m σ H=>m=μ σ H∧Pv σ H,⟨_,rfl,h0⟩,?_⟩;rintro m σ H ⟨rfl,p⟩;refine mono σ H _ _ (fun b H1 q=>?_) (hs σ H p);cases b with
 |true=>exact⟨_,fun σ' H' ⟨p',l⟩=>⟨_,l,rfl,p'⟩,q⟩
 |false=>exact q
abbrev R2:=V→V→Hp→VK→Prop
def Ct(X:Cx)(f:VL→VL→Sem VL)(r:R2):Prop :=
 ∀(pins:List (AD×Obj)) (s:SD) (σ:St) (H:Hp) (x y:V) (v u:VL) (Q:VK),Inv X pins σ H s→RelV x v→RelV y u→r x y H Q →
  wpAny (model X.prog X.w) X.A (f v u) (EP X pins σ Q) X.xe s
def ib(X:Cx)(f:VL→Sem VL)(r:V→Hp→VK→Prop):Prop :=
 ∀(pins:List (AD×Obj)) (s:SD) (σ:St) (H:Hp) (x:V) (v:VL) (Q:VK),Inv X pins σ H s→RelV x v→r x H Q →
  wpAny (model X.prog X.w) X.A (f v) (EP X pins σ Q) X.xe s
def DV(X:Cx)(f:VL)(r:List V→Hp→VK→Prop):Prop :=
 ∀(pins:List (AD×Obj)) (s:SD) (σ:St) (H:Hp) (xs:List V) (us:List VL) (Q:VK),Inv X pins σ H s→Vals xs us→r xs H Q →
  wpAny (model X.prog X.w) X.A (call f us) (EP X pins σ Q) X.xe s
def Xk(r:R2)(ta tb:TE):TE:=fun σ H Q=>ta σ H fun x H1=>tb σ H1 fun y H2=>r x y H2 Q
def oE(r:V→Hp→VK→Prop)(ta:TE):TE:=fun σ H Q=>ta σ H fun x H1=>r x H1 Q
def rI(C:Int→Int→Prop)(g:Int→Int→V):R2:=fun x y H Q=>∃i j,x=.int i∧y=.int j∧C i j∧Q (g i j) H
def RQ(g:Int→Int→V):R2:=fun x y H Q=>∃i j,x=.int i∧y=.int j∧Q (g i j) H
def rU(g:Int→V):V→Hp→VK→Prop:=fun x H Q=>∃i,x=.int i∧Q (g i) H
section
variable{X:Cx}{a b c:Expr}{ta tb tc:TE}{pos:Pos}
def ZS(ha:PE X a ta)(hb:PE X b tb){pins:List (AD×Obj)}{s:SD}{σ:St}{H:Hp}{R:V→V→Hp→Prop}(I:Inv X pins σ H s)
 (h:ta σ H fun x H1=>tb σ H1 fun y H2=>R x y H2){Q:VL→SD→Prop}{f:VL→VL→Sem VL}
 (hf:∀v u s2 x y H2,Inv X pins σ H2 s2→RelV x v→RelV y u→R x y H2→wpAny (model X.prog X.w) X.A (f v u) Q X.xe s2) :
  wpAny (model X.prog X.w) X.A (eval a X.env) (fun v s₁=>wpAny (model X.prog X.w) X.A (eval b X.env) (fun u s₂=>wpAny (model X.prog X.w) X.A (f v u) Q X.xe s₂) X.xe s₁) X.xe s:=by
 refine BN (ha pins s σ H _ I h) fun v s1 ⟨x,H1,I1,r1,q1⟩=>?_;refine BN (hb pins s1 σ H1 _ I1 q1) fun u s2 ⟨y,H2,I2,r2,q2⟩=>?_;exact hf v u s2 x y H2 I2 r1 r2 q2
def Ax{op:Operator}{r:R2}(ho:Ct X (binaryOp op) r)(ha:PE X a ta)(hb:PE X b tb):PE X (.BinOp a op b pos) (Xk r ta tb):=by
 intro pins s σ H Q I h;exact wpAny_BinOp (ZS ha hb I h fun v u s2 x y H2 I2 rx ry q=>ho pins s2 σ H2 x y v u Q I2 rx ry q)
def PN{op:UnaryOp}{r:V→Hp→VK→Prop}(ho:ib X (unaryOp op) r)(ha:PE X a ta):PE X (.UnaryOp op a pos) (oE r ta):=by
 intro pins s σ H Q I h;exact UnaryOp_ (BN (ha pins s σ H _ I h) fun v s1 ⟨x,H1,I1,r1,q1⟩=>ho pins s1 σ H1 x v Q I1 r1 q1)
def VZ{f:VL→VL→Sem VL}{C:Int→Int→Prop}{g:Int→Int→Int}
 (rule:∀(i j:Int) (t u:Tok) (s:SD) (Q:VL→SD→Prop) (E:VL→SD→Prop),C i j→Q (.int (g i j) s.toks) {s with toks:=s.toks+1}→wpAny (model X.prog X.w) X.A (f (.int i t) (.int j u)) Q E s) :
  Ct X f (rI C fun i j=>.int (g i j)):=by
 intro pins s σ H x y v u Q I rx ry h;obtain⟨i,j,rfl,rfl,hc,q⟩:=h;obtain⟨t,rfl⟩:=rx;obtain⟨t',rfl⟩:=ry;exact rule i j t t' s _ _ hc ⟨.int (g i j),H,I.tok _,⟨_,rfl⟩,q⟩
def ji{f:VL→VL→Sem VL}{g:Int→Int→Int}
 (rule:∀(i j:Int) (t u:Tok) (s:SD) (Q:VL→SD→Prop) (E:VL→SD→Prop),Q (.int (g i j) s.toks) {s with toks:=s.toks+1}→wpAny (model X.prog X.w) X.A (f (.int i t) (.int j u)) Q E s) :
  Ct X f (RQ fun i j=>.int (g i j)):=by
 intro pins s σ H x y v u Q I rx ry h;obtain⟨i,j,rfl,rfl,q⟩:=h;obtain⟨t,rfl⟩:=rx;obtain⟨t',rfl⟩:=ry;exact rule i j t t' s _ _ ⟨.int (g i j),H,I.tok _,⟨_,rfl⟩,q⟩
def ZC{f:VL→VL→Sem VL}{g:Int→Int→Bool}
 (rule:∀(i j:Int) (t u:Tok) (s:SD) (Q:VL→SD→Prop) (E:VL→SD→Prop),Q (.bool (g i j)) s→wpAny (model X.prog X.w) X.A (f (.int i t) (.int j u)) Q E s) :
  Ct X f (RQ fun i j=>.bl (g i j)):=by
 intro pins s σ H x y v u Q I rx ry h;obtain⟨i,j,rfl,rfl,q⟩:=h;obtain⟨t,rfl⟩:=rx;obtain⟨t',rfl⟩:=ry;exact rule i j t t' s _ _ ⟨.bl (g i j),H,I,rfl,q⟩
def nV(i j:Int):Prop:=0<j∧j<1073741824
def ni(i j:Int):Prop:=0≤j∧j≤1000000∧i.natAbs<2^64
def UB(i j:Int):Prop:=(-(2^64)<i∧i<2^64)∨(-(2^64)<j∧j<2^64)
def UB.ok{i j:Int}(h:UB i j):IntMulOk i j:=by
 rcases h with ⟨h1,h2⟩|⟨h1,h2⟩
 ·exact .of_left (intBits_le_64 h1 h2)
 ·exact .of_right (intBits_le_64 h1 h2)
def Mv:Ct X (binaryOp .Add) (RQ fun i j=>.int (i+j)):=ji fun _ _ _ _ _ _ _ q=>add_int q
def Ms:Ct X (binaryOp .Sub) (RQ fun i j=>.int (i-j)):=ji fun _ _ _ _ _ _ _ q=>sub_int q
def DJ:Ct X (binaryOp .FloorDiv) (rI nV fun i j=>.int (i / j)):=VZ fun i j _ _ _ _ _ hc q=>by
 have h1:(0:Int)<j:=hc.1;have h2:j<1073741824:=hc.2;exact floordiv_int (by omega) (by rw[Int.fdiv_eq_ediv_of_nonneg i (by omega)];exact q) (.inl (PyProof.noPylong_small (by omega)))
def HW:Ct X (binaryOp .Mod) (rI (fun _ j=>0<j) fun i j=>.int (i % j)):=VZ fun i j _ _ _ _ _ hc q=>by
 have h1:(0:Int)<j:=hc;exact mod_int' (by omega) (by rw[Int.fmod_eq_emod_of_nonneg i (by omega)];exact q)
def Hg:Ct X (binaryOp .Mod) (rI (fun _ j=>j≠0) fun i j=>.int (i.fmod j)):=VZ fun _ _ _ _ _ _ _ hc q=>mod_int' hc q
def jE:Ct X (binaryOp .Pow) (rI ni fun i j=>.int (i^j.toNat)):=VZ fun _ _ _ _ _ _ _ hc q=>pow_int_small hc.1 hc.2.1 hc.2.2 q
def oT{f:VL→Sem VL}{g:Int→Int}
 (rule:∀(i:Int) (t:Tok) (s:SD) (Q:VL→SD→Prop) (E:VL→SD→Prop),Q (.int (g i) s.toks) {s with toks:=s.toks+1}→wpAny (model X.prog X.w) X.A (f (.int i t)) Q E s) :
  ib X f (rU fun i=>.int (g i)):=by
 intro pins s σ H x v Q I rx h;obtain⟨i,rfl,q⟩:=h;obtain⟨t,rfl⟩:=rx;exact rule i t s _ _ ⟨.int (g i),H,I.tok _,⟨_,rfl⟩,q⟩
def Mx:ib X (unaryOp .USub) (rU fun i=>.int (-i)):=oT fun _ _ _ _ _ q=>neg_int q
end
def f9:V→V→Bool
 |.BF,.BF=>true|.BF,.int _=>true|.int _,.BF=>true|.BF,.bl _=>true|.bl _,.BF=>true|.BF,.str _=>true|.str _,.BF=>true
 |.int _,.int _=>true|.bl _,.bl _=>true|.str _,.str _=>true|.NH _,.NH _=>true
 |.int _,.str _=>true|.str _,.int _=>true|.bl _,.str _=>true|.str _,.bl _=>true
 |_,_=>false
def oI:R2:=fun x y H Q=>f9 x y=true∧Q (.bl (decide (x=y))) H
def oK:R2:=fun x y H Q=>f9 x y=true∧Q (.bl (!decide (x=y))) H
def VY{i j:Int}:decide (V.int i=V.int j)=(i==j):=by
 rw[Bool.eq_iff_iff];simp
def YR{i j:Bool}:decide (V.bl i=V.bl j)=(i==j):=by
 rw[Bool.eq_iff_iff];simp
def Vk{i j:Str}:decide (V.str i=V.str j)=(i==j):=by
 rw[Bool.eq_iff_iff];simp
def VU{i j:Array UInt8}:decide (V.NH i=V.NH j)=(i.toList==j.toList):=by
 rw[Bool.eq_iff_iff];cases i;cases j;simp
section
variable{X:Cx}{a b c:Expr}{ta tb tc:TE}{pos:Pos}
def BV{pins:List (AD×Obj)}{σ:St}{H:Hp}{s:SD}{Q:VK}{k k':Bool}(I:Inv X pins σ H s)(q:Q (.bl k) H)(e:k=k'):EP X pins σ Q (.bool k') s:=by
 subst e;exact⟨.bl k,H,I,rfl,q⟩
def FH:Ct X (compareOp .Eq) oI:=by
 intro pins s σ H x y v u Q I rx ry h;obtain⟨hs,q⟩:=h;cases x with
 |BF =>
  cases rx;cases y with
  |BF=>cases ry;exact PySem.EqNone.eq_none_none (BV I q (by simp))
  |bl j=>cases ry;exact PySem.EqNone.eq_none_bool (BV I q (by simp))
  |int j=>obtain⟨t',rfl⟩:=ry;exact PySem.EqNone.eq_none_int (BV I q (by simp))
  |str j=>obtain⟨t',rfl⟩:=ry;exact PySem.EqNone.eq_none_str (BV I q (by simp))
  |_=>exact absurd (show false=true from hs) aK
 |bl i =>
  cases rx;cases y with
  |BF=>cases ry;exact PySem.EqNone.eq_bool_none (BV I q (by simp))
  |bl j=>cases ry;exact eq_bool (BV I q YR)
  |str j=>obtain⟨t',rfl⟩:=ry;exact PySem.EqMixed.eq_bool_str (BV I q (by simp))
  |_=>exact absurd (show false=true from hs) aK
 |int i =>
  obtain⟨t,rfl⟩:=rx;cases y with
  |BF=>cases ry;exact PySem.EqNone.eq_int_none (BV I q (by simp))
  |int j=>obtain⟨t',rfl⟩:=ry;exact eq_int (BV I q VY)
  |str j=>obtain⟨t',rfl⟩:=ry;exact PySem.EqMixed.eq_int_str (BV I q (by simp))
  |_=>exact absurd (show false=true from hs) aK
 |str i =>
  obtain⟨t,rfl⟩:=rx;cases y with
  |BF=>cases ry;exact PySem.EqNone.eq_str_none (BV I q (by simp))
  |bl j=>cases ry;exact PySem.EqMixed.eq_str_bool (BV I q (by simp))
  |int j=>obtain⟨t',rfl⟩:=ry;exact PySem.EqMixed.eq_str_int (BV I q (by simp))
  |str j=>obtain⟨t',rfl⟩:=ry;exact eq_str (BV I q Vk)
  |_=>exact absurd (show false=true from hs) aK
 |NH i =>
  obtain⟨t,rfl⟩:=rx;cases y with
  |NH j=>obtain⟨t',rfl⟩:=ry;exact PySem.W.eq_bytes (BV I q VU)
  |_=>exact absurd (show false=true from hs) aK
 |_=>cases y<;>exact absurd (show false=true from hs) aK
def SF:Ct X (compareOp .NotEq) oK:=by
 intro pins s σ H x y v u Q I rx ry h;obtain⟨hs,q⟩:=h;cases x with
 |BF =>
  cases rx;cases y with
  |BF=>cases ry;exact PySem.EqNone.ne_none_none (BV I q (by simp))
  |bl j=>cases ry;exact PySem.EqNone.ne_none_bool (BV I q (by simp))
  |int j=>obtain⟨t',rfl⟩:=ry;exact PySem.EqNone.ne_none_int (BV I q (by simp))
  |str j=>obtain⟨t',rfl⟩:=ry;exact PySem.EqNone.ne_none_str (BV I q (by simp))
  |_=>exact absurd (show false=true from hs) aK
 |bl i =>
  cases rx;cases y with
  |BF=>cases ry;exact PySem.EqNone.ne_bool_none (BV I q (by simp))
  |bl j=>cases ry;exact ne_bool (BV I q (bJ not YR))
  |str j=>obtain⟨t',rfl⟩:=ry;exact PySem.EqMixed.ne_bool_str (BV I q (by simp))
  |_=>exact absurd (show false=true from hs) aK
 |int i =>
  obtain⟨t,rfl⟩:=rx;cases y with
  |BF=>cases ry;exact PySem.EqNone.ne_int_none (BV I q (by simp))
  |int j=>obtain⟨t',rfl⟩:=ry;exact ne_int (BV I q (bJ not VY))
  |str j=>obtain⟨t',rfl⟩:=ry;exact PySem.EqMixed.ne_int_str (BV I q (by simp))
  |_=>exact absurd (show false=true from hs) aK
 |str i =>
  obtain⟨t,rfl⟩:=rx;cases y with
  |BF=>cases ry;exact PySem.EqNone.ne_str_none (BV I q (by simp))
  |bl j=>cases ry;exact PySem.EqMixed.ne_str_bool (BV I q (by simp))
  |int j=>obtain⟨t',rfl⟩:=ry;exact PySem.EqMixed.ne_str_int (BV I q (by simp))
  |str j=>obtain⟨t',rfl⟩:=ry;exact ne_str (BV I q (bJ not Vk))
  |_=>exact absurd (show false=true from hs) aK
 |NH i =>
  obtain⟨t,rfl⟩:=rx;cases y with
  |NH j=>obtain⟨t',rfl⟩:=ry;exact PySem.W.ne_bytes (BV I q (bJ not VU))
  |_=>exact absurd (show false=true from hs) aK
 |_=>cases y<;>exact absurd (show false=true from hs) aK
def PU:Ct X (compareOp .Lt) (RQ fun i j=>.bl (decide (i<j))):=ZC fun _ _ _ _ _ _ _ q=>lt_int q
def JT:Ct X (compareOp .Gt) (RQ fun i j=>.bl (decide (j<i))):=ZC fun _ _ _ _ _ _ _ q=>gt_int q
def dC:Ct X (compareOp .GtE) (RQ fun i j=>.bl (decide (j≤i))):=ZC fun _ _ _ _ _ _ _ q=>ge_int q
def iX:Ct X (compareOp .Is) (fun x y H Q=>y=.BF∧Q (.bl (decide (x=.BF))) H):=by
 intro pins s σ H x y v u Q I rx ry h;obtain⟨rfl,q⟩:=h;cases ry;refine is_none_gen (BV I q ?_);cases x<;>first
  |(cases rx;rfl)
  |(obtain⟨t,rfl⟩:=rx;rfl)
def fI:Ct X (compareOp .IsNot) (fun x y H Q=>y=.BF∧Q (.bl (!decide (x=.BF))) H):=by
 intro pins s σ H x y v u Q I rx ry h;obtain⟨rfl,q⟩:=h;cases ry;refine isnot_none_gen (BV I q ?_);cases x<;>first
  |(cases rx;rfl)
  |(obtain⟨t,rfl⟩:=rx;rfl)
def Ct.or{f:VL→VL→Sem VL}{r r':R2}(h:Ct X f r)(h':Ct X f r'):Ct X f (fun x y H Q=>r x y H Q∨r' x y H Q):=by
 intro pins s σ H x y v u Q I rx ry q;rcases q with q|q
 ·exact h pins s σ H x y v u Q I rx ry q
 ·exact h' pins s σ H x y v u Q I rx ry q
def Ag(b:Expr){op:CmpOp}(h:op≠.In:=by decide)(h2:op≠.NotIn:=by decide):behindInMarks op b=false:=by
 have e1:(op==CmpOp.In)=false:=by cases op<;>first|rfl|exact absurd rfl h
 have e2:(op==CmpOp.NotIn)=false:=by cases op<;>first|rfl|exact absurd rfl h2
 cases b<;>simp[behindInMarks,e1,e2]
def NM{op:CmpOp}{r:R2}(ho:Ct X (compareOp op) r)(ha:PE X a ta)(hb:PE X b tb)(hm:behindInMarks op b=false):PE X (.Compare a [op] [b] pos) (Xk r ta tb):=by
 intro pins s σ H Q I h;exact wpAny_Compare1 (ZS ha hb I h fun v u s2 x y H2 I2 rx ry q=>ho pins s2 σ H2 x y v u Q I2 rx ry q) hm
def lG(t:TE):TT:=fun σ H Q=>t σ H fun x H'=>∃k,x=.bl k∧Q k H'
def BD{op:CmpOp}{r:R2}(ho:Ct X (compareOp op) r)(ha:PE X a ta)(hb:PE X b tb)(hm:behindInMarks op b=false):PT X (.Compare a [op] [b] pos) (lG (Xk r ta tb)):=by
 intro pins s σ H Q I h;refine wpAny_isTrue_Compare1 (BN (ha pins s σ H _ I h) fun v s1 ⟨x,H1,I1,r1,q1⟩=>BN (hb pins s1 σ H1 _ I1 q1) fun u s2 ⟨y,H2,I2,r2,q2⟩ =>
  BN (ho pins s2 σ H2 x y v u _ I2 r1 r2 q2) fun c s3 ⟨z,H3,I3,r3,k,e,q3⟩=>?_) hm
 subst e;cases r3;exact wpAny_truthy_bool ⟨H3,I3,q3⟩
def M5:(sizeLine:Nat)<2^63:=by rw[sizeLine_eq];decide
def Wi:Ct X (binaryOp .Add) (fun x y H Q=>∃i j,x=.str i∧y=.str j∧i.length+j.length≤sizeLine∧Q (.str (i++j)) H):=by
 intro pins s σ H x y v u Q I rx ry h;obtain⟨i,j,rfl,rfl,hz,q⟩:=h;obtain⟨t,rfl⟩:=rx;obtain⟨t',rfl⟩:=ry;exact add_str (fun t' tk=>⟨.str (i++j),H,I.tok _,⟨_,rfl⟩,q⟩) hz
def vals1{x:V}{us:List VL}(r:Vals [x] us):∃u,us=[u]∧RelV x u:=by
 cases r with
 |cons r1 r2=>cases r2;exact⟨_,rfl,r1⟩
def Lu:DV X (.builtin "abs") (fun xs H Q=>∃i,xs=[.int i]∧Q (.int (if i<0 then -i else i)) H):=by
 intro pins s σ H xs us Q I r h;obtain⟨i,rfl,q⟩:=h;obtain⟨u,rfl,t,rfl⟩:=vals1 r;exact call_abs_int fun u tk=>⟨.int (if i<0 then -i else i),H,I.tok _,⟨_,rfl⟩,q⟩
end
structure Zu(h:Heap)(x dx C:Addr)(mA:Str→Option Value):Prop where
 obj:h.get? x=some (PySem.W.instObj C dx)
 ns:h.Ns1 dx mA
 ne:dx≠x
def W5{h:Heap}{dx:AD}{mA:Str→Option VL}(n:h.Ns1 dx mA):∃od,h.get? dx=some od∧∀name,PySem.W.lookIn name od=some (mA name):=by
 obtain⟨o,es,ep,ho,hd,hk,_,hm⟩:=n;refine⟨o,ho,fun name=>?_⟩;have e:=hm name;unfold nsFind findBy at e;rw[←Array.find?_toList]at e;unfold PySem.W.lookIn;rw[hd];dsimp only;split
 ·rename_i y q;rw[q]at e;exact bJ some e
 ·rename_i q;rw[q]at e;have a:es.toList.any (·.refKey)=false:=by
   rw[List.any_eq_false];intro y hy;obtain⟨z,t,hkey⟩:=hk y (Array.mem_toList_iff.mp hy);simp[DictEntry.refKey,hkey]
  have a':¬es.toList.any (·.refKey)=true:=by rw[a];exact aK
  rw[if_neg a'];exact bJ some e
def Zu.look{h:Heap}{x dx C:AD}{mA:Str→Option VL}(I:Zu h x dx C mA):∃od,PySem.W.InstAt h x (PySem.W.instObj C dx) C (some od)∧∀name,PySem.W.lookIn name od=some (mA name) :=
 let⟨od,ho,hl⟩:=W5 I.ns
 ⟨od,⟨I.obj,rfl,rfl,ho⟩,hl⟩
section
variable{P:Program}{w:World}{H H':Hp}{h h':Heap}{a C dx:AD}{fs fs':List (Str×V)}
def dI(Ap:EG P w H h)(e:H a=some (.ins C dx fs)):∃mA,Zu h a dx C mA∧(∀f,bo (fs.lookup f) (mA f))∧PySem.Within mA (fs.map (·.1))∧fs.length≤1000∧H dx=some (.own a):=by
 obtain⟨d,z,ne,ob,mA,n,r,q⟩:=(show CU P w H h a (.ins C dx fs) from Ap a _ e);exact⟨mA,⟨ob,n,ne⟩,r,q,z,d⟩
end
structure gj(K:Fg)(C:Addr):Prop where
 pg:PySem.W.plainGet K C Str.empty=true
 hd:PySem.W.hasDictIn K C=true
 po:PySem.W.plainOver K C=true
 sa:PySem.W.findIn K (.ref C) "__setattr__" = some (some (.builtin "object.__setattr__"))
def gj.get{K:Fg}{C:AD}(c:gj K C)(f:Str):PySem.W.plainGet K C f=true:=c.pg
section
variable{X:Cx}{pins:List (AD×Obj)}{σ:St}{H:Hp}{s:SD}{A:Around}{E:VL→SD→Prop}{Q:VL→SD→Prop}{c:VL}{b:Bool}
inductive HX(K:Fg)(H:Hp):V→Value→Prop where
 |BF:HX K H .BF (.type "NoneType")
 |bl (x:Bool):HX K H (.bl x) (.type "bool")
 |int (i:Int):HX K H (.int i) (.type "int")
 |str (x:Str):HX K H (.str x) (.type "str")
 |Vq (x:UInt64):HX K H (.Vq x) (.type "float")
 |lst {a:Addr} {xs:List V} (e:H a=some (.lst xs)):HX K H (.ref a) (.type "list")
 |FN {a:Addr} {o:Obj} {xs:List V} (e:H a=some (.FN o (.lst xs))):HX K H (.ref a) (.type "list")
 |tup {a:Addr} {xs:List V} (e:H a=some (.tup xs)):HX K H (.ref a) (.type "tuple")
 |dK {a:Addr} {kvs:List (Key×V)} (e:H a=some (.dK kvs)):HX K H (.ref a) (.type "dict")
 |dT {a:Addr} {kvs:List (List Key×V)} (e:H a=some (.dT kvs)):HX K H (.ref a) (.type "dict")
 |ins {a C dx:Addr} {fs:List (Str×V)} (e:H a=some (.ins C dx fs)) (cl:gj K C) (ha:PySem.W.findIn K (.ref C) "__class__" = some (some (.builtin "object.__class__")))
   (hn:PySem.W.specialIn K (.builtin "object.__class__") "__get__" = some (some (.builtin "getset_descriptor.__get__"))) (htk:PySem.W.takesIn K (.builtin "object.__class__")=some true)
   (hm:PySem.W.mroIn K C (.type "object")=some true):HX K H (.ref a) (.ref C)
def XY{x:V}{u t:VL}(I:Inv X pins σ H s)(rx:RelV x u)(ty:HX X.K H x t)(e:PySem.W.kitOne X.K t c=some b)(h:∀tk,Q (.bool b) {s with toks:=tk}) :
  wpAny (model X.prog X.w) A (call (.builtin "isinstance") [u,c]) Q E s:=by
 cases ty with
 |BF=>cases (show u=Value.none from rx);exact bD PySem.W.kitx_none I.F0 True.intro e (fun z=>nomatch z) h
 |bl y=>cases (show u=Value.bool y from rx);exact bD PySem.W.kitx_bool I.F0 True.intro e (fun z=>nomatch z) h
 |int i=>obtain⟨t,q⟩:=(show ∃t,u=Value.int i t from rx);cases q;exact bD PySem.W.kitx_int I.F0 True.intro e (fun z=>nomatch z) h
 |str y=>obtain⟨t,q⟩:=(show ∃t,u=Value.str y t from rx);cases q;exact bD PySem.W.kitx_str I.F0 True.intro e (fun z=>nomatch z) h
 |Vq y=>obtain⟨t,q⟩:=(show ∃t,u=Value.float y t from rx);cases q;exact bD PySem.W.kitx_float I.F0 True.intro e (fun z=>nomatch z) h
 | @lst a xs ea =>
  cases (show u=Value.ref a from rx);obtain⟨_,_,n,_,h1⟩:=(show CU X.prog X.w H s.heap a (.lst xs) from I.Ap a _ ea);exact bD PySem.W.kitx_list I.F0 ⟨_,h1,rfl⟩ e (fun z=>nomatch z) h
 | @FN a ob xs ea =>
  cases (show u=Value.ref a from rx);obtain⟨_,_,_,n,_,h1⟩:=(show CU X.prog X.w H s.heap a (.FN ob (.lst xs)) from I.Ap a _ ea);exact bD PySem.W.kitx_list I.F0 ⟨_,h1,rfl⟩ e (fun z=>nomatch z) h
 | @tup a xs ea =>
  cases (show u=Value.ref a from rx);obtain⟨_,_,_,p⟩:=(show CU X.prog X.w H s.heap a (.tup xs) from I.Ap a _ ea);obtain⟨o,h1,h2,_⟩:=p;exact bD PySem.W.kitx_tuple I.F0 ⟨o,h1,h2⟩ e (fun z=>nomatch z) h
 | @dK a kvs ea =>
  cases (show u=Value.ref a from rx);obtain⟨_,_,vs,_,p⟩:=(show CU X.prog X.w H s.heap a (.dK kvs) from I.Ap a _ ea);obtain⟨o,es,ep,h1,h2,_⟩:=p;exact bD PySem.W.kitx_dict I.F0 ⟨o,h1,h2.1⟩ e (fun z=>nomatch z) h
 | @dT a kvs ea =>
  cases (show u=Value.ref a from rx);obtain⟨_,_,xs,_,o,es,ep,h1,h2,_⟩:=(show CU X.prog X.w H s.heap a (.dT kvs) from I.Ap a _ ea);exact bD PySem.W.kitx_dict I.F0 ⟨o,h1,h2.1⟩ e (fun z=>nomatch z) h
 | @ins a C dx fs ea cl ha hn htk hm =>
  cases (show u=Value.ref a from rx);obtain⟨mA,O,_⟩:=dI I.Ap ea;obtain⟨od,J,_⟩:=O.look;exact bD (PySem.W.kitx_own (cl.get _) cl.hd ha hn htk hm) I.F0 J e (fun z=>nomatch z) h
end
structure Cs(k:Nat)(A:Around):Prop where
 hd:A.handled=none
 dp:A.depth+3*k+5<recursionLimit
 un:A.units+16*k+200<cLine
def Cs.mono{j k:Nat}{A:Around}(r:Cs k A)(h:j≤k):Cs j A:=⟨r.hd,by have:=r.dp;omega,by have:=r.un;omega⟩
def Cs.deeper{k:Nat}{A:Around}(r:Cs (k+1) A)(env:Env):Cs k (A.deeper env) :=
 ⟨r.hd,by have:=r.dp;show A.depth+1+3*k+5<_;omega,by have:=r.un;show A.units+3+16*k+200<_;omega⟩
def Cs.depth{k:Nat}{A:Around}(r:Cs k A):A.depth<recursionLimit:=by have:=r.dp;omega
def Cs.units{k:Nat}{A:Around}(r:Cs k A):A.units+64<cLine:=by have:=r.un;omega
def mi:TA:=fun _ H Q=>Q [] H
def lC(ta:TE)(tr:TA):TA:=fun σ H Q=>ta σ H fun x H1=>tr σ H1 fun xs H2=>Q (x::xs) H2
section
variable{X:Cx}{e:Expr}{es:List Expr}{te:TE}{t:TA}{pos:Pos}
def AL:PA X [] mi:=fun _ _ _ _ H Q I h=>Calls.spliced_nil ⟨[],H,I,.nil,h⟩
def AE(ha:PE X e te)(hr:PA X es t)(hs:starEach (e::es) X.env=(false,eval e X.env)::starEach es X.env:=by rfl):PA X (e::es) (lC te t):=by
 intro pos pins s σ H Q I h;rw[hs];show wpAny _ _ (spliced ((false,eval e X.env)::backTo pos (starEach es X.env))) _ _ s;refine Calls.spliced_cons (BN (ha pins s σ H _ I h) fun u s1 ⟨x,H1,I1,r1,q1⟩=>?_);exact BN (hr pos pins s1 σ H1 _ I1 q1) fun us s2 ⟨xs,H2,I2,r2,q2⟩=>⟨x::xs,H2,I2,.cons r1 r2,q2⟩
def mM(t:TA):TE:=fun σ H Q=>t σ H fun xs H1=>xs.length≤sizeLine∧∀p,H1 p=none→Q (.ref p) (upd H1 p (.tup xs))
def nG(t:TA):TE:=fun σ H Q=>t σ H fun xs H1=>xs.length≤sizeLine∧∀p,H1 p=none→Q (.ref p) (upd H1 p (.lst xs))
def CS{x1}(h:PA X es t):PE X (.Tuple es x1 pos) (mM t):=by
 intro pins s σ H Q I hq;refine wpAny_Tuple_spliced (BN (h pos pins s σ H _ I hq) fun us s1 ⟨xs,H1,I1,r,z,q⟩=>⟨by rw[←r.length];exact z,?_⟩);have hf:H1 s1.heap.objs.size=none:=I1.Ap.fresh (aG _);refine⟨.ref s1.heap.objs.size,upd H1 s1.heap.objs.size (.tup xs),I1.laid (t':=s1.toks) (fun b u e=>aD _ e) (aG _) ?_,rfl,q _ hf⟩;exact⟨z,us,r,⟨_,Heap.get?_push_size _ rfl,rfl,_,rfl⟩⟩
def Cv(h:PA X es t):PE X (.List es pos) (nG t):=by
 intro pins s σ H Q I hq;refine wpAny_List_spliced (BN (h pos pins s σ H _ I hq) fun us s1 ⟨xs,H1,I1,r,z,q⟩=>⟨by rw[←r.length];exact z,?_⟩);have hf:H1 s1.heap.objs.size=none:=I1.Ap.fresh (aG _);refine⟨.ref s1.heap.objs.size,upd H1 s1.heap.objs.size (.lst xs),I1.laid (t':=s1.toks) (fun b u e=>aD _ e) (aG _) ?_,rfl,q _ hf⟩;exact⟨z,us,0,r,Heap.get?_push_size _ rfl⟩
end
abbrev Sp:=List V→Hp→VK→XK→Prop
abbrev HZ:=List Env→Hp→SD→XK→VL→SD→Prop
structure Wo(P:Program)(w:World)(K:Fg)(mg:Str→Option Value)(base:Heap)(A:Around)(outer:List Env)(s:Shared)(H:Hp):Prop where
 frames:A.frames=some outer
 mod:Mod K mg base
 bs:∀b o,base.get? b=some o→s.heap.get? b=some o∧H b=none
 QB:base.objs.size≤s.heap.objs.size
 HQ:s.heap.FunFrames base outer
 O6:∀b∈FJ outer,H b=none
 Ap:EG P w H s.heap
 bare:AllBare s.gens
def CE(outer:List Env)(P:Program)(w:World)(H:Hp)(s:SD)(Q:VK)(u:VL)(s':SD):Prop :=
 ∃v H',s'.os=s.os∧AllBare s'.gens∧Un (FJ outer) [] H H' s.heap s'.heap∧EG P w H' s'.heap∧RelV v u∧Q v H'
def CR(CX:HZ)(outer:List Env)(P:Program)(w:World)(H:Hp)(s:SD)(Q:VK)(E:XK)(r:Result)(s':SD):Prop :=
 match r with
 |.ok (.ret u)=>CE outer P w H s Q u s'
 |.ok _=>False
 |.error e=>CX outer H s E e s'
structure AQ(P:Program)(w:World)(K:Fg)(mg:Str→Option Value)(base:Heap)(CX:HZ)(k:Nat)(f:Addr)(fd:FuncData)(ps:List Str)(sp:Sp):Prop where
 len:∀vs H Q E,sp vs H Q E→vs.length=ps.length
 run:∀(A:Around) (outer:List Env) (s:Shared) (H:Hp) (args:Args) (us:List Value) (vs:List V) (Q:VK) (E:XK),Cs k A→Wo P w K mg base A outer s H→BindsTo s fd args (ps.zip us)→Vals vs us→sp vs H Q E →
  codeAny (model P w) A (.call (.ref f) args) (CR CX outer P w H s Q E) s
def AQ.mono{P:Program}{w:World}{K:Fg}{mg:Str→Option VL}{base:Heap}{CX:HZ}{j k:Nat}{f:AD}{fd:FuncData}{ps:List Str}{sp:Sp}(F:AQ P w K mg base CX j f fd ps sp)(h:j≤k) :
  AQ P w K mg base CX k f fd ps sp:=⟨F.len,fun A outer s H args us vs Q E hr=>F.run A outer s H args us vs Q E (hr.mono h)⟩
def AQ.imp{P:Program}{w:World}{K:Fg}{mg:Str→Option VL}{base:Heap}{CX:HZ}{k:Nat}{f:AD}{fd:FuncData}{ps:List Str}{sp sp':Sp}(F:AQ P w K mg base CX k f fd ps sp)
 (h:∀vs H Q E,sp' vs H Q E→sp vs H Q E):AQ P w K mg base CX k f fd ps sp' :=
 ⟨fun vs H Q E q=>F.len vs H Q E (h _ _ _ _ q),fun A outer s H args us vs Q E hr he hb hv hs=>F.run A outer s H args us vs Q E hr he hb hv (h _ _ _ _ hs)⟩
section
variable{X:Cx}{pins:List (AD×Obj)}{σ:St}{H:Hp}{s s':SD}
def Inv.gW(I:Inv X pins σ H s):Wo X.prog X.w X.K X.mg X.base X.A X.stack s H :=
 ⟨I.ok.frames,I.ok.mod,I.bs,Nat.le_trans I.ok.QB I.sz,I.stack,I.QV,I.Ap,I.bare⟩
def Inv.after{Q:VK}{u:VL}(I:Inv X pins σ H s)(h:CE X.stack X.prog X.w H s Q u s'):EP X pins σ Q u s':=by
 obtain⟨v,H',os,bare,un,Ap,r,q⟩:=h;obtain⟨hh,g,d,t,os'⟩:=s';obtain rfl:os'=s.os:=os;exact⟨v,H',I.call (h':=hh) (g':=g) (d':=d) (t':=t) (ch:=[]) un Ap bare (fun b z=>absurd z (by simp)),r,q⟩
end
def WD(sp:Sp)(dvs:List V)(E:XK)(t:TA):TE:=fun σ H Q=>t σ H fun vs H1=>sp (vs++dvs) H1 Q E
def Binds(K:Fg)(fd:FuncData)(ps:List Str)(ds:List VL):Prop :=
 ∀(s:SD) (us:List VL),K.In s.heap→(us++ds).length=ps.length→BindsTo s fd ⟨us,[]⟩ (ps.zip (us++ds))
def Binds.all{K:Fg}{fd:FuncData}{ps:List Str}(h:∀us:List VL,us.length=ps.length→bindArgs fd ⟨us,[]⟩=pure (ps.zip us)):Binds K fd ps []:=fun s us _ hl=>by
 rw[List.append_nil]at hl ⊢;exact .of_eq (h us hl)
def Passes(CX:HZ)(X:Cx)(E:XK):Prop:=∀(pins:List (AD×Obj)) (σ:St) (H:Hp) (s:SD) (e:VL) (s':SD),Inv X pins σ H s→CX X.stack H s E e s'→X.xe e s'
section
variable{X:Cx}{CX:HZ}{k:Nat}{f C:AD}{fd:FuncData}{ps:List Str}{sp:Sp}{dvs:List V}{ds:List VL}{E:XK}{x m:Str}{p pos apos:Pos}{e o:Expr}{es:List Expr}{ta:TE}{t:TA}
def kC{pins:List (AD×Obj)}{σ:St}{H:Hp}{s:SD}{Q:VK}{us:List VL}{vs:List V}(F:AQ X.prog X.w X.K X.mg X.base CX k f fd ps sp)(hr:Cs k X.A)(hb:Binds X.K fd ps ds)(hd:Vals dvs ds)(hx:Passes CX X E)
 (I:Inv X pins σ H s)(r:Vals vs us)(h:sp (vs++dvs) H Q E):wpAny (model X.prog X.w) X.A (call (.ref f) us) (EP X pins σ Q) X.xe s:=by
 have r2:Vals (vs++dvs) (us++ds):=r.append hd;have hl:(us++ds).length=ps.length:=by rw[←r2.length];exact F.len _ _ _ _ h
 refine wpAny_call (codeAny_mono (F.run X.A X.stack s H ⟨us,[]⟩ (us++ds) (vs++dvs) Q E hr I.gW (hb s us I.F0 hl) r2 h) fun r s' hq=>?_);cases r with
 |error e=>exact hx pins σ H s e s' I hq
 |ok fl =>
  cases fl with
  |ret u=>exact I.after hq
  |next=>exact False.elim hq
  |brk=>exact False.elim hq
  |cont=>exact False.elim hq
def Vv(F:AQ X.prog X.w X.K X.mg X.base CX k f fd ps sp)(hr:Cs k X.A)(hg:Gl X x)(hm:X.mg x=some (.ref f))(hk:PySem.W.keepIn X.K (.ref f)=true)(hb:Binds X.K fd ps ds)(hd:Vals dvs ds)(hx:Passes CX X E)
 (ha:PA X (e::es) t)(hdb:(x==("__debug__" : Str))=false:=by decide)(he:starEach (e::es) X.env=(false,eval e X.env)::starEach es X.env:=by rfl)(hpl:(backTo pos (starEach es X.env)).any (·.1)=false:=by rfl) :
  PE X (.Call (.Name x p) (e::es) [] pos) (WD sp dvs E t):=by
 intro pins s σ H Q I h;refine wpAny_Call_Name_kw (Jc I hg hm ?_ hdb);refine PySem.W.callWith_K (h₀:=X.base) I.ok.mod.Nr hk (BN (ha pos pins s σ H _ I h) fun us s1 ⟨vs,H1,I1,r,q⟩=>⟨I1.F0,?_⟩) he hpl;exact kC F hr hb hd hx I1 r q
end
structure Aa(N P:List Str)(sc:Scope):Prop where
 kind:sc.kind=.function
 co:sc.isCoroutine=false
 gen:sc.isGenerator=false
 nd:N.Nodup
 pre:N.take P.length=P
 par:∀x∈P,sc.names.lookup x=some .local∨sc.names.lookup x=some .cell
 iR:∀y∈sc.names,y.2≠.free
def CK{N P:List Str}{sc:Scope}(a:sc.kind=.function:=by rfl)(b:sc.isCoroutine=false:=by rfl)(c:sc.isGenerator=false:=by rfl)(d:N.Nodup:=by decide +kernel)(e:N.take P.length=P:=by rfl)(f:∀x ∈ P, sc.names.lookup x=some .local ∨ sc.names.lookup x=some .cell:=by decide +kernel)(g:∀y ∈ sc.names, y.2 ≠ .free:=by decide +kernel):Aa N P sc:=⟨a, b, c, d, e, f, g⟩
def RF{kindOf:Str→Option NameKind}{x:Str}:∀ {binds:List (Str×VL)} {m:Str→Option VL},(∀v,(x,v) ∉ binds)→bindL kindOf binds m x=m x
 |[],_,_=>rfl
 |(n,v)::r,m,h=>by
  unfold bindL;rw[RF fun w hw=>h w (aO _ hw)];split
  ·have:x≠n:=by rintro rfl;exact h v aR
   simp[this]
  ·rfl
def RG{kindOf:Str→Option NameKind}{x:Str}:∀ {binds:List (Str×VL)} {m:Str→Option VL},(∀v,(x,v) ∉ binds)→bindC kindOf binds m x=m x
 |[],_,_=>rfl
 |(n,v)::r,m,h=>by
  unfold bindC;rw[RG fun w hw=>h w (aO _ hw)];split
  ·rfl
  ·have:x≠n:=by rintro rfl;exact h v aR
   simp[this]
def RS{kindOf:Str→Option NameKind}{x:Str}{v:VL}:∀ {P:List Str} {vs:List VL} {i:Nat} {m:Str→Option VL},P.Nodup→P[i]? = some x→vs[i]? = some v→kindOf x=some .local →
  bindL kindOf (P.zip vs) m x=some v
 |[],_,_,_,_,h,_,_=>by simp at h
 |_::_,[],_,_,_,_,h,_=>by simp at h
 |p::P,w::vs,0,m,nd,h1,h2,hk=>by
  simp at h1 h2;subst h1;subst h2;show bindL kindOf ((p,w)::P.zip vs) m p=_;unfold bindL;rw[RF fun v hv=>(List.nodup_cons.mp nd).1 (List.of_mem_zip hv).1,if_pos hk];simp
 |p::P,w::vs,i+1,m,nd,h1,h2,hk=>by
  show bindL kindOf ((p,w)::P.zip vs) m x=_;unfold bindL;exact RS (i:=i) (List.nodup_cons.mp nd).2 (by simpa using h1) (by simpa using h2) hk
def Rf{kindOf:Str→Option NameKind}{x:Str}{v:VL}:∀ {P:List Str} {vs:List VL} {i:Nat} {m:Str→Option VL},P.Nodup→P[i]? = some x→vs[i]? = some v→kindOf x≠some .local →
  bindC kindOf (P.zip vs) m x=some v
 |[],_,_,_,_,h,_,_=>by simp at h
 |_::_,[],_,_,_,_,h,_=>by simp at h
 |p::P,w::vs,0,m,nd,h1,h2,hk=>by
  simp at h1 h2;subst h1;subst h2;show bindC kindOf ((p,w)::P.zip vs) m p=_;unfold bindC;rw[RG fun v hv=>(List.nodup_cons.mp nd).1 (List.of_mem_zip hv).1,if_neg hk];simp
 |p::P,w::vs,i+1,m,nd,h1,h2,hk=>by
  show bindC kindOf ((p,w)::P.zip vs) m x=_;unfold bindC;exact Rf (i:=i) (List.nodup_cons.mp nd).2 (by simpa using h1) (by simpa using h2) hk
def start(N:List Str)(vs:List V):St:=vs.map some++List.replicate (N.length-vs.length) none
def Cp(CX:HZ)(P:Program)(w:World)(K:Fg)(mg:Str→Option VL)(base:Heap)(N:List Str)(qual:Str)(scope:Scope)(f:AD)(cd:VL)(A:Around)(outer:List Env)(s:SD)(H:Hp)(E:XK):Cx where
 prog:=P
 w:=w
 K:=K
 mg:=mg
 base:=base
 A:=A.deeper (envOfC qual scope s.heap.objs.size f cd)
 N:=N
 s₀:=s
 H₀:=H
 env:=envOfC qual scope s.heap.objs.size f cd
 outer:=outer
 stack:=envOfC qual scope s.heap.objs.size f cd::outer
 ex:=[]
 calm:=true
 fn:=fun _=>true
 pn:=[]
 xe:=fun e s'=>wpAny (model P w) (A.deeper (envOfC qual scope s.heap.objs.size f cd)) (leaving (envOfC qual scope s.heap.objs.size f cd) e) (fun _ s''=>CX outer H s E e s'') (fun e' s''=>CX outer H s E e' s'') s'
def TU{sc:Scope}{n:Nat}{x:Str}(h:sc.names.lookup x=some .cell):∃c,(cellsFrom n sc.names []).lookup x=some c:=by
 have q:=PySem.W.cellsFrom_some sc.names n [] (.inl h);exact Option.isSome_iff_exists.mp q
def X0{CX:HZ}{P:Program}{w:World}{K:Fg}{mg:Str→Option VL}{base:Heap}{N ps:List Str}{qual:Str}{scope:Scope}{f:AD}{cd:VL}{A:Around}{outer:List Env}{s s1:SD}{H:Hp}{E:XK}{us:List VL}{vs:List V}
 (S:Aa N ps scope)(hd:A.handled=none)(e0:Wo P w K mg base A outer s H)(hl:vs.length=ps.length)(r:Vals vs us)
 (x:InCallC s s.heap.objs.size (bindL (envOfC qual scope s.heap.objs.size f cd).kindOf (ps.zip us) fun _=>none) (cellsFrom (s.heap.objs.size+1) scope.names []) (bindC (envOfC qual scope s.heap.objs.size f cd).kindOf (ps.zip us) fun _=>none) s1) :
  Inv (Cp CX P w K mg base N qual scope f cd A outer s H E) [] (start N vs) H s1:=by
 have hpl:ps.length≤N.length:=by have:=bJ List.length S.pre;rw[List.length_take]at this;omega
 obtain⟨h1,tk,rfl,hk⟩:=x.done;have noA:∀b:AD,b ∉ (Cp CX P w K mg base N qual scope f cd A outer s H E).ex:=fun b z=>absurd (show b∈([]:List AD) from z) (by simp);refine⟨⟨e0.mod,S.kind,rfl,rfl,Nat.le_refl _,fun y z c h1 h2=>?_,fun y hy=>?_,fun y c _ h=>?_,fun _=>hd,Around.frames_deeper e0.frames,.inr ⟨rfl,rfl⟩,fun b z=>absurd z (noA b),e0.bs,e0.QB,fun b _ _=>noA b,fun b z=>absurd z (noA b),e0.HQ,e0.O6⟩,
  rfl,e0.bare,Un.kept hk,⟨_,x.toInCall.ns,fun i y v h1 h2 h3=>?_⟩,fun y c h=>⟨_,x.cell y c h⟩,e0.Ap.fresh (aG _),fun y c h=>?_,fun p hp=>absurd (show p∈([]:List (AD×Obj)) from hp) (by simp),e0.Ap.kept hk,?_⟩
 ·exact name_of_addr x.apart (PySem.mem_of_lookup h1) (PySem.mem_of_lookup h2)
 ·have hy:scope.names.lookup y=some .cell∨scope.names.lookup y=some .free:=hy;rcases hy with hy|hy
  ·exact TU hy
  ·exact absurd rfl (S.iR _ (PySem.mem_of_lookup hy))
 ·exact bN (x.above y c (PySem.mem_of_lookup h))
 ·have hi:i<vs.length:=by
   unfold start at h2;by_cases hi:i<vs.length
   ·exact hi
   ·rw[List.getElem?_append_right (by simpa using hi)]at h2;rw[List.getElem?_replicate]at h2;split at h2<;>cases h2
  have ha:vs[i]? = some v:=by
   unfold start at h2;rw[List.getElem?_append_left (by simpa using hi),List.getElem?_map]at h2;cases e:vs[i]? with
   |none=>rw[e]at h2;cases h2
   |some a=>rw[e]at h2;cases h2;rfl
  obtain⟨u,hu,rv⟩:=r.get ha;have hp:ps[i]? = some y:=by
   rw[←S.pre,List.getElem?_take_of_lt (by omega)];exact h1
  have ndP:ps.Nodup:=by rw[←S.pre];exact S.nd.sublist (List.take_sublist _ _)
  refine⟨u,rv,?_⟩;rcases S.par y (aP hp) with k|k
  ·exact .inl ⟨k,RS ndP hp hu k⟩
  ·obtain⟨c,e⟩:=TU (n:=s.heap.objs.size+1) k;refine .inr ⟨.inl k,c,e,?_⟩;have q:=x.cell y c e;rw[Rf ndP hp hu (by show scope.names.lookup y≠_;rw[k];decide)]at q;exact q
 ·exact e0.Ap.fresh (bN (x.above y c (PySem.mem_of_lookup h)))
 ·unfold start;show _=N.length;rw[List.length_append,List.length_map,List.length_replicate];omega
def cA{CX:HZ}{P:Program}{w:World}{K:Fg}{mg:Str→Option VL}{base:Heap}{k:Nat}{f:AD}{name qual:Str}{params:Arguments}{body:List Stmt}{scope:Scope}{dV kV doc pm cdv ct oc:VL}{an od:Option AD}
 {osl:Array (Option VL)}{N ps:List Str}{sp:Sp}(lk:K.lookup f=some ⟨oc,od,.func (PySem.W.fnOf name qual params body scope dV kV doc pm an cdv ct),osl⟩)(hcd:PySem.W.codeIn K cdv qual=true)(S:Aa N ps scope)
 (len:∀vs H Q E,sp vs H Q E→vs.length=ps.length)
 (hbody:∀(A:Around) (outer:List Env) (s:SD) (H:Hp) (vs:List V) (Q:VK) (E:XK),Cs k (A.deeper (envOfC qual scope s.heap.objs.size f cdv))→sp vs H Q E →
   ∃t,HI (Cp CX P w K mg base N qual scope f cdv A outer s H E) body t∧t { nx:=fun _ H'=>Q .BF H',rt:=Q} (start N vs) H) :
  AQ P w K mg base CX (k+1) f (PySem.W.fnOf name qual params body scope dV kV doc pm an cdv ct) ps sp:=by
 refine⟨len,fun A outer s H args us vs Q E hr e0 hb r hsp=>?_⟩;have hl:=len _ _ _ _ hsp;have KX:K.In s.heap:=e0.mod.Nr.keeps fun b o e=>(e0.bs b o e).1;have lim:s.heap.NoLimit:=e0.mod.nolimit.keeps fun b o e=>(e0.bs b o e).1;have hkind:∀y∈ps.zip us,scope.names.lookup y.1=some .local∨(scope.names.lookup y.1=some .cell∧((cellsFrom (s.heap.objs.size+1) scope.names []).lookup y.1).isSome=true):=fun⟨n,v⟩ hy=>by
  rcases S.par n (List.of_mem_zip hy).1 with q|q
  ·exact .inl q
  ·exact .inr ⟨q,PySem.W.cellsFrom_some _ _ _ (.inl q)⟩
 refine codeAny_call_function hr.depth (KX _ _ lk) rfl S.co S.gen rfl (PySem.W.codeRec_of KX hcd) (hb _ _ _ _ ?_);refine wpAny_newFunctionEnv_cells S.kind hkind fun env he s1 x=>?_;subst he;refine⟨lim.keeps x.toInCall.keep,codeAny_func ?_⟩;obtain⟨t,ht,hq⟩:=hbody A outer s H vs Q E (hr.deeper _) hsp;have I:Inv (Cp CX P w K mg base N qual scope f cdv A outer s H E) [] (start N vs) H s1:=X0 S hr.hd e0 hl r x;refine aU (ht [] s1 (start N vs) H _ I hq) (fun fl s' hs=>?_) fun e s' hs=>hs;have fin:∀ {σ':St} {H':Hp} {v:V} {u:VL},Inv (Cp CX P w K mg base N qual scope f cdv A outer s H E) [] σ' H' s'→RelV v u→Q v H'→CE outer P w H s Q u s' :=
  fun {σ' H' v u} J rv q=>⟨v,H',J.os,J.bare,J.base,J.Ap,rv,q⟩
 cases fl with
 |ret u =>
  obtain⟨v,σ',H',J,rv,q⟩:=hs;exact fin J rv q
 |next =>
  obtain⟨σ',H',J,q⟩:=hs;exact fin (v:=V.BF) (u:=Value.none) J rfl q
 |brk =>
  obtain⟨_,_,_,q⟩:=hs;exact False.elim q
 |cont =>
  obtain⟨_,_,_,q⟩:=hs;exact False.elim q
section
variable{X:Cx}{x:Str}{p pos:Pos}{e:Expr}{es:List Expr}{t:TA}{id T:String}{r:List V→Hp→VK→Prop}
def lz(r:List V→Hp→VK→Prop)(t:TA):TE:=fun σ H Q=>t σ H fun vs H1=>r vs H1 Q
def BC(hc:DV X (.builtin id) r)(hg:Gl X x)(hm:X.mg x=none)(hv:bootBuiltins x=some (.builtin id))(ha:PA X (e::es) t)(hn:x ≠ "__name__" := by decide)(hdb:(x==("__debug__" : Str))=false:=by decide)
 (he:starEach (e::es) X.env=(false,eval e X.env)::starEach es X.env:=by rfl)(hpl:(backTo pos (starEach es X.env)).any (·.1)=false:=by rfl):PE X (.Call (.Name x p) (e::es) [] pos) (lz r t):=by
 intro pins s σ H Q I h;refine wpAny_Call_Name_kw (GD I hg hm hv ?_ hn hdb);exact PyProof.Rows.callWith_builtin1 (BN (ha pos pins s σ H _ I h) fun us s1 ⟨vs,H1,I1,r1,q1⟩=>hc pins s1 σ H1 vs us Q I1 r1 q1) he hpl
def Gr(hc:DV X (.type T) r)(hg:Gl X x)(hm:X.mg x=none)(hv:bootBuiltins x=some (.type T))(ha:PA X (e::es) t)(hn:x ≠ "__name__" := by decide)(hdb:(x==("__debug__" : Str))=false:=by decide)
 (he:starEach (e::es) X.env=(false,eval e X.env)::starEach es X.env:=by rfl)(hpl:(backTo pos (starEach es X.env)).any (·.1)=false:=by rfl):PE X (.Call (.Name x p) (e::es) [] pos) (lz r t):=by
 intro pins s σ H Q I h;refine wpAny_Call_Name_kw (GD I hg hm hv ?_ hn hdb);exact az (BN (ha pos pins s σ H _ I h) fun us s1 ⟨vs,H1,I1,r1,q1⟩=>hc pins s1 σ H1 vs us Q I1 r1 q1) he hpl
end
end L2
namespace HT
open PySem PyProof.Rows
section
variable{prog:Program}{w:World}{A:Around}{E:VL→SD→Prop}{s:SD}
def dQ{t b:AD}{vs ws:List VL}{Q:VL→SD→Prop}(ht:IsTup s.heap t vs.toArray)(hb:IsTup s.heap b ws.toArray)(hv:vs≠[])
 (h1:ws=[]→Q (.ref t) s)(h2:ws≠[]→Q (.ref s.heap.objs.size) {s with heap:=s.heap.push { cls:=.type "tuple",data:=.seq (vs++ws).toArray} })
 (hsz:vs.length+ws.length≤sizeLine):wpAny (model prog w) A (binaryOp .Add (.ref t) (.ref b)) Q E s:=by
 obtain⟨⟨cls,dd,data,sl⟩,ho,hc,n,hd⟩:=id ht;obtain⟨⟨cls2,dd2,data2,sl2⟩,ho2,hc2,n2,hd2⟩:=id hb;simp only at hc hd hc2 hd2;subst hc hd hc2 hd2;have e:vs.toArray++ws.toArray=(vs++ws).toArray:=by simp
 by_cases hw:ws=[]
 ·exact concat_meets ⟨_,ho,rfl⟩ ⟨_,ho2,rfl⟩ noFill_tuple_add seq_tuple_add PySem.F.slot_tuple_add PySem.F.entry_tuple_add (PySem.F.args_tuple_add_2 _ _)
   (tuple_addW1 t b vs.toArray ws.toArray n n2 dd dd2 sl sl2 (by simpa using hv) (by simp[hw])) ⟨ho,ho2,h1 hw⟩
 ·refine concat_meets ⟨_,ho,rfl⟩ ⟨_,ho2,rfl⟩ noFill_tuple_add seq_tuple_add PySem.F.slot_tuple_add PySem.F.entry_tuple_add (PySem.F.args_tuple_add_2 _ _)
   (tuple_addW2 t b vs.toArray ws.toArray n n2 dd dd2 sl sl2 (by simpa using hv) (by simpa using hw) (by rw[List.size_toArray,List.size_toArray];exact hsz)) ⟨ho,ho2,?_⟩
  rw[e];exact h2 hw
def Bg(n d:Nat):Option Int→Nat
 |none=>d
 |some v=>if v<0 then(v+(n:Int)).toNat else min v.toNat n
def gJ(n d:Nat)(hd:d≤n)(o:Option Int):Bg n d o≤n:=by
 cases o with
 |none=>exact hd
 |some v =>
  show(if v<0 then(v+(n:Int)).toNat else min v.toNat n)≤n;by_cases hv:v<0
  ·rw[if_pos hv];omega
  ·rw[if_neg hv];exact Nat.min_le_right _ _
def Vl(v:Int)(n d:Nat):(if v<0 then max (v+(n:Int)) 0 else min v (n:Int))=((Bg n d (some v):Nat):Int):=by
 show(if v<0 then max (v+(n:Int)) 0 else min v (n:Int))=(((if v<0 then(v+(n:Int)).toNat else min v.toNat n):Nat):Int);by_cases hv:v<0
 ·simp only[if_pos hv];omega
 ·simp only[if_neg hv];omega
def Wr(lo hi:Option Int)(n:Nat):Builtin.Slice.sliceAdjust lo hi 1 (n:Int)=(((Bg n 0 lo:Nat):Int),((Bg n n hi:Nat):Int)):=by
 have h1:¬((1:Int)<0):=by omega
 unfold Builtin.Slice.sliceAdjust;simp only[h1,if_false];refine Prod.ext ?_ ?_
 ·cases lo with
  |none=>rfl
  |some v=>exact Vl v n 0
 ·cases hi with
  |none=>rfl
  |some v=>exact Vl v n n
def WJ(i j:Nat):Builtin.Slice.slicePlaces (i:Int) (j:Int) 1=j-i:=by
 unfold Builtin.Slice.slicePlaces;have h1:(1:Int) > 0:=by omega
 simp only[h1,if_true,Int.ediv_one];split<;>omega
def Pg{v:VL}{o:Option Int}{Q:Option Int→SD→Prop}(p:IsPart v o)(h:Q o s):wpAny (model prog w) A (Builtin.Slice.slicePartIndex v) Q E s:=by
 cases p with
 |none=>exact slicePart_none h
 |int i t=>exact slicePart_int h
def Od{sl:AD}{vl vu:VL}{lo hi:Option Int}{n:Nat}{Q:Int×Int×Nat→SD→Prop}(hs:s.heap.IsSliceOf sl vl vu .none)(pl:IsPart vl lo)(pu:IsPart vu hi)
 (h:Q (((Bg n 0 lo:Nat):Int),1,Bg n n hi-Bg n 0 lo) s):wpAny (model prog w) A (Builtin.Slice.sliceApplied (.ref sl) (pure (n:Int))) Q E s:=by
 obtain⟨os,hos,hcs,hds⟩:=id hs;unfold Builtin.Slice.sliceApplied Builtin.Slice.sliceFields;refine Wb (Wb (af hos hds (x:=vl) rfl (Wb (af hos hds (x:=vu) rfl (Wb (af hos hds (x:=.none) rfl (aA ?_)))))));refine Wb (slicePart_none ?_);show wpAny _ _ (if((1:Int)==0)=true then _ else _) _ _ s;rw[if_neg (by decide)];refine Wb (Pg pl (Wb (Pg pu (Wb (aA ?_)))));show wpAny _ _ (match Builtin.Slice.sliceAdjust lo hi 1 (n:Int) with|(lo,hi)=>pure (lo,(1:Int),Builtin.Slice.slicePlaces lo hi 1)) _ _ s;rw[Wr lo hi n];show wpAny _ _ (pure (((Bg n 0 lo:Nat):Int),(1:Int),Builtin.Slice.slicePlaces ((Bg n 0 lo:Nat):Int) ((Bg n n hi:Nat):Int) 1)) _ _ s;rw[WJ];exact aA h
def Zt(xs:Array VL)(i k:Nat):((List.range k).filterMap fun(m:Nat)=>xs[((i:Int)+(m:Int)*1).toNat]?).toArray=((xs.toList.drop i).take k).toArray:=by
 have e:(fun(m:Nat)=>xs[((i:Int)+(m:Int)*1).toNat]?)=fun m=>xs[i+m]? := by
  funext m
  have:((i:Int)+(m:Int)*1).toNat=i+m:=by omega
  rw[this]
 rw[e];have:=pick_run xs i k;rw[List.filterMap_map]at this;have e2:((fun x=>xs[x]?) ∘ fun x=>i+x)=fun m=>xs[i+m]?:=rfl;rw[e2]at this;rw[this]
def Nh{t sl:AD}{items:Array VL}{vl vu:VL}{lo hi:Option Int}{Q:VL→SD→Prop}(ht:IsTup s.heap t items)(hs:s.heap.IsSliceOf sl vl vu .none)(pl:IsPart vl lo)(pu:IsPart vu hi)
 (hw:¬(Bg items.size 0 lo=0∧Bg items.size items.size hi=items.size))
 (h:Q (.ref s.heap.objs.size) {s with heap:=s.heap.push { cls:=.type "tuple",data:=.seq ((items.toList.drop (Bg items.size 0 lo)).take (Bg items.size items.size hi-Bg items.size 0 lo)).toArray} })
 (hsz:items.size≤sizeLine):wpAny (model prog w) A (getItem (.ref t) (.ref sl)) Q E s:=by
 have htake:sizeOk (.seq ((items.toList.drop (Bg items.size 0 lo)).take (Bg items.size items.size hi-Bg items.size 0 lo)).toArray):=by
  show((items.toList.drop (Bg items.size 0 lo)).take (Bg items.size items.size hi-Bg items.size 0 lo)).toArray.size≤sizeLine;rw[List.size_toArray,List.length_take,List.length_drop,Array.length_toList];omega
 have hj:Bg items.size items.size hi≤items.size:=gJ _ _ (aG _) hi;obtain⟨os,hos,hcs,hds⟩:=id hs;have hTs:s.TypeIs (.ref sl) "slice" := ⟨os,hos,hcs⟩;unfold getItem
 try with_reducible refine aS ?_
 first|refine Wb (aA ?_)|skip
 refine Wb (wpAny_sequenceKey ht.typeIs (by decide) ?_);refine Wb (ag (name:=Str.ofString "__getitem__") ht.typeIs PyProof.Rows.slot_tuple_getitem
  (aW PyProof.Rows.slot_tuple_getitem ht.typeIs entry_tuple_getitem ?_ (args_tuple_getitem _ _)))
 show wpAny _ _ (Builtin.Tuple.tupleItemsOf (.ref t)>>=_) _ _ s;refine Wb (tupleItemsOf_ ht ?_);refine Wb (wpAny_typeOf hTs ?_);rw[if_pos (by decide)];refine Wb (Od hs pl pu ?_);have hno:¬((((Bg items.size 0 lo:Nat):Int)==0&&(1:Int)==1&&(Bg items.size items.size hi-Bg items.size 0 lo)==items.size)=true):=by
  intro q;rw[Bool.and_eq_true,Bool.and_eq_true]at q;have q1:((Bg items.size 0 lo:Nat):Int)=0:=eq_of_beq q.1.1;have q2:Bg items.size items.size hi-Bg items.size 0 lo=items.size:=eq_of_beq q.2;exact hw ⟨by omega,by omega⟩
 show wpAny _ _ (if(((Bg items.size 0 lo:Nat):Int)==0&&(1:Int)==1&&(Bg items.size items.size hi-Bg items.size 0 lo)==items.size)=true then _ else _) _ _ s;rw[if_neg hno,Zt]
 first
  |exact Wb (m:=Builtin.Tuple.tupleExact _) (av (aA ⟨_,rfl,wpAny_pure h⟩) htake)
  |exact Wb (m:=Builtin.Tuple.tupleExact _) (av (Wb (aA (aA ⟨_,rfl,wpAny_pure h⟩))) htake)
  |exact Wb (Wb (m:=Builtin.Tuple.tupleExact _) (av (aA (aA ⟨_,rfl,wpAny_pure h⟩)) htake))
  |exact Wb (Wb (m:=Builtin.Tuple.tupleExact _) (av (aA ⟨_,rfl,wpAny_pure h⟩) htake))
end
end HT
namespace L2
open PySem PySem.Spec PyProof.Rows
abbrev TO:=St→Hp→(Option Int→Hp→Prop)→Prop
def PO(X:Cx)(e:Option Expr)(t:TO):Prop :=
 ∀(pins:List (AD×Obj)) (s:SD) (σ:St) (H:Hp) (Q:Option Int→Hp→Prop),Inv X pins σ H s→t σ H Q →
  wpAny (model X.prog X.w) X.A (evalPart e X.env) (fun u s'=>∃o H',Inv X pins σ H' s'∧IsPart u o∧Q o H') X.xe s
def eo:TO:=fun _ H Q=>Q none H
def lR(t:TE):TO:=fun σ H Q=>t σ H fun x H1=>∃i,x=.int i∧Q (some i) H1
def intsAre_of{ns:List Int}:∀ {us:List VL},Vals (ns.map V.int) us→IntsAre us ns:=by
 induction ns with
 |nil=>intro us r;rw[List.map_nil]at r;cases r;exact .nil
 |cons n ns ih =>
  intro us r;rw[List.map_cons]at r;cases r with
  |cons r1 r2 =>
   obtain⟨t,e⟩:=r1;subst e;exact .cons n t (ih r2)
section
variable{X:Cx}{e:Expr}{te:TE}{lo hi:Option Expr}{tl th:TO}{pos p2:Pos}
def Vp:PO X none eo:=by
 intro pins s σ H Q I h;rw[evalPart_none];exact aA ⟨none,H,I,.none,h⟩
def Ux(h:PE X e te):PO X (some e) (lR te):=by
 intro pins s σ H Q I hw;rw[evalPart_some];refine BN (h pins s σ H _ I hw) fun u s1 ⟨x,H1,I1,r1,q1⟩=>?_;obtain⟨i,rfl,q⟩:=q1;obtain⟨t,rfl⟩:=r1;exact⟨some i,H1,I1,.int i t,q⟩
def Sg(X:Cx)(r:V→Option Int→Option Int→Hp→VK→Prop):Prop :=
 ∀(pins:List (AD×Obj)) (s:SD) (σ:St) (H:Hp) (x:V) (v vl vu:VL) (lo hi:Option Int) (sl:AD) (Q:VK),Inv X pins σ H s→RelV x v→s.heap.IsSliceOf sl vl vu .none→IsPart vl lo→IsPart vu hi→r x lo hi H Q →
  ∃T id,typeLookup (.type T) "__getitem__" = pure (some (.builtin id))∧s.TypeIs v T∧wpAny (model X.prog X.w) X.A (getItem v (.ref sl)) (EP X pins σ Q) X.xe s
def Sg.or{r r':V→Option Int→Option Int→Hp→VK→Prop}(h:Sg X r)(h':Sg X r'):Sg X (fun x lo hi H Q=>r x lo hi H Q∨r' x lo hi H Q):=by
 intro pins s σ H x v vl vu lo hi sl Q I rx hs pl pu q;rcases q with q|q
 ·exact h pins s σ H x v vl vu lo hi sl Q I rx hs pl pu q
 ·exact h' pins s σ H x v vl vu lo hi sl Q I rx hs pl pu q
def oC(r:V→Option Int→Option Int→Hp→VK→Prop)(te:TE)(tl th:TO):TE:=fun σ H Q=>te σ H fun x H1=>tl σ H1 fun l H2=>th σ H2 fun u H3=>r x l u H3 Q
def Sd{r:V→Option Int→Option Int→Hp→VK→Prop}(hr:Sg X r)(he:PE X e te)(hl:PO X lo tl)(hu:PO X hi th):PE X (.Subscript e (.Slice lo hi none p2) pos) (oC r te tl th):=by
 intro pins s σ H Q I h;refine Subscript_ (BN (he pins s σ H _ I h) fun v s1 ⟨x,H1,I1,r1,q1⟩=>?_);refine wpAny_Slice (BN (hl pins s1 σ H1 _ I1 q1) fun vl s2 ⟨l,H2,I2,pl,q2⟩=>BN (hu pins s2 σ H2 _ I2 q2) fun vu s3 ⟨u,H3,I3,pu,q3⟩=>?_);rw[evalPart_none];refine aA ?_;have I4:Inv X pins σ H3 {s3 with heap:=s3.heap.push { cls:=.type "slice",data:=.fields #[vl,vu,.none]} }:=I3.kept (t':=s3.toks) fun b ob q=>aD _ q;obtain⟨T,id,hT,ht,hg⟩:=hr pins {s3 with heap:=s3.heap.push { cls:=.type "slice",data:=.fields #[vl,vu,.none]} } σ H3 x v vl vu l u s3.heap.objs.size Q I4 r1 (Heap.IsSliceOf.new ..) pl pu q3;show wpAny (model X.prog X.w) X.A (subscriptTail e (.Slice lo hi none p2) v (.ref s3.heap.objs.size)) (EP X pins σ Q) X.xe {s3 with heap:=s3.heap.push { cls:=.type "slice",data:=.fields #[vl,vu,.none]} };exact tail_any (ops:=[.ref s3.heap.objs.size,v]) ht hT hg (by with_unfolding_all rfl)
def K8(xs:List V)(lo hi:Option Int):List V:=(xs.drop (HT.Bg xs.length 0 lo)).take (HT.Bg xs.length xs.length hi-HT.Bg xs.length 0 lo)
def Nv(xs:List V)(lo hi:Option Int):(K8 xs lo hi).length≤xs.length:=by
 unfold K8;rw[List.length_take,List.length_drop];omega
def nF(K:Fg):V→Option Int→Option Int→Hp→VK→Prop:=fun x lo hi H Q=>∃a xs,x=.ref a∧Ay K H a xs ∧
 ¬(HT.Bg xs.length 0 lo=0∧HT.Bg xs.length xs.length hi=xs.length)∧∀p,H p=none→Q (.ref p) (upd H p (.tup (K8 xs lo hi)))
def iA:Sg X (nF X.K):=by
 intro pins s σ H x v vl vu lo hi sl Q I rx hs pl pu h;obtain⟨a,xs,rfl,hx,hw,q⟩:=h;cases rx;obtain⟨its,r,ht,hz⟩:=I.tuple hx;have hlen:its.toArray.size=xs.length:=by rw[List.size_toArray];exact r.length.symm
 refine⟨"tuple",_,PyProof.Rows.slot_tuple_getitem.lookup,ht.typeIs,?_⟩;refine HT.Nh ht hs pl pu (by rw[hlen];exact hw) ?_ (by rw[hlen];exact hz);rw[hlen];refine⟨.ref s.heap.objs.size,_,I.laid (t':=s.toks) (o:=.tup (K8 xs lo hi)) (fun b ob q=>aD _ q) (aG _) ?_,rfl,q _ (I.Ap.fresh (aG _))⟩;exact⟨aQ (Nv xs lo hi) hz,_,(r.drop (HT.Bg xs.length 0 lo)).take (HT.Bg xs.length xs.length hi-HT.Bg xs.length 0 lo),IsTup.new _ _⟩
def Vals.Vh{xs:List V}{us:List VL}(r:Vals xs us):us=[] ↔ xs=[]:=by
 cases r with
 |nil=>simp
 |cons _ _=>simp
end
def Lb(n:Nat)(i:Int):Option Nat:=if 0≤i then(if i<n then some i.toNat else none) else if -(n:Int)≤i then some (i+n).toNat else none
def FG{α:Type}(xs:List α)(i:Int):Option α:=(Lb xs.length i).bind fun j=>xs[j]?
def VA{n:Nat}{i:Int}{j:Nat}(h:Lb n i=some j):seqIndex? i n=some j∧j<n∧-(n:Int)≤i∧i<n:=by
 unfold Lb at h;by_cases h0:0≤i
 ·rw[if_pos h0]at h;by_cases h1:i<n
  ·rw[if_pos h1]at h;have e:i.toNat=j:=ao h;exact⟨by rw[seqIndex_of h0 h1,e],by omega,by omega,h1⟩
  ·rw[if_neg h1]at h;cases h
 ·rw[if_neg h0]at h;by_cases h1:-(n:Int)≤i
  ·rw[if_pos h1]at h;have e:(i+n).toNat=j:=ao h;exact⟨by rw[seqIndex_neg (by omega) h1,e],by omega,h1,by omega⟩
  ·rw[if_neg h1]at h;cases h
def QP{α:Type}{xs:List α}{i:Int}{v:α}(h:FG xs i=some v):∃j,seqIndex? i xs.length=some j∧xs[j]? = some v∧j<xs.length∧-(xs.length:Int)≤i∧i<xs.length:=by
 unfold FG at h;cases e:Lb xs.length i with
 |none=>rw[e]at h;cases h
 |some j =>
  rw[e]at h;obtain⟨h1,h2,h3,h4⟩:=VA e;exact⟨j,h1,h,h2,h3,h4⟩
def EX{α:Type}{xs:List α}{j:Nat}{v:α}(h:xs[j]? = some v):FG xs (j:Int)=some v:=by
 have hj:j<xs.length:=(aC.mp h).1;have e:Lb xs.length (j:Int)=some j:=by
  unfold Lb;rw[if_pos (by omega),if_pos (by omega)];simp
 unfold FG;rw[e];exact h
def Z8{α:Type}(xs:List α)(v:α):FG (xs++[v]) (-1)=some v:=by
 have hl:(xs++[v]).length=xs.length+1:=by simp
 have e:Lb (xs++[v]).length (-1)=some xs.length:=by
  unfold Lb;rw[hl,if_neg (by decide),if_pos (by omega)]
  congr 1
  omega
 unfold FG;rw[e];show(xs++[v])[xs.length]? = some v;simp
def Vu(b:Expr):Prop:=∀o i,subscripted b false o i=operate [o,i] (getItem o i)
def OI(X:Cx)(r:R2):Prop :=
 ∀(value slice:Expr) (pins:List (AD×Obj)) (s:SD) (σ:St) (H:Hp) (x y:V) (v u:VL) (Q:VK),Inv X pins σ H s→RelV x v→RelV y u→r x y H Q →
  subscripted slice false v u=operate [v,u] (getItem v u)→wpAny (model X.prog X.w) X.A (subscriptTail value slice v u) (EP X pins σ Q) X.xe s
def nv(X:Cx)(id:String)(r:V→List V→Hp→VK→Prop):Prop :=
 ∀(pins:List (AD×Obj)) (s:SD) (σ:St) (H:Hp) (x:V) (xs:List V) (v:VL) (us:List VL) (Q:VK),Inv X pins σ H s→RelV x v→Vals xs us→r x xs H Q →
  wpAny (model X.prog X.w) X.A (call (.builtin id) (v::us)) (EP X pins σ Q) X.xe s
section
variable{X:Cx}{a b:Expr}{ta tb:TE}{pos:Pos}
def OI.or{r r':R2}(h:OI X r)(h':OI X r'):OI X (fun x y H Q=>r x y H Q∨r' x y H Q):=by
 intro value slice pins s σ H x y v u Q I rx ry q hs;rcases q with q|q
 ·exact h value slice pins s σ H x y v u Q I rx ry q hs
 ·exact h' value slice pins s σ H x y v u Q I rx ry q hs
def B4{r:R2}(hr:OI X r)(ha:PE X a ta)(hb:PE X b tb)(hs:Vu b):PE X (.Subscript a b pos) (Xk r ta tb):=by
 intro pins s σ H Q I h;exact Subscript_ (ZS ha hb I h fun v u s2 x y H2 I2 rx ry q=>hr a b pins s2 σ H2 x y v u Q I2 rx ry q (hs _ _))
def iu(K:Fg):R2:=fun x y H Q=>∃p xs i v,x=.ref p∧y=.int i∧Ab K H p xs∧FG xs i=some v∧Q v H
def Zs(K:Fg):R2:=fun x y H Q=>∃p xs i v,x=.ref p∧y=.int i∧Ay K H p xs∧FG xs i=some v∧Q v H
def gb:R2:=fun x y H Q=>∃z i c,x=.str z∧y=.int i∧z.length≤sizeLine∧FG z.cps.toList i=some c∧Q (.str ⟨#[c]⟩) H
def Gw:OI X (iu X.K):=by
 intro value slice pins s σ H x y v u Q I rx ry h hs;obtain⟨p,xs,i,z,rfl,rfl,hq,he,q⟩:=h;cases rx;obtain⟨t,rfl⟩:=ry;obtain⟨its,r,pl,hz⟩:=I.list hq;obtain⟨j,h1,h2,h3,h4,h5⟩:=QP he;obtain⟨w,ew,rw'⟩:=r.get h2;have hl:=r.length;have hn:=M5;have fin:EP X pins σ Q w s:=⟨z,H,I,rw',q⟩;by_cases h0:0≤i
 ·have hj:i.toNat=j:=by
   rw[seqIndex_of h0 h5]at h1;exact ao h1
  exact item_listR pl.isList h0 (by omega) (by rw[hj];simpa using ew) fin hs
 ·have hj:(i+(its.toArray.size:Int)).toNat=j:=by
   rw[seqIndex_neg (by omega) h4]at h1;rw[List.size_toArray,←hl];exact ao h1
  exact subscriptTail_builtinR (x:=w) pl.isList.typeIs slot_list_getitem.lookup
   (wpAny_getItem_list_neg (Q:=fun r s'=>r=w∧EP X pins σ Q r s') pl.isList (by omega) (by rw[List.size_toArray]<;>omega) (by omega) (by rw[hj];simpa using ew) ⟨rfl,fin⟩) hs
def Cg:OI X (Zs X.K):=by
 intro value slice pins s σ H x y v u Q I rx ry h hs;obtain⟨p,xs,i,z,rfl,rfl,hq,he,q⟩:=h;cases rx;obtain⟨t,rfl⟩:=ry;obtain⟨its,r,pl,hz⟩:=I.tuple hq;obtain⟨j,h1,h2,h3,h4,h5⟩:=QP he;obtain⟨w,ew,rw'⟩:=r.get h2;have hl:=r.length;have hn:=M5;have fin:EP X pins σ Q w s:=⟨z,H,I,rw',q⟩;exact subscriptTail_builtinR (x:=w) pl.typeIs slot_tuple_getitem.lookup
  (getItem_tuple (j:=j) (Q:=fun r s'=>r=w∧EP X pins σ Q r s') pl (by omega) (by omega) (by rw[List.size_toArray,←hl];exact h1) (by simpa using ew) ⟨rfl,fin⟩) hs
def j9:OI X gb:=by
 intro value slice pins s σ H x y v u Q I rx ry h hs;obtain⟨z,i,c,rfl,rfl,hz,he,q⟩:=h;obtain⟨t,rfl⟩:=rx;obtain⟨t',rfl⟩:=ry;obtain⟨j,h1,h2,h3,h4,h5⟩:=QP he;have hl:z.cps.toList.length=z.length:=by simp[Str.length]
 rw[hl]at h1 h4 h5;have hn:=M5;exact tail_any (typeIs_str s z t) slot_str_getitem.lookup (getItem_str (c:=c) (by
  have e1:decide (i < -(2^63:Int))=false:=bC (by omega);have e2:decide (i ≥ 2^63)=false:=bC (by omega);rw[e1,e2,Bool.or_false]) (by rw[h1];simpa using h2) ⟨.str ⟨#[c]⟩,H,I.tok _,⟨_,rfl⟩,q⟩) hs
def oO(K:Fg):R2:=fun x y H Q=>iu K x y H Q∨Zs K x y H Q∨gb x y H Q
def gn:OI X (oO X.K):=Gw.or (Cg.or j9)
def Wn(its:List VL)(n j:Nat)(u:VL):Obj.mapSeq (·.setIfInBounds j u) { cls:=.type "list",data:=.seq its.toArray n}={ cls:=.type "list",data:=.seq (its.set j u).toArray n}:=by
 simp[Obj.mapSeq]
def Inv.lst{pins:List (AD×Obj)}{σ:St}{H:Hp}{s:SD}{p:AD}{xs:List V}(I:Inv X pins σ H s)(h:H p=some (.lst xs)) :
  ∃(its:List VL) (n:Nat),Vals xs its∧s.heap.get? p=some { cls:=.type "list",data:=.seq its.toArray n}∧xs.length≤sizeLine:=by
 obtain⟨z,its,n,r,e⟩:=I.Ap p _ h;exact⟨its,n,r,e,z⟩
def Inv.jn{pins:List (AD×Obj)}{σ:St}{H:Hp}{s:SD}{p:AD}{xs ys:List V}{its its':List VL}{n n':Nat}{f:Obj→Obj}(I:Inv X pins σ H s)(h:H p=some (.lst xs))
 (ho:s.heap.get? p=some { cls:=.type "list",data:=.seq its.toArray n})(hf:f { cls:=.type "list",data:=.seq its.toArray n}={ cls:=.type "list",data:=.seq its'.toArray n'})(r:Vals ys its')(hz:ys.length≤sizeLine)(t:Nat) :
  Inv X pins σ (upd H p (.lst ys)) {s with heap:=s.heap.update p f,toks:=t}:=by
 have e:(s.heap.update p f).get? p=some { cls:=.type "list",data:=.seq its'.toArray n'}:=by
  rw[Heap.get?_update_self f ho (by rw[hf]<;>rfl),hf]
 refine I.write (x:=p) (e:=p) (by rw[h];trivial) (.inl rfl) (fun b u hb q=>(Heap.get?_update_other _ _ (Ne.symm hb)).trans q) ⟨_,e⟩ ?_;exact⟨hz,its',n',r,e⟩
def lU:V→V→V→Hp→(Hp→Prop)→Prop:=fun o i v H Q=>∃p xs k j,o=.ref p∧i=.int k∧H p=some (.lst xs)∧Lb xs.length k=some j∧Q (upd H p (.lst (xs.set j v)))
def set_list:bw X lU:=by
 intro pins s σ H o i v ov iv u Q I ro ri rv h;obtain⟨p,xs,k,j,rfl,rfl,hp,hj,q⟩:=h;cases ro;obtain⟨t,rfl⟩:=ri;obtain⟨its,n,r,ho,hz⟩:=I.lst hp;obtain⟨h1,h2,h3,h4⟩:=VA hj;have hl:=r.length;have hn:=M5;have I':Inv X pins σ (upd H p (.lst (xs.set j v))) {s with heap:=s.heap.update p (Obj.mapSeq (·.setIfInBounds j u))} :=
  I.jn hp ho (Wn its n j u) (r.set rv j) (by rw[List.length_set];exact hz) s.toks
 by_cases h0:0≤k
 ·have hk:k.toNat=j:=by
   rw[seqIndex_of h0 h4]at h1;exact ao h1
  exact PySem.W.ki_setAt ho h0 (by omega) (by rw[List.size_toArray,←hl];exact h4) (by rw[hk];exact⟨_,I',q⟩)
 ·have hk:(k+(its.toArray.size:Int)).toNat=j:=by
   rw[seqIndex_neg (by omega) h3]at h1;rw[List.size_toArray,←hl];exact ao h1
  exact PySem.W.ki_setBack ho (by omega) (by rw[List.size_toArray,←hl];exact h3) (by omega) (by rw[hk];exact⟨_,I',q⟩)
def UP(lo hi:Option Int)(n:Nat):(sliceBounds lo hi none n).1=((HT.Bg n 0 lo:Nat):Int)∧(sliceBounds lo hi none n).2.1=((HT.Bg n n hi:Nat):Int)∧(sliceBounds lo hi none n).2.2=1:=by
 refine⟨?_,?_,rfl⟩
 ·cases lo with
  |none=>simp[sliceBounds,HT.Bg]
  |some i =>
   simp only[sliceBounds,HT.Bg,Option.getD_none,show(1:Int) > 0 by decide,if_true];by_cases h:i<0
   ·simp only[h,if_true]<;>omega
   ·simp only[h,if_false]<;>omega
 ·cases hi with
  |none=>simp[sliceBounds,HT.Bg]
  |some i =>
   simp only[sliceBounds,HT.Bg,Option.getD_none,show(1:Int) > 0 by decide,if_true];by_cases h:i<0
   ·simp only[h,if_true]<;>omega
   ·simp only[h,if_false]<;>omega
def Rx(its:List VL)(lo hi:Option Int):slicePick its.toArray lo hi none=((its.drop (HT.Bg its.length 0 lo)).take (HT.Bg its.length its.length hi-HT.Bg its.length 0 lo)).toArray:=by
 obtain⟨h1,h2,h3⟩:=UP lo hi its.toArray.size;unfold slicePick;rw[h1,h2,h3];simp only[sliceRange_one,pick_run,List.size_toArray]<;>rfl
def my(K:Fg):V→Option Int→Option Int→Hp→VK→Prop:=fun x lo hi H Q=>∃a xs,x=.ref a∧Ab K H a xs∧∀p,H p=none→Q (.ref p) (upd H p (.lst (K8 xs lo hi)))
def VS:Sg X (my X.K):=by
 intro pins s σ H x v vl vu lo hi sl Q I rx hs pl pu h;obtain⟨a,xs,rfl,hx,q⟩:=h;cases rx;obtain⟨its,r,ht,hz⟩:=I.list hx;have hlen:=r.length;refine⟨"list",_,slot_list_getitem.lookup,ht.isList.typeIs,?_⟩;refine wpAny_getItem_list_slice ht.isList hs pl pu .none (by simp) ?_ (by rw[List.size_toArray]<;>omega);rw[Rx,←hlen];refine⟨.ref s.heap.objs.size,_,I.laid (t':=s.toks) (o:=.lst (K8 xs lo hi)) (fun b ob q=>aD _ q) (aG _) ?_,rfl,q _ (I.Ap.fresh (aG _))⟩;exact⟨aQ (Nv xs lo hi) hz,_,0,(r.drop (HT.Bg xs.length 0 lo)).take (HT.Bg xs.length xs.length hi-HT.Bg xs.length 0 lo),Heap.get?_push_size _ rfl⟩
def Bo:DV X (.builtin "len") (fun xs H Q=>∃p ys,xs=[.ref p]∧(Ab X.K H p ys∨Ay X.K H p ys)∧Q (.int ys.length) H):=by
 intro pins s σ H xs us Q I r h;obtain⟨p,ys,rfl,hq,q⟩:=h;obtain⟨u,rfl,rx⟩:=vals1 r;cases rx;have hn:=M5;rcases hq with hq|hq
 ·obtain⟨its,r',pl,hz⟩:=I.list hq;have hlen:=r'.length;exact Calls.call_len_list pl.isList (by simp only[List.size_toArray]<;>omega) ⟨.int ys.length,H,I.tok _,⟨s.toks+1,by rw[List.size_toArray,hlen]⟩,q⟩
 ·obtain⟨its,r',pl,hz⟩:=I.tuple hq;have hlen:=r'.length;exact len_tuple pl (by simp only[List.size_toArray]<;>omega) ⟨.int ys.length,H,I.tok _,⟨s.toks+1,by rw[List.size_toArray,hlen]⟩,q⟩
def DV.or{f:VL}{r r':List V→Hp→VK→Prop}(h:DV X f r)(h':DV X f r'):DV X f (fun xs H Q=>r xs H Q∨r' xs H Q):=by
 intro pins s σ H xs us Q I rs q;rcases q with q|q
 ·exact h pins s σ H xs us Q I rs q
 ·exact h' pins s σ H xs us Q I rs q
def Mo:DV X (.type "list") (fun xs H Q=>∃p ys,xs=[.ref p]∧(Ab X.K H p ys∨Ay X.K H p ys)∧∀l,H l=none→Q (.ref l) (upd H l (.lst ys))):=by
 intro pins s σ H xs us Q I r h;obtain⟨p,ys,rfl,hq,q⟩:=h;obtain⟨u,rfl,rx⟩:=vals1 r;cases rx;have fin:∀(its:List VL),Vals ys its→ys.length≤sizeLine→∀(h':Heap) (c':Nat),(∀b o',s.heap.get? b=some o'→h'.get? b=some o') →
   h'.get? s.heap.objs.size=some { cls:=.type "list",dict:=none,data:=.seq its.toArray c',slots:=#[]}→EP X pins σ Q (.ref s.heap.objs.size) {s with heap:=h'}:=fun its r' hz h' c' kp e =>
  ⟨.ref s.heap.objs.size,_,I.laid (t':=s.toks) kp (aG _) (show CU X.prog X.w _ h' _ (.lst ys) from⟨hz,its,c',r',e⟩),rfl,q _ (I.Ap.fresh (aG _))⟩
 rcases hq with hq|hq
 ·obtain⟨its,r',pl,hz⟩:=I.list hq;have hlen:=r'.length;obtain⟨o,ho,hc,n,hd⟩:=pl.isList;exact call_list_seq p (.inl rfl) ho hc hd (fun h' c' kp e=>fin its r' hz h' c' kp e) (by simp only[List.size_toArray]<;>omega)
 ·obtain⟨its,r',pl,hz⟩:=I.tuple hq;have hlen:=r'.length;obtain⟨o,ho,hc,n,hd⟩:=pl;exact call_list_seq p (.inr rfl) ho hc hd (fun h' c' kp e=>fin its r' hz h' c' kp e) (by simp only[List.size_toArray]<;>omega)
def Ii:DV X (.type "tuple") (fun xs H Q=>∃p ys,xs=[.ref p]∧((Ab X.K H p ys∧∀l,H l=none→Q (.ref l) (upd H l (.tup ys)))∨(Ay X.K H p ys∧Q (.ref p) H))):=by
 intro pins s σ H xs us Q I r h;obtain⟨p,ys,rfl,h⟩:=h;obtain⟨u,rfl,rx⟩:=vals1 r;cases rx;rcases h with ⟨hq,q⟩|⟨hq,q⟩
 ·obtain⟨its,r',pl,hz⟩:=I.list hq;have hlen:=r'.length;refine call_tuple_list pl.isList (fun h' kp=>?_) (by simp only[List.size_toArray]<;>omega);have I1:Inv X pins σ H {s with heap:=h'}:=I.kept (t':=s.toks) kp;have I2:Inv X pins σ (upd H h'.objs.size (.tup ys)) {s with heap:=h'.push { cls:=.type "tuple",data:=.seq its.toArray} } :=
   I1.laid (t':=s.toks) (fun b o e=>aD _ e) (aG _) (show CU X.prog X.w _ _ _ (.tup ys) from⟨hz,its,r',IsTup.new _ _⟩)
  exact⟨.ref h'.objs.size,_,I2,rfl,q _ (I1.Ap.fresh (aG _))⟩
 ·obtain⟨its,r',pl,hz⟩:=I.tuple hq;exact call_tuple_same pl ⟨.ref p,H,I,rfl,q⟩
def lg(K:Fg)(T:String)(x:V)(H:Hp):Prop:=match x with
 |.str _=>T = "str"
 |.int _=>T = "int"
 |.ref p=>(T = "list" ∧ ∃xs,Ab K H p xs)∨(T = "tuple" ∧ ∃o,K.lookup p=some o∧o.cls=.type "tuple" ∧ o.dict=none) ∨
   (T = "dict" ∧((∃kvs,H p=some (.dK kvs))∨∃kvs,H p=some (.dT kvs)))∨(T = "set" ∧ ∃S n,H p=some (.set S n))
 |_=>False
def ip{pins:List (AD×Obj)}{σ:St}{H:Hp}{s:SD}{T:String}{x:V}{v:VL}(I:Inv X pins σ H s)(r:RelV x v)(ty:lg X.K T x H) :
  s.TypeIs v T∧∀a,v=.ref a→∃ob,s.heap.get? a=some ob∧ob.dict=none:=by
 cases x with
 |str z =>
  obtain⟨t,rfl⟩:=r;cases (show T = "str" from ty);exact⟨typeIs_str s z t,fun _ e=>nomatch e⟩
 |int i =>
  obtain⟨t,rfl⟩:=r;cases (show T = "int" from ty);exact⟨typeIs_int s i t,fun _ e=>nomatch e⟩
 |ref p =>
  cases r;rcases ty with ⟨rfl,xs,hq⟩|⟨rfl,o,hk,hc,hd⟩|⟨rfl,hk⟩|⟨rfl,S,n,hk⟩
  ·obtain⟨its,_,pl,_⟩:=I.list hq;refine⟨pl.isList.typeIs,fun a e=>?_⟩;cases e;obtain⟨o,n,e,c,hd,_⟩:=pl;exact⟨o,e,hd⟩
  ·refine⟨⟨o,I.F0 p o hk,hc⟩,fun a e=>?_⟩;cases e;exact⟨o,I.F0 _ o hk,hd⟩
  ·have z:∃o,s.heap.get? p=some o∧o.ExactDict:=by
    rcases hk with ⟨kvs,hk⟩|⟨kvs,hk⟩
    ·obtain⟨_,_,_,_,o,_,_,e,ex,_⟩:=I.Ap p _ hk;exact⟨o,e,ex⟩
    ·obtain⟨_,_,_,_,o,_,_,e,ex,_⟩:=I.Ap p _ hk;exact⟨o,e,ex⟩
   obtain⟨o,e,ex⟩:=z;refine⟨⟨o,e,ex.1⟩,fun a e2=>?_⟩;cases e2;exact⟨o,e,ex.2.1⟩
  ·obtain⟨o,_,_,_,e,ex,_⟩:=I.Ap p _ hk;refine⟨⟨o,e,ex.1⟩,fun a e2=>?_⟩;cases e2;exact⟨o,e,ex.2.1⟩
 |_=>exact False.elim ty
def gL(K:Fg)(T:String)(r:V→List V→Hp→VK→Prop)(to:TE)(t:TA):TE:=fun σ H Q=>to σ H fun x H1=>lg K T x H1∧t σ H1 fun xs H2=>r x xs H2 Q
variable{o e:Expr}{es:List Expr}{to:TE}{t:TA}{name:Str}{apos cpos:Pos}{T id:String}{r:V→List V→Hp→VK→Prop}
def Fy(pa:PlainAttrs T)(slot:Slot T name id)(hty:typeOf (.builtin id)=pure (.type "method_descriptor"))(hm:nv X id r)(ho:PE X o to)(ha:PA X (e::es) t)
 (hbase:attributeBase o name X.env (eval o X.env)=eval o X.env:=by rfl)
 (hfew:((backTo cpos (starEach (e::es) X.env)).all (fun x=>!x.1)&&(backToKw cpos (keywordEach [] X.env)).all (fun x=>x.1.isSome)
   && decide ((e::es).length+([]:List Keyword).length+(if([]:List Keyword).isEmpty then 0 else 1)<30))=true:=by rfl)
 (hline:(apos.endLine==cpos.line)=true:=by rfl)(hs:starEach (e::es) X.env=(false,eval e X.env)::starEach es X.env:=by rfl)(hplain:(backTo cpos (starEach es X.env)).any (·.1)=false:=by rfl) :
  PE X (.Call (.Attribute o name apos) (e::es) [] cpos) (gL X.K T r to t):=by
 intro pins s σ H Q I h;refine wpAny_Call_method_late hbase hfew hline rfl (BN (ho pins s σ H _ I h) fun v s1 ⟨x,H1,I1,r1,ty,q1⟩=>?_);obtain⟨h1,h2⟩:=ip I1 r1 ty;refine⟨T,id,pa,slot,hty,h1,h2,?_⟩;have hA:=ha cpos pins s1 σ H1 _ I1 q1;rw[hs]at hA ⊢;refine Calls.callWith_builtin (by show(false||(backTo cpos (starEach es X.env)).any (·.1))=false;rw[hplain]<;>rfl) (Calls.evalArgs_plain ?_);exact BN hA fun us s2 ⟨vs,H2,I2,r2,q2⟩=>hm pins s2 σ H2 x vs v us Q I2 r1 r2 q2
end
def lZ(X:Cx)(id:String)(r:V→List V→Hp→VK→Prop):Prop :=
 ∀(pins:List (AD×Obj)) (s:SD) (σ:St) (H:Hp) (x:V) (xs:List V) (v:VL) (us:List VL) (Q:VK),Inv X pins σ H s→RelV x v→Vals xs us→r x xs H Q →
  wpAny (model X.prog X.w) X.A (call (.builtin id) (v::us)) (EP X pins σ Q) X.xe s
def Vals.one:∀ {x:V} {us:List VL},Vals [x] us→∃u,us=[u]∧RelV x u
 |_,_,.cons r .nil=>⟨_,rfl,r⟩
def Vals.two:∀ {x y:V} {us:List VL},Vals [x,y] us→∃u v,us=[u,v]∧RelV x u∧RelV y v
 |_,_,_,.cons r (.cons q .nil)=>⟨_,_,rfl,r,q⟩
def Vals.reverse{xs:List V}{us:List VL}(h:Vals xs us):Vals xs.reverse us.reverse:=by
 induction h with
 |nil=>exact .nil
 |cons r t ih=>rw[List.reverse_cons,List.reverse_cons];exact Vals.append ih (.cons r .nil)
def Vals.rep{xs:List V}{us:List VL}(h:Vals xs us):∀k:Nat,Vals (List.replicate k xs).flatten (List.replicate k us).flatten
 |0=>.nil
 |k+1=>by
  rw[List.replicate_succ,List.replicate_succ,List.flatten_cons,List.flatten_cons];exact Vals.append h (Vals.rep h k)
def foldl_rep(its:List VL):∀(k:Nat) (acc:List VL),
  List.foldl (fun x1 x2=>x1++x2) acc.toArray (List.replicate k its.toArray)=(acc++(List.replicate k its).flatten).toArray
 |0,acc=>by simp
 |k+1,acc=>by
  have e:acc.toArray++its.toArray=(acc++its).toArray:=by simp
  have e2:(acc++its)++(List.replicate k its).flatten=acc++(List.replicate (k+1) its).flatten:=by
   rw[List.replicate_succ,List.flatten_cons,List.append_assoc]
  rw[←e2,←foldl_rep its k (acc++its),←e,List.replicate_succ,List.foldl_cons]
section
variable{X:Cx}{pins:List (AD×Obj)}{σ:St}{H:Hp}{s:SD}{l b:AD}{xs ys zs:List V}
def Inv.jH{its its':List VL}{n:Nat}{f:Array VL→Array VL}{t':Nat}(I:Inv X pins σ H s)(hH:H l=some (.lst xs))
 (e:s.heap.get? l=some { cls:=.type "list",data:=.seq its.toArray n})(hf:f its.toArray=its'.toArray)(hv:Vals ys its')(hz:ys.length≤sizeLine) :
  Inv X pins σ (upd H l (.lst ys)) {s with heap:=s.heap.update l (Obj.mapSeq f),toks:=t'}:=by
 have q:=PySem.IsL.update e f;rw[hf]at q;refine I.write (x:=l) (e:=l) (by rw[hH];exact trivial) (.inl rfl) (fun b' u hb hu=>(Heap.get?_update_other s.heap (Obj.mapSeq f) (Ne.symm hb)).trans hu) ⟨_,q⟩ ?_;exact⟨hz,its',_,hv,q⟩
def Inv.iH{its:List VL}{t':Nat}(I:Inv X pins σ H s)(hv:Vals ys its)(hz:ys.length≤sizeLine) :
  Inv X pins σ (upd H s.heap.objs.size (.lst ys)) {s with heap:=s.heap.push { cls:=.type "list",data:=.seq its.toArray},toks:=t'} :=
 I.laid (fun _ _ q=>aD _ q) (aG _) ⟨hz,its,0,hv,Heap.get?_push_size _ rfl⟩
def Inv.fresh(I:Inv X pins σ H s):H s.heap.objs.size=none:=I.Ap.fresh (aG _)
def Inv.Qt(I:Inv X pins σ H s)(hH:H l=some (.lst xs)):xs.length≤sizeLine∧∃(its:List VL) (n:Nat),Vals xs its∧xs.length=its.length∧s.heap.get? l=some { cls:=.type "list",data:=.seq its.toArray n}:=by
 obtain⟨z,its,n,r,e⟩:=I.Ap l _ hH;exact⟨z,its,n,r,r.length,e⟩
def Td{n:Nat}(h:n≤sizeLine):Builtin.List.listTooLong n=false:=by
 unfold Builtin.List.listTooLong;exact bC (by omega)
end
section
variable{X:Cx}
def VQ:V→List V→Hp→VK→Prop:=fun x vs H Q=>∃l xs y,x=.ref l∧vs=[y]∧H l=some (.lst xs)∧xs.length<sizeLine∧Q .BF (upd H l (.lst (xs++[y])))
def DY:lZ X "list.append" VQ:=by
 intro pins s σ H x vs v us Q I rx rv h;obtain⟨l,xs,y,rfl,rfl,hH,hz,q⟩:=h;cases rx;obtain⟨u,rfl,ru⟩:=rv.one;obtain⟨z,its,n,r,hl,e⟩:=I.Qt hH;refine call_meets F.slot_list_append ⟨_,e,rfl⟩ F.entry_list_append (F.args_list_append_2 _ _) (PySem.list_append l its.toArray n u (by rw[List.size_toArray];omega)) ⟨e,?_⟩;refine⟨.BF,_,I.jH (its':=its++[u]) hH e (by simp) (r.append (.cons ru .nil)) ?_,rfl,q⟩;rw[List.length_append,List.length_singleton];omega
def VC:V→List V→Hp→VK→Prop:=fun x vs H Q=>∃l b xs zs,x=.ref l∧vs=[.ref b]∧H l=some (.lst xs)∧H b=some (.lst zs)∧xs.length+zs.length≤sizeLine∧Q .BF (upd H l (.lst (xs++zs)))
def K3:lZ X "list.extend" VC:=by
 intro pins s σ H x vs v us Q I rx rv h;obtain⟨l,b,xs,zs,rfl,rfl,hH,hB,hz,q⟩:=h;cases rx;obtain⟨u,rfl,ru⟩:=rv.one;cases ru;obtain⟨z,its,n,r,hl,e⟩:=I.Qt hH;obtain⟨z2,its2,n2,r2,hl2,e2⟩:=I.Qt hB;have hsz:its.toArray.size+its2.toArray.size≤sizeLine:=by rw[List.size_toArray,List.size_toArray];omega
 have hlong:¬(!its.toArray.isEmpty&&Builtin.List.listTooLong (its.toArray.size+its2.toArray.size))=true:=by
  rw[Td hsz,Bool.and_false];exact aK
 refine call_meets F.slot_list_extend ⟨_,e,rfl⟩ F.entry_list_extend (F.args_list_extend_2 _ _)
  (AutoSeq1.list_extend_list_list_0 l its.toArray n b its2.toArray n2 hlong (by rw[List.size_toArray];omega) (by omega)) ⟨e,e2,?_⟩
 refine⟨.BF,_,I.jH (its':=its++its2) hH e (by simp) (r.append r2) ?_,rfl,q⟩;rw[List.length_append];omega
def mT:R2:=fun x y H Q=>∃l b xs zs,x=.ref l∧y=.ref b∧H l=some (.lst xs)∧H b=some (.lst zs)∧xs.length+zs.length≤sizeLine∧∀p,H p=none→Q (.ref p) (upd H p (.lst (xs++zs)))
def W7:Ct X (binaryOp .Add) mT:=by
 intro pins s σ H x y v u Q I rx ry h;obtain⟨l,b,xs,zs,rfl,rfl,hH,hB,hz,q⟩:=h;cases rx;cases ry;obtain⟨z,its,n,r,hl,e⟩:=I.Qt hH;obtain⟨z2,its2,n2,r2,hl2,e2⟩:=I.Qt hB;refine PySem.P.add_list e e2 ?_ (by rw[List.size_toArray,List.size_toArray];omega);have ea:its.toArray++its2.toArray=(its++its2).toArray:=by simp
 rw[ea];exact⟨.ref _,_,I.iH (t':=s.toks) (r.append r2) (by rw[List.length_append];omega),rfl,q _ I.fresh⟩
def mG:R2:=fun x y H Q=>∃l k xs,x=.ref l∧y=.int k∧H l=some (.lst xs)∧-(2^63)≤k∧k<2^63∧xs.length*k.toNat≤sizeLine ∧
 ∀p,H p=none→Q (.ref p) (upd H p (.lst (List.replicate k.toNat xs).flatten))
def len_rep{α:Type}(xs:List α)(k:Nat):(List.replicate k xs).flatten.length=k*xs.length:=by
 induction k with
 |zero=>simp
 |succ k ih=>rw[List.replicate_succ,List.flatten_cons,List.length_append,ih,Nat.succ_mul,Nat.add_comm]
def Yp:Ct X (binaryOp .Mult) mG:=by
 intro pins s σ H x y v u Q I rx ry h;obtain⟨l,k,xs,rfl,rfl,hH,h1,h2,hz,q⟩:=h;cases rx;obtain⟨t,rfl⟩:=ry;obtain⟨z,its,n,r,hl,e⟩:=I.Qt hH;have hlen:its.toArray.size*k.toNat≤sizeLine:=by rw[List.size_toArray,←hl];exact hz
 have hcap:¬its.toArray.size*k.toNat > (2^63-1) / 8:=by
  have:(sizeLine:Nat)≤(2^63-1) / 8:=by decide
  omega
 have hfit:¬(!Builtin.List.listFitsIndex k)=true:=by
  rw[fitsIndex_both h1 h2];exact aK
 have hlong:¬Builtin.List.listTooLong (its.toArray.size*k.toNat)=true:=by
  rw[Td hlen];exact aK
 have hnew:List.foldl (fun x1 x2=>x1++x2) #[] (List.replicate (if its.toArray.isEmpty=true then 0 else k.toNat) its.toArray)=(List.replicate k.toNat its).flatten.toArray:=by
  have f0:∀m:Nat,List.foldl (fun x1 x2=>x1++x2) #[] (List.replicate m its.toArray)=(List.replicate m its).flatten.toArray:=fun m=>by
   have:=foldl_rep its m [];rw[List.nil_append]at this;exact this
  rw[f0];cases its with
  |nil=>simp
  |cons a r'=>rw[if_neg (by simp)]
 refine wpAny_binaryOp_repeat_ref (T := "list") (U := "int") (by decide) ⟨_,e,rfl⟩ (fun s'=>typeIs_int s' k t) noFill_list_mul F.fills_int_mul F.slot_int_rmul repeat_list F.slot_int_index.lookup
  (call_meets F.slot_int_rmul (typeIs_int s k t) F.entry_int_rmul (F.args_int_rmul_2 _ _) (int___rmul___int_list k t l its.toArray n)
   ⟨e,rfl,⟨_,e,rfl⟩,call_meets F.slot_list_mul ⟨_,e,rfl⟩ F.entry_list_mul (F.args_list_mul_2 _ _) (AutoListH.list___mul___list_int_3 l its.toArray n k t hfit hcap hlong) ⟨e,?_⟩⟩)
 rw[hnew];exact⟨.ref _,_,I.iH (t':=s.toks) (r.rep k.toNat) (by rw[len_rep,Nat.mul_comm];exact hz),rfl,q _ I.fresh⟩
end
end L2
namespace Att
open PySem PySem.W PySem.Calls PyProof.Rows
def QF{P:Params}{h:Heap}:∀(ns:List Int) (vs:List VL),WellAll P h vs (ns.map WData.int)→IntsAre vs ns:=by
 intro ns
 induction ns with
 |nil =>
  intro vs w;rw[List.map_nil]at w;cases w;exact .nil
 |cons n ns ih =>
  intro vs w;rw[List.map_cons]at w;cases w with
  |cons a b =>
   cases a;exact .cons _ _ (ih _ b)
def Xd{l:OpenLaw}{n:Nat}(hn:l.most=some n){P:Params}{h:Heap}{args:List WData}{vals:List VL}
 (hpre:l.row.toRowW.claim.pre args=true)(hwl:WellAll P h vals args) :
  ∃a vs ns,vals=[Value.ref a]∧args=[WData.list (ns.map WData.int)]∧h.get? a=some { cls:=.type "list",data:=.seq vs.toArray}∧IntsAre vs ns∧ns.length≤n:=by
 have hsh:WShape.hasAll [] args [.list .int]=true:=(pre_splitW hpre).1;have hc:l.pre.holds [] { args:=args}=true:=(pre_splitW hpre).2;obtain⟨d,r,rfl,h1,h2⟩:=hasAllW_cons hsh;obtain rfl:=hasAllW_nil h2;obtain⟨xs,rfl,h3⟩:=hasW_list h1;obtain⟨ns,rfl⟩:=items_int h3;have hlen:ns.length≤n:=by
  unfold OpenLaw.pre at hc;have h4:(WTm.not (.lt (.lit (.int (n:Int))) (.len (.arg 0)))).holds [] { args:=[.list (ns.map .int)]}=true:=by
   have h4:=(holds_andW hc).1;rw[hn]at h4;exact h4
  have h5:=condW_of h4 (w_not (w_lt w_lit (w_len_list (w_arg rfl))));rw[List.length_map]at h5;refine Nat.le_of_not_lt fun q=>?_;have q':(n:Int)<((ns.length:Nat):Int):=by omega
  first
   |(rw[decide_eq_true q']at h5;exact absurd h5 (by decide))
   |(simp at h5;omega)
 cases hwl with
 |cons w1 w2 =>
  cases w2;cases w1 with
  |list ho hall=>exact⟨_,_,ns,rfl,rfl,ho,QF ns _ hall,hlen⟩
def Yo(l:OpenLaw)(args:List WData):l.row.toRowW.claim.post args (.bool true) args=true :=
 postW_of (r:=l.row.toRowW) (X:=(true==true))
  (show WShape.has [] (.bool true) .bool=true by first|rfl|decide|simp[WShape.has,WShape.arms,WShape.armsAll])
  (show(WTm.eq .res (.lit (.bool true))).value [] { args:=args,res:=some (.bool true),after:=args}=some (.bool (true==true)) from w_eq_bool (w_res rfl) w_lit) rfl
def Uj{l:OpenLaw}{n:Nat}{q:Program}{loose:List Str}{XP:(Str→Option VL)→Heap→Prop}{YP:World→Heap→Prop}{d:DefRec}
 (hn:l.most=some n)(hdf:d.params.defaults=[])
 (call:∀(w:World) (s₀ s₁:SD) (mg mb:Str→Option VL) (fa:AD) (o:Obj) (pm cd doc:VL) (a:AD) (vs:List VL) (ns:List Int),
   Ground q loose [] XP w s₀ mg mb s₁.heap→YP w s₁.heap →
   s₁.heap.get? fa=some o→o.data=.func (docDef d.name d.params d.body d.scope pm cd doc)→s₁.heap.CodeRec cd d.name→mg d.name=some (.ref fa) →
   s₁.heap.get? a=some { cls:=.type "list",data:=.seq vs.toArray}→IntsAre vs ns→ns.length≤n→s₁.gens=#[] →
   codeAny (model l.prog w) callerA (.call (.ref fa) ⟨[.ref a],[]⟩) (fun r s'=>r=.ok (.ret (.bool true))∧OldK s₁.heap s'.heap∧s'.os=s₁.os∧AllBare s'.gens) s₁) :
  WalkO q loose XP YP l.row.toRowW d [] (fun f vs=>PySem.call f vs):=by
 intro w s₀ s₁ mg mb G Y fa o pm cd doc dV kV ho hd hcd hD hmg hg args vals as hpre hlay hrd hwl hlo;obtain rfl:dV=.none:=Dflts.none hD hdf;obtain rfl:kV=.none:=Dflts.noKw hD;obtain⟨a,vs,ns,rfl,rfl,hobj,hints,hlen⟩:=Xd hn hpre hwl;refine enter_call (codeAny_mono (call w s₀ s₁ mg mb fa o pm cd doc a vs ns G Y ho (fd_plain hd) hcd hmg hobj hints hlen hg) fun r s' hq=>?_);obtain⟨rfl,h2,h3,h4⟩:=hq;exact⟨.inl ⟨.bool true,.bool true,[],rfl,fun _=>rfl,.bool true,Yo l _,fun _=>⟨List.Pairwise.nil,fun _ hm=>(nomatch hm)⟩⟩,h2,h3,h4⟩
end Att
namespace L2
open PySem PySem.Spec PyProof.Rows
def Q2:∀ {vs:List VL} {ns:List Int},IntsAre vs ns→Vals (ns.map V.int) vs
 |_,_,.nil=>.nil
 |_,_,.cons n t h=>.cons ⟨t,rfl⟩ (Q2 h)
def b5(H:Hp):Prop:=∀b,H b=none∨∃o xs,H b=some (.FN o (.lst xs))
def ZK{P:Program}{w:World}{K:Fg}{mg mb:Str→Option VL}{CX:HZ}{k:Nat}{fa a:AD}{fd:FuncData}{x:Str}{sp:Sp}{s₁:SD}{vs:List VL}{ns:List Int}
 (KX:K.In s₁.heap)(hns:s₁.heap.Ns mainGlobals mg)(hb:s₁.heap.Ns builtinsNs mb)(hbb:∀x:Str,x ≠ "__name__" → mb x=bootBuiltins x)(hlim:s₁.heap.NoLimit)(hg:s₁.gens=#[])
 (ha:s₁.heap.get? a=some { cls:=.type "list",data:=.seq vs.toArray})(hi:IntsAre vs ns)(hl:ns.length≤sizeLine)(hr:Cs k callerA)
 (F:∀base:Heap,K.In base→base.Ns mainGlobals mg→AQ P w K mg base CX k fa fd [x] sp)(hbind:∀(s:SD) (u:VL),BindsTo s fd ⟨[u],[]⟩ [(x,u)])
 (hsp:∀H:Hp,b5 H→Ab K H a (ns.map V.int)→sp [.ref a] H (fun v _=>v=.bl true) fun _ _ _=>False)
 (hCX:∀H e s',CX [] H s₁ (fun _ _ _=>False) e s'→False) :
  codeAny (model P w) callerA (.call (.ref fa) ⟨[.ref a],[]⟩) (fun r s'=>r=.ok (.ret (.bool true))∧OldK s₁.heap s'.heap∧s'.os=s₁.os∧AllBare s'.gens) s₁:=by
 have rv:=Q2 hi;have lenV:=hi.length;have core:∀H:Hp,b5 H→Ab K H a (ns.map V.int)→EG P w H s₁.heap→(∀b,H b≠none→b=a)→(H a≠none→K.lookup a=none) →
   codeAny (model P w) callerA (.call (.ref fa) ⟨[.ref a],[]⟩) (fun r s'=>r=.ok (.ret (.bool true))∧OldK s₁.heap s'.heap∧s'.os=s₁.os∧AllBare s'.gens) s₁:=by
  intro H hO hS Ap hA hK;have base_of:∀ {b:AD} {o:Obj},s₁.heap.get? b=some o→H b=none→(MG s₁.heap H).get? b=some o:=fun e n=>Zi e n;have noA:∀ {b:AD} {o:Obj} {es:Array DictEntry} {ep:Nat},s₁.heap.get? b=some o→o.data=.dict es ep→H b=none:=fun {b o es ep} e d=>by
   cases q:H b with
   |none=>rfl
   |some u =>
    have e':b=a:=hA b (by rw[q];simp);subst e';rw[ha]at e;cases e;have d':Data.seq vs.toArray _=Data.dict es ep:=d;cases d'
  have nsK:∀ {b:AD} {m:Str→Option VL},s₁.heap.Ns b m→(MG s₁.heap H).Ns b m:=fun {b m} ⟨o,es,ep,e,d,r⟩=>⟨o,es,ep,base_of e (noA e d),d,r⟩;have hKb:K.In (MG s₁.heap H):=fun b o e=>base_of (KX b o e) (by
   cases q:H b with
   |none=>rfl
   |some u =>
    have e':b=a:=hA b (by rw[q];simp);subst e';rw[hK (by rw[q];simp)]at e;cases e)
  have hM:Mod K mg (MG s₁.heap H):=⟨hKb,nsK hns,⟨mb,nsK hb,hbb⟩,let⟨mc,h1,h2⟩:=hlim;⟨mc,nsK h1,h2⟩⟩;have e0:Wo P w K mg (MG s₁.heap H) callerA [] s₁ H:=⟨rfl,hM,fun b o e=>ef e,Nat.le_of_eq (YD _ _),trivial,fun b hb=>absurd (show b∈([]:List AD) from hb) (by simp),Ap,.of_eq hg⟩;refine codeAny_mono ((F _ hKb (nsK hns)).run callerA [] s₁ H ⟨[.ref a],[]⟩ [.ref a] [.ref a] _ _ hr e0 (hbind s₁ (.ref a)) (.cons rfl .nil) (hsp H hO hS)) fun r s' h=>?_;cases r with
  |error e=>exact(hCX H e s' h).elim
  |ok fl =>
   cases fl with
   |next=>exact False.elim h
   |brk=>exact False.elim h
   |cont=>exact False.elim h
   |ret u =>
    obtain⟨v,H',os,bare,un,hok',r',q⟩:=h;have q':v=.bl true:=q;subst q';obtain rfl:u=Value.bool true:=r';refine⟨rfl,OldK.of_keep fun b o e=>?_,os,bare⟩;cases q:H b with
    |none=>exact un.keep b o e q (by intro z;exact absurd (show b∈([]:List AD) from z) (by simp)) (by simp)
    |some u =>
     rcases hO b with z|⟨ob,xs,z⟩
     ·rw[q]at z;cases z
     ·have z2:=un.FT b ob _ z;obtain⟨e1,_⟩:=Ap b _ z;obtain⟨e2,_⟩:=hok' b _ z2;rw[e]at e1;cases e1;exact e2
 cases hk:K.lookup a with
 |some o =>
  have e:=KX a o hk;rw[ha]at e;cases e;refine core (fun _=>none) (fun _=>.inl rfl) (.inr ⟨_,vs.toArray,_,hk,rfl,rfl,rfl,by rw[List.size_toArray,lenV];exact hl,by simpa using rv⟩) (fun b u z=>by have z':(none:Option HO)=some u:=z;cases z') (fun b z=>absurd rfl z) fun z=>absurd rfl z
 |none =>
  refine core (fun b=>if b=a then some (.FN { cls:=.type "list",data:=.seq vs.toArray} (.lst (ns.map V.int))) else none) (fun b=>?_) (.inl (.inr ⟨{ cls:=.type "list",data:=.seq vs.toArray},if_pos rfl⟩)) (fun b u z=>?_) (fun b z=>?_) fun _=>hk
  ·by_cases hb:b=a
   ·exact .inr ⟨_,_,if_pos hb⟩
   ·exact .inl (if_neg hb)
  ·by_cases hb:b=a
   ·have z':=(if_pos hb).symm.trans z;cases z';subst hb;exact⟨ha,by rw[List.length_map];exact hl,vs,_,rv,ha⟩
   ·have z':=(if_neg hb).symm.trans z;cases z'
  ·by_cases hb:b=a
   ·exact hb
   ·exact absurd (if_neg hb) z
def fF{l:PySem.W.OpenLaw}{n k:Nat}{q:Program}{loose:List Str}{XP:(Str→Option VL)→Heap→Prop}{YP:World→Heap→Prop}{d:DefRec}{K:Params→Fg}{CX:World→HZ}{sp:World→Sp}{x:Str}
 (hn:l.most=some n)(hn2:n≤sizeLine)(hdf:d.params.defaults=[])(hr:Cs k callerA)
 (hY:∀(w:World) (h:Heap),YP w h→(K w.params).In h)
 (F:∀(w:World) (mg:Str→Option VL) (fa:AD) (h:Heap),(K w.params).In h→h.Ns mainGlobals mg→mg d.name=some (.ref fa) →
   ∃fd:FuncData,(∀(s:SD) (u:VL),BindsTo s fd ⟨[u],[]⟩ [(x,u)]) ∧
    ∀base:Heap,(K w.params).In base→base.Ns mainGlobals mg→AQ l.prog w (K w.params) mg base (CX w) k fa fd [x] (sp w))
 (hsp:∀(w:World) (H:Hp) (a:AD) (ns:List Int),ns.length≤n→b5 H→Ab (K w.params) H a (ns.map V.int)→sp w [.ref a] H (fun v _=>v=.bl true) fun _ _ _=>False)
 (hCX:∀(w:World) (H:Hp) (s:SD) (e:VL) (s':SD),CX w [] H s (fun _ _ _=>False) e s'→False) :
  PySem.W.WalkO q loose XP YP l.row.toRowW d [] (fun f vs=>PySem.call f vs):=by
 refine Att.Uj hn hdf fun w s₀ s₁ mg mb fa o pm cd doc a vs ns G Y ho hd hcd hmg hobj hints hlen hg=>?_;have KX:=hY w _ Y;obtain⟨fd,hb,hF⟩:=F w mg fa _ KX G.T.g hmg;exact ZK KX G.T.g G.T.b G.T.builtins G.T.nolimit hg hobj hints (aQ hlen hn2) hr hF hb (fun H hO hS=>hsp w H a ns hlen hO hS) fun H e s'=>hCX w H s₁ e s'
def Fw(s:Stmt):Arguments:=match s with
 |.FunctionDef _ a _ _ _ _ _ _ _ _=>a
 |_=>{ posonlyargs:=[],args:=[],vararg:=none,kwonlyargs:=[],kw_defaults:=[],kwarg:=none,defaults:=[]}
def DH(s:Stmt):List Stmt:=match s with
 |.FunctionDef _ _ b _ _ _ _ _ _ _=>b
 |_=>[]
def AV(s:Stmt):Scope:=match s with
 |.FunctionDef _ _ _ _ _ _ sc _ _ _=>sc
 |_=>{ kind:=.function,names:=[],isGenerator:=false,isCoroutine:=false}
abbrev Ah:HZ:=fun _ _ _ _ _ _=>False
abbrev E0:XK:=fun _ _ _=>False
def lI{X:Cx}:Passes Ah X E0:=fun _ _ _ _ _ _ _ h=>h.elim
structure RP(K:Fg)(x qual:Str)(st:Stmt)(f:Addr)(fd:FuncData):Prop where
 ex:∃(oc:Value) (od:Option Addr) (kV doc pm:Value) (an:Option Addr) (cdv ct:Value) (osl:Array (Option Value)),
  fd=PySem.W.fnOf x qual (Fw st) (DH st) (AV st) .none kV doc pm an cdv ct∧K.lookup f=some ⟨oc,od,.func fd,osl⟩∧PySem.W.codeIn K cdv qual=true
 kp:PySem.W.keepIn K (.ref f)=true
section
variable{P:Program}{w:World}{K:Fg}{mg:Str→Option VL}{base:Heap}
def RP.ok{x qual:Str}{st:Stmt}{f:AD}{fd:FuncData}{N ps:List Str}{k:Nat}{sp:Sp}(F:RP K x qual st f fd)(S:Aa N ps (AV st))(len:∀vs H Q E,sp vs H Q E→vs.length=ps.length)
 (hbody:∀(cdv:VL) (A:Around) (outer:List Env) (s:SD) (H:Hp) (vs:List V) (Q:VK) (E:XK),Cs k (A.deeper (envOfC qual (AV st) s.heap.objs.size f cdv))→sp vs H Q E →
   ∃t,HI (Cp Ah P w K mg base N qual (AV st) f cdv A outer s H E).Gv (DH st) t∧t { nx:=fun _ H'=>Q .BF H',rt:=Q} (start N vs) H):AQ P w K mg base Ah (k+1) f fd ps sp:=by
 obtain⟨oc,od,kV,doc,pm,an,cdv,ct,osl,rfl,lk,hcd⟩:=F.ex;refine cA lk hcd S len fun A outer s H vs Q E hr hsp=>?_;obtain⟨t,h,q⟩:=hbody cdv A outer s H vs Q E hr hsp;exact⟨t,h.Gv,q⟩
def RP.binds{x qual:Str}{st:Stmt}{f:AD}{fd:FuncData}{ps:List Str}(F:RP K x qual st f fd)
 (h:∀(kV doc pm:VL) (an:Option AD) (cdv ct:VL) (us:List VL),us.length=ps.length→bindArgs (PySem.W.fnOf x qual (Fw st) (DH st) (AV st) .none kV doc pm an cdv ct) ⟨us,[]⟩=pure (ps.zip us)):Binds K fd ps []:=by
 obtain⟨oc,od,kV,doc,pm,an,cdv,ct,osl,rfl,lk,hcd⟩:=F.ex;exact .all (h kV doc pm an cdv ct)
def X9{x qual:Str}{st:Stmt}{f:AD}{oc:VL}{od an:Option AD}{osl:Array (Option VL)}{kV doc pm cdv ct:VL}(l:K.lookup f=some ⟨oc,od,.func (PySem.W.fnOf x qual (Fw st) (DH st) (AV st) .none kV doc pm an cdv ct),osl⟩)
 (c:PySem.W.codeIn K cdv qual=true)(k:PySem.W.keepIn K (.ref f)=true):RP K x qual st f (PySem.W.fnOf x qual (Fw st) (DH st) (AV st) .none kV doc pm an cdv ct):=⟨⟨oc,od,kV,doc,pm,an,cdv,ct,osl,rfl,l,c⟩,k⟩
end
def RU{n:Nat}(h:n≤1000):n<sizeLine:=ay h (by decide)
section
variable{X:Cx}
def pv(i:Nat){x:Str}{pos:Pos}(hN:X.N[i]? = some x:=by rfl)(hv:gg X.env.scope x:=by first|exact Or.inl rfl|exact Or.inr (Or.inl rfl)|exact Or.inr (Or.inr rfl))(hd:(x==("__debug__" : Str))=false:=by decide)
 (hcd:(x==("__classdict__" : Str))=false:=by decide):PE X (.Name x pos) (OU i):=jk hN hv hd hcd
end
def Mj{A B:Prop}(h:B):if false=true then A else B:=by
 rw[if_neg aK];exact h
def EO{A B:Prop}(h:A):if true=true then A else B:=by
 rw[if_pos rfl];exact h
def BA{c A B:Prop}[Decidable c](h1:c→A)(h2:¬c→B):if c then A else B:=by
 by_cases h:c
 ·rw[if_pos h];exact h1 h
 ·rw[if_neg h];exact h2 h
def AK(H H':Hp):Prop:=∀b o,H b=some o→H' b=some o
def AK.refl(H:Hp):AK H H:=fun _ _ h=>h
def AK.trans{H H1 H2:Hp}(a:AK H H1)(b:AK H1 H2):AK H H2:=fun c o h=>b c o (a c o h)
def AK.free{H H':Hp}(e:AK H H'){l:AD}(h:H' l=Option.none):H l=Option.none:=by
 cases q:H l with
 |none=>rfl
 |some o =>
  rw[e l o q]at h;cases h
section
variable{X:Cx}
def PK(i j:Int):Prop:=∃m:Nat,m≤1000000∧i.natAbs<2^m∧j.natAbs<2^m
def PK.ok{i j:Int}(h:PK i j):IntMulOk i j:=by
 obtain⟨m,hm,h1,h2⟩:=h;exact IntMulOk.of_le (intBits_le_iff.mpr h1) (intBits_le_iff.mpr h2) (by omega)
def Hl:Ct X (binaryOp .Mult) (rI (fun i j=>UB i j∨PK i j) fun i j=>.int (i*j)) :=
 VZ fun _ _ _ _ _ _ _ hc q=>mul_int q (hc.elim (fun z=>z.ok) fun z=>z.ok)
def lB(_i j:Int):Prop:=j≠0∧∃m:Nat,m≤9000∧j.natAbs<2^m
def Gf:Ct X (binaryOp .FloorDiv) (rI lB fun i j=>.int (i.fdiv j)):=VZ fun i j _ _ _ _ _ hc q=>by
 obtain⟨h0,m,hm,h1⟩:=hc;refine floordiv_int h0 q (.inl (PyProof.noPylong_of_log2 ?_));have hne:j.natAbs≠0:=by omega
 have:j.natAbs.log2<m:=(Nat.log2_lt hne).mpr h1;omega
mutual
def Br(K:Fg)(H:Hp):PD→V→Prop
 |.none,v=>v=.BF
 |.bool b,v=>v=.bl b
 |.int i,v=>v=.int i
 |.str x,v=>v=.str x
 |.tuple ds,v=>∃a xs,v=.ref a∧Ay K H a xs∧EH K H ds xs
 |.list ds,v=>∃a xs,v=.ref a∧Ab K H a xs∧EH K H ds xs
 |.dict _,_=>False
def EH(K:Fg)(H:Hp):List PD→List V→Prop
 |[],xs=>xs=[]
 |d::ds,xs=>∃x r,xs=x::r∧Br K H d x∧EH K H ds r
end
def AK.tup{K:Fg}{H H':Hp}{a:AD}{xs:List V}(e:AK H H')(h:Ay K H a xs):Ay K H' a xs:=by
 rcases h with (h|⟨o,h⟩)|h
 ·exact .inl (.inl (e _ _ h))
 ·exact .inl (.inr ⟨o,e _ _ h⟩)
 ·exact .inr h
mutual
def Br.reads{pins:List (AD×Obj)}{σ:St}{H:Hp}{s:SD}(I:Inv X pins σ H s):∀ {d:PD} {v:V} {u:VL},Br X.K H d v→RelV v u→∃as,Reads s.heap u d as
 |.none,_,u,h,r=>by rw[Br]at h;subst h;cases r;exact⟨_,.none⟩
 |.bool b,_,u,h,r=>by rw[Br]at h;subst h;cases r;exact⟨_,.bool b⟩
 |.int i,_,u,h,r=>by rw[Br]at h;subst h;obtain⟨t,rfl⟩:=r;exact⟨_,.int i t⟩
 |.str x,_,u,h,r=>by rw[Br]at h;subst h;obtain⟨t,rfl⟩:=r;exact⟨_,.str x t⟩
 |.tuple ds,_,u,h,r=>by
  rw[Br]at h;obtain⟨a,xs,e1,h1,h2⟩:=h;subst e1;cases r;obtain⟨its,rv,⟨o,e,c,n,hd⟩,_⟩:=I.tuple h1;obtain⟨as,ra⟩:=EH.reads I h2 rv;exact⟨_,.tuple e c hd (by simpa using ra)⟩
 |.list ds,_,u,h,r=>by
  rw[Br]at h;obtain⟨a,xs,e1,h1,h2⟩:=h;subst e1;cases r;obtain⟨its,rv,⟨o,n,e,c,_,hd⟩,_⟩:=I.list h1;obtain⟨as,ra⟩:=EH.reads I h2 rv;exact⟨_,.list e c hd (by simpa using ra)⟩
 |.dict _,_,_,h,_=>by rw[Br]at h;exact h.elim
def EH.reads{pins:List (AD×Obj)}{σ:St}{H:Hp}{s:SD}(I:Inv X pins σ H s):∀ {ds:List PD} {xs:List V} {us:List VL},EH X.K H ds xs→Vals xs us→∃as,ReadsAll s.heap us ds as
 |[],_,us,h,r=>by rw[EH]at h;subst h;cases r;exact⟨_,.nil⟩
 |_::_,_,us,h,r=>by
  rw[EH]at h;obtain⟨x,q,e1,h1,h2⟩:=h;subst e1;cases r with
  |cons r1 r2 =>
   obtain⟨as,ra⟩:=Br.reads I h1 r1;obtain⟨bs,rb⟩:=EH.reads I h2 r2;exact⟨_,.cons ra rb⟩
end
def Zq(K:Fg)(neg:Bool):R2:=fun x y H Q=>∃d e,Br K H d x∧Br K H e y∧SeqAt.shaped d=true∧SeqAt.shaped e=true∧Q (.bl (if neg then !PyData.eqv d e else PyData.eqv d e)) H
def YA(hu:X.A.units+64<cLine):Ct X (compareOp .Eq) (Zq X.K false):=by
 intro pins s σ H x y v u Q I rx ry h;obtain⟨d,e,h1,h2,s1,s2,q⟩:=h;obtain⟨as,ra⟩:=Br.reads I h1 rx;obtain⟨bs,rb⟩:=Br.reads I h2 ry;exact eq_dataH ra rb s1 s2 hu ⟨.bl _,H,I,rfl,q⟩
def fj(hu:X.A.units+64<cLine):Ct X (compareOp .NotEq) (Zq X.K true):=by
 intro pins s σ H x y v u Q I rx ry h;obtain⟨d,e,h1,h2,s1,s2,q⟩:=h;obtain⟨as,ra⟩:=Br.reads I h1 rx;obtain⟨bs,rb⟩:=Br.reads I h2 ry;exact ne_dataH ra rb s1 s2 hu ⟨.bl _,H,I,rfl,q⟩
end
end L2
set_option maxHeartbeats 4000000
namespace L2
open PySem PySem.Spec PyProof.Rows
def Mi(X:Cx)(ifs:List Expr)(t:TT):Prop :=
 ∀(pins:List (AD×Obj)) (s:SD) (σ:St) (H:Hp) (Q:Bool→Hp→Prop),Inv X pins σ H s→t σ H Q →
  wpAny (model X.prog X.w) X.A (forIn ifs true fun c r=>if r=true then do let ok ←isTrue c X.env (eval c X.env);pure (ForInStep.yield ok) else pure (ForInStep.yield r)) (TP X pins σ Q) X.xe s
def IB:TT:=fun _ H Q=>Q true H
def Ex{X:Cx}:Mi X [] IB:=fun _ _ σ H _ I h=>wpAny_tests_nil ⟨H,I,h⟩
def F7(N XN:List Str)(sc xsc:Scope):List (Option Nat)→Nat→Bool
 |[],_=>true
 |none::r,i=>F7 N XN sc xsc r (i+1)
 |some j::r,i=>(match N[i]?,XN[j]? with
   |some n,some m=>n==m&&sc.names.lookup n==some .free&&xsc.names.lookup n==some .cell
   |_,_=>false)&&F7 N XN sc xsc r (i+1)
def OQ{N XN:List Str}{sc xsc:Scope}:∀ {fr:List (Option Nat)} {k:Nat},F7 N XN sc xsc fr k=true→∀ {i j:Nat},fr[i]? = some (some j) →
  ∃n,N[k+i]? = some n∧XN[j]? = some n∧sc.names.lookup n=some .free∧xsc.names.lookup n=some .cell
 |[],_,_,i,j,e=>by simp at e
 |none::r,k,h,0,j,e=>by simp at e
 |none::r,k,h,i+1,j,e=>by
  have q:=OQ (fr:=r) (k:=k+1) h (i:=i) (j:=j) (by simpa using e);have z:k+(i+1)=k+1+i:=by omega
  rw[z];exact q
 |some j'::r,k,h,0,j,e=>by
  have e':j'=j:=by simpa using e
  subst e';rw[F7,Bool.and_eq_true]at h;have h1:=h.1;split at h1
  ·rename_i n m hn hm;simp only[Bool.and_eq_true,beq_iff_eq]at h1;obtain⟨⟨rfl,h2⟩,h3⟩:=h1;exact⟨n,by simpa using hn,hm,h2,h3⟩
  ·cases h1
 |some j'::r,k,h,i+1,j,e=>by
  rw[F7,Bool.and_eq_true]at h;have q:=OQ (fr:=r) (k:=k+1) h.2 (i:=i) (j:=j) (by simpa using e);have z:k+(i+1)=k+1+i:=by omega
  rw[z];exact q
def carry(fr:List (Option Nat))(σ:St):St:=fr.map fun o=>match o with
 |some j=>(σ[j]?).join
 |none=>none
def Xu{fr:List (Option Nat)}{σ:St}{i:Nat}{v:V}(h:(carry fr σ)[i]? = some (some v)):∃j,fr[i]? = some (some j)∧σ[j]? = some (some v):=by
 unfold carry at h;rw[List.getElem?_map]at h;cases e:fr[i]? with
 |none=>rw[e]at h;cases h
 |some o =>
  rw[e]at h;cases o with
  |none=>simp at h
  |some j =>
   refine⟨j,rfl,?_⟩;simp only[Option.map_some,Option.some.injEq]at h;cases q:σ[j]? with
   |none=>rw[q]at h;cases h
   |some w=>rw[q]at h;simp at h;rw[h]
def HU{env:Env}:∀(names:List (Str×NameKind)) (cs:List (Str×AD)),(∀x∈names,x.2=NameKind.free→∃c,env.cells.lookup x.1=some c)→(∀x c,cs.lookup x=some c→env.cells.lookup x=some c) →
  ∃cl,(forIn names cs (fun(x:Str×NameKind) (r:List (Str×AD))=>do if(x.2==NameKind.free)=true then do let a ←cellOf env x.1;pure (ForInStep.yield ((x.1,a)::r)) else pure (ForInStep.yield r)):Sem (List (Str×AD)))=pure cl ∧
   (∀x c,cl.lookup x=some c→env.cells.lookup x=some c)∧(∀x,(∃c,cs.lookup x=some c)→∃c,cl.lookup x=some c)∧∀x∈names,x.2=NameKind.free→∃c,cl.lookup x.1=some c
 |[],cs,_,h2=>⟨cs,rfl,h2,fun _ q=>q,fun _ z=>(by cases z)⟩
 |(n,k)::r,cs,h1,h2=>by
  rw[List.forIn_cons];by_cases hk:(k==NameKind.free)=true
  ·obtain⟨c,hc⟩:=h1 (n,k) aR (by simpa using hk);have h2':∀x c',((n,c)::cs).lookup x=some c'→env.cells.lookup x=some c':=fun x c' e=>by
    rw[List.lookup_cons]at e;cases hx:x==n with
    |true=>rw[hx]at e;have:=beq_iff_eq.mp hx;subst this;simp at e;rw[←e];exact hc
    |false=>rw[hx]at e;exact h2 x c' e
   obtain⟨cl,q1,q2,q3,q4⟩:=HU r ((n,c)::cs) (fun x hx=>h1 x (aO _ hx)) h2';have hn:∃c',cl.lookup n=some c':=q3 n ⟨c,by rw[List.lookup_cons,beq_self_eq_true]⟩;refine⟨cl,?_,q2,fun x hx=>?_,fun x hx hf=>?_⟩
   ·simp only[hk,if_true];unfold cellOf;rw[hc];exact q1
   ·refine q3 x ?_;rw[List.lookup_cons];cases hxn:x==n with
    |true=>exact⟨c,rfl⟩
    |false=>exact hx
   ·rcases aJ.mp hx with e|hx
    ·subst e;exact hn
    ·exact q4 x hx hf
  ·obtain⟨cl,q1,q2,q3,q4⟩:=HU r cs (fun x hx=>h1 x (aO _ hx)) h2;refine⟨cl,?_,q2,q3,fun x hx hf=>?_⟩
   ·simp only[hk];exact q1
   ·rcases aJ.mp hx with e|hx
    ·subst e;exact absurd (by simpa using hf) hk
    ·exact q4 x hx hf
def A9(X:Cx)(scope:Scope)(cl:List (Str×AD))(N:List Str)(C:AD)(s₀:SD)(H₀:Hp)(fp:List AD):Cx where
 prog:=X.prog
 w:=X.w
 K:=X.K
 mg:=X.mg
 base:=X.base
 A:=X.A
 N:=N
 s₀:=s₀
 H₀:=H₀
 env:=compEnvC scope cl C X.env
 outer:=X.stack
 stack:=X.stack
 ex:=fp
 fn:=fun _=>false
 calm:=X.calm
 pn:=[]
 xe:=fun _ _=>False
def Nd(wi:TI)(fr:List (Option Nat))(ix:Nat)(tif:TT)(te:TE):TE:=fun σ H Q=>wi σ H fun J H1=>∀D,H1 D=none→∃W:Nat→Nat→List V→Hp→Prop,(∃m,W 0 m [] (upd H1 D (.lst []))) ∧
 ∀i m ys H,W i m ys H→H D=some (.lst ys)∧((J.stop i H∧Q (.ref D) H)∨(J.go i H∧ys.length<sizeLine∧∀x H',J.Ef i H x H' →
  tif ((carry fr σ).set ix (some x)) H' fun b H2=>if b=true then te ((carry fr σ).set ix (some x)) H2 fun y H3=>H3 D=some (.lst ys)∧∃m',m'<m∧W (i+1) m' (ys++[y]) (upd H3 D (.lst (ys++[y])))
   else ∃m',m'<m∧W (i+1) m' ys H2))
structure EB(scope:Scope)(N:List Str)(x:Str)(ix:Nat):Prop where
 kind:scope.kind=.function
 cell:∀y∈scope.names,y.2≠.cell
 names:∀y∈scope.names,y.2=.local→scope.names.lookup y.1=some .local
 free:∀y∈scope.names,y.2=.free→scope.names.lookup y.1=some .free
 loc:scope.names.lookup x=some .local
 nd:N.Nodup
 at_:N[ix]? = some x
def lookup_mem{names:List (Str×NameKind)}{n:Str}{k:NameKind}:names.lookup n=some k→(n,k)∈names:=by
 induction names with
 |nil=>intro h;cases h
 |cons y r ih =>
  intro h;obtain⟨m,j⟩:=y;rw[List.lookup_cons]at h;cases e:n==m with
  |true=>rw[e]at h;have:=beq_iff_eq.mp e;subst this;simp at h;subst h;exact aR
  |false=>rw[e]at h;exact aO _ (ih h)
def Tf{scope:Scope}{env:Env}(hc:∀y∈scope.names,y.2≠.cell){n:Str}(h:(relabel scope env).names.lookup n=some .cell∨(relabel scope env).names.lookup n=some .free):∃k,(n,k)∈scope.names∧k=NameKind.free:=by
 have key:∀k',(relabel scope env).names.lookup n=some k'→(k'=.cell∨k'=.free)→∃k,(n,k)∈scope.names∧k=NameKind.free:=fun k' h hk=>by
  have hm:=lookup_mem h;unfold relabel at hm;obtain⟨⟨m,k⟩,hy,e⟩:=aZ.mp hm;dsimp only at e;by_cases hcond:(k==NameKind.free&&env.scope.kind==.function&&env.kindOf m==some .cell)=true
  ·rw[if_pos hcond]at e
   injection e with e1 e2
   subst e1;refine⟨k,hy,?_⟩;simp only[Bool.and_eq_true,beq_iff_eq]at hcond;exact hcond.1.1
  ·rw[if_neg hcond]at e
   injection e with e1 e2
   subst e1 e2;rcases hk with rfl|rfl
   ·exact absurd rfl (hc _ hy)
   ·exact⟨_,hy,rfl⟩
 rcases h with h|h
 ·exact key _ h (.inl rfl)
 ·exact key _ h (.inr rfl)
section
variable{X:Cx}{elt iter:Expr}{x:Str}{px pos:Pos}{ifs:List Expr}{scope:Scope}{wi:TI}{fr:List (Option Nat)}{ix:Nat}{tif:TT}{te:TE}{N:List Str}
def Kc{prog:Program}{w:World}{A:Around}{R:Result→SD→Prop}{s:SD}{elt target iter:Expr}{ifs:List Expr}{scope:Scope}{pos:Pos}{it acc:VL}{env:Env}(I:Nat→SD→Prop)
 (turn:∀n s,I n s→wpAny (model prog w) A (pyNext it) (fun r s₁=>match r with
   |none=>R (.ok .next) s₁
   |some v=>wpAny (model prog w) A (letOwnedTupleGo target it v>>=fun _=>assign target env v) (fun _ s₂ =>
     wpAny (model prog w) A (forIn ifs true fun c r=>if r=true then do let ok ←isTrue c env (eval c env);pure (ForInStep.yield ok) else pure (ForInStep.yield r)) (fun ok s₃ =>
      if ok=true then wpAny (model prog w) A (eval elt env) (fun x s₄ =>
       wpAny (model prog w) A (call (.builtin "list.append") [acc,x]) (fun _ s₅=>∃m,m<n∧I m s₅) (notedBy (model prog w) A env fun e s'=>R (.error e) s') s₄) (notedBy (model prog w) A env fun e s'=>R (.error e) s') s₃
      else ∃m,m<n∧I m s₃) (notedBy (model prog w) A env fun e s'=>R (.error e) s') s₂) (notedBy (model prog w) A env fun e s'=>R (.error e) s') s₁) (notedBy (model prog w) A env fun e s'=>R (.error e) s') s)
 (n:Nat)(h:I n s) :
  codeAny (model prog w) A (.compLoop (.ListComp elt [⟨target,iter,ifs,0⟩] scope pos) 0 it acc env) R s:=by
 refine codeAny_loop rfl I (fun n s hI=>?_) n h;show wpAny _ A ((compTurn (.ListComp elt [⟨target,iter,ifs,0⟩] scope pos) 0 it acc env).onRaise (fun x=>do noteFrame x env;theTreesLotGoes x)) _ _ s;refine wpAny_noted ?_;rw[compTurn_list];refine Wb (wpAny_standAt (Wb (aU (turn n s hI) (fun r s₁ h₁=>?_) fun _ _ h'=>h')));cases r with
 |none=>exact aA h₁
 |some v =>
  show wpAny (model prog w) A (letOwnedTupleGo target it v>>=fun _=>assign target env v>>=_) _ _ s₁;rw[←bind_assoc];refine Wb (aU h₁ (fun _ s₂ h₂=>Wb (aU h₂ (fun ok s₃ h₃=>?_) fun _ _ h'=>h')) fun _ _ h'=>h');cases ok with
  |false=>exact aA ⟨rfl,h₃⟩
  |true =>
   exact Wb (Wb (aU h₃ (fun x s₄ h₄=>Wb (aU h₄ (fun _ s₅ h₅=>aA (aA ⟨rfl,h₅⟩)) fun _ _ h'=>h')) fun _ _ h'=>h'))
def N2{pins:List (AD×Obj)}{σ:St}{H2:Hp}{s2:SD}{Q:VK}{it:AD}{fp:List AD}{tn:Nat→Heap→Prop}{J:It}{cl:List (Str×AD)}{E:VL→SD→Prop}{RR:VL→AD→Result→SD→Prop}
 (S:EB scope N x ix)(hcalm:X.calm=true){tgE:Expr}{g:TG}(Rv:St→Prop)(r0:Rv (carry fr σ))(hpg:∀C,PG (A9 X scope cl N C s2 H2 fp) tgE g)(hfr:F7 N X.N scope X.env.scope fr 0=true)(hlen:fr.length=N.length)
 (hif:∀cl C s₀ H₀ fp,Mi (A9 X scope cl N C s₀ H₀ fp) ifs tif)(he:∀cl C s₀ H₀ fp,PE (A9 X scope cl N C s₀ H₀ fp) elt te)
 (I2:Inv X pins σ H2 s2)(T:Turn X.prog X.w X.K tgE J fp it tn)(st2:tn 0 s2.heap)(f2:∀b∈fp,LB X pins H2 b)
 (c1:∀x c,cl.lookup x=some c→X.env.cells.lookup x=some c)(c2:∀x∈scope.names,x.2=NameKind.free→∃c,cl.lookup x.1=some c)
 (W:∀D,H2 D=none→∃W:Nat→Nat→List V→Hp→Prop,(∃m,W 0 m [] (upd H2 D (.lst []))) ∧
   ∀i m ys H,W i m ys H→H D=some (.lst ys)∧((J.stop i H∧Q (.ref D) H)∨(J.go i H∧ys.length<sizeLine∧∀x H',J.Ef i H x H'→∀σ',Rv σ'→g x σ' H' fun σ6 H6=>Rv σ6 ∧
    tif σ6 H6 fun b H2=>if b=true then te σ6 H2 fun y H3=>H3 D=some (.lst ys)∧∃m',m'<m∧W (i+1) m' (ys++[y]) (upd H3 D (.lst (ys++[y])))
     else ∃m',m'<m∧W (i+1) m' ys H2)))
 (fin:∀(D C:AD) (s':SD) (H':Hp) m,s'.heap.Ns C m→Q (.ref D) H'→(∀h',Heap.SameBut C s'.heap h'→Inv X pins σ H' { s' with heap:=h'})→C≠D→(∀b o,s2.heap.get? b=some o→b≠C)→H' C=none→s2.heap.objs.size≤C→RR (.ref D) C (.ok .next) s') :
  wpAny (model X.prog X.w) X.A (newList []) (fun acc s₃=>wpAny (model X.prog X.w) X.A (newFunctionEnv scope X.env.globals cl [] X.env.qual none .none (some X.env)) (fun cenv s₄ =>
   codeAny (model X.prog X.w) X.A (.compStart (.ListComp elt [⟨tgE,iter,ifs,0⟩] scope pos) 0 (.ref it) acc {cenv with scope:=relabel scope X.env}) (RR acc cenv.locals) s₄) E s₃) E s2:=by
 refine av (wpAny_newFunctionEnv S.cell (by intro y hy;simp at hy) (fun h₁ hns₁ hsb₁=>?_) S.kind);dsimp only at hns₁ hsb₁ ⊢;generalize hHp:s2.heap.push { cls:=.type "list",dict:=none,data:=.seq ([]:List VL).toArray}=Hq at hns₁ hsb₁ ⊢;have hC:Hq.objs.size=s2.heap.objs.size+1:=by rw[←hHp,Heap.size_push]
 have hDC:s2.heap.objs.size≠Hq.objs.size:=by rw[hC];exact aH (bU _)
 have below:∀b,b<s2.heap.objs.size→b≠Hq.objs.size∧b≠s2.heap.objs.size:=fun b hb=>⟨by rw[hC];exact aH (bG hb),Nat.ne_of_lt hb⟩;have old:∀b o,s2.heap.get? b=some o→h₁.get? b=some o:=fun b o e=>hsb₁.extBut b o (below b (aF e)).1 (aD _ (hHp ▸ aD _ e));have hacc:h₁.get? s2.heap.objs.size=some { cls:=.type "list",data:=.seq ([]:List VL).toArray}:=hsb₁.extBut _ _ hDC (aD _ (hHp ▸ aI _ rfl));have hD2:H2 s2.heap.objs.size=none:=I2.Ap.fresh (aG _);have hC2:H2 Hq.objs.size=none:=I2.Ap.fresh (by rw[hC];exact Nat.le_succ _);have fpo:∀b∈fp,b<s2.heap.objs.size:=fun b hb=>by
  obtain⟨o,e,_⟩:=T.obj _ _ st2 b hb;exact aF e
 obtain⟨W,⟨m0,w0⟩,turn⟩:=W s2.heap.objs.size hD2;have ok:(A9 X scope cl N Hq.objs.size s2 H2 fp).Ok:=by
  refine⟨I2.ok.mod,S.kind,I2.ok.glob,I2.ok.blt,by show s2.heap.objs.size≤Hq.objs.size;rw[hC];exact Nat.le_succ _,?_,?_,?_,fun _=>I2.ok.hd hcalm,I2.ok.frames,.inl rfl,?_,I2.bs,Nat.le_trans I2.ok.QB I2.sz,?_,?_,I2.stack,I2.QV⟩
  ·exact fun a b c h1 h2=>I2.ok.inj a b c (c1 _ _ h1) (c1 _ _ h2)
  ·intro y hy;obtain⟨k,hm,rfl⟩:=Tf S.cell hy;exact c2 _ hm rfl
  ·intro y c hf;cases hf
  ·intro b hb;refine⟨(below b (fpo b hb)).1,fun y c e=>?_⟩;obtain⟨_,_,_,_,f5,_⟩:=f2 b hb;exact f5 y c (c1 _ _ e)
  ·intro b o e hb;obtain⟨_,_,_,f4,_,_⟩:=f2 b hb;rcases f4 with z|z
   ·exact I2.ok.QZ b o e z
   ·exact absurd (aM (aF e) (aQ I2.ok.QB z)) (Nat.lt_irrefl _)
  ·intro b hb hs;obtain⟨_,f1,f3,_⟩:=f2 b hb;rcases aJ.mp (I2.NG b hs) with z|z
   ·exact f1 z
   ·exact f3 z
 have I4:Inv (A9 X scope cl N Hq.objs.size s2 H2 fp) [] (carry fr σ) (upd H2 s2.heap.objs.size (.lst [])) {s2 with heap:=h₁,toks:=s2.toks+([]:List (Str×VL)).length}:=by
  refine⟨ok,rfl,I2.bare,Un.laid old (aG _) hD2,⟨_,hns₁,fun i y v h1 h2 h3=>?_⟩,fun y c e=>?_,?_,fun y c e=>?_,fun p hp=>(by cases hp),I2.Ap.laid old (aG _) ⟨bE _,[],0,.nil,hacc⟩,?_⟩
  ·obtain⟨j,e1,e2⟩:=Xu h2;obtain⟨n,n1,n2,n3,n4⟩:=OQ hfr e1;rw[Nat.zero_add]at n1;have:y=n:=by
    have h1':N[i]? = some y:=h1;rw[h1']at n1;exact ao n1
   subst this;obtain⟨m,hn,hl⟩:=I2.loc;obtain⟨u,ru,lk⟩:=hl j y v n2 e2 (.inr (.inl n4));refine⟨u,ru,?_⟩;obtain⟨c,hc⟩:=c2 _ (lookup_mem n3) rfl;rcases lk with ⟨k1,_⟩|⟨_,c',hc',hcell⟩
   ·have k1':X.env.scope.names.lookup y=some .local:=k1;rw[n4]at k1';cases k1'
   ·have:=c1 _ _ hc;rw[hc']at this;cases this;refine .inr ⟨?_,c,hc,hcell.keeps old⟩;rcases h3 with z|z|z
    ·obtain⟨k,hm⟩:∃k,(y,k)∈scope.names∧k=NameKind.local:=by
      have hm:=lookup_mem z;have hm':(y,NameKind.local)∈(relabel scope X.env).names:=hm;unfold relabel at hm';obtain⟨⟨m',k⟩,hy,e⟩:=aZ.mp hm';dsimp only at e;by_cases hcond:(k==NameKind.free&&X.env.scope.kind==.function&&X.env.kindOf m'==some .cell)=true
      ·rw[if_pos hcond]at e;injection e with _ e2';cases e2'
      ·rw[if_neg hcond]at e;injection e with e1' e2';subst e1' e2';exact⟨_,hy,rfl⟩
     obtain⟨hm,rfl⟩:=hm;have:=S.names _ hm rfl;rw[n3]at this;cases this
    ·exact .inl z
    ·exact .inr z
  ·obtain⟨v,z⟩:=I2.cell y c (c1 _ _ e);exact⟨v,z.keeps old⟩
  ·show upd H2 s2.heap.objs.size _ Hq.objs.size=none;rw[AJ (Ne.symm hDC)];exact hC2
  ·obtain⟨v,o,ho,_⟩:=I2.cell y c (c1 _ _ e);rw[AJ (below c (aF ho)).2];exact I2.FI y c (c1 _ _ e)
  ·show(carry fr σ).length=N.length;unfold carry;rw[List.length_map];exact hlen
 have fpX:∀(p:List (AD×Obj)) (H':Hp),(∀q∈p,q.1∈fp→False)→(∀b∈fp,H' b=none)→∀b∈fp,LB (A9 X scope cl N Hq.objs.size s2 H2 fp) p H' b:=fun p H' hp hn b hb=>by
  obtain⟨_,f1,f3,f4,f5,_⟩:=f2 b hb;refine⟨hn b hb,(below b (fpo b hb)).1,fun hs=>ok.QO b hb hs,.inl hb,fun y c e=>f5 y c (c1 _ _ e),fun q hq e=>?_⟩;exact hp q hq (e ▸ hb)
 have hxv:(relabel scope X.env).names.lookup x=some .local:=lookup_relabel_local S.loc;have loop:∀s₃:SD,s₃={s2 with heap:=h₁,toks:=s2.toks+([]:List (Str×VL)).length} →
   codeAny (model X.prog X.w) X.A (.compLoop (.ListComp elt [⟨tgE,iter,ifs,0⟩] scope pos) 0 (.ref it) (.ref s2.heap.objs.size) (compEnvC scope cl Hq.objs.size X.env)) (RR (.ref s2.heap.objs.size) Hq.objs.size) s₃:=by
  rintro s₃ rfl;refine Kc (fun n s'=>∃i ys σ' H',Inv (A9 X scope cl N Hq.objs.size s2 H2 fp) [] σ' H' s'∧Rv σ'∧tn i s'.heap∧(∀b∈fp,H' b=none)∧W i n ys H') ?_ m0
   ⟨0,[],carry fr σ,_,I4,r0,T.keep _ _ _ st2 fun b _ o e=>old b o e,fun b hb=>by rw[AJ (below b (fpo b hb)).2];exact(f2 b hb).1,w0⟩
  rintro n s3 ⟨i,ys,σ3,H3,I3,hσ,st3,fr3,w3⟩;obtain⟨hD3,way⟩:=turn i n ys H3 w3;rcases way with ⟨stop,qn⟩|⟨go,hsz,step⟩
  ·refine aU (T.done (A9 X scope cl N Hq.objs.size s2 H2 fp) rfl rfl rfl hcalm i [] s3 σ3 H3 (fun _ _=>False) I3 (fpX [] H3 (fun _ z=>by cases z) fr3) st3 stop) (fun r s4 ⟨hr,I5⟩=>?_) fun _ _ z=>z.elim;subst hr;obtain⟨m,hn,_⟩:=id I5.loc;refine fin _ _ s4 H3 m hn qn (fun h' hs'=>?_) (Ne.symm hDC) (fun b o e=>(below b (aF e)).1) I5.free (by rw[hC];exact Nat.le_succ _);have nC:∀b u,H3 b=some u→b≠Hq.objs.size:=fun b u e z=>by
    have:=I5.free;rw[show(A9 X scope cl N Hq.objs.size s2 H2 fp).env.locals=Hq.objs.size from rfl,←z,e]at this;cases this
   have keepU:Un (FJ X.stack) fp H2 H3 s2.heap h':=by
    have u:=I5.base;refine⟨fun b o e n hb hx=>?_,fun b o e n hb hx=>?_,fun b o e n hx=>u.free b o e n hx,fun b o e hx=>?_,u.A6,u.FT,u.F5⟩
    ·exact(hs'.2 b (below b (aF e)).1).trans (u.keep b o e n hb hx)
    ·obtain⟨sl,e1⟩:=u.slot b o e n hb hx;exact⟨sl,(hs'.2 b (below b (aF e)).1).trans e1⟩
    ·obtain⟨o',e1⟩:=u.there b o e hx;exact⟨o',(hs'.2 b (below b (aF e)).1).trans e1⟩
   have hok':EG X.prog X.w H3 h':=fun b u e=>(I5.Ap b u e).Ge (fun c v hc q=>(hs'.2 c (by
    rcases hc with rfl|hc
    ·exact nC _ _ e
    ·exact nC _ _ hc)).trans q) (fun _ q=>q) fun _ _ q=>q
   refine I2.cu (s':={s4 with heap:=h'}) (ch:=fp) I5.os keepU hok' I5.bare fun b hb=>?_;obtain⟨_,f1,_,f4,f5,f6⟩:=f2 b hb;exact⟨f4,f1,f5,f6⟩
  ·refine aU (T.item (A9 X scope cl N Hq.objs.size s2 H2 fp) rfl rfl rfl hcalm i [] s3 σ3 H3 (fun _ _=>False) I3 (fpX [] H3 (fun _ z=>by cases z) fr3) st3 go) (fun r s4 ⟨u,hr,h4⟩=>?_) fun _ _ z=>z.elim;subst hr;show wpAny (model X.prog X.w) X.A (letOwnedTupleGo tgE (.ref it) u>>=fun _=>assign tgE (compEnvC scope cl Hq.objs.size X.env) u) _ _ s4;refine Wb (aU h4 (fun _ s5 ⟨xv,H5,I5,r5,y5,st5,fr5⟩=>?_) fun _ _ z=>z.elim);have I5':=I5.pinned (fpX [] H5 (fun _ z=>by cases z) fr5) (T.obj _ _ st5);refine aU (hpg _ _ s5 σ3 H5 xv u _ I5' r5 (step xv H5 y5 σ3 hσ)) (fun _ s6 ⟨σ6,H6,I6,rv6,step5⟩=>?_) fun _ _ z=>z.elim;refine aU (hif _ _ _ _ _ _ s6 _ H6 _ I6 step5) (fun b s7 ⟨H7,I7,q7⟩=>?_) fun _ _ z=>z.elim;have again:∀ {s8:SD} {H8:Hp} {k:Nat} {zs:List V},Inv (A9 X scope cl N Hq.objs.size s2 H2 fp) ([]++NI fp s5.heap) σ6 H8 s8→W (i+1) k zs H8→k<n →
     ∃m,m<n∧∃i ys σ' H',Inv (A9 X scope cl N Hq.objs.size s2 H2 fp) [] σ' H' s8∧Rv σ'∧tn i s8.heap∧(∀b∈fp,H' b=none)∧W i m ys H':=fun {s8 H8 k zs} I8 w8 hk=>by
    refine⟨k,hk,i+1,zs,_,H8,I8.Lp,rv6,T.keep _ _ _ st5 fun b hb o e=>(I8.pin (b,o) (ah _ (ah _ (JR hb e)))).1,fun b hb=>?_,w8⟩;obtain⟨o,e,d⟩:=T.obj _ _ st5 b hb;exact(I8.pin (b,o) (ah _ (ah _ (JR hb e)))).2.1
   cases b with
   |false =>
    rw[if_neg aK]at q7 ⊢;obtain⟨k,hk,w7⟩:=q7;exact again I7 w7 hk
   |true =>
    rw[if_pos rfl]at q7 ⊢;refine aU (he _ _ _ _ _ _ s7 _ H7 _ I7 q7) (fun yv s8 ⟨y,H8,I8,r8,hD8,k,hk,w8⟩=>?_) fun _ _ z=>z.elim;refine aU (DY (X:=A9 X scope cl N Hq.objs.size s2 H2 fp) _ s8 _ H8 (.ref s2.heap.objs.size) [y] (.ref s2.heap.objs.size) [yv] (fun _ H9=>H9=upd H8 s2.heap.objs.size (.lst (ys++[y]))) I8 rfl (.cons r8 .nil) ⟨_,ys,y,rfl,rfl,hD8,hsz,rfl⟩) (fun _ s9 ⟨_,H9,I9,_,e9⟩=>?_) fun _ _ z=>z.elim;subst e9;exact again I9 w8 hk
 exact codeAny_compStart_list (loop _ rfl) (T.self X.A 0 _ _ _ (T.keep _ _ _ st2 fun b _ o e=>old b o e) (loop _ rfl))
def O3{pins:List (AD×Obj)}{σ:St}{H2:Hp}{s2:SD}{Q:VK}{it:AD}{fp:List AD}{tn:Nat→Heap→Prop}{J:It}{cl:List (Str×AD)}{E:VL→SD→Prop}{RR:VL→AD→Result→SD→Prop}
 (S:EB scope N x ix)(hcalm:X.calm=true)(hfr:F7 N X.N scope X.env.scope fr 0=true)(hlen:fr.length=N.length)
 (hif:∀cl C s₀ H₀ fp,Mi (A9 X scope cl N C s₀ H₀ fp) ifs tif)(he:∀cl C s₀ H₀ fp,PE (A9 X scope cl N C s₀ H₀ fp) elt te)
 (I2:Inv X pins σ H2 s2)(T:Turn X.prog X.w X.K (.Name x px) J fp it tn)(st2:tn 0 s2.heap)(f2:∀b∈fp,LB X pins H2 b)
 (c1:∀x c,cl.lookup x=some c→X.env.cells.lookup x=some c)(c2:∀x∈scope.names,x.2=NameKind.free→∃c,cl.lookup x.1=some c)
 (W:∀D,H2 D=none→∃W:Nat→Nat→List V→Hp→Prop,(∃m,W 0 m [] (upd H2 D (.lst []))) ∧
   ∀i m ys H,W i m ys H→H D=some (.lst ys)∧((J.stop i H∧Q (.ref D) H)∨(J.go i H∧ys.length<sizeLine∧∀x H',J.Ef i H x H' →
    tif ((carry fr σ).set ix (some x)) H' fun b H2=>if b=true then te ((carry fr σ).set ix (some x)) H2 fun y H3=>H3 D=some (.lst ys)∧∃m',m'<m∧W (i+1) m' (ys++[y]) (upd H3 D (.lst (ys++[y])))
     else ∃m',m'<m∧W (i+1) m' ys H2)))
 (fin:∀(D C:AD) (s':SD) (H':Hp) m,s'.heap.Ns C m→Q (.ref D) H'→(∀h',Heap.SameBut C s'.heap h'→Inv X pins σ H' { s' with heap:=h'})→C≠D→(∀b o,s2.heap.get? b=some o→b≠C)→H' C=none→s2.heap.objs.size≤C→RR (.ref D) C (.ok .next) s') :
  wpAny (model X.prog X.w) X.A (newList []) (fun acc s₃=>wpAny (model X.prog X.w) X.A (newFunctionEnv scope X.env.globals cl [] X.env.qual none .none (some X.env)) (fun cenv s₄ =>
   codeAny (model X.prog X.w) X.A (.compStart (.ListComp elt [⟨.Name x px,iter,ifs,0⟩] scope pos) 0 (.ref it) acc {cenv with scope:=relabel scope X.env}) (RR acc cenv.locals) s₄) E s₃) E s2:=by
 have hxv:(relabel scope X.env).names.lookup x=some .local:=lookup_relabel_local S.loc;refine N2 S hcalm (fun σ'=>∀v,σ'.set ix v=(carry fr σ).set ix v) (fun _=>rfl) (fun C=>Az (X:=A9 X scope cl N C s2 H2 fp) S.nd S.at_ (.inl hxv) (.inr hxv)) hfr hlen hif he I2 T st2 f2 c1 c2 (fun D hD=>?_) fin;obtain⟨W,w0,st⟩:=W D hD;refine⟨W,w0,fun i m ys H w=>?_⟩;obtain⟨h1,h2|⟨h2,h3,h4⟩⟩:=st i m ys H w
 ·exact⟨h1,.inl h2⟩
 ·refine⟨h1,.inr ⟨h2,h3,fun x H' hy σ' hr=>?_⟩⟩;have:=h4 x H' hy;rw[←hr]at this;exact⟨fun v=>by rw[List.set_set,hr],this⟩
def eM(S:EB scope N x ix)(hcalm:X.calm=true)(hfr:F7 N X.N scope X.env.scope fr 0=true)(hlen:fr.length=N.length)(hfree:∀y∈scope.names,y.2=.free→X.env.scope.names.lookup y.1=some .cell∨X.env.scope.names.lookup y.1=some .free)
 (hi:PI X (.Name x px) iter wi)(hif:∀cl C s₀ H₀ fp,Mi (A9 X scope cl N C s₀ H₀ fp) ifs tif)(he:∀cl C s₀ H₀ fp,PE (A9 X scope cl N C s₀ H₀ fp) elt te)
 (hs:∀x,foldedSetIterable iter X.env x=pure x:=by intro _;rfl):PE X (.ListComp elt [⟨.Name x px,iter,ifs,0⟩] scope pos) (Nd wi fr ix tif te):=by
 intro pins s σ H Q I hw;obtain⟨cl,hclos,c1,_,c2⟩:=HU (env:=X.env) scope.names [] (fun y hy hf=>I.ok.has y.1 (hfree y hy hf)) (fun y c z=>by cases z);have hclos':closureFor scope X.env=pure cl:=by
  have e:closureFor scope X.env=((forIn scope.names [] (fun(x:Str×NameKind) (r:List (Str×AD))=>do if(x.2==NameKind.free)=true then do let a ←cellOf X.env x.1;pure (ForInStep.yield ((x.1,a)::r)) else pure (ForInStep.yield r)):Sem (List (Str×AD)))>>=fun cs=>pure cs):=rfl;rw[e,hclos]
  rfl
 rw[eval_ListComp];refine wpAny_comprehension_free (use:=none) rfl hs hclos' S.kind S.names (BN (hi pins s σ H _ I hw) fun v s1 h1=>BN h1 fun itv s2 h2=>?_);obtain⟨it,fp,tn,J,H2,e,I2,T,st2,f2,W⟩:=h2;subst e;refine O3 (RR:=fun acc C=>compPost (model X.prog X.w) X.A X.xe none (EP X pins σ Q) acc C) S hcalm hfr hlen hif he I2 T st2 f2 c1 c2 W ?_;intro D C s' H' m hn q hI _ _ _ _;exact⟨m,hn,fun h' hs'=>⟨.ref D,H',hI h' hs',rfl,q⟩⟩
def Wj{i : Nat}{y : Str}{py spos : Pos}(hN : X.N.Nodup)(hy : X.N[i]? = some y)(hly : X.env.scope.names.lookup y = some .local)(S : EB scope N x ix)(hcalm : X.calm = true)(hfr : F7 N X.N scope X.env.scope fr 0 = true)(hlen : fr.length = N.length)
 (hfree : ∀ y∈scope.names,y.2 = .free→X.env.scope.names.lookup y.1 = some .cell∨X.env.scope.names.lookup y.1 = some .free)
 (hi : PI X (.Name x px) iter wi)(hif : ∀ cl C s₀ H₀ fp,Mi (A9 X scope cl N C s₀ H₀ fp) ifs tif)(he : ∀ cl C s₀ H₀ fp,PE (A9 X scope cl N C s₀ H₀ fp) elt te)
 (hsw : swapsWith (.ListComp elt [⟨.Name x px,iter,ifs,0⟩] scope pos) (some (.Name y py)) spos.line X.env = pure true := by rfl)
 (hs : ∀ x,foldedSetIterable iter X.env x = pure x := by intro _; rfl) :
    PS X (.Assign [.Name y py] (.ListComp elt [⟨.Name x px,iter,ifs,0⟩] scope pos) spos) (Wg (Nd wi fr ix tif te) (EJ i)) := by
  intro pins s σ H D I hw
  obtain ⟨cl,hclos,c1,_,c2⟩:=HU (env:=X.env) scope.names [] (fun y hy hf => I.ok.has y.1 (hfree y hy hf)) (fun y c z => by cases z)
  have hclos' : closureFor scope X.env = pure cl := by
    have e : closureFor scope X.env = ((forIn scope.names [] (fun (x : Str×NameKind) (r : List (Str×AD)) => do if (x.2 == NameKind.free) = true then do let a ← cellOf X.env x.1; pure (ForInStep.yield ((x.1,a) :: r)) else pure (ForInStep.yield r)) : Sem (List (Str×AD))) >>= fun cs => pure cs):=rfl
    rw [e,hclos]
    rfl
  rw [exec_Assign_Name_used _ _ _ _ hsw]
  refine Wb (wpAny_standAt (Wb ?_))
  show wpAny _ X.A (do let _ ← comprehension (.ListComp elt [⟨.Name x px,iter,ifs,0⟩] scope pos) scope X.env _ (newList []) false (eval iter X.env) (some (assign (.Name y py) X.env))) _ _ s
  refine Wb (aU (wpAny_comprehension_free (use:=some (assign (.Name y py) X.env)) (Q:=fun _ s' => SP X pins D .next s') rfl hs hclos' S.kind S.names
    (BN (hi pins s σ H _ I hw) fun v s1 h1 => BN h1 fun itv s2 h2 => ?_)) (fun _ s' hq => aA (aA hq)) fun _ _ e => e)
  obtain ⟨it,fp,tn,J,H2,e,I2,T,st2,f2,W⟩:=h2
  subst e
  refine O3 (Q:=fun x H1 => EJ i x σ H1 D.nx) (RR:=fun acc C => compPost (model X.prog X.w) X.A X.xe (some (assign (.Name y py) X.env)) (fun _ s' => SP X pins D .next s') acc C) S hcalm hfr hlen hif he I2 T st2 f2 c1 c2 W ?_
  intro D' C s' H' m hn q hI hCD hold hfreeC hsz
  have I5 : Inv X pins σ H' s':=hI s'.heap (Heap.SameBut.refl ..)
  refine wpAny_assign_Name (RT I5 hN hy (.inl hly) (v:=.ref D') rfl (fun s'' I6 ⟨a,hsb,ha⟩ => ?_) (.inr hly))
  have hL : C≠X.env.locals:=fun z => by
    obtain ⟨_,⟨o,_,_,e,_⟩,_⟩:=I2.loc
    exact hold _ _ e z.symm
  have hcl : ∀ z c,X.env.cells.lookup z = some c→c≠C:=fun z c e => by
    obtain ⟨_,o,ho,_⟩:=I2.cell z c e
    exact hold _ _ ho
  have hCa : C≠a := by
    rcases ha with z | z
    · rw [z]; exact hL
    · exact Ne.symm (hcl _ _ z)
  refine ⟨m,hn.sameBut hsb hCa,fun h' hs' => ⟨_,H',I6.turned (t':=s''.toks) (it:=C) (fun b o hb e => (hs'.2 b hb).trans e) hfreeC hL (.inr (aQ I2.sz hsz)) hcl fun p hp => ?_,q⟩⟩
  obtain ⟨e,_⟩:=I2.pin p hp
  exact hold _ _ e
end
end L2
namespace FM
def gi(a b:Int):Int:=(Int.gcd a b:Int)
def Sz(a b:Int):Int.gcd b (a.fmod b)=Int.gcd a b:=by
 have e:a.fmod b=a-b*a.fdiv b:=Int.fmod_def a b;rw[e,Int.gcd_comm a b];exact Int.gcd_sub_mul_left_right b a (a.fdiv b)
def RI(a b:Int)(hb:b≠0):(a.fmod b).natAbs<b.natAbs:=by
 rcases Int.lt_or_gt_of_ne hb with h|h
 ·have h1:-(a.fmod b)=(-a).fmod (-b):=by
   rw[Int.fmod_def,Int.fmod_def,Int.neg_fdiv_neg];have:-b*a.fdiv b=-(b*a.fdiv b):=Int.neg_mul _ _;omega
  have h2:=bS (-a) (show 0 < -b by omega);have h3:=Int.fmod_lt_of_pos (-a) (show 0 < -b by omega);omega
 ·have h2:=bS a h;have h3:=Int.fmod_lt_of_pos a h;omega
def Mr{a b:Int}(hb:b≠0):0<gi a b:=by
 have:0<Int.gcd a b:=Int.gcd_pos_of_ne_zero_right a hb;unfold gi;omega
def cM{a b:Int}(hb:b≠0):(gi a b).natAbs≤b.natAbs:=by
 have h:Int.gcd a b ∣ b.natAbs:=by
  have:=Int.gcd_dvd_right a b;exact Int.natAbs_dvd_natAbs.mpr this
 have h2:0<b.natAbs:=by omega
 have:=Nat.le_of_dvd h2 h;unfold gi;omega
def gs(t b:Int):Int:=if b<0 then -gi t b else gi t b
def cL{t b:Int}(hb:b≠0):gs t b≠0:=by
 have:=Mr (a:=t) hb;unfold gs;split<;>omega
def dB{t b:Int}(hb:b≠0):(gs t b).natAbs≤b.natAbs:=by
 have:=cM (a:=t) hb;unfold gs;split<;>omega
def HJ{g x k:Int}(hg:g≠0)(e:x=g*k):x.fdiv g=k:=by
 subst e;exact Int.mul_fdiv_cancel_left k hg
def OE(a b:Int):gi a b ∣ a:=Int.gcd_dvd_left a b
def Md(a b:Int):gi a b ∣ b:=Int.gcd_dvd_right a b
def UN{t b:Int}(hb:b≠0):t.fdiv (gs t b)=(Rat.divInt t b).num:=by
 have hp:=Mr (a:=t) hb;obtain⟨k,hk⟩:=OE t b;rw[Rat.num_divInt,Int.gcd_comm b t];show t.fdiv (gs t b)=b.sign*t / gi t b;unfold gs;generalize gi t b=g at hp hk ⊢;rcases Int.lt_or_gt_of_ne hb with h|h
 ·rw[if_pos h,Int.sign_eq_neg_one_of_neg h,HJ (k:=-k) (by omega) (by rw[hk];simp[Int.mul_neg,Int.neg_mul])];have:-1*t=g*(-k):=by rw[hk];simp[Int.mul_neg]
  rw[this,Int.mul_ediv_cancel_left _ (by omega)]
 ·rw[if_neg (by omega),Int.sign_eq_one_of_pos h,HJ (k:=k) (by omega) hk,Int.one_mul,hk,Int.mul_ediv_cancel_left _ (by omega)]
def UI{t b:Int}(hb:b≠0):b.fdiv (gs t b)=((Rat.divInt t b).den:Int):=by
 have hp:=Mr (a:=t) hb;obtain⟨k,hk⟩:=Md t b;rw[Rat.den_divInt,if_neg hb,Int.gcd_comm b t];have e:(((b.natAbs / Int.gcd t b:Nat)):Int)=(b.natAbs:Int) / gi t b:=by unfold gi;simp
 rw[e];unfold gs;generalize gi t b=g at hp hk ⊢;rcases Int.lt_or_gt_of_ne hb with h|h
 ·rw[if_pos h,HJ (k:=-k) (by omega) (by rw[Int.neg_mul_neg];exact hk)];have:(b.natAbs:Int)=g*(-k):=by rw[Int.mul_neg,←hk];omega
  rw[this,Int.mul_ediv_cancel_left _ (by omega)]
 ·rw[if_neg (by omega),HJ (k:=k) (by omega) hk];have:(b.natAbs:Int)=g*k:=by rw[←hk];omega
  rw[this,Int.mul_ediv_cancel_left _ (by omega)]
def FQ(a b:Int):(a.fdiv b).natAbs≤a.natAbs:=by
 cases a with
 |ofNat n =>
  cases n with
  |zero =>
   have e:Int.fdiv (.ofNat 0) b=0:=Int.zero_fdiv b;rw[e];exact bE _
  |succ k =>
   cases b with
   |ofNat j=>exact Nat.div_le_self (k+1) j
   |negSucc j=>exact Nat.succ_le_succ (Nat.div_le_self k (j+1))
 |negSucc k =>
  cases b with
  |ofNat j =>
   cases j with
   |zero=>exact bE _
   |succ j=>exact Nat.succ_le_succ (Nat.div_le_self k (j+1))
  |negSucc j=>exact Nat.div_le_self (k+1) (j+1)
def fv{t b:Int}(hb:b≠0):(Rat.divInt t b).num.natAbs≤t.natAbs:=by
 rw[←UN hb];exact FQ _ _
def Xm{t b:Int}(hb:b≠0):(Rat.divInt t b).den≤b.natAbs:=by
 have h:=FQ b (gs t b);rw[UI hb]at h
 simpa using h
def Uq(p:Rat):Rat.divInt p.num p.den=p:=Rat.num_divInt_den p
def eD{p q:Rat}(h1:p.num=q.num)(h2:(p.den:Int)=(q.den:Int)):p=q:=Rat.ext h1 (by omega)
def gI{x y:Int}{m n:Nat}(hx:x.natAbs<2^m)(hy:y.natAbs<2^n):(x*y).natAbs<2^(m+n):=by
 rw[Int.natAbs_mul,Nat.pow_add];exact Nat.mul_lt_mul'' hx hy
def U6{x:Nat}{m n:Nat}(hx:x<2^m)(h:m≤n):x<2^n:=aM hx (bP (by decide) h)
def Fits(p:Rat)(n:Nat):Prop:=p.num.natAbs<2^n∧p.den<2^n
def Fits.d{p:Rat}{n:Nat}(h:Fits p n):((p.den:Int)).natAbs<2^n:=by simpa using h.2
def Fits.jh{t b:Int}{n:Nat}(hb:b≠0)(h1:t.natAbs<2^n)(h2:b.natAbs<2^n):Fits (Rat.divInt t b) n :=
 ⟨ay (fv hb) h1,Nat.lt_of_le_of_lt (Xm hb) h2⟩
end FM
namespace FM
def Vg(a b:Int):Int.gcd (if a<0 then -a else a) (if b<0 then -b else b)=Int.gcd a b:=by
 split<;>split<;>simp[Int.gcd_neg,Int.neg_gcd]
def abs_nonneg(a:Int):0≤(if a<0 then -a else a):=by split<;>omega
def XJ{g a b:Int}(h:Int.gcd g 0=Int.gcd a b)(h0:0≤g):g=gi a b:=by
 unfold gi;rw[←h,Int.gcd_zero_right];omega
def fmod_nonneg{g l:Int}(hl:l≠0)(h:0≤l):0≤g.fmod l:=bS g (by omega)
end FM
namespace L2
open PySem PySem.Spec PyProof.Rows
structure Fn(K:Fg)(mg:Str→Option Value)(x:Str)(st:Stmt)(ps:List Str)(f:Addr)(fd:FuncData):Prop where
 F:RP K x x st f fd
 b:Binds K fd ps []
 m:mg x=some (.ref f)
section
variable{X:Cx}{k:Nat}{f:AD}{fd:FuncData}{ps:List Str}{sp:Sp}{x:Str}{st:Stmt}{p pos:Pos}{e:Expr}{es:List Expr}{t:TA}
def Bp(T:Fn X.K X.mg x st ps f fd)(G:AQ X.prog X.w X.K X.mg X.base Ah k f fd ps sp)(hr:Cs k X.A)(hg:Gl X x)(ha:PA X (e::es) t)
 (hdb:(x==("__debug__" : Str))=false:=by decide)(he:starEach (e::es) X.env=(false,eval e X.env)::starEach es X.env:=by rfl)(hpl:(backTo pos (starEach es X.env)).any (·.1)=false:=by rfl) :
  PE X (.Call (.Name x p) (e::es) [] pos) (WD sp [] E0 t):=Vv G hr hg T.m T.F.kp T.b .nil lI ha hdb he hpl
end
def Oz{t u:TS}{D:Ends}{σ:St}{H:Hp}(P:St→Hp→Prop)(h1:∀nx:St→Hp→Prop,(∀σ' H',P σ' H'→nx σ' H')→t {D with nx:=nx} σ H)(h2:∀σ' H',P σ' H'→u D σ' H'):jj t u D σ H:=h1 _ h2
def Es:2≤sizeLine:=by decide
def AO{H:Hp}{p:AD}(h:H p=none)(o:HO):AK H (upd H p o):=fun b u q=>by rw[AJ (AU q h)];exact q
def SameBut(l:AD)(H H':Hp):Prop:=∀b o,b≠l→H b=some o→H' b=some o
def SameBut.of{l:AD}{H H':Hp}(h:AK H H'):SameBut l H H':=fun b o _ q=>h b o q
def SameBut.upd{l:AD}{H:Hp}{o:HO}:SameBut l H (upd H l o):=fun b u n q=>by rw[AJ n];exact q
def Jk(p:Rat):List V:=[.int p.num,.int (p.den:Int)]
def BH(p:Rat):PD:=.tuple [.int p.num,.int (p.den:Int)]
def WU{i j:Int}{m n:Nat}(h1:i.natAbs<2^m)(h2:j.natAbs<2^n)(h:m+n≤1000000):UB i j∨PK i j :=
 .inr ⟨m+n,h,FM.U6 h1 (Nat.le_add_right _ _),FM.U6 h2 (Nat.le_add_left _ _)⟩
def CU.get{P:Program}{w:World}{H:Hp}{h:Heap}{a:AD}{o:HO}(x:CU P w H h a o):∃u,h.get? a=some u:=by
 cases o with
 |lst xs=>obtain⟨_,_,_,_,e⟩:=x;exact⟨_,e⟩
 |tup xs=>obtain⟨_,_,_,o,e,_⟩:=x;exact⟨o,e⟩
 |dK kvs=>obtain⟨_,_,_,_,o,_,_,e,_⟩:=x;exact⟨o,e⟩
 |dT kvs=>obtain⟨_,_,_,_,o,_,_,e,_⟩:=x;exact⟨o,e⟩
 |set S n=>obtain⟨o,_,_,_,e,_⟩:=x;exact⟨o,e⟩
 |ins C dx fs=>obtain⟨_,_,_,e,_⟩:=x;exact⟨_,e⟩
 |own y=>obtain⟨o,e⟩:=x;exact⟨o,e⟩
 |xd fs=>obtain⟨_,⟨o,_,_,e,_⟩,_⟩:=x;exact⟨o,e⟩
 |cP lo hi=>obtain⟨_,_,_,e⟩:=x;exact⟨_,e⟩
 |FN ob u=>obtain⟨e,_⟩:=x;exact⟨_,e⟩
 |Nx ps=>exact⟨_,(show h.get? a=some _ from x)⟩
 |met f y=>exact⟨_,(show h.get? a=some _ from x)⟩
 |ext φ=>obtain⟨_,⟨o,e⟩,_⟩:=x;exact⟨o,e⟩
structure WB(P:Program)(w:World)(outer:List Env)(H:Hp)(s:Shared)(ea:Addr)(cls a0:Value)(H':Hp)(s':Shared)(B:Heap):Prop where
 os:s'.os=s.os
 bare:AllBare s'.gens
 jo:Heap.FlyingW B outer ea cls a0 s'.heap
 keep:∀b o,s.heap.get? b=some o→H b=none→b ∉ FJ outer→B.get? b=some o
 there:∀b o,s.heap.get? b=some o→b ∉ FJ outer→∃o',B.get? b=some o'
 slot:∀b o,s.heap.get? b=some o→b∈FJ outer→∃sl,s'.heap.get? b=some {o with slots:=sl}
 free:∀b o,s.heap.get? b=some o→H b=none→H' b=none
 A6:∀b xs,H b=some (.tup xs)→H' b=some (.tup xs)
 FT:∀b o u,H b=some (.FN o u)→H' b=some (.FN o u)
 F5:∀b ps,H b=some (.Nx ps)→∃more,H' b=some (.Nx (ps++more))
 Ap:EG P w H' B
 new:s.heap.get? ea=none
def Cb(P:Program)(w:World):HZ:=fun outer H s E e s'=>∃ea cls a0 H' B,e=.ref ea∧WB P w outer H s ea cls a0 H' s' B∧E cls none H'
def OO{base h:Heap}{l:List Env}(F:h.FunFrames base l){b:AD}(hb:b∈FJ l):∃o,h.get? b=some o∧∀vs,o.data≠.fields vs:=(F.mem hb).2
section
variable{P:Program}{w:World}{K:Fg}{mg:Str→Option VL}{base:Heap}{N:List Str}{qual:Str}{scope:Scope}{f:AD}{cd:VL}{A:Around}{outer:List Env}{s:SD}{H:Hp}{E:XK}
def d8{pins:List (AD×Obj)}{σ:St}{H1:Hp}{s1:SD}{h':Heap}{ea:AD}{cls:VL}{args:List VL}(I:Inv (Cp (Cb P w) P w K mg base N qual scope f cd A outer s H E) pins σ H1 s1)
 (hx:Heap.MadeExcOf s1.heap h' ea cls args)(hE:E cls none H1):(Cp (Cb P w) P w K mg base N qual scope f cd A outer s H E).xe (.ref ea) {s1 with heap:=h'}:=by
 show wpAny (model P w) (A.deeper (envOfC qual scope s.heap.objs.size f cd)) (leaving (envOfC qual scope s.heap.objs.size f cd) (.ref ea)) _ _ _;have FF:=I.stack;have hfr:(A.deeper (envOfC qual scope s.heap.objs.size f cd)).frames=some (envOfC qual scope s.heap.objs.size f cd::outer):=I.ok.frames;have hin:∀env∈(envOfC qual scope s.heap.objs.size f cd::outer),∀b,env.frame=some b→b∈(envOfC qual scope s.heap.objs.size f cd::outer).filterMap (·.frame):=fun env he b hb=>List.mem_filterMap.mpr ⟨env,he,hb⟩;have notL:∀b o,s.heap.get? b=some o→b≠s.heap.objs.size:=fun b o e=>aH (aF e);have out:∀b,b≠s.heap.objs.size→b ∉ FJ outer→b ∉ (envOfC qual scope s.heap.objs.size f cd::outer).filterMap (·.frame):=fun b h1 h2 hm=>by
  rcases aJ.mp (I.NG b hm) with z|z
  ·exact h1 z
  ·exact h2 z
 have outT:∀b u,H1 b=some u→b ∉ (envOfC qual scope s.heap.objs.size f cd::outer).filterMap (·.frame):=fun b u e hm=>by
  have:=I.QV b hm;rw[e]at this;cases this
 refine wpAny_leaves_madeW (base:=PySem.W.hideAll s1.heap ((envOfC qual scope s.heap.objs.size f cd::outer).filterMap (·.frame))) hfr rfl (fun b o q=>PySem.W.of_hideAll _ q) (PySem.W.funFrames_hide FF hin) hx fun h2 t fl _ _ up=>?_;have hokB:EG P w H1 (PySem.W.hideAll s1.heap ((envOfC qual scope s.heap.objs.size f cd::outer).filterMap (·.frame))):=fun b u e =>
  (I.Ap b u e).Ge (fun c v hc q=>PySem.W.hideAll_get _ q (by
   rcases hc with rfl|hc
   ·exact outT _ _ e
   ·exact outT _ _ hc)) (fun _ q=>q) fun _ _ q=>q
 refine⟨ea,cls,.ref t,H1,_,rfl,⟨I.os,I.bare,fl,fun b o e n hb=>?_,fun b o e hb=>?_,fun b o e hb=>?_,fun b o e n=>I.base.free b o e n (by simp[Cp]),I.base.A6,I.base.FT,I.base.F5,hokB,?_⟩,hE⟩
 ·exact PySem.W.hideAll_get _ (I.base.keep b o e n hb (by simp[Cp])) (out b (notL b o e) hb)
 ·obtain⟨o',e1⟩:=I.base.there b o e (by simp[Cp]);exact⟨o',PySem.W.hideAll_get _ e1 (out b (notL b o e) hb)⟩
 ·obtain⟨sl,e1⟩:=I.base.slot b o e (I.ok.O6 b hb) hb (by simp[Cp]);obtain⟨o',e2,hd⟩:=OO I.HQ hb;rw[e1]at e2;cases e2;obtain⟨sl',e3⟩:=up b _ (hx.keeps _ _ e1) hd;exact⟨sl',e3⟩
 ·cases q:s.heap.get? ea with
  |none=>rfl
  |some o =>
   obtain⟨o',e1⟩:=I.base.there ea o q (by simp[Cp]);have:=hx.new;rw[e1]at this;cases this
def k7{E':XK}(hE:∀c a H',E' c a H'→E c a H'):Passes (Cb P w) (Cp (Cb P w) P w K mg base N qual scope f cd A outer s H E) E':=by
 intro pins σ H1 s1 e s2 I ⟨ea,cls,a0,H2,B,ee,F,hq⟩;subst ee;show wpAny (model P w) (A.deeper (envOfC qual scope s.heap.objs.size f cd)) (leaving (envOfC qual scope s.heap.objs.size f cd) (.ref ea)) _ _ _;have notL:∀b o,s.heap.get? b=some o→b≠s.heap.objs.size:=fun b o e=>aH (aF e);have out:∀b,b≠s.heap.objs.size→b ∉ FJ outer→b ∉ FJ (Cp (Cb P w) P w K mg base N qual scope f cd A outer s H E).stack:=fun b h1 h2 hm=>by
  rcases aJ.mp (I.NG b hm) with z|z
  ·exact h1 z
  ·exact h2 z
 refine wpAny_leaves_onW I.ok.frames rfl F.jo fun h3 fl up=>?_;refine⟨ea,cls,a0,H2,B,rfl,⟨F.os.trans I.os,F.bare,fl,fun b o e n hb=>?_,fun b o e hb=>?_,fun b o e hb=>?_,fun b o e n=>?_,fun b xs q=>F.A6 b xs (I.base.A6 b xs q),fun b o u q=>F.FT b o u (I.base.FT b o u q),fun b ps q=>?_,F.Ap,?_⟩,hE _ _ _ hq⟩
 ·exact F.keep b o (I.base.keep b o e n hb (by simp[Cp])) (I.base.free b o e n (by simp[Cp])) (out b (notL b o e) hb)
 ·obtain⟨o',e1⟩:=I.base.there b o e (by simp[Cp]);exact F.there b o' e1 (out b (notL b o e) hb)
 ·obtain⟨sl,e1⟩:=I.base.slot b o e (I.ok.O6 b hb) hb (by simp[Cp]);have hb':b∈FJ (Cp (Cb P w) P w K mg base N qual scope f cd A outer s H E).stack:=by
   show b∈FJ (envOfC qual scope s.heap.objs.size f cd::outer);unfold FJ;rw[List.filterMap_cons];exact aO _ hb
  obtain⟨sl2,e2⟩:=F.slot b _ e1 hb';obtain⟨o',e3,hd⟩:=OO I.HQ hb;rw[e1]at e3;cases e3;obtain⟨sl3,e4⟩:=up b _ e2 hd;exact⟨sl3,e4⟩
 ·obtain⟨o',e1⟩:=I.base.there b o e (by simp[Cp]);exact F.free b o' e1 (I.base.free b o e n (by simp[Cp]))
 ·obtain⟨m1,e1⟩:=I.base.F5 b ps q;obtain⟨m2,e2⟩:=F.F5 b _ e1;exact⟨m1++m2,by rw[e2,Array.append_assoc]⟩
 ·cases q:s.heap.get? ea with
  |none=>rfl
  |some o =>
   obtain⟨o',e1⟩:=I.base.there ea o q (by simp[Cp]);have:=F.new;rw[e1]at this;cases this
def RP.oQ{x:Str}{st:Stmt}{fd:FuncData}{ps:List Str}{k:Nat}{sp:Sp}(F:RP K x x st f fd)(S:Aa N ps (AV st))(len:∀vs H Q E,sp vs H Q E→vs.length=ps.length)
 (hbody:∀(cdv:VL) (A:Around) (outer:List Env) (s:SD) (H:Hp) (vs:List V) (Q:VK) (E:XK),Cs k (A.deeper (envOfC x (AV st) s.heap.objs.size f cdv))→sp vs H Q E →
   ∃t,HI (Cp (Cb P w) P w K mg base N x (AV st) f cdv A outer s H E) (DH st) t∧t { nx:=fun _ H'=>Q .BF H',rt:=Q} (start N vs) H):AQ P w K mg base (Cb P w) (k+1) f fd ps sp:=by
 obtain⟨oc,od,kV,doc,pm,an,cdv,ct,osl,rfl,lk,hcd⟩:=F.ex;exact cA lk hcd S len fun A outer s H vs Q E hr hsp=>hbody cdv A outer s H vs Q E hr hsp
def AQ.ny{fd:FuncData}{ps:List Str}{k:Nat}{sp:Sp}(F:AQ P w K mg base Ah k f fd ps sp):AQ P w K mg base (Cb P w) k f fd ps sp :=
 ⟨F.len,fun A outer s H args us vs Q E hr he hb hv hs=>codeAny_mono (F.run A outer s H args us vs Q E hr he hb hv hs) fun r s' h=>by
  cases r with
  |ok fl=>cases fl<;>exact h
  |error e=>exact False.elim h⟩
end
structure Exc(K:Fg)(mg:Str→Option Value)(x:Str)(C:Addr):Prop where
 m:mg x=some (.ref C)
 q:PySem.W.excIn K C [.type "ValueError",.type "Exception",.type "BaseException",.type "object"] "ValueError.__new__" = true
def fH{K:Fg}{h:Heap}{C:AD}{bB:List VL}{nid:String}(Nr:K.In h)(hq:PySem.W.excIn K C bB nid=true) :
  ∃tl N nm qn bs hd sn sub ab col dd k0 k1 k2 k3 k5 mN,h.get? C=some (excClassObj nm qn C N bs tl hd sn sub ab col dd k0 k1 k2 k3 k5 nid)∧h.Ns N mN∧mN "__init__" = none∧OwnTail h bB tl:=by
 unfold PySem.W.excIn at hq;split at hq
 ·rename_i dd cd sl lk;split at hq
  ·rename_i C1 tl k0 k1 k2 k3 n1 k5 e1 e2;simp only[Bool.and_eq_true,beq_iff_eq,Bool.not_eq_true']at hq;obtain⟨⟨⟨⟨⟨y1,y2⟩,y3⟩,y4⟩,y5⟩,y6⟩:=hq;subst y1 y2;obtain⟨nm,bs,mro,N,qn,hd,sn,sub,ab,col,del⟩:=cd;dsimp only at e1 y3 y5 y6;subst e1 y3;have e3:sl=#[k0,k1,k2,k3,some (.builtin n1),k5]:=by
    cases sl with
    |mk l=>simp only at e2;rw[e2]
   subst e3;exact⟨tl,N,nm,qn,bs,hd,sn,sub,ab,col,dd,k0,k1,k2,k3,k5,_,Nr _ _ lk,.of_isNs (PySem.W.isNs_of_in Nr y5),PySem.W.nsMap_none_of_in Nr y5 y6,PySem.W.tail_of_in Nr y4⟩
  ·cases hq
 ·cases hq
section
variable{X:Cx}{x:Str}{C:AD}{np cpos pos:Pos}{e:Expr}{te:TE}{E:XK}
def Lets(X:Cx)(E:XK):Prop:=∀(pins:List (AD×Obj)) (σ:St) (H:Hp) (s:SD) (h':Heap) (ea:AD) (cls:VL) (args:List VL),Inv X pins σ H s→Heap.MadeExcOf s.heap h' ea cls args→E cls none H→X.xe (.ref ea) {s with heap:=h'}
def jf(C:AD)(E:XK)(te:TE):TS:=fun _ σ H=>te σ H fun _ H1=>E (.ref C) none H1
def Zj(T:Exc X.K X.mg x C)(hL:Lets X E)(hcalm:X.calm=true)(hg:Gl X x)(he:PE X e te)(hd:(x==("__debug__" : Str))=false:=by decide)
 (hst:starEach [e] X.env=[(false,eval e X.env)]:=by rfl):PS X (.Raise (some (.Call (.Name x np) [e] [] cpos)) none pos) (jf C E te):=by
 intro pins s σ H D I h;obtain⟨tl,N,nm,qn,bs,hdct,sn,sub,ab,col,dd,k0,k1,k2,k3,k5,mN,hC,hN,hni,TL⟩:=fH I.ok.mod.Nr T.q;refine wpAny_Raise_call_subT (C:=C) (nm:=nm) (q:=qn) (N:=N) (bs:=bs) (bm:=tl) (hdct:=hdct) (sn:=sn) (sub:=sub) (ab:=ab) (col:=col) (dd:=dd) (k0:=k0) (k1:=k1) (k2:=k2) (k3:=k3) (k5:=k5)
  PySem.F.excBase_ValueError (mN:=mN) (TL.hasType (by decide)) (I.ok.hd hcalm) (by rw[hst];rfl) hni (Jc I hg T.m ⟨rfl,?_⟩ hd)
 rw[hst];refine Calls.evalArgs_plain (Calls.spliced_cons (BN (he pins s σ H _ I h) fun u s1 ⟨v,H1,I1,r1,q1⟩=>Calls.spliced_nil ?_));exact⟨rfl,by show 1≤sizeLine;decide,I1.bk _ _ hC,hN.keeps I1.bk,TL.keeps I1.bk,fun h' ea hm=>hL pins σ H1 s1 h' ea _ _ I1 hm q1⟩
end
def R5(X:Cx)(pins:List (AD×Obj))(σ:St)(E:XK)(e:VL)(s':SD):Prop:=∃H0 s0,Inv X pins σ H0 s0∧Cb X.prog X.w X.stack H0 s0 E e s'
abbrev TX:=St→Hp→VK→XK→Prop
def mE(X:Cx)(e:Expr)(t:TX):Prop :=
 ∀(pins:List (AD×Obj)) (s:SD) (σ:St) (H:Hp) (Q:VK) (E:XK),Inv X pins σ H s→t σ H Q E→wpAny (model X.prog X.w) X.A (eval e X.env) (EP X pins σ Q) (R5 X pins σ E) s
section
variable{X:Cx}{k:Nat}{f:AD}{fd:FuncData}{ps:List Str}{sp:Sp}{x:Str}{st:Stmt}{p pos:Pos}{e:Expr}{es:List Expr}{t:TA}
def kA(sp:Sp)(t:TA):TX:=fun σ H Q E=>t σ H fun vs H1=>sp (vs++[]) H1 Q E
def fG{pins:List (AD×Obj)}{σ:St}{H:Hp}{s:SD}{Q:VK}{E:XK}{us:List VL}{vs:List V}(F:AQ X.prog X.w X.K X.mg X.base (Cb X.prog X.w) k f fd ps sp)(hr:Cs k X.A)(hb:Binds X.K fd ps [])
 (I:Inv X pins σ H s)(r:Vals vs us)(h:sp (vs++[]) H Q E):wpAny (model X.prog X.w) X.A (call (.ref f) us) (EP X pins σ Q) (R5 X pins σ E) s:=by
 rw[List.append_nil]at h;have hl:(us++[]).length=ps.length:=by rw[List.append_nil,←r.length];exact F.len _ _ _ _ h
 have hb':=hb s us I.F0 hl;rw[List.append_nil]at hb';refine wpAny_call (codeAny_mono (F.run X.A X.stack s H ⟨us,[]⟩ us vs Q E hr I.gW hb' r h) fun r s' hq=>?_);cases r with
 |error e=>exact⟨H,s,I,hq⟩
 |ok fl =>
  cases fl with
  |ret u=>exact I.after hq
  |next=>exact False.elim hq
  |brk=>exact False.elim hq
  |cont=>exact False.elim hq
def gP(T:Fn X.K X.mg x st ps f fd)(G:AQ X.prog X.w X.K X.mg X.base (Cb X.prog X.w) k f fd ps sp)(hr:Cs k X.A)(hg:Gl X x)(ha:PA X.Gv (e::es) t)
 (hdb:(x==("__debug__" : Str))=false:=by decide)(he:starEach (e::es) X.env=(false,eval e X.env)::starEach es X.env:=by rfl)(hpl:(backTo pos (starEach es X.env)).any (·.1)=false:=by rfl) :
  mE X (.Call (.Name x p) (e::es) [] pos) (kA sp t):=by
 intro pins s σ H Q E I h;refine wpAny_Call_Name_kw (Jc I hg T.m ?_ hdb);refine PySem.W.callWith_K (h₀:=X.base) I.ok.mod.Nr T.F.kp (aU (ha pos pins s σ H _ (I.F3 _) h) (fun us s1 ⟨vs,H1,I1,r,q⟩=>⟨I1.F0,?_⟩) fun _ _ z=>z.elim) he hpl;exact fG G hr T.b I1.Dj r q
end
def land{X:Cx}{pins:List (AD×Obj)}{σ:St}{H0 H':Hp}{s0 s':SD}{ea:AD}{cls a0:VL}{B:Heap}(I:Inv X pins σ H0 s0)(F:WB X.prog X.w X.stack H0 s0 ea cls a0 H' s' B)
 {h':Heap}{tk:Nat}(st:B.StaysIn h')(up:s'.heap.UpToSlots h'):Inv X pins σ H' { s' with heap:=h',toks:=tk}:=by
 have fdat:∀b o,s0.heap.get? b=some o→b∈FJ X.stack→∃sl,h'.get? b=some {o with slots:=sl}:=fun b o e hb=>by
  obtain⟨sl,e1⟩:=F.slot b o e hb;obtain⟨o',e2,hd⟩:=OO I.stack hb;rw[e]at e2;cases e2;obtain⟨sl',e3⟩:=up b _ e1 hd;exact⟨sl',e3⟩
 refine I.cu (s':={ s' with heap:=h',toks:=tk}) (ch:=[]) F.os ⟨fun b o e n hb _=>st b o (F.keep b o e n hb),fun b o e n hb _=>fdat b o e hb,fun b o e n _=>F.free b o e n,fun b o e _=>?_,F.A6,F.FT,F.F5⟩ (F.Ap.kept st) F.bare fun b z=>absurd z (by simp);by_cases hb:b∈FJ X.stack
 ·obtain⟨sl,e1⟩:=fdat b o e hb;exact⟨_,e1⟩
 ·obtain⟨o',e1⟩:=F.there b o e hb;exact⟨o',st _ _ e1⟩
def Lo(ea:AD)(cls:VL):HO:=.ext fun h=>∃o vs,h.get? ea=some o∧o.cls=cls∧o.data=.fields vs
def kZ{X:Cx}{pins:List (AD×Obj)}{σ:St}{H0 H':Hp}{s0 s' s6:SD}{ea:AD}{cls a0:VL}{B:Heap}(I:Inv X pins σ H0 s0)(F:WB X.prog X.w X.stack H0 s0 ea cls a0 H' s' B)
 (I6:Inv X pins σ H' s6)(ho:∃o vs,s6.heap.get? ea=some o∧o.cls=cls∧o.data=.fields vs):H' ea=none∧Inv X pins σ (upd H' ea (Lo ea cls)) s6:=by
 have hn:H' ea=none:=by
  cases q:H' ea with
  |none=>rfl
  |some u =>
   obtain⟨o,e⟩:=(F.Ap ea u q).get;rw[F.jo.2.1]at e;cases e
 have ne:∀b o,s0.heap.get? b=some o→b≠ea:=fun b o e z=>by rw[z,F.new]at e;cases e
 have up:∀b,b≠ea→upd H' ea (Lo ea cls) b=H' b:=fun b z=>AJ z;have neT:∀b u,H' b=some u→b≠ea:=fun b u e z=>by rw[z,hn]at e;cases e
 refine⟨hn,I6.ok,I6.os,I6.bare,⟨I6.base.keep,I6.base.slot,fun b o e n hx=>?_,I6.base.there,fun b xs e=>?_,fun b o u e=>?_,fun b ps e=>?_⟩,I6.loc,I6.cell,?_,fun y c e=>?_,fun p hp=>?_,fun b u e=>?_,I6.len⟩
 ·obtain⟨o',e1⟩:=I.base.there b o e hx;rw[up b (ne b o' e1)];exact I6.base.free b o e n hx
 ·have:=I6.base.A6 b xs e;rw[up b (neT _ _ this)];exact this
 ·have:=I6.base.FT b o u e;rw[up b (neT _ _ this)];exact this
 ·obtain⟨m,e1⟩:=I6.base.F5 b ps e;exact⟨m,by rw[up b (neT _ _ e1)];exact e1⟩
 ·obtain⟨m,⟨o,_,_,e,_⟩,_⟩:=I.loc;rw[up _ (ne _ o e)];exact I6.free
 ·obtain⟨v,o,e1,_⟩:=I.cell y c e;rw[up _ (ne _ o e1)];exact I6.FI y c e
 ·obtain⟨e1,e2,e3⟩:=I6.pin p hp;have e0:=(I.pin p hp).1;exact⟨e1,by rw[up _ (ne _ _ e0)];exact e2,e3⟩
 ·by_cases hb:b=ea
  ·subst hb;rw[AI]at e;cases e;obtain⟨o,vs,e1,e2,e3⟩:=ho;exact⟨⟨o,vs,e1,e2,e3⟩,⟨o,e1⟩,fun h1 h2 ⟨o1,vs1,q1,q2⟩ k=>⟨o1,vs1,k _ q1,q2⟩⟩
  ·rw[up b hb]at e;exact(I6.Ap b u e).Ge (fun c v _ q=>q) (fun c q=>by rw[up c (neT _ _ q)];exact q) fun c xs q=>by rw[up c (neT _ _ q)];exact q
structure ER(K:Fg)(C G:Addr)(b:Bool):Prop where
 cl:(PySem.W.clsIn K G).isSome=true
 ty:PySem.W.typeIn K (.ref G)=some (.type "type")
 ex:PySem.W.subIn K (.ref G) (.type "BaseException")=some true
 sub:PySem.W.subIn K (.ref C) (.ref G)=some b
def TK{M:Model}{A:Around}{E:VL→SD→Prop}{s:SD}{K:Fg}{e C G:AD}{oe:Obj}{b:Bool}{Q:Bool→SD→Prop}(X:K.In s.heap)(he:s.heap.get? e=some oe)(hc:oe.cls=.ref C)(B:ER K C G b)
 (h:Q b s):wpAny M A (excMatches (.ref e) (.ref G)) Q E s:=by
 have l1:PySem.W.Looks M s.heap (isInstance (.ref G) (.type "tuple")) false:=(PySem.W.looks_typeIn X B.ty).andThen (PySem.W.Looks.of_pure tc_notTuple);have l2:PySem.W.Looks M s.heap (isType (.ref G)) true:=by
  have z:=B.cl;unfold PySem.W.clsIn at z;split at z
  ·rename_i c' d' cd' sl' ho;intro A' Q' E' s' k q;unfold isType loadHead;exact Wb (wpAny_loadPart (k _ _ (X _ _ ho)) (aA q))
  ·cases z
 have l3:PySem.W.Looks M s.heap (isSubtype (.ref G) (.type "BaseException")) true:=PySem.W.looks_subIn X B.ex;have l4:PySem.W.Looks M s.heap (typeOf (.ref e)) (.ref C):=hc ▸ (PySem.W.Looks.ld he).andThen .now
 have l5:PySem.W.Looks M s.heap (isSubtype (.ref C) (.ref G)) b:=PySem.W.looks_subIn X B.sub;obtain⟨hp,g,d,tk,os⟩:=s;unfold excMatches isExcClass;refine Wb (l1.at ?_);simp only[Bool.false_eq_true,if_false];refine Wb (aA ?_);simp only[List.forIn_cons,List.forIn_nil];refine Wb (Wb (Wb (Wb (l2.at ?_))));simp only[if_true];refine l3.at ?_;simp only[Bool.not_true,Bool.false_eq_true,if_false];refine aA (aA (Wb (l4.at (Wb (Wb (Wb (l5.at ?_)))))));cases b with
 |true =>
  simp only[if_true];exact aA (aA (aA h))
 |false =>
  simp only[Bool.false_eq_true,if_false];exact aA (aA (aA h))
def Cx.held(X:Cx)(ea:AD):Cx:={X with A:=X.A.mark (some (.ref ea)),calm:=false,xe:=fun _ _=>False}
def Inv.held{X:Cx}{pins:List (AD×Obj)}{σ:St}{H:Hp}{s:SD}(I:Inv X pins σ H s)(ea:AD):Inv (X.held ea) pins σ H s :=
 ⟨⟨I.ok.mod,I.ok.kind,I.ok.glob,I.ok.blt,I.ok.above,I.ok.inj,I.ok.has,I.ok.VF,fun z=>(by cases z),I.ok.frames,I.ok.Ye,I.ok.jc,I.ok.bs,I.ok.QB,I.ok.QZ,I.ok.QO,I.ok.HQ,I.ok.O6⟩,I.os,I.bare,I.base,I.loc,I.cell,I.free,I.FI,I.pin,I.Ap,I.len⟩
def Inv.iC{X:Cx}{pins:List (AD×Obj)}{σ:St}{H:Hp}{s:SD}{ea:AD}(ok:X.Ok)(I:Inv (X.held ea) pins σ H s):Inv X pins σ H s :=
 ⟨ok,I.os,I.bare,I.base,I.loc,I.cell,I.free,I.FI,I.pin,I.Ap,I.len⟩
def nJ{X:Cx}{pins:List (AD×Obj)}{σ:St}{H:Hp}{s:SD}{M:Model}{A:Around}{E:VL→SD→Prop}{i:Nat}{n:Str}{pos:Pos}{Q:Unit→SD→Prop}(I:Inv X pins σ H s)(hN:X.N.Nodup)(hi:X.N[i]? = some n)
 (hl:X.env.scope.names.lookup n=some .local)(h:∀s',Inv X pins (σ.set i none) H s'→Q () s'):wpAny M A (do bindName X.env n .none;unbindBehindTheSuite X.env n pos) Q E s:=by
 obtain⟨m,hn,hlk⟩:=id I.loc;have hcls:(X.env.scope.kind==.class||(X.env.scope.kind==.module&&X.env.locals != X.env.globals))=false:=by rw[I.ok.kind];rfl
 refine wpAny_nameGoes_keeps hl hn hcls fun h' v hn' hs=>h _ ?_;have hiS:i<σ.length:=by rw[I.len];exact(aC.mp hi).1
 obtain⟨oL,_,_,hoL,_⟩:=id hn;have tr:EG X.prog X.w H h':=fun b ob e=>(I.Ap b ob e).Ge (fun c w' hc q=>(hs.2 c (by
  rintro rfl;rcases hc with hc|hc
  ·rw[←hc,I.free]at e;cases e
  ·rw[I.free]at hc;cases hc)).trans q) (fun _ q=>q) fun _ _ q=>q
 refine⟨I.ok,I.os,I.bare,⟨fun b o e n hb hx=>?_,fun b o e n hb hx=>?_,I.base.free,fun b o e hx=>?_,I.base.A6,I.base.FT,I.base.F5⟩,⟨_,hn',fun j y v' e1 e2 e3=>?_⟩,fun y c e=>?_,I.free,I.FI,fun p hp=>?_,tr,by simpa using I.len⟩
 ·exact(hs.2 b (aH (aM (aF e) I.ok.above))).trans (I.base.keep b o e n hb hx)
 ·obtain⟨sl,e1⟩:=I.base.slot b o e n hb hx;exact⟨sl,(hs.2 b (aH (aM (aF e) I.ok.above))).trans e1⟩
 ·obtain⟨o',e1⟩:=I.base.there b o e hx;exact⟨o',(hs.2 b (aH (aM (aF e) I.ok.above))).trans e1⟩
 ·by_cases hj:j=i
  ·subst hj;rw[List.getElem?_set_self hiS]at e2;cases e2
  ·rw[List.getElem?_set_ne (Ne.symm hj)]at e2;obtain⟨u',r',q⟩:=hlk j y v' e1 e2 e3;refine⟨u',r',?_⟩;rcases q with ⟨k,e⟩|⟨k,c,e,z⟩
   ·refine .inl ⟨k,?_⟩;have:y≠n:=fun e=>hj (Ob hN e1 (e ▸ hi));simp[this,e]
   ·exact .inr ⟨k,c,e,z.sameBut hs (I.Pl y c e)⟩
 ·obtain⟨w',z⟩:=I.cell y c e;exact⟨w',z.sameBut hs (I.Pl y c e)⟩
 ·obtain⟨e,n',ne,nf,d⟩:=I.pin p hp;exact⟨(hs.2 p.1 ne).trans e,n',ne,nf,d⟩
open PySem PySem.Spec PyProof.Rows PySem.Builtin.ObjectAttr PySem.Builtin.Getset_descriptor
structure Fj(K:Fg)(C:Addr):Prop where
 cl:(PySem.W.clsIn K C).isSome=true
 ga:PySem.W.findIn K (.ref C) "__getattribute__" = some (some (.builtin "BaseException.__getattribute__"))
 gh:PySem.W.findIn K (.ref C) "__getattr__" = some none
 at_:PySem.W.findIn K (.ref C) "__class__" = some (some (.builtin "object.__class__"))
 gt:PySem.W.specialIn K (.builtin "object.__class__") "__get__" = some (some (.builtin "getset_descriptor.__get__"))
 tk:PySem.W.takesIn K (.builtin "object.__class__")=some true
 ob:PySem.W.mroIn K C (.type "object")=some true
 be:PySem.W.mroIn K C (.type "BaseException")=some true
def excAt(x C:AD)(h:Heap):Prop:=∃o vs,h.get? x=some o∧o.cls=.ref C∧o.data=.fields vs
def excAt.ty{x C:AD}{h:Heap}(p:excAt x C h)(M:Model):PySem.W.Looks M h (typeOf (.ref x)) (.ref C):=by
 obtain⟨o,_,e,c,_⟩:=p;exact c ▸ (PySem.W.Looks.ld e).andThen .now
def Y8{K:Fg}{C:AD}{h:Heap}(X:K.In h)(z:(PySem.W.clsIn K C).isSome=true)(M:Model):PySem.W.Looks M h (isType (.ref C)) true:=by
 unfold PySem.W.clsIn at z;split at z
 ·rename_i c' d' cd' sl' ho;intro A' Q' E' s' k q;exact Wb (wpAny_loadPart (k _ _ (X _ _ ho)) (aA q))
 ·cases z
section
variable{prog:Program}{w:World}{A:Around}{E:VL→SD→Prop}{K:Fg}{x C:AD}{h:Heap}{g:Array GenState}{d:Drawn}{t:Nat}{os:OsState}
def Zx(X:K.In h)(F:Fj K C)(M:Model):PySem.W.Looks M h (find (.ref x) (.ref C) "__class__") (.bind (.builtin "getset_descriptor.__get__") (.builtin "object.__class__")):=by
 have a1:=PySem.W.looks_findIn (M:=M) X F.at_;have a2:PySem.W.Looks M h (getOf (some (.builtin "object.__class__"))) (some (.builtin "getset_descriptor.__get__")):=PySem.W.looks_specialIn X F.gt;have a3:=PySem.W.looks_takesIn (M:=M) X F.tk;exact a1.andThen (a2.andThen ((show PySem.W.Looks M h (dataDescriptor? (some (.builtin "object.__class__")) (some (.builtin "getset_descriptor.__get__"))) (some (.builtin "getset_descriptor.__get__",.builtin "object.__class__")) from a3.andThen .now).andThen (PySem.W.Looks.tag .now)))
def fU{tp:VL}{R:Result→SD→Prop}(X:K.In h)(F:Fj K C)(p:excAt x C h)(hR:R (.ok (.ret (.ref C))) ⟨h,g,d,t,os⟩) :
  codeAny (model prog w) A (.call (.builtin "getset_descriptor.__get__") ⟨[.builtin "object.__class__",.ref x,tp],[]⟩) R ⟨h,g,d,t,os⟩:=by
 have b0:=p.ty (model prog w);have b1:=PySem.W.looks_mroIn (M:=model prog w) X F.ob;refine codeAny_call_builtin PySem.W.KF.slot_gs.plain PySem.W.KF.entry_gs ?_;refine PySem.W.KF.slot_gs.check _ _ _ _ _ _ _ _ PySem.W.KF.type_class (PySem.W.KF.args_gs _ _ _) ?_;unfold Builtin.«getset_descriptor.__get__» descrGet;rw[PySem.W.dga_obj];refine Wb (aA ?_);unfold descrGetter descrCheckInstance descrNameAndClass isInstance;simp only[PySem.W.KF.owner_class]
 repeat lk
 refine⟨Code.quiet_builtin _ (by decide +kernel),codeAny_builtin PySem.W.KF.entry_class ?_⟩;unfold Builtin.«object.__class__» shownTypeOf
 repeat lk
 exact hR
def Xs{tk:Tok}{Q:Fin→SD→Prop}(X:K.In h)(F:Fj K C)(p:excAt x C h)(hQ:Q (.done (.ret (.ref C))) ⟨h,g,d,t,os⟩) :
  wpAny (model prog w) A (Builtin.«object.__getattribute__» ⟨[.ref x,.str "__class__" tk],[]⟩) Q E ⟨h,g,d,t,os⟩:=by
 have b0:=p.ty (model prog w);have b1:=Zx (x:=x) X F (model prog w);unfold Builtin.«object.__getattribute__»
 repeat lk
 refine wpAny_run (fU X F p ?_);exact aA (aA hQ)
def YF{nameV:VL}{Q:Unit→SD→Prop}(X:K.In h)(F:Fj K C)(p:excAt x C h)(hQ:Q () ⟨h,g,d,t,os⟩) :
  wpAny (model prog w) A (checkBuiltinCall "BaseException.__getattribute__" ⟨[.ref x,nameV],[]⟩) Q E ⟨h,g,d,t,os⟩:=by
 have c1:builtinKind "BaseException.__getattribute__" = some .slot:=by decide +kernel
 have c2:splitId "BaseException.__getattribute__" = some ("BaseException", "__getattribute__"):=by decide +kernel
 have c3:=PySem.F.args_bexc_ga (.ref x) nameV;have b0:=p.ty (model prog w);have b1:=PySem.W.looks_mroIn (M:=model prog w) X F.be;simp only[checkBuiltinCall,c1,c2];refine Wb ?_;unfold isInstance
 repeat lk
 exact hQ
def YQ{Q:Option VL→SD→Prop}(X:K.In h)(F:Fj K C)(p:excAt x C h)(hQ:Q (some (.ref C)) ⟨h,g,d,t+1,os⟩) :
  wpAny (model prog w) A (getAttr? (.ref x) "__class__") Q E ⟨h,g,d,t,os⟩:=by
 have b0:=p.ty (model prog w);have b1:=PySem.W.looks_findIn (M:=model prog w) X F.ga;have b2:=PySem.W.looks_findIn (M:=model prog w) X F.gh;unfold getAttr? getAttrBy? getAttrBy;refine Wb (wpAny_mkText (Wb (wpAny_attempt (aS (Wb (b0.at (Wb (b1.at ?_))))))));have c2:(Value.builtin "BaseException.__getattribute__" == Value.builtin "object.__getattribute__")=false:=by decide +kernel
 have c1:¬((onTheHeap (Value.ref C)&&Value.builtin "BaseException.__getattribute__" == Value.builtin "object.__getattribute__")=true):=by rw[c2,Bool.and_false];exact aK
 show wpAny _ _ (if(onTheHeap (Value.ref C)&&Value.builtin "BaseException.__getattribute__" == Value.builtin "object.__getattribute__")=true then _ else _) _ _ _;rw[if_neg c1];unfold getAttrByItsOwn;refine Wb (show wpAny _ _ (typeLookup (Value.ref C) "__getattr__") _ _ _ from b2.at ?_);refine Wb (wpAny_attempt (aS ?_));show wpAny _ _ (boundAndCalled _ _ _) _ _ _;unfold boundAndCalled;have f3:=(PySem.F.excAttr_ValueError).ga.bind (.ref x);refine Wb (wpAny_of_eq f3 ?_);refine wpAny_call (codeAny_call_builtin (PySem.F.excAttr_ValueError).ga.plain PySem.F.entry_bexc_ga (YF X F p (Xs X F p ?_)));exact aA (aA hQ)
end
def Zw{K:Fg}{x C:AD}(F:Fj K C):PySem.W.KitX K (.ref x) (.ref C) (excAt x C) where
 ty:=fun M h _ p=>p.ty M
 it:=fun M h X _=>Y8 X F.cl M
 ne:=fun h tp dd its n sl X htp=>by
  have z:=F.cl;refine aY.mpr fun q=>?_;have e:C=tp:=Value.ref.inj (beq_iff_eq.mp q);subst e;unfold PySem.W.clsIn at z;split at z
  ·rename_i c' d' cd' sl' ho;have y:=(X _ _ ho).symm.trans htp;cases y
  ·cases z
 ca:=fun {prog w A E Q s} X p k=>by
  obtain⟨h,g,d,t,os⟩:=s;exact YQ X F p k
def F8:V→VL
 |.ref C=>.ref C
 |.ty n=>.type n
 |_=>.none
def Vo{c:V}{u:VL}(r:RelV c u)(h:F8 c≠.none):u=F8 c:=by
 cases c with
 |ref C=>exact r
 |ty n=>exact r
 |_=>exact absurd rfl h
section
variable{X:Cx}
def nB(K:Fg):List V→Hp→VK→Prop:=fun xs H Q=>∃x c t b,xs=[x,c]∧F8 c≠.none∧HX K H x t∧PySem.W.kitOne K t (F8 c)=some b∧Q (.bl b) H
def GP:DV X (.builtin "isinstance") (nB X.K):=by
 intro pins s σ H xs us Q I r h;obtain⟨x,c,t,b,rfl,hc,ty,e,q⟩:=h;obtain⟨u,v,rfl,r1,r2⟩:=r.two;rw[Vo r2 hc];exact XY I r1 ty e fun tk=>⟨.bl b,H,I.tok tk,rfl,q⟩
def lK(K:Fg):List V→Hp→VK→Prop:=fun xs H Q=>∃ea C c b,xs=[.ref ea,c]∧F8 c≠.none∧H ea=some (Lo ea (.ref C))∧Fj K C∧PySem.W.kitOne K (.ref C) (F8 c)=some b∧Q (.bl b) H
def Yg:DV X (.builtin "isinstance") (lK X.K):=by
 intro pins s σ H xs us Q I r h;obtain⟨ea,C,c,b,rfl,hc,he,F,e,q⟩:=h;obtain⟨u,v,rfl,r1,r2⟩:=r.two;rw[Vo r2 hc];cases (show u=Value.ref ea from r1);obtain⟨p,_,_⟩:=(show CU X.prog X.w H s.heap ea (Lo ea (.ref C)) from I.Ap ea _ he);exact bD (Zw F) I.F0 p e (fun z=>nomatch z) fun tk=>⟨.bl b,H,I.tok tk,rfl,q⟩
end
def iD(K:Fg):PySem.W.kitOne K (.type "tuple") (.type "tuple")=some true:=rfl
def i6(K:Fg):PySem.W.kitOne K (.type "int") (.type "int")=some true:=rfl
def jD(K:Fg):PySem.W.kitOne K (.type "bool") (.type "bool")=some true:=rfl
def i0(K:Fg):PySem.W.kitOne K (.type "int") (.type "bool")=some false:=by kernel_rfl
def gO(K:Fg):PySem.W.kitOne K (.type "bool") (.type "int")=some true:=by kernel_rfl
def gA(K:Fg):PySem.W.kitOne K (.type "list") (.type "tuple")=some false:=by kernel_rfl
def gB(K:Fg):PySem.W.kitOne K (.type "tuple") (.type "list")=some false:=by kernel_rfl
def fg(K:Fg):PySem.W.kitOne K (.type "list") (.type "list")=some true:=rfl
def jA(K:Fg):PySem.W.kitOne K (.type "int") (.type "tuple")=some false:=by kernel_rfl
def gY(K:Fg):PySem.W.kitOne K (.type "bool") (.type "tuple")=some false:=by kernel_rfl
def gK(K:Fg):PySem.W.kitOne K (.type "NoneType") (.type "tuple")=some false:=by kernel_rfl
def fw(K:Fg):PySem.W.kitOne K (.type "str") (.type "tuple")=some false:=by kernel_rfl
def fi(K:Fg):PySem.W.kitOne K (.type "tuple") (.type "int")=some false:=by kernel_rfl
def ju(K:Fg):PySem.W.kitOne K (.type "list") (.type "int")=some false:=by kernel_rfl
def jF(K:Fg):PySem.W.kitOne K (.type "NoneType") (.type "int")=some false:=by kernel_rfl
def ff(K:Fg):PySem.W.kitOne K (.type "str") (.type "int")=some false:=by kernel_rfl
def jd(K:Fg):PySem.W.kitOne K (.type "int") (.type "list")=some false:=by kernel_rfl
def jM(K:Fg):PySem.W.kitOne K (.type "bool") (.type "list")=some false:=by kernel_rfl
def fe(K:Fg):PySem.W.kitOne K (.type "NoneType") (.type "list")=some false:=by kernel_rfl
def gT(K:Fg):PySem.W.kitOne K (.type "str") (.type "list")=some false:=by kernel_rfl
def freeOk(xsc:Scope)(names:List (Str×NameKind)):Bool:=names.all fun y=>y.2 != .free||xsc.names.lookup y.1==some .cell||xsc.names.lookup y.1==some .free
def Mu{xsc:Scope}{names:List (Str×NameKind)}(h:freeOk xsc names=true):∀y∈names,y.2=.free→xsc.names.lookup y.1=some .cell∨xsc.names.lookup y.1=some .free:=fun y hy hf=>by
 have q:=aa.mp h y hy;rw[hf]at q;simp only[bne_self_eq_false,Bool.false_or,Bool.or_eq_true,beq_iff_eq]at q;exact q
def Dc(scope:Scope)(N:List Str)(x:Str)(ix:Nat):Bool :=
 scope.kind==.function&&(scope.names.all fun y=>y.2 != .cell&&(y.2 != .local||scope.names.lookup y.1==some .local)&&(y.2 != .free||scope.names.lookup y.1==some .free))&&scope.names.lookup x==some .local&&decide N.Nodup&&N[ix]? == some x
def HV{scope:Scope}{N:List Str}{x:Str}{ix:Nat}(h:Dc scope N x ix=true):EB scope N x ix:=by
 unfold Dc at h;simp only[Bool.and_eq_true,beq_iff_eq,decide_eq_true_eq,List.all_eq_true,bne_iff_ne,Bool.or_eq_true]at h;obtain⟨⟨⟨⟨h1,h2⟩,h3⟩,h4⟩,h5⟩:=h;exact⟨h1,fun y hy=>(h2 y hy).1.1,fun y hy hl=>(h2 y hy).1.2.resolve_left fun z=>z hl,fun y hy hl=>(h2 y hy).2.resolve_left fun z=>z hl,h3,h4,h5⟩
section
variable{X:Cx}{elt iter:Expr}{x:Str}{px pos:Pos}{ifs:List Expr}{scope:Scope}{wi:TI}{tif:TT}{te:TE}
def Gh(N:List Str)(ix:Nat)(fr:List (Option Nat))(hi:PI X (.Name x px) iter wi)(hif:∀cl C s₀ H₀ fp,Mi (A9 X scope cl N C s₀ H₀ fp) ifs tif)(he:∀cl C s₀ H₀ fp,PE (A9 X scope cl N C s₀ H₀ fp) elt te)
 (h1:Dc scope N x ix=true:=by decide +kernel)(h2:X.calm=true:=by rfl)(h3:F7 N X.N scope X.env.scope fr 0=true:=by rfl)(h4:fr.length=N.length:=by rfl)(h5:freeOk X.env.scope scope.names=true:=by rfl)
 (hs:∀x,foldedSetIterable iter X.env x=pure x:=by intro _;rfl):PE X (.ListComp elt [⟨.Name x px,iter,ifs,0⟩] scope pos) (Nd wi fr ix tif te) :=
 eM (HV h1) h2 h3 h4 (Mu h5) hi hif he hs
def N5{i:Nat}{y:Str}{py spos:Pos}(N:List Str)(ix:Nat)(fr:List (Option Nat))(hN:X.N.Nodup)(hy:X.N[i]? = some y)(hly:X.env.scope.names.lookup y=some .local)
 (hi:PI X (.Name x px) iter wi)(hif:∀cl C s₀ H₀ fp,Mi (A9 X scope cl N C s₀ H₀ fp) ifs tif)(he:∀cl C s₀ H₀ fp,PE (A9 X scope cl N C s₀ H₀ fp) elt te)
 (h1:Dc scope N x ix=true:=by decide +kernel)(h2:X.calm=true:=by rfl)(h3:F7 N X.N scope X.env.scope fr 0=true:=by rfl)(h4:fr.length=N.length:=by rfl)(h5:freeOk X.env.scope scope.names=true:=by rfl)
 (hsw:swapsWith (.ListComp elt [⟨.Name x px,iter,ifs,0⟩] scope pos) (some (.Name y py)) spos.line X.env=pure true:=by rfl)
 (hs:∀x,foldedSetIterable iter X.env x=pure x:=by intro _;rfl):PS X (.Assign [.Name y py] (.ListComp elt [⟨.Name x px,iter,ifs,0⟩] scope pos) spos) (Wg (Nd wi fr ix tif te) (EJ i)) :=
 Wj hN hy hly (HV h1) h2 h3 h4 (Mu h5) hi hif he hsw hs
end
section
variable{X:Cx}{k:Nat}{f:AD}{fd:FuncData}{ps:List Str}{sp:Sp}{x:Str}{st:Stmt}{p pos:Pos}{e:Expr}{es:List Expr}{t:TA}{E:XK}
def Yt(T:Fn X.K X.mg x st ps f fd)(G:AQ X.prog X.w X.K X.mg X.base (Cb X.prog X.w) k f fd ps sp)(hr:Cs k X.A)(hg:Gl X x)(hP:Passes (Cb X.prog X.w) X E)(ha:PA X (e::es) t)
 (hdb:(x==("__debug__" : Str))=false:=by decide)(he:starEach (e::es) X.env=(false,eval e X.env)::starEach es X.env:=by rfl)(hpl:(backTo pos (starEach es X.env)).any (·.1)=false:=by rfl) :
  PE X (.Call (.Name x p) (e::es) [] pos) (WD sp [] E t):=Vv G hr hg T.m T.F.kp T.b .nil hP ha hdb he hpl
end
end L2
inductive Tr where
 |nil
 |cons (b r:Tr)
 deriving DecidableEq
namespace Tr
def bs:Tr→List Tr
 |.nil=>[]
 |.cons b r=>b::r.bs
def of:List Tr→Tr
 |[]=>.nil
 |b::r=>.cons b (of r)
def R7:∀t:Tr,of t.bs=t
 |.nil=>rfl
 |.cons b r=>by rw[bs,of,R7 r]
def Kj:∀l:List Tr,(of l).bs=l
 |[]=>rfl
 |b::r=>by rw[of,bs,Kj r]
def ic{t u:Tr}(h:t.bs=u.bs):t=u:=by rw[←R7 t,h,R7]
def len:Tr→Nat
 |.nil=>0
 |.cons _ r=>r.len+1
def HE:∀t:Tr,t.bs.length=t.len
 |.nil=>rfl
 |.cons _ r=>by rw[bs,List.length_cons,HE r,len]
def Ac:Tr→Nat
 |.nil=>1
 |.cons b r=>b.Ac+r.Ac
def deep:Tr→Nat
 |.nil=>0
 |.cons b r=>max (b.deep+1) r.deep
def lt:Tr→Tr→Bool
 |.nil,.nil=>false
 |.nil,.cons _ _=>true
 |.cons _ _,.nil=>false
 |.cons b r,.cons c q=>if b=c then lt r q else lt b c
def lt_irrefl:∀t:Tr,lt t t=false
 |.nil=>rfl
 |.cons b r=>by rw[lt,if_pos rfl];exact lt_irrefl r
def lt_trans:∀a b c:Tr,lt a b=true→lt b c=true→lt a c=true
 |.nil,.nil,_,h,_=>by cases h
 |.nil,.cons _ _,.nil,_,h=>by cases h
 |.nil,.cons _ _,.cons _ _,_,_=>rfl
 |.cons _ _,.nil,_,h,_=>by cases h
 |.cons _ _,.cons _ _,.nil,_,h=>by cases h
 |.cons a r,.cons b s,.cons c t,h1,h2=>by
  rw[lt]at h1 h2 ⊢;by_cases e1:a=b
  ·subst e1;rw[if_pos rfl]at h1;by_cases e2:a=c
   ·subst e2;rw[if_pos rfl]at h2 ⊢;exact lt_trans r s t h1 h2
   ·rw[if_neg e2]at h2 ⊢;exact h2
  ·rw[if_neg e1]at h1;by_cases e2:b=c
   ·subst e2;rw[if_neg e1];exact h1
   ·rw[if_neg e2]at h2;have h3:=lt_trans a b c h1 h2;by_cases e3:a=c
    ·subst e3;rw[lt_irrefl]at h3;cases h3
    ·rw[if_neg e3];exact h3
def J7:∀a b:Tr,lt a b=false→lt b a=false→a=b
 |.nil,.nil,_,_=>rfl
 |.nil,.cons _ _,h,_=>by cases h
 |.cons _ _,.nil,_,h=>by cases h
 |.cons a r,.cons b s,h1,h2=>by
  rw[lt]at h1 h2;by_cases e:a=b
  ·subst e;rw[if_pos rfl]at h1 h2;rw[J7 r s h1 h2]
  ·rw[if_neg e]at h1;rw[if_neg (Ne.symm e)]at h2;exact absurd (J7 a b h1 h2) e
def N9(a b c:Tr)(h:lt a c=true):lt a b=true∨lt b c=true:=by
 cases h1:lt a b with
 |true=>exact .inl rfl
 |false =>
  right
  cases h2:lt b a with
  |true=>exact lt_trans b a c h2 h
  |false=>rw[←J7 a b h1 h2];exact h
def lt_asymm{a b:Tr}(h:lt a b=true):lt b a=false:=by
 cases h2:lt b a with
 |false=>rfl
 |true=>have:=lt_trans a b a h h2;rw[lt_irrefl]at this;cases this
def FZ:Tr→Bool
 |.nil=>true
 |.cons b r=>b.FZ&&r.FZ&&(match r with
  |.nil=>true
  |.cons c _=>!lt b c)
def ins(x:Tr):List Tr→List Tr
 |[]=>[x]
 |y::r=>if lt x y=true then y::ins x r else x::y::r
def CL:List Tr→List Tr
 |[]=>[]
 |x::r=>ins x (CL r)
end Tr
namespace TH
open PySem PyProof.Rows PySem.SeqAt
def Vs(h:Heap):Tr→List VL→Prop
 |.nil,us=>us=[]
 |.cons b r,us=>∃(a:AD) (its rest:List VL),us=.ref a::rest∧h.IsTuple a its.toArray∧Vs h b its∧Vs h r rest
def Vs.length{h:Heap}:∀ {t:Tr} {us:List VL},Vs h t us→us.length=t.len
 |.nil,us,e=>by rw[Vs]at e;rw[e];rfl
 |.cons b r,us,e=>by
  rw[Vs]at e;obtain⟨a,its,rest,rfl,_,_,q⟩:=e;rw[List.length_cons,Tr.len,Vs.length q]
def JS{h:Heap}{a:AD}{x y:Array VL}(h1:h.IsTuple a x)(h2:h.IsTuple a y):x=y:=by
 obtain⟨o,e,_,n,d⟩:=h1;obtain⟨o',e',_,n',d'⟩:=h2;rw[e]at e';cases e';rw[d]at d';cases d';rfl
def Vs.inj{h:Heap}:∀ {t u:Tr} {us:List VL},Vs h t us→Vs h u us→t=u
 |.nil,.nil,_,_,_=>rfl
 |.nil,.cons _ _,us,e,f=>by
  rw[Vs]at e;rw[Vs]at f;obtain⟨_,_,_,f,_⟩:=f;rw[e]at f;cases f
 |.cons _ _,.nil,us,e,f=>by
  rw[Vs]at e;rw[Vs]at f;obtain⟨_,_,_,e,_⟩:=e;rw[f]at e;cases e
 |.cons b r,.cons c q,us,e,f=>by
  rw[Vs]at e f;obtain⟨a,its,rest,rfl,h1,h2,h3⟩:=e;obtain⟨a',its',rest',e',k1,k2,k3⟩:=f;cases e';have:=JS h1 k1;have e2:its=its':=by simpa using this
  subst e2;rw[Vs.inj h2 k2,Vs.inj h3 k3]
def WM{s:SD}:∀(t u:Tr) (A:Around) (us vs:List VL),Vs s.heap t us→Vs s.heap u vs→A.units+t.deep≤cLine →
  ∀j (h1:j<us.length) (h2:j<vs.length),EqAt A s us[j] vs[j] (decide (t.bs[j]? = u.bs[j]?))
 |.nil,u,A,us,vs,e,f,_,j,h1,h2=>by
  rw[Vs]at e;subst e;exact absurd h1 (ae _)
 |.cons b r,.nil,A,us,vs,e,f,_,j,h1,h2=>by
  rw[Vs]at f;subst f;exact absurd h2 (ae _)
 |.cons b r,.cons c q,A,us,vs,e,f,hu,j,h1,h2=>by
  rw[Vs]at e f;obtain⟨a,its,rest,rfl,k1,k2,k3⟩:=e;obtain⟨a',its',rest',rfl,l1,l2,l3⟩:=f;have hd:(Tr.cons b r).deep=max (b.deep+1) r.deep:=rfl;cases j with
  |zero =>
   show EqAt A s (.ref a) (.ref a') (decide (some b=some c));by_cases ea:a=a'
   ·subst ea;have:=JS k1 l1;have e2:its=its':=by simpa using this
    subst e2;rw[Vs.inj k2 l2,decide_eq_true rfl];exact EqAt.same _
   ·refine EqAt.of_refs ea ?_;have key:=RcAt.tuples (s:=s) (A:=A) (e:=fun j=>decide (b.bs[j]? = c.bs[j]?)) k1 l1 (by omega) fun j x1 x2=>by
     have:=WM b c A.in1 its its' k2 l2 (by rw[show A.in1.units=A.units+1 from rfl];omega) j (by simpa using x1) (by simpa using x2)
     simpa using this
    have ev:((List.range (min its.toArray.size its'.toArray.size)).all (fun j=>decide (b.bs[j]? = c.bs[j]?))&&its.toArray.size==its'.toArray.size)=decide (some b=some c):=by
     have z1:its.toArray.size=b.bs.length:=by rw[Tr.HE,←Vs.length k2];simp
     have z2:its'.toArray.size=c.bs.length:=by rw[Tr.HE,←Vs.length l2];simp
     rw[z1,z2];by_cases hbc:b=c
     ·subst hbc;simp
     ·rw[decide_eq_false (fun z=>hbc (ao z))];cases hl:b.bs.length==c.bs.length with
      |false=>rw[Bool.and_false]
      |true =>
       rw[Bool.and_true];have hl':b.bs.length=c.bs.length:=by simpa using hl
       refine aY.mpr fun z=>hbc (Tr.ic (List.ext_getElem? fun i=>?_));by_cases hi:i<b.bs.length
       ·have:=aa.mp z i (bL.mpr (by omega))
        simpa using this
       ·rw[List.getElem?_eq_none (by omega),List.getElem?_eq_none (by omega)]
    rw[ev]at key;exact key
  |succ j =>
   exact WM r q A rest rest' k3 l3 (by omega) j (by simpa using h1) (by simpa using h2)
def Qw{s:SD}{t u:Tr}{A:Around}{a b:AD}{its its':List VL}(h1:s.heap.IsTuple a its.toArray)(k1:Vs s.heap t its)(h2:s.heap.IsTuple b its'.toArray)(k2:Vs s.heap u its')(hu:A.units+t.deep<cLine) :
  EqAt A s (.ref a) (.ref b) (decide (t=u)):=by
 have:=WM (.cons t .nil) (.cons u .nil) A [.ref a] [.ref b] ⟨a,its,[],rfl,h1,k1,by rw[Vs]⟩ ⟨b,its',[],rfl,h2,k2,by rw[Vs]⟩ (by show A.units+max (t.deep+1) 0≤cLine;omega) 0 (by simp) (by simp)
 simpa[Tr.bs]using this
section
open PySem.AutoSeq1 (wpAny_loadPart')
open PySem.MeetsSeq PySem.MeetsSeq2 PySem.MeetsSeq3
def Tu(n0:Nat)(ih:∀(t u:Tr) (A:Around) (s:SD) (a b:AD) (its its':List VL),t.deep<n0→s.heap.IsTuple a its.toArray→Vs s.heap t its→s.heap.IsTuple b its'.toArray→Vs s.heap u its'→A.units+t.deep<cLine →
   ∀(prog:Program) (w:World) (E:VL→SD→Prop) (Q:VL→SD→Prop),Q (.bool (Tr.lt t u)) s→wpAny (model prog w) A (richCompare .Lt (.ref a) (.ref b)) Q E s)
 (l b:AD)(items items2:Array VL)(n n2:Nat)(dd dd2:Option AD)(sl sl2:Array (Option VL))(t u:Tr)(ht:t.deep≤n0) :
  Meets (Builtin.«tuple.__lt__» ⟨[.ref l,.ref b],[]⟩)
   (fun A R s=>s.heap.get? l=some { cls:=.type "tuple",dict:=dd,data:=.seq items n,slots:=sl}∧s.heap.get? b=some { cls:=.type "tuple",dict:=dd2,data:=.seq items2 n2,slots:=sl2} ∧
    Vs s.heap t items.toList∧Vs s.heap u items2.toList∧A.units+t.deep<cLine∧R (.ok (.ret (.bool (Tr.lt t u)))) s) :=
 .of_wp fun prog w A R s h=>by
  obtain⟨hp,g,d,tk,os⟩:=s;obtain⟨hl,hb,hi,hj,hun,h⟩:=h;have f2:=AutoSeq1.sub_tuple_tuple;have z1:items.size=t.len:=by rw[←Vs.length hi];simp
  have z2:items2.size=u.len:=by rw[←Vs.length hj];simp
  wp_walk using wpAny_loadPart' hl,wpAny_loadPart' hb,wpAny_forIn_list _ (fun rest b s'=>b.1=none∧s'=⟨hp,g,d,tk,os⟩∧∃(vs ws:List VL) (t' u':Tr),rest=vs.zip ws ∧
   Vs hp t' vs∧Vs hp u' ws∧t'.deep≤t.deep∧t'.len+items2.size=u'.len+items.size∧R (.ok (.ret (.bool (Tr.lt t' u')))) ⟨hp,g,d,tk,os⟩) _
  case turn =>
   rintro⟨y,x⟩ rest b s' ⟨hb',rfl,vs,ws,t',u',hz,hvi,hwi,hdp,hlen,hR⟩;cases t' with
   |nil=>rw[Vs]at hvi;subst hvi;rw[List.zip_nil_left]at hz;cases hz
   |cons bt rt =>
    cases u' with
    |nil=>rw[Vs]at hwi;subst hwi;rw[List.zip_nil_right]at hz;cases hz
    |cons bu ru =>
     rw[Vs]at hvi hwi;obtain⟨a1,i1,v1,rfl,p1,p2,p3⟩:=hvi;obtain⟨a2,i2,v2,rfl,q1,q2,q3⟩:=hwi;rw[List.zip_cons_cons]at hz
     injection hz with hyx hrest
     injection hyx with hy hx
     subst hy hx;have hdd:(Tr.cons bt rt).deep=max (bt.deep+1) rt.deep:=rfl;rw[Tr.lt]at hR;simp only[Tr.len]at hlen;have he:=Qw (s:=⟨hp,g,d,tk,os⟩) (A:=A.in1) p1 p2 q1 q2 (by rw[show A.in1.units=A.units+1 from rfl];omega);refine Wb (he prog w _ _ ?_);cases hc:decide (bt=bu) with
     |true =>
      rw[if_pos (aT hc)]at hR
      wp_walk
      exact⟨rfl,rfl,_,_,_,_,hrest,p3,q3,by omega,by omega,hR⟩
     |false =>
      rw[if_neg (bI hc)]at hR;have hri:=ih bt bu A.in1 ⟨hp,g,d,tk,os⟩ a1 a2 i1 i2 (by omega) p1 p2 q1 q2 (by rw[show A.in1.units=A.units+1 from rfl];omega) prog w
      wp_walk using hri
      exact⟨_,rfl,by simpa using hR⟩
  case fin =>
   rintro⟨b1,b2⟩ s' ⟨hb',rfl,vs,ws,t',u',hz,hvi,hwi,hdp,hlen,hR⟩;simp only at hb';subst hb';have hv:Tr.lt t' u'=decide (items.size<items2.size):=by
    cases t' with
    |nil =>
     cases u' with
     |nil =>
      simp only[Tr.len]at hlen;exact(bC (by omega)).symm
     |cons c q =>
      simp only[Tr.len]at hlen;exact(bQ (by omega)).symm
    |cons bt rt =>
     cases u' with
     |nil =>
      simp only[Tr.len]at hlen;exact(bC (by omega)).symm
     |cons c q =>
      rw[Vs]at hvi hwi;obtain⟨_,_,_,rfl,_⟩:=hvi;obtain⟨_,_,_,rfl,_⟩:=hwi;rw[List.zip_cons_cons]at hz;cases hz
   rw[hv]at hR
   wp_walk
   exact⟨_,rfl,by simpa[Builtin.Tuple.tupleCompareSizes]using hR⟩
  case h =>
   exact⟨rfl,rfl,items.toList,items2.toList,t,u,rfl,hi,hj,Nat.le_refl _,by omega,h⟩
def Vw:∀(n0:Nat) (t u:Tr) (A:Around) (s:SD) (a b:AD) (its its':List VL),t.deep<n0→s.heap.IsTuple a its.toArray→Vs s.heap t its→s.heap.IsTuple b its'.toArray→Vs s.heap u its'→A.units+t.deep<cLine →
   ∀(prog:Program) (w:World) (E:VL→SD→Prop) (Q:VL→SD→Prop),Q (.bool (Tr.lt t u)) s→wpAny (model prog w) A (richCompare .Lt (.ref a) (.ref b)) Q E s
 |0,_,_,_,_,_,_,_,_,h,_,_,_,_,_=>absurd h (ae _)
 |n0+1,t,u,A,s,a,b,its,its',hd,hl,ht,hb,hu',hun=>fun prog w E Q h=>by
  obtain⟨⟨cls,dd,data,sl⟩,ho,hc,n,hdt⟩:=id hl;obtain⟨⟨cls2,dd2,data2,sl2⟩,ho2,hc2,n2,hdt2⟩:=id hb;simp only at hc hdt hc2 hdt2;subst hc hdt hc2 hdt2;exact richCompare_meets_room (op:=.Lt) ⟨_,ho,rfl⟩ ⟨_,ho2,rfl⟩ PySem.F.slot_tuple_lt PySem.F.entry_tuple_lt (PySem.F.args_tuple_lt_2 _ _) (Tu n0 (Vw n0) a b its.toArray its'.toArray n n2 dd dd2 sl sl2 t u (by omega))
   ⟨ho,ho2,by simpa using ht,by simpa using hu',hun,show Value.bool (Tr.lt t u)≠Value.notImplemented∧Q (.bool (Tr.lt t u)) s from⟨(fun x=>nomatch x),h⟩⟩ (by omega)
end
section
open PySem.AutoSeq1 (wpAny_loadPart')
open PySem.MeetsSeq PySem.MeetsSeq2 PySem.MeetsSeq3
def Zh(n0:Nat)(ih:∀(t u:Tr) (A:Around) (s:SD) (a b:AD) (its its':List VL),t.deep<n0→s.heap.IsTuple a its.toArray→Vs s.heap t its→s.heap.IsTuple b its'.toArray→Vs s.heap u its'→A.units+t.deep<cLine →
   ∀(prog:Program) (w:World) (E:VL→SD→Prop) (Q:VL→SD→Prop),Q (.bool (Tr.lt u t)) s→wpAny (model prog w) A (richCompare .Gt (.ref a) (.ref b)) Q E s)
 (l b:AD)(items items2:Array VL)(n n2:Nat)(dd dd2:Option AD)(sl sl2:Array (Option VL))(t u:Tr)(ht:t.deep≤n0) :
  Meets (Builtin.«tuple.__gt__» ⟨[.ref l,.ref b],[]⟩)
   (fun A R s=>s.heap.get? l=some { cls:=.type "tuple",dict:=dd,data:=.seq items n,slots:=sl}∧s.heap.get? b=some { cls:=.type "tuple",dict:=dd2,data:=.seq items2 n2,slots:=sl2} ∧
    Vs s.heap t items.toList∧Vs s.heap u items2.toList∧A.units+t.deep<cLine∧R (.ok (.ret (.bool (Tr.lt u t)))) s) :=
 .of_wp fun prog w A R s h=>by
  obtain⟨hp,g,d,tk,os⟩:=s;obtain⟨hl,hb,hi,hj,hun,h⟩:=h;have f2:=AutoSeq1.sub_tuple_tuple;have z1:items.size=t.len:=by rw[←Vs.length hi];simp
  have z2:items2.size=u.len:=by rw[←Vs.length hj];simp
  wp_walk using wpAny_loadPart' hl,wpAny_loadPart' hb,wpAny_forIn_list _ (fun rest b s'=>b.1=none∧s'=⟨hp,g,d,tk,os⟩∧∃(vs ws:List VL) (t' u':Tr),rest=vs.zip ws ∧
   Vs hp t' vs∧Vs hp u' ws∧t'.deep≤t.deep∧t'.len+items2.size=u'.len+items.size∧R (.ok (.ret (.bool (Tr.lt u' t')))) ⟨hp,g,d,tk,os⟩) _
  case turn =>
   rintro⟨y,x⟩ rest b s' ⟨hb',rfl,vs,ws,t',u',hz,hvi,hwi,hdp,hlen,hR⟩;cases t' with
   |nil=>rw[Vs]at hvi;subst hvi;rw[List.zip_nil_left]at hz;cases hz
   |cons bt rt =>
    cases u' with
    |nil=>rw[Vs]at hwi;subst hwi;rw[List.zip_nil_right]at hz;cases hz
    |cons bu ru =>
     rw[Vs]at hvi hwi;obtain⟨a1,i1,v1,rfl,p1,p2,p3⟩:=hvi;obtain⟨a2,i2,v2,rfl,q1,q2,q3⟩:=hwi;rw[List.zip_cons_cons]at hz
     injection hz with hyx hrest
     injection hyx with hy hx
     subst hy hx;have hdd:(Tr.cons bt rt).deep=max (bt.deep+1) rt.deep:=rfl;rw[Tr.lt]at hR;simp only[Tr.len]at hlen;have he:=Qw (s:=⟨hp,g,d,tk,os⟩) (A:=A.in1) p1 p2 q1 q2 (by rw[show A.in1.units=A.units+1 from rfl];omega);refine Wb (he prog w _ _ ?_);cases hc:decide (bt=bu) with
     |true =>
      rw[if_pos (aT hc).symm]at hR
      wp_walk
      exact⟨rfl,rfl,_,_,_,_,hrest,p3,q3,by omega,by omega,hR⟩
     |false =>
      rw[if_neg (fun z=>bI hc z.symm)]at hR;have hri:=ih bt bu A.in1 ⟨hp,g,d,tk,os⟩ a1 a2 i1 i2 (by omega) p1 p2 q1 q2 (by rw[show A.in1.units=A.units+1 from rfl];omega) prog w
      wp_walk using hri
      exact⟨_,rfl,by simpa using hR⟩
  case fin =>
   rintro⟨b1,b2⟩ s' ⟨hb',rfl,vs,ws,t',u',hz,hvi,hwi,hdp,hlen,hR⟩;simp only at hb';subst hb';have hv:Tr.lt u' t'=decide (items2.size<items.size):=by
    cases t' with
    |nil =>
     cases u' with
     |nil =>
      simp only[Tr.len]at hlen;exact(bC (by omega)).symm
     |cons c q =>
      simp only[Tr.len]at hlen;exact(bC (by omega)).symm
    |cons bt rt =>
     cases u' with
     |nil =>
      simp only[Tr.len]at hlen;exact(bQ (by omega)).symm
     |cons c q =>
      rw[Vs]at hvi hwi;obtain⟨_,_,_,rfl,_⟩:=hvi;obtain⟨_,_,_,rfl,_⟩:=hwi;rw[List.zip_cons_cons]at hz;cases hz
   rw[hv]at hR
   wp_walk
   exact⟨_,rfl,by simpa[Builtin.Tuple.tupleCompareSizes]using hR⟩
  case h =>
   exact⟨rfl,rfl,items.toList,items2.toList,t,u,rfl,hi,hj,Nat.le_refl _,by omega,h⟩
def cH:∀(n0:Nat) (t u:Tr) (A:Around) (s:SD) (a b:AD) (its its':List VL),t.deep<n0→s.heap.IsTuple a its.toArray→Vs s.heap t its→s.heap.IsTuple b its'.toArray→Vs s.heap u its'→A.units+t.deep<cLine →
   ∀(prog:Program) (w:World) (E:VL→SD→Prop) (Q:VL→SD→Prop),Q (.bool (Tr.lt u t)) s→wpAny (model prog w) A (richCompare .Gt (.ref a) (.ref b)) Q E s
 |0,_,_,_,_,_,_,_,_,h,_,_,_,_,_=>absurd h (ae _)
 |n0+1,t,u,A,s,a,b,its,its',hd,hl,ht,hb,hu',hun=>fun prog w E Q h=>by
  obtain⟨⟨cls,dd,data,sl⟩,ho,hc,n,hdt⟩:=id hl;obtain⟨⟨cls2,dd2,data2,sl2⟩,ho2,hc2,n2,hdt2⟩:=id hb;simp only at hc hdt hc2 hdt2;subst hc hdt hc2 hdt2;exact richCompare_meets_room (op:=.Gt) ⟨_,ho,rfl⟩ ⟨_,ho2,rfl⟩ PySem.F.slot_tuple_gt PySem.F.entry_tuple_gt (PySem.F.args_tuple_gt_2 _ _) (Zh n0 (cH n0) a b its.toArray its'.toArray n n2 dd dd2 sl sl2 t u (by omega))
   ⟨ho,ho2,by simpa using ht,by simpa using hu',hun,show Value.bool (Tr.lt u t)≠Value.notImplemented∧Q (.bool (Tr.lt u t)) s from⟨(fun x=>nomatch x),h⟩⟩ (by omega)
end
end TH
namespace SM
open PySem.W PyProof.Rows
def Wp{α:Type}(lt:Nat→Nat→Bool)(n:Nat):KasT α→(α→Prop)→Prop
 |.ret a,Q=>Q a
 |.ask i j k,Q=>i<n∧j<n∧Wp lt n (k (lt i j)) Q
def Wp.mono{α:Type}{lt:Nat→Nat→Bool}{n:Nat}{Q Q':α→Prop}(hq:∀a,Q a→Q' a):∀t:KasT α,Wp lt n t Q→Wp lt n t Q'
 |.ret a,h=>hq a h
 |.ask i j k,h=>⟨h.1,h.2.1,Wp.mono hq (k (lt i j)) h.2.2⟩
def Wp.bind{α β:Type}{lt:Nat→Nat→Bool}{n:Nat}{f:α→KasT β}{Q:β→Prop}:∀t:KasT α,Wp lt n t (fun a=>Wp lt n (f a) Q)→Wp lt n (t.bind f) Q
 |.ret _,h=>h
 |.ask i j k,h=>⟨h.1,h.2.1,Wp.bind (k (lt i j)) h.2.2⟩
def KZ{p:Array Nat}{i j:Nat}(hj:j≤p.size)(k:Nat):(kas_rev p i j).getD k 0=if i≤k∧k<j then p.getD (i+j-1-k) 0 else p.getD k 0:=by
 have e:=getElem?_mirror_all (i:=i) hj k;unfold kas_rev;rw[Array.getD_eq_getD_getElem?,Array.getD_eq_getD_getElem?,Array.getD_eq_getD_getElem?,e];split<;>rfl
def Ug{p:Array Nat}{src d:Nat}(hs:src<p.size)(hd:d≤src)(k:Nat) :
  (bubble p src d).getD k 0=if k=src-d then p.getD src 0 else if src-d<k∧k≤src then p.getD (k-1) 0 else p.getD k 0:=by
 have e:=getElem?_bubble hs d hd k;simp only[Array.getD_eq_getD_getElem?,e];split
 ·rfl
 ·split<;>rfl
section
variable{O:KeyOrd}{key:Nat→O.α}{n:Nat}
def Key(key:Nat→O.α)(p:Array Nat)(i:Nat):O.α:=key (p.getD i 0)
def Up(key:Nat→O.α)(p:Array Nat)(m:Nat):Prop:=∀i j,i≤j→j<m→O.kle (Key key p i) (Key key p j)
def Dn(key:Nat→O.α)(p:Array Nat)(m:Nat):Prop:=∀i j,i≤j→j<m→O.kle (Key key p j) (Key key p i)
structure Pm(n:Nat)(p:Array Nat):Prop where
 perm:p.Perm (List.toArray (List.range n))
 pos:0<n
def Pm.size{p:Array Nat}(h:Pm n p):p.size=n:=by rw[h.perm.size_eq];simp
def Pm.lt{p:Array Nat}(h:Pm n p)(i:Nat):p.getD i 0<n:=by
 rw[Array.getD_eq_getD_getElem?];by_cases hi:i<p.size
 ·rw[Array.getElem?_eq_getElem hi];have hm:p[i]∈p:=Array.getElem_mem hi;have:=(h.perm.mem_iff).mp hm
  simpa using this
 ·rw[Array.getElem?_eq_none (by omega)];exact h.pos
def Pm.rev{p:Array Nat}(h:Pm n p)(i j:Nat):Pm n (kas_rev p i j):=⟨(mirror_perm _ _ _ _).trans h.perm,h.pos⟩
def Pm.bubble{p:Array Nat}(h:Pm n p)(i j:Nat):Pm n (bubble p i j):=⟨(bubble_perm _ _ _).trans h.perm,h.pos⟩
abbrev Gk(key:Nat→O.α):Nat→Nat→Bool:=fun i j=>O.blt (key i) (key j)
def Up.one{p:Array Nat}:Up key p 1:=fun i j h1 h2=>by
 have:i=j:=by omega
 subst this;exact bV _
def Up.more{p:Array Nat}{m:Nat}(h:Up key p m)(h1:1≤m)(hk:O.kle (Key key p (m-1)) (Key key p m)):Up key p (m+1):=fun i j hij hj=>by
 by_cases e:j=m
 ·subst e;by_cases e2:i=j
  ·subst e2;exact bV _
  ·exact KeyOrd.kle_trans (h i (j-1) (by omega) (by omega)) hk
 ·exact h i j hij (by omega)
def Dn.more{p:Array Nat}{m:Nat}(h:Dn key p m)(h1:1≤m)(hk:O.kle (Key key p m) (Key key p (m-1))):Dn key p (m+1):=fun i j hij hj=>by
 by_cases e:j=m
 ·subst e;by_cases e2:i=j
  ·subst e2;exact bV _
  ·exact KeyOrd.kle_trans hk (h i (j-1) (by omega) (by omega))
 ·exact h i j hij (by omega)
def asc{p:Array Nat}(hp:Pm n p):∀(f m:Nat),1≤m→Up key p m→Wp (Gk key) n (kas_asc p f m) fun r=>m≤r∧r≤m+f∧Up key p r∧(r=m+f∨O.klt (Key key p r) (Key key p (r-1)))
 |0,m,_,h=>⟨aG _,Nat.le_refl _,h,.inl rfl⟩
 |f+1,m,h1,h=>by
  refine⟨hp.lt _,hp.lt _,?_⟩;cases c:Gk key (p.getD m 0) (p.getD (m-1) 0) with
  |true=>exact⟨aG _,by omega,h,.inr c⟩
  |false =>
   simp only[Bool.false_eq_true,if_false];refine Wp.mono (fun r hr=>?_) _ (asc hp f (m+1) (by omega) (h.more h1 c));exact⟨by omega,by omega,hr.2.2.1,hr.2.2.2.elim (fun z=>.inl (by omega)) .inr⟩
def Eq(key:Nat→O.α)(p:Array Nat)(m q:Nat):Prop:=q<m∧∀k,m-(q+1)≤k→k<m→Key key p k=Key key p (m-1)
def rev_eq{p:Array Nat}{m q:Nat}(h:Eq key p m q)(hm:m≤p.size)(k:Nat):Key key (kas_rev p (m-(q+1)) m) k=Key key p k:=by
 unfold Key;rw[KZ hm];split
 ·have a:=h.2 (m-(q+1)+m-1-k) (by have:=h.1;omega) (by have:=h.1;omega);have b:=h.2 k (by omega) (by omega);exact a.trans b.symm
 ·rfl
def desc:∀(f:Nat) (p:Array Nat) (m q:Nat),Pm n p→1≤m→m+f≤n→Dn key p m→Eq key p m q→Wp (Gk key) n (kas_desc f p m q) fun r=>Pm n r.1∧m≤r.2.1∧r.2.1≤m+f∧Dn key r.1 r.2.1∧Eq key r.1 r.2.1 r.2.2
 |0,p,m,q,hp,_,_,h,e=>⟨hp,Nat.le_refl _,Nat.le_refl _,h,e⟩
 |f+1,p,m,q,hp,h1,hf,h,e=>by
  refine⟨hp.lt _,hp.lt _,?_⟩;have hm:m≤p.size:=by rw[hp.size];omega
  cases c:Gk key (p.getD m 0) (p.getD (m-1) 0) with
  |true =>
   have ck:O.klt (Key key p m) (Key key p (m-1)):=c;simp only[if_true];have fin:∀p':Array Nat,Pm n p'→(∀k,Key key p' k=Key key p k)→Wp (Gk key) n (kas_desc f p' (m+1) 0) fun r=>Pm n r.1∧m≤r.2.1∧r.2.1≤m+(f+1)∧Dn key r.1 r.2.1∧Eq key r.1 r.2.1 r.2.2:=fun p' hp' hk=>by
    have hd:Dn key p' (m+1):=fun i j hij hj=>by rw[hk,hk];exact h.more h1 (KeyOrd.kle_of_klt ck) i j hij hj
    have he:Eq key p' (m+1) 0:=⟨by omega,fun k h1 h2=>by rw[show k=m+1-1 by omega]⟩;exact Wp.mono (fun r hr=>⟨hr.1,by omega,by omega,hr.2.2.2.1,hr.2.2.2.2⟩) _ (desc f p' (m+1) 0 hp' (by omega) (by omega) hd he)
   split
   ·exact fin _ (hp.rev _ _) (rev_eq e hm)
   ·exact fin _ hp fun _=>rfl
  |false =>
   simp only[Bool.false_eq_true,if_false];refine⟨hp.lt _,hp.lt _,?_⟩;cases d:Gk key (p.getD (m-1) 0) (p.getD m 0) with
   |true =>
    simp only[if_true];exact⟨hp,Nat.le_refl _,Nat.le_add_right _ _,h,e⟩
   |false =>
    simp only[Bool.false_eq_true,if_false];have ek:Key key p m=Key key p (m-1):=KeyOrd.kle_antisymm (show O.kle (Key key p m) (Key key p (m-1)) from d) (show O.kle (Key key p (m-1)) (Key key p m) from c);refine Wp.mono (fun r hr=>⟨hr.1,by omega,by omega,hr.2.2.2.1,hr.2.2.2.2⟩) _ (desc f p (m+1) (q+1) hp (by omega) (by omega) (h.more h1 (by rw[ek];exact bV _)) ⟨by have:=e.1;omega,fun k h2 h3=>?_⟩);rw[show m+1-1=m by omega,ek];by_cases z:k=m
    ·rw[z,ek]
    ·exact e.2 k (by omega) (by omega)
def iY{p:Array Nat}{m:Nat}(h:Dn key p m)(hm:m≤p.size):Up key (kas_rev p 0 m) m:=fun i j hij hj=>by
 unfold Key;rw[KZ hm,KZ hm,if_pos ⟨bE _,by omega⟩,if_pos ⟨bE _,by omega⟩];exact h (0+m-1-j) (0+m-1-i) (by omega) (by omega)
def tail3{p:Array Nat}{m:Nat}(hp:Pm n p)(h1:1≤m)(hm:m≤n)(h:Dn key p m):Wp (Gk key) n (kas_tail3 m n p) fun r=>Pm n r.2∧1≤r.1∧r.1≤n∧Up key r.2 r.1:=by
 unfold kas_tail3;refine Wp.bind _ (Wp.mono (fun r hr=>?_) _ (asc (hp.rev 0 m) (n-m) m h1 (iY h (by rw[hp.size];exact hm))));exact⟨hp.rev 0 m,by omega,by omega,hr.2.2.1⟩
def descPart{p:Array Nat}{m:Nat}(hp:Pm n p)(h1:1≤m)(hm:m+1≤n)(h:Dn key p (m+1)):Wp (Gk key) n (kas_descPart m n p) fun r=>Pm n r.2∧1≤r.1∧r.1≤n∧Up key r.2 r.1:=by
 unfold kas_descPart;refine Wp.bind _ (Wp.mono (fun r hr=>?_) _ (desc (n-(m+1)) p (m+1) 0 hp (by omega) (by omega) h ⟨by omega,fun k h1 h2=>by rw[show k=m+1-1 by omega]⟩));obtain⟨a,b,c,d,e⟩:=hr;have hz:r.2.1≤r.1.size:=by rw[a.size];omega
 split
 ·refine tail3 (a.rev _ _) (by omega) (by omega) fun i j hij hj=>?_;rw[rev_eq e hz,rev_eq e hz];exact d i j hij hj
 ·exact tail3 a (by omega) (by omega) d
def count{p:Array Nat}(hp:Pm n p):Wp (Gk key) n (kas_count n p) fun r=>Pm n r.2∧1≤r.1∧r.1≤n∧Up key r.2 r.1:=by
 have hn:=hp.pos;unfold kas_count;refine Wp.bind _ (Wp.mono (fun m hm=>?_) _ (asc hp (n-1) 1 (aG _) Up.one));obtain⟨h1,h2,h3,h4⟩:=hm;split
 ·exact⟨hp,h1,by omega,h3⟩
 ·rename_i hne;have hne':m≠n:=by simpa using hne
  have hk:O.klt (Key key p m) (Key key p (m-1)):=by
   rcases h4 with z|z
   ·exact absurd (by omega) hne'
   ·exact z
  have hz:m≤p.size:=by rw[hp.size];omega
  split
  ·refine⟨hp.lt _,hp.lt _,?_⟩;cases c:Gk key (p.getD 0 0) (p.getD (m-1) 0) with
   |true=>simp only[if_true];exact⟨hp,h1,by omega,h3⟩
   |false =>
    simp only[Bool.false_eq_true,if_false];have all:∀k,k<m→Key key p k=Key key p (m-1):=fun k hk'=>KeyOrd.kle_antisymm (h3 k (m-1) (by omega) (by omega)) (KeyOrd.kle_trans (show O.kle (Key key p (m-1)) (Key key p 0) from c) (h3 0 k (by omega) hk'));have ek:∀k,Key key (kas_rev p 0 m) k=Key key p k:=fun k=>by
     by_cases hk':k<m
     ·have:Key key (kas_rev p 0 m) k=Key key p (0+m-1-k):=by
       unfold Key;rw[KZ hz,if_pos ⟨bE _,hk'⟩]
      rw[this,all _ (by omega),all k hk']
     ·unfold Key;rw[KZ hz,if_neg (by omega)]
    refine descPart (hp.rev _ _) h1 (by omega) fun i j hij hj=>?_;rw[ek,ek];by_cases e:j=m
    ·subst e;by_cases e2:i=j
     ·subst e2;exact bV _
     ·rw[all i (by omega)];exact KeyOrd.kle_of_klt hk
    ·rw[all i (by omega),all j (by omega)];exact bV _
  ·have:m=1:=by omega
   subst this;refine descPart hp h1 (by omega) fun i j hij hj=>?_;by_cases e:i=j
   ·subst e;exact bV _
   ·rw[show i=0 by omega,show j=1 by omega];exact KeyOrd.kle_of_klt hk
def place{p:Array Nat}{k:Nat}(hp:Pm n p)(hs:Up key p k):∀(f l r:Nat),l≤r→r≤k→r-l≤f→(∀i,i<l→O.kle (Key key p i) (Key key p k))→(∀i,r≤i→i<k→O.klt (Key key p k) (Key key p i)) →
  Wp (Gk key) n (kas_place p k f l r) fun x=>x≤k∧(∀i,i<x→O.kle (Key key p i) (Key key p k))∧∀i,x≤i→i<k→O.klt (Key key p k) (Key key p i)
 |0,l,r,h1,h2,h3,a,b=>by
  have:l=r:=by omega
  subst this;exact⟨h2,a,b⟩
 |f+1,l,r,h1,h2,h3,a,b=>by
  unfold kas_place;split
  ·have:l=r:=by omega
   subst this;exact⟨h2,a,b⟩
  ·refine⟨hp.lt _,hp.lt _,?_⟩;cases c:Gk key (p.getD k 0) (p.getD ((l+r) / 2) 0) with
   |true =>
    simp only[if_true];exact place hp hs f l ((l+r) / 2) (by omega) (by omega) (by omega) a fun i x1 x2=>KeyOrd.klt_of_klt_of_kle (show O.klt (Key key p k) (Key key p ((l+r) / 2)) from c) (hs _ _ x1 x2)
   |false =>
    simp only[Bool.false_eq_true,if_false];exact place hp hs f ((l+r) / 2+1) r (by omega) h2 (by omega) (fun i x1=>KeyOrd.kle_trans (hs i ((l+r) / 2) (by omega) (by omega)) (show O.kle (Key key p ((l+r) / 2)) (Key key p k) from c)) b
def bin:∀(f:Nat) (p:Array Nat) (k:Nat),Pm n p→1≤k→k+f=n→Up key p k→Wp (Gk key) n (kas_bin f p k) fun r=>Pm n r∧Up key r n
 |0,p,k,hp,_,hk,h=>by
  have:k=n:=by omega
  subst this;exact⟨hp,h⟩
 |f+1,p,k,hp,h1,hk,h=>by
  have hks:k<p.size:=by rw[hp.size];omega
  refine Wp.bind _ (Wp.mono (fun l hl=>?_) _ (place hp h k 0 k (bE _) (aG _) (by omega) (fun i z=>absurd z (by omega)) fun i z1 z2=>absurd z1 (by omega)));obtain⟨hlk,hlo,hhi⟩:=hl;refine bin f _ (k+1) (hp.bubble _ _) (by omega) (by omega) fun i j hij hj=>?_;have kb:∀x,Key key (PyProof.Rows.bubble p k (k-l)) x=if x=l then Key key p k else if l<x∧x≤k then Key key p (x-1) else Key key p x:=fun x=>by
   unfold Key;rw[Ug hks (by omega),show k-(k-l)=l by omega];split
   ·rfl
   ·split<;>rfl
  rw[kb,kb]
  repeat' split
  all_goals first
   |(exfalso;omega)
   |exact bV _
   |exact hlo _ (by omega)
   |exact KeyOrd.kle_of_klt (hhi _ (by omega) (by omega))
   |exact h _ _ (by omega) (by omega)
def sort(hn:0<n):Wp (Gk key) n (kas_sort n) fun p=>Pm n p∧Up key p n:=by
 have hp:Pm n (List.toArray (List.range n)):=⟨Array.Perm.refl _,hn⟩;unfold kas_sort;refine Wp.bind _ (Wp.mono (fun r hr=>?_) _ (count hp));obtain⟨a,b,c,d⟩:=hr;split
 ·rw[show max r.1 1=r.1 by omega];exact bin _ _ _ a b (by omega) d
 ·have:r.1=n:=by omega
  rw[this]at d;exact⟨a,d⟩
end
end SM
namespace Tr
def OT(x:Tr):∀l:List Tr,(ins x l).Perm (x::l)
 |[]=>.refl _
 |y::r=>by
  rw[ins];split
  ·exact((OT x r).cons y).trans (.swap x y r)
  ·exact .refl _
def Jn:∀l:List Tr,(CL l).Perm l
 |[]=>.refl _
 |x::r=>by
  rw[CL];exact(OT x (CL r)).trans ((Jn r).cons x)
abbrev Qg(l:List Tr):Prop:=l.Pairwise fun a b=>lt a b=false
def Tq(x:Tr):∀l:List Tr,Qg l→Qg (ins x l)
 |[],_=>List.pairwise_singleton _ _
 |y::r,h=>by
  obtain⟨h1,h2⟩:=List.pairwise_cons.mp h;rw[ins];split
  ·rename_i c;refine List.pairwise_cons.mpr ⟨fun z hz=>?_,Tq x r h2⟩;rcases aJ.mp ((OT x r).mem_iff.mp hz) with rfl|hz
   ·exact lt_asymm c
   ·exact h1 z hz
  ·rename_i c;have c':lt x y=false:=by simpa using c
   refine List.pairwise_cons.mpr ⟨fun z hz=>?_,h⟩;rcases aJ.mp hz with rfl|hz
   ·exact c'
   ·cases e:lt x z with
    |false=>rfl
    |true =>
     rcases N9 x y z e with q|q
     ·rw[c']at q;cases q
     ·rw[h1 z hz]at q;cases q
def Ju:∀l:List Tr,Qg (CL l)
 |[]=>List.Pairwise.nil
 |x::r=>by rw[CL];exact Tq x _ (Ju r)
def LC:∀ {l m:List Tr},Qg l→Qg m→l.Perm m→l=m
 |[],m,_,_,p=>(List.nil_perm.mp p).symm
 |x::r,[],_,_,p=>absurd p.length_eq (by simp)
 |x::r,y::q,h1,h2,p=>by
  obtain⟨a1,a2⟩:=List.pairwise_cons.mp h1;obtain⟨b1,b2⟩:=List.pairwise_cons.mp h2;have hx:x∈y::q:=p.mem_iff.mp aR;have hy:y∈x::r:=p.mem_iff.mpr aR;have e:x=y:=by
   rcases aJ.mp hx with e|hx
   ·exact e
   ·rcases aJ.mp hy with e|hy
    ·exact e.symm
    ·exact J7 x y (a1 y hy) (b1 x hx)
  subst e;rw[LC a2 b2 (List.Perm.cons_inv p)]
def YH{l m:List Tr}(h:Qg m)(p:m.Perm l):m=CL l:=LC h (Ju l) (p.trans (Jn l).symm)
def V0{l m:List Tr}(h:m.Pairwise fun a b=>lt b a=false)(p:m.Perm l):m=(CL l).reverse:=by
 have:m.reverse=CL l:=YH (List.pairwise_reverse.mpr h) ((List.reverse_perm m).trans p);rw[←this,List.reverse_reverse]
def NK(n:Nat):∀l:List Tr,(of l).deep≤n ↔ ∀c∈l,c.deep+1≤n
 |[]=>by simp[of,deep]
 |b::r=>by
  rw[of,deep,List.forall_mem_cons,←NK n r];omega
def Yv{l m:List Tr}(p:l.Perm m):(of l).deep≤(of m).deep:=(NK _ l).mpr fun c hc=>(NK _ m).mp (aG _) c (p.mem_iff.mp hc)
def b8(t:Tr):(of t.bs.reverse).deep≤t.deep:=by
 have:=Yv (List.reverse_perm t.bs)
 rwa [R7]at this
def ord:PyProof.Rows.KeyOrd where
 α:=Tr
 blt:=lt
 irrefl:=lt_irrefl
 trans:=lt_trans
 negTrans:=N9
 total:=J7
end Tr
namespace TH
open PySem PySem.W PyProof.Rows PySem.SeqAt
def Vs.at{h:Heap}:∀ {t:Tr} {us:List VL} {i:Nat},Vs h t us→i<us.length→∃(a:AD) (its:List VL) (c:Tr),us.getD i Value.none=.ref a∧h.IsTuple a its.toArray∧Vs h c its∧t.bs[i]? = some c∧c.deep<t.deep
 |.nil,us,i,e,hi=>by rw[Vs]at e;subst e;exact absurd hi (ae _)
 |.cons b r,us,i,e,hi=>by
  rw[Vs]at e;obtain⟨a,its,rest,rfl,h1,h2,h3⟩:=e;have hd:(Tr.cons b r).deep=max (b.deep+1) r.deep:=rfl;cases i with
  |zero=>exact⟨a,its,b,rfl,h1,h2,rfl,by omega⟩
  |succ i =>
   obtain⟨a',its',c,q1,q2,q3,q4,q5⟩:=Vs.at (i:=i) h3 (by simpa using hi);exact⟨a',its',c,by simpa using q1,q2,q3,by simpa[Tr.bs]using q4,by omega⟩
def Vs.KA{h:Heap}:∀(ts:List Tr) (us:List VL),us.length=ts.length→(∀i,i<ts.length→∃(a:AD) (its:List VL) (c:Tr),us[i]? = some (.ref a)∧h.IsTuple a its.toArray∧Vs h c its∧ts[i]? = some c)→Vs h (Tr.of ts) us
 |[],us,hl,_=>by
  rw[Tr.of,Vs];exact bM (by simpa using hl)
 |t::ts,[],hl,_=>by simp at hl
 |t::ts,u::us,hl,h=>by
  rw[Tr.of,Vs];obtain⟨a,its,c,e1,e2,e3,e4⟩:=h 0 (by simp);simp at e1 e4;subst e1 e4;refine⟨a,its,us,rfl,e2,e3,Vs.KA ts us (by simpa using hl) fun i hi=>?_⟩;obtain⟨a',its',c',q1,q2,q3,q4⟩:=h (i+1) (by simpa using hi);exact⟨a',its',c',by simpa using q1,q2,q3,by simpa using q4⟩
def Vs.all{h:Heap}{t:Tr}{us:List VL}(e:Vs h t us):∀i,i<t.bs.length→∃(a:AD) (its:List VL) (c:Tr),us[i]? = some (.ref a)∧h.IsTuple a its.toArray∧Vs h c its∧t.bs[i]? = some c:=fun i hi=>by
 have hl:i<us.length:=by rw[Vs.length e,←Tr.HE];exact hi
 obtain⟨a,its,c,q1,q2,q3,q4,_⟩:=e.at hl;refine⟨a,its,c,?_,q2,q3,q4⟩;rw[List.getD_eq_getElem?_getD,List.getElem?_eq_getElem hl]at q1;rw[List.getElem?_eq_getElem hl]
 simpa using q1
section
variable{prog:Program}{w:World}{A:Around}{E:VL→SD→Prop}{s:SD}{t u:Tr}{a b:AD}{its its':List VL}{Q:Bool→SD→Prop}
def Vt(h1:s.heap.IsTuple a its.toArray)(k1:Vs s.heap t its)(h2:s.heap.IsTuple b its'.toArray)(k2:Vs s.heap u its')(hu:A.units+t.deep<cLine)(h:Q (Tr.lt t u) s):wpAny (model prog w) A (oneLt' false (.ref a) (.ref b)) Q E s:=by
 rw[oneLt'_eq];simp only[Bool.false_eq_true,if_false];exact Wb (Vw (t.deep+1) t u A s a b its its' (bU _) h1 k1 h2 k2 hu prog w E _ (wpAny_truthy_bool h))
def eW(h1:s.heap.IsTuple a its.toArray)(k1:Vs s.heap t its)(h2:s.heap.IsTuple b its'.toArray)(k2:Vs s.heap u its')(hu:A.units+t.deep<cLine)(h:Q (Tr.lt t u) s):wpAny (model prog w) A (oneLt' true (.ref a) (.ref b)) Q E s:=by
 rw[oneLt'_eq];simp only[if_true];refine Wb (wpAny_cRoomFor (by omega) ?_);obtain⟨⟨cls,dd,data,sl⟩,ho,hc,n,hdt⟩:=id h1;obtain⟨⟨cls2,dd2,data2,sl2⟩,ho2,hc2,n2,hdt2⟩:=id h2;simp only at hc hdt hc2 hdt2;subst hc hdt hc2 hdt2;refine Wb (wpAny_callSpecialIfBound?_slot (T := "tuple") ⟨_,ho,rfl⟩ PySem.F.slot_tuple_lt (call_meets PySem.F.slot_tuple_lt ⟨_,ho,rfl⟩ PySem.F.entry_tuple_lt (PySem.F.args_tuple_lt_2 _ _)
  (Tu t.deep (Vw t.deep) a b its.toArray its'.toArray n n2 dd dd2 sl sl2 t u (aG _)) ⟨ho,ho2,by simpa using k1,by simpa using k2,hu,?_⟩))
 exact wpAny_truthy_bool h
def Vf:∀(t u:Tr) (us vs:List VL) (i:Nat),Vs s.heap t us→Vs s.heap u vs→A.units+t.deep≤cLine→Q (Tr.lt t u) s→KatLex prog w A false (decide (t.len<u.len)) Q (us.zip vs) i s
 |.nil,.nil,us,vs,i,e,f,_,h=>by
  rw[Vs]at e;subst e;rw[List.zip_nil_left];exact kat_nil h
 |.nil,.cons c q,us,vs,i,e,f,_,h=>by
  rw[Vs]at e;subst e;rw[List.zip_nil_left];refine kat_nil ?_;rw[show decide (Tr.nil.len<(Tr.cons c q).len)=true from bQ (Nat.zero_lt_succ _)];exact h
 |.cons b r,.nil,us,vs,i,e,f,_,h=>by
  rw[Vs]at f;subst f;rw[List.zip_nil_right];refine kat_nil ?_;rw[show decide ((Tr.cons b r).len<Tr.nil.len)=false from bC (ae _)];exact h
 |.cons b r,.cons c q,us,vs,i,e,f,hu,h=>by
  rw[Vs]at e f;obtain⟨a,its,rest,rfl,k1,k2,k3⟩:=e;obtain⟨a',its',rest',rfl,l1,l2,l3⟩:=f;have hd:(Tr.cons b r).deep=max (b.deep+1) r.deep:=rfl;rw[List.zip_cons_cons,show decide ((Tr.cons b r).len<(Tr.cons c q).len)=decide (r.len<q.len) from by simp[Tr.len]];rw[Tr.lt]at h;refine kat_cons (Qw k1 k2 l1 l2 (by omega) prog w _ _ ?_);by_cases hbc:b=c
  ·rw[decide_eq_true hbc];rw[if_pos hbc]at h;exact kat_yes (Vf r q rest rest' (i+1) k3 l3 (by omega) h)
  ·rw[decide_eq_false hbc];rw[if_neg hbc]at h;exact kat_no (by rw[Bool.false_and];exact Vt k1 k2 l1 l2 (by omega) h)
def dY(h1:s.heap.IsTuple a its.toArray)(k1:Vs s.heap t its)(h2:s.heap.IsTuple b its'.toArray)(k2:Vs s.heap u its')(hu:A.units+t.deep<cLine)(h:Q (Tr.lt t u) s):wpAny (model prog w) A (keyLt' (tuples' false) (.ref a) (.ref b)) Q E s:=by
 obtain⟨o,ho,hc,n,hd⟩:=id h1;obtain⟨o2,ho2,hc2,n2,hd2⟩:=id h2;refine kat_lt ho hd ho2 hd2 ?_;have z1:its.toArray.size=t.len:=by rw[←Vs.length k1];simp
 have z2:its'.toArray.size=u.len:=by rw[←Vs.length k2];simp
 rw[z1,z2];exact Vf t u its its' 0 k1 k2 (by omega) h
def US(κ:SortKind):Prop:=κ=general'∨κ=oneType'∨κ=tuples' false
def eN{κ:SortKind}(hκ:US κ)(h1:s.heap.IsTuple a its.toArray)(k1:Vs s.heap t its)(h2:s.heap.IsTuple b its'.toArray)(k2:Vs s.heap u its')(hu:A.units+t.deep<cLine)(h:Q (Tr.lt t u) s):wpAny (model prog w) A (keyLt' κ (.ref a) (.ref b)) Q E s:=by
 rcases hκ with rfl|rfl|rfl
 ·exact Vt h1 k1 h2 k2 hu h
 ·rw[keyLt'_oneType];exact eW h1 k1 h2 k2 hu h
 ·exact dY h1 k1 h2 k2 hu h
def OH{M:Model}{h:Heap}{a:AD}{x:Array VL}(h1:h.IsTuple a x):Looks M h (typeOf (.ref a)) (.type "tuple"):=by
 obtain⟨o,ho,hc,_⟩:=h1;exact hc ▸ (Looks.ld ho).andThen .now
def Q4{M:Model}:∀(t:Tr) (us:List VL) {Q:List (Option VL)→SD→Prop},Vs s.heap t us→(∀fs:List (Option VL),(∀v,some v∈fs→Looks M s.heap (typeOf v) (.type "tuple"))→Q fs s)→wpAny M A (us.mapM firstOfTuple') Q E s
 |.nil,us,Q,e,h=>by
  rw[Vs]at e;subst e;rw[List.mapM_nil];exact aA (h [] fun _ z=>by cases z)
 |.cons b r,us,Q,e,h=>by
  rw[Vs]at e;obtain⟨a,its,rest,rfl,h1,h2,h3⟩:=e;obtain⟨o,ho,hc,n,hd⟩:=id h1;rw[List.mapM_cons];refine Wb ?_;rw[kas_first_eq];refine Wb (Looks.here (show Looks M s.heap (typeOf (.ref a)) o.cls from(Looks.ld ho).andThen .now) ?_);rw[hc,if_neg (by first|decide|simp)];refine Wb (listItems_at ho hd (aA ?_));refine Wb (Q4 r rest (Q:=fun bs s'=>wpAny M A (pure (its.toArray[0]? :: bs)) Q E s') h3 fun fs hfs=>aA (h _ fun v hv=>?_));rcases aJ.mp hv with z|z
  ·cases b with
   |nil=>rw[Vs]at h2;subst h2;simp at z
   |cons c q =>
    rw[Vs]at h2;obtain⟨a',its',rest',rfl,k1,_⟩:=h2;simp at z;subst z;exact OH k1
  ·exact hfs v z
def VG{M:Model}{vs:List VL}{Q:Option VL→SD→Prop}(hT:∀v∈vs,Looks M s.heap (typeOf v) (.type "tuple"))(h0:vs=[]→Q none s)(h1:Q (some (.type "tuple")) s):wpAny M A (oneTypeOnly' vs.toArray) Q E s:=by
 rw[oneTypeOnly'_eq,List.mapM_toArray,map_eq_pure_bind];refine Wb (Wb (kas_mapM (r:=Value.type "tuple") _ (fun v hv Q' hq=>(hT v hv).here hq) (aA ?_)));cases vs with
 |nil=>exact aA (h0 rfl)
 |cons f r =>
  have hall:((List.map (fun _=>Value.type "tuple") (f::r)).toArray.all fun x=>x==Value.type "tuple")=true:=by
   simp only[List.all_toArray,List.all_map,List.all_eq_true];intro _ _
   rfl
  have e0:(List.map (fun _=>Value.type "tuple") (f::r)).toArray[0]? = some (Value.type "tuple"):=by simp
  rw[e0];simp only[hall,if_true];exact aA h1
def dj{M:Model}{t:Tr}{us:List VL}{Q:SortKind→SD→Prop}(e:Vs s.heap t us)(h:∀κ,US κ→Q κ s):wpAny M A (keyKind' us.toArray) Q E s:=by
 rw[kat_kind_eq,List.mapM_toArray,map_eq_pure_bind];refine Wb (Wb (Q4 t us e fun fs hfs=>aA ?_));split
 ·refine Wb (bT ?_);have e1:fs.toArray.filterMap id=(fs.filterMap id).toArray:=by simp
  rw[e1];have hl:∀v∈fs.filterMap id,Looks M s.heap (typeOf v) (.type "tuple"):=fun v hv=>hfs v (by simpa using hv);refine Wb (VG hl (fun _=>?_) ?_)
  ·exact aA (h _ (.inr (.inr rfl)))
  ·exact aA (h _ (.inr (.inr rfl)))
 ·split
  ·exact aA (h _ (.inl rfl))
  ·have hl:∀v∈us,Looks M s.heap (typeOf v) (.type "tuple"):=fun v hv=>by
    obtain⟨i,hi,rfl⟩:=List.getElem_of_mem hv;obtain⟨a,its,c,q1,q2,_⟩:=e.at hi;rw[List.getD_eq_getElem?_getD,List.getElem?_eq_getElem hi]at q1;simp at q1;rw[q1];exact OH q2
   refine Wb (VG hl (fun _=>?_) ?_)
   ·exact aA (h _ (.inl rfl))
   ·exact aA (h _ (.inr (.inl rfl)))
def UE{α:Type}{cmp:Nat→Nat→(Bool→SD→Prop)→SD→Prop}{lt:Nat→Nat→Bool}{n:Nat}{Q':α→Prop}(hc:∀i j C,i<n→j<n→C (lt i j) s→cmp i j C s):∀T:KasT α,SM.Wp lt n T Q'→T.kasWp cmp (fun a s'=>s'=s∧Q' a) s
 |.ret a,h=>⟨rfl,h⟩
 |.ask i j k,h=>hc i j _ h.1 h.2.1 (UE hc (k (lt i j)) h.2.2)
end
end TH
namespace TH
open PySem PySem.W PyProof.Rows PySem.SeqAt
def Vs.keeps{h h':Heap}(k:∀b o,h.get? b=some o→o.cls=.type "tuple" → h'.get? b=some o):∀ {t:Tr} {us:List VL},Vs h t us→Vs h' t us
 |.nil,us,e=>by rw[Vs]at e ⊢;exact e
 |.cons b r,us,e=>by
  rw[Vs]at e ⊢;obtain⟨a,its,rest,rfl,⟨o,ho,hc,hd⟩,h2,h3⟩:=e;exact⟨a,its,rest,rfl,⟨o,k _ _ ho hc,hc,hd⟩,h2.keeps k,h3.keeps k⟩
def map_getD{α:Type}(d:α)(l:List α):(List.range l.length).map (fun i=>l.getD i d)=l:=by
 refine List.ext_getElem (by simp) fun i h1 h2=>?_;simp[h2]
def Vs.rev{h:Heap}{t:Tr}{us:List VL}(e:Vs h t us):Vs h (Tr.of t.bs.reverse) us.reverse:=by
 have hl:us.length=t.bs.length:=by rw[e.length,Tr.HE]
 refine Vs.KA _ _ (by simp[hl]) fun i hi=>?_;rw[List.length_reverse]at hi;obtain⟨a,its,c,q1,q2,q3,q4⟩:=e.all (t.bs.length-1-i) (by omega);exact⟨a,its,c,by rw[List.getElem?_reverse (by omega),hl];exact q1,q2,q3,by rw[List.getElem?_reverse hi];exact q4⟩
section
variable{prog:Program}{w:World}{A:Around}{E:VL→SD→Prop}{s:SD}
def Zk{κ:SortKind}{t:Tr}{ws:List VL}(hκ:US κ)(e:Vs s.heap t ws)(h2:2≤ws.length)(h64:ws.length<64)(hu:A.units+t.deep≤cLine) :
  wpAny (model prog w) A ((sortRuns').run (SortSt.mk' κ (ws.toArray.zip ws.toArray) #[] 7 none)) (fun r s'=>s'=s∧failedOf r.2=none∧∃ix:List Nat,ix.length=ws.length∧(∀i∈ix,i<ws.length) ∧
   (arrOf r.2).map (·.2)=(ix.map fun i=>ws.getD i Value.none).toArray∧(ix.map fun i=>t.bs.getD i .nil)=(Tr.CL t.bs).reverse) E s:=by
 have hl:ws.length=t.bs.length:=by rw[e.length,Tr.HE]
 have key:∀i,i<ws.length→∃(a:AD) (its:List VL),ws.getD i Value.none=.ref a∧s.heap.IsTuple a its.toArray∧Vs s.heap (t.bs.getD i .nil) its∧(t.bs.getD i .nil).deep<t.deep:=fun i hi=>by
  obtain⟨a,its,c,q1,q2,q3,q4,q5⟩:=e.at hi;have:t.bs.getD i .nil=c:=by rw[List.getD_eq_getElem?_getD,q4];rfl
  rw[this];exact⟨a,its,q1,q2,q3,q5⟩
 refine kat_run (Q:=fun st' s'=>s'=s∧failedOf st'=none∧∃ix:List Nat,ix.length=ws.length∧(∀i∈ix,i<ws.length)∧(arrOf st').map (·.2)=(ix.map fun i=>ws.getD i Value.none).toArray∧(ix.map fun i=>t.bs.getD i .nil)=(Tr.CL t.bs).reverse)
  (G:=fun p s'=>s'=s∧SM.Pm ws.length p∧SM.Up (O:=Tr.ord) (fun i=>t.bs.getD i .nil) p ws.length) rfl h2 h64 (fun p st' s' hp har hf hG=>?_)
  (UE (lt:=SM.Gk (O:=Tr.ord) fun i=>t.bs.getD i .nil) (n:=ws.length) (fun i j C hi hj hC=>?_) _ (SM.sort (by omega)))
 ·obtain⟨rfl,hpm,hup⟩:=hG;have h1:p.toList.Perm (List.range ws.length):=by simpa using Array.perm_iff_toList_perm.mp hpm.perm
  refine⟨rfl,hf,p.toList,by rw[Array.length_toList,hp],fun i hi=>bL.mp (h1.mem_iff.mp hi),kat_snds rfl har,?_⟩;have perm:(p.toList.map fun i=>t.bs.getD i .nil).Perm t.bs:=by
   have h3:=h1.map fun i=>t.bs.getD i Tr.nil
   rwa [hl,map_getD]at h3
  refine Tr.V0 (List.pairwise_iff_getElem.mpr fun i j hi hj hij=>?_) perm;rw[List.length_map,Array.length_toList,hp]at hi hj;have:=hup i j (by omega) hj;have e1:∀k,k<ws.length→∀hk,(p.toList.map fun i=>t.bs.getD i Tr.nil)[k]'hk=t.bs.getD (p.getD k 0) .nil:=fun k hk hk'=>by
   rw[List.getElem_map,Array.getElem_toList,Array.getD,dif_pos (by omega)]
   rfl
  rw[e1 i hi,e1 j hj];exact this
 ·obtain⟨a,its,q1,q2,q3,q4⟩:=key i hi;obtain⟨a',its',r1,r2,r3,r4⟩:=key j hj;unfold kas_ask;rw[q1,r1];exact eN hκ q2 q3 r2 r3 (by omega) hC
def Xe(b:Bool)(us:List VL)(hz:us.length<2):(if b=true then((if b=true then(us.toArray.zip us.toArray).reverse else us.toArray.zip us.toArray).map (·.2)).reverse else(if b=true then(us.toArray.zip us.toArray).reverse else us.toArray.zip us.toArray).map (·.2))=us.toArray:=by
 match us,hz with
 |[],_=>cases b<;>simp
 |[x],_=>cases b<;>simp
def Jg{a : AD}{us : List VL}{t : Tr}{n : Nat}{b : Bool}{P : PySem.Fin→SD→Prop}(ho : s.heap.get? a = some (seqObj "list" us.toArray n))(e : Vs s.heap t us)(h64 : us.length < 64)(hu : A.units + t.deep≤cLine)
 (h : ∀ ix : List Nat,ix.length = us.length→(∀ i∈ix,i < us.length)→(ix.map fun i => t.bs.getD i .nil) = (if b then Tr.CL t.bs else (Tr.CL t.bs).reverse)→P (.done (.ret .none)) { s with heap:=sortedHeap s.heap a us (ix.map fun i => us.getD i Value.none).toArray }) :
    wpAny (model prog w) A (Builtin.«list.sort» ⟨[.ref a],[(Str.ofString "reverse",.bool b)]⟩) P E s := by
  rw [list_sort_rev]
  have ha : a < s.heap.objs.size:=aF ho
  refine Wb (listItems_at ho rfl ?_)
  refine Wb (listUpdate_at ho rfl ?_ (by rw [List.size_toArray,sizeLine_eq]; omega) (bE _))
  obtain ⟨e1,ho1⟩ : ∃ e1,(s.heap.update a (Obj.mapSeq fun _ => #[])).get? a = some (seqObj "list" #[] e1):=⟨_,get?_update_seq ho (fun _ => #[])⟩
  refine Wb (seqEpoch_at ho1 rfl ?_)
  refine Wb (wpAny_newTuple ?_ (by show us.length≤_; rw [sizeLine_eq]; omega))
  refine Wb (wpAny_newList ?_ (bE _))
  refine aS ?_
  have ho6 : (((s.heap.update a (Obj.mapSeq fun _ => #[])).push (seqObj "tuple" us.toArray 0)).push (seqObj "list" #[] 0)).get? a = some (seqObj "list" #[] e1) := by
    rw [Heap.get?_push_ne _ _ _ (by rw [size_push',Heap.size_update]; exact aH (bG ha)),Heap.get?_push_ne _ _ _ (by rw [Heap.size_update]; exact aH ha)]
    exact ho1
  have keep : ∀ c o,s.heap.get? c = some o→o.cls = .type "tuple" → (((s.heap.update a (Obj.mapSeq fun _ => #[])).push (seqObj "tuple" us.toArray 0)).push (seqObj "list" #[] 0)).get? c = some o:=fun c o hc hcl => by
    have hne : c≠a:=fun z => by
      rw [z,ho] at hc
      cases hc
      exact absurd (show Value.type "list" = Value.type "tuple" from hcl) (by decide)
    refine aD _ (aD _ ?_)
    rw [Heap.get?_update_ne _ _ _ _ hne]
    exact hc
  show wpAny (model prog w) A _ P E { s with heap:=((s.heap.update a (Obj.mapSeq fun _ => #[])).push (seqObj "tuple" us.toArray 0)).push (seqObj "list" #[] 0) }
  have e6:=e.keeps keep
  dsimp only
  have step : ∀ T : Sem PySem.Fin,wpAny (model prog w) A T P E { s with heap:=((s.heap.update a (Obj.mapSeq fun _ => #[])).push (seqObj "tuple" us.toArray 0)).push (seqObj "list" #[] 0) } →
      wpAny (model prog w) A (if b = true then (do let _ ← rule "list.sort.reverse"; T) else T) P E { s with heap:=((s.heap.update a (Obj.mapSeq fun _ => #[])).push (seqObj "tuple" us.toArray 0)).push (seqObj "list" #[] 0) } := by
    intro T hT
    split
    · exact Wb (bT hT)
    · exact hT
  refine step _ ?_
  by_cases h2 : us.toArray.size < 2
  · rw [if_pos h2,if_pos h2]
    refine Wb (aA ?_)
    rw [StateT.run_pure]
    refine Wb (aA ?_)
    dsimp only
    have hz : us.length < 2 := by simpa using h2
    have hout:=Xe b us hz
    refine Wb (seqEpoch_at ho6 rfl ?_)
    refine Wb (listUpdate_at ho6 rfl ?_ (bE _) (by
      refine aQ (Nat.le_of_eq (bJ Array.size hout)) ?_
      rw [List.size_toArray,sizeLine_eq]; omega))
    simp only [bne_self_eq_false,Bool.false_eq_true,if_false]
    have hl : us.length = t.bs.length := by rw [e.length,Tr.HE]
    have fin:=h (List.range us.length) (by simp) (fun i hi => bL.mp hi) (by
      rw [hl,map_getD]
      match hbs : t.bs,(show t.bs.length < 2 by omega) with
      | [],_ => cases b <;> rfl
      | [_],_ => cases b <;> rfl)
    rw [map_getD] at fin
    rw [← hout] at fin
    exact aA fin
  · rw [if_neg h2,if_neg h2]
    have hz : 2≤us.length := by simpa using h2
    refine Wb (dj (s:={ s with heap:=((s.heap.update a (Obj.mapSeq fun _ => #[])).push (seqObj "tuple" us.toArray 0)).push (seqObj "list" #[] 0) }) e6 fun κ hκ => ?_)
    have hl : us.length = t.bs.length := by rw [e.length,Tr.HE]
    obtain ⟨ws,tw,ew,hwl,hws,hdp,pick⟩ : ∃ (ws : List VL) (tw : Tr),Vs (((s.heap.update a (Obj.mapSeq fun _ => #[])).push (seqObj "tuple" us.toArray 0)).push (seqObj "list" #[] 0)) tw ws∧ws.length = us.length ∧
        (if b = true then (us.toArray.zip us.toArray).reverse else us.toArray.zip us.toArray) = ws.toArray.zip ws.toArray∧tw.deep≤t.deep ∧
        ∀ (_b : Bool) (ix : List Nat),ix.length = ws.length→(∀ i∈ix,i < ws.length)→(ix.map fun i => tw.bs.getD i .nil) = (Tr.CL tw.bs).reverse→∃ iy : List Nat,iy.length = us.length∧(∀ i∈iy,i < us.length)∧(iy.map fun i => t.bs.getD i .nil) = (if b then Tr.CL t.bs else (Tr.CL t.bs).reverse) ∧
          (if b = true then ((ix.map fun i => ws.getD i Value.none).toArray).reverse else (ix.map fun i => ws.getD i Value.none).toArray) = (iy.map fun i => us.getD i Value.none).toArray := by
      cases b with
      | false => exact ⟨us,t,e6,rfl,rfl,Nat.le_refl _,fun _ ix h1 h2 h3 => ⟨ix,h1,h2,h3,rfl⟩⟩
      | true =>
        have hsrt : Tr.CL t.bs.reverse = Tr.CL t.bs:=Tr.YH (Tr.Ju _) ((Tr.Jn _).trans (List.reverse_perm _))
        refine ⟨us.reverse,Tr.of t.bs.reverse,e6.rev,by simp,kat_pairs (ks:=us) (vs:=us) true rfl,Tr.b8 t,fun _ ix h1 h2 h3 => ⟨(ix.map fun i => us.length - 1 - i).reverse,by simpa using h1,fun i hi => ?_,?_,?_⟩⟩
        · rw [List.mem_reverse,List.mem_map] at hi
          obtain ⟨k,hk,rfl⟩:=hi
          have:=h2 k hk
          rw [List.length_reverse] at this
          omega
        · rw [Tr.Kj,hsrt] at h3
          rw [List.map_reverse,List.map_map]
          have : (ix.map ((fun i => t.bs.getD i Tr.nil) ∘ fun i => us.length - 1 - i)) = ix.map fun i => t.bs.reverse.getD i .nil:=List.map_congr_left fun i hi => by
            have:=h2 i hi
            rw [List.length_reverse] at this
            show t.bs.getD (us.length - 1 - i) Tr.nil = _
            rw [List.getD_eq_getElem?_getD,List.getD_eq_getElem?_getD,List.getElem?_reverse (by omega),hl]
          rw [this,h3,List.reverse_reverse]
          rfl
        · rw [if_pos rfl,List.map_reverse,List.map_map,List.reverse_toArray]
          congr 2
          exact List.map_congr_left fun i hi => by
            have:=h2 i hi
            rw [List.length_reverse] at this
            show us.reverse.getD i Value.none = us.getD (us.length - 1 - i) Value.none
            rw [List.getD_eq_getElem?_getD,List.getD_eq_getElem?_getD,List.getElem?_reverse (by omega)]
    rw [hws]
    refine Wb (aU (Zk (s:={ s with heap:=((s.heap.update a (Obj.mapSeq fun _ => #[])).push (seqObj "tuple" us.toArray 0)).push (seqObj "list" #[] 0) }) hκ ew (by omega) (by omega) (by omega)) ?_ fun _ _ z => z)
    rintro ⟨⟨⟩,st'⟩ s' ⟨rfl,hf,ix,hil,hix,hout,hst⟩
    dsimp only
    refine Wb (seqEpoch_at ho6 rfl ?_)
    obtain ⟨iy,y1,y2,y3,hfin⟩ : ∃ iy : List Nat,iy.length = us.length∧(∀ i∈iy,i < us.length)∧(iy.map fun i => t.bs.getD i .nil) = (if b then Tr.CL t.bs else (Tr.CL t.bs).reverse) ∧
        (if b = true then ((arrOf st').map (·.2)).reverse else (arrOf st').map (·.2)) = (iy.map fun i => us.getD i Value.none).toArray := by
      rw [show (arrOf st').map (·.2) = _ from hout]
      exact pick b ix hil hix hst
    refine Wb (listUpdate_at ho6 rfl ?_ (bE _) (by
      refine aQ (Nat.le_of_eq (bJ Array.size hfin)) ?_
      rw [List.size_toArray,List.length_map,y1,sizeLine_eq]; omega))
    rw [show failedOf st' = none from hf]
    simp only [bne_self_eq_false,Bool.false_eq_true,if_false]
    have fin:=h iy y1 y2 y3
    rw [← hfin] at fin
    exact aA fin
end
end TH
namespace ET
open PySem
section
variable{prog:Program}{w:World}{A:Around}{E:VL→SD→Prop}{s:SD}
def next_item{it t:AD}{i:Nat}{items}{x:VL}{Q:VL→SD→Prop}(hit:s.heap.IsTupleIter it t i)(ht:s.heap.IsTuple t items)(hx:items[i]? = some x)
 (hQ:∀h',h'.IsTupleIter it t (i+1)→Heap.SameBut it s.heap h'→Q x {s with heap:=h'}):wpAny (model prog w) A (Builtin.SmallTypes.nextOf (.ref it)) Q E s:=by
 obtain⟨o,ho,hc,hd⟩:=id hit;obtain⟨ol,hol,_,nl,hdl⟩:=ht;unfold Builtin.SmallTypes.nextOf;refine Wb (ag (name:=Str.ofString "__next__") hit.typeIs F.slot_tuple_iterator_next
  (aW F.slot_tuple_iterator_next hit.typeIs F.entry_tuple_iterator_next ?_ (F.args_tuple_iterator_next_1 _)))
 show wpAny _ _ (field (.ref it) 0>>=_) _ _ s;refine Wb (af ho hd (x:=.ref t) rfl ?_);show wpAny _ _ (if(Value.ref t==Value.none)=true then _ else _) _ _ s;rw[if_neg (show ¬((Value.ref t==Value.none)=true) from aK)];show wpAny _ _ (field (.ref it) 1>>=_) _ _ s;refine Wb (af ho hd (x:=.int i 0) rfl ?_);show wpAny _ _ (seqItems? (.ref t)>>=_) _ _ s;refine Wb (aX hol hdl ?_);simp only[Int.toNat_natCast,hx];refine Wb (wpAny_setField ho hd (by simp) (aA ⟨x,rfl,wpAny_pure (hQ _ ?_ (ai ..))⟩));exact⟨_,Heap.get?_update_self _ ho (Obj.isFreed_of_fields (Obj.data_mapFields hd _)),(Obj.cls_mapFields ..).trans hc,by
  rw[Obj.data_mapFields hd];simp[rawInt]⟩
def next_end{it t:AD}{i:Nat}{items}{Q:VL→SD→Prop}(hh:A.handled=none)(hit:s.heap.IsTupleIter it t i)(ht:s.heap.IsTuple t items)(hx:items[i]? = none)
 (hE:∀h' e,Heap.ExtBut it s.heap h'→(∃o,h'.get? e=some o∧o.cls=.type "StopIteration")→E (.ref e) {s with heap:=h'}):wpAny (model prog w) A (Builtin.SmallTypes.nextOf (.ref it)) Q E s:=by
 obtain⟨o,ho,hc,hd⟩:=id hit;obtain⟨ol,hol,_,nl,hdl⟩:=ht;unfold Builtin.SmallTypes.nextOf;refine Wb (ag (name:=Str.ofString "__next__") hit.typeIs F.slot_tuple_iterator_next
  (aW F.slot_tuple_iterator_next hit.typeIs F.entry_tuple_iterator_next ?_ (F.args_tuple_iterator_next_1 _)))
 show wpAny _ _ (field (.ref it) 0>>=_) _ _ s;refine Wb (af ho hd (x:=.ref t) rfl ?_);show wpAny _ _ (if(Value.ref t==Value.none)=true then _ else _) _ _ s;rw[if_neg (show ¬((Value.ref t==Value.none)=true) from aK)];show wpAny _ _ (field (.ref it) 1>>=_) _ _ s;refine Wb (af ho hd (x:=.int i 0) rfl ?_);show wpAny _ _ (seqItems? (.ref t)>>=_) _ _ s;refine Wb (aX hol hdl ?_);simp only[Int.toNat_natCast,hx];refine Wb (bT (Wb (wpAny_setField ho hd (by simp) ?_)));show wpAny _ _ (newExc (.type "StopIteration") []>>=_) _ _ _;refine Wb ?_;simp only[newExc,newTuple];refine Wb (av ?_ (by size_fits));refine Wb (m:=firstArgMember _ _) (wpAny_of_eq (a:=Value.none) (by first|rfl|(simp only[firstArgMember];rfl)) ?_);refine av ?_ (by size_fits);simp only[raiseNew];refine Wb (wpAny_handled ?_)
 first|rw[show A.in1.handled=none from hh]|rw[hh]
 refine Wb (aA (wpAny_throw ?_));exact hE _ _ (((ai ..).extBut.push _).push _) ⟨_,Heap.get?_push_size _ rfl,rfl⟩
end
section
open AutoSeq1 (wpAny_loadPart')
def Xf(l:AD)(items:Array VL)(n:Nat)(dct:Option AD)(sl:Array (Option VL)) :
  Meets (Builtin.«enumerate.__new__» ⟨[.type "enumerate",.ref l],[]⟩) (fun _ R s=>s.heap.get? l=some { cls:=.type "tuple",dict:=dct,data:=.seq items n,slots:=sl} ∧
   R (.ok (.ret (.ref (s.heap.push { cls:=.type "tuple_iterator",data:=.fields #[.ref l,.int 0 0]}).objs.size)))
    {s with heap:=(s.heap.push { cls:=.type "tuple_iterator",data:=.fields #[.ref l,.int 0 0]}).push { cls:=.type "enumerate",data:=.fields #[.none,.bool false,.ref s.heap.objs.size,rawInt 0,.none,.none]} }) :=
 .of_wp fun prog w A R s h=>by
  obtain⟨hp,g,d,tk,os⟩:=s;obtain⟨hl,h⟩:=h;have hsub:=sub_enumerate;have hL:Heap.IsTuple (Shared.heap ⟨hp,g,d,tk,os⟩) l items:=⟨_,hl,rfl,n,rfl⟩
  wp_walk using wpAny_loadPart' hl
  refine wpAny_stack_any fun st=>aA ?_;split
  ·rename_i c _ _ _ _ _;cases (c==Value.type "enumerate")
   ·wp_walk using wpAny_loadPart' hl,wpAny_pyIter_tuple hL
    exact⟨_,rfl,h⟩
   ·wp_walk using wpAny_loadPart' hl,wpAny_pyIter_tuple hL
    exact⟨_,rfl,h⟩
  ·wp_walk using wpAny_loadPart' hl,wpAny_pyIter_tuple hL
   exact⟨_,rfl,h⟩
def YS{prog:Program}{w:World}{A:Around}{E:VL→SD→Prop}{s:SD}{l:AD}{items:Array VL}{Q:VL→SD→Prop}(hL:s.heap.IsTuple l items)
 (h:∀h',IsEnum h' (s.heap.objs.size+1) s.heap.objs.size 0 .none→h'.IsTupleIter s.heap.objs.size l 0→h'.objs.size=s.heap.objs.size+2 →
   (∀b o,s.heap.get? b=some o→h'.get? b=some o)→Q (.ref (s.heap.objs.size+1)) {s with heap:=h'}) :
  wpAny (model prog w) A (call (.type "enumerate") [.ref l]) Q E s:=by
 obtain⟨⟨c,dct,dt,sl⟩,hl,hc,n,hd⟩:=hL
 replace hc:c=.type "tuple" := hc
 replace hd:dt=.seq items n:=hd
 subst hc hd;refine callType_new F.called_enumerate (by decide) (F.typeCall_enumerate_1 _) (F.newCall_enumerate_1 _) (fun obj=>F.args_object_init_2 obj _) F.entry_enumerate_new
  (Xf l items n dct sl) ⟨hl,?_⟩
 have hz:(s.heap.push { cls:=.type "tuple_iterator",data:=.fields #[.ref l,.int 0 0]}).objs.size=s.heap.objs.size+1:=Heap.size_push ..;show _∧_;rw[hz];have he:IsEnum ((s.heap.push { cls:=.type "tuple_iterator",data:=.fields #[.ref l,.int 0 0]}).push
   { cls:=.type "enumerate",data:=.fields #[.none,.bool false,.ref s.heap.objs.size,rawInt 0,.none,.none]}) (s.heap.objs.size+1) s.heap.objs.size 0 .none:=by
  have:=aI (s.heap.push { cls:=.type "tuple_iterator",data:=.fields #[.ref l,.int 0 0]})
   (o:={ cls:=.type "enumerate",data:=.fields #[.none,.bool false,.ref s.heap.objs.size,rawInt 0,.none,.none]}) rfl
  rw[hz]at this;exact this
 refine⟨⟨_,he,rfl⟩,h _ he ⟨_,Heap.get?_push_of_some _ (aI _ rfl),rfl,rfl⟩ (by rw[Heap.size_push,hz]) fun b o x=>aD _ (aD _ x)⟩
end
def draws{prog:Program}{w:World}{A:Around}(hh:A.handled=none)(it a:AD)(its:List VL)(hne:a≠it) :
  Draws prog w A it [it,a] its.length (fun i x=>its[i]? = some x) (fun i h=>h.IsTupleIter it a i∧h.IsTuple a its.toArray) where
 live:=fun i h st=>let⟨o,e,_⟩:=st.1;⟨o,e⟩
 frame:=fun i h h' st k=>by
  obtain⟨⟨o,e,r⟩,o2,e2,r2⟩:=st;exact⟨⟨o,k it (by simp) o e,r⟩,o2,k a (by simp) o2 e2,r2⟩
 item:=fun i s Q E hi st hQ=>next_item st.1 st.2 (x:=its[i]) (by simp[hi]) fun h' st' sb =>
  hQ _ h' s.toks (by simp[hi]) ⟨st',let⟨o,e,r⟩:=st.2;⟨o,(sb.2 a hne).trans e,r⟩⟩ sb
 done:=fun s Q E st hE=>next_end hh st.1 st.2 (by simp) hE
end ET
namespace L2
open PySem PySem.Spec PyProof.Rows
def Ts(H:Hp):Tr→List V→Prop
 |.nil,xs=>xs=[]
 |.cons b r,xs=>∃(a:AD) (ys zs:List V),xs=.ref a::zs∧H a=some (.tup ys)∧Ts H b ys∧Ts H r zs
def Tv(H:Hp)(t:Tr)(v:V):Prop:=∃(a:AD) (ys:List V),v=.ref a∧H a=some (.tup ys)∧Ts H t ys
def Ts.same{H H':Hp}(e:AK H H'):∀ {t:Tr} {xs:List V},Ts H t xs→Ts H' t xs
 |.nil,xs,h=>by rw[Ts]at h ⊢;exact h
 |.cons b r,xs,h=>by
  rw[Ts]at h ⊢;obtain⟨a,ys,zs,e1,h1,h2,h3⟩:=h;exact⟨a,ys,zs,e1,e _ _ h1,h2.same e,h3.same e⟩
def Tv.same{H H':Hp}{t:Tr}{v:V}(h:Tv H t v)(e:AK H H'):Tv H' t v:=let⟨a,ys,e1,h1,h2⟩:=h;⟨a,ys,e1,e _ _ h1,h2.same e⟩
def J4(H H':Hp):Prop:=∀b xs,H b=some (.tup xs)→H' b=some (.tup xs)
def J4.of{H H':Hp}(e:AK H H'):J4 H H':=fun b xs h=>e b _ h
def J4.upd{H:Hp}{l:AD}{ys:List V}{o:HO}(hl:H l=some (.lst ys)):J4 H (upd H l o):=fun b xs h=>by
 rw[AJ (Wd h hl (by intro z;cases z))];exact h
def Ts.A6{H H':Hp}(e:J4 H H'):∀ {t:Tr} {xs:List V},Ts H t xs→Ts H' t xs
 |.nil,xs,h=>by rw[Ts]at h ⊢;exact h
 |.cons b r,xs,h=>by
  rw[Ts]at h ⊢;obtain⟨a,ys,zs,e1,h1,h2,h3⟩:=h;exact⟨a,ys,zs,e1,e _ _ h1,h2.A6 e,h3.A6 e⟩
def Tv.A6{H H':Hp}{t:Tr}{v:V}(h:Tv H t v)(e:J4 H H'):Tv H' t v:=let⟨a,ys,e1,h1,h2⟩:=h;⟨a,ys,e1,e _ _ h1,h2.A6 e⟩
def Ts.length{H:Hp}:∀ {t:Tr} {xs:List V},Ts H t xs→xs.length=t.len
 |.nil,xs,h=>by rw[Ts]at h;rw[h];rfl
 |.cons b r,xs,h=>by
  rw[Ts]at h;obtain⟨a,ys,zs,rfl,_,_,h3⟩:=h;rw[List.length_cons,Tr.len,h3.length]
def Ts.len{H:Hp}{t:Tr}{xs:List V}(h:Ts H t xs):xs.length=t.bs.length:=by rw[h.length,Tr.HE]
def Ts.get{H:Hp}:∀ {t:Tr} {xs:List V} {i:Nat} {v:V},Ts H t xs→xs[i]? = some v→∃c,t.bs[i]? = some c∧Tv H c v
 |.nil,xs,i,v,h,e=>by rw[Ts]at h;subst h;simp at e
 |.cons b r,xs,i,v,h,e=>by
  rw[Ts]at h;obtain⟨a,ys,zs,rfl,h1,h2,h3⟩:=h;cases i with
  |zero=>simp at e;subst e;exact⟨b,rfl,a,ys,rfl,h1,h2⟩
  |succ i =>
   obtain⟨c,q1,q2⟩:=h3.get (i:=i) (v:=v) (by simpa using e);exact⟨c,by simpa[Tr.bs]using q1,q2⟩
def Ts.KA{H:Hp}:∀(ts:List Tr) (xs:List V),xs.length=ts.length→(∀(i:Nat) (v:V),xs[i]? = some v→∃c,ts[i]? = some c∧Tv H c v)→Ts H (Tr.of ts) xs
 |[],xs,hl,_=>by
  rw[Tr.of,Ts];exact bM (by simpa using hl)
 |t::ts,[],hl,_=>by simp at hl
 |t::ts,x::xs,hl,h=>by
  rw[Tr.of,Ts];obtain⟨c,e1,a,ys,rfl,h1,h2⟩:=h 0 x rfl;simp at e1;subst e1;exact⟨a,ys,xs,rfl,h1,h2,Ts.KA ts xs (by simpa using hl) fun i v e=>by
   obtain⟨c,q1,q2⟩:=h (i+1) v (by simpa using e);exact⟨c,by simpa using q1,q2⟩⟩
def Ts.nil{H:Hp}:Ts H .nil []:=by rw[Ts]
def Ts.cons{H:Hp}{b r:Tr}{v:V}{zs:List V}(h:Tv H b v)(k:Ts H r zs):Ts H (.cons b r) (v::zs):=by
 obtain⟨a,ys,rfl,h1,h2⟩:=h;rw[Ts];exact⟨a,ys,zs,rfl,h1,h2,k⟩
def Ts.pick{H:Hp}{t:Tr}{xs:List V}(h:Ts H t xs)(ix:List Nat)(hi:∀i∈ix,i<xs.length):Ts H (Tr.of (ix.map fun i=>t.bs.getD i .nil)) (ix.map fun i=>xs.getD i .BF):=by
 refine Ts.KA _ _ (by simp) fun i v e=>?_;rw[List.getElem?_map]at e ⊢;cases q:ix[i]? with
 |none=>rw[q]at e;cases e
 |some k =>
  rw[q]at e;have hk:k<xs.length:=hi k (aP q);simp only[Option.map_some,Option.some.injEq]at e;obtain⟨c,q1,q2⟩:=h.get (i:=k) (v:=v) (by rw[←e,List.getD_eq_getElem?_getD,List.getElem?_eq_getElem hk];rfl);refine⟨c,?_,q2⟩;simp only[Option.map_some,List.getD_eq_getElem?_getD,q1]
  rfl
section
variable{X:Cx}{pins:List (AD×Obj)}{σ:St}{H:Hp}{s:SD}
def Ts.vs(I:Inv X pins σ H s):∀ {t:Tr} {xs:List V} {us:List VL},Ts H t xs→Vals xs us→TH.Vs s.heap t us
 |.nil,xs,us,h,r=>by
  rw[Ts]at h;subst h;cases r;rw[TH.Vs]
 |.cons b rr,xs,us,h,r=>by
  rw[Ts]at h;obtain⟨a,ys,zs,rfl,h1,h2,h3⟩:=h;cases r with
  |cons r1 r2 =>
   cases r1;obtain⟨its,rv,p,_⟩:=I.tuple (Ay.of (K:=X.K) h1);rw[TH.Vs];exact⟨a,its,_,rfl,p,Ts.vs I h2 rv,Ts.vs I h3 r2⟩
def Tv.at(I:Inv X pins σ H s){t:Tr}{v:V}{u:VL}(h:Tv H t v)(r:RelV v u):∃(a:AD) (its:List VL),u=.ref a∧s.heap.IsTuple a its.toArray∧TH.Vs s.heap t its:=by
 obtain⟨a,ys,rfl,h1,h2⟩:=h;cases r;obtain⟨its,rv,p,_⟩:=I.tuple (Ay.of (K:=X.K) h1);exact⟨a,its,rfl,p,Ts.vs I h2 rv⟩
def lD:R2:=fun x y H Q=>∃t u,Tv H t x∧Tv H u y∧t.deep≤60∧Q (.bl (Tr.lt u t)) H
def dM(hu:X.A.units+64<cLine):Ct X (compareOp .Gt) lD:=by
 intro pins s σ H x y v u' Q I rx ry h;obtain⟨t,u,h1,h2,hd,q⟩:=h;obtain⟨a,its,rfl,p1,k1⟩:=h1.at I rx;obtain⟨b,its',rfl,p2,k2⟩:=h2.at I ry;exact TH.cH (t.deep+1) t u X.A s a b its its' (bU _) p1 k1 p2 k2 (by omega) X.prog X.w X.xe _ ⟨.bl _,H,I,rfl,q⟩
end
def U9(K:Fg)(a:AD):It :=
 ⟨fun i H=>∃xs x,Ay K H a xs∧xs[i]? = some x,fun i H v H'=>∃p x,v=.ref p∧H p=none∧H'=upd H p (.tup [.int i,x])∧∀xs,Ay K H a xs→xs[i]? = some x,fun i H=>∃xs,Ay K H a xs∧xs.length=i⟩
def Yz{P:Program}{w:World}{K:Fg}{elts:List Expr}{x1}{pos:Pos}(a e it:AD)(hne:e≠it) :
  Turn P w K (.Tuple elts x1 pos) (U9 K a) [e,it] e (fun i h=>(∃old,IsEnum h e it (i:Nat) old)∧h.IsTupleIter it a i) where
 mem:=by simp
 obj:=fun i h st b hb=>by
  rcases aJ.mp hb with rfl|hb
  ·obtain⟨⟨old,q⟩,_⟩:=st;exact⟨_,q,fun v z=>by cases z⟩
  ·have e2:b=it:=by simpa using hb
   subst e2;obtain⟨_,o,q,c,d⟩:=st;exact⟨o,q,fun v z=>by rw[d]at z;cases z⟩
 keep:=fun i h h' st k=>by
  obtain⟨⟨old,q⟩,o,q2,r⟩:=st;exact⟨⟨old,k e (by simp) _ q⟩,o,k it (by simp) _ q2,r⟩
 item:=by
  intro X hP hw hK hc i pins s σ H E I hf st hg;subst hP hw hK;obtain⟨xs,x,hq,hx⟩:=hg;obtain⟨its,rv,p,hz⟩:=I.tuple hq;obtain⟨u,hu,ru⟩:=rv.get hx;obtain⟨⟨old,he⟩,hit⟩:=st;have hai:a≠it:=fun z=>by
   obtain⟨o,e1,c1,_⟩:=p;obtain⟨o2,e2,c2,_⟩:=hit;rw[z,e2]at e1;cases e1;rw[c1]at c2;exact absurd c2 (by decide)
  have hae:a≠e:=fun z=>by
   obtain⟨o,e1,c1,_⟩:=p;rw[z,he]at e1;cases e1;exact absurd (show Value.type "enumerate" = Value.type "tuple" from c1) (by decide)
  have hlt:i<its.length:=(aC.mp hu).1;have hE0:=hf e (by simp);have hI0:=hf it (by simp);refine wpAny_pyNext_enum_itemD (ET.draws (prog:=X.prog) (w:=X.w) (A:=X.A.in1) (I.ok.hd hc) it a its hai) he ⟨hit,p⟩ hlt hne (by simp[hne,Ne.symm hae]) fun y h' tk hy ho hs' hT hsz hk=>⟨_,rfl,wpAny_letOwnedTupleGo_enum (s:={s with heap:=h',toks:=tk+1}) ho fun h'' he'' sb=>?_⟩;have hyu:y=u:=by rw[hu]at hy;exact(ao hy).symm
  subst hyu;have keep:∀b o,b≠e→b≠it→s.heap.get? b=some o→h''.get? b=some o:=fun b o h1 h2 q=>(sb.2 b h1).trans (hk b o h1 h2 q);have hTe:s.heap.objs.size≠e:=bW (aF he);have hTi:s.heap.objs.size≠it:=let⟨_,q,_⟩:=hit;bW (aF q);have hT'':h''.get? s.heap.objs.size=some { cls:=.type "tuple",data:=.seq #[.int i tk,y]}:=(sb.2 _ hTe).trans hT;have hTn:H s.heap.objs.size=none:=I.Ap.fresh (aG _);have neT:∀b o,s.heap.get? b=some o→b≠s.heap.objs.size:=fun b o q=>aH (aF q);have Eg:∀b o,H b=some o→b≠e∧b≠it:=fun b o q=>⟨(fun z=>by rw[z,hE0.1]at q;cases q),(fun z=>by rw[z,hI0.1]at q;cases q)⟩;refine⟨.ref s.heap.objs.size,upd H s.heap.objs.size (.tup [.int i,x]),?_,rfl,⟨_,x,rfl,hTn,rfl,fun ys hy=>by rw[I.RV hy hq];exact hx⟩,⟨⟨_,by simpa using he''⟩,?_⟩,fun b hb=>?_⟩
  ·show Inv X pins σ _ {s with heap:=h'',gens:=s.gens,drawn:=s.drawn,toks:=tk+1};refine I.step (h':=h'') (g':=s.gens) (d':=s.drawn) (t':=tk+1) (ch:=[e,it]) (fun b hb=>?_) (fun b o _ _ hc q _=>keep b o (fun z=>hc (by simp[z])) (fun z=>hc (by simp[z])) q) (fun b o _ _ hc q _=>⟨o.slots,keep b o (fun z=>hc (by simp[z])) (fun z=>hc (by simp[z])) q⟩)
    (fun b o _ q n=>by rw[AJ (neT b o q)];exact n) (fun b o hc q=>⟨o,keep b o (fun z=>hc (by simp[z])) (fun z=>hc (by simp[z])) q⟩) (fun b ys q=>by rw[AJ (AU q hTn)];exact q) (fun b o u q=>by rw[AJ (AU q hTn)];exact q)
    (fun b ps q=>⟨#[],by rw[AJ (AU q hTn),q];simp⟩) (fun m hm=>?_) (fun b o q=>?_) I.bare
   ·rcases aJ.mp hb with rfl|hb
    ·exact⟨hE0.2.2.2.1,hE0.2.1,hE0.2.2.2.2.1,hE0.2.2.2.2.2⟩
    ·have e2:b=it:=by simpa using hb
     subst e2;exact⟨hI0.2.2.2.1,hI0.2.1,hI0.2.2.2.2.1,hI0.2.2.2.2.2⟩
   ·obtain⟨o,es,ep,ho,r⟩:=hm;exact⟨o,es,ep,keep _ o (Ne.symm hE0.2.1) (Ne.symm hI0.2.1) ho,r⟩
   ·by_cases hb:b=s.heap.objs.size
    ·subst hb;rw[AI]at q;cases q;exact⟨Es,[.int i tk,y],.cons ⟨tk,rfl⟩ (.cons ru .nil),_,hT'',rfl,_,rfl⟩
    ·rw[AJ hb]at q;refine(I.Ap b o q).Ge (fun c v hc r=>keep c v ?_ ?_ r) (fun c r=>by rw[AJ (AU r hTn)];exact r) fun c ys r=>by rw[AJ (AU r hTn)];exact r
     ·rcases hc with rfl|hc
      ·exact(Eg _ _ q).1
      ·exact(Eg _ _ hc).1
     ·rcases hc with rfl|hc
      ·exact(Eg _ _ q).2
      ·exact(Eg _ _ hc).2
  ·obtain⟨⟨o,q,r⟩,_⟩:=hs';exact⟨o,(sb.2 it (Ne.symm hne)).trans q,r⟩
  ·rcases aJ.mp hb with rfl|hb
   ·rw[AJ (Ne.symm hTe)];exact hE0.1
   ·have e2:b=it:=by simpa using hb
    subst e2;rw[AJ (Ne.symm hTi)];exact hI0.1
 done:=by
  intro X hP hw hK hc i pins s σ H E I hf st hg;subst hP hw hK;obtain⟨xs,hq,hx⟩:=hg;obtain⟨its,rv,p,hz⟩:=I.tuple hq;obtain⟨⟨old,he⟩,hit⟩:=st;have hai:a≠it:=fun z=>by
   obtain⟨o,e1,c1,_⟩:=p;obtain⟨o2,e2,c2,_⟩:=hit;rw[z,e2]at e1;cases e1;rw[c1]at c2;exact absurd c2 (by decide)
  have hl:its.length=i:=by rw[←rv.length];exact hx
  subst hl;obtain⟨f0,f1,f2,f3,f4,f5⟩:=hf it (by simp);exact wpAny_pyNext_enum_endD (ET.draws (prog:=X.prog) (w:=X.w) (A:=X.A.in1) (I.ok.hd hc) it a its hai) he ⟨hit,p⟩ fun h' eb=>⟨rfl,I.turned (t':=s.toks) (fun b o hb q=>eb b o hb q) f0 f1 f3 f4 f5⟩
 self:=fun _ _ _ _ _ st h=>by
  obtain⟨⟨old,he⟩,_⟩:=st;exact wpAny_pyIter_enum he h
def kK(K:Fg)(ta:TA):TI:=fun σ H R=>ta σ H fun vs H1=>∃a,vs=[.ref a]∧(∃xs,Ay K H1 a xs)∧R (U9 K a) H1
def VD{X:Cx}{elts:List Expr}{x1}{tpos:Pos}{a:Expr}{ta:TA}{p pos:Pos}(hg:Gl X "enumerate")(hm:X.mg "enumerate" = none)(ha:PA X [a] ta)(hs:starEach [a] X.env=[(false,eval a X.env)]:=by rfl) :
  PI X (.Tuple elts x1 tpos) (.Call (.Name "enumerate" p) [a] [] pos) (kK X.K ta):=by
 intro pins s σ H R I h;refine Call_ (GD I hg hm boot_enumerate (az (BN (ha pos pins s σ H _ I h) fun us s1 ⟨vs,H1,I1,r1,q1⟩=>?_) hs rfl));obtain⟨t,e,⟨xs,hq⟩,q⟩:=q1;subst e;cases r1 with
 |cons r rr =>
  cases rr;cases r;obtain⟨its,rv,p',hz⟩:=I1.tuple hq;refine ET.YS (show s1.heap.IsTuple t its.toArray from p') fun h' he hit hsz hk=>wpAny_pyIter_enum he ?_;have I2:Inv X pins σ H1 {s1 with heap:=h'}:=I1.kept (t':=s1.toks) hk;have hn:s1.heap.objs.size+1≠s1.heap.objs.size:=by omega
  refine⟨s1.heap.objs.size+1,[s1.heap.objs.size+1,s1.heap.objs.size],_,_,H1,rfl,I2,Yz t _ _ hn,⟨⟨_,he⟩,hit⟩,fun b hb=>?_,q⟩;have hb':s1.heap.objs.size≤b:=by
   have hb2:b=s1.heap.objs.size+1∨b=s1.heap.objs.size:=by simpa using hb
   rcases hb2 with z|z
   ·rw[z];exact Nat.le_succ _
   ·rw[z];exact aG _
  exact I1.Ov hb' (I1.Ap.fresh hb')
def a6{K:Fg}{a:AD}{xs:List V}{g:TG}{tb:TS}{D:Ends}{σ:St}{H:Hp}(Pv:Nat→St→Hp→Prop)(h0:Pv 0 σ H)(hl:∀i σ H,i≤xs.length→Pv i σ H→Ay K H a xs)
 (hs:∀i x σ H,xs[i]? = some x→Pv i σ H→∀p,H p=none→g (.ref p) σ (upd H p (.tup [.int (i:Nat),x])) fun σ2 H2=>tb {D with nx:=Pv (i+1),ct:=Pv (i+1),bk:=D.nx} σ2 H2)(hd:∀σ H,Pv xs.length σ H→D.nx σ H) :
  ∃W:Nat→Nat→St→Hp→Prop,(∃m,W 0 m σ H)∧∀i m σ H,W i m σ H →
   ((U9 K a).stop i H∧D.nx σ H)∨((U9 K a).go i H∧∃N:St→Hp→Prop,(∀σ' H',N σ' H'→∃m',m'<m∧W (i+1) m' σ' H')∧∀x H',(U9 K a).Ef i H x H'→g x σ H' fun σ2 H2=>tb {D with nx:=N,ct:=N,bk:=D.nx} σ2 H2):=by
 refine⟨fun i m σ H=>m=xs.length-i∧i≤xs.length∧Pv i σ H,⟨xs.length,by simp,Nat.zero_le _,h0⟩,?_⟩;rintro i m σ H ⟨rfl,hi,p⟩;have q:=hl i σ H hi p;by_cases hlt:i<xs.length
 ·refine .inr ⟨⟨xs,xs[i],q,by simp[hlt]⟩,Pv (i+1),fun σ' H' p'=>⟨xs.length-(i+1),by omega,rfl,hlt,p'⟩,fun x H' y=>?_⟩;obtain⟨pp,x',rfl,hn,rfl,y⟩:=y;exact hs i x' σ _ (y xs q) p pp hn
 ·have e:i=xs.length:=by omega
  subst e;exact .inl ⟨⟨xs,q,rfl⟩,hd σ H p⟩
end L2
namespace TH
open PySem PySem.W PyProof.Rows PySem.SeqAt
section
variable{prog:Program}{w:World}{A:Around}{E:VL→SD→Prop}{s:SD}
def QS(a:AD):Builtin.«list.sort» ⟨[.ref a],[]⟩=Builtin.«list.sort» ⟨[.ref a],[(Str.ofString "reverse",.bool false)]⟩:=by
 rw[list_sort_rev,list_sort_plain]
 rfl
def Ij{a:AD}{us:List VL}{t:Tr}{n:Nat}{P:PySem.Fin→SD→Prop}(ho:s.heap.get? a=some (seqObj "list" us.toArray n))(e:Vs s.heap t us)(h64:us.length<64)(hu:A.units+t.deep≤cLine)
 (h:∀ix:List Nat,ix.length=us.length→(∀i∈ix,i<us.length)→(ix.map fun i=>t.bs.getD i .nil)=(Tr.CL t.bs).reverse→P (.done (.ret .none)) {s with heap:=sortedHeap s.heap a us (ix.map fun i=>us.getD i Value.none).toArray}) :
  wpAny (model prog w) A (Builtin.«list.sort» ⟨[.ref a],[]⟩) P E s:=by
 rw[QS];exact Jg (b:=false) ho e h64 hu h
def OL{l:AD}{vs:List VL}{Q:List VL→SD→Prop}(hl:s.heap.IsTuple l vs.toArray)
 (h:Q vs {s with heap:=(s.heap.push (seqObj "list" #[] 0)).update s.heap.objs.size (Obj.mapSeq (· ++ vs.toArray))})(hsz:vs.length≤sizeLine) :
    wpAny (model prog w) A (collect (.ref l)) Q E s:=by
  obtain⟨o,ho,hc,n,hd⟩:=id hl
  unfold collect
  refine Wb (wpAny_runValue (codeAny_builtin entry_proto_collect' ?_))
  show wpAny _ _ (do again (.builtin "list.__iadd__" ⟨[←newList [],.ref l],[]⟩)) _ _ s
  refine Wb (wpAny_newList (aA ⟨Code.quiet_builtin _ (by decide +kernel),codeAny_builtin entry_list_iadd' ?_⟩))
  show wpAny _ _ (Builtin.List.listExtendWith (.ref s.heap.objs.size) (.ref l) (.ref s.heap.objs.size)) _ _ {s with heap:=s.heap.push (seqObj "list" #[] 0)}
  unfold Builtin.List.listExtendWith
  have ho':(s.heap.push (seqObj "list" #[] 0)).get? l=some o:=aD _ ho
  refine Wb (wpAny_typeOf (T := "tuple") ⟨o,ho',hc⟩ ?_)
  have ht:(Value.type "tuple" == Value.type "tuple")=true:=by rfl
  rw[if_pos (by rw[ht];simp)]
  refine Wb (listItems_at ho' hd ?_)
  refine Wb (listItems_at (xs:=#[]) (n:=0) (aI _ rfl) rfl ?_)
  rw[if_neg (by simp)]
  refine Wb (listUpdate_at (xs:=#[]) (n:=0) (aI _ rfl) rfl ?_ (bE _) (by show(#[]++vs.toArray).size≤sizeLine+1;simp only[Array.size_append,List.size_toArray,List.length_nil];omega))
  refine aA ?_
  show wpAny (model prog w) A (do
      let o ←load s.heap.objs.size
      match o.data with
      |.seq xs _=>pure xs.toList
      |_=>unsupported "internal:collect") Q E {s with heap:=(s.heap.push (seqObj "list" #[] 0)).update s.heap.objs.size (Obj.mapSeq (· ++ vs.toArray))}
  refine Wb (wpAny_load (get?_update_seq (aI _ rfl) _) ?_)
  show wpAny _ _ (pure ((#[]:Array VL)++vs.toArray).toList) Q E _
  rw[show((#[]:Array VL)++vs.toArray).toList=vs by simp]
  exact aA h
def Ua{l:AD}{us:List VL}{t:Tr}{Q:VL→SD→Prop}(hl:s.heap.IsList l us.toArray)(e:Vs s.heap t us)(h64:us.length<64)(hu:A.units+2+t.deep≤cLine)
 (h:∀(h':Heap) (ix:List Nat) (e1:Nat),ix.length=us.length→(∀i∈ix,i<us.length)→(ix.map fun i=>t.bs.getD i .nil)=(Tr.CL t.bs).reverse→(∀c o,s.heap.get? c=some o→h'.get? c=some o) →
   h'.get? (s.heap.objs.size+1)=some (seqObj "list" (ix.map fun i=>us.getD i Value.none).toArray e1)→Q (.ref (s.heap.objs.size+1)) {s with heap:=h'}) :
  wpAny (model prog w) A (call (.builtin "sorted") [.ref l]) Q E s:=by
 refine Calls.call_function_entry kind_sorted plain_sorted entry_sorted (args_sorted1 _) ?_;unfold Builtin.«sorted»;refine Wb (m:=checkCount "sorted" 1 1 _) (aA ?_);refine Wb (collect_list hl ?_ (by rw[sizeLine_eq];omega));refine Wb (wpAny_newList ?_ (by rw[sizeLine_eq];omega));have hsz:((s.heap.push (seqObj "list" #[] 0)).update s.heap.objs.size (Obj.mapSeq (· ++ us.toArray))).objs.size=s.heap.objs.size+1:=by
  rw[Heap.size_update,size_push']
 have hoL:(((s.heap.push (seqObj "list" #[] 0)).update s.heap.objs.size (Obj.mapSeq (· ++ us.toArray))).push (seqObj "list" us.toArray 0)).get? (s.heap.objs.size+1)=some (seqObj "list" us.toArray 0):=by
  rw[←hsz];exact aI _ rfl
 have keep:∀b o,s.heap.get? b=some o→o.cls=.type "tuple" →(((s.heap.push (seqObj "list" #[] 0)).update s.heap.objs.size (Obj.mapSeq (· ++ us.toArray))).push (seqObj "list" us.toArray 0)).get? b=some o:=fun b o q _=>by
  have hlt:b<s.heap.objs.size:=aF q;rw[Heap.get?_push_ne _ _ _ (by rw[hsz];exact aH (bG hlt)),Heap.get?_update_ne _ _ _ _ (aH hlt),Heap.get?_push_ne _ _ _ (aH hlt)];exact q
 show wpAny _ _ _ _ _ {s with heap:=((s.heap.push (seqObj "list" #[] 0)).update s.heap.objs.size (Obj.mapSeq (· ++ us.toArray))).push (seqObj "list" us.toArray 0)};rw[hsz];refine Wb (aS (aW slot_list_sort ⟨_,hoL,rfl⟩ entry_list_sort (Ij (s:={s with heap:=((s.heap.push (seqObj "list" #[] 0)).update s.heap.objs.size (Obj.mapSeq (· ++ us.toArray))).push (seqObj "list" us.toArray 0)}) hoL (e.keeps keep) h64 (by
  rw[show A.in1.in1.units=A.units+2 from rfl];omega) fun ix a1 a2 a3=>⟨_,rfl,?_⟩) (args_list_sort _)))
 obtain⟨e1,he1⟩:=sortedAll_at s.heap us (ix.map fun i=>us.getD i Value.none).toArray;exact aA ⟨_,rfl,h _ ix e1 a1 a2 a3 (fun _ _=>sortedAll_old) he1⟩
def S4{l:AD}{us:List VL}{t:Tr}{b:Bool}{Q:VL→SD→Prop}(hl:s.heap.IsList l us.toArray)(e:Vs s.heap t us)(h64:us.length<64)(hu:A.units+2+t.deep≤cLine)
 (h:∀(h':Heap) (ix:List Nat) (e1:Nat),ix.length=us.length→(∀i∈ix,i<us.length)→(ix.map fun i=>t.bs.getD i .nil)=(if b then Tr.CL t.bs else(Tr.CL t.bs).reverse)→(∀c o,s.heap.get? c=some o→h'.get? c=some o) →
   h'.get? (s.heap.objs.size+1)=some (seqObj "list" (ix.map fun i=>us.getD i Value.none).toArray e1)→Q (.ref (s.heap.objs.size+1)) {s with heap:=h'}) :
  wpAny (model prog w) A (call (.builtin "sorted") [.ref l] [(Str.ofString "reverse",.bool b)]) Q E s:=by
 refine call_function_entry_kw kind_sorted plain_sorted entry_sorted (args_sorted_rev _ _) ?_;unfold Builtin.«sorted»;refine Wb (m:=checkCount "sorted" 1 1 _) (aA ?_);refine Wb (collect_list hl ?_ (by rw[sizeLine_eq];omega));refine Wb (wpAny_newList ?_ (by rw[sizeLine_eq];omega));have hsz:((s.heap.push (seqObj "list" #[] 0)).update s.heap.objs.size (Obj.mapSeq (· ++ us.toArray))).objs.size=s.heap.objs.size+1:=by
  rw[Heap.size_update,size_push']
 have hoL:(((s.heap.push (seqObj "list" #[] 0)).update s.heap.objs.size (Obj.mapSeq (· ++ us.toArray))).push (seqObj "list" us.toArray 0)).get? (s.heap.objs.size+1)=some (seqObj "list" us.toArray 0):=by
  rw[←hsz];exact aI _ rfl
 have keep:∀b o,s.heap.get? b=some o→o.cls=.type "tuple" →(((s.heap.push (seqObj "list" #[] 0)).update s.heap.objs.size (Obj.mapSeq (· ++ us.toArray))).push (seqObj "list" us.toArray 0)).get? b=some o:=fun b o q _=>by
  have hlt:b<s.heap.objs.size:=aF q;rw[Heap.get?_push_ne _ _ _ (by rw[hsz];exact aH (bG hlt)),Heap.get?_update_ne _ _ _ _ (aH hlt),Heap.get?_push_ne _ _ _ (aH hlt)];exact q
 show wpAny _ _ _ _ _ {s with heap:=((s.heap.push (seqObj "list" #[] 0)).update s.heap.objs.size (Obj.mapSeq (· ++ us.toArray))).push (seqObj "list" us.toArray 0)};rw[hsz];refine Wb (aS (wpAny_call_entry_kw slot_list_sort ⟨_,hoL,rfl⟩ entry_list_sort (Jg (b:=b) (s:={s with heap:=((s.heap.push (seqObj "list" #[] 0)).update s.heap.objs.size (Obj.mapSeq (· ++ us.toArray))).push (seqObj "list" us.toArray 0)}) hoL (e.keeps keep) h64 (by
  rw[show A.in1.in1.units=A.units+2 from rfl];omega) fun ix a1 a2 a3=>⟨_,rfl,?_⟩) (args_list_sort_rev _ _)))
 obtain⟨e1,he1⟩:=sortedAll_at s.heap us (ix.map fun i=>us.getD i Value.none).toArray;exact aA ⟨_,rfl,h _ ix e1 a1 a2 a3 (fun _ _=>sortedAll_old) he1⟩
def WA{l:AD}{us:List VL}{t:Tr}{Q:VL→SD→Prop}(hl:s.heap.IsTuple l us.toArray)(e:Vs s.heap t us)(h64:us.length<64)(hu:A.units+2+t.deep≤cLine)
 (h:∀(h':Heap) (ix:List Nat) (e1:Nat),ix.length=us.length→(∀i∈ix,i<us.length)→(ix.map fun i=>t.bs.getD i .nil)=(Tr.CL t.bs).reverse→(∀c o,s.heap.get? c=some o→h'.get? c=some o) →
   h'.get? (s.heap.objs.size+1)=some (seqObj "list" (ix.map fun i=>us.getD i Value.none).toArray e1)→Q (.ref (s.heap.objs.size+1)) {s with heap:=h'}) :
  wpAny (model prog w) A (call (.builtin "sorted") [.ref l]) Q E s:=by
 refine Calls.call_function_entry kind_sorted plain_sorted entry_sorted (args_sorted1 _) ?_;unfold Builtin.«sorted»;refine Wb (m:=checkCount "sorted" 1 1 _) (aA ?_);refine Wb (OL hl ?_ (by rw[sizeLine_eq];omega));refine Wb (wpAny_newList ?_ (by rw[sizeLine_eq];omega));have hsz:((s.heap.push (seqObj "list" #[] 0)).update s.heap.objs.size (Obj.mapSeq (· ++ us.toArray))).objs.size=s.heap.objs.size+1:=by
  rw[Heap.size_update,size_push']
 have hoL:(((s.heap.push (seqObj "list" #[] 0)).update s.heap.objs.size (Obj.mapSeq (· ++ us.toArray))).push (seqObj "list" us.toArray 0)).get? (s.heap.objs.size+1)=some (seqObj "list" us.toArray 0):=by
  rw[←hsz];exact aI _ rfl
 have keep:∀b o,s.heap.get? b=some o→o.cls=.type "tuple" →(((s.heap.push (seqObj "list" #[] 0)).update s.heap.objs.size (Obj.mapSeq (· ++ us.toArray))).push (seqObj "list" us.toArray 0)).get? b=some o:=fun b o q _=>by
  have hlt:b<s.heap.objs.size:=aF q;rw[Heap.get?_push_ne _ _ _ (by rw[hsz];exact aH (bG hlt)),Heap.get?_update_ne _ _ _ _ (aH hlt),Heap.get?_push_ne _ _ _ (aH hlt)];exact q
 show wpAny _ _ _ _ _ {s with heap:=((s.heap.push (seqObj "list" #[] 0)).update s.heap.objs.size (Obj.mapSeq (· ++ us.toArray))).push (seqObj "list" us.toArray 0)};rw[hsz];refine Wb (aS (aW slot_list_sort ⟨_,hoL,rfl⟩ entry_list_sort (Ij (s:={s with heap:=((s.heap.push (seqObj "list" #[] 0)).update s.heap.objs.size (Obj.mapSeq (· ++ us.toArray))).push (seqObj "list" us.toArray 0)}) hoL (e.keeps keep) h64 (by
  rw[show A.in1.in1.units=A.units+2 from rfl];omega) fun ix a1 a2 a3=>⟨_,rfl,?_⟩) (args_list_sort _)))
 obtain⟨e1,he1⟩:=sortedAll_at s.heap us (ix.map fun i=>us.getD i Value.none).toArray;exact aA ⟨_,rfl,h _ ix e1 a1 a2 a3 (fun _ _=>sortedAll_old) he1⟩
def Ut{l:AD}{us:List VL}{t:Tr}{b:Bool}{Q:VL→SD→Prop}(hl:s.heap.IsTuple l us.toArray)(e:Vs s.heap t us)(h64:us.length<64)(hu:A.units+2+t.deep≤cLine)
 (h:∀(h':Heap) (ix:List Nat) (e1:Nat),ix.length=us.length→(∀i∈ix,i<us.length)→(ix.map fun i=>t.bs.getD i .nil)=(if b then Tr.CL t.bs else(Tr.CL t.bs).reverse)→(∀c o,s.heap.get? c=some o→h'.get? c=some o) →
   h'.get? (s.heap.objs.size+1)=some (seqObj "list" (ix.map fun i=>us.getD i Value.none).toArray e1)→Q (.ref (s.heap.objs.size+1)) {s with heap:=h'}) :
  wpAny (model prog w) A (call (.builtin "sorted") [.ref l] [(Str.ofString "reverse",.bool b)]) Q E s:=by
 refine call_function_entry_kw kind_sorted plain_sorted entry_sorted (args_sorted_rev _ _) ?_;unfold Builtin.«sorted»;refine Wb (m:=checkCount "sorted" 1 1 _) (aA ?_);refine Wb (OL hl ?_ (by rw[sizeLine_eq];omega));refine Wb (wpAny_newList ?_ (by rw[sizeLine_eq];omega));have hsz:((s.heap.push (seqObj "list" #[] 0)).update s.heap.objs.size (Obj.mapSeq (· ++ us.toArray))).objs.size=s.heap.objs.size+1:=by
  rw[Heap.size_update,size_push']
 have hoL:(((s.heap.push (seqObj "list" #[] 0)).update s.heap.objs.size (Obj.mapSeq (· ++ us.toArray))).push (seqObj "list" us.toArray 0)).get? (s.heap.objs.size+1)=some (seqObj "list" us.toArray 0):=by
  rw[←hsz];exact aI _ rfl
 have keep:∀b o,s.heap.get? b=some o→o.cls=.type "tuple" →(((s.heap.push (seqObj "list" #[] 0)).update s.heap.objs.size (Obj.mapSeq (· ++ us.toArray))).push (seqObj "list" us.toArray 0)).get? b=some o:=fun b o q _=>by
  have hlt:b<s.heap.objs.size:=aF q;rw[Heap.get?_push_ne _ _ _ (by rw[hsz];exact aH (bG hlt)),Heap.get?_update_ne _ _ _ _ (aH hlt),Heap.get?_push_ne _ _ _ (aH hlt)];exact q
 show wpAny _ _ _ _ _ {s with heap:=((s.heap.push (seqObj "list" #[] 0)).update s.heap.objs.size (Obj.mapSeq (· ++ us.toArray))).push (seqObj "list" us.toArray 0)};rw[hsz];refine Wb (aS (wpAny_call_entry_kw slot_list_sort ⟨_,hoL,rfl⟩ entry_list_sort (Jg (b:=b) (s:={s with heap:=((s.heap.push (seqObj "list" #[] 0)).update s.heap.objs.size (Obj.mapSeq (· ++ us.toArray))).push (seqObj "list" us.toArray 0)}) hoL (e.keeps keep) h64 (by
  rw[show A.in1.in1.units=A.units+2 from rfl];omega) fun ix a1 a2 a3=>⟨_,rfl,?_⟩) (args_list_sort_rev _ _)))
 obtain⟨e1,he1⟩:=sortedAll_at s.heap us (ix.map fun i=>us.getD i Value.none).toArray;exact aA ⟨_,rfl,h _ ix e1 a1 a2 a3 (fun _ _=>sortedAll_old) he1⟩
end
end TH
namespace L2
open PySem PySem.Spec PyProof.Rows
def Vals.pick{xs:List V}{us:List VL}(r:Vals xs us):∀ix:List Nat,(∀i∈ix,i<xs.length)→Vals (ix.map fun i=>xs.getD i .BF) (ix.map fun i=>us.getD i Value.none)
 |[],_=>.nil
 |i::ix,h=>by
  refine .cons ?_ (Vals.pick r ix fun k hk=>h k (aO _ hk));have hi:=h i aR;obtain⟨u,h1,h2⟩:=r.get (i:=i) (x:=xs[i]) (by simp[hi]);show RelV (xs.getD i .BF) (us.getD i Value.none);rw[List.getD_eq_getElem?_getD,List.getD_eq_getElem?_getD,h1,List.getElem?_eq_getElem hi];exact h2
section
variable{X:Cx}
def lS(K:Fg):List V→Hp→VK→Prop:=fun xs H Q=>∃(p:AD) (ys:List V) (t:Tr),xs=[.ref p]∧(Ab K H p ys∨Ay K H p ys)∧Ts H t ys∧ys.length<64∧t.deep≤60 ∧
 ∀(l:AD) (zs:List V),H l=none→Ts H (Tr.of (Tr.CL t.bs).reverse) zs→Q (.ref l) (upd H l (.lst zs))
def YY(K:Fg):List V→Hp→VK→Prop:=fun xs H Q=>∃(p:AD) (ys:List V) (t:Tr),xs=[.ref p]∧(Ab K H p ys∨Ay K H p ys)∧Ts H t ys∧ys.length<64∧t.deep≤60 ∧
 ∀(l:AD) (zs:List V),H l=none→Ts H (Tr.of (Tr.CL t.bs)) zs→Q (.ref l) (upd H l (.lst zs))
def L8{pins:List (AD×Obj)}{σ:St}{H:Hp}{s:SD}{Q:VK}{t:Tr}{ts:List Tr}{ys:List V}{its:List VL}{h':Heap}{ix:List Nat}{e1:Nat}(I:Inv X pins σ H s)(ht:Ts H t ys)(rv:Vals ys its)(h64:ys.length<64)
 (a1:ix.length=its.length)(a2:∀i∈ix,i<its.length)(a3:(ix.map fun i=>t.bs.getD i .nil)=ts)(keep:∀c o,s.heap.get? c=some o→h'.get? c=some o)
 (hD:h'.get? (s.heap.objs.size+1)=some (seqObj "list" (ix.map fun i=>its.getD i Value.none).toArray e1))(q:∀(l:AD) (zs:List V),H l=none→Ts H (Tr.of ts) zs→Q (.ref l) (upd H l (.lst zs))) :
  EP X pins σ Q (.ref (s.heap.objs.size+1)) {s with heap:=h'}:=by
 have hl:=rv.length;have a2':∀i∈ix,i<ys.length:=fun i hi=>by rw[hl];exact a2 i hi
 refine⟨.ref (s.heap.objs.size+1),upd H (s.heap.objs.size+1) (.lst (ix.map fun i=>ys.getD i .BF)),I.laid (t':=s.toks) keep (Nat.le_succ _) ⟨?_,_,e1,rv.pick ix a2',hD⟩,rfl,q _ _ (I.Ap.fresh (Nat.le_succ _)) ?_⟩
 ·rw[List.length_map,a1,←hl];exact bN (aM h64 (by rw[sizeLine_eq];decide))
 ·rw[←a3];exact ht.pick ix a2'
def Y4(hu:X.A.units+64<cLine):DV X (.builtin "sorted") (lS X.K):=by
 intro pins s σ H xs us Q I r h;obtain⟨p,ys,t,rfl,hq,ht,h64,hd,q⟩:=h;obtain⟨u,rfl,r1⟩:=r.one;cases r1;rcases hq with hq|hq
 ·obtain⟨its,rv,pl,hz⟩:=I.list hq;have hl:=rv.length;exact TH.Ua pl.isList (ht.vs I rv) (by omega) (by omega) fun h' ix e1 a1 a2 a3 keep hD=>L8 I ht rv h64 a1 a2 a3 keep hD q
 ·obtain⟨its,rv,pl,hz⟩:=I.tuple hq;have hl:=rv.length;exact TH.WA (show s.heap.IsTuple p its.toArray from pl) (ht.vs I rv) (by omega) (by omega) fun h' ix e1 a1 a2 a3 keep hD=>L8 I ht rv h64 a1 a2 a3 keep hD q
def Z7{e:Expr}{t:TA}{p pos kp kp2:Pos}{j}(hu:X.A.units+64<cLine)(hg:Gl X "sorted")(hm:X.mg "sorted" = none)(ha:PA X [e] t)
 (he:backTo pos (starEach [e] X.env)=(false,eval e X.env)::backTo pos (starEach [] X.env):=by rfl)(hplain:(backTo pos (starEach [e] X.env)).any (·.1)=false:=by rfl) :
  PE X (.Call (.Name "sorted" p) [e] [⟨some "reverse",.Constant (.bool true) j kp2,kp⟩] pos) (fun σ H Q=>t σ H fun vs H1=>YY X.K vs H1 Q):=by
 intro pins s σ H Q I h;refine wpAny_Call_Name_kw (GD I hg hm boot_sorted ?_ (by decide) (by decide));refine callWith_kw (BN (ha pos pins s σ H _ I h) fun us s1 ⟨vs,H1,I1,r1,q1⟩=>kws_cons (Constant_bool (kws_nil ?_))) he hplain;obtain⟨p,ys,t,rfl,hq,ht,h64,hd,q⟩:=q1;obtain⟨u,rfl,r2⟩:=r1.one;cases r2;rcases hq with hq|hq
 ·obtain⟨its,rv,pl,hz⟩:=I1.list hq;have hl:=rv.length;exact TH.S4 (b:=true) pl.isList (ht.vs I1 rv) (by omega) (by omega) fun h' ix e1 a1 a2 a3 keep hD=>L8 I1 ht rv h64 a1 a2 a3 keep hD q
 ·obtain⟨its,rv,pl,hz⟩:=I1.tuple hq;have hl:=rv.length;exact TH.Ut (b:=true) (show s1.heap.IsTuple p its.toArray from pl) (ht.vs I1 rv) (by omega) (by omega) fun h' ix e1 a1 a2 a3 keep hD=>L8 I1 ht rv h64 a1 a2 a3 keep hD q
def iw{e k:Expr}{te tk:TE}{pos p2:Pos}(he:PE X e te)(hk:PE X k tk):PE X (.Subscript e (.Slice none none (some k) p2) pos)
  (fun σ H Q=>te σ H fun x H1=>tk σ H1 fun z H2=>∃(a:AD) (xs:List V),x=.ref a∧z=.int (-1)∧Ab X.K H2 a xs∧∀p,H2 p=none→Q (.ref p) (upd H2 p (.lst xs.reverse))):=by
 intro pins s σ H Q I h;refine Subscript_ (BN (he pins s σ H _ I h) fun v s1 ⟨x,H1,I1,r1,q1⟩=>?_);refine wpAny_Slice ?_;rw[evalPart_none];refine aA ?_;refine aA ?_;rw[evalPart_some];refine BN (hk pins s1 σ H1 _ I1 q1) fun vk s3 ⟨z,H3,I3,r3,q3⟩=>?_;obtain⟨a,xs,rfl,rfl,hq,q⟩:=q3;cases r1;obtain⟨tk',rfl⟩:=r3;have I4:Inv X pins σ H3 {s3 with heap:=s3.heap.push { cls:=.type "slice",data:=.fields #[.none,.none,.int (-1) tk']} }:=I3.kept (t':=s3.toks) fun b ob q=>aD _ q;obtain⟨its,rv,pl,hz⟩:=I4.list hq;have hlen:=rv.length;show wpAny (model X.prog X.w) X.A (subscriptTail e (.Slice none none (some k) p2) (.ref a) (.ref s3.heap.objs.size)) (EP X pins σ Q) X.xe {s3 with heap:=s3.heap.push { cls:=.type "slice",data:=.fields #[.none,.none,.int (-1) tk']} };refine tail_any (ops:=[.ref a,.ref s3.heap.objs.size]) (T := "list") pl.isList.typeIs slot_list_getitem.lookup ?_ (by with_unfolding_all rfl);refine wpAny_getItem_list_slice pl.isList (Heap.IsSliceOf.new ..) .none .none (.int (-1) tk') (by decide) ?_ (by rw[List.size_toArray]<;>omega);rw[PySem.W.krv_pick];refine⟨.ref _,_,I4.laid (t':=s3.toks) (o:=.lst xs.reverse) (fun b ob q=>aD _ q) (aG _) ?_,rfl,q _ (I4.Ap.fresh (aG _))⟩;exact⟨by rw[List.length_reverse];exact hz,its.reverse,0,rv.reverse,Heap.get?_push_size _ rfl⟩
end
def CW(Pv:Nat→List V→Hp→Prop)(n:Nat)(D:AD):Nat→Nat→List V→Hp→Prop:=fun i m ys H=>m=n-i∧i≤n∧H D=some (.lst ys)∧Pv i ys H
def Ez{Pv:Nat→List V→Hp→Prop}{n i:Nat}{D:AD}{ys:List V}{y:V}{H:Hp}(hi:i<n)(p:Pv (i+1) (ys++[y]) (upd H D (.lst (ys++[y])))):∃m',m'<n-i∧CW Pv n D (i+1) m' (ys++[y]) (upd H D (.lst (ys++[y]))) :=
 ⟨n-(i+1),by omega,rfl,hi,AI,p⟩
def dG{Pv:Nat→List V→Hp→Prop}{n i:Nat}{D:AD}{ys:List V}{H:Hp}(hi:i<n)(hD:H D=some (.lst ys))(p:Pv (i+1) ys H):∃m',m'<n-i∧CW Pv n D (i+1) m' ys H:=⟨n-(i+1),by omega,rfl,hi,hD,p⟩
def G5{J:It}{n:Nat}{D:AD}{H1:Hp}{fr:List (Option Nat)}{σ:St}{ix:Nat}{tif:TT}{te:TE}{G:Hp→Prop}(Pv:Nat→List V→Hp→Prop)(h0:Pv 0 [] (upd H1 D (.lst [])))
 (hgo:∀i ys H,i<n→Pv i ys H→H D=some (.lst ys)→J.go i H∧ys.length<sizeLine∧∀x H',J.Ef i H x H' →
   tif ((carry fr σ).set ix (some x)) H' fun b H2=>if b=true then te ((carry fr σ).set ix (some x)) H2 fun y H3=>H3 D=some (.lst ys)∧∃m',m'<n-i∧CW Pv n D (i+1) m' (ys++[y]) (upd H3 D (.lst (ys++[y])))
    else ∃m',m'<n-i∧CW Pv n D (i+1) m' ys H2)
 (hstop:∀ys H,Pv n ys H→H D=some (.lst ys)→J.stop n H∧G H) :
  ∃W:Nat→Nat→List V→Hp→Prop,(∃m,W 0 m [] (upd H1 D (.lst []))) ∧
   ∀i m ys H,W i m ys H→H D=some (.lst ys)∧((J.stop i H∧G H)∨(J.go i H∧ys.length<sizeLine∧∀x H',J.Ef i H x H' →
    tif ((carry fr σ).set ix (some x)) H' fun b H2=>if b=true then te ((carry fr σ).set ix (some x)) H2 fun y H3=>H3 D=some (.lst ys)∧∃m',m'<m∧W (i+1) m' (ys++[y]) (upd H3 D (.lst (ys++[y])))
     else ∃m',m'<m∧W (i+1) m' ys H2)):=by
 refine⟨CW Pv n D,⟨n,by simp,Nat.zero_le _,AI,h0⟩,?_⟩;rintro i m ys H ⟨rfl,hi,hH,p⟩;refine⟨hH,?_⟩;by_cases hlt:i<n
 ·exact .inr (hgo i ys H hlt p hH)
 ·have e:i=n:=by omega
  subst e;exact .inl (hstop ys H p hH)
section
variable{X:Cx}
def OZ(hc:X.calm=true):DV X (.builtin "sum") (fun xs H Q=>∃(p:AD) (ns:List Int),xs=[.ref p]∧Ab X.K H p (ns.map V.int)∧Q (.int ns.sum) H):=by
 intro pins s σ H xs us Q I r h;obtain⟨p,ns,rfl,hq,q⟩:=h;obtain⟨u,rfl,r1⟩:=r.one;cases r1;obtain⟨its,rv,pl,hz⟩:=I.list hq;have hi:=intsAre_of rv;obtain⟨xs,hx⟩:=hi.allInts.items;have hl':s.heap.IsList p (intItems xs):=hx ▸ pl.isList
 refine sum_intListG (I.ok.hd hc) hl' fun h' tk t' hk=>?_;have e1:ns=xs.toList.map (·.1):=by
  rw[←nums_intItems,←hx];exact(show numsOf its.toArray.toList=ns from hi.numsOf).symm
 have e2:preSum (numAt xs) xs.size=ns.sum:=by
  rw[preSum_eq,List.take_of_length_le (by simp),e1]
 rw[e2];exact⟨.int _,H,I.kept (t':=tk) hk,⟨t',rfl⟩,q⟩
end
section
variable{X:Cx}{scope:Scope}{cl:List (Str×AD)}{N:List Str}{C:AD}{s₀:SD}{H₀:Hp}{fp:List AD}
def Nb:OI (A9 X scope cl N C s₀ H₀ fp) (Zs X.K):=Cg
end
mutual
def Dt(l:AD)(H:Hp):PD→V→Prop
 |.none,v=>v=.BF
 |.bool b,v=>v=.bl b
 |.int i,v=>v=.int i
 |.str x,v=>v=.str x
 |.tuple ds,v=>∃(a:AD) (xs:List V),v=.ref a∧a≠l∧H a=some (.tup xs)∧AW l H ds xs
 |.list ds,v=>∃(a:AD) (xs:List V),v=.ref a∧a≠l∧H a=some (.lst xs)∧AW l H ds xs
 |.dict _,_=>False
def AW(l:AD)(H:Hp):List PD→List V→Prop
 |[],xs=>xs=[]
 |d::ds,xs=>∃x r,xs=x::r∧Dt l H d x∧AW l H ds r
end
mutual
def Dt.but{l:AD}{H H':Hp}(e:SameBut l H H'):∀ {d:PD} {v:V},Dt l H d v→Dt l H' d v
 |.none,_,h=>by rw[Dt]at h ⊢;exact h
 |.bool _,_,h=>by rw[Dt]at h ⊢;exact h
 |.int _,_,h=>by rw[Dt]at h ⊢;exact h
 |.str _,_,h=>by rw[Dt]at h ⊢;exact h
 |.tuple _,_,h=>by
  rw[Dt]at h ⊢;obtain⟨a,xs,e1,n,h1,h2⟩:=h;exact⟨a,xs,e1,n,e _ _ n h1,AW.but e h2⟩
 |.list _,_,h=>by
  rw[Dt]at h ⊢;obtain⟨a,xs,e1,n,h1,h2⟩:=h;exact⟨a,xs,e1,n,e _ _ n h1,AW.but e h2⟩
 |.dict _,_,h=>by rw[Dt]at h;exact h.elim
def AW.but{l:AD}{H H':Hp}(e:SameBut l H H'):∀ {ds:List PD} {xs:List V},AW l H ds xs→AW l H' ds xs
 |[],_,h=>by rw[AW]at h ⊢;exact h
 |_::_,_,h=>by
  rw[AW]at h ⊢;obtain⟨x,r,e1,h1,h2⟩:=h;exact⟨x,r,e1,Dt.but e h1,AW.but e h2⟩
end
def Dt.same{l:AD}{H H':Hp}{d:PD}{v:V}(h:Dt l H d v)(e:AK H H'):Dt l H' d v:=Dt.but (.of e) h
def AW.same{l:AD}{H H':Hp}{d:List PD}{v:List V}(h:AW l H d v)(e:AK H H'):AW l H' d v:=AW.but (.of e) h
mutual
def Dt.br{K:Fg}{l:AD}{H:Hp}:∀ {d:PD} {v:V},Dt l H d v→Br K H d v
 |.none,_,h=>by rw[Dt]at h;rw[Br];exact h
 |.bool _,_,h=>by rw[Dt]at h;rw[Br];exact h
 |.int _,_,h=>by rw[Dt]at h;rw[Br];exact h
 |.str _,_,h=>by rw[Dt]at h;rw[Br];exact h
 |.tuple _,_,h=>by
  rw[Dt]at h;rw[Br];obtain⟨a,xs,e1,n,h1,h2⟩:=h;exact⟨a,xs,e1,Ay.of h1,AW.br h2⟩
 |.list _,_,h=>by
  rw[Dt]at h;rw[Br];obtain⟨a,xs,e1,n,h1,h2⟩:=h;exact⟨a,xs,e1,Ab.of h1,AW.br h2⟩
 |.dict _,_,h=>by rw[Dt]at h;exact h.elim
def AW.br{K:Fg}{l:AD}{H:Hp}:∀ {ds:List PD} {xs:List V},AW l H ds xs→EH K H ds xs
 |[],_,h=>by rw[AW]at h;rw[EH];exact h
 |_::_,_,h=>by
  rw[AW]at h;rw[EH];obtain⟨x,r,e1,h1,h2⟩:=h;exact⟨x,r,e1,Dt.br h1,AW.br h2⟩
end
def AW.len{l:AD}{H:Hp}:∀ {ds:List PD} {xs:List V},AW l H ds xs→xs.length=ds.length
 |[],_,h=>by rw[AW]at h;rw[h];rfl
 |_::_,_,h=>by
  rw[AW]at h;obtain⟨x,r,rfl,_,h2⟩:=h;rw[List.length_cons,List.length_cons,AW.len h2]
def AW.get{l:AD}{H:Hp}:∀ {ds:List PD} {xs:List V} {i:Nat} {v:V},AW l H ds xs→xs[i]? = some v→∃d,ds[i]? = some d∧Dt l H d v
 |[],_,i,v,h,e=>by rw[AW]at h;subst h;simp at e
 |d::ds,_,i,v,h,e=>by
  rw[AW]at h;obtain⟨x,r,rfl,h1,h2⟩:=h;cases i with
  |zero=>simp at e;subst e;exact⟨d,rfl,h1⟩
  |succ i =>
   obtain⟨c,q1,q2⟩:=h2.get (i:=i) (v:=v) (by simpa using e);exact⟨c,by simpa using q1,q2⟩
def AW.nil{l:AD}{H:Hp}:AW l H [] []:=by rw[AW]
def AW.cons{l:AD}{H:Hp}{d:PD}{ds:List PD}{x:V}{xs:List V}(h:Dt l H d x)(k:AW l H ds xs):AW l H (d::ds) (x::xs):=by
 rw[AW];exact⟨x,xs,rfl,h,k⟩
def AW.app{l:AD}{H:Hp}:∀ {ds es:List PD} {xs ys:List V},AW l H ds xs→AW l H es ys→AW l H (ds++es) (xs++ys)
 |[],_,_,_,h,k=>by rw[AW]at h;subst h;exact k
 |d::ds,es,_,ys,h,k=>by
  rw[AW]at h;obtain⟨x,r,rfl,h1,h2⟩:=h;exact .cons h1 (h2.app k)
def Dt.int{l:AD}{H:Hp}{i:Int}:Dt l H (.int i) (.int i):=by rw[Dt]
def Dt.bool{l:AD}{H:Hp}{b:Bool}:Dt l H (.bool b) (.bl b):=by rw[Dt]
def Dt.BF{l:AD}{H:Hp}:Dt l H .none .BF:=by rw[Dt]
def Dt.str{l:AD}{H:Hp}{x:Str}:Dt l H (.str x) (.str x):=by rw[Dt]
def Dt.tup{l a:AD}{H:Hp}{ds:List PD}{xs:List V}(n:a≠l)(h:H a=some (.tup xs))(k:AW l H ds xs):Dt l H (.tuple ds) (.ref a):=by rw[Dt];exact⟨a,xs,rfl,n,h,k⟩
def Dt.lst{l a:AD}{H:Hp}{ds:List PD}{xs:List V}(n:a≠l)(h:H a=some (.lst xs))(k:AW l H ds xs):Dt l H (.list ds) (.ref a):=by rw[Dt];exact⟨a,xs,rfl,n,h,k⟩
def Ok(n:Nat)(d:PD):Prop:=d.canLay0=true∧d.depth≤n
def GK(n:Nat)(ds:List PD):Prop:=PyData.canLayAll0 ds=true∧PyData.depthAll ds≤n
def Ok.shaped{n:Nat}{d:PD}(h:Ok n d)(hn:n≤64):SeqAt.shaped d=true:=by
 unfold SeqAt.shaped;rw[h.1,Bool.true_and];exact bQ (aQ h.2 hn)
def GK.nil{n:Nat}:GK n []:=⟨by simp[PyData.canLayAll0],by simp[PyData.depthAll]⟩
def GK.cons{n:Nat}{d:PD}{ds:List PD}(h:Ok n d)(k:GK n ds):GK n (d::ds):=⟨by simp[PyData.canLayAll0,h.1,k.1],by simp only[PyData.depthAll];exact Nat.max_le.mpr ⟨h.2,k.2⟩⟩
def GK.of{n:Nat}:∀ {ds:List PD},(∀d∈ds,Ok n d)→GK n ds
 |[],_=>.nil
 |d::ds,h=>.cons (h d aR) (GK.of fun e he=>h e (aO _ he))
def Ok.tup{n:Nat}{ds:List PD}(h:GK n ds):Ok (n+1) (.tuple ds):=⟨by simp only[PyData.canLay0];exact h.1,by simp only[PyData.depth];exact Nat.succ_le_succ h.2⟩
def Ok.lst{n:Nat}{ds:List PD}(h:GK n ds):Ok (n+1) (.list ds):=⟨by simp only[PyData.canLay0];exact h.1,by simp only[PyData.depth];exact Nat.succ_le_succ h.2⟩
def Ok.int{n:Nat}{i:Int}:Ok n (.int i):=⟨by simp[PyData.canLay0],by simp[PyData.depth]⟩
def Ok.bool{n:Nat}{b:Bool}:Ok n (.bool b):=⟨by simp[PyData.canLay0],by simp[PyData.depth]⟩
def Ok.BF{n:Nat}:Ok n .none:=⟨by simp[PyData.canLay0],by simp[PyData.depth]⟩
def Ok.str{n:Nat}{x:Str}(h:PyData.strOk x=true):Ok n (.str x):=⟨by simp[PyData.canLay0,h],by simp[PyData.depth]⟩
mutual
def Su:∀d:PD,d.canLay0=true→PyData.eqv d d=true
 |.none,_=>by simp[PyData.eqv]
 |.bool _,_=>by simp[PyData.eqv]
 |.int _,_=>by simp[PyData.eqv]
 |.str _,_=>by simp[PyData.eqv]
 |.tuple ds,h=>by simp only[PyData.eqv];exact LD ds (by simpa only[PyData.canLay0]using h)
 |.list ds,h=>by simp only[PyData.eqv];exact LD ds (by simpa only[PyData.canLay0]using h)
 |.dict _,h=>by simp[PyData.canLay0]at h
def LD:∀ds:List PD,PyData.canLayAll0 ds=true→PyData.eqvAll ds ds=true
 |[],_=>by simp[PyData.eqvAll]
 |d::ds,h=>by
  simp only[PyData.canLayAll0,Bool.and_eq_true]at h;simp only[PyData.eqvAll,Su d h.1,LD ds h.2,Bool.and_self]
end
def Sv:PD→String
 |.none => "NoneType"
 |.bool _ => "bool"
 |.int _ => "int"
 |.str _ => "str"
 |.tuple _ => "tuple"
 |.list _ => "list"
 |.dict _ => "dict"
def Dt.ty{K:Fg}{l:AD}{H:Hp}:∀ {d:PD} {v:V},Dt l H d v→HX K H v (.type (Sv d))
 |.none,_,h=>by rw[Dt]at h;subst h;exact .BF
 |.bool _,_,h=>by rw[Dt]at h;subst h;exact .bl _
 |.int _,_,h=>by rw[Dt]at h;subst h;exact .int _
 |.str _,_,h=>by rw[Dt]at h;subst h;exact .str _
 |.tuple _,_,h=>by rw[Dt]at h;obtain⟨a,xs,rfl,_,h1,_⟩:=h;exact .tup h1
 |.list _,_,h=>by rw[Dt]at h;obtain⟨a,xs,rfl,_,h1,_⟩:=h;exact .lst h1
 |.dict _,_,h=>by rw[Dt]at h;exact h.elim
def DM:PD→Bool
 |.tuple _=>true
 |_=>false
def Ec:PD→Bool
 |.list _=>true
 |_=>false
def J3:PD→Bool
 |.int _=>true
 |.bool _=>true
 |_=>false
def IA:PD→Bool
 |.bool _=>true
 |_=>false
def Om(K:Fg):∀d:PD,(∀kv,d≠.dict kv)→PySem.W.kitOne K (.type (Sv d)) (.type "tuple")=some (DM d)
 |.none,_=>gK K
 |.bool _,_=>gY K
 |.int _,_=>jA K
 |.str _,_=>fw K
 |.tuple _,_=>iD K
 |.list _,_=>gA K
 |.dict kv,h=>absurd rfl (h kv)
def Tj(K:Fg):∀d:PD,(∀kv,d≠.dict kv)→PySem.W.kitOne K (.type (Sv d)) (.type "list")=some (Ec d)
 |.none,_=>fe K
 |.bool _,_=>jM K
 |.int _,_=>jd K
 |.str _,_=>gT K
 |.tuple _,_=>gB K
 |.list _,_=>fg K
 |.dict kv,h=>absurd rfl (h kv)
def fW(K:Fg):PySem.W.kitOne K (.type "NoneType") (.type "bool")=some false:=by kernel_rfl
def j6(K:Fg):PySem.W.kitOne K (.type "str") (.type "bool")=some false:=by kernel_rfl
def i7(K:Fg):PySem.W.kitOne K (.type "tuple") (.type "bool")=some false:=by kernel_rfl
def il(K:Fg):PySem.W.kitOne K (.type "list") (.type "bool")=some false:=by kernel_rfl
def ZD(K:Fg):∀d:PD,(∀kv,d≠.dict kv)→PySem.W.kitOne K (.type (Sv d)) (.type "int")=some (J3 d)
 |.none,_=>jF K
 |.bool _,_=>gO K
 |.int _,_=>i6 K
 |.str _,_=>ff K
 |.tuple _,_=>fi K
 |.list _,_=>ju K
 |.dict kv,h=>absurd rfl (h kv)
def XC(K:Fg):∀d:PD,(∀kv,d≠.dict kv)→PySem.W.kitOne K (.type (Sv d)) (.type "bool")=some (IA d)
 |.none,_=>fW K
 |.bool _,_=>jD K
 |.int _,_=>i0 K
 |.str _,_=>j6 K
 |.tuple _,_=>i7 K
 |.list _,_=>il K
 |.dict kv,h=>absurd rfl (h kv)
def Dt.nodict{l:AD}{H:Hp}{d:PD}{v:V}(h:Dt l H d v):∀kv,d≠.dict kv:=fun kv z=>by subst z;rw[Dt]at h;exact h
end L2
namespace Tr
def YM{b r:Tr}:(cons b r).FZ=true ↔ b.FZ=true∧r.FZ=true∧∀c,r.bs[0]? = some c→lt b c=false:=by
 cases r with
 |nil=>simp[bs,FZ]
 |cons c q =>
  rw[show(cons b (cons c q)).FZ=(b.FZ&&(cons c q).FZ && !lt b c) from rfl];simp only[Bool.and_eq_true,Bool.not_eq_true',bs,List.getElem?_cons_zero,Option.some.injEq,forall_eq',and_assoc]
def Og:∀t:Tr,t.FZ=true ↔ (∀c∈t.bs,c.FZ=true)∧∀(i:Nat) (a b:Tr),t.bs[i]? = some a→t.bs[i+1]? = some b→lt a b=false
 |.nil=>by simp[FZ,bs]
 |.cons b r=>by
  rw[YM,Og r,bs,List.forall_mem_cons];constructor
  ·rintro⟨h1,⟨h2,h3⟩,h4⟩;refine⟨⟨h1,h2⟩,fun i x y ex ey=>?_⟩;cases i with
   |zero=>simp at ex;subst ex;exact h4 y (by simpa using ey)
   |succ i=>exact h3 i x y (by simpa using ex) (by simpa using ey)
  ·rintro⟨⟨h1,h2⟩,h3⟩;exact⟨h1,⟨h2,fun i x y ex ey=>h3 (i+1) x y (by simpa using ex) (by simpa using ey)⟩,fun c hc=>h3 0 b c rfl (by simpa using hc)⟩
def S8{t c:Tr}(h:c∈t.bs):c.deep<t.deep:=by
 induction t with
 |nil=>cases h
 |cons b r _ ih =>
  rw[bs]at h;have hd:(cons b r).deep=max (b.deep+1) r.deep:=rfl;rcases aJ.mp h with rfl|h
  ·omega
  ·have:=ih h;omega
def C7:∀t:Tr,0<t.Ac
 |.nil=>Nat.one_pos
 |.cons b r=>by rw[Ac];have:=C7 b;omega
def K6{t c:Tr}(h:c∈t.bs):c.Ac<t.Ac:=by
 induction t with
 |nil=>cases h
 |cons b r _ ih =>
  rw[bs]at h;have hk:(cons b r).Ac=b.Ac+r.Ac:=rfl;have h3:=C7 b;have h4:=C7 r;rcases aJ.mp h with rfl|h
  ·omega
  ·have:=ih h;omega
def RC:∀t:Tr,1+(t.bs.map fun c=>(c.Ac:Int)).sum=(t.Ac:Int)
 |.nil=>rfl
 |.cons b r=>by
  rw[bs,List.map_cons,List.sum_cons,Ac];have:=RC r;omega
def Mw:∀t:Tr,t.bs.length<t.Ac
 |.nil=>Nat.one_pos
 |.cons b r=>by
  rw[bs,List.length_cons,Ac];have:=Mw r;have:=C7 b;omega
end Tr
namespace L2
open PySem PySem.Spec PyProof.Rows
def leaf:PD→Prop
 |.none=>True
 |.bool _=>True
 |.int _=>True
 |.str x=>PyData.strOk x=true
 |_=>False
def Sm:Nat→PD→Prop
 |0,d=>leaf d
 |n+1,d=>leaf d∨∃ds,(d=.tuple ds∨d=.list ds)∧ds.length≤60∧∀e∈ds,Sm n e
def leaf.ok{n:Nat}:∀ {d:PD},leaf d→Ok n d
 |.none,_=>.BF
 |.bool _,_=>.bool
 |.int _,_=>.int
 |.str _,h=>.str h
def leaf.sm{n:Nat}{d:PD}(h:leaf d):Sm n d:=by
 cases n with
 |zero=>exact h
 |succ n=>exact .inl h
def Sm.ok:∀ {n:Nat} {d:PD},Sm n d→Ok n d
 |0,_,h=>leaf.ok h
 |n+1,d,h=>by
  rcases h with h|⟨ds,h1,_,h2⟩
  ·exact h.ok
  ·have:=GK.of fun e he=>(h2 e he).ok;rcases h1 with rfl|rfl
   ·exact .tup this
   ·exact .lst this
def Sm.tup{n:Nat}{ds:List PD}(h:ds.length≤60)(k:∀e∈ds,Sm n e):Sm (n+1) (.tuple ds):=.inr ⟨ds,.inl rfl,h,k⟩
def Sm.lst{n:Nat}{ds:List PD}(h:ds.length≤60)(k:∀e∈ds,Sm n e):Sm (n+1) (.list ds):=.inr ⟨ds,.inr rfl,h,k⟩
def Sm.un{n:Nat}{d:PD}{ds:List PD}(e:d=.tuple ds∨d=.list ds)(h:Sm n d):∃m,n=m+1∧ds.length≤60∧∀x∈ds,Sm m x:=by
 cases n with
 |zero=>rcases e with rfl|rfl<;>exact h.elim
 |succ n =>
  refine⟨n,rfl,?_⟩;rcases h with h|⟨cs,h1,h2,h3⟩
  ·rcases e with rfl|rfl<;>exact h.elim
  ·rcases e with rfl|rfl
   ·rcases h1 with h1|h1
    ·cases h1;exact⟨h2,h3⟩
    ·cases h1
   ·rcases h1 with h1|h1
    ·cases h1
    ·cases h1;exact⟨h2,h3⟩
mutual
def jL{c l:AD}{H H':Hp}(e:SameBut c H H'):∀ {d:PD} {v:V},Dt c H d v→Dt l H d v→Dt l H' d v
 |.none,_,_,h=>by rw[Dt]at h ⊢;exact h
 |.bool _,_,_,h=>by rw[Dt]at h ⊢;exact h
 |.int _,_,_,h=>by rw[Dt]at h ⊢;exact h
 |.str _,_,_,h=>by rw[Dt]at h ⊢;exact h
 |.tuple _,_,k,h=>by
  rw[Dt]at h k ⊢;obtain⟨a,xs,e1,n,h1,h2⟩:=h;obtain⟨a',xs',e1',n',h1',h2'⟩:=k;subst e1;cases e1';rw[h1]at h1';cases h1';exact⟨a,xs,rfl,n,e _ _ n' h1,Ks e h2' h2⟩
 |.list _,_,k,h=>by
  rw[Dt]at h k ⊢;obtain⟨a,xs,e1,n,h1,h2⟩:=h;obtain⟨a',xs',e1',n',h1',h2'⟩:=k;subst e1;cases e1';rw[h1]at h1';cases h1';exact⟨a,xs,rfl,n,e _ _ n' h1,Ks e h2' h2⟩
 |.dict _,_,_,h=>by rw[Dt]at h;exact h.elim
def Ks{c l:AD}{H H':Hp}(e:SameBut c H H'):∀ {ds:List PD} {xs:List V},AW c H ds xs→AW l H ds xs→AW l H' ds xs
 |[],_,_,h=>by rw[AW]at h ⊢;exact h
 |_::_,_,k,h=>by
  rw[AW]at h k ⊢;obtain⟨x,r,e1,h1,h2⟩:=h;obtain⟨x',r',e1',h1',h2'⟩:=k;subst e1;cases e1';exact⟨x,r,rfl,jL e h1' h1,Ks e h2' h2⟩
end
def AW.two{c l:AD}{H H':Hp}(e:SameBut c H H'){d:List PD}{v:List V}(h:AW c H d v)(k:AW l H d v):AW l H' d v:=Ks e h k
mutual
def Au:PD→Option Tr
 |.tuple ds=>Bk ds
 |_=>none
def Bk:List PD→Option Tr
 |[]=>some .nil
 |d::ds=>(Au d).bind fun b=>(Bk ds).map fun r=>.cons b r
end
def Mf:∀ {ds:List PD} {t:Tr},Bk ds=some t ↔ ds.map Au=t.bs.map some
 |[],.nil=>by simp[Bk,Tr.bs]
 |[],.cons _ _=>by simp[Bk,Tr.bs]
 |d::ds,.nil=>by
  rw[Bk];cases Au d<;>cases Bk ds<;>simp[Tr.bs]
 |d::ds,.cons b r=>by
  rw[Bk,Tr.bs];simp only[List.map_cons,List.cons.injEq];rw[←Mf (ds:=ds) (t:=r)];cases Au d<;>cases Bk ds<;>simp
mutual
def YZ:∀ {d e:PD} {t:Tr},PyData.eqv d e=true→Au e=some t→Au d=some t
 |d,.tuple es,t,h,k=>by
  cases d with
  |tuple ds =>
   rw[PyData.eqv]at h;rw[Au]at k ⊢;exact RM h k
  |none=>simp[PyData.eqv]at h
  |bool b=>simp[PyData.eqv]at h
  |int b=>simp[PyData.eqv]at h
  |str b=>simp[PyData.eqv]at h
  |list b=>simp[PyData.eqv]at h
  |dict b=>simp[PyData.eqv]at h
 |_,.none,_,_,k=>by simp[Au]at k
 |_,.bool _,_,_,k=>by simp[Au]at k
 |_,.int _,_,_,k=>by simp[Au]at k
 |_,.str _,_,_,k=>by simp[Au]at k
 |_,.list _,_,_,k=>by simp[Au]at k
 |_,.dict _,_,_,k=>by simp[Au]at k
def RM:∀ {ds es:List PD} {t:Tr},PyData.eqvAll ds es=true→Bk es=some t→Bk ds=some t
 |[],[],_,_,k=>k
 |[],_::_,_,h,_=>by simp[PyData.eqvAll]at h
 |_::_,[],_,h,_=>by simp[PyData.eqvAll]at h
 |d::ds,e::es,t,h,k=>by
  rw[PyData.eqvAll,Bool.and_eq_true]at h;rw[Bk]at k ⊢;cases k1:Au e with
  |none=>rw[k1]at k;simp at k
  |some b =>
   cases k2:Bk es with
   |none=>rw[k1,k2]at k;simp at k
   |some r =>
    rw[k1,k2]at k;rw[YZ h.1 k1,RM h.2 k2];exact k
end
mutual
def W2{l:AD}{H:Hp}:∀ {d:PD} {v:V} {t:Tr},Dt l H d v→Au d=some t→Tv H t v
 |.tuple ds,v,t,h,k=>by
  rw[Dt]at h;rw[Au]at k;obtain⟨a,xs,rfl,_,h1,h2⟩:=h;exact⟨a,xs,rfl,h1,Sa h2 k⟩
 |.none,_,_,_,k=>by simp[Au]at k
 |.bool _,_,_,_,k=>by simp[Au]at k
 |.int _,_,_,_,k=>by simp[Au]at k
 |.str _,_,_,_,k=>by simp[Au]at k
 |.list _,_,_,_,k=>by simp[Au]at k
 |.dict _,_,_,_,k=>by simp[Au]at k
def Sa{l:AD}{H:Hp}:∀ {ds:List PD} {xs:List V} {t:Tr},AW l H ds xs→Bk ds=some t→Ts H t xs
 |[],xs,t,h,k=>by
  rw[AW]at h;rw[Bk]at k;cases k;subst h;exact .nil
 |d::ds,xs,t,h,k=>by
  rw[AW]at h;obtain⟨x,r,rfl,h1,h2⟩:=h;rw[Bk]at k;cases k1:Au d with
  |none=>rw[k1]at k;simp at k
  |some b =>
   cases k2:Bk ds with
   |none=>rw[k1,k2]at k;simp at k
   |some q =>
    rw[k1,k2]at k;cases k;exact .cons (W2 h1 k1) (Sa h2 k2)
end
def Ce(d:PD):Bool:=match Au d with
 |some t=>t.FZ
 |none=>false
def Lz{d:PD}{t:Tr}(h:Au d=some t):Ce d=t.FZ:=by unfold Ce;rw[h]
def bc{d:PD}(h:Au d=none):Ce d=false:=by unfold Ce;rw[h]
def JW{d:PD}(h:Ce d=true):∃t,Au d=some t∧t.FZ=true:=by
 unfold Ce at h;cases e:Au d with
 |none=>rw[e]at h;cases h
 |some t=>rw[e]at h;exact⟨t,rfl,h⟩
def Rc{ds:List PD}:Ce (.tuple ds)=true ↔ (∀(j:Nat) (d:PD),ds[j]? = some d→Ce d=true)∧∀(j:Nat) (d e:PD) (b c:Tr),ds[j]? = some d→ds[j+1]? = some e→Au d=some b→Au e=some c→Tr.lt b c=false:=by
 constructor
 ·intro h;obtain⟨t,h1,h2⟩:=JW h;rw[Au,Mf]at h1;obtain⟨k1,k2⟩:=(Tr.Og t).mp h2;have at_:∀(j:Nat) (d:PD),ds[j]? = some d→∃c,t.bs[j]? = some c∧Au d=some c:=fun j d hd=>by
   have e:=bJ (fun l=>l[j]?) h1;simp only[List.getElem?_map,hd,Option.map_some]at e;cases hc:t.bs[j]? with
   |none=>rw[hc]at e;cases e
   |some c=>rw[hc]at e;exact⟨c,rfl,by simpa using e⟩
  refine⟨fun j d hd=>?_,fun j d e b c hd he hb hc=>?_⟩
  ·obtain⟨c,h3,h4⟩:=at_ j d hd;rw[Lz h4];exact k1 c (aP h3)
  ·obtain⟨b',h3,h4⟩:=at_ j d hd;obtain⟨c',h5,h6⟩:=at_ (j+1) e he;rw[hb]at h4;cases h4;rw[hc]at h6;cases h6;exact k2 j _ _ h3 h5
 ·rintro⟨h1,h2⟩;have all:∀l:List PD,(∀d∈l,Ce d=true)→∃ts:List Tr,l.map Au=ts.map some:=fun l hl=>by
   induction l with
   |nil=>exact⟨[],rfl⟩
   |cons d l ih =>
    obtain⟨ts,e⟩:=ih fun x hx=>hl x (aO _ hx);obtain⟨t,e1,_⟩:=JW (hl d aR);exact⟨t::ts,by rw[List.map_cons,List.map_cons,e1,e]⟩
  obtain⟨ts,hts⟩:=all ds fun d hd=>by
   obtain⟨j,hj⟩:=bK hd;exact h1 j d hj
  have e:Au (.tuple ds)=some (Tr.of ts):=by rw[Au,Mf,Tr.Kj];exact hts
  have at_:∀(j:Nat) (c:Tr),ts[j]? = some c→∃d,ds[j]? = some d∧Au d=some c:=fun j c hc=>by
   have e:=bJ (fun l=>l[j]?) hts;simp only[List.getElem?_map,hc,Option.map_some]at e;cases hd:ds[j]? with
   |none=>rw[hd]at e;cases e
   |some d=>rw[hd]at e;exact⟨d,rfl,by simpa using e⟩
  rw[Lz e,Tr.Og,Tr.Kj];refine⟨fun c hc=>?_,fun j b c hb hc=>?_⟩
  ·obtain⟨j,hj⟩:=bK hc;obtain⟨d,h3,h4⟩:=at_ j c hj;rw[←Lz h4];exact h1 j d h3
  ·obtain⟨d,h3,h4⟩:=at_ j b hb;obtain⟨e,h5,h6⟩:=at_ (j+1) c hc;exact h2 j d e b c h3 h5 h4 h6
section
variable{X:Cx}
def kF:R2:=fun x y H Q=>∃a b xs ys,x=.ref a∧y=.ref b∧H a=some (.tup xs)∧H b=some (.tup ys)∧xs.length+ys.length≤sizeLine∧∀p H',AK H H'→H' p=some (.tup (xs++ys))→Q (.ref p) H'
def fE:Ct X (binaryOp .Add) kF:=by
 intro pins s σ H x y v u Q I rx ry h;obtain⟨a,b,xs,ys,rfl,rfl,ha,hb,hz,q⟩:=h;cases rx;cases ry;obtain⟨its,r1,p1,_⟩:=I.tuple (Ay.of (K:=X.K) ha);obtain⟨its2,r2,p2,_⟩:=I.tuple (Ay.of (K:=X.K) hb);by_cases hv:its=[]
 ·have hx:=r1.Vh.mp hv;subst hv hx;obtain⟨⟨cls,dd,data,sl⟩,ho,hc,n,hd⟩:=id p1;obtain⟨⟨cls2,dd2,data2,sl2⟩,ho2,hc2,n2,hd2⟩:=id p2;simp only at hc hd hc2 hd2;subst hc hd hc2 hd2;exact concat_meets ⟨_,ho,rfl⟩ ⟨_,ho2,rfl⟩ noFill_tuple_add seq_tuple_add PySem.F.slot_tuple_add PySem.F.entry_tuple_add (PySem.F.args_tuple_add_2 _ _)
   (tuple_addW0 a b _ _ n n2 dd dd2 sl sl2 (by simp)) ⟨ho,ho2,⟨.ref b,H,I,rfl,q b H (.refl H) (by simpa using hb)⟩⟩
 ·refine HT.dQ p1 p2 hv (fun z=>?_) (fun z=>?_) (by rw[←r1.length,←r2.length];exact hz)
  ·have hy:=r2.Vh.mp z;subst hy;exact⟨.ref a,H,I,rfl,q a H (.refl H) (by simpa using ha)⟩
  ·refine⟨.ref s.heap.objs.size,_,I.laid (t':=s.toks) (o:=.tup (xs++ys)) (fun b ob q=>aD _ q) (aG _) ?_,rfl,q _ _ (AO (I.Ap.fresh (aG _)) _) AI⟩;exact⟨by rw[List.length_append];exact hz,_,r1.append r2,IsTup.new _ _⟩
end
section
variable{P:Program}{w:World}{K:Fg}{mg:Str→Option VL}{base:Heap}{NN:List Str}{qual:Str}{fsc:Scope}{f:AD}{cd:VL}{A:Around}{outer:List Env}{s:SD}{H:Hp}{E:XK}
 {elt iter:Expr}{x:Str}{px pos:Pos}{ifs:List Expr}{scope:Scope}{wi:TI}{fr:List (Option Nat)}{ix:Nat}{tif:TT}{te:TE}{N:List Str}{pins pins0:List (AD×Obj)}{σ σ0:St}
end
end L2
namespace Tim
open PySem PyProof.Rows
section pure
variable(N:Nat)(lt:Nat→Nat→Bool)
end pure
section
variable{prog:Program}{w:World}{A:Around}{E:VL→SD→Prop}{s:SD}{N:Nat}{lt:Nat→Nat→Bool}{κ:SortKind}{it:Nat→Keyed}
variable{p:Array Nat}{pend:Array (Nat×Nat×Nat)}{g:Nat}
section pure
variable(N:Nat)(lt:Nat→Nat→Bool)(a b:Array Nat)
end pure
section pure
variable(N:Nat)(lt:Nat→Nat→Bool)
end pure
end
end Tim
set_option maxHeartbeats 0
set_option maxHeartbeats 4000000
namespace L2
open PySem PySem.Spec PyProof.Rows
variable{B B':AD→Prop}
abbrev Xh(x y:Str)(px py:Pos)(tk:Nat)(tp:Pos):Expr:=.Tuple [.Name x px,.Name y py] tk tp
def eJ{ix iy:Nat}(h:ix≠iy)(σ:St)(a b c d:Option V):((((σ.set ix a).set iy b).set ix c).set iy d)=(σ.set ix c).set iy d:=by
 rw[List.set_comm _ _ h.symm,List.set_set,List.set_set]
def XM(K:Fg)(wi:TI)(fr:List (Option Nat))(ix iy:Nat)(tif:TT)(te:TE):TE:=fun σ H Q=>wi σ H fun J H1=>∀D,H1 D=none→∃W:Nat→Nat→List V→Hp→Prop,(∃m,W 0 m [] (upd H1 D (.lst []))) ∧
 ∀i m ys H,W i m ys H→H D=some (.lst ys)∧((J.stop i H∧Q (.ref D) H)∨(J.go i H∧ys.length<sizeLine∧∀x H',J.Ef i H x H'→∃a v1 v2,x=.ref a∧Ay K H' a [v1,v2] ∧
  tif (((carry fr σ).set ix (some v1)).set iy (some v2)) H' fun b H2=>if b=true then te (((carry fr σ).set ix (some v1)).set iy (some v2)) H2 fun y H3=>H3 D=some (.lst ys)∧∃m',m'<m∧W (i+1) m' (ys++[y]) (upd H3 D (.lst (ys++[y])))
   else ∃m',m'<m∧W (i+1) m' ys H2))
section
variable{X:Cx}{elt iter:Expr}{x y:Str}{px py tp pos:Pos}{tk:Nat}{ifs:List Expr}{scope:Scope}{wi:TI}{fr:List (Option Nat)}{ix iy:Nat}{tif:TT}{te:TE}{N:List Str}
def Uc{pins:List (AD×Obj)}{σ:St}{H2:Hp}{s2:SD}{Q:VK}{it:AD}{fp:List AD}{tn:Nat→Heap→Prop}{J:It}{cl:List (Str×AD)}{E:VL→SD→Prop}{RR:VL→AD→Result→SD→Prop}
 (S:EB scope N x ix)(S2:EB scope N y iy)(hxy:ix≠iy)(hcalm:X.calm=true)(hfr:F7 N X.N scope X.env.scope fr 0=true)(hlen:fr.length=N.length)
 (hif:∀cl C s₀ H₀ fp,Mi (A9 X scope cl N C s₀ H₀ fp) ifs tif)(he:∀cl C s₀ H₀ fp,PE (A9 X scope cl N C s₀ H₀ fp) elt te)
 (I2:Inv X pins σ H2 s2)(T:Turn X.prog X.w X.K (Xh x y px py tk tp) J fp it tn)(st2:tn 0 s2.heap)(f2:∀b∈fp,LB X pins H2 b)
 (c1:∀x c,cl.lookup x=some c→X.env.cells.lookup x=some c)(c2:∀x∈scope.names,x.2=NameKind.free→∃c,cl.lookup x.1=some c)
 (W:∀D,H2 D=none→∃W:Nat→Nat→List V→Hp→Prop,(∃m,W 0 m [] (upd H2 D (.lst []))) ∧
   ∀i m ys H,W i m ys H→H D=some (.lst ys)∧((J.stop i H∧Q (.ref D) H)∨(J.go i H∧ys.length<sizeLine∧∀x H',J.Ef i H x H'→∃a v1 v2,x=.ref a∧Ay X.K H' a [v1,v2] ∧
    tif (((carry fr σ).set ix (some v1)).set iy (some v2)) H' fun b H2=>if b=true then te (((carry fr σ).set ix (some v1)).set iy (some v2)) H2 fun y H3=>H3 D=some (.lst ys)∧∃m',m'<m∧W (i+1) m' (ys++[y]) (upd H3 D (.lst (ys++[y])))
     else ∃m',m'<m∧W (i+1) m' ys H2)))
 (fin:∀(D C:AD) (s':SD) (H':Hp) m,s'.heap.Ns C m→Q (.ref D) H'→(∀h',Heap.SameBut C s'.heap h'→Inv X pins σ H' { s' with heap:=h'})→C≠D→(∀b o,s2.heap.get? b=some o→b≠C)→H' C=none→s2.heap.objs.size≤C→RR (.ref D) C (.ok .next) s') :
  wpAny (model X.prog X.w) X.A (newList []) (fun acc s₃=>wpAny (model X.prog X.w) X.A (newFunctionEnv scope X.env.globals cl [] X.env.qual none .none (some X.env)) (fun cenv s₄ =>
   codeAny (model X.prog X.w) X.A (.compStart (.ListComp elt [⟨Xh x y px py tk tp,iter,ifs,0⟩] scope pos) 0 (.ref it) acc {cenv with scope:=relabel scope X.env}) (RR acc cenv.locals) s₄) E s₃) E s2:=by
 have hxv:(relabel scope X.env).names.lookup x=some .local:=lookup_relabel_local S.loc;have hyv:(relabel scope X.env).names.lookup y=some .local:=lookup_relabel_local S2.loc;refine N2 (g:=Wc X.K 2 (Kg (EJ ix) (Kg (EJ iy) WY))) S hcalm (fun σ'=>∀v w,(σ'.set ix v).set iy w=((carry fr σ).set ix v).set iy w) (fun _ _=>rfl) (fun C=>KP (X:=A9 X scope cl N C s2 H2 fp) hcalm (CV (Az (X:=A9 X scope cl N C s2 H2 fp) S.nd S.at_ (.inl hxv) (.inr hxv)) (CV (Az (X:=A9 X scope cl N C s2 H2 fp) S2.nd S2.at_ (.inl hyv) (.inr hyv)) Hu))) hfr hlen hif he I2 T st2 f2 c1 c2 (fun D hD=>?_) fin;obtain⟨W,w0,st⟩:=W D hD;refine⟨W,w0,fun i m ys H w=>?_⟩;obtain⟨h1,h2|⟨h2,h3,h4⟩⟩:=st i m ys H w
 ·exact⟨h1,.inl h2⟩
 ·refine⟨h1,.inr ⟨h2,h3,fun x H' hy σ' hr=>?_⟩⟩;obtain⟨a,v1,v2,rfl,hs,q⟩:=h4 x H' hy;rw[←hr]at q;exact⟨a,[v1,v2],rfl,hs,rfl,v1,[v2],rfl,v2,[],rfl,rfl,fun v w=>by rw[eJ hxy,hr],q⟩
def Z9(S:EB scope N x ix)(S2:EB scope N y iy)(hxy:ix≠iy)(hcalm:X.calm=true)(hfr:F7 N X.N scope X.env.scope fr 0=true)(hlen:fr.length=N.length)(hfree:∀y∈scope.names,y.2=.free→X.env.scope.names.lookup y.1=some .cell∨X.env.scope.names.lookup y.1=some .free)
 (hi:PI X (Xh x y px py tk tp) iter wi)(hif:∀cl C s₀ H₀ fp,Mi (A9 X scope cl N C s₀ H₀ fp) ifs tif)(he:∀cl C s₀ H₀ fp,PE (A9 X scope cl N C s₀ H₀ fp) elt te)
 (hs:∀x,foldedSetIterable iter X.env x=pure x:=by intro _;rfl):PE X (.ListComp elt [⟨Xh x y px py tk tp,iter,ifs,0⟩] scope pos) (XM X.K wi fr ix iy tif te):=by
 intro pins s σ H Q I hw;obtain⟨cl,hclos,c1,_,c2⟩:=HU (env:=X.env) scope.names [] (fun y hy hf=>I.ok.has y.1 (hfree y hy hf)) (fun y c z=>by cases z);have hclos':closureFor scope X.env=pure cl:=by
  have e:closureFor scope X.env=((forIn scope.names [] (fun(x:Str×NameKind) (r:List (Str×AD))=>do if(x.2==NameKind.free)=true then do let a ←cellOf X.env x.1;pure (ForInStep.yield ((x.1,a)::r)) else pure (ForInStep.yield r)):Sem (List (Str×AD)))>>=fun cs=>pure cs):=rfl;rw[e,hclos]
  rfl
 rw[eval_ListComp];refine wpAny_comprehension_free (use:=none) rfl hs hclos' S.kind S.names (BN (hi pins s σ H _ I hw) fun v s1 h1=>BN h1 fun itv s2 h2=>?_);obtain⟨it,fp,tn,J,H2,e,I2,T,st2,f2,W⟩:=h2;subst e;refine Uc (RR:=fun acc C=>compPost (model X.prog X.w) X.A X.xe none (EP X pins σ Q) acc C) S S2 hxy hcalm hfr hlen hif he I2 T st2 f2 c1 c2 W ?_;intro D C s' H' m hn q hI _ _ _ _;exact⟨m,hn,fun h' hs'=>⟨.ref D,H',hI h' hs',rfl,q⟩⟩
end
section
variable{X:Cx}{elt iter:Expr}{x y:Str}{px py tp pos:Pos}{tk:Nat}{ifs:List Expr}{scope:Scope}{wi:TI}{tif:TT}{te:TE}
def RD(N:List Str)(ix iy:Nat)(fr:List (Option Nat))(hi:PI X (Xh x y px py tk tp) iter wi)(hif:∀cl C s₀ H₀ fp,Mi (A9 X scope cl N C s₀ H₀ fp) ifs tif)(he:∀cl C s₀ H₀ fp,PE (A9 X scope cl N C s₀ H₀ fp) elt te)
 (h1:Dc scope N x ix=true:=by decide +kernel)(h1':Dc scope N y iy=true:=by decide +kernel)(hxy:ix≠iy:=by decide)(h2:X.calm=true:=by rfl)(h3:F7 N X.N scope X.env.scope fr 0=true:=by rfl)(h4:fr.length=N.length:=by rfl)(h5:freeOk X.env.scope scope.names=true:=by rfl)
 (hs:∀x,foldedSetIterable iter X.env x=pure x:=by intro _;rfl):PE X (.ListComp elt [⟨.Tuple [.Name x px,.Name y py] tk tp,iter,ifs,0⟩] scope pos) (XM X.K wi fr ix iy tif te) :=
 Z9 (HV h1) (HV h1') hxy h2 h3 h4 (Mu h5) hi hif he hs
end
def SV{K:Fg}{J:It}{n:Nat}{D:AD}{H1:Hp}{fr:List (Option Nat)}{σ:St}{ix iy:Nat}{tif:TT}{te:TE}{G:Hp→Prop}(Pv:Nat→List V→Hp→Prop)(h0:Pv 0 [] (upd H1 D (.lst [])))
 (hgo:∀i ys H,i<n→Pv i ys H→H D=some (.lst ys)→J.go i H∧ys.length<sizeLine∧∀x H',J.Ef i H x H'→∃a v1 v2,x=.ref a∧Ay K H' a [v1,v2] ∧
   tif (((carry fr σ).set ix (some v1)).set iy (some v2)) H' fun b H2=>if b=true then te (((carry fr σ).set ix (some v1)).set iy (some v2)) H2 fun y H3=>H3 D=some (.lst ys)∧∃m',m'<n-i∧CW Pv n D (i+1) m' (ys++[y]) (upd H3 D (.lst (ys++[y])))
    else ∃m',m'<n-i∧CW Pv n D (i+1) m' ys H2)
 (hstop:∀ys H,Pv n ys H→H D=some (.lst ys)→J.stop n H∧G H) :
  ∃W:Nat→Nat→List V→Hp→Prop,(∃m,W 0 m [] (upd H1 D (.lst []))) ∧
   ∀i m ys H,W i m ys H→H D=some (.lst ys)∧((J.stop i H∧G H)∨(J.go i H∧ys.length<sizeLine∧∀x H',J.Ef i H x H'→∃a v1 v2,x=.ref a∧Ay K H' a [v1,v2] ∧
    tif (((carry fr σ).set ix (some v1)).set iy (some v2)) H' fun b H2=>if b=true then te (((carry fr σ).set ix (some v1)).set iy (some v2)) H2 fun y H3=>H3 D=some (.lst ys)∧∃m',m'<m∧W (i+1) m' (ys++[y]) (upd H3 D (.lst (ys++[y])))
     else ∃m',m'<m∧W (i+1) m' ys H2)):=by
 refine⟨CW Pv n D,⟨n,by simp,Nat.zero_le _,AI,h0⟩,?_⟩;rintro i m ys H ⟨rfl,hi,hH,p⟩;refine⟨hH,?_⟩;by_cases hlt:i<n
 ·exact .inr (hgo i ys H hlt p hH)
 ·have:i=n:=by omega
  subst this;exact .inl (hstop ys H p hH)
end L2
namespace ZT
open PySem PyProof.Rows
structure Apart(z TI TO i1 i2:Addr)(f1 f2:List Addr):Prop where
 a1:TI≠z∧TI≠TO∧TI≠i1∧TI≠i2
 a2:TO≠z∧TO≠i1∧TO≠i2
 a3:i1≠z∧i2≠z∧i1≠i2
 b1:z ∉ f1∧TO ∉ f1∧i2 ∉ f1
 b2:z ∉ f2∧TO ∉ f2∧i1 ∉ f2
section
variable{prog:Program}{w:World}{A:Around}{E:VL→SD→Prop}{s:SD}{z TI TO i1 i2:AD}{f1 f2:List AD}{n1 n2 k:Nat}{P1 P2:Nat→VL→Prop}{S1 S2:Nat→Heap→Prop}{a b:VL}
def Am{f:List AD}{x:AD}{h h':Heap}(hx:x ∉ f)(e:Heap.SameBut x h h'):∀c∈f,∀o,h.get? c=some o→h'.get? c=some o:=fun c hc o q=>(e.2 c fun y=>hx (y ▸ hc)).trans q
def item{Q:VL→SD→Prop}(D1:Draws prog w A i1 f1 n1 P1 S1)(D2:Draws prog w A i2 f2 n2 P2 S2)(ap:Apart z TI TO i1 i2 f1 f2)(hz:IsZip s.heap z TI TO .none)(hI:IsPair s.heap TI (.ref i1) (.ref i2))(hO:IsPair s.heap TO a b)
 (t1:S1 k s.heap)(t2:S2 k s.heap)(l1:k<n1)(l2:k<n2)
 (q:∀x y h' tk,P1 k x→P2 k y→IsZip h' z TI TO (rawInt s.heap.objs.size)→IsPair h' TO x y→S1 (k+1) h'→S2 (k+1) h'→IsPair h' s.heap.objs.size x y→h'.objs.size=s.heap.objs.size+1 →
   (∀c o,c≠z→c≠TO→c≠i1→c≠i2→s.heap.get? c=some o→h'.get? c=some o)→Q (.ref s.heap.objs.size) {s with heap:=h',toks:=tk}) :
  wpAny (model prog w) A (Builtin.«zip.__next__» ⟨[.ref z],[]⟩) (fun fin s'=>∃v,fin=.done (.ret v)∧Q v s') E s:=by
 obtain⟨⟨c1,c2,c3,c4⟩,⟨c5,c6,c7⟩,⟨c8,c9,c10⟩,⟨d1,d2,d3⟩,d4,d5,d6⟩:=ap;show wpAny _ _ (field (.ref z) 2>>=_) _ _ _;refine Wb (af hz rfl (x:=.bool false) rfl ?_);show wpAny _ _ (field (.ref z) 3>>=_) _ _ _;refine Wb (af hz rfl (x:=.ref TI) rfl (Wb (aX hI rfl ?_)));show wpAny _ _ (Builtin.SmallTypes.ownedTupleIsFree (.ref z)>>=_) _ _ _;unfold Builtin.SmallTypes.ownedTupleIsFree;refine Wb (Wb (af hz rfl (x:=.none) rfl (aA ?_)));simp only[if_true];refine Wb (bT (Wb (af hz rfl (x:=.ref TO) rfl (Wb (ak hz (by simp) fun g1 z1 m1=>Wb ?_)))));have m1:Heap.SameBut z s.heap g1:=m1;have z1:IsZip g1 z TI TO .ellipsis:=z1;simp only[List.zipIdx_cons,List.zipIdx_nil,List.forIn_cons,List.forIn_nil];refine Wb (Wb (bO ?_));show wpAny _ _ (Builtin.SmallTypes.nextOf (.ref i1)>>=_) _ _ _;refine Wb (D1.item k _ _ _ l1 (D1.frame _ _ _ t1 (Am d1 m1)) fun x g2 tk2 p1 u1 m2=>aA ?_);have o2:IsPair g2 TO a b:=(m2.2 _ c6).trans ((m1.2 _ c5).trans hO);refine Wb (aX o2 rfl (Wb (wpAny_updateSeq_pair o2 fun g3 o3 m3=>Wb (wpAny_letGo (aA ?_)))));have o3:IsPair g3 TO x b:=o3;have t2':S2 k g3:=D2.frame _ _ _ (D2.frame _ _ _ (D2.frame _ _ _ t2 (Am d4 m1)) (Am d6 m2)) (Am d5 m3);refine Wb (Wb (bO ?_));show wpAny _ _ (Builtin.SmallTypes.nextOf (.ref i2)>>=_) _ _ _;refine Wb (D2.item k _ _ _ l2 t2' fun y g4 tk4 p2 u2 m4=>aA ?_);have m3:Heap.SameBut TO g2 g3:=m3;have m4:Heap.SameBut i2 g3 g4:=m4;have o4:IsPair g4 TO x b:=(m4.2 _ c7).trans o3;refine Wb (aX o4 rfl (Wb (wpAny_updateSeq_pair o4 fun g5 o5 m5=>Wb (wpAny_letGo (aA (aA ?_))))));have m5:Heap.SameBut TO g4 g5:=m5;have o5:IsPair g5 TO x y:=o5;refine Wb (aX o5 rfl (Wb (wpAny_newTuple ?_)));have m2:Heap.SameBut i1 g1 g2:=m2;have sz:g5.objs.size=s.heap.objs.size:=by rw[m5.1,m4.1,m3.1,m2.1,m1.1]
 have z5:IsZip g5 z TI TO .ellipsis:=(m5.2 _ c5.symm).trans ((m4.2 _ c9.symm).trans ((m3.2 _ c5.symm).trans ((m2.2 _ c8.symm).trans z1)));have kp:∀c o,c≠z→c≠TO→c≠i1→c≠i2→s.heap.get? c=some o→g5.get? c=some o:=fun c o e1 e2 e3 e4 e=>(m5.2 _ e2).trans ((m4.2 _ e4).trans ((m3.2 _ e2).trans ((m2.2 _ e3).trans ((m1.2 _ e1).trans e))));have v1:S1 (k+1) g5:=D1.frame _ _ _ (D1.frame _ _ _ (D1.frame _ _ _ u1 (Am d2 m3)) (Am d3 m4)) (Am d2 m5);have v2:S2 (k+1) g5:=D2.frame _ _ _ u2 (Am d5 m5);show wpAny _ _ (Builtin.SmallTypes.ownedTupleHandOut (.ref z) (.ref g5.objs.size)>>=_) _ _ _;unfold Builtin.SmallTypes.ownedTupleHandOut;have z6:IsZip (g5.push { cls:=.type "tuple",data:=.seq #[x,y]}) z TI TO .ellipsis:=aD _ z5;refine Wb (Wb (ak z6 (by simp) fun g7 z7 m7=>ak (show IsZip g7 z TI TO (rawInt g5.objs.size) from z7) (by simp) fun g8 z8 m8=>?_));have z8:IsZip g8 z TI TO (rawInt g5.objs.size):=z8;have up:∀c o,c≠z→(g5.push { cls:=.type "tuple",data:=.seq #[x,y]}).get? c=some o→g8.get? c=some o:=fun c o e1 e=>(m8.2 _ e1).trans ((m7.2 _ e1).trans e);have zl:z<g5.objs.size:=aF z5;refine aA ⟨_,rfl,?_⟩;show Q (.ref g5.objs.size) _;have fin:=q x y g8 tk4 p1 p2 (by rw[←sz];exact z8) (up _ _ c5 (aD _ o5)) (D1.frame _ _ _ v1 fun c hc o e=>up c o (fun y=>d1 (y ▸ hc)) (aD _ e)) (D2.frame _ _ _ v2 fun c hc o e=>up c o (fun y=>d4 (y ▸ hc)) (aD _ e))
  (by rw[←sz];exact up _ _ (bW zl) (aI _ rfl)) (by rw[←sz,m8.1,m7.1,Heap.size_push]) fun c o e1 e2 e3 e4 e=>up c o e1 (aD _ (kp c o e1 e2 e3 e4 e))
 rw[sz];exact fin
def ended{Q:Fin→SD→Prop}(D1:Draws prog w A i1 f1 n1 P1 S1)(D2:Draws prog w A i2 f2 n2 P2 S2)(ap:Apart z TI TO i1 i2 f1 f2)(hz:IsZip s.heap z TI TO .none)(hI:IsPair s.heap TI (.ref i1) (.ref i2))(hO:IsPair s.heap TO a b)
 (t1:S1 k s.heap)(t2:S2 k s.heap)(he:k=n1∨(k<n1∧k=n2))
 (q:∀h' e tk,(∀c o,c≠z→c≠TO→c≠i1→c≠i2→s.heap.get? c=some o→h'.get? c=some o)→(∃o,h'.get? e=some o∧o.cls=.type "StopIteration")→E (.ref e) {s with heap:=h',toks:=tk}) :
  wpAny (model prog w) A (Builtin.«zip.__next__» ⟨[.ref z],[]⟩) Q E s:=by
 obtain⟨⟨c1,c2,c3,c4⟩,⟨c5,c6,c7⟩,⟨c8,c9,c10⟩,⟨d1,d2,d3⟩,d4,d5,d6⟩:=ap;show wpAny _ _ (field (.ref z) 2>>=_) _ _ _;refine Wb (af hz rfl (x:=.bool false) rfl ?_);show wpAny _ _ (field (.ref z) 3>>=_) _ _ _;refine Wb (af hz rfl (x:=.ref TI) rfl (Wb (aX hI rfl ?_)));show wpAny _ _ (Builtin.SmallTypes.ownedTupleIsFree (.ref z)>>=_) _ _ _;unfold Builtin.SmallTypes.ownedTupleIsFree;refine Wb (Wb (af hz rfl (x:=.none) rfl (aA ?_)));simp only[if_true];refine Wb (bT (Wb (af hz rfl (x:=.ref TO) rfl (Wb (ak hz (by simp) fun g1 z1 m1=>Wb ?_)))));have m1:Heap.SameBut z s.heap g1:=m1;have z1:IsZip g1 z TI TO .ellipsis:=z1;simp only[List.zipIdx_cons,List.zipIdx_nil,List.forIn_cons,List.forIn_nil];refine Wb (Wb (bO ?_));show wpAny _ _ (Builtin.SmallTypes.nextOf (.ref i1)>>=_) _ _ _;have t1':=D1.frame _ _ _ t1 (Am d1 m1);rcases he with he|⟨he1,he2⟩
 ·rw[he]at t1';refine Wb (D1.done _ _ _ t1' fun g2 e m2 ho=>?_);obtain⟨o,ho,hc⟩:=ho;have z2:IsZip g2 z TI TO .ellipsis:=m2 _ _ c8.symm z1;have ez:e≠z:=fun y=>by subst y;rw[z2]at ho;cases ho;simp at hc
  exact ak z2 (by simp) fun g3 _ m3=>q g3 e _ (fun c o e1 e2 e3 e4 y=>(m3.2 _ e1).trans (m2 _ _ e3 ((m1.2 _ e1).trans y))) ⟨o,(m3.2 _ ez).trans ho,hc⟩
 ·refine Wb (D1.item k _ _ _ he1 t1' fun x g2 tk2 p1 u1 m2=>aA ?_);have o2:IsPair g2 TO a b:=(m2.2 _ c6).trans ((m1.2 _ c5).trans hO);refine Wb (aX o2 rfl (Wb (wpAny_updateSeq_pair o2 fun g3 o3 m3=>Wb (wpAny_letGo (aA ?_)))));have t2':S2 k g3:=D2.frame _ _ _ (D2.frame _ _ _ (D2.frame _ _ _ t2 (Am d4 m1)) (Am d6 m2)) (Am d5 m3);rw[he2]at t2';have m2:Heap.SameBut i1 g1 g2:=m2;have m3:Heap.SameBut TO g2 g3:=m3;refine Wb (Wb (bO ?_));show wpAny _ _ (Builtin.SmallTypes.nextOf (.ref i2)>>=_) _ _ _;refine Wb (D2.done _ _ _ t2' fun g4 e m4 ho=>?_);obtain⟨o,ho,hc⟩:=ho;have z4:IsZip g4 z TI TO .ellipsis:=m4 _ _ c9.symm ((m3.2 _ c5.symm).trans ((m2.2 _ c8.symm).trans z1));have ez:e≠z:=fun y=>by subst y;rw[z4]at ho;cases ho;simp at hc
  exact ak z4 (by simp) fun g5 _ m5=>q g5 e _ (fun c o e1 e2 e3 e4 y=>(m5.2 _ e1).trans (m4 _ _ e4 ((m3.2 _ e2).trans ((m2.2 _ e3).trans ((m1.2 _ e1).trans y))))) ⟨o,(m5.2 _ ez).trans ho,hc⟩
def next_item{Q:Option VL→SD→Prop}(D1:Draws prog w A.in1 i1 f1 n1 P1 S1)(D2:Draws prog w A.in1 i2 f2 n2 P2 S2)(ap:Apart z TI TO i1 i2 f1 f2)(hz:IsZip s.heap z TI TO .none)(hI:IsPair s.heap TI (.ref i1) (.ref i2))(hO:IsPair s.heap TO a b)
 (t1:S1 k s.heap)(t2:S2 k s.heap)(l1:k<n1)(l2:k<n2)
 (q:∀x y h' tk,P1 k x→P2 k y→IsZip h' z TI TO (rawInt s.heap.objs.size)→IsPair h' TO x y→S1 (k+1) h'→S2 (k+1) h'→IsPair h' s.heap.objs.size x y→h'.objs.size=s.heap.objs.size+1 →
   (∀c o,c≠z→c≠TO→c≠i1→c≠i2→s.heap.get? c=some o→h'.get? c=some o)→Q (some (.ref s.heap.objs.size)) {s with heap:=h',toks:=tk}) :
  wpAny (model prog w) A (pyNext (.ref z)) Q E s:=by
 have hT:s.TypeIs (.ref z) "zip" := ⟨_,hz,rfl⟩;unfold pyNext;exact Wb (wpAny_attempt (ag (name:=Str.ofString "__next__") hT bX
  (aW bX hT F.entry_zip_next (item D1 D2 ap hz hI hO t1 t2 l1 l2 fun x y h' tk r1 r2 r3 r4 r5 r6 r7 r8 r9=>aA (q x y h' tk r1 r2 r3 r4 r5 r6 r7 r8 r9)) (F.args_zip_next_1 _))))
def next_end{Q:Option VL→SD→Prop}(D1:Draws prog w A.in1 i1 f1 n1 P1 S1)(D2:Draws prog w A.in1 i2 f2 n2 P2 S2)(ap:Apart z TI TO i1 i2 f1 f2)(hz:IsZip s.heap z TI TO .none)(hI:IsPair s.heap TI (.ref i1) (.ref i2))(hO:IsPair s.heap TO a b)
 (t1:S1 k s.heap)(t2:S2 k s.heap)(he:k=n1∨(k<n1∧k=n2))
 (q:∀h' tk,(∀c o,c≠z→c≠TO→c≠i1→c≠i2→s.heap.get? c=some o→h'.get? c=some o)→Q none {s with heap:=h',toks:=tk}) :
  wpAny (model prog w) A (pyNext (.ref z)) Q E s:=by
 have hT:s.TypeIs (.ref z) "zip" := ⟨_,hz,rfl⟩;unfold pyNext;refine Wb (wpAny_attempt (ag (name:=Str.ofString "__next__") hT bX
  (aW bX hT F.entry_zip_next (ended D1 D2 ap hz hI hO t1 t2 he fun h' e tk kp ho=>?_) (F.args_zip_next_1 _))))
 obtain⟨o,ho,hc⟩:=ho;exact Wb (wpAny_isInstance (T := "StopIteration") (b:=true) ⟨o,ho,hc⟩ isSubtype_stop (aA (q _ _ kp)))
end
end ZT
namespace ZT
open PySem PyProof.Rows
def Sq(b:Bool)(h:Heap)(l:AD)(xs:List VL):Prop:=if b then h.IsTuple l xs.toArray else h.IsList l xs.toArray
def BE(b:Bool)(l:AD):Obj:=if b then { cls:=.type "tuple_iterator",data:=.fields #[.ref l,.int 0 0]} else { cls:=.type "list_iterator",data:=.fields #[.ref l,.int 0 0]}
def Jm(b:Bool)(h:Heap)(it l:AD)(k:Nat):Prop:=if b then h.IsTupleIter it l k else h.IsListIter it l k
def Sq.push{b:Bool}{h:Heap}{l:AD}{xs:List VL}(o:Obj)(x:Sq b h l xs):Sq b (h.push o) l xs:=by
 cases b with
 |true=>obtain⟨u,e,r⟩:=(show h.IsTuple l xs.toArray from x);exact(show(h.push o).IsTuple l xs.toArray from⟨u,Heap.get?_push_of_some _ e,r⟩)
 |false=>obtain⟨u,e,r⟩:=(show h.IsList l xs.toArray from x);exact(show(h.push o).IsList l xs.toArray from⟨u,Heap.get?_push_of_some _ e,r⟩)
section
variable{prog:Program}{w:World}{A:Around}{E:VL→SD→Prop}{s:SD}
def Lh{b:Bool}{l:AD}{xs:List VL}{Q:VL→SD→Prop}(x:Sq b s.heap l xs)(h:Q (.ref s.heap.objs.size) {s with heap:=s.heap.push (BE b l)}):wpAny (model prog w) A (pyIter (.ref l)) Q E s:=by
 cases b with
 |true=>exact wpAny_pyIter_tuple x h
 |false=>exact wpAny_pyIter_list x h
def EE(hh:A.handled=none)(b:Bool)(it l:AD)(xs:List VL)(hne:l≠it):Draws prog w A it [it,l] xs.length (fun i v=>xs[i]? = some v) (fun i h=>Jm b h it l i∧Sq b h l xs):=by
 cases b with
 |true=>exact ET.draws hh it l xs hne
 |false =>
  have:=Draws.list (prog:=prog) (w:=w) hh it l hne xs.toArray
  simpa[Jm,Sq]using this
def zh(b1 b2:Bool)(h:Heap)(l1 l2:AD):Heap :=
 ((((h.push (BE b1 l1)).push (BE b2 l2)).push { cls:=.type "tuple",data:=.seq #[.ref h.objs.size,.ref (h.push (BE b1 l1)).objs.size]}).push { cls:=.type "tuple",data:=.seq #[.none,.none]}).push
  { cls:=.type "zip",data:=.fields #[.none,.bool false,.bool false,.ref ((h.push (BE b1 l1)).push (BE b2 l2)).objs.size,.ref (((h.push (BE b1 l1)).push (BE b2 l2)).push { cls:=.type "tuple",data:=.seq #[.ref h.objs.size,.ref (h.push (BE b1 l1)).objs.size]}).objs.size]}
def dh(b1 b2:Bool)(l1 l2:AD)(xs ys:List VL) :
  Meets (Builtin.«zip.__new__» ⟨[.type "zip",.ref l1,.ref l2],[]⟩) (fun _ R s=>Sq b1 s.heap l1 xs∧Sq b2 s.heap l2 ys ∧
   R (.ok (.ret (.ref ((((s.heap.push (BE b1 l1)).push (BE b2 l2)).push { cls:=.type "tuple",data:=.seq #[.ref s.heap.objs.size,.ref (s.heap.push (BE b1 l1)).objs.size]}).push { cls:=.type "tuple",data:=.seq #[.none,.none]}).objs.size)) ) {s with heap:=zh b1 b2 s.heap l1 l2}) :=
 .of_wp fun prog w A R s h=>by
  obtain⟨hp,g,d,tk,os⟩:=s;obtain⟨h1,h2,h⟩:=h;have hsub:=sub_zip;have i1:∀(A:Around) (E:VL→SD→Prop) (Q:VL→SD→Prop),Q (.ref hp.objs.size) ⟨hp.push (BE b1 l1),g,d,tk,os⟩→wpAny (model prog w) A (pyIter (.ref l1)) Q E ⟨hp,g,d,tk,os⟩:=fun A E Q q=>Lh (s:=⟨hp,g,d,tk,os⟩) h1 q;have i2:∀(A:Around) (E:VL→SD→Prop) (Q:VL→SD→Prop),Q (.ref (hp.push (BE b1 l1)).objs.size) ⟨(hp.push (BE b1 l1)).push (BE b2 l2),g,d,tk,os⟩→wpAny (model prog w) A (pyIter (.ref l2)) Q E ⟨hp.push (BE b1 l1),g,d,tk,os⟩:=fun A E Q q=>Lh (s:=⟨hp.push (BE b1 l1),g,d,tk,os⟩) (h2.push _) q
  wp_walk using i1,i2
  exact⟨_,rfl,h⟩
def ZA{b1 b2:Bool}{l1 l2:AD}{xs ys:List VL}{Q:VL→SD→Prop}(h1:Sq b1 s.heap l1 xs)(h2:Sq b2 s.heap l2 ys)
 (h:∀h',IsZip h' (s.heap.objs.size+4) (s.heap.objs.size+2) (s.heap.objs.size+3) .none→IsPair h' (s.heap.objs.size+2) (.ref s.heap.objs.size) (.ref (s.heap.objs.size+1))→IsPair h' (s.heap.objs.size+3) .none .none →
   Jm b1 h' s.heap.objs.size l1 0→Jm b2 h' (s.heap.objs.size+1) l2 0→(∀c o,s.heap.get? c=some o→h'.get? c=some o)→Q (.ref (s.heap.objs.size+4)) {s with heap:=h'}) :
  wpAny (model prog w) A (call (.type "zip") [.ref l1,.ref l2]) Q E s:=by
 refine callType_new F.called_zip (by decide) (F.typeCall_zip_2 _ _) (F.newCall_zip_2 _ _) (fun obj=>F.args_object_init_3 obj _ _) F.entry_zip_new (dh b1 b2 l1 l2 xs ys) ⟨h1,h2,?_⟩;have n1:(s.heap.push (BE b1 l1)).objs.size=s.heap.objs.size+1:=Heap.size_push ..;have up:∀(g:Heap) (o:Obj) (c:AD) (u:Obj),g.get? c=some u→(g.push o).get? c=some u:=fun g o c u e=>aD _ e;have a0:(s.heap.push (BE b1 l1)).get? s.heap.objs.size=some (BE b1 l1):=aI _ (by cases b1<;>rfl);generalize hg1:s.heap.push (BE b1 l1)=g1 at n1 a0;have k1:∀c o,s.heap.get? c=some o→g1.get? c=some o:=fun c o e=>by rw[←hg1];exact up _ _ _ _ e
 have n2:(g1.push (BE b2 l2)).objs.size=s.heap.objs.size+2:=by rw[Heap.size_push,n1]
 have a1:(g1.push (BE b2 l2)).get? (s.heap.objs.size+1)=some (BE b2 l2):=by rw[←n1];exact aI _ (by cases b2<;>rfl)
 generalize hg2:g1.push (BE b2 l2)=g2 at n2 a1;have k2:∀c o,g1.get? c=some o→g2.get? c=some o:=fun c o e=>by rw[←hg2];exact up _ _ _ _ e
 have n3:(g2.push { cls:=.type "tuple",data:=.seq #[.ref s.heap.objs.size,.ref (s.heap.objs.size+1)]}).objs.size=s.heap.objs.size+3:=by rw[Heap.size_push,n2]
 have a2:IsPair (g2.push { cls:=.type "tuple",data:=.seq #[.ref s.heap.objs.size,.ref (s.heap.objs.size+1)]}) (s.heap.objs.size+2) (.ref s.heap.objs.size) (.ref (s.heap.objs.size+1)):=by rw[←n2];exact aI _ rfl
 generalize hg3:g2.push { cls:=.type "tuple",data:=.seq #[.ref s.heap.objs.size,.ref (s.heap.objs.size+1)]}=g3 at n3 a2;have k3:∀c o,g2.get? c=some o→g3.get? c=some o:=fun c o e=>by rw[←hg3];exact up _ _ _ _ e
 have n4:(g3.push { cls:=.type "tuple",data:=.seq #[.none,.none]}).objs.size=s.heap.objs.size+4:=by rw[Heap.size_push,n3]
 have a3:IsPair (g3.push { cls:=.type "tuple",data:=.seq #[.none,.none]}) (s.heap.objs.size+3) .none .none:=by rw[←n3];exact aI _ rfl
 generalize hg4:g3.push { cls:=.type "tuple",data:=.seq #[.none,.none]}=g4 at n4 a3;have k4:∀c o,g3.get? c=some o→g4.get? c=some o:=fun c o e=>by rw[←hg4];exact up _ _ _ _ e
 have ez:zh b1 b2 s.heap l1 l2=g4.push { cls:=.type "zip",data:=.fields #[.none,.bool false,.bool false,.ref (s.heap.objs.size+2),.ref (s.heap.objs.size+3)]}:=by
  unfold zh;rw[hg1,hg2,n1,hg3,hg4,n2,n3]
 have a4:IsZip (g4.push { cls:=.type "zip",data:=.fields #[.none,.bool false,.bool false,.ref (s.heap.objs.size+2),.ref (s.heap.objs.size+3)]}) (s.heap.objs.size+4) (s.heap.objs.size+2) (s.heap.objs.size+3) .none:=by rw[←n4];exact aI _ rfl
 rw[n1,hg3,hg4,n4,ez];show _∧_;have k5:∀c o,g4.get? c=some o→(g4.push { cls:=.type "zip",data:=.fields #[.none,.bool false,.bool false,.ref (s.heap.objs.size+2),.ref (s.heap.objs.size+3)]}).get? c=some o:=fun c o e=>up _ _ _ _ e;refine⟨⟨_,a4,rfl⟩,h _ a4 (k5 _ _ (k4 _ _ a2)) (k5 _ _ a3) ?_ ?_ fun c o e=>k5 _ _ (k4 _ _ (k3 _ _ (k2 _ _ (k1 _ _ e))))⟩
 ·have:=k5 _ _ (k4 _ _ (k3 _ _ (k2 _ _ a0)));cases b1 with
  |true=>exact⟨_,this,rfl,rfl⟩
  |false=>exact⟨_,this,rfl,rfl⟩
 ·have:=k5 _ _ (k4 _ _ (k3 _ _ a1));cases b2 with
  |true=>exact⟨_,this,rfl,rfl⟩
  |false=>exact⟨_,this,rfl,rfl⟩
end
end ZT
namespace L2
open PySem PySem.Spec PyProof.Rows
def Cr(b:Bool)(H:Hp)(a:AD)(xs:List V):Prop:=if b then H a=some (.tup xs) else H a=some (.lst xs)
def Cr.inj{b:Bool}{H:Hp}{a:AD}{xs ys:List V}(h:Cr b H a xs)(k:Cr b H a ys):xs=ys:=by
 cases b with
 |true=>have h:H a=some (.tup xs):=h;have k:H a=some (.tup ys):=k;rw[h]at k;cases k;rfl
 |false=>have h:H a=some (.lst xs):=h;have k:H a=some (.lst ys):=k;rw[h]at k;cases k;rfl
def Cr.none{b:Bool}{H:Hp}{a c:AD}{xs:List V}(h:Cr b H a xs)(k:H c=none):a≠c:=fun z=>by
 subst z;cases b with
 |true=>have h:H a=some (.tup xs):=h;rw[k]at h;cases h
 |false=>have h:H a=some (.lst xs):=h;rw[k]at h;cases h
def Cr.raw{X:Cx}{pins:List (AD×Obj)}{σ:St}{H:Hp}{s:SD}(I:Inv X pins σ H s){b:Bool}{a:AD}{xs:List V}(h:Cr b H a xs):∃its,Vals xs its∧ZT.Sq b s.heap a its:=by
 cases b with
 |true =>
  obtain⟨its,rv,p,_⟩:=I.tuple (Ay.of (K:=X.K) (show H a=some (.tup xs) from h));exact⟨its,rv,p⟩
 |false =>
  obtain⟨its,rv,p,_⟩:=I.list (Ab.of (K:=X.K) (show H a=some (.lst xs) from h));exact⟨its,rv,p.isList⟩
def l7(b1 b2:Bool)(a1 a2:AD):It :=
 ⟨fun i H=>∃xs x ys y,Cr b1 H a1 xs∧Cr b2 H a2 ys∧xs[i]? = some x∧ys[i]? = some y,
  fun i H v H'=>∃p x y,v=.ref p∧H p=none∧H'=upd H p (.tup [x,y])∧(∀xs,Cr b1 H a1 xs→xs[i]? = some x)∧∀ys,Cr b2 H a2 ys→ys[i]? = some y,
  fun i H=>∃xs ys,Cr b1 H a1 xs∧Cr b2 H a2 ys∧(i=xs.length∨(i<xs.length∧i=ys.length))⟩
def nz(b1 b2:Bool)(a1 a2 z TI TO i1 i2:AD):Nat→Heap→Prop:=fun i h=>IsZip h z TI TO .none∧IsPair h TI (.ref i1) (.ref i2)∧(∃a b,IsPair h TO a b)∧ZT.Jm b1 h i1 a1 i∧ZT.Jm b2 h i2 a2 i
def Ey{b:Bool}{h:Heap}{it l:AD}{k:Nat}(x:ZT.Jm b h it l k):∃o,h.get? it=some o∧∀v,o.data≠.cell v:=by
 cases b with
 |true=>obtain⟨o,e,_,d⟩:=(show h.IsTupleIter it l k from x);exact⟨o,e,fun v z=>by rw[d]at z;cases z⟩
 |false=>obtain⟨o,e,_,d⟩:=(show h.IsListIter it l k from x);exact⟨o,e,fun v z=>by rw[d]at z;cases z⟩
def ED{b:Bool}{h h':Heap}{it l:AD}{k:Nat}(x:ZT.Jm b h it l k)(e:∀o,h.get? it=some o→h'.get? it=some o):ZT.Jm b h' it l k:=by
 cases b with
 |true=>obtain⟨o,q,r⟩:=(show h.IsTupleIter it l k from x);exact(show h'.IsTupleIter it l k from⟨o,e _ q,r⟩)
 |false=>obtain⟨o,q,r⟩:=(show h.IsListIter it l k from x);exact(show h'.IsListIter it l k from⟨o,e _ q,r⟩)
def Zp{P:Program}{w:World}{K:Fg}{elts:List Expr}{x1}{pos:Pos}{b1 b2:Bool}{a1 a2 z TI TO i1 i2:AD}(ne:[z,TI,TO,i1,i2].Nodup) :
  Turn P w K (.Tuple elts x1 pos) (l7 b1 b2 a1 a2) [z,TI,TO,i1,i2] z (nz b1 b2 a1 a2 z TI TO i1 i2) where
 mem:=by simp
 obj:=fun i h st b hb=>by
  obtain⟨h1,h2,⟨u,v,h3⟩,h4,h5⟩:=st;have hb:b=z∨b=TI∨b=TO∨b=i1∨b=i2:=by simpa using hb
  rcases hb with rfl|rfl|rfl|rfl|rfl
  ·exact⟨_,h1,fun v y=>by cases y⟩
  ·exact⟨_,h2,fun v y=>by cases y⟩
  ·exact⟨_,h3,fun v y=>by cases y⟩
  ·exact Ey h4
  ·exact Ey h5
 keep:=fun i h h' st k=>by
  obtain⟨h1,h2,⟨u,v,h3⟩,h4,h5⟩:=st;exact⟨k z (by simp) _ h1,k TI (by simp) _ h2,⟨u,v,k TO (by simp) _ h3⟩,ED h4 fun o e=>k i1 (by simp) o e,ED h5 fun o e=>k i2 (by simp) o e⟩
 item:=by
  intro X hP hw hK hc i pins s σ H E I hf st hg;subst hP hw hK;obtain⟨xs,x,ys,y,q1,q2,hx,hy⟩:=hg;obtain⟨us,rv1,p1⟩:=q1.raw I;obtain⟨vs,rv2,p2⟩:=q2.raw I;obtain⟨u,hu,ru⟩:=rv1.get hx;obtain⟨v,hv,rv⟩:=rv2.get hy;obtain⟨t1,t2,⟨ta,tb,t3⟩,t4,t5⟩:=st;have e1:∀b∈[z,TI,TO,i1,i2],a1≠b:=fun b hb=>q1.none (hf b hb).1;have e2:∀b∈[z,TI,TO,i1,i2],a2≠b:=fun b hb=>q2.none (hf b hb).1;simp only[List.nodup_cons,List.mem_cons,List.not_mem_nil,or_false,not_or]at ne;obtain⟨⟨n1,n2,n3,n4⟩,⟨n5,n6,n7⟩,⟨n8,n9⟩,n10,_⟩:=ne;have ap:ZT.Apart z TI TO i1 i2 [i1,a1] [i2,a2]:=⟨⟨Ne.symm n1,n5,n6,n7⟩,⟨Ne.symm n2,n8,n9⟩,⟨Ne.symm n3,Ne.symm n4,n10⟩,
   ⟨by simp[n3,Ne.symm (e1 z (by simp))],by simp[n8,Ne.symm (e1 TO (by simp))],by simp[Ne.symm n10,Ne.symm (e1 i2 (by simp))]⟩,⟨by simp[n4,Ne.symm (e2 z (by simp))],by simp[n9,Ne.symm (e2 TO (by simp))],by simp[n10,Ne.symm (e2 i1 (by simp))]⟩⟩
  refine ZT.next_item (ZT.EE (prog:=X.prog) (w:=X.w) (A:=X.A.in1) (I.ok.hd hc) b1 i1 a1 us (e1 i1 (by simp))) (ZT.EE (prog:=X.prog) (w:=X.w) (A:=X.A.in1) (I.ok.hd hc) b2 i2 a2 vs (e2 i2 (by simp))) ap t1 t2 t3 ⟨t4,p1⟩ ⟨t5,p2⟩ (aC.mp hu).1 (aC.mp hv).1
   fun u' v' h' tk r1 r2 r3 r4 r5 r6 r7 r8 r9=>⟨_,rfl,wpAny_letOwnedTupleGo_zip (s:={s with heap:=h',toks:=tk}) r3 fun h'' z'' sb=>?_⟩
  rw[hu]at r1;rw[hv]at r2;cases r1;cases r2;have keep:∀b o,b ∉ [z,TI,TO,i1,i2]→s.heap.get? b=some o→h''.get? b=some o:=fun b o hb q=>by
   simp only[List.mem_cons,List.not_mem_nil,or_false,not_or]at hb;exact(sb.2 b hb.1).trans (r9 b o hb.1 hb.2.2.1 hb.2.2.2.1 hb.2.2.2.2 q)
  have lt:∀b∈[z,TI,TO,i1,i2],b<s.heap.objs.size:=fun b hb=>by
   have hb:b=z∨b=TI∨b=TO∨b=i1∨b=i2:=by simpa using hb
   rcases hb with rfl|rfl|rfl|rfl|rfl
   ·exact aF t1
   ·exact aF t2
   ·exact aF t3
   ·obtain⟨o,e,_⟩:=Ey t4;exact aF e
   ·obtain⟨o,e,_⟩:=Ey t5;exact aF e
  have hTn:H s.heap.objs.size=none:=I.Ap.fresh (aG _);have hT'':h''.get? s.heap.objs.size=some { cls:=.type "tuple",data:=.seq #[u,v]}:=(sb.2 _ (bW (lt z (by simp)))).trans r7;have neT:∀b o,s.heap.get? b=some o→b≠s.heap.objs.size:=fun b o q=>aH (aF q);have Eg:∀b o,H b=some o→b ∉ [z,TI,TO,i1,i2]:=fun b o q hb=>by rw[(hf b hb).1]at q;cases q
  refine⟨.ref s.heap.objs.size,upd H s.heap.objs.size (.tup [x,y]),?_,rfl,⟨_,x,y,rfl,hTn,rfl,fun zs hz=>by rw[hz.inj q1];exact hx,fun zs hz=>by rw[hz.inj q2];exact hy⟩,⟨z'',?_,⟨u,v,?_⟩,?_,?_⟩,fun b hb=>?_⟩
  ·show Inv X pins σ _ {s with heap:=h'',gens:=s.gens,drawn:=s.drawn,toks:=tk};refine I.step (h':=h'') (g':=s.gens) (d':=s.drawn) (t':=tk) (ch:=[z,TI,TO,i1,i2]) (fun b hb=>?_) (fun b o _ _ hc q _=>keep b o hc q) (fun b o _ _ hc q _=>⟨o.slots,keep b o hc q⟩)
    (fun b o _ q n=>by rw[AJ (neT b o q)];exact n) (fun b o hc q=>⟨o,keep b o hc q⟩) (fun b ys q=>by rw[AJ (AU q hTn)];exact q) (fun b o u q=>by rw[AJ (AU q hTn)];exact q)
    (fun b ps q=>⟨#[],by rw[AJ (AU q hTn),q];simp⟩) (fun m hm=>?_) (fun b o q=>?_) I.bare
   ·obtain⟨_,f1,_,f3,f4,f5⟩:=hf b hb;exact⟨f3,f1,f4,f5⟩
   ·obtain⟨o,es,ep,ho,r⟩:=hm;exact⟨o,es,ep,keep _ o (fun hb=>(hf _ hb).2.1 rfl) ho,r⟩
   ·by_cases hb:b=s.heap.objs.size
    ·subst hb;rw[AI]at q;cases q;exact⟨Es,[u,v],.cons ru (.cons rv .nil),_,hT'',rfl,_,rfl⟩
    ·rw[AJ hb]at q;refine(I.Ap b o q).Ge (fun c w hc r=>keep c w ?_ r) (fun c r=>by rw[AJ (AU r hTn)];exact r) fun c ys r=>by rw[AJ (AU r hTn)];exact r
     rcases hc with rfl|hc
     ·exact Eg _ _ q
     ·exact Eg _ _ hc
  ·exact(sb.2 _ (Ne.symm n1)).trans (r9 _ _ (Ne.symm n1) n5 n6 n7 t2)
  ·exact(sb.2 _ (Ne.symm n2)).trans r4
  ·exact ED r5.1 fun o e=>(sb.2 _ (Ne.symm n3)).trans e
  ·exact ED r6.1 fun o e=>(sb.2 _ (Ne.symm n4)).trans e
  ·rw[AJ (aH (lt b hb))];exact(hf b hb).1
 done:=by
  intro X hP hw hK hc i pins s σ H E I hf st hg;subst hP hw hK;obtain⟨xs,ys,q1,q2,he⟩:=hg;obtain⟨us,rv1,p1⟩:=q1.raw I;obtain⟨vs,rv2,p2⟩:=q2.raw I;obtain⟨t1,t2,⟨ta,tb,t3⟩,t4,t5⟩:=st;have e1:∀b∈[z,TI,TO,i1,i2],a1≠b:=fun b hb=>q1.none (hf b hb).1;have e2:∀b∈[z,TI,TO,i1,i2],a2≠b:=fun b hb=>q2.none (hf b hb).1;simp only[List.nodup_cons,List.mem_cons,List.not_mem_nil,or_false,not_or]at ne;obtain⟨⟨n1,n2,n3,n4⟩,⟨n5,n6,n7⟩,⟨n8,n9⟩,n10,_⟩:=ne;have ap:ZT.Apart z TI TO i1 i2 [i1,a1] [i2,a2]:=⟨⟨Ne.symm n1,n5,n6,n7⟩,⟨Ne.symm n2,n8,n9⟩,⟨Ne.symm n3,Ne.symm n4,n10⟩,
   ⟨by simp[n3,Ne.symm (e1 z (by simp))],by simp[n8,Ne.symm (e1 TO (by simp))],by simp[Ne.symm n10,Ne.symm (e1 i2 (by simp))]⟩,⟨by simp[n4,Ne.symm (e2 z (by simp))],by simp[n9,Ne.symm (e2 TO (by simp))],by simp[n10,Ne.symm (e2 i1 (by simp))]⟩⟩
  have he':i=us.length∨(i<us.length∧i=vs.length):=by rw[←rv1.length,←rv2.length];exact he
  refine ZT.next_end (ZT.EE (prog:=X.prog) (w:=X.w) (A:=X.A.in1) (I.ok.hd hc) b1 i1 a1 us (e1 i1 (by simp))) (ZT.EE (prog:=X.prog) (w:=X.w) (A:=X.A.in1) (I.ok.hd hc) b2 i2 a2 vs (e2 i2 (by simp))) ap t1 t2 t3 ⟨t4,p1⟩ ⟨t5,p2⟩ he' fun h' tk kp=>⟨rfl,?_⟩;have keep:∀b o,b ∉ [z,TI,TO,i1,i2]→s.heap.get? b=some o→h'.get? b=some o:=fun b o hb q=>by
   simp only[List.mem_cons,List.not_mem_nil,or_false,not_or]at hb;exact kp b o hb.1 hb.2.2.1 hb.2.2.2.1 hb.2.2.2.2 q
  have Eg:∀b o,H b=some o→b ∉ [z,TI,TO,i1,i2]:=fun b o q hb=>by rw[(hf b hb).1]at q;cases q
  show Inv X pins σ _ {s with heap:=h',gens:=s.gens,drawn:=s.drawn,toks:=tk};refine I.step (h':=h') (g':=s.gens) (d':=s.drawn) (t':=tk) (ch:=[z,TI,TO,i1,i2]) (fun b hb=>?_) (fun b o _ _ hc q _=>keep b o hc q) (fun b o _ _ hc q _=>⟨o.slots,keep b o hc q⟩)
    (fun b o _ q n=>n) (fun b o hc q=>⟨o,keep b o hc q⟩) (fun b ys q=>q) (fun b o u q=>q)
    (fun b ps q=>⟨#[],by rw[q];simp⟩) (fun m hm=>?_) (fun b o q=>?_) I.bare
  ·obtain⟨_,f1,_,f3,f4,f5⟩:=hf b hb;exact⟨f3,f1,f4,f5⟩
  ·obtain⟨o,es,ep,ho,r⟩:=hm;exact⟨o,es,ep,keep _ o (fun hb=>(hf _ hb).2.1 rfl) ho,r⟩
  ·refine(I.Ap b o q).Ge (fun c w hc r=>keep c w ?_ r) (fun c r=>r) fun c ys r=>r;rcases hc with rfl|hc
   ·exact Eg _ _ q
   ·exact Eg _ _ hc
 self:=fun _ _ _ _ _ st h=>wpAny_pyIter_zip st.1 h
def nU(ta:TA):TI:=fun σ H R=>ta σ H fun vs H1=>∃(b1 b2:Bool) (a1 a2:AD),vs=[.ref a1,.ref a2]∧(∃xs,Cr b1 H1 a1 xs)∧(∃ys,Cr b2 H1 a2 ys)∧R (l7 b1 b2 a1 a2) H1
def X3{X:Cx}{elts:List Expr}{x1}{tpos:Pos}{a b:Expr}{ta:TA}{p pos:Pos}(hg:Gl X "zip")(hm:X.mg "zip" = none)(ha:PA X [a,b] ta)(hs:starEach [a,b] X.env=[(false,eval a X.env),(false,eval b X.env)]:=by rfl)(hs2:starEach [b] X.env=[(false,eval b X.env)]:=by rfl) :
  PI X (.Tuple elts x1 tpos) (.Call (.Name "zip" p) [a,b] [] pos) (nU ta):=by
 intro pins s σ H R I h;refine Call_ (GD I hg hm boot_zip (az (BN (ha pos pins s σ H _ I h) fun us s1 ⟨vs,H1,I1,r1,q1⟩=>?_) (by rw[hs,hs2]) (by rw[hs2];rfl)));obtain⟨b1,b2,l1,l2,e,⟨xs,h1⟩,⟨ys,h2⟩,q⟩:=q1;subst e;cases r1 with
 |cons r rr =>
  cases rr with
  |cons r' rr =>
   cases rr;cases r;cases r';obtain⟨us,_,p1⟩:=h1.raw I1;obtain⟨vs,_,p2⟩:=h2.raw I1;refine ZT.ZA p1 p2 fun h' z1 z2 z3 z4 z5 hk=>wpAny_pyIter_zip z1 ?_;have I2:Inv X pins σ H1 {s1 with heap:=h'}:=I1.kept (t':=s1.toks) hk;refine⟨_,[s1.heap.objs.size+4,s1.heap.objs.size+2,s1.heap.objs.size+3,s1.heap.objs.size,s1.heap.objs.size+1],_,_,H1,rfl,I2,Zp ?_,⟨z1,z2,⟨_,_,z3⟩,z4,z5⟩,fun b hb=>?_,q⟩
   ·simp
   have hb':s1.heap.objs.size≤b:=by
    have hb2:b=s1.heap.objs.size+4∨b=s1.heap.objs.size+2∨b=s1.heap.objs.size+3∨b=s1.heap.objs.size∨b=s1.heap.objs.size+1:=by simpa using hb
    rcases hb2 with h|h|h|h|h<;>rw[h]<;>first|exact aG _|exact Nat.le_add_right _ _
   exact I1.Ov hb' (I1.Ap.fresh hb')
def U5(K:Fg)(a:AD):It :=
 ⟨fun i H=>∃xs x,Ab K H a xs∧xs[i]? = some x,fun i H v H'=>∃p x,v=.ref p∧H p=none∧H'=upd H p (.tup [.int i,x])∧∀xs,Ab K H a xs→xs[i]? = some x,fun i H=>∃xs,Ab K H a xs∧xs.length=i⟩
def WE{P:Program}{w:World}{K:Fg}{elts:List Expr}{x1}{pos:Pos}(a e it:AD)(hne:e≠it) :
  Turn P w K (.Tuple elts x1 pos) (U5 K a) [e,it] e (fun i h=>(∃old,IsEnum h e it (i:Nat) old)∧h.IsListIter it a i) where
 mem:=by simp
 obj:=fun i h st b hb=>by
  rcases aJ.mp hb with rfl|hb
  ·obtain⟨⟨old,q⟩,_⟩:=st;exact⟨_,q,fun v z=>by cases z⟩
  ·have e2:b=it:=by simpa using hb
   subst e2;obtain⟨_,o,q,c,d⟩:=st;exact⟨o,q,fun v z=>by rw[d]at z;cases z⟩
 keep:=fun i h h' st k=>by
  obtain⟨⟨old,q⟩,o,q2,r⟩:=st;exact⟨⟨old,k e (by simp) _ q⟩,o,k it (by simp) _ q2,r⟩
 item:=by
  intro X hP hw hK hc i pins s σ H E I hf st hg;subst hP hw hK;obtain⟨xs,x,hq,hx⟩:=hg;obtain⟨its,rv,pL,hz⟩:=I.list hq;have p:=pL.isList;obtain⟨u,hu,ru⟩:=rv.get hx;obtain⟨⟨old,he⟩,hit⟩:=st;have hai:a≠it:=fun z=>by
   obtain⟨o,e1,c1,_⟩:=p;obtain⟨o2,e2,c2,_⟩:=hit;rw[z,e2]at e1;cases e1;rw[c1]at c2;exact absurd c2 (by decide)
  have hae:a≠e:=fun z=>by
   obtain⟨o,e1,c1,_⟩:=p;rw[z,he]at e1;cases e1;exact absurd (show Value.type "enumerate" = Value.type "list" from c1) (by decide)
  have hlt:i<its.length:=(aC.mp hu).1;have hE0:=hf e (by simp);have hI0:=hf it (by simp);refine wpAny_pyNext_enum_itemD (Draws.list (prog:=X.prog) (w:=X.w) (A:=X.A.in1) (I.ok.hd hc) it a hai its.toArray) he ⟨hit,p⟩ (by simpa using hlt) hne (by simp[hne,Ne.symm hae]) fun y h' tk hy ho hs' hT hsz hk=>⟨_,rfl,wpAny_letOwnedTupleGo_enum (s:={s with heap:=h',toks:=tk+1}) ho fun h'' he'' sb=>?_⟩;have hyu:y=u:=by
   have hy:its[i]? = some y:=by simpa using hy
   rw[hu]at hy;exact(ao hy).symm
  subst hyu;have keep:∀b o,b≠e→b≠it→s.heap.get? b=some o→h''.get? b=some o:=fun b o h1 h2 q=>(sb.2 b h1).trans (hk b o h1 h2 q);have hTe:s.heap.objs.size≠e:=bW (aF he);have hTi:s.heap.objs.size≠it:=let⟨_,q,_⟩:=hit;bW (aF q);have hT'':h''.get? s.heap.objs.size=some { cls:=.type "tuple",data:=.seq #[.int i tk,y]}:=(sb.2 _ hTe).trans hT;have hTn:H s.heap.objs.size=none:=I.Ap.fresh (aG _);have neT:∀b o,s.heap.get? b=some o→b≠s.heap.objs.size:=fun b o q=>aH (aF q);have Eg:∀b o,H b=some o→b≠e∧b≠it:=fun b o q=>⟨(fun z=>by rw[z,hE0.1]at q;cases q),(fun z=>by rw[z,hI0.1]at q;cases q)⟩;refine⟨.ref s.heap.objs.size,upd H s.heap.objs.size (.tup [.int i,x]),?_,rfl,⟨_,x,rfl,hTn,rfl,fun ys hy=>by rw[I.Ti hy hq];exact hx⟩,⟨⟨_,by simpa using he''⟩,?_⟩,fun b hb=>?_⟩
  ·show Inv X pins σ _ {s with heap:=h'',gens:=s.gens,drawn:=s.drawn,toks:=tk+1};refine I.step (h':=h'') (g':=s.gens) (d':=s.drawn) (t':=tk+1) (ch:=[e,it]) (fun b hb=>?_) (fun b o _ _ hc q _=>keep b o (fun z=>hc (by simp[z])) (fun z=>hc (by simp[z])) q) (fun b o _ _ hc q _=>⟨o.slots,keep b o (fun z=>hc (by simp[z])) (fun z=>hc (by simp[z])) q⟩)
    (fun b o _ q n=>by rw[AJ (neT b o q)];exact n) (fun b o hc q=>⟨o,keep b o (fun z=>hc (by simp[z])) (fun z=>hc (by simp[z])) q⟩) (fun b ys q=>by rw[AJ (AU q hTn)];exact q) (fun b o u q=>by rw[AJ (AU q hTn)];exact q)
    (fun b ps q=>⟨#[],by rw[AJ (AU q hTn),q];simp⟩) (fun m hm=>?_) (fun b o q=>?_) I.bare
   ·rcases aJ.mp hb with rfl|hb
    ·exact⟨hE0.2.2.2.1,hE0.2.1,hE0.2.2.2.2.1,hE0.2.2.2.2.2⟩
    ·have e2:b=it:=by simpa using hb
     subst e2;exact⟨hI0.2.2.2.1,hI0.2.1,hI0.2.2.2.2.1,hI0.2.2.2.2.2⟩
   ·obtain⟨o,es,ep,ho,r⟩:=hm;exact⟨o,es,ep,keep _ o (Ne.symm hE0.2.1) (Ne.symm hI0.2.1) ho,r⟩
   ·by_cases hb:b=s.heap.objs.size
    ·subst hb;rw[AI]at q;cases q;exact⟨Es,[.int i tk,y],.cons ⟨tk,rfl⟩ (.cons ru .nil),_,hT'',rfl,_,rfl⟩
    ·rw[AJ hb]at q;refine(I.Ap b o q).Ge (fun c v hc r=>keep c v ?_ ?_ r) (fun c r=>by rw[AJ (AU r hTn)];exact r) fun c ys r=>by rw[AJ (AU r hTn)];exact r
     ·rcases hc with rfl|hc
      ·exact(Eg _ _ q).1
      ·exact(Eg _ _ hc).1
     ·rcases hc with rfl|hc
      ·exact(Eg _ _ q).2
      ·exact(Eg _ _ hc).2
  ·obtain⟨⟨o,q,r⟩,_⟩:=hs';exact⟨o,(sb.2 it (Ne.symm hne)).trans q,r⟩
  ·rcases aJ.mp hb with rfl|hb
   ·rw[AJ (Ne.symm hTe)];exact hE0.1
   ·have e2:b=it:=by simpa using hb
    subst e2;rw[AJ (Ne.symm hTi)];exact hI0.1
 done:=by
  intro X hP hw hK hc i pins s σ H E I hf st hg;subst hP hw hK;obtain⟨xs,hq,hx⟩:=hg;obtain⟨its,rv,pL,hz⟩:=I.list hq;have p:=pL.isList;obtain⟨⟨old,he⟩,hit⟩:=st;have hai:a≠it:=fun z=>by
   obtain⟨o,e1,c1,_⟩:=p;obtain⟨o2,e2,c2,_⟩:=hit;rw[z,e2]at e1;cases e1;rw[c1]at c2;exact absurd c2 (by decide)
  have hl:its.length=i:=by rw[←rv.length];exact hx
  subst hl;obtain⟨f0,f1,f2,f3,f4,f5⟩:=hf it (by simp);exact wpAny_pyNext_enum_endD (Draws.list (prog:=X.prog) (w:=X.w) (A:=X.A.in1) (I.ok.hd hc) it a hai its.toArray) he ⟨hit,p⟩ fun h' eb=>⟨rfl,I.turned (t':=s.toks) (fun b o hb q=>eb b o hb q) f0 f1 f3 f4 f5⟩
 self:=fun _ _ _ _ _ st h=>by
  obtain⟨⟨old,he⟩,_⟩:=st;exact wpAny_pyIter_enum he h
def j4(K:Fg)(ta:TA):TI:=fun σ H R=>ta σ H fun vs H1=>∃a,vs=[.ref a]∧(∃xs,Ab K H1 a xs)∧R (U5 K a) H1
def Tt{X:Cx}{elts:List Expr}{x1}{tpos:Pos}{a:Expr}{ta:TA}{p pos:Pos}(hg:Gl X "enumerate")(hm:X.mg "enumerate" = none)(ha:PA X [a] ta)(hs:starEach [a] X.env=[(false,eval a X.env)]:=by rfl) :
  PI X (.Tuple elts x1 tpos) (.Call (.Name "enumerate" p) [a] [] pos) (j4 X.K ta):=by
 intro pins s σ H R I h;refine Call_ (GD I hg hm boot_enumerate (az (BN (ha pos pins s σ H _ I h) fun us s1 ⟨vs,H1,I1,r1,q1⟩=>?_) hs rfl));obtain⟨t,e,⟨xs,hq⟩,q⟩:=q1;subst e;cases r1 with
 |cons r rr =>
  cases rr;cases r;obtain⟨its,rv,p',hz⟩:=I1.list hq;refine call_enumerate_list (show s1.heap.IsList t its.toArray from p'.isList) fun h' he hit hsz hk=>wpAny_pyIter_enum he ?_;have I2:Inv X pins σ H1 {s1 with heap:=h'}:=I1.kept (t':=s1.toks) hk;have hn:s1.heap.objs.size+1≠s1.heap.objs.size:=by omega
  refine⟨s1.heap.objs.size+1,[s1.heap.objs.size+1,s1.heap.objs.size],_,_,H1,rfl,I2,WE t _ _ hn,⟨⟨_,he⟩,hit⟩,fun b hb=>?_,q⟩;have hb':s1.heap.objs.size≤b:=by
   have hb2:b=s1.heap.objs.size+1∨b=s1.heap.objs.size:=by simpa using hb
   rcases hb2 with z|z
   ·rw[z];exact Nat.le_succ _
   ·rw[z];exact aG _
  exact I1.Ov hb' (I1.Ap.fresh hb')
def X1{K:Fg}{a:AD}{xs:List V}{g:TG}{tb:TS}{D:Ends}{σ:St}{H:Hp}(Pv:Nat→St→Hp→Prop)(h0:Pv 0 σ H)(hl:∀i σ H,i≤xs.length→Pv i σ H→Ab K H a xs)
 (hs:∀i x σ H,xs[i]? = some x→Pv i σ H→∀p,H p=none→g (.ref p) σ (upd H p (.tup [.int (i:Nat),x])) fun σ2 H2=>tb {D with nx:=Pv (i+1),ct:=Pv (i+1),bk:=D.nx} σ2 H2)(hd:∀σ H,Pv xs.length σ H→D.nx σ H) :
  ∃W:Nat→Nat→St→Hp→Prop,(∃m,W 0 m σ H)∧∀i m σ H,W i m σ H →
   ((U5 K a).stop i H∧D.nx σ H)∨((U5 K a).go i H∧∃N:St→Hp→Prop,(∀σ' H',N σ' H'→∃m',m'<m∧W (i+1) m' σ' H')∧∀x H',(U5 K a).Ef i H x H'→g x σ H' fun σ2 H2=>tb {D with nx:=N,ct:=N,bk:=D.nx} σ2 H2):=by
 refine⟨fun i m σ H=>m=xs.length-i∧i≤xs.length∧Pv i σ H,⟨xs.length,by simp,Nat.zero_le _,h0⟩,?_⟩;rintro i m σ H ⟨rfl,hi,p⟩;have q:=hl i σ H hi p;by_cases hlt:i<xs.length
 ·refine .inr ⟨⟨xs,xs[i],q,by simp[hlt]⟩,Pv (i+1),fun σ' H' p'=>⟨xs.length-(i+1),by omega,rfl,hlt,p'⟩,fun x H' y=>?_⟩;obtain⟨pp,x',rfl,hn,rfl,y⟩:=y;exact hs i x' σ _ (y xs q) p pp hn
 ·have e:i=xs.length:=by omega
  subst e;exact .inl ⟨⟨xs,q,rfl⟩,hd σ H p⟩
def fX(d:PD):TE:=fun _ H Q=>∀v H',AK H H'→(∀p,(H' p=none∨H p≠none)→Dt p H' d v)→Q v H'
def cz(ds:List PD):TA:=fun _ H Q=>∀vs H',AK H H'→(∀p,(H' p=none∨H p≠none)→AW p H' ds vs)→vs.length=ds.length→Q vs H'
def Oo{α β:Type}{f:α→Option β}:∀ {es:List α} {ds:List β},es.mapM f=some ds→ds.length=es.length
 |[],ds,h=>by simp at h;subst h;rfl
 |e::es,ds,h=>by
  simp only[List.mapM_cons,Option.bind_eq_bind,Option.bind_eq_some_iff,Option.pure_def,Option.some.injEq]at h;obtain⟨d,h1,ds',h2,rfl⟩:=h;rw[List.length_cons,List.length_cons,Oo h2]
section
variable{X:Cx}
def Hy{e:Expr}{t t':TE}(h:PE X e t)(k:∀σ H Q,t' σ H Q→t σ H Q):PE X e t':=fun pins s σ H Q I q=>h pins s σ H Q I (k σ H Q q)
def VP{e:List Expr}{t t':TA}(h:PA X e t)(k:∀σ H Q,t' σ H Q→t σ H Q):PA X e t':=fun pos pins s σ H Q I q=>h pos pins s σ H Q I (k σ H Q q)
end
section
variable{X:Cx}{scope:Scope}{cl:List (Str×AD)}{N:List Str}{C:AD}{s₀:SD}{H₀:Hp}{fp:List AD}
def Rk:DV (A9 X scope cl N C s₀ H₀ fp) (.type "list") (fun xs H Q=>∃p ys,xs=[.ref p]∧(Ab X.K H p ys∨Ay X.K H p ys)∧∀l,H l=none→Q (.ref l) (upd H l (.lst ys))):=Mo
end
def Lm:Nat→Expr→Option PD
 |_,.Constant (.int i) _ _=>some (.int i)
 |_,.Constant (.bool b) _ _=>some (.bool b)
 |_,.Constant .none _ _=>some .none
 |_,.Constant (.str x) _ _=>some (.str x)
 |_,.UnaryOp .USub (.Constant (.int i) _ _) _=>some (.int (-i))
 |n+1,.Tuple es _ _=>if es.length≤60 then(es.mapM (Lm n)).map .tuple else none
 |n+1,.List es _=>if es.length≤60 then(es.mapM (Lm n)).map .list else none
 |_,_=>none
def Vy{n:Nat}{e:Expr}{d:PD}(h:Lm n e=some d)(es:List Expr)(env:Env):starEach (e::es) env=(false,eval e env)::starEach es env:=by
 cases e<;>first|rfl|(cases n<;>simp[Lm]at h)
section
variable{X:Cx}
def II{n:Nat}(hp:∀ {e:Expr} {d:PD},Lm n e=some d→PE X e (fX d)):∀ {es:List Expr} {ds:List PD},es.mapM (Lm n)=some ds→PA X es (cz ds)
 |[],ds,h=>by
  simp at h;subst h;exact VP AL fun σ H Q q=>q [] H (.refl H) (fun p _=>.nil) rfl
 |e::es,ds,h=>by
  simp only[List.mapM_cons,Option.bind_eq_bind,Option.bind_eq_some_iff,Option.pure_def,Option.some.injEq]at h;obtain⟨d,h1,ds',h2,rfl⟩:=h;refine VP (AE (hp h1) (II hp h2) (Vy h1 _ _)) fun σ H Q q=>?_;intro v H1 e1 k1 vs H2 e2 k2 hl;refine q (v::vs) H2 (e1.trans e2) (fun p hp=>.cons ((k1 p ?_).same e2) (k2 p ?_)) (by simp[hl])
  ·rcases hp with hp|hp
   ·exact .inl (e2.free hp)
   ·exact .inr hp
  ·rcases hp with hp|hp
   ·exact .inl hp
   ·refine .inr fun z=>hp (e1.free z)
def Qc:∀ {n:Nat} {e:Expr} {d:PD},Lm n e=some d→PE X e (fX d)
 |n,e,d,h=>by
  have hs:60≤sizeLine:=by rw[sizeLine_eq];decide
  unfold Lm at h;split at h
  ·cases h;exact Hy AR fun σ H Q q=>q _ H (.refl H) fun p _=>.int
  ·cases h;exact Hy FD fun σ H Q q=>q _ H (.refl H) fun p _=>.bool
  ·cases h;exact Hy PY fun σ H Q q=>q _ H (.refl H) fun p _=>.BF
  ·cases h;exact Hy T2 fun σ H Q q=>q _ H (.refl H) fun p _=>.str
  ·cases h;exact Hy (PN Mx AR) fun σ H Q q=>⟨_,rfl,q _ H (.refl H) fun p _=>.int⟩
  ·split at h
   ·rename_i m es _ _ hes;simp only[Option.map_eq_some_iff]at h;obtain⟨ds,h1,rfl⟩:=h;refine Hy (CS (II (fun h=>Qc (n:=m) h) h1)) fun σ H Q q=>?_;intro vs H1 e1 k1 hl;have hlen:=Oo h1;refine⟨by omega,fun p hp=>?_⟩;have es:=AO hp (.tup vs);refine q _ _ (e1.trans es) fun p' hp'=>.tup ?_ AI ((k1 p' ?_).same es)
    ·rcases hp' with hp'|hp'
     ·exact AU AI hp'
     ·exact fun z=>hp' (z ▸ e1.free hp)
    ·rcases hp' with hp'|hp'
     ·exact .inl (es.free hp')
     ·exact .inr hp'
   ·cases h
  ·split at h
   ·rename_i m es _ hes;simp only[Option.map_eq_some_iff]at h;obtain⟨ds,h1,rfl⟩:=h;refine Hy (Cv (II (fun h=>Qc (n:=m) h) h1)) fun σ H Q q=>?_;intro vs H1 e1 k1 hl;have hlen:=Oo h1;refine⟨by omega,fun p hp=>?_⟩;have es:=AO hp (.lst vs);refine q _ _ (e1.trans es) fun p' hp'=>.lst ?_ AI ((k1 p' ?_).same es)
    ·rcases hp' with hp'|hp'
     ·exact AU AI hp'
     ·exact fun z=>hp' (z ▸ e1.free hp)
    ·rcases hp' with hp'|hp'
     ·exact .inl (es.free hp')
     ·exact .inr hp'
   ·cases h
  ·cases h
def TZ{n:Nat}{es:List Expr}{ds:List PD}(h:es.mapM (Lm n)=some ds):PA X es (cz ds):=II (fun h=>Qc h) h
end
def jP(i:Expr):Prop:=∀ov iv,subscripted i false ov iv=operate [ov,iv] (getItem ov iv)
def dS{prog:Program}{w:World}{A:Around}{E:VL→SD→Prop}{s:SD}{env:Env}{value slice:Expr}{pos:Pos}{T id:String}{Q:VL→SD→Prop}
 (hl:typeLookup (.type T) "__getitem__" = pure (some (.builtin id)))(hs:jP slice)
 (h:wpAny (model prog w) A (eval value env) (fun o s₁=>wpAny (model prog w) A (eval slice env) (fun i s₂=>s₂.TypeIs o T∧wpAny (model prog w) A (getItem o i) Q E s₂) E s₁) E s) :
  wpAny (model prog w) A (eval (.Subscript value slice pos) env) Q E s:=by
 refine Subscript_ (aU h (fun o s₁ h₁=>aU h₁ (fun i s₂ h₂=>?_) fun _ _ x=>x) fun _ _ x=>x);obtain⟨hT,h₂⟩:=h₂;unfold subscriptTail;refine Wb ?_;rw[getitemInPython_of_ne hT.not_modules];refine Wb (wpAny_specialOf hT hl ?_);have fin:wpAny (model prog w) A (subscripted slice false o i) (fun r s₃=>wpAny (model prog w) A (letTemporaryGo value o r>>=fun _=>pure r) Q E s₃) E s₂:=by
  rw[hs o i];exact wpAny_operating (aU h₂ (fun r s₃ h₃=>Wb (wpAny_letTemporaryGo (aA h₃))) fun _ _ x=>x)
 first
  |exact aA (Wb fin)
  |exact Wb (aA (Wb fin))
  |exact Wb fin
end L2
namespace TH
open PySem PyProof.Rows PySem.SeqAt
def JQ:Tr→List Int
 |.nil=>[]
 |.cons b r=>reduceHash (Builtin.Tuple.tupleHashOf (JQ b))::JQ r
def BQ(t:Tr):Int:=reduceHash (Builtin.Tuple.tupleHashOf (JQ t))
section
variable{prog:Program}{w:World}{E:VL→SD→Prop}
def IsTuple.ty{h:Heap}{a:AD}{x:Array VL}{s:SD}(e:s.heap=h)(k:h.IsTuple a x):s.TypeIs (.ref a) "tuple" := by
 subst e;obtain⟨o,ho,hc,_⟩:=k;exact⟨o,ho,hc⟩
def U3(prog:Program)(w:World)(E:VL→SD→Prop)(t:Tr):Prop:=∀(us:List VL) (A:Around) (s:SD) (b:Array Int) (Q:Array Int→SD→Prop),Vs s.heap t us→A.units+t.deep≤cLine →
 (∀tk b',b'.toList=b.toList++JQ t→Q b' {s with toks:=tk})→wpAny (model prog w) A (forIn us b fun x r=>do let h ←pyHash x;pure PUnit.unit;pure (ForInStep.yield (r.push h))) Q E s
def N6{t:Tr}(row:U3 prog w E t){a:AD}{its:List VL}{A:Around}{s:SD}{Q:Int→SD→Prop}(h1:s.heap.IsTuple a its.toArray)(h2:Vs s.heap t its)(hu:A.units+t.deep<cLine)
 (h:∀tk,Q (BQ t) {s with toks:=tk}):wpAny (model prog w) A (pyHash (.ref a)) Q E s:=by
 have hT:=IsTuple.ty rfl h1;obtain⟨o,ho,hc,n,hd⟩:=id h1;refine PySem.W.pyHash_slot (T := "tuple") hT F.slot_tuple_hash F.entry_tuple_hash (F.args_tuple_hash_1 _) (beq_builtin_none _) (.inr (by omega)) ?_;show wpAny _ _ (Builtin.Tuple.tupleItemsOf (.ref a)>>=_) _ _ s;refine Wb (wpAny_tupleItemsOf ho hd ?_);refine Wb ?_;rw[←Array.forIn_toList];refine row its A.in1 s #[] _ h2 (by rw[Around.in1_units];omega) fun tk b hb=>?_;show wpAny _ _ (retInt (Builtin.Tuple.tupleHashOf b.toList)) _ _ _;rw[hb];exact Wb (wpAny_mkInt (aA ⟨_,_,rfl,h _⟩))
def Ow:∀t:Tr,U3 prog w E t
 |.nil=>fun us A s b Q e _ h=>by rw[Vs]at e;subst e;exact aA (h s.toks b (by simp[JQ]))
 |.cons c r=>fun us A s b Q e hu h=>by
  rw[Vs]at e;obtain⟨a,its,rest,rfl,h1,h2,h3⟩:=e;have hd:(Tr.cons c r).deep=max (c.deep+1) r.deep:=rfl;rw[List.forIn_cons];refine Wb (Wb (N6 (Ow c) h1 h2 (by omega) fun tk=>?_));refine Wb (aA (aA ?_));exact Ow r rest A _ _ Q h3 (by omega) fun tk' b' hb=>h tk' b' (by simp[hb,JQ,BQ])
def eK{t:Tr}{a:AD}{its:List VL}{A:Around}{s:SD}{Q:Int→SD→Prop}(h1:s.heap.IsTuple a its.toArray)(h2:Vs s.heap t its)(hu:A.units+t.deep<cLine)
 (h:∀tk,Q (BQ t) {s with toks:=tk}):wpAny (model prog w) A (pyHash (.ref a)) Q E s:=N6 (Ow t) h1 h2 hu h
def Good(h:Heap)(n:Nat)(v:VL):Prop:=∃a its t,v=.ref a∧h.IsTuple a its.toArray∧Vs h t its∧t.deep<n
def MI{h:Heap}:∀ {t:Tr} {us:List VL} {n:Nat},Vs h t us→t.deep≤n→∀v∈us,Good h n v
 |.nil,us,n,e,_,v,hv=>by rw[Vs]at e;subst e;cases hv
 |.cons c r,us,n,e,hd,v,hv=>by
  rw[Vs]at e;obtain⟨a,its,rest,rfl,h1,h2,h3⟩:=e;rw[Tr.deep]at hd;rcases aJ.mp hv with rfl|hv
  ·exact⟨a,its,c,rfl,h1,h2,by omega⟩
  ·exact MI h3 (by omega) v hv
def Ss:∀(n:Nat) {v:VL} {A:Around} {s:SD} {Q:Bool→SD→Prop},Good s.heap n v→Q true s→wpAny (model prog w) A (hashByValue n v) Q E s
 |0,v,A,s,Q,⟨_,_,_,_,_,_,z⟩,_=>absurd z (ae _)
 |n+1,v,A,s,Q,⟨a,its,t,e,h1,h2,hd⟩,h=>by
  subst e;have hT:=IsTuple.ty rfl h1;obtain⟨o,ho,hc,k,hdt⟩:=id h1;unfold hashByValue;refine Wb (wpAny_specialOf hT F.slot_tuple_hash.lookup ?_);refine Wb (aX ho hdt ?_);refine Wb ?_;show wpAny _ _ (forIn its.toArray _ _) _ _ s;rw[←Array.forIn_toList];refine wpAny_forIn_list _ (fun rest r s'=>r.1=none∧s'=s∧∀v∈rest,Good s.heap n v) _ ?_ ?_ _ _ ⟨rfl,rfl,MI h2 (by omega)⟩
  ·rintro v rest r s' ⟨hr,rfl,hall⟩;refine Wb (Ss n (hall v aR) ?_);simp only[Bool.not_true,Bool.false_eq_true,if_false];exact aA ⟨rfl,rfl,fun u hu'=>hall u (aO _ hu')⟩
  ·rintro⟨r1,r2⟩ s' ⟨hr,rfl,_⟩;simp only at hr;subst hr;exact aA h
def quiet:∀(n:Nat) {v:VL} {A:Around} {s:SD} {Q:Bool→SD→Prop},Good s.heap n v→Q true s→wpAny (model prog w) A (eqIsQuiet n v) Q E s
 |0,v,A,s,Q,⟨_,_,_,_,_,_,z⟩,_=>absurd z (ae _)
 |n+1,v,A,s,Q,⟨a,its,t,e,h1,h2,hd⟩,h=>by
  subst e;have hT:=IsTuple.ty rfl h1;obtain⟨o,ho,hc,k,hdt⟩:=id h1;unfold eqIsQuiet;refine Wb (wpAny_specialOf hT F.slot_tuple_eq.lookup ?_);show wpAny _ _ (isInstance (.ref a) (.type "tuple")>>=_) _ _ s;refine Wb (wpAny_isInstance hT isSubtype_tuple_tuple ?_);simp only[Bool.not_true,Bool.false_eq_true,if_false];refine Wb (aX ho hdt ?_);refine Wb ?_;show wpAny _ _ (forIn its.toArray _ _) _ _ s;rw[←Array.forIn_toList];refine wpAny_forIn_list _ (fun rest r s'=>r.1=none∧s'=s∧∀v∈rest,Good s.heap n v) _ ?_ ?_ _ _ ⟨rfl,rfl,MI h2 (by omega)⟩
  ·rintro v rest r s' ⟨hr,rfl,hall⟩;refine Wb (quiet n (hall v aR) ?_);simp only[Bool.not_true,Bool.false_eq_true,if_false];exact aA ⟨rfl,rfl,fun u hu'=>hall u (aO _ hu')⟩
  ·rintro⟨r1,r2⟩ s' ⟨hr,rfl,_⟩;simp only at hr;subst hr;exact aA h
def Ox:∀(n:Nat) {v:VL} {A:Around} {s:SD} {Q:Bool→SD→Prop},Good s.heap n v→Q false s→wpAny (model prog w) A (ofAClassStatement n v) Q E s
 |0,v,A,s,Q,⟨_,_,_,_,_,_,z⟩,_=>absurd z (ae _)
 |n+1,v,A,s,Q,⟨a,its,t,e,h1,h2,hd⟩,h=>by
  subst e;have hT:=IsTuple.ty rfl h1;obtain⟨o,ho,hc,k,hdt⟩:=id h1;unfold ofAClassStatement;refine Wb (wpAny_typeOf hT ?_);have ht:("tuple" == "tuple")=true:=by rfl
  dsimp only;rw[if_pos ht];refine Wb (aA ?_);simp only[Bool.not_true,Bool.false_eq_true,if_false];refine Wb (aX ho hdt ?_);refine Wb ?_;rw[←Array.forIn_toList];refine wpAny_forIn_list _ (fun rest r s'=>r.1=none∧s'=s∧∀v∈rest,Good s.heap n v) _ ?_ ?_ _ _ ⟨rfl,rfl,MI h2 (by omega)⟩
  ·rintro v rest r s' ⟨hr,rfl,hall⟩;refine Wb (Ox n (hall v aR) ?_);simp only[Bool.false_eq_true,if_false];exact aA ⟨rfl,rfl,fun u hu'=>hall u (aO _ hu')⟩
  ·rintro⟨r1,r2⟩ s' ⟨hr,rfl,_⟩;simp only at hr;subst hr;exact aA h
def ZJ{x:VL}{l:List VL}{A:Around}{s:SD}{Q:Bool→SD→Prop}(hx:Good s.heap 8 x)(hl:∀y∈l,Good s.heap 8 y)(h:Q false s):wpAny (model prog w) A (searchCouldBeSeen x l) Q E s:=by
  unfold searchCouldBeSeen
  refine Wb ?_
  refine wpAny_forIn_list _ (fun rest r s'=>r.1=none∧s'=s∧∀v∈rest,Good s.heap 8 v) _ ?_ ?_ _ _ ⟨rfl,rfl,hl⟩
  · rintro v rest r s' ⟨hr,rfl,hall⟩
    have go:∀b:Bool,wpAny (model prog w) A (if b=true then pure (ForInStep.yield (none,())) else do
        let q ←eqIsQuiet 8 x
        if(!q)=true then pure (ForInStep.done (some true,())) else do
          let q ←eqIsQuiet 8 v
          if(!q)=true then pure (ForInStep.done (some true,())) else do
            let q ←ofAClassStatement 8 x
            if q=true then pure (ForInStep.done (some true,())) else do
              let q ←ofAClassStatement 8 v
              if q=true then pure (ForInStep.done (some true,())) else pure (ForInStep.yield (none,())))
        (fun st s''=>match st with
          |ForInStep.yield r=>r.1=none∧s''=s'∧∀v∈rest,Good s'.heap 8 v
          |ForInStep.done r=>False) E s':=fun b=>by
      cases b with
      |true=>rw[if_pos rfl];exact aA ⟨rfl,rfl,fun u hu'=>hall u (aO _ hu')⟩
      |false =>
        rw[if_neg aK]
        refine Wb (quiet 8 hx ?_)
        simp only[Bool.not_true,Bool.false_eq_true,if_false]
        refine Wb (quiet 8 (hall v aR) ?_)
        simp only[Bool.not_true,Bool.false_eq_true,if_false]
        refine Wb (Ox 8 hx ?_)
        simp only[Bool.false_eq_true,if_false]
        refine Wb (Ox 8 (hall v aR) ?_)
        simp only[Bool.false_eq_true,if_false]
        exact aA ⟨rfl,rfl,fun u hu'=>hall u (aO _ hu')⟩
    refine aU (go _) (fun st s'' z=>?_) fun _ _ z=>z
    cases st with
    |yield r=>exact z
    |done r=>exact z.elim
  · rintro⟨r1,r2⟩ s' ⟨hr,rfl,_⟩
    simp only at hr
    subst hr
    exact aA h
end
end TH
namespace TH
open PySem PyProof.Rows PySem.SeqAt
abbrev ES:=Array (Int×Tr)
def OA(et:ES)(i:Nat):Int:=(et[i]?.map (·.1)).getD 0
def Ws(et:ES)(t:SetTable)(x:Tr)(h:Int):Option (Option Nat) :=
 if t.gaveWay then none else
 match t.probe (OA et) h (t.probeStart h) with
 |some (.empty j none)=>some (some j)
 |some (.candidate _ i _)=>match et[i]? with
  |some (_,y)=>if y=x then some none else none
  |none=>none
 |_=>none
def Wz(st:ES×SetTable)(x:Tr):Option (ES×SetTable) :=
 if(st.2.fits st.1.size&&decide (st.1.size≤1000)&&st.2.plain)=false then none else
 match Ws st.1 st.2 x (BQ x) with
 |none=>none
 |some none=>some st
 |some (some slot) =>
  if(st.2.put slot).1.tooFull=false then some (SetTable.insertAt st.1 (st.2.put slot).2 (BQ x,x),(st.2.put slot).1) else
  if((st.2.put slot).1.fits (SetTable.insertAt st.1 (st.2.put slot).2 (BQ x,x)).size&&decide (SetTable.sizeAbove (SetTable.grown (st.1.size+1))≤100000))=false then none else
  match (st.2.put slot).1.relaid ((SetTable.insertAt st.1 (st.2.put slot).2 (BQ x,x)).map (·.1)) (SetTable.grown (st.1.size+1)) with
  |none=>none
  |some (t',order) =>
   if(order.filterMap ((SetTable.insertAt st.1 (st.2.put slot).2 (BQ x,x))[·]?)).size=(SetTable.insertAt st.1 (st.2.put slot).2 (BQ x,x)).size then
    some (order.filterMap ((SetTable.insertAt st.1 (st.2.put slot).2 (BQ x,x))[·]?),t') else none
def O1(G:VL→Tr→Prop)(h:Heap)(p:Int×VL)(q:Int×Tr):Prop:=p.1=q.1∧q.2.deep<8∧G p.2 q.2∧∃a its,p.2=.ref a∧h.IsTuple a its.toArray∧Vs h q.2 its
abbrev DQ(G:VL→Tr→Prop)(h:Heap)(ev:Array (Int×VL))(et:ES):Prop:=Paired (O1 G h) ev.toList et.toList
variable{G:VL→Tr→Prop}
section
variable{α β:Type}{F:α→β→Prop}
def Paired.get:∀ {l:List α} {m:List β},Paired F l m→∀ {i:Nat} {y:β},m[i]? = some y→∃x,l[i]? = some x∧F x y
 |_,_,.nil,i,y,h=>by simp at h
 |_,_,.cons h1 r,0,y,h=>by simp at h;subst h;exact⟨_,rfl,h1⟩
 |_,_,.cons h1 r,i+1,y,h=>Paired.get r (by simpa using h)
def Paired.none:∀ {l:List α} {m:List β},Paired F l m→∀ {i:Nat},m[i]? = Option.none→l[i]? = Option.none:=fun {l m} r i h=>by
 have:=r.length;rw[List.getElem?_eq_none_iff]at h ⊢;omega
def Paired.app{l2:List α}{m2:List β}(k:Paired F l2 m2):∀ {l:List α} {m:List β},Paired F l m→Paired F (l++l2) (m++m2)
 |_,_,.nil=>k
 |_,_,.cons h r=>.cons h (Paired.app k r)
def Paired.take:∀ {l:List α} {m:List β} (n:Nat),Paired F l m→Paired F (l.take n) (m.take n)
 |_,_,0,_=>by simpa using Paired.nil
 |_,_,n+1,.nil=>by simpa using Paired.nil
 |_,_,n+1,.cons h r=>.cons h (Paired.take n r)
def Paired.drop:∀ {l:List α} {m:List β} (n:Nat),Paired F l m→Paired F (l.drop n) (m.drop n)
 |_,_,0,h=>h
 |_,_,n+1,.nil=>by simpa using Paired.nil
 |_,_,n+1,.cons h r=>Paired.drop n r
def Paired.pick{l:List α}{m:List β}(r:Paired F l m):∀(o:List Nat),Paired F (o.filterMap (l[·]?)) (o.filterMap (m[·]?))
 |[]=>.nil
 |i::o=>by
  rw[List.filterMap_cons,List.filterMap_cons];cases e:m[i]? with
  |none=>rw[Paired.none r e];exact Paired.pick r o
  |some y =>
   obtain⟨x,e2,h⟩:=Paired.get r e;rw[e2];exact .cons h (Paired.pick r o)
def Paired.imp{G:α→β→Prop}(h:∀a b,F a b→G a b):∀ {l:List α} {m:List β},Paired F l m→Paired G l m
 |_,_,.nil=>.nil
 |_,_,.cons k r=>.cons (h _ _ k) (Paired.imp h r)
end
def Iw{α:Type}(xs:Array α)(p:Nat)(x:α):(SetTable.insertAt xs p x).toList=xs.toList.take p++x::xs.toList.drop p:=by
 unfold SetTable.insertAt;simp[List.extract];rw[List.take_of_length_le (by simp)]
def DQ.fst{h:Heap}{ev:Array (Int×VL)}{et:ES}(r:DQ G h ev et):ev.map (·.1)=et.map (·.1):=by
 have key:∀ {l:List (Int×VL)} {m:List (Int×Tr)},Paired (O1 G h) l m→l.map (·.1)=m.map (·.1):=fun r=>by
  induction r with
  |nil=>rfl
  |cons k _ ih=>rw[List.map_cons,List.map_cons,ih,k.1]
 apply Array.toList_inj.mp
 simpa using key r
def DQ.size{h:Heap}{ev:Array (Int×VL)}{et:ES}(r:DQ G h ev et):ev.size=et.size:=by simpa using Paired.length r
def DQ.OA{h:Heap}{ev:Array (Int×VL)}{et:ES}(r:DQ G h ev et)(i:Nat):(ev[i]?.map (·.1)).getD 0=OA et i:=by
 have:=bJ (fun a:Array Int=>a[i]?) r.fst;simp only[Array.getElem?_map]at this;rw[TH.OA,this]
def DQ.good{h:Heap}{ev:Array (Int×VL)}{et:ES}(r:DQ G h ev et):∀p∈ev.toList,Good h 8 p.2:=by
 have key:∀ {l:List (Int×VL)} {m:List (Int×Tr)},Paired (O1 G h) l m→∀p∈l,Good h 8 p.2:=fun r=>by
  induction r with
  |nil=>intro p hp;cases hp
  |cons k _ ih =>
   intro p hp;rcases aJ.mp hp with rfl|hp
   ·obtain⟨_,hd,_,a,its,e,h1,h2⟩:=k;exact⟨a,its,_,e,h1,h2,hd⟩
   ·exact ih p hp
 exact key r
def DQ.at{h:Heap}{ev:Array (Int×VL)}{et:ES}(r:DQ G h ev et){i:Nat}{z:Int}{y:Tr}(e:et[i]? = some (z,y)):∃a its,ev[i]? = some (z,.ref a)∧h.IsTuple a its.toArray∧Vs h y its∧y.deep<8:=by
 obtain⟨⟨z',v⟩,h1,h2,hd,_,a,its,e2,h3,h4⟩:=Paired.get r (by simpa using e);have h2:z'=z:=h2;have e2:v=.ref a:=e2;subst h2 e2;exact⟨a,its,by simpa using h1,h3,h4,hd⟩
def DQ.keeps{h h':Heap}{ev:Array (Int×VL)}{et:ES}(k:∀b o,h.get? b=some o→o.cls=.type "tuple" → h'.get? b=some o)(r:DQ G h ev et):DQ G h' ev et :=
 Paired.imp (fun p q ⟨e,hd,hg,a,its,e2,h1,h2⟩=>⟨e,hd,hg,a,its,e2,(by obtain⟨o,ho,hc,n,hdt⟩:=h1;exact⟨o,k _ _ ho hc,hc,n,hdt⟩),h2.keeps k⟩) r
section
variable{prog:Program}{w:World}{E:VL→SD→Prop}{A:Around}{s:SD}{a xa:AD}{o:Obj}{ev:Array (Int×VL)}{et:ES}{ep:Nat}{t:SetTable}{x:Tr}{its:List VL}{h:Int}
def X6{r:Option Nat}{Q:SetFound→SD→Prop}(ho:s.heap.get? a=some o)(hd:o.data=.set ev ep t)(hf:t.fits et.size=true)(R:DQ G s.heap ev et)(hx1:s.heap.IsTuple xa its.toArray)(hx2:Vs s.heap x its)(hxd:x.deep<8)
 (hu:A.units+8<cLine)(hs:Ws et t x h=some r)(h0:r=none→Q (.there none) s)(h1:∀j,r=some j→Q (.free j false) s):wpAny (model prog w) A (setSearch a (.ref xa) h true) Q E s:=by
 have hf':t.fits ev.size=true:=by rw[R.size];exact hf
 unfold Ws at hs;by_cases hg:t.gaveWay=true
 ·rw[if_pos hg]at hs;cases hs
 rw[if_neg hg]at hs;unfold setSearch;rw[show(100000:Nat)=99999+1 from rfl,setSearchFrom];refine Wb (bH ho hd hf' ?_);dsimp only;rw[if_neg hg];have hpr:∀f:Nat→Int,(∀i,f i=OA et i)→t.probe f h ((none:Option SetTable.Probe).getD (t.probeStart h))=t.probe (OA et) h (t.probeStart h):=fun f hf=>by
  rw[show f=OA et from funext hf];rfl
 generalize hst:t.probe _ h ((none:Option SetTable.Probe).getD (t.probeStart h))=pr;have hpr':pr=t.probe (OA et) h (t.probeStart h):=hst.symm.trans (hpr _ fun i=>R.OA i);clear hst hpr;subst hpr';cases hp:t.probe (OA et) h (t.probeStart h) with
 |none=>rw[hp]at hs;cases hs
 |some met =>
  rw[hp]at hs;cases met with
  |empty j dummy =>
   cases dummy with
   |none=>cases hs;exact aA (h1 j rfl)
   |some d=>cases hs
  |candidate j i next =>
   cases he:et[i]? with
   |none=>simp only[he]at hs;cases hs
   |some zy =>
    obtain⟨z,y⟩:=zy;simp only[he]at hs;by_cases hy:y=x
    ·rw[if_pos hy]at hs;cases hs;subst hy;obtain⟨b,its2,e1,e2,e3,e4⟩:=R.at he;cases hl:t.led with
     |true =>
      simp only[Bool.not_true,Bool.false_eq_true,if_false];rw[e1];refine Wb (aS (Qw e2 e3 hx1 hx2 (by omega) prog w E _ ?_));rw[decide_eq_true rfl];refine Wb (bH ho hd hf' ?_);exact aA (h0 rfl)
     |false =>
      simp only[Bool.not_false,if_true];refine Wb (ZJ ⟨xa,its,_,rfl,hx1,hx2,hxd⟩ (fun v hv=>?_) ?_)
      ·obtain⟨p,hp1,rfl⟩:=aZ.mp hv;exact R.good p (Array.mem_toList_iff.mpr (Array.mem_filter.mp (Array.mem_toList_iff.mp hp1)).1)
      simp only[Bool.false_eq_true,if_false];rw[e1];refine Wb (aS (Qw e2 e3 hx1 hx2 (by omega) prog w E _ ?_));rw[decide_eq_true rfl];refine Wb (bH ho hd hf' ?_);exact aA (h0 rfl)
    ·rw[if_neg hy]at hs;cases hs
def HA{n:Nat}(h:n≤100000):n≤sizeLine:=aQ h (by rw[sizeLine_eq];decide)
def VM{hp:Heap}(ho:hp.get? a=some o)(hd:o.data=.set ev ep t)(ev':Array (Int×VL))(t':SetTable):(hp.update a (Obj.putSet ev' t')).get? a=some {o with data:=.set ev' (ep+1) t'}:=by
 have:=Heap.get?_update_self (Obj.putSet ev' t') ho (by rw[putSet_of ev' t' hd];rfl);rw[putSet_of ev' t' hd]at this;exact this
def UL{hp:Heap}(ho:hp.get? a=some o)(hc:o.cls=.type "set")(g:Obj→Obj):∀b u,hp.get? b=some u→u.cls=.type "tuple" →(hp.update a g).get? b=some u:=fun b u q hu=>by
 have:a≠b:=fun z=>by
  subst z;rw[ho]at q;cases q;rw[hc]at hu
  injection hu with z
  exact absurd z (by decide)
 rw[Heap.get?_update_other _ _ this];exact q
def iE{et' : ES}{t' : SetTable}{Q : Bool→SD→Prop}(ho : s.heap.get? a = some o)(hc : o.cls = .type "set")(hd : o.data = .set ev ep t)(R : DQ G s.heap ev et)(hx1 : s.heap.IsTuple xa its.toArray)(hx2 : Vs s.heap x its)(hxd : x.deep < 8)(hxg : G (.ref xa) x)
 (hu : A.units + 8 < cLine)(hs : Wz (et,t) x = some (et',t'))
 (k : ∀ (b : Bool) (h' : Heap) (tk : Nat) (ev' : Array (Int×VL)) (ep' : Nat),Heap.SameBut a s.heap h'→h'.get? a = some { o with data:=.set ev' ep' t' }→DQ G h' ev' et'→Q b { s with heap:=h',toks:=tk }) :
    wpAny (model prog w) A (setAdd a (.ref xa)) Q E s := by
  unfold setAdd
  refine aS (Wb (eK hx1 hx2 (by omega) fun tk => ?_))
  unfold setAddHashed
  refine aS ?_
  unfold Wz at hs
  by_cases h1 : (t.fits et.size && decide (et.size≤1000) && t.plain) = false
  · rw [if_pos h1] at hs; cases hs
  rw [if_neg h1] at hs
  simp only [Bool.not_eq_false,Bool.and_eq_true,decide_eq_true_eq] at h1
  obtain ⟨⟨hf,hz⟩,hpl⟩:=h1
  have hf' : t.fits ev.size = true := by rw [R.size]; exact hf
  cases hsr : Ws et t x (BQ x) with
  | none => simp only [hsr] at hs; cases hs
  | some r =>
    simp only [hsr] at hs
    rw [show (100000 : Nat) = 99999 + 1 from rfl,setAddHashedIn]
    refine Wb (bH (s:={ s with toks:=tk }) ho hd hf' ?_)
    dsimp only
    have hbs : byScan (.ref xa) ev = false:=rfl
    rw [hbs,if_neg aK]
    refine Wb (X6 (s:={ s with toks:=tk }) ho hd hf R hx1 hx2 hxd hu hsr (fun hr => ?_) fun j hr => ?_)
    · subst hr
      cases hs
      exact aA (k _ s.heap tk ev ep (Heap.SameBut.refl ..) (by rw [ho,← hd]) R)
    · subst hr
      dsimp only at hs ⊢
      refine Wb (bH (s:={ s with toks:=tk }) ho hd hf' ?_)
      dsimp only
      have hpl2 : (t.put j).1.plain = true:=hpl
      rw [if_pos hpl2]
      refine Wb (Ss 8 (s:={ s with toks:=tk }) ⟨xa,its,x,rfl,hx1,hx2,hxd⟩ ?_)
      simp only [if_true]
      have R1 : DQ G s.heap (SetTable.insertAt ev (t.put j).2 (BQ x,.ref xa)) (SetTable.insertAt et (t.put j).2 (BQ x,x)) := by
        unfold DQ
        rw [Iw,Iw]
        exact Paired.app (.cons ⟨rfl,hxd,hxg,xa,its,rfl,hx1,hx2⟩ (Paired.drop _ R)) (Paired.take _ R)
      have hz1 : (SetTable.insertAt ev (t.put j).2 (BQ x,Value.ref xa)).size≤1001 := by
        have h2:=bJ List.length (Iw ev (t.put j).2 (BQ x,Value.ref xa))
        simp only [Array.length_toList,List.length_append,List.length_take,List.length_cons,List.length_drop] at h2
        have:=R.size
        omega
      have hz2 : (SetTable.insertAt et (t.put j).2 (BQ x,x)).size = (SetTable.insertAt ev (t.put j).2 (BQ x,Value.ref xa)).size:=R1.size.symm
      refine Wb (wpAny_storeSet_of (s:={ s with toks:=tk }) ho hd ?_ (HA (by omega)))
      have g1:=VM ho hd (SetTable.insertAt ev (t.put j).2 (BQ x,.ref xa)) (t.put j).1
      have k1:=UL ho hc (Obj.putSet (SetTable.insertAt ev (t.put j).2 (BQ x,.ref xa)) (t.put j).1)
      have sb1:=ai s.heap a (Obj.putSet (SetTable.insertAt ev (t.put j).2 (BQ x,.ref xa)) (t.put j).1)
      by_cases hfull : (t.put j).1.tooFull = false
      · rw [if_pos hfull] at hs
        cases hs
        rw [hfull]
        simp only [Bool.and_false,Bool.false_eq_true,if_false]
        exact aA (k _ _ tk _ _ sb1 g1 (R1.keeps k1))
      · rw [if_neg hfull] at hs
        have hfull : (t.put j).1.tooFull = true := by simpa using hfull
        rw [hfull]
        simp only [Bool.not_false,Bool.and_true,if_true]
        by_cases h2 : ((t.put j).1.fits (SetTable.insertAt et (t.put j).2 (BQ x,x)).size && decide (SetTable.sizeAbove (SetTable.grown (et.size + 1))≤100000)) = false
        · rw [if_pos h2] at hs; cases hs
        rw [if_neg h2] at hs
        simp only [Bool.not_eq_false,Bool.and_eq_true,decide_eq_true_eq] at h2
        obtain ⟨hfit,hsa⟩:=h2
        cases hrl : (t.put j).1.relaid ((SetTable.insertAt et (t.put j).2 (BQ x,x)).map (·.1)) (SetTable.grown (et.size + 1)) with
        | none => simp only [hrl] at hs; cases hs
        | some to =>
          obtain ⟨t2,order⟩:=to
          simp only [hrl] at hs
          by_cases h3 : (order.filterMap ((SetTable.insertAt et (t.put j).2 (BQ x,x))[·]?)).size = (SetTable.insertAt et (t.put j).2 (BQ x,x)).size
          · rw [if_pos h3] at hs
            cases hs
            have R2 : DQ G s.heap (order.filterMap ((SetTable.insertAt ev (t.put j).2 (BQ x,Value.ref xa))[·]?)) (order.filterMap ((SetTable.insertAt et (t.put j).2 (BQ x,x))[·]?)) := by
              unfold DQ
              have:=Paired.pick R1 order.toList
              simpa using this
            have g2:=VM g1 rfl (order.filterMap ((SetTable.insertAt ev (t.put j).2 (BQ x,Value.ref xa))[·]?)) t'
            have k2:=UL g1 hc (Obj.putSet (order.filterMap ((SetTable.insertAt ev (t.put j).2 (BQ x,Value.ref xa))[·]?)) t')
            have sb2:=ai (s.heap.update a (Obj.putSet (SetTable.insertAt ev (t.put j).2 (BQ x,.ref xa)) (t.put j).1)) a (Obj.putSet (order.filterMap ((SetTable.insertAt ev (t.put j).2 (BQ x,Value.ref xa))[·]?)) t')
            refine Wb ?_
            unfold setRelay
            refine Wb (bH g1 rfl (by rw [← hz2]; exact hfit) ?_)
            dsimp only
            rw [R.size,if_neg (Nat.not_lt.mpr (HA hsa))]
            refine Wb ?_
            rw [R1.fst,hrl]
            have hsz : (order.filterMap ((SetTable.insertAt ev (t.put j).2 (BQ x,Value.ref xa))[·]?)).size = (SetTable.insertAt ev (t.put j).2 (BQ x,Value.ref xa)).size := by rw [R2.size,h3,hz2]
            have hne : ¬ ((order.filterMap ((SetTable.insertAt ev (t.put j).2 (BQ x,Value.ref xa))[·]?)).size != (SetTable.insertAt ev (t.put j).2 (BQ x,Value.ref xa)).size) = true := by simp [hsz]
            show wpAny _ _ (do if (order.filterMap ((SetTable.insertAt ev (t.put j).2 (BQ x,Value.ref xa))[·]?)).size != (SetTable.insertAt ev (t.put j).2 (BQ x,Value.ref xa)).size then unsupported "internal:set-table-lost-an-element"
                               pure (order.filterMap ((SetTable.insertAt ev (t.put j).2 (BQ x,Value.ref xa))[·]?),t')) _ _ _
            rw [if_neg hne]
            refine aA ?_
            refine wpAny_storeSet_of g1 rfl ?_ (HA (by rw [hsz]; omega))
            exact aA (k _ _ tk _ _ (sb1.trans sb2) g2 ((R2.keeps k1).keeps k2))
          · rw [if_neg h3] at hs; cases hs
end
end TH
namespace TH
open PySem
def grow:List Tr→Tr→List Tr
 |_,.nil=>[]
 |pre,.cons b r=>((Tr.of (Tr.CL (b.bs++[.nil]))::grow [] b).map fun g=>Tr.of (Tr.CL (pre++g::r.bs)))++grow (pre++[b]) r
def ml(t:Tr):List Tr:=Tr.of (Tr.CL (t.bs++[.nil]))::grow [] t
def ups(l:List Tr):List Tr:=l.flatMap ml
def NA(st:ES×SetTable):List Tr→Option (ES×SetTable)
 |[]=>some st
 |x::r=>(Wz st x).bind fun st'=>NA st' r
def LJ(led:Bool):ES×SetTable:=(#[],.fresh 0 0 led)
def PH(st:ES×SetTable):List Tr:=st.1.toList.map (·.2)
def tz:Nat→List Tr
 |0=>[.nil]
 |n+1=>(Tr.CL ((ups (tz n)).eraseDups)).reverse
end TH
namespace TH
open PySem PyProof.Rows PySem.SeqAt
def SE(G:VL→Tr→Prop)(h:Heap)(v:VL)(x:Tr):Prop:=x.deep<8∧G v x∧∃a its,v=.ref a∧h.IsTuple a its.toArray∧Vs h x its
abbrev Jd(G:VL→Tr→Prop)(h:Heap)(vs:List VL)(xs:List Tr):Prop:=Paired (SE G h) vs xs
variable{G:VL→Tr→Prop}
def SE.keeps{h h':Heap}(k:∀b o,h.get? b=some o→o.cls=.type "tuple" → h'.get? b=some o){v:VL}{x:Tr}(r:SE G h v x):SE G h' v x:=by
 obtain⟨hd,hg,a,its,e,h1,h2⟩:=r;exact⟨hd,hg,a,its,e,(by obtain⟨o,ho,hc,n,hdt⟩:=h1;exact⟨o,k _ _ ho hc,hc,n,hdt⟩),h2.keeps k⟩
def Jd.keeps{h h':Heap}(k:∀b o,h.get? b=some o→o.cls=.type "tuple" → h'.get? b=some o){vs:List VL}{xs:List Tr}(r:Jd G h vs xs):Jd G h' vs xs:=Paired.imp (fun _ _ z=>z.keeps k) r
def L4(G:VL→Tr→Prop)(h:Heap)(S:AD)(st:ES×SetTable):Prop:=∃o ev ep,h.get? S=some o∧o.ExactSet∧o.data=.set ev ep st.2∧DQ G h ev st.1
def L4.keeps{h h':Heap}{S:AD}{st:ES×SetTable}(x:L4 G h S st)(kS:∀o,h.get? S=some o→h'.get? S=some o)(k:∀b o,h.get? b=some o→o.cls=.type "tuple" → h'.get? b=some o):L4 G h' S st:=by
 obtain⟨o,ev,ep,h1,h2,h3,h4⟩:=x;exact⟨o,ev,ep,kS _ h1,h2,h3,h4.keeps k⟩
section
variable{prog:Program}{w:World}{A:Around}{R:Result→SD→Prop}{I S:AD}{fp wr:List AD}{St:Nat→Heap→Prop}{items:Array VL}{xs:List Tr}{st':ES×SetTable}
def fR(W:Walks prog w A.in1 I fp wr items.size (fun i v=>items[i]? = some v) St)(hSf:S ∉ fp)(hcl:∀i h b o,St i h→b∈wr→h.get? b=some o→o.cls≠.type "tuple")(hu:A.units+10<cLine) :
  ∀(k i:Nat) (s:SD) (st:ES×SetTable),items.size-i=k→i≤items.size→St i s.heap→L4 G s.heap S st→Jd G s.heap items.toList xs→NA st (xs.drop i)=some st' →
   (∀(h':Heap) (tk:Nat),(∀b o,b≠S→b ∉ wr→s.heap.get? b=some o→h'.get? b=some o)→(∀b o,s.heap.get? b=some o→o.cls=.type "tuple" → h'.get? b=some o)→L4 G h' S st'→R (.ok (.ret .none)) {s with heap:=h',toks:=tk}) →
   codeAny (model prog w) A (.builtin "set.update.loop" ⟨[.ref S,.ref I],[]⟩) R s:=by
 have hSw:S ∉ wr:=fun h=>hSf (W.sub _ h);intro k
 induction k with
 |zero =>
  intro i s st hk hi hst hS hT hrun hR;have hin:i=items.size:=by omega
  subst hin;have hlen:=Paired.length hT;rw[List.drop_of_length_le (by rw[←hlen];simp)]at hrun;cases hrun;refine codeAny_builtin F.entry_set_update_loop ?_;rw[Around.under_plainId F.plain_set_update_loop _];show wpAny _ A.in1 (pyNext (.ref I)>>=_) _ _ s;refine Wb (W.done s _ _ hst fun h' tk hm=>?_);show wpAny _ A.in1 (ret Value.none) _ _ _;have kt:∀b o,s.heap.get? b=some o→o.cls=.type "tuple" → h'.get? b=some o:=fun b o e hc=>hm b o (fun hb=>hcl _ _ b o hst hb e hc) e;exact aA (hR h' tk (fun b o _ hb e=>hm b o hb e) kt (hS.keeps (fun o e=>hm S o hSw e) kt))
 |succ k ih =>
  intro i s st hk hi hst hS hT hrun hR;have hlt:i<items.size:=by omega
  refine codeAny_builtin F.entry_set_update_loop ?_;rw[Around.under_plainId F.plain_set_update_loop _];show wpAny _ A.in1 (pyNext (.ref I)>>=_) _ _ s;refine Wb (W.item i s _ _ hlt hst fun v h1 tk hP hst' hm=>?_);have kt:∀b o,s.heap.get? b=some o→o.cls=.type "tuple" → h1.get? b=some o:=fun b o e hc=>hm b o (fun hb=>hcl _ _ b o hst hb e hc) e;have hS1:=hS.keeps (fun o e=>hm S o hSw e) kt;have hT1:=hT.keeps kt;have hlen:=Paired.length hT;have hxi:i<xs.length:=by rw[←hlen];simpa using hlt
  have hx:xs[i]? = some xs[i]:=aL hxi;obtain⟨v',hv',hxd,hxg,xa,its,e1,e2,e3⟩:=Paired.get hT1 hx;have hvv:v'=v:=by
   have h2:items.toList[i]? = some v:=by simpa using hP
   rw[h2]at hv';exact(ao hv').symm
  subst hvv;subst e1;rw[List.drop_eq_getElem_cons hxi,NA]at hrun;cases hadd:Wz st xs[i]with
  |none=>rw[hadd]at hrun;cases hrun
  |some st1 =>
   rw[hadd]at hrun;obtain⟨o,ev,ep,g1,g2,g3,g4⟩:=hS1;obtain⟨et,t⟩:=st;obtain⟨et1,t1⟩:=st1;show wpAny _ A.in1 (holding [Value.ref xa] (setAdd S (.ref xa))>>=_) _ _ _;refine Wb (aS (iE (s:={s with heap:=h1,toks:=tk}) g1 g2.1 g3 g4 e2 e3 hxd hxg (by rw[Around.in1_units];omega) hadd fun b h2 tk2 ev2 ep2 sb gS R2=>?_));have Kp:∀b o,h1.get? b=some o→o.cls=.type "tuple" → h2.get? b=some o:=fun b o' e hc=>by
    rw[sb.2 b fun z=>?_]
    ·exact e
    ·subst z;rw[g1]at e;cases e;rw[g2.1]at hc
     injection hc with hc
     exact absurd hc (by decide)
   refine aA ⟨plainId_quiet F.plain_set_update_loop _,ih (i+1) {s with heap:=h2,toks:=tk2} (et1,t1) (by omega) hlt (W.frame _ _ _ hst' fun b hb o' e=>?_) ⟨_,ev2,ep2,gS,g2,rfl,R2⟩ (hT1.keeps Kp) hrun fun h3 tk3 m3 kt3 S3=>?_⟩
   ·rw[sb.2 b fun z=>hSf (z ▸ hb)];exact e
   ·refine hR h3 tk3 (fun b o' hbS hb e=>?_) (fun b o' e hc=>kt3 b o' (Kp b o' (kt b o' e hc) hc) hc) S3;refine m3 b o' hbS hb ?_;show h2.get? b=some o';rw[sb.2 b hbS];exact hm b o' hb e
end
end TH
namespace TH
open PySem PyProof.Rows PySem.SeqAt
section
variable{G:VL→Tr→Prop}{prog:Program}{w:World}{A:Around}{E:VL→SD→Prop}{s:SD}{l:AD}{us:List VL}{xs:List Tr}
abbrev Fv(led:Bool):Obj:={ cls:=.type "set",dict:=none,data:=.set #[] 0 (.fresh 0 0 led)}
def Wx(v:VL){Q1:VL→SD→Prop}(k:Q1 (.ref s.heap.objs.size) {s with heap:=s.heap.push (Fv (!w.params.followText "set-order"))}) :
  codeAny (model prog w) A (.call (.builtin "set.__new__") ⟨[.type "set",v],[]⟩) (wants Q1 E) s:=by
 refine codeAny_of_tree (show wpAny _ A.in1 (checkBuiltinCall "set.__new__" ⟨[.type "set",v],[]⟩>>=fun _=>again (.builtin "set.__new__" ⟨[.type "set",v],[]⟩)) _ _ s from ?_);refine Wb (wpAny_of_eq (F.newCall_set_1 v) (aA ⟨plainId_quiet F.plain_set_new _,codeAny_builtin F.entry_set_new ?_⟩));rw[Around.under_plainId F.plain_set_new _];unfold Builtin.«set.__new__»;unfold Builtin.Frozenset.newClass;have q:=sub_set_self;obtain⟨h0,g0,d0,t0,o0⟩:=s;dsimp only
 wp_walk
 refine wpAny_askSetting (aA ?_);dsimp only;simp only[newObj];exact Wb (wpAny_alloc (aA (aA k)))
def Ub{Q:VL→SD→Prop}(hA:A.handled=none)(hL:s.heap.IsList l us.toArray)(hT:Jd G s.heap us xs)(hu:A.units+20<cLine){st:ES×SetTable}(hst:NA (LJ (!w.params.followText "set-order")) xs=some st)
 (k:∀(h2:Heap) (tk:Nat),L4 G h2 s.heap.objs.size st→(∀b u,s.heap.get? b=some u→h2.get? b=some u)→Q (.ref s.heap.objs.size) {s with heap:=h2,toks:=tk}) :
  wpAny (model prog w) A (call (.type "set") [.ref l]) Q E s:=by
 obtain⟨mc,mt,hmro⟩:=F.called_set.mro;have q1:=F.called_set.made;have q2:=F.called_set.sub;have q3:=F.called_set.notType;have q4:=F.called_set.canCreate;have q5:=F.typeCall_set_1 (.ref l);refine wpAny_call (codeAny_of_tree (show wpAny _ _ (callAny (.type "set") _) _ _ _ from ?_));refine aA ⟨Code.quiet_builtin _ (by decide +kernel),codeAny_builtin F.entry_type_call ?_⟩;rw[Around.under_plain (weight_type_call_type "set" [.ref l] []) rfl]
 repeat (any_goals (first|assumption|wp_step))
 have hnew:=Wx (prog:=prog) (w:=w) (s:=s) (A:=A.in1) (E:=E) (.ref l) (Q1:=fun v s1=>v=.ref s.heap.objs.size∧s1={s with heap:=s.heap.push (Fv (!w.params.followText "set-order"))}) ⟨rfl,rfl⟩;refine codeAny_mono hnew fun r s1 hr=>?_;cases r with
 |error e=>exact hr
 |ok fl =>
  cases fl with
  |next=>exact hr.elim
  |brk=>exact hr.elim
  |cont=>exact hr.elim
  |ret obj =>
   obtain⟨rfl,rfl⟩:=hr;generalize (!w.params.followText "set-order")=led at hst;have gS:(s.heap.push (Fv led)).get? s.heap.objs.size=some (Fv led):=aI _ rfl;have tS:Shared.TypeIs {s with heap:=s.heap.push (Fv led)} (.ref s.heap.objs.size) "set" := ⟨_,gS,rfl⟩;have q6:=F.called_set.init.lookup;have q7:=F.called_set.init.bind (.ref s.heap.objs.size)
   repeat (any_goals (first|assumption|wp_step))
   have hinit:codeAny (model prog w) A.in1 (.call (.builtin "set.__init__") ⟨[.ref s.heap.objs.size,.ref l],[]⟩)
     (wants (fun v s2=>v=.none∧∃h2 tk,s2={s with heap:=h2,toks:=tk}∧L4 G h2 s.heap.objs.size st∧∀b u,s.heap.get? b=some u→h2.get? b=some u) E) {s with heap:=s.heap.push (Fv led)}:=by
    refine codeAny_call_builtin F.called_set.init.plain F.entry_set_init (check_set_init_1 tS ?_);obtain⟨⟨c0,d0,dt0,sl0⟩,gl,c1,n0,dt1⟩:=id hL;simp only at c1 dt1;subst c1 dt1;have gl1:(s.heap.push (Fv led)).get? l=some ⟨.type "list",d0,.seq us.toArray n0,sl0⟩:=aD _ gl;have isl:(s.heap.push (Fv led)).IsList l us.toArray:=⟨_,gl1,rfl,n0,rfl⟩;have s1:=F.sub_list_set;have s2:=F.sub_list_frozenset;have s3:(Value.type "list" == Value.type "dict")=false:=by decide
    unfold Builtin.«set.__init__» noKeywords Builtin.Frozenset.updateFrom;generalize ePI:pyIter=PI
    wp_walk
    subst ePI;refine wpAny_pyIter_list isl (Wb (wpAny_runValue ?_));have ll:l<s.heap.objs.size:=aF gl;have zI:(s.heap.push (Fv led)).objs.size=s.heap.objs.size+1:=Heap.size_push ..;have neI:l≠(s.heap.push (Fv led)).objs.size:=by rw[zI];exact aH (bG ll)
    have nfp:s.heap.objs.size ∉ [(s.heap.push (Fv led)).objs.size,l]:=by
     simp only[List.mem_cons,List.not_mem_nil,or_false,not_or];exact⟨by rw[zI];exact aH (bU _),Nat.ne_of_gt ll⟩
    have hA3:A.in1.in1.in1.handled=none:=by simp[hA]
    refine fR (G:=G) (xs:=xs) (st':=st) (Walks.list hA3 _ l neI us.toArray) nfp (fun i h b o hit hb e hc=>?_) (by simp only[Around.in1_units];omega) _ 0 _ (LJ led) rfl (bE _) ⟨⟨_,Heap.get?_push_size _ rfl,rfl,rfl⟩,isl.push _⟩ ?_ ?_ hst fun h2 tk m2 Kp S2=>?_
    ·obtain⟨⟨oi,gi,ci,_⟩,_⟩:=hit;have:b=(s.heap.push (Fv led)).objs.size:=by simpa using hb
     subst this;rw[gi]at e;cases e;rw[ci]at hc
     injection hc with hc
     exact absurd hc (by decide)
    ·exact⟨Fv led,#[],0,Heap.get?_push_of_some _ gS,⟨rfl,rfl,rfl⟩,rfl,.nil⟩
    ·exact hT.keeps fun b o e _=>aD _ (aD _ e)
    ·refine aA ?_;show wpAny _ _ (ret Value.none) _ _ _;refine aA ⟨rfl,h2,tk,rfl,S2,fun b u e=>?_⟩;have lb:b<s.heap.objs.size:=aF e;refine m2 b u (aH lb) ?_ (aD _ (aD _ e));simp only[List.mem_cons,List.not_mem_nil,or_false];rw[zI];exact aH (bG lb)
   refine codeAny_mono hinit fun r2 s2 hr2=>?_;cases r2 with
   |error e=>exact hr2
   |ok f2 =>
    cases f2 with
    |next=>exact hr2.elim
    |brk=>exact hr2.elim
    |cont=>exact hr2.elim
    |ret v2 =>
     obtain⟨rfl,h2,tk,rfl,S2,k2⟩:=hr2
     repeat (any_goals (first|assumption|wp_step))
     exact k h2 tk S2 k2
end
end TH
namespace TH
open PySem PyProof.Rows PySem.SeqAt
def QG:entryFor table "set.__iter__" = some Builtin.«frozenset.__iter__» :=
 entryFor_alias (id' := "frozenset.__iter__") (by kernel_rfl) rfl (by decide +kernel) (by kernel_rfl)
def Dy:Slot "set_iterator" "__next__" "set_iterator.__next__" :=
 .of (owner := "set_iterator") (n := "__next__") (by rw[typeLookup_type,builtinLookup_eq_fast];kernel_rfl) (by decide +kernel)
  (by decide +kernel) (by decide +kernel) (by first|exact .inl (by decide +kernel)|exact .inr (by decide +kernel)) (by rw[isSubtype_type];kernel_rfl)
def LP:entryFor table "set_iterator.__next__" = some Builtin.«set_iterator.__next__»:=entryFor_of_fast (by kernel_rfl)
def MP(a:VL):argsOk "set_iterator.__next__" ⟨[a],[]⟩:=by unfold argsOk;kernel_rfl
def MU:Slot "set_iterator" "__iter__" "set_iterator.__iter__" :=
 .of (owner := "set_iterator") (n := "__iter__") (by rw[typeLookup_type,builtinLookup_eq_fast];kernel_rfl) (by decide +kernel)
  (by decide +kernel) (by decide +kernel) (by first|exact .inl (by decide +kernel)|exact .inr (by decide +kernel)) (by rw[isSubtype_type];kernel_rfl)
def Qf:entryFor table "set_iterator.__iter__" = some Builtin.«dict_keyiterator.__iter__» :=
 entryFor_alias (id' := "dict_keyiterator.__iter__") (by kernel_rfl) rfl (by decide +kernel) (by kernel_rfl)
def Ry(a:VL):argsOk "set_iterator.__iter__" ⟨[a],[]⟩:=by unfold argsOk;kernel_rfl
section
variable{α:Type}{next:Nat→Nat}
def VJ:∀(n k:Nat) (left:List α) (out:Array α),left.length=n→(pickOrder.go next n k left out).toList.Perm (out.toList++left)
 |0,k,left,out,h=>by
  have:left=[]:=bM h;subst this;rw[pickOrder.go];simp
 |n+1,k,left,out,h=>by
  rw[pickOrder.go];have hlt:next k % left.length<left.length:=Nat.mod_lt _ (by omega);rw[List.getElem?_eq_getElem hlt];refine(VJ n (k+1) _ _ (by rw[List.length_eraseIdx_of_lt hlt];omega)).trans ?_;rw[Array.toList_push,List.append_assoc];refine List.Perm.append_left _ ?_;rw[List.eraseIdx_eq_take_drop_succ];have e:left.take (next k % left.length)++left[next k % left.length]::left.drop (next k % left.length+1)=left:=by rw[←List.drop_eq_getElem_cons hlt,List.take_append_drop]
  have p:=List.perm_middle (a:=left[next k % left.length]) (l₁:=left.take (next k % left.length)) (l₂:=left.drop (next k % left.length+1));rw[e]at p;exact p.symm
def W6(xs:Array α):(pickOrder next xs).toList.Perm xs.toList:=by
 unfold pickOrder
 simpa using VJ xs.size 0 xs.toList #[] (by simp)
end
end TH
namespace TH
open PySem PyProof.Rows PySem.SeqAt
def Ff(w:World)(S:AD)(ep:Nat)(ev:Array (Int×VL)):Array (Int×VL):=if w.params.followText "set-order" = true then pickOrder (w.params.setOrder S ep) ev else ev
def RO(w:World)(S:AD)(ep:Nat)(ev:Array (Int×VL)):(Ff w S ep ev).toList.Perm ev.toList:=by
 unfold Ff;split
 ·exact W6 ev
 ·exact .refl _
def Kw(w:World)(S:AD)(ep:Nat)(ev:Array (Int×VL)):(Ff w S ep ev).size=ev.size:=by simpa using (RO w S ep ev).length_eq
def IW(t:SetTable):Nat→Nat
 |0=>0
 |i+1=>t.place.getD i 0+1
def EA(w:World)(t:SetTable)(i:Nat):Nat:=if w.params.followText "set-order" = true then 0 else IW t i
def NF(t:SetTable)(n:Nat):Bool:=(List.range (n+1)).all fun i=>decide (SetTable.below t.place (IW t i)=i)
abbrev Ku(w:World)(S:AD)(t:SetTable)(ep n i:Nat):Obj:={ cls:=.type "set_iterator",data:=.fields #[rawInt ((EA w t i:Nat):Int),rawInt (i:Int),.ref S,rawInt (n:Int),rawInt (ep:Int)]}
structure Er(w:World)(o:Obj)(ev:Array (Int×Value))(ep:Nat)(t:SetTable):Prop where
 ex:o.ExactSet
 dat:o.data=.set ev ep t
 fit:t.fits ev.size=true
 plain:t.plain=true
 led:t.led=!w.params.followText "set-order"
 walk:NF t ev.size=true
section
variable{prog:Program}{w:World}{A:Around}{E:VL→SD→Prop}{s:SD}{S I:AD}{o:Obj}{ev:Array (Int×VL)}{ep i:Nat}{t:SetTable}
def QL{Q:Bool→SD→Prop}(h:Q (w.params.followText "set-order") s):wpAny (model prog w) A setsByText Q E s:=by
 unfold setsByText;exact Wb (wpAny_askSetting (aA h))
def Er.Yk(W:Er w o ev ep t):(!t.plain&&decide (ev.size > 1))=false:=by rw[W.plain];rfl
def Er.place(W:Er w o ev ep t):t.place.size=ev.size:=by
 have:=W.fit;unfold SetTable.fits at this;simp only[Bool.and_eq_true,beq_iff_eq]at this;exact this.1
def Tp{Q:Option (VL×Nat)→SD→Prop}(W:Er w o ev ep t)(ho:s.heap.get? S=some o)(hi:i≤ev.size)(h:Q ((Ff w S ep ev)[i]?.map fun e=>(e.2,EA w t (i+1))) s) :
  wpAny (model prog w) A (setNext S (EA w t i) i ep) Q E s:=by
 unfold setNext;refine Wb (bH ho W.dat W.fit ?_);refine Wb (QL ?_);cases hb:w.params.followText "set-order" with
 |true =>
  rw[if_pos rfl];have hne:¬(ep != ep)=true:=by simp
  rw[if_neg hne];unfold setWalk;refine Wb (Wb (bH ho W.dat W.fit ?_));refine Wb (QL ?_);rw[if_pos hb];refine Wb (wpAny_askSetting (aA ?_));refine aA ?_;have e:Ff w S ep ev=pickOrder (w.params.setOrder S ep) ev:=by unfold Ff;rw[if_pos hb]
  rw[e]at h;have e2:EA w t i=EA w t (i+1):=by unfold EA;rw[if_pos hb,if_pos hb]
  rw[e2];exact h
 |false =>
  rw[if_neg aK];refine wpAny_ite_split (fun hd=>?_) fun _=>?_
  ·have:(!t.plain&&decide (ev.size > 1))=true:=hd;rw[W.Yk]at this;cases this
  ·refine Wb ?_;have hl:t.led=true:=by rw[W.led,hb];rfl
   have hn:¬(!t.led && !ev.isEmpty)=true:=by rw[hl];simp
   show wpAny _ _ (if(!t.led && !ev.isEmpty)=true then unsupported "set:maker-not-led" else pure ()) _ _ _;rw[if_neg hn];refine aA (aA ?_);have hw:=W.walk;unfold NF at hw;have hw:=aa.mp hw i (bL.mpr (by omega));have hw:SetTable.below t.place (IW t i)=i:=by simpa using hw
   have e1:EA w t i=IW t i:=by unfold EA;rw[hb];rfl
   have e2:EA w t (i+1)=IW t (i+1):=by unfold EA;rw[hb];rfl
   have e3:Ff w S ep ev=ev:=by unfold Ff;rw[hb];rfl
   rw[e2,e3]at h;rw[e1,hw];by_cases hlt:i<ev.size
   ·have hp:i<t.place.size:=by rw[W.place];exact hlt
    rw[Array.getElem?_eq_getElem hlt]at h ⊢;rw[Array.getElem?_eq_getElem hp];have e4:IW t (i+1)=t.place[i]+1:=by
     rw[IW,Array.getD_eq_getD_getElem?,Array.getElem?_eq_getElem hp]
     rfl
    rw[e4]at h;exact h
   ·rw[Array.getElem?_eq_none (by omega)]at h ⊢;exact h
def b9{Q:Option VL→SD→Prop}{z:Int}{v:VL}(W:Er w o ev ep t)(ho:s.heap.get? S=some o)(hI:s.heap.get? I=some (Ku w S t ep ev.size i))(hx:(Ff w S ep ev)[i]? = some (z,v))
 (h:∀h',h'.get? I=some (Ku w S t ep ev.size (i+1))→Heap.SameBut I s.heap h'→Q (some v) {s with heap:=h'}):wpAny (model prog w) A (pyNext (.ref I)) Q E s:=by
 have hT:s.TypeIs (.ref I) "set_iterator" := ⟨_,hI,rfl⟩;have hlt:i<ev.size:=by
  have:=(Array.getElem?_eq_some_iff.mp hx).1;rw[Kw]at this;exact this
 unfold pyNext;refine Wb (wpAny_attempt (ag (name:=Str.ofString "__next__") hT Dy (aW Dy hT LP ?_ (MP _))));unfold Builtin.«set_iterator.__next__»;refine Wb (wpAny_of_eq (a:=(Value.ref I,[])) rfl ?_);refine Wb (wpAny_fieldsOf hI rfl ?_);show wpAny _ _ (setEntries S>>=_) _ _ s;refine Wb (wpAny_setEntries_of ho W.dat W.fit ?_);have hne:¬((ev.size:Int) != (ev.size:Int))=true:=by simp
 dsimp only;rw[if_neg hne];refine Wb ?_;show wpAny _ _ (setNext S (EA w t i) i ep) _ _ _;refine Tp W ho (by omega) ?_;rw[hx];show wpAny _ _ (setField (.ref I) 0 (rawInt ((EA w t (i+1):Nat):Int))>>=_) _ _ _;refine Wb (wpAny_setField hI rfl (by simp) ?_);have g1:(s.heap.update I (Obj.mapFields (·.setIfInBounds 0 (rawInt ((EA w t (i+1):Nat):Int))))).get? I=some { cls:=.type "set_iterator",data:=.fields #[rawInt ((EA w t (i+1):Nat):Int),rawInt (i:Int),.ref S,rawInt (ev.size:Int),rawInt (ep:Int)]} :=
  Heap.get?_update_self _ hI rfl
 refine Wb (wpAny_setField g1 rfl (by simp) ?_);refine aA ⟨_,rfl,wpAny_pure (h _ ?_ ((ai ..).trans (ai ..)))⟩;exact Heap.get?_update_self _ g1 rfl
def Ze{Q:Option VL→SD→Prop}(hh:A.handled=none)(W:Er w o ev ep t)(ho:s.heap.get? S=some o)(hI:s.heap.get? I=some (Ku w S t ep ev.size ev.size))
 (h:∀h',Heap.ExtBut I s.heap h'→Q none {s with heap:=h'}):wpAny (model prog w) A (pyNext (.ref I)) Q E s:=by
 have hT:s.TypeIs (.ref I) "set_iterator" := ⟨_,hI,rfl⟩;unfold pyNext;refine Wb (wpAny_attempt (ag (name:=Str.ofString "__next__") hT Dy (aW Dy hT LP ?_ (MP _))));unfold Builtin.«set_iterator.__next__»;refine Wb (wpAny_of_eq (a:=(Value.ref I,[])) rfl ?_);refine Wb (wpAny_fieldsOf hI rfl ?_);show wpAny _ _ (setEntries S>>=_) _ _ s;refine Wb (wpAny_setEntries_of ho W.dat W.fit ?_);have hne:¬((ev.size:Int) != (ev.size:Int))=true:=by simp
 dsimp only;rw[if_neg hne];refine Wb ?_;show wpAny _ _ (setNext S (EA w t ev.size) ev.size ep) _ _ _;refine Tp W ho (aG _) ?_;rw[Array.getElem?_eq_none (by rw[Kw];exact aG _)];show wpAny _ _ (setField (.ref I) 2 Value.none>>=_) _ _ _;refine Wb (wpAny_setField hI rfl (by simp) ?_);refine Wb ?_;simp only[newExc,newTuple];refine Wb (av ?_ (by size_fits));refine Wb (m:=firstArgMember _ _) (wpAny_of_eq (a:=Value.none) (by first|rfl|(simp only[firstArgMember];rfl)) (av ?_ (by size_fits)));simp only[raiseNew];refine Wb (wpAny_handled ?_);have hh1:A.in1.handled=none:=hh;rw[hh1];refine Wb (aA (wpAny_throw ?_));refine Wb (wpAny_isInstance (b:=true) (T := "StopIteration") ⟨_,Heap.get?_push_size _ rfl,rfl⟩ isSubtype_stop ?_);exact aA (h _ (((ai ..).extBut.push _).push _))
def ZF{Q:VL→SD→Prop}(hI:s.heap.get? I=some (Ku w S t ep ev.size i))(h:Q (.ref I) s):wpAny (model prog w) A (pyIter (.ref I)) Q E s:=by
 have hT:s.TypeIs (.ref I) "set_iterator" := ⟨_,hI,rfl⟩;refine wpAny_pyIter_slot hT MU (aW MU hT Qf ?_ (Ry _));show wpAny _ _ (ret (.ref I)) _ _ s;exact aA ⟨_,rfl, "set_iterator",_,hT,Dy.lookup,h⟩
def W8(hh:A.handled=none)(hne:S≠I)(W:Er w o ev ep t) :
  Walks prog w A I [I,S] [I] ev.size (fun i v=>∃z,(Ff w S ep ev)[i]? = some (z,v)) (fun i h=>h.get? I=some (Ku w S t ep ev.size i)∧h.get? S=some o) where
 sub:=fun b hb=>by simp at hb;simp[hb]
 frame:=fun _ _ _ x k=>⟨k I (by simp) _ x.1,k S (by simp) _ x.2⟩
 item:=fun i s Q E hi x hQ=>by
  have hi':i<(Ff w S ep ev).size:=by rw[Kw];exact hi
  obtain⟨z,v,hx⟩:∃z v,(Ff w S ep ev)[i]? = some (z,v):=⟨(Ff w S ep ev)[i].1,(Ff w S ep ev)[i].2,by rw[Array.getElem?_eq_getElem hi']⟩;refine b9 W x.2 x.1 hx fun h' g sb=>hQ v h' s.toks ⟨z,hx⟩ ⟨g,(sb.2 S hne).trans x.2⟩ fun b u hb e=>?_;rw[sb.2 b fun q=>hb (by simp[q])];exact e
 done:=fun s Q E x hQ=>Ze hh W x.2 x.1 fun h' eb=>hQ h' s.toks fun b u hb e=>eb b u (fun q=>hb (by simp[q])) e
 self:=fun _ _ _ _ x hQ=>ZF x.1 hQ
def Zv{Q:Bool→SD→Prop}(hT:s.TypeIs (.ref S) "set")(h:Q false s):wpAny (model prog w) A (Builtin.List.listLengthHint (.ref S)) Q E s:=by
 unfold Builtin.List.listLengthHint;refine Wb (wpAny_specialOf hT PySem.F.slot_set_len.lookup ?_);generalize hid:("set.__len__" : String)=id0
 wp_delta
 rw[show splitId id0=some ("set", "__len__") from by subst hid;decide +kernel];subst hid;refine Wb (wpAny_isInstance (b:=true) (T := "set") hT (by rw[isSubtype_type];kernel_rfl) ?_);refine wpAny_ite_split (fun z=>absurd z (by decide)) fun _=>?_;refine wpAny_ite_split (fun _=>?_) fun z=>absurd (by decide +kernel) z;exact Wb (wpAny_typeOf hT (aA h))
def ZZ{Q:VL→SD→Prop}(W:Er w o ev ep t)(ho:s.heap.get? S=some o)(h:Q (.ref s.heap.objs.size) {s with heap:=s.heap.push (Ku w S t ep ev.size 0)}) :
  wpAny (model prog w) A (pyIter (.ref S)) Q E s:=by
 have hT:s.TypeIs (.ref S) "set" := ⟨o,ho,W.ex.1⟩;refine wpAny_pyIter_slot hT PySem.F.slot_set_iter (aW PySem.F.slot_set_iter hT QG ?_ (PySem.F.args_set_iter_1 _));unfold Builtin.«frozenset.__iter__»;refine Wb (wpAny_of_eq (a:=S) rfl ?_);unfold Builtin.Frozenset.sizeOf;refine Wb (Wb (wpAny_setEntries_of ho W.dat W.fit (aA ?_)));unfold setDrawn;refine Wb (Wb (bH ho W.dat W.fit (Wb (QL (aA ?_)))));have hd:(!w.params.followText "set-order" && (!t.plain&&decide (ev.size > 1)))=false:=by rw[W.Yk];simp
 refine wpAny_ite_split (fun z=>?_) fun _=>?_
 ·have:(!w.params.followText "set-order" && (!t.plain&&decide (ev.size > 1)))=true:=z;rw[hd]at this;cases this
 refine Wb (aA ?_);unfold setEpoch;refine Wb (Wb (bH ho W.dat W.fit (aA ?_)));have e0:EA w t 0=0:=by unfold EA IW;split<;>rfl
 refine Wb (av (aA ⟨_,rfl, "set_iterator",_,⟨_,Heap.get?_push_size _ rfl,rfl⟩,Dy.lookup,?_⟩));unfold Ku at h;rw[e0]at h;exact h
def df(W:Er w o ev ep t):PySem.W.KdlSrc prog w "set" S S ev.size (fun i v=>∃z,(Ff w S ep ev)[i]? = some (z,v)) (fun h=>h.get? S=some o) where
 type:=fun _ ho=>⟨o,ho,W.ex.1⟩
 there:=fun _ ho=>⟨aF ho,Heap.lt_size ho⟩
 keep:=fun _ _ ho k=>k S (.inl rfl) _ ho
 notList:=by decide
 notTuple:=by decide
 hint:=fun _ _ s _ ho h=>Zv ⟨o,ho,W.ex.1⟩ h
 iter:=fun A s hh ho=>⟨Ku w S t ep ev.size 0,_,(fun E Q h=>ZZ W ho h),W8 hh (aH (aF ho)) W,⟨aI _ rfl,Heap.get?_push_of_some _ ho⟩⟩
end
end TH
namespace TH
open PySem PyProof.Rows PySem.SeqAt
def Paired.perm{α β:Type}{F:α→β→Prop}{l l':List α}(p:l'.Perm l):∀ {m:List β},Paired F l m→∃m',m'.Perm m∧Paired F l' m':=by
 induction p with
 |nil=>intro m r;exact⟨m,.refl _,r⟩
 |cons x _ ih =>
  intro m r;cases r with
  |cons h r' =>
   obtain⟨m',p',q⟩:=ih r';exact⟨_::m',p'.cons _,.cons h q⟩
 |swap x y l =>
  intro m r;cases r with
  |cons h r' =>
   cases r' with
   |cons h' r''=>exact⟨_::_::_,List.Perm.swap ..,.cons h' (.cons h r'')⟩
 |trans _ _ ih1 ih2 =>
  intro m r;obtain⟨m1,p1,q1⟩:=ih2 r;obtain⟨m2,p2,q2⟩:=ih1 q1;exact⟨m2,p2.trans p1,q2⟩
variable{G:VL→Tr→Prop}
def Uy{h:Heap}:∀ {l:List (Int×VL)} {m:List (Int×Tr)},Paired (O1 G h) l m→Vs h (Tr.of (m.map (·.2))) (l.map (·.2))
 |_,_,.nil=>by rw[List.map_nil,List.map_nil,Tr.of,Vs]
 |_,_,.cons (a:=(z,v)) ⟨_,_,_,a,its,e,h1,h2⟩ r=>by
  have e:v=.ref a:=e;subst e;rw[List.map_cons,List.map_cons,Tr.of,Vs];exact⟨a,its,_,rfl,h1,h2,Uy r⟩
def RJ{h:Heap}:∀ {l:List (Int×VL)} {m:List (Int×Tr)},Paired (O1 G h) l m→∀c∈m.map (·.2),c.deep<8
 |_,_,.nil,c,hc=>by cases hc
 |_,_,.cons ⟨_,hd,_⟩ r,c,hc=>by
  rw[List.map_cons]at hc;rcases aJ.mp hc with rfl|hc
  ·exact hd
  ·exact RJ r c hc
def YV{h:Heap}:∀ {l:List (Int×VL)} {m:List (Int×Tr)},Paired (O1 G h) l m→Paired G (l.map (·.2)) (m.map (·.2))
 |_,_,.nil=>.nil
 |_,_,.cons ⟨_,_,hg,_⟩ r=>.cons hg (YV r)
def Paired.cR{α β:Type}{F:α→β→Prop}{l:List α}{m:List β}(r:Paired F l m)(d:α)(e:β):∀(ix:List Nat),(∀i∈ix,i<l.length)→Paired F (ix.map fun i=>l.getD i d) (ix.map fun i=>m.getD i e)
 |[],_=>.nil
 |i::ix,h=>by
  have hl:=r.length;have hi:=h i aR;have hm:m[i]? = some m[i]:=aL (by omega);obtain⟨x,e1,e2⟩:=Paired.get r hm;rw[List.map_cons,List.map_cons];refine .cons ?_ (Paired.cR r d e ix fun j hj=>h j (aO _ hj));rw[List.getD_eq_getElem?_getD,List.getD_eq_getElem?_getD,e1,hm];exact e2
def Za{l m:List Tr}(p:l.Perm m):Tr.CL l=Tr.CL m:=Tr.LC (Tr.Ju l) (Tr.Ju m) ((Tr.Jn l).trans (p.trans (Tr.Jn m).symm))
section
variable{prog:Program}{w:World}{A:Around}{E:VL→SD→Prop}{s:SD}
def gather{T:String}{r d:AD}{n:Nat}{P:Nat→VL→Prop}{OK:Heap→Prop}{R:List VL→SD→Prop}(K:PySem.W.KdlSrc prog w T r d n P OK)(hA:A.handled=none)(Ap:OK s.heap)(hn:n≤sizeLine)
 (k:∀(h1:Heap) (tk:Nat) (acc:Array VL),s.heap.objs.size<h1.objs.size→(∀b u,s.heap.get? b=some u→h1.get? b=some u)→ItemsOf P acc n→R acc.toList {s with heap:=h1,toks:=tk}) :
  wpAny (model prog w) A (collect (.ref r)) R E s:=by
 obtain⟨lr,ld⟩:=K.there _ Ap;unfold collect;refine Wb (wpAny_runValue (codeAny_builtin entry_proto_collect' ?_));rw[Around.under_plainId PySem.F.plain_proto_collect _];show wpAny _ A.in1 (newList []>>=fun v=>again (.builtin "list.__iadd__" ⟨[v,.ref r],[]⟩)) _ _ s;refine Wb (av (aA ⟨plainId_quiet PySem.F.plain_list_iadd _,codeAny_builtin entry_list_iadd' ?_⟩));rw[Around.under_plainId PySem.F.plain_list_iadd _];have g0:(s.heap.push { cls:=.type "list",data:=.seq ([]:List VL).toArray}).get? s.heap.objs.size=some { cls:=.type "list",data:=.seq #[]}:=aI _ rfl;have main:=PySem.W.kdl_extend (A:=A) (s:={s with heap:=s.heap.push { cls:=.type "list",data:=.seq ([]:List VL).toArray} }) K hA
  (K.keep _ _ Ap fun _ _ _ e=>aD _ e) s.heap.objs.size (bW lr) (bW ld) (.ref s.heap.objs.size) 0 g0
  (R:=fun q s1=>∃h1 tk acc c,q=.ok (.ret (.ref s.heap.objs.size))∧s1={s with heap:=h1,toks:=tk}∧(∀b u,s.heap.get? b=some u→h1.get? b=some u)∧h1.get? s.heap.objs.size=some { cls:=.type "list",dict:=none,data:=.seq acc c,slots:=#[]}∧ItemsOf P acc n)
  (fun h1 tk acc c k1 g1 ha=>⟨h1,tk,acc,c,rfl,rfl,fun b u e=>k1 b u (aH (aF e)) (aD _ e),g1,ha⟩) hn
 refine aU main (fun fin s1 x=>?_) fun e s1 x=>?_
 ·cases fin with
  |done f =>
   obtain⟨h1,tk,acc,c,e,rfl,k1,g1,ha⟩:=x;cases e;show wpAny _ A (load s.heap.objs.size>>=_) _ _ _;exact Wb (wpAny_load g1 (aA (k h1 tk acc (aF g1) k1 ha)))
  |again c1 =>
   refine⟨x.1,codeAny_mono x.2 fun q s2 y=>?_⟩;obtain⟨h1,tk,acc,c,rfl,rfl,k1,g1,ha⟩:=y;show wpAny _ A (load s.heap.objs.size>>=_) _ _ _;exact Wb (wpAny_load g1 (aA (k h1 tk acc (aF g1) k1 ha)))
 ·obtain⟨_,_,_,_,z,_⟩:=x;cases z
end
section
variable{prog:Program}{w:World}{A:Around}{E:VL→SD→Prop}{s:SD}{S:AD}{o:Obj}{ev:Array (Int×VL)}{et:ES}{ep:Nat}{t:SetTable}
def WL{Q:VL→SD→Prop}(hA:A.handled=none)(W:Er w o ev ep t)(ho:s.heap.get? S=some o)(R:DQ G s.heap ev et)(h64:et.size<64)(hu:A.units+20<cLine)
 (h:∀(h':Heap) (D tk e1:Nat) (us:List VL),s.heap.objs.size≤D→(∀b u,s.heap.get? b=some u→h'.get? b=some u)→h'.get? D=some (seqObj "list" us.toArray e1)→Paired G us (Tr.CL (et.toList.map (·.2))).reverse→us.length<64 →
   Q (.ref D) {s with heap:=h',toks:=tk}):wpAny (model prog w) A (call (.builtin "sorted") [.ref S]) Q E s:=by
 have hsz:=R.size;refine Calls.call_function_entry kind_sorted plain_sorted entry_sorted (args_sorted1 _) ?_;unfold Builtin.«sorted»;refine Wb (m:=checkCount "sorted" 1 1 _) (aA ?_);refine Wb (gather (A:=A.in1) (df W) hA ho (HA (by omega)) fun h1 tk acc z1 k1 hacc=>?_);have hal:acc.toList=(Ff w S ep ev).toList.map (·.2):=by
  apply List.ext_getElem?;intro j;rw[List.getElem?_map];by_cases hj:j<acc.size
  ·have e1:acc[j]? = some acc[j]:=Array.getElem?_eq_getElem hj;obtain⟨z,e2⟩:=hacc.2 j _ e1;rw[Array.getElem?_toList,e1,Array.getElem?_toList,e2]
   rfl
  ·have hj2:¬j<(Ff w S ep ev).size:=by rw[Kw,←hacc.1];exact hj
   rw[List.getElem?_eq_none (by simpa using hj),List.getElem?_eq_none (by simpa using hj2)]
   rfl
 obtain⟨m,pm,rm⟩:=Paired.perm (RO w S ep ev) R;have hvs:=Uy rm;rw[←hal]at hvs;have hd:(Tr.of (m.map (·.2))).deep≤8:=(Tr.NK 8 _).mpr fun c hc=>by have:=RJ rm c hc;omega
 have hlen:acc.toList.length<64:=by rw[Array.length_toList,hacc.1,hsz];exact h64
 refine Wb (wpAny_newList ?_ (HA (by omega)));have g1:(h1.push (seqObj "list" acc.toList.toArray 0)).get? h1.objs.size=some (seqObj "list" acc.toList.toArray 0):=aI _ rfl;have k2:∀b u,s.heap.get? b=some u→(h1.push (seqObj "list" acc.toList.toArray 0)).get? b=some u:=fun b u e=>aD _ (k1 b u e);refine Wb (aS (aW slot_list_sort ⟨_,g1,rfl⟩ entry_list_sort (Ij (s:={s with heap:=h1.push (seqObj "list" acc.toList.toArray 0),toks:=tk}) g1 (hvs.keeps fun b u e _=>k2 b u e) hlen
  (by rw[show A.in1.in1.units=A.units+2 from rfl];omega) fun ix a1 a2 a3=>⟨_,rfl,?_⟩) (args_list_sort _)))
 obtain⟨e1,he1⟩:=sortedHeap_at (vs:=acc.toList) (out:=(ix.map fun i=>acc.toList.getD i Value.none).toArray) g1;refine aA ⟨_,rfl,h _ h1.objs.size tk e1 (ix.map fun i=>acc.toList.getD i Value.none) ?_ (fun b u e=>?_) he1 ?_ (by rw[List.length_map,a1];exact hlen)⟩
 ·exact bN z1
 ·have lb:b<h1.objs.size:=aF (k1 b u e);rw[sortedHeap_old (aH lb) (by rw[Heap.size_push];exact bG lb)];exact k2 b u e
 ·have hg:=YV rm;rw[←hal]at hg;have:=Paired.cR hg Value.none Tr.nil ix a2;rw[Tr.Kj]at a3;rw[a3,Za (pm.map (·.2))]at this;exact this
end
end TH
namespace TH
open PySem PyProof.Rows PySem.SeqAt
section
variable{prog:Program}{w:World}{E:VL→SD→Prop}
def Tc(prog:Program)(w:World)(E:VL→SD→Prop)(t:Tr):Prop:=∀(us:List VL) (A:Around) (s:SD) (b:Array Int) (Q:Array Int→SD→Prop),Vs s.heap t us→A.units+t.deep≤cLine →
 (∀b',b'.toList=b.toList++JQ t→Q b' {s with toks:=s.toks+(t.Ac-1)})→wpAny (model prog w) A (forIn us b fun x r=>do let h ←pyHash x;pure PUnit.unit;pure (ForInStep.yield (r.push h))) Q E s
def M1{t:Tr}(row:Tc prog w E t){a:AD}{its:List VL}{A:Around}{s:SD}{Q:Int→SD→Prop}(h1:s.heap.IsTuple a its.toArray)(h2:Vs s.heap t its)(hu:A.units+t.deep<cLine)
 (h:Q (BQ t) {s with toks:=s.toks+t.Ac}):wpAny (model prog w) A (pyHash (.ref a)) Q E s:=by
 have hT:=IsTuple.ty rfl h1;obtain⟨o,ho,hc,n,hd⟩:=id h1;refine PySem.W.pyHash_slot (T := "tuple") hT F.slot_tuple_hash F.entry_tuple_hash (F.args_tuple_hash_1 _) (beq_builtin_none _) (.inr (by omega)) ?_;show wpAny _ _ (Builtin.Tuple.tupleItemsOf (.ref a)>>=_) _ _ s;refine Wb (wpAny_tupleItemsOf ho hd ?_);refine Wb ?_;rw[←Array.forIn_toList];refine row its A.in1 s #[] _ h2 (by rw[Around.in1_units];omega) fun b hb=>?_;show wpAny _ _ (retInt (Builtin.Tuple.tupleHashOf b.toList)) _ _ _;rw[hb];have hk:s.toks+(t.Ac-1)+1=s.toks+t.Ac:=by have:=Tr.C7 t;omega
 refine Wb (wpAny_mkInt (aA ⟨_,_,rfl,?_⟩));rw[hk];exact h
def Mh:∀t:Tr,Tc prog w E t
 |.nil=>fun us A s b Q e _ h=>by rw[Vs]at e;subst e;exact aA (h b (by simp[JQ]))
 |.cons c r=>fun us A s b Q e hu h=>by
  rw[Vs]at e;obtain⟨a,its,rest,rfl,h1,h2,h3⟩:=e;have hd:(Tr.cons c r).deep=max (c.deep+1) r.deep:=rfl;have hk:(Tr.cons c r).Ac=c.Ac+r.Ac:=rfl;have hr:=Tr.C7 r;rw[List.forIn_cons];refine Wb (Wb (M1 (Mh c) h1 h2 (by omega) ?_));refine Wb (aA (aA ?_));refine Mh r rest A _ _ Q h3 (by omega) fun b' hb=>?_;have hz:s.toks+c.Ac+(r.Ac-1)=s.toks+((Tr.cons c r).Ac-1):=by omega
  have:=h b' (by simp[hb,JQ,BQ]);rw[←hz]at this;exact this
def KJ(prog:Program)(w:World):HeapKind prog w Tr where
 is:=fun h t a=>t.deep<8∧∃its,h.IsTuple a its.toArray∧Vs h t its
 hash:=BQ
 draws:=Tr.Ac
 room:=fun A=>A.units+8<cLine
 inj:=fun⟨_,i1,a1,a2⟩ ⟨_,i2,b1,b2⟩=>by
  have:=JS a1 b1;have e:i1=i2:=by simpa using this
  subst e;exact Vs.inj a2 b2
 keeps:=fun {h h' k a d o es ep} ⟨hd,its,h1,h2⟩ ho hdt sb=>by
  have kt:∀b u,h.get? b=some u→u.cls=.type "tuple" →(∃x n,u.data=.seq x n)→h'.get? b=some u:=fun b u e _ ⟨x,n,hx⟩=>by
   rw[sb.2 b fun z=>?_]
   ·exact e
   ·subst z;rw[ho]at e;cases e;rw[hdt]at hx;cases hx
  have kv:∀ {t:Tr} {us:List VL},Vs h t us→Vs h' t us:=fun {t}=>by
   induction t with
   |nil=>intro us e;rw[Vs]at e ⊢;exact e
   |cons b r ih1 ih2 =>
    intro us e;rw[Vs]at e ⊢;obtain⟨a,its,rest,e1,⟨u,hu,hc,n,hx⟩,e3,e4⟩:=e;exact⟨a,its,rest,e1,⟨u,kt _ _ hu hc ⟨_,n,hx⟩,hc,n,hx⟩,ih1 e3,ih2 e4⟩
  obtain⟨u,hu,hc,n,hx⟩:=h1;exact⟨hd,its,⟨u,kt _ _ hu hc ⟨_,n,hx⟩,hc,n,hx⟩,kv h2⟩
 pyHash:=fun hr ⟨hd,its,h1,h2⟩ h=>M1 (Mh _) h1 h2 (by omega) h
 eqBool:=fun {A E s x y a b Q} hr ⟨hd,its,h1,h2⟩ ⟨_,its2,k1,k2⟩ h=>Qw h1 h2 k1 k2 (by omega) prog w E Q h
 quiet:=fun⟨hd,its,h1,h2⟩ h=>quiet 8 ⟨_,its,_,rfl,h1,h2,hd⟩ h
end
end TH
namespace TH
open PySem PyProof.Rows
def Bq:Option Tr→Int
 |none=>4238894112
 |some t=>BQ t
def EU:Option Tr→Nat
 |none=>1
 |some t=>t.Ac
def JD(h:Heap):Option Tr→VL→Prop
 |none,v=>v=.none
 |some t,v=>∃a,v=.ref a∧t.deep<8∧∃its,h.IsTuple a its.toArray∧Vs h t its
abbrev KE:=Option Tr×VL×VL
def DR(x:KE):DictEntry:=⟨Bq x.1,x.2.1,x.2.2⟩
def Pe{p:Nat→Bool}{j:Nat}:∀ {n:Nat},j<n→p j=true→(∀i,i<n→p i=true→i=j)→(List.range n).filter p=[j]
 |0,h,_,_=>absurd h (ae _)
 |n+1,h,hp,hu=>by
  rw[List.range_succ,List.filter_append];by_cases e:j=n
  ·subst e;have:(List.range j).filter p=[]:=List.filter_eq_nil_iff.mpr fun i hi hpi=>by
    have:=bL.mp hi;have:=hu i (by omega) hpi;omega
   rw[this];simp[hp]
  ·have hn:p n=false:=by
    cases q:p n with
    |false=>rfl
    |true=>exact absurd (hu n (by omega) q).symm e
   rw[Pe (show j<n by omega) hp fun i hi=>hu i (by omega)];simp[hn]
section
variable{prog:Program}{w:World}{A:Around}{E:VL→SD→Prop}{s:SD}{d:AD}{o:Obj}{es:Array DictEntry}{ep:Nat}{xs:List KE}{k:Option Tr}{kv:VL}
def Li(he:es.toList=xs.map DR)(j:Nat):es[j]? = (xs[j]?).map DR:=by rw[←Array.getElem?_toList,he,List.getElem?_map]
def Tx(he:es.toList=xs.map DR):es.size=xs.length:=by rw[←Array.length_toList,he,List.length_map]
def Q3(he:es.toList=xs.map DR)(hap:∀x∈xs,Bq x.1=Bq k→x.1=k)(hno:∀x∈xs,x.1≠k):placesWithHash es.size (fun i=>es[i]?.map (·.hash)) (Bq k)=[]:=by
 unfold placesWithHash;refine List.filter_eq_nil_iff.mpr fun i hi hp=>?_;dsimp only at hp;rw[Li he]at hp;cases q:xs[i]? with
 |none=>rw[q]at hp;simp at hp
 |some x =>
  rw[q]at hp;have hx:=aP q;have:Bq x.1=Bq k:=by simpa[DR]using hp
  exact hno x hx (hap x hx this)
def Py(he:es.toList=xs.map DR)(hap:∀x∈xs,Bq x.1=Bq k→x.1=k)(hn:(xs.map (·.1)).Nodup){j:Nat}{x:KE}(hj:xs[j]? = some x)(hx:x.1=k):placesWithHash es.size (fun i=>es[i]?.map (·.hash)) (Bq k)=[j]:=by
 unfold placesWithHash;have hl:j<xs.length:=(aC.mp hj).1;refine Pe (by rw[Tx he];exact hl) (by dsimp only;rw[Li he,hj,←hx];simp[DR]) fun i hi hp=>?_;dsimp only at hp;rw[Li he]at hp;cases q:xs[i]? with
 |none=>rw[q]at hp;simp at hp
 |some y =>
  rw[q]at hp;have hy:=hap y (aP q) (by simpa[DR]using hp);have h1:(xs.map (·.1))[i]? = some k:=by rw[List.getElem?_map,q];show some y.1=_;rw[hy]
  have h2:(xs.map (·.1))[j]? = some k:=by rw[List.getElem?_map,hj];show some x.1=_;rw[hx]
  exact(List.getElem?_inj (aC.mp h1).1 hn).mp (h1.trans h2.symm)
def eA{Q:Bool→SD→Prop}(h:Q true s):wpAny (model prog w) A (eqBool .none .none) Q E s:=by
 unfold eqBool;rw[if_pos (by rfl)];exact Wb (bT (aA h))
def JD.inj{h:Heap}{x y:Option Tr}{v:VL}(a:JD h x v)(b:JD h y v):x=y:=by
 cases x with
 |none =>
  cases y with
  |none=>rfl
  |some t =>
   obtain⟨_,e,_⟩:=b;rw[show v=.none from a]at e;cases e
 |some u =>
  cases y with
  |none =>
   obtain⟨_,e,_⟩:=a;rw[show v=.none from b]at e;cases e
  |some t =>
   obtain⟨a1,e1,k1⟩:=a;obtain⟨a2,e2,k2⟩:=b;rw[e1]at e2;cases e2;obtain⟨_,i1,b1,b2⟩:=k1;obtain⟨_,i2,c1,c2⟩:=k2;have:i1=i2:=by simpa using JS b1 c1
   subst this;rw[Vs.inj b2 c2]
def XG{Q:Option Nat→SD→Prop}(hu:A.units+8<cLine)(hk:JD s.heap k kv)(ho:s.heap.get? d=some o)(hd:o.data=.dict es ep)(he:es.toList=xs.map DR)(his:∀x∈xs,JD s.heap x.1 x.2.1)(hn:(xs.map (·.1)).Nodup)(hap:∀x∈xs,Bq x.1=Bq k→x.1=k)
 (hno:(∀x∈xs,x.1≠k)→Q none s)(hyes:∀(j:Nat) (x:KE),xs[j]? = some x→x.1=k→Q (some j) s):wpAny (model prog w) A (dictFind d kv (Bq k)) Q E s:=by
 unfold dictFind
 try with_reducible refine aS ?_
 refine Wb (wpAny_dictEntries ho hd ?_);cases k with
 |none =>
  have hk:kv=.none:=hk;subst hk;dsimp only;by_cases hx:∃x∈xs,x.1=none
  ·obtain⟨x,hm,hx⟩:=hx;obtain⟨j,hj⟩:=List.mem_iff_getElem?.mp hm;have hp:=Py (k:=none) he hap hn hj hx;have hej:es[j]? = some ⟨Bq none,.none,x.2.2⟩:=by
    rw[Li he,hj];have h1:=his x hm;rw[hx]at h1;show some (DR x)=_;unfold DR;rw[hx,show x.2.1=Value.none from h1]
   rw[hp];rw[if_pos (by simp[hej,carriedByValue])];unfold dictWalkPlain;simp only[List.forIn_cons,List.forIn_nil,hej];refine Wb (Wb ?_);rw[if_pos (by simp)];refine Wb (wpAny_dictEpoch ho hd (Wb (eA (Wb (wpAny_dictEpoch ho hd ?_)))));rw[if_neg (by simp),if_pos rfl];exact Wb (bT (aA (aA (aA (hyes j x hj hx)))))
  ·have hp:=Q3 (k:=none) he hap fun x hm z=>hx ⟨x,hm,z⟩;rw[hp,if_pos (by simp[carriedByValue])];unfold dictWalkPlain;simp only[List.forIn_nil];exact Wb (aA (aA (hno fun x hm z=>hx ⟨x,hm,z⟩)))
 |some t =>
  obtain⟨a,rfl,hta⟩:=hk;dsimp only;have hany:¬(es.any fun e=>e.key==Value.ref a&&e.hash != Bq (some t))=true:=by
   intro z;rw[←Array.any_toList,he,List.any_eq_true]at z;obtain⟨e,hm,z⟩:=z;obtain⟨x,hx,rfl⟩:=aZ.mp hm;rw[Bool.and_eq_true]at z;have h1:x.2.1=.ref a:=by simpa[DR]using z.1
   have h2:=his x hx;rw[h1]at h2;have h3:=h2.inj (show JD s.heap (some t) (.ref a) from⟨a,rfl,hta⟩);have h4:=z.2;rw[DR,h3]at h4;simp at h4
  by_cases hx:∃x∈xs,x.1=some t
  ·obtain⟨x,hm,hx⟩:=hx;obtain⟨j,hj⟩:=List.mem_iff_getElem?.mp hm;have hp:=Py (k:=some t) he hap hn hj hx;have h1:=his x hm;rw[hx]at h1;obtain⟨b,hb,htb⟩:=h1;have hej:es[j]? = some ⟨Bq (some t),.ref b,x.2.2⟩:=by
    rw[Li he,hj];show some (DR x)=_;unfold DR;rw[hx,hb]
   have hst:([j].filterMap fun i=>es[i]?.map (·.key))=[.ref b]:=by simp[hej]
   rw[hp,hst,if_neg (by simp[carriedByValue]),if_neg hany];by_cases hone:(([Value.ref b]:List VL)==[Value.ref a])=true<;>(first|rw[if_pos hone]|rw[if_neg hone])<;>(first|refine Wb (aA ?_)|refine Wb (wpAny_tableMayTell_quiet (knd:=KJ prog w) hta (fun v hv=>⟨t,b,List.mem_singleton.mp hv,htb⟩) ?_))<;>(
    rw[if_neg (by simp)];simp only[List.forIn_cons,List.forIn_nil,hej];refine Wb (Wb ?_);rw[if_pos (by simp)];refine Wb (wpAny_dictEpoch ho hd (Wb ((KJ prog w).eqBool (x:=t) (y:=t) hu htb hta (Wb (wpAny_dictEpoch ho hd ?_)))));rw[if_neg (by simp),if_pos (by simp),if_neg (by simp)];refine Wb (bT ?_);rw[if_pos (by simp)];exact aA (aA (aA (hyes j x hj hx))))
  ·have hp:=Q3 (k:=some t) he hap fun x hm z=>hx ⟨x,hm,z⟩;rw[hp,if_neg (by simp[carriedByValue]),if_neg hany];rw[if_neg (by simp)];refine Wb (wpAny_tableMayTell_quiet (knd:=KJ prog w) hta (fun v hv=>by cases hv) ?_);rw[if_neg (by simp)];simp only[List.forIn_nil];exact Wb (aA (aA (hno fun x hm z=>hx ⟨x,hm,z⟩)))
def W3{Q:Int→SD→Prop}(hu:A.units+8<cLine)(hk:JD s.heap k kv)(h:Q (Bq k) {s with toks:=s.toks+EU k}):wpAny (model prog w) A (pyHash kv) Q E s:=by
 cases k with
 |some t =>
  obtain⟨a,rfl,hta⟩:=hk;exact(KJ prog w).pyHash hu hta h
 |none =>
  have hk:kv=.none:=hk;subst hk;have ht:s.TypeIs .none "NoneType" := rfl;unfold pyHash pyHashByItsType;have hv:[Value.none].any Value.onHeap=false:=rfl;refine Wb ?_;rw[cRoomFor,if_neg (by rw[hv];exact aK)];refine aA ?_;refine Wb (wpAny_specialOf ht F.slot_NoneType_hash.lookup ?_);show wpAny _ _ (if(some (Value.builtin "NoneType.__hash__")==some Value.none)=true then _ else _) Q E s;rw[if_neg (by rw[beq_builtin_none];exact aK)];refine Wb (wpAny_specialOf ht F.slot_NoneType_hash.lookup ?_);show wpAny _ _ (callSpecialIfBoundUnlessNone? .none "__hash__" _>>=_) Q E s;refine Wb (wpAny_callSpecialIfBoundUnlessNone?_slot ht F.slot_NoneType_hash
   (aW F.slot_NoneType_hash ht F.entry_NoneType_hash
    (show wpAny _ _ (do ret (←mkInt 4238894112)) _ _ s from wpAny_ret_mkInt ?_) (F.args_NoneType_hash_1 _)))
  show wpAny _ _ (if(decide (-(2:Int)^63≤4238894112)&&decide ((4238894112:Int)<2^63))=true then _ else _) Q E _;rw[if_pos (by decide)];exact aA h
def FO(xs:List KE)(k:Option Tr):Option KE:=xs.find? fun x=>decide (x.1=k)
def PM(hn:(xs.map (·.1)).Nodup){j:Nat}{x:KE}(hj:xs[j]? = some x)(hx:x.1=k):FO xs k=some x:=by
 unfold FO;cases q:xs.find? (fun x=>decide (x.1=k)) with
 |none=>exact absurd (bQ hx) (List.find?_eq_none.mp q x (aP hj))
 |some y =>
  have h1:y.1=k:=by simpa using List.find?_some q
  obtain⟨i,hi⟩:=List.mem_iff_getElem?.mp (List.mem_of_find?_eq_some q);have e1:(xs.map (·.1))[i]? = some k:=by rw[List.getElem?_map,hi];show some y.1=_;rw[h1]
  have e2:(xs.map (·.1))[j]? = some k:=by rw[List.getElem?_map,hj];show some x.1=_;rw[hx]
  have:=(List.getElem?_inj (aC.mp e1).1 hn).mp (e1.trans e2.symm);subst this;rw[hi]at hj;exact hj
def Pj(h:∀x∈xs,x.1≠k):FO xs k=none:=List.find?_eq_none.mpr fun x hx=>by simpa using h x hx
structure JO(h:Heap)(d:Addr)(xs:List KE):Prop where
 ob:∃o es ep,h.get? d=some o∧o.ExactDict∧o.data=.dict es ep∧es.toList=xs.map DR
 ks:∀x∈xs,JD h x.1 x.2.1
 nd:(xs.map (·.1)).Nodup
def JO.ty(hm:JO s.heap d xs):s.TypeIs (.ref d) "dict" := let⟨o,_,_,ho,hc,_⟩:=hm.ob;⟨o,ho,hc.1⟩
def cb{Q:Option VL→SD→Prop}(hu:A.units+8<cLine)(hk:JD s.heap k kv)(hm:JO s.heap d xs)(hap:∀x∈xs,Bq x.1=Bq k→x.1=k)(h:Q ((FO xs k).map (·.2.2)) {s with toks:=s.toks+EU k}):wpAny (model prog w) A (dictGet d kv) Q E s:=by
 obtain⟨o,es,ep,ho,_,hd,he⟩:=hm.ob;unfold dictGet
 try with_reducible refine aS ?_
 refine Wb (W3 hu hk (Wb (XG (s:={s with toks:=s.toks+EU k}) hu hk ho hd he hm.ks hm.nd hap (fun hno=>?_) fun j x hj hx=>?_)))
 ·rw[Pj hno]at h;exact aA h
 ·rw[PM hm.nd hj hx]at h;refine Wb (wpAny_dictEntries (s:={s with toks:=s.toks+EU k}) ho hd ?_);rw[Li he j,hj];exact aA h
def fk{x:KE}{Q:VL→SD→Prop}(hu:A.in1.units+8<cLine)(hk:JD s.heap k kv)(hm:JO s.heap d xs)(hap:∀x∈xs,Bq x.1=Bq k→x.1=k)(hx:FO xs k=some x)(h:Q x.2.2 {s with toks:=s.toks+EU k}):wpAny (model prog w) A (getItem (.ref d) kv) Q E s:=by
 unfold getItem
 try with_reducible refine aS ?_
 refine Wb (wpAny_sequenceKey hm.ty (by decide) ?_);refine Wb (ag (name:=Str.ofString "__getitem__") hm.ty slot_dict_getitem (aW slot_dict_getitem hm.ty entry_dict_getitem ?_ (args_dict_getitem _ _)));show wpAny _ _ (dictGet d kv>>=_) _ _ s;refine Wb (cb hu hk hm hap ?_);rw[hx];exact aA ⟨x.2.2,rfl,wpAny_pure h⟩
def mL{Q:VL→SD→Prop}(hu:A.in1.units+8<cLine)(hk:JD s.heap k kv)(hd:(d==sysModules)=false)(hm:JO s.heap d xs)(hap:∀x∈xs,Bq x.1=Bq k→x.1=k)(neg:Bool)
 (h:Q (.bool (if neg then !(FO xs k).isSome else(FO xs k).isSome)) {s with toks:=s.toks+EU k}):wpAny (model prog w) A (compareOp (if neg then .NotIn else .In) kv (.ref d)) Q E s:=by
 have key:∀ {Q:Bool→SD→Prop},Q (FO xs k).isSome {s with toks:=s.toks+EU k}→wpAny (model prog w) A (contains (.ref d) kv) Q E s:=fun {Q} h=>by
  unfold contains
  try with_reducible refine aS ?_
  refine Wb (wpAny_specialOf hm.ty slot_dict_contains.lookup ?_);show wpAny _ _ (if(some (Value.builtin "dict.__contains__")==some Value.none)=true then _ else _) _ E s;rw[if_neg (by rw[beq_builtin_none];exact aK)];refine Wb (wpAny_callSpecialUnlessNone?_slot (name:=Str.ofString "__contains__") hm.ty slot_dict_contains (aW slot_dict_contains hm.ty entry_dict_contains ?_ (args_dict_contains _ _)));show wpAny _ _ (dictGet d kv>>=_) _ _ s;refine Wb (cb hu hk hm hap ?_);cases hf:FO xs k with
  |some p =>
   rw[hf]at h;show wpAny _ _ (ret (.bool true)) _ _ _;exact aA ⟨_,rfl,wpAny_truthy_bool h⟩
  |none =>
   rw[hf]at h;show wpAny _ _ (Builtin.Dict.pendingKey? d kv>>=_) _ _ _;exact Wb (wpAny_pendingKey_other hd (aA ⟨_,rfl,wpAny_truthy_bool h⟩))
 cases neg with
 |false =>
  show wpAny _ _ (do return .bool (←contains (.ref d) kv)) Q E s;exact Wb (key (aA h))
 |true =>
  show wpAny _ _ (do return .bool (!(←contains (.ref d) kv))) Q E s;exact Wb (key (aA h))
def putN(k:Option Tr)(v:VL)(x:KE):KE:=if x.1=k then(x.1,x.2.1,v) else x
def Gz(xs:List KE)(k:Option Tr)(kv v:VL):List KE:=if(FO xs k).isSome then xs.map (putN k v) else xs++[(k,kv,v)]
def Sf(v:VL):∀xs:List KE,(xs.map (putN k v)).map (·.1)=xs.map (·.1)
 |[]=>rfl
 |x::xs=>by
  rw[List.map_cons,List.map_cons,List.map_cons,Sf v xs]
  congr 1
  unfold putN;split<;>rfl
def QE{v:VL}:∀ {xs:List KE} {j:Nat} {x:KE},(xs.map (·.1)).Nodup→xs[j]? = some x→x.1=k→(xs.map DR).modify j (fun e=>{e with val:=v})=(xs.map (putN k v)).map DR
 |[],_,_,_,h,_=>by simp at h
 |y::ys,0,x,hn,h,hx=>by
  have:y=x:=by simpa using h
  subst this;rw[List.map_cons,List.nodup_cons]at hn;rw[List.map_cons,List.map_cons,List.map_cons];have hno:ys.map (putN k v)=ys:=by
   refine(List.map_congr_left fun z hz=>?_).trans (List.map_id _);unfold putN;rw[if_neg fun e=>hn.1 (by rw[hx,←e];exact List.mem_map_of_mem hz)]
   rfl
  rw[hno];show { DR y with val:=v}::ys.map DR=_
  congr 1
  unfold putN;rw[if_pos hx]
  rfl
 |y::ys,j+1,x,hn,h,hx=>by
  have h':ys[j]? = some x:=by simpa using h
  rw[List.map_cons,List.nodup_cons]at hn;rw[List.map_cons,List.map_cons,List.map_cons];have hy:putN k v y=y:=by
   unfold putN;rw[if_neg fun e=>hn.1 (by rw[e,←hx];exact List.mem_map_of_mem (aP h'))]
  rw[hy];show DR y::(ys.map DR).modify j _=_;rw[QE hn.2 h' hx]
def JD.keep{h h':Heap}{k:Option Tr}{v:VL}{o:Obj}{es ep}(a:JD h k v)(prog:Program)(w:World)(ho:h.get? d=some o)(hd:o.data=.dict es ep)(sb:Heap.SameBut d h h'):JD h' k v:=by
 cases k with
 |none=>exact a
 |some t =>
  obtain⟨a1,e1,k1⟩:=a;exact⟨a1,e1,(KJ prog w).keeps k1 ho hd sb⟩
def ko{v:VL}{Q:Unit→SD→Prop}(hu:A.in1.units+8<cLine)(hk:JD s.heap k kv)(hm:JO s.heap d xs)(hap:∀x∈xs,Bq x.1=Bq k→x.1=k)(hz:xs.length≤sizeLine)
 (hQ:∀h',JO h' d (Gz xs k kv v)→Heap.SameBut d s.heap h'→Q () {s with heap:=h',toks:=s.toks+EU k}):wpAny (model prog w) A (setItem (.ref d) kv v) Q E s:=by
 unfold setItem
 try with_reducible refine aS ?_
 refine Wb (wpAny_sequenceKey hm.ty (by decide) ?_);refine Wb (ag (name:=Str.ofString "__setitem__") hm.ty slot_dict_setitem (aW slot_dict_setitem hm.ty entry_dict_setitem ?_ (args_dict_setitem _ _ _)));show wpAny _ _ (Builtin.Dict.notOrdered "__setitem__" ⟨[.ref d,kv,v],[]⟩>>=_) _ _ s;refine Wb (wpAny_notOrdered_dict hm.ty ?_);show wpAny _ _ (dictSet d kv v>>=_) _ _ s;refine Wb ?_;have fin:∀h',JO h' d (Gz xs k kv v)→Heap.SameBut d s.heap h'→wpAny (model prog w) A.in1 (ret .none) (fun fin s'=>∃v,fin=.done (.ret v)∧wpAny (model prog w) A (pure ()) Q E s') E {s with heap:=h',toks:=s.toks+EU k}:=fun h' h1 h2=>aA ⟨.none,rfl,wpAny_pure (hQ h' h1 h2)⟩;obtain⟨o,es,ep,ho,hc,hd,he⟩:=hm.ob;unfold dictSet
 try with_reducible refine aS ?_
 refine Wb (W3 hu hk ?_);unfold dictSetHashed
 try with_reducible refine aS ?_
 refine Wb (XG (s:={s with toks:=s.toks+EU k}) hu hk ho hd he hm.ks hm.nd hap (fun hno=>?_) fun j x hj hx=>?_)
 ·have es':Gz xs k kv v=xs++[(k,kv,v)]:=by unfold Gz;rw[Pj hno];rfl
  rw[es']at fin;refine Wb (bT (wpAny_updateDictKeys (hz:=by rw[Tx he];exact hz) (s:={s with toks:=s.toks+EU k}) ho hd (fin _ ⟨⟨_,_,ep+1,Heap.get?_update_self _ ho (Obj.isFreed_of_dict (Obj.data_mapDictKeys hd _)),hc.mapDictKeys _,Obj.data_mapDictKeys hd _,?_⟩,fun y hy=>?_,?_⟩ (ai ..))))
  ·simp[he,DR]
  ·rcases bR.mp hy with h|h
   ·exact(hm.ks y h).keep prog w ho hd (ai ..)
   ·rw[List.mem_singleton.mp h];exact hk.keep prog w ho hd (ai ..)
  ·rw[List.map_append,List.nodup_append];refine⟨hm.nd,by simp,fun a ha b hb=>?_⟩;have:b=k:=by simpa using hb
   subst this;obtain⟨y,hy,rfl⟩:=aZ.mp ha;exact hno y hy
 ·have es':Gz xs k kv v=xs.map (putN k v):=by unfold Gz;rw[PM hm.nd hj hx];rfl
  rw[es']at fin;refine Wb (bT (Wb (wpAny_updateDict (s:={s with toks:=s.toks+EU k}) ho hd (wpAny_point (fin _ ⟨⟨_,_,ep,Heap.get?_update_self _ ho (Obj.isFreed_of_dict (Obj.data_mapDict hd _)),hc.mapDict _,Obj.data_mapDict hd _,?_⟩,fun y hy=>?_,?_⟩ (ai ..))))))
  ·have:=QE (v:=v) hm.nd hj hx;rw[←he]at this;obtain⟨l⟩:=es
   simpa using this
  ·obtain⟨z,hz',rfl⟩:=aZ.mp hy;unfold putN;split<;>exact(hm.ks z hz').keep prog w ho hd (ai ..)
  ·rw[Sf];exact hm.nd
end
end TH
namespace L2
open PySem PySem.Spec PyProof.Rows
abbrev KR:=Option Tr×V×V
def QM(q:KR)(x:TH.KE):Prop:=x.1=q.1∧RelV q.2.1 x.2.1∧RelV q.2.2 x.2.2
def dN(d:AD)(r:List KR):HO:=.ext fun h=>(d==sysModules)=false∧∃o es ep xs,h.get? d=some o∧o.ExactDict∧o.data=.dict es ep∧es.toList=xs.map TH.DR∧PySem.Paired QM r xs
def Ir(H:Hp):Option Tr→V→Prop
 |none,v=>v=.BF
 |some t,v=>t.deep<8∧Tv H t v
def Ir.same{H H':Hp}{k:Option Tr}{v:V}(h:Ir H k v)(e:AK H H'):Ir H' k v:=by
 cases k with
 |none=>exact h
 |some t=>exact⟨h.1,h.2.same e⟩
structure Tw(H:Hp)(d:Addr)(r:List KR)(k:Option Tr):Prop where
 at_:H d=some (dN d r)
 ks:∀q∈r,Ir H q.1 q.2.1
 nd:(r.map (·.1)).Nodup
 ap:∀q∈r,TH.Bq q.1=TH.Bq k→q.1=k
def P8{α β:Type}{R:α→β→Prop}{l:List α}{m:List β}(h:PySem.Paired R l m):∀x∈m,∃q∈l,R q x:=by
 induction h with
 |nil=>intro x hx;cases hx
 |cons a _ ih =>
  intro x hx;rcases aJ.mp hx with rfl|hx
  ·exact⟨_,.head _,a⟩
  ·obtain⟨q,h1,h2⟩:=ih x hx;exact⟨q,.tail _ h1,h2⟩
def RZ{r:List KR}{xs:List TH.KE}(h:PySem.Paired QM r xs):xs.map (·.1)=r.map (·.1):=by
 induction h with
 |nil=>rfl
 |cons a _ ih=>rw[List.map_cons,List.map_cons,ih,a.1]
section
variable{X:Cx}{pins:List (AD×Obj)}{σ:St}{H:Hp}{s:SD}{pos:Pos}
def Ir.raw(I:Inv X pins σ H s){k:Option Tr}{v:V}{u:VL}(h:Ir H k v)(r:RelV v u):TH.JD s.heap k u:=by
 cases k with
 |none =>
  have h:v=.BF:=h;subst h;exact r
 |some t =>
  obtain⟨h1,a,ys,rfl,h2,h3⟩:=h;obtain⟨its,rv,p,_⟩:=I.tuple (Ay.of (K:=X.K) h2);exact⟨a,r,h1,its,p,h3.vs I rv⟩
def Tz(I:Inv X pins σ H s){d:AD}{r:List KR}{k:Option Tr}(h:Tw H d r k):(d==sysModules)=false∧∃xs,TH.JO s.heap d xs∧PySem.Paired QM r xs∧∀x∈xs,TH.Bq x.1=TH.Bq k→x.1=k:=by
 obtain⟨hs,o,es,ep,xs,g1,g2,g3,g4,g5⟩:=(show CU X.prog X.w H s.heap d (dN d r) from I.Ap d _ h.at_).1;refine⟨hs,xs,⟨⟨o,es,ep,g1,g2,g3,g4⟩,fun x hx=>?_,by rw[RZ g5];exact h.nd⟩,g5,fun x hx=>?_⟩
 ·obtain⟨q,h1,h2,h3,_⟩:=P8 g5 x hx;rw[h2];exact(h.ks q h1).raw I h3
 ·obtain⟨q,h1,h2,_⟩:=P8 g5 x hx;rw[h2];exact h.ap q h1
def Oi{r:List KR}{xs:List TH.KE}(h:PySem.Paired QM r xs)(k:Option Tr):match r.find? (fun q=>decide (q.1=k)) with
  |some q=>∃x,TH.FO xs k=some x∧RelV q.2.2 x.2.2
  |none=>TH.FO xs k=none:=by
 induction h with
 |nil=>exact rfl
 | @cons q x l m a _ ih =>
  unfold TH.FO at ih ⊢;rw[List.find?_cons,List.find?_cons,a.1];by_cases z:q.1=k
  ·simp only[decide_eq_true z];exact⟨x,rfl,a.2.2⟩
  ·simp only[decide_eq_false z];exact ih
def nQ:R2:=fun x y H Q=>∃d r k q,x=.ref d∧Ir H k y∧Tw H d r k∧r.find? (fun q=>decide (q.1=k))=some q∧Q q.2.2 H
def jU{o i:Expr}{td ty:TE}(hu:X.A.units+64<cLine)(ho:PE X o td)(hi:PE X i ty)(hs:jP i):PE X (.Subscript o i pos) (Xk nQ td ty):=by
 intro pins s σ H Q I h;refine dS PySem.F.slot_dict_getitem.lookup hs (BN (ho pins s σ H _ I h) fun u s1 ⟨x,H1,I1,rx,q1⟩=>BN (hi pins s1 σ H1 _ I1 q1) fun iv s2 ⟨y,H2,I2,ry,q2⟩=>?_);obtain⟨d,r,k,q,rfl,hk,hD,hf,q3⟩:=q2;obtain rfl:u=Value.ref d:=rx;obtain⟨hsm,xs,hm,hp,hap⟩:=Tz I2 hD;have hr:=Oi hp k;rw[hf]at hr;obtain⟨x,h1,h2⟩:=hr;exact⟨hm.ty,TH.fk (by show X.A.in1.units+8<cLine;rw[Around.in1_units];omega) (hk.raw I2 ry) hm hap h1 ⟨q.2.2,H2,I2.tok _,h2,q3⟩⟩
def mW(neg:Bool):R2:=fun x y H Q=>∃d r k,y=.ref d∧Ir H k x∧Tw H d r k∧Q (.bl (if neg then !(r.find? (fun q=>decide (q.1=k))).isSome else(r.find? (fun q=>decide (q.1=k))).isSome)) H
def jN(hu:X.A.units+64<cLine)(neg:Bool):Ct X (compareOp (if neg then .NotIn else .In)) (mW neg):=by
 intro pins s σ H x y v u Q I rx ry h;obtain⟨d,r,k,rfl,hk,hD,q⟩:=h;obtain rfl:u=Value.ref d:=ry;obtain⟨hsm,xs,hm,hp,hap⟩:=Tz I hD;have hr:=Oi hp k;have e:(TH.FO xs k).isSome=(r.find? (fun q=>decide (q.1=k))).isSome:=by
  split at hr
  ·rename_i q e;obtain⟨x,h1,_⟩:=hr;rw[h1,e];rfl
  ·rename_i e;rw[hr,e];rfl
 refine TH.mL (by show X.A.in1.units+8<cLine;rw[Around.in1_units];omega) (hk.raw I rx) hsm hm hap neg ?_;rw[e];exact⟨.bl _,H,I.tok _,rfl,q⟩
def Fi(r:List KR)(k:Option Tr)(kv v:V):List KR:=if(r.find? (fun q=>decide (q.1=k))).isSome then r.map (fun q=>if q.1=k then(q.1,q.2.1,v) else q) else r++[(k,kv,v)]
def dW{r:List KR}{xs:List TH.KE}{k:Option Tr}{kv v:V}{ku u:VL}(h:PySem.Paired QM r xs)(hk:RelV kv ku)(hv:RelV v u):PySem.Paired QM (Fi r k kv v) (TH.Gz xs k ku u):=by
 have hr:=Oi h k;unfold Fi TH.Gz;split at hr
 ·rename_i q e;obtain⟨x,h1,_⟩:=hr;rw[h1,e];simp only[Option.isSome_some,if_true];clear e h1 hk
  induction h with
  |nil=>exact .nil
  | @cons q x l m a _ ih =>
   rw[List.map_cons,List.map_cons];refine .cons ?_ ih;unfold TH.putN;rw[a.1];by_cases z:q.1=k
   ·rw[if_pos z,if_pos z];exact⟨rfl,a.2.1,hv⟩
   ·rw[if_neg z,if_neg z];exact a
 ·rename_i e;rw[hr,e];exact h.snoc ⟨rfl,hk,hv⟩
def kN:V4:=fun o i v H Q=>∃d r k,o=.ref d∧Ir H k i∧Tw H d r k∧r.length≤1000∧Q (upd H d (dN d (Fi r k i v)))
def jV(hu:X.A.units+64<cLine):bw X kN:=by
 intro pins s σ H o i v ov iv u Q I ro ri rv h;obtain⟨d,r,k,rfl,hk,hD,hl,q⟩:=h;obtain rfl:ov=Value.ref d:=ro;obtain⟨hsm,xs,hm,hp,hap⟩:=Tz I hD;have hle:xs.length=r.length:=by have:=bJ List.length (RZ hp);simpa using this
 refine TH.ko (by show X.A.in1.units+8<cLine;rw[Around.in1_units];omega) (hk.raw I ri) hm hap (aQ (by omega:xs.length≤1000) (by rw[sizeLine_eq];decide)) fun h' hm' sb=>?_;obtain⟨o',es,ep,g1,g2,g3,g4⟩:=hm'.ob;refine⟨_,I.write (x:=d) (e:=d) (o:=dN d (Fi r k i v)) (t':=s.toks+TH.EU k) (by rw[hD.at_];exact trivial) (.inl rfl) (fun b w' hb e=>(sb.2 b hb).trans e) ⟨o',g1⟩ ?_,q⟩;exact⟨⟨hsm,o',es,ep,_,g1,g2,g3,g4,dW hp ri rv⟩,⟨o',g1⟩,fun h1 h2 ⟨a,o,es,ep,xs,q,r⟩ k=>⟨a,o,es,ep,xs,k _ q,r⟩⟩
def gF:TE:=fun _ H Q=>∀p,H p=none→Q (.ref p) (upd H p (dN p []))
def Z5:PE X (.Dict [] [] pos) gF:=fun pins s σ H Q I h=>by
 refine wpAny_Dict_empty ⟨.ref s.heap.objs.size,_,I.laid (a:=s.heap.objs.size) (o:=dN s.heap.objs.size []) (t':=s.toks) (fun _ _ q=>aD _ q) (aG _) ?_,rfl,h _ (I.Ap.fresh (aG _))⟩;have hb:sysModules<s.heap.objs.size:=Nat.lt_trans (by decide) (I.mod.glob.keeps I.bk).lt;have hn:(s.heap.objs.size==sysModules)=false:=beq_eq_false_iff_ne.mpr (Ne.symm (aH hb));exact⟨⟨hn,_,#[],0,[],Heap.get?_push_size _ rfl,⟨rfl,rfl,rfl⟩,rfl,rfl,.nil⟩,⟨_,Heap.get?_push_size _ rfl⟩,fun h1 h2 ⟨a,o,es,ep,xs,q,r⟩ k=>⟨a,o,es,ep,xs,k _ q,r⟩⟩
def find_key{r:List KR}{k:Option Tr}{q:KR}(h:r.find? (fun q=>decide (q.1=k))=some q):q∈r∧q.1=k:=⟨List.mem_of_find?_eq_some h,by simpa using List.find?_some h⟩
end
section
variable{X:Cx}
def YI(hc:X.calm=true):DV X (.builtin "sum") (fun xs H Q=>∃(p:AD) (ns:List Int),xs=[.ref p]∧Ay X.K H p (ns.map V.int)∧Q (.int ns.sum) H):=by
 intro pins s σ H xs us Q I r h;obtain⟨p,ns,rfl,hq,q⟩:=h;obtain⟨u,rfl,r1⟩:=r.one;cases r1;obtain⟨its,rv,pl,hz⟩:=I.tuple hq;have hi:=intsAre_of rv;obtain⟨xs,hx⟩:=hi.allInts.items;have hl':s.heap.IsTuple p (intItems xs):=hx ▸ pl
 have hlt:p<s.heap.objs.size:=by obtain⟨_,e,_⟩:=hl';exact aF e
 have e1:ns=xs.toList.map (·.1):=by
  rw[←nums_intItems,←hx];exact(show numsOf its.toArray.toList=ns from hi.numsOf).symm
 have e2:preSum (numAt xs) xs.size=ns.sum:=by
  rw[preSum_eq,List.take_of_length_le (by simp),e1]
 refine call_sum_walkG (wpAny_pyIter_tuple hl' ?_);refine⟨_,[_,p],[_],_,_,_,numAt xs,rfl,Walks.tuple (A:=X.A.in1) (I.ok.hd hc) _ p (aH hlt) (intItems xs),
  ⟨⟨_,Heap.get?_push_size _ rfl,rfl,rfl⟩,hl'.push _⟩,fun c hcc=>?_,(fun _ _=>intItems_at),fun h' tk t' hk=>?_⟩
 ·show c<(s.heap.push _).objs.size;rw[Heap.size_push];rcases aJ.mp hcc with rfl|hcc
  ·exact bU _
  ·rw[List.mem_singleton.mp hcc];exact bG hlt
 ·have e3:preSum (numAt xs) (intItems xs).size=ns.sum:=by
   rw[←e2];simp[intItems]
  rw[e3];exact⟨.int _,H,I.kept (t':=tk) (PyProof.Rows.LSm.kept_iter hk),⟨t',rfl⟩,q⟩
end
end L2
set_option maxHeartbeats 1000000
namespace L2
open PySem PySem.Spec PyProof.Rows
def Rd.same{H H':Hp}{a:AD}{u:HO}(e:AK H H')(h:Rd H a u):Rd H' a u:=by
 rcases h with h|⟨o,h⟩
 ·exact .inl (e _ _ h)
 ·exact .inr ⟨o,e _ _ h⟩
def Bn:Tr→List PD
 |.nil=>[]
 |.cons b r=>.tuple (Bn b)::Bn r
def gu:Option Tr→PD
 |none=>.none
 |some t=>.tuple (Bn t)
mutual
def Du(H:Hp):PD→V→Prop
 |.none,v=>v=.BF
 |.bool b,v=>v=.bl b
 |.int i,v=>v=.int i
 |.str x,v=>v=.str x
 |.tuple ds,v=>∃a xs,v=.ref a∧H a=some (.tup xs)∧An H ds xs
 |.list ds,v=>∃a xs,v=.ref a∧H a=some (.lst xs)∧An H ds xs
 |.dict kv,v=>(∃ea C:AD,kv=[(.int (C:Nat),.none)]∧v=.ref ea∧H ea=some (Lo ea (.ref C)))∨(∃(a:AD) (ns:List Int),kv=[(.none,.list (ns.map .int))]∧v=.ref a∧Rd H a (.lst (ns.map V.int)))∨LK H kv v
def An(H:Hp):List PD→List V→Prop
 |[],xs=>xs=[]
 |d::ds,xs=>∃x r,xs=x::r∧Du H d x∧An H ds r
def LK(H:Hp):List (PD×PD)→V→Prop
 |[],_=>False
 |(k0,d0)::t,v=>k0=.bool true∧d0=.none∧∃a r,v=.ref a∧H a=some (dN a r)∧(r.map (·.1)).Nodup∧MN H t r
def MN(H:Hp):List (PD×PD)→List KR→Prop
 |[],r=>r=[]
 |(k,d)::t,r=>∃q r',r=q::r'∧k=gu q.1∧Ir H q.1 q.2.1∧Du H d q.2.2∧MN H t r'
end
mutual
def Du.same{H H':Hp}(e:AK H H'):∀ {d:PD} {v:V},Du H d v→Du H' d v
 |.none,_,h=>by rw[Du]at h ⊢;exact h
 |.bool _,_,h=>by rw[Du]at h ⊢;exact h
 |.int _,_,h=>by rw[Du]at h ⊢;exact h
 |.str _,_,h=>by rw[Du]at h ⊢;exact h
 |.tuple _,_,h=>by
  rw[Du]at h ⊢;obtain⟨a,xs,e1,h1,h2⟩:=h;exact⟨a,xs,e1,e _ _ h1,An.same e h2⟩
 |.list _,_,h=>by
  rw[Du]at h ⊢;obtain⟨a,xs,e1,h1,h2⟩:=h;exact⟨a,xs,e1,e _ _ h1,An.same e h2⟩
 |.dict _,_,h=>by
  rw[Du]at h ⊢;rcases h with ⟨ea,C,e1,e2,h1⟩|⟨a,ns,e1,e2,h1⟩|h
  ·exact .inl ⟨ea,C,e1,e2,e _ _ h1⟩
  ·exact .inr (.inl ⟨a,ns,e1,e2,h1.same e⟩)
  ·exact .inr (.inr (LK.same e h))
def An.same{H H':Hp}(e:AK H H'):∀ {ds:List PD} {xs:List V},An H ds xs→An H' ds xs
 |[],_,h=>by rw[An]at h ⊢;exact h
 |_::_,_,h=>by
  rw[An]at h ⊢;obtain⟨x,r,e1,h1,h2⟩:=h;exact⟨x,r,e1,Du.same e h1,An.same e h2⟩
def LK.same{H H':Hp}(e:AK H H'):∀ {kv:List (PD×PD)} {v:V},LK H kv v→LK H' kv v
 |[],_,h=>by rw[LK]at h;exact h.elim
 |(_,_)::_,_,h=>by
  rw[LK]at h ⊢;obtain⟨h1,h2,a,r,h3,h4,h5,h6⟩:=h;exact⟨h1,h2,a,r,h3,e _ _ h4,h5,MN.same e h6⟩
def MN.same{H H':Hp}(e:AK H H'):∀ {kv:List (PD×PD)} {r:List KR},MN H kv r→MN H' kv r
 |[],_,h=>by rw[MN]at h ⊢;exact h
 |(_,_)::_,_,h=>by
  rw[MN]at h ⊢;obtain⟨q,r',h1,h2,h3,h4,h5⟩:=h;exact⟨q,r',h1,h2,h3.same e,Du.same e h4,MN.same e h5⟩
end
mutual
def Du.br{K:Fg}{H:Hp}:∀ {d:PD} {v:V},d.canLay0=true→Du H d v→Br K H d v
 |.none,_,_,h=>by rw[Du]at h;rw[Br];exact h
 |.bool _,_,_,h=>by rw[Du]at h;rw[Br];exact h
 |.int _,_,_,h=>by rw[Du]at h;rw[Br];exact h
 |.str _,_,_,h=>by rw[Du]at h;rw[Br];exact h
 |.tuple _,_,c,h=>by
  rw[Du]at h;rw[Br];obtain⟨a,xs,e1,h1,h2⟩:=h;exact⟨a,xs,e1,Ay.of h1,An.br (by simp only[PyData.canLay0,Bool.and_eq_true]at c;first|exact c|exact c.2|exact c.1) h2⟩
 |.list _,_,c,h=>by
  rw[Du]at h;rw[Br];obtain⟨a,xs,e1,h1,h2⟩:=h;exact⟨a,xs,e1,Ab.of h1,An.br (by simp only[PyData.canLay0,Bool.and_eq_true]at c;first|exact c|exact c.2|exact c.1) h2⟩
 |.dict _,_,c,h=>by simp[PyData.canLay0]at c
def An.br{K:Fg}{H:Hp}:∀ {ds:List PD} {xs:List V},PyData.canLayAll0 ds=true→An H ds xs→EH K H ds xs
 |[],_,_,h=>by rw[An]at h;rw[EH];exact h
 |_::_,_,c,h=>by
  rw[An]at h;rw[EH];obtain⟨x,r,e1,h1,h2⟩:=h;simp only[PyData.canLayAll0,Bool.and_eq_true]at c;exact⟨x,r,e1,Du.br c.1 h1,An.br c.2 h2⟩
end
def An.nil{H:Hp}:An H [] []:=by rw[An]
def An.cons{H:Hp}{d:PD}{ds:List PD}{x:V}{xs:List V}(h:Du H d x)(k:An H ds xs):An H (d::ds) (x::xs):=by rw[An];exact⟨x,xs,rfl,h,k⟩
def An.un{H:Hp}{d:PD}{ds:List PD}{xs:List V}(h:An H (d::ds) xs):∃x r,xs=x::r∧Du H d x∧An H ds r:=by rw[An]at h;exact h
def An.nil_eq{H:Hp}{xs:List V}(h:An H [] xs):xs=[]:=by rw[An]at h;exact h
def An.len{H:Hp}:∀ {ds:List PD} {xs:List V},An H ds xs→xs.length=ds.length
 |[],_,h=>by rw[h.nil_eq];rfl
 |_::_,_,h=>by obtain⟨x,r,rfl,_,h2⟩:=h.un;simp[h2.len]
def An.get{H:Hp}:∀ {ds:List PD} {xs:List V} {i:Nat} {d:PD},An H ds xs→ds[i]? = some d→∃v,xs[i]? = some v∧Du H d v
 |[],_,i,_,_,e=>by simp at e
 |_::_,_,0,_,h,e=>by
  obtain⟨x,r,rfl,h1,_⟩:=h.un;simp at e;subst e;exact⟨x,rfl,h1⟩
 |_::_,_,i+1,_,h,e=>by
  obtain⟨x,r,rfl,_,h2⟩:=h.un;obtain⟨v,k1,k2⟩:=h2.get (i:=i) (by simpa using e);exact⟨v,by simpa using k1,k2⟩
def An.back{H:Hp}{ds:List PD}{xs:List V}{i:Nat}{v:V}(h:An H ds xs)(e:xs[i]? = some v):∃d,ds[i]? = some d∧Du H d v:=by
 have hl:=h.len;have hi:i<ds.length:=by rw[←hl];exact(aC.mp e).1
 have hd:ds[i]? = some ds[i]:=by simp[hi]
 obtain⟨w,k1,k2⟩:=h.get hd;rw[e]at k1;cases k1;exact⟨_,hd,k2⟩
def An.app{H:Hp}:∀ {ds es:List PD} {xs ys:List V},An H ds xs→An H es ys→An H (ds++es) (xs++ys)
 |[],_,_,_,h,k=>by rw[h.nil_eq];exact k
 |_::_,_,_,_,h,k=>by obtain⟨x,r,rfl,h1,h2⟩:=h.un;exact .cons h1 (h2.app k)
def An.take{H:Hp}:∀ {ds:List PD} {xs:List V} (i:Nat),An H ds xs→An H (ds.take i) (xs.take i)
 |_,_,0,_=>by rw[List.take_zero,List.take_zero];exact .nil
 |[],_,i+1,h=>by rw[h.nil_eq];exact .nil
 |_::_,_,i+1,h=>by obtain⟨x,r,rfl,h1,h2⟩:=h.un;exact .cons h1 (h2.take i)
def An.drop{H:Hp}:∀ {ds:List PD} {xs:List V} (i:Nat),An H ds xs→An H (ds.drop i) (xs.drop i)
 |_,_,0,h=>h
 |[],_,i+1,h=>by rw[h.nil_eq];exact .nil
 |_::_,_,i+1,h=>by obtain⟨x,r,rfl,h1,h2⟩:=h.un;exact h2.drop i
def An.rev{H:Hp}:∀ {ds:List PD} {xs:List V},An H ds xs→An H ds.reverse xs.reverse
 |[],_,h=>by rw[h.nil_eq];exact .nil
 |_::_,_,h=>by
  obtain⟨x,r,rfl,h1,h2⟩:=h.un;rw[List.reverse_cons,List.reverse_cons];exact h2.rev.app (.cons h1 .nil)
inductive Oc where
 |lst (xs:List PyData)|gC (kvs:List (List Key×PyData))|Yc (kvs:List (Option Tr×PyData))
inductive L where
 |no|d (x:PyData)|own (c:Oc)
abbrev Dv:=List L
def QT(G:Hp):List (List Key×PD)→List (List Key×V)→Prop
 |[],r=>r=[]
 |q::t,r=>∃v r',r=(q.1,v)::r'∧Du G q.2 v∧QT G t r'
def QT.same{G G':Hp}(e:AK G G'):∀ {t:List (List Key×PD)} {r:List (List Key×V)},QT G t r→QT G' t r
 |[],r,h=>h
 |q::t,r,h=>by
  obtain⟨v,r',rfl,h1,h2⟩:=h;exact⟨v,r',rfl,h1.same e,QT.same e h2⟩
abbrev cJ(kvs:List (Option Tr×PD)):List (PD×PD):=kvs.map fun q=>(gu q.1,q.2)
abbrev WV(kvs:List (Option Tr×PD)):PD:=.dict ((.bool true,.none)::cJ kvs)
def Iz(G:Hp)(a:AD):Oc→HO→Prop
 |.lst xs,o=>∃ys,o=.lst ys∧An G xs ys
 |.gC kvs,o=>∃r,o=.dT r∧QT G kvs r
 |.Yc kvs,o=>∃r,o=dN a r∧(r.map (·.1)).Nodup∧MN G (cJ kvs) r
def Iz.same{G G':Hp}{a:AD}{c:Oc}{o:HO}(h:Iz G a c o)(e:AK G G'):Iz G' a c o:=by
 cases c with
 |Yc kvs=>obtain⟨r,h1,h2,h3⟩:=h;exact⟨r,h1,h2,MN.same e h3⟩
 |lst xs=>obtain⟨ys,h1,h2⟩:=h;exact⟨ys,h1,h2.same e⟩
 |gC kvs=>obtain⟨ys,h1,h2⟩:=h;exact⟨ys,h1,h2.same e⟩
def Iz.SS{G:Hp}{a:AD}{c:Oc}{xs:List V}(h:Iz G a c (.tup xs)):False:=by
 cases c with
 |Yc kvs=>obtain⟨r,h1,h2,h3⟩:=h;unfold dN at h1;cases h1
 |lst xs=>obtain⟨ys,h1,h2⟩:=h;cases h1
 |gC kvs=>obtain⟨ys,h1,h2⟩:=h;cases h1
def Nw(G0 H0 G:Hp):Prop:=∀a o,G a=some o→G0 a=some o∨H0 a=none∨∃xs,o=HO.tup xs
structure Rw(G0 H0 G H:Hp)(σ:St)(δ:Dv)(ts:List (PyData×V)):Prop where
 ext:AK G0 G
 new:Nw G0 H0 G
 ins:AK G H
 keep:AK H0 H
 len:σ.length=δ.length
 dat:∀(i:Nat) (x:PyData),δ[i]? = some (L.d x)→∃v,σ[i]? = some (some v)∧Du G x v
 own:∀(i:Nat) (xs:Oc),δ[i]? = some (L.own xs)→∃(a:Addr) (ys:HO),σ[i]? = some (some (V.ref a))∧G a=none∧H0 a=none∧H a=some ys∧Iz G a xs ys
 apart:∀(i j:Nat) (xs ys:Oc),i≠j→δ[i]? = some (L.own xs)→δ[j]? = some (L.own ys)→σ[i]?≠σ[j]?
 CD:∀p∈ts,Du G p.1 p.2
def DE(X:Cx)(e:Expr)(f:Dv→Option PD):Prop:=∃t,PE X e t∧∀δ x,f δ=some x→∀G0 H0 G H σ ts (Q:VK),Rw G0 H0 G H σ δ ts→(∀v G' H',Rw G0 H0 G' H' σ δ ((x,v)::ts)→Q v H')→t σ H Q
def DA(X:Cx)(es:List Expr)(f:Dv→Option (List PD)):Prop:=∃t,PA X es t∧∀δ xs,f δ=some xs→∀G0 H0 G H σ ts (Q:List V→Hp→Prop),Rw G0 H0 G H σ δ ts→(∀vs G' H',Rw G0 H0 G' H' σ δ (xs.zip vs++ts)→vs.length=xs.length→Q vs H')→t σ H Q
def DT(X:Cx)(e:Expr)(f:Dv→Option Bool):Prop:=∃t,PT X e t∧∀δ b,f δ=some b→∀G0 H0 G H σ ts (Q:Bool→Hp→Prop),Rw G0 H0 G H σ δ ts→(∀G' H',Rw G0 H0 G' H' σ δ ts→Q b H')→t σ H Q
section
variable{G0 H0 G H:Hp}{σ:St}{δ:Dv}{ts:List (PD×V)}
def Rw.drop{p:PD×V}(r:Rw G0 H0 G H σ δ (p::ts)):Rw G0 H0 G H σ δ ts:={r with CD:=fun q hq=>r.CD q (.tail _ hq)}
def Rw.less{us:List (PD×V)}(r:Rw G0 H0 G H σ δ ts)(h:∀p∈us,p∈ts):Rw G0 H0 G H σ δ us:={r with CD:=fun q hq=>r.CD q (h q hq)}
def Rw.put{x:PD}{v:V}(r:Rw G0 H0 G H σ δ ts)(h:Du G x v):Rw G0 H0 G H σ δ ((x,v)::ts):={r with CD:=fun q hq=>by rcases aJ.mp hq with rfl|hq;exact h;exact r.CD q hq}
def Rw.newObj{p:AD}{o:HO}(r:Rw G0 H0 G H σ δ ts)(hp:H p=none):Rw G0 H0 (upd G p o) (upd H p o) σ δ ts:=by
 have hG:G p=none:=by
  cases q:G p with
  |none=>rfl
  |some u=>rw[r.ins _ _ q]at hp;cases hp
 have h0:H0 p=none:=by
  cases q:H0 p with
  |none=>rfl
  |some u=>rw[r.keep _ _ q]at hp;cases hp
 have e:AK G (upd G p o):=AO hG o;refine⟨r.ext.trans e,fun a u h=>?_,fun a u h=>?_,r.keep.trans (AO hp o),r.len,fun i x h=>?_,fun i xs h=>?_,r.apart,fun q hq=>(r.CD q hq).same e⟩
 ·by_cases ha:a=p
  ·subst ha;exact .inr (.inl h0)
  ·rw[AJ ha]at h;exact r.new _ _ h
 ·by_cases ha:a=p
  ·subst ha;rw[AI]at h ⊢;exact h
  ·rw[AJ ha]at h ⊢;exact r.ins _ _ h
 ·obtain⟨v,k1,k2⟩:=r.dat i x h;exact⟨v,k1,k2.same e⟩
 ·obtain⟨a,ys,k1,k2,k3,k4,k5⟩:=r.own i xs h;have ha:a≠p:=fun z=>by subst z;rw[k4]at hp;cases hp
  exact⟨a,ys,k1,by rw[AJ ha];exact k2,k3,by rw[AJ ha];exact k4,k5.same e⟩
def Rw.gE{p:AD}{xs:List V}{H':Hp}(r:Rw G0 H0 G H σ δ ts)(e:AK H H')(hp:H' p=some (.tup xs)):Rw G0 H0 (upd G p (.tup xs)) H' σ δ ts:=by
 have e1:AK G (upd G p (.tup xs)):=fun a o h=>by
  by_cases ha:a=p
  ·subst ha;have:=e _ _ (r.ins _ _ h);rw[hp]at this;rw[AI];exact this
  ·rw[AJ ha];exact h
 refine⟨r.ext.trans e1,fun a u h=>?_,fun a u h=>?_,r.keep.trans e,r.len,fun i x h=>?_,fun i xs h=>?_,r.apart,fun q hq=>(r.CD q hq).same e1⟩
 ·by_cases ha:a=p
  ·subst ha;rw[AI]at h;cases h;exact .inr (.inr ⟨_,rfl⟩)
  ·rw[AJ ha]at h;exact r.new _ _ h
 ·by_cases ha:a=p
  ·subst ha;rw[AI]at h;rw[hp];exact h
  ·rw[AJ ha]at h;exact e _ _ (r.ins _ _ h)
 ·obtain⟨v,k1,k2⟩:=r.dat i x h;exact⟨v,k1,k2.same e1⟩
 ·obtain⟨a,ys,k1,k2,k3,k4,k5⟩:=r.own i xs h;have ha:a≠p:=fun z=>by subst z;rw[e _ _ k4]at hp;cases hp;exact k5.SS
  exact⟨a,ys,k1,by rw[AJ ha];exact k2,k3,e _ _ k4,k5.same e1⟩
def Rw.lift{G' H':Hp}(r:Rw G0 H0 G H σ δ ts)(h1:AK G G')(h2:Nw G H G')(h3:AK G' H')(h4:AK H H'):Rw G0 H0 G' H' σ δ ts:=by
 refine⟨r.ext.trans h1,fun a o h=>?_,h3,r.keep.trans h4,r.len,fun i x h=>?_,fun i xs h=>?_,r.apart,fun q hq=>(r.CD q hq).same h1⟩
 ·rcases h2 a o h with k|k|k
  ·exact r.new a o k
  ·right;left
   cases q:H0 a with
   |none=>rfl
   |some u=>rw[r.keep _ _ q]at k;cases k
  ·exact .inr (.inr k)
 ·obtain⟨v,k1,k2⟩:=r.dat i x h;exact⟨v,k1,k2.same h1⟩
 ·obtain⟨a,ys,k1,k2,k3,k4,k5⟩:=r.own i xs h;refine⟨a,ys,k1,?_,k3,h4 _ _ k4,k5.same h1⟩;cases q:G' a with
  |none=>rfl
  |some u =>
   rcases h2 a u q with z|z|⟨xs',z⟩
   ·rw[k2]at z;cases z
   ·rw[k4]at z;cases z
   ·have:=h3 _ _ q;rw[h4 _ _ k4,z]at this;cases this;exact k5.SS.elim
end
section
variable{X:Cx}{a b c e:Expr}{es:List Expr}{f g h:Dv→Option PD}{pos:Pos}
def AM{i j pos}:DE X (.Constant (.int i) j pos) (fun _=>some (.int i)):=⟨_,AR,fun δ x h G0 H0 G H σ ts Q r k=>by cases h;exact k _ _ _ (r.put (by rw[Du]))⟩
def IJ{i j pos}:DE X (.Constant (.bool i) j pos) (fun _=>some (.bool i)):=⟨_,FD,fun δ x h G0 H0 G H σ ts Q r k=>by cases h;exact k _ _ _ (r.put (by rw[Du]))⟩
def Jl{j pos}:DE X (.Constant .none j pos) (fun _=>some .none):=⟨_,PY,fun δ x h G0 H0 G H σ ts Q r k=>by cases h;exact k _ _ _ (r.put (by rw[Du]))⟩
def Si{i j pos}:DE X (.Constant (.str i) j pos) (fun _=>some (.str i)):=⟨_,T2,fun δ x h G0 H0 G H σ ts Q r k=>by cases h;exact k _ _ _ (r.put (by rw[Du]))⟩
def nm(i:Nat)(δ:Dv):Option PD:=match δ[i]? with|some (.d x)=>some x|_=>none
def kY{i:Nat}{δ:Dv}{x:PD}(h:nm i δ=some x):δ[i]? = some (.d x):=by
 unfold nm at h;split at h
 ·rename_i y e;cases h;exact e
 ·cases h
def AH{i:Nat}{x:Str}(h:PE X (.Name x pos) (OU i)):DE X (.Name x pos) (nm i):=⟨_,h,fun δ y hy G0 H0 G H σ ts Q r k=>by
 obtain⟨v,h1,h2⟩:=r.dat _ _ (kY hy);exact⟨v,h1,k _ _ _ (r.put h2)⟩⟩
def A8(o:PD→PD→Option PD)(f g:Dv→Option PD)(δ:Dv):Option PD:=(f δ).bind fun x=>(g δ).bind fun y=>o x y
def D0(X:Cx)(m:VL→VL→Sem VL)(o:PD→PD→Option PD):Prop:=∃r:R2,Ct X m r∧∀x y z,o x y=some z→∀G0 H0 G H σ δ ts u v (Q:VK),Rw G0 H0 G H σ δ ts→Du G x u→Du G y v→(∀w G' H',Rw G0 H0 G' H' σ δ ((z,w)::ts)→Q w H')→r u v H Q
def two{x y:PD}{f g:Dv→Option PD}{δ:Dv}{o:PD→PD→Option PD}{z:PD}(h:A8 o f g δ=some z):∃x y,f δ=some x∧g δ=some y∧o x y=some z:=by
 unfold A8 at h;obtain⟨x,h1,h2⟩:=aB.mp h;obtain⟨y,h3,h4⟩:=aB.mp h2;exact⟨x,y,h1,h3,h4⟩
def A7{op:Operator}{o:PD→PD→Option PD}(ho:D0 X (binaryOp op) o)(ha:DE X a f)(hb:DE X b g):DE X (.BinOp a op b pos) (A8 o f g):=by
 obtain⟨r,hr,kr⟩:=ho;obtain⟨ta,pa,ka⟩:=ha;obtain⟨tb,pb,kb⟩:=hb;refine⟨_,Ax hr pa pb,fun δ z hz G0 H0 G H σ ts Q R0 k=>?_⟩;obtain⟨x,y,h1,h2,h3⟩:=two (x:=.none) (y:=.none) hz;refine ka δ x h1 G0 H0 G H σ ts _ R0 fun u G1 H1 R1=>?_;refine kb δ y h2 G0 H0 G1 H1 σ _ _ R1 fun v G2 H2 R2=>?_;exact kr x y z h3 G0 H0 G2 H2 σ δ ts u v Q (R2.drop.drop) (R2.CD (x,u) (.tail _ (.head _))) (R2.CD (y,v) (.head _)) k
def gX{op:CmpOp}{o:PD→PD→Option PD}(ho:D0 X (compareOp op) o)(ha:DE X a f)(hb:DE X b g)(hm:behindInMarks op b=false):DE X (.Compare a [op] [b] pos) (A8 o f g):=by
 obtain⟨r,hr,kr⟩:=ho;obtain⟨ta,pa,ka⟩:=ha;obtain⟨tb,pb,kb⟩:=hb;refine⟨_,NM hr pa pb hm,fun δ z hz G0 H0 G H σ ts Q R0 k=>?_⟩;obtain⟨x,y,h1,h2,h3⟩:=two (x:=.none) (y:=.none) hz;refine ka δ x h1 G0 H0 G H σ ts _ R0 fun u G1 H1 R1=>?_;refine kb δ y h2 G0 H0 G1 H1 σ _ _ R1 fun v G2 H2 R2=>?_;exact kr x y z h3 G0 H0 G2 H2 σ δ ts u v Q (R2.drop.drop) (R2.CD (x,u) (.tail _ (.head _))) (R2.CD (y,v) (.head _)) k
end
section
variable{X:Cx}
def Qy(o o':PD→PD→Option PD)(x y:PD):Option PD:=match o x y with|some z=>some z|none=>o' x y
def D0.or{m:VL→VL→Sem VL}{o o':PD→PD→Option PD}(h:D0 X m o)(h':D0 X m o'):D0 X m (Qy o o'):=by
 obtain⟨r,hr,kr⟩:=h;obtain⟨r',hr',kr'⟩:=h';refine⟨_,Ct.or hr hr',fun x y z hz G0 H0 G H σ δ ts u v Q R0 du dv k=>?_⟩;unfold Qy at hz;split at hz
 ·rename_i z' e;cases hz;exact .inl (kr x y z e G0 H0 G H σ δ ts u v Q R0 du dv k)
 ·exact .inr (kr' x y z hz G0 H0 G H σ δ ts u v Q R0 du dv k)
def NO{m:VL→VL→Sem VL}{C:Int→Int→Prop}{gv:Int→Int→V}{o:Int→Int→Option PD}(ho:Ct X m (rI C gv))(hC:∀i j z,o i j=some z→C i j∧∀H,Du H z (gv i j)) :
  D0 X m (fun x y=>match x,y with|.int i,.int j=>o i j|_,_=>none):=by
 refine⟨_,ho,fun x y z hz G0 H0 G H σ δ ts u v Q R0 du dv k=>?_⟩;dsimp only at hz;split at hz
 ·rename_i i j;rw[Du]at du dv;obtain⟨h1,h2⟩:=hC i j z hz;exact⟨i,j,du,dv,h1,k _ _ _ (R0.put (h2 _))⟩
 ·cases hz
def J8{m:VL→VL→Sem VL}{gv:Int→Int→V}{o:Int→Int→PD}(ho:Ct X m (RQ gv))(hC:∀i j H,Du H (o i j) (gv i j)) :
  D0 X m (fun x y=>match x,y with|.int i,.int j=>some (o i j)|_,_=>none):=by
 refine⟨_,ho,fun x y z hz G0 H0 G H σ δ ts u v Q R0 du dv k=>?_⟩;dsimp only at hz;split at hz
 ·rename_i i j;cases hz;rw[Du]at du dv;exact⟨i,j,du,dv,k _ _ _ (R0.put (hC _ _ _))⟩
 ·cases hz
def Dw:Nat:=1000
def U0{n:Nat}(h:n≤Dw):n<sizeLine:=RU h
def Fq{n:Nat}(h:n≤Dw):n≤sizeLine:=bN (RU h)
def gM:PD→PD→Option PD:=fun x y=>match x,y with|.int i,.int j=>some (.int (i+j))|_,_=>none
def iV:PD→PD→Option PD:=fun x y=>match x,y with|.int i,.int j=>some (.int (i-j))|_,_=>none
def I0(n:Nat)(i:Int):Bool:=decide (i.natAbs<2^n)
def P4(i j:Int):Bool:=I0 64 i||I0 64 j||(I0 9000 i&&I0 9000 j)
def Wa:PD→PD→Option PD:=fun x y=>match x,y with|.int i,.int j=>(if P4 i j=true then some (.int (i*j)) else none)|_,_=>none
def Zy:PD→PD→Option PD:=fun x y=>match x,y with|.int i,.int j=>(if j≠0∧I0 9000 j=true then some (.int (i.fdiv j)) else none)|_,_=>none
def GY:PD→PD→Option PD:=fun x y=>match x,y with|.int i,.int j=>(if j≠0 then some (.int (i.fmod j)) else none)|_,_=>none
def M4:PD→PD→Option PD:=fun x y=>match x,y with|.int i,.int j=>(if 0≤j∧j≤1000∧I0 64 i=true then some (.int (i^j.toNat)) else none)|_,_=>none
def dc:D0 X (binaryOp .Add) gM:=J8 Mv fun _ _ _=>by rw[Du]
def dy:D0 X (binaryOp .Sub) iV:=J8 Ms fun _ _ _=>by rw[Du]
def cy{i:Int}(h:I0 64 i=true):-(2^64)<i∧i<2^64:=by
 have:=aT h;omega
def eV:D0 X (binaryOp .Mult) Wa:=NO (o:=fun i j=>if P4 i j=true then some (.int (i*j)) else none) Hl fun i j z h=>by
 split at h
 ·rename_i q;cases h;refine⟨?_,fun _=>by rw[Du]⟩;unfold P4 at q;rw[Bool.or_eq_true,Bool.or_eq_true,Bool.and_eq_true]at q;rcases q with (q|q)|q
  ·exact .inl (.inl (cy q))
  ·exact .inl (.inr (cy q))
  ·exact .inr ⟨9000,by decide,of_decide_eq_true q.1,of_decide_eq_true q.2⟩
 ·cases h
def eZ:D0 X (binaryOp .FloorDiv) Zy:=NO (o:=fun i j=>if j≠0∧I0 9000 j=true then some (.int (i.fdiv j)) else none) Gf fun i j z h=>by
 split at h
 ·rename_i q;cases h;exact⟨⟨q.1,9000,Nat.le_refl _,of_decide_eq_true q.2⟩,fun _=>by rw[Du]⟩
 ·cases h
def Dz:D0 X (binaryOp .Mod) GY:=NO (o:=fun i j=>if j≠0 then some (.int (i.fmod j)) else none) Hg fun i j z h=>by
 split at h
 ·rename_i q;cases h;exact⟨q,fun _=>by rw[Du]⟩
 ·cases h
def Qq:D0 X (binaryOp .Pow) M4:=NO (o:=fun i j=>if 0≤j∧j≤1000∧I0 64 i=true then some (.int (i^j.toNat)) else none) jE fun i j z h=>by
 split at h
 ·rename_i q;cases h;exact⟨⟨q.1,by omega,of_decide_eq_true q.2.2⟩,fun _=>by rw[Du]⟩
 ·cases h
def Ig(p:Int→Int→Bool):PD→PD→Option PD:=fun x y=>match x,y with|.int i,.int j=>some (.bool (p i j))|_,_=>none
def WC:D0 X (compareOp .Lt) (Ig fun i j=>decide (i<j)):=J8 (o:=fun i j=>.bool (decide (i<j))) PU fun _ _ _=>by rw[Du]
def cw:D0 X (compareOp .Gt) (Ig fun i j=>decide (j<i)):=J8 (o:=fun i j=>.bool (decide (j<i))) JT fun _ _ _=>by rw[Du]
def kE:D0 X (compareOp .GtE) (Ig fun i j=>decide (j≤i)):=J8 (o:=fun i j=>.bool (decide (j≤i))) dC fun _ _ _=>by rw[Du]
def Zo:PD→PD→Option PD:=fun x y=>match x,y with|.list a,.list b=>(if a.length+b.length≤Dw then some (.list (a++b)) else none)|_,_=>none
def dr:D0 X (binaryOp .Add) Zo:=by
 refine⟨_,W7,fun x y z hz G0 H0 G H σ δ ts u v Q R0 du dv k=>?_⟩;unfold Zo at hz;split at hz
 ·rename_i a b;split at hz
  ·rename_i hl;cases hz;rw[Du]at du dv;obtain⟨p,xs,rfl,h1,h2⟩:=du;obtain⟨q,ys,rfl,h3,h4⟩:=dv;refine⟨p,q,xs,ys,rfl,rfl,R0.ins _ _ h1,R0.ins _ _ h3,Fq (by rw[h2.len,h4.len];exact hl),fun l hl'=>?_⟩;have R1:=R0.newObj (o:=.lst (xs++ys)) hl';refine k _ _ _ (R1.put ?_);rw[Du];have e:AK G (upd G l (.lst (xs++ys))):=fun a o h=>by
    have:=R0.ins _ _ h;rw[AJ (AU this hl')];exact h
   exact⟨l,xs++ys,rfl,AI,(h2.same e).app (h4.same e)⟩
  ·cases hz
 ·cases hz
def WG:PD→PD→Option PD:=fun x y=>match x,y with|.tuple a,.tuple b=>(if a.length+b.length≤Dw then some (.tuple (a++b)) else none)|_,_=>none
def eH:D0 X (binaryOp .Add) WG:=by
 refine⟨_,fE,fun x y z hz G0 H0 G H σ δ ts u v Q R0 du dv k=>?_⟩;unfold WG at hz;split at hz
 ·rename_i a b;split at hz
  ·rename_i hl;cases hz;rw[Du]at du dv;obtain⟨p,xs,rfl,h1,h2⟩:=du;obtain⟨q,ys,rfl,h3,h4⟩:=dv;refine⟨p,q,xs,ys,rfl,rfl,R0.ins _ _ h1,R0.ins _ _ h3,Fq (by rw[h2.len,h4.len];exact hl),fun l H' e hp=>?_⟩;have R1:=R0.gE e hp;refine k _ _ _ (R1.put ?_);rw[Du];have e1:AK G (upd G l (.tup (xs++ys))):=fun a o h=>by
    by_cases ha:a=l
    ·subst ha;have:=e _ _ (R0.ins _ _ h);rw[hp]at this;rw[AI];exact this
    ·rw[AJ ha];exact h
   exact⟨l,xs++ys,rfl,AI,(h2.same e1).app (h4.same e1)⟩
  ·cases hz
 ·cases hz
def ZQ:PD→PD→Option PD:=fun x y=>match x,y with|.str a,.str b=>(if a.length+b.length≤Dw then some (.str (a++b)) else none)|_,_=>none
def dg:D0 X (binaryOp .Add) ZQ:=by
 refine⟨_,Wi,fun x y z hz G0 H0 G H σ δ ts u v Q R0 du dv k=>?_⟩;unfold ZQ at hz;split at hz
 ·rename_i a b;split at hz
  ·rename_i hl;cases hz;rw[Du]at du dv;exact⟨a,b,du,dv,Fq hl,k _ _ _ (R0.put (by rw[Du]))⟩
  ·cases hz
 ·cases hz
def CT:PD→PD→Option PD:=Qy gM (Qy Zo (Qy WG ZQ))
def B3:D0 X (binaryOp .Add) CT:=dc.or (dr.or (eH.or dg))
def WQ:PD→PD→Option PD:=fun x y=>match x,y with|.list a,.int k=>(if a.length*k.toNat≤Dw∧-1000000≤k∧k≤1000000 then some (.list (List.replicate k.toNat a).flatten) else none)|_,_=>none
def An.rep{H:Hp}{ds:List PD}{xs:List V}(h:An H ds xs):∀n,An H (List.replicate n ds).flatten (List.replicate n xs).flatten
 |0=>.nil
 |n+1=>by rw[List.replicate_succ,List.replicate_succ,List.flatten_cons,List.flatten_cons];exact h.app (h.rep n)
def eQ:D0 X (binaryOp .Mult) WQ:=by
 refine⟨_,Yp,fun x y z hz G0 H0 G H σ δ ts u v Q R0 du dv k=>?_⟩;unfold WQ at hz;split at hz
 ·rename_i a n;split at hz
  ·rename_i hl;cases hz;rw[Du]at du;rw[Du]at dv;obtain⟨p,xs,rfl,h1,h2⟩:=du;subst dv;refine⟨p,n,xs,rfl,rfl,R0.ins _ _ h1,by omega,by omega,Fq (by rw[h2.len];exact hl.1),fun l hl'=>?_⟩;have R1:=R0.newObj (o:=.lst (List.replicate n.toNat xs).flatten) hl';refine k _ _ _ (R1.put ?_);rw[Du];have e:AK G (upd G l (.lst (List.replicate n.toNat xs).flatten)):=fun a o h=>by
    have:=R0.ins _ _ h;rw[AJ (AU this hl')];exact h
   exact⟨l,_,rfl,AI,(h2.same e).rep _⟩
  ·cases hz
 ·cases hz
def Jz:PD→PD→Option PD:=Qy Wa WQ
def J6:D0 X (binaryOp .Mult) Jz:=eV.or eQ
def Q6{d:PD}(h:SeqAt.shaped d=true):d.canLay0=true:=by unfold SeqAt.shaped at h;rw[Bool.and_eq_true]at h;exact h.1
def Et(neg:Bool):PD→PD→Option PD:=fun x y=>if SeqAt.shaped x=true∧SeqAt.shaped y=true then some (.bool (if neg then !PyData.eqv x y else PyData.eqv x y)) else none
def Yh{m:VL→VL→Sem VL}{neg:Bool}(ho:Ct X m (Zq X.K neg)):D0 X m (Et neg):=by
 refine⟨_,ho,fun x y z hz G0 H0 G H σ δ ts u v Q R0 du dv k=>?_⟩;unfold Et at hz;split at hz
 ·rename_i hs;cases hz;exact⟨x,y,(du.same R0.ins).br (Q6 hs.1),(dv.same R0.ins).br (Q6 hs.2),hs.1,hs.2,k _ _ _ (R0.put (by rw[Du]))⟩
 ·cases hz
def IC(hu:X.A.units+64<cLine):D0 X (compareOp .Eq) (Et false):=Yh (YA hu)
def V8(hu:X.A.units+64<cLine):D0 X (compareOp .NotEq) (Et true):=Yh (fj hu)
def PyData.bp:PD→Bool
 |.none=>true
 |_=>false
def YE{H:Hp}:∀ {x:PD} {u:V},Du H x u→decide (u=.BF)=PyData.bp x
 |.none,u,h=>by rw[Du]at h;subst h;rfl
 |.bool _,u,h=>by rw[Du]at h;subst h;rfl
 |.int _,u,h=>by rw[Du]at h;subst h;rfl
 |.str _,u,h=>by rw[Du]at h;subst h;rfl
 |.tuple _,u,h=>by rw[Du]at h;obtain⟨a,xs,rfl,_⟩:=h;rfl
 |.list _,u,h=>by rw[Du]at h;obtain⟨a,xs,rfl,_⟩:=h;rfl
 |.dict [],u,h=>by rw[Du,LK]at h;rcases h with ⟨ea,C,_,rfl,_⟩|⟨a,ns,_,rfl,_⟩|h;rfl;rfl;exact h.elim
 |.dict ((_,_)::_),u,h=>by rw[Du,LK]at h;rcases h with ⟨ea,C,_,rfl,_⟩|⟨a,ns,_,rfl,_⟩|⟨_,_,a,r,rfl,_⟩<;>rfl
def RN(neg:Bool):PD→PD→Option PD:=fun x y=>match y with
 |.none=>some (.bool (if neg then !PyData.bp x else PyData.bp x))
 |_=>none
def lL:D0 X (compareOp .Is) (RN false):=by
 refine⟨_,iX,fun x y z hz G0 H0 G H σ δ ts u v Q R0 du dv k=>?_⟩;unfold RN at hz;split at hz
 ·cases hz;rw[Du]at dv;refine⟨dv,?_⟩;rw[YE du];exact k _ _ _ (R0.put (by rw[Du];rfl))
 ·cases hz
def Y6:D0 X (compareOp .IsNot) (RN true):=by
 refine⟨_,fI,fun x y z hz G0 H0 G H σ δ ts u v Q R0 du dv k=>?_⟩;unfold RN at hz;split at hz
 ·cases hz;rw[Du]at dv;refine⟨dv,?_⟩;rw[YE du];exact k _ _ _ (R0.put (by rw[Du];rfl))
 ·cases hz
end
section
variable{X:Cx}{a b c e:Expr}{es:List Expr}{f g h:Dv→Option PD}{pos p:Pos}
def Q9:PD→Option Bool
 |.bool b=>some b
 |_=>none
def Vm:PD→Option Int
 |.int b=>some b
 |_=>none
def YX{x:PD}{b:Bool}(h:Q9 x=some b):x=.bool b:=by
 unfold Q9 at h;split at h
 ·cases h;rfl
 ·cases h
def Xq{x:PD}{b:Int}(h:Vm x=some b):x=.int b:=by
 unfold Vm at h;split at h
 ·cases h;rfl
 ·cases h
def jm(ha:DE X a f):DE X (.UnaryOp .USub a pos) (fun δ=>(f δ).bind fun x=>(Vm x).map fun i=>.int (-i)):=by
 obtain⟨ta,pa,ka⟩:=ha;refine⟨_,PN Mx pa,fun δ z hz G0 H0 G H σ ts Q R0 k=>?_⟩;obtain⟨x,h1,h2⟩:=aB.mp hz;obtain⟨i,h3,rfl⟩:=aE.mp h2;have:=Xq h3;subst this;refine ka δ _ h1 G0 H0 G H σ ts _ R0 fun u G1 H1 R1=>?_;have:=R1.CD _ (.head _);rw[Du]at this;exact⟨i,this,k _ _ _ (R1.drop.put (by rw[Du]))⟩
variable{fa fb:Dv→Option Bool}
def DW(X:Cx)(e:Expr)(f:Dv→Option Bool):Prop:=∃t,PW X e t∧∀δ b,f δ=some b→∀G0 H0 G H σ ts (Q:Bool→Hp→Prop),Rw G0 H0 G H σ δ ts→(∀G' H',Rw G0 H0 G' H' σ δ ts→Q b H')→t σ H Q
def DW.dt(h:DW X e fa):DT X e fa:=let⟨t,p,k⟩:=h;⟨t,p.pt,k⟩
def Cd{op:CmpOp}{o:PD→PD→Option PD}(ho:D0 X (compareOp op) o)(ha:DE X a f)(hb:DE X b g)(hm:behindInMarks op b=false):DT X (.Compare a [op] [b] pos) (fun δ=>(A8 o f g δ).bind Q9):=by
 obtain⟨r,hr,kr⟩:=ho;obtain⟨ta,pa,ka⟩:=ha;obtain⟨tb,pb,kb⟩:=hb;refine⟨_,BD hr pa pb hm,fun δ z hz G0 H0 G H σ ts Q R0 k=>?_⟩;obtain⟨q,h0,h4⟩:=aB.mp hz;have:=YX h4;subst this;obtain⟨x,y,h1,h2,h3⟩:=two (x:=.none) (y:=.none) h0;refine ka δ x h1 G0 H0 G H σ ts _ R0 fun u G1 H1 R1=>?_;refine kb δ y h2 G0 H0 G1 H1 σ _ _ R1 fun v G2 H2 R2=>?_;refine kr x y _ h3 G0 H0 G2 H2 σ δ ts u v _ (R2.drop.drop) (R2.CD (x,u) (.tail _ (.head _))) (R2.CD (y,v) (.head _)) fun w G3 H3 R3=>?_;have hu:=R3.CD _ (.head _);rw[Du]at hu;exact⟨z,hu,k _ _ R3.drop⟩
def Yy(ha : DE X e f)(he : ∀ whole,isTrue e X.env whole = (do let v ← whole; standAt e.pos; holding [v] (truthy v)) := by intro _; rfl) : DT X e (fun δ => (f δ).bind Q9) := by
  obtain ⟨ta,pa,ka⟩:=ha
  refine ⟨_,FU pa he,fun δ z hz G0 H0 G H σ ts Q R0 k => ?_⟩
  obtain ⟨q,h0,h4⟩:=aB.mp hz
  have:=YX h4; subst this
  refine ka δ _ h0 G0 H0 G H σ ts _ R0 fun u G1 H1 R1 => ?_
  have hu:=R1.CD _ (.head _)
  rw [Du] at hu
  exact ⟨z,hu,k _ _ R1.drop⟩
def XH(ha:DT X a fa):DT X (.UnaryOp .Not a pos) (fun δ=>(fa δ).map fun c=>!c):=by
 obtain⟨ta,pa,ka⟩:=ha;refine⟨_,FX pa,fun δ z hz G0 H0 G H σ ts Q R0 k=>?_⟩;obtain⟨i,h3,rfl⟩:=aE.mp hz;exact ka δ _ h3 G0 H0 G H σ ts _ R0 fun G1 H1 R1=>k _ _ R1
def XE{op:BoolOp}(ha:DT X a fa):DW X (.BoolOp op [a] pos) fa:=by
 obtain⟨ta,pa,ka⟩:=ha;cases op
 ·exact⟨_,Na pa,ka⟩
 ·exact⟨_,KL pa,ka⟩
def cX{rest:List Expr}(ha:DT X a fa)(hb:DW X (.BoolOp .Or (b::rest) pos) fb):DW X (.BoolOp .Or (a::b::rest) pos) (fun δ=>(fa δ).bind fun c=>if c=true then some true else fb δ):=by
 obtain⟨ta,pa,ka⟩:=ha;obtain⟨tb,pb,kb⟩:=hb;refine⟨_,Kx pa pb,fun δ z hz G0 H0 G H σ ts Q R0 k=>?_⟩;obtain⟨i,h3,h4⟩:=aB.mp hz;refine ka δ _ h3 G0 H0 G H σ ts _ R0 fun G1 H1 R1=>?_;split
 ·rename_i hc;rw[if_pos hc]at h4;cases h4;exact k _ _ R1
 ·rename_i hc;rw[if_neg hc]at h4;exact kb δ z h4 G0 H0 G1 H1 σ ts Q R1 k
def ky(hc:DT X c fa)(ha:DE X a f)(hb:DE X b g):DE X (.IfExp c a b pos) (fun δ=>(fa δ).bind fun c=>if c=true then f δ else g δ):=by
 obtain⟨tc,pc,kc⟩:=hc;obtain⟨ta,pa,ka⟩:=ha;obtain⟨tb,pb,kb⟩:=hb;refine⟨_,ZE pc pa pb,fun δ z hz G0 H0 G H σ ts Q R0 k=>?_⟩;obtain⟨i,h3,h4⟩:=aB.mp hz;refine kc δ _ h3 G0 H0 G H σ ts _ R0 fun G1 H1 R1=>?_;split
 ·rename_i hc;rw[if_pos hc]at h4;exact ka δ z h4 G0 H0 G1 H1 σ ts Q R1 k
 ·rename_i hc;rw[if_neg hc]at h4;exact kb δ z h4 G0 H0 G1 H1 σ ts Q R1 k
variable{fs:Dv→Option (List PD)}
def AF:DA X [] (fun _=>some []):=⟨_,AL,fun δ xs h G0 H0 G H σ ts Q R0 k=>by cases h;exact k [] G H (by simpa using R0) rfl⟩
def AA(ha:DE X e f)(hr:DA X es fs)(hs:starEach (e::es) X.env=(false,eval e X.env)::starEach es X.env:=by rfl):DA X (e::es) (fun δ=>(f δ).bind fun x=>(fs δ).map fun xs=>x::xs):=by
 obtain⟨ta,pa,ka⟩:=ha;obtain⟨tr,pr,kr⟩:=hr;refine⟨_,AE pa pr hs,fun δ z hz G0 H0 G H σ ts Q R0 k=>?_⟩;obtain⟨x,h1,h2⟩:=aB.mp hz;obtain⟨xs,h3,rfl⟩:=aE.mp h2;refine ka δ x h1 G0 H0 G H σ ts _ R0 fun u G1 H1 R1=>?_;refine kr δ xs h3 G0 H0 G1 H1 σ _ _ R1 fun vs G2 H2 R2 hl=>?_;refine k (u::vs) G2 H2 (R2.less fun q hq=>?_) (by simp[hl]);simp only[List.zip_cons_cons,List.cons_append,List.mem_cons,List.mem_append]at hq ⊢;rcases hq with h|h|h
 ·exact .inr (.inl h)
 ·exact .inl h
 ·exact .inr (.inr h)
def Yi{G:Hp}:∀ {xs:List PD} {vs:List V},vs.length=xs.length→(∀q∈xs.zip vs,Du G q.1 q.2)→An G xs vs
 |[],vs,hl,_=>by rw[List.eq_nil_of_length_eq_zero hl];exact .nil
 |x::xs,[],hl,_=>by simp at hl
 |x::xs,v::vs,hl,h=>.cons (h (x,v) (by simp)) (Yi (by simpa using hl) fun q hq=>h q (by simp[hq]))
def Rw.args{G0 H0 G H:Hp}{σ:St}{δ:Dv}{ts:List (PD×V)}{xs:List PD}{vs:List V}(r:Rw G0 H0 G H σ δ (xs.zip vs++ts))(hl:vs.length=xs.length):An G xs vs∧Rw G0 H0 G H σ δ ts :=
 ⟨Yi hl fun q hq=>r.CD q (List.mem_append_left _ hq),r.less fun q hq=>ah _ hq⟩
def Rw.SY{G0 H0 G H:Hp}{σ:St}{δ:Dv}{ts:List (PD×V)}{xs:List PD}{vs:List V}{p:AD}(r:Rw G0 H0 G H σ δ ts)(d:An G xs vs)(hp:H p=none):Rw G0 H0 (upd G p (.lst vs)) (upd H p (.lst vs)) σ δ ((.list xs,.ref p)::ts):=by
 refine(r.newObj hp).put ?_;have e:AK G (upd G p (.lst vs)):=fun a o h=>by rw[AJ (AU (r.ins _ _ h) hp)];exact h
 rw[Du];exact⟨p,vs,rfl,AI,d.same e⟩
def Rw.ba{G0 H0 G H:Hp}{σ:St}{δ:Dv}{ts:List (PD×V)}{xs:List PD}{vs:List V}{p:AD}(r:Rw G0 H0 G H σ δ ts)(d:An G xs vs)(hp:H p=none):Rw G0 H0 (upd G p (.tup vs)) (upd H p (.tup vs)) σ δ ((.tuple xs,.ref p)::ts):=by
 refine(r.newObj hp).put ?_;have e:AK G (upd G p (.tup vs)):=fun a o h=>by rw[AJ (AU (r.ins _ _ h) hp)];exact h
 rw[Du];exact⟨p,vs,rfl,AI,d.same e⟩
def IQ(xs:List PD):Option (List PD):=if xs.length≤Dw then some xs else none
def Pz{xs ys:List PD}(h:IQ xs=some ys):xs=ys∧xs.length≤Dw:=by
 unfold IQ at h;split at h
 ·rename_i q;cases h;exact⟨rfl,q⟩
 ·cases h
def Af{x1}(ha:DA X es fs):DE X (.Tuple es x1 pos) (fun δ=>((fs δ).bind IQ).map .tuple):=by
 obtain⟨ta,pa,ka⟩:=ha;refine⟨_,CS pa,fun δ z hz G0 H0 G H σ ts Q R0 k=>?_⟩;obtain⟨ys,h1,rfl⟩:=aE.mp hz;obtain⟨xs,h2,h3⟩:=aB.mp h1;obtain⟨rfl,hl⟩:=Pz h3;refine ka δ _ h2 G0 H0 G H σ ts _ R0 fun vs G1 H1 R1 hv=>?_;obtain⟨d,R2⟩:=R1.args hv;exact⟨Fq (by rw[hv];exact hl),fun q hq=>k _ _ _ (R2.ba d hq)⟩
def Aq(ha:DA X es fs):DE X (.List es pos) (fun δ=>((fs δ).bind IQ).map .list):=by
 obtain⟨ta,pa,ka⟩:=ha;refine⟨_,Cv pa,fun δ z hz G0 H0 G H σ ts Q R0 k=>?_⟩;obtain⟨ys,h1,rfl⟩:=aE.mp hz;obtain⟨xs,h2,h3⟩:=aB.mp h1;obtain⟨rfl,hl⟩:=Pz h3;refine ka δ _ h2 G0 H0 G H σ ts _ R0 fun vs G1 H1 R1 hv=>?_;obtain⟨d,R2⟩:=R1.args hv;exact⟨Fq (by rw[hv];exact hl),fun q hq=>k _ _ _ (R2.SY d hq)⟩
def An.FG{H:Hp}{ds:List PD}{xs:List V}{i:Int}{d:PD}(h:An H ds xs)(e:FG ds i=some d):∃v,FG xs i=some v∧Du H d v:=by
 unfold L2.FG at e ⊢;rw[h.len];obtain⟨j,h1,h2⟩:=aB.mp e;obtain⟨v,h3,h4⟩:=h.get h2;exact⟨v,by rw[h1];exact h3,h4⟩
def RE{G:Hp}:∀ns:List Int,An G (ns.map .int) (ns.map V.int)
 |[]=>.nil
 |n::ns=>.cons (by rw[Du]) (RE ns)
def O2:PD→PD→Option PD:=fun x y=>match x,y with
 |.list xs,.int i=>FG xs i
 |.tuple xs,.int i=>FG xs i
 |.dict [(.none,.list xs)],.int i=>FG xs i
 |.str z,.int i=>if z.length≤Dw then(FG z.cps.toList i).map fun c=>.str ⟨#[c]⟩ else none
 |_,_=>none
def NL(ha:DE X a f)(hb:DE X b g)(hs:Vu b):DE X (.Subscript a b pos) (A8 O2 f g):=by
 obtain⟨ta,pa,ka⟩:=ha;obtain⟨tb,pb,kb⟩:=hb;refine⟨_,B4 gn pa pb hs,fun δ z hz G0 H0 G H σ ts Q R0 k=>?_⟩;obtain⟨x,y,h1,h2,h3⟩:=two (x:=.none) (y:=.none) hz;refine ka δ x h1 G0 H0 G H σ ts _ R0 fun u G1 H1 R1=>?_;refine kb δ y h2 G0 H0 G1 H1 σ _ _ R1 fun v G2 H2 R2=>?_;have du:=R2.CD (x,u) (.tail _ (.head _));have dv:=R2.CD (y,v) (.head _);unfold O2 at h3;split at h3
 ·rw[Du]at du;rw[Du]at dv;obtain⟨p,xs,rfl,h4,h5⟩:=du;obtain⟨w,h6,h7⟩:=h5.FG h3;exact .inl ⟨p,xs,_,w,rfl,dv,Ab.of (R2.ins _ _ h4),h6,k _ _ _ (R2.drop.drop.put h7)⟩
 ·rw[Du]at du;rw[Du]at dv;obtain⟨p,xs,rfl,h4,h5⟩:=du;obtain⟨w,h6,h7⟩:=h5.FG h3;exact .inr (.inl ⟨p,xs,_,w,rfl,dv,Ay.of (R2.ins _ _ h4),h6,k _ _ _ (R2.drop.drop.put h7)⟩)
 ·rw[Du]at du;rw[Du]at dv;rcases du with ⟨ea,C,e1,_⟩|⟨p,ns,e1,rfl,h4⟩|z
  rotate_left 2
  ·rw[LK]at z;cases z.1
  ·simp at e1
  ·obtain rfl:_=ns.map PyData.int:=by simpa using e1
   obtain⟨w,h6,h7⟩:=(RE (G:=_) ns).FG h3;exact .inl ⟨p,_,_,w,rfl,dv,.inl (h4.same R2.ins),h6,k _ _ _ (R2.drop.drop.put h7)⟩
 ·rw[Du]at du;rw[Du]at dv;split at h3
  ·rename_i hl;obtain⟨ch,h6,rfl⟩:=aE.mp h3;exact .inr (.inr ⟨_,_,ch,du,dv,Fq hl,h6,k _ _ _ (R2.drop.drop.put (by rw[Du]))⟩)
  ·cases h3
 ·cases h3
end
def Bz(g:MD):Sp:=fun vs H Q _=>∃ds x G,g ds=some x∧An G ds vs∧AK G H∧∀v G' H',AK G G'→Nw G H G'→AK G' H'→AK H H'→Du G' x v→Q v H'
section
variable{X:Cx}{a b c e:Expr}{es:List Expr}{f g h:Dv→Option PD}{fs:Dv→Option (List PD)}{pos p:Pos}
def BM{k:Nat}{fA:AD}{fd:FuncData}{ps:List Str}{m:MD}{x:Str}{st:Stmt}(T:Fn X.K X.mg x st ps fA fd)(F:AQ X.prog X.w X.K X.mg X.base Ah k fA fd ps (Bz m))(hr:Cs k X.A)(hg:Gl X x)(ha:DA X (e::es) fs)
 (hdb:(x==("__debug__" : Str))=false:=by decide)(he:starEach (e::es) X.env=(false,eval e X.env)::starEach es X.env:=by rfl)(hpl:(backTo pos (starEach es X.env)).any (·.1)=false:=by rfl) :
  DE X (.Call (.Name x p) (e::es) [] pos) (fun δ=>(fs δ).bind m):=by
 obtain⟨ta,pa,ka⟩:=ha;refine⟨_,Bp T F hr hg pa hdb he hpl,fun δ z hz G0 H0 G H σ ts Q R0 k=>?_⟩;obtain⟨xs,h1,h2⟩:=aB.mp hz;refine ka δ _ h1 G0 H0 G H σ ts _ R0 fun vs G1 H1 R1 hv=>?_;obtain⟨d,R2⟩:=R1.args hv;refine⟨xs,z,G1,h2,by rw[List.append_nil];exact d,R2.ins,fun v G' H' h3 h4 h5 h6 h7=>?_⟩;exact k _ _ _ ((R2.lift h3 h4 h5 h6).put h7)
def NT(X:Cx)(v:VL)(o:MD):Prop:=∃r,DV X v r∧∀xs z,o xs=some z→∀G0 H0 G H σ δ ts us (Q:VK),Rw G0 H0 G H σ δ ts→An G xs us→(∀w G' H',Rw G0 H0 G' H' σ δ ((z,w)::ts)→Q w H')→r us H Q
def Gd{x:Str}{id:String}{o:MD}(hc:NT X (.builtin id) o)(hg:Gl X x)(hm:X.mg x=none)(hv:bootBuiltins x=some (.builtin id))(ha:DA X (e::es) fs)(hn:x ≠ "__name__" := by decide)(hdb:(x==("__debug__" : Str))=false:=by decide)
 (he:starEach (e::es) X.env=(false,eval e X.env)::starEach es X.env:=by rfl)(hpl:(backTo pos (starEach es X.env)).any (·.1)=false:=by rfl):DE X (.Call (.Name x p) (e::es) [] pos) (fun δ=>(fs δ).bind o):=by
 obtain⟨r,hr,kr⟩:=hc;obtain⟨ta,pa,ka⟩:=ha;refine⟨_,BC hr hg hm hv pa hn hdb he hpl,fun δ z hz G0 H0 G H σ ts Q R0 k=>?_⟩;obtain⟨xs,h1,h2⟩:=aB.mp hz;refine ka δ _ h1 G0 H0 G H σ ts _ R0 fun vs G1 H1 R1 hv=>?_;obtain⟨d,R2⟩:=R1.args hv;exact kr xs z h2 G0 H0 G1 H1 σ δ ts vs Q R2 d k
def MZ{x:Str}{T:String}{o:MD}(hc:NT X (.type T) o)(hg:Gl X x)(hm:X.mg x=none)(hv:bootBuiltins x=some (.type T))(ha:DA X (e::es) fs)(hn:x ≠ "__name__" := by decide)(hdb:(x==("__debug__" : Str))=false:=by decide)
 (he:starEach (e::es) X.env=(false,eval e X.env)::starEach es X.env:=by rfl)(hpl:(backTo pos (starEach es X.env)).any (·.1)=false:=by rfl):DE X (.Call (.Name x p) (e::es) [] pos) (fun δ=>(fs δ).bind o):=by
 obtain⟨r,hr,kr⟩:=hc;obtain⟨ta,pa,ka⟩:=ha;refine⟨_,Gr hr hg hm hv pa hn hdb he hpl,fun δ z hz G0 H0 G H σ ts Q R0 k=>?_⟩;obtain⟨xs,h1,h2⟩:=aB.mp hz;refine ka δ _ h1 G0 H0 G H σ ts _ R0 fun vs G1 H1 R1 hv=>?_;obtain⟨d,R2⟩:=R1.args hv;exact kr xs z h2 G0 H0 G1 H1 σ δ ts vs Q R2 d k
def An.IP{H:Hp}{d:PD}{xs:List V}(h:An H [d] xs):∃x,xs=[x]∧Du H d x:=by
 obtain⟨x,r,rfl,h1,h2⟩:=h.un;rw[h2.nil_eq];exact⟨x,rfl,h1⟩
def An.YL{H:Hp}{d e:PD}{xs:List V}(h:An H [d,e] xs):∃x y,xs=[x,y]∧Du H d x∧Du H e y:=by
 obtain⟨x,r,rfl,h1,h2⟩:=h.un;obtain⟨y,rfl,h3⟩:=h2.IP;exact⟨x,y,rfl,h1,h3⟩
def KW:MD
 |[.list xs]=>some (.int xs.length)
 |[.tuple xs]=>some (.int xs.length)
 |[.dict [(.none,.list xs)]]=>some (.int xs.length)
 |_=>none
def NC:NT X (.builtin "len") KW:=by
 refine⟨_,Bo,fun xs z hz G0 H0 G H σ δ ts us Q R0 d k=>?_⟩;unfold KW at hz;split at hz
 ·cases hz;obtain⟨u,rfl,du⟩:=d.IP;rw[Du]at du;obtain⟨p,ys,rfl,h4,h5⟩:=du;refine⟨p,ys,rfl,.inl (Ab.of (R0.ins _ _ h4)),?_⟩;rw[h5.len];exact k _ _ _ (R0.put (by rw[Du]))
 ·cases hz;obtain⟨u,rfl,du⟩:=d.IP;rw[Du]at du;obtain⟨p,ys,rfl,h4,h5⟩:=du;refine⟨p,ys,rfl,.inr (Ay.of (R0.ins _ _ h4)),?_⟩;rw[h5.len];exact k _ _ _ (R0.put (by rw[Du]))
 ·cases hz;obtain⟨u,rfl,du⟩:=d.IP;rw[Du]at du;rcases du with ⟨ea,C,e1,_⟩|⟨p,ns,e1,rfl,h4⟩|z
  rotate_left 2
  ·rw[LK]at z;cases z.1
  ·simp at e1
  ·obtain rfl:_=ns.map PyData.int:=by simpa using e1
   refine⟨p,_,rfl,.inl (.inl (h4.same R0.ins)),?_⟩;rw[List.length_map]at k ⊢;exact k _ _ _ (R0.put (by rw[Du]))
 ·cases hz
def Hn:MD
 |[.list xs]=>some (.tuple xs)
 |[.tuple xs]=>some (.tuple xs)
 |_=>none
def O0:NT X (.type "tuple") Hn:=by
 refine⟨_,Ii,fun xs z hz G0 H0 G H σ δ ts us Q R0 d k=>?_⟩;unfold Hn at hz;split at hz
 ·cases hz;obtain⟨u,rfl,du⟩:=d.IP;rw[Du]at du;obtain⟨p,ys,rfl,h4,h5⟩:=du;exact⟨p,ys,rfl,.inl ⟨Ab.of (R0.ins _ _ h4),fun l hl=>k _ _ _ (R0.ba h5 hl)⟩⟩
 ·cases hz;obtain⟨u,rfl,du⟩:=d.IP;have du':=du;rw[Du]at du;obtain⟨p,ys,rfl,h4,h5⟩:=du;exact⟨p,ys,rfl,.inr ⟨Ay.of (R0.ins _ _ h4),k _ _ _ (R0.put du')⟩⟩
 ·cases hz
end
inductive Ou where
 |nx (δ:Dv)|rt (x:PyData)|bk (δ:Dv)|ct (δ:Dv)|rn (xs:List PyData)
def Fin(G0 H0:Hp)(D:Ends):Ou→Prop
 |.nx δ=>∀σ G H,Rw G0 H0 G H σ δ []→D.nx σ H
 |.rt x=>∀v G H,AK G0 G→Nw G0 H0 G→AK G H→AK H0 H→Du G x v→D.rt v H
 |.bk δ=>∀σ G H,Rw G0 H0 G H σ δ []→D.bk σ H
 |.ct δ=>∀σ G H,Rw G0 H0 G H σ δ []→D.ct σ H
 |.rn xs=>∀a ys G H,AK G0 G→Nw G0 H0 G→AK G H→AK H0 H→H0 a=none→G a=none→H a=some (.lst ys)→An G xs ys→D.rt (.ref a) H
abbrev DF:=Dv→Option Ou
def DS(X:Cx)(st:Stmt)(F:DF):Prop:=∃t,PS X st t∧∀δ r,F δ=some r→∀G0 H0 G H σ D,Rw G0 H0 G H σ δ []→Fin G0 H0 D r→t D σ H
def Mc(X:Cx)(st:List Stmt)(F:DF):Prop:=∃t,HI X st t∧∀δ r,F δ=some r→∀G0 H0 G H σ D,Rw G0 H0 G H σ δ []→Fin G0 H0 D r→t D σ H
def Ar(F1 F2:DF)(δ:Dv):Option Ou:=match F1 δ with
 |some (.nx δ')=>F2 δ'
 |o=>o
section
variable{X:Cx}{a b c e:Expr}{es:List Expr}{f g h:Dv→Option PD}{fs:Dv→Option (List PD)}{fa:Dv→Option Bool}{pos p:Pos}{st:Stmt}{sts sts':List Stmt}{F F1 F2:DF}
def De:Mc X [] (fun δ=>some (.nx δ)):=⟨_,BL,fun δ r h G0 H0 G H σ D R k=>by cases h;exact k _ _ _ R⟩
def AY(h1:DS X st F1)(h2:Mc X sts F2):Mc X (st::sts) (Ar F1 F2):=by
 obtain⟨t1,p1,k1⟩:=h1;obtain⟨t2,p2,k2⟩:=h2;refine⟨_,AN p1 p2,fun δ r h G0 H0 G H σ D R k=>?_⟩;unfold Ar at h;split at h
 ·rename_i δ' e1;exact k1 δ _ e1 G0 H0 G H σ _ R fun σ' G' H' R'=>k2 δ' r h G0 H0 G' H' σ' D R' k
 ·rename_i hne;refine k1 δ r h G0 H0 G H σ _ R ?_;cases r with
  |nx δ'=>exact absurd h (hne δ')
  |rt x=>exact k
  |bk δ'=>exact k
  |ct δ'=>exact k
  |rn xs=>exact k
def Ad(h1:DS X st F1):Mc X [st] F1:=by
 obtain⟨t1,p1,k1⟩:=h1;exact⟨_,AX p1,k1⟩
def T8:DS X st (fun _=>none):=⟨_,Se,fun _ _ h=>by cases h⟩
def Bt(he:DE X e f):DS X (.Return (some e) pos) (fun δ=>(f δ).map .rt):=by
 obtain⟨t,p,k⟩:=he;refine⟨_,A3 p,fun δ r h G0 H0 G H σ D R q=>?_⟩;obtain⟨x,h1,rfl⟩:=aE.mp h;exact k δ x h1 G0 H0 G H σ [] _ R fun v G' H' R'=>q v G' H' R'.ext R'.new R'.ins R'.keep (R'.CD _ (.head _))
def Fm(hc:DT X c fa)(h1:Mc X sts F1)(h2:Mc X sts' F2):DS X (.If c sts sts' pos) (fun δ=>(fa δ).bind fun c=>if c=true then F1 δ else F2 δ):=by
 obtain⟨tc,pc,kc⟩:=hc;obtain⟨t1,p1,k1⟩:=h1;obtain⟨t2,p2,k2⟩:=h2;refine⟨_,Bw pc p1 p2,fun δ r h G0 H0 G H σ D R q=>?_⟩;obtain⟨i,h3,h4⟩:=aB.mp h;refine kc δ i h3 G0 H0 G H σ [] _ R fun G' H' R'=>?_;split
 ·rename_i hc;rw[if_pos hc]at h4;exact k1 δ r h4 G0 H0 G' H' σ D R' q
 ·rename_i hc;rw[if_neg hc]at h4;exact k2 δ r h4 G0 H0 G' H' σ D R' q
end
section
variable{G0 H0 G H:Hp}{σ:St}{δ:Dv}{ts:List (PD×V)}
def Rw.Ia{i:Nat}{x:PD}{v:V}(r:Rw G0 H0 G H σ δ ((x,v)::ts)):Rw G0 H0 G H (σ.set i (some v)) (δ.set i (.d x)) ts:=by
 have hl:=r.len;refine⟨r.ext,r.new,r.ins,r.keep,by simp[hl],fun j y h=>?_,fun j ys h=>?_,fun j l ys zs hjl h1 h2=>?_,fun q hq=>r.CD q (.tail _ hq)⟩
 ·by_cases hj:i=j
  ·subst hj;by_cases hi:i<δ.length
   ·rw[List.getElem?_set_self hi]at h;cases h;exact⟨v,by rw[List.getElem?_set_self (by omega)],r.CD _ (.head _)⟩
   ·rw[List.getElem?_eq_none (by simp;omega)]at h;cases h
  ·rw[List.getElem?_set_ne hj]at h;obtain⟨w,k1,k2⟩:=r.dat j y h;exact⟨w,by rw[List.getElem?_set_ne hj];exact k1,k2⟩
 ·by_cases hj:i=j
  ·subst hj;by_cases hi:i<δ.length
   ·rw[List.getElem?_set_self hi]at h;cases h
   ·rw[List.getElem?_eq_none (by simp;omega)]at h;cases h
  ·rw[List.getElem?_set_ne hj]at h;obtain⟨w,k1,k2,k3⟩:=r.own j ys h;exact⟨w,k1,by rw[List.getElem?_set_ne hj];exact k2,k3⟩
 ·have nj:i≠j:=fun z=>by
   subst z;by_cases hi:i<δ.length
   ·rw[List.getElem?_set_self hi]at h1;cases h1
   ·rw[List.getElem?_eq_none (by simp;omega)]at h1;cases h1
  have nl:i≠l:=fun z=>by
   subst z;by_cases hi:i<δ.length
   ·rw[List.getElem?_set_self hi]at h2;cases h2
   ·rw[List.getElem?_eq_none (by simp;omega)]at h2;cases h2
  rw[List.getElem?_set_ne nj]at h1 ⊢;rw[List.getElem?_set_ne nl]at h2 ⊢;exact r.apart j l ys zs hjl h1 h2
end
section
variable{X:Cx}{e:Expr}{f:Dv→Option PD}{pos p:Pos}
def Bd{i:Nat}{x:Str}{pos':Pos}(hN:X.N.Nodup)(hi:X.N[i]? = some x)(hx:Loc X.env.scope x)(he:DE X e f)(hs:swapsWith e (some (.Name x pos')) pos.line X.env=pure false:=by rfl)(hf:X.fn x=true∨X.env.scope.names.lookup x=some .local:=by first|exact .inl rfl|exact .inr rfl|assumption) :
  DS X (.Assign [.Name x pos'] e pos) (fun δ=>(f δ).map fun y=>.nx (δ.set i (.d y))):=by
 obtain⟨t,p,k⟩:=he;refine⟨_,A5 hN hi hx p hs hf,fun δ r h G0 H0 G H σ D R q=>?_⟩;obtain⟨y,h1,rfl⟩:=aE.mp h;exact k δ y h1 G0 H0 G H σ [] _ R fun v G' H' R'=>q _ _ _ R'.Ia
end
section
variable{G0 H0 G H:Hp}{σ:St}{δ:Dv}{ts:List (PD×V)}
def Rw.base(r:Rw G0 H0 G H σ δ ts):Rw G H0 G H σ δ ts:={r with ext:=AK.refl G,new:=fun _ _ h=>.inl h}
def Nw.trans{G1 G2:Hp}(a:Nw G0 H0 G1)(b:Nw G1 H0 G2):Nw G0 H0 G2:=fun c o h=>by
 rcases b c o h with z|z|z
 ·exact a c o z
 ·exact .inr (.inl z)
 ·exact .inr (.inr z)
def Rw.S5{G' H':Hp}{σ':St}{δ':Dv}{ts':List (PD×V)}(r:Rw G0 H0 G H σ δ ts)(q:Rw G H0 G' H' σ' δ' ts'):Rw G0 H0 G' H' σ' δ' ts':={q with ext:=r.ext.trans q.ext,new:=r.new.trans q.new}
def FN(i:Nat)(δ:Dv):Dv:=match δ[i]? with
 |some (.own (.lst xs))=>δ.set i (.d (.list xs))
 |some (.own (.Yc kvs))=>δ.set i (.d (WV kvs))
 |_=>δ
def Rw.letGo{i:Nat}{c:Oc}{x:PD}(r:Rw G0 H0 G H σ δ ts)(hi:δ[i]? = some (.own c))(hx:∀a o,G a=none→Iz G a c o→Du (upd G a o) x (.ref a)):∃a o,σ[i]? = some (some (.ref a))∧G a=none∧H0 a=none∧H a=some o∧Iz G a c o∧Rw G0 H0 (upd G a o) H σ (δ.set i (.d x)) ts:=by
 obtain⟨a,o,k1,k2,k3,k4,k5⟩:=r.own i _ hi;have e:AK G (upd G a o):=AO k2 _;have hlt:i<δ.length:=(aC.mp hi).1;refine⟨a,o,k1,k2,k3,k4,k5,r.ext.trans e,fun b o' h=>?_,fun b o' h=>?_,r.keep,by simp[r.len],fun j y h=>?_,fun j zs h=>?_,fun j l us ws hjl h1 h2=>?_,fun q hq=>(r.CD q hq).same e⟩
 ·by_cases hb:b=a
  ·subst hb;exact .inr (.inl k3)
  ·rw[AJ hb]at h;exact r.new _ _ h
 ·by_cases hb:b=a
  ·subst hb;rw[AI]at h;rw[k4];exact h
  ·rw[AJ hb]at h;exact r.ins _ _ h
 ·by_cases hj:i=j
  ·subst hj;rw[List.getElem?_set_self hlt]at h;cases h;exact⟨.ref a,k1,hx a o k2 k5⟩
  ·rw[List.getElem?_set_ne hj]at h;obtain⟨w,m1,m2⟩:=r.dat j y h;exact⟨w,m1,m2.same e⟩
 ·by_cases hj:i=j
  ·subst hj;rw[List.getElem?_set_self hlt]at h;cases h
  ·rw[List.getElem?_set_ne hj]at h;obtain⟨b,us,m1,m2,m3,m4,m5⟩:=r.own j zs h;have nb:b≠a:=fun z=>by subst z;exact r.apart i j _ zs hj hi h (by rw[k1,m1])
   exact⟨b,us,m1,by rw[AJ nb];exact m2,m3,m4,m5.same e⟩
 ·have nj:i≠j:=fun z=>by subst z;rw[List.getElem?_set_self hlt]at h1;cases h1
  have nl:i≠l:=fun z=>by subst z;rw[List.getElem?_set_self hlt]at h2;cases h2
  rw[List.getElem?_set_ne nj]at h1;rw[List.getElem?_set_ne nl]at h2;exact r.apart j l us ws hjl h1 h2
def fh{a:AD}{o:HO}{xs:List PD}(hG:G a=none)(h:Iz G a (.lst xs) o):Du (upd G a o) (.list xs) (.ref a):=by
 obtain⟨ys,rfl,k5⟩:=h;rw[Du];exact⟨a,ys,rfl,AI,k5.same (AO hG _)⟩
def gR{a:AD}{o:HO}{kvs:List (Option Tr×PD)}(hG:G a=none)(h:Iz G a (.Yc kvs) o):Du (upd G a o) (WV kvs) (.ref a):=by
 obtain⟨r,rfl,n,k5⟩:=h;rw[Du,LK];exact .inr (.inr ⟨rfl,rfl,a,r,rfl,AI,n,MN.same (AO hG _) k5⟩)
def Rw.FN(i:Nat)(r:Rw G0 H0 G H σ δ ts):∃G',Rw G0 H0 G' H σ (L2.FN i δ) ts:=by
 unfold L2.FN;split
 ·rename_i xs hi;obtain⟨a,o,_,_,_,_,_,R⟩:=r.letGo (x:=.list xs) hi fun a o h=>fh h;exact⟨_,R⟩
 ·rename_i kvs hi;obtain⟨a,o,_,_,_,_,_,R⟩:=r.letGo (x:=WV kvs) hi fun a o h=>gR h;exact⟨_,R⟩
 ·exact⟨G,r⟩
def Rw.iI{i:Nat}{xs:Oc}{ys:HO}{a:AD}(r:Rw G0 H0 G H σ δ ts)(d:Iz G a xs ys)(ha:H a=none):Rw G0 H0 G (upd H a ys) (σ.set i (some (.ref a))) (δ.set i (.own xs)) ts:=by
 have hG:G a=none:=by
  cases q:G a with
  |none=>rfl
  |some u=>rw[r.ins _ _ q]at ha;cases ha
 have h0:H0 a=none:=by
  cases q:H0 a with
  |none=>rfl
  |some u=>rw[r.keep _ _ q]at ha;cases ha
 have e:AK H (upd H a ys):=AO ha _;have hl:=r.len;have other:∀(j:Nat) (zs:Oc),i≠j→(δ.set i (.own xs))[j]? = some (L.own zs)→δ[j]? = some (L.own zs):=fun j zs hj h=>by rw[List.getElem?_set_ne hj]at h;exact h
 have nota:∀(j:Nat) (zs:Oc),δ[j]? = some (L.own zs)→σ[j]?≠some (some (V.ref a)):=fun j zs h z=>by
  obtain⟨b,us,m1,m2,m3,m4,m5⟩:=r.own j zs h;rw[z]at m1;cases m1;rw[m4]at ha;cases ha
 refine⟨r.ext,r.new,r.ins.trans e,r.keep.trans e,by simp[hl],fun j y h=>?_,fun j zs h=>?_,fun j l us ws hjl h1 h2=>?_,r.CD⟩
 ·by_cases hj:i=j
  ·subst hj;by_cases hi:i<δ.length
   ·rw[List.getElem?_set_self hi]at h;cases h
   ·rw[List.getElem?_eq_none (by simp;omega)]at h;cases h
  ·rw[List.getElem?_set_ne hj]at h;obtain⟨w,m1,m2⟩:=r.dat j y h;exact⟨w,by rw[List.getElem?_set_ne hj];exact m1,m2⟩
 ·by_cases hj:i=j
  ·subst hj;by_cases hi:i<δ.length
   ·rw[List.getElem?_set_self hi]at h;cases h;exact⟨a,ys,by rw[List.getElem?_set_self (by omega)],hG,h0,AI,d⟩
   ·rw[List.getElem?_eq_none (by simp;omega)]at h;cases h
  ·have h:=other j zs hj h;obtain⟨b,us,m1,m2,m3,m4,m5⟩:=r.own j zs h;exact⟨b,us,by rw[List.getElem?_set_ne hj];exact m1,m2,m3,e _ _ m4,m5⟩
 ·by_cases hj:i=j
  ·subst hj;have hl2:i≠l:=hjl;have h2:=other l ws hl2 h2;by_cases hi:i<δ.length
   ·rw[List.getElem?_set_self (by omega),List.getElem?_set_ne hl2];exact fun z=>nota l ws h2 z.symm
   ·rw[List.getElem?_eq_none (by simp;omega)]at h1;cases h1
  ·have h1:=other j us hj h1;by_cases hk:i=l
   ·subst hk;by_cases hi:i<δ.length
    ·rw[List.getElem?_set_self (by omega),List.getElem?_set_ne hj];exact fun z=>nota j us h1 z
    ·rw[List.getElem?_eq_none (by simp;omega)]at h2;cases h2
   ·have h2:=other l ws hk h2;rw[List.getElem?_set_ne hj,List.getElem?_set_ne hk];exact r.apart j l us ws hjl h1 h2
def Rw.dF{i:Nat}{xs xs':Oc}{ys:HO}{a:AD}(r:Rw G0 H0 G H σ δ ts)(hi:δ[i]? = some (.own xs))(ha:σ[i]? = some (some (.ref a)))(d:Iz G a xs' ys):Rw G0 H0 G (upd H a ys) σ (δ.set i (.own xs')) ts:=by
 obtain⟨a',ys0,k1,k2,k3,k4,k5⟩:=r.own i xs hi;rw[ha]at k1;cases k1;have hlt:i<δ.length:=(aC.mp hi).1;have hl:=r.len;refine⟨r.ext,r.new,fun b o h=>?_,fun b o h=>?_,by simp[hl],fun j y h=>?_,fun j zs h=>?_,fun j l us ws hjl h1 h2=>?_,r.CD⟩
 ·rw[AJ (fun z=>by subst z;rw[k2]at h;cases h)];exact r.ins _ _ h
 ·rw[AJ (fun z=>by subst z;rw[k3]at h;cases h)];exact r.keep _ _ h
 ·by_cases hj:i=j
  ·subst hj;rw[List.getElem?_set_self hlt]at h;cases h
  ·rw[List.getElem?_set_ne hj]at h;exact r.dat j y h
 ·by_cases hj:i=j
  ·subst hj;rw[List.getElem?_set_self hlt]at h;cases h;exact⟨a,ys,ha,k2,k3,AI,d⟩
  ·rw[List.getElem?_set_ne hj]at h;obtain⟨b,us,m1,m2,m3,m4,m5⟩:=r.own j zs h;have nb:b≠a:=fun z=>by subst z;exact r.apart i j xs zs hj hi h (by rw[ha,m1])
   exact⟨b,us,m1,m2,m3,by rw[AJ nb];exact m4,m5⟩
 ·have f:∀(j:Nat) (us:Oc),(δ.set i (.own xs'))[j]? = some (L.own us)→∃us',δ[j]? = some (L.own us'):=fun j us h=>by
   by_cases hj:i=j
   ·subst hj;exact⟨xs,hi⟩
   ·rw[List.getElem?_set_ne hj]at h;exact⟨us,h⟩
  obtain⟨us',h1⟩:=f j us h1;obtain⟨ws',h2⟩:=f l ws h2;exact r.apart j l us' ws' hjl h1 h2
end
section
variable{X:Cx}{a b c e:Expr}{es:List Expr}{f g h:Dv→Option PD}{fs:Dv→Option (List PD)}{fa:Dv→Option Bool}{pos p:Pos}{st:Stmt}{sts sts':List Stmt}{F F1 F2:DF}
def Xg(i:Nat)(h1:DS X st F):DS X st (fun δ=>F (FN i δ)):=by
 obtain⟨t,p,k⟩:=h1;refine⟨t,p,fun δ r h G0 H0 G H σ D R q=>?_⟩;obtain⟨G',R'⟩:=R.FN i;exact k _ r h G0 H0 G' H σ D R' q
def Mq{i:Nat}{x:Str}{pos' lp:Pos}(hN:X.N.Nodup)(hi:X.N[i]? = some x)(hx:Loc X.env.scope x)(ha:DA X es fs)(hs:swapsWith (.List es lp) (some (.Name x pos')) pos.line X.env=pure false:=by rfl)(hf:X.fn x=true∨X.env.scope.names.lookup x=some .local:=by first|exact .inl rfl|exact .inr rfl|assumption) :
  DS X (.Assign [.Name x pos'] (.List es lp) pos) (fun δ=>((fs δ).bind IQ).map fun ys=>.nx (δ.set i (.own (.lst ys)))):=by
 obtain⟨t,p,k⟩:=ha;refine⟨_,A5 hN hi hx (Cv p) hs hf,fun δ r h G0 H0 G H σ D R q=>?_⟩;obtain⟨y,h1,rfl⟩:=aE.mp h;obtain⟨xs,h2,h3⟩:=aB.mp h1;obtain⟨rfl,hl⟩:=Pz h3;refine k δ _ h2 G0 H0 G H σ [] _ R fun vs G1 H1 R1 hv=>?_;obtain⟨d,R2⟩:=R1.args hv;exact⟨Fq (by rw[hv];exact hl),fun l hl'=>q _ _ _ (R2.iI ⟨_,rfl,d⟩ hl')⟩
def ow(i:Nat)(δ:Dv):Option (List PD):=match δ[i]? with
 |some (.own (.lst xs))=>some xs
 |_=>none
def Rz{i:Nat}{δ:Dv}{xs:List PD}(h:ow i δ=some xs):δ[i]? = some (.own (.lst xs)):=by
 unfold ow at h;split at h
 ·rename_i y e;cases h;exact e
 ·cases h
def M9{i:Nat}{x:Str}{np ap cp:Pos}(hv:PE X (.Name x np) (OU i))(he:DE X e f)
 (hP:∀ {to:TE} {t:TA},PE X (.Name x np) to→PA X [e] t→PS X (.Expr (.Call (.Attribute (.Name x np) "append" ap) [e] [] cp) pos) (SG (gL X.K "list" VQ to t)))(hs1:starEach [e] X.env=(false,eval e X.env)::starEach [] X.env:=by rfl) :
  DS X (.Expr (.Call (.Attribute (.Name x np) "append" ap) [e] [] cp) pos) (fun δ=>(f δ).bind fun y=>(ow i δ).bind fun xs=>if xs.length<Dw then some (.nx (δ.set i (.own (.lst (xs++[y]))))) else none):=by
 obtain⟨t,p,k⟩:=he;refine⟨_,hP hv (AE p AL hs1),fun δ r h G0 H0 G H σ D R q=>?_⟩;obtain⟨y,h1,h2⟩:=aB.mp h;obtain⟨xs,h3,h4⟩:=aB.mp h2;split at h4
 ·rename_i hl;cases h4;have hi:=Rz h3;obtain⟨a,_,k1,k2,k3,k4,⟨ys,rfl,k5⟩⟩:=R.own i _ hi;refine⟨.ref a,k1,.inl ⟨rfl,ys,Ab.of k4⟩,?_⟩;refine k δ y h1 G0 H0 G H σ [] _ R fun u G1 H1 R1=>?_;obtain⟨a',_,m1,m2,m3,m4,⟨zs,rfl,m5⟩⟩:=R1.own i _ hi;rw[k1]at m1;cases m1;refine⟨a,zs,u,rfl,rfl,m4,U0 (by rw[m5.len];omega),?_⟩;exact q _ _ _ (R1.drop.dF hi k1 ⟨_,rfl,m5.app (.cons (R1.CD _ (.head _)) .nil)⟩)
 ·cases h4
def Mt{i:Nat}{x:Str}{np ap cp:Pos}(hv:PE X (.Name x np) (OU i))(he:DE X e f)
 (hP:∀ {to:TE} {t:TA},PE X (.Name x np) to→PA X [e] t→PS X (.Expr (.Call (.Attribute (.Name x np) "extend" ap) [e] [] cp) pos) (SG (gL X.K "list" VC to t)))(hs1:starEach [e] X.env=(false,eval e X.env)::starEach [] X.env:=by rfl) :
  DS X (.Expr (.Call (.Attribute (.Name x np) "extend" ap) [e] [] cp) pos) (fun δ=>(f δ).bind fun y=>(ow i δ).bind fun xs=>match y with|.list zs=>(if xs.length+zs.length≤Dw then some (.nx (δ.set i (.own (.lst (xs++zs))))) else none)|_=>none):=by
 obtain⟨t,p,k⟩:=he;refine⟨_,hP hv (AE p AL hs1),fun δ r h G0 H0 G H σ D R q=>?_⟩;obtain⟨y,h1,h2⟩:=aB.mp h;obtain⟨xs,h3,h4⟩:=aB.mp h2;split at h4
 ·rename_i zs;split at h4
  ·rename_i hl;cases h4;have hi:=Rz h3;obtain⟨a,_,k1,k2,k3,k4,⟨ys,rfl,k5⟩⟩:=R.own i _ hi;refine⟨.ref a,k1,.inl ⟨rfl,ys,Ab.of k4⟩,?_⟩;refine k δ _ h1 G0 H0 G H σ [] _ R fun u G1 H1 R1=>?_;obtain⟨a',_,m1,m2,m3,m4,⟨us,rfl,m5⟩⟩:=R1.own i _ hi;rw[k1]at m1;cases m1;have du:=R1.CD _ (.head _);rw[Du]at du;obtain⟨b,ws,rfl,n1,n2⟩:=du;refine⟨a,b,us,ws,rfl,rfl,m4,R1.ins _ _ n1,Fq (by rw[m5.len,n2.len];exact hl),?_⟩;exact q _ _ _ (R1.drop.dF hi k1 ⟨_,rfl,m5.app n2⟩)
  ·cases h4
 ·cases h4
def Ym{i:Nat}{x:Str}{np:Pos}(hv:PE X (.Name x np) (OU i))(hg:Gl X "len")(hm:X.mg "len" = none)(hs1:starEach [.Name x np] X.env=(false,eval (.Name x np) X.env)::starEach [] X.env:=by rfl)(hpl:(backTo pos (starEach [] X.env)).any (·.1)=false:=by rfl) :
  DE X (.Call (.Name "len" p) [.Name x np] [] pos) (fun δ=>(ow i δ).map fun xs=>.int xs.length):=by
 refine⟨_,BC Bo hg hm aj (AE hv AL hs1) (by decide) (by decide) hs1 hpl,fun δ z hz G0 H0 G H σ ts Q R0 k=>?_⟩;obtain⟨xs,h1,rfl⟩:=aE.mp hz;obtain⟨a,_,k1,k2,k3,k4,⟨ys,rfl,k5⟩⟩:=R0.own i _ (Rz h1);refine⟨.ref a,k1,a,ys,rfl,.inl (Ab.of k4),?_⟩;rw[k5.len];exact k _ _ _ (R0.put (by rw[Du]))
end
structure MC(J:It)(xs:List PyData)(G:Hp):Prop where
 stop:∀H,AK G H→J.stop xs.length H
 go:∀(i:Nat) (d:PyData) H,xs[i]? = some d→AK G H→J.go i H
 Ef:∀(i:Nat) (d:PyData) H x H',xs[i]? = some d→AK G H→J.Ef i H x H'→∀Gc,AK G Gc→AK Gc H→∃Gc',AK Gc Gc'∧Nw Gc H Gc'∧AK Gc' H'∧AK H H'∧Du Gc' d x
def Nw.refl{G H:Hp}:Nw G H G:=fun _ _ h=>.inl h
def d9{K:Fg}{G:Hp}{a:AD}{ys:List V}{xs:List PD}(ha:G a=some (.lst ys))(d:An G xs ys):MC (VW K a) xs G where
 stop:=fun H e=>⟨ys,Ab.of (e _ _ ha),by rw[d.len];exact aG _⟩
 go:=fun i x H hx e=>by
  obtain⟨v,h1,_⟩:=d.get hx;exact⟨ys,v,Ab.of (e _ _ ha),h1⟩
 Ef:=fun i x H v H' hx e y Gc e1 e2=>by
  obtain⟨rfl,y⟩:=y;have h1:=y ys (Ab.of (e _ _ ha));obtain⟨x',h2,h3⟩:=d.back h1;rw[hx]at h2;cases h2;exact⟨Gc,AK.refl _,Nw.refl,e2,AK.refl _,h3.same e1⟩
def iz{K:Fg}{G:Hp}{a:AD}{ys:List V}{xs:List PD}(ha:G a=some (.tup ys))(d:An G xs ys):MC (Vb K a) xs G where
 stop:=fun H e=>⟨ys,Ay.of (e _ _ ha),by rw[d.len];exact aG _⟩
 go:=fun i x H hx e=>by
  obtain⟨v,h1,_⟩:=d.get hx;exact⟨ys,v,Ay.of (e _ _ ha),h1⟩
 Ef:=fun i x H v H' hx e y Gc e1 e2=>by
  obtain⟨rfl,y⟩:=y;have h1:=y ys (Ay.of (e _ _ ha));obtain⟨x',h2,h3⟩:=d.back h1;rw[hx]at h2;cases h2;exact⟨Gc,AK.refl _,Nw.refl,e2,AK.refl _,h3.same e1⟩
def Hx(lo:Int)(n:Nat):List PD:=(List.range n).map fun k=>.int (lo+(k:Nat))
def Xa{G:Hp}{lo:Int}{n:Nat}:MC (Qx lo n) (Hx lo n) G where
 stop:=fun H e=>by show n≤_;simp[Hx]
 go:=fun i x H hx e=>by
  have:=(aC.mp hx).1;show i<n
  simpa[Hx]using this
 Ef:=fun i x H v H' hx e y Gc e1 e2=>by
  obtain⟨rfl,rfl⟩:=y;unfold Hx at hx;rw[List.getElem?_map]at hx;obtain⟨k,h1,rfl⟩:=aE.mp hx;have hk:k=i:=by
   have:=(aC.mp h1).1;rw[List.getElem?_range (by simpa using this)]at h1;cases h1;rfl
  subst hk;exact⟨Gc,AK.refl _,Nw.refl,e2,AK.refl _,by rw[Du]⟩
def T3{Gc H:Hp}{p:AD}{d1 d2:PD}{v1 v2:V}(e2:AK Gc H)(hp:H p=none)(h1:Du Gc d1 v1)(h2:Du Gc d2 v2) :
  ∃Gc',AK Gc Gc'∧Nw Gc H Gc'∧AK Gc' (upd H p (.tup [v1,v2]))∧AK H (upd H p (.tup [v1,v2]))∧Du Gc' (.tuple [d1,d2]) (.ref p):=by
 have hG:Gc p=none:=by
  cases q:Gc p with
  |none=>rfl
  |some u=>rw[e2 _ _ q]at hp;cases hp
 have e:AK Gc (upd Gc p (.tup [v1,v2])):=AO hG _;refine⟨upd Gc p (.tup [v1,v2]),e,fun a o h=>?_,fun a o h=>?_,AO hp _,?_⟩
 ·by_cases ha:a=p
  ·subst ha;exact .inr (.inl hp)
  ·rw[AJ ha]at h;exact .inl h
 ·by_cases ha:a=p
  ·subst ha;rw[AI]at h ⊢;exact h
  ·rw[AJ ha]at h ⊢;exact e2 _ _ h
 ·rw[Du];exact⟨p,[v1,v2],rfl,AI,.cons (h1.same e) (.cons (h2.same e) .nil)⟩
def Ko(xs:List PD):List PD:=xs.zipIdx.map fun q=>.tuple [.int (q.2:Nat),q.1]
def Kf{xs:List PD}{i:Nat}{d:PD}(h:(Ko xs)[i]? = some d):∃x,xs[i]? = some x∧d=.tuple [.int (i:Nat),x]:=by
 unfold Ko at h;rw[List.getElem?_map]at h;obtain⟨q,h1,rfl⟩:=aE.mp h;rw[List.getElem?_zipIdx]at h1;obtain⟨x,h2,rfl⟩:=aE.mp h1;exact⟨x,h2,by simp⟩
def a7{K:Fg}{G:Hp}{a:AD}{ys:List V}{xs:List PD}(ha:G a=some (.tup ys))(d:An G xs ys):MC (U9 K a) (Ko xs) G where
 stop:=fun H e=>⟨ys,Ay.of (e _ _ ha),by rw[d.len];simp[Ko]⟩
 go:=fun i x H hx e=>by
  obtain⟨x',h0,rfl⟩:=Kf hx;obtain⟨v,h1,_⟩:=d.get h0;exact⟨ys,v,Ay.of (e _ _ ha),h1⟩
 Ef:=fun i x H v H' hx e y Gc e1 e2=>by
  obtain⟨x',h0,rfl⟩:=Kf hx;obtain⟨p,u,rfl,hp,rfl,y⟩:=y;have h1:=y ys (Ay.of (e _ _ ha));obtain⟨x2,h2,h3⟩:=d.back h1;rw[h0]at h2;cases h2;exact T3 e2 hp (by rw[Du]) (h3.same e1)
def Z1{K:Fg}{G:Hp}{a:AD}{ys:List V}{xs:List PD}(ha:G a=some (.lst ys))(d:An G xs ys):MC (U5 K a) (Ko xs) G where
 stop:=fun H e=>⟨ys,Ab.of (e _ _ ha),by rw[d.len];simp[Ko]⟩
 go:=fun i x H hx e=>by
  obtain⟨x',h0,rfl⟩:=Kf hx;obtain⟨v,h1,_⟩:=d.get h0;exact⟨ys,v,Ab.of (e _ _ ha),h1⟩
 Ef:=fun i x H v H' hx e y Gc e1 e2=>by
  obtain⟨x',h0,rfl⟩:=Kf hx;obtain⟨p,u,rfl,hp,rfl,y⟩:=y;have h1:=y ys (Ab.of (e _ _ ha));obtain⟨x2,h2,h3⟩:=d.back h1;rw[h0]at h2;cases h2;exact T3 e2 hp (by rw[Du]) (h3.same e1)
def DI(X:Cx)(tg iter:Expr)(f:Dv→Option (List PD)):Prop:=∃wi,PI X tg iter wi∧∀δ xs,f δ=some xs→∀G0 H0 G H σ ts (R:It→Hp→Prop),Rw G0 H0 G H σ δ ts→(∀J G' H',Rw G0 H0 G' H' σ δ ts→MC J xs G'→R J H')→wi σ H R
section
variable{X:Cx}{tg a b c e:Expr}{es:List Expr}{f g h:Dv→Option PD}{fs:Dv→Option (List PD)}{fa:Dv→Option Bool}{pos p:Pos}{st:Stmt}{sts sts':List Stmt}{F F1 F2:DF}
def PI.or{wi wi':TI}(h:PI X tg e wi)(h':PI X tg e wi'):PI X tg e (fun σ H R=>wi σ H R∨wi' σ H R):=fun pins s σ H R I q=>by
 rcases q with q|q
 ·exact h pins s σ H R I q
 ·exact h' pins s σ H R I q
def IG:PD→Option (List PD)
 |.list xs=>some xs
 |.tuple xs=>some xs
 |_=>none
def Eo(he:DE X e f):DI X tg e (fun δ=>(f δ).bind IG):=by
 obtain⟨t,p,k⟩:=he;refine⟨_,(EY p).or (SQ p),fun δ xs h G0 H0 G H σ ts R R0 q=>?_⟩;obtain⟨x,h1,h2⟩:=aB.mp h;unfold IG at h2;split at h2
 ·cases h2
  left
  refine k δ _ h1 G0 H0 G H σ ts _ R0 fun v G' H' R'=>?_;have du:=R'.CD _ (.head _);rw[Du]at du;obtain⟨a,ys,rfl,n1,n2⟩:=du;exact⟨a,rfl,⟨ys,Ab.of (R'.ins _ _ n1)⟩,q _ _ _ R'.drop (d9 n1 n2)⟩
 ·cases h2
  right
  refine k δ _ h1 G0 H0 G H σ ts _ R0 fun v G' H' R'=>?_;have du:=R'.CD _ (.head _);rw[Du]at du;obtain⟨a,ys,rfl,n1,n2⟩:=du;exact⟨a,rfl,⟨ys,Ay.of (R'.ins _ _ n1)⟩,q _ _ _ R'.drop (iz n1 n2)⟩
 ·cases h2
def KN:List PD→Option (List PD)
 |[.int j]=>if -1000000≤j∧j≤1000000 then some (Hx 0 j.toNat) else none
 |_=>none
def V2:List PD→Option (List PD)
 |[.int i,.int j]=>if -1000000≤i∧i≤1000000∧-1000000≤j∧j≤1000000 then some (Hx i (j-i).toNat) else none
 |_=>none
def Gs(hg:Gl X "range")(hm:X.mg "range" = none)(ha:DA X [a] fs)(hs:starEach [a] X.env=[(false,eval a X.env)]:=by rfl):DI X tg (.Call (.Name "range" p) [a] [] pos) (fun δ=>(fs δ).bind KN):=by
 obtain⟨t,p,k⟩:=ha;refine⟨_,Ml hg hm p hs,fun δ xs h G0 H0 G H σ ts R R0 q=>?_⟩;obtain⟨x,h1,h2⟩:=aB.mp h;refine k δ _ h1 G0 H0 G H σ ts _ R0 fun vs G' H' R' hv=>?_;obtain⟨d,R2⟩:=R'.args hv;unfold KN at h2;split at h2
 ·split at h2
  ·cases h2;obtain⟨u,rfl,du⟩:=d.IP;rw[Du]at du;subst du;exact⟨_,rfl,by omega,by omega,q _ _ _ R2 Xa⟩
  ·cases h2
 ·cases h2
def RB(hg:Gl X "range")(hm:X.mg "range" = none)(ha:DA X [a,b] fs)(hs:starEach [a,b] X.env=[(false,eval a X.env),(false,eval b X.env)]:=by rfl)(hs2:starEach [b] X.env=[(false,eval b X.env)]:=by rfl):DI X tg (.Call (.Name "range" p) [a,b] [] pos) (fun δ=>(fs δ).bind V2):=by
 obtain⟨t,p,k⟩:=ha;refine⟨_,Yx hg hm p hs hs2,fun δ xs h G0 H0 G H σ ts R R0 q=>?_⟩;obtain⟨x,h1,h2⟩:=aB.mp h;refine k δ _ h1 G0 H0 G H σ ts _ R0 fun vs G' H' R' hv=>?_;obtain⟨d,R2⟩:=R'.args hv;unfold V2 at h2;split at h2
 ·split at h2
  ·cases h2;obtain⟨u,v,rfl,du,dv⟩:=d.YL;rw[Du]at du dv;subst du dv;exact⟨_,_,rfl,⟨by omega,by omega,by omega,by omega⟩,q _ _ _ R2 Xa⟩
  ·cases h2
 ·cases h2
def V3:List PD→Option (List PD)
 |[.list xs]=>some (Ko xs)
 |[.tuple xs]=>some (Ko xs)
 |_=>none
def eU{elts:List Expr}{x1}{tpos:Pos}(hg:Gl X "enumerate")(hm:X.mg "enumerate" = none)(ha:DA X [a] fs)(hs:starEach [a] X.env=[(false,eval a X.env)]:=by rfl):DI X (.Tuple elts x1 tpos) (.Call (.Name "enumerate" p) [a] [] pos) (fun δ=>(fs δ).bind V3):=by
 obtain⟨t,p,k⟩:=ha;refine⟨_,(Tt hg hm p hs).or (VD hg hm p hs),fun δ xs h G0 H0 G H σ ts R R0 q=>?_⟩;obtain⟨x,h1,h2⟩:=aB.mp h;unfold V3 at h2;split at h2
 ·cases h2
  left
  refine k δ _ h1 G0 H0 G H σ ts _ R0 fun vs G' H' R' hv=>?_;obtain⟨d,R2⟩:=R'.args hv;obtain⟨u,rfl,du⟩:=d.IP;rw[Du]at du;obtain⟨a,ys,rfl,n1,n2⟩:=du;exact⟨a,rfl,⟨ys,Ab.of (R2.ins _ _ n1)⟩,q _ _ _ R2 (Z1 n1 n2)⟩
 ·cases h2
  right
  refine k δ _ h1 G0 H0 G H σ ts _ R0 fun vs G' H' R' hv=>?_;obtain⟨d,R2⟩:=R'.args hv;obtain⟨u,rfl,du⟩:=d.IP;rw[Du]at du;obtain⟨a,ys,rfl,n1,n2⟩:=du;exact⟨a,rfl,⟨ys,Ay.of (R2.ins _ _ n1)⟩,q _ _ _ R2 (a7 n1 n2)⟩
 ·cases h2
def Mn{G:Hp}{x:PD}{v:V}{xs:List PD}(h:Du G x v)(e:IG x=some xs):∃(b:Bool) (a:AD) (ys:List V),v=.ref a∧G a=some (if b then .tup ys else .lst ys)∧An G xs ys:=by
 unfold IG at e;split at e
 ·cases e;rw[Du]at h;obtain⟨a,ys,rfl,n1,n2⟩:=h;exact⟨false,a,ys,rfl,n1,n2⟩
 ·cases e;rw[Du]at h;obtain⟨a,ys,rfl,n1,n2⟩:=h;exact⟨true,a,ys,rfl,n1,n2⟩
 ·cases e
def DG(X:Cx)(tg:Expr)(set:PD→Dv→Option Dv):Prop:=∃g,PG X tg g∧∀δ x δ',set x δ=some δ'→∀G0 H0 G H σ v (Q:St→Hp→Prop),Rw G0 H0 G H σ δ [(x,v)]→(∀σ' G' H',Rw G0 H0 G' H' σ' δ' []→Q σ' H')→g v σ H Q
def Dd{i:Nat}{x:Str}(h:PG X (.Name x pos) (EJ i)):DG X (.Name x pos) (fun y δ=>some (δ.set i (.d y))) :=
 ⟨_,h,fun δ y δ' e G0 H0 G H σ v Q R k=>by cases e;exact k _ _ _ R.Ia⟩
def b6(i j:Nat)(y:PD)(δ:Dv):Option Dv:=match y with
 |.tuple [u,v]=>some ((δ.set i (.d u)).set j (.d v))
 |_=>none
def gV{x y:Str}{i j:Nat}{px py:Pos}{k1}(h:PG X (.Tuple [.Name x px,.Name y py] k1 pos) (Wc X.K 2 (Kg (EJ i) (Kg (EJ j) WY)))):DG X (.Tuple [.Name x px,.Name y py] k1 pos) (b6 i j):=by
 refine⟨_,h,fun δ z δ' e G0 H0 G H σ v Q R k=>?_⟩;unfold b6 at e;split at e
 ·cases e;have du:=R.CD _ (.head _);rw[Du]at du;obtain⟨a,ys,rfl,n1,n2⟩:=du;obtain⟨w1,w2,rfl,m1,m2⟩:=n2.YL;refine⟨a,[w1,w2],rfl,Ay.of (R.ins _ _ n1),rfl,w1,[w2],rfl,w2,[],rfl,rfl,?_⟩;exact k _ _ _ (((R.drop.put m2).put m1).Ia.Ia)
 ·cases e
def FA(set:PD→Dv→Option Dv)(body:DF):List PD→Dv→Option Ou
 |[],δ=>some (.nx δ)
 |x::xs,δ=>match (set x δ).bind body with
  |some (.nx δ')=>FA set body xs δ'
  |some (.ct δ')=>FA set body xs δ'
  |some (.bk δ')=>some (.nx δ')
  |some (.rt v)=>some (.rt v)
  |some (.rn v)=>some (.rn v)
  |none=>none
def Dk{set:PD→Dv→Option Dv}(hp:PassesOwn (model X.prog X.w) X.A X.env X.xe)(hc:X.calm=true)(hi:DI X tg e fs)(hg:DG X tg set)(hb:Mc X sts F)(hs:∀x,foldedSetIterable e X.env x=pure x:=by intro _;rfl) :
  DS X (.For tg e sts [] pos) (fun δ=>(fs δ).bind fun xs=>FA set F xs δ):=by
 obtain⟨wi,pi,ki⟩:=hi;obtain⟨g,pg,kg⟩:=hg;obtain⟨tb,pb,kb⟩:=hb;refine⟨_,F9 hp hc pi pg pb hs,fun δ r h G0 H0 G H σ D R q=>?_⟩;obtain⟨xs,h1,h2⟩:=aB.mp h;refine ki δ xs h1 G0 H0 G H σ [] _ R fun J Ga Ha Ra it=>?_;refine⟨fun i m σ' H'=>m=xs.length-i∧i≤xs.length∧∃δ' G',FA set F (xs.drop i) δ'=some r∧Rw G0 H0 G' H' σ' δ' []∧AK Ga G',⟨xs.length,by simp,Nat.zero_le _,δ,Ga,by simpa using h2,Ra,AK.refl _⟩,?_⟩;rintro i m σ1 H1 ⟨rfl,hi,δ1,G1,f1,R1,s1⟩;have sH:AK Ga H1:=s1.trans R1.ins;by_cases hlt:i<xs.length
 ·right
  have hx:xs[i]? = some xs[i]:=by simp[hlt]
  refine⟨it.go i _ H1 hx sH,fun σ' H'=>i+1≤xs.length∧∃δ' G',FA set F (xs.drop (i+1)) δ'=some r∧Rw G0 H0 G' H' σ' δ' []∧AK Ga G',fun σ' H' n=>⟨xs.length-(i+1),by omega,rfl,n⟩,fun x H' y=>?_⟩;obtain⟨G2,e1,e2,e3,e4,e5⟩:=it.Ef i _ H1 x H' hx sH y G1 s1 R1.ins;have R2:=(R1.lift e1 e2 e3 e4).put e5;have s2:=s1.trans e1;rw[List.drop_eq_getElem_cons hlt]at f1;unfold FA at f1;cases hb2:(set xs[i] δ1).bind F with
  |none=>rw[hb2]at f1;cases f1
  |some o =>
   obtain⟨δ2,k1,k2⟩:=aB.mp hb2;rw[hb2]at f1;have R2b:=R2.base;refine kg δ1 _ δ2 k1 G2 H0 G2 H' σ1 x _ R2b fun σ3 G3 H3 R3=>?_;refine kb δ2 o k2 G2 H0 G3 H3 σ3 _ R3 ?_;cases o with
   |nx δ3=>exact fun σ4 G4 H4 R4=>⟨hlt,δ3,G4,f1,R2.drop.S5 R4,s2.trans R4.ext⟩
   |ct δ3=>exact fun σ4 G4 H4 R4=>⟨hlt,δ3,G4,f1,R2.drop.S5 R4,s2.trans R4.ext⟩
   |bk δ3=>cases f1;exact fun σ4 G4 H4 R4=>q σ4 G4 H4 (R2.drop.S5 R4)
   |rt v=>cases f1;exact fun w G4 H4 h1 h2 h3 h4 h5=>q w G4 H4 (R2.ext.trans h1) (R2.new.trans h2) h3 h4 h5
   |rn v=>cases f1;exact fun w ys G4 H4 h1 h2=>q w ys G4 H4 (R2.ext.trans h1) (R2.new.trans h2)
 ·left
  have e:i=xs.length:=by omega
  subst e;refine⟨it.stop H1 sH,?_⟩;rw[List.drop_length]at f1;unfold FA at f1;cases f1;exact q _ _ _ R1
end
def tD(f:Dv→Option PD):TE:=fun σ H Q=>∃δ x G0 H0 G ts,f δ=some x∧Rw G0 H0 G H σ δ ts∧∀v G' H',Rw G0 H0 G' H' σ δ ((x,v)::ts)→Q v H'
def iq(f:Dv→Option Bool):TT:=fun σ H Q=>∃δ x G0 H0 G ts,f δ=some x∧Rw G0 H0 G H σ δ ts∧∀G' H',Rw G0 H0 G' H' σ δ ts→Q x H'
def DE.pe{X:Cx}{e:Expr}{f:Dv→Option PD}(h:DE X e f):PE X e (tD f):=by
 obtain⟨t,p,k⟩:=h;intro pins s σ H Q I q;obtain⟨δ,x,G0,H0,G,ts,h1,h2,h3⟩:=q;exact p pins s σ H Q I (k δ x h1 G0 H0 G H σ ts Q h2 h3)
def jK(X:Cx)(ifs:List Expr)(f:Dv→Option Bool):Prop:=Mi X ifs (iq f)
def Hm{X:Cx}:jK X [] (fun _=>some true):=by
 intro pins s σ H Q I q;obtain⟨δ,x,G0,H0,G,ts,h1,h2,h3⟩:=q;cases h1;exact Ex pins s σ H Q I (h3 _ _ h2)
def Eb(fr:List (Option Nat))(δ:Dv):Dv:=fr.map fun o=>match o with
 |some j=>(match δ[j]? with|some (.d x)=>.d x|_=>.no)
 |none=>.no
def Rw.inner{G0 H0 G H:Hp}{σ:St}{δ:Dv}{ts:List (PD×V)}(fr:List (Option Nat))(r:Rw G0 H0 G H σ δ ts):Rw G H G H (carry fr σ) (Eb fr δ) ts:=by
 have key:∀(i:Nat) (l:L),(Eb fr δ)[i]? = some l→∃o,fr[i]? = some o∧l=(match o with|some j=>(match δ[j]? with|some (.d x)=>.d x|_=>.no)|none=>.no):=fun i l h=>by
  unfold Eb at h;rw[List.getElem?_map]at h;obtain⟨o,h1,rfl⟩:=aE.mp h;exact⟨o,h1,rfl⟩
 have noown:∀(i:Nat) (xs:Oc),(Eb fr δ)[i]?≠some (L.own xs):=fun i xs h=>by
  obtain⟨o,_,h2⟩:=key i _ h;split at h2
  ·split at h2<;>cases h2
  ·cases h2
 refine⟨AK.refl _,Nw.refl,r.ins,AK.refl _,by simp[carry,Eb],fun i x h=>?_,fun i xs h=>absurd h (noown i xs),fun i j xs ys _ h=>absurd h (noown i xs),r.CD⟩;obtain⟨o,h1,h2⟩:=key i _ h;split at h2
 ·rename_i j;split at h2
  ·rename_i y hy;cases h2;obtain⟨v,k1,k2⟩:=r.dat j _ hy;refine⟨v,?_,k2⟩;unfold carry;rw[List.getElem?_map,h1];simp[k1]
  ·cases h2
 ·cases h2
def Rw.other{G0 H0 G H:Hp}{σ:St}{δ:Dv}{ts:List (PD×V)}{D:AD}{o:HO}(r:Rw G0 H0 G H σ δ ts)(hG:G D=none)(h0:H0 D=none)(ho:∀(i:Nat) (xs:Oc),δ[i]? = some (L.own xs)→σ[i]?≠some (some (V.ref D))):Rw G0 H0 G (upd H D o) σ δ ts:=by
 refine⟨r.ext,r.new,fun a u h=>?_,fun a u h=>?_,r.len,r.dat,fun i xs h=>?_,r.apart,r.CD⟩
 ·rw[AJ (fun z=>by subst z;rw[hG]at h;cases h)];exact r.ins _ _ h
 ·rw[AJ (fun z=>by subst z;rw[h0]at h;cases h)];exact r.keep _ _ h
 ·obtain⟨a,ys,k1,k2,k3,k4,k5⟩:=r.own i xs h;exact⟨a,ys,k1,k2,k3,by rw[AJ (fun z=>by subst z;exact ho i xs h k1)];exact k4,k5⟩
def Rw.adopt{G0 H0 G H:Hp}{σ:St}{δ:Dv}{ts:List (PD×V)}{D:AD}{ys:List V}(r:Rw G0 H0 G H σ δ ts)(hD:H D=some (.lst ys))(hG:G D=none)(h0:H0 D=none)(ho:∀(i:Nat) (xs:Oc),δ[i]? = some (L.own xs)→σ[i]?≠some (some (V.ref D))):Rw G0 H0 (upd G D (.lst ys)) H σ δ ts:=by
 have e:AK G (upd G D (.lst ys)):=AO hG _;refine⟨r.ext.trans e,fun a u h=>?_,fun a u h=>?_,r.keep,r.len,fun i x h=>?_,fun i xs h=>?_,r.apart,fun q hq=>(r.CD q hq).same e⟩
 ·by_cases ha:a=D
  ·subst ha;exact .inr (.inl h0)
  ·rw[AJ ha]at h;exact r.new _ _ h
 ·by_cases ha:a=D
  ·subst ha;rw[AI]at h;rw[hD];exact h
  ·rw[AJ ha]at h;exact r.ins _ _ h
 ·obtain⟨v,k1,k2⟩:=r.dat i x h;exact⟨v,k1,k2.same e⟩
 ·obtain⟨a,zs,k1,k2,k3,k4,k5⟩:=r.own i xs h;have ha:a≠D:=fun z=>by subst z;exact ho i xs h k1
  exact⟨a,zs,k1,by rw[AJ ha];exact k2,k3,k4,k5.same e⟩
def Oy(set:PD→Dv→Option Dv)(tif:Dv→Option Bool)(f:Dv→Option PD)(δ:Dv)(x:PD):Option (Option PD) :=
 (set x δ).bind fun δ1=>(tif δ1).bind fun b=>if b=true then(f δ1).map some else some none
def collect(one:PD→Option (Option PD)):List PD→Option (List PD)
 |[]=>some []
 |x::xs=>(one x).bind fun o=>(collect one xs).map fun r=>o.toList++r
def HS(set:PD→Dv→Option Dv)(tif:Dv→Option Bool)(f:Dv→Option PD)(fr:List (Option Nat))(fs:Dv→Option (List PD))(δ:Dv):Option (List PD) :=
 (fs δ).bind fun xs=>(collect (Oy set tif f (Eb fr δ)) xs).bind IQ
def GI(set:PD→Dv→Option Dv)(tif:Dv→Option Bool)(f:Dv→Option PD)(fr:List (Option Nat))(fs:Dv→Option (List PD))(δ:Dv):Option PD :=
 (HS set tif f fr fs δ).map .list
structure er(G0 H0 Ga:Hp)(σ:St)(δ:Dv)(ts:List (PyData×V))(one:PyData→Option (Option PyData))(xs full:List PyData)(D:Addr)(i:Nat)(ys:List V)(H:Hp):Prop where
 ex:∃G done rest,Rw G0 H0 G H σ δ ts∧AK Ga G∧G D=none∧collect one (xs.drop i)=some rest∧done++rest=full∧An G done ys
 h0:H0 D=none
 ap:∀(j:Nat) (us:Oc),δ[j]? = some (L.own us)→σ[j]?≠some (some (V.ref D))
def Zz{G0 H0 G H:Hp}{D:AD}{ys:List V}(hG:G0 D=none)(hD:H0 D=some (.lst ys))(n:Nw G0 H0 G)(e:AK G H)(k:AK H0 H):G D=none:=by
 cases q:G D with
 |none=>rfl
 |some o =>
  rcases n _ _ q with z|z|⟨us,z⟩
  ·rw[hG]at z;cases z
  ·rw[hD]at z;cases z
  ·have:=e _ _ q;rw[k _ _ hD,z]at this;cases this
section
variable{X:Cx}{elt iter:Expr}{x y:Str}{px py tp pos:Pos}{tk:Nat}{ifs:List Expr}{scope:Scope}{fs:Dv→Option (List PD)}{tif:Dv→Option Bool}{f:Dv→Option PD}
def Dx(i:Nat)(y:PD)(δ:Dv):Option Dv:=some (δ.set i (.d y))
def P5{wi:TI}{ix:Nat}{fr:List (Option Nat)}(ki:∀(δ:Dv) (xs:List PD),fs δ=some xs→∀(G0 H0 G H:Hp) (σ:St) (ts:List (PD×V)) (R:It→Hp→Prop),Rw G0 H0 G H σ δ ts→(∀J G' H',Rw G0 H0 G' H' σ δ ts→MC J xs G'→R J H')→wi σ H R){δ:Dv}{zs:List PD}(hz:HS (Dx ix) tif f fr fs δ=some zs){G0 H0 G H:Hp}{σ:St}{ts:List (PD×V)}{Q:VK}(R0:Rw G0 H0 G H σ δ ts)(k:∀D ys G' H',Rw G0 H0 G' H' σ δ ts→H' D=some (.lst ys)→G' D=none→H0 D=none→(∀(j:Nat) (us:Oc),δ[j]? = some (L.own us)→σ[j]?≠some (some (V.ref D)))→An G' zs ys→Q (.ref D) H') :
  Nd wi fr ix (iq tif) (tD f) σ H Q:=by
 unfold HS at hz;obtain⟨xs,m2,m3⟩:=aB.mp hz;obtain⟨full,m4,m5⟩:=aB.mp m3;obtain⟨rfl,hfew⟩:=Pz m5;refine ki δ xs m2 G0 H0 G H σ ts _ R0 fun J Ga Ha Ra it D hD=>?_;have hGD:Ga D=none:=by
  cases q:Ga D with
  |none=>rfl
  |some u=>rw[Ra.ins _ _ q]at hD;cases hD
 have hHD:H0 D=none:=by
  cases q:H0 D with
  |none=>rfl
  |some u=>rw[Ra.keep _ _ q]at hD;cases hD
 have hap:∀(j:Nat) (us:Oc),δ[j]? = some (L.own us)→σ[j]?≠some (some (V.ref D)):=fun j us h z=>by
  obtain⟨a,ys,k1,k2,k3,k4,k5⟩:=Ra.own j us h;rw[z]at k1;cases k1;rw[k4]at hD;cases hD
 refine G5 (n:=xs.length) (er G0 H0 Ga σ δ ts (Oy (Dx ix) tif f (Eb fr δ)) xs full D) ⟨⟨Ga,[],full,Ra.other hGD hHD hap,AK.refl _,hGD,by simpa using m4,rfl,.nil⟩,hHD,hap⟩ ?_ ?_
 ·rintro i ys H1 hlt ⟨⟨G1,done,rest,R1,s1,g1,c1,e1,d1⟩,_,_⟩ hD1;have hx:xs[i]? = some xs[i]:=by simp[hlt]
  have sH:=s1.trans R1.ins;have hyl:ys.length<sizeLine:=U0 (by
   rw[d1.len];have:done.length≤full.length:=by rw[←e1];simp
   omega)
  refine⟨it.go i _ H1 hx sH,hyl,fun v H' y=>?_⟩;obtain⟨G2,n1,n2,n3,n4,n5⟩:=it.Ef i _ H1 v H' hx sH y G1 s1 R1.ins;have R2:=R1.lift n1 n2 n3 n4;have hD2:=n4 _ _ hD1;have g2:G2 D=none:=Zz g1 hD1 n2 n3 n4;rw[List.drop_eq_getElem_cons hlt]at c1;unfold collect at c1;obtain⟨o,c2,c3⟩:=aB.mp c1;obtain⟨rest',c4,rfl⟩:=aE.mp c3;unfold Oy Dx at c2;simp only[Option.bind_some]at c2;obtain⟨b,c5,c6⟩:=aB.mp c2;have Ri:=((R2.inner fr).put n5).Ia (i:=ix);have Ri0:Rw G2 H' G2 H' ((carry fr σ).set ix (some v)) ((Eb fr δ).set ix (.d xs[i])) []:=Ri.less fun q hq=>by cases hq
  refine⟨_,b,G2,H',G2,[],c5,Ri0,fun G3 H3 R3=>?_⟩;have R3o:=R2.lift R3.ext R3.new R3.ins R3.keep;have hD3:=R3.keep _ _ hD2;have g3:G3 D=none:=Zz g2 hD2 R3.new R3.ins R3.keep;dsimp only;split
  ·rename_i hb;rw[if_pos hb]at c6;obtain⟨w,c7,rfl⟩:=aE.mp c6;refine⟨_,w,G2,H',G3,[],c7,R3,fun u G4 H4 R4=>?_⟩;have R4o:=R2.lift R4.ext R4.new R4.ins R4.keep;have hD4:=R4.keep _ _ hD2;have g4:G4 D=none:=Zz g2 hD2 R4.new R4.ins R4.keep;refine⟨hD4,Ez hlt ⟨⟨G4,done++[w],rest',R4o.other g4 hHD hap,s1.trans (n1.trans R4.ext),g4,c4,by simpa using e1,(d1.same (n1.trans R4.ext)).app (.cons (R4.CD _ (.head _)) .nil)⟩,hHD,hap⟩⟩
  ·rename_i hb;rw[if_neg hb]at c6;cases c6;exact dG hlt hD3 ⟨⟨G3,done,rest',R3o,s1.trans (n1.trans R3.ext),g3,c4,by simpa using e1,d1.same (n1.trans R3.ext)⟩,hHD,hap⟩
 ·rintro ys H1 ⟨⟨G1,done,rest,R1,s1,g1,c1,e1,d1⟩,_,_⟩ hD1;refine⟨it.stop H1 (s1.trans R1.ins),?_⟩;rw[List.drop_length]at c1;cases c1;rw[List.append_nil]at e1;subst e1;exact k _ _ _ _ R1 hD1 g1 hHD hap d1
def XF{wi:TI}{ix:Nat}{fr:List (Option Nat)}(ki:∀(δ:Dv) (xs:List PD),fs δ=some xs→∀(G0 H0 G H:Hp) (σ:St) (ts:List (PD×V)) (R:It→Hp→Prop),Rw G0 H0 G H σ δ ts→(∀J G' H',Rw G0 H0 G' H' σ δ ts→MC J xs G'→R J H')→wi σ H R){δ:Dv}{z:PD}(hz:GI (Dx ix) tif f fr fs δ=some z){G0 H0 G H:Hp}{σ:St}{ts:List (PD×V)}{Q:VK}(R0:Rw G0 H0 G H σ δ ts)(k:∀v G' H',Rw G0 H0 G' H' σ δ ((z,v)::ts)→Q v H') :
  Nd wi fr ix (iq tif) (tD f) σ H Q:=by
 unfold GI at hz;obtain⟨full,m1,rfl⟩:=aE.mp hz;refine P5 ki m1 R0 fun D ys G1 H1 R1 hD1 g1 hHD hap d1=>?_;have e:AK G1 (upd G1 D (.lst ys)):=AO g1 _;have R2:=R1.adopt hD1 g1 hHD hap;refine k _ _ _ (R2.put ?_);rw[Du];exact⟨D,ys,rfl,AI,d1.same e⟩
def Jb(N:List Str)(ix:Nat)(fr:List (Option Nat))(hi:DI X (.Name x px) iter fs)(hif:∀cl C s₀ H₀ fp,jK (A9 X scope cl N C s₀ H₀ fp) ifs tif)(he:∀cl C s₀ H₀ fp,DE (A9 X scope cl N C s₀ H₀ fp) elt f)
 (h1:Dc scope N x ix=true:=by decide +kernel)(h2:X.calm=true:=by rfl)(h3:F7 N X.N scope X.env.scope fr 0=true:=by rfl)(h4:fr.length=N.length:=by rfl)(h5:freeOk X.env.scope scope.names=true:=by rfl)
 (hs:∀x,foldedSetIterable iter X.env x=pure x:=by intro _;rfl):DE X (.ListComp elt [⟨.Name x px,iter,ifs,0⟩] scope pos) (GI (Dx ix) tif f fr fs):=by
 obtain⟨wi,pi,ki⟩:=hi;exact⟨_,Gh N ix fr pi hif (fun cl C s₀ H₀ fp=>(he cl C s₀ H₀ fp).pe) h1 h2 h3 h4 h5 hs,fun δ z hz G0 H0 G H σ ts Q R0 k=>XF ki hz R0 k⟩
end
section
variable{X:Cx}{elt iter:Expr}{x y:Str}{px py tp pos:Pos}{tk:Nat}{ifs:List Expr}{scope:Scope}{fs:Dv→Option (List PD)}{tif:Dv→Option Bool}{f:Dv→Option PD}
def Ih(N:List Str)(ds:List PD):Dv:=ds.map .d++List.replicate (N.length-ds.length) .no
def Dr(ps N:List Str)(F:DF)(ds:List PD):Option PD:=if ds.length=ps.length then(match F (Ih N ds) with
 |some (.rt x)=>some x
 |some (.nx _)=>some .none
 |some (.rn xs)=>some (.list xs)
 |_=>none) else none
def Rw.start{N:List Str}{ds:List PD}{vs:List V}{G H:Hp}(d:An G ds vs)(e:AK G H):Rw G H G H (start N vs) (Ih N ds) []:=by
 have hl:=d.len;refine⟨AK.refl _,Nw.refl,e,AK.refl _,by simp[L2.start,Ih,hl],fun i x h=>?_,fun i xs h=>?_,fun i j xs ys _ h=>?_,fun q hq=>by cases hq⟩
 ·unfold Ih at h;by_cases hi:i<ds.length
  ·rw[List.getElem?_append_left (by simpa using hi),List.getElem?_map]at h;obtain⟨y,h1,h2⟩:=aE.mp h;cases h2;obtain⟨v,h3,h4⟩:=d.get h1;refine⟨v,?_,h4⟩;unfold L2.start;rw[List.getElem?_append_left (by simp;omega),List.getElem?_map,h3];rfl
  ·rw[List.getElem?_append_right (by simpa using hi),List.getElem?_replicate]at h;split at h<;>cases h
 ·unfold Ih at h;by_cases hi:i<ds.length
  ·rw[List.getElem?_append_left (by simpa using hi),List.getElem?_map]at h;obtain⟨y,h1,h2⟩:=aE.mp h;cases h2
  ·rw[List.getElem?_append_right (by simpa using hi),List.getElem?_replicate]at h;split at h<;>cases h
 ·unfold Ih at h;by_cases hi:i<ds.length
  ·rw[List.getElem?_append_left (by simpa using hi),List.getElem?_map]at h;obtain⟨y,h1,h2⟩:=aE.mp h;cases h2
  ·rw[List.getElem?_append_right (by simpa using hi),List.getElem?_replicate]at h;split at h<;>cases h
def cI{G H G' H':Hp}{a:AD}{ys:List V}{xs:List PD}(m1:AK G G')(m2:Nw G H G')(m3:AK G' H')(m5:H a=none)(m6:G' a=none)(m7:H' a=some (.lst ys))(m8:An G' xs ys) :
  AK G (upd G' a (.lst ys))∧Nw G H (upd G' a (.lst ys))∧AK (upd G' a (.lst ys)) H'∧Du (upd G' a (.lst ys)) (.list xs) (.ref a):=by
 refine⟨m1.trans (AO m6 _),fun b o hb=>?_,fun b o hb=>?_,?_⟩
 ·by_cases z:b=a
  ·subst z;exact .inr (.inl m5)
  ·rw[AJ z]at hb;exact m2 _ _ hb
 ·by_cases z:b=a
  ·subst z;rw[AI]at hb;rw[m7];exact hb
  ·rw[AJ z]at hb;exact m3 _ _ hb
 ·rw[Du];exact⟨a,ys,rfl,AI,m8.same (AO m6 _)⟩
def JL{P:Program}{w:World}{K:Fg}{mg:Str→Option VL}{base:Heap}{x:Str}{st:Stmt}{fA:AD}{fd:FuncData}{N ps:List Str}{k:Nat}{F:DF}(T:Fn K mg x st ps fA fd)(S:Aa N ps (AV st))
 (hb:∀(cdv:VL) (A:Around) (outer:List Env) (s:SD) (H:Hp) (E:XK),Cs k (A.deeper (envOfC x (AV st) s.heap.objs.size fA cdv))→Mc (Cp Ah P w K mg base N x (AV st) fA cdv A outer s H E).Gv (DH st) F) :
  AQ P w K mg base Ah (k+1) fA fd ps (Bz (Dr ps N F)):=by
 refine T.F.ok S (fun vs H Q E h=>?_) fun cdv A outer s H vs Q E hr h=>?_
 ·obtain⟨ds,y,G,h1,h2,_⟩:=h;unfold Dr at h1;split at h1
  ·rename_i hl;rw[h2.len];exact hl
  ·cases h1
 ·obtain⟨ds,y,G,h1,h2,h3,h4⟩:=h;obtain⟨t,p,kk⟩:=hb cdv A outer s H E hr;refine⟨t,p,?_⟩;unfold Dr at h1;split at h1
  ·split at h1
   ·rename_i z e1;cases h1;exact kk _ _ e1 G H G H _ _ (Rw.start h2 h3) fun v G' H' m1 m2 m3 m4 m5=>h4 v G' H' m1 m2 m3 m4 m5
   ·rename_i δ e1;cases h1;exact kk _ _ e1 G H G H _ _ (Rw.start h2 h3) fun σ' G' H' R=>h4 .BF G' H' R.ext R.new R.ins R.keep (by rw[Du])
   ·rename_i xs e1;cases h1;exact kk _ _ e1 G H G H _ _ (Rw.start h2 h3) fun a ys G' H' m1 m2 m3 m4 m5 m6 m7 m8=>let⟨n1,n2,n3,n4⟩:=cI m1 m2 m3 m5 m6 m7 m8;h4 _ _ H' n1 n2 n3 m4 n4
   ·cases h1
  ·cases h1
end
section
variable{X:Cx}{tg a b c e:Expr}{es:List Expr}{f g h:Dv→Option PD}{fs:Dv→Option (List PD)}{fa:Dv→Option Bool}{pos p p2:Pos}{st:Stmt}{sts sts':List Stmt}{F F1 F2:DF}
def Ly{x:Str}{i:Int}{tk:Tok}(hg:Gl X x)(hm:X.mg x=some (.int i tk))(hd:(x==("__debug__" : Str))=false:=by decide):DE X (.Name x pos) (fun _=>some (.int i)) :=
 ⟨_,LX (v:=.int i) hg hm ⟨tk,rfl⟩ hd,fun δ x h G0 H0 G H σ ts Q r k=>by cases h;exact k _ _ _ (r.put (by rw[Du]))⟩
def DO(X:Cx)(o:Option Expr)(f:Dv→Option (Option Int)):Prop:=∃t,PO X o t∧∀δ x,f δ=some x→∀G0 H0 G H σ ts (Q:Option Int→Hp→Prop),Rw G0 H0 G H σ δ ts→(∀G' H',Rw G0 H0 G' H' σ δ ts→Q x H')→t σ H Q
variable{fo fu:Dv→Option (Option Int)}{lo hi:Option Expr}
def NS:DO X none (fun _=>some none):=⟨_,Vp,fun δ x h G0 H0 G H σ ts Q r k=>by cases h;exact k _ _ r⟩
def NW(he:DE X e f):DO X (some e) (fun δ=>(f δ).bind fun x=>(Vm x).map some):=by
 obtain⟨t,p,k⟩:=he;refine⟨_,Ux p,fun δ z h G0 H0 G H σ ts Q r q=>?_⟩;obtain⟨x,h1,h2⟩:=aB.mp h;obtain⟨i,h3,rfl⟩:=aE.mp h2;have:=Xq h3;subst this;refine k δ _ h1 G0 H0 G H σ ts _ r fun v G' H' R'=>?_;have hv:=R'.CD _ (.head _);rw[Du]at hv;exact⟨i,hv,q _ _ R'.drop⟩
def cutD(xs:List PD)(lo hi:Option Int):List PD:=(xs.drop (HT.Bg xs.length 0 lo)).take (HT.Bg xs.length xs.length hi-HT.Bg xs.length 0 lo)
def An.cut{H:Hp}{ds:List PD}{xs:List V}(h:An H ds xs)(lo hi:Option Int):An H (cutD ds lo hi) (K8 xs lo hi):=by
 unfold cutD K8;rw[h.len];exact(h.drop _).take _
def bx(x:PD)(lo hi:Option Int):Option PD:=match x with
 |.list xs=>some (.list (cutD xs lo hi))
 |.tuple xs=>if ¬(HT.Bg xs.length 0 lo=0∧HT.Bg xs.length xs.length hi=xs.length) then some (.tuple (cutD xs lo hi)) else none
 |_=>none
def Ll(he:DE X e f)(hl:DO X lo fo)(hh:DO X hi fu):DE X (.Subscript e (.Slice lo hi none p2) pos) (fun δ=>(f δ).bind fun x=>(fo δ).bind fun l=>(fu δ).bind fun u=>bx x l u):=by
 obtain⟨te,pe,ke⟩:=he;obtain⟨tl,pl,kl⟩:=hl;obtain⟨th,ph,kh⟩:=hh;refine⟨_,Sd (VS.or iA) pe pl ph,fun δ z hz G0 H0 G H σ ts Q R0 k=>?_⟩;obtain⟨x,h1,h2⟩:=aB.mp hz;obtain⟨l,h3,h4⟩:=aB.mp h2;obtain⟨u,h5,h6⟩:=aB.mp h4;refine ke δ x h1 G0 H0 G H σ ts _ R0 fun v G1 H1 R1=>?_;refine kl δ l h3 G0 H0 G1 H1 σ _ _ R1 fun G2 H2 R2=>?_;refine kh δ u h5 G0 H0 G2 H2 σ _ _ R2 fun G3 H3 R3=>?_;have du:=R3.CD _ (.head _);unfold bx at h6;split at h6
 ·cases h6;rw[Du]at du;obtain⟨a,ys,rfl,n1,n2⟩:=du;exact .inl ⟨a,ys,rfl,Ab.of (R3.ins _ _ n1),fun q hq=>k _ _ _ (R3.drop.SY (n2.cut l u) hq)⟩
 ·split at h6
  ·rename_i hc;cases h6;rw[Du]at du;obtain⟨a,ys,rfl,n1,n2⟩:=du;exact .inr ⟨a,ys,rfl,Ay.of (R3.ins _ _ n1),by rw[n2.len];exact hc,fun q hq=>k _ _ _ (R3.drop.ba (n2.cut l u) hq)⟩
  ·cases h6
 ·cases h6
def S9:List PD→Option (List Int)
 |[]=>some []
 |.int i::r=>(S9 r).map fun l=>i::l
 |_::_=>none
def An.ints{H:Hp}:∀ {ds:List PD} {xs:List V} {ns:List Int},An H ds xs→S9 ds=some ns→xs=ns.map V.int
 |[],xs,ns,h,e=>by cases e;rw[h.nil_eq];rfl
 |.int i::r,xs,ns,h,e=>by
  unfold S9 at e;obtain⟨l,h1,rfl⟩:=aE.mp e;obtain⟨x,q,rfl,k1,k2⟩:=h.un;rw[Du]at k1;subst k1;rw[List.map_cons,k2.ints h1]
 |.none::_,_,_,_,e=>by cases e
 |.bool _::_,_,_,_,e=>by cases e
 |.str _::_,_,_,_,e=>by cases e
 |.tuple _::_,_,_,_,e=>by cases e
 |.list _::_,_,_,_,e=>by cases e
 |.dict _::_,_,_,_,e=>by cases e
def ZP:MD
 |[.list xs]=>(S9 xs).map fun ns=>.int ns.sum
 |[.tuple xs]=>(S9 xs).map fun ns=>.int ns.sum
 |_=>none
def gN(hc:X.calm=true):NT X (.builtin "sum") ZP:=by
 refine⟨_,(OZ hc).or (YI hc),fun xs z hz G0 H0 G H σ δ ts us Q R0 d k=>?_⟩;unfold ZP at hz;split at hz
 ·obtain⟨ns,h1,rfl⟩:=aE.mp hz;obtain⟨u,rfl,du⟩:=d.IP;rw[Du]at du;obtain⟨q,ys,rfl,h4,h5⟩:=du;refine .inl ⟨q,ns,rfl,by rw[←h5.ints h1];exact Ab.of (R0.ins _ _ h4),k _ _ _ (R0.put (by rw[Du]))⟩
 ·obtain⟨ns,h1,rfl⟩:=aE.mp hz;obtain⟨u,rfl,du⟩:=d.IP;rw[Du]at du;obtain⟨q,ys,rfl,h4,h5⟩:=du;refine .inr ⟨q,ns,rfl,by rw[←h5.ints h1];exact Ay.of (R0.ins _ _ h4),k _ _ _ (R0.put (by rw[Du]))⟩
 ·cases hz
end
open PySem
abbrev fC(x:PD):Dv→Option PD:=fun _=>some x
abbrev mz(f:Dv→Option PD):Dv→Option PD:=fun δ=>(f δ).bind fun x=>(Vm x).map fun i=>.int (-i)
abbrev lW(c:Dv→Option Bool)(f g:Dv→Option PD):Dv→Option PD:=fun δ=>(c δ).bind fun c=>if c=true then f δ else g δ
abbrev AG:Dv→Option (List PD):=fun _=>some []
abbrev AB(f:Dv→Option PD)(fs:Dv→Option (List PD)):Dv→Option (List PD):=fun δ=>(f δ).bind fun x=>(fs δ).map fun xs=>x::xs
abbrev Al(fs:Dv→Option (List PD)):Dv→Option PD:=fun δ=>((fs δ).bind IQ).map .tuple
abbrev BJ(fs:Dv→Option (List PD)):Dv→Option PD:=fun δ=>((fs δ).bind IQ).map .list
abbrev Aj(m:MD)(fs:Dv→Option (List PD)):Dv→Option PD:=fun δ=>(fs δ).bind m
abbrev eR(i:Nat):Dv→Option PD:=fun δ=>(ow i δ).map fun xs=>.int xs.length
abbrev SK:Dv→Option (Option Int):=fun _=>some none
abbrev R9(f:Dv→Option PD):Dv→Option (Option Int):=fun δ=>(f δ).bind fun x=>(Vm x).map some
abbrev Wf(f:Dv→Option PD)(fo fu:Dv→Option (Option Int)):Dv→Option PD:=fun δ=>(f δ).bind fun x=>(fo δ).bind fun l=>(fu δ).bind fun u=>bx x l u
abbrev Zn(f:Dv→Option PD):Dv→Option Bool:=fun δ=>(f δ).bind Q9
abbrev CJ(o:PD→PD→Option PD)(f g:Dv→Option PD):Dv→Option Bool:=fun δ=>(A8 o f g δ).bind Q9
abbrev Zb(f:Dv→Option Bool):Dv→Option Bool:=fun δ=>(f δ).map fun c=>!c
abbrev l8(f g:Dv→Option Bool):Dv→Option Bool:=fun δ=>(f δ).bind fun c=>if c=true then some true else g δ
abbrev GZ(f:Dv→Option PD):Dv→Option (List PD):=fun δ=>(f δ).bind IG
abbrev EI(m:List PD→Option (List PD))(fs:Dv→Option (List PD)):Dv→Option (List PD):=fun δ=>(fs δ).bind m
abbrev HH:Dv→Option Bool:=fun _=>some true
abbrev F4(i:Nat):PD→Dv→Option Dv:=fun y δ=>some (δ.set i (.d y))
abbrev D4:DF:=fun δ=>some (.nx δ)
abbrev CI(f:Dv→Option PD):DF:=fun δ=>(f δ).map .rt
abbrev HK(c:Dv→Option Bool)(F G:DF):DF:=fun δ=>(c δ).bind fun c=>if c=true then F δ else G δ
abbrev B1(i:Nat)(f:Dv→Option PD):DF:=fun δ=>(f δ).map fun y=>.nx (δ.set i (.d y))
abbrev Qm(i:Nat)(fs:Dv→Option (List PD)):DF:=fun δ=>((fs δ).bind IQ).map fun ys=>.nx (δ.set i (.own (.lst ys)))
abbrev W0(i:Nat)(f:Dv→Option PD):DF:=fun δ=>(f δ).bind fun y=>(ow i δ).bind fun xs=>if xs.length<Dw then some (.nx (δ.set i (.own (.lst (xs++[y]))))) else none
abbrev ZR(i:Nat)(f:Dv→Option PD):DF:=fun δ=>(f δ).bind fun y=>(ow i δ).bind fun xs=>match y with|.list zs=>(if xs.length+zs.length≤Dw then some (.nx (δ.set i (.own (.lst (xs++zs))))) else none)|_=>none
abbrev Di(fs:Dv→Option (List PD))(set:PD→Dv→Option Dv)(F:DF):DF:=fun δ=>(fs δ).bind fun xs=>FA set F xs δ
abbrev Zl(i:Nat)(F:DF):DF:=fun δ=>F (FN i δ)
abbrev Xw:DF:=fun _=>none
def FV{P:Program}{w:World}{K:Fg}{mg:Str→Option VL}{base:Heap}{CX:HZ}{k:Nat}{f:AD}{fd:FuncData}{ps:List Str}{sp:Sp}(h:∀vs H Q E,¬sp vs H Q E):AQ P w K mg base CX k f fd ps sp :=
 ⟨fun _ _ _ _ z=>(h _ _ _ _ z).elim,fun _ _ _ _ _ _ _ _ _ _ _ _ _ z=>(h _ _ _ _ z).elim⟩
def QQ{P:Program}{w:World}{K:Fg}{mg:Str→Option VL}{base:Heap}{CX:HZ}{k:Nat}{f:AD}{fd:FuncData}{ps:List Str}{sp:Sp}{m:MD}(F:AQ P w K mg base CX k f fd ps sp)
 (h:∀ds x,m ds=some x→∀(G H:Hp) (vs:List V) (Q:VK) (E:XK),An G ds vs→AK G H→(∀v G' H',AK G G'→Nw G H G'→AK G' H'→AK H H'→Du G' x v→Q v H')→sp vs H Q E):AQ P w K mg base CX k f fd ps (Bz m) :=
 F.imp fun vs H Q E z=>by
  obtain⟨ds,x,G,h1,h2,h3,h4⟩:=z;exact h ds x h1 G H vs Q E h2 h3 h4
def A6(G H:Hp):Hp:=fun a=>match H a with
 |some (.tup xs)=>some (.tup xs)
 |_=>G a
def a9{G H:Hp}{a:AD}{xs:List V}(h:H a=some (.tup xs)):A6 G H a=some (.tup xs):=by unfold A6;rw[h]
section
variable{G0 H0 G H:Hp}{σ:St}{δ:Dv}{ts:List (PD×V)}
def Rw.A6(r:Rw G0 H0 G H σ δ ts):Rw G0 H0 (L2.A6 G H) H σ δ ts:=by
 have e:AK G (L2.A6 G H):=fun a o h=>by
  unfold L2.A6;split
  ·rename_i xs hx;rw[r.ins _ _ h]at hx;exact hx.symm ▸ rfl
  ·exact h
 refine⟨r.ext.trans e,fun a o h=>?_,fun a o h=>?_,r.keep,r.len,fun i x h=>?_,fun i xs h=>?_,r.apart,fun q hq=>(r.CD q hq).same e⟩
 ·unfold L2.A6 at h;split at h
  ·cases h;exact .inr (.inr ⟨_,rfl⟩)
  ·exact r.new _ _ h
 ·unfold L2.A6 at h;split at h
  ·rename_i xs hx;rw[hx];exact h
  ·exact r.ins _ _ h
 ·obtain⟨v,k1,k2⟩:=r.dat i x h;exact⟨v,k1,k2.same e⟩
 ·obtain⟨a,ys,k1,k2,k3,k4,k5⟩:=r.own i xs h;refine⟨a,ys,k1,?_,k3,k4,k5.same e⟩;unfold L2.A6;rw[k4];split
  ·rename_i q;cases q;exact k5.SS.elim
  ·exact k2
end
def M7{G:Hp}:∀ {t:Tr} {xs:List V},An G (Bn t) xs→Ts G t xs
 |.nil,xs,h=>by rw[Bn]at h;rw[Ts];exact h.nil_eq
 |.cons b r,xs,h=>by
  rw[Bn]at h;obtain⟨x,q,rfl,h1,h2⟩:=h.un;rw[Du]at h1;obtain⟨a,ys,rfl,h3,h4⟩:=h1;rw[Ts];exact⟨a,ys,q,rfl,h3,M7 h4,M7 h2⟩
def Pn{G H:Hp}:∀ {t:Tr} {xs:List V},Ts H t xs→An (A6 G H) (Bn t) xs
 |.nil,xs,h=>by rw[Ts]at h;rw[Bn,h];exact .nil
 |.cons b r,xs,h=>by
  rw[Ts]at h;obtain⟨a,ys,zs,rfl,h1,h2,h3⟩:=h;rw[Bn];refine .cons ?_ (Pn h3);rw[Du];exact⟨a,ys,rfl,a9 h1,Pn h2⟩
mutual
def O5:∀ {ds:List PD} {t:Tr},Bk ds=some t→ds=Bn t
 |[],t,h=>by rw[Bk]at h;cases h;rw[Bn]
 |d::ds,t,h=>by
  rw[Bk]at h;obtain⟨b,h1,h2⟩:=aB.mp h;obtain⟨r,h3,rfl⟩:=aE.mp h2;rw[Bn,←dq h1,←O5 h3]
def dq:∀ {d:PD} {t:Tr},Au d=some t→d=.tuple (Bn t)
 |.tuple ds,t,h=>by rw[Au]at h;rw[O5 h]
 |.none,_,h=>by simp[Au]at h
 |.bool _,_,h=>by simp[Au]at h
 |.int _,_,h=>by simp[Au]at h
 |.str _,_,h=>by simp[Au]at h
 |.list _,_,h=>by simp[Au]at h
 |.dict _,_,h=>by simp[Au]at h
end
def j8(rev:Bool)(t:Tr):Option PD:=if t.bs.length<64∧t.deep≤60 then some (.list (Bn (Tr.of (if rev then Tr.CL t.bs else(Tr.CL t.bs).reverse)))) else none
def Le(rev:Bool):MD
 |[x]=>(IG x).bind fun ds=>(Bk ds).bind (j8 rev)
 |_=>none
section
variable{X:Cx}{a b c e:Expr}{es:List Expr}{f g h:Dv→Option PD}{fs:Dv→Option (List PD)}{fa:Dv→Option Bool}{pos p:Pos}
def VV{rev:Bool}{G0 H0 G H:Hp}{σ:St}{δ:Dv}{ts:List (PD×V)}{x z:PD}{u:V}{Q:VK}(R0:Rw G0 H0 G H σ δ ts)(du:Du G x u)(hz:Le rev [x]=some z)(k:∀w G' H',Rw G0 H0 G' H' σ δ ((z,w)::ts)→Q w H') :
  ∃(p:AD) (ys:List V) (t:Tr),[u]=[.ref p]∧(Ab X.K H p ys∨Ay X.K H p ys)∧Ts H t ys∧ys.length<64∧t.deep≤60∧∀(l:AD) (zs:List V),H l=none→Ts H (Tr.of (if rev then Tr.CL t.bs else(Tr.CL t.bs).reverse)) zs→Q (.ref l) (upd H l (.lst zs)):=by
 unfold Le at hz;obtain⟨ds,h1,h2⟩:=aB.mp hz;obtain⟨t,h3,h4⟩:=aB.mp h2;unfold j8 at h4;split at h4
 ·rename_i hc;cases h4;have hds:=O5 h3;obtain⟨bb,a,ys,rfl,n1,n2⟩:=Mn du h1;rw[hds]at n2;have ht:=(M7 n2).same R0.ins;have hl:ys.length=t.bs.length:=by rw[ht.len]
  refine⟨a,ys,t,rfl,?_,ht,by omega,hc.2,fun l zs hl' hz'=>?_⟩
  ·have:=R0.ins _ _ n1;cases bb
   ·exact .inl (Ab.of (by simpa using this))
   ·exact .inr (Ay.of (by simpa using this))
  ·have R1:=R0.A6;exact k _ _ _ (R1.SY (Pn hz') hl')
 ·cases h4
def en(hu:X.A.units+64<cLine):NT X (.builtin "sorted") (Le false):=by
 refine⟨_,Y4 hu,fun xs z hz G0 H0 G H σ δ ts us Q R0 d k=>?_⟩;cases xs with
 |nil=>cases hz
 |cons x r =>
  cases r with
  |cons y q=>cases hz
  |nil =>
   obtain⟨u,rfl,du⟩:=d.IP;exact VV R0 du hz k
def bz{e:Expr}{p pos kp kp2:Pos}{j}(hu:X.A.units+64<cLine)(hg:Gl X "sorted")(hm:X.mg "sorted" = none)(ha:DA X [e] fs)
 (hP:∀ {t:TA},PA X [e] t→PE X (.Call (.Name "sorted" p) [e] [⟨some "reverse",.Constant (.bool true) j kp2,kp⟩] pos) (fun σ H Q=>t σ H fun vs H1=>YY X.K vs H1 Q)) :
  DE X (.Call (.Name "sorted" p) [e] [⟨some "reverse",.Constant (.bool true) j kp2,kp⟩] pos) (Aj (Le true) fs):=by
 obtain⟨t,p,k⟩:=ha;refine⟨_,hP p,fun δ z hz G0 H0 G H σ ts Q R0 q=>?_⟩;obtain⟨xs,h1,h2⟩:=aB.mp hz;refine k δ _ h1 G0 H0 G H σ ts _ R0 fun vs G1 H1 R1 hv=>?_;obtain⟨d,R2⟩:=R1.args hv;cases xs with
 |nil=>cases h2
 |cons x r =>
  cases r with
  |cons y q=>cases h2
  |nil =>
   obtain⟨u,rfl,du⟩:=d.IP;exact VV (rev:=true) R2 du h2 q
def jw(x k:PD):Option PD:=match x,k with
 |.list xs,.int i=>if i=-1 then some (.list xs.reverse) else none
 |_,_=>none
abbrev fq(f g:Dv→Option PD):Dv→Option PD:=A8 jw f g
def gG{p2:Pos}{k:Expr}(he:DE X e f)(hk:DE X k g):DE X (.Subscript e (.Slice none none (some k) p2) pos) (fq f g):=by
 obtain⟨te,pe,ke⟩:=he;obtain⟨tk,pk,kk⟩:=hk;refine⟨_,iw pe pk,fun δ z hz G0 H0 G H σ ts Q R0 k=>?_⟩;obtain⟨x,y,h1,h2,h3⟩:=two (x:=.none) (y:=.none) hz;refine ke δ x h1 G0 H0 G H σ ts _ R0 fun u G1 H1 R1=>?_;refine kk δ y h2 G0 H0 G1 H1 σ _ _ R1 fun v G2 H2 R2=>?_;have du:=R2.CD (x,u) (.tail _ (.head _));have dv:=R2.CD (y,v) (.head _);unfold jw at h3;split at h3
 ·split at h3
  ·rename_i hi;cases h3;subst hi;rw[Du]at du;rw[Du]at dv;obtain⟨a,ys,rfl,n1,n2⟩:=du;exact⟨a,ys,rfl,dv,Ab.of (R2.ins _ _ n1),fun q hq=>k _ _ _ (R2.drop.drop.SY n2.rev hq)⟩
  ·cases h3
 ·cases h3
end
section
variable{G0 H0 G H:Hp}{σ:St}{δ:Dv}{ts:List (PD×V)}
def Rw.on{H':Hp}(r:Rw G0 H0 G H σ δ ts)(e:AK H H'):Rw G0 H0 G H' σ δ ts:=r.lift (AK.refl _) Nw.refl (r.ins.trans e) e
end
section
variable{F F1 F2:DF}{δ δ':Dv}{r:Option Ou}{c:Dv→Option Bool}{f g:Dv→Option PD}{fs:Dv→Option (List PD)}
def A0(h:F1 δ=some (.nx δ'))(k:F2 δ'=r):Ar F1 F2 δ=r:=by unfold Ar;rw[h];exact k
def G7{x:PD}(h:F1 δ=some (.rt x)):Ar F1 F2 δ=some (.rt x):=by unfold Ar;rw[h]
def JP(h:c δ=some true)(k:F1 δ=r):HK c F1 F2 δ=r:=by show(c δ).bind _=r;rw[h];exact k
def Ds(h:c δ=some false)(k:F2 δ=r):HK c F1 F2 δ=r:=by show(c δ).bind _=r;rw[h];exact k
def Df{i:Nat}{y:PD}(h:f δ=some y):B1 i f δ=some (.nx (δ.set i (.d y))):=by show(f δ).map _=_;rw[h];rfl
def Jf{y:PD}(h:f δ=some y):CI f δ=some (.rt y):=by show(f δ).map _=_;rw[h];rfl
def Bf{o:PD→PD→Option PD}{x y:PD}{z:Option PD}(h1:f δ=some x)(h2:g δ=some y)(h3:o x y=z):A8 o f g δ=z:=by unfold A8;rw[h1,h2];exact h3
def B2{m:MD}{xs:List PD}{z:Option PD}(h1:fs δ=some xs)(h2:m xs=z):Aj m fs δ=z:=by show(fs δ).bind m=z;rw[h1];exact h2
def Cm{x:PD}{xs:List PD}(h1:f δ=some x)(h2:fs δ=some xs):AB f fs δ=some (x::xs):=by show(f δ).bind _=_;rw[h1];show(fs δ).map _=_;rw[h2];rfl
def Ve{xs:List PD}(h:fs δ=some xs)(hl:xs.length≤Dw):BJ fs δ=some (.list xs):=by show((fs δ).bind IQ).map _=_;rw[h];show(IQ xs).map _=_;unfold IQ;rw[if_pos hl];rfl
def ed{xs:List PD}(h:fs δ=some xs)(hl:xs.length≤Dw):Al fs δ=some (.tuple xs):=by show((fs δ).bind IQ).map _=_;rw[h];show(IQ xs).map _=_;unfold IQ;rw[if_pos hl];rfl
def Gn{o:PD→PD→Option PD}{x y:PD}{b:Bool}(h1:f δ=some x)(h2:g δ=some y)(h3:o x y=some (.bool b)):CJ o f g δ=some b:=by show(A8 o f g δ).bind Q9=_;rw[Bf h1 h2 h3];rfl
def NZ{a:Dv→Option Bool}{b:Bool}(h:a δ=some b):Zb a δ=some (!b):=by show(a δ).map _=_;rw[h];rfl
def NV{b:Bool}(h:f δ=some (.bool b)):Zn f δ=some b:=by show(f δ).bind Q9=_;rw[h];rfl
def Sw{set:PD→Dv→Option Dv}(Iv:Nat→Dv→Prop):∀(xs:List PD) (δ:Dv) (n:Nat),Iv n δ→(∀(i:Nat) (x:PD) (δ:Dv),xs[i]? = some x→Iv (n+i) δ→∃δ1 δ2,set x δ=some δ1∧F δ1=some (.nx δ2)∧Iv (n+i+1) δ2) →
  ∃δ',FA set F xs δ=some (.nx δ')∧Iv (n+xs.length) δ'
 |[],δ,n,h,_=>⟨δ,rfl,h⟩
 |x::xs,δ,n,h,k=>by
  obtain⟨δ1,δ2,h1,h2,h3⟩:=k 0 x δ rfl h;obtain⟨δ',h4,h5⟩:=Sw Iv xs δ2 (n+1) h3 fun i y δ hy hv=>by
   have:=k (i+1) y δ (by simpa using hy) (by rw[show n+(i+1)=n+1+i by omega];exact hv);rw[show n+(i+1)+1=n+1+i+1 by omega]at this;exact this
  refine⟨δ',?_,by rw[List.length_cons,show n+(xs.length+1)=n+1+xs.length by omega];exact h5⟩;unfold FA;rw[h1,Option.bind_some,h2];exact h4
def bg{set:PD→Dv→Option Dv}{xs:List PD}(Iv:Nat→Dv→Prop)(hx:fs δ=some xs)(h0:Iv 0 δ)(hs:∀(i:Nat) (x:PD) (δ:Dv),xs[i]? = some x→Iv i δ→∃δ1 δ2,set x δ=some δ1∧F δ1=some (.nx δ2)∧Iv (i+1) δ2) :
  ∃δ',Di fs set F δ=some (.nx δ')∧Iv xs.length δ':=by
 obtain⟨δ',h1,h2⟩:=Sw (F:=F) (set:=set) Iv xs δ 0 h0 fun i x δ hx hv=>by
  have:=hs i x δ hx (by simpa using hv)
  simpa using this
 refine⟨δ',?_,by simpa using h2⟩;show(fs δ).bind _=_;rw[hx];exact h1
def Nu{one:PD→Option (Option PD)}{g:PD→PD}:∀ {xs:List PD},(∀x∈xs,one x=some (some (g x)))→collect one xs=some (xs.map g)
 |[],_=>rfl
 |x::xs,h=>by
  unfold collect;rw[h x (.head _),Option.bind_some,Nu fun y hy=>h y (.tail _ hy)]
  rfl
def comp_map{ix:Nat}{fr:List (Option Nat)}{xs:List PD}{g:PD→PD}(hx:fs δ=some xs)(hl:xs.length≤Dw)(h:∀x∈xs,f ((Eb fr δ).set ix (.d x))=some (g x)):GI (Dx ix) HH f fr fs δ=some (.list (xs.map g)):=by
 unfold GI HS;rw[hx,Option.bind_some,Nu (g:=g) fun x hx=>?_,Option.bind_some,IQ,if_pos (by rw[List.length_map];exact hl)]
 ·rfl
 ·unfold Oy Dx;rw[Option.bind_some];show(some true).bind _=_;rw[Option.bind_some,if_pos rfl,h x hx]
  rfl
end
def E1{ps N:List Str}{F:DF}{ds:List PD}{x:PD}(hl:ds.length=ps.length)(h:F (Ih N ds)=some (.rt x)):Dr ps N F ds=some x:=by unfold Dr;rw[if_pos hl,h]
def Qe{lo:Int}{n i:Nat}{x:PD}(h:(Hx lo n)[i]? = some x):x=.int (lo+(i:Nat))∧i<n:=by
 unfold Hx at h;rw[List.getElem?_map]at h;obtain⟨j,hj,rfl⟩:=aE.mp h;have hl:=(aC.mp hj).1;rw[List.getElem?_range (by simpa using hl)]at hj;cases hj;exact⟨rfl,by simpa using hl⟩
def Yj{n:Nat}{i:Int}(h:i.natAbs<2^n):I0 n i=true:=bQ h
def jG{i j:Int}(h:P4 i j=true):Jz (.int i) (.int j)=some (.int (i*j)):=by
 show Qy Wa WQ (.int i) (.int j)=_;unfold Qy;rw[show Wa (.int i) (.int j)=some (.int (i*j)) from if_pos h]
def mul_r{i j:Int}(h:j.natAbs<2^64):Jz (.int i) (.int j)=some (.int (i*j)):=jG (by unfold P4;rw[Yj h];simp)
def mod_is{i j:Int}(h:0<j):GY (.int i) (.int j)=some (.int (i % j)):=by
 show(if j≠0 then some (PyData.int (i.fmod j)) else none)=_;rw[if_pos (by omega),Int.fmod_eq_emod_of_nonneg _ (by omega)]
def Y0{i:Int}{n:Nat}(hn:n≤1000)(hi:I0 64 i=true):M4 (.int i) (.int (n:Int))=some (.int (i^n)):=by
 show(if 0≤(n:Int)∧(n:Int)≤1000∧I0 64 i=true then some (PyData.int (i^(n:Int).toNat)) else none)=_;rw[if_pos ⟨by omega,by omega,hi⟩,Int.toNat_natCast]
def Mz(C:AD):PD:=.dict [(.int (C:Nat),.none)]
def E9(ns:List Int):PD:=.dict [(.none,.list (ns.map .int))]
def Xo{H:Hp}{a:AD}{ns:List Int}(h:Rd H a (.lst (ns.map V.int))):Du H (E9 ns) (.ref a):=by unfold E9;rw[Du];exact .inr (.inl ⟨a,ns,rfl,rfl,h⟩)
def R6(K:Fg):Bool:=K.all fun p=>match p.2.cls with|.type n=>n != "list" |_=>true
def OC{a:AD}{o:Obj}:∀ {K:Fg},K.lookup a=some o→(a,o)∈K
 |[],h=>by cases h
 |(b,u)::K,h=>by
  rw[List.lookup_cons]at h;split at h
  ·rename_i e;cases h;rw[show a=b from by simpa using e];exact .head _
  ·exact .tail _ (OC h)
def hV{K:Fg}{H:Hp}{a:AD}{xs:List V}(hK:R6 K=true)(h:Ab K H a xs):Rd H a (.lst xs):=by
 rcases h with h|⟨o,its,n,h1,h2,_⟩
 ·exact h
 ·unfold R6 at hK;rw[List.all_eq_true]at hK;have:=hK _ (OC h1);rw[h2]at this;exact absurd this (by decide)
abbrev Xr:=PD ⊕ AD
def FK(g:List PD→Option Xr):Sp:=fun vs H Q E=>∃ds r G,g ds=some r∧An G ds vs∧AK G H∧match r with
 |.inl x=>∀v G' H',AK G G'→Nw G H G'→AK G' H'→AK H H'→Du G' x v→Q v H'
 |.inr C=>∀H',AK H H'→E (.ref C) none H'
abbrev cC:=Ou ⊕ AD
abbrev Fb:=Dv→Option cC
def ij(G0 H0:Hp)(D:Ends)(E:XK):cC→Prop
 |.inl o=>Fin G0 H0 D o
 |.inr C=>∀H',AK H0 H'→E (.ref C) none H'
def DX(X:Cx)(E:XK)(st:Stmt)(F:Fb):Prop:=∃t,PS X st t∧∀δ r,F δ=some r→∀G0 H0 G H σ D,Rw G0 H0 G H σ δ []→ij G0 H0 D E r→t D σ H
def Q0(X:Cx)(E:XK)(sts:List Stmt)(F:Fb):Prop:=∃t,HI X sts t∧∀δ r,F δ=some r→∀G0 H0 G H σ D,Rw G0 H0 G H σ δ []→ij G0 H0 D E r→t D σ H
section
variable{X:Cx}{E:XK}{a b c e:Expr}{es:List Expr}{f g h:Dv→Option PD}{fs:Dv→Option (List PD)}{fa:Dv→Option Bool}{pos p:Pos}{st:Stmt}{sts sts':List Stmt}{F F1 F2:DF}{J J1 J2:Fb}
def ZU{t:TS}(h:HI X.Gv sts t):HI X sts t:=fun pins s σ H D I k=>aU (h pins s σ H D (I.F3 _) k) (fun _ _ z=>z.Dj) fun _ _ z=>z.elim
def W9{t:TE}(h:PE X.Gv e t):PE X e t:=fun pins s σ H Q I k=>aU (h pins s σ H Q (I.F3 _) k) (fun _ _ ⟨v,H',I',r,q⟩=>⟨v,H',I'.Dj,r,q⟩) fun _ _ z=>z.elim
def ie{t:TT}(h:PT X.Gv e t):PT X e t:=fun pins s σ H Q I k=>aU (h pins s σ H Q (I.F3 _) k) (fun _ _ ⟨H',I',q⟩=>⟨H',I'.Dj,q⟩) fun _ _ z=>z.elim
def Xn{t:TA}(h:PA X.Gv es t):PA X es t:=fun p pins s σ H Q I k=>aU (h p pins s σ H Q (I.F3 _) k) (fun _ _ ⟨v,H',I',r,q⟩=>⟨v,H',I'.Dj,r,q⟩) fun _ _ z=>z.elim
abbrev XO(F:DF):Fb:=fun δ=>(F δ).map .inl
def Sx(h:Mc X.Gv sts F):Q0 X E sts (XO F):=by
 obtain⟨t,p,k⟩:=h;refine⟨t,ZU p,fun δ r h G0 H0 G H σ D R q=>?_⟩;obtain⟨o,h1,rfl⟩:=aE.mp h;exact k δ o h1 G0 H0 G H σ D R q
def Jq(J1 J2:Fb)(δ:Dv):Option cC:=match J1 δ with
 |some (.inl (.nx δ'))=>J2 δ'
 |o=>o
def Uw:Q0 X E [] (fun δ=>some (.inl (.nx δ))):=⟨_,BL,fun δ r h G0 H0 G H σ D R k=>by cases h;exact k _ _ _ R⟩
def LY(h:DX X E st J):Q0 X E [st] J:=by
 obtain⟨t,p,k⟩:=h;exact⟨t,AX p,k⟩
def Jw(h1:DX X E st J1)(h2:Q0 X E sts J2):Q0 X E (st::sts) (Jq J1 J2):=by
 obtain⟨t1,p1,k1⟩:=h1;obtain⟨t2,p2,k2⟩:=h2;refine⟨_,AN p1 p2,fun δ r h G0 H0 G H σ D R q=>?_⟩;unfold Jq at h;split at h
 ·rename_i δ' e1;exact k1 δ _ e1 G0 H0 G H σ _ R fun σ' G' H' R'=>k2 δ' r h G0 H0 G' H' σ' D R' q
 ·rename_i o hn;cases r with
  |inr C=>exact k1 δ _ h G0 H0 G H σ _ R q
  |inl o' =>
   cases o' with
   |nx δ'=>exact absurd h (hn δ')
   |rt x=>exact k1 δ _ h G0 H0 G H σ _ R q
   |bk x=>exact k1 δ _ h G0 H0 G H σ _ R q
   |ct x=>exact k1 δ _ h G0 H0 G H σ _ R q
   |rn x=>exact k1 δ _ h G0 H0 G H σ _ R q
abbrev YU(c:Dv→Option Bool)(J1 J2:Fb):Fb:=fun δ=>(c δ).bind fun b=>if b=true then J1 δ else J2 δ
def cV(hc:DT X.Gv c fa)(h1:Q0 X E sts J1)(h2:Q0 X E sts' J2):DX X E (.If c sts sts' pos) (YU fa J1 J2):=by
 obtain⟨tc,pc,kc⟩:=hc;obtain⟨t1,p1,k1⟩:=h1;obtain⟨t2,p2,k2⟩:=h2;refine⟨_,Bw (ie pc) p1 p2,fun δ r h G0 H0 G H σ D R q=>?_⟩;obtain⟨b,h3,h4⟩:=aB.mp h;refine kc δ _ h3 G0 H0 G H σ [] _ R fun G1 H1 R1=>?_;split
 ·rename_i hb;rw[if_pos hb]at h4;exact k1 δ r h4 G0 H0 G1 H1 σ D R1 q
 ·rename_i hb;rw[if_neg hb]at h4;exact k2 δ r h4 G0 H0 G1 H1 σ D R1 q
abbrev TJ(C:AD)(f:Dv→Option PD):Fb:=fun δ=>(f δ).map fun _=>.inr C
def TR{x:Str}{C:AD}{np cpos:Pos}(T:Exc X.K X.mg x C)(hL:Lets X E)(he:DE X.Gv e f)(hcalm:X.calm=true:=by rfl)(hg:Gl X x:=by rfl)(hd:(x==("__debug__" : Str))=false:=by decide)
 (hst:starEach [e] X.env=[(false,eval e X.env)]:=by rfl):DX X E (.Raise (some (.Call (.Name x np) [e] [] cpos)) none pos) (TJ C f):=by
 obtain⟨t,p,k⟩:=he;refine⟨_,Zj T hL hcalm hg (W9 p) hd hst,fun δ r h G0 H0 G H σ D R q=>?_⟩;obtain⟨y,h1,rfl⟩:=aE.mp h;exact k δ y h1 G0 H0 G H σ [] _ R fun v G' H' R'=>q _ R'.keep
def XA{k:Nat}{m:List PD→Option Xr}{ta:TA}(ka:∀δ xs,fs δ=some xs→∀G0 H0 G H σ ts (Q:List V→Hp→Prop),Rw G0 H0 G H σ δ ts→(∀vs G' H',Rw G0 H0 G' H' σ δ (xs.zip vs++ts)→vs.length=xs.length→Q vs H')→ta σ H Q)
 {δ:Dv}{r:Xr}(hz:(fs δ).bind m=some r){G0 H0 G H:Hp}{σ:St}{Q:VK}{E':XK}(R:Rw G0 H0 G H σ δ [])(q1:∀x,r=.inl x→∀v G' H',Rw G0 H0 G' H' σ δ [(x,v)]→Q v H')(q2:∀C,r=.inr C→∀G' H',Rw G0 H0 G' H' σ δ []→E' (.ref C) none H') :
  ta σ H fun vs H1=>FK m (vs++[]) H1 Q E':=by
 obtain⟨xs,h1,h2⟩:=aB.mp hz;refine ka δ _ h1 G0 H0 G H σ [] _ R fun vs G1 H1 R1 hv=>?_;obtain⟨d,R2⟩:=R1.args hv;refine⟨xs,r,G1,h2,by rw[List.append_nil];exact d,R2.ins,?_⟩;cases r with
 |inl x=>exact fun v G' H' h3 h4 h5 h6 h7=>q1 x rfl _ _ _ ((R2.lift h3 h4 h5 h6).put h7)
 |inr C=>exact fun H' h=>q2 C rfl _ _ (R2.on h)
section
variable{k:Nat}{fA:AD}{fd:FuncData}{ps:List Str}{m:List PD→Option Xr}{x:Str}{st':Stmt}
abbrev K5(m:List PD→Option Xr)(fs:Dv→Option (List PD))(nx:PD→Dv→Ou):Fb:=fun δ=>((fs δ).bind m).map fun r=>match r with
 |.inl x=>.inl (nx x δ)
 |.inr C=>.inr C
def Lg(T:Fn X.K X.mg x st' ps fA fd)(F:AQ X.prog X.w X.K X.mg X.base (Cb X.prog X.w) k fA fd ps (FK m))(hr:Cs k X.A)(hP:Passes (Cb X.prog X.w) X E)(ha:DA X.Gv (e::es) fs)
 {pos2:Pos}(hP2:∀ {t:TE},PE X (.Call (.Name x p) (e::es) [] pos) t→PS X (.Expr (.Call (.Name x p) (e::es) [] pos) pos2) (SG t))
 (hg:Gl X x:=by rfl)(hdb:(x==("__debug__" : Str))=false:=by decide)(he:starEach (e::es) X.env=(false,eval e X.env)::starEach es X.env:=by rfl)(hpl:(backTo pos (starEach es X.env)).any (·.1)=false:=by rfl) :
  DX X E (.Expr (.Call (.Name x p) (e::es) [] pos) pos2) (K5 m fs fun _ δ=>.nx δ):=by
 obtain⟨ta,pa,ka⟩:=ha;refine⟨_,hP2 (Yt T F hr hg hP (Xn pa) hdb he hpl),fun δ r h G0 H0 G H σ D R q=>?_⟩;obtain⟨z,h1,rfl⟩:=aE.mp h;refine XA (k:=k) ka h1 R (fun x hx v G' H' R'=>?_) (fun C hC G' H' R'=>?_)
 ·subst hx;exact q _ _ _ R'.drop
 ·subst hC;exact q _ R'.keep
end
end
def Rw.kz{G0 H0 G H:Hp}{σ:St}{δ:Dv}{ts:List (PD×V)}(k:Nat)(o:Option V)(r:Rw G0 H0 G H σ δ ts):Rw G0 H0 G H (σ.set k o) (δ.set k .no) ts:=by
 have ne:∀(j:Nat) (l:L),l≠.no→(δ.set k .no)[j]? = some l→k≠j∧δ[j]? = some l:=fun j l hl h=>by
  by_cases hj:k=j
  ·subst hj;by_cases hi:k<δ.length
   ·rw[List.getElem?_set_self hi]at h;cases h;exact absurd rfl hl
   ·rw[List.getElem?_eq_none (by simp;omega)]at h;cases h
  ·rw[List.getElem?_set_ne hj]at h;exact⟨hj,h⟩
 refine⟨r.ext,r.new,r.ins,r.keep,by simp[r.len],fun j y h=>?_,fun j zs h=>?_,fun j l us ws hjl h1 h2=>?_,r.CD⟩
 ·obtain⟨n,h⟩:=ne j _ (by simp) h;obtain⟨w,m1,m2⟩:=r.dat j y h;exact⟨w,by rw[List.getElem?_set_ne n];exact m1,m2⟩
 ·obtain⟨n,h⟩:=ne j _ (by simp) h;obtain⟨b,us,m1,m2⟩:=r.own j zs h;exact⟨b,us,by rw[List.getElem?_set_ne n];exact m1,m2⟩
 ·obtain⟨n1,h1⟩:=ne j _ (by simp) h1;obtain⟨n2,h2⟩:=ne l _ (by simp) h2;rw[List.getElem?_set_ne n1,List.getElem?_set_ne n2];exact r.apart j l us ws hjl h1 h2
section
variable{X:Cx}{E:XK}{a b c e:Expr}{es:List Expr}{f g h:Dv→Option PD}{fs:Dv→Option (List PD)}{fa:Dv→Option Bool}{pos p:Pos}
def je(T:AD→Option Bool):PD→Option PD
 |.dict [(.int C,.none)]=>(T C.toNat).map .bool
 |_=>none
abbrev QI(T:AD→Option Bool)(f:Dv→Option PD):Dv→Option PD:=fun δ=>(f δ).bind (je T)
def Pd{T:AD→Option Bool}{cv:V}{xT:Str}{p1 p2:Pos}(hk:∀C b,T C=some b→Fj X.K C∧PySem.W.kitOne X.K (.ref C) (F8 cv)=some b)(hn:F8 cv≠.none)(hg:Gl X "isinstance")(hm:X.mg "isinstance" = none)(hT:PE X (.Name xT p2) (tC cv))(ha:DE X a f)
 (hs1:starEach [a,.Name xT p2] X.env=(false,eval a X.env)::starEach [.Name xT p2] X.env:=by rfl)(hpl:(backTo pos (starEach [.Name xT p2] X.env)).any (·.1)=false:=by rfl) :
  DE X (.Call (.Name "isinstance" p1) [a,.Name xT p2] [] pos) (QI T f):=by
 obtain⟨ta,pa,ka⟩:=ha;refine⟨_,BC Yg hg hm aq (AE pa (AE hT AL) hs1) (by decide) (by decide) hs1 hpl,fun δ z hz G0 H0 G H σ ts Q R0 k=>?_⟩;obtain⟨x,h1,h2⟩:=aB.mp hz;unfold je at h2;split at h2
 ·rename_i C;obtain⟨bb,h3,rfl⟩:=aE.mp h2;refine ka δ _ h1 G0 H0 G H σ ts _ R0 fun u G1 H1 R1=>?_;have du:=R1.CD _ (.head _);rw[Du]at du;rcases du with ⟨ea,C',e1,rfl,h4⟩|⟨_,_,e1,_⟩|z
  rotate_left
  ·simp at e1
  ·rw[LK]at z;cases z.1
  have:C=(C':Nat):=by simpa using e1
  subst this;obtain⟨k1,k2⟩:=hk _ _ h3;rw[Int.toNat_natCast]at k1 k2;exact⟨ea,C',cv,bb,rfl,hn,R1.ins _ _ h4,k1,k2,k _ _ _ (R1.drop.put (by rw[Du]))⟩
 ·cases h2
end
def GQ(ps N:List Str)(J:Fb)(ds:List PD):Option Xr:=if ds.length=ps.length then(match J (Ih N ds) with
 |some (.inl (.rt x))=>some (.inl x)
 |some (.inl (.nx _))=>some (.inl .none)
 |some (.inl (.rn xs))=>some (.inl (.list xs))
 |some (.inr C)=>some (.inr C)
 |_=>none) else none
section
variable{P:Program}{w:World}{K:Fg}{mg:Str→Option VL}{base:Heap}{x:Str}{st:Stmt}{fA:AD}{fd:FuncData}{N ps:List Str}{k:Nat}
def cT{qual:Str}{scope:Scope}{cd:VL}{A:Around}{outer:List Env}{s:SD}{H:Hp}{E:XK} :
  Lets (Cp (Cb P w) P w K mg base N qual scope fA cd A outer s H E) E:=fun _ _ _ _ _ _ _ _ I hx hE=>d8 I hx hE
def MA{qual:Str}{scope:Scope}{cd:VL}{A:Around}{outer:List Env}{s:SD}{H:Hp}{E:XK}:Passes (Cb P w) (Cp (Cb P w) P w K mg base N qual scope fA cd A outer s H E) E:=k7 fun _ _ _ z=>z
def Qz{J:Fb}(T:Fn K mg x st ps fA fd)(S:Aa N ps (AV st))
 (hb:∀(cdv:VL) (A:Around) (outer:List Env) (s:SD) (H:Hp) (E:XK),Cs k (A.deeper (envOfC x (AV st) s.heap.objs.size fA cdv))→Q0 (Cp (Cb P w) P w K mg base N x (AV st) fA cdv A outer s H E) E (DH st) J) :
  AQ P w K mg base (Cb P w) (k+1) fA fd ps (FK (GQ ps N J)):=by
 refine T.F.oQ S (fun vs H Q E h=>?_) fun cdv A outer s H vs Q E hr h=>?_
 ·obtain⟨ds,y,G,h1,h2,_⟩:=h;unfold GQ at h1;split at h1
  ·rename_i hl;rw[h2.len];exact hl
  ·cases h1
 ·obtain⟨ds,y,G,h1,h2,h3,h4⟩:=h;obtain⟨t,p,kk⟩:=hb cdv A outer s H E hr;refine⟨t,p,?_⟩;unfold GQ at h1;split at h1
  ·split at h1
   ·rename_i z e1;cases h1;exact kk _ _ e1 G H G H _ _ (Rw.start h2 h3) fun v G' H' m1 m2 m3 m4 m5=>h4 v G' H' m1 m2 m3 m4 m5
   ·rename_i δ e1;cases h1;exact kk _ _ e1 G H G H _ _ (Rw.start h2 h3) fun σ' G' H' R=>h4 .BF G' H' R.ext R.new R.ins R.keep (by rw[Du])
   ·rename_i xs e1;cases h1;exact kk _ _ e1 G H G H _ _ (Rw.start h2 h3) fun a ys G' H' m1 m2 m3 m4 m5 m6 m7 m8=>let⟨n1,n2,n3,n4⟩:=cI m1 m2 m3 m5 m6 m7 m8;h4 _ _ H' n1 n2 n3 m4 n4
   ·rename_i C e1;cases h1;exact kk _ _ e1 G H G H _ _ (Rw.start h2 h3) h4
   ·cases h1
  ·cases h1
end
abbrev Vz(fs:Dv→Option (List PD)):DF:=fun δ=>(fs δ).map .rn
abbrev SN(i:Nat):DF:=fun δ=>(ow i δ).map .rn
section
variable{X:Cx}{a b c e:Expr}{es:List Expr}{f g h:Dv→Option PD}{fs:Dv→Option (List PD)}{fa:Dv→Option Bool}{pos p:Pos}
def QH{i:Nat}{x:Str}{np:Pos}(hv:PE X (.Name x np) (OU i)):DS X (.Return (some (.Name x np)) pos) (SN i):=by
 refine⟨_,A3 hv,fun δ r h G0 H0 G H σ D R q=>?_⟩;obtain⟨xs,h1,rfl⟩:=aE.mp h;obtain⟨a,_,k1,k2,k3,k4,⟨ys,rfl,k5⟩⟩:=R.own i _ (Rz h1);exact⟨.ref a,k1,q a ys G H R.ext R.new R.ins R.keep k3 k2 k4 k5⟩
end
section
variable{X:Cx}{elt iter:Expr}{x y:Str}{px py tp pos spos:Pos}{tk:Nat}{ifs:List Expr}{scope:Scope}{fs:Dv→Option (List PD)}{tif:Dv→Option Bool}{f:Dv→Option PD}
def eT(N:List Str)(ix:Nat)(fr:List (Option Nat))(hi:DI X (.Name x px) iter fs)(hif:∀cl C s₀ H₀ fp,jK (A9 X scope cl N C s₀ H₀ fp) ifs tif)(he:∀cl C s₀ H₀ fp,DE (A9 X scope cl N C s₀ H₀ fp) elt f)
 (h1:Dc scope N x ix=true:=by decide +kernel)(h2:X.calm=true:=by rfl)(h3:F7 N X.N scope X.env.scope fr 0=true:=by rfl)(h4:fr.length=N.length:=by rfl)(h5:freeOk X.env.scope scope.names=true:=by rfl)
 (hs:∀x,foldedSetIterable iter X.env x=pure x:=by intro _;rfl):DS X (.Return (some (.ListComp elt [⟨.Name x px,iter,ifs,0⟩] scope pos)) spos) (Vz (HS (Dx ix) tif f fr fs)):=by
 obtain⟨wi,pi,ki⟩:=hi;refine⟨_,A3 (Gh N ix fr pi hif (fun cl C s₀ H₀ fp=>(he cl C s₀ H₀ fp).pe) h1 h2 h3 h4 h5 hs),fun δ r h G0 H0 G H σ D R q=>?_⟩;obtain⟨zs,m1,rfl⟩:=aE.mp h;exact P5 ki m1 R fun D' ys G' H' R' n1 n2 n3 n4 n5=>q _ _ _ _ R'.ext R'.new R'.ins R'.keep n3 n2 n1 n5
end
section
variable{P:Program}{w:World}{K:Fg}{mg:Str→Option VL}{base:Heap}{x:Str}{st:Stmt}{fA:AD}{fd:FuncData}{N ps:List Str}{k:Nat}
def ec{F:DF}{ds xs:List PD}(hl:ds.length=ps.length)(h:F (Ih N ds)=some (.rn xs)):Dr ps N F ds=some (.list xs):=by unfold Dr;rw[if_pos hl,h]
def NP{J:Fb}{ds:List PD}{y:PD}(hl:ds.length=ps.length)(h:J (Ih N ds)=some (.inl (.rt y))):GQ ps N J ds=some (.inl y):=by unfold GQ;rw[if_pos hl,h]
def VX{J:Fb}{ds:List PD}{δ:Dv}(hl:ds.length=ps.length)(h:J (Ih N ds)=some (.inl (.nx δ))):GQ ps N J ds=some (.inl .none):=by unfold GQ;rw[if_pos hl,h]
def Hh{J:Fb}{ds:List PD}{C:AD}(hl:ds.length=ps.length)(h:J (Ih N ds)=some (.inr C)):GQ ps N J ds=some (.inr C):=by unfold GQ;rw[if_pos hl,h]
end
section
variable{J J1 J2:Fb}{δ δ':Dv}{r:Option cC}{c:Dv→Option Bool}{fs:Dv→Option (List PD)}{m:List PD→Option Xr}{ds xs:List PD}{f:Dv→Option PD}{fr:List (Option Nat)}{g:PD→PD}
def Je(h:J1 δ=some (.inl (.nx δ')))(k:J2 δ'=r):Jq J1 J2 δ=r:=by unfold Jq;rw[h];exact k
def LO{C:AD}(h:J1 δ=some (.inr C)):Jq J1 J2 δ=some (.inr C):=by unfold Jq;rw[h]
def cG(h:c δ=some true)(k:J1 δ=r):YU c J1 J2 δ=r:=by show(c δ).bind _=r;rw[h];exact k
def cS(h:c δ=some false)(k:J2 δ=r):YU c J1 J2 δ=r:=by show(c δ).bind _=r;rw[h];exact k
def Hi{nx:PD→Dv→Ou}{y:PD}(h:fs δ=some ds)(k:m ds=some (.inl y)):K5 m fs nx δ=some (.inl (nx y δ)):=by show((fs δ).bind m).map _=_;rw[h];show(m ds).map _=_;rw[k];rfl
def KY{nx:PD→Dv→Ou}{C:AD}(h:fs δ=some ds)(k:m ds=some (.inr C)):K5 m fs nx δ=some (.inr C):=by show((fs δ).bind m).map _=_;rw[h];show(m ds).map _=_;rw[k];rfl
end
def only(cs:List AD)(m:List PD→Option Xr)(ds:List PD):Option Xr:=match m ds with
 |some (.inr C)=>if C∈cs then some (.inr C) else none
 |r=>r
def NQ{cs:List AD}{m:List PD→Option Xr}{ds:List PD}{C:AD}(h:only cs m ds=some (.inr C)):C∈cs:=by
 unfold only at h;split at h
 ·split at h
  ·rename_i hc;cases h;exact hc
  ·cases h
 ·rename_i n;exact absurd h (n C)
def La{cs:List AD}{m:List PD→Option Xr}{ds:List PD}{C:AD}(h:m ds=some (.inr C))(hc:C∈cs):only cs m ds=some (.inr C):=by unfold only;rw[h];exact if_pos hc
def Nc{cs:List AD}{m:List PD→Option Xr}{ds:List PD}{x:PD}(h:m ds=some (.inl x)):only cs m ds=some (.inl x):=by unfold only;rw[h]
def L9{P:Program}{w:World}{K:Fg}{mg:Str→Option VL}{base:Heap}{CX:HZ}{k:Nat}{f:AD}{fd:FuncData}{ps:List Str}{m:List PD→Option Xr}(cs:List AD)(F:AQ P w K mg base CX k f fd ps (FK m)):AQ P w K mg base CX k f fd ps (FK (only cs m)) :=
 F.imp fun vs H Q E z=>by
  obtain⟨ds,r,G,h1,h2⟩:=z;refine⟨ds,r,G,?_,h2⟩;unfold only at h1;split at h1
  ·rename_i C e;split at h1
   ·cases h1;exact e
   ·cases h1
  ·exact h1
section
variable{F F1 F2:DF}{δ δ':Dv}{fs:Dv→Option (List PD)}{xs:List PD}{set:PD→Dv→Option Dv}{r:Option Ou}
def jX(Iv:Nat→Dv→Prop)(hx:fs δ=some xs)(h0:Iv 0 δ)(hs:∀(i:Nat) (x:PD) (δ:Dv),xs[i]? = some x→Iv i δ→∃δ1,set x δ=some δ1∧∃δ2,F δ1=some (.nx δ2)∧Iv (i+1) δ2) :
  ∃δ',Di fs set F δ=some (.nx δ')∧Iv xs.length δ':=bg Iv hx h0 fun i x δ a b=>let⟨δ1,c,δ2,e,g⟩:=hs i x δ a b;⟨δ1,δ2,c,e,g⟩
def Sl(Iv:Nat→Dv→Prop)(hx:fs δ=some xs)(h0:Iv 0 δ)(hs:∀(i:Nat) (x:PD) (δ:Dv),xs[i]? = some x→Iv i δ→∃δ1,set x δ=some δ1∧∃δ2,F δ1=some (.nx δ2)∧Iv (i+1) δ2)
 (k:∀δ',Iv xs.length δ'→F2 δ'=r):Ar (Di fs set F) F2 δ=r:=by
 obtain⟨δ',h1,h2⟩:=jX Iv hx h0 hs;exact A0 h1 (k δ' h2)
end
abbrev UC:=List PD ⊕ AD
def cE(X:Cx)(E:XK)(e:Expr)(f:Dv→Option Xr):Prop:=∃t,PE X e t∧∀δ r,f δ=some r→∀G0 H0 G H σ ts (Q:VK),Rw G0 H0 G H σ δ ts→(∀x,r=.inl x→∀v G' H',Rw G0 H0 G' H' σ δ ((x,v)::ts)→Q v H')→(∀C,r=.inr C→∀H',AK H0 H'→E (.ref C) none H')→t σ H Q
def cZ(X:Cx)(E:XK)(es:List Expr)(f:Dv→Option UC):Prop:=∃t,PA X es t∧∀δ r,f δ=some r→∀G0 H0 G H σ ts (Q:List V→Hp→Prop),Rw G0 H0 G H σ δ ts→(∀xs,r=.inl xs→∀vs G' H',Rw G0 H0 G' H' σ δ (xs.zip vs++ts)→vs.length=xs.length→Q vs H')→(∀C,r=.inr C→∀H',AK H0 H'→E (.ref C) none H')→t σ H Q
section
variable{X:Cx}{E:XK}{a b c e:Expr}{es:List Expr}{f:Dv→Option PD}{fx:Dv→Option Xr}{gx:Dv→Option UC}{fs:Dv→Option (List PD)}{pos p:Pos}
abbrev l9(f:Dv→Option PD):Dv→Option Xr:=fun δ=>(f δ).map .inl
abbrev jR(f:Dv→Option (List PD)):Dv→Option UC:=fun δ=>(f δ).map .inl
def i9(h:DE X.Gv e f):cE X E e (l9 f):=by
 obtain⟨t,p,k⟩:=h;refine⟨t,W9 p,fun δ r h G0 H0 G H σ ts Q R q1 q2=>?_⟩;obtain⟨o,h1,rfl⟩:=aE.mp h;exact k δ o h1 G0 H0 G H σ ts Q R (q1 o rfl)
def XX(h:DA X.Gv es fs):cZ X E es (jR fs):=by
 obtain⟨t,p,k⟩:=h;refine⟨t,Xn p,fun δ r h G0 H0 G H σ ts Q R q1 q2=>?_⟩;obtain⟨o,h1,rfl⟩:=aE.mp h;exact k δ o h1 G0 H0 G H σ ts Q R (q1 o rfl)
def NX(fx:Dv→Option Xr)(gx:Dv→Option UC)(δ:Dv):Option UC:=match fx δ with
 |some (.inl x)=>(match gx δ with
  |some (.inl xs)=>some (.inl (x::xs))
  |some (.inr C)=>some (.inr C)
  |none=>none)
 |some (.inr C)=>some (.inr C)
 |none=>none
def UA(ha:cE X E e fx)(hr:cZ X E es gx)(hs:starEach (e::es) X.env=(false,eval e X.env)::starEach es X.env:=by rfl):cZ X E (e::es) (NX fx gx):=by
 obtain⟨ta,pa,ka⟩:=ha;obtain⟨tr,pr,kr⟩:=hr;refine⟨_,AE pa pr hs,fun δ r hz G0 H0 G H σ ts Q R q1 q2=>?_⟩;unfold NX at hz;cases hf:fx δ with
 |none=>rw[hf]at hz;cases hz
 |some u =>
  rw[hf]at hz;cases u with
  |inr C =>
   cases hz;exact ka δ _ hf G0 H0 G H σ ts _ R (fun x hx=>by cases hx) fun C' hC=>by cases hC;exact q2 C rfl
  |inl x =>
   refine ka δ _ hf G0 H0 G H σ ts _ R (fun x' hx v G1 H1 R1=>?_) (fun C hC=>by cases hC);cases hx;cases hg:gx δ with
   |none=>rw[hg]at hz;cases hz
   |some w =>
    rw[hg]at hz;refine kr δ _ hg G0 H0 G1 H1 σ _ _ R1 (fun xs hxs vs G2 H2 R2 hl=>?_) (fun C hC H' h'=>?_)
    ·subst hxs;cases hz;refine q1 _ rfl (v::vs) G2 H2 (R2.less fun q hq=>?_) (by simp[hl]);simp only[List.zip_cons_cons,List.cons_append,List.mem_cons,List.mem_append]at hq ⊢;rcases hq with h|h|h
     ·exact .inr (.inl h)
     ·exact .inl h
     ·exact .inr (.inr h)
    ·subst hC;cases hz;exact q2 C rfl H' h'
def Qi(gx:Dv→Option UC)(m:List PD→Option Xr)(δ:Dv):Option Xr:=match gx δ with
 |some (.inl xs)=>m xs
 |some (.inr C)=>some (.inr C)
 |none=>none
def T9{k:Nat}{fA:AD}{fd:FuncData}{ps:List Str}{m:List PD→Option Xr}{x:Str}{st':Stmt}(T:Fn X.K X.mg x st' ps fA fd)(F:AQ X.prog X.w X.K X.mg X.base (Cb X.prog X.w) k fA fd ps (FK m))(hr:Cs k X.A)(hP:Passes (Cb X.prog X.w) X E)(ha:cZ X E (e::es) gx)
 (hg:Gl X x:=by rfl)(hdb:(x==("__debug__" : Str))=false:=by decide)(he:starEach (e::es) X.env=(false,eval e X.env)::starEach es X.env:=by rfl)(hpl:(backTo pos (starEach es X.env)).any (·.1)=false:=by rfl) :
  cE X E (.Call (.Name x p) (e::es) [] pos) (Qi gx m):=by
 obtain⟨ta,pa,ka⟩:=ha;refine⟨_,Yt T F hr hg hP pa hdb he hpl,fun δ r hz G0 H0 G H σ ts Q R q1 q2=>?_⟩;unfold Qi at hz;cases hg:gx δ with
 |none=>rw[hg]at hz;cases hz
 |some w =>
  rw[hg]at hz;refine ka δ _ hg G0 H0 G H σ ts _ R (fun xs hxs vs G1 H1 R1 hv=>?_) (fun C hC H' h'=>?_)
  ·subst hxs;obtain⟨d,R2⟩:=R1.args hv;refine⟨xs,r,G1,hz,by rw[List.append_nil];exact d,R2.ins,?_⟩;cases r with
   |inl y=>exact fun v G' H' h3 h4 h5 h6 h7=>q1 y rfl _ _ _ ((R2.lift h3 h4 h5 h6).put h7)
   |inr C=>exact fun H' h=>q2 C rfl H' (R2.keep.trans h)
  ·subst hC;cases hz;exact q2 C rfl H' h'
abbrev xE(fx:Dv→Option Xr)(nx:PD→Dv→Ou):Fb:=fun δ=>(fx δ).map fun r=>match r with
 |.inl x=>.inl (nx x δ)
 |.inr C=>.inr C
def fP(he:cE X E e fx):DX X E (.Return (some e) pos) (xE fx fun x _=>.rt x):=by
 obtain⟨t,p,k⟩:=he;refine⟨_,A3 p,fun δ r h G0 H0 G H σ D R q=>?_⟩;obtain⟨z,h1,rfl⟩:=aE.mp h;refine k δ z h1 G0 H0 G H σ [] _ R (fun x hx v G' H' R'=>?_) (fun C hC H' h'=>?_)
 ·subst hx;exact q _ _ _ R'.ext R'.new R'.ins R'.keep (R'.CD _ (.head _))
 ·subst hC;exact q _ h'
end
section
variable{δ δ':Dv}{fx:Dv→Option Xr}{gx:Dv→Option UC}{m:List PD→Option Xr}{xs:List PD}{r:Option Xr}{fs:Dv→Option (List PD)}{set:PD→Dv→Option Dv}{J:Fb}
def SR{x:PD}(h:fx δ=some (.inl x))(k:gx δ=some (.inl xs)):NX fx gx δ=some (.inl (x::xs)):=by unfold NX;rw[h,k]
def Uv(h:gx δ=some (.inl xs))(k:m xs=r):Qi gx m δ=r:=by unfold Qi;rw[h];exact k
def lA{nx:PD→Dv→Ou}{y:PD}(h:fx δ=some (.inl y)):xE fx nx δ=some (.inl (nx y δ)):=by show(fx δ).map _=_;rw[h];rfl
end
end L2
set_option maxHeartbeats 2000000
namespace L2
open PySem PySem.Spec PyProof.Rows
inductive SU(X:Cx)(C ea:Addr)(k:Nat):List ExceptHandler→TS→Prop
 |hit {x n:Str} {G:Addr} {np hpos:Pos} {b0:Stmt} {suite:List Stmt} {rest:List ExceptHandler} {t:TS} (hg:Gl X x) (hm:X.mg x=some (.ref G)) (hd:(x==("__debug__" : Str))=false) (hB:ER X.K C G true) (hk:X.N[k]? = some n) (hln:X.env.scope.names.lookup n=some .local) (hb:HI (X.held ea) (b0::suite) t) :
   SU X C ea k (.ExceptHandler (some (.Name x np)) (some n) (b0::suite) hpos::rest) t
 |miss {x n:Str} {G:Addr} {np hpos:Pos} {b0:Stmt} {suite:List Stmt} {rest:List ExceptHandler} {t:TS} (hg:Gl X x) (hm:X.mg x=some (.ref G)) (hd:(x==("__debug__" : Str))=false) (hB:ER X.K C G false) (r:SU X C ea k rest t) :
   SU X C ea k (.ExceptHandler (some (.Name x np)) (some n) (b0::suite) hpos::rest) t
def WX(D:Ends)(k:Nat):Ends:={ nx:=fun σ' H2=>D.nx (σ'.set k none) H2,rt:=fun _ _=>False}
section
variable{X:Cx}{pins:List (AD×Obj)}{σ:St}{D:Ends}
def ZW{H0 H':Hp}{s0 s1:SD}{ea C:AD}{a0:VL}{B:Heap}{k:Nat}{h5:Heap}(hN:X.N.Nodup)(hcalm:X.calm=true)(I:Inv X pins σ H0 s0)(F:WB X.prog X.w X.stack H0 s0 ea (.ref C) a0 H' s1 B){rest':List Env}(hrest:X.stack=X.env::rest')(hfr:X.env.frame=some X.env.locals)
 (fl5:Heap.FlyingW B (X.env::rest') ea (.ref C) a0 h5)(up05:s1.heap.UpToSlots h5)(I5:Inv X pins σ H' {s1 with heap:=h5,toks:=s1.toks}) :
  ∀ {hs:List ExceptHandler} {t:TS},SU X C ea k hs t→(H' ea=none→t (WX D k) (σ.set k (some (.ref ea))) (upd H' ea (Lo ea (.ref C))))→wpAny (model X.prog X.w) X.A (handleBy (.ref ea) X.env hs) (SP X pins D) X.xe {s1 with heap:=h5,toks:=s1.toks}:=by
 obtain⟨ob,hob,hobc⟩:=fl5.there;intro hs t Ap q
 induction Ap with
 |miss hg hm hd hB r ih =>
  refine wpAny_handleBy_cons (codeAny_handlers_test (Jc (I5.held ea) hg hm ?_ hd)) (by intro q;cases q);exact TK (K:=X.K) I5.F0 hob hobc hB (ih q)
 | @hit x n G np hpos b0 suite rest t hg hm hd hB hk hln hb =>
  refine wpAny_handleBy_cons (codeAny_handlers_test (Jc (I5.held ea) hg hm ?_ hd)) (by intro q;cases q);refine TK (K:=X.K) I5.F0 hob hobc hB (codeAny_handlers_suite_as ?_);refine lands_againW fl5 fun h6 fl6 up6=>?_;have I6:Inv X pins σ H' {s1 with heap:=h6,toks:=s1.toks}:=land I F fl6.1 (up05.trans up6);obtain⟨oe,ws,e1,e2,e3,_⟩:=fl6.first
  obtain⟨hfree,I7⟩:=kZ I F I6 ⟨oe,ws,e1,e2,e3⟩;refine KG (X:=X.held ea) (I7.held ea) hN hk (.inl hln) (v:=.ref ea) rfl (fun s8 I8=>?_) (.inr hln);refine aU (hb pins s8 _ _ (WX D k) I8 (q hfree)) (fun fl s9 h9=>?_) fun _ _ z=>z.elim;cases fl with
  |next =>
   obtain⟨σ9,H9,I9,e9⟩:=h9;exact nJ (I9.iC I.ok) hN hk hln fun s' I'=>⟨_,_,I',e9⟩
  |brk=>obtain⟨_,_,_,z⟩:=h9;exact z.elim
  |cont=>obtain⟨_,_,_,z⟩:=h9;exact z.elim
  |ret v=>obtain⟨_,_,_,_,_,z⟩:=h9;exact z.elim
end
def i8(k:Nat):Ou→Option Ou
 |.nx δ=>some (.nx (δ.set k .no))
 |_=>none
end L2
set_option maxHeartbeats 1000000
namespace L2
open PySem PySem.Spec PyProof.Rows
def cm{P:Program}{w:World}{K:Fg}{mg:Str→Option VL}{base:Heap}{k:Nat}{f:AD}{fd:FuncData}{ps:List Str}{m:MD}(F:AQ P w K mg base Ah k f fd ps (Bz m)):AQ P w K mg base (Cb P w) k f fd ps (FK fun ds=>(m ds).map .inl) :=
 F.ny.imp fun vs H Q E z=>by
  obtain⟨ds,r,G,h1,h2,h3,h4⟩:=z;obtain⟨x,h5,rfl⟩:=aE.mp h1;exact⟨ds,x,G,h5,h2,h3,h4⟩
end L2
set_option maxHeartbeats 4000000
namespace L2
open PySem PySem.Spec PyProof.Rows
def GT(H:Hp)(v:VL)(x:Tr):Prop:=∃a ys,v=.ref a∧H a=some (.tup ys)∧Ts H x ys
def V7(S:AD)(ev:Array (Int×VL))(ep:Nat)(t:SetTable):HO:=.ext fun h=>∃o,h.get? S=some o∧o.ExactSet∧o.data=.set ev ep t
abbrev jT(H:Hp)(p:Int×VL)(q:Int×Tr):Prop:=p.1=q.1∧q.2.deep<8∧GT H p.2 q.2
def Z0(H:Hp)(S:AD)(st:TH.ES×SetTable):Prop:=∃ev ep,H S=some (V7 S ev ep st.2)∧PySem.Paired (jT H) ev.toList st.1.toList
def GT.same{H H':Hp}{v:VL}{x:Tr}(h:GT H v x)(e:AK H H'):GT H' v x:=let⟨a,ys,e1,e2,e3⟩:=h;⟨a,ys,e1,e _ _ e2,e3.same e⟩
structure cD(w:World)(st:TH.ES×SetTable):Prop where
 fit:st.2.fits st.1.size=true
 plain:st.2.plain=true
 led:st.2.led=!w.params.followText "set-order"
 walk:TH.NF st.2 st.1.size=true
 small:st.1.size<64
section
variable{X:Cx}{pins:List (AD×Obj)}{σ:St}{H:Hp}{s:SD}
def Xp(I:Inv X pins σ H s){v:VL}{x:Tr}(g:GT H v x):∃a its,v=.ref a∧s.heap.IsTuple a its.toArray∧TH.Vs s.heap x its:=by
 obtain⟨a,ys,rfl,h1,h2⟩:=g;obtain⟨its,r,p,_⟩:=I.tuple (Ay.of (K:=X.K) h1);exact⟨a,its,rfl,p,h2.vs I r⟩
def UU(I:Inv X pins σ H s):∀ {t:Tr} {ys:List V} {us:List VL},Ts H t ys→Vals ys us→t.deep≤8→TH.Jd (GT H) s.heap us t.bs
 |.nil,ys,us,h,r,_=>by
  rw[Ts]at h;subst h;cases r;exact .nil
 |.cons b q,ys,us,h,r,hd=>by
  rw[Ts]at h;obtain⟨a,zs,rest,rfl,h1,h2,h3⟩:=h;rw[Tr.deep]at hd;cases r with
  |cons r1 r2 =>
   cases r1;have g:GT H (.ref a) b:=⟨a,zs,rfl,h1,h2⟩;exact .cons ⟨by omega,g,Xp I g⟩ (UU I h3 r2 (by omega))
def ZX(I:Inv X pins σ H s){l:List (Int×VL)}{m:List (Int×Tr)}(h:PySem.Paired (jT H) l m):PySem.Paired (TH.O1 (GT H) s.heap) l m :=
 TH.Paired.imp (fun _ _ ⟨a,b,c⟩=>⟨a,b,c,Xp I c⟩) h
def gq:∀ {us:List VL} {ts:List Tr},PySem.Paired (GT H) us ts→∃zs,Vals zs us∧Ts H (Tr.of ts) zs
 |_,_,.nil=>⟨[],.nil,by rw[Tr.of,Ts]⟩
 |_,_,.cons ⟨a,ys,e,h1,h2⟩ r=>by
  obtain⟨zs,r1,r2⟩:=gq r;subst e;exact⟨.ref a::zs,.cons rfl r1,by rw[Tr.of,Ts];exact⟨a,ys,zs,rfl,h1,h2,r2⟩⟩
def kU(w:World)(K:Fg):List V→Hp→VK→Prop:=fun xs H Q=>∃p ys t st,xs=[.ref p]∧Ab K H p ys∧Ts H t ys∧t.deep≤8∧TH.NA (TH.LJ (!w.params.followText "set-order")) t.bs=some st ∧
 ∀S H',AK H H'→Z0 H' S st→Q (.ref S) H'
def Y1(hc:X.calm=true)(hu:X.A.units+64<cLine):DV X (.type "set") (kU X.w X.K):=by
 intro pins s σ H xs us Q I r h;obtain⟨p,ys,t,st,rfl,hq,ht,hd,hst,q⟩:=h;obtain⟨u,rfl,r1⟩:=r.one;cases r1;obtain⟨its,rv,pl,hz⟩:=I.list hq;refine TH.Ub (G:=GT H) (I.ok.hd hc) pl.isList (UU I ht rv hd) (by omega) hst fun h2 tk S2 k2=>?_;obtain⟨o,ev,ep,g1,g2,g3,g4⟩:=S2;have hf:=I.Ap.fresh (aG s.heap.objs.size);have es:=AO hf (V7 s.heap.objs.size ev ep st.2);refine⟨.ref s.heap.objs.size,upd H s.heap.objs.size (V7 s.heap.objs.size ev ep st.2),I.laid (t':=tk) k2 (aG _) ?_,rfl,q _ _ es ⟨ev,ep,AI,TH.Paired.imp (fun _ _ ⟨a,b,c,_⟩=>⟨a,b,c.same es⟩) g4⟩⟩;exact⟨⟨o,g1,g2,g3⟩,⟨o,g1⟩,fun h1 h2 ⟨o,q1,q2⟩ k=>⟨o,k _ q1,q2⟩⟩
def fN(I:Inv X pins σ H s){S:AD}{st:TH.ES×SetTable}(h:Z0 H S st)(ok:cD X.w st):∃o ev ep,s.heap.get? S=some o∧TH.Er X.w o ev ep st.2∧TH.DQ (GT H) s.heap ev st.1:=by
 obtain⟨ev,ep,h1,h2⟩:=h;obtain⟨⟨o,g1,g2,g3⟩,_,_⟩:=(show CU X.prog X.w H s.heap S (V7 S ev ep st.2) from I.Ap S _ h1);have R:=ZX I h2;have hz:ev.size=st.1.size:=TH.DQ.size R;exact⟨o,ev,ep,g1,⟨g2,g3,by rw[hz];exact ok.fit,ok.plain,ok.led,by rw[hz];exact ok.walk⟩,R⟩
def j7(w:World):List V→Hp→VK→Prop:=fun xs H Q=>∃S st,xs=[.ref S]∧Z0 H S st∧cD w st∧∀(l:AD) (zs:List V),H l=none→zs.length<64→Ts H (Tr.of (Tr.CL (TH.PH st)).reverse) zs→Q (.ref l) (upd H l (.lst zs))
def Wk(hc:X.calm=true)(hu:X.A.units+64<cLine):DV X (.builtin "sorted") (j7 X.w):=by
 intro pins s σ H xs us Q I r h;obtain⟨S,st,rfl,hS,ok,q⟩:=h;obtain⟨u,rfl,r1⟩:=r.one;cases r1;obtain⟨o,ev,ep,g1,W,R⟩:=fN I hS ok;refine TH.WL (I.ok.hd hc) W g1 R ok.small (by omega) fun h' D tk e1 us hD k1 gD hp hl=>?_;obtain⟨zs,r1,r2⟩:=gq hp;have hz:zs.length<64:=by rw[r1.length];exact hl
 refine⟨.ref D,upd H D (.lst zs),I.laid (t':=tk) k1 hD ⟨bN (aM hz (by rw[sizeLine_eq];decide)),us,e1,r1,gD⟩,rfl,q D zs (I.Ap.fresh hD) hz r2⟩
end
open PySem PyProof.Rows
end L2
set_option maxHeartbeats 1000000
namespace L2
open PySem PySem.Spec PyProof.Rows
def PB(led:Bool)(l z:List Tr):Bool:=match TH.NA (TH.LJ led) l with
 |some st=>decide ((Tr.CL (TH.PH st)).reverse=z)&&st.2.fits st.1.size&&st.2.plain&&decide (st.2.led=led)&&TH.NF st.2 st.1.size&&decide (st.1.size<64)
 |none=>false
def bh{led:Bool}{l z:List Tr}(h:PB led l z=true):∃st,TH.NA (TH.LJ led) l=some st∧(Tr.CL (TH.PH st)).reverse=z∧st.2.fits st.1.size=true∧st.2.plain=true∧st.2.led=led∧TH.NF st.2 st.1.size=true∧st.1.size<64:=by
 unfold PB at h;split at h
 ·rename_i st e;simp only[Bool.and_eq_true,decide_eq_true_eq]at h;obtain⟨⟨⟨⟨⟨h1,h2⟩,h3⟩,h4⟩,h5⟩,h6⟩:=h;exact⟨st,e,h1,h2,h3,h4,h5,h6⟩
 ·cases h
def Wl(l:List Tr):List Tr:=match TH.NA (TH.LJ true) l with
 |some st=>(Tr.CL (TH.PH st)).reverse
 |none=>[]
def Ia(t:Tr):Option PD:=if t.deep≤8∧PB true t.bs (Wl t.bs)=true∧PB false t.bs (Wl t.bs)=true then some (.list (Bn (Tr.of (Wl t.bs)))) else none
def L7:PD→Option PD
 |.list ds=>(Bk ds).bind Ia
 |_=>none
section
variable{X:Cx}{e:Expr}{f:Dv→Option PD}{pos p p2 pos2:Pos}
def PJ(hc:X.calm=true)(hu:X.A.units+64<cLine)(hg:Gl X "sorted")(hm:X.mg "sorted" = none)(hg2:Gl X "set")(hm2:X.mg "set" = none)(ha:DE X e f)
 (hs1:starEach [e] X.env=(false,eval e X.env)::starEach [] X.env:=by rfl)(hs2:starEach [.Call (.Name "set" p2) [e] [] pos2] X.env=(false,eval (.Call (.Name "set" p2) [e] [] pos2) X.env)::starEach [] X.env:=by rfl)
 (hq1:(backTo pos2 (starEach [] X.env)).any (·.1)=false:=by rfl)(hq2:(backTo pos (starEach [] X.env)).any (·.1)=false:=by rfl) :
  DE X (.Call (.Name "sorted" p) [.Call (.Name "set" p2) [e] [] pos2] [] pos) (fun δ=>(f δ).bind L7):=by
 obtain⟨ta,pa,ka⟩:=ha;refine⟨_,BC (Wk hc hu) hg hm PyProof.Rows.boot_sorted (AE (Gr (Y1 hc hu) hg2 hm2 PyProof.Rows.boot_set (AE pa AL hs1) (by decide) (by decide) hs1 hq1) AL hs2) (by decide) (by decide) hs2 hq2,fun δ z hz G0 H0 G H σ ts Q R0 k=>?_⟩;obtain⟨y,h1,h2⟩:=aB.mp hz;refine ka δ y h1 G0 H0 G H σ ts _ R0 fun u G1 H1 R1=>?_;unfold L7 at h2;split at h2
 ·rename_i ds;obtain⟨t,h3,h4⟩:=aB.mp h2;unfold Ia at h4;split at h4
  ·rename_i hh;cases h4;have hds:=O5 h3;have du:=R1.CD (_,u) (.head _);obtain⟨bb,a,ys,rfl,n1,n2⟩:=Mn du (show IG (.list ds)=some ds from rfl);have n1':H1 a=some (.lst ys):=by
    have:=R1.ins _ _ n1;cases bb
    ·simpa using this
    ·exact absurd n1 (by
      have du':=du;intro n1;rw[Du]at du';obtain⟨a',ys',e1,e2,_⟩:=du';cases e1;rw[e2]at n1;cases n1)
   rw[hds]at n2;have ht:=(M7 n2).same R1.ins;have both:∀led,PB led t.bs (Wl t.bs)=true:=fun led=>by cases led;exact hh.2.2;exact hh.2.1
   obtain⟨st,r1,r2,r3,r4,r5,r6,r7⟩:=bh (both (!X.w.params.followText "set-order"));refine⟨a,ys,t,st,rfl,Ab.of n1',ht,hh.1,r1,fun S H' e1 hS=>⟨S,st,rfl,hS,⟨r3,r4,r5,r6,r7⟩,fun l zs hl hz ht'=>?_⟩⟩;rw[r2]at ht';have R2:=(R1.drop.on e1).A6;exact k _ _ _ (R2.SY (Pn ht') hl)
  ·cases h4
 ·cases h2
end
end L2
set_option maxHeartbeats 4000000
namespace ZT
open PySem PyProof.Rows
abbrev D6(h:Heap)(T:AD)(a b c:VL):Prop:=h.get? T=some { cls:=.type "tuple",data:=.seq #[a,b,c]}
section
variable{prog:Program}{w:World}{A:Around}{E:VL→SD→Prop}{s:SD}{z TI TO i1 i2 i3:AD}{f1 f2 f3:List AD}{n1 n2 n3 k:Nat}{P1 P2 P3:Nat→VL→Prop}{S1 S2 S3:Nat→Heap→Prop}{a b c:VL}
def put3{T:AD}{x:VL}{k:Nat}{Q:Unit→SD→Prop}(hT:D6 s.heap T a b c)
 (h:∀h',h'.get? T=some { cls:=.type "tuple",data:=.seq ((#[a,b,c]:Array VL).setIfInBounds k x)}→Heap.SameBut T s.heap h'→Q () {s with heap:=h'}):wpAny (model prog w) A (updateSeq T (·.setIfInBounds k x)) Q E s:=by
 refine wpAny_updateSeq hT rfl (h _ ?_ (ai ..));rw[Heap.get?_update_self _ hT rfl];simp[Obj.mapSeq]
structure NB(z TI TO i1 i2 i3:Addr)(f1 f2 f3:List Addr):Prop where
 a1:TO≠z∧TO≠i1∧TO≠i2∧TO≠i3
 a2:i1≠z∧i2≠z∧i3≠z
 b1:z ∉ f1∧TO ∉ f1∧i2 ∉ f1∧i3 ∉ f1
 b2:z ∉ f2∧TO ∉ f2∧i1 ∉ f2∧i3 ∉ f2
 b3:z ∉ f3∧TO ∉ f3∧i1 ∉ f3∧i2 ∉ f3
def kd{Q:VL→SD→Prop}(D1:Draws prog w A i1 f1 n1 P1 S1)(D2:Draws prog w A i2 f2 n2 P2 S2)(D3:Draws prog w A i3 f3 n3 P3 S3)(ap:NB z TI TO i1 i2 i3 f1 f2 f3)(hz:IsZip s.heap z TI TO .none)(hI:D6 s.heap TI (.ref i1) (.ref i2) (.ref i3))(hO:D6 s.heap TO a b c)
 (t1:S1 k s.heap)(t2:S2 k s.heap)(t3:S3 k s.heap)(l1:k<n1)(l2:k<n2)(l3:k<n3)
 (q:∀x y u h' tk,P1 k x→P2 k y→P3 k u→IsZip h' z TI TO (rawInt s.heap.objs.size)→D6 h' TO x y u→S1 (k+1) h'→S2 (k+1) h'→S3 (k+1) h'→D6 h' s.heap.objs.size x y u→h'.objs.size=s.heap.objs.size+1 →
   (∀c o,c≠z→c≠TO→c≠i1→c≠i2→c≠i3→s.heap.get? c=some o→h'.get? c=some o)→Q (.ref s.heap.objs.size) {s with heap:=h',toks:=tk}) :
  wpAny (model prog w) A (Builtin.«zip.__next__» ⟨[.ref z],[]⟩) (fun fin s'=>∃v,fin=.done (.ret v)∧Q v s') E s:=by
 obtain⟨⟨c5,c6,c7,c7'⟩,⟨c8,c9,c9'⟩,⟨d1,d2,d3,d3'⟩,⟨d4,d5,d6,d6'⟩,e4,e5,e6,e6'⟩:=ap;show wpAny _ _ (field (.ref z) 2>>=_) _ _ _;refine Wb (af hz rfl (x:=.bool false) rfl ?_);show wpAny _ _ (field (.ref z) 3>>=_) _ _ _;refine Wb (af hz rfl (x:=.ref TI) rfl (Wb (aX hI rfl ?_)));show wpAny _ _ (Builtin.SmallTypes.ownedTupleIsFree (.ref z)>>=_) _ _ _;unfold Builtin.SmallTypes.ownedTupleIsFree;refine Wb (Wb (af hz rfl (x:=.none) rfl (aA ?_)));simp only[if_true];refine Wb (bT (Wb (af hz rfl (x:=.ref TO) rfl (Wb (ak hz (by simp) fun g1 z1 m1=>Wb ?_)))));have m1:Heap.SameBut z s.heap g1:=m1;have z1:IsZip g1 z TI TO .ellipsis:=z1;simp only[List.zipIdx_cons,List.zipIdx_nil,List.forIn_cons,List.forIn_nil];refine Wb (Wb (bO ?_));show wpAny _ _ (Builtin.SmallTypes.nextOf (.ref i1)>>=_) _ _ _;refine Wb (D1.item k _ _ _ l1 (D1.frame _ _ _ t1 (Am d1 m1)) fun x g2 tk2 p1 u1 m2=>aA ?_);have m2:Heap.SameBut i1 g1 g2:=m2;have o2:D6 g2 TO a b c:=(m2.2 _ c6).trans ((m1.2 _ c5).trans hO);refine Wb (aX o2 rfl (Wb (put3 o2 fun g3 o3 m3=>Wb (wpAny_letGo (aA ?_)))));have o3:D6 g3 TO x b c:=o3;have m3:Heap.SameBut TO g2 g3:=m3;refine Wb (Wb (bO ?_));show wpAny _ _ (Builtin.SmallTypes.nextOf (.ref i2)>>=_) _ _ _;have t2':S2 k g3:=D2.frame _ _ _ (D2.frame _ _ _ (D2.frame _ _ _ t2 (Am d4 m1)) (Am d6 m2)) (Am d5 m3);refine Wb (D2.item k _ _ _ l2 t2' fun y g4 tk4 p2 u2 m4=>aA ?_);have m4:Heap.SameBut i2 g3 g4:=m4;have o4:D6 g4 TO x b c:=(m4.2 _ c7).trans o3;refine Wb (aX o4 rfl (Wb (put3 o4 fun g5 o5 m5=>Wb (wpAny_letGo (aA ?_)))));have m5:Heap.SameBut TO g4 g5:=m5;have o5:D6 g5 TO x y c:=o5;refine Wb (Wb (bO ?_));show wpAny _ _ (Builtin.SmallTypes.nextOf (.ref i3)>>=_) _ _ _;have t3':S3 k g5:=D3.frame _ _ _ (D3.frame _ _ _ (D3.frame _ _ _ (D3.frame _ _ _ (D3.frame _ _ _ t3 (Am e4 m1)) (Am e6 m2)) (Am e5 m3)) (Am e6' m4)) (Am e5 m5);refine Wb (D3.item k _ _ _ l3 t3' fun u g6 tk6 p3 u3 m6=>aA ?_);have m6:Heap.SameBut i3 g5 g6:=m6;have o6:D6 g6 TO x y c:=(m6.2 _ c7').trans o5;refine Wb (aX o6 rfl (Wb (put3 o6 fun g7 o7 m7=>Wb (wpAny_letGo (aA (aA ?_))))));have m7:Heap.SameBut TO g6 g7:=m7;have o7:D6 g7 TO x y u:=o7;refine Wb (aX o7 rfl (Wb (wpAny_newTuple ?_)));have sz:g7.objs.size=s.heap.objs.size:=by rw[m7.1,m6.1,m5.1,m4.1,m3.1,m2.1,m1.1]
 have z7:IsZip g7 z TI TO .ellipsis:=(m7.2 _ c5.symm).trans ((m6.2 _ c9'.symm).trans ((m5.2 _ c5.symm).trans ((m4.2 _ c9.symm).trans ((m3.2 _ c5.symm).trans ((m2.2 _ c8.symm).trans z1)))));have kp:∀c o,c≠z→c≠TO→c≠i1→c≠i2→c≠i3→s.heap.get? c=some o→g7.get? c=some o:=fun c o e1 e2 e3 e4 e5 e=>(m7.2 _ e2).trans ((m6.2 _ e5).trans ((m5.2 _ e2).trans ((m4.2 _ e4).trans ((m3.2 _ e2).trans ((m2.2 _ e3).trans ((m1.2 _ e1).trans e))))));have v1:S1 (k+1) g7:=D1.frame _ _ _ (D1.frame _ _ _ (D1.frame _ _ _ (D1.frame _ _ _ (D1.frame _ _ _ u1 (Am d2 m3)) (Am d3 m4)) (Am d2 m5)) (Am d3' m6)) (Am d2 m7);have v2:S2 (k+1) g7:=D2.frame _ _ _ (D2.frame _ _ _ (D2.frame _ _ _ u2 (Am d5 m5)) (Am d6' m6)) (Am d5 m7);have v3:S3 (k+1) g7:=D3.frame _ _ _ u3 (Am e5 m7);show wpAny _ _ (Builtin.SmallTypes.ownedTupleHandOut (.ref z) (.ref g7.objs.size)>>=_) _ _ _;unfold Builtin.SmallTypes.ownedTupleHandOut;have z8:IsZip (g7.push { cls:=.type "tuple",data:=.seq #[x,y,u]}) z TI TO .ellipsis:=aD _ z7;refine Wb (Wb (ak z8 (by simp) fun g8 w8 m8=>ak (show IsZip g8 z TI TO (rawInt g7.objs.size) from w8) (by simp) fun g9 w9 m9=>?_));have w9:IsZip g9 z TI TO (rawInt g7.objs.size):=w9;have up:∀c o,c≠z→(g7.push { cls:=.type "tuple",data:=.seq #[x,y,u]}).get? c=some o→g9.get? c=some o:=fun c o e1 e=>(m9.2 _ e1).trans ((m8.2 _ e1).trans e);have zl:z<g7.objs.size:=aF z7;refine aA ⟨_,rfl,?_⟩;show Q (.ref g7.objs.size) _;have fin:=q x y u g9 tk6 p1 p2 p3 (by rw[←sz];exact w9) (up _ _ c5 (aD _ o7)) (D1.frame _ _ _ v1 fun c hc o e=>up c o (fun y=>d1 (y ▸ hc)) (aD _ e)) (D2.frame _ _ _ v2 fun c hc o e=>up c o (fun y=>d4 (y ▸ hc)) (aD _ e)) (D3.frame _ _ _ v3 fun c hc o e=>up c o (fun y=>e4 (y ▸ hc)) (aD _ e))
  (by rw[←sz];exact up _ _ (bW zl) (aI _ rfl)) (by rw[←sz,m9.1,m8.1,Heap.size_push]) fun c o e1 e2 e3 e4 e5 e=>up c o e1 (aD _ (kp c o e1 e2 e3 e4 e5 e))
 rw[sz];exact fin
def jr{Q:Fin→SD→Prop}(D1:Draws prog w A i1 f1 n1 P1 S1)(D2:Draws prog w A i2 f2 n2 P2 S2)(D3:Draws prog w A i3 f3 n3 P3 S3)(ap:NB z TI TO i1 i2 i3 f1 f2 f3)(hz:IsZip s.heap z TI TO .none)(hI:D6 s.heap TI (.ref i1) (.ref i2) (.ref i3))(hO:D6 s.heap TO a b c)
 (t1:S1 k s.heap)(t2:S2 k s.heap)(t3:S3 k s.heap)(he:k=n1∨(k<n1∧k=n2)∨(k<n1∧k<n2∧k=n3))
 (q:∀h' e tk,(∀c o,c≠z→c≠TO→c≠i1→c≠i2→c≠i3→s.heap.get? c=some o→h'.get? c=some o)→(∃o,h'.get? e=some o∧o.cls=.type "StopIteration")→E (.ref e) {s with heap:=h',toks:=tk}) :
  wpAny (model prog w) A (Builtin.«zip.__next__» ⟨[.ref z],[]⟩) Q E s:=by
 obtain⟨⟨c5,c6,c7,c7'⟩,⟨c8,c9,c9'⟩,⟨d1,d2,d3,d3'⟩,⟨d4,d5,d6,d6'⟩,e4,e5,e6,e6'⟩:=ap;show wpAny _ _ (field (.ref z) 2>>=_) _ _ _;refine Wb (af hz rfl (x:=.bool false) rfl ?_);show wpAny _ _ (field (.ref z) 3>>=_) _ _ _;refine Wb (af hz rfl (x:=.ref TI) rfl (Wb (aX hI rfl ?_)));show wpAny _ _ (Builtin.SmallTypes.ownedTupleIsFree (.ref z)>>=_) _ _ _;unfold Builtin.SmallTypes.ownedTupleIsFree;refine Wb (Wb (af hz rfl (x:=.none) rfl (aA ?_)));simp only[if_true];refine Wb (bT (Wb (af hz rfl (x:=.ref TO) rfl (Wb (ak hz (by simp) fun g1 z1 m1=>Wb ?_)))));have m1:Heap.SameBut z s.heap g1:=m1;have z1:IsZip g1 z TI TO .ellipsis:=z1;simp only[List.zipIdx_cons,List.zipIdx_nil,List.forIn_cons,List.forIn_nil];refine Wb (Wb (bO ?_));show wpAny _ _ (Builtin.SmallTypes.nextOf (.ref i1)>>=_) _ _ _;have t1':=D1.frame _ _ _ t1 (Am d1 m1);rcases he with he|⟨he1,he2⟩|⟨he1,he2,he3⟩
 ·rw[he]at t1';refine Wb (D1.done _ _ _ t1' fun g2 e m2 ho=>?_);obtain⟨o,ho,hc⟩:=ho;have z2:IsZip g2 z TI TO .ellipsis:=m2 _ _ c8.symm z1;have ez:e≠z:=fun y=>by subst y;rw[z2]at ho;cases ho;simp at hc
  exact ak z2 (by simp) fun g3 _ m3=>q g3 e _ (fun c o e1 e2 e3 e4 e5 y=>(m3.2 _ e1).trans (m2 _ _ e3 ((m1.2 _ e1).trans y))) ⟨o,(m3.2 _ ez).trans ho,hc⟩
 ·refine Wb (D1.item k _ _ _ he1 t1' fun x g2 tk2 p1 u1 m2=>aA ?_);have m2:Heap.SameBut i1 g1 g2:=m2;have o2:D6 g2 TO a b c:=(m2.2 _ c6).trans ((m1.2 _ c5).trans hO);refine Wb (aX o2 rfl (Wb (put3 o2 fun g3 o3 m3=>Wb (wpAny_letGo (aA ?_)))));have m3:Heap.SameBut TO g2 g3:=m3;have t2':S2 k g3:=D2.frame _ _ _ (D2.frame _ _ _ (D2.frame _ _ _ t2 (Am d4 m1)) (Am d6 m2)) (Am d5 m3);rw[he2]at t2';refine Wb (Wb (bO ?_));show wpAny _ _ (Builtin.SmallTypes.nextOf (.ref i2)>>=_) _ _ _;refine Wb (D2.done _ _ _ t2' fun g4 e m4 ho=>?_);obtain⟨o,ho,hc⟩:=ho;have z4:IsZip g4 z TI TO .ellipsis:=m4 _ _ c9.symm ((m3.2 _ c5.symm).trans ((m2.2 _ c8.symm).trans z1));have ez:e≠z:=fun y=>by subst y;rw[z4]at ho;cases ho;simp at hc
  exact ak z4 (by simp) fun g5 _ m5=>q g5 e _ (fun c o e1 e2 e3 e4 e5 y=>(m5.2 _ e1).trans (m4 _ _ e4 ((m3.2 _ e2).trans ((m2.2 _ e3).trans ((m1.2 _ e1).trans y))))) ⟨o,(m5.2 _ ez).trans ho,hc⟩
 ·refine Wb (D1.item k _ _ _ he1 t1' fun x g2 tk2 p1 u1 m2=>aA ?_);have m2:Heap.SameBut i1 g1 g2:=m2;have o2:D6 g2 TO a b c:=(m2.2 _ c6).trans ((m1.2 _ c5).trans hO);refine Wb (aX o2 rfl (Wb (put3 o2 fun g3 o3 m3=>Wb (wpAny_letGo (aA ?_)))));have m3:Heap.SameBut TO g2 g3:=m3;have o3:D6 g3 TO x b c:=o3;have t2':S2 k g3:=D2.frame _ _ _ (D2.frame _ _ _ (D2.frame _ _ _ t2 (Am d4 m1)) (Am d6 m2)) (Am d5 m3);refine Wb (Wb (bO ?_));show wpAny _ _ (Builtin.SmallTypes.nextOf (.ref i2)>>=_) _ _ _;refine Wb (D2.item k _ _ _ he2 t2' fun y g4 tk4 p2 u2 m4=>aA ?_);have m4:Heap.SameBut i2 g3 g4:=m4;have o4:D6 g4 TO x b c:=(m4.2 _ c7).trans o3;refine Wb (aX o4 rfl (Wb (put3 o4 fun g5 o5 m5=>Wb (wpAny_letGo (aA ?_)))));have m5:Heap.SameBut TO g4 g5:=m5;have t3':S3 k g5:=D3.frame _ _ _ (D3.frame _ _ _ (D3.frame _ _ _ (D3.frame _ _ _ (D3.frame _ _ _ t3 (Am e4 m1)) (Am e6 m2)) (Am e5 m3)) (Am e6' m4)) (Am e5 m5);rw[he3]at t3';refine Wb (Wb (bO ?_));show wpAny _ _ (Builtin.SmallTypes.nextOf (.ref i3)>>=_) _ _ _;refine Wb (D3.done _ _ _ t3' fun g6 e m6 ho=>?_);obtain⟨o,ho,hc⟩:=ho;have z6:IsZip g6 z TI TO .ellipsis:=m6 _ _ c9'.symm ((m5.2 _ c5.symm).trans ((m4.2 _ c9.symm).trans ((m3.2 _ c5.symm).trans ((m2.2 _ c8.symm).trans z1))));have ez:e≠z:=fun y=>by subst y;rw[z6]at ho;cases ho;simp at hc
  exact ak z6 (by simp) fun g7 _ m7=>q g7 e _ (fun c o e1 e2 e3 e4 e5 y=>(m7.2 _ e1).trans (m6 _ _ e5 ((m5.2 _ e2).trans ((m4.2 _ e4).trans ((m3.2 _ e2).trans ((m2.2 _ e3).trans ((m1.2 _ e1).trans y))))))) ⟨o,(m7.2 _ ez).trans ho,hc⟩
def WR{Q:Option VL→SD→Prop}(D1:Draws prog w A.in1 i1 f1 n1 P1 S1)(D2:Draws prog w A.in1 i2 f2 n2 P2 S2)(D3:Draws prog w A.in1 i3 f3 n3 P3 S3)(ap:NB z TI TO i1 i2 i3 f1 f2 f3)(hz:IsZip s.heap z TI TO .none)(hI:D6 s.heap TI (.ref i1) (.ref i2) (.ref i3))(hO:D6 s.heap TO a b c)
 (t1:S1 k s.heap)(t2:S2 k s.heap)(t3:S3 k s.heap)(l1:k<n1)(l2:k<n2)(l3:k<n3)
 (q:∀x y u h' tk,P1 k x→P2 k y→P3 k u→IsZip h' z TI TO (rawInt s.heap.objs.size)→D6 h' TO x y u→S1 (k+1) h'→S2 (k+1) h'→S3 (k+1) h'→D6 h' s.heap.objs.size x y u→h'.objs.size=s.heap.objs.size+1 →
   (∀c o,c≠z→c≠TO→c≠i1→c≠i2→c≠i3→s.heap.get? c=some o→h'.get? c=some o)→Q (some (.ref s.heap.objs.size)) {s with heap:=h',toks:=tk}) :
  wpAny (model prog w) A (pyNext (.ref z)) Q E s:=by
 have hT:s.TypeIs (.ref z) "zip" := ⟨_,hz,rfl⟩;unfold pyNext;exact Wb (wpAny_attempt (ag (name:=Str.ofString "__next__") hT bX
  (aW bX hT F.entry_zip_next (kd D1 D2 D3 ap hz hI hO t1 t2 t3 l1 l2 l3 fun x y u h' tk r1 r2 r3 r4 r5 r6 r7 r8 r9 r10 r11=>aA (q x y u h' tk r1 r2 r3 r4 r5 r6 r7 r8 r9 r10 r11)) (F.args_zip_next_1 _))))
def Yu{Q:Option VL→SD→Prop}(D1:Draws prog w A.in1 i1 f1 n1 P1 S1)(D2:Draws prog w A.in1 i2 f2 n2 P2 S2)(D3:Draws prog w A.in1 i3 f3 n3 P3 S3)(ap:NB z TI TO i1 i2 i3 f1 f2 f3)(hz:IsZip s.heap z TI TO .none)(hI:D6 s.heap TI (.ref i1) (.ref i2) (.ref i3))(hO:D6 s.heap TO a b c)
 (t1:S1 k s.heap)(t2:S2 k s.heap)(t3:S3 k s.heap)(he:k=n1∨(k<n1∧k=n2)∨(k<n1∧k<n2∧k=n3))
 (q:∀h' tk,(∀c o,c≠z→c≠TO→c≠i1→c≠i2→c≠i3→s.heap.get? c=some o→h'.get? c=some o)→Q none {s with heap:=h',toks:=tk}) :
  wpAny (model prog w) A (pyNext (.ref z)) Q E s:=by
 have hT:s.TypeIs (.ref z) "zip" := ⟨_,hz,rfl⟩;unfold pyNext;refine Wb (wpAny_attempt (ag (name:=Str.ofString "__next__") hT bX
  (aW bX hT F.entry_zip_next (jr D1 D2 D3 ap hz hI hO t1 t2 t3 he fun h' e tk kp ho=>?_) (F.args_zip_next_1 _))))
 obtain⟨o,ho,hc⟩:=ho;exact Wb (wpAny_isInstance (T := "StopIteration") (b:=true) ⟨o,ho,hc⟩ isSubtype_stop (aA (q _ _ kp)))
abbrev Mm(a b c:VL):Obj:={ cls:=.type "tuple",data:=.seq #[a,b,c]}
def fy(b1 b2 b3:Bool)(h:Heap)(l1 l2 l3:AD):Heap :=
 (((((h.push (BE b1 l1)).push (BE b2 l2)).push (BE b3 l3)).push (Mm (.ref h.objs.size) (.ref (h.push (BE b1 l1)).objs.size) (.ref ((h.push (BE b1 l1)).push (BE b2 l2)).objs.size))).push (Mm .none .none .none)).push
  { cls:=.type "zip",data:=.fields #[.none,.bool false,.bool false,.ref (((h.push (BE b1 l1)).push (BE b2 l2)).push (BE b3 l3)).objs.size,.ref ((((h.push (BE b1 l1)).push (BE b2 l2)).push (BE b3 l3)).push (Mm (.ref h.objs.size) (.ref (h.push (BE b1 l1)).objs.size) (.ref ((h.push (BE b1 l1)).push (BE b2 l2)).objs.size))).objs.size]}
def ZO(b1 b2 b3:Bool)(l1 l2 l3:AD)(xs ys zs:List VL) :
  Meets (Builtin.«zip.__new__» ⟨[.type "zip",.ref l1,.ref l2,.ref l3],[]⟩) (fun _ R s=>Sq b1 s.heap l1 xs∧Sq b2 s.heap l2 ys∧Sq b3 s.heap l3 zs ∧
   R (.ok (.ret (.ref (((((s.heap.push (BE b1 l1)).push (BE b2 l2)).push (BE b3 l3)).push (Mm (.ref s.heap.objs.size) (.ref (s.heap.push (BE b1 l1)).objs.size) (.ref ((s.heap.push (BE b1 l1)).push (BE b2 l2)).objs.size))).push (Mm .none .none .none)).objs.size))) {s with heap:=fy b1 b2 b3 s.heap l1 l2 l3}) :=
 .of_wp fun prog w A R s h=>by
  obtain⟨hp,g,d,tk,os⟩:=s;obtain⟨h1,h2,h3,h⟩:=h;have hsub:=sub_zip;have i1:∀(A:Around) (E:VL→SD→Prop) (Q:VL→SD→Prop),Q (.ref hp.objs.size) ⟨hp.push (BE b1 l1),g,d,tk,os⟩→wpAny (model prog w) A (pyIter (.ref l1)) Q E ⟨hp,g,d,tk,os⟩:=fun A E Q q=>Lh (s:=⟨hp,g,d,tk,os⟩) h1 q;have i2:∀(A:Around) (E:VL→SD→Prop) (Q:VL→SD→Prop),Q (.ref (hp.push (BE b1 l1)).objs.size) ⟨(hp.push (BE b1 l1)).push (BE b2 l2),g,d,tk,os⟩→wpAny (model prog w) A (pyIter (.ref l2)) Q E ⟨hp.push (BE b1 l1),g,d,tk,os⟩:=fun A E Q q=>Lh (s:=⟨hp.push (BE b1 l1),g,d,tk,os⟩) (h2.push _) q;have i3:∀(A:Around) (E:VL→SD→Prop) (Q:VL→SD→Prop),Q (.ref ((hp.push (BE b1 l1)).push (BE b2 l2)).objs.size) ⟨((hp.push (BE b1 l1)).push (BE b2 l2)).push (BE b3 l3),g,d,tk,os⟩→wpAny (model prog w) A (pyIter (.ref l3)) Q E ⟨(hp.push (BE b1 l1)).push (BE b2 l2),g,d,tk,os⟩:=fun A E Q q=>Lh (s:=⟨(hp.push (BE b1 l1)).push (BE b2 l2),g,d,tk,os⟩) ((h3.push _).push _) q
  wp_walk using i1,i2,i3
  exact⟨_,rfl,h⟩
def di(a b c:VL):checkTypeCall "zip" ⟨[a,b,c],[]⟩=pure ():=by kernel_rfl
def eC(a b c:VL):checkBuiltinCall "zip.__new__" ⟨[.type "zip",a,b,c],[]⟩=pure ():=by kernel_rfl
def fQ(a b c d:VL):argsOk "object.__init__" ⟨[a,b,c,d],[]⟩:=by
 unfold argsOk;rw[signature?_of (n:=['_','_','t','i','n','i','_','_']) (o:=['t','c','e','j','b','o']) (by kernel_rfl) F.owner_object]
 kernel_rfl
def Y2{b1 b2 b3:Bool}{l1 l2 l3:AD}{xs ys zs:List VL}{Q:VL→SD→Prop}(h1:Sq b1 s.heap l1 xs)(h2:Sq b2 s.heap l2 ys)(h3:Sq b3 s.heap l3 zs)
 (h:∀h',IsZip h' (s.heap.objs.size+5) (s.heap.objs.size+3) (s.heap.objs.size+4) .none→D6 h' (s.heap.objs.size+3) (.ref s.heap.objs.size) (.ref (s.heap.objs.size+1)) (.ref (s.heap.objs.size+2))→D6 h' (s.heap.objs.size+4) .none .none .none →
   Jm b1 h' s.heap.objs.size l1 0→Jm b2 h' (s.heap.objs.size+1) l2 0→Jm b3 h' (s.heap.objs.size+2) l3 0→(∀c o,s.heap.get? c=some o→h'.get? c=some o)→Q (.ref (s.heap.objs.size+5)) {s with heap:=h'}) :
  wpAny (model prog w) A (call (.type "zip") [.ref l1,.ref l2,.ref l3]) Q E s:=by
 refine callType_new F.called_zip (by decide) (di _ _ _) (eC _ _ _) (fun obj=>fQ obj _ _ _) F.entry_zip_new (ZO b1 b2 b3 l1 l2 l3 xs ys zs) ⟨h1,h2,h3,?_⟩;have up:∀(g:Heap) (o:Obj) (c:AD) (u:Obj),g.get? c=some u→(g.push o).get? c=some u:=fun g o c u e=>aD _ e;have n1:(s.heap.push (BE b1 l1)).objs.size=s.heap.objs.size+1:=Heap.size_push ..;have a0:(s.heap.push (BE b1 l1)).get? s.heap.objs.size=some (BE b1 l1):=aI _ (by cases b1<;>rfl);generalize hg1:s.heap.push (BE b1 l1)=g1 at n1 a0;have k1:∀c o,s.heap.get? c=some o→g1.get? c=some o:=fun c o e=>by rw[←hg1];exact up _ _ _ _ e
 have n2:(g1.push (BE b2 l2)).objs.size=s.heap.objs.size+2:=by rw[Heap.size_push,n1]
 have a1:(g1.push (BE b2 l2)).get? (s.heap.objs.size+1)=some (BE b2 l2):=by rw[←n1];exact aI _ (by cases b2<;>rfl)
 generalize hg2:g1.push (BE b2 l2)=g2 at n2 a1;have k2:∀c o,g1.get? c=some o→g2.get? c=some o:=fun c o e=>by rw[←hg2];exact up _ _ _ _ e
 have n3:(g2.push (BE b3 l3)).objs.size=s.heap.objs.size+3:=by rw[Heap.size_push,n2]
 have a2:(g2.push (BE b3 l3)).get? (s.heap.objs.size+2)=some (BE b3 l3):=by rw[←n2];exact aI _ (by cases b3<;>rfl)
 generalize hg3:g2.push (BE b3 l3)=g3 at n3 a2;have k3:∀c o,g2.get? c=some o→g3.get? c=some o:=fun c o e=>by rw[←hg3];exact up _ _ _ _ e
 have n4:(g3.push (Mm (.ref s.heap.objs.size) (.ref (s.heap.objs.size+1)) (.ref (s.heap.objs.size+2)))).objs.size=s.heap.objs.size+4:=by rw[Heap.size_push,n3]
 have a3:D6 (g3.push (Mm (.ref s.heap.objs.size) (.ref (s.heap.objs.size+1)) (.ref (s.heap.objs.size+2)))) (s.heap.objs.size+3) (.ref s.heap.objs.size) (.ref (s.heap.objs.size+1)) (.ref (s.heap.objs.size+2)):=by rw[←n3];exact aI _ rfl
 generalize hg4:g3.push (Mm (.ref s.heap.objs.size) (.ref (s.heap.objs.size+1)) (.ref (s.heap.objs.size+2)))=g4 at n4 a3;have k4:∀c o,g3.get? c=some o→g4.get? c=some o:=fun c o e=>by rw[←hg4];exact up _ _ _ _ e
 have n5:(g4.push (Mm .none .none .none)).objs.size=s.heap.objs.size+5:=by rw[Heap.size_push,n4]
 have a4:D6 (g4.push (Mm .none .none .none)) (s.heap.objs.size+4) .none .none .none:=by rw[←n4];exact aI _ rfl
 generalize hg5:g4.push (Mm .none .none .none)=g5 at n5 a4;have k5:∀c o,g4.get? c=some o→g5.get? c=some o:=fun c o e=>by rw[←hg5];exact up _ _ _ _ e
 have ez:fy b1 b2 b3 s.heap l1 l2 l3=g5.push { cls:=.type "zip",data:=.fields #[.none,.bool false,.bool false,.ref (s.heap.objs.size+3),.ref (s.heap.objs.size+4)]}:=by
  unfold fy;rw[hg1,hg2,hg3,n1,n2,hg4,hg5,n3,n4]
 have a5:IsZip (g5.push { cls:=.type "zip",data:=.fields #[.none,.bool false,.bool false,.ref (s.heap.objs.size+3),.ref (s.heap.objs.size+4)]}) (s.heap.objs.size+5) (s.heap.objs.size+3) (s.heap.objs.size+4) .none:=by rw[←n5];exact aI _ rfl
 rw[n1,n2,hg4,hg5,n5,ez];show _∧_;have k6:∀c o,g5.get? c=some o→(g5.push { cls:=.type "zip",data:=.fields #[.none,.bool false,.bool false,.ref (s.heap.objs.size+3),.ref (s.heap.objs.size+4)]}).get? c=some o:=fun c o e=>up _ _ _ _ e;refine⟨⟨_,a5,rfl⟩,h _ a5 (k6 _ _ (k5 _ _ a3)) (k6 _ _ a4) ?_ ?_ ?_ fun c o e=>k6 _ _ (k5 _ _ (k4 _ _ (k3 _ _ (k2 _ _ (k1 _ _ e)))))⟩
 ·have:=k6 _ _ (k5 _ _ (k4 _ _ (k3 _ _ (k2 _ _ a0))));cases b1 with
  |true=>exact⟨_,this,rfl,rfl⟩
  |false=>exact⟨_,this,rfl,rfl⟩
 ·have:=k6 _ _ (k5 _ _ (k4 _ _ (k3 _ _ a1)));cases b2 with
  |true=>exact⟨_,this,rfl,rfl⟩
  |false=>exact⟨_,this,rfl,rfl⟩
 ·have:=k6 _ _ (k5 _ _ (k4 _ _ a2));cases b3 with
  |true=>exact⟨_,this,rfl,rfl⟩
  |false=>exact⟨_,this,rfl,rfl⟩
end
end ZT
namespace L2
open PySem PySem.Spec PyProof.Rows
def ZV(b1 b2 b3:Bool)(a1 a2 a3:AD):It :=
 ⟨fun i H=>∃xs x ys y zs u,Cr b1 H a1 xs∧Cr b2 H a2 ys∧Cr b3 H a3 zs∧xs[i]? = some x∧ys[i]? = some y∧zs[i]? = some u,
  fun i H v H'=>∃p x y u,v=.ref p∧H p=none∧H'=upd H p (.tup [x,y,u])∧(∀xs,Cr b1 H a1 xs→xs[i]? = some x)∧(∀ys,Cr b2 H a2 ys→ys[i]? = some y)∧∀zs,Cr b3 H a3 zs→zs[i]? = some u,
  fun i H=>∃xs ys zs,Cr b1 H a1 xs∧Cr b2 H a2 ys∧Cr b3 H a3 zs∧(i=xs.length∨(i<xs.length∧i=ys.length)∨(i<xs.length∧i<ys.length∧i=zs.length))⟩
def mr(b1 b2 b3:Bool)(a1 a2 a3 z TI TO i1 i2 i3:AD):Nat→Heap→Prop:=fun i h=>IsZip h z TI TO .none∧ZT.D6 h TI (.ref i1) (.ref i2) (.ref i3)∧(∃a b c,ZT.D6 h TO a b c)∧ZT.Jm b1 h i1 a1 i∧ZT.Jm b2 h i2 a2 i∧ZT.Jm b3 h i3 a3 i
def XD{z TI TO i1 i2 i3 a1 a2 a3:AD}(ne:[z,TI,TO,i1,i2,i3].Nodup)(e1:∀b∈[z,TI,TO,i1,i2,i3],a1≠b)(e2:∀b∈[z,TI,TO,i1,i2,i3],a2≠b)(e3:∀b∈[z,TI,TO,i1,i2,i3],a3≠b):ZT.NB z TI TO i1 i2 i3 [i1,a1] [i2,a2] [i3,a3]:=by
 simp only[List.nodup_cons,List.mem_cons,List.not_mem_nil,or_false,not_or]at ne;obtain⟨⟨n1,n2,n3,n4,n4'⟩,⟨n5,n6,n7,n7'⟩,⟨n8,n9,n9'⟩,⟨n10,n11⟩,n12,_⟩:=ne;have x:∀ {a:AD},(∀b∈[z,TI,TO,i1,i2,i3],a≠b)→z≠a∧TO≠a∧i1≠a∧i2≠a∧i3≠a:=fun h=>⟨Ne.symm (h z (by simp)),Ne.symm (h TO (by simp)),Ne.symm (h i1 (by simp)),Ne.symm (h i2 (by simp)),Ne.symm (h i3 (by simp))⟩;have m:∀ {b i a:AD},b≠i→b≠a→b ∉ [i,a]:=fun h1 h2=>by simp[h1,h2]
 obtain⟨x1,x2,x3,x4,x5⟩:=x e1;obtain⟨y1,y2,y3,y4,y5⟩:=x e2;obtain⟨w1,w2,w3,w4,w5⟩:=x e3;exact⟨⟨Ne.symm n2,n8,n9,n9'⟩,⟨Ne.symm n3,Ne.symm n4,Ne.symm n4'⟩,⟨m n3 x1,m n8 x2,m (Ne.symm n10) x4,m (Ne.symm n11) x5⟩,⟨m n4 y1,m n9 y2,m n10 y3,m (Ne.symm n12) y5⟩,⟨m n4' w1,m n9' w2,m n11 w3,m n12 w4⟩⟩
def Yd{P:Program}{w:World}{K:Fg}{elts:List Expr}{x1}{pos:Pos}{b1 b2 b3:Bool}{a1 a2 a3 z TI TO i1 i2 i3:AD}(ne:[z,TI,TO,i1,i2,i3].Nodup) :
  Turn P w K (.Tuple elts x1 pos) (ZV b1 b2 b3 a1 a2 a3) [z,TI,TO,i1,i2,i3] z (mr b1 b2 b3 a1 a2 a3 z TI TO i1 i2 i3) where
 mem:=by simp
 obj:=fun i h st b hb=>by
  obtain⟨h1,h2,⟨u,v,w,h3⟩,h4,h5,h6⟩:=st;have hb:b=z∨b=TI∨b=TO∨b=i1∨b=i2∨b=i3:=by simpa using hb
  rcases hb with rfl|rfl|rfl|rfl|rfl|rfl
  ·exact⟨_,h1,fun v y=>by cases y⟩
  ·exact⟨_,h2,fun v y=>by cases y⟩
  ·exact⟨_,h3,fun v y=>by cases y⟩
  ·exact Ey h4
  ·exact Ey h5
  ·exact Ey h6
 keep:=fun i h h' st k=>by
  obtain⟨h1,h2,⟨u,v,w,h3⟩,h4,h5,h6⟩:=st;exact⟨k z (by simp) _ h1,k TI (by simp) _ h2,⟨u,v,w,k TO (by simp) _ h3⟩,ED h4 fun o e=>k i1 (by simp) o e,ED h5 fun o e=>k i2 (by simp) o e,ED h6 fun o e=>k i3 (by simp) o e⟩
 item:=by
  intro X hP hw hK hc i pins s σ H E I hf st hg;subst hP hw hK;obtain⟨xs,x,ys,y,zs,t,q1,q2,q3,hx,hy,ht⟩:=hg;obtain⟨us,rv1,p1⟩:=q1.raw I;obtain⟨vs,rv2,p2⟩:=q2.raw I;obtain⟨ws,rv3,p3⟩:=q3.raw I;obtain⟨u,hu,ru⟩:=rv1.get hx;obtain⟨v,hv,rv⟩:=rv2.get hy;obtain⟨o3,hw,rw'⟩:=rv3.get ht;obtain⟨t1,t2,⟨ta,tb,tc,t3⟩,t4,t5,t6⟩:=st;have e1:∀b∈[z,TI,TO,i1,i2,i3],a1≠b:=fun b hb=>q1.none (hf b hb).1;have e2:∀b∈[z,TI,TO,i1,i2,i3],a2≠b:=fun b hb=>q2.none (hf b hb).1;have e3:∀b∈[z,TI,TO,i1,i2,i3],a3≠b:=fun b hb=>q3.none (hf b hb).1;refine ZT.WR (ZT.EE (prog:=X.prog) (w:=X.w) (A:=X.A.in1) (I.ok.hd hc) b1 i1 a1 us (e1 i1 (by simp))) (ZT.EE (prog:=X.prog) (w:=X.w) (A:=X.A.in1) (I.ok.hd hc) b2 i2 a2 vs (e2 i2 (by simp))) (ZT.EE (prog:=X.prog) (w:=X.w) (A:=X.A.in1) (I.ok.hd hc) b3 i3 a3 ws (e3 i3 (by simp))) (XD ne e1 e2 e3) t1 t2 t3 ⟨t4,p1⟩ ⟨t5,p2⟩ ⟨t6,p3⟩ (aC.mp hu).1 (aC.mp hv).1 (aC.mp hw).1
   fun u' v' w' h' tk r1 r2 r2' r3 r4 r5 r6 r6' r7 r8 r9=>⟨_,rfl,wpAny_letOwnedTupleGo_zip (s:={s with heap:=h',toks:=tk}) r3 fun h'' z'' sb=>?_⟩
  rw[hu]at r1;rw[hv]at r2;rw[hw]at r2';cases r1;cases r2;cases r2';have ne':=ne;simp only[List.nodup_cons,List.mem_cons,List.not_mem_nil,or_false,not_or]at ne';obtain⟨⟨n1,n2,n3,n4,n4'⟩,⟨n5,n6,n7,n7'⟩,⟨n8,n9,n9'⟩,⟨n10,n11⟩,n12,_⟩:=ne';have keep:∀b o,b ∉ [z,TI,TO,i1,i2,i3]→s.heap.get? b=some o→h''.get? b=some o:=fun b o hb q=>by
   simp only[List.mem_cons,List.not_mem_nil,or_false,not_or]at hb;exact(sb.2 b hb.1).trans (r9 b o hb.1 hb.2.2.1 hb.2.2.2.1 hb.2.2.2.2.1 hb.2.2.2.2.2 q)
  have lt:∀b∈[z,TI,TO,i1,i2,i3],b<s.heap.objs.size:=fun b hb=>by
   have hb:b=z∨b=TI∨b=TO∨b=i1∨b=i2∨b=i3:=by simpa using hb
   rcases hb with rfl|rfl|rfl|rfl|rfl|rfl
   ·exact aF t1
   ·exact aF t2
   ·exact aF t3
   ·obtain⟨o,e,_⟩:=Ey t4;exact aF e
   ·obtain⟨o,e,_⟩:=Ey t5;exact aF e
   ·obtain⟨o,e,_⟩:=Ey t6;exact aF e
  have hTn:H s.heap.objs.size=none:=I.Ap.fresh (aG _);have hT'':h''.get? s.heap.objs.size=some { cls:=.type "tuple",data:=.seq #[u,v,o3]}:=(sb.2 _ (bW (lt z (by simp)))).trans r7;have neT:∀b o,s.heap.get? b=some o→b≠s.heap.objs.size:=fun b o q=>aH (aF q);have Eg:∀b o,H b=some o→b ∉ [z,TI,TO,i1,i2,i3]:=fun b o q hb=>by rw[(hf b hb).1]at q;cases q
  refine⟨.ref s.heap.objs.size,upd H s.heap.objs.size (.tup [x,y,t]),?_,rfl,⟨_,x,y,t,rfl,hTn,rfl,fun zs hz=>by rw[hz.inj q1];exact hx,fun zs hz=>by rw[hz.inj q2];exact hy,fun zs hz=>by rw[hz.inj q3];exact ht⟩,⟨z'',?_,⟨u,v,o3,?_⟩,?_,?_,?_⟩,fun b hb=>?_⟩
  ·show Inv X pins σ _ {s with heap:=h'',gens:=s.gens,drawn:=s.drawn,toks:=tk};refine I.step (h':=h'') (g':=s.gens) (d':=s.drawn) (t':=tk) (ch:=[z,TI,TO,i1,i2,i3]) (fun b hb=>?_) (fun b o _ _ hc q _=>keep b o hc q) (fun b o _ _ hc q _=>⟨o.slots,keep b o hc q⟩)
    (fun b o _ q n=>by rw[AJ (neT b o q)];exact n) (fun b o hc q=>⟨o,keep b o hc q⟩) (fun b ys q=>by rw[AJ (AU q hTn)];exact q) (fun b o u q=>by rw[AJ (AU q hTn)];exact q)
    (fun b ps q=>⟨#[],by rw[AJ (AU q hTn),q];simp⟩) (fun m hm=>?_) (fun b o q=>?_) I.bare
   ·obtain⟨_,f1,_,f3,f4,f5⟩:=hf b hb;exact⟨f3,f1,f4,f5⟩
   ·obtain⟨o,es,ep,ho,r⟩:=hm;exact⟨o,es,ep,keep _ o (fun hb=>(hf _ hb).2.1 rfl) ho,r⟩
   ·by_cases hb:b=s.heap.objs.size
    ·subst hb;rw[AI]at q;cases q;exact⟨show 3≤sizeLine by decide,[u,v,o3],.cons ru (.cons rv (.cons rw' .nil)),_,hT'',rfl,_,rfl⟩
    ·rw[AJ hb]at q;refine(I.Ap b o q).Ge (fun c w hc r=>keep c w ?_ r) (fun c r=>by rw[AJ (AU r hTn)];exact r) fun c ys r=>by rw[AJ (AU r hTn)];exact r
     rcases hc with rfl|hc
     ·exact Eg _ _ q
     ·exact Eg _ _ hc
  ·exact(sb.2 _ (Ne.symm n1)).trans (r9 _ _ (Ne.symm n1) n5 n6 n7 n7' t2)
  ·exact(sb.2 _ (Ne.symm n2)).trans r4
  ·exact ED r5.1 fun o e=>(sb.2 _ (Ne.symm n3)).trans e
  ·exact ED r6.1 fun o e=>(sb.2 _ (Ne.symm n4)).trans e
  ·exact ED r6'.1 fun o e=>(sb.2 _ (Ne.symm n4')).trans e
  ·rw[AJ (aH (lt b hb))];exact(hf b hb).1
 done:=by
  intro X hP hw hK hc i pins s σ H E I hf st hg;subst hP hw hK;obtain⟨xs,ys,zs,q1,q2,q3,he⟩:=hg;obtain⟨us,rv1,p1⟩:=q1.raw I;obtain⟨vs,rv2,p2⟩:=q2.raw I;obtain⟨ws,rv3,p3⟩:=q3.raw I;obtain⟨t1,t2,⟨ta,tb,tc,t3⟩,t4,t5,t6⟩:=st;have e1:∀b∈[z,TI,TO,i1,i2,i3],a1≠b:=fun b hb=>q1.none (hf b hb).1;have e2:∀b∈[z,TI,TO,i1,i2,i3],a2≠b:=fun b hb=>q2.none (hf b hb).1;have e3:∀b∈[z,TI,TO,i1,i2,i3],a3≠b:=fun b hb=>q3.none (hf b hb).1;have he':i=us.length∨(i<us.length∧i=vs.length)∨(i<us.length∧i<vs.length∧i=ws.length):=by rw[←rv1.length,←rv2.length,←rv3.length];exact he
  refine ZT.Yu (ZT.EE (prog:=X.prog) (w:=X.w) (A:=X.A.in1) (I.ok.hd hc) b1 i1 a1 us (e1 i1 (by simp))) (ZT.EE (prog:=X.prog) (w:=X.w) (A:=X.A.in1) (I.ok.hd hc) b2 i2 a2 vs (e2 i2 (by simp))) (ZT.EE (prog:=X.prog) (w:=X.w) (A:=X.A.in1) (I.ok.hd hc) b3 i3 a3 ws (e3 i3 (by simp))) (XD ne e1 e2 e3) t1 t2 t3 ⟨t4,p1⟩ ⟨t5,p2⟩ ⟨t6,p3⟩ he' fun h' tk kp=>⟨rfl,?_⟩;have keep:∀b o,b ∉ [z,TI,TO,i1,i2,i3]→s.heap.get? b=some o→h'.get? b=some o:=fun b o hb q=>by
   simp only[List.mem_cons,List.not_mem_nil,or_false,not_or]at hb;exact kp b o hb.1 hb.2.2.1 hb.2.2.2.1 hb.2.2.2.2.1 hb.2.2.2.2.2 q
  have Eg:∀b o,H b=some o→b ∉ [z,TI,TO,i1,i2,i3]:=fun b o q hb=>by rw[(hf b hb).1]at q;cases q
  show Inv X pins σ _ {s with heap:=h',gens:=s.gens,drawn:=s.drawn,toks:=tk};refine I.step (h':=h') (g':=s.gens) (d':=s.drawn) (t':=tk) (ch:=[z,TI,TO,i1,i2,i3]) (fun b hb=>?_) (fun b o _ _ hc q _=>keep b o hc q) (fun b o _ _ hc q _=>⟨o.slots,keep b o hc q⟩)
    (fun b o _ q n=>n) (fun b o hc q=>⟨o,keep b o hc q⟩) (fun b ys q=>q) (fun b o u q=>q)
    (fun b ps q=>⟨#[],by rw[q];simp⟩) (fun m hm=>?_) (fun b o q=>?_) I.bare
  ·obtain⟨_,f1,_,f3,f4,f5⟩:=hf b hb;exact⟨f3,f1,f4,f5⟩
  ·obtain⟨o,es,ep,ho,r⟩:=hm;exact⟨o,es,ep,keep _ o (fun hb=>(hf _ hb).2.1 rfl) ho,r⟩
  ·refine(I.Ap b o q).Ge (fun c w hc r=>keep c w ?_ r) (fun c r=>r) fun c ys r=>r;rcases hc with rfl|hc
   ·exact Eg _ _ q
   ·exact Eg _ _ hc
 self:=fun _ _ _ _ _ st h=>wpAny_pyIter_zip st.1 h
def k8(ta:TA):TI:=fun σ H R=>ta σ H fun vs H1=>∃(b1 b2 b3:Bool) (a1 a2 a3:AD),vs=[.ref a1,.ref a2,.ref a3]∧(∃xs,Cr b1 H1 a1 xs)∧(∃ys,Cr b2 H1 a2 ys)∧(∃zs,Cr b3 H1 a3 zs)∧R (ZV b1 b2 b3 a1 a2 a3) H1
def eX{X:Cx}{elts:List Expr}{x1}{tpos:Pos}{a b c:Expr}{ta:TA}{p pos:Pos}(hg:Gl X "zip")(hm:X.mg "zip" = none)(ha:PA X [a,b,c] ta)(hs:starEach [a,b,c] X.env=[(false,eval a X.env),(false,eval b X.env),(false,eval c X.env)]:=by rfl)(hs2:starEach [b,c] X.env=[(false,eval b X.env),(false,eval c X.env)]:=by rfl) :
  PI X (.Tuple elts x1 tpos) (.Call (.Name "zip" p) [a,b,c] [] pos) (k8 ta):=by
 intro pins s σ H R I h;refine Call_ (GD I hg hm boot_zip (az (BN (ha pos pins s σ H _ I h) fun us s1 ⟨vs,H1,I1,r1,q1⟩=>?_) (by rw[hs,hs2]) (by rw[hs2];rfl)));obtain⟨b1,b2,b3,l1,l2,l3,e,⟨xs,h1⟩,⟨ys,h2⟩,⟨zs,h3⟩,q⟩:=q1;subst e;cases r1 with
 |cons r rr =>
  cases rr with
  |cons r' rr =>
   cases rr with
   |cons r'' rr =>
    cases rr;cases r;cases r';cases r'';obtain⟨us,_,p1⟩:=h1.raw I1;obtain⟨vs,_,p2⟩:=h2.raw I1;obtain⟨ws,_,p3⟩:=h3.raw I1;refine ZT.Y2 p1 p2 p3 fun h' z1 z2 z3 z4 z5 z6 hk=>wpAny_pyIter_zip z1 ?_;have I2:Inv X pins σ H1 {s1 with heap:=h'}:=I1.kept (t':=s1.toks) hk;refine⟨_,[s1.heap.objs.size+5,s1.heap.objs.size+3,s1.heap.objs.size+4,s1.heap.objs.size,s1.heap.objs.size+1,s1.heap.objs.size+2],_,_,H1,rfl,I2,Yd ?_,⟨z1,z2,⟨_,_,_,z3⟩,z4,z5,z6⟩,fun b hb=>?_,q⟩
    ·simp
    have hb':s1.heap.objs.size≤b:=by
     have hb2:b=s1.heap.objs.size+5∨b=s1.heap.objs.size+3∨b=s1.heap.objs.size+4∨b=s1.heap.objs.size∨b=s1.heap.objs.size+1∨b=s1.heap.objs.size+2:=by simpa using hb
     rcases hb2 with h|h|h|h|h|h<;>rw[h]<;>first|exact aG _|exact Nat.le_add_right _ _
    exact I1.Ov hb' (I1.Ap.fresh hb')
def K1(xs ys zs:List PD):List PD:=(xs.zip (ys.zip zs)).map fun q=>.tuple [q.1,q.2.1,q.2.2]
def RH{xs ys zs:List PD}{i:Nat}{d:PD}(h:(K1 xs ys zs)[i]? = some d):∃x y z,xs[i]? = some x∧ys[i]? = some y∧zs[i]? = some z∧d=.tuple [x,y,z]:=by
 unfold K1 at h;rw[List.getElem?_map]at h;obtain⟨q,h1,rfl⟩:=aE.mp h;obtain⟨k1,k2⟩:=List.getElem?_zip_eq_some.mp h1;obtain⟨k3,k4⟩:=List.getElem?_zip_eq_some.mp k2;exact⟨q.1,q.2.1,q.2.2,k1,k3,k4,rfl⟩
def dH{Gc H:Hp}{p:AD}{x y z:PD}{u v w:V}(e2:AK Gc H)(hp:H p=none)(d1:Du Gc x u)(d2:Du Gc y v)(d3:Du Gc z w):∃Gc',AK Gc Gc'∧Nw Gc H Gc'∧AK Gc' (upd H p (.tup [u,v,w]))∧AK H (upd H p (.tup [u,v,w]))∧Du Gc' (.tuple [x,y,z]) (.ref p):=by
 have hG:Gc p=none:=by
  cases q:Gc p with
  |none=>rfl
  |some o=>rw[e2 _ _ q]at hp;cases hp
 have e:AK Gc (upd Gc p (.tup [u,v,w])):=AO hG _;refine⟨upd Gc p (.tup [u,v,w]),e,fun b o h=>?_,fun b o h=>?_,AO hp _,?_⟩
 ·by_cases hb:b=p
  ·subst hb;exact .inr (.inl hp)
  ·rw[AJ hb]at h;exact .inl h
 ·by_cases hb:b=p
  ·subst hb;rw[AI]at h ⊢;exact h
  ·rw[AJ hb]at h ⊢;exact e2 _ _ h
 ·rw[Du];exact⟨p,_,rfl,AI,.cons (d1.same e) (.cons (d2.same e) (.cons (d3.same e) .nil))⟩
def eS{G:Hp}{b1 b2 b3:Bool}{a1 a2 a3:AD}{us vs ws:List V}{xs ys zs:List PD}(h1:G a1=some (if b1 then .tup us else .lst us))(h2:G a2=some (if b2 then .tup vs else .lst vs))(h3:G a3=some (if b3 then .tup ws else .lst ws))(d1:An G xs us)(d2:An G ys vs)(d3:An G zs ws):MC (ZV b1 b2 b3 a1 a2 a3) (K1 xs ys zs) G where
 stop:=fun H e=>by
  have k1:=e _ _ h1;have k2:=e _ _ h2;have k3:=e _ _ h3;refine⟨us,vs,ws,?_,?_,?_,?_⟩
  ·cases b1<;>simpa[Cr]using k1
  ·cases b2<;>simpa[Cr]using k2
  ·cases b3<;>simpa[Cr]using k3
  ·rw[d1.len,d2.len,d3.len];simp[K1];omega
 go:=fun i x H hx e=>by
  obtain⟨x1,x2,x3,k1,k2,k3,rfl⟩:=RH hx;obtain⟨v1,j1,_⟩:=d1.get k1;obtain⟨v2,j2,_⟩:=d2.get k2;obtain⟨v3,j3,_⟩:=d3.get k3;have m1:=e _ _ h1;have m2:=e _ _ h2;have m3:=e _ _ h3;refine⟨us,v1,vs,v2,ws,v3,?_,?_,?_,j1,j2,j3⟩
  ·cases b1<;>simpa[Cr]using m1
  ·cases b2<;>simpa[Cr]using m2
  ·cases b3<;>simpa[Cr]using m3
 Ef:=fun i x H v H' hx e y Gc e1 e2=>by
  obtain⟨x1,x2,x3,k1,k2,k3,rfl⟩:=RH hx;obtain⟨p,v1,v2,v3,rfl,hp,rfl,y1,y2,y3⟩:=y;have m1:=e _ _ h1;have m2:=e _ _ h2;have m3:=e _ _ h3;have z1:=y1 us (by cases b1<;>simpa[Cr]using m1);have z2:=y2 vs (by cases b2<;>simpa[Cr]using m2);have z3:=y3 ws (by cases b3<;>simpa[Cr]using m3);obtain⟨w1,n1,n2⟩:=d1.back z1;obtain⟨w2,n3,n4⟩:=d2.back z2;obtain⟨w3,n5,n6⟩:=d3.back z3;rw[k1]at n1;cases n1;rw[k2]at n3;cases n3;rw[k3]at n5;cases n5;exact dH e2 hp (n2.same e1) (n4.same e1) (n6.same e1)
def Qa:List PD→Option (List PD)
 |[x,y,z]=>(IG x).bind fun xs=>(IG y).bind fun ys=>(IG z).map fun zs=>K1 xs ys zs
 |_=>none
section
variable{X:Cx}{a b c:Expr}{fs:Dv→Option (List PD)}{pos p:Pos}
def dn{elts:List Expr}{x1}{tpos:Pos}(hg:Gl X "zip")(hm:X.mg "zip" = none)(ha:DA X [a,b,c] fs)(hs:starEach [a,b,c] X.env=[(false,eval a X.env),(false,eval b X.env),(false,eval c X.env)]:=by rfl)(hs2:starEach [b,c] X.env=[(false,eval b X.env),(false,eval c X.env)]:=by rfl) :
  DI X (.Tuple elts x1 tpos) (.Call (.Name "zip" p) [a,b,c] [] pos) (fun δ=>(fs δ).bind Qa):=by
 obtain⟨t,p,k⟩:=ha;refine⟨_,eX hg hm p hs hs2,fun δ xs h G0 H0 G H σ ts R R0 q=>?_⟩;obtain⟨x,h1,h2⟩:=aB.mp h;refine k δ _ h1 G0 H0 G H σ ts _ R0 fun vs G' H' R' hv=>?_;obtain⟨d,R2⟩:=R'.args hv;unfold Qa at h2;split at h2
 ·obtain⟨xs1,h3,h4⟩:=aB.mp h2;obtain⟨ys1,h5,h6⟩:=aB.mp h4;obtain⟨zs1,h7,rfl⟩:=aE.mp h6;obtain⟨v1,r1,rfl,du,d⟩:=d.un;obtain⟨v2,r2,rfl,dv,d⟩:=d.un;obtain⟨w,rfl,dw⟩:=d.IP;obtain⟨b1,a1,us,rfl,n1,n2⟩:=Mn du h3;obtain⟨b2,a2,vs,rfl,m1,m2⟩:=Mn dv h5;obtain⟨b3,a3,ws,rfl,o1,o2⟩:=Mn dw h7;have s1:=R2.ins _ _ n1;have s2:=R2.ins _ _ m1;have s3:=R2.ins _ _ o1;exact⟨b1,b2,b3,a1,a2,a3,rfl,⟨us,by cases b1<;>simpa[Cr]using s1⟩,⟨vs,by cases b2<;>simpa[Cr]using s2⟩,⟨ws,by cases b3<;>simpa[Cr]using s3⟩,q _ _ _ R2 (eS n1 m1 o1 n2 m2 o2)⟩
 ·cases h2
def TF(i j l:Nat)(y:PD)(δ:Dv):Option Dv:=match y with
 |.tuple [u,v,w]=>some (((δ.set i (.d u)).set j (.d v)).set l (.d w))
 |_=>none
def Z4{x y z:Str}{i j l:Nat}{px py pz:Pos}{k1}(h:PG X (.Tuple [.Name x px,.Name y py,.Name z pz] k1 pos) (Wc X.K 3 (Kg (EJ i) (Kg (EJ j) (Kg (EJ l) WY))))):DG X (.Tuple [.Name x px,.Name y py,.Name z pz] k1 pos) (TF i j l):=by
 refine⟨_,h,fun δ z δ' e G0 H0 G H σ v Q R k=>?_⟩;unfold TF at e;split at e
 ·cases e;have du:=R.CD _ (.head _);rw[Du]at du;obtain⟨a,ys,rfl,n1,n2⟩:=du;obtain⟨w1,r1,rfl,m1,n2⟩:=n2.un;obtain⟨w2,r2,rfl,m2,n2⟩:=n2.un;obtain⟨w3,rfl,m3⟩:=n2.IP;refine⟨a,[w1,w2,w3],rfl,Ay.of (R.ins _ _ n1),rfl,w1,[w2,w3],rfl,w2,[w3],rfl,w3,[],rfl,rfl,?_⟩;exact k _ _ _ ((((R.drop.put m3).put m2).put m1).Ia.Ia.Ia)
 ·cases e
end
end L2
set_option maxHeartbeats 1000000
set_option maxHeartbeats 4000000
set_option maxHeartbeats 1000000
set_option maxHeartbeats 4000000
set_option maxHeartbeats 1000000
set_option maxHeartbeats 4000000
set_option maxHeartbeats 1000000
set_option maxHeartbeats 2000000
namespace L2
open PySem PySem.Spec PyProof.Rows
abbrev TB:=St→Hp→(Hp→Prop)→XK→Prop
def cU(X:Cx)(st:Stmt)(t:TB):Prop:=∀(pins:List (AD×Obj)) (s:SD) (σ:St) (H:Hp) (N:Hp→Prop) (E:XK),Inv X pins σ H s→t σ H N E→wpAny (model X.prog X.w) X.A (exec st X.env) (fun f s'=>f=.next∧∃H',Inv X pins σ H' s'∧N H') (R5 X pins σ E) s
def SW(X:Cx)(sts:List Stmt)(t:TB):Prop:=∀(pins:List (AD×Obj)) (s:SD) (σ:St) (H:Hp) (N:Hp→Prop) (E:XK),Inv X pins σ H s→t σ H N E→wpAny (model X.prog X.w) X.A (execs sts X.env) (fun f s'=>f=.next∧∃H',Inv X pins σ H' s'∧N H') (R5 X pins σ E) s
section
variable{X:Cx}{st:Stmt}{rest a b:List Stmt}{t u:TB}{e c:Expr}{pos:Pos}
def eL:SW X [] (fun _ H N _=>N H):=fun _ _ _ H _ _ I h=>wpAny_execs_nil ⟨rfl,H,I,h⟩
def bj(h1:cU X st t)(h2:SW X rest u):SW X (st::rest) (fun σ H N E=>t σ H (fun H1=>u σ H1 N E) E):=by
 intro pins s σ H N E I h;refine wpAny_execs_cons (BN (h1 pins s σ H _ E I h) fun f s1 q=>?_);obtain⟨rfl,H1,I1,q1⟩:=q;exact h2 pins s1 σ H1 N E I1 q1
def fM{tx:TX}(he:mE X e tx)(hs:swapsWith e none pos.line X.env=pure false:=by rfl):cU X (.Expr e pos) (fun σ H N E=>tx σ H (fun _ H1=>N H1) E):=by
 intro pins s σ H N E I h;exact wpAny_Expr_any (BN (he pins s σ H _ E I h) fun v s1 ⟨x,H1,I1,r1,q1⟩=>⟨rfl,H1,I1,q1⟩) I.quiet hs
def kL{tc:TT}(hc:PT X.Gv c tc)(ha:SW X a t)(hb:SW X b u):cU X (.If c a b pos) (fun σ H N E=>tc σ H fun d H1=>if d=true then t σ H1 N E else u σ H1 N E):=by
 intro pins s σ H N E I h;refine wpAny_If (aU (hc pins s σ H _ (I.F3 _) h) (fun d s1 ⟨H1,I1,q1⟩=>?_) fun _ _ z=>z.elim);cases d with
 |true=>exact ha pins s1 σ H1 N E I1.Dj q1
 |false=>exact hb pins s1 σ H1 N E I1.Dj q1
def lO(X:Cx)(k:Nat)(hs:List ExceptHandler)(t:TB):TS:=fun D σ H=>t σ H (fun H1=>D.nx σ H1) fun cls _ H'=>∃C,cls=.ref C∧∀ea,∃tb,SU X C ea k hs tb∧(H' ea=none→tb (WX D k) (σ.set k (some (.ref ea))) (upd H' ea (Lo ea cls)))
def fT{body:List Stmt}{k:Nat}{h0:ExceptHandler}{hs:List ExceptHandler}(he:SW X body t)(hN:X.N.Nodup)(hcalm:X.calm=true)(hstk:∃rest,X.stack=X.env::rest)(hfr:X.env.frame=some X.env.locals):PS X (.Try body (h0::hs) [] [] pos) (lO X k (h0::hs) t):=by
 intro pins s σ H D I h;refine wpAny_Try_except (aU (he pins s σ H _ _ I h) (fun f s1 q=>?_) fun ev s1 hf=>?_)
 ·obtain⟨rfl,H1,I1,q1⟩:=q;exact wpAny_execs_nil ⟨_,H1,I1,q1⟩
 ·obtain⟨H0,s0,I,ea,cls,a0,H',B,ee,F,C,hc,q⟩:=hf;subst ee hc;obtain⟨rest,hrest⟩:=hstk;have F1:=F.jo;rw[hrest]at F1;have hfrm:X.A.frames=some (X.env::rest):=by rw[←hrest];exact I.ok.frames
  refine wpAny_looks_onW hfrm hfr F1 fun h4 held4 up4=>?_;refine wpAny_landsW held4 fun h5 fl5 up5=>?_;have up05:=up4.trans up5;have I5:Inv X pins σ H' {s1 with heap:=h5,toks:=s1.toks}:=land I F fl5.1 up05;obtain⟨tb,q1,q2⟩:=q ea;exact ZW hN hcalm I F hrest hfr fl5 up05 I5 q1 q2
end
abbrev FB:=Dv→Option (Option AD)
def jl(G0 H0:Hp)(σ:St)(δ:Dv)(N:Hp→Prop)(E:XK):Option AD→Prop
 |none=>∀G' H',Rw G0 H0 G' H' σ δ []→N H'
 |some C=>∀G' H',Rw G0 H0 G' H' σ δ []→E (.ref C) none H'
def gw(X:Cx)(st:Stmt)(F:FB):Prop:=∃t,cU X st t∧∀δ r,F δ=some r→∀G0 H0 G H σ N E,Rw G0 H0 G H σ δ []→jl G0 H0 σ δ N E r→t σ H N E
def DB(X:Cx)(sts:List Stmt)(F:FB):Prop:=∃t,SW X sts t∧∀δ r,F δ=some r→∀G0 H0 G H σ N E,Rw G0 H0 G H σ δ []→jl G0 H0 σ δ N E r→t σ H N E
def EW:FB:=fun _=>some none
def EN(F1 F2:FB):FB:=fun δ=>(F1 δ).bind fun r=>match r with
 |none=>F2 δ
 |some C=>some (some C)
def EL(m:List PD→Option Xr)(fs:Dv→Option (List PD)):FB:=fun δ=>((fs δ).bind m).map fun r=>match r with
 |.inl _=>none
 |.inr C=>some C
def MJ(c:Dv→Option Bool)(F1 F2:FB):FB:=fun δ=>(c δ).bind fun b=>if b=true then F1 δ else F2 δ
section
variable{X:Cx}{st:Stmt}{rest a b:List Stmt}{e c:Expr}{es:List Expr}{fs:Dv→Option (List PD)}{fc:Dv→Option Bool}{F1 F2:FB}{pos p spos:Pos}
def HB:DB X [] EW:=⟨_,eL,fun δ r h G0 H0 G H σ N E R q=>by cases h;exact q _ _ R⟩
def Gm(h1:gw X st F1)(h2:DB X rest F2):DB X (st::rest) (EN F1 F2):=by
 obtain⟨t1,p1,k1⟩:=h1;obtain⟨t2,p2,k2⟩:=h2;refine⟨_,bj p1 p2,fun δ r h G0 H0 G H σ N E R q=>?_⟩;obtain⟨r1,h3,h4⟩:=aB.mp h;refine k1 δ r1 h3 G0 H0 G H σ _ E R ?_;cases r1 with
 |none=>exact fun G' H' R'=>k2 δ r h4 G0 H0 G' H' σ N E R' q
 |some C=>cases h4;exact q
def SA(hc:DT X.Gv c fc)(ha:DB X a F1)(hb:DB X b F2):gw X (.If c a b pos) (MJ fc F1 F2):=by
 obtain⟨tc,pc,kc⟩:=hc;obtain⟨t1,p1,k1⟩:=ha;obtain⟨t2,p2,k2⟩:=hb;refine⟨_,kL pc p1 p2,fun δ r h G0 H0 G H σ N E R q=>?_⟩;obtain⟨d,h3,h4⟩:=aB.mp h;refine kc δ d h3 G0 H0 G H σ [] _ R fun G' H' R'=>?_;cases d with
 |true=>exact k1 δ r h4 G0 H0 G' H' σ N E R' q
 |false=>exact k2 δ r h4 G0 H0 G' H' σ N E R' q
def NY{kk:Nat}{fA:AD}{fd:FuncData}{ps:List Str}{m:List PD→Option Xr}{x:Str}{st':Stmt}(T:Fn X.K X.mg x st' ps fA fd)(F:AQ X.prog X.w X.K X.mg X.base (Cb X.prog X.w) kk fA fd ps (FK m))(hr:Cs kk X.A)(ha:DA X.Gv (e::es) fs)
 (hg:Gl X x:=by rfl)(hdb:(x==("__debug__" : Str))=false:=by decide)(he:starEach (e::es) X.env=(false,eval e X.env)::starEach es X.env:=by rfl)(hpl:(backTo pos (starEach es X.env)).any (·.1)=false:=by rfl)
 (hse:swapsWith (.Call (.Name x p) (e::es) [] pos) none spos.line X.env=pure false:=by rfl):gw X (.Expr (.Call (.Name x p) (e::es) [] pos) spos) (EL m fs):=by
 obtain⟨ta,pa,ka⟩:=ha;refine⟨_,fM (gP T F hr hg pa hdb he hpl) hse,fun δ r h G0 H0 G H σ N E R q=>?_⟩;obtain⟨w,h1,rfl⟩:=aE.mp h;refine XA (k:=kk) ka h1 R (fun x hx v G' H' R'=>?_) (fun C hC G' H' R'=>?_)
 ·subst hx;exact q _ _ R'.drop
 ·subst hC;exact q _ _ R'
end
abbrev R8(k:Nat)(F:FB)(Fh:DF):DF:=fun δ=>(F δ).bind fun r=>match r with
 |none=>some (.nx δ)
 |some C=>(Fh (δ.set k (.d (Mz C)))).bind (i8 k)
def fK{X:Cx}{k:Nat}{body:List Stmt}{F:FB}{Fh:DF}{cx n:Str}{Gx:AD}{np hpos tp:Pos}{b0:Stmt}{suite:List Stmt}(hb:DB X body F)(hN:X.N.Nodup)(hB:∀δ C,F δ=some (some C)→ER X.K C Gx true)(hm:X.mg cx=some (.ref Gx))(hs:∀ea,Mc (X.held ea) (b0::suite) Fh)
 (hcalm:X.calm=true:=by rfl)(hstk:∃rest,X.stack=X.env::rest:=by exact⟨_,rfl⟩)(hfr:X.env.frame=some X.env.locals:=by rfl)(hg:Gl X cx:=by rfl)(hd:(cx==("__debug__" : Str))=false:=by decide)(hk:X.N[k]? = some n:=by rfl)(hln:X.env.scope.names.lookup n=some .local:=by rfl) :
  DS X (.Try body [.ExceptHandler (some (.Name cx np)) (some n) (b0::suite) hpos] [] [] tp) (R8 k F Fh):=by
 obtain⟨tb,pb,kb⟩:=hb;refine⟨_,fT (k:=k) pb hN hcalm hstk hfr,fun δ r h G0 H0 G H σ D R q=>?_⟩;obtain⟨w,h1,h2⟩:=aB.mp h;refine kb δ w h1 G0 H0 G H σ _ _ R ?_;cases w with
 |none=>cases h2;exact fun G' H' R'=>q _ _ _ R'
 |some C =>
  intro G' H' R';refine⟨C,rfl,fun ea=>?_⟩;obtain⟨th,p1,p2⟩:=hs ea;refine⟨th,.hit hg hm hd (hB δ C h1) hk hln p1,fun hea=>?_⟩;obtain⟨o,h3,h4⟩:=aB.mp h2;have R2:=R'.newObj (o:=Lo ea (.ref C)) hea;have de:Du (upd G' ea (Lo ea (.ref C))) (Mz C) (.ref ea):=by unfold Mz;rw[Du];exact .inl ⟨ea,C,rfl,rfl,AI⟩
  refine p2 _ o h3 G0 H0 _ _ _ _ ((R2.put de).Ia) ?_;cases o with
  |nx δ'=>cases h4;exact fun σ4 G4 H4 R4=>q _ _ _ (R4.kz k none)
  |rt v=>cases h4
  |bk v=>cases h4
  |ct v=>cases h4
  |rn v=>cases h4
section
variable{k:Nat}{F F1 F2:FB}{Fh:DF}{δ δ':Dv}{fs:Dv→Option (List PD)}{m:List PD→Option Xr}{ds:List PD}{c:Dv→Option Bool}{r:Option (Option AD)}
def ZN(h:F δ=some none):R8 k F Fh δ=some (.nx δ):=by show(F δ).bind _=_;rw[h];rfl
def Y7{C:AD}(h:F δ=some (some C))(z:Fh (δ.set k (.d (Mz C)))=some (.nx δ')):R8 k F Fh δ=some (.nx (δ'.set k .no)):=by
 show(F δ).bind _=_;rw[h];show(Fh (δ.set k (.d (Mz C)))).bind (i8 k)=_;rw[z];rfl
def B6(h:F1 δ=some none)(q:F2 δ=r):EN F1 F2 δ=r:=by show(F1 δ).bind _=_;rw[h];exact q
def Gp{C:AD}(h:F1 δ=some (some C)):EN F1 F2 δ=some (some C):=by show(F1 δ).bind _=_;rw[h];rfl
def Ki(h:c δ=some true)(q:F1 δ=r):MJ c F1 F2 δ=r:=by show(c δ).bind _=_;rw[h];exact q
def GJ(h:c δ=some false)(q:F2 δ=r):MJ c F1 F2 δ=r:=by show(c δ).bind _=_;rw[h];exact q
def Lr{y:PD}(h:fs δ=some ds)(q:m ds=some (.inl y)):EL m fs δ=some none:=by show((fs δ).bind m).map _=_;rw[h];show(m ds).map _=_;rw[q];rfl
def J9{C:AD}(h:fs δ=some ds)(q:m ds=some (.inr C)):EL m fs δ=some (some C):=by show((fs δ).bind m).map _=_;rw[h];show(m ds).map _=_;rw[q];rfl
def BS(P:AD→Prop)(F:FB):Prop:=∀δ C,F δ=some (some C)→P C
def BS.at{P:AD→Prop}{F:FB}(h:BS P F):∀δ C,F δ=some (some C)→P C:=h
variable{P:AD→Prop}
def BS.nil:BS P EW:=fun δ C h=>by cases h
def BS.seq(h1:BS P F1)(h2:BS P F2):BS P (EN F1 F2):=fun δ C h=>by
 obtain⟨r1,h3,h4⟩:=aB.mp h;cases r1 with
 |none=>exact h2 δ C h4
 |some C'=>cases h4;exact h1 δ _ h3
def BS.if(h1:BS P F1)(h2:BS P F2):BS P (MJ c F1 F2):=fun δ C h=>by
 obtain⟨b,_,h4⟩:=aB.mp h;cases b with
 |true=>exact h1 δ C h4
 |false=>exact h2 δ C h4
def BS.call(h:∀ds C,m ds=some (.inr C)→P C):BS P (EL m fs):=fun δ C z=>by
 obtain⟨w,h1,h2⟩:=aE.mp z;obtain⟨ds,_,h3⟩:=aB.mp h1;cases w with
 |inl y=>cases h2
 |inr C'=>cases h2;exact h ds _ h3
end
end L2
set_option maxHeartbeats 4000000
namespace Opn
open PySem PySem.W PyProof.Rows PySem.Calls
noncomputable def q0:Pos:=⟨0,0,0,0⟩
noncomputable def lY:Obj:={ cls:=.type "tuple",data:=.seq #[]}
noncomputable def lq:Obj:={ cls:=.none,data:=.fields #[]}
noncomputable def mD:Obj:={ cls:=.type "code",data:=.fields #[.str (Str.ofString "<module>") 182,.str (Str.ofString "<module>") 183,.str (Str.ofString "/claim/cut.py") 184,.int 1 0,.int 0 0,.int 0 0,.int 0 0,.int 0 0,.ref 11,.bool false,.int 181 0,.ref 12,.none,.none,.none,.none,.int 185 0,.int 1 0,.str (Str.ofString "/claim/cut.py") 186]}
noncomputable def lx:Obj:={ cls:=.type "frame",slots:=#[some (.ref 13),some (.ref 3),some (.ref 3),none,some (.str (Str.ofString "__main__") 164),none,some (.ref 0)]}
noncomputable def kX(P:Params):List Obj:=(boot_heap P).objs.toList++[lY,lq,mD,lx]
noncomputable def nN(P:Params)(o:Params→Obj)(l r:BT):BT:=.node (o P) l r
noncomputable def lN(P:Params)(o:Params→Obj):BT:=.node (o P) .nil .nil
noncomputable def kj(P:Params):BT :=
 nN P boot_o_0 (nN P boot_o_1 (nN P boot_o_3 (lN P boot_o_7) (.node lY .nil .nil)) (nN P boot_o_5 (lN P boot_o_9) (.node mD .nil .nil)))
  (nN P boot_o_2 (nN P boot_o_4 (lN P boot_o_8) (.node lq .nil .nil)) (nN P boot_o_6 (lN P boot_o_10) (.node lx .nil .nil)))
noncomputable def cf:Life:=Life.mk [] [] [] 0 [] [] false #[] [] 0 false false false 0 [2000,10,10] false 0 true [] [] 0 false
noncomputable def sA(w:World)(os:OsState):SD:=⟨⟨⟨kX w.params⟩,cf⟩,#[],boot_drawn,187,os⟩
noncomputable def sB(w:World)(os:OsState):SharedT:=⟨kj w.params,15,cf,#[],boot_drawn,187,os⟩
noncomputable def Oe(p:Program):Env:={ scope:=p.main.scope,locals:=mainNs,globals:=mainNs,cells:=[],code:=.ref 13,frame:=some 14}
noncomputable def cB(p:Program):Code:=.body (behindTheImports p) (Oe p)
noncomputable abbrev Ic:Option VL:=some (.ref 6)
noncomputable abbrev bB:List Frame:=[topFrame q0]
noncomputable def WT(p:Program)(M:Nat)(w:World)(os:OsState):Option (Flow×SharedT×Code×Pos) :=
 PySem.W.Fast.tw10110043849684766642 PySem.W.Fast.tw14364793385576792824 p w 11 Ic 1 M (sB w os) (piecesOf (behindTheImports p) (Oe p) (cB p) q0 bB)
noncomputable def WN(p:Program)(M:Nat)(w:World)(os:OsState):SharedT:=match WT p M w os with|some (_,s,_)=>s|none=>sB w os
def d7{p:Program}{M:Nat}{w:World}{os:OsState}{r:Option (Flow×SharedT×Code×Pos)}(h:WT p M w os=r) :
  segRunT treeTable p w 11 Ic 1 M (sB w os) (piecesOf (behindTheImports p) (Oe p) (cB p) q0 bB)=r:=by
 have e:segRunT treeTable=PySem.W.Fast.tw10110043849684766642 PySem.W.Fast.tw14364793385576792824:=congr PySem.W.Fast.te10110043849684766642 PySem.W.Fast.te14364793385576792824;rw[e];exact h
def iB{p:Program}{M M0:Nat}{posE:Pos}{w:World}{os:OsState}
 (pre:topGo treeTable p w 11 Ic 12 ⟨boot_heap w.params,#[],boot_drawn,boot_toks,os⟩ (topStub p)=some (sA w os,⟨denote treeTable (cB p),cB p,q0,bB⟩))
 (blk:segRun treeTable p w 11 Ic 1 1 (sA w os) (blockOf (behindTheImports p) (Oe p) (cB p) q0 bB)=some (.next,(sB w os).abs,cB p,q0))
 (seg:WT p M w os=some (.next,WN p M w os,cB p,posE))
 (fin:∀s,topRun treeTable p w 11 Ic 2 s (restOf [] (Oe p) (cB p) posE bB)=some s)(hM:M0=12+(1+(M+2))) :
  topRun treeTable p w 11 Ic M0 ⟨boot_heap w.params,#[],boot_drawn,boot_toks,os⟩ (topStub p)=some (WN p M w os).abs:=by
 subst hM;refine go_top pre (piece_block blk ?_);have h:=piece_app (rest:=[]) (segRun_of (d7 seg)) (fin _);rw[List.append_nil]at h;exact h
def dZ{p q:Program}{loose:List Str}{Xt:SD→Bool}{α:Type}{Yf:SD→α}{Ya:World→α}{N M:Nat}{S:World→OsState→SD}
 (open_:∀w:World,(fencedOpening treeTable p w N).map (fun s=>(s.heap,s.gens,s.drawn,s.toks))=some (boot_heap w.params,#[],boot_drawn,boot_toks))
 (size:∀w:World,((boot_heap w.params).isNs mainGlobals&&(#[]:Array GenState).size==0,(boot_heap w.params).objs.size,(boot_heap w.params).nsMap mainGlobals "__annotations__")=(true,11,Ic))
 (run:∀w os,topRun treeTable p w 11 Ic M ⟨boot_heap w.params,#[],boot_drawn,boot_toks,os⟩ (topStub p)=some (S w os))(le:Nat.ble M N=true)
 (ok:∀w os,(staticsOk (importedModules p.main.body) (boot_heap w.params) (S w os).heap&&namesBound p (S w os).heap&&gensDone (S w os)&&laidKept (boot_heap w.params) (S w os).heap)=true)
 (seen:∀w os,openSeen q loose (importedModules p.main.body) Xt true (S w os)=openGood q loose)
 (hY:∀w os,Yf (S w os)=Ya w):LeftO p q loose Xt Yf Ya N:=fun w=>by
 obtain⟨⟨h,gs,d,k,os⟩,e,e'⟩:=aE.mp (open_ w);obtain⟨rfl,rfl,rfl,rfl⟩:h=boot_heap w.params∧gs=#[]∧d=boot_drawn∧k=boot_toks:=by simpa using e'
 obtain⟨z1,z2,z3⟩:_∧_∧_:=by simpa only[Prod.mk.injEq]using size w
 have l1:=ok w os;have r:=topRun_mono (N-M) _ _ _ _ (run w os);rw[show M+(N-M)=N by have:=Nat.le_of_ble_eq_true le;omega]at r;have t:topFrom treeTable p w N ⟨boot_heap w.params,#[],boot_drawn,boot_toks,os⟩=some (S w os):=by
  unfold topFrom;dsimp only;rw[z1,z2,z3,r];show(match staticsOk (importedModules p.main.body) (boot_heap w.params) (S w os).heap&&namesBound p (S w os).heap&&gensDone (S w os)&&laidKept (boot_heap w.params) (S w os).heap with|true=>_|false=>_)=_;rw[l1]
 unfold openEnds;rw[e];show(topFrom treeTable p w N _).map _=_;rw[t];exact bJ some (Prod.ext (seen w os) (hY w os))
def kW(w:World):((boot_heap w.params).isNs mainGlobals&&(#[]:Array GenState).size==0,(boot_heap w.params).objs.size,(boot_heap w.params).nsMap mainGlobals "__annotations__")=(true,11,Ic):=by kernel_rfl
end Opn
namespace Q42
open PySem L2
def top(i:Nat):Stmt:=PySem.Challenge.pw_stepgrove_k42_no_tables_no_trees.main.body.getD i (.Pass ⟨0,0,0,0⟩)
abbrev Il:Stmt:=top 7
abbrev Ib:Stmt:=top 8
abbrev FL:Stmt:=top 9
abbrev ME:Stmt:=top 10
abbrev DC:Stmt:=top 11
abbrev HG:Stmt:=top 12
abbrev Ls:Stmt:=top 13
abbrev MH:Stmt:=top 16
abbrev DL:Stmt:=top 17
abbrev Ln:Stmt:=top 18
abbrev ND:Stmt:=top 21
abbrev JN:Stmt:=top 22
abbrev MF:Stmt:=top 23
abbrev El:Stmt:=top 24
abbrev Fc:Stmt:=top 25
abbrev Dg:Stmt:=top 26
abbrev GO:Stmt:=top 27
abbrev GV:Stmt:=top 28
abbrev Fe:Stmt:=top 29
abbrev K9:Stmt:=top 31
abbrev Hz:Stmt:=top 32
abbrev Hs:Stmt:=top 34
abbrev GR:Stmt:=top 35
abbrev Hj:Stmt:=top 36
abbrev D9:Stmt:=top 37
abbrev L0:Stmt:=top 38
abbrev Mb:Stmt:=top 39
abbrev Iu:Stmt:=top 42
abbrev Gi:Stmt:=top 43
abbrev Hv:Stmt:=top 44
abbrev GB:Stmt:=top 46
abbrev LH:Stmt:=top 47
abbrev LA:Stmt:=top 51
abbrev Ie:Stmt:=top 52
abbrev FW:Stmt:=top 53
abbrev Jy:Stmt:=top 54
abbrev Jo:Stmt:=top 55
abbrev KU:Stmt:=top 56
abbrev Ip:Stmt:=top 57
abbrev G8:Stmt:=top 58
abbrev GS:Stmt:=top 59
abbrev FP:Stmt:=top 60
abbrev O9:Stmt:=top 61
def TC{n:String}:F8 (.ty n)≠.none:=fun z=>nomatch z
def Ww:Sp:=fun vs H Q _=>∃a b,vs=[.int a,.int b]∧Q (.int (FM.gi a b)) H
def Vx:Sp:=fun vs H Q _=>∃t b m,vs=[.int t,.int b]∧b≠0∧m≤9000∧b.natAbs<2^m∧∀l H',AK H H'→H' l=some (.tup (Jk (Rat.divInt t b)))→Q (.ref l) H'
section
variable{P:Program}{w:World}{K:Fg}{mg:Str→Option VL}{base:Heap}{f g:AD}{fd gd:FuncData}
def MY:Aa ["one", "other", "greater", "lesser", "rest"] ["one", "other"] (AV DC):=CK
def lX(σ:St):Nat:=match σ[3]? with|some (some (V.int l))=>l.natAbs|_=>0
def MX(F:Fn K mg "greatest_divisor" DC ["one", "other"] f fd)(Kl:mg "abs" = none):AQ P w K mg base Ah 1 f fd ["one", "other"] Ww:=by
 have sc:=MY;refine F.F.ok (k:=0) sc (fun vs H Q E h=>?_) (fun cdv A outer s H vs Q E hr h=>?_)
 ·obtain⟨a,b,rfl,_⟩:=h
  rfl
 obtain⟨a,b,rfl,q⟩:=h;refine⟨_,(AN (A5 (i:=2) sc.nd rfl (Or.inl rfl) (BC Lu rfl Kl PyProof.Rows.boot_abs (AE (pv 0) AL)))
 (AN (A5 (i:=3) sc.nd rfl (Or.inl rfl) (BC Lu rfl Kl PyProof.Rows.boot_abs (AE (pv 1) AL)))
 (AN (Oj aN (BD SF (pv 3) AR (Ag _))
  (AN (A5 (i:=4) sc.nd rfl (Or.inl rfl) (Ax Hg (pv 2) (pv 3)))
  (AN (A5 (i:=2) sc.nd rfl (Or.inl rfl) (pv 3))
  (AX (A5 (i:=3) sc.nd rfl (Or.inl rfl) (pv 4))))))
 (AX (A3 (pv 2)))))),?_⟩
 refine⟨_,rfl,_,rfl,_,rfl,_,rfl,?_⟩;refine OS (fun σ H'=>∃g l r,σ=[some (.int a),some (.int b),some (.int g),some (.int l),r]∧H=H'∧Int.gcd g l=Int.gcd a b∧0≤g∧0≤l) (fun σ _=>lX σ) ?_ ?_ ?_
 ·exact⟨_,_,_,rfl,rfl,FM.Vg a b,FM.abs_nonneg a,FM.abs_nonneg b⟩
 ·rintro σ H' ⟨g,l,r,rfl,rfl,hg,h0,h1⟩;refine⟨_,rfl,rfl,_,rfl,BA (fun c=>?_) (fun c=>?_)⟩
  ·have hl:l≠0:=fun z=>by subst z;simp at c
   refine⟨_,rfl,_,rfl,_,_,rfl,rfl,hl,_,rfl,_,rfl,⟨_,_,_,rfl,rfl,?_,h1,FM.fmod_nonneg hl h1⟩,?_⟩
   ·rw[FM.Sz];exact hg
   ·exact FM.RI g l hl
  ·have hl:l=0:=by simpa using c
   subst hl;refine⟨_,rfl,?_⟩;rw[FM.XJ hg h0];exact q
 ·exact fun σ H Q Q' hq ⟨v,e,s,k,e2,q⟩=>⟨v,e,s,k,e2,hq _ _ q⟩
def Qj:Aa ["top", "bottom", "shared"] ["top", "bottom"] (AV Il):=CK
def QU(F:Fn K mg "fraction_of" Il ["top", "bottom"] f fd)(BU:Fn K mg "greatest_divisor" DC ["one", "other"] g gd)
 (C6:AQ P w K mg base Ah 1 g gd ["one", "other"] Ww):AQ P w K mg base Ah 2 f fd ["top", "bottom"] Vx:=by
 have sc:=Qj;refine F.F.ok (k:=1) sc (fun vs H Q E h=>?_) (fun cdv A outer s H vs Q E hr h=>?_)
 ·obtain⟨t,b,m,rfl,_⟩:=h
  rfl
 obtain⟨t,b,m,rfl,hb,hm,hs,q⟩:=h;refine⟨_,(AN (Bw (BD FH (pv 1) AR (Ag _))
  (AX Se)
  BL)
 (AN (A5 (i:=2) sc.nd rfl (Or.inl rfl) (Bp BU C6 hr rfl (AE (pv 0) (AE (pv 1) AL))))
 (AN (Bw (BD PU (pv 1) AR (Ag _))
  (AX (A5 (i:=2) sc.nd rfl (Or.inl rfl) (PN Mx (pv 2))))
  BL)
 (AX (A3 (CS (AE (Ax Gf (pv 0) (pv 2)) (AE (Ax Gf (pv 1) (pv 2)) AL)))))))),?_⟩
 refine⟨_,rfl,rfl,_,rfl,BA (fun c=>absurd c (by simpa using hb)) (fun _=>?_)⟩;refine⟨_,rfl,_,rfl,t,b,rfl,?_⟩
 try dsimp only[EJ]
 refine Oz (fun σ' H'=>σ'=[some (.int t),some (.int b),some (.int (FM.gs t b))]∧H=H') (fun nx hn=>?_) ?_
 ·refine⟨_,rfl,_,_,rfl,rfl,_,rfl,BA (fun c=>?_) (fun c=>?_)⟩
  ·have c':b<0:=aT c;refine⟨_,rfl,_,rfl,hn _ _ ⟨?_,rfl⟩⟩;unfold FM.gs;rw[if_pos c']
   rfl
  ·have c':¬b<0:=bI (aY.mpr c);refine hn _ _ ⟨?_,rfl⟩;unfold FM.gs;rw[if_neg c']
   rfl
 ·rintro σ' H' ⟨rfl,rfl⟩;have h0:FM.gs t b≠0:=FM.cL hb;have h1:(FM.gs t b).natAbs<2^m:=ay (FM.dB hb) hs;refine⟨_,rfl,_,rfl,_,_,rfl,rfl,⟨h0,m,hm,h1⟩,_,rfl,_,rfl,_,_,rfl,rfl,⟨h0,m,hm,h1⟩,Es,fun p hp=>?_⟩;refine q p _ (AO hp _) ?_;rw[AI];show some (HO.tup [V.int (t.fdiv (FM.gs t b)),V.int (b.fdiv (FM.gs t b))])=_;rw[FM.UN hb,FM.UI hb]
  rfl
end
def UM{c b:Int}(hc:1≤c)(hb:1≤b):1≤c.fdiv (FM.gi c b)*b∧c ∣ c.fdiv (FM.gi c b)*b∧b ∣ c.fdiv (FM.gi c b)*b∧(c.fdiv (FM.gi c b)).natAbs≤c.natAbs:=by
 have hg:0<FM.gi c b:=FM.Mr (by omega);obtain⟨q,hq⟩:=FM.OE c b;obtain⟨r,hr⟩:=FM.Md c b;have e:=FM.HJ (Int.ne_of_gt hg) hq;refine⟨?_,?_,Int.dvd_mul_left _ _,FM.FQ _ _⟩
 ·rw[e];have hq0:0<q:=by
   rcases Int.lt_or_le 0 q with h|h
   ·exact h
   ·have:=Int.mul_nonpos_of_nonneg_of_nonpos (Int.le_of_lt hg) h;omega
  exact Int.mul_pos hq0 (by omega)
 ·rw[e];refine⟨r,?_⟩;rw[hr]
  conv=>rhs;rw[hq]
  rw[←hr,Int.mul_comm (FM.gi c b) q,Int.mul_assoc,Int.mul_comm (FM.gi c b) r]
  conv=>lhs;rw[hr]
  rw[Int.mul_comm (FM.gi c b) r]
def cK:Sp:=fun vs H Q _=>∃(b:Int) (p k:Nat),vs=[.int b,.int p]∧b.natAbs<2^k∧k*p≤4000∧Q (.int (b^p)) H
def PQ{b:Int}{k e p:Nat}(hb:b.natAbs<2^k)(he:e≤p):(b^e).natAbs<2^(k*p+1):=by
 rw[Int.natAbs_pow];have h1:b.natAbs^e≤(2^k)^e:=Nat.pow_le_pow_left (bN hb) e;rw[←Nat.pow_mul]at h1;exact ay h1 (Nat.pow_lt_pow_right (by decide) (Nat.lt_succ_of_le (bF k he)))
def nu(σ:St):Nat:=match σ[4]? with|some (some (V.int l))=>l.natAbs|_=>0
section
variable{P:Program}{w:World}{K:Fg}{mg:Str→Option VL}{base:Heap}{f g g1 g2:AD}{fd gd gd1 gd2:FuncData}
def Oq:Aa ["bottoms", "common", "bottom"] ["bottoms"] (AV HG):=CK
def Um:Aa ["base", "power", "product", "square", "left"] ["base", "power"] (AV Ls):=CK
def Ur(F:Fn K mg "power_of" Ls ["base", "power"] f fd):AQ P w K mg base Ah 1 f fd ["base", "power"] cK:=by
 have sc:=Um;refine F.F.ok (k:=0) sc (fun vs H Q E h=>?_) (fun cdv A outer s H vs Q E hr h=>?_)
 ·obtain⟨b,p,k,rfl,_⟩:=h
  rfl
 obtain⟨b,p,k,rfl,hb,hk,q⟩:=h;refine⟨_,(AN (A5 (i:=2) sc.nd rfl (Or.inl rfl) AR)
 (AN (A5 (i:=3) sc.nd rfl (Or.inl rfl) (pv 0))
 (AN (A5 (i:=4) sc.nd rfl (Or.inl rfl) (pv 1))
 (AN (Oj aN (BD JT (pv 4) AR (Ag _))
  (AN (Bw (BD FH (Ax HW (pv 4) AR) AR (Ag _))
   (AX (A5 (i:=2) sc.nd rfl (Or.inl rfl) (Ax Hl (pv 2) (pv 3))))
   BL)
  (AN (A5 (i:=4) sc.nd rfl (Or.inl rfl) (Ax DJ (pv 4) AR))
  (AX (Bw (BD JT (pv 4) AR (Ag _))
   (AX (A5 (i:=3) sc.nd rfl (Or.inl rfl) (Ax Hl (pv 3) (pv 3))))
   BL)))))
 (AX (A3 (pv 2))))))),?_⟩
 refine⟨_,rfl,_,rfl,?_⟩;refine OS (fun σ H'=>∃e f l:Nat,σ=[some (.int b),some (.int p),some (.int (b^e)),some (.int (b^f)),some (.int l)]∧H=H'∧e+f*l=p) (fun σ _=>nu σ) ?_ ?_ ?_
 ·refine⟨0,1,p,?_,rfl,by omega⟩;rw[Int.pow_zero,Int.pow_succ,Int.pow_zero,Int.one_mul]
  rfl
 ·rintro σ H' ⟨e,f,l,rfl,rfl,he⟩;refine⟨_,rfl,_,_,rfl,rfl,_,rfl,BA (fun c=>?_) (fun c=>?_)⟩
  ·have hl:0<l:=by have:=aT c;omega
   have hfp:f≤p:=by
    have:f*1≤f*l:=bF f hl;omega
   try dsimp only[EJ]
   refine Oz (fun σ' H'=>∃e':Nat,σ'=[some (.int b),some (.int p),some (.int (b^e')),some (.int (b^f)),some (.int l)]∧H=H'∧e'+f*(2*(l / 2))=p) (fun nx hnx=>?_) ?_
   ·refine⟨_,rfl,_,_,rfl,rfl,(by show(0:Int)<2;decide),rfl,_,rfl,BA (fun c=>?_) (fun c=>?_)⟩
    ·have hodd:l % 2=1:=by
      have:((l:Int) % 2)=1:=by simpa using c
      omega
     refine⟨_,rfl,_,rfl,_,_,rfl,rfl,WU (PQ hb (show e≤p by omega)) (PQ hb hfp) (by omega),hnx _ _ ⟨e+f,?_,rfl,?_⟩⟩
     ·show [some (V.int b),some (V.int p),some (V.int (b^e*b^f)),some (V.int (b^f)),some (V.int l)]=_;rw[←Int.pow_add]
     ·have:l=2*(l / 2)+1:=by omega
      rw[←he]
      conv=>rhs;rw[this,Nat.mul_add,Nat.mul_one]
      omega
    ·have hev:l % 2=0:=by
      have:¬((l:Int) % 2)=1:=by simpa using c
      omega
     refine hnx _ _ ⟨e,rfl,rfl,?_⟩;rw[show 2*(l / 2)=l by omega];exact he
   ·rintro σ' _ ⟨e',rfl,rfl,he'⟩;refine⟨_,rfl,_,_,rfl,rfl,⟨by decide,by decide⟩,?_⟩;have el:((l:Int) / 2)=((l / 2:Nat):Int):=by omega
    refine⟨_,rfl,_,_,rfl,rfl,_,rfl,BA (fun c=>?_) (fun c=>?_)⟩
    ·refine⟨_,rfl,_,rfl,_,_,rfl,rfl,WU (PQ hb hfp) (PQ hb hfp) (by omega),⟨e',f+f,l / 2,?_,rfl,?_⟩,?_⟩
     ·show [some (V.int b),some (V.int p),some (V.int (b^e')),some (V.int (b^f*b^f)),some (V.int ((l:Int) / 2))]=_;rw[el,←Int.pow_add]
     ·rw[←he',←Nat.two_mul,Nat.mul_assoc,Nat.mul_left_comm]
     ·show((l:Int) / 2).natAbs<((l:Nat):Int).natAbs;omega
    ·refine⟨⟨e',f,l / 2,?_,rfl,?_⟩,?_⟩
     ·show [some (V.int b),some (V.int p),some (V.int (b^e')),some (V.int (b^f)),some (V.int ((l:Int) / 2))]=_;rw[el]
     ·have:l / 2=0:=by have:=bI (aY.mpr c);omega
      rw[this]at he' ⊢
      simpa using he'
     ·show((l:Int) / 2).natAbs<((l:Nat):Int).natAbs;omega
  ·have hl:l=0:=by have:=bI (aY.mpr c);omega
   subst hl;rw[Nat.mul_zero,Nat.add_zero]at he;subst he;exact⟨_,rfl,q⟩
 ·exact fun σ H Q Q' hq ⟨v,e,s,k,e2,e3,e4,q1,q2⟩=>⟨v,e,s,k,e2,e3,e4,q1,hq _ _ q2⟩
end
def Vr{l:AD}{H:Hp}:∀ {ds:List PD} {xs:List V} (i:Nat),AW l H ds xs→AW l H (ds.take i) (xs.take i)
 |ds,xs,0,h=>by rw[List.take_zero,List.take_zero];exact .nil
 |[],xs,i+1,h=>by rw[AW]at h;subst h;exact .nil
 |d::ds,xs,i+1,h=>by
  rw[AW]at h;obtain⟨x,r,rfl,h1,h2⟩:=h;exact .cons h1 (Vr i h2)
def DU(H:Hp)(d:PD)(v:V):Prop:=∃N:Nat,∀l,N≤l→Dt l H d v
def BK(H:Hp)(ds:List PD)(xs:List V):Prop:=∃N:Nat,∀l,N≤l→AW l H ds xs
def DU.same{H H':Hp}{d:PD}{v:V}(h:DU H d v)(e:AK H H'):DU H' d v:=let⟨N,k⟩:=h;⟨N,fun l hl=>(k l hl).same e⟩
def BK.same{H H':Hp}{d:List PD}{v:List V}(h:BK H d v)(e:AK H H'):BK H' d v:=let⟨N,k⟩:=h;⟨N,fun l hl=>(k l hl).same e⟩
def DU.int{H:Hp}{i:Int}:DU H (.int i) (.int i):=⟨0,fun _ _=>.int⟩
def DU.bool{H:Hp}{i:Bool}:DU H (.bool i) (.bl i):=⟨0,fun _ _=>.bool⟩
def DU.BF{H:Hp}:DU H .none .BF:=⟨0,fun _ _=>.BF⟩
def DU.str{H:Hp}{x:Str}:DU H (.str x) (.str x):=⟨0,fun _ _=>.str⟩
def BK.nil{H:Hp}:BK H [] []:=⟨0,fun _ _=>.nil⟩
def BK.cons{H:Hp}{d:PD}{ds:List PD}{x:V}{xs:List V}(h:DU H d x)(k:BK H ds xs):BK H (d::ds) (x::xs) :=
 let⟨N,a⟩:=h;let⟨M,b⟩:=k;⟨max N M,fun l hl=>.cons (a l (by omega)) (b l (by omega))⟩
def BK.app{H:Hp}{ds es:List PD}{xs ys:List V}(h:BK H ds xs)(k:BK H es ys):BK H (ds++es) (xs++ys) :=
 let⟨N,a⟩:=h;let⟨M,b⟩:=k;⟨max N M,fun l hl=>(a l (by omega)).app (b l (by omega))⟩
def BK.take{H:Hp}{ds:List PD}{xs:List V}(i:Nat)(h:BK H ds xs):BK H (ds.take i) (xs.take i):=let⟨N,a⟩:=h;⟨N,fun l hl=>Vr i (a l hl)⟩
def BK.len{H:Hp}{ds:List PD}{xs:List V}(h:BK H ds xs):xs.length=ds.length:=let⟨N,a⟩:=h;(a N (aG _)).len
def BK.get{H:Hp}{ds:List PD}{xs:List V}{i:Nat}{d:PD}(h:BK H ds xs)(e:ds[i]? = some d):∃v,xs[i]? = some v∧DU H d v:=by
 have hl:=h.len;have hi:i<xs.length:=by rw[hl];exact(aC.mp e).1
 have hx:xs[i]? = some xs[i]:=by simp[hi]
 obtain⟨N,a⟩:=h;refine⟨xs[i],hx,N,fun l hl=>?_⟩;obtain⟨d',h1,h2⟩:=(a l hl).get hx;rw[e]at h1;cases h1;exact h2
def DU.lst{H:Hp}{a:AD}{ds:List PD}{xs:List V}(h:H a=some (.lst xs))(k:BK H ds xs):DU H (.list ds) (.ref a) :=
 let⟨N,b⟩:=k;⟨max N (a+1),fun l hl=>.lst (aH (show a<l from aM (bU a) (aQ (Nat.le_max_right _ _) hl))) h (b l (by omega))⟩
def DU.tup{H:Hp}{a:AD}{ds:List PD}{xs:List V}(h:H a=some (.tup xs))(k:BK H ds xs):DU H (.tuple ds) (.ref a) :=
 let⟨N,b⟩:=k;⟨max N (a+1),fun l hl=>.tup (aH (show a<l from aM (bU a) (aQ (Nat.le_max_right _ _) hl))) h (b l (by omega))⟩
def DU.cn{H:Hp}{ds:List PD}{v:V}(h:DU H (.list ds) v):∃a xs,v=.ref a∧H a=some (.lst xs)∧BK H ds xs:=by
 obtain⟨N,b⟩:=h;have h0:=b N (aG _);rw[Dt]at h0;obtain⟨a,xs,rfl,_,ha,_⟩:=h0;refine⟨a,xs,rfl,ha,N,fun l hl=>?_⟩;have h1:=b l hl;rw[Dt]at h1;obtain⟨a',xs',e,_,ha',hx'⟩:=h1;cases e;rw[ha]at ha';cases ha';exact hx'
def DU.lV{H:Hp}{ds:List PD}{v:V}(h:DU H (.tuple ds) v):∃a xs,v=.ref a∧H a=some (.tup xs)∧BK H ds xs:=by
 obtain⟨N,b⟩:=h;have h0:=b N (aG _);rw[Dt]at h0;obtain⟨a,xs,rfl,_,ha,_⟩:=h0;refine⟨a,xs,rfl,ha,N,fun l hl=>?_⟩;have h1:=b l hl;rw[Dt]at h1;obtain⟨a',xs',e,_,ha',hx'⟩:=h1;cases e;rw[ha]at ha';cases ha';exact hx'
def BK.YL{H:Hp}{d e:PD}{xs:List V}(h:BK H [d,e] xs):∃x y,xs=[x,y]∧DU H d x∧DU H e y:=by
 obtain⟨x,h1,h2⟩:=h.get (i:=0) rfl;obtain⟨y,h3,h4⟩:=h.get (i:=1) rfl;have:=h.len
 match xs,this with
 |[a,b],_ =>
  simp at h1 h3;subst h1 h3;exact⟨a,b,rfl,h2,h4⟩
mutual
def lQ{c:AD}{H:Hp}:∀ {d:PD} {v:V},Dt c H d v→DU H d v
 |.none,_,h=>by rw[Dt]at h;subst h;exact .BF
 |.bool _,_,h=>by rw[Dt]at h;subst h;exact .bool
 |.int _,_,h=>by rw[Dt]at h;subst h;exact .int
 |.str _,_,h=>by rw[Dt]at h;subst h;exact .str
 |.tuple _,_,h=>by
  rw[Dt]at h;obtain⟨a,xs,rfl,n,h1,h2⟩:=h;exact .tup h1 (Em h2)
 |.list _,_,h=>by
  rw[Dt]at h;obtain⟨a,xs,rfl,n,h1,h2⟩:=h;exact .lst h1 (Em h2)
 |.dict _,_,h=>by rw[Dt]at h;exact h.elim
def Em{c:AD}{H:Hp}:∀ {ds:List PD} {xs:List V},AW c H ds xs→BK H ds xs
 |[],_,h=>by rw[AW]at h;subst h;exact .nil
 |_::_,_,h=>by
  rw[AW]at h;obtain⟨x,r,rfl,h1,h2⟩:=h;exact .cons (lQ h1) (Em h2)
end
def DU.ints{H:Hp}{ps:List Int}{v:V}(h:DU H (.tuple (ps.map .int)) v):∃a,v=.ref a∧H a=some (.tup (ps.map V.int)):=by
 obtain⟨a,xs,rfl,ha,hx⟩:=h.lV;refine⟨a,rfl,?_⟩;rw[ha]
 congr 2
 obtain⟨N,b⟩:=hx;have:=b N (aG _);clear b ha h
 induction ps generalizing xs with
 |nil=>rw[List.map_nil,AW]at this;exact this
 |cons p ps ih =>
  rw[List.map_cons,AW]at this;obtain⟨x,r,rfl,h1,h2⟩:=this;rw[Dt]at h1;subst h1;rw[List.map_cons,ih r h2]
def D7:PD→Bool
 |.tuple [.int a,.int b]=>decide (1≤b)&&(FM.gi a b==1)
 |_=>false
def Oh{ds:List PD}(h:ds.length≠2∨∃d0 d1,ds=[d0,d1]∧((J3 d0 && !IA d0)=false∨(J3 d1 && !IA d1)=false)):D7 (.tuple ds)=false:=by
 rcases h with h|⟨d0,d1,rfl,h⟩
 ·match ds,h with
  |[],_=>rfl
  |[a],_=>cases a<;>rfl
  |[_,_],h=>exact absurd rfl h
  |a::b::_::_,_=>cases a<;>first|rfl|(cases b<;>rfl)
 ·cases d0<;>first|rfl|(cases d1<;>first|rfl|(exfalso;rcases h with h|h<;>exact absurd h (by simp[J3,IA])))
def Ys:Sp:=fun vs H Q _=>∃l d v,vs=[v]∧Dt l H d v∧Q (.bl (J3 d && !IA d)) H
def Xc:Sp:=fun vs H Q _=>∃l d v,vs=[v]∧Dt l H d v∧Q (.bl (D7 d)) H
def Rh{d:PD}(h:(J3 d && !IA d)=true):∃i,d=.int i:=by
 cases d<;>first|exact⟨_,rfl⟩|(exact absurd h (by simp[J3,IA]))|(rename_i b;cases b<;>exact absurd h (by decide))
section
variable{P:Program}{w:World}{K:Fg}{mg:Str→Option VL}{base:Heap}{f g g1 g2 g3 g4 g5:AD}{fd gd gd1 gd2 gd3 gd4 gd5:FuncData}
def Ui:Aa ["thing"] ["thing"] (AV ME):=CK
def UW(F:Fn K mg "is_whole" ME ["thing"] f fd)(Ai:mg "isinstance" = none)(WW:mg "int" = none)(So:mg "bool" = none):AQ P w K mg base Ah 1 f fd ["thing"] Ys:=by
 have sc:=Ui;refine F.F.ok (k:=0) sc (fun vs H Q E h=>?_) (fun cdv A outer s H vs Q E hr h=>?_)
 ·obtain⟨l,d,v,rfl,_⟩:=h
  rfl
 obtain⟨l,d,v,rfl,hd,q⟩:=h;refine⟨_,(AX (A3 (Pu (BC GP rfl Ai aq (AE (pv 0) (AE (Gu (v:=.ty "int") rfl WW PyProof.Rows.boot_int rfl) AL))) (Te (fm (BC GP rfl Ai aq (AE (pv 0) (AE (Gu (v:=.ty "bool") rfl So PyProof.Rows.boot_bool rfl) AL)))))))),?_⟩;refine⟨_,rfl,_,_,_,_,rfl,TC,hd.ty,ZD K d hd.nodict,_,rfl,BA (fun c=>⟨_,rfl,_,_,_,_,rfl,TC,hd.ty,XC K d hd.nodict,_,rfl,?_⟩) (fun c=>?_)⟩
 ·rw[c,Bool.true_and]at q;exact q
 ·rw[Bool.eq_false_iff.mpr c,Bool.false_and]at q;exact q
def QY:Aa ["thing"] ["thing"] (AV Ib):=CK
def QR(F:Fn K mg "is_fraction" Ib ["thing"] f fd)(HF:Fn K mg "is_whole" ME ["thing"] g1 gd1)(BU:Fn K mg "greatest_divisor" DC ["one", "other"] g2 gd2)
 (O7:AQ P w K mg base Ah 1 g1 gd1 ["thing"] Ys)(C6:AQ P w K mg base Ah 1 g2 gd2 ["one", "other"] Ww)(Ai:mg "isinstance" = none)(Bj:mg "tuple" = none)(BO:mg "len" = none):AQ P w K mg base Ah 2 f fd ["thing"] Xc:=by
 have sc:=QY;refine F.F.ok (k:=1) sc (fun vs H Q E h=>?_) (fun cdv A outer s H vs Q E hr h=>?_)
 ·obtain⟨l,d,v,rfl,_⟩:=h
  rfl
 obtain⟨l,d,v,rfl,hd,q⟩:=h;refine⟨_,(AN (Bw (PW.pt (Kx (FX (FU (BC GP rfl Ai aq (AE (pv 0) (AE (Gu (v:=.ty "tuple") rfl Bj bA rfl) AL))))) (KL (BD SF (BC Bo rfl BO aj (AE (pv 0) AL)) AR (Ag _)))))
  (AX (A3 FD))
  BL)
 (AN (Bw (PW.pt (Kx (FX (FU (Bp HF O7 hr rfl (AE (B4 Cg (pv 0) AR (fun _ _=>rfl)) AL)))) (KL (FX (FU (Bp HF O7 hr rfl (AE (B4 Cg (pv 0) AR (fun _ _=>rfl)) AL)))))))
  (AX (A3 FD))
  BL)
 (AX (A3 (Pu (NM dC (B4 Cg (pv 0) AR (fun _ _=>rfl)) AR (Ag _)) (Te (NM FH (Bp BU C6 hr rfl (AE (B4 Cg (pv 0) AR (fun _ _=>rfl)) (AE (B4 Cg (pv 0) AR (fun _ _=>rfl)) AL))) AR (Ag _)))))))),?_⟩
 refine⟨_,rfl,_,_,_,_,rfl,TC,hd.ty,Om K d hd.nodict,_,rfl,?_⟩;have no:DM d=false→D7 d=false:=fun z=>by cases d<;>first|rfl|exact absurd z (by simp[DM])
 by_cases ht:DM d=true
 ·rw[ht];obtain⟨ds,rfl⟩:∃ds,d=.tuple ds:=by cases d<;>first|exact⟨_,rfl⟩|exact absurd ht (by simp[DM])
  rw[Dt]at hd;obtain⟨a,xs,rfl,na,ha,hx⟩:=hd;have hlen:=hx.len;have s1:Ay K H a xs:=Ay.of ha;refine Mj ⟨_,rfl,a,xs,rfl,.inr s1,rfl,_,rfl,BA (fun c=>?_) (fun c=>?_)⟩
  ·have:ds.length≠2:=by
    rw[←hlen];intro z;rw[z]at c;exact absurd c (by decide)
   rw[Oh (.inl this)]at q;exact q
  ·have h2:xs.length=2:=by
    by_cases z:xs.length=2
    ·exact z
    ·exfalso
     refine c ?_;have:¬(V.int (xs.length:Nat)=V.int 2):=by simp;omega
     rw[decide_eq_false this];rfl
   obtain⟨d0,d1,rfl⟩:∃d0 d1,ds=[d0,d1]:=by
    match ds,(show ds.length=2 by omega) with
    |[x,y],_=>exact⟨x,y,rfl⟩
   rw[AW]at hx;obtain⟨x0,r,rfl,hx0,hx⟩:=hx;rw[AW]at hx;obtain⟨x1,r,rfl,hx1,hx⟩:=hx;rw[AW]at hx;subst hx;refine⟨_,rfl,_,_,_,_,rfl,rfl,s1,rfl,l,d0,x0,rfl,hx0,_,rfl,BA (fun c0=>?_) (fun c0=>?_)⟩
   ·rw[Oh (.inr ⟨d0,d1,rfl,.inl (by simp at c0;rcases c0 with c|c<;>simp[c])⟩)]at q;exact q
   refine⟨_,rfl,_,_,_,_,rfl,rfl,s1,rfl,l,d1,x1,rfl,hx1,_,rfl,BA (fun c1=>?_) (fun c1=>?_)⟩
   ·rw[Oh (.inr ⟨d0,d1,rfl,.inr (by simp at c1;rcases c1 with c|c<;>simp[c])⟩)]at q;exact q
   obtain⟨i,rfl⟩:=Rh (d:=d0) (by simpa using c0);obtain⟨j,rfl⟩:=Rh (d:=d1) (by simpa using c1);rw[Dt]at hx0 hx1;subst hx0 hx1;refine⟨_,rfl,_,_,_,_,rfl,rfl,s1,rfl,_,_,rfl,rfl,_,rfl,BA (fun c=>?_) (fun c=>?_)⟩
   ·refine⟨_,rfl,_,_,_,_,rfl,rfl,s1,rfl,_,rfl,_,_,_,_,rfl,rfl,s1,rfl,i,j,rfl,rfl,?_⟩;have hj:1≤j:=by have:=aT c;omega
    have e:D7 (.tuple [.int i,.int j])=decide (V.int (FM.gi i j)=V.int 1):=by
     rw[D7,decide_eq_true hj,Bool.true_and,Bool.eq_iff_iff];simp
    rw[e]at q;exact q
   ·have hj:¬1≤j:=fun z=>c (bQ (by omega));have e:D7 (.tuple [.int i,.int j])=false:=by rw[D7,decide_eq_false hj,Bool.false_and]
    rw[e]at q;exact q
 ·rw[Bool.eq_false_iff.mpr ht];rw[no (aY.mpr ht)]at q;exact EO (EO q)
end
def Ca:PD→Bool
 |.list ds=>ds.all D7
 |_=>false
def FY:PD→Nat
 |.list ds=>ds.length
 |_=>0
def rowAt(ds:List PD)(i:Nat):Bool:=match ds[i]? with
 |some d=>Ca d&&decide (FY d=i)
 |none=>true
def IV(ds:List PD):Bool:=(List.range ds.length).all (rowAt ds)
def CY:PD→Bool
 |.list ds=>decide (1≤ds.length)&&(decide (ds.length≤40)&&IV ds)
 |_=>false
def CG:PD→Bool
 |.tuple [r,l]=>CY r&&(Ca l&&decide (FY l=FY r))
 |_=>false
def Y3{d:PD}(h:Ec d=false):Ca d=false:=by cases d<;>first|rfl|exact absurd h (by simp[Ec])
def Uk{d:PD}(h:Ec d=false):CY d=false:=by cases d<;>first|rfl|exact absurd h (by simp[Ec])
def XS{d:PD}(h:DM d=false):CG d=false:=by cases d<;>first|rfl|exact absurd h (by simp[DM])
def Wh{ds:List PD}(h:ds.length≠2):CG (.tuple ds)=false:=by
 match ds,h with
 |[],_=>rfl
 |[_],_=>rfl
 |[_,_],h=>exact absurd rfl h
 |_::_::_::_,_=>rfl
def Ji{d:PD}(h:Ec d=true):∃ds,d=.list ds:=by cases d<;>first|exact⟨_,rfl⟩|exact absurd h (by simp[Ec])
def ZG{d:PD}(h:DM d=true):∃ds,d=.tuple ds:=by cases d<;>first|exact⟨_,rfl⟩|exact absurd h (by simp[DM])
def Pf{d:PD}(h:Ca d=true):Ec d=true:=by cases d<;>first|rfl|exact absurd h (by simp[Ca])
def Tn{d:PD}(h:CY d=true):Ec d=true:=by cases d<;>first|rfl|exact absurd h (by simp[CY])
def RL{ds:List PD}(h:∀j,j<ds.length→rowAt ds j=true):IV ds=true:=by
 unfold IV;rw[List.all_eq_true];intro j hj;exact h j (bL.mp hj)
def Q5{ds:List PD}{i:Nat}(hi:i<ds.length)(h:rowAt ds i=false):IV ds=false:=by
 refine aY.mpr fun z=>?_;unfold IV at z;rw[List.all_eq_true]at z;rw[z i (bL.mpr hi)]at h;cases h
def L3{ds:List PD}{i:Nat}{d:PD}(h:ds[i]? = some d):rowAt ds i=(Ca d&&decide (FY d=i)):=by unfold rowAt;rw[h]
def Qk:Sp:=fun vs H Q _=>∃l d v,vs=[v]∧Dt l H d v∧Q (.bl (Ca d)) H
def Xx:Sp:=fun vs H Q _=>∃l d v,vs=[v]∧Dt l H d v∧∀H',AK H H'→Q (.bl (CY d)) H'
def dP:Sp:=fun vs H Q _=>∃l d v,vs=[v]∧Dt l H d v∧∀H',AK H H'→Q (.bl (CG d)) H'
section
variable{P:Program}{w:World}{K:Fg}{mg:Str→Option VL}{base:Heap}{f g g1 g2 g3 g4 g5:AD}{fd gd gd1 gd2 gd3 gd4 gd5:FuncData}
def OX:Aa ["thing", "part"] ["thing"] (AV FL):=CK
def OY(F:Fn K mg "are_fractions" FL ["thing"] f fd)(GL:Fn K mg "is_fraction" Ib ["thing"] g1 gd1)
 (Rp:AQ P w K mg base Ah 2 g1 gd1 ["thing"] Xc)(Ai:mg "isinstance" = none)(GC:mg "list" = none):AQ P w K mg base Ah 3 f fd ["thing"] Qk:=by
 have sc:=OX;refine F.F.ok (k:=2) sc (fun vs H Q E h=>?_) (fun cdv A outer s H vs Q E hr h=>?_)
 ·obtain⟨l,d,v,rfl,_⟩:=h
  rfl
 obtain⟨l,d,v,rfl,hd,q⟩:=h;refine⟨_,(AN (Bw (FX (FU (BC GP rfl Ai aq (AE (pv 0) (AE (Gu (v:=.ty "list") rfl GC PyProof.Rows.boot_list rfl) AL)))))
  (AX (A3 FD))
  BL)
 (AN (F9 aN rfl (EY (pv 0)) (Az (i:=1) sc.nd rfl (Or.inl rfl))
  (AX (Bw (FX (FU (Bp GL Rp hr rfl (AE (pv 1) AL))))
   (AX (A3 FD))
   BL)))
 (AX (A3 FD)))),?_⟩
 refine⟨_,rfl,_,_,_,_,rfl,TC,hd.ty,Tj K d hd.nodict,_,rfl,?_⟩;by_cases hL:Ec d=false
 ·rw[hL];rw[Y3 hL]at q;exact EO q
 have hL:Ec d=true:=by simpa using hL
 rw[hL];refine Mj ?_;obtain⟨ds,rfl⟩:=Ji hL;rw[Dt]at hd;obtain⟨a,xs,rfl,na,ha,ht⟩:=hd;have hlen:=ht.len;refine⟨_,rfl,a,rfl,⟨_,Ab.of ha⟩,Lx (xs:=xs) (fun i σ H'=>∃r1,σ=[some (.ref a),r1]∧H=H'∧∀j c,j<i→ds[j]? = some c→D7 c=true) ?_ ?_ ?_ ?_⟩
 ·exact⟨_,rfl,rfl,fun j c h=>absurd h (ae _)⟩
 ·rintro i σ H' _ ⟨r1,rfl,rfl,_⟩;exact Ab.of ha
 ·rintro i x σ H' hx ⟨r1,rfl,rfl,hf⟩;obtain⟨c,hc,tc⟩:=ht.get hx;refine⟨_,rfl,l,c,x,rfl,tc,_,rfl,BA (fun b=>?_) (fun b=>?_)⟩
  ·have hb:D7 c=false:=by simpa using b
   have e:Ca (.list ds)=false:=aY.mpr fun z=>by
    rw[Ca,List.all_eq_true]at z;rw[z c (aP hc)]at hb;cases hb
   rw[e]at q;exact q
  ·have hb:D7 c=true:=by simpa using b
   refine⟨_,rfl,rfl,fun j e hj he=>?_⟩;by_cases z:j=i
   ·subst z;rw[hc]at he;cases he;exact hb
   ·exact hf j e (by omega) he
 ·rintro σ H' ⟨r1,rfl,rfl,hf⟩;have e:Ca (.list ds)=true:=by
   rw[Ca,List.all_eq_true];intro c hc;obtain⟨j,hj⟩:=bK hc;exact hf j c (by rw[hlen];exact(aC.mp hj).1) hj
  rw[e]at q;exact q
def Uh:Aa ["thing", "k", "row"] ["thing"] (AV Ln):=CK
def UX{tk:Tok}(F:Fn K mg "are_rows" Ln ["thing"] f fd)(Cq:Fn K mg "are_fractions" FL ["thing"] g1 gd1)
 (G9:AQ P w K mg base Ah 3 g1 gd1 ["thing"] Qk)(LG:mg "MOST_ROWS" = some (.int 40 tk))(Ai:mg "isinstance" = none)(GC:mg "list" = none)(BO:mg "len" = none)(CQ:mg "enumerate" = none):AQ P w K mg base Ah 4 f fd ["thing"] Xx:=by
 have sc:=Uh;refine F.F.ok (k:=3) sc (fun vs H Q E h=>?_) (fun cdv A outer s H vs Q E hr h=>?_)
 ·obtain⟨l,d,v,rfl,_⟩:=h
  rfl
 obtain⟨l,d,v,rfl,hd,q⟩:=h;refine⟨_,(AN (Bw (PW.pt (Kx (FX (FU (BC GP rfl Ai aq (AE (pv 0) (AE (Gu (v:=.ty "list") rfl GC PyProof.Rows.boot_list rfl) AL))))) (Kx (BD PU (BC Bo rfl BO aj (AE (pv 0) AL)) AR (Ag _)) (KL (BD JT (BC Bo rfl BO aj (AE (pv 0) AL)) (LX (v:=.int 40) rfl LG ⟨_,rfl⟩) (Ag _))))))
  (AX (A3 FD))
  BL)
 (AN (F9 aN rfl (Tt rfl CQ (AE (pv 0) AL)) (KP rfl (CV (Az (i:=1) sc.nd rfl (Or.inl rfl)) (CV (Az (i:=2) sc.nd rfl (Or.inl rfl)) Hu)))
  (AX (Bw (PW.pt (Kx (FX (FU (Bp Cq G9 hr rfl (AE (pv 2) AL)))) (KL (BD SF (BC Bo rfl BO aj (AE (pv 2) AL)) (pv 1) (Ag _)))))
   (AX (A3 FD))
   BL)))
 (AX (A3 FD)))),?_⟩
 refine⟨_,rfl,_,_,_,_,rfl,TC,hd.ty,Tj K d hd.nodict,_,rfl,?_⟩;by_cases hL:Ec d=false
 ·rw[hL];have:=q H (.refl H);rw[Uk hL]at this;exact EO (EO this)
 have hL:Ec d=true:=by simpa using hL
 rw[hL];refine Mj ?_;obtain⟨ds,rfl⟩:=Ji hL;rw[Dt]at hd;obtain⟨a,xs,rfl,na,ha,ht⟩:=hd;have hlen:=ht.len;refine⟨_,rfl,a,xs,rfl,.inl (Ab.of ha),_,_,rfl,rfl,_,rfl,BA (fun c=>?_) (fun c=>?_)⟩
 ·have e:CY (.list ds)=false:=by
   have:¬1≤ds.length:=by rw[←hlen];have:=aT c;omega
   rw[CY,decide_eq_false this,Bool.false_and]
  have:=q H (.refl H);rw[e]at this;exact EO this
 have h1:1≤ds.length:=by rw[←hlen];have:=bI (aY.mpr c);omega
 refine⟨_,rfl,a,xs,rfl,.inl (Ab.of ha),_,_,rfl,rfl,_,rfl,BA (fun c=>?_) (fun c=>?_)⟩
 ·have e:CY (.list ds)=false:=by
   have:¬ds.length≤40:=by rw[←hlen];have:=aT c;omega
   rw[CY,decide_eq_false this,Bool.false_and,Bool.and_false]
  have:=q H (.refl H);rw[e]at this;exact this
 have h2:ds.length≤40:=by rw[←hlen];have:=bI (aY.mpr c);omega
 have e:CY (.list ds)=IV ds:=by rw[CY,decide_eq_true h1,decide_eq_true h2,Bool.true_and,Bool.true_and]
 rw[e]at q;refine⟨_,rfl,a,rfl,⟨_,Ab.of ha⟩,X1 (xs:=xs) (fun i σ H'=>∃r1 r2,σ=[some (.ref a),r1,r2]∧AK H H'∧∀j,j<i→rowAt ds j=true) ?_ ?_ ?_ ?_⟩
 ·exact⟨_,_,rfl,.refl _,fun j h=>absurd h (ae _)⟩
 ·rintro i σ H' _ ⟨r1,r2,rfl,e,_⟩;exact Ab.of (e _ _ ha)
 ·rintro i x σ H0 hx ⟨r1,r2,rfl,e0,hf⟩ p hp;obtain⟨c,hc,tc⟩:=ht.get hx;have hi:i<ds.length:=(aC.mp hc).1;have s1:=AO hp (.tup [.int (i:Nat),x]);have e1:=e0.trans s1;have hp':(upd H0 p (.tup [.int (i:Nat),x])) p=some (.tup [.int (i:Nat),x]):=AI;generalize upd H0 p (.tup [.int (i:Nat),x])=H1 at s1 e1 hp';have tc:=tc.same e1;refine⟨p,_,rfl,Ay.of hp',rfl,_,_,rfl,_,_,rfl,rfl,?_⟩;refine⟨_,rfl,l,c,x,rfl,tc,_,rfl,BA (fun b=>?_) (fun b=>?_)⟩
  ·have hb:Ca c=false:=by simpa using b
   have:=q H1 e1;rw[Q5 hi (by rw[L3 hc,hb,Bool.false_and])]at this;exact EO this
  have hb:Ca c=true:=by simpa using b
  obtain⟨cs,rfl⟩:=Ji (Pf hb);rw[Dt]at tc;obtain⟨b,ys,rfl,nb,hb',hy⟩:=tc;refine⟨_,rfl,b,ys,rfl,.inl (Ab.of hb'),_,rfl,rfl,_,rfl,BA (fun z=>?_) (fun z=>?_)⟩
  ·have hne:¬FY (.list cs)=i:=by
    rw[FY,←hy.len];intro zz;rw[zz]at z;simp at z
   have:=q H1 e1;rw[Q5 hi (by rw[L3 hc,hb,decide_eq_false hne,Bool.and_false])]at this;exact this
  ·have hne:FY (.list cs)=i:=by
    rw[FY,←hy.len];by_cases zz:ys.length=i
    ·exact zz
    ·exfalso
     refine z ?_;have:¬(V.int (ys.length:Nat)=V.int (i:Nat)):=by simp;omega
     rw[decide_eq_false this];rfl
   refine⟨_,_,rfl,e1,fun j hj=>?_⟩;by_cases zz:j=i
   ·subst zz;rw[L3 hc,hb,decide_eq_true hne,Bool.and_self]
   ·exact hf j (by omega)
 ·rintro σ H' ⟨r1,r2,rfl,e1,hf⟩;have:=q H' e1;rw[RL fun j hj=>hf j (by rw[hlen];exact hj)]at this;exact this
def Uo:Aa ["thing"] ["thing"] (AV MH):=CK
def Ue(F:Fn K mg "is_table" MH ["thing"] f fd)(JU:Fn K mg "are_rows" Ln ["thing"] g1 gd1)(Cq:Fn K mg "are_fractions" FL ["thing"] g2 gd2)
 (V6:AQ P w K mg base Ah 4 g1 gd1 ["thing"] Xx)(G9:AQ P w K mg base Ah 4 g2 gd2 ["thing"] Qk)(Ai:mg "isinstance" = none)(Bj:mg "tuple" = none)(BO:mg "len" = none):AQ P w K mg base Ah 5 f fd ["thing"] dP:=by
 have sc:=Uo;refine F.F.ok (k:=4) sc (fun vs H Q E h=>?_) (fun cdv A outer s H vs Q E hr h=>?_)
 ·obtain⟨l,d,v,rfl,_⟩:=h
  rfl
 obtain⟨l,d,v,rfl,hd,q⟩:=h;refine⟨_,(AN (Bw (PW.pt (Kx (FX (FU (BC GP rfl Ai aq (AE (pv 0) (AE (Gu (v:=.ty "tuple") rfl Bj bA rfl) AL))))) (KL (BD SF (BC Bo rfl BO aj (AE (pv 0) AL)) AR (Ag _)))))
  (AX (A3 FD))
  BL)
 (AX (A3 (Pu (Bp JU V6 hr rfl (AE (B4 Cg (pv 0) AR (fun _ _=>rfl)) AL)) (Pu (Bp Cq G9 hr rfl (AE (B4 Cg (pv 0) AR (fun _ _=>rfl)) AL)) (Te (NM FH (BC Bo rfl BO aj (AE (B4 Cg (pv 0) AR (fun _ _=>rfl)) AL)) (BC Bo rfl BO aj (AE (B4 Cg (pv 0) AR (fun _ _=>rfl)) AL)) (Ag _)))))))),?_⟩
 refine⟨_,rfl,_,_,_,_,rfl,TC,hd.ty,Om K d hd.nodict,_,rfl,?_⟩;by_cases hL:DM d=false
 ·rw[hL];have:=q H (.refl H);rw[XS hL]at this;exact EO (EO this)
 have hL:DM d=true:=by simpa using hL
 rw[hL];refine Mj ?_;obtain⟨ds,rfl⟩:=ZG hL;rw[Dt]at hd;obtain⟨a,xs,rfl,na,ha,hx⟩:=hd;have hlen:=hx.len;have s1:Ay K H a xs:=Ay.of ha;refine⟨_,rfl,a,xs,rfl,.inr s1,rfl,_,rfl,BA (fun c=>?_) (fun c=>?_)⟩
 ·have:ds.length≠2:=by
   rw[←hlen];intro z;rw[z]at c;exact absurd c (by decide)
  have q:=q H (.refl H);rw[Wh this]at q;exact q
 have h2:xs.length=2:=by
  by_cases z:xs.length=2
  ·exact z
  ·exfalso
   refine c ?_;have:¬(V.int (xs.length:Nat)=V.int 2):=by simp;omega
   rw[decide_eq_false this];rfl
 obtain⟨d0,d1,rfl⟩:∃d0 d1,ds=[d0,d1]:=by
  match ds,(show ds.length=2 by omega) with
  |[x,y],_=>exact⟨x,y,rfl⟩
 rw[AW]at hx;obtain⟨x0,r,rfl,hx0,hx⟩:=hx;rw[AW]at hx;obtain⟨x1,r,rfl,hx1,hx⟩:=hx;rw[AW]at hx;subst hx;rw[CG]at q;refine⟨_,rfl,_,_,_,_,rfl,rfl,s1,rfl,l,d0,x0,rfl,hx0,fun H1 e1=>⟨_,rfl,BA (fun c0=>?_) (fun c0=>?_)⟩⟩
 ·rw[c0]at q;refine⟨_,rfl,_,_,_,_,rfl,rfl,e1.tup s1,rfl,l,d1,x1,rfl,hx1.same e1,_,rfl,BA (fun c1=>?_) (fun c1=>?_)⟩
  ·rw[c1]at q;obtain⟨r0,rfl⟩:=Ji (Tn c0);obtain⟨r1,rfl⟩:=Ji (Pf c1);have hx0:=hx0.same e1;have hx1:=hx1.same e1;rw[Dt]at hx0 hx1;obtain⟨a0,y0,rfl,_,ha0,hy0⟩:=hx0;obtain⟨a1,y1,rfl,_,ha1,hy1⟩:=hx1;refine⟨_,rfl,_,_,_,_,rfl,rfl,e1.tup s1,rfl,a1,y1,rfl,.inl (Ab.of ha1),_,rfl,_,_,_,_,rfl,rfl,e1.tup s1,rfl,a0,y0,rfl,.inl (Ab.of ha0),rfl,?_⟩;have:=q H1 e1;rw[Bool.true_and,Bool.true_and,FY,FY,←hy0.len,←hy1.len]at this;have e:decide (V.int (y1.length:Nat)=V.int (y0.length:Nat))=decide (y1.length=y0.length):=by
    rw[Bool.eq_iff_iff];simp;omega
   rw[←e]at this;exact this
  ·rw[Bool.eq_false_iff.mpr c1,Bool.false_and,Bool.and_false]at q;exact q H1 e1
 ·rw[Bool.eq_false_iff.mpr c0,Bool.false_and]at q;exact q H1 e1
end
def mZ{p:AD}{H H':Hp}{xs:List V}{ds:List PD}(hH:upd H p (.lst xs)=H')(hp:H p=none)(k:BK H ds xs):AK H H'∧DU H' (.list ds) (.ref p)∧H' p=some (.lst xs):=by
 subst hH;have es:=AO hp (.lst xs);exact⟨es,.lst AI (k.same es),AI⟩
def i4(r:Rat):D7 (BH r)=true:=by
 have h:=r.den_nz;have k:=r.reduced;rw[BH,D7,decide_eq_true (show(1:Int)≤(r.den:Int) by omega),Bool.true_and];rw[beq_iff_eq];unfold FM.gi;unfold Nat.Coprime at k;rw[show r.num.gcd (r.den:Int)=1 from k]
 rfl
def K7{i n:Nat}(h:i<n)(hn:n≤60):i<sizeLine:=aM (show i<60 by omega) (by rw[sizeLine_eq];decide)
def SI{n:Nat}(hn:n≤60):n≤sizeLine:=aQ hn (by rw[sizeLine_eq];decide)
structure Tb where
 rs:List (List Rat)
 ls:List Rat
def Ae(r:List Rat):List PD:=r.map BH
def Bn(r:List Rat):PD:=.list (Ae r)
def BR(rs:List (List Rat)):List PD:=rs.map Bn
def BX(t:Tb):PD:=.tuple [.list (BR t.rs),.list (Ae t.ls)]
structure Tb.Ok(m:Nat)(t:Tb):Prop where
 one:1≤t.rs.length
 most:t.rs.length≤m
 last:t.ls.length=t.rs.length
 row:∀(i:Nat) r,t.rs[i]? = some r→r.length=i
def T4(r:List Rat):∀e∈Ae r,D7 e=true:=fun e he=>by
 obtain⟨q,_,rfl⟩:=aZ.mp he;exact i4 q
def CM(r:List Rat):(Ae r).length=r.length:=bY _
def EF(r:List (List Rat)):(BR r).length=r.length:=bY _
def Tb.Ok.is{m:Nat}(hm:m≤40){t:Tb}(h:t.Ok m):CG (BX t)=true:=by
 have h1:=h.one;have h2:=h.most;rw[BX,CG,CY,FY,FY,EF,CM,decide_eq_true h1,decide_eq_true (show t.rs.length≤40 by omega),decide_eq_true h.last,Ca,Bool.true_and,Bool.true_and,Bool.and_true,List.all_eq_true.mpr (T4 _),Bool.and_true];refine RL fun j hj=>?_;rw[EF]at hj;have hr:t.rs[j]? = some t.rs[j]:=by simp[hj]
 rw[L3 (d:=Bn t.rs[j]) (by rw[BR,List.getElem?_map,hr];rfl),Bn,FY,CM,decide_eq_true (h.row j _ hr),Ca,Bool.and_true,List.all_eq_true.mpr (T4 _)]
def BK.cq{H:Hp}{d:PD}{ds:List PD}{xs:List V}(h:BK H (d::ds) xs):∃x r,xs=x::r∧DU H d x∧BK H ds r:=by
 obtain⟨N,b⟩:=h;have h0:=b N (aG _);rw[AW]at h0;obtain⟨x,r,rfl,_,_⟩:=h0;refine⟨x,r,rfl,⟨N,fun l hl=>?_⟩,⟨N,fun l hl=>?_⟩⟩
 ·have:=b l hl;rw[AW]at this;obtain⟨_,_,e,h1,_⟩:=this;cases e;exact h1
 ·have:=b l hl;rw[AW]at this;obtain⟨_,_,e,_,h1⟩:=this;cases e;exact h1
def DU.rat{H:Hp}{q:Rat}{v:V}(h:DU H (BH q) v):∃p,v=.ref p∧H p=some (.tup (Jk q)):=h.ints (ps:=[q.num,(q.den:Int)])
def Me{H:Hp}{q:Rat}{p:AD}(h:H p=some (.tup (Jk q))):DU H (BH q) (.ref p):=.tup h (.cons .int (.cons .int .nil))
def Ht{c:AD}{zs:List V}{H:Hp}(hc:H c=some (.lst zs)):∀ {qs:List Rat} {xs:List V},BK H (Ae qs) xs→AW c H (Ae qs) xs
 |[],xs,h=>by
  have:=h.len;rw[show Ae []=[] from rfl,List.length_nil]at this;rw[List.eq_nil_of_length_eq_zero this];exact .nil
 |q::qs,xs,h=>by
  obtain⟨x,r,rfl,h1,h2⟩:=BK.cq h;obtain⟨p,rfl,hp⟩:=h1.rat;exact .cons (.tup (fun z=>by subst z;rw[hp]at hc;cases hc) hp (.cons .int (.cons .int .nil))) (Ht hc h2)
def DZ{c:AD}{zs:List V}{H H':Hp}(hc:H c=some (.lst zs))(e:SameBut c H H'){qs:List Rat}{xs:List V}(h:BK H (Ae qs) xs):BK H' (Ae qs) xs:=Em (.but e (Ht hc h))
def Xi{c a:AD}{zs xs:List V}{H:Hp}{qs:List Rat}(hc:H c=some (.lst zs))(n:a≠c)(ha:H a=some (.lst xs))(h:BK H (Ae qs) xs):Dt c H (Bn qs) (.ref a):=.lst n ha (Ht hc h)
def BK.set{H:Hp}{d:PD}{v:V}(hv:DU H d v):∀ {ds:List PD} {xs:List V} {j:Nat},BK H ds xs→BK H (ds.set j d) (xs.set j v)
 |[],xs,j,h=>by
  have:=h.len;rw[List.length_nil]at this;rw[List.eq_nil_of_length_eq_zero this];exact .nil
 |e::es,xs,j,h=>by
  obtain⟨x,r,rfl,h1,h2⟩:=h.cq;cases j with
  |zero=>exact .cons hv h2
  |succ j=>exact .cons h1 (BK.set (j:=j) hv h2)
def DU.tab{H:Hp}{t:Tb}{v:V}(h:DU H (BX t) v):∃p R L xs ys,v=.ref p∧H p=some (.tup [.ref R,.ref L])∧H R=some (.lst xs)∧BK H (BR t.rs) xs∧H L=some (.lst ys)∧BK H (Ae t.ls) ys:=by
 obtain⟨p,zs,rfl,hp,h1⟩:=h.lV;obtain⟨x,y,rfl,h2,h3⟩:=h1.YL;obtain⟨R,xs,rfl,hR,h4⟩:=h2.cn;obtain⟨L,ys,rfl,hL,h5⟩:=h3.cn;exact⟨p,R,L,xs,ys,rfl,hp,hR,h4,hL,h5⟩
def Pa{H:Hp}{t:Tb}{p R L:AD}{xs ys:List V}(hp:H p=some (.tup [.ref R,.ref L]))(hR:H R=some (.lst xs))(h4:BK H (BR t.rs) xs)(hL:H L=some (.lst ys))(h5:BK H (Ae t.ls) ys):DU H (BX t) (.ref p) :=
 .tup hp (.cons (.lst hR h4) (.cons (.lst hL h5) .nil))
def GW{H:Hp}{rs:List (List Rat)}{xs:List V}{i:Nat}{r:List Rat}(h:BK H (BR rs) xs)(hr:rs[i]? = some r):∃a ys,xs[i]? = some (.ref a)∧H a=some (.lst ys)∧BK H (Ae r) ys:=by
 obtain⟨v,h1,h2⟩:=h.get (i:=i) (d:=Bn r) (by rw[BR,List.getElem?_map,hr];rfl);obtain⟨a,ys,rfl,h3,h4⟩:=h2.cn;exact⟨a,ys,h1,h3,h4⟩
def Made(H0:Hp)(D:AD)(rs:List (List Rat))(i:Nat)(ys:List V)(H:Hp):Prop :=
 AK H0 H∧ys.length=i∧AW D H (BR (rs.take i)) ys∧∀y∈ys,∃a zs,y=.ref a∧a≠D∧H0 a=none∧H a=some (.lst zs)
def jW{H0:Hp}{D:AD}{rs:List (List Rat)}(hD:H0 D=none):Made H0 D rs 0 [] (upd H0 D (.lst [])):=⟨AO hD _,rfl,.nil,fun _ z=>(List.not_mem_nil z).elim⟩
def Xl{H0 H:Hp}{D l:AD}{rs:List (List Rat)}{i:Nat}{ys zs:List V}{r:List Rat}(hD:H0 D=none)(m:Made H0 D rs i ys H)(hH:H D=some (.lst ys))(hr:rs[i]? = some r)(hl:H l=none)(hz:BK H (Ae r) zs) :
  upd H l (.lst zs) D=some (.lst ys)∧Made H0 D rs (i+1) (ys++[.ref l]) (upd (upd H l (.lst zs)) D (.lst (ys++[.ref l]))):=by
 obtain⟨e,hyl,d,n⟩:=m;have nl:l≠D:=fun z=>by subst z;rw[hH]at hl;cases hl
 have e1:=AO hl (.lst zs);have hl1:upd H l (.lst zs) l=some (.lst zs):=AI;generalize upd H l (.lst zs)=H1 at e1 hl1;have hD1:=e1 _ _ hH;have hl0:H0 l=none:=by
  cases hx:H0 l with
  |none=>rfl
  |some o=>have:=e _ _ hx;rw[hl]at this;cases this
 refine⟨hD1,fun b o z=>?_,by simp[hyl],?_,fun y hy=>?_⟩
 ·rw[AJ (AU z hD)];exact e1 _ _ (e _ _ z)
 ·rw[List.take_add_one,hr,BR,List.map_append];exact .but .upd ((d.same e1).app (.cons (Xi hD1 nl hl1 (hz.same e1)) .nil))
 ·rcases bR.mp hy with hy|hy
  ·obtain⟨a,ws,rfl,na,h0,h1⟩:=n y hy;exact⟨a,ws,rfl,na,h0,by rw[AJ na];exact e1 _ _ h1⟩
  ·rw[List.mem_singleton.mp hy];exact⟨l,zs,rfl,nl,hl0,by rw[AJ nl];exact hl1⟩
def X2(a b:List Rat):Ae (a++b)=Ae a++Ae b:=List.map_append
def Gq(c b:Int):Int:=c.fdiv (FM.gi c b)*b
def HD(bs:List Int):Int:=bs.foldl Gq 1
def Ta{k:Nat}:∀(bs:List Int) (c:Int) (n:Nat),1≤c→c.natAbs<2^n→(∀b∈bs,1≤b∧b.natAbs<2^k) →
  1≤bs.foldl Gq c∧(bs.foldl Gq c).natAbs<2^(n+k*bs.length)∧c ∣ bs.foldl Gq c∧∀b∈bs,b ∣ bs.foldl Gq c
 |[],c,n,h1,h2,_=>⟨h1,by simpa using h2,Int.dvd_refl _,fun _ z=>(List.not_mem_nil z).elim⟩
 |b::bs,c,n,h1,h2,h=>by
  obtain⟨b1,b2⟩:=h b aR;obtain⟨s1,s2,s3,s4⟩:=UM h1 b1;have n1:(Gq c b).natAbs<2^(n+k):=FM.gI (ay s4 h2) b2;obtain⟨r1,r2,r3,r4⟩:=Ta bs (Gq c b) (n+k) s1 n1 fun y hy=>h y (aO _ hy);refine⟨r1,?_,Int.dvd_trans s2 r3,fun y hy=>?_⟩
  ·rw[List.length_cons,Nat.mul_succ,show n+(k*bs.length+k)=n+k+k*bs.length by omega];exact r2
  ·rcases aJ.mp hy with rfl|hy
   ·exact Int.dvd_trans s3 r3
   ·exact r4 y hy
def U2{k:Nat}{bs:List Int}(h:∀b∈bs,1≤b∧b.natAbs<2^k):1≤HD bs∧(HD bs).natAbs<2^(1+k*bs.length)∧∀b∈bs,b ∣ HD bs:=by
 obtain⟨a,b,_,d⟩:=Ta bs 1 1 (by decide) (by decide) h;exact⟨a,b,d⟩
def Xv(bs:List Int)(b:Int):HD (bs++[b])=Gq (HD bs) b:=by
 unfold HD;rw[List.foldl_append]
 rfl
def X4:Sp:=fun vs H Q _=>∃(a:AD) (bs:List Int) (k:Nat),vs=[.ref a]∧H a=some (.lst (bs.map V.int))∧(∀b∈bs,1≤b∧b.natAbs<2^k)∧k*bs.length≤4000∧Q (.int (HD bs)) H
def JY(rs:List Rat)(B:Int):List Int:=rs.map fun r=>r.num*B.fdiv (r.den:Int)
def XR:Sp:=fun vs H Q _=>∃(a:AD) (xs:List V) (rs:List Rat) (B:Int) (n m:Nat),vs=[.ref a,.int B]∧H a=some (.lst xs)∧BK H (Ae rs) xs∧rs.length≤50∧(∀r∈rs,FM.Fits r n)∧B.natAbs<2^m∧n+m≤4000 ∧
 ∀D H',AK H H'→H D=none→H' D=some (.lst ((JY rs B).map V.int))→Q (.ref D) H'
def JX{H:Hp}{qs:List Rat}{xs:List V}{i:Nat}{q:Rat}(h:BK H (Ae qs) xs)(hq:qs[i]? = some q):∃p,xs[i]? = some (.ref p)∧H p=some (.tup (Jk q)):=by
 obtain⟨v,h1,h2⟩:=h.get (i:=i) (d:=BH q) (by rw[Ae,List.getElem?_map,hq];rfl);obtain⟨p,rfl,hp⟩:=h2.rat;exact⟨p,h1,hp⟩
def U8{rs:List Rat}{n:Nat}(h:∀r∈rs,FM.Fits r n):∀b∈rs.map (fun r=>(r.den:Int)),1≤b∧b.natAbs<2^n:=fun b hb=>by
 obtain⟨r,hr,rfl⟩:=aZ.mp hb;have:=r.den_nz;exact⟨by omega,(h r hr).d⟩
section
variable{P:Program}{w:World}{K:Fg}{mg:Str→Option VL}{base:Heap}{f g g1 g2:AD}{fd gd gd1 gd2:FuncData}
def Nn(F:Fn K mg "common_bottom" HG ["bottoms"] f fd)(BU:Fn K mg "greatest_divisor" DC ["one", "other"] g gd)
 (C6:AQ P w K mg base Ah 1 g gd ["one", "other"] Ww):AQ P w K mg base Ah 2 f fd ["bottoms"] X4:=by
 have sc:=Oq;refine F.F.ok (k:=1) sc (fun vs H Q E h=>?_) (fun cdv A outer s H vs Q E hr h=>?_)
 ·obtain⟨a,bs,k,rfl,_⟩:=h
  rfl
 obtain⟨a,bs,k,rfl,ha,hb,hk,q⟩:=h;refine⟨_,(AN (A5 (i:=1) sc.nd rfl (Or.inl rfl) AR)
 (AN (F9 aN rfl (EY (pv 0)) (Az (i:=2) sc.nd rfl (Or.inl rfl))
  (AX (A5 (i:=1) sc.nd rfl (Or.inl rfl) (Ax Hl (Ax Gf (pv 1) (Bp BU C6 hr rfl (AE (pv 1) (AE (pv 2) AL)))) (pv 2)))))
 (AX (A3 (pv 1))))),?_⟩
 refine⟨_,rfl,a,rfl,⟨_,Ab.of ha⟩,Lx (xs:=bs.map V.int) (fun i σ H'=>∃(r:Option V),σ=[some (.ref a),some (.int (HD (bs.take i))),r]∧H=H') ?_ ?_ ?_ ?_⟩
 ·exact⟨_,rfl,rfl⟩
 ·rintro i σ H' _ ⟨r,rfl,rfl⟩;exact Ab.of ha
 ·rintro i x σ H' hx ⟨r,rfl,rfl⟩;have hi:i<bs.length:=by have:=(aC.mp hx).1;simpa using this
  rw[List.getElem?_map,List.getElem?_eq_getElem hi]at hx;cases hx;obtain⟨b1,b2⟩:=hb _ (bZ hi);obtain⟨c1,c2,_⟩:=U2 (k:=k) (bs:=bs.take i) fun y hy=>hb y (List.mem_of_mem_take hy);rw[List.length_take,Nat.min_eq_left (by omega)]at c2;obtain⟨s1,s2,s3,s4⟩:=UM c1 b1;have hg:FM.gi (HD (bs.take i)) bs[i]≠0:=Int.ne_of_gt (FM.Mr (by omega));have hki:k*i+k≤4000:=by
   have:k*(i+1)≤k*bs.length:=bF k hi;rw[Nat.mul_succ]at this;omega
  have n1:((HD (bs.take i)).fdiv (FM.gi (HD (bs.take i)) bs[i])).natAbs<2^(1+k*i):=ay s4 c2;refine⟨_,rfl,_,rfl,_,rfl,HD (bs.take i),bs[i],rfl,_,_,rfl,rfl,⟨hg,k,by have:k*1≤k*bs.length:=bF k (by omega);omega,Nat.lt_of_le_of_lt (FM.cM (by omega)) b2⟩,_,rfl,_,_,rfl,rfl,WU n1 b2 (by omega),some (.int bs[i]),?_,rfl⟩;rw[List.take_add_one,List.getElem?_eq_getElem hi];show _=[some (V.ref a),some (V.int (HD (bs.take i++[bs[i]]))),some (V.int bs[i])];rw[Xv]
  rfl
 ·rintro σ H' ⟨r,rfl,rfl⟩;rw[List.length_map,List.take_length];exact⟨_,rfl,q⟩
def Sh:Aa ["some", "bottom"] ["some", "bottom"] (AV K9):=CK
def UO(F:Fn K mg "tops_over" K9 ["some", "bottom"] f fd):AQ P w K mg base Ah 1 f fd ["some", "bottom"] XR:=by
 have sc:=Sh;refine F.F.ok (k:=0) sc (fun vs H Q E h=>?_) (fun cdv A outer s H vs Q E hr h=>?_)
 ·obtain⟨a,xs,rs,B,n,m,rfl,_⟩:=h
  rfl
 obtain⟨a,xs,rs,B,n,m,rfl,ha,dx,hl,hf,hB,hnm,q⟩:=h;have hxl:xs.length=rs.length:=by rw[dx.len,CM]
 refine⟨_,(AX (A3 (Gh [".0", "part", "bottom"] 1 [none,none,some 1] (EY (pv 0)) (fun _ _ _ _ _=>Ex) (fun _ _ _ _ _=>(Ax Hl (B4 Nb (pv 1) AR (fun _ _=>rfl)) (Ax Gf (pv 2) (B4 Nb (pv 1) AR (fun _ _=>rfl)))))))),?_⟩;refine⟨_,rfl,a,rfl,⟨_,Ab.of ha⟩,fun D hD=>G5 (n:=xs.length) (fun i ys H'=>AK H H'∧ys=(JY (rs.take i) B).map V.int) ⟨AO hD _,rfl⟩ ?_ ?_⟩
 ·rintro i ys H1 hi ⟨e1,rfl⟩ hD1;have hr:rs[i]? = some (rs[i]'(by omega)):=aL _;obtain⟨p,hp1,hp2⟩:=JX dx hr;have ft:=hf _ (aP hr);generalize rs[i]'(by omega)=r at hr hp2 ft;have hd:=r.den_nz;refine⟨⟨xs,.ref p,Ab.of (e1 _ _ ha),hp1⟩,K7 (n:=60) (by unfold JY;simp;omega) (by decide),fun x H' y=>?_⟩;obtain⟨rfl,y⟩:=y;have hx:=y xs (Ab.of (e1 _ _ ha));rw[hp1]at hx;cases hx;unfold IB;have n2:(B.fdiv (r.den:Int)).natAbs<2^m:=ay (FM.FQ _ _) hB;refine EO ⟨_,rfl,_,_,_,_,rfl,rfl,Ay.of (e1 _ _ hp2),rfl,_,rfl,_,rfl,_,_,_,_,rfl,rfl,Ay.of (e1 _ _ hp2),rfl,_,_,rfl,rfl,⟨by omega,n,by omega,ft.d⟩,_,_,rfl,rfl,WU ft.1 n2 (by omega),hD1,Ez hi ⟨fun b o z=>?_,?_⟩⟩
  ·rw[AJ (AU z hD)];exact e1 _ _ z
  ·rw[List.take_add_one,hr,JY,JY,List.map_append,List.map_append]
   rfl
 ·rintro ys H1 ⟨e1,rfl⟩ hD1;rw[hxl,List.take_length]at hD1;exact⟨⟨xs,Ab.of (e1 _ _ ha),Nat.le_refl _⟩,q D H1 e1 hD hD1⟩
end
def DK(a b:List Int):List Int:=List.zipWith (· * ·) a b
def Sk(a b:List Int):Int:=(DK a b).sum
def EM(n:Nat):List Int:=List.replicate n 1
def N3(rows:List (List Int)):Tr→List Int→List Int
 |.nil,acc=>acc
 |.cons b r,acc=>N3 rows r (DK acc (rows.map fun row=>Sk row (N3 rows b (EM rows.length))))
def EV(rows:List (List Int))(t:Tr):List Int:=rows.map fun row=>Sk row (N3 rows t (EM rows.length))
def QD(rows:List (List Int)):∀(t:Tr) (acc:List Int),N3 rows t acc=t.bs.foldl (fun a b=>DK a (EV rows b)) acc
 |.nil,acc=>rfl
 |.cons b r,acc=>by
  rw[N3,Tr.bs,List.foldl_cons,QD rows r]
  rfl
def Lc(rows:List (List Int))(t:Tr):(EV rows t).length=rows.length:=bY _
def Zr{a b:List Int}(h:a.length=b.length):(DK a b).length=a.length:=by unfold DK;rw[List.length_zipWith,h,Nat.min_self]
def C3(n:Nat)(xs:List Int):Prop:=∀x∈xs,x.natAbs≤n
def C3.mul{m n:Nat}:∀ {a b:List Int},C3 m a→C3 n b→C3 (m*n) (DK a b)
 |[],_,_,_=>fun x h=>by cases h
 |_::_,[],_,_=>fun x h=>by cases h
 |x::a,y::b,ha,hb=>fun z h=>by
  have h:z∈x*y::DK a b:=h;rcases aJ.mp h with rfl|h
  ·rw[Int.natAbs_mul];exact Nat.mul_le_mul (ha x (.head _)) (hb y (.head _))
  ·exact C3.mul (fun x h=>ha x (.tail _ h)) (fun x h=>hb x (.tail _ h)) z h
def Yl{n:Nat}:∀ {a:List Int},C3 n a→a.sum.natAbs≤a.length*n
 |[],_=>bE _
 |x::a,h=>by
  have h1:=h x (.head _);have h2:=Yl (a:=a) fun x h'=>h x (.tail _ h');rw[List.sum_cons,List.length_cons,Nat.succ_mul];have:=Int.natAbs_add_le x a.sum;omega
def hJ{m n:Nat}{a b:List Int}(ha:C3 m a)(hb:C3 n b):(Sk a b).natAbs≤a.length*m*n:=by
 have h:=Yl (ha.mul hb);have hl:(DK a b).length≤a.length:=by unfold DK;rw[List.length_zipWith];exact Nat.min_le_left _ _
 refine aQ h ?_;rw[Nat.mul_assoc];exact Nat.mul_le_mul_right _ hl
structure Jj(rows:List (List Int))(c:Nat):Prop where
 len:rows.length≤1000
 one:∀row∈rows,row.length≤rows.length
 big:∃M,(∀row∈rows,C3 M row)∧M≤2^c∧∀row∈rows,row.length*M≤2^c
def C3.mono{m n:Nat}{xs:List Int}(h:C3 m xs)(e:m≤n):C3 n xs:=fun x hx=>aQ (h x hx) e
def QW(n k:Nat):C3 (2^k) (EM n):=fun x h=>by
 unfold EM at h;rw[List.eq_of_mem_replicate h];exact Nat.one_le_two_pow
def cg{rows:List (List Int)}{c:Nat}(h:Jj rows c){t:Tr}{k:Nat}(hs:C3 (2^(c*k)) (N3 rows t (EM rows.length))):C3 (2^(c*(k+1))) (EV rows t):=fun x hx=>by
 unfold EV at hx;obtain⟨row,hr,rfl⟩:=aZ.mp hx;obtain⟨M,h1,_,h2⟩:=h.big;have:=hJ (h1 row hr) hs;refine aQ this ?_;rw[Nat.mul_add,Nat.mul_one,Nat.add_comm,Nat.pow_add];exact Nat.mul_le_mul_right _ (h2 row hr)
def Pr{rows:List (List Int)}{c:Nat}(h:Jj rows c):∀(t:Tr) (acc:List Int) (j:Nat),acc.length=rows.length→C3 (2^(c*j)) acc→(N3 rows t acc).length=rows.length∧C3 (2^(c*(j+(t.Ac-1)))) (N3 rows t acc)
 |.nil,acc,j,hl,ha=>⟨hl,ha⟩
 |.cons b r,acc,j,hl,ha=>by
  have hb:=Pr h b (EM rows.length) 0 (List.length_replicate ..) (QW _ _);have kb:1≤b.Ac:=Tr.C7 b;have kr:1≤r.Ac:=Tr.C7 r;rw[Nat.zero_add]at hb;have h1:=cg h hb.2;rw[show b.Ac-1+1=b.Ac by omega]at h1;have h2:=ha.mul h1;rw[←Nat.pow_add,←Nat.mul_add]at h2;have h3:=Pr h r (DK acc (EV rows b)) (j+b.Ac) (by rw[Zr (by rw[hl,Lc])];exact hl) h2;rw[N3,Tr.Ac];refine⟨h3.1,?_⟩;rw[show j+(b.Ac+r.Ac-1)=j+b.Ac+(r.Ac-1) by omega];exact h3.2
def fS{rows:List (List Int)}{c:Nat}(h:Jj rows c)(t:Tr):C3 (2^(c*t.Ac)) (EV rows t):=by
 have h1:=(Pr h t (EM rows.length) 0 (List.length_replicate ..) (QW _ _)).2;have kb:1≤t.Ac:=Tr.C7 t;rw[Nat.zero_add]at h1;have h2:=cg h h1;rw[show t.Ac-1+1=t.Ac by omega]at h2;exact h2
def VT{m:Nat}(hm:m+1≤1000000){x y:Int}(hx:x.natAbs≤2^m)(hy:y.natAbs≤2^m):UB x y∨PK x y:=by
 have:2^m<2^(m+1):=Nat.pow_lt_pow_of_lt (by decide) (bU m);exact .inr ⟨m+1,hm,Nat.lt_of_le_of_lt hx this,Nat.lt_of_le_of_lt hy this⟩
def KQ{n:Nat}(h:n≤1000):n<sizeLine:=ay h (by rw[sizeLine_eq];decide)
def DP{H H':Hp}{p:AD}(e:AK H H')(h:H' p=none):H p=none:=by
 cases z:H p with
 |none=>rfl
 |some o=>rw[e _ _ z]at h;cases h
def ints_get{ps:List Int}{i:Nat}{x:Int}(h:ps[i]? = some x):(ps.map V.int)[i]? = some (.int x):=by rw[List.getElem?_map,h];rfl
def Rb{xs ys:List Int}{i:Nat}{x y:Int}(hx:xs[i]? = some x)(hy:ys[i]? = some y):(DK xs ys).take (i+1)=(DK xs ys).take i++[x*y]:=by
 have h:(DK xs ys)[i]? = some (x*y):=by unfold DK;rw[List.getElem?_zipWith,hx,hy]
 rw[List.take_add_one,h];rfl
def iZ:Sp:=fun vs H Q _=>∃a b xs ys m,vs=[.ref a,.ref b]∧H a=some (.lst (xs.map V.int))∧H b=some (.lst (ys.map V.int))∧xs.length≤ys.length∧xs.length≤1000∧m+1≤1000000∧C3 (2^m) xs∧C3 (2^m) ys∧∀H',AK H H'→Q (.int (Sk xs ys)) H'
section
variable{P:Program}{w:World}{K:Fg}{mg:Str→Option VL}{base:Heap}{f g1:AD}{fd gd1:FuncData}
def V5:Aa ["row", "shares"] ["row", "shares"] (AV Mb):=CK
def Wv(F:Fn K mg "read_by" Mb ["row", "shares"] f fd)(HN:mg "sum" = none)(IH:mg "zip" = none):AQ P w K mg base Ah 1 f fd ["row", "shares"] iZ:=by
 have sc:=V5;refine F.F.ok (k:=0) sc (fun vs H Q E h=>?_) (fun cdv A outer s H vs Q E hr h=>?_)
 ·obtain⟨a,b,ps,qs,m,rfl,_⟩:=h
  rfl
 obtain⟨a,b,ps,qs,m,rfl,ha,hb,hl,h60,hm,sx,sy,q⟩:=h;refine⟨_,(AX (A3 (BC (OZ rfl) rfl HN PyProof.Rows.boot_sum (AE (RD [".0", "part", "share"] 1 2 [none,none,none] (X3 rfl IH (AE (pv 0) (AE (pv 1) AL))) (fun _ _ _ _ _=>Ex) (fun _ _ _ _ _=>(Ax Hl (pv 1) (pv 2)))) AL)))),?_⟩;refine⟨_,rfl,_,rfl,false,false,a,b,rfl,⟨_,ha⟩,⟨_,hb⟩,fun D hD=>SV (n:=ps.length) (fun i us H'=>AK H H'∧us=((DK ps qs).take i).map V.int) ?_ ?_ ?_⟩
 ·exact⟨AO hD _,by rw[List.take_zero];rfl⟩
 ·rintro i us H1 hi ⟨e1,rfl⟩ hD1;have hx:=aL hi;have hy:=aL (l:=qs) (i:=i) (by omega);have e1a:=e1 _ _ ha;have e1b:=e1 _ _ hb;refine⟨⟨_,_,_,_,e1a,e1b,ints_get hx,ints_get hy⟩,KQ (by rw[List.length_map,List.length_take];omega),fun v H' y=>?_⟩;obtain⟨p,x,z,rfl,np,rfl,k1,k2⟩:=y;have hx':=k1 _ e1a;have hy':=k2 _ e1b;rw[ints_get hx]at hx';rw[ints_get hy]at hy';cases hx';cases hy';have sp:=AO np (.tup [.int ps[i],.int qs[i]]);refine⟨p,_,_,rfl,Ay.of AI,?_⟩;unfold IB;refine EO ⟨_,rfl,_,rfl,_,_,rfl,rfl,VT hm (sx _ (bZ _)) (sy _ (bZ _)),sp _ _ hD1,Ez hi ⟨fun c o z=>?_,?_⟩⟩
  ·rw[AJ (AU z hD)];exact sp _ _ (e1 _ _ z)
  ·rw[Rb hx hy,List.map_append]
   rfl
 ·rintro us H1 ⟨e1,rfl⟩ hD1;refine⟨⟨_,_,e1 _ _ ha,e1 _ _ hb,.inl (by rw[List.length_map])⟩,D,_,rfl,Ab.of hD1,?_⟩;rw[List.take_of_length_le (by unfold DK;rw[List.length_zipWith];omega)];exact q _ e1
end
def JE(d:AD)(H H':Hp):Prop:=∀a o,a≠d→H a=some o→H' a=some o
def JE.of{d:AD}{H H':Hp}(e:AK H H'):JE d H H':=fun a o _ h=>e a o h
def JE.trans{d:AD}{H H1 H2:Hp}(e:JE d H H1)(e':JE d H1 H2):JE d H H2:=fun a o n h=>e' a o n (e a o n h)
def j5{d:AD}{r:List KR}{xs:List V}:dN d r≠.lst xs:=by unfold dN;intro z;cases z
def jJ{d:AD}{r:List KR}{xs:List V}:dN d r≠.tup xs:=by unfold dN;intro z;cases z
def JE.lst{d:AD}{H H':Hp}(e:JE d H H'){r:List KR}(hd:H d=some (dN d r)){l:AD}{xs:List V}(h:H l=some (.lst xs)):H' l=some (.lst xs):=e l _ (Wd h hd fun z=>j5 z.symm) h
def JE.A6{d:AD}{H H':Hp}(e:JE d H H'){r:List KR}(hd:H d=some (dN d r)):J4 H H':=fun b xs h=>e b _ (Wd h hd fun z=>jJ z.symm) h
def RX(H:Hp)(vs:List V)(rows:List (List Int)):Prop:=vs.length=rows.length∧∀(i:Nat) (row:List Int),rows[i]? = some row→∃a:AD,vs[i]? = some (.ref a)∧H a=some (.lst (row.map V.int))
def RX.same{H H':Hp}{vs:List V}{rows:List (List Int)}(h:RX H vs rows)(e:AK H H'):RX H' vs rows:=⟨h.1,fun i row hi=>let⟨a,h1,h2⟩:=h.2 i row hi;⟨a,h1,e _ _ h2⟩⟩
def RX.but{d:AD}{H H':Hp}{vs:List V}{rows:List (List Int)}(h:RX H vs rows)(e:JE d H H'){r:List KR}(hd:H d=some (dN d r)):RX H' vs rows:=⟨h.1,fun i row hi=>let⟨a,h1,h2⟩:=h.2 i row hi;⟨a,h1,e.lst hd h2⟩⟩
structure Wt(Dm:List Tr)(c:Nat):Prop where
 len:Dm.length≤1000
 inj:∀a∈Dm,∀b∈Dm,TH.Bq (some a)=TH.Bq (some b)→a=b
 bs:∀t∈Dm,∀b∈t.bs,b∈Dm
 deep:∀t∈Dm,t.deep<8
 size:∀t∈Dm,c*t.Ac+1≤1000000
structure Memo(Dm:List Tr)(rows:List (List Int))(W:Addr)(H:Hp)(d:Addr)(r:List KR):Prop where
 at_:H d=some (dN d r)
 nd:(r.map (·.1)).Nodup
 all:∀q∈r,∃(t:Tr) (l:Addr),q.1=some t∧t∈Dm∧Tv H t q.2.1∧q.2.2=.ref l∧H l=some (.lst ((EV rows t).map V.int))∧l≠W
def Memo.same{Dm:List Tr}{rows:List (List Int)}{W:AD}{H H':Hp}{d:AD}{r:List KR}(h:Memo Dm rows W H d r)(e:AK H H'):Memo Dm rows W H' d r:=⟨e _ _ h.at_,h.nd,fun q hq=>let⟨t,l,h1,h2,h3,h4,h5,h6⟩:=h.all q hq;⟨t,l,h1,h2,h3.same e,h4,e _ _ h5,h6⟩⟩
def Memo.ok{Dm:List Tr}{c:Nat}{rows:List (List Int)}{W:AD}{H:Hp}{d:AD}{r:List KR}(h:Memo Dm rows W H d r)(D:Wt Dm c){t:Tr}(ht:t∈Dm):Tw H d r (some t):=by
 refine⟨h.at_,fun q hq=>?_,h.nd,fun q hq hh=>?_⟩
 ·obtain⟨u,l,h1,h2,h3,_⟩:=h.all q hq;rw[h1];exact⟨D.deep u h2,h3⟩
 ·obtain⟨u,l,h1,h2,_⟩:=h.all q hq;rw[h1]at hh ⊢;rw[D.inj u h2 t ht hh]
def Rg{α:Type}[DecidableEq α]:∀ {a b:List α},a.Nodup→(∀x∈a,x∈b)→a.length≤b.length
 |[],_,_,_=>bE _
 |x::a,b,hn,h=>by
  have hx:=h x (.head _);obtain⟨h1,h2⟩:=List.nodup_cons.mp hn;have:=Rg (a:=a) (b:=b.erase x) h2 fun y hy=>(List.mem_erase_of_ne (show y≠x from fun e=>h1 (by rw[←e];exact hy))).mpr (h y (.tail _ hy));rw[List.length_erase_of_mem hx]at this;have:=List.length_pos_of_mem hx;rw[List.length_cons];omega
def Memo.len{Dm:List Tr}{rows:List (List Int)}{W:AD}{H:Hp}{d:AD}{r:List KR}(h:Memo Dm rows W H d r):r.length≤Dm.length:=by
 have:=Rg (b:=Dm.map some) h.nd fun x hx=>by
  obtain⟨q,hq,rfl⟩:=aZ.mp hx;obtain⟨u,l,h1,h2,_⟩:=h.all q hq;rw[h1];exact List.mem_map_of_mem h2
 simpa using this
def Memo.put{Dm:List Tr}{rows:List (List Int)}{W:AD}{H H':Hp}{d:AD}{r:List KR}(h:Memo Dm rows W H d r){t:Tr}{v:V}{l:AD}(ht:t∈Dm)(tv:Tv H t v)(hl:H l=some (.lst ((EV rows t).map V.int)))(hlW:l≠W)
 (e:H'=upd H d (dN d (Fi r (some t) v (.ref l)))):JE d H H'∧Memo Dm rows W H' d (Fi r (some t) v (.ref l))∧H' l=some (.lst ((EV rows t).map V.int)):=by
 subst e;have hb:JE d H (upd H d (dN d (Fi r (some t) v (.ref l)))):=fun a o n h=>by rw[AJ n];exact h
 have hl':=hb.lst h.at_ hl;have old:∀q∈r,∃(t':Tr) (l':AD),q.1=some t'∧t'∈Dm∧Tv (upd H d (dN d (Fi r (some t) v (.ref l)))) t' q.2.1∧q.2.2=.ref l'∧upd H d (dN d (Fi r (some t) v (.ref l))) l'=some (.lst ((EV rows t').map V.int))∧l'≠W:=fun q hq=>by
  obtain⟨u,l',h1,h2,h3,h4,h5,h6⟩:=h.all q hq;exact⟨u,l',h1,h2,h3.A6 (hb.A6 h.at_),h4,hb.lst h.at_ h5,h6⟩
 refine⟨hb,⟨AI,?_,fun q hq=>?_⟩,hl'⟩
 ·unfold Fi;split
  ·rw[List.map_map];rw[show((fun x:KR=>x.1) ∘ fun q:KR=>if q.1=some t then(q.1,q.2.1,V.ref l) else q)=fun x=>x.1 from funext fun q=>by
    show(if q.1=some t then(q.1,q.2.1,V.ref l) else q).1=q.1;split<;>rfl]
   exact h.nd
  ·rename_i hn;rw[List.map_append];refine List.nodup_append.mpr ⟨h.nd,by simp,fun a ha b hb'=>?_⟩;obtain⟨q,hq,rfl⟩:=aZ.mp ha;have hb':b=some t:=by simpa using hb'
   subst hb';have hn:r.find? (fun q=>decide (q.1=some t))=none:=by
    cases z:r.find? (fun q=>decide (q.1=some t)) with
    |none=>rfl
    |some x=>rw[z]at hn;exact absurd rfl hn
   have:=List.find?_eq_none.mp hn q hq
   simpa using this
 ·have hq':q∈r∨(∃q'∈r,q'.1=some t∧q=(q'.1,q'.2.1,.ref l))∨q=(some t,v,.ref l):=by
   unfold Fi at hq;split at hq
   ·obtain⟨q',h1,h2⟩:=aZ.mp hq;split at h2
    ·rename_i z;exact .inr (.inl ⟨q',h1,z,h2.symm⟩)
    ·subst h2;exact .inl h1
   ·rcases bR.mp hq with hq|hq
    ·exact .inl hq
    ·exact .inr (.inr (by simpa using hq))
  rcases hq' with hq'|⟨q',h1,h2,rfl⟩|rfl
  ·exact old q hq'
  ·obtain⟨u,l',k1,k2,k3,_⟩:=old q' h1;rw[h2]at k1;cases k1;exact⟨t,l,h2,k2,k3,rfl,hl',hlW⟩
  ·exact⟨t,l,rfl,ht,tv.A6 (hb.A6 h.at_),rfl,hl',hlW⟩
def K6:∀ {t b:Tr},b∈t.bs→b.Ac≤t.Ac
 |.nil,b,h=>by cases h
 |.cons c r,b,h=>by
  rw[Tr.bs]at h;rw[Tr.Ac];rcases aJ.mp h with rfl|h
  ·exact Nat.le_add_right _ _
  ·exact aQ (K6 h) (Nat.le_add_left _ _)
def ZL(r:List KR)(k:Option Tr)(kv v:V):∃q,(Fi r k kv v).find? (fun q=>decide (q.1=k))=some q:=by
 have:∃q∈Fi r k kv v,q.1=k:=by
  unfold Fi;split
  ·rename_i h;obtain⟨q,hq⟩:=Option.isSome_iff_exists.mp h;obtain⟨h1,h2⟩:=find_key hq;exact⟨_,List.mem_map_of_mem h1,by rw[if_pos h2];exact h2⟩
  ·exact⟨_,List.mem_append_right _ (.head _),rfl⟩
 obtain⟨q,h1,h2⟩:=this;cases z:(Fi r k kv v).find? (fun q=>decide (q.1=k)) with
 |some q'=>exact⟨q',rfl⟩
 |none=>exact absurd h2 (by simpa using List.find?_eq_none.mp z q h1)
def Pt:∀(t:Tr) (i:Nat),(Tr.of (t.bs.take i)).Ac≤t.Ac
 |.nil,i=>by rw[Tr.bs,List.take_nil];exact aG _
 |.cons b r,0=>by
  have:=Tr.C7 (.cons b r);exact this
 |.cons b r,i+1=>by
  rw[Tr.bs,List.take_succ_cons,Tr.of,Tr.Ac,Tr.Ac];exact Nat.add_le_add_left (Pt r i) _
def Yr(Dm:List Tr)(c n:Nat):Sp:=fun vs H Q _=>∃R rvs rows v t d r W,vs=[.ref R,v,.ref d]∧H R=some (.lst rvs)∧RX H rvs rows∧Jj rows c∧Tv H t v∧t∈Dm∧t.deep<n∧(∃o,H W=some o)∧Memo Dm rows W H d r∧∀H' r' l,JE d H H'→Memo Dm rows W H' d r'→H' l=some (.lst ((EV rows t).map V.int))→Q (.ref l) H'
section
variable{P:Program}{w:World}{K:Fg}{mg:Str→Option VL}{base:Heap}{f g1:AD}{fd gd1:FuncData}
def UY:Aa ["rows", "tree", "known", "shares", "bough"] ["rows", "tree", "known"] (AV L0):=CK
def N4{Dm:List Tr}{c:Nat}(DO:Wt Dm c)(D8:Fn K mg "readings" L0 ["rows", "tree", "known"] f fd)(IU:Fn K mg "read_by" Mb ["row", "shares"] g1 gd1)(O4:AQ P w K mg base Ah 1 g1 gd1 ["row", "shares"] iZ)(BO:mg "len" = none)(IH:mg "zip" = none) :
  ∀n,AQ P w K mg base Ah (n+1) f fd ["rows", "tree", "known"] (Yr Dm c n)
 |0=>FV fun _ _ _ _ ⟨_,_,_,_,_,_,_,_,_,_,_,_,_,_,h,_⟩=>absurd h (ae _)
 |n+1=>by
  have sc:=UY;have L6:=N4 DO D8 IU O4 BO IH n;have Xj:=O4.mono (show 1≤n+1 by omega);refine D8.F.ok (k:=n+1) sc (fun vs H Q E h=>?_) (fun cdv A outer s H vs Q E hr h=>?_)
  ·obtain⟨R,rvs,rows,v,t,d,r,W,rfl,_⟩:=h
   rfl
  obtain⟨R,rvs,rows,v,t,d,r,W,rfl,hR,hrw,ro,tv,ht,hdp,⟨oW,hW⟩,me,q⟩:=h;have hWs:∀ {H':Hp} {ρ:List KR},JE d H H'→Memo Dm rows W H' d ρ→∃o,H' W=some o:=fun {H' ρ} e m=>by
   by_cases z:W=d
   ·exact⟨_,by rw[z];exact m.at_⟩
   ·exact⟨_,e _ _ z hW⟩
  refine⟨_,(AN (Bw (BD (jN (by have:=hr.units;exact this) true) (pv 1) (pv 2) rfl)
  (AN (A5 (i:=3) sc.nd rfl (Or.inr rfl) (Ax Yp (Cv (AE AR AL)) (BC Bo rfl BO aj (AE (pv 0) AL))))
  (AN (F9 aN rfl (SQ (pv 1)) (Az (i:=4) sc.nd rfl (Or.inl rfl))
   (AX (A5 (i:=3) sc.nd rfl (Or.inr rfl) (RD [".0", "share", "read"] 1 2 [none,none,none] (X3 rfl IH (AE (pv 3) (AE (Bp D8 L6 hr rfl (AE (pv 0) (AE (pv 4) (AE (pv 2) AL)))) AL))) (fun _ _ _ _ _=>Ex) (fun _ _ _ _ _=>(Ax Hl (pv 1) (pv 2)))))))
  (AX (IY (Gh [".0", "row", "shares"] 1 [none,none,some 3] (EY (pv 0)) (fun _ _ _ _ _=>Ex) (fun _ _ _ _ _=>(Bp IU Xj hr rfl (AE (pv 1) (AE (pv 2) AL))))) (LU (pv 2) (pv 1) (jV (by have:=hr.units;exact this)))))))
  BL)
 (AX (A3 (jU (by have:=hr.units;exact this) (pv 2) (pv 1) (fun _ _=>rfl))))),?_⟩
  have key:Ir H (some t) v:=⟨DO.deep t ht,tv⟩;cases hz:r.find? (fun q=>decide (q.1=some t)) with
  |some q' =>
   refine⟨_,rfl,_,rfl,d,r,some t,rfl,key,me.ok DO ht,false,by rw[hz];rfl,Mj ?_⟩;obtain⟨hm,hk⟩:=find_key hz;obtain⟨u,l,h1,h2,h3,h4,h5,_⟩:=me.all q' hm;rw[hk]at h1;cases h1;refine⟨_,rfl,_,rfl,d,r,some t,q',rfl,key,me.ok DO ht,hz,?_⟩;rw[h4];exact q H r l (fun a o _ h=>h) me h5
  |none =>
   refine⟨_,rfl,_,rfl,d,r,some t,rfl,key,me.ok DO ht,true,by rw[hz];rfl,EO ?_⟩;refine⟨by show 1≤sizeLine;decide,fun p hp=>⟨_,rfl,_,_,rfl,.inl (Ab.of (AO hp _ _ _ hR)),p,_,_,rfl,rfl,AI,by omega,?_,?_,fun S hS=>?_⟩⟩
   ·have:=hrw.1;have:=ro.len;omega
   ·have:=hrw.1;have:=ro.len;refine bN (KQ ?_);simp;omega
   rw[List.flatten_replicate_singleton,show((rvs.length:Nat):Int).toNat=rows.length by rw[hrw.1];rfl];have e0:AK H (upd (upd H p (.lst [V.int 1])) S (.lst (List.replicate rows.length (V.int 1)))):=(AO hp _).trans (AO hS _);have hS0:upd (upd H p (.lst [V.int 1])) S (.lst (List.replicate rows.length (V.int 1))) S=some (.lst (((t.bs.take 0).foldl (fun a b=>DK a (EV rows b)) (EM rows.length)).map V.int)):=by
    rw[AI,List.take_zero,List.foldl_nil];unfold EM;rw[List.map_replicate]
   generalize upd (upd H p (.lst [V.int 1])) S (.lst (List.replicate rows.length (V.int 1)))=H0 at e0 hS0;obtain⟨a,ys,rfl,ha,hts⟩:=tv;have hyl:=hts.len;have sizes:∀i,((t.bs.take i).foldl (fun a b=>DK a (EV rows b)) (EM rows.length)).length=rows.length∧C3 (2^(c*t.Ac)) ((t.bs.take i).foldl (fun a b=>DK a (EV rows b)) (EM rows.length)):=fun i=>by
    have h:=Pr ro (Tr.of (t.bs.take i)) (EM rows.length) 0 (List.length_replicate ..) (QW _ _);rw[QD,Tr.Kj]at h;refine⟨h.1,h.2.mono (bP (by decide) (bF _ ?_))⟩;have:=Pt t i;omega
   refine⟨_,rfl,a,rfl,⟨_,Ay.of (e0 _ _ ha)⟩,eg (xs:=ys) (fun i σ H'=>∃(r4:Option V) (S:AD) (ρ:List KR),σ=[some (.ref R),some (.ref a),some (.ref d),some (.ref S),r4]∧JE d H H'∧Memo Dm rows W H' d ρ∧H' S=some (.lst (((t.bs.take i).foldl (fun a b=>DK a (EV rows b)) (EM rows.length)).map V.int))) ?_ ?_ ?_ ?_⟩
   ·exact⟨_,S,r,rfl,.of e0,me.same e0,hS0⟩
   ·rintro i σ H' _ ⟨r4,S',ρ,rfl,e,_⟩;exact Ay.of (e.A6 me.at_ _ _ ha)
   ·rintro i x σ H1 hx ⟨r4,S1,ρ,rfl,e1,me1,hS1⟩;obtain⟨b,hb,tb⟩:=hts.get hx;have hbm:b∈t.bs:=aP hb;have hbd:=Tr.S8 hbm;refine⟨_,rfl,_,rfl,_,rfl,_,rfl,R,rvs,rows,x,b,d,ρ,W,rfl,e1.lst me.at_ hR,hrw.but e1 me.at_,ro,tb.A6 (e1.A6 me.at_),DO.bs t ht b hbm,by omega,hWs e1 me1,me1,fun H2 r2 l e2 me2 hl2=>?_⟩;have hS2:=e2.lst me1.at_ hS1;have e02:=e1.trans e2;obtain⟨sl,sb⟩:=sizes i;generalize hsh:(t.bs.take i).foldl (fun a b=>DK a (EV rows b)) (EM rows.length)=sh at sl sb hS2;have hnext:(t.bs.take (i+1)).foldl (fun a b=>DK a (EV rows b)) (EM rows.length)=DK sh (EV rows b):=by
     rw[List.take_add_one,hb,List.foldl_append,hsh];rfl
    have rl:=Lc rows b;have rb:=fS ro b;have kb:b.Ac≤t.Ac:=K6 hbm;have rb':=rb.mono (bP (by decide) (bF c kb));refine⟨false,false,S1,l,rfl,⟨_,hS2⟩,⟨_,hl2⟩,fun D hD=>SV (n:=sh.length) (fun j us H'=>AK H2 H'∧us=((DK sh (EV rows b)).take j).map V.int) ?_ ?_ ?_⟩
    ·exact⟨AO hD _,by rw[List.take_zero];rfl⟩
    ·rintro j us H3 hj ⟨e3,rfl⟩ hD3;have hx:=aL hj;have hy:=aL (l:=EV rows b) (i:=j) (by omega);have e3a:=e3 _ _ hS2;have e3b:=e3 _ _ hl2;refine⟨⟨_,_,_,_,e3a,e3b,ints_get hx,ints_get hy⟩,KQ (by have:=ro.len;rw[List.length_map,List.length_take];omega),fun v H' y=>?_⟩;obtain⟨p,x,z,rfl,np,rfl,k1,k2⟩:=y;have hx':=k1 _ e3a;have hy':=k2 _ e3b;rw[ints_get hx]at hx';rw[ints_get hy]at hy';cases hx';cases hy';have sp:=AO np (.tup [.int sh[j],.int (EV rows b)[j]]);refine⟨p,_,_,rfl,Ay.of AI,?_⟩;unfold IB;refine EO ⟨_,rfl,_,rfl,_,_,rfl,rfl,VT (DO.size t ht) (sb _ (bZ _)) (rb' _ (bZ _)),sp _ _ hD3,Ez hj ⟨fun c o z=>?_,?_⟩⟩
     ·rw[AJ (AU z hD)];exact sp _ _ (e3 _ _ z)
     ·rw[Rb hx hy,List.map_append]
      rfl
    ·rintro us H3 ⟨e3,rfl⟩ hD3;refine⟨⟨_,_,e3 _ _ hS2,e3 _ _ hl2,.inl (by rw[List.length_map])⟩,?_⟩;refine⟨_,D,r2,rfl,e02.trans (.of e3),me2.same e3,?_⟩;rw[hD3,hnext,List.take_of_length_le (by unfold DK;rw[List.length_zipWith];omega)]
   ·rintro σ H1 ⟨r4,S1,ρ,rfl,e1,me1,hS1⟩;rw[hyl,List.take_length,←QD]at hS1;obtain⟨sl,sb⟩:=sizes t.bs.length;rw[List.take_length,←QD]at sl sb;have hR1:=e1.lst me.at_ hR;have hrw1:=hrw.but e1 me.at_;refine⟨_,rfl,R,rfl,⟨_,Ab.of hR1⟩,fun D hD=>G5 (n:=rvs.length) (fun j us H'=>AK H1 H'∧us=((EV rows t).take j).map V.int) ?_ ?_ ?_⟩
    ·exact⟨AO hD _,by rw[List.take_zero];rfl⟩
    ·rintro j us H3 hj ⟨e3,rfl⟩ hD3;have hj':j<rows.length:=by rw[←hrw.1];exact hj
     have hrow:=aL hj';generalize rows[j]=row at hrow;have hrm:=aP hrow;obtain⟨pr,g1,g2⟩:=hrw1.2 j row hrow;have hR3:=e3 _ _ hR1;refine⟨⟨_,_,Ab.of hR3,g1⟩,KQ (by have:=ro.len;rw[List.length_map,List.length_take,Lc];omega),fun x H' y=>?_⟩;obtain⟨rfl,y⟩:=y;have hx:=y _ (Ab.of hR3);rw[g1]at hx;cases hx;unfold IB;obtain⟨M,b1,b2,_⟩:=ro.big;refine EO ⟨_,rfl,_,rfl,pr,S1,row,_,c*t.Ac,rfl,e3 _ _ g2,e3 _ _ hS1,?_,?_,DO.size t ht,?_,sb,fun H4 e4=>?_⟩
     ·rw[sl];exact ro.one row hrm
     ·have:=ro.one row hrm;have:=ro.len;omega
     ·refine(b1 row hrm).mono (aQ b2 (bP (by decide) ?_));have:=Tr.C7 t;exact Nat.le_mul_of_pos_right c this
     ·refine⟨e4 _ _ hD3,Ez hj ⟨fun c o z=>?_,?_⟩⟩
      ·rw[AJ (AU z hD)];exact e4 _ _ (e3 _ _ z)
      ·have:(EV rows t)[j]? = some (Sk row (N3 rows t (EM rows.length))):=by unfold EV;rw[List.getElem?_map,hrow];rfl
       rw[List.take_add_one,this,List.map_append]
       rfl
    ·rintro us H3 ⟨e3,rfl⟩ hD3;rw[List.take_of_length_le (by rw[Lc,hrw.1];exact aG _)]at hD3;have me3:=me1.same e3;have hDW:D≠W:=fun z=>by
      obtain⟨o,hw⟩:=hWs e1 me1;rw[←z,hD]at hw;cases hw
     have tv3:Tv H3 t (.ref a):=⟨a,ys,rfl,e3 _ _ (e1.A6 me.at_ _ _ ha),(hts.A6 (e1.A6 me.at_)).same e3⟩;refine⟨⟨_,Ab.of (e3 _ _ hR1),Nat.le_refl _⟩,_,rfl,_,rfl,d,ρ,some t,rfl,⟨DO.deep t ht,tv3⟩,me3.ok DO ht,Nat.le_trans me3.len DO.len,?_⟩;generalize h4:upd H3 d (dN d (Fi ρ (some t) (.ref a) (.ref D)))=H4;obtain⟨b4,me4,l4⟩:=me3.put ht tv3 hD3 hDW h4.symm;have tv4:=tv3.A6 (b4.A6 me3.at_);have key4:Ir H4 (some t) (.ref a):=⟨DO.deep t ht,tv4⟩;obtain⟨q',hq',hv⟩:∃q',(Fi ρ (some t) (.ref a) (.ref D)).find? (fun q=>decide (q.1=some t))=some q'∧∃l,q'.2.2=.ref l∧H4 l=some (.lst ((EV rows t).map V.int)):=by
      obtain⟨q',hq'⟩:=ZL ρ (some t) (.ref a) (.ref D);obtain⟨hm,hk⟩:=find_key hq';obtain⟨u,l,h1,h2,h3,h4,h5,_⟩:=me4.all q' hm;rw[hk]at h1;cases h1;exact⟨q',hq',l,h4,h5⟩
     obtain⟨l,hv,hl⟩:=hv;refine⟨_,rfl,_,rfl,d,_,some t,q',rfl,key4,me4.ok DO ht,hq',?_⟩;rw[hv];exact q H4 _ l ((e1.trans (.of e3)).trans b4) me4 hl
end
def En(r:List Rat):List Int:=r.map fun q=>(q.den:Int)
def HM(t:Tb)(i:Nat):List Int:=En t.ls++((t.rs.take i).map En).flatten
def EZ(t:Tb):Int:=HD (HM t t.rs.length)
def Tb.Fits(t:Tb)(n:Nat):Prop:=(∀r∈t.rs,∀q∈r,FM.Fits q n)∧∀q∈t.ls,FM.Fits q n
def QC{t:Tb}{i:Nat}{r:List Rat}(h:t.rs[i]? = some r):HM t (i+1)=HM t i++En r:=by
 unfold HM;rw[List.take_add_one,h,List.map_append,List.flatten_append,List.append_assoc];simp
def K4{t:Tb}{m:Nat}(o:t.Ok m):∀i,i≤t.rs.length→(HM t i).length≤t.rs.length+t.rs.length*i
 |0,_=>by unfold HM En;simp[o.last]
 |i+1,h=>by
  have hr:=aL (l:=t.rs) (i:=i) (by omega);have:=K4 o i (by omega);rw[QC hr,List.length_append,show(En t.rs[i]).length=t.rs[i].length from bY _,o.row i _ hr,Nat.mul_succ];omega
def RA{t:Tb}{n:Nat}(h:t.Fits n)(i:Nat):∀b∈HM t i,1≤b∧b.natAbs<2^n:=fun b hb=>by
 unfold HM at hb;rcases bR.mp hb with hb|hb
 ·exact U8 h.2 b hb
 ·obtain⟨l,hl,hb⟩:=List.mem_flatten.mp hb;obtain⟨r,hr,rfl⟩:=aZ.mp hl;exact U8 (h.1 r (List.mem_of_mem_take hr)) b hb
def jb:Sp:=fun vs H Q _=>∃(v:V) (t:Tb) (m n:Nat),vs=[v]∧DU H (BX t) v∧t.Ok m∧m≤40∧t.Fits n∧n*(m+m*m)≤4000∧∀H',AK H H'→Q (.int (EZ t)) H'
section
variable{P:Program}{w:World}{K:Fg}{mg:Str→Option VL}{base:Heap}{f g g1 g2:AD}{fd gd gd1 gd2:FuncData}
def O8:Aa ["table", "bottoms", "row"] ["table"] (AV Hz):=CK
def Pw(F:Fn K mg "table_bottom" Hz ["table"] f fd)(FC:Fn K mg "common_bottom" HG ["bottoms"] g1 gd1)
 (PV:AQ P w K mg base Ah 2 g1 gd1 ["bottoms"] X4):AQ P w K mg base Ah 3 f fd ["table"] jb:=by
 have sc:=O8;refine F.F.ok (k:=2) sc (fun vs H Q E h=>?_) (fun cdv A outer s H vs Q E hr h=>?_)
 ·obtain⟨v,t,m,n,rfl,_⟩:=h
  rfl
 obtain⟨v,t,m,n,rfl,dt,ot,hm,ft,hnm,q⟩:=h;obtain⟨p,R,L,xs,ys,rfl,hp,hR,dR,hL,dL⟩:=dt.tab;have hyl:ys.length=t.ls.length:=by rw[dL.len,CM]
 have hxl:xs.length=t.rs.length:=by rw[dR.len,EF]
 have h1:=ot.most;have h2:=ot.last;refine⟨_,(AN (N5 (i:=1) [".0", "part"] 1 [none,none] sc.nd rfl rfl (EY (B4 Cg (pv 0) AR (fun _ _=>rfl))) (fun _ _ _ _ _=>Ex) (fun _ _ _ _ _=>(B4 Nb (pv 1) AR (fun _ _=>rfl))))
 (AN (F9 aN rfl (EY (B4 Cg (pv 0) AR (fun _ _=>rfl))) (Az (i:=2) sc.nd rfl (Or.inl rfl))
  (AX (CO (Fy aV PySem.F.slot_list_extend PySem.F.type_list_extend K3 (pv 1) (AE (Gh [".0", "part"] 1 [none,none] (EY (pv 2)) (fun _ _ _ _ _=>Ex) (fun _ _ _ _ _=>(B4 Nb (pv 1) AR (fun _ _=>rfl)))) AL)))))
 (AX (A3 (Bp FC PV hr rfl (AE (pv 1) AL)))))),?_⟩
 refine⟨_,rfl,_,_,_,_,rfl,rfl,Ay.of hp,rfl,L,rfl,⟨_,Ab.of hL⟩,fun Z hZ=>G5 (n:=ys.length) (fun i us H'=>AK H H'∧us=(En (t.ls.take i)).map V.int) ⟨AO hZ _,rfl⟩ ?_ ?_⟩
 ·rintro i us H1 hi ⟨e1,rfl⟩ hD1;have hr:t.ls[i]? = some (t.ls[i]'(by omega)):=aL _;obtain⟨p,hp1,hp2⟩:=JX dL hr;generalize t.ls[i]'(by omega)=r at hr hp2;refine⟨⟨ys,.ref p,Ab.of (e1 _ _ hL),hp1⟩,K7 (n:=60) (by unfold En;simp;omega) (by decide),fun x H' y=>?_⟩;obtain⟨rfl,y⟩:=y;have hx:=y ys (Ab.of (e1 _ _ hL));rw[hp1]at hx;cases hx;unfold IB;refine EO ⟨_,rfl,_,_,_,_,rfl,rfl,Ay.of (e1 _ _ hp2),rfl,hD1,Ez hi ⟨fun b o z=>?_,?_⟩⟩
  ·rw[AJ (AU z hZ)];exact e1 _ _ z
  ·rw[List.take_add_one,hr,En,En,List.map_append,List.map_append]
   rfl
 rintro us H1 ⟨e1,rfl⟩ hZ1;rw[hyl,List.take_length]at hZ1;refine⟨⟨ys,Ab.of (e1 _ _ hL),Nat.le_refl _⟩,?_⟩;refine⟨_,rfl,_,_,_,_,rfl,rfl,Ay.of (e1 _ _ hp),rfl,R,rfl,⟨_,Ab.of (e1 _ _ hR)⟩,Lx (xs:=xs) (fun i σ H'=>∃r2,σ=[some (.ref p),some (.ref Z),r2]∧AK H H'∧H' Z=some (.lst ((HM t i).map V.int))) ?_ ?_ ?_ ?_⟩
 ·exact⟨_,rfl,e1,by rw[hZ1];unfold HM;simp⟩
 ·rintro i σ H' _ ⟨r2,rfl,e,_⟩;exact Ab.of (e _ _ hR)
 ·rintro i x σ H2 hx ⟨r2,rfl,e2,hZ2⟩;have hi:i<t.rs.length:=by rw[←hxl];exact(aC.mp hx).1
  have hr:t.rs[i]? = some t.rs[i]:=aL hi;have hrl:=ot.row _ _ hr;obtain⟨a,zs,g1,g2,dz⟩:=GW dR hr;generalize t.rs[i]=row at hr dz hrl;rw[hx]at g1;cases g1;have hzl:zs.length=row.length:=by rw[dz.len,CM]
  refine⟨_,rfl,.inl ⟨rfl,_,Ab.of hZ2⟩,_,rfl,a,rfl,⟨_,Ab.of (e2 _ _ g2)⟩,fun D hD=>G5 (n:=zs.length) (fun j ys H'=>AK H2 H'∧ys=(En (row.take j)).map V.int) ⟨AO hD _,rfl⟩ ?_ ?_⟩
  ·rintro j us H3 hj ⟨e3,rfl⟩ hD3;have E3:=e2.trans e3;have hr:row[j]? = some (row[j]'(by omega)):=aL _;obtain⟨p,hp1,hp2⟩:=JX dz hr;generalize row[j]'(by omega)=r at hr hp2;refine⟨⟨zs,.ref p,Ab.of (E3 _ _ g2),hp1⟩,K7 (n:=60) (by unfold En;simp;omega) (by decide),fun x H' y=>?_⟩;obtain⟨rfl,y⟩:=y;have hx:=y zs (Ab.of (E3 _ _ g2));rw[hp1]at hx;cases hx;unfold IB;refine EO ⟨_,rfl,_,_,_,_,rfl,rfl,Ay.of (E3 _ _ hp2),rfl,hD3,Ez hj ⟨fun b o z=>?_,?_⟩⟩
   ·rw[AJ (AU z hD)];exact e3 _ _ z
   ·rw[List.take_add_one,hr,En,En,List.map_append,List.map_append]
    rfl
  ·rintro us H3 ⟨e3,rfl⟩ hD3;have E3:=e2.trans e3;rw[hzl,List.take_length]at hD3;refine⟨⟨zs,Ab.of (E3 _ _ g2),Nat.le_refl _⟩,Z,D,_,_,rfl,rfl,e3 _ _ hZ2,hD3,?_,_,rfl,fun b o z=>?_,?_⟩
   ·have:=K4 ot i (by omega);rw[List.length_map,List.length_map,show(En row).length=row.length from bY _];have h40:t.rs.length*i≤40*40:=Nat.mul_le_mul (by omega) (by omega);exact aQ (show _≤2000 by omega) (by rw[sizeLine_eq];decide)
   ·rw[AJ (AU z hZ)];exact e3 _ _ (e2 _ _ z)
   ·rw[AI,QC hr,List.map_append]
 ·rintro σ H2 ⟨r2,rfl,e2,hZ2⟩;rw[hxl]at hZ2;refine⟨_,rfl,Z,_,n,rfl,hZ2,RA ft _,?_,q H2 e2⟩;have:=K4 ot _ (aG _);have h3:t.rs.length*t.rs.length≤m*m:=Nat.mul_le_mul h1 h1;exact aQ (bF n (by omega)) hnm
end
def FE(t:Tb):List (List Int):=(t.rs++[t.ls]).map fun r=>JY r (EZ t)
def LI(t:Tb)(u:Tr):Rat:=Rat.divInt ((EV (FE t) u).getLast?.getD 0) (EZ t^u.Ac)
def gk:Sp:=fun vs H Q _=>∃v u,vs=[v]∧Tv H u v∧u.deep<8∧u.Ac≤8∧∀H',AK H H'→Q (.int (u.Ac:Nat)) H'
def gU(Dm:List Tr)(c:Nat):Sp:=fun vs H Q _=>∃(v:V) (t:Tb) (L:AD) (tvs:List V) (ts:List Tr) (m n k:Nat),vs=[v,.ref L]∧DU H (BX t) v∧t.Ok m∧m≤40∧t.Fits n∧n*(m+m*m)≤4000∧Jj (FE t) c∧(EZ t).natAbs<2^k∧n+k≤4000∧1≤EZ t ∧
 H L=some (.lst tvs)∧tvs.length=ts.length∧ts.length≤1000∧(∀(i:Nat) (x:V),tvs[i]? = some x→∃u,ts[i]? = some u∧Tv H u x∧u∈Dm∧u.Ac≤8∧k*u.Ac≤4000) ∧
 ∀D H' zs,AK H H'→H D=none→H' D=some (.lst zs)→BK H' (Ae (ts.map (LI t))) zs→Q (.ref D) H'
def Hb(H:Hp)(zs:List V)(qs:List Rat):Prop:=zs.length=qs.length∧∀(i:Nat) (q:Rat),qs[i]? = some q→∃p:AD,zs[i]? = some (.ref p)∧H p=some (.tup (Jk q))
def Hb.A6{H H':Hp}{zs:List V}{qs:List Rat}(h:Hb H zs qs)(e:J4 H H'):Hb H' zs qs:=⟨h.1,fun i q hi=>let⟨p,h1,h2⟩:=h.2 i q hi;⟨p,h1,e _ _ h2⟩⟩
def Hb.snoc{H:Hp}{zs:List V}{qs:List Rat}(h:Hb H zs qs){p:AD}{q:Rat}(hp:H p=some (.tup (Jk q))):Hb H (zs++[.ref p]) (qs++[q]):=by
 refine⟨by rw[List.length_append,List.length_append,h.1];rfl,fun i r hi=>?_⟩;by_cases z:i<qs.length
 ·rw[List.getElem?_append_left z]at hi;rw[List.getElem?_append_left (by rw[h.1];exact z)];exact h.2 i r hi
 ·rw[List.getElem?_append_right (by omega)]at hi;rw[List.getElem?_append_right (by rw[h.1];omega),h.1];have:i-qs.length=0:=by
   have:=(aC.mp hi).1;simp at this;omega
  rw[this]at hi ⊢;cases hi;exact⟨p,rfl,hp⟩
def Hb.U7{H:Hp}:∀ {qs:List Rat} {zs:List V},Hb H zs qs→BK H (Ae qs) zs
 |[],[],_=>.nil
 |[],_::_,h=>by cases h.1
 |_::_,[],h=>by cases h.1
 |q::qs,z::zs,h=>by
  obtain⟨p,h1,h2⟩:=h.2 0 q rfl;cases h1;refine .cons (Me h2) (Hb.U7 ⟨by simpa using h.1,fun i r hi=>?_⟩);exact h.2 (i+1) r hi
def fL{xs:List Int}(h:1≤xs.length):FG (xs.map V.int) (-1)=some (V.int (xs.getLast?.getD 0)):=by
 have hne:xs≠[]:=fun z=>by rw[z]at h;exact absurd h (by decide)
 have e:=List.dropLast_concat_getLast hne;rw[←e,List.map_append,List.getLast?_append];exact Z8 _ _
def jS{b:Int}(h:1≤b)(k:Nat):b^k≠0:=Int.ne_of_gt (Int.pow_pos h)
def Zd{b:Int}{k p:Nat}(h:b.natAbs<2^k)(hk:k*p≤4000):∃m,m≤9000∧(b^p).natAbs<2^m:=by
 refine⟨k*p+1,by omega,?_⟩;rw[Int.natAbs_pow];refine ay (Nat.pow_le_pow_left (bN h) p) ?_;rw[←Nat.pow_mul];exact Nat.pow_lt_pow_of_lt (by decide) (by omega)
section
variable{P:Program}{w:World}{K:Fg}{mg:Str→Option VL}{base:Heap}{f g g1 g2 g3 g4 g5 g6:AD}{fd gd gd1 gd2 gd3 gd4 gd5 gd6:FuncData}
def OW:Aa ["table", "trees", "bottom", "rows", "known", "weights", "tree"] ["table", "trees"] (AV D9):=CK
def OP{Dm:List Tr}{c:Nat}(DO:Wt Dm c)(F:Fn K mg "weights_under" D9 ["table", "trees"] f fd)(Fu:Fn K mg "table_bottom" Hz ["table"] g1 gd1)(IE:Fn K mg "tops_over" K9 ["some", "bottom"] g2 gd2)
 (D8:Fn K mg "readings" L0 ["rows", "tree", "known"] g3 gd3)(JZ:Fn K mg "power_of" Ls ["base", "power"] g4 gd4)(A4:Fn K mg "knots_within" Dg ["tree"] g5 gd5)(GH:Fn K mg "fraction_of" Il ["top", "bottom"] g6 gd6)
 (Qn:AQ P w K mg base Ah 11 g1 gd1 ["table"] jb)(Ud:AQ P w K mg base Ah 11 g2 gd2 ["some", "bottom"] XR)(L6:AQ P w K mg base Ah 11 g3 gd3 ["rows", "tree", "known"] (Yr Dm c 8))(WI:AQ P w K mg base Ah 11 g4 gd4 ["base", "power"] cK)
 (Bb:AQ P w K mg base Ah 11 g5 gd5 ["tree"] gk)(Ru:AQ P w K mg base Ah 11 g6 gd6 ["top", "bottom"] Vx):AQ P w K mg base Ah 12 f fd ["table", "trees"] (gU Dm c):=by
 have sc:=OW;refine F.F.ok (k:=11) sc (fun vs H Q E h=>?_) (fun cdv A outer s H vs Q E hr h=>?_)
 ·obtain⟨v,t,L,tvs,ts,m,n,k,rfl,_⟩:=h
  rfl
 obtain⟨v,t,L,tvs,ts,m,n,k,rfl,dt,ot,hm,ft,hnm,ro,hB,hnk,hB1,hL,htl,hts,hall,q⟩:=h;have o1:=ot.most;have o2:=ot.last;have o3:=ot.one;refine⟨_,(AN (A5 (i:=2) sc.nd rfl (Or.inr rfl) (Bp Fu Qn hr rfl (AE (pv 0) AL)))
 (AN (N5 (i:=3) [".0", "row", "bottom"] 1 [none,none,some 2] sc.nd rfl rfl (EY (Ax W7 (B4 Cg (pv 0) AR (fun _ _=>rfl)) (Cv (AE (B4 Cg (pv 0) AR (fun _ _=>rfl)) AL)))) (fun _ _ _ _ _=>Ex) (fun _ _ _ _ _=>(Bp IE Ud hr rfl (AE (pv 1) (AE (pv 2) AL)))))
 (AN (A5 (i:=4) sc.nd rfl (Or.inl rfl) Z5)
 (AN (A5 (i:=5) sc.nd rfl (Or.inl rfl) (Cv AL))
 (AN (F9 aN rfl (EY (pv 1)) (Az (i:=6) sc.nd rfl (Or.inl rfl))
  (AX (CO (Fy aV ar au DY (pv 5) (AE (Bp GH Ru hr rfl (AE (B4 Gw (Bp D8 L6 hr rfl (AE (pv 3) (AE (pv 6) (AE (pv 4) AL)))) (PN Mx AR) (fun _ _=>rfl)) (AE (Bp JZ WI hr rfl (AE (pv 2) (AE (Bp A4 Bb hr rfl (AE (pv 6) AL)) AL))) AL))) AL)))))
 (AX (A3 (pv 5)))))))),?_⟩
 refine⟨_,rfl,v,t,m,n,rfl,dt,ot,hm,ft,hnm,fun H1 e1=>?_⟩;obtain⟨p,R,L',xs,ys,rfl,hp,hR,dR,hL',dL⟩:=(dt.same e1).tab;have hxl:xs.length=t.rs.length:=by rw[dR.len,EF]
 refine⟨_,rfl,_,_,_,_,rfl,rfl,Ay.of hp,rfl,_,rfl,_,_,_,_,rfl,rfl,Ay.of hp,rfl,(by show 1≤sizeLine;decide),fun q1 hq1=>?_⟩;have e2:=AO hq1 (.lst [V.ref L']);have h2:upd H1 q1 (.lst [V.ref L']) q1=some (.lst [V.ref L']):=AI;generalize upd H1 q1 (.lst [V.ref L'])=H2 at e2 h2;refine⟨R,q1,_,_,rfl,rfl,e2 _ _ hR,h2,SI (by simp;omega),fun C0 hC0=>?_⟩;have e3:=AO hC0 (.lst (xs++[V.ref L']));have h3:upd H2 C0 (.lst (xs++[V.ref L'])) C0=some (.lst (xs++[V.ref L'])):=AI;generalize upd H2 C0 (.lst (xs++[V.ref L']))=H3 at e3 h3;have E3:=(e1.trans e2).trans e3;have E13:=e2.trans e3;have get:∀(i:Nat) (row:List Rat),(t.rs++[t.ls])[i]? = some row→∃(a:AD) (zs:List V),(xs++[V.ref L'])[i]? = some (.ref a)∧H3 a=some (.lst zs)∧BK H3 (Ae row) zs∧row.length≤50∧∀q∈row,FM.Fits q n:=fun i row hi=>by
  by_cases z:i<t.rs.length
  ·rw[List.getElem?_append_left z]at hi;rw[List.getElem?_append_left (by omega)];obtain⟨a,zs,g1,g2,g3⟩:=GW dR hi;exact⟨a,zs,g1,E13 _ _ g2,g3.same E13,by rw[ot.row i row hi];omega,ft.1 row (aP hi)⟩
  ·rw[List.getElem?_append_right (by omega)]at hi;have:i-t.rs.length=0:=by
    have:=(aC.mp hi).1;simp at this;omega
   rw[this]at hi;cases hi;rw[List.getElem?_append_right (by omega),hxl,this];exact⟨L',ys,rfl,E13 _ _ hL',dL.same E13,by omega,ft.2⟩
 have hal:(t.rs++[t.ls]).length=(xs++[V.ref L']).length:=by rw[List.length_append,List.length_append,hxl];rfl
 have hal60:(xs++[V.ref L']).length<60:=by rw[List.length_append,hxl];simp;omega
 refine⟨C0,rfl,⟨_,Ab.of h3⟩,fun D hD=>G5 (n:=(xs++[V.ref L']).length) (fun i us H'=>AK H3 H'∧us.length=i∧∀(j:Nat) (row:List Rat),j<i→(t.rs++[t.ls])[j]? = some row→∃a:AD,us[j]? = some (.ref a)∧H' a=some (.lst ((JY row (EZ t)).map V.int))∧a≠D) ?_ ?_ ?_⟩
 ·exact⟨AO hD _,rfl,fun j row hj=>absurd hj (ae _)⟩
 ·rintro i us H4 hi ⟨e4,hul,hus⟩ hD4;have hr:(t.rs++[t.ls])[i]? = some ((t.rs++[t.ls])[i]'(by omega)):=aL _;generalize (t.rs++[t.ls])[i]'(by omega)=row at hr;obtain⟨a,zs,g1,g2,g3,g4,g5⟩:=get i row hr;refine⟨⟨_,.ref a,Ab.of (e4 _ _ h3),g1⟩,K7 (n:=60) (by omega) (by decide),fun x H' y=>?_⟩;obtain⟨rfl,y⟩:=y;have hx:=y _ (Ab.of (e4 _ _ h3));rw[g1]at hx;cases hx;unfold IB;refine EO ⟨_,rfl,_,rfl,a,zs,row,EZ t,n,k,rfl,e4 _ _ g2,g3.same e4,g4,g5,hB,hnk,fun D5 H5 e5 n5 h5=>⟨e5 _ _ hD4,Ez hi ⟨fun b o z=>?_,by simp[hul],fun j row' hj hr'=>?_⟩⟩⟩
  ·rw[AJ (AU z hD)];exact e5 _ _ (e4 _ _ z)
  ·by_cases z:j<i
   ·obtain⟨b,k1,k2,k3⟩:=hus j row' z hr';exact⟨b,by rw[List.getElem?_append_left (by omega)];exact k1,by rw[AJ k3];exact e5 _ _ k2,k3⟩
   ·have:j=i:=by omega
    subst this;rw[hr]at hr';cases hr';have nD:D5≠D:=fun z=>by rw[z,hD4]at n5;cases n5
    exact⟨D5,by rw[List.getElem?_append_right (by omega),hul,Nat.sub_self];rfl,by rw[AJ nD];exact h5,nD⟩
 rintro rvs H4 ⟨e4,hul,hus⟩ hD4;refine⟨⟨_,Ab.of (e4 _ _ h3),Nat.le_refl _⟩,?_⟩;have E4:=E3.trans e4;have hrw:RX H4 rvs (FE t):=by
  refine⟨by rw[hul,←hal];exact(bY _).symm,fun j row hj=>?_⟩;unfold FE at hj;rw[List.getElem?_map]at hj;cases hj':(t.rs++[t.ls])[j]? with
  |none=>rw[hj']at hj;cases hj
  |some row' =>
   rw[hj']at hj;cases hj;obtain⟨a,k1,k2,_⟩:=hus j row' (by rw[←hal];exact(aC.mp hj').1) hj';exact⟨a,k1,k2⟩
 have hDn:H D=none:=DP E3 hD;refine fun d hd=>?_;have e5:=AO hd (dN d []);have h5:upd H4 d (dN d []) d=some (dN d []):=AI;generalize upd H4 d (dN d [])=H5 at e5 h5;refine⟨(by show 0≤sizeLine;decide),fun W hW=>?_⟩;have e6:=AO hW (.lst []);have h6:upd H5 W (.lst []) W=some (.lst []):=AI;generalize upd H5 W (.lst [])=H6 at e6 h6;have hdn:=DP E4 hd;have E5:=E4.trans e5;have hWn:=DP E5 hW;have E6:=E5.trans e6;have hdW:d≠W:=fun z=>by rw[←z,h5]at hW;cases hW
 have W4:H4 W=none:=DP e5 hW;refine⟨_,rfl,L,rfl,⟨_,Ab.of (E6 _ _ hL)⟩,Lx (xs:=tvs) (fun i σ H'=>∃(r6:Option V) (ρ:List KR) (zs:List V),σ=[some (.ref p),some (.ref L),some (.int (EZ t)),some (.ref D),some (.ref d),some (.ref W),r6]∧AK H4 H'∧Memo Dm (FE t) W H' d ρ∧H' W=some (.lst zs)∧Hb H' zs ((ts.take i).map (LI t))) ?_ ?_ ?_ ?_⟩
 ·refine⟨_,[],[],rfl,e5.trans e6,⟨e6 _ _ h5,.nil,fun q hq=>by cases hq⟩,h6,rfl,fun i q hi=>by cases hi⟩
 ·rintro i σ H' _ ⟨r6,ρ,zs,rfl,e,_⟩;exact Ab.of (e _ _ (E4 _ _ hL))
 ·rintro i x σ H7 hx ⟨r6,ρ,zs,rfl,e7,me7,hW7,fl7⟩;obtain⟨u,hu,tu,hD,h8,hk⟩:=hall i x hx;have E7:=E4.trans e7;refine⟨_,rfl,.inl ⟨rfl,_,Ab.of hW7⟩,_,rfl,_,rfl,_,rfl,D,rvs,FE t,x,u,d,ρ,W,rfl,e7 _ _ hD4,hrw.same e7,ro,tu.same E7,hD,DO.deep u hD,⟨_,hW7⟩,me7,fun H8 ρ8 l e8 me8 hl8=>?_⟩;have tu8:=(tu.same E7).A6 (e8.A6 me7.at_);have hW8:=e8.lst me7.at_ hW7;have fl8:=fl7.A6 (e8.A6 me7.at_);have hne:(EV (FE t) u).length=(t.rs++[t.ls]).length:=(Lc _ _).trans (bY _);have hE8:AK H4 H8:=fun b o z=>e8 _ _ (fun y=>by rw[y,hd]at z;cases z) (e7 _ _ z);refine⟨_,rfl,_,_,_,_,rfl,rfl,Ab.of hl8,fL (by rw[hne,List.length_append];simp),?_⟩;refine⟨_,rfl,_,rfl,x,u,rfl,tu8,DO.deep u hD,h8,fun H9 e9=>?_⟩;refine⟨EZ t,u.Ac,k,rfl,hB,hk,?_⟩;obtain⟨mb,hmb,hpb⟩:=Zd hB hk;refine⟨_,_,mb,rfl,jS hB1 _,hmb,hpb,fun l' H10 e10 hl10=>?_⟩;have E10:=e9.trans e10;refine⟨W,zs,.ref l',rfl,rfl,E10 _ _ hW8,KQ ?_,?_⟩
  ·rw[fl7.1,List.length_map,List.length_take];omega
  ·refine⟨_,ρ8,_,rfl,fun b o z=>?_,⟨?_,me8.nd,fun q' hq'=>?_⟩,AI,?_⟩
   ·rw[AJ (AU z W4)];exact E10 _ _ (hE8 _ _ z)
   ·rw[AJ hdW];exact E10 _ _ me8.at_
   ·obtain⟨u',l2,k1,k2,k3,k4,k5,k6⟩:=me8.all q' hq';exact⟨u',l2,k1,k2,(k3.same E10).A6 (J4.upd (E10 _ _ hW8)),k4,by rw[AJ k6];exact E10 _ _ k5,k6⟩
   ·rw[List.take_add_one,hu,List.map_append];refine((fl8.A6 (.of E10)).snoc (q:=LI t u) hl10).A6 (J4.upd (E10 _ _ hW8))
 ·rintro σ H7 ⟨r6,ρ,zs,rfl,e7,me7,hW7,fl7⟩;rw[htl,List.take_length]at fl7;exact⟨_,rfl,q W H7 zs (E4.trans e7) hWn hW7 fl7.U7⟩
end
section
variable{P:Program}{w:World}{K:Fg}{mg:Str→Option VL}{base:Heap}{f g:AD}{fd gd:FuncData}
def UJ:Aa ["_law_top", "_law_bottom", "_law_one", "_law_other"] ["_law_top", "_law_bottom"] (AV LH):=CK
def Th(F:Fn K mg "_law_frac" LH ["_law_top", "_law_bottom"] f fd)(Kl:mg "abs" = none):AQ P w K mg base Ah 1 f fd ["_law_top", "_law_bottom"] Vx:=by
 have sc:=UJ;refine F.F.ok (k:=0) sc (fun vs H Q E h=>?_) (fun cdv A outer s H vs Q E hr h=>?_)
 ·obtain⟨t,b,m,rfl,_⟩:=h
  rfl
 obtain⟨t,b,m,rfl,hb,hm,hs,q⟩:=h;refine⟨_,(AN (A5 (i:=2) sc.nd rfl (Or.inl rfl) (BC Lu rfl Kl PyProof.Rows.boot_abs (AE (pv 0) AL)))
 (AN (A5 (i:=3) sc.nd rfl (Or.inl rfl) (BC Lu rfl Kl PyProof.Rows.boot_abs (AE (pv 1) AL)))
 (AN (Oj aN (BD JT (pv 3) AR (Ag _))
  (AX (gc (i:=2) (j:=3) rfl sc.nd rfl rfl (by decide) rfl rfl (AE (pv 3) (AE (Ax Hg (pv 2) (pv 3)) AL)) rfl)))
 (AN (Bw (BD PU (pv 1) AR (Ag _))
  (AX (A5 (i:=2) sc.nd rfl (Or.inl rfl) (Ax Ms AR (pv 2))))
  BL)
 (AX (A3 (CS (AE (Ax Gf (pv 0) (pv 2)) (AE (Ax Gf (pv 1) (pv 2)) AL))))))))),?_⟩
 refine⟨_,rfl,_,rfl,_,rfl,_,rfl,?_⟩;refine OS (fun σ H'=>∃g l,σ=[some (.int t),some (.int b),some (.int g),some (.int l)]∧H=H'∧Int.gcd g l=Int.gcd t b∧0≤g∧0≤l) (fun σ _=>lX σ) ?_ ?_ ?_
 ·exact⟨_,_,rfl,rfl,FM.Vg t b,FM.abs_nonneg t,FM.abs_nonneg b⟩
 ·rintro σ H' ⟨g,l,rfl,rfl,hg,h0,h1⟩;refine⟨_,rfl,_,_,rfl,rfl,_,rfl,BA (fun c=>?_) (fun c=>?_)⟩
  ·have hl':0<l:=aT c;have hl:l≠0:=by omega
   refine⟨_,rfl,_,rfl,_,rfl,_,_,rfl,rfl,hl,_,_,rfl,⟨_,_,rfl,rfl,?_,h1,FM.fmod_nonneg hl h1⟩,?_⟩
   ·rw[FM.Sz];exact hg
   ·exact FM.RI g l hl
  ·have hl':¬0<l:=bI (aY.mpr c);have hl:l=0:=by omega
   subst hl;rw[FM.XJ hg h0]
   try dsimp only[EJ]
   refine Oz (fun σ' H'=>σ'=[some (.int t),some (.int b),some (.int (FM.gs t b)),some (.int 0)]∧H=H') (fun nx hn=>?_) ?_
   ·refine⟨_,rfl,_,_,rfl,rfl,_,rfl,BA (fun c=>?_) (fun c=>?_)⟩
    ·have c':b<0:=aT c;refine⟨_,rfl,_,_,rfl,rfl,hn _ _ ⟨?_,rfl⟩⟩;show [some (V.int t),some (V.int b),some (V.int (0-FM.gi t b)),some (V.int 0)]=_;unfold FM.gs;rw[if_pos c',Int.zero_sub]
    ·have c':¬b<0:=bI (aY.mpr c);refine hn _ _ ⟨?_,rfl⟩;unfold FM.gs;rw[if_neg c']
   ·rintro σ' H' ⟨rfl,rfl⟩;have h0:FM.gs t b≠0:=FM.cL hb;have h1:(FM.gs t b).natAbs<2^m:=ay (FM.dB hb) hs;refine⟨_,rfl,_,rfl,_,_,rfl,rfl,⟨h0,m,hm,h1⟩,_,rfl,_,rfl,_,_,rfl,rfl,⟨h0,m,hm,h1⟩,Es,fun p hp=>?_⟩;refine q p _ (AO hp _) ?_;rw[AI];show some (HO.tup [V.int (t.fdiv (FM.gs t b)),V.int (b.fdiv (FM.gs t b))])=_;rw[FM.UN hb,FM.UI hb]
    rfl
 ·exact fun σ H Q Q' hq ⟨v,e,i,j,e1,e2,k,e3,q⟩=>⟨v,e,i,j,e1,e2,k,e3,hq _ _ q⟩
end
section
variable{P:Program}{w:World}{K:Fg}{mg:Str→Option VL}{base:Heap}{f:AD}{fd:FuncData}
def PF:Aa ["tree"] ["tree"] (AV Dg):=CK
def LR(Aw:MD):DF :=
 (CI (A8 CT (fC (.int 1)) (Aj ZP (AB (GI (Dx 1) HH (Aj Aw (AB (nm 1) AG)) [none,none] (GZ (nm 0))) AG))))
def Aw:Nat→MD
 |0=>fun _=>none
 |n+1=>Dr ["tree"] ["tree"] (LR (Aw n))
def Km{k:Nat}(A4:Fn K mg "knots_within" Dg ["tree"] f fd)(HN:mg "sum" = none):∀n,
  AQ P w K mg base Ah (k+n+1) f fd ["tree"] (Bz (Aw n))
 |0=>FV fun _ _ _ _ ⟨_,_,_,h,_⟩=>by cases h
 |n+1=>by
  have sc:=PF;have Bb:=Km (k:=k) A4 HN n;refine JL (k:=k+n+1) (F:=LR (Aw n)) A4 sc fun cdv A outer s H E hr=>?_;exact(Ad (Bt (A7 B3 AM (Gd (gN rfl) rfl HN PyProof.Rows.boot_sum (AA (Jb [".0", "bough"] 1 [none,none] (Eo (AH (pv 0))) (fun _ _ _ _ _=>Hm) (fun _ _ _ _ _=>(BM A4 Bb hr rfl (AA (AH (pv 1)) AF)))) AF)))))
def Nl:Aa ["tree", "density", "bough"] ["tree"] (AV GO):=CK
def Jv(Aw:MD)(BG:MD):DF :=
 (Ar (B1 1 (Aj Aw (AB (nm 0) AG)))
 (Ar (Di (GZ (nm 0)) (F4 2)
  (B1 1 (A8 Jz (nm 1) (Aj BG (AB (nm 2) AG)))))
 (CI (nm 1))))
def BG(Aw:MD):Nat→MD
 |0=>fun _=>none
 |n+1=>Dr ["tree"] ["tree", "density", "bough"] (Jv Aw (BG Aw n))
def JB{k:Nat}{Aw:MD}(B7:Fn K mg "density_within" GO ["tree"] f fd)
 {Lf:AD}{Kn:FuncData}(A4:Fn K mg "knots_within" Dg ["tree"] Lf Kn)(Bb:AQ P w K mg base Ah k Lf Kn ["tree"] (Bz Aw)):∀n,
  AQ P w K mg base Ah (k+n+1) f fd ["tree"] (Bz (BG Aw n))
 |0=>FV fun _ _ _ _ ⟨_,_,_,h,_⟩=>by cases h
 |n+1=>by
  have sc:=Nl;have Dp:=JB (k:=k) (Aw:=Aw) B7 A4 Bb n;have Bb:=Bb.mono (show k≤k+n+1 by omega);refine JL (k:=k+n+1) (F:=Jv Aw (BG Aw n)) B7 sc fun cdv A outer s H E hr=>?_;exact(AY (Bd (i:=1) sc.nd rfl (Or.inl rfl) (BM A4 Bb hr rfl (AA (AH (pv 0)) AF)))
 (AY (Dk aN rfl (Eo (AH (pv 0))) (Dd (Az (i:=2) sc.nd rfl (Or.inl rfl)))
  (Ad (Bd (i:=1) sc.nd rfl (Or.inl rfl) (A7 J6 (AH (pv 1)) (BM B7 Dp hr rfl (AA (AH (pv 2)) AF))))))
 (Ad (Bt (AH (pv 1))))))
def Hd:Aa ["boughs"] ["boughs"] (AV Fc):=CK
def My:DF :=
 (CI (Aj Hn (AB (Aj (Le true) (AB (nm 0) AG)) AG)))
def Ao:MD:=Dr ["boughs"] ["boughs"] (My)
def MW{k:Nat}(F:Fn K mg "in_falling_order" Fc ["boughs"] f fd)(Co:mg "sorted" = none)(Bj:mg "tuple" = none) :
  AQ P w K mg base Ah (k+1) f fd ["boughs"] (Bz (Ao)):=JL F Hd fun cdv A outer s H E hr=>by
 have sc:=Hd;exact(Ad (Bt (MZ O0 rfl Bj bA (AA (bz (by have:=hr.units;exact this) rfl Co (AA (AH (pv 0)) AF) (fun h=>Z7 (by have:=hr.units;exact this) rfl Co h)) AF))))
def MV:Aa ["tree", "larger", "k", "bough", "grown"] ["tree"] (AV Fe):=CK
def IT(Ao:MD)(A2:MD):DF :=
 (Ar (Qm 1 (AB (Aj Ao (AB (A8 CT (nm 0) (Al (AB (Al AG) AG))) AG)) AG))
 (Ar (Di (EI V3 (AB (nm 0) AG)) (b6 2 3)
  (Di (GZ (Aj A2 (AB (nm 3) AG))) (F4 4)
   (W0 1 (Aj Ao (AB (A8 CT (A8 CT (Wf (nm 0) SK (R9 (nm 2))) (Al (AB (nm 4) AG))) (Wf (nm 0) (R9 (A8 CT (nm 2) (fC (.int 1)))) SK)) AG)))))
 (SN 1)))
def A2(Ao:MD):Nat→MD
 |0=>fun _=>none
 |n+1=>Dr ["tree"] ["tree", "larger", "k", "bough", "grown"] (IT Ao (A2 Ao n))
def Hf{k:Nat}{Ao:MD}(Bu:Fn K mg "trees_one_larger" Fe ["tree"] f fd)
 {IK:AD}{He:FuncData}(Cc:Fn K mg "in_falling_order" Fc ["boughs"] IK He)(CA:AQ P w K mg base Ah k IK He ["boughs"] (Bz Ao))(CQ:mg "enumerate" = none):∀n,
  AQ P w K mg base Ah (k+n+1) f fd ["tree"] (Bz (A2 Ao n))
 |0=>FV fun _ _ _ _ ⟨_,_,_,h,_⟩=>by cases h
 |n+1=>by
  have sc:=MV;have C5:=Hf (k:=k) (Ao:=Ao) Bu Cc CA CQ n;have CA:=CA.mono (show k≤k+n+1 by omega);refine JL (k:=k+n+1) (F:=IT Ao (A2 Ao n)) Bu sc fun cdv A outer s H E hr=>?_;exact(AY (Mq (i:=1) sc.nd rfl (Or.inl rfl) (AA (BM Cc CA hr rfl (AA (A7 B3 (AH (pv 0)) (Af (AA (Af AF) AF))) AF)) AF))
 (AY (Dk aN rfl (eU rfl CQ (AA (AH (pv 0)) AF)) (gV (KP rfl (CV (Az (i:=2) sc.nd rfl (Or.inl rfl)) (CV (Az (i:=3) sc.nd rfl (Or.inl rfl)) Hu))))
  (Ad (Dk aN rfl (Eo (BM Bu C5 hr rfl (AA (AH (pv 3)) AF))) (Dd (Az (i:=4) sc.nd rfl (Or.inl rfl)))
   (Ad (M9 (pv 1) (BM Cc CA hr rfl (AA (A7 B3 (A7 B3 (Ll (AH (pv 0)) NS (NW (AH (pv 2)))) (Af (AA (AH (pv 4)) AF))) (Ll (AH (pv 0)) (NW (A7 B3 (AH (pv 2)) AM)) NS)) AF)) (fun ho ha=>CO (Fy aV ar au DY ho ha)))))))
 (Ad (QH (pv 1)))))
def N0:Aa ["many", "trees", "knots", "larger", "tree"] ["many"] (AV JN):=CK
def Wy(A2:MD):DF :=
 (Ar (HK (l8 (CJ (Ig fun i j=>decide (i<j)) (nm 0) (fC (.int 1))) (CJ (Ig fun i j=>decide (j<i)) (nm 0) (fC (.int 7))))
  Xw
  D4)
 (Ar (B1 1 (BJ (AB (Al AG) AG)))
 (Ar (Di (EI V2 (AB (fC (.int 1)) (AB (nm 0) AG))) (F4 2)
  (Ar (Qm 3 AG)
  (Ar (Di (GZ (nm 1)) (F4 4)
   (ZR 3 (Aj A2 (AB (nm 4) AG))))
  (Zl 3 (B1 1 (fun δ=>((nm 3) δ).bind L7))))))
 (CI (nm 1)))))
def Bm(A2:MD):MD:=Dr ["many"] ["many", "trees", "knots", "larger", "tree"] (Wy A2)
def Us{k:Nat}{A2:MD}(F:Fn K mg "trees_of" JN ["many"] f fd)
 {IZ:AD}{Hc:FuncData}(Bu:Fn K mg "trees_one_larger" Fe ["tree"] IZ Hc)(C5:AQ P w K mg base Ah k IZ Hc ["tree"] (Bz A2))(BP:mg "range" = none)(Ng:mg "set" = none)(Co:mg "sorted" = none){tk_MOST_KNOTS:Tok}(Ea:mg "MOST_KNOTS" = some (.int 7 tk_MOST_KNOTS)) :
  AQ P w K mg base Ah (k+1) f fd ["many"] (Bz (Bm A2)):=JL F N0 fun cdv A outer s H E hr=>by
 have sc:=N0;exact(AY (Fm (DW.dt (cX (Cd WC (AH (pv 0)) AM (Ag _)) (XE (Cd cw (AH (pv 0)) (Ly rfl Ea) (Ag _)))))
  (Ad T8)
  De)
 (AY (Bd (i:=1) sc.nd rfl (Or.inl rfl) (Aq (AA (Af AF) AF)))
 (AY (Dk aN rfl (RB rfl BP (AA AM (AA (AH (pv 0)) AF))) (Dd (Az (i:=2) sc.nd rfl (Or.inl rfl)))
  (AY (Mq (i:=3) sc.nd rfl (Or.inl rfl) AF)
  (AY (Dk aN rfl (Eo (AH (pv 1))) (Dd (Az (i:=4) sc.nd rfl (Or.inl rfl)))
   (Ad (Mt (pv 3) (BM Bu C5 hr rfl (AA (AH (pv 4)) AF)) (fun ho ha=>CO (Fy aV PySem.F.slot_list_extend PySem.F.type_list_extend K3 ho ha)))))
  (Ad (Xg 3 (Bd (i:=1) sc.nd rfl (Or.inl rfl) (PJ rfl (by have:=hr.units;exact this) rfl Co rfl Ng (AH (pv 3)))))))))
 (Ad (Bt (AH (pv 1)))))))
def OM:Aa ["most", "trees", "many"] ["most"] (AV MF):=CK
def WK(Bm:MD):DF :=
 (Ar (HK (l8 (CJ (Ig fun i j=>decide (i<j)) (nm 0) (fC (.int 0))) (CJ (Ig fun i j=>decide (j<i)) (nm 0) (fC (.int 7))))
  Xw
  D4)
 (Ar (Qm 1 AG)
 (Ar (Di (EI V2 (AB (fC (.int 1)) (AB (A8 CT (nm 0) (fC (.int 1))) AG))) (F4 2)
  (ZR 1 (Aj Bm (AB (nm 2) AG))))
 (SN 1))))
def Ck(Bm:MD):MD:=Dr ["most"] ["most", "trees", "many"] (WK Bm)
def Uu{k:Nat}{Bm:MD}(F:Fn K mg "trees_to" MF ["most"] f fd)
 {HC:AD}{GF:FuncData}(Ek:Fn K mg "trees_of" JN ["many"] HC GF)(Fz:AQ P w K mg base Ah k HC GF ["many"] (Bz Bm))(BP:mg "range" = none){tk_MOST_KNOTS:Tok}(Ea:mg "MOST_KNOTS" = some (.int 7 tk_MOST_KNOTS)) :
  AQ P w K mg base Ah (k+1) f fd ["most"] (Bz (Ck Bm)):=JL F OM fun cdv A outer s H E hr=>by
 have sc:=OM;exact(AY (Fm (DW.dt (cX (Cd WC (AH (pv 0)) AM (Ag _)) (XE (Cd cw (AH (pv 0)) (Ly rfl Ea) (Ag _)))))
  (Ad T8)
  De)
 (AY (Mq (i:=1) sc.nd rfl (Or.inl rfl) AF)
 (AY (Dk aN rfl (RB rfl BP (AA AM (AA (A7 B3 (AH (pv 0)) AM) AF))) (Dd (Az (i:=2) sc.nd rfl (Or.inl rfl)))
  (Ad (Mt (pv 1) (BM Ek Fz hr rfl (AA (AH (pv 2)) AF)) (fun ho ha=>CO (Fy aV PySem.F.slot_list_extend PySem.F.type_list_extend K3 ho ha)))))
 (Ad (QH (pv 1))))))
def Kq:Aa ["trees"] ["trees"] (AV Hj):=CK
def LW(BG:MD):DF :=
 (Vz (HS (Dx 1) HH (Al (AB (fC (.int 1)) (AB (Aj BG (AB (nm 1) AG)) AG))) [none,none] (GZ (nm 0))))
def CF(BG:MD):MD:=Dr ["trees"] ["trees"] (LW BG)
def Pq{k:Nat}{BG:MD}(F:Fn K mg "true_weights" Hj ["trees"] f fd)
 {Jx:AD}{JH:FuncData}(B7:Fn K mg "density_within" GO ["tree"] Jx JH)(Dp:AQ P w K mg base Ah k Jx JH ["tree"] (Bz BG)) :
  AQ P w K mg base Ah (k+1) f fd ["trees"] (Bz (CF BG)):=JL F Kq fun cdv A outer s H E hr=>by
 have sc:=Kq;exact(Ad (eT [".0", "tree"] 1 [none,none] (Eo (AH (pv 0))) (fun _ _ _ _ _=>Hm) (fun _ _ _ _ _=>(Af (AA AM (AA (BM B7 Dp hr rfl (AA (AH (pv 1)) AF)) AF))))))
def K0:Aa ["trees", "one", "other", "tree", "weight", "due"] ["trees", "one", "other"] (AV Hv):=CK
def Ld:DF :=
 (Ar (Di (EI Qa (AB (nm 0) (AB (nm 1) (AB (nm 2) AG)))) (TF 3 4 5)
  (HK (CJ (Et true) (nm 4) (nm 5))
   (CI (nm 3))
   D4))
 (CI (fC .none)))
def BW:MD:=Dr ["trees", "one", "other"] ["trees", "one", "other", "tree", "weight", "due"] (Ld)
def P7{k:Nat}(F:Fn K mg "first_unlike" Hv ["trees", "one", "other"] f fd)(IH:mg "zip" = none) :
  AQ P w K mg base Ah (k+1) f fd ["trees", "one", "other"] (Bz (BW)):=JL F K0 fun cdv A outer s H E hr=>by
 have sc:=K0;exact(AY (Dk aN rfl (dn rfl IH (AA (AH (pv 0)) (AA (AH (pv 1)) (AA (AH (pv 2)) AF)))) (Z4 (KP rfl (CV (Az (i:=3) sc.nd rfl (Or.inl rfl)) (CV (Az (i:=4) sc.nd rfl (Or.inl rfl)) (CV (Az (i:=5) sc.nd rfl (Or.inl rfl)) Hu)))))
  (Ad (Fm (Cd (V8 (by have:=hr.units;exact this)) (AH (pv 4)) (AH (pv 5)) (Ag _))
   (Ad (Bt (AH (pv 3))))
   De)))
 (Ad (Bt Jl)))
def IL:Aa ["thing"] ["thing"] (AV DL):=CK
def F6(Fx:MD)(C_NoTable:AD):Fb :=
 (YU (Zb (Zn (Aj Fx (AB (nm 0) AG))))
  (TJ C_NoTable (fC (.str (Str.ofString "a table is a tuple of rows, the k-th of k fractions, and a last of as many as there are rows"))))
  (fun δ=>some (.inl (.nx δ))))
def AZ(Fx:MD)(C_NoTable:AD):List PD→Option Xr:=GQ ["thing"] ["thing"] (F6 Fx C_NoTable)
def Ma{k:Nat}{Fx:MD}{C_NoTable:AD}(F:Fn K mg "refuse_no_table" DL ["thing"] f fd)
 {PR:AD}{N7:FuncData}(JV:Fn K mg "is_table" MH ["thing"] PR N7)(Lq:AQ P w K mg base Ah k PR N7 ["thing"] (Bz Fx))(X_NoTable:Exc K mg "NoTable" C_NoTable) :
  AQ P w K mg base (Cb P w) (k+1) f fd ["thing"] (FK (AZ Fx C_NoTable)):=Qz F IL fun cdv A outer s H E hr=>by
 have sc:=IL;exact(LY (cV (XH (Yy (BM JV Lq hr rfl (AA (AH (pv 0)) AF))))
  (LY (by exact TR X_NoTable cT Si))
  Uw))
def JG:Aa ["thing"] ["thing"] (AV El):=CK
def Gg(G6:MD)(C_NoTree:AD):Fb :=
 (YU (Zb (Zn (Aj G6 (AB (nm 0) AG))))
  (TJ C_NoTree (fC (.str (Str.ofString "a tree is told by the tuple of its boughs in falling order"))))
  (fun δ=>some (.inl (.nx δ))))
def Av(G6:MD)(C_NoTree:AD):List PD→Option Xr:=GQ ["thing"] ["thing"] (Gg G6 C_NoTree)
def Np{k:Nat}{G6:MD}{C_NoTree:AD}(F:Fn K mg "refuse_no_tree" El ["thing"] f fd)
 {Q7:AD}{Pk:FuncData}(Ee:Fn K mg "is_tree" ND ["thing"] Q7 Pk)(IX:AQ P w K mg base Ah k Q7 Pk ["thing"] (Bz G6))(X_NoTree:Exc K mg "NoTree" C_NoTree) :
  AQ P w K mg base (Cb P w) (k+1) f fd ["thing"] (FK (Av G6 C_NoTree)):=Qz F JG fun cdv A outer s H E hr=>by
 have sc:=JG;exact(LY (cV (XH (Yy (BM Ee IX hr rfl (AA (AH (pv 0)) AF))))
  (LY (by exact TR X_NoTree cT Si))
  Uw))
def Ky:Aa ["table", "tree"] ["table", "tree"] (AV Hs):=CK
def Fp(AZ:List PD→Option Xr)(Av:List PD→Option Xr)(Ak:MD):Fb :=
 (Jq (K5 AZ (AB (nm 0) AG) fun _ δ=>.nx δ)
 (Jq (K5 Av (AB (nm 1) AG) fun _ δ=>.nx δ)
 (XO (CI (A8 O2 (Aj Ak (AB (nm 0) (AB (BJ (AB (nm 1) AG)) AG))) (fC (.int 0)))))))
def Bx(AZ:List PD→Option Xr)(Av:List PD→Option Xr)(Ak:MD):List PD→Option Xr:=GQ ["table", "tree"] ["table", "tree"] (Fp AZ Av Ak)
def Po{k:Nat}{AZ:List PD→Option Xr}{Av:List PD→Option Xr}{Ak:MD}(F:Fn K mg "table_weight" Hs ["table", "tree"] f fd)
 {B0:AD}{Bv:FuncData}(Ba:Fn K mg "refuse_no_table" DL ["thing"] B0 Bv)(Bl:AQ P w K mg base (Cb P w) k B0 Bv ["thing"] (FK AZ))
 {Dl:AD}{DN:FuncData}(CZ:Fn K mg "refuse_no_tree" El ["thing"] Dl DN)(Cw:AQ P w K mg base (Cb P w) k Dl DN ["thing"] (FK Av))
 {CN:AD}{B8:FuncData}(Bs:Fn K mg "weights_under" D9 ["table", "trees"] CN B8)(B5:AQ P w K mg base Ah k CN B8 ["table", "trees"] (Bz Ak)) :
  AQ P w K mg base (Cb P w) (k+1) f fd ["table", "tree"] (FK (Bx AZ Av Ak)):=Qz F Ky fun cdv A outer s H E hr=>by
 have sc:=Ky;exact(Jw (by exact Lg Ba Bl hr MA (by exact(AA (AH (pv 0)) AF)) (fun h=>CO h))
 (Jw (by exact Lg CZ Cw hr MA (by exact(AA (AH (pv 1)) AF)) (fun h=>CO h))
 (Sx (Ad (Bt (NL (BM Bs B5 hr rfl (AA (AH (pv 0)) (AA (Aq (AA (AH (pv 1)) AF)) AF))) AM (fun _ _=>rfl)))))))
def JF:Aa ["table", "most"] ["table", "most"] (AV GR):=CK
def Gj(AZ:List PD→Option Xr)(Ck:List PD→Option Xr)(Ak:MD):Fb :=
 (Jq (K5 AZ (AB (nm 0) AG) fun _ δ=>.nx δ)
 (xE (Qi (NX (l9 (nm 0)) (NX (Qi (jR (AB (nm 1) AG)) Ck) (jR AG))) fun ds=>(Ak ds).map .inl) fun x _=>.rt x))
def Bi(AZ:List PD→Option Xr)(Ck:List PD→Option Xr)(Ak:MD):List PD→Option Xr:=GQ ["table", "most"] ["table", "most"] (Gj AZ Ck Ak)
def Nq{k:Nat}{AZ:List PD→Option Xr}{Ck:List PD→Option Xr}{Ak:MD}(F:Fn K mg "table_weighing" GR ["table", "most"] f fd)
 {B0:AD}{Bv:FuncData}(Ba:Fn K mg "refuse_no_table" DL ["thing"] B0 Bv)(Bl:AQ P w K mg base (Cb P w) k B0 Bv ["thing"] (FK AZ))
 {PZ:AD}{OB:FuncData}(JM:Fn K mg "trees_to" MF ["most"] PZ OB)(Lw:AQ P w K mg base (Cb P w) k PZ OB ["most"] (FK Ck))
 {CN:AD}{B8:FuncData}(Bs:Fn K mg "weights_under" D9 ["table", "trees"] CN B8)(B5:AQ P w K mg base Ah k CN B8 ["table", "trees"] (Bz Ak)) :
  AQ P w K mg base (Cb P w) (k+1) f fd ["table", "most"] (FK (Bi AZ Ck Ak)):=Qz F JF fun cdv A outer s H E hr=>by
 have sc:=JF;exact(Jw (by exact Lg Ba Bl hr MA (by exact(AA (AH (pv 0)) AF)) (fun h=>CO h))
 (LY (by exact fP (T9 Bs (cm B5) hr MA (UA (i9 (AH (pv 0))) (UA (T9 JM Lw hr MA (XX (by exact(AA (AH (pv 1)) AF)))) (XX (by exact AF))))))))
def LS:Aa ["table", "order", "trees", "tree"] ["table"] (AV Iu):=CK
def Ik(BW:MD)(AZ:List PD→Option Xr)(Bm:MD)(CF:MD)(Ak:MD):Fb :=
 (Jq (K5 AZ (AB (nm 0) AG) fun _ δ=>.nx δ)
 (XO (Ar (Di (EI KN (AB (fC (.int 6)) AG)) (F4 1)
  (Ar (B1 2 (Aj Bm (AB (A8 CT (nm 1) (fC (.int 1))) AG)))
  (Ar (B1 3 (Aj BW (AB (nm 2) (AB (Aj Ak (AB (nm 0) (AB (nm 2) AG))) (AB (Aj CF (AB (nm 2) AG)) AG)))))
  (HK (CJ (RN true) (nm 3) (fC .none))
   (CI (Al (AB (nm 1) (AB (nm 3) AG))))
   D4))))
 (CI (Al (AB (fC (.int 6)) (AB (fC .none) AG)))))))
def CB(BW:MD)(AZ:List PD→Option Xr)(Bm:MD)(CF:MD)(Ak:MD):List PD→Option Xr:=GQ ["table"] ["table", "order", "trees", "tree"] (Ik BW AZ Bm CF Ak)
def Qd{k:Nat}{BW:MD}{AZ:List PD→Option Xr}{Bm:MD}{CF:MD}{Ak:MD}(F:Fn K mg "table_order" Iu ["table"] f fd)
 {Lk:AD}{Kt:FuncData}(Fl:Fn K mg "first_unlike" Hv ["trees", "one", "other"] Lk Kt)(Hr:AQ P w K mg base Ah k Lk Kt ["trees", "one", "other"] (Bz BW))
 {B0:AD}{Bv:FuncData}(Ba:Fn K mg "refuse_no_table" DL ["thing"] B0 Bv)(Bl:AQ P w K mg base (Cb P w) k B0 Bv ["thing"] (FK AZ))
 {HC:AD}{GF:FuncData}(Ek:Fn K mg "trees_of" JN ["many"] HC GF)(Fz:AQ P w K mg base Ah k HC GF ["many"] (Bz Bm))
 {LZ:AD}{Kk:FuncData}(Fs:Fn K mg "true_weights" Hj ["trees"] LZ Kk)(Hw:AQ P w K mg base Ah k LZ Kk ["trees"] (Bz CF))
 {CN:AD}{B8:FuncData}(Bs:Fn K mg "weights_under" D9 ["table", "trees"] CN B8)(B5:AQ P w K mg base Ah k CN B8 ["table", "trees"] (Bz Ak))(BP:mg "range" = none){tk_MOST_ORDER:Tok}(HY:mg "MOST_ORDER" = some (.int 6 tk_MOST_ORDER)) :
  AQ P w K mg base (Cb P w) (k+1) f fd ["table"] (FK (CB BW AZ Bm CF Ak)):=Qz F LS fun cdv A outer s H E hr=>by
 have sc:=LS;exact(Jw (by exact Lg Ba Bl hr MA (by exact(AA (AH (pv 0)) AF)) (fun h=>CO h))
 (Sx (AY (Dk aN rfl (Gs rfl BP (AA (Ly rfl HY) AF)) (Dd (Az (i:=1) sc.nd rfl (Or.inl rfl)))
  (AY (Bd (i:=2) sc.nd rfl (Or.inl rfl) (BM Ek Fz hr rfl (AA (A7 B3 (AH (pv 1)) AM) AF)))
  (AY (Bd (i:=3) sc.nd rfl (Or.inl rfl) (BM Fl Hr hr rfl (AA (AH (pv 2)) (AA (BM Bs B5 hr rfl (AA (AH (pv 0)) (AA (AH (pv 2)) AF))) (AA (BM Fs Hw hr rfl (AA (AH (pv 2)) AF)) AF)))))
  (Ad (Fm (Cd Y6 (AH (pv 3)) Jl (Ag _))
   (Ad (Bt (Af (AA (AH (pv 1)) (AA (AH (pv 3)) AF)))))
   De)))))
 (Ad (Bt (Af (AA (Ly rfl HY) (AA Jl AF))))))))
def Nm:Aa ["tree", "parents", "bough", "number"] ["tree"] (AV GV):=CK
def KI(BB:MD):DF :=
 (Ar (Qm 1 AG)
 (Ar (Di (GZ (nm 0)) (F4 2)
  (Ar (B1 3 (A8 CT (eR 1) (fC (.int 1))))
  (Ar (W0 1 (fC (.int 0)))
  (ZR 1 (GI (Dx 1) HH (A8 CT (nm 2) (nm 1)) [none,none,some 3] (GZ (Aj BB (AB (nm 2) AG))))))))
 (SN 1)))
def BB:Nat→MD
 |0=>fun _=>none
 |n+1=>Dr ["tree"] ["tree", "parents", "bough", "number"] (KI (BB n))
def JJ{k:Nat}(B9:Fn K mg "parents_within" GV ["tree"] f fd)(BO:mg "len" = none):∀n,
  AQ P w K mg base Ah (k+n+1) f fd ["tree"] (Bz (BB n))
 |0=>FV fun _ _ _ _ ⟨_,_,_,h,_⟩=>by cases h
 |n+1=>by
  have sc:=Nm;have Dq:=JJ (k:=k) B9 BO n;refine JL (k:=k+n+1) (F:=KI (BB n)) B9 sc fun cdv A outer s H E hr=>?_;exact(AY (Mq (i:=1) sc.nd rfl (Or.inl rfl) AF)
 (AY (Dk aN rfl (Eo (AH (pv 0))) (Dd (Az (i:=2) sc.nd rfl (Or.inl rfl)))
  (AY (Bd (i:=3) sc.nd rfl (Or.inr rfl) (A7 B3 (Ym (pv 1) rfl BO) AM))
  (AY (M9 (pv 1) AM (fun ho ha=>CO (Fy aV ar au DY ho ha)))
  (Ad (Mt (pv 1) (Jb [".0", "parent", "number"] 1 [none,none,some 3] (Eo (BM B9 Dq hr rfl (AA (AH (pv 2)) AF))) (fun _ _ _ _ _=>Hm) (fun _ _ _ _ _=>(A7 B3 (AH (pv 2)) (AH (pv 1))))) (fun ho ha=>CO (Fy aV PySem.F.slot_list_extend PySem.F.type_list_extend K3 ho ha)))))))
 (Ad (QH (pv 1)))))
def JC:Aa ["tree", "parents", "change", "knot", "powers"] ["tree"] (AV Gi):=CK
def Gb(BB:MD)(Av:List PD→Option Xr):Fb :=
 (Jq (K5 Av (AB (nm 0) AG) fun _ δ=>.nx δ)
 (XO (Ar (B1 1 (Aj BB (AB (nm 0) AG)))
 (Ar (Qm 2 AG)
 (Ar (Di (EI KN (AB (A8 CT (Aj KW (AB (nm 1) AG)) (fC (.int 1))) AG)) (F4 3)
  (Ar (B1 4 (A8 CT (BJ (AB (fC (.int 0)) AG)) (GI (Dx 1) HH (lW (CJ (Et false) (nm 1) (nm 2)) (fC (.int 1)) (fC (.int 0))) [none,none,some 3] (GZ (nm 1)))))
  (W0 2 (BJ (AB (Al (AB (Aj Hn (AB (nm 4) AG)) (AB (Al (AB (fC (.int 1)) (AB (fC (.int 1)) AG))) AG))) AG)))))
 (Zl 2 (CI (Al (AB (nm 2) (AB (A8 Jz (BJ (AB (Al (AB (fC (.int 0)) (AB (fC (.int 1)) AG))) AG)) (Aj KW (AB (nm 2) AG))) AG))))))))))
def Bh(BB:MD)(Av:List PD→Option Xr):List PD→Option Xr:=GQ ["tree"] ["tree", "parents", "change", "knot", "powers"] (Gb BB Av)
def Nj{k:Nat}{BB:MD}{Av:List PD→Option Xr}(F:Fn K mg "parting_change" Gi ["tree"] f fd)
 {Jt:AD}{JA:FuncData}(B9:Fn K mg "parents_within" GV ["tree"] Jt JA)(Dq:AQ P w K mg base Ah k Jt JA ["tree"] (Bz BB))
 {Dl:AD}{DN:FuncData}(CZ:Fn K mg "refuse_no_tree" El ["thing"] Dl DN)(Cw:AQ P w K mg base (Cb P w) k Dl DN ["thing"] (FK Av))(BO:mg "len" = none)(BP:mg "range" = none)(Bj:mg "tuple" = none) :
  AQ P w K mg base (Cb P w) (k+1) f fd ["tree"] (FK (Bh BB Av)):=Qz F JC fun cdv A outer s H E hr=>by
 have sc:=JC;exact(Jw (by exact Lg CZ Cw hr MA (by exact(AA (AH (pv 0)) AF)) (fun h=>CO h))
 (Sx (AY (Bd (i:=1) sc.nd rfl (Or.inl rfl) (BM B9 Dq hr rfl (AA (AH (pv 0)) AF)))
 (AY (Mq (i:=2) sc.nd rfl (Or.inl rfl) AF)
 (AY (Dk aN rfl (Gs rfl BP (AA (A7 B3 (Gd NC rfl BO aj (AA (AH (pv 1)) AF)) AM) AF)) (Dd (Az (i:=3) sc.nd rfl (Or.inr rfl)))
  (AY (Bd (i:=4) sc.nd rfl (Or.inl rfl) (A7 B3 (Aq (AA AM AF)) (Jb [".0", "parent", "knot"] 1 [none,none,some 3] (Eo (AH (pv 1))) (fun _ _ _ _ _=>Hm) (fun _ _ _ _ _=>(ky (Cd (IC (by have:=hr.units;exact this)) (AH (pv 1)) (AH (pv 2)) (Ag _)) AM AM)))))
  (Ad (M9 (pv 2) (Aq (AA (Af (AA (MZ O0 rfl Bj bA (AA (AH (pv 4)) AF)) (AA (Af (AA AM (AA AM AF))) AF))) AF)) (fun ho ha=>CO (Fy aV ar au DY ho ha))))))
 (Ad (Xg 2 (Bt (Af (AA (AH (pv 2)) (AA (A7 J6 (Aq (AA (Af (AA AM (AA AM AF))) AF)) (Gd NC rfl BO aj (AA (AH (pv 2)) AF))) AF)))))))))))
def M6:Aa ["_law_script", "_law_k", "_law_cell_here", "_law_number"] ["_law_script", "_law_k"] (AV GB):=CK
def LF:DF :=
 (Ar (B1 2 (fC (.int 0)))
 (Ar (HK (CJ (Ig fun i j=>decide (i<j)) (nm 1) (Aj KW (AB (nm 0) AG)))
  (B1 2 (A8 O2 (nm 0) (nm 1)))
  D4)
 (Ar (HK (CJ (Ig fun i j=>decide (j≤i)) (nm 2) (A8 M4 (fC (.int 10)) (fC (.int 18))))
  (CI (A8 GY (A8 iV (nm 2) (A8 M4 (fC (.int 10)) (fC (.int 18)))) (A8 M4 (fC (.int 10)) (fC (.int 60)))))
  D4)
 (Ar (B1 3 (A8 GY (A8 CT (A8 CT (A8 Jz (nm 2) (fC (.int 48271))) (A8 Jz (nm 1) (fC (.int 69621)))) (fC (.int 11))) (fC (.int 2147483629))))
 (Ar (B1 3 (A8 GY (A8 Jz (nm 3) (nm 3)) (fC (.int 2147483587))))
 (CI (A8 CT (A8 Jz (nm 3) (fC (.int 2147483563))) (A8 GY (A8 Jz (nm 3) (nm 3)) (fC (.int 2147483563))))))))))
def CC:MD:=Dr ["_law_script", "_law_k"] ["_law_script", "_law_k", "_law_cell_here", "_law_number"] (LF)
def T1{k:Nat}(F:Fn K mg "_law_cell" GB ["_law_script", "_law_k"] f fd)(BO:mg "len" = none) :
  AQ P w K mg base Ah (k+1) f fd ["_law_script", "_law_k"] (Bz (CC)):=JL F M6 fun cdv A outer s H E hr=>by
 have sc:=M6;exact(AY (Bd (i:=2) sc.nd rfl (Or.inl rfl) AM)
 (AY (Fm (Cd WC (AH (pv 1)) (Gd NC rfl BO aj (AA (AH (pv 0)) AF)) (Ag _))
  (Ad (Bd (i:=2) sc.nd rfl (Or.inl rfl) (NL (AH (pv 0)) (AH (pv 1)) (fun _ _=>rfl))))
  De)
 (AY (Fm (Cd kE (AH (pv 2)) (A7 Qq AM AM) (Ag _))
  (Ad (Bt (A7 Dz (A7 dy (AH (pv 2)) (A7 Qq AM AM)) (A7 Qq AM AM))))
  De)
 (AY (Bd (i:=3) sc.nd rfl (Or.inl rfl) (A7 Dz (A7 B3 (A7 B3 (A7 J6 (AH (pv 2)) AM) (A7 J6 (AH (pv 1)) AM)) AM) AM))
 (AY (Bd (i:=3) sc.nd rfl (Or.inl rfl) (A7 Dz (A7 J6 (AH (pv 3)) (AH (pv 3))) AM))
 (Ad (Bt (A7 B3 (A7 J6 (AH (pv 3)) AM) (A7 Dz (A7 J6 (AH (pv 3)) (AH (pv 3))) AM)))))))))
def MS:Aa ["_law_number"] ["_law_number"] (AV Jo):=CK
def Sn:DF :=
 (Ar (HK (CJ (Et false) (A8 GY (nm 0) (fC (.int 5))) (fC (.int 0)))
  (CI (Al (AB (BJ (AB (BJ AG) AG)) (AB (BJ (AB (Al (AB (fC (.int 1)) (AB (fC (.int 1)) AG))) AG)) AG))))
  D4)
 (Ar (HK (CJ (Et false) (A8 GY (nm 0) (fC (.int 5))) (fC (.int 1)))
  (CI (Al (AB (BJ (AB (BJ AG) (AB (BJ (AB (Al (AB (fC (.int 1)) (AB (fC (.int 2)) AG))) AG)) AG))) (AB (BJ (AB (Al (AB (fC (.int 0)) (AB (fC (.int 1)) AG))) (AB (Al (AB (fC (.int 1)) (AB (fC (.int 1)) AG))) AG))) AG))))
  D4)
 (Ar (HK (CJ (Et false) (A8 GY (nm 0) (fC (.int 5))) (fC (.int 2)))
  (CI (Al (AB (BJ (AB (BJ AG) (AB (BJ (AB (Al (AB (fC (.int 1)) (AB (fC (.int 1)) AG))) AG)) AG))) (AB (BJ (AB (Al (AB (fC (.int 1)) (AB (fC (.int 2)) AG))) (AB (Al (AB (fC (.int 1)) (AB (fC (.int 2)) AG))) AG))) AG))))
  D4)
 (Ar (HK (CJ (Et false) (A8 GY (nm 0) (fC (.int 5))) (fC (.int 3)))
  (CI (Al (AB (BJ (AB (BJ AG) (AB (BJ (AB (Al (AB (fC (.int 1)) (AB (fC (.int 3)) AG))) AG)) (AB (BJ (AB (Al (AB (fC (.int 0)) (AB (fC (.int 1)) AG))) (AB (Al (AB (fC (.int 2)) (AB (fC (.int 3)) AG))) AG))) AG)))) (AB (BJ (AB (Al (AB (fC (.int 1)) (AB (fC (.int 4)) AG))) (AB (Al (AB (fC (.int 0)) (AB (fC (.int 1)) AG))) (AB (Al (AB (fC (.int 3)) (AB (fC (.int 4)) AG))) AG)))) AG))))
  D4)
 (CI (Al (AB (BJ (AB (BJ AG) (AB (BJ (AB (Al (AB (fC (.int 1)) (AB (fC (.int 2)) AG))) AG)) (AB (BJ (AB (Al (AB (fC (.int 0)) (AB (fC (.int 1)) AG))) (AB (Al (AB (fC (.int 1)) (AB (fC (.int 2)) AG))) AG))) (AB (BJ (AB (Al (AB (fC (.int 0)) (AB (fC (.int 1)) AG))) (AB (Al (AB (fC (.int 0)) (AB (fC (.int 1)) AG))) (AB (Al (AB (fC (.int 1)) (AB (fC (.int 1)) AG))) AG)))) AG))))) (AB (BJ (AB (Al (AB (fC (.int 1)) (AB (fC (.int 6)) AG))) (AB (Al (AB (fC (.int 1)) (AB (fC (.int 3)) AG))) (AB (Al (AB (fC (.int 1)) (AB (fC (.int 3)) AG))) (AB (Al (AB (fC (.int 1)) (AB (fC (.int 6)) AG))) AG))))) AG))))))))
def KC:MD:=Dr ["_law_number"] ["_law_number"] (Sn)
def Rl{k:Nat}(F:Fn K mg "_law_named" Jo ["_law_number"] f fd) :
  AQ P w K mg base Ah (k+1) f fd ["_law_number"] (Bz (KC)):=JL F MS fun cdv A outer s H E hr=>by
 have sc:=MS;exact(AY (Fm (Cd (IC (by have:=hr.units;exact this)) (A7 Dz (AH (pv 0)) AM) AM (Ag _))
  (Ad (Bt (Af (AA (Aq (AA (Aq AF) AF)) (AA (Aq (AA (Af (AA AM (AA AM AF))) AF)) AF)))))
  De)
 (AY (Fm (Cd (IC (by have:=hr.units;exact this)) (A7 Dz (AH (pv 0)) AM) AM (Ag _))
  (Ad (Bt (Af (AA (Aq (AA (Aq AF) (AA (Aq (AA (Af (AA AM (AA AM AF))) AF)) AF))) (AA (Aq (AA (Af (AA AM (AA AM AF))) (AA (Af (AA AM (AA AM AF))) AF))) AF)))))
  De)
 (AY (Fm (Cd (IC (by have:=hr.units;exact this)) (A7 Dz (AH (pv 0)) AM) AM (Ag _))
  (Ad (Bt (Af (AA (Aq (AA (Aq AF) (AA (Aq (AA (Af (AA AM (AA AM AF))) AF)) AF))) (AA (Aq (AA (Af (AA AM (AA AM AF))) (AA (Af (AA AM (AA AM AF))) AF))) AF)))))
  De)
 (AY (Fm (Cd (IC (by have:=hr.units;exact this)) (A7 Dz (AH (pv 0)) AM) AM (Ag _))
  (Ad (Bt (Af (AA (Aq (AA (Aq AF) (AA (Aq (AA (Af (AA AM (AA AM AF))) AF)) (AA (Aq (AA (Af (AA AM (AA AM AF))) (AA (Af (AA AM (AA AM AF))) AF))) AF)))) (AA (Aq (AA (Af (AA AM (AA AM AF))) (AA (Af (AA AM (AA AM AF))) (AA (Af (AA AM (AA AM AF))) AF)))) AF)))))
  De)
 (Ad (Bt (Af (AA (Aq (AA (Aq AF) (AA (Aq (AA (Af (AA AM (AA AM AF))) AF)) (AA (Aq (AA (Af (AA AM (AA AM AF))) (AA (Af (AA AM (AA AM AF))) AF))) (AA (Aq (AA (Af (AA AM (AA AM AF))) (AA (Af (AA AM (AA AM AF))) (AA (Af (AA AM (AA AM AF))) AF)))) AF))))) (AA (Aq (AA (Af (AA AM (AA AM AF))) (AA (Af (AA AM (AA AM AF))) (AA (Af (AA AM (AA AM AF))) (AA (Af (AA AM (AA AM AF))) AF))))) AF)))))))))
def UR:Aa ["_law_tree"] ["_law_tree"] (AV LA):=CK
def Nz(BI:MD):DF :=
 (CI (Aj Hn (AB (fq (Aj (Le false) (AB (GI (Dx 1) HH (Aj BI (AB (nm 1) AG)) [none,none] (GZ (nm 0))) AG)) (mz (fC (.int 1)))) AG)))
def BI:Nat→MD
 |0=>fun _=>none
 |n+1=>Dr ["_law_tree"] ["_law_tree"] (Nz (BI n))
def NJ{k:Nat}(Cf:Fn K mg "_law_kept" LA ["_law_tree"] f fd)(Co:mg "sorted" = none)(Bj:mg "tuple" = none):∀n,
  AQ P w K mg base Ah (k+n+1) f fd ["_law_tree"] (Bz (BI n))
 |0=>FV fun _ _ _ _ ⟨_,_,_,h,_⟩=>by cases h
 |n+1=>by
  have sc:=UR;have Cy:=NJ (k:=k) Cf Co Bj n;refine JL (k:=k+n+1) (F:=Nz (BI n)) Cf sc fun cdv A outer s H E hr=>?_;exact(Ad (Bt (MZ O0 rfl Bj bA (AA (gG (Gd (en (by have:=hr.units;exact this)) rfl Co PyProof.Rows.boot_sorted (AA (Jb [".0", "_law_bough"] 1 [none,none] (Eo (AH (pv 0))) (fun _ _ _ _ _=>Hm) (fun _ _ _ _ _=>(BM Cf Cy hr rfl (AA (AH (pv 1)) AF)))) AF)) (jm AM)) AF))))
def Qr:Aa ["_law_tree", "_law_found", "_law_k"] ["_law_tree"] (AV Ie):=CK
def MM(BI:MD)(Bc:MD):DF :=
 (Ar (B1 1 (BJ (AB (Aj BI (AB (A8 CT (nm 0) (Al (AB (Al AG) AG))) AG)) AG)))
 (Ar (Di (EI KN (AB (Aj KW (AB (nm 0) AG)) AG)) (F4 2)
  (B1 1 (A8 CT (nm 1) (GI (Dx 1) HH (Aj BI (AB (A8 CT (A8 CT (Wf (nm 2) SK (R9 (nm 3))) (Al (AB (nm 1) AG))) (Wf (nm 2) (R9 (A8 CT (nm 3) (fC (.int 1)))) SK)) AG)) [none,none,some 0,some 2] (GZ (Aj Bc (AB (A8 O2 (nm 0) (nm 2)) AG)))))))
 (CI (nm 1))))
def Bc(BI:MD):Nat→MD
 |0=>fun _=>none
 |n+1=>Dr ["_law_tree"] ["_law_tree", "_law_found", "_law_k"] (MM BI (Bc BI n))
def LN{k:Nat}{BI:MD}(Cu:Fn K mg "_law_longer" Ie ["_law_tree"] f fd)
 {N8:AD}{M3:FuncData}(Cf:Fn K mg "_law_kept" LA ["_law_tree"] N8 M3)(Cy:AQ P w K mg base Ah k N8 M3 ["_law_tree"] (Bz BI))(BO:mg "len" = none)(BP:mg "range" = none):∀n,
  AQ P w K mg base Ah (k+n+1) f fd ["_law_tree"] (Bz (Bc BI n))
 |0=>FV fun _ _ _ _ ⟨_,_,_,h,_⟩=>by cases h
 |n+1=>by
  have sc:=Qr;have Eu:=LN (k:=k) (BI:=BI) Cu Cf Cy BO BP n;have Cy:=Cy.mono (show k≤k+n+1 by omega);refine JL (k:=k+n+1) (F:=MM BI (Bc BI n)) Cu sc fun cdv A outer s H E hr=>?_;exact(AY (Bd (i:=1) sc.nd rfl (Or.inl rfl) (Aq (AA (BM Cf Cy hr rfl (AA (A7 B3 (AH (pv 0)) (Af (AA (Af AF) AF))) AF)) AF)))
 (AY (Dk aN rfl (Gs rfl BP (AA (Gd NC rfl BO aj (AA (AH (pv 0)) AF)) AF)) (Dd (Az (i:=2) sc.nd rfl (Or.inr rfl)))
  (Ad (Bd (i:=1) sc.nd rfl (Or.inl rfl) (A7 B3 (AH (pv 1)) (Jb [".0", "_law_more", "_law_tree", "_law_k"] 1 [none,none,some 0,some 2] (Eo (BM Cu Eu hr rfl (AA (NL (AH (pv 0)) (AH (pv 2)) (fun _ _=>rfl)) AF))) (fun _ _ _ _ _=>Hm) (fun _ _ _ _ _=>(BM Cf Cy hr rfl (AA (A7 B3 (A7 B3 (Ll (AH (pv 2)) NS (NW (AH (pv 3)))) (Af (AA (AH (pv 1)) AF))) (Ll (AH (pv 2)) (NW (A7 B3 (AH (pv 3)) AM)) NS)) AF))))))))
 (Ad (Bt (AH (pv 1))))))
def MR:Aa ["_law_most", "_law_found", "_law_row", "_law_many", "_law_wider", "_law_tree"] ["_law_most"] (AV FW):=CK
def TM(Bc:MD):DF :=
 (Ar (B1 1 (BJ AG))
 (Ar (B1 2 (BJ (AB (Al AG) AG)))
 (Ar (Di (EI KN (AB (nm 0) AG)) (F4 3)
  (Ar (B1 1 (A8 CT (nm 1) (nm 2)))
  (Ar (B1 4 (BJ AG))
  (Ar (Di (GZ (nm 2)) (F4 5)
   (B1 4 (A8 CT (nm 4) (Aj Bc (AB (nm 5) AG)))))
  (B1 2 (fun δ=>((nm 4) δ).bind L7))))))
 (CI (nm 1)))))
def Be(Bc:MD):MD:=Dr ["_law_most"] ["_law_most", "_law_found", "_law_row", "_law_many", "_law_wider", "_law_tree"] (TM Bc)
def Rj{k:Nat}{Bc:MD}(F:Fn K mg "_law_trees" FW ["_law_most"] f fd)
 {ML:AD}{LL:FuncData}(Cu:Fn K mg "_law_longer" Ie ["_law_tree"] ML LL)(Eu:AQ P w K mg base Ah k ML LL ["_law_tree"] (Bz Bc))(BP:mg "range" = none)(Ng:mg "set" = none)(Co:mg "sorted" = none) :
  AQ P w K mg base Ah (k+1) f fd ["_law_most"] (Bz (Be Bc)):=JL F MR fun cdv A outer s H E hr=>by
 have sc:=MR;exact(AY (Bd (i:=1) sc.nd rfl (Or.inl rfl) (Aq AF))
 (AY (Bd (i:=2) sc.nd rfl (Or.inl rfl) (Aq (AA (Af AF) AF)))
 (AY (Dk aN rfl (Gs rfl BP (AA (AH (pv 0)) AF)) (Dd (Az (i:=3) sc.nd rfl (Or.inl rfl)))
  (AY (Bd (i:=1) sc.nd rfl (Or.inl rfl) (A7 B3 (AH (pv 1)) (AH (pv 2))))
  (AY (Bd (i:=4) sc.nd rfl (Or.inl rfl) (Aq AF))
  (AY (Dk aN rfl (Eo (AH (pv 2))) (Dd (Az (i:=5) sc.nd rfl (Or.inl rfl)))
   (Ad (Bd (i:=4) sc.nd rfl (Or.inl rfl) (A7 B3 (AH (pv 4)) (BM Cu Eu hr rfl (AA (AH (pv 5)) AF))))))
  (Ad (Bd (i:=2) sc.nd rfl (Or.inl rfl) (PJ rfl (by have:=hr.units;exact this) rfl Co rfl Ng (AH (pv 4)))))))))
 (Ad (Bt (AH (pv 1)))))))
def MO:Aa ["_law_which", "_law_table_here", "_law_tree", "_law_most", "_law_kept_here", "e", "_law_kinds_here"] ["_law_which", "_law_table_here", "_law_tree", "_law_most"] (AV G8):=CK
def J5(Bh:List PD→Option Xr)(CB:List PD→Option Xr)(Bi:List PD→Option Xr)(Bx:List PD→Option Xr)(kt_NoTable:AD→Option Bool)(kt_NoTree:AD→Option Bool)(kt_TooMany:AD→Option Bool)(kt_ValueError:AD→Option Bool):DF :=
 (Ar (B1 4 (fC .none))
 (Ar (R8 5
  (EN (MJ (CJ (Et false) (nm 0) (fC (.int 0)))
  (EN (EL Bx (AB (nm 1) (AB (nm 2) AG)))
   EW)
  EW)
  (EN (MJ (CJ (Et false) (nm 0) (fC (.int 1)))
  (EN (EL Bi (AB (nm 1) (AB (nm 3) AG)))
   EW)
  EW)
  (EN (MJ (CJ (Et false) (nm 0) (fC (.int 2)))
  (EN (EL CB (AB (nm 1) AG))
   EW)
  EW)
  (EN (MJ (CJ (Et false) (nm 0) (fC (.int 3)))
  (EN (EL Bh (AB (nm 2) AG))
   EW)
  EW)
  EW))))
  (B1 4 (nm 5)))
 (Ar (HK (CJ (RN false) (nm 4) (fC .none))
  (CI (BJ AG))
  D4)
 (Ar (B1 6 (BJ (AB (QI kt_NoTable (nm 4)) (AB (QI kt_NoTree (nm 4)) (AB (QI kt_TooMany (nm 4)) AG)))))
 (CI (A8 CT (nm 6) (BJ (AB (QI kt_ValueError (nm 4)) AG))))))))
def Cn(Bh:List PD→Option Xr)(CB:List PD→Option Xr)(Bi:List PD→Option Xr)(Bx:List PD→Option Xr)(kt_NoTable:AD→Option Bool)(kt_NoTree:AD→Option Bool)(kt_TooMany:AD→Option Bool)(kt_ValueError:AD→Option Bool):MD:=Dr ["_law_which", "_law_table_here", "_law_tree", "_law_most"] ["_law_which", "_law_table_here", "_law_tree", "_law_most", "_law_kept_here", "e", "_law_kinds_here"] (J5 Bh CB Bi Bx kt_NoTable kt_NoTree kt_TooMany kt_ValueError)
def Rr{k:Nat}{Bh:List PD→Option Xr}{CB:List PD→Option Xr}{Bi:List PD→Option Xr}{Bx:List PD→Option Xr}{C_GroveError:AD}{C_NoTable:AD}{C_NoTree:AD}{C_TooMany:AD}{kt_NoTable:AD→Option Bool}{kt_NoTree:AD→Option Bool}{kt_TooMany:AD→Option Bool}{kt_ValueError:AD→Option Bool}(F:Fn K mg "_law_kinds" G8 ["_law_which", "_law_table_here", "_law_tree", "_law_most"] f fd)
 {Jr:AD}{JI:FuncData}(Ei:Fn K mg "parting_change" Gi ["tree"] Jr JI)(GX:AQ P w K mg base (Cb P w) k Jr JI ["tree"] (FK Bh))
 {MQ:AD}{LQ:FuncData}(GG:Fn K mg "table_order" Iu ["table"] MQ LQ)(Im:AQ P w K mg base (Cb P w) k MQ LQ ["table"] (FK CB))
 {KS:AD}{JK:FuncData}(Eh:Fn K mg "table_weighing" GR ["table", "most"] KS JK)(GU:AQ P w K mg base (Cb P w) k KS JK ["table", "most"] (FK Bi))
 {LM:AD}{Kv:FuncData}(Fo:Fn K mg "table_weight" Hs ["table", "tree"] LM Kv)(Ho:AQ P w K mg base (Cb P w) k LM Kv ["table", "tree"] (FK Bx))(Kb:mg "ValueError" = none)(Ai:mg "isinstance" = none)(J0:mg "GroveError" = some (.ref C_GroveError))(Kr:mg "NoTable" = some (.ref C_NoTable))(L5:mg "NoTree" = some (.ref C_NoTree))(Mg:mg "TooMany" = some (.ref C_TooMany))(kh_NoTable:∀C b,kt_NoTable C=some b→Fj K C∧PySem.W.kitOne K (.ref C) (F8 (.ref C_NoTable))=some b)(kh_NoTree:∀C b,kt_NoTree C=some b→Fj K C∧PySem.W.kitOne K (.ref C) (F8 (.ref C_NoTree))=some b)(kh_TooMany:∀C b,kt_TooMany C=some b→Fj K C∧PySem.W.kitOne K (.ref C) (F8 (.ref C_TooMany))=some b)(kh_ValueError:∀C b,kt_ValueError C=some b→Fj K C∧PySem.W.kitOne K (.ref C) (F8 (.ty "ValueError"))=some b)(hB_parting_change_GroveError:∀ds C,Bh ds=some (.inr C)→ER K C C_GroveError true)(hB_table_order_GroveError:∀ds C,CB ds=some (.inr C)→ER K C C_GroveError true)(hB_table_weighing_GroveError:∀ds C,Bi ds=some (.inr C)→ER K C C_GroveError true)(hB_table_weight_GroveError:∀ds C,Bx ds=some (.inr C)→ER K C C_GroveError true) :
  AQ P w K mg base Ah (k+1) f fd ["_law_which", "_law_table_here", "_law_tree", "_law_most"] (Bz (Cn Bh CB Bi Bx kt_NoTable kt_NoTree kt_TooMany kt_ValueError)):=JL F MO fun cdv A outer s H E hr=>by
 have sc:=MO;exact(AY (Bd (i:=4) sc.nd rfl (Or.inl rfl) Jl)
 (AY (fK (k:=5) (Gm (SA (Cd (IC (by have:=hr.units;exact this)) (AH (pv 0)) AM (Ag _)) (Gm (NY Fo Ho hr (by exact(AA (AH (pv 1)) (AA (AH (pv 2)) AF))))
   HB) HB)
  (Gm (SA (Cd (IC (by have:=hr.units;exact this)) (AH (pv 0)) AM (Ag _)) (Gm (NY Eh GU hr (by exact(AA (AH (pv 1)) (AA (AH (pv 3)) AF))))
   HB) HB)
  (Gm (SA (Cd (IC (by have:=hr.units;exact this)) (AH (pv 0)) AM (Ag _)) (Gm (NY GG Im hr (by exact(AA (AH (pv 1)) AF)))
   HB) HB)
  (Gm (SA (Cd (IC (by have:=hr.units;exact this)) (AH (pv 0)) AM (Ag _)) (Gm (NY Ei GX hr (by exact(AA (AH (pv 2)) AF)))
   HB) HB)
  HB)))) sc.nd (BS.at (P:=fun C=>ER K C C_GroveError true) (BS.seq (BS.if (BS.seq (BS.call hB_table_weight_GroveError) BS.nil) BS.nil) (BS.seq (BS.if (BS.seq (BS.call hB_table_weighing_GroveError) BS.nil) BS.nil) (BS.seq (BS.if (BS.seq (BS.call hB_table_order_GroveError) BS.nil) BS.nil) (BS.seq (BS.if (BS.seq (BS.call hB_parting_change_GroveError) BS.nil) BS.nil) BS.nil))))) J0 (fun ea=>(Ad (Bd (i:=4) sc.nd rfl (Or.inl rfl) (AH (pv 5))))))
 (AY (Fm (Cd lL (AH (pv 4)) Jl (Ag _))
  (Ad (Bt (Aq AF)))
  De)
 (AY (Bd (i:=6) sc.nd rfl (Or.inl rfl) (Aq (AA (Pd kh_NoTable (fun z=>nomatch z) rfl Ai (LX (v:=.ref C_NoTable) rfl Kr rfl) (AH (pv 4))) (AA (Pd kh_NoTree (fun z=>nomatch z) rfl Ai (LX (v:=.ref C_NoTree) rfl L5 rfl) (AH (pv 4))) (AA (Pd kh_TooMany (fun z=>nomatch z) rfl Ai (LX (v:=.ref C_TooMany) rfl Mg rfl) (AH (pv 4))) AF)))))
 (Ad (Bt (A7 B3 (AH (pv 6)) (Aq (AA (Pd kh_ValueError (fun z=>nomatch z) rfl Ai (Gu (v:=.ty "ValueError") rfl Kb PyProof.Rows.Boot.«ValueError» rfl) (AH (pv 4))) AF)))))))))
def Jh:Aa ["_law_cell_here", "_law_trees_here", "_law_tree", "_law_some"] ["_law_cell_here"] (AV FP):=CK
def Kh(Be:MD):DF :=
 (Ar (B1 1 (Aj Be (AB (fC (.int 5)) AG)))
 (Ar (B1 2 (A8 O2 (nm 1) (A8 GY (A8 Zy (nm 0) (fC (.int 8))) (Aj KW (AB (nm 1) AG)))))
 (Ar (B1 3 (BJ (AB (Al (AB (Al AG) (AB (Al (AB (nm 2) (AB (Al AG) AG))) AG))) (AB (Al (AB (Al AG) (AB (A8 CT (nm 2) (Al (AB (Al AG) AG))) AG))) (AB (BJ (AB (nm 2) AG)) (AB (Al (AB (nm 2) (AB (BJ AG) AG))) (AB (Al (AB (nm 2) (AB (fC (.int 0)) AG))) AG)))))))
 (CI (A8 O2 (A8 CT (nm 3) (BJ (AB (Al (AB (fC .none) AG)) (AB (fC .none) (AB (fC (.str (Str.ofString "()"))) AG))))) (A8 GY (nm 0) (fC (.int 8))))))))
def Cj(Be:MD):MD:=Dr ["_law_cell_here"] ["_law_cell_here", "_law_trees_here", "_law_tree", "_law_some"] (Kh Be)
def Oa{k:Nat}{Be:MD}(F:Fn K mg "_law_bad_tree" FP ["_law_cell_here"] f fd)
 {Fd:AD}{Ep:FuncData}(Ci:Fn K mg "_law_trees" FW ["_law_most"] Fd Ep)(C9:AQ P w K mg base Ah k Fd Ep ["_law_most"] (Bz Be))(BO:mg "len" = none) :
  AQ P w K mg base Ah (k+1) f fd ["_law_cell_here"] (Bz (Cj Be)):=JL F Jh fun cdv A outer s H E hr=>by
 have sc:=Jh;exact(AY (Bd (i:=1) sc.nd rfl (Or.inl rfl) (BM Ci C9 hr rfl (AA AM AF)))
 (AY (Bd (i:=2) sc.nd rfl (Or.inl rfl) (NL (AH (pv 1)) (A7 Dz (A7 eZ (AH (pv 0)) AM) (Gd NC rfl BO aj (AA (AH (pv 1)) AF))) (fun _ _=>rfl)))
 (AY (Bd (i:=3) sc.nd rfl (Or.inl rfl) (Aq (AA (Af (AA (Af AF) (AA (Af (AA (AH (pv 2)) (AA (Af AF) AF))) AF))) (AA (Af (AA (Af AF) (AA (A7 B3 (AH (pv 2)) (Af (AA (Af AF) AF))) AF))) (AA (Aq (AA (AH (pv 2)) AF)) (AA (Af (AA (AH (pv 2)) (AA (Aq AF) AF))) (AA (Af (AA (AH (pv 2)) (AA AM AF))) AF)))))))
 (Ad (Bt (NL (A7 B3 (AH (pv 3)) (Aq (AA (Af (AA Jl AF)) (AA Jl (AA Si AF))))) (A7 Dz (AH (pv 0)) AM) (fun _ _=>rfl)))))))
end
mutual
def P0{H:Hp}:∀ {d:PD} {v:V},d.canLay0=true→Du H d v→DU H d v
 |.none,_,_,h=>by rw[Du]at h;subst h;exact .BF
 |.bool _,_,_,h=>by rw[Du]at h;subst h;exact .bool
 |.int _,_,_,h=>by rw[Du]at h;subst h;exact .int
 |.str _,_,_,h=>by rw[Du]at h;subst h;exact .str
 |.tuple _,_,c,h=>by
  rw[Du]at h;obtain⟨a,xs,rfl,h1,h2⟩:=h;exact .tup h1 (Ql (by simpa only[PyData.canLay0]using c) h2)
 |.list _,_,c,h=>by
  rw[Du]at h;obtain⟨a,xs,rfl,h1,h2⟩:=h;exact .lst h1 (Ql (by simpa only[PyData.canLay0]using c) h2)
 |.dict _,_,c,h=>by simp[PyData.canLay0]at c
def Ql{H:Hp}:∀ {ds:List PD} {xs:List V},PyData.canLayAll0 ds=true→An H ds xs→BK H ds xs
 |[],_,_,h=>by rw[h.nil_eq];exact .nil
 |_::_,_,c,h=>by
  obtain⟨x,r,rfl,h1,h2⟩:=h.un;simp only[PyData.canLayAll0,Bool.and_eq_true]at c;exact .cons (P0 c.1 h1) (Ql c.2 h2)
end
mutual
def cN{l:AD}{H:Hp}:∀ {d:PD} {v:V},Dt l H d v→Du H d v
 |.none,_,h=>by rw[Dt]at h;rw[Du];exact h
 |.bool _,_,h=>by rw[Dt]at h;rw[Du];exact h
 |.int _,_,h=>by rw[Dt]at h;rw[Du];exact h
 |.str _,_,h=>by rw[Dt]at h;rw[Du];exact h
 |.tuple _,_,h=>by
  rw[Dt]at h;rw[Du];obtain⟨a,xs,rfl,n,h1,h2⟩:=h;exact⟨a,xs,rfl,h1,Qb h2⟩
 |.list _,_,h=>by
  rw[Dt]at h;rw[Du];obtain⟨a,xs,rfl,n,h1,h2⟩:=h;exact⟨a,xs,rfl,h1,Qb h2⟩
 |.dict _,_,h=>by rw[Dt]at h;exact h.elim
def Qb{l:AD}{H:Hp}:∀ {ds:List PD} {xs:List V},AW l H ds xs→An H ds xs
 |[],_,h=>by rw[AW]at h;subst h;exact .nil
 |_::_,_,h=>by
  rw[AW]at h;obtain⟨x,r,rfl,h1,h2⟩:=h;exact .cons (cN h1) (Qb h2)
end
def DU.du{H:Hp}{d:PD}{v:V}(h:DU H d v):Du H d v:=let⟨N,k⟩:=h;cN (k N (aG _))
def TV{G:Hp}:∀ps:List Int,An G (ps.map .int) (ps.map V.int)
 |[]=>.nil
 |p::ps=>.cons (by rw[Du]) (TV ps)
section
variable{P:Program}{w:World}{K:Fg}{mg:Str→Option VL}{base:Heap}{CX:HZ}{k:Nat}{f:AD}{fd:FuncData}{ps:List Str}
def mB(q:PD→Bool):MD
 |[d]=>if d.canLay0=true then some (.bool (q d)) else none
 |_=>none
def kn{q:PD→Bool}{d:PD}(h:d.canLay0=true):mB q [d]=some (.bool (q d)):=if_pos h
def jv{q:PD→Bool}{d:PD}{b:Bool}(h:d.canLay0=true)(e:q d=b):mB q [d]=some (.bool b):=(kn h).trans (by rw[e])
def oJ{sp:Sp}{q:PD→Bool}(F:AQ P w K mg base CX k f fd ps sp)(h:∀(l:AD) d v H Q E,Dt l H d v→(∀H',AK H H'→Q (.bl (q d)) H')→sp [v] H Q E):AQ P w K mg base CX k f fd ps (Bz (mB q)) :=
 QQ F fun ds x hm G H vs Q E d e kk=>by
  unfold mB at hm;split at hm
  ·split at hm
   ·rename_i dd hc;cases hm;obtain⟨v,rfl,d1⟩:=d.IP;obtain⟨N,b⟩:=P0 hc (d1.same e);exact h N _ v H Q E (b N (aG _)) fun H' e'=>kk _ G H' (.refl _) Nw.refl (e.trans e') e' (by rw[Du])
   ·cases hm
  ·cases hm
end
def T7:∀ps:List Int,PyData.canLayAll0 (ps.map .int)=true
 |[]=>by simp[PyData.canLayAll0]
 |p::ps=>by rw[List.map_cons];simp only[PyData.canLayAll0,PyData.canLay0];rw[T7 ps];rfl
def RY{ds:List PD}(h:∀d∈ds,d.canLay0=true):PyData.canLayAll0 ds=true:=by
 induction ds with
 |nil=>simp[PyData.canLayAll0]
 |cons d ds ih=>simp only[PyData.canLayAll0];rw[h d (.head _),ih fun e he=>h e (.tail _ he)];rfl
def Ft{ds:List PD}(h:∀d∈ds,d.canLay0=true):(PyData.list ds).canLay0=true:=by simp only[PyData.canLay0];exact RY h
def P9{ds:List PD}(h:∀d∈ds,d.canLay0=true):(PyData.tuple ds).canLay0=true:=by simp only[PyData.canLay0];exact RY h
def We:PD→Rat
 |.tuple [.int a,.int b]=>Rat.divInt a b
 |_=>0
def b7(r:Rat):We (BH r)=r:=FM.Uq r
def Qp(r:Rat):(BH r).canLay0=true:=by unfold BH;simp only[PyData.canLay0];exact T7 [r.num,(r.den:Int)]
def ZY{n:Nat}{ds:List PD}(h:∀d∈ds,Ok n d):GK n ds:=by
 induction ds with
 |nil=>exact⟨by simp[PyData.canLayAll0],by simp[PyData.depthAll]⟩
 |cons d ds ih =>
  obtain⟨a,b⟩:=h d (.head _);obtain⟨a',b'⟩:=ih fun e he=>h e (.tail _ he);exact⟨by simp only[PyData.canLayAll0];rw[a,a'];rfl,by simp only[PyData.depthAll];omega⟩
def nA{n:Nat}{ds:List PD}(h:∀d∈ds,Ok n d):Ok (n+1) (.tuple ds):=.tup (ZY h)
def XW(r:Rat):Ok 1 (BH r):=nA (n:=0) fun d hd=>by
 rcases aJ.mp hd with rfl|hd
 ·exact .int
 ·rw[List.mem_singleton.mp hd];exact .int
def div_is{i j:Int}(h:0<j)(h2:j.natAbs<2^64):Zy (.int i) (.int j)=some (.int (i / j)):=by
 refine(if_pos ⟨by omega,Yj (aM h2 (bP (by decide) (by decide)))⟩).trans ?_;rw[Int.fdiv_eq_ediv_of_nonneg _ (by omega)]
def Ja:∀ts:List Tr,L2.Bn (Tr.of ts)=ts.map fun t=>.tuple (L2.Bn t)
 |[]=>rfl
 |t::ts=>by rw[List.map_cons,←Ja ts];rfl
def eO(ns:List Int)(k:Nat):∃c,CC [E9 ns,.int (k:Nat)]=some (.int c):=by
 suffices hh:∃c,LF [.d (E9 ns),.d (.int (k:Nat)),.no,.no]=some (.rt (.int c)) by
  obtain⟨c,h⟩:=hh;exact⟨c,E1 rfl h⟩
 unfold LF;have e1:∃c0,(HK (CJ (Ig fun i j=>decide (i<j)) (nm 1) (Aj KW (AB (nm 0) AG))) (B1 2 (A8 O2 (nm 0) (nm 1))) D4) [.d (E9 ns),.d (.int (k:Nat)),.d (.int 0),.no]=some (.nx [.d (E9 ns),.d (.int (k:Nat)),.d (.int c0),.no]):=by
  have t:CJ (Ig fun i j=>decide (i<j)) (nm 1) (Aj KW (AB (nm 0) AG)) [.d (E9 ns),.d (.int (k:Nat)),.d (.int 0),.no]=some (decide ((k:Int)<((ns.map PyData.int).length:Nat))):=Gn (x:=.int (k:Nat)) (y:=.int ((ns.map PyData.int).length:Nat)) rfl rfl rfl;rw[List.length_map]at t;by_cases z:k<ns.length
  ·rw[decide_eq_true (show(k:Int)<(ns.length:Nat) by omega)]at t;exact⟨ns[k],JP t (Df (Bf (x:=E9 ns) (y:=.int (k:Nat)) rfl rfl (EX (by rw[List.getElem?_map,List.getElem?_eq_getElem z];rfl))))⟩
  ·rw[decide_eq_false (show ¬(k:Int)<(ns.length:Nat) by omega)]at t;exact⟨0,Ds t rfl⟩
 obtain⟨c0,e1⟩:=e1;have p18:A8 M4 (fC (.int 10)) (fC (.int 18)) [.d (E9 ns),.d (.int (k:Nat)),.d (.int c0),.no]=some (.int ((10:Int)^18)):=Bf (x:=.int 10) (y:=.int 18) rfl rfl (Y0 (n:=18) (by decide) (by decide));have p60:A8 M4 (fC (.int 10)) (fC (.int 60)) [.d (E9 ns),.d (.int (k:Nat)),.d (.int c0),.no]=some (.int ((10:Int)^60)):=Bf (x:=.int 10) (y:=.int 60) rfl rfl (Y0 (n:=60) (by decide) (by decide));have t2:CJ (Ig fun i j=>decide (j≤i)) (nm 2) (A8 M4 (fC (.int 10)) (fC (.int 18))) [.d (E9 ns),.d (.int (k:Nat)),.d (.int c0),.no]=some (decide ((10:Int)^18≤c0)):=Gn (x:=.int c0) (y:=.int ((10:Int)^18)) rfl p18 rfl;by_cases z:(10:Int)^18≤c0
 ·rw[decide_eq_true z]at t2;exact⟨_,A0 rfl (A0 e1 (G7 (JP t2 (Jf (Bf (x:=.int (c0-(10:Int)^18)) (Bf (x:=.int c0) rfl p18 rfl) p60 (mod_is (Int.pow_pos (by decide))))))))⟩
 ·rw[decide_eq_false z]at t2;have hn:∀(a:Int) (m:Int),0<m→m<2^60→(a % m).natAbs<2^64:=fun a m h0 h1=>by
   have:=Int.emod_nonneg a (by omega:m≠0);have:=Int.emod_lt_of_pos a h0;omega
  generalize hv:(c0*48271+(k:Int)*69621+11) % 2147483629=v;have v1:v.natAbs<2^64:=by rw[←hv];exact hn _ _ (by decide) (by decide)
  generalize hu:v*v % 2147483587=u;have u1:u.natAbs<2^64:=by rw[←hu];exact hn _ _ (by decide) (by decide)
  refine⟨_,A0 rfl (A0 e1 (A0 (Ds t2 rfl) (A0 (Df (y:=.int v) ?_) (A0 (Df (y:=.int u) ?_) (Jf (Bf (x:=.int (u*2147483563)) (y:=.int (u*u % 2147483563)) (Bf (x:=.int u) (y:=.int 2147483563) rfl rfl (mul_r (by decide))) (Bf (x:=.int (u*u)) (y:=.int 2147483563) (Bf (x:=.int u) (y:=.int u) rfl rfl (mul_r u1)) rfl (mod_is (by decide))) rfl))))))⟩
  ·refine Bf (x:=.int (c0*48271+(k:Int)*69621+11)) (y:=.int 2147483629) (Bf (x:=.int (c0*48271+(k:Int)*69621)) (y:=.int 11) (Bf (x:=.int (c0*48271)) (y:=.int ((k:Int)*69621)) (Bf (x:=.int c0) (y:=.int 48271) rfl rfl (mul_r (by decide))) (Bf (x:=.int (k:Nat)) (y:=.int 69621) rfl rfl (mul_r (by decide))) rfl) rfl rfl) rfl ((mod_is (by decide)).trans ?_);rw[hv]
  ·refine Bf (x:=.int (v*v)) (y:=.int 2147483587) (Bf (x:=.int v) (y:=.int v) rfl rfl (mul_r v1)) rfl ((mod_is (by decide)).trans ?_);rw[hu]
abbrev tD(t:Tr):PD:=.tuple (L2.Bn t)
def U1(r:Rat):Prop:=FM.Fits r 3∧r.den≤6
def Tb.Sm(t:Tb):Prop:=(∀r∈t.rs,∀q∈r,U1 q)∧∀q∈t.ls,U1 q
def Nt(n:Int):Rat:=Rat.divInt (n % 13-6) (1+n / 13 % 6)
def TY(n:Int):U1 (Nt n):=by
 refine⟨.jh (by omega) (by omega) (by omega),?_⟩;have:=FM.Xm (t:=n % 13-6) (b:=1+n / 13 % 6) (by omega);unfold Nt;omega
def EK(ns:List Int)(k:Nat):Int:=match CC [E9 ns,.int (k:Nat)]with|some (.int c)=>c|_=>0
def S6(ns:List Int)(k:Nat):CC [E9 ns,.int (k:Nat)]=some (.int (EK ns k)):=by
 obtain⟨c,h⟩:=eO ns k;unfold EK;rw[h]
def gr:Sp:=fun vs H Q _=>∃(a:AD) (ns:List Int) (k:Nat),vs=[.ref a,.int (k:Int)]∧Rd H a (.lst (ns.map V.int))∧∀H',AK H H'→Q (.int (EK ns k)) H'
def gf:Sp:=fun vs H Q _=>∃n:Int,vs=[.int n]∧∀(l:AD) H',AK H H'→H' l=some (.tup (Jk (Nt n)))→Q (.ref l) H'
def YJ(H H':Hp)(v:V):Prop:=∃(p R L:AD) (xs:List V),v=.ref p∧H' p=some (.tup [.ref R,.ref L])∧H' R=some (.lst xs)∧H R=none∧H L=none∧∀b,V.ref b∈xs→H b=none
def q0:Rat:=⟨0,1,by decide,by decide⟩
def q1:Rat:=⟨1,1,by decide,by decide⟩
def Xz:Rat:=⟨1,2,by decide,by decide⟩
def jB:Rat:=⟨1,3,by decide,by decide⟩
def oD:Rat:=⟨2,3,by decide,by decide⟩
def oP:Rat:=⟨1,4,by decide,by decide⟩
def oH:Rat:=⟨3,4,by decide,by decide⟩
def mF:Rat:=⟨1,6,by decide,by decide⟩
def jz:Tb:=⟨[[]],[q1]⟩
def lj:Tb:=⟨[[],[Xz]],[q0,q1]⟩
def mC:Tb:=⟨[[],[q1]],[Xz,Xz]⟩
def lh:Tb:=⟨[[],[jB],[q0,oD]],[oP,q0,oH]⟩
def lu:Tb:=⟨[[],[Xz],[q0,Xz],[q0,q0,q1]],[mF,jB,jB,mF]⟩
instance (r:Rat):Decidable (U1 r):=inferInstanceAs (Decidable ((r.num.natAbs<2^3∧r.den<2^3)∧r.den≤6))
def Y5(t:Tb):Bool:=decide (1≤t.rs.length)&&decide (t.rs.length≤4)&&decide (t.ls.length=t.rs.length)&&(List.range 4).all (fun i=>match t.rs[i]? with|some r=>decide (r.length=i)|none=>true)&&t.rs.all (fun r=>r.all fun q=>decide (U1 q))&&t.ls.all fun q=>decide (U1 q)
def Qs{t:Tb}(h:Y5 t=true):t.Ok 4∧t.Sm:=by
 unfold Y5 at h;simp only[Bool.and_eq_true,decide_eq_true_eq,List.all_eq_true,List.mem_range]at h;obtain⟨⟨⟨⟨⟨h1,h2⟩,h3⟩,h4⟩,h5⟩,h6⟩:=h;refine⟨⟨h1,h2,h3,fun i r hr=>?_⟩,h5,h6⟩;have:=h4 i (by have:=(aC.mp hr).1;omega);rw[hr]at this
 simpa using this
def GA(n:Int):Tb:=if n % 5=0 then jz else if n % 5=1 then lj else if n % 5=2 then mC else if n % 5=3 then lh else lu
def jY:Sp:=fun vs H Q _=>∃(n:Int),vs=[.int n]∧∀v H',AK H H'→DU H' (BX (GA n)) v→YJ H H' v→Q v H'
def Io(n:Int):Nat→Int
 |0=>n
 |j+1=>Io n j / 78
def Qo(n:Int):Nat→Int
 |0=>n
 |i+1=>Io (Qo n i) i
def X8(n:Int)(i:Nat):List Rat:=(List.range i).map fun j=>Nt (Io (Qo n i) j)
def S7(x0 x1:Int)(most:Nat):Tb :=
 if x0 % 4=0 then
  (if(GA (x0 / 4)).rs.length > most then jz
   else if x0 / 20 % 3=0 then⟨(GA (x0 / 4)).rs,(GA (x0 / 4)).ls.set ((x0 / 60).fmod ((GA (x0 / 4)).ls.length:Nat)).toNat (Nt x1)⟩ else GA (x0 / 4))
 else⟨(List.range (1+(x0 / 4).fmod (most:Nat)).toNat).map (X8 (x0 / 16)),(List.range (1+(x0 / 4).fmod (most:Nat)).toNat).map fun i=>Nt (Io x1 i)⟩
def ia:Sp:=fun vs H Q _=>∃(a:AD) (ns:List Int) (k most:Nat),vs=[.ref a,.int (k:Int),.int (most:Int)]∧Rd H a (.lst (ns.map V.int))∧1≤most∧most≤4∧∀v H',AK H H'→DU H' (BX (S7 (EK ns k) (EK ns (k+1)) most)) v→YJ H H' v→Q v H'
def QX{H H':Hp}{a:AD}{u:HO}(h:Rd H a u)(e:AK H H'):Rd H' a u:=h.elim (fun z=>.inl (e _ _ z)) fun⟨o,z⟩=>.inr ⟨o,e _ _ z⟩
section
variable{P:Program}{w:World}{K:Fg}{mg:Str→Option VL}{base:Heap}{f g g1 g2 g3:AD}{fd gd gd1 gd2 gd3:FuncData}
def Rm:Aa ["_law_number"] ["_law_number"] (AV Jy):=CK
def Rn(F:Fn K mg "_law_entry" Jy ["_law_number"] f fd)(ID:Fn K mg "_law_frac" LH ["_law_top", "_law_bottom"] g1 gd1)(UZ:AQ P w K mg base Ah 1 g1 gd1 ["_law_top", "_law_bottom"] Vx):AQ P w K mg base Ah 2 f fd ["_law_number"] gf:=by
 have sc:=Rm;refine F.F.ok (k:=1) sc (fun vs H Q E h=>?_) (fun cdv A outer s H vs Q E hr h=>?_)
 ·obtain⟨n,rfl,_⟩:=h
  rfl
 obtain⟨n,rfl,q⟩:=h;refine⟨_,(AX (A3 (Bp ID UZ hr rfl (AE (Ax Ms (Ax HW (pv 0) AR) AR) (AE (Ax Mv AR (Ax HW (Ax DJ (pv 0) AR) AR)) AL))))),?_⟩;refine⟨_,rfl,_,_,rfl,rfl,(by show(0:Int)<13;decide),_,_,rfl,rfl,_,rfl,_,_,rfl,rfl,⟨by decide,by decide⟩,_,_,rfl,rfl,(by show(0:Int)<6;decide),_,_,rfl,rfl,?_⟩;exact⟨n % 13-6,1+n / 13 % 6,3,rfl,by omega,by decide,by omega,fun l H5 e5 hl=>q l H5 e5 hl⟩
end
def Z3(n:Int):KC [.int n]=some (BX (GA n)):=by
 have c:∀(k:Int) (b:Bool),decide (n % 5=k)=b→CJ (Et false) (A8 GY (nm 0) (fC (.int 5))) (fC (.int k)) [.d (.int n)]=some b:=fun k b h=>Gn (Bf rfl rfl (mod_is (by decide))) rfl (by
  show some (PyData.bool _)=_;rw[←h]
  rfl)
 have r:=Int.emod_nonneg n (show(5:Int)≠0 by decide);by_cases h0:n % 5=0
 ·rw[show GA n=jz by unfold GA;simp[h0]];exact E1 rfl (G7 (JP (c 0 true (by simp[h0])) rfl))
 by_cases h1:n % 5=1
 ·rw[show GA n=lj by unfold GA;simp[h0,h1]];exact E1 rfl (A0 (Ds (c 0 false (by simp[h0])) rfl) (G7 (JP (c 1 true (by simp[h1])) rfl)))
 by_cases h2:n % 5=2
 ·rw[show GA n=mC by unfold GA;simp[h0,h1,h2]];exact E1 rfl (A0 (Ds (c 0 false (by simp[h0])) rfl) (A0 (Ds (c 1 false (by simp[h1])) rfl) (G7 (JP (c 2 true (by simp[h2])) rfl))))
 by_cases h3:n % 5=3
 ·rw[show GA n=lh by unfold GA;simp[h0,h1,h2,h3]];exact E1 rfl (A0 (Ds (c 0 false (by simp[h0])) rfl) (A0 (Ds (c 1 false (by simp[h1])) rfl) (A0 (Ds (c 2 false (by simp[h2])) rfl) (G7 (JP (c 3 true (by simp[h3])) rfl)))))
 ·rw[show GA n=lu by unfold GA;simp[h0,h1,h2,h3]];exact E1 rfl (A0 (Ds (c 0 false (by simp[h0])) rfl) (A0 (Ds (c 1 false (by simp[h1])) rfl) (A0 (Ds (c 2 false (by simp[h2])) rfl) (A0 (Ds (c 3 false (by simp[h3])) rfl) rfl))))
def XT(n:Int):Y5 (GA n)=true:=by
 unfold GA;split
 ·decide +kernel
 ·split
  ·decide +kernel
  ·split
   ·decide +kernel
   ·split
    ·decide +kernel
    ·decide +kernel
def Qh(t:Tb):(BX t).canLay0=true:=by
 have f:∀r:List Rat,PyData.canLayAll0 (Ae r)=true:=fun r=>by
  induction r with
  |nil=>rfl
  |cons q r ih=>show PyData.canLayAll0 (BH q::Ae r)=true;simp[PyData.canLayAll0,ih,BH,PyData.canLay0]
 have g:∀rs:List (List Rat),PyData.canLayAll0 (BR rs)=true:=fun rs=>by
  induction rs with
  |nil=>rfl
  |cons r rs ih=>show PyData.canLayAll0 (Bn r::BR rs)=true;simp[PyData.canLayAll0,ih,Bn,PyData.canLay0,f]
 simp[BX,PyData.canLay0,PyData.canLayAll0,f,g]
def UK{G H:Hp}(n:∀a xs,G a=some (.lst xs)→H a=none):∀ {rs:List (List Rat)} {xs:List V},An G (BR rs) xs→∀b,V.ref b∈xs→H b=none
 |[],xs,h,b,hb=>by
  have:=h.len;have e:xs=[]:=bM (by simpa[BR]using this);rw[e]at hb;cases hb
 |r::rs,xs,h,b,hb=>by
  obtain⟨x,t,rfl,h1,h2⟩:=An.un (d:=Bn r) (ds:=BR rs) h;rw[Bn,Du]at h1;obtain⟨a,ys,rfl,h3,_⟩:=h1;rcases aJ.mp hb with e|hb
  ·cases e;exact n _ _ h3
  ·exact UK n h2 b hb
def Zg{P:Program}{w:World}{K:Fg}{mg:Str→Option VL}{base:Heap}{f:AD}{fd:FuncData}{k:Nat}{ps:List Str}(F:AQ P w K mg base Ah k f fd ps (Bz KC)):AQ P w K mg base Ah k f fd ps jY :=
 F.imp fun vs H Q E z=>by
  obtain⟨n,rfl,q⟩:=z;refine⟨[.int n],BX (GA n),fun _=>none,Z3 n,.cons (by rw[Du]) .nil,fun a o h=>(by cases h),fun v G' H' _ nw e1 e2 dv=>?_⟩;refine q v H' e2 (P0 (Qh _) (dv.same e1)) ?_;have nw':∀a xs,G' a=some (.lst xs)→H a=none:=fun a xs h=>by
   rcases nw _ _ h with h|h|⟨ys,h⟩
   ·cases h
   ·exact h
   ·cases h
  rw[BX,Du]at dv;obtain⟨a,xs,rfl,g1,g2⟩:=dv;obtain⟨x,r,rfl,g4,g3⟩:=g2.un;obtain⟨y,r,rfl,g5,g6⟩:=g3.un;rw[g6.nil_eq]at g1;rw[Du]at g4 g5;obtain⟨R,xs,rfl,hR,dR⟩:=g4;obtain⟨L,ys,rfl,hL,_⟩:=g5;exact⟨a,R,L,xs,rfl,e1 _ _ g1,e1 _ _ hR,nw' _ _ hR,nw' _ _ hL,UK nw' dR⟩
def VB{P:Program}{w:World}{K:Fg}{mg:Str→Option VL}{base:Heap}{f:AD}{fd:FuncData}{k:Nat}{ps:List Str}(F:AQ P w K mg base Ah k f fd ps (Bz CC)):AQ P w K mg base Ah k f fd ps gr :=
 F.imp fun vs H Q E z=>by
  obtain⟨a,ns,k,rfl,ha,q⟩:=z;refine⟨[E9 ns,.int (k:Nat)],.int (EK ns k),H,S6 ns k,.cons (Xo ha) (.cons (by rw[Du]) .nil),.refl _,fun v G' H' _ _ _ e dv=>?_⟩;rw[Du]at dv;subst dv;exact q H' e
def Js(G H H':Hp):Hp:=fun b=>match H' b with
 |some (.tup xs)=>some (.tup xs)
 |some o=>if H b=none then some o else G b
 |none=>none
def ig{G H H':Hp}{a:AD}{xs:List V}(h:H' a=some (.tup xs)):Js G H H' a=some (.tup xs):=by unfold Js;rw[h]
def iW{G H H':Hp}{a:AD}{xs:List V}(h:H' a=some (.lst xs))(h0:H a=none):Js G H H' a=some (.lst xs):=by unfold Js;rw[h];exact if_pos h0
def eF{G H H':Hp}(e0:AK G H)(e:AK H H'):AK G (Js G H H')∧Nw G H (Js G H H')∧AK (Js G H H') H':=by
 refine⟨fun a o h=>?_,fun a o h=>?_,fun a o h=>?_⟩
 ·have h1:=e0 _ _ h;have h2:=e _ _ h1;unfold Js;rw[h2];cases o with
  |tup xs=>rfl
  |_=>simp only[h1];exact h
 ·unfold Js at h;split at h
  ·cases h;exact .inr (.inr ⟨_,rfl⟩)
  ·split at h
   ·rename_i z;exact .inr (.inl z)
   ·exact .inl h
  ·cases h
 ·unfold Js at h;cases z:H' a with
  |none=>rw[z]at h;cases h
  |some u =>
   rw[z]at h;cases u with
   |tup xs=>exact h
   |_ =>
    simp only at h;split at h
    ·exact h
    ·rw[←z];exact e _ _ (e0 _ _ h)
def Pb{G H H':Hp}:∀ {qs:List Rat} {xs:List V},BK H' (Ae qs) xs→An (Js G H H') (Ae qs) xs
 |[],xs,h=>by
  have:=h.len;have e:xs=[]:=bM (by simpa[Ae]using this);rw[e];exact .nil
 |q::qs,xs,h=>by
  obtain⟨x,r,rfl,h1,h2⟩:=BK.cq (d:=BH q) (ds:=Ae qs) h;obtain⟨p,rfl,hp⟩:=h1.rat;refine .cons ?_ (Pb h2);unfold BH;rw[Du];exact⟨p,_,rfl,ig hp,TV [q.num,(q.den:Int)]⟩
open Classical in
def QK{c:AD}{ws:List V}{H:Hp}(hc:H c=some (.lst ws)):∀ {rs:List (List Rat)} {zs:List V},BK H (BR rs) zs→(∀y∈zs,y≠.ref c)→AW c H (BR rs) zs
 |[],zs,h,_=>by
  have:=h.len;rw[show BR []=[] from rfl,List.length_nil]at this;rw[List.eq_nil_of_length_eq_zero this];exact .nil
 |r::rs,zs,h,n=>by
  obtain⟨x,t,rfl,h1,h2⟩:=BK.cq h;obtain⟨a,xs,rfl,ha,dx⟩:=DU.cn h1;exact .cons (Xi hc (fun z=>n (.ref a) aR (by rw[z])) ha dx) (QK hc h2 fun y hy=>n y (aO _ hy))
def Lv{c:AD}{ws:List V}{H H':Hp}(hc:H c=some (.lst ws))(e:SameBut c H H'){rs:List (List Rat)}{zs:List V}(h:BK H (BR rs) zs)(n:∀y∈zs,y≠.ref c):BK H' (BR rs) zs:=Em (.but e (QK hc h n))
def MT(H0 H:Hp)(R L:AD)(xs:List V)(rs:List (List Rat)):Prop:=xs.length=rs.length∧∀(i:Nat) (r:List Rat),rs[i]? = some r→∃(a:AD) (zs:List V),xs[i]? = some (.ref a)∧H a=some (.lst zs)∧Hb H zs r∧a≠R∧a≠L∧H0 a=none
def MT.same{H0 H H':Hp}{R L:AD}{xs:List V}{rs:List (List Rat)}(h:MT H0 H R L xs rs)(e:AK H H'):MT H0 H' R L xs rs:=⟨h.1,fun i r hi=>let⟨a,zs,h3,h4,h5,h6⟩:=h.2 i r hi;⟨a,zs,h3,e _ _ h4,h5.A6 (.of e),h6⟩⟩
def MT.upd{H0 H:Hp}{R L c:AD}{xs us vs:List V}{rs:List (List Rat)}(h:MT H0 H R L xs rs)(hc:H c=some (.lst us))(o:c=R∨c=L):MT H0 (upd H c (.lst vs)) R L xs rs:=⟨h.1,fun i r hi=>by
 obtain⟨a,zs,h3,h4,h5,h6,h7,h8⟩:=h.2 i r hi;refine⟨a,zs,h3,?_,h5.A6 (.upd hc),h6,h7,h8⟩;rw[AJ (by rcases o with o|o<;>rw[o]<;>assumption)];exact h4⟩
def MT.snoc{H0 H:Hp}{R L a:AD}{xs zs:List V}{rs:List (List Rat)}{r:List Rat}(h:MT H0 H R L xs rs)(ha:H a=some (.lst zs))(f:Hb H zs r)(nR:a≠R)(nL:a≠L)(n0:H0 a=none):MT H0 H R L (xs++[.ref a]) (rs++[r]):=by
 refine⟨by rw[List.length_append,List.length_append,h.1];rfl,fun i r' hi=>?_⟩;by_cases z:i<rs.length
 ·rw[List.getElem?_append_left z]at hi;rw[List.getElem?_append_left (by rw[h.1];exact z)];exact h.2 i r' hi
 ·have hz:i-rs.length=0:=by
   have:=(aC.mp hi).1;simp at this;omega
  rw[List.getElem?_append_right (by omega),hz]at hi;rw[List.getElem?_append_right (by rw[h.1];omega),h.1,hz];cases hi;exact⟨a,zs,rfl,ha,f,nR,nL,n0⟩
def Sy{H:Hp}:∀ {rs:List (List Rat)} {xs:List V},xs.length=rs.length→(∀(i:Nat) (r:List Rat),rs[i]? = some r→∃(a:AD) (zs:List V),xs[i]? = some (.ref a)∧H a=some (.lst zs)∧Hb H zs r)→BK H (BR rs) xs
 |[],[],_,_=>.nil
 |[],_::_,h,_=>by cases h
 |_::_,[],h,_=>by cases h
 |r::rs,x::xs,h,g=>by
  obtain⟨a,zs,h1,h2,h3⟩:=g 0 r rfl;cases h1;exact .cons (.lst h2 h3.U7) (Sy (by simpa using h) fun i r hi=>g (i+1) r hi)
def MT.U7{H0 H:Hp}{R L:AD}{xs:List V}{rs:List (List Rat)}(h:MT H0 H R L xs rs):BK H (BR rs) xs:=Sy h.1 fun i r hi=>let⟨a,zs,h3,h4,h5,_⟩:=h.2 i r hi;⟨a,zs,h3,h4,h5⟩
def Hb.same{H H':Hp}{zs:List V}{qs:List Rat}(h:Hb H zs qs)(e:AK H H'):Hb H' zs qs:=h.A6 (.of e)
section
variable{P:Program}{w:World}{K:Fg}{mg:Str→Option VL}{base:Heap}{f g g1 g2 g3:AD}{fd gd gd1 gd2 gd3:FuncData}
def Rq:Aa ["_law_script", "_law_at", "_law_most", "_law_number", "_law_other", "_law_rows", "_law_last", "_law_many", "_law_k", "_law_row", "_law_j"] ["_law_script", "_law_at", "_law_most"] (AV KU):=CK
def Ro(F:Fn K mg "_law_table" KU ["_law_script", "_law_at", "_law_most"] f fd)(CP:Fn K mg "_law_cell" GB ["_law_script", "_law_k"] g1 gd1)(Ed:Fn K mg "_law_entry" Jy ["_law_number"] g2 gd2)(HR:Fn K mg "_law_named" Jo ["_law_number"] g3 gd3)
 (C4:AQ P w K mg base Ah 3 g1 gd1 ["_law_script", "_law_k"] gr)(Jp:AQ P w K mg base Ah 3 g2 gd2 ["_law_number"] gf)(KH:AQ P w K mg base Ah 3 g3 gd3 ["_law_number"] jY)(BP:mg "range" = none)(BO:mg "len" = none):AQ P w K mg base Ah 4 f fd ["_law_script", "_law_at", "_law_most"] ia:=by
 have sc:=Rq;refine F.F.ok (k:=3) sc (fun vs H Q E h=>?_) (fun cdv A outer s H vs Q E hr h=>?_)
 ·obtain⟨a,ns,k,most,rfl,_⟩:=h
  rfl
 obtain⟨a,ns,k,most,rfl,ha,m1,m4,q⟩:=h;refine⟨_,(AN (A5 (i:=3) sc.nd rfl (Or.inl rfl) (Bp CP C4 hr rfl (AE (pv 0) (AE (pv 1) AL))))
 (AN (A5 (i:=4) sc.nd rfl (Or.inl rfl) (Bp CP C4 hr rfl (AE (pv 0) (AE (Ax Mv (pv 1) AR) AL))))
 (AN (Bw (BD FH (Ax HW (pv 3) AR) AR (Ag _))
  (AN (IY (Bp HR KH hr rfl (AE (Ax DJ (pv 3) AR) AL)) (KP rfl (CV (Az (i:=5) sc.nd rfl (Or.inl rfl)) (CV (Az (i:=6) sc.nd rfl (Or.inl rfl)) Hu))))
  (AN (Bw (BD JT (BC Bo rfl BO aj (AE (pv 5) AL)) (pv 2) (Ag _))
   (AX (A3 (CS (AE (Cv (AE (Cv AL) AL)) (AE (Cv (AE (CS (AE AR (AE AR AL))) AL)) AL)))))
   BL)
  (AN (Bw (BD FH (Ax HW (Ax DJ (pv 3) AR) AR) AR (Ag _))
   (AX (IY (Bp Ed Jp hr rfl (AE (pv 4) AL)) (LU (pv 6) (Ax Hg (Ax DJ (pv 3) AR) (BC Bo rfl BO aj (AE (pv 6) AL))) set_list)))
   BL)
  (AX (A3 (CS (AE (pv 5) (AE (pv 6) AL))))))))
  BL)
 (AN (A5 (i:=5) sc.nd rfl (Or.inl rfl) (Cv AL))
 (AN (A5 (i:=6) sc.nd rfl (Or.inl rfl) (Cv AL))
 (AN (A5 (i:=7) sc.nd rfl (Or.inl rfl) (Ax Mv AR (Ax Hg (Ax DJ (pv 3) AR) (pv 2))))
 (AN (A5 (i:=3) sc.nd rfl (Or.inl rfl) (Ax DJ (pv 3) AR))
 (AN (F9 aN rfl (Ml rfl BP (AE (pv 7) AL)) (Az (i:=8) sc.nd rfl (Or.inl rfl))
  (AN (A5 (i:=9) sc.nd rfl (Or.inl rfl) (Cv AL))
  (AN (F9 aN rfl (Ml rfl BP (AE (pv 8) AL)) (Az (i:=10) sc.nd rfl (Or.inl rfl))
   (AN (CO (Fy aV ar au DY (pv 9) (AE (Bp Ed Jp hr rfl (AE (pv 3) AL)) AL)))
   (AX (A5 (i:=3) sc.nd rfl (Or.inl rfl) (Ax DJ (pv 3) AR)))))
  (AN (CO (Fy aV ar au DY (pv 5) (AE (pv 9) AL)))
  (AN (CO (Fy aV ar au DY (pv 6) (AE (Bp Ed Jp hr rfl (AE (pv 4) AL)) AL)))
  (AX (A5 (i:=4) sc.nd rfl (Or.inl rfl) (Ax DJ (pv 4) AR))))))))
 (AX (A3 (CS (AE (pv 5) (AE (pv 6) AL))))))))))))),?_⟩
 refine⟨_,rfl,_,rfl,a,ns,k,rfl,ha,fun H1 e1=>?_⟩;refine⟨_,rfl,_,rfl,_,_,rfl,rfl,a,ns,k+1,rfl,QX ha e1,fun H2 e2=>?_⟩;generalize EK ns k=x0 at q ⊢;generalize EK ns (k+1)=x1 at q ⊢;have E2:=e1.trans e2;refine⟨_,rfl,_,_,rfl,rfl,(by show(0:Int)<4;decide),rfl,_,rfl,BA (fun c=>?_) (fun c=>?_)⟩
 ·have c':x0 % 4=0:=by simpa using c
  refine⟨_,rfl,_,_,rfl,rfl,⟨by decide,by decide⟩,x0 / 4,rfl,fun v H3 e3 dt nt=>?_⟩;unfold S7 at q;rw[if_pos c']at q;obtain⟨ot,st⟩:=Qs (XT (x0 / 4));generalize GA (x0 / 4)=t at dt q ot st;obtain⟨p,R,L,xs,ys,rfl,hp,hR,dR,hL,dL⟩:=dt.tab;obtain⟨p',R',L',xs',e',n1,n2,n3,n4,n5⟩:=nt;cases e';rw[hp]at n1;cases n1;rw[hR]at n2;cases n2;have hLn:H2 L=none:=n4;have hyl:ys.length=t.ls.length:=by rw[dL.len,CM]
  have hxl:xs.length=t.rs.length:=by rw[dR.len,EF]
  have o1:=ot.one;have o2:=ot.last;have E3:=E2.trans e3;refine⟨p,_,rfl,Ay.of hp,rfl,_,_,rfl,_,_,rfl,rfl,?_⟩;refine⟨_,rfl,_,_,rfl,.inl (Ab.of hR),_,rfl,_,_,rfl,rfl,_,rfl,BA (fun c2=>?_) (fun c2=>?_)⟩
  ·have c2':t.rs.length > most:=by have:=aT c2;omega
   rw[if_pos c2']at q;refine⟨(by show 0≤sizeLine;decide),fun p1 hp1=>?_⟩;have f1:=AO hp1 (.lst []);have g1:upd H3 p1 (.lst []) p1=some (.lst []):=AI;generalize upd H3 p1 (.lst [])=I1 at f1 g1;refine⟨(by show 1≤sizeLine;decide),fun p2 hp2=>?_⟩;have f2:=AO hp2 (.lst [V.ref p1]);have g2:upd I1 p2 (.lst [V.ref p1]) p2=some (.lst [V.ref p1]):=AI;generalize upd I1 p2 (.lst [V.ref p1])=I2 at f2 g2;refine⟨Es,fun p3 hp3=>?_⟩;have f3:=AO hp3 (.tup [V.int 1,V.int 1]);have g3:upd I2 p3 (.tup [V.int 1,V.int 1]) p3=some (.tup (Jk q1)):=AI;generalize upd I2 p3 (.tup [V.int 1,V.int 1])=I3 at f3 g3;refine⟨(by show 1≤sizeLine;decide),fun p4 hp4=>?_⟩;have f4:=AO hp4 (.lst [V.ref p3]);have g4:upd I3 p4 (.lst [V.ref p3]) p4=some (.lst [V.ref p3]):=AI;generalize upd I3 p4 (.lst [V.ref p3])=I4 at f4 g4;refine⟨Es,fun p5 hp5=>?_⟩;have f5:=AO hp5 (.tup [V.ref p2,V.ref p4]);have g5:upd I4 p5 (.tup [V.ref p2,V.ref p4]) p5=some (.tup [V.ref p2,V.ref p4]):=AI;generalize upd I4 p5 (.tup [V.ref p2,V.ref p4])=I5 at f5 g5;have F35:=(f3.trans f4).trans f5;exact q _ I5 (((E3.trans f1).trans f2).trans F35) (Pa g5 (F35 _ _ g2) (.cons (.lst ((f2.trans F35) _ _ g1) .nil) .nil) (f5 _ _ g4) (.cons (Me ((f4.trans f5) _ _ g3)) .nil)) ⟨p5,p2,p4,[V.ref p1],rfl,g5,F35 _ _ g2,DP (E3.trans f1) hp2,DP ((E3.trans f1).trans (f2.trans f3)) hp4,fun b hb=>by rw[List.mem_singleton]at hb;cases hb;exact DP E3 hp1⟩
  have c2':¬t.rs.length > most:=fun z=>c2 (bQ (by omega));rw[if_neg c2']at q;refine⟨_,rfl,_,_,rfl,rfl,⟨by decide,by decide⟩,_,_,rfl,rfl,(by show(0:Int)<3;decide),rfl,_,rfl,BA (fun c3=>?_) (fun c3=>?_)⟩
  ·have c3':x0 / 20 % 3=0:=by simpa using c3
   rw[if_pos c3',←hyl]at q;refine⟨_,rfl,x1,rfl,fun l H4 e4 hl4=>?_⟩;have hL4:=e4 _ _ hL;have hyp:(0:Int)<((ys.length:Nat):Int):=by omega
   have i1:0≤(x0 / 60).fmod ((ys.length:Nat):Int):=bS _ hyp;have i2:(x0 / 60).fmod ((ys.length:Nat):Int)<((ys.length:Nat):Int):=Int.fmod_lt_of_pos _ hyp;refine⟨_,rfl,_,rfl,_,_,rfl,rfl,⟨by decide,by decide⟩,_,rfl,_,_,rfl,.inl (Ab.of hL4),_,_,rfl,rfl,(by show((ys.length:Nat):Int)≠0;omega),L,ys,_,((x0 / 60).fmod ((ys.length:Nat):Int)).toNat,rfl,rfl,hL4,(by unfold Lb;rw[if_pos i1,if_pos i2]),?_⟩;have hj:((x0 / 60).fmod ((ys.length:Nat):Int)).toNat<t.ls.length:=by omega
   generalize ((x0 / 60).fmod ((ys.length:Nat):Int)).toNat=j at hj q ⊢;generalize Nt x1=q4 at q hl4;have nR:∀y∈xs,y≠V.ref L:=fun y hy z=>by
    subst z;obtain⟨i,hi⟩:=bK hy;have hil:i<t.rs.length:=by have:=(aC.mp hi).1;omega
    obtain⟨a',zs,k1,k2,k3⟩:=GW dR (aL hil);rw[hi]at k1;cases k1;rw[hL]at k2;cases k2;have:=k3.len;rw[CM,ot.row i _ (aL hil)]at this;omega
   have nRL:R≠L:=fun z=>by
    subst z;rw[hR]at hL;cases hL;obtain⟨a',zs,k1,k2,k3⟩:=GW dR (aL (show 0<t.rs.length by omega));obtain⟨p',k4,k5⟩:=JX dL (aL (show 0<t.ls.length by omega));rw[k1]at k4;cases k4;rw[k2]at k5;cases k5
   have u:SameBut L H4 (upd H4 L (.lst (ys.set j (.ref l)))):=.upd;have dL':=DZ hL4 u (show BK H4 (Ae (t.ls.set j q4)) (ys.set j (.ref l)) by
    rw[Ae,List.map_set];exact .set (Me hl4) (dL.same e4))
   have dR':=Lv hL4 u (dR.same e4) nR;have hR':upd H4 L (.lst (ys.set j (.ref l))) R=some (.lst xs):=by rw[AJ nRL];exact e4 _ _ hR
   have hL':upd H4 L (.lst (ys.set j (.ref l))) L=some (.lst (ys.set j (.ref l))):=AI;have E5:AK H (upd H4 L (.lst (ys.set j (.ref l)))):=fun b o zz=>by
    rw[AJ (AU (E2 _ _ zz) hLn)];exact e4 _ _ (E3 _ _ zz)
   generalize upd H4 L (.lst (ys.set j (.ref l)))=H5 at dL' dR' hR' hL' E5;refine⟨_,rfl,_,rfl,Es,fun p2 hp2=>?_⟩;have e6:=AO hp2 (.tup [V.ref R,V.ref L]);exact q _ _ (E5.trans e6) (Pa AI (e6 _ _ hR') (dR'.same e6) (e6 _ _ hL') (dL'.same e6)) ⟨p2,R,L,xs,rfl,AI,e6 _ _ hR',DP E2 n3,DP E2 n4,fun b hb=>DP E2 (n5 b hb)⟩
  ·refine⟨_,rfl,_,rfl,Es,fun p2 hp2=>?_⟩;have e4:=AO hp2 (.tup [V.ref R,V.ref L]);have c3':¬x0 / 20 % 3=0:=by simpa using c3
   rw[if_neg c3']at q;exact q _ _ (E3.trans e4) (Pa AI (e4 _ _ hR) (dR.same e4) (e4 _ _ hL) (dL.same e4)) ⟨p2,R,L,xs,rfl,AI,e4 _ _ hR,DP E2 n3,DP E2 n4,fun b hb=>DP E2 (n5 b hb)⟩
 ·have c':¬x0 % 4=0:=by simpa using c
  unfold S7 at q;rw[if_neg c']at q;refine⟨(by show 0≤sizeLine;decide),fun R hR=>?_⟩;have f1:=AO hR (.lst []);have g1:upd H2 R (.lst []) R=some (.lst []):=AI;generalize upd H2 R (.lst [])=I1 at f1 g1;refine⟨(by show 0≤sizeLine;decide),fun L hL=>?_⟩;have f2:=AO hL (.lst []);have g2:upd I1 L (.lst []) L=some (.lst []):=AI;generalize upd I1 L (.lst [])=I2 at f2 g2;have nRL:R≠L:=AU g1 hL;have hL2:H2 L=none:=DP f1 hL;have m0:(most:Int)≠0:=by omega
  refine⟨_,rfl,_,_,rfl,rfl,⟨by decide,by decide⟩,_,rfl,_,_,rfl,rfl,m0,_,_,rfl,rfl,?_⟩;obtain⟨many,hn1,hn4,em⟩:∃many:Nat,1≤many∧many≤most∧1+(x0 / 4).fmod most=(many:Int):=by
   have e:=Int.fmod_eq_emod_of_nonneg (x0 / 4) (show(0:Int)≤(most:Int) by omega);have a:=Int.emod_nonneg (x0 / 4) m0;have b:=Int.emod_lt_of_pos (x0 / 4) (show(0:Int)<(most:Int) by omega);exact⟨(1+(x0 / 4).fmod most).toNat,by omega,by omega,by omega⟩
  rw[em,Int.toNat_natCast]at q;rw[show((fun i j:Int=>V.int (i+j)) 1 ((x0 / 4).fmod most))=V.int (many:Int) from bJ V.int em];refine⟨_,rfl,_,_,rfl,rfl,⟨by decide,by decide⟩,?_⟩;refine⟨_,rfl,(many:Int),rfl,by omega,by omega,Q8 (n:=(many:Int).toNat) (fun i σ H'=>∃(r8 r9 r10:Option V) (xs ys:List V),σ=[some (.ref a),some (.int (k:Int)),some (.int most),some (.int (Qo (x0 / 16) i)),some (.int (Io x1 i)),some (.ref R),some (.ref L),some (.int many),r8,r9,r10]∧AK H2 H'∧H' R=some (.lst xs)∧H' L=some (.lst ys)∧MT H2 H' R L xs ((List.range i).map (X8 (x0 / 16)))∧Hb H' ys ((List.range i).map fun j=>Nt (Io x1 j))) ?_ ?_ ?_⟩
  ·exact⟨_,_,_,[],[],rfl,f1.trans f2,f2 _ _ g1,g2,⟨rfl,fun i r z=>by simp at z⟩,⟨rfl,fun i r z=>by simp at z⟩⟩
  ·rintro i σ H3 hi ⟨r8,r9,r10,xs,ys,rfl,e3,hR3,hL3,rw3,fl3⟩;have hrl:((List.range i).map (X8 (x0 / 16))).length=i:=by simp
   have hll:((List.range i).map fun j=>Nt (Io x1 j)).length=i:=by simp
   refine⟨(by show 0≤sizeLine;decide),fun A hA=>?_⟩;have f3:=AO hA (.lst []);have g3:upd H3 A (.lst []) A=some (.lst []):=AI;generalize upd H3 A (.lst [])=I3 at f3 g3;have nAR:A≠R:=(AU hR3 hA).symm;have nAL:A≠L:=(AU hL3 hA).symm;refine⟨_,rfl,0+(i:Int),rfl,by omega,by omega,Q8 (n:=(0+(i:Int)).toNat) (fun j σ H'=>∃(r10:Option V) (zs:List V),σ=[some (.ref a),some (.int (k:Int)),some (.int most),some (.int (Io (Qo (x0 / 16) i) j)),some (.int (Io x1 i)),some (.ref R),some (.ref L),some (.int many),some (.int (0+(i:Int))),some (.ref A),r10]∧AK H3 H'∧H' A=some (.lst zs)∧Hb H' zs ((List.range j).map fun l=>Nt (Io (Qo (x0 / 16) i) l))) ?_ ?_ ?_⟩
   ·exact⟨_,[],rfl,f3,g3,⟨rfl,fun i r z=>by simp at z⟩⟩
   ·rintro j σ H4 hj ⟨r10,zs,rfl,e4,hA4,fz⟩;have hl:=fz.1;rw[List.length_map,List.length_range]at hl;refine⟨_,rfl,.inl ⟨rfl,_,Ab.of hA4⟩,_,rfl,Io (Qo (x0 / 16) i) j,rfl,fun l H5 e5 hl5=>?_⟩;have hA5:=e5 _ _ hA4;refine⟨A,zs,_,rfl,rfl,hA5,K7 (n:=60) (by omega) (by decide),?_⟩;refine⟨_,rfl,_,_,rfl,rfl,⟨by decide,by decide⟩,_,zs++[.ref l],rfl,fun b o zz=>?_,AI,?_⟩
    ·rw[AJ (AU zz hA)];exact e5 _ _ (e4 _ _ zz)
    ·rw[List.range_succ,List.map_append];exact((fz.same e5).snoc hl5).A6 (.upd hA5)
   ·rintro σ H4 ⟨r10,zs,rfl,e4,hA4,fz⟩;rw[show(0+(i:Int)).toNat=i by omega]at fz ⊢;have hR4:=e4 _ _ hR3;have hxl:=rw3.1;have hyl:=fl3.1;refine⟨_,rfl,.inl ⟨rfl,_,Ab.of hR4⟩,_,rfl,R,xs,_,rfl,rfl,hR4,K7 (n:=60) (by omega) (by decide),?_⟩;have rw4:=((rw3.same e4).snoc hA4 fz nAR nAL (DP e3 hA)).upd (vs:=xs++[.ref A]) hR4 (.inl rfl);have fl4:=(fl3.same e4).A6 (J4.upd (o:=.lst (xs++[.ref A])) hR4);have hR5:upd H4 R (.lst (xs++[.ref A])) R=some (.lst (xs++[.ref A])):=AI;have hL5:upd H4 R (.lst (xs++[.ref A])) L=some (.lst ys):=by rw[AJ nRL.symm];exact e4 _ _ hL3
    have e5:AK H2 (upd H4 R (.lst (xs++[.ref A]))):=fun b o zz=>by rw[AJ (AU zz hR)];exact e4 _ _ (e3 _ _ zz)
    generalize upd H4 R (.lst (xs++[.ref A]))=H5 at rw4 fl4 hR5 hL5 e5;refine⟨_,rfl,.inl ⟨rfl,_,Ab.of hL5⟩,_,rfl,Io x1 i,rfl,fun l H6 e6 hl6=>?_⟩;have hL6:=e6 _ _ hL5;refine⟨L,ys,_,rfl,rfl,hL6,K7 (n:=60) (by omega) (by decide),?_⟩;refine⟨_,rfl,_,_,rfl,rfl,⟨by decide,by decide⟩,_,_,_,xs++[.ref A],ys++[.ref l],rfl,fun b o zz=>?_,?_,AI,?_,?_⟩
    ·rw[AJ (AU zz hL2)];exact e6 _ _ (e5 _ _ zz)
    ·rw[AJ nRL];exact e6 _ _ hR5
    ·rw[List.range_succ,List.map_append];exact(rw4.same e6).upd hL6 (.inr rfl)
    ·rw[List.range_succ,List.map_append];exact((fl4.same e6).snoc hl6).A6 (.upd hL6)
  rintro σ H3 ⟨r8,r9,r10,xs,ys,rfl,e3,hR3,hL3,rw3,fl3⟩;rw[Int.toNat_natCast]at rw3 fl3;refine⟨_,rfl,_,rfl,Es,fun p2 hp2=>?_⟩;have e4:=AO hp2 (.tup [V.ref R,V.ref L]);refine q _ _ ((E2.trans e3).trans e4) (Pa AI (e4 _ _ hR3) (rw3.U7.same e4) (e4 _ _ hL3) (fl3.U7.same e4)) ⟨p2,R,L,xs,rfl,AI,e4 _ _ hR3,DP E2 hR,DP E2 hL2,fun b hb=>?_⟩;obtain⟨i,hi⟩:=bK hb;have hil:=(aC.mp hi).1;have h1:=rw3.1;obtain⟨a',zs,k1,k2,k3,_,_,k4⟩:=rw3.2 i _ (aL (by omega));rw[hi]at k1;cases k1;exact DP E2 k4
end
def iJ(x0 x1:Int){most:Nat}(h1:1≤most)(h4:most≤4):(S7 x0 x1 most).Ok 4∧(S7 x0 x1 most).Sm:=by
 unfold S7;split
 ·obtain⟨ot,st⟩:=Qs (XT (x0 / 4));split
  ·exact Qs (by decide +kernel)
  ·split
   ·refine⟨⟨ot.one,ot.most,by show(List.set _ _ _).length=_;rw[List.length_set];exact ot.last,ot.row⟩,st.1,fun q hq=>?_⟩;rcases List.mem_or_eq_of_mem_set hq with h|h
    ·exact st.2 q h
    ·rw[h];exact TY x1
   ·exact⟨ot,st⟩
 ·have e:=Int.fmod_eq_emod_of_nonneg (x0 / 4) (show(0:Int)≤(most:Int) by omega);have a:=Int.emod_nonneg (x0 / 4) (show(most:Int)≠0 by omega);have b:=Int.emod_lt_of_pos (x0 / 4) (show(0:Int)<(most:Int) by omega);have m1:1≤(1+(x0 / 4).fmod (most:Nat)).toNat:=by omega
  have m4:(1+(x0 / 4).fmod (most:Nat)).toNat≤4:=by omega
  generalize (1+(x0 / 4).fmod (most:Nat)).toNat=many at m1 m4;refine⟨⟨by show 1≤(List.map _ _).length;simpa using m1,by show(List.map _ _).length≤4;simpa using m4,by show(List.map _ _).length=(List.map _ _).length;simp,fun i r hi=>?_⟩,fun r hr q hq=>?_,fun q hq=>?_⟩
  ·have hi:((List.range many).map (X8 (x0 / 16)))[i]? = some r:=hi;rw[List.getElem?_map]at hi;obtain⟨j,hj,rfl⟩:=aE.mp hi;have hl:=(aC.mp hj).1;rw[List.getElem?_range (by simpa using hl)]at hj;cases hj;unfold X8;simp
  ·obtain⟨i,_,rfl⟩:=aZ.mp hr;obtain⟨j,_,rfl⟩:=aZ.mp hq;exact TY _
  ·obtain⟨j,_,rfl⟩:=aZ.mp hq;exact TY _
def gm:Sp:=fun vs H Q _=>∃(v:V) (a:Tb) (m:Nat),vs=[v]∧DU H (BX a) v∧a.Ok m∧m≤40∧∀(p R L:AD) xs ys H',AK H H'→H R=none→H L=none→R≠L→H' p=some (.tup [.ref R,.ref L])→H' R=some (.lst xs)→H' L=some (.lst ys)→BK H' (BR a.rs) xs→BK H' (Ae a.ls) ys→(∀y∈xs,∃b,y=.ref b∧b≠R∧b≠L∧H b=none)→Q (.ref p) H'
section
variable{P:Program}{w:World}{K:Fg}{mg:Str→Option VL}{base:Heap}{f g g1 g2 g3:AD}{fd gd gd1 gd2 gd3:FuncData}
def QJ:Aa ["_law_table_here"] ["_law_table_here"] (AV Ip):=CK
def QN(F:Fn K mg "_law_copied" Ip ["_law_table_here"] f fd)(GC:mg "list" = none):AQ P w K mg base Ah 1 f fd ["_law_table_here"] gm:=by
 have sc:=QJ;refine F.F.ok (k:=0) sc (fun vs H Q E h=>?_) (fun cdv A outer s H vs Q E hr h=>?_)
 ·obtain⟨v,a,m,rfl,_⟩:=h
  rfl
 obtain⟨v,a,m,rfl,da,oa,hm,q⟩:=h;refine⟨_,(AX (A3 (CS (AE (Gh [".0", "_law_row"] 1 [none,none] (EY (B4 Cg (pv 0) AR (fun _ _=>rfl))) (fun _ _ _ _ _=>Ex) (fun _ _ _ _ _=>(Gr Rk rfl GC PyProof.Rows.boot_list (AE (pv 1) AL)))) (AE (Gr Mo rfl GC PyProof.Rows.boot_list (AE (B4 Cg (pv 0) AR (fun _ _=>rfl)) AL)) AL))))),?_⟩;obtain⟨p1,R1,L1,xs1,ys1,rfl,hp1,hR1,dR1,hL1,dL1⟩:=da.tab;have l1:xs1.length=a.rs.length:=by rw[dR1.len,EF]
 have ma:=oa.most;refine⟨_,rfl,_,_,_,_,rfl,rfl,Ay.of hp1,rfl,R1,rfl,⟨_,Ab.of hR1⟩,fun D hD=>G5 (n:=xs1.length) (Made H D a.rs) (jW hD) ?_ ?_⟩
 ·rintro i ys H5 hi mk hD5;have e5:=mk.1;have hr:a.rs[i]? = some (a.rs[i]'(by omega)):=aL _;obtain⟨r,zs,g1,g2,g3⟩:=GW dR1 hr;refine⟨⟨xs1,.ref r,Ab.of (e5 _ _ hR1),g1⟩,K7 (n:=60) (by rw[mk.2.1];omega) (by decide),fun x H' y=>?_⟩;obtain⟨rfl,y⟩:=y;have hx:=y xs1 (Ab.of (e5 _ _ hR1));rw[g1]at hx;cases hx;unfold IB;refine EO ⟨_,rfl,r,zs,rfl,.inl (Ab.of (e5 _ _ g2)),fun l hl=>?_⟩;obtain⟨k1,k2⟩:=Xl hD mk hD5 hr hl (g3.same e5);exact⟨k1,Ez hi k2⟩
 rintro zs1 H5 ⟨e5,zl1,d5,n5⟩ hD5;refine⟨⟨xs1,Ab.of (e5 _ _ hR1),Nat.le_refl _⟩,?_⟩;rw[l1,List.take_length]at d5;have d5:=Em d5;refine⟨_,rfl,_,_,_,_,rfl,rfl,Ay.of (e5 _ _ hp1),rfl,L1,ys1,rfl,.inl (Ab.of (e5 _ _ hL1)),fun L hL=>?_⟩;generalize hH:upd _ L _=H8;obtain⟨e8,_,h8⟩:=mZ hH hL (dL1.same e5);clear hH;refine⟨SI (show 2≤60 by decide),fun t ht=>?_⟩;have e9:=AO ht (.tup [V.ref D,V.ref L]);have h9:upd H8 t (.tup [V.ref D,V.ref L]) t=some (.tup [V.ref D,V.ref L]):=AI;generalize upd H8 t (.tup [V.ref D,V.ref L])=H9 at e9 h9;have nDL:D≠L:=fun z=>by subst z;rw[hD5]at hL;cases hL
 have E:=e5.trans (e8.trans e9);have hLn:H L=none:=DP e5 hL;refine q t D L zs1 ys1 H9 E hD hLn nDL h9 (e9 _ _ (e8 _ _ hD5)) (e9 _ _ h8) (d5.same (e8.trans e9)) (dL1.same E) fun y hy=>?_;obtain⟨b,ws,rfl,nb,hb0,hb1⟩:=n5 y hy;exact⟨b,rfl,nb,fun z=>(by subst z;rw[hL]at hb1;cases hb1),hb0⟩
end
def Iy:List PD:=[.tuple [.int 2,.int 4],.tuple [.int 1,.int 0],.tuple [.int (-1),.int (-2)],.tuple [.bool true,.int 1],.str "1",.none,.int 1,.list [.int 1,.int 2],.tuple [.int 1,.int 2,.int 3]]
def cj:Sp:=fun vs H Q _=>∃(v:V) (t:Tb) (c:Int),vs=[v,.int c]∧DU H (BX t) v∧t.Ok 4∧∀v' H' d,AK H H'→DU H' d v'→d.canLay0=true→CG d=false→Q v' H'
def HP(r:List Rat):∀d∈Ae r,d.canLay0=true:=fun d hd=>by obtain⟨q,_,rfl⟩:=aZ.mp hd;exact Qp q
def Ka(r:List Rat):(PyData.list (Ae r)).canLay0=true:=Ft (HP r)
def FR(rs:List (List Rat)):∀d∈BR rs,d.canLay0=true:=fun d hd=>by obtain⟨r,_,rfl⟩:=aZ.mp hd;exact Ka r
def Lj{ds:List PD}{i:Nat}{d:PD}(h:∀e∈ds,e.canLay0=true)(hd:d.canLay0=true):∀e∈ds.set i d,e.canLay0=true:=fun e he=>by
 rcases List.mem_or_eq_of_mem_set he with z|z
 ·exact h e z
 ·rw[z];exact hd
def NR{a b:PD}(h1:a.canLay0=true)(h2:b.canLay0=true):(PyData.tuple [a,b]).canLay0=true:=P9 fun e he=>by
 rcases aJ.mp he with rfl|he
 ·exact h1
 ·rw[List.mem_singleton.mp he];exact h2
def fJ{a b:List PD}(h1:∀e∈a,e.canLay0=true)(h2:∀e∈b,e.canLay0=true):∀e∈a++b,e.canLay0=true:=fun e he=>(bR.mp he).elim (h1 e) (h2 e)
def fV:(Iy.all fun d=>d.canLay0)=true:=by decide +kernel
def Kd{l:AD}{H:Hp}{d:PD}{v:V}(hv:Dt l H d v):∀ {ds:List PD} {xs:List V} {j:Nat},AW l H ds xs→AW l H (ds.set j d) (xs.set j v)
 |[],xs,j,h=>by
  rw[AW]at h;subst h;exact .nil
 |e::ds,xs,j,h=>by
  rw[AW]at h;obtain⟨x,r,rfl,h1,h2⟩:=h;cases j with
  |zero=>exact .cons hv h2
  |succ j=>exact .cons h1 (Kd hv h2)
def MB{l:AD}{H:Hp}{ds:List PD}{xs:List V}(h:AW l H ds xs){i:Nat}(hi:i<ds.length):∃x,xs[i]? = some x∧Dt l H ds[i] x:=by
 have hl:=h.len;have e:xs[i]? = some (xs[i]'(by omega)):=aL _;obtain⟨d,h1,h2⟩:=h.get e;rw[List.getElem?_eq_getElem hi]at h1;cases h1;exact⟨_,e,h2⟩
def XZ{H:Hp}:∀ {ds:List PD} {xs:List V},xs.length=ds.length→(∀(i:Nat) (d:PD),ds[i]? = some d→∃x,xs[i]? = some x∧DU H d x)→BK H ds xs
 |[],[],_,_=>.nil
 |[],_::_,h,_=>by cases h
 |_::_,[],h,_=>by cases h
 |d::ds,x::xs,h,k=>by
  obtain⟨y,h1,h2⟩:=k 0 d rfl;cases h1;exact .cons h2 (XZ (by simpa using h) fun i d hi=>k (i+1) d hi)
def UT{H:Hp}{A:AD}{rs:List (List Rat)}{xs zs zs':List V}{ds':List PD}{at_:Nat}(ok:∀(i:Nat) r,rs[i]? = some r→r.length=i)(dR:BK H (BR rs) xs)(hx:xs[at_]? = some (.ref A))(hA:H A=some (.lst zs))(hz:zs.length=at_)(dA:AW A H ds' zs') :
  BK (upd H A (.lst zs')) ((BR rs).set at_ (.list ds')) xs:=by
 have hl:=dR.len;refine XZ (by rw[List.length_set];exact hl) fun i d hi=>?_;by_cases z:i=at_
 ·subst z;have hlt:i<(BR rs).length:=by have:=(aC.mp hx).1;omega
  rw[List.getElem?_set_self hlt]at hi;cases hi;exact⟨_,hx,.lst AI (Em (.but .upd dA))⟩
 ·rw[List.getElem?_set_ne (fun y=>z y.symm)]at hi;unfold BR at hi;rw[List.getElem?_map]at hi;obtain⟨r,hr,rfl⟩:=aE.mp hi;obtain⟨a,ws,g1,g2,g3⟩:=GW dR hr;refine⟨_,g1,?_⟩;have na:a≠A:=fun y=>by
   subst y;rw[hA]at g2;cases g2;have:=g3.len;rw[CM,ok i r hr]at this;omega
  exact .lst (by rw[AJ na];exact g2) (DZ hA .upd g3)
def ja:(Iy.all fun d=>!D7 d)=true:=by decide +kernel
def hU{i:Nat}(h:i<Iy.length):D7 Iy[i]=false:=by
 have:=aa.mp ja Iy[i] (bZ h)
 simpa using this
def XI{ds:List PD}{i:Nat}{d:PD}(hi:i<ds.length)(hd:D7 d=false):Ca (.list (ds.set i d))=false:=by
 rw[Ca];refine aY.mpr fun z=>?_;have:=aa.mp z d (aP (List.getElem?_set_self hi));rw[hd]at this;cases this
def SO{r l:PD}(h:Ca l=false):CG (.tuple [r,l])=false:=by rw[CG,h];simp
def KD{r l:PD}(h:CY r=false):CG (.tuple [r,l])=false:=by rw[CG,h];simp
def VR{a b:List PD}(h:b.length≠a.length):CG (.tuple [.list a,.list b])=false:=by
 rw[CG,show decide (FY (.list b)=FY (.list a))=false from bC h];simp
def Ol{ds:List PD}{i:Nat}{d:PD}(hi:i<ds.length)(hd:(Ca d&&decide (FY d=i))=false):CY (.list (ds.set i d))=false:=by
 rw[CY];have:IV (ds.set i d)=false:=by
  unfold IV;refine aY.mpr fun z=>?_;have:=aa.mp z i (bL.mpr (by rw[List.length_set];exact hi));unfold rowAt at this;rw[List.getElem?_set_self hi]at this;simp only at this;rw[hd]at this;cases this
 rw[this];simp
def Z6{xs:List V}:K8 xs none (some (-1))=xs.take (xs.length-1):=by
 unfold K8;have e1:HT.Bg xs.length 0 none=0:=rfl;have e2:HT.Bg xs.length xs.length (some (-1))=xs.length-1:=by
  show(if(-1:Int)<0 then((-1:Int)+(xs.length:Int)).toNat else min (-1:Int).toNat xs.length)=xs.length-1;rw[if_pos (by decide)];omega
 rw[e1,e2,List.drop_zero,Nat.sub_zero]
section
variable{P:Program}{w:World}{K:Fg}{mg:Str→Option VL}{base:Heap}{f g g1 g2 g3:AD}{fd gd gd1 gd2 gd3:FuncData}
def Ni:Aa ["_law_table_here", "_law_cell_here", "_law_rows", "_law_last", "_law_way", "_law_bad", "_law_at", "_law_odd"] ["_law_table_here", "_law_cell_here"] (AV GS):=CK
def Nk(F:Fn K mg "_law_bad_table" GS ["_law_table_here", "_law_cell_here"] f fd)(GN:Fn K mg "_law_copied" Ip ["_law_table_here"] g1 gd1)(Rt:AQ P w K mg base Ah 1 g1 gd1 ["_law_table_here"] gm)(BO:mg "len" = none)(Bj:mg "tuple" = none):AQ P w K mg base Ah 2 f fd ["_law_table_here", "_law_cell_here"] cj:=by
 have sc:=Ni;refine F.F.ok (k:=1) sc (fun vs H Q E h=>?_) (fun cdv A outer s H vs Q E hr h=>?_)
 ·obtain⟨v,t,c,rfl,_⟩:=h
  rfl
 obtain⟨v,t,c,rfl,dt,ot,q⟩:=h;have o1:=ot.one;have o4:=ot.most;have o3:=ot.last;refine⟨_,(by refine' AN ?s0 ?r0;(case s0=>exact(IY (Bp GN Rt hr rfl (AE (pv 0) AL)) (KP rfl (CV (Az (i:=2) sc.nd rfl (Or.inl rfl)) (CV (Az (i:=3) sc.nd rfl (Or.inl rfl)) Hu)))));(case r0=>refine' AN ?s1 ?r1;(case s1=>exact(A5 (i:=4) sc.nd rfl (Or.inl rfl) (Ax HW (pv 1) AR)));(case r1=>refine' AN ?s2 ?r2;(case s2=>exact(by refine' A5 (i:=5) ?hN ?hi ?hx ?he ?hs ?hf;(case hN=>exact sc.nd);(case hi=>rfl);(case hx=>exact(Or.inl rfl));(case he=>refine' Cv ?q;(case q=>refine' TZ (n:=8) (ds:=[.tuple [.int 2,.int 4],.tuple [.int 1,.int 0],.tuple [.int (-1),.int (-2)],.tuple [.bool true,.int 1],.str "1",.none,.int 1,.list [.int 1,.int 2],.tuple [.int 1,.int 2,.int 3]]) ?z;(case z=>rfl)));(case hs=>rfl);(case hf=>first|exact .inl rfl|exact .inr rfl)));(case r2=>refine' AN ?s3 ?r3;(case s3=>exact(A5 (i:=6) sc.nd rfl (Or.inl rfl) (Ax Hg (Ax DJ (pv 1) AR) (BC Bo rfl BO aj (AE (pv 2) AL)))));(case r3=>refine' AN ?s4 ?r4;(case s4=>exact(Bw (BD PU (pv 4) AR (Ag _)) (AN (IY (B4 Gw (pv 5) (pv 4) (fun _ _=>rfl)) (LU (pv 3) (pv 6) set_list)) (AN (Bw (PW.pt (Sb (BD JT (pv 6) AR (Ag _)) (Na (BD FH (Ax HW (Ax DJ (pv 1) AR) AR) AR (Ag _))))) (AN (IY (CS (AE AR (AE AR AL))) (LU (pv 3) (pv 6) set_list)) (AX (IY (B4 Gw (pv 5) (pv 4) (fun _ _=>rfl)) (LU (B4 Gw (pv 2) (pv 6) (fun _ _=>rfl)) (Ax Hg (Ax DJ (pv 1) AR) (pv 6)) set_list)))) BL) (AX (A3 (CS (AE (pv 2) (AE (pv 3) AL))))))) BL));(case r4=>refine' AN ?s5 ?r5;(case s5=>exact(Bw (BD FH (pv 4) AR (Ag _)) (AX (CO (Fy aV ar au DY (B4 Gw (pv 2) (pv 6) (fun _ _=>rfl)) (AE (CS (AE AR (AE AR AL))) AL)))) BL));(case r5=>refine' AN ?s6 ?r6;(case s6=>exact(Bw (BD FH (pv 4) AR (Ag _)) (AX (CO (Fy aV ar au DY (pv 3) (AE (CS (AE AR (AE AR AL))) AL)))) BL));(case r6=>refine' AN ?s7 ?r7;(case s7=>exact(Bw (BD FH (pv 4) AR (Ag _)) (AX (A3 (CS (AE (pv 2) (AE (Sd VS (pv 3) Vp (Ux (PN Mx AR))) AL))))) BL));(case r7=>refine' AN ?s8 ?r8;(case s8=>exact(Bw (BD FH (pv 4) AR (Ag _)) (AX (A3 (CS (AE (Gr Ii rfl Bj bA (AE (pv 2) AL)) (AE (pv 3) AL))))) BL));(case r8=>refine' AN ?s9 ?r9;(case s9=>exact(Bw (BD FH (pv 4) AR (Ag _)) (AX (A3 (CS (AE (pv 2) (AE (Gr Ii rfl Bj bA (AE (pv 3) AL)) AL))))) BL));(case r9=>refine' AN ?s10 ?r10;(case s10=>exact(Bw (BD FH (pv 4) AR (Ag _)) (AN (A5 (i:=7) sc.nd rfl (Or.inl rfl) (Cv (AE PY (AE (Cv (AE (pv 2) (AE (pv 3) AL))) (AE (CS (AE (pv 2) AL)) (AE (CS (AE (pv 2) (AE (pv 3) (AE (pv 3) AL)))) (AE (CS (AE (Cv AL) (AE (Cv AL) AL))) (AE T2 (AE (CS (AE PY (AE (pv 3) AL))) AL))))))))) (AX (A3 (B4 Gw (pv 7) (Ax HW (Ax DJ (pv 1) AR) AR) (fun _ _=>rfl))))) BL));(case r10=>refine' AN ?s11 ?r11;(case s11=>exact(Bw (BD FH (pv 4) AR (Ag _)) (by exact(AX (by refine' IY ?aw ?ax;(case aw=>refine' B4 Gw ?la ?lb ?lc;(case la=>refine' Cv ?q;(case q=>refine' TZ (n:=8) (ds:=[.none,.tuple [],.str "",.int 0]) ?z;(case z=>rfl)));(case lb=>exact(Ax HW (Ax DJ (pv 1) AR) AR));(case lc=>exact(fun _ _=>rfl)));(case ax=>exact(LU (pv 2) (pv 6) set_list))))) BL));(case r11=>exact(AX (A3 (CS (AE (pv 2) (AE (pv 3) AL)))))))))))))))))),?_⟩
 refine⟨_,rfl,v,t,4,rfl,dt,ot,by decide,fun p R L xs ys H1 e1 hR0 hL0 nRL hp hR hL dR dL hn=>?_⟩;refine⟨p,_,rfl,Ay.of hp,rfl,_,_,rfl,_,_,rfl,rfl,?_⟩;refine⟨_,rfl,_,_,rfl,rfl,(by show(0:Int)<16;decide),?_⟩;obtain⟨wy,hw16,ew⟩:∃wy:Nat,wy<16∧c % 16=(wy:Int):=⟨(c % 16).toNat,by omega,by omega⟩;refine fun vs H2 e2 u2 hvl=>⟨SI (by rw[hvl];decide),fun B hB=>?_⟩;have e3:=AO hB (.lst vs);have h3:upd H2 B (.lst vs) B=some (.lst vs):=AI;generalize upd H2 B (.lst vs)=H3 at e3 h3;have E3:=e2.trans e3;have hxl:xs.length=t.rs.length:=by rw[dR.len,EF]
 have hyl:ys.length=t.ls.length:=by rw[dL.len,CM]
 have hR3:=E3 _ _ hR;have hL3:=E3 _ _ hL;refine⟨_,rfl,_,_,rfl,rfl,⟨by decide,by decide⟩,_,rfl,_,_,rfl,.inl (Ab.of hR3),_,_,rfl,rfl,(by show((xs.length:Nat):Int)≠0;omega),?_⟩;have hxp:(0:Int)<((xs.length:Nat):Int):=by omega
 obtain⟨at_,hat,ea⟩:∃at_:Nat,at_<xs.length∧(c / 16).fmod ((xs.length:Nat):Int)=(at_:Int):=by
  have i1:0≤(c / 16).fmod ((xs.length:Nat):Int):=bS _ hxp;have i2:(c / 16).fmod ((xs.length:Nat):Int)<((xs.length:Nat):Int):=Int.fmod_lt_of_pos _ hxp;exact⟨((c / 16).fmod ((xs.length:Nat):Int)).toNat,by omega,by omega⟩
 rw[show((fun i j:Int=>V.int (i.fmod j)) (c / 16) ((xs.length:Nat):Int))=V.int (at_:Int) from bJ V.int ea];have ew':((fun i j:Int=>V.int (i % j)) c 16)=V.int (wy:Int):=bJ V.int ew;have u3:∀q,H1 q≠none→AW q H3 Iy vs:=fun q hq=>(u2 q (.inr hq)).same e3;have E13:=e1.trans E3;have dR3:=dR.same E3;have dL3:=dL.same E3;have hrl:(BR t.rs).length=xs.length:=by rw[EF];omega
 have hll:(Ae t.ls).length=xs.length:=by rw[CM];omega
 have ok:=ot.row;have nL:∀y∈xs,y≠V.ref L:=fun y hy z=>by
  obtain⟨b,rfl,_,nb,_⟩:=hn y hy;cases z;exact nb rfl
 have L1:H1 L≠none:=by rw[hL];exact fun z=>nomatch z
 have fin:∀(H':Hp) (rd ld:List PD) (ys':List V),AK H H'→H' R=some (.lst xs)→H' L=some (.lst ys')→BK H' rd xs→BK H' ld ys'→(∀e∈rd,e.canLay0=true)→(∀e∈ld,e.canLay0=true)→CG (.tuple [.list rd,.list ld])=false→∀p,H' p=none→Q (.ref p) (upd H' p (.tup [.ref R,.ref L])):=fun H' rd ld ys' e h1 h2 h3 h4 c1 c2 h5 p hp=>by
  have e':=AO hp (.tup [V.ref R,V.ref L]);exact q _ _ _ (e.trans e') (.tup AI (.cons (.lst (e' _ _ h1) (h3.same e')) (.cons (.lst (e' _ _ h2) (h4.same e')) .nil))) (NR (Ft c1) (Ft c2)) h5
 obtain⟨row,hrow⟩:∃row,t.rs[at_]? = some row:=⟨_,List.getElem?_eq_getElem (by omega)⟩;obtain⟨A',zs,ga,hA1,dz⟩:=GW dR hrow;have hzl:zs.length=at_:=by rw[dz.len,CM];exact ok _ _ hrow
 have hzf:(Ae row).length=at_:=by rw[CM];exact ok _ _ hrow
 obtain⟨b',eb',nAR,nAL,hA0⟩:=hn _ (aP ga);cases eb';have A1:H1 A'≠none:=by rw[hA1];exact fun z=>nomatch z
 have R1:H1 R≠none:=by rw[hR];exact fun z=>nomatch z
 have hA3:=E3 _ _ hA1;have dz3:=dz.same E3;have hi1:at_<(BR t.rs).length:=by omega
 have hi2:at_<(Ae t.ls).length:=by omega
 have nRr:∀y∈xs,y≠V.ref R:=fun y hy z=>by
  obtain⟨b,rfl,nb,_⟩:=hn y hy;cases z;exact nb rfl
 have ix:∀n,at_<n→Lb n ((at_:Nat):Int)=some at_:=fun n h=>by unfold Lb;rw[if_pos (by omega),if_pos (by omega)];simp
 rw[ew'];by_cases w9:wy<9
 ·refine⟨_,rfl,_,_,rfl,rfl,_,rfl,BA (fun _=>?_) (fun c1=>absurd (bQ (by omega:(wy:Int)<9)) c1)⟩;have hb:wy<Iy.length:=w9;obtain⟨x,hx,dx⟩:=MB (u3 L L1) hb;have fx:=hU hb;have cx:Iy[wy].canLay0=true:=aa.mp fV _ (bZ hb);refine⟨_,rfl,_,rfl,_,_,_,_,rfl,rfl,Ab.of h3,EX hx,_,rfl,_,rfl,L,ys,_,at_,rfl,rfl,hL3,ix _ (by omega),?_⟩;have u4:SameBut L H3 (upd H3 L (.lst (ys.set at_ x))):=.upd;have nBL:B≠L:=fun z=>by subst z;rw[(e2 _ _ hL)]at hB;cases hB
  have hB4:upd H3 L (.lst (ys.set at_ x)) B=some (.lst vs):=by rw[AJ nBL];exact h3
  have hR4:upd H3 L (.lst (ys.set at_ x)) R=some (.lst xs):=by rw[AJ nRL];exact hR3
  have hL4:upd H3 L (.lst (ys.set at_ x)) L=some (.lst (ys.set at_ x)):=AI;have hA4:upd H3 L (.lst (ys.set at_ x)) A'=some (.lst zs):=by rw[AJ nAL];exact hA3
  have dl4:BK (upd H3 L (.lst (ys.set at_ x))) ((Ae t.ls).set at_ Iy[wy]) (ys.set at_ x):=Em (.but u4 (Kd dx (Ht hL3 dL3)));have dR4:=Lv hL3 u4 dR3 nL;have dL4:=DZ hL3 u4 dL3;have dz4:=DZ hL3 u4 dz3;have v4:AW L (upd H3 L (.lst (ys.set at_ x))) Iy vs:=(u3 L L1).but u4;have w4:AW A' (upd H3 L (.lst (ys.set at_ x))) Iy vs:=AW.two u4 (u3 L L1) (u3 A' A1);have E4:AK H (upd H3 L (.lst (ys.set at_ x))):=fun b o zz=>by
   rw[AJ (AU zz hL0)];exact E13 _ _ zz
  generalize upd H3 L (.lst (ys.set at_ x))=H4 at hB4 hR4 hL4 hA4 dl4 dR4 dL4 dz4 v4 w4 E4;have done:∀p,H4 p=none→Q (.ref p) (upd H4 p (.tup [.ref R,.ref L])):=fin H4 _ _ _ E4 hR4 hL4 dR4 dl4 (FR _) (Lj (HP _) cx) (SO (XI hi2 fx));refine⟨_,rfl,_,_,rfl,rfl,_,rfl,BA (fun c2=>?_) (fun c2=>?_)⟩
  ·have hat0:0<at_:=by have:=aT c2;omega
   refine⟨_,rfl,_,_,rfl,rfl,⟨by decide,by decide⟩,_,_,rfl,rfl,(by show(0:Int)<2;decide),rfl,_,rfl,BA (fun c3=>?_) (fun c3=>?_)⟩
   ·refine⟨Es,fun p1 hp1=>?_⟩;have e5:=AO hp1 (.tup [V.int 1,V.int 1]);have h5:upd H4 p1 (.tup [V.int 1,V.int 1]) p1=some (.tup (Jk q1)):=AI;generalize upd H4 p1 (.tup [V.int 1,V.int 1])=H5 at e5 h5;have hL5:=e5 _ _ hL4;refine⟨_,rfl,_,rfl,L,ys.set at_ x,_,at_,rfl,rfl,hL5,ix _ (by rw[List.length_set];omega),?_⟩;rw[List.set_set];have u6:SameBut L H5 (upd H5 L (.lst (ys.set at_ (.ref p1)))):=.upd;have dl6:BK (upd H5 L (.lst (ys.set at_ (.ref p1)))) (Ae (t.ls.set at_ q1)) (ys.set at_ (.ref p1)):=DZ hL5 u6 (by
     rw[Ae,List.map_set];exact .set (Me h5) (dL4.same e5))
    have dR6:=Lv hL5 u6 (dR4.same e5) nL;have dz6:=DZ hL5 u6 (dz4.same e5);have w6:AW A' (upd H5 L (.lst (ys.set at_ (.ref p1)))) Iy vs:=AW.two u6 (v4.same e5) (w4.same e5);have hB6:upd H5 L (.lst (ys.set at_ (.ref p1))) B=some (.lst vs):=by rw[AJ nBL];exact e5 _ _ hB4
    have hR6:upd H5 L (.lst (ys.set at_ (.ref p1))) R=some (.lst xs):=by rw[AJ nRL];exact e5 _ _ hR4
    have hA6:upd H5 L (.lst (ys.set at_ (.ref p1))) A'=some (.lst zs):=by rw[AJ nAL];exact e5 _ _ hA4
    have hL6:upd H5 L (.lst (ys.set at_ (.ref p1))) L=some (.lst (ys.set at_ (.ref p1))):=AI;have E6:AK H (upd H5 L (.lst (ys.set at_ (.ref p1)))):=fun b o zz=>by
     rw[AJ (AU zz hL0)];exact e5 _ _ (E4 _ _ zz)
    generalize upd H5 L (.lst (ys.set at_ (.ref p1)))=H6 at dl6 dR6 dz6 w6 hB6 hR6 hA6 hL6 E6;have hap:(0:Int)<((at_:Nat):Int):=by omega
    obtain⟨j,hj,ej⟩:∃j:Nat,j<at_∧(c / 128).fmod ((at_:Nat):Int)=(j:Int):=by
     have i1:0≤(c / 128).fmod ((at_:Nat):Int):=bS _ hap;have i2:(c / 128).fmod ((at_:Nat):Int)<((at_:Nat):Int):=Int.fmod_lt_of_pos _ hap;exact⟨((c / 128).fmod ((at_:Nat):Int)).toNat,by omega,by omega⟩
    obtain⟨x',hx',dx6⟩:=MB w6 hb;rw[hx]at hx';cases hx';refine⟨_,rfl,_,rfl,_,_,_,_,rfl,rfl,Ab.of hB6,EX hx,_,rfl,_,rfl,_,_,_,_,rfl,rfl,Ab.of hR6,EX ga,_,rfl,_,_,rfl,rfl,⟨by decide,by decide⟩,_,rfl,_,_,rfl,rfl,(by show((at_:Nat):Int)≠0;omega),A',zs,_,j,rfl,congrArg V.int ej,hA6,(by unfold Lb;rw[if_pos (by omega),if_pos (by omega)];simp),?_⟩;have dR7:=UT ok dR6 ga hA6 hzl (Kd (j:=j) dx6 (Ht hA6 dz6));have dl7:=DZ hA6 (SameBut.upd (o:=.lst (zs.set j x))) dl6;have hR7:upd H6 A' (.lst (zs.set j x)) R=some (.lst xs):=by rw[AJ nAR.symm];exact hR6
    have hL7:upd H6 A' (.lst (zs.set j x)) L=some (.lst (ys.set at_ (.ref p1))):=by rw[AJ nAL.symm];exact hL6
    have E7:AK H (upd H6 A' (.lst (zs.set j x))):=fun b o zz=>by
     rw[AJ (AU zz hA0)];exact E6 _ _ zz
    exact⟨_,rfl,_,rfl,Es,fin _ _ _ _ E7 hR7 hL7 dR7 dl7 (Lj (FR _) (Ft (Lj (HP _) cx))) (HP _) (KD (Ol hi1 (by rw[XI (by omega) fx];rfl)))⟩
   ·exact⟨_,rfl,_,rfl,Es,done⟩
  ·exact⟨_,rfl,_,rfl,Es,done⟩
 refine⟨_,rfl,_,_,rfl,rfl,_,rfl,BA (fun c1=>absurd (aT c1) (by omega)) (fun _=>?_)⟩;by_cases w9':wy=9
 ·subst w9';refine⟨_,rfl,rfl,_,rfl,BA (fun _=>?_) (fun c=>absurd (by decide) c)⟩;refine⟨_,rfl,_,rfl,_,_,_,_,rfl,rfl,Ab.of hR3,EX ga,.inl ⟨rfl,_,Ab.of hA3⟩,Es,fun p1 hp1=>?_⟩;have e4:=AO hp1 (.tup [V.int 1,V.int 1]);have h4:upd H3 p1 (.tup [V.int 1,V.int 1]) p1=some (.tup (Jk q1)):=AI;generalize upd H3 p1 (.tup [V.int 1,V.int 1])=H4 at e4 h4;have hA4:=e4 _ _ hA3;refine⟨A',zs,_,rfl,rfl,hA4,K7 (n:=60) (by omega) (by decide),?_⟩;have n1:p1≠A':=fun z=>by subst z;rw[hA3]at hp1;cases hp1
  have dR5:=UT ok (dR3.same e4) ga hA4 hzl (ds':=Ae row++[BH q1]) ((Ht hA4 (dz3.same e4)).app (.cons (.tup n1 h4 (.cons .int (.cons .int .nil))) .nil));have dl5:=DZ hA4 (SameBut.upd (o:=.lst (zs++[.ref p1]))) (dL3.same e4);have hR5:upd H4 A' (.lst (zs++[.ref p1])) R=some (.lst xs):=by rw[AJ nAR.symm];exact e4 _ _ hR3
  have hL5:upd H4 A' (.lst (zs++[.ref p1])) L=some (.lst ys):=by rw[AJ nAL.symm];exact e4 _ _ hL3
  have E5:AK H (upd H4 A' (.lst (zs++[.ref p1]))):=fun b o zz=>by
   rw[AJ (AU zz hA0)];exact e4 _ _ (E13 _ _ zz)
  refine⟨_,rfl,rfl,_,rfl,BA (fun c=>absurd c (by decide)) (fun _=>?_)⟩;refine⟨_,rfl,rfl,_,rfl,BA (fun c=>absurd c (by decide)) (fun _=>?_)⟩;refine⟨_,rfl,rfl,_,rfl,BA (fun c=>absurd c (by decide)) (fun _=>?_)⟩;refine⟨_,rfl,rfl,_,rfl,BA (fun c=>absurd c (by decide)) (fun _=>?_)⟩;refine⟨_,rfl,rfl,_,rfl,BA (fun c=>absurd c (by decide)) (fun _=>?_)⟩;refine⟨_,rfl,rfl,_,rfl,BA (fun c=>absurd c (by decide)) (fun _=>?_)⟩;exact⟨_,rfl,_,rfl,Es,fin _ _ _ _ E5 hR5 hL5 dR5 dl5 (Lj (FR _) (Ft (fJ (HP _) fun e he=>by rw[List.mem_singleton.mp he];exact Qp q1))) (HP _) (KD (Ol hi1 (by rw[show decide (FY (.list (Ae row++[BH q1]))=at_)=false from bC (by show(Ae row++[BH q1]).length≠at_;rw[List.length_append,hzf];simp)];simp)))⟩
 refine⟨_,rfl,rfl,_,rfl,BA (fun c=>absurd c (by simp;omega)) (fun _=>?_)⟩;by_cases w10:wy=10
 ·subst w10;refine⟨_,rfl,rfl,_,rfl,BA (fun _=>?_) (fun c=>absurd (by decide) c)⟩;refine⟨_,rfl,.inl ⟨rfl,_,Ab.of hL3⟩,Es,fun p1 hp1=>?_⟩;have e4:=AO hp1 (.tup [V.int 0,V.int 1]);have h4:upd H3 p1 (.tup [V.int 0,V.int 1]) p1=some (.tup (Jk q0)):=AI;generalize upd H3 p1 (.tup [V.int 0,V.int 1])=H4 at e4 h4;have hL4:=e4 _ _ hL3;refine⟨L,ys,_,rfl,rfl,hL4,K7 (n:=60) (by omega) (by decide),?_⟩;have u5:SameBut L H4 (upd H4 L (.lst (ys++[.ref p1]))):=.upd;have dl5:BK (upd H4 L (.lst (ys++[.ref p1]))) (Ae (t.ls++[q0])) (ys++[.ref p1]):=DZ hL4 u5 (by
   rw[X2];exact(dL3.same e4).app (.cons (Me h4) .nil))
  have dR5:=Lv hL4 u5 (dR3.same e4) nL;have hR5:upd H4 L (.lst (ys++[.ref p1])) R=some (.lst xs):=by rw[AJ nRL];exact e4 _ _ hR3
  have hL5:upd H4 L (.lst (ys++[.ref p1])) L=some (.lst (ys++[.ref p1])):=AI;have E5:AK H (upd H4 L (.lst (ys++[.ref p1]))):=fun b o zz=>by
   rw[AJ (AU zz hL0)];exact e4 _ _ (E13 _ _ zz)
  refine⟨_,rfl,rfl,_,rfl,BA (fun c=>absurd c (by decide)) (fun _=>?_)⟩;refine⟨_,rfl,rfl,_,rfl,BA (fun c=>absurd c (by decide)) (fun _=>?_)⟩;refine⟨_,rfl,rfl,_,rfl,BA (fun c=>absurd c (by decide)) (fun _=>?_)⟩;refine⟨_,rfl,rfl,_,rfl,BA (fun c=>absurd c (by decide)) (fun _=>?_)⟩;refine⟨_,rfl,rfl,_,rfl,BA (fun c=>absurd c (by decide)) (fun _=>?_)⟩;exact⟨_,rfl,_,rfl,Es,fin _ _ _ _ E5 hR5 hL5 dR5 dl5 (FR _) (HP _) (VR (by rw[EF,CM,List.length_append];simp;omega))⟩
 refine⟨_,rfl,rfl,_,rfl,BA (fun c=>absurd c (by simp;omega)) (fun _=>?_)⟩;by_cases w11:wy=11
 ·subst w11;refine⟨_,rfl,rfl,_,rfl,BA (fun _=>?_) (fun c=>absurd (by decide) c)⟩;refine⟨_,rfl,_,rfl,_,rfl,_,rfl,L,ys,rfl,Ab.of hL3,fun p1 hp1=>?_⟩;rw[Z6];have e4:=AO hp1 (.lst (ys.take (ys.length-1)));have h4:upd H3 p1 (.lst (ys.take (ys.length-1))) p1=some (.lst (ys.take (ys.length-1))):=AI;generalize upd H3 p1 (.lst (ys.take (ys.length-1)))=H4 at e4 h4;refine⟨Es,fun p2 hp2=>?_⟩;have e5:=AO hp2 (.tup [V.ref R,V.ref p1]);refine q _ _ (.tuple [.list (BR t.rs),.list ((Ae t.ls).take (ys.length-1))]) ((E13.trans e4).trans e5) (.tup AI (.cons (.lst ((e4.trans e5) _ _ hR3) (dR3.same (e4.trans e5))) (.cons (.lst (e5 _ _ h4) ((dL3.take _).same (e4.trans e5))) .nil))) (NR (Ft (FR _)) (Ft fun e he=>HP _ e (List.mem_of_mem_take he))) (VR ?_);rw[List.length_take,EF,CM];omega
 refine⟨_,rfl,rfl,_,rfl,BA (fun c=>absurd c (by simp;omega)) (fun _=>?_)⟩;by_cases w12:wy=12
 ·subst w12;refine⟨_,rfl,rfl,_,rfl,BA (fun _=>?_) (fun c=>absurd (by decide) c)⟩;refine⟨_,rfl,R,xs,rfl,.inl ⟨Ab.of hR3,fun p1 hp1=>?_⟩⟩;have e4:=AO hp1 (.tup xs);have h4:upd H3 p1 (.tup xs) p1=some (.tup xs):=AI;generalize upd H3 p1 (.tup xs)=H4 at e4 h4;refine⟨_,rfl,Es,fun p2 hp2=>?_⟩;have e5:=AO hp2 (.tup [V.ref p1,V.ref L]);exact q _ _ (.tuple [.tuple (BR t.rs),.list (Ae t.ls)]) ((E13.trans e4).trans e5) (.tup AI (.cons (.tup (e5 _ _ h4) (dR3.same (e4.trans e5))) (.cons (.lst ((e4.trans e5) _ _ hL3) (dL3.same (e4.trans e5))) .nil))) (NR (P9 (FR _)) (Ka _)) (KD rfl)
 refine⟨_,rfl,rfl,_,rfl,BA (fun c=>absurd c (by simp;omega)) (fun _=>?_)⟩;by_cases w13:wy=13
 ·subst w13;refine⟨_,rfl,rfl,_,rfl,BA (fun _=>?_) (fun c=>absurd (by decide) c)⟩;refine⟨_,rfl,_,rfl,L,ys,rfl,.inl ⟨Ab.of hL3,fun p1 hp1=>?_⟩⟩;have e4:=AO hp1 (.tup ys);have h4:upd H3 p1 (.tup ys) p1=some (.tup ys):=AI;generalize upd H3 p1 (.tup ys)=H4 at e4 h4;refine⟨Es,fun p2 hp2=>?_⟩;have e5:=AO hp2 (.tup [V.ref R,V.ref p1]);exact q _ _ (.tuple [.list (BR t.rs),.tuple (Ae t.ls)]) ((E13.trans e4).trans e5) (.tup AI (.cons (.lst ((e4.trans e5) _ _ hR3) (dR3.same (e4.trans e5))) (.cons (.tup (e5 _ _ h4) (dL3.same (e4.trans e5))) .nil))) (NR (Ft (FR _)) (P9 (HP _))) (SO rfl)
 refine⟨_,rfl,rfl,_,rfl,BA (fun c=>absurd c (by simp;omega)) (fun _=>?_)⟩;by_cases w14:wy=14
 ·subst w14;refine⟨_,rfl,rfl,_,rfl,BA (fun _=>?_) (fun c=>absurd (by decide) c)⟩;have drl:DU H3 (.list (BR t.rs)) (.ref R):=.lst hR3 dR3;have dll:DU H3 (.list (Ae t.ls)) (.ref L):=.lst hL3 dL3;refine⟨_,rfl,_,rfl,Es,fun p1 hp1=>?_⟩;have f1:=AO hp1 (.lst [V.ref R,V.ref L]);have g1:upd H3 p1 (.lst [V.ref R,V.ref L]) p1=some (.lst [V.ref R,V.ref L]):=AI;generalize upd H3 p1 (.lst [V.ref R,V.ref L])=I1 at f1 g1;refine⟨_,rfl,(by show 1≤sizeLine;decide),fun p2 hp2=>?_⟩;have f2:=AO hp2 (.tup [V.ref R]);have g2:upd I1 p2 (.tup [V.ref R]) p2=some (.tup [V.ref R]):=AI;generalize upd I1 p2 (.tup [V.ref R])=I2 at f2 g2;refine⟨_,rfl,_,rfl,_,rfl,(by show 3≤sizeLine;decide),fun p3 hp3=>?_⟩;have f3:=AO hp3 (.tup [V.ref R,V.ref L,V.ref L]);have g3:upd I2 p3 (.tup [V.ref R,V.ref L,V.ref L]) p3=some (.tup [V.ref R,V.ref L,V.ref L]):=AI;generalize upd I2 p3 (.tup [V.ref R,V.ref L,V.ref L])=I3 at f3 g3;refine⟨(by show 0≤sizeLine;decide),fun p4 hp4=>?_⟩;have f4:=AO hp4 (.lst []);have g4:upd I3 p4 (.lst []) p4=some (.lst []):=AI;generalize upd I3 p4 (.lst [])=I4 at f4 g4;refine⟨(by show 0≤sizeLine;decide),fun p5 hp5=>?_⟩;have f5:=AO hp5 (.lst []);have g5:upd I4 p5 (.lst []) p5=some (.lst []):=AI;generalize upd I4 p5 (.lst [])=I5 at f5 g5;refine⟨Es,fun p6 hp6=>?_⟩;have f6:=AO hp6 (.tup [V.ref p4,V.ref p5]);have g6:upd I5 p6 (.tup [V.ref p4,V.ref p5]) p6=some (.tup [V.ref p4,V.ref p5]):=AI;generalize upd I5 p6 (.tup [V.ref p4,V.ref p5])=I6 at f6 g6;refine⟨_,rfl,Es,fun p7 hp7=>?_⟩;have f7:=AO hp7 (.tup [V.BF,V.ref L]);have g7:upd I6 p7 (.tup [V.BF,V.ref L]) p7=some (.tup [V.BF,V.ref L]):=AI;generalize upd I6 p7 (.tup [V.BF,V.ref L])=I7 at f7 g7;refine⟨(by show 7≤sizeLine;decide),fun p8 hp8=>?_⟩;have f8:=AO hp8 (.lst [V.BF,V.ref p1,V.ref p2,V.ref p3,V.ref p6,V.str "table",V.ref p7]);have g8:upd I7 p8 (.lst [V.BF,V.ref p1,V.ref p2,V.ref p3,V.ref p6,V.str "table",V.ref p7]) p8=some (.lst [V.BF,V.ref p1,V.ref p2,V.ref p3,V.ref p6,V.str "table",V.ref p7]):=AI;generalize upd I7 p8 (.lst [V.BF,V.ref p1,V.ref p2,V.ref p3,V.ref p6,V.str "table",V.ref p7])=I8 at f8 g8;have F78:=f7.trans f8;have F58:=(f6.trans F78);have F48:=f5.trans F58;have F38:=f4.trans F48;have F28:=f3.trans F38;have F18:=f2.trans F28;have F08:=f1.trans F18;have E8:=E13.trans F08;have drl:=drl.same F08;have dll:=dll.same F08;obtain⟨j,hj,ej⟩:∃j:Nat,j<7∧c / 16 % 7=(j:Int):=⟨(c / 16 % 7).toNat,by omega,by omega⟩;have fin7:∀(x:V) (d:PD),([V.BF,V.ref p1,V.ref p2,V.ref p3,V.ref p6,V.str "table",V.ref p7]:List V)[j]? = some x→DU I8 d x→d.canLay0=true→CG d=false→(∃y,([V.BF,V.ref p1,V.ref p2,V.ref p3,V.ref p6,V.str "table",V.ref p7]:List V)[j]? = some y∧Q y I8):=fun x d h1 h2 hc h3=>⟨x,h1,q _ _ d E8 h2 hc h3⟩;have pick:∃y,([V.BF,V.ref p1,V.ref p2,V.ref p3,V.ref p6,V.str "table",V.ref p7]:List V)[j]? = some y∧Q y I8:=by
   have:j=0∨j=1∨j=2∨j=3∨j=4∨j=5∨j=6:=by omega
   rcases this with rfl|rfl|rfl|rfl|rfl|rfl|rfl
   ·exact fin7 _ .none rfl .BF rfl rfl
   ·exact fin7 _ (.list [.list (BR t.rs),.list (Ae t.ls)]) rfl (.lst (F18 _ _ g1) (.cons drl (.cons dll .nil))) (Ft fun e he=>by rcases aJ.mp he with rfl|he;exact Ft (FR _);rw[List.mem_singleton.mp he];exact Ka _) rfl
   ·exact fin7 _ (.tuple [.list (BR t.rs)]) rfl (.tup (F28 _ _ g2) (.cons drl .nil)) (P9 fun e he=>by rw[List.mem_singleton.mp he];exact Ft (FR _)) rfl
   ·exact fin7 _ (.tuple [.list (BR t.rs),.list (Ae t.ls),.list (Ae t.ls)]) rfl (.tup (F38 _ _ g3) (.cons drl (.cons dll (.cons dll .nil)))) (P9 fun e he=>by rcases aJ.mp he with rfl|he;exact Ft (FR _);rcases aJ.mp he with rfl|he;exact Ka _;rw[List.mem_singleton.mp he];exact Ka _) rfl
   ·exact fin7 _ (.tuple [.list [],.list []]) rfl (.tup (F78 _ _ g6) (.cons (.lst (F48 _ _ g4) .nil) (.cons (.lst (F58 _ _ g5) .nil) .nil))) (by decide) rfl
   ·exact fin7 _ (.str "table") rfl .str (by decide +kernel) rfl
   ·exact fin7 _ (.tuple [.none,.list (Ae t.ls)]) rfl (.tup (f8 _ _ g7) (.cons .BF (.cons dll .nil))) (NR rfl (Ka _)) (KD rfl)
  obtain⟨y,hy,qy⟩:=pick;refine⟨_,rfl,_,rfl,_,_,rfl,rfl,⟨by decide,by decide⟩,_,_,rfl,rfl,(by show(0:Int)<7;decide),_,_,_,_,rfl,rfl,Ab.of g8,?_,qy⟩;show FG _ (c / 16 % 7)=_;rw[ej];exact EX hy
 refine⟨_,rfl,rfl,_,rfl,BA (fun c=>absurd c (by simp;omega)) (fun _=>?_)⟩;obtain rfl:wy=15:=by omega
 refine⟨_,rfl,rfl,_,rfl,BA (fun _=>?_) (fun c=>absurd (by decide) c)⟩;refine fun vs' H4 e4 u4 hl4=>⟨SI (by rw[hl4];decide),fun B' hB'=>?_⟩;have e5:=AO hB' (.lst vs');have h5:upd H4 B' (.lst vs') B'=some (.lst vs'):=AI;generalize upd H4 B' (.lst vs')=H5 at e5 h5;have E35:=e4.trans e5;obtain⟨j,hj,ej⟩:∃j:Nat,j<4∧c / 64 % 4=(j:Int):=⟨(c / 64 % 4).toNat,by omega,by omega⟩;have R3:H3 R≠none:=by rw[hR3];exact fun z=>nomatch z
 have u5:=(u4 R (.inr R3)).same e5;have pk:∃x d,vs'[j]? = some x∧Dt R H5 d x∧d.canLay0=true∧Ca d=false:=by
  have hjl:j<([.none,.tuple [],.str "",.int 0]:List PD).length:=hj;obtain⟨x,h1,h2⟩:=MB u5 hjl;refine⟨x,_,h1,h2,?_⟩;have:j=0∨j=1∨j=2∨j=3:=by omega
  rcases this with rfl|rfl|rfl|rfl<;>exact⟨by kernel_rfl,rfl⟩
 obtain⟨x,d,hx,dx,cx,fx⟩:=pk;have hR5:=E35 _ _ hR3;refine⟨_,rfl,_,_,rfl,rfl,⟨by decide,by decide⟩,_,_,rfl,rfl,(by show(0:Int)<4;decide),_,_,_,_,rfl,rfl,Ab.of h5,(by show FG _ (c / 64 % 4)=_;rw[ej];exact EX hx),_,rfl,_,rfl,R,xs,_,at_,rfl,rfl,hR5,ix _ hat,?_⟩;have u6:SameBut R H5 (upd H5 R (.lst (xs.set at_ x))):=.upd;have dR6:BK (upd H5 R (.lst (xs.set at_ x))) ((BR t.rs).set at_ d) (xs.set at_ x):=Em (.but u6 (Kd dx (QK hR5 (dR3.same E35) nRr)));have dl6:=DZ hR5 u6 (dL3.same E35);have hL6:upd H5 R (.lst (xs.set at_ x)) L=some (.lst ys):=by rw[AJ nRL.symm];exact E35 _ _ hL3
 have hR6:upd H5 R (.lst (xs.set at_ x)) R=some (.lst (xs.set at_ x)):=AI;have E6:AK H (upd H5 R (.lst (xs.set at_ x))):=fun b o zz=>by
  rw[AJ (AU zz hR0)];exact E35 _ _ (E13 _ _ zz)
 generalize upd H5 R (.lst (xs.set at_ x))=H6 at dR6 dl6 hL6 hR6 E6;refine⟨_,rfl,_,rfl,Es,fun p2 hp2=>?_⟩;have e7:=AO hp2 (.tup [V.ref R,V.ref L]);exact q _ _ (.tuple [.list ((BR t.rs).set at_ d),.list (Ae t.ls)]) (E6.trans e7) (.tup AI (.cons (.lst (e7 _ _ hR6) (dR6.same e7)) (.cons (.lst (e7 _ _ hL6) (dl6.same e7)) .nil))) (NR (Ft (Lj (FR _) cx)) (Ka _)) (KD (Ol hi1 (by rw[fx];rfl)))
end
section
variable{P:Program}{w:World}{K:Fg}{mg:Str→Option VL}{base:Heap}{f:AD}{fd:FuncData}
def YC:Aa ["_law_script", "_law_table_here", "_law_cell_here", "_law_odd", "_law_tree", "_law_which", "_law_good"] ["_law_script"] (AV O9):=CK
def Qv(Cj:MD)(CC:MD)(Cn:MD)(Be:MD):DF :=
 (Ar (B1 4 (Aj Cj (AB (Aj CC (AB (nm 0) (AB (fC (.int 3)) AG))) AG)))
 (Ar (Di (EI KN (AB (fC (.int 3)) AG)) (F4 5)
  (HK (CJ (Et true) (Aj Cn (AB (nm 5) (AB (nm 3) (AB (nm 4) (AB (fC (.int 9)) AG))))) (BJ (AB (fC (.bool true)) (AB (fC (.bool false)) (AB (fC (.bool false)) (AB (fC (.bool true)) AG))))))
   (CI (fC (.bool false)))
   D4))
 (Ar (Di (GZ (BJ (AB (fC (.int 0)) (AB (fC (.int 3)) AG)))) (F4 5)
  (HK (CJ (Et true) (Aj Cn (AB (nm 5) (AB (nm 1) (AB (nm 4) (AB (fC (.int 3)) AG))))) (BJ (AB (fC (.bool false)) (AB (fC (.bool true)) (AB (fC (.bool false)) (AB (fC (.bool true)) AG))))))
   (CI (fC (.bool false)))
   D4))
 (Ar (B1 6 (A8 O2 (Aj Be (AB (fC (.int 5)) AG)) (A8 GY (nm 2) (fC (.int 17)))))
 (CI (A8 (Et false) (GI (Dx 1) HH (Aj Cn (AB (nm 1) (AB (nm 2) (AB (nm 3) (AB (A8 GY (nm 4) (fC (.int 7))) AG))))) [none,none,some 1,some 6,some 2] (EI KN (AB (fC (.int 4)) AG))) (BJ (AB (BJ AG) (AB (BJ AG) (AB (BJ AG) (AB (BJ AG) AG)))))))))))
def ZM{k:Nat}{Cj:MD}{CC:MD}{Cn:MD}{Be:MD}
 {K2:AD}{KO:FuncData}(DD:Fn K mg "_law_bad_tree" FP ["_law_cell_here"] K2 KO)(EC:AQ P w K mg base Ah k K2 KO ["_law_cell_here"] (Bz Cj))
 {N1:AD}{M8:FuncData}(CP:Fn K mg "_law_cell" GB ["_law_script", "_law_k"] N1 M8)(C4:AQ P w K mg base Ah k N1 M8 ["_law_script", "_law_k"] (Bz CC))
 {Mk:AD}{MK:FuncData}(C8:Fn K mg "_law_kinds" G8 ["_law_which", "_law_table_here", "_law_tree", "_law_most"] Mk MK)(Dh:AQ P w K mg base Ah k Mk MK ["_law_which", "_law_table_here", "_law_tree", "_law_most"] (Bz Cn))
 {Fd:AD}{Ep:FuncData}(Ci:Fn K mg "_law_trees" FW ["_law_most"] Fd Ep)(C9:AQ P w K mg base Ah k Fd Ep ["_law_most"] (Bz Be))(BP:mg "range" = none)(cdv:VL)(A:Around)(outer:List Env)(s:SD)(H:Hp)(E:XK)(hr:Cs k (A.deeper (PyProof.Rows.envOfC "law" (AV O9) s.heap.objs.size f cdv))) :
  Mc (Cp Ah P w K mg base ["_law_script", "_law_table_here", "_law_cell_here", "_law_odd", "_law_tree", "_law_which", "_law_good"] "law" (AV O9) f cdv A outer s H E).Gv ((DH O9).drop 3) (Qv Cj CC Cn Be):=by
 have sc:=YC;exact(AY (Bd (i:=4) sc.nd rfl (Or.inl rfl) (BM DD EC hr rfl (AA (BM CP C4 hr rfl (AA (AH (pv 0)) (AA AM AF))) AF)))
 (AY (Dk aN rfl (Gs rfl BP (AA AM AF)) (Dd (Az (i:=5) sc.nd rfl (Or.inl rfl)))
  (Ad (Fm (Cd (V8 (by have:=hr.units;exact this)) (BM C8 Dh hr rfl (AA (AH (pv 5)) (AA (AH (pv 3)) (AA (AH (pv 4)) (AA AM AF))))) (Aq (AA IJ (AA IJ (AA IJ (AA IJ AF))))) (Ag _))
   (Ad (Bt IJ))
   De)))
 (AY (Dk aN rfl (Eo (Aq (AA AM (AA AM AF)))) (Dd (Az (i:=5) sc.nd rfl (Or.inl rfl)))
  (Ad (Fm (Cd (V8 (by have:=hr.units;exact this)) (BM C8 Dh hr rfl (AA (AH (pv 5)) (AA (AH (pv 1)) (AA (AH (pv 4)) (AA AM AF))))) (Aq (AA IJ (AA IJ (AA IJ (AA IJ AF))))) (Ag _))
   (Ad (Bt IJ))
   De)))
 (AY (Bd (i:=6) sc.nd rfl (Or.inr rfl) (NL (BM Ci C9 hr rfl (AA AM AF)) (A7 Dz (AH (pv 2)) AM) (fun _ _=>rfl)))
 (Ad (Bt (gX (IC (by have:=hr.units;exact this)) (Jb [".0", "_law_which", "_law_table_here", "_law_good", "_law_cell_here"] 1 [none,none,some 1,some 6,some 2] (Gs rfl BP (AA AM AF)) (fun _ _ _ _ _=>Hm) (fun _ _ _ _ _=>(BM C8 Dh hr rfl (AA (AH (pv 1)) (AA (AH (pv 2)) (AA (AH (pv 3)) (AA (A7 Dz (AH (pv 4)) AM) AF))))))) (Aq (AA (Aq AF) (AA (Aq AF) (AA (Aq AF) (AA (Aq AF) AF))))) (Ag _))))))))
end
def Xb(n:Nat)(g:Tr→Nat):Sp:=fun vs H Q _=>∃v t,vs=[v]∧Tv H t v∧t.deep<n∧n≤60∧t.Ac≤8∧∀H',AK H H'→Q (.int (g t)) H'
def Sr{P:Program}{w:World}{K:Fg}{mg:Str→Option VL}{base:Heap}{CX:HZ}{k:Nat}{f:AD}{fd:FuncData}{ps:List Str}{sp:Sp}(h:∀vs H Q E,¬sp vs H Q E):AQ P w K mg base CX k f fd ps sp :=
 ⟨fun _ _ _ _ z=>(h _ _ _ _ z).elim,fun _ _ _ _ _ _ _ _ _ _ _ _ _ z=>(h _ _ _ _ z).elim⟩
section
variable{P:Program}{w:World}{K:Fg}{mg:Str→Option VL}{base:Heap}{f g g1 g2 g3:AD}{fd gd gd1 gd2 gd3:FuncData}
def Px:Aa ["tree"] ["tree"] (AV Dg):=CK
def Kz(A4:Fn K mg "knots_within" Dg ["tree"] f fd)(HN:mg "sum" = none):∀n,AQ P w K mg base Ah n f fd ["tree"] (Xb n Tr.Ac)
 |0=>Sr fun _ _ _ _ ⟨_,_,_,_,h,_⟩=>absurd h (ae _)
 |n+1=>by
  have sc:=Px;have Bb:=Kz A4 HN n;refine A4.F.ok (k:=n) sc (fun vs H Q E h=>?_) (fun cdv A outer s H vs Q E hr h=>?_)
  ·obtain⟨v,t,rfl,_⟩:=h
   rfl
  obtain⟨v,t,rfl,⟨a,xs,rfl,ha,ht⟩,hd,hn,hk,q⟩:=h;refine⟨_,(AX (A3 (Ax Mv AR (BC (OZ rfl) rfl HN PyProof.Rows.boot_sum (AE (Gh [".0", "bough"] 1 [none,none] (SQ (pv 0)) (fun _ _ _ _ _=>Ex) (fun _ _ _ _ _=>(Bp A4 Bb hr rfl (AE (pv 1) AL)))) AL))))),?_⟩;have hlen:=ht.len;have hsz:xs.length<8:=by rw[hlen];have:=Tr.Mw t;omega
  refine⟨_,rfl,a,rfl,⟨_,Ay.of ha⟩,fun D hD=>G5 (n:=xs.length) (fun i ys H'=>AK H H'∧ys=(t.bs.take i).map fun c=>V.int (c.Ac:Nat)) ?_ ?_ ?_⟩
  ·exact⟨AO hD _,by simp⟩
  ·rintro i ys H0 hi ⟨e0,rfl⟩ hD0;have hi':i<t.bs.length:=by omega
   refine⟨⟨xs,xs[i],Ay.of (e0 _ _ ha),by simp[hi]⟩,?_,fun x H' y=>?_⟩
   ·rw[List.length_map,List.length_take];exact ay (Nat.min_le_left _ _) (aM (Nat.lt_trans hi hsz) (by rw[sizeLine_eq];decide))
   ·obtain⟨rfl,y⟩:=y;have hx:=y xs (Ay.of (e0 _ _ ha));obtain⟨c,hc,tc⟩:=ht.get hx;have hcm:c∈t.bs:=aP hc;have hcd:=Tr.S8 hcm;have hck:=Tr.K6 hcm;unfold IB;refine EO ⟨_,rfl,x,c,rfl,tc.same e0,by omega,by omega,by omega,fun H2 e2=>⟨e2 _ _ hD0,Ez hi ⟨?_,?_⟩⟩⟩
    ·exact fun b o z=>by
      rw[AJ (AU z hD)];exact e2 _ _ (e0 _ _ z)
    ·rw[List.take_succ,hc];simp
  ·rintro ys H0 ⟨e0,rfl⟩ hD0;refine⟨⟨xs,Ay.of (e0 _ _ ha),Nat.le_refl _⟩,?_⟩;refine⟨D,t.bs.map fun c=>(c.Ac:Int),rfl,Ab.of ?_,_,_,rfl,rfl,?_⟩
   ·rw[hD0,hlen,List.take_length,List.map_map]
    rfl
   ·show Q (.int (1+(t.bs.map fun c=>(c.Ac:Int)).sum)) H0;rw[Tr.RC];exact q H0 e0
end
def lJ{P:Program}{w:World}{K:Fg}{mg:Str→Option VL}{base:Heap}{f:AD}{fd:FuncData}{k:Nat}{ps:List Str}(F:AQ P w K mg base Ah k f fd ps (Xb 8 Tr.Ac)):AQ P w K mg base Ah k f fd ps gk :=
 F.imp fun vs H Q E z=>by
  obtain⟨v,u,rfl,tv,hd,hk,q⟩:=z;exact⟨v,u,rfl,tv,hd,by decide,hk,q⟩
def YW{n:Nat}(ih:∀ {d:PD} {t:Tr},Sm n d→Au d=some t→t.deep<n):∀ {ds:List PD} {t:Tr},Bk ds=some t→(∀e∈ds,Sm n e)→t.deep≤n
 |[],t,h,_=>by rw[Bk]at h;cases h;exact bE _
 |d::ds,t,h,k=>by
  rw[Bk]at h;cases k1:Au d with
  |none=>rw[k1]at h;simp at h
  |some b =>
   cases k2:Bk ds with
   |none=>rw[k1,k2]at h;simp at h
   |some r =>
    rw[k1,k2]at h;cases h;have:=ih (k d aR) k1;have:=YW ih k2 fun e he=>k e (aO _ he);rw[Tr.deep];omega
def VH:∀ {n:Nat} {d:PD} {t:Tr},Sm n d→Au d=some t→t.deep<n
 |0,d,t,h,k=>by cases d<;>first|exact h.elim|(simp[Au]at k)
 |n+1,d,t,h,k=>by
  cases d with
  |tuple ds =>
   obtain⟨m,e,_,hall⟩:=h.un (.inl rfl);cases e;rw[Au]at k;exact Nat.lt_succ_of_le (YW (fun a b=>VH a b) k hall)
  |none=>simp[Au]at k
  |bool _=>simp[Au]at k
  |int _=>simp[Au]at k
  |str _=>simp[Au]at k
  |list _=>simp[Au]at k
  |dict _=>simp[Au]at k
def VI(n:Nat)(g:PD→Bool):Sp:=fun vs H Q _=>∃l d v m,vs=[v]∧n=m+1∧m≤50∧Sm m d∧Dt l H d v∧∀H',AK H H'→Q (.bl (g d)) H'
def YB{d:PD}(h:DM d=false):Ce d=false:=bc (by cases d<;>first|(simp[Au];done)|(simp[DM]at h))
section
variable{P:Program}{w:World}{K:Fg}{mg:Str→Option VL}{base:Heap}{f g g1 g2 g3 g4:AD}{fd gd gd1 gd2 gd3 gd4:FuncData}
def WO:Aa ["thing", "k", "bough"] ["thing"] (AV ND):=CK
def OG(Ee:Fn K mg "is_tree" ND ["thing"] f fd)(Ai:mg "isinstance" = none)(Bj:mg "tuple" = none)(CQ:mg "enumerate" = none) :
  ∀n,AQ P w K mg base Ah n f fd ["thing"] (VI n Ce)
 |0=>Sr fun _ _ _ _ ⟨_,_,_,_,_,h,_⟩=>absurd h (Nat.succ_ne_zero _).symm
 |n+1=>by
  have sc:=WO;have IX:=OG Ee Ai Bj CQ n;refine Ee.F.ok (k:=n) sc (fun vs H Q E h=>?_) (fun cdv A outer s H vs Q E hr h=>?_)
  ·obtain⟨l,d,v,m,rfl,_⟩:=h
   rfl
  obtain⟨l,d,v,m,rfl,hm,hm5,hs,hd,q⟩:=h;have hm:n=m:=by omega
  subst hm;refine⟨_,(AN (Bw (FX (FU (BC GP rfl Ai aq (AE (pv 0) (AE (Gu (v:=.ty "tuple") rfl Bj bA rfl) AL)))))
  (AX (A3 FD))
  BL)
 (AN (F9 aN rfl (VD rfl CQ (AE (pv 0) AL)) (KP rfl (CV (Az (i:=1) sc.nd rfl (Or.inl rfl)) (CV (Az (i:=2) sc.nd rfl (Or.inl rfl)) Hu)))
  (AN (Bw (PW.pt (Sb (BD JT (pv 1) AR (Ag _)) (Na (BD (YA (by have:=hr.units;exact this)) (pv 2) (B4 Cg (pv 0) (Ax Ms (pv 1) AR) (fun _ _=>rfl)) (Ag _)))))
   (AX Ul)
   BL)
  (AX (Bw (PW.pt (Kx (FX (FU (Bp Ee IX hr rfl (AE (pv 2) AL)))) (KL (PW.pt (Sb (BD JT (pv 1) AR (Ag _)) (Na (BD (dM (by have:=hr.units;exact this)) (pv 2) (B4 Cg (pv 0) (Ax Ms (pv 1) AR) (fun _ _=>rfl)) (Ag _))))))))
   (AX (A3 FD))
   BL))))
 (AX (A3 FD)))),?_⟩
  refine⟨_,rfl,_,_,_,_,rfl,TC,hd.ty,Om K d hd.nodict,_,rfl,?_⟩;by_cases hT:DM d=false
  ·rw[hT];have:=q H (.refl H);rw[YB hT]at this;exact EO this
  have hT:DM d=true:=by simpa using hT
  rw[hT];refine Mj ?_;obtain⟨ds,rfl⟩:∃ds,d=.tuple ds:=by cases d<;>first|exact⟨_,rfl⟩|exact absurd hT (by simp[DM])
  obtain⟨m,rfl,hw,hall⟩:=hs.un (.inl rfl);rw[Dt]at hd;obtain⟨a,xs,rfl,na,ha,ht⟩:=hd;have hlen:=ht.len;refine⟨_,rfl,a,rfl,⟨_,Ay.of ha⟩,a6 (xs:=xs) (fun i σ H'=>∃r1 r2,σ=[some (.ref a),r1,r2]∧AK H H'∧(∀j c,j<i→ds[j]? = some c→Ce c=true)∧∀(j:Nat) (d e:PD) (b c:Tr),j+1<i→ds[j]? = some d→ds[j+1]? = some e→Au d=some b→Au e=some c→Tr.lt b c=false) ?_ ?_ ?_ ?_⟩
  ·exact⟨_,_,rfl,AK.refl _,fun j c h=>absurd h (ae _),fun j d e b c h=>absurd h (ae _)⟩
  ·rintro i σ H' _ ⟨r1,r2,rfl,e,_⟩;exact Ay.of (e _ _ ha)
  ·rintro i x σ H0 hx ⟨r1,r2,rfl,e0,hf,hl⟩ p hp;obtain⟨c,hc,tc⟩:=ht.get hx;have hcm:c∈ds:=aP hc;have hcs:=hall c hcm;have s1:=AO hp (.tup [.int (i:Nat),x]);have e1:=e0.trans s1;refine⟨p,_,rfl,Ay.of AI,rfl,_,_,rfl,_,_,rfl,rfl,?_⟩;have at1:=e1.tup (Ay.of (K:=K) ha);have tc1:=tc.same e1;have next:∀(H':Hp),AK (upd H0 p (.tup [.int (i:Nat),x])) H'→Ce c=true→(∀(d:PD) (b t:Tr),0<i→ds[i-1]? = some d→Au d=some b→Au c=some t→Tr.lt b t=false) →
     ∃r1 r2,[some (V.ref a),some (V.int (i:Nat)),some x]=[some (.ref a),r1,r2]∧AK H H'∧(∀j c,j<i+1→ds[j]? = some c→Ce c=true)∧∀(j:Nat) (d e:PD) (b c:Tr),j+1<i+1→ds[j]? = some d→ds[j+1]? = some e→Au d=some b→Au e=some c→Tr.lt b c=false:=fun H' e' h1 h2=>by
    refine⟨_,_,rfl,e1.trans e',fun j d hj hjd=>?_,fun j d e b t hj hd he hb ht=>?_⟩
    ·by_cases z:j=i
     ·subst z;rw[hc]at hjd;cases hjd;exact h1
     ·exact hf j d (by omega) hjd
    ·by_cases z:j+1=i
     ·subst z;rw[hc]at he;cases he;exact h2 d b t (by omega) (by simpa using hd) hb ht
     ·exact hl j d e b t (by omega) hd he hb ht
   have fin:∀(H':Hp),AK (upd H0 p (.tup [.int (i:Nat),x])) H'→(Ce c=false∨∃d b t,0<i∧ds[i-1]? = some d∧Au d=some b∧Au c=some t∧Tr.lt b t=true)→Q (.bl false) H':=fun H' e' h=>by
    have hfalse:Ce (.tuple ds)=false:=by
     refine aY.mpr fun z=>?_;obtain⟨z1,z2⟩:=Rc.mp z;rcases h with h|⟨d,b,t,hi,hd,hb,ht,h⟩
     ·rw[z1 i c hc]at h;cases h
     ·rw[z2 (i-1) d c b t hd (by rw[show i-1+1=i by omega];exact hc) hb ht]at h;cases h
    have:=q H' (e1.trans e');rw[hfalse]at this;exact this
   have ahead:0<i→∃y d b,FG xs ((i:Int)-1)=some y∧ds[i-1]? = some d∧Au d=some b∧b.FZ=true∧Dt l H d y∧Sm m d:=fun hi=>by
    have hi2:i-1<xs.length:=by
     have:=(aC.mp hx).1;omega
    obtain⟨d,hd,td⟩:=ht.get (i:=i-1) (v:=xs[i-1]) (by simp[hi2]);obtain⟨b,hb,hbf⟩:=JW (hf (i-1) d (by omega) hd);refine⟨xs[i-1],d,b,?_,hd,hb,hbf,td,hall d (aP hd)⟩;have:=EX (xs:=xs) (j:=i-1) (v:=xs[i-1]) (by simp[hi2])
    rwa [show(((i-1:Nat)):Int)=(i:Int)-1 by omega]at this
   refine⟨_,rfl,_,_,rfl,rfl,_,rfl,BA (fun hk=>?_) (fun hk=>?_)⟩
   ·have hi:0<i:=by have:=aT hk;omega
    obtain⟨y,d,b,hat,hd,hb,hbf,td,hsd⟩:=ahead hi;refine⟨_,rfl,_,rfl,_,rfl,_,_,rfl,rfl,_,_,_,_,rfl,rfl,at1,hat,c,d,tc1.br,(td.same e1).br,hcs.ok.shaped (by omega),hsd.ok.shaped (by omega),_,rfl,BA (fun hcb=>?_) (fun hcb=>?_)⟩
    ·have ecb:Au c=some b:=YZ hcb hb;refine next _ (AK.refl _) ?_ fun d' b' t' _ hd' hb' ht'=>?_
     ·rw[Lz ecb];exact hbf
     ·rw[hd]at hd';cases hd';rw[hb]at hb';cases hb';rw[ecb]at ht';cases ht';exact Tr.lt_irrefl _
    ·refine⟨_,rfl,l,c,_,m,rfl,rfl,by omega,hcs,tc1,fun H2 e2=>⟨_,rfl,BA (fun hcf=>?_) (fun hcf=>?_)⟩⟩
     ·exact fin H2 e2 (.inl (by simpa using hcf))
     ·have hcf':Ce c=true:=by simpa using hcf
      obtain⟨t,htc,_⟩:=JW hcf';refine⟨_,rfl,_,_,rfl,rfl,_,rfl,BA (fun _=>?_) (fun hk'=>absurd hk hk')⟩;have hdt:=VH hcs htc;refine⟨_,rfl,_,rfl,_,rfl,_,_,rfl,rfl,_,_,_,_,rfl,rfl,e2.tup at1,hat,t,b,W2 (tc1.same e2) htc,W2 ((td.same e1).same e2) hb,by omega,_,rfl,BA (fun hlt=>?_) (fun hlt=>?_)⟩
      ·exact fin H2 e2 (.inr ⟨d,b,t,hi,hd,hb,htc,hlt⟩)
      ·refine next H2 e2 hcf' fun d' b' t' _ hd' hb' ht'=>?_;rw[hd]at hd';cases hd';rw[hb]at hb';cases hb';rw[htc]at ht';cases ht'
       simpa using hlt
   ·have hi:¬0<i:=fun z=>hk (bQ (by omega));refine Mj ?_;refine⟨_,rfl,l,c,_,m,rfl,rfl,by omega,hcs,tc1,fun H2 e2=>⟨_,rfl,BA (fun hcf=>?_) (fun hcf=>?_)⟩⟩
    ·exact fin H2 e2 (.inl (by simpa using hcf))
    ·have hcf':Ce c=true:=by simpa using hcf
     refine⟨_,rfl,_,_,rfl,rfl,_,rfl,BA (fun hk'=>absurd hk' hk) (fun _=>Mj ?_)⟩;exact next H2 e2 hcf' fun d' b' t' h _=>absurd h hi
  ·rintro σ H' ⟨r1,r2,rfl,e,hf,hl⟩;have htrue:Ce (.tuple ds)=true:=Rc.mpr ⟨fun j c hc=>hf j c (by
     have:=(aC.mp hc).1;omega) hc,fun j d e b c hd he hb hc=>hl j d e b c (by
     have:=(aC.mp he).1;omega) hd he hb hc⟩
   have:=q H' e;rw[htrue]at this;exact this
end
abbrev kJ:MD:=BI 9
abbrev eP:MD:=Bc kJ 9
abbrev PX:MD:=Be eP
def BZ:Nat→List Tr
 |0=>[]
 |n+1=>BZ n++TH.tz n
abbrev TN(n:Nat):PD:=.list (L2.Bn (Tr.of (BZ n)))
def VE:PX [.int 5]=some (TN 5):=by kernel_rfl
def Ke(t:Tb):List (List Rat):=t.rs++[t.ls]
def V9(t:Tb):(Ke t)[t.rs.length]? = some t.ls:=by
 unfold Ke;rw[List.getElem?_append_right (aG _),Nat.sub_self];rfl
def YG{t:Tb}{m:Nat}(h:t.Ok m){i:Nat}{row:List Rat}(e:(Ke t)[i]? = some row):row.length=i∧i≤t.rs.length:=by
 by_cases z:i<t.rs.length
 ·unfold Ke at e;rw[List.getElem?_append_left z]at e;exact⟨h.row i row e,by omega⟩
 ·have hl:=(aC.mp e).1;unfold Ke at hl;rw[List.length_append,List.length_singleton]at hl;have:i=t.rs.length:=by omega
  subst this;rw[V9]at e;cases e;exact⟨h.last,Nat.le_refl _⟩
def fB{t:Tb}{n:Nat}(h:t.Fits n){m:Nat}(o:t.Ok m):1≤EZ t∧(EZ t).natAbs<2^(1+n*(m+m*m))∧∀r∈Ke t,∀q∈r,(q.den:Int) ∣ EZ t:=by
 obtain⟨h1,h2,h3⟩:=U2 (RA h t.rs.length);have hl:=K4 o t.rs.length (aG _);have hm:=o.most;refine⟨h1,Nat.lt_of_lt_of_le h2 (bP (by decide) ?_),fun r hr q hq=>h3 _ ?_⟩
 ·have:t.rs.length+t.rs.length*t.rs.length≤m+m*m:=Nat.add_le_add hm (Nat.mul_le_mul hm hm);have:=bF n (aQ hl this);omega
 ·unfold HM;rw[List.take_length];rcases bR.mp hr with hr|hr
  ·exact ah _ (List.mem_flatten.mpr ⟨En r,List.mem_map.mpr ⟨r,hr,rfl⟩,List.mem_map.mpr ⟨q,hq,rfl⟩⟩)
  ·rw[List.mem_singleton.mp hr]at hq;exact List.mem_append_left _ (aZ.mpr ⟨q,hq,rfl⟩)
def ZI(p q:Rat):PyData.eqv (BH p) (BH q)=decide (p=q):=by
 by_cases h:p=q
 ·subst h;rw[decide_eq_true rfl];exact Su _ (Qp p)
 ·rw[decide_eq_false h];refine aY.mpr fun z=>h ?_;unfold BH at z;simp[PyData.eqv,PyData.eqvAll]at z;exact FM.eD z.1 (by omega)
def Uz(p q:Rat):Et true (BH p) (BH q)=some (.bool (!decide (p=q))):=by
 refine(if_pos ⟨(XW p).shaped (by decide),(XW q).shaped (by decide)⟩).trans ?_;rw[ZI];rfl
def cc:Option Tr→PD
 |none=>.none
 |some t=>tD t
def Pp:List Tr→List Rat→List Rat→Option Tr
 |t::ts,w::ws,v::vs=>if w=v then Pp ts ws vs else some t
 |_,_,_=>none
abbrev LV:DF:=HK (CJ (Et true) (nm 4) (nm 5)) (CI (nm 3)) D4
abbrev Vi(ts:List Tr)(ws vs:List Rat)(δ:Dv):Option Ou:=FA (TF 3 4 5) LV (K1 (ts.map tD) (ws.map BH) (vs.map BH)) δ
def UD{t:Tr}{ts:List Tr}{w v:Rat}{ws vs:List Rat}(a b c d e f:L)(h:w=v):Vi (t::ts) (w::ws) (v::vs) [a,b,c,d,e,f]=Vi ts ws vs [a,b,c,.d (tD t),.d (BH w),.d (BH v)]:=by
 have e1:LV [a,b,c,.d (tD t),.d (BH w),.d (BH v)]=some (.nx [a,b,c,.d (tD t),.d (BH w),.d (BH v)]):=Ds (Gn (x:=BH w) (y:=BH v) rfl rfl ((Uz w v).trans (by rw[decide_eq_true h];rfl))) rfl;show(match LV [a,b,c,.d (tD t),.d (BH w),.d (BH v)]with|some (.nx δ')=>_|some (.ct δ')=>_|some (.bk δ')=>_|some (.rt x)=>_|some (.rn x)=>_|none=>_)=_;rw[e1];rfl
def X5{t:Tr}{ts:List Tr}{w v:Rat}{ws vs:List Rat}(a b c d e f:L)(h:w≠v):Vi (t::ts) (w::ws) (v::vs) [a,b,c,d,e,f]=some (.rt (tD t)):=by
 have e1:LV [a,b,c,.d (tD t),.d (BH w),.d (BH v)]=some (.rt (tD t)):=JP (Gn (x:=BH w) (y:=BH v) rfl rfl ((Uz w v).trans (by rw[decide_eq_false h];rfl))) rfl;show(match LV [a,b,c,.d (tD t),.d (BH w),.d (BH v)]with|some (.nx δ')=>_|some (.ct δ')=>_|some (.bk δ')=>_|some (.rt x)=>_|some (.rn x)=>_|none=>_)=_;rw[e1]
def Vc:∀ {ts:List Tr} {ws vs:List Rat} {t:Tr} (a b c d e f:L),Pp ts ws vs=some t→Vi ts ws vs [a,b,c,d,e,f]=some (.rt (tD t))
 |[],_,_,_,_,_,_,_,_,_,h=>by cases h
 |_::_,[],[],_,_,_,_,_,_,_,h=>by cases h
 |_::_,[],_::_,_,_,_,_,_,_,_,h=>by cases h
 |_::_,_::_,[],_,_,_,_,_,_,_,h=>by cases h
 |s::ts,w::ws,v::vs,t,a,b,c,d,e,f,h=>by
  unfold Pp at h;split at h
  ·rename_i z;rw[UD a b c d e f z];exact Vc a b c _ _ _ h
  ·rename_i z;cases h;exact X5 a b c d e f z
def Vj:∀ {ts:List Tr} {ws vs:List Rat} (a b c d e f:L),Pp ts ws vs=none→∃δ',Vi ts ws vs [a,b,c,d,e,f]=some (.nx δ')
 |[],_,_,_,_,_,_,_,_,_=>⟨_,rfl⟩
 |_::_,[],[],_,_,_,_,_,_,_=>⟨_,rfl⟩
 |_::_,[],_::_,_,_,_,_,_,_,_=>⟨_,rfl⟩
 |_::_,_::_,[],_,_,_,_,_,_,_=>⟨_,rfl⟩
 |s::ts,w::ws,v::vs,a,b,c,d,e,f,h=>by
  unfold Pp at h;split at h
  ·rename_i z;rw[UD a b c d e f z];exact Vj a b c _ _ _ h
  ·cases h
abbrev IM(ws:List Rat):PD:=.list (ws.map BH)
abbrev Gy(ts:List Tr):PD:=.list (L2.Bn (Tr.of ts))
def first_is(ts:List Tr)(ws vs:List Rat):BW [Gy ts,IM ws,IM vs]=some (cc (Pp ts ws vs)):=by
 refine E1 rfl ?_;unfold Ld;have hz:EI Qa (AB (nm 0) (AB (nm 1) (AB (nm 2) AG))) [.d (Gy ts),.d (IM ws),.d (IM vs),.no,.no,.no]=some (K1 (ts.map tD) (ws.map BH) (vs.map BH)):=by
  show some (K1 (L2.Bn (Tr.of ts)) (ws.map BH) (vs.map BH))=_;rw[Ja]
 have hf:Di (EI Qa (AB (nm 0) (AB (nm 1) (AB (nm 2) AG)))) (TF 3 4 5) LV [.d (Gy ts),.d (IM ws),.d (IM vs),.no,.no,.no]=Vi ts ws vs [.d (Gy ts),.d (IM ws),.d (IM vs),.no,.no,.no]:=by
  show(EI Qa _ _).bind _=_;rw[hz];rfl
 cases h:Pp ts ws vs with
 |some t=>exact G7 (hf.trans (Vc _ _ _ _ _ _ h))
 |none =>
  obtain⟨δ',k⟩:=Vj (.d (Gy ts)) (.d (IM ws)) (.d (IM vs)) .no .no .no h;exact A0 (hf.trans k) rfl
def Yw{α:Type}{i:Nat}{f:Dv→Option PD}{fs:Dv→Option (List PD)}{δ:Dv}{fr:List (Option Nat)}{zs:List α}{a g:α→PD}(hx:fs δ=some (zs.map a))(hl:zs.length≤Dw)
 (h:∀z∈zs,f ((Eb fr δ).set i (.d (a z)))=some (g z)):HS (Dx i) HH f fr fs δ=some (zs.map g):=by
 unfold HS;rw[hx,Option.bind_some];have:∀zs:List α,(∀z∈zs,f ((Eb fr δ).set i (.d (a z)))=some (g z))→L2.collect (Oy (Dx i) HH f (Eb fr δ)) (zs.map a)=some (zs.map g):=fun zs=>by
  induction zs with
  |nil=>intro _;rfl
  |cons z zs ih =>
   intro h;rw[List.map_cons,List.map_cons];unfold L2.collect;rw[ih fun y hy=>h y (.tail _ hy)];have e:Oy (Dx i) HH f (Eb fr δ) (a z)=some (some (g z)):=by
    unfold Oy Dx;rw[Option.bind_some];show(some true).bind _=_;rw[Option.bind_some,if_pos rfl,h z (.head _)]
    rfl
   rw[e];rfl
 rw[this zs h,Option.bind_some,IQ,if_pos (by rw[List.length_map];exact hl)]
def RK{set:PD→Dv→Option Dv}{F:DF}(Iv:Dv→Prop)(g:PD→Option PD):∀(xs:List PD) (δ:Dv),Iv δ→(∀x∈xs,∀δ,Iv δ→∃δ1,set x δ=some δ1∧((∃r,g x=some r∧F δ1=some (.rt r))∨(g x=none∧∃δ2,F δ1=some (.nx δ2)∧Iv δ2))) →
  (∃r,xs.findSome? g=some r∧FA set F xs δ=some (.rt r))∨(xs.findSome? g=none∧∃δ',FA set F xs δ=some (.nx δ')∧Iv δ')
 |[],δ,h,_=>.inr ⟨rfl,δ,rfl,h⟩
 |x::xs,δ,h,k=>by
  obtain⟨δ1,h1,h2⟩:=k x (.head _) δ h;rcases h2 with ⟨r,h3,h4⟩|⟨h3,δ2,h4,h5⟩
  ·refine .inl ⟨r,by rw[List.findSome?_cons,h3],?_⟩;unfold FA;rw[h1,Option.bind_some,h4]
  ·have e:(x::xs).findSome? g=xs.findSome? g:=by rw[List.findSome?_cons,h3]
   have e2:FA set F (x::xs) δ=FA set F xs δ2:=by
    rw[FA,h1,Option.bind_some,h4]
   rw[e,e2];exact RK Iv g xs δ2 h5 fun y hy=>k y (.tail _ hy)
def XB{set:PD→Dv→Option Dv}{F F2:DF}{fs:Dv→Option (List PD)}{δ:Dv}{xs:List PD}{z:PD}(Iv:Dv→Prop)(g:PD→Option PD)(hx:fs δ=some xs)(h0:Iv δ)(hs:∀x∈xs,∀δ,Iv δ→∃δ1,set x δ=some δ1∧((∃r,g x=some r∧F δ1=some (.rt r))∨(g x=none∧∃δ2,F δ1=some (.nx δ2)∧Iv δ2)))
 (k:∀δ',Iv δ'→F2 δ'=some (.rt z)):Ar (Di fs set F) F2 δ=some (.rt ((xs.findSome? g).getD z)):=by
 have e:Di fs set F δ=FA set F xs δ:=by show(fs δ).bind _=_;rw[hx];rfl
 rcases RK (F:=F) Iv g xs δ h0 hs with ⟨r,h1,h2⟩|⟨h1,δ',h2,h3⟩
 ·rw[h1];exact G7 (e.trans h2)
 ·rw[h1];exact A0 (e.trans h2) (k δ' h3)
def Qu:∀t:Tr,Bk (L2.Bn t)=some t
 |.nil=>by rw[L2.Bn,Bk]
 |.cons b r=>by rw[L2.Bn,Bk,Au,Qu b,Qu r];rfl
def Hk:PD→List Rat
 |.list xs=>xs.map We
 |_=>[]
def Pc(r:List Rat):Hk (.list (Ae r))=r:=by
 unfold Hk Ae;show List.map We (r.map BH)=r;rw[List.map_map];exact List.map_id'' (fun q=>b7 q) r
def tabOf:PD→Tb
 |.tuple [.list rs,d]=>⟨rs.map Hk,Hk d⟩
 |_=>⟨[],[]⟩
def Ot(t:Tb):tabOf (BX t)=t:=by
 unfold BX tabOf;have e:(BR t.rs).map Hk=t.rs:=by
  unfold BR;rw[List.map_map];exact List.map_id'' (fun r=>Pc r) t.rs
 show Tb.mk ((BR t.rs).map Hk) (Hk (.list (Ae t.ls)))=t;rw[e,Pc]
def YK:((BZ 6).all fun t=>(BZ 6).all fun u=>decide (TH.Bq (some u)≠TH.Bq (some t))||decide (u=t))=true:=by decide +kernel
def cW:∀u∈BZ 6,u.FZ=true∧u.deep<8∧u.Ac≤6∧∀b∈u.bs,b∈BZ 6:=by decide +kernel
def ly:Wt (BZ 6) 1000:=⟨by decide +kernel,fun a ha b hb e=>by
 have:=aa.mp (aa.mp YK b hb) a ha;rw[Bool.or_eq_true]at this;rcases this with h|h
 ·exact absurd e (aT h)
 ·exact aT h,fun t ht=>(cW t ht).2.2.2,fun t ht=>(cW t ht).2.1,fun t ht=>by have:=(cW t ht).2.2.1;omega⟩
def Tb.Wu(t:Tb):Prop:=∃m n k:Nat,t.Ok m∧m≤40∧t.Fits n∧n*(m+m*m)≤4000∧Jj (FE t) 1000∧(EZ t).natAbs<2^k∧n+k≤4000∧1≤EZ t∧k*6≤4000
def ZH{t:Tb}{m n k:Nat}(o:t.Ok m)(hm:m≤40)(h:t.Fits n)(b1:1≤EZ t)(b2:(EZ t).natAbs<2^k)(b3:∀r∈Ke t,∀q∈r,(q.den:Int) ∣ EZ t)(hc:n+k+6≤1000):Jj (FE t) 1000:=by
 have h4:=o.most;have hl:(FE t).length=t.rs.length+1:=by unfold FE;rw[List.length_map,List.length_append];rfl
 have one:∀row∈FE t,row.length≤40∧row.length≤t.rs.length:=fun row hr=>by
  unfold FE at hr;obtain⟨r,hr',rfl⟩:=aZ.mp hr;have e:(JY r (EZ t)).length=r.length:=bY _;rw[e];obtain⟨i,hi⟩:=bK hr';have:=YG o (show(Ke t)[i]? = some r from hi);omega
 refine⟨by omega,fun row hr=>by have:=one row hr;omega,2^(n+k),fun row hr x hx=>?_,Nat.pow_le_pow_right (by decide) (by omega),fun row hr=>aQ (Nat.mul_le_mul_right _ (aQ (one row hr).1 (show 40≤2^6 by decide))) ?_⟩
 ·unfold FE at hr;obtain⟨r,hr',rfl⟩:=aZ.mp hr;unfold JY at hx;obtain⟨q,hq,rfl⟩:=aZ.mp hx;have f:FM.Fits q n:=by
   rcases bR.mp hr' with hr|hr
   ·exact h.1 r hr q hq
   ·rw[List.mem_singleton.mp hr]at hq;exact h.2 q hq
  obtain⟨c,hc⟩:=b3 r hr' q hq;have hd:(q.den:Int)≠0:=by have:=q.den_nz;omega
  have e:(EZ t).fdiv (q.den:Int)=c:=by rw[hc,Int.mul_fdiv_cancel_left _ hd]
  have hcb:c.natAbs≤(EZ t).natAbs:=by
   rw[hc,Int.natAbs_mul];exact Nat.le_mul_of_pos_left _ (by have:=q.den_nz;omega)
  rw[e,Int.natAbs_mul,Nat.pow_add];exact Nat.mul_le_mul (bN f.1) (aQ hcb (bN b2))
 ·rw[←Nat.pow_add];exact bP (by decide) (by omega)
def kM{t:Tb}{m n:Nat}(o:t.Ok m)(hm:m≤40)(h:t.Fits n)(hb:n*(m+m*m)≤600)(hn:n≤300):t.Wu:=by
 obtain⟨b1,b2,b3⟩:=fB h o;exact⟨m,n,1+n*(m+m*m),o,hm,h,by omega,ZH o hm h b1 b2 b3 (by omega),b2,by omega,b1,by omega⟩
open Classical in
noncomputable def Ny(ds:List PD):Option PD:=match ds with
 |[x,.list ys]=>if x=BX (tabOf x)∧(tabOf x).Wu∧ys=L2.Bn ((Bk ys).getD .nil)∧(∀u∈((Bk ys).getD .nil).bs,u∈BZ 6)∧ys.length≤1000 then some (IM (((Bk ys).getD .nil).bs.map (LI (tabOf x)))) else none
 |_=>none
def Sj{t:Tb}(h:t.Wu){ts:List Tr}(hs:∀u∈ts,u∈BZ 6)(hl:ts.length≤1000):Ny [BX t,Gy ts]=some (IM (ts.map (LI t))):=by
 unfold Ny;have e:(Bk (L2.Bn (Tr.of ts))).getD .nil=Tr.of ts:=by rw[Qu];rfl
 refine(if_pos ⟨by rw[Ot],by rw[Ot];exact h,by rw[e],fun u hu=>hs u (by rw[e,Tr.Kj]at hu;exact hu),by rw[Ja,List.length_map];exact hl⟩).trans ?_;rw[Ot,e,Tr.Kj]
def mI{P:Program}{w:World}{K:Fg}{mg:Str→Option VL}{base:Heap}{f:AD}{fd:FuncData}{k:Nat}{ps:List Str}(F:AQ P w K mg base Ah k f fd ps (gU (BZ 6) 1000)):AQ P w K mg base Ah k f fd ps (Bz Ny) :=
 QQ F fun ds x hm G H vs Q E d e kk=>by
  unfold Ny at hm;split at hm
  ·rename_i tx ys;split at hm
   ·rename_i hc;obtain⟨c1,⟨m,n,kb,w1,w2,w3,w4,w5,w6,w7,w8,w9⟩,c3,c4,c5⟩:=hc;cases hm;generalize tabOf tx=t at c1 w1 w3 w5 w6 w8 kk;subst c1;generalize (Bk ys).getD .nil=T at c3 c4 kk;subst c3;obtain⟨v1,v2,rfl,d1,d2⟩:=d.YL;rw[Du]at d2;obtain⟨L,tvs,rfl,hL,dts⟩:=d2;have ts:=(M7 dts).same e;have hlen:tvs.length=T.bs.length:=ts.len;have hll:T.bs.length≤1000:=by
     rw[←hlen,dts.len];exact c5
    refine⟨v1,t,L,tvs,T.bs,m,n,kb,rfl,P0 (Qh t) (d1.same e),w1,w2,w3,w4,w5,w6,w7,w8,e _ _ hL,hlen,hll,fun i x hx=>?_,fun D H' zs e' hD hD' dz=>?_⟩
    ·obtain⟨u,hu,tu⟩:=ts.get hx;have hm:=c4 u (aP hu);have h6:=(cW u hm).2.2.1;exact⟨u,hu,tu,hm,by omega,Nat.le_trans (bF _ h6) w9⟩
    ·obtain⟨n1,n2,n3⟩:=eF e e';refine kk (.ref D) _ H' n1 n2 n3 e' ?_;rw[Du];exact⟨D,zs,rfl,iW hD' hD,Pb dz⟩
   ·cases hm
  ·cases hm
abbrev mX:MD:=A2 Ao 9
abbrev Ph:MD:=Bm mX
def KA:(List.range 6).map (fun k=>Ph [.int ((k+1:Nat):Int)])=(List.range 6).map fun k=>some (Gy (TH.tz k)):=by kernel_rfl
def of_is{k:Nat}(h:k<6):Ph [.int ((k+1:Nat):Int)]=some (Gy (TH.tz k)):=List.map_inj_left.mp KA k (bL.mpr h)
def iU:Tr→Nat
 |.nil=>1
 |.cons b r=>b.Ac*iU b*iU r
def Vd(u:Tr):Nat:=u.Ac*iU u
abbrev PC:MD:=BG (Aw 9) 9
def Z2:(BZ 6).map (fun u=>PC [tD u])=(BZ 6).map fun u=>some (.int ((Vd u:Nat):Int)):=by kernel_rfl
def dm{u:Tr}(h:u∈BZ 6):PC [tD u]=some (.int ((Vd u:Nat):Int)):=List.map_inj_left.mp Z2 u h
def OJ(u:Tr):Rat:=Rat.divInt 1 (Vd u:Nat)
def eY:(BZ 6).map (fun u=>BH (OJ u))=(BZ 6).map fun u=>PyData.tuple [.int 1,.int ((Vd u:Nat):Int)]:=by kernel_rfl
def kR{u:Tr}(h:u∈BZ 6):BH (OJ u)=.tuple [.int 1,.int ((Vd u:Nat):Int)]:=List.map_inj_left.mp eY u h
abbrev QA:MD:=CF PC
def dJ{ts:List Tr}(hs:∀u∈ts,u∈BZ 6)(hl:ts.length≤1000):QA [Gy ts]=some (IM (ts.map OJ)):=by
 refine ec rfl ?_;unfold LW;have e:HS (Dx 1) HH (Al (AB (fC (.int 1)) (AB (Aj PC (AB (nm 1) AG)) AG))) [none,none] (GZ (nm 0)) [.d (Gy ts)]=some (ts.map fun u=>BH (OJ u)):=by
  refine Yw (zs:=ts) (a:=tD) (g:=fun u=>BH (OJ u)) ?_ (aQ hl (by unfold Dw;omega)) fun u hu=>?_
  ·show some (L2.Bn (Tr.of ts))=_;rw[Ja]
  ·rw[kR (hs u hu)];exact ed (xs:=[.int 1,.int ((Vd u:Nat):Int)]) (Cm rfl (Cm (B2 (xs:=[tD u]) rfl (dm (hs u hu))) rfl)) (by show(2:Nat)≤Dw;decide)
 have:Vz (HS (Dx 1) HH (Al (AB (fC (.int 1)) (AB (Aj PC (AB (nm 1) AG)) AG))) [none,none] (GZ (nm 0))) [.d (Gy ts)]=some (.rn (ts.map fun u=>BH (OJ u))):=by
  show(HS _ _ _ _ _ _).map _=_;rw[e];rfl
 rw[show(ts.map OJ).map BH=ts.map fun u=>BH (OJ u) by rw[List.map_map];rfl];exact this
def Mp(t:Tb)(u:Tr):Bool:=!decide (LI t u=OJ u)
def UH(f g:Tr→Rat):∀ts:List Tr,Pp ts (ts.map f) (ts.map g)=ts.find? fun u=>!decide (f u=g u)
 |[]=>rfl
 |u::ts=>by
  show(if f u=g u then Pp ts (ts.map f) (ts.map g) else some u)=_;rw[List.find?_cons,UH f g ts];by_cases h:f u=g u
  ·rw[if_pos h,decide_eq_true h];rfl
  ·rw[if_neg h,decide_eq_false h];rfl
def Yb(u:Tr):PD:=.tuple [.int ((u.Ac-1:Nat):Int),tD u]
def kD(t:Tb):PD:=(((BZ 6).find? (Mp t)).map Yb).getD (.tuple [.int 6,.none])
def Iq(t:Tb)(k:Nat):Option PD:=((TH.tz k).find? (Mp t)).map fun u=>.tuple [.int (k:Nat),tD u]
def YO:∀k,k<6→(TH.tz k).length≤100∧∀u∈TH.tz k,u∈BZ 6∧u.Ac=k+1:=by decide +kernel
def eB{k:Nat}(hk:k<6)(t:Tb):Iq t k=((TH.tz k).find? (Mp t)).map Yb:=by
 unfold Iq;cases h:(TH.tz k).find? (Mp t) with
 |none=>rfl
 |some u =>
  have hu:=List.mem_of_find?_eq_some h;have:=((YO k hk).2 u hu).2;show some (PyData.tuple [.int (k:Nat),tD u])=some (Yb u);unfold Yb;rw[show u.Ac-1=k by omega]
def SX(t:Tb):∀n,n≤6→(List.range n).findSome? (Iq t)=((BZ n).find? (Mp t)).map Yb
 |0,_=>rfl
 |n+1,h=>by
  rw[List.range_succ,List.findSome?_append,SX t n (by omega),BZ,List.find?_append];rw[show([n]:List Nat).findSome? (Iq t)=Iq t n by rw[List.findSome?_cons];cases Iq t n<;>rfl,eB (by omega)];cases (BZ n).find? (Mp t)<;>rfl
abbrev nk(m1:MD):DF:=(Ar (Di (EI KN (AB (fC (.int 6)) AG)) (F4 1)
  (Ar (B1 2 (Aj Ph (AB (A8 CT (nm 1) (fC (.int 1))) AG)))
  (Ar (B1 3 (Aj BW (AB (nm 2) (AB (Aj m1 (AB (nm 0) (AB (nm 2) AG))) (AB (Aj QA (AB (nm 2) AG)) AG)))))
  (HK (CJ (RN true) (nm 3) (fC .none))
   (CI (Al (AB (nm 1) (AB (nm 3) AG))))
   D4))))
 (CI (Al (AB (fC (.int 6)) (AB (fC .none) AG)))))
def Zf{t:Tb}(h:t.Wu):nk Ny [.d (BX t),.no,.no,.no]=some (.rt (kD t)):=by
 have e:=XB (F2:=CI (Al (AB (fC (.int 6)) (AB (fC .none) AG)))) (set:=F4 1) (F:=(Ar (B1 2 (Aj Ph (AB (A8 CT (nm 1) (fC (.int 1))) AG)))
  (Ar (B1 3 (Aj BW (AB (nm 2) (AB (Aj Ny (AB (nm 0) (AB (nm 2) AG))) (AB (Aj QA (AB (nm 2) AG)) AG)))))
  (HK (CJ (RN true) (nm 3) (fC .none))
   (CI (Al (AB (nm 1) (AB (nm 3) AG))))
   D4)))) (fs:=EI KN (AB (fC (.int 6)) AG)) (δ:=[.d (BX t),.no,.no,.no]) (xs:=Hx 0 6) (z:=.tuple [.int 6,.none]) (fun δ=>∃l1 l2 l3:L,δ=[.d (BX t),l1,l2,l3]) (fun x=>match x with|.int i=>Iq t i.toNat|_=>none) rfl ⟨_,_,_,rfl⟩ ?_ ?_
 ·refine e.trans ?_;have e2:(Hx 0 6).findSome? (fun x=>match x with|.int i=>Iq t i.toNat|_=>none)=(List.range 6).findSome? (Iq t):=rfl;rw[e2,SX t 6 (aG _)]
  rfl
 ·rintro x hx δ ⟨l1,l2,l3,rfl⟩;obtain⟨i,hi⟩:=bK hx;obtain⟨rfl,hi6⟩:=Qe hi;rw[Int.zero_add];obtain⟨tl,ts⟩:=YO i hi6;refine⟨_,rfl,?_⟩;have b1:Aj Ph (AB (A8 CT (nm 1) (fC (.int 1))) AG) [.d (BX t),.d (.int (i:Nat)),l2,l3]=some (Gy (TH.tz i)):=B2 (xs:=[.int ((i+1:Nat):Int)]) rfl (of_is hi6);have b2:Aj BW (AB (nm 2) (AB (Aj Ny (AB (nm 0) (AB (nm 2) AG))) (AB (Aj QA (AB (nm 2) AG)) AG))) [.d (BX t),.d (.int (i:Nat)),.d (Gy (TH.tz i)),l3]=some (cc ((TH.tz i).find? (Mp t))):=by
   refine B2 (xs:=[Gy (TH.tz i),IM ((TH.tz i).map (LI t)),IM ((TH.tz i).map OJ)]) (Cm rfl (Cm (B2 (xs:=[BX t,Gy (TH.tz i)]) rfl (Sj h (fun u hu=>(ts u hu).1) (by omega))) (Cm (B2 (xs:=[Gy (TH.tz i)]) rfl (dJ (fun u hu=>(ts u hu).1) (by omega))) rfl))) ?_;rw[first_is,UH]
   rfl
  show(∃r,Iq t i=some r∧_)∨(Iq t i=none∧_);unfold Iq;cases hf:(TH.tz i).find? (Mp t) with
  |some u =>
   rw[hf]at b2;refine .inl ⟨_,rfl,A0 (Df b1) (A0 (Df b2) (JP ?_ rfl))⟩
   rfl
  |none =>
   rw[hf]at b2;refine .inr ⟨rfl,_,A0 (Df b1) (A0 (Df b2) (Ds ?_ rfl)),_,_,_,rfl⟩
   rfl
 ·rintro δ ⟨l1,l2,l3,rfl⟩
  rfl
def OD:Nat→PD→Bool
 |_,.none=>true
 |_,.bool _=>true
 |_,.int _=>true
 |_,.str x=>PyData.strOk x
 |n+1,.tuple ds=>decide (ds.length≤60)&&ds.all (OD n)
 |n+1,.list ds=>decide (ds.length≤60)&&ds.all (OD n)
 |_,_=>false
def UG:∀ {n:Nat} {d:PD},OD n d=true→Sm n d
 |n,.none,_=>leaf.sm trivial
 |n,.bool _,_=>leaf.sm trivial
 |n,.int _,_=>leaf.sm trivial
 |n,.str x,h=>leaf.sm (by unfold OD at h;exact h)
 |0,.tuple _,h=>by cases h
 |0,.list _,h=>by cases h
 |n,.dict _,h=>by cases n<;>cases h
 |n+1,.tuple ds,h=>by
  rw[OD,Bool.and_eq_true]at h;exact .tup (aT h.1) fun e he=>UG (aa.mp h.2 e he)
 |n+1,.list ds,h=>by
  rw[OD,Bool.and_eq_true]at h;exact .lst (aT h.1) fun e he=>UG (aa.mp h.2 e he)
def PL:MD
 |[d]=>if d.canLay0=true∧OD 12 d=true then some (.bool (Ce d)) else none
 |_=>none
def mO{P:Program}{w:World}{K:Fg}{mg:Str→Option VL}{base:Heap}{f:AD}{fd:FuncData}{k:Nat}{ps:List Str}(F:AQ P w K mg base Ah k f fd ps (VI 13 Ce)):AQ P w K mg base Ah k f fd ps (Bz PL) :=
 QQ F fun ds x hm G H vs Q E d e kk=>by
  unfold PL at hm;split at hm
  ·rename_i d0;split at hm
   ·rename_i hc;cases hm;obtain⟨v,rfl,d1⟩:=d.IP;obtain⟨N,b⟩:=P0 hc.1 (d1.same e);exact⟨N,d0,v,12,rfl,rfl,by decide,UG hc.2,b N (aG _),fun H' e'=>kk _ G H' (.refl _) Nw.refl (e.trans e') e' (by rw[Du])⟩
   ·cases hm
  ·cases hm
def WH{d:PD}{b:Bool}(h:(d.canLay0&&OD 12 d&&(Ce d==b))=true):PL [d]=some (.bool b):=by
 rw[Bool.and_eq_true,Bool.and_eq_true]at h;refine(if_pos h.1).trans ?_;rw[eq_of_beq h.2]
abbrev WZ(C:AD):List PD→Option Xr:=Av PL C
abbrev Tg(C:AD):List PD→Option Xr:=AZ (mB CG) C
def XQ{d:PD}(h:PL [d]=some (.bool true))(C:AD):WZ C [d]=some (.inl .none):=by
 refine VX (δ:=[.d d]) rfl ?_;unfold Gg;exact cS (NZ (NV (B2 (xs:=[d]) rfl h))) rfl
def YT{d:PD}(h:PL [d]=some (.bool false))(C:AD):WZ C [d]=some (.inr C):=by
 refine Hh rfl ?_;unfold Gg;exact cG (NZ (NV (B2 (xs:=[d]) rfl h))) rfl
def P6{t:Tb}{m:Nat}(o:t.Ok m)(hm:m≤40)(C:AD):Tg C [BX t]=some (.inl .none):=by
 refine VX (δ:=[.d (BX t)]) rfl ?_;unfold F6;exact cS (NZ (NV (B2 (xs:=[BX t]) rfl (jv (Qh t) (o.is hm))))) rfl
def TQ{d:PD}(hc:d.canLay0=true)(h:CG d=false)(C:AD):Tg C [d]=some (.inr C):=by
 refine Hh rfl ?_;unfold F6;exact cG (NZ (NV (B2 (xs:=[d]) rfl (jv hc h)))) rfl
def T5{F:DF}{δ:Dv}{o:Ou}(h:F δ=some o):XO F δ=some (.inl o):=by show(F δ).map _=_;rw[h];rfl
noncomputable abbrev dD(C1 C2:AD):List PD→Option Xr:=Bx (Tg C1) (WZ C2) Ny
abbrev jt:List PD→Option Xr:=fun ds=>(Ck Ph ds).map .inl
noncomputable abbrev jg(C1:AD):List PD→Option Xr:=Bi (Tg C1) jt Ny
noncomputable abbrev jy(C1:AD):List PD→Option Xr:=CB BW (Tg C1) Ph QA Ny
abbrev gQ(C2:AD):List PD→Option Xr:=Bh (BB 9) (WZ C2)
def gH{d x:PD}(hc:d.canLay0=true)(h:CG d=false)(C1 C2:AD):dD C1 C2 [d,x]=some (.inr C1):=by
 refine Hh rfl ?_;unfold Fp;exact LO (KY (ds:=[d]) rfl (TQ hc h C1))
def jI{d x:PD}(hc:d.canLay0=true)(h:CG d=false)(C1:AD):jg C1 [d,x]=some (.inr C1):=by
 refine Hh rfl ?_;unfold Gj;exact LO (KY (ds:=[d]) rfl (TQ hc h C1))
def jQ{d:PD}(hc:d.canLay0=true)(h:CG d=false)(C1:AD):jy C1 [d]=some (.inr C1):=by
 refine Hh rfl ?_;unfold Ik;exact LO (KY (ds:=[d]) rfl (TQ hc h C1))
def fD{t:Tb}{m:Nat}(o:t.Ok m)(hm:m≤40){x:PD}(h:PL [x]=some (.bool false))(C1 C2:AD):dD C1 C2 [BX t,x]=some (.inr C2):=by
 refine Hh rfl ?_;unfold Fp;exact Je (Hi (ds:=[BX t]) rfl (P6 o hm C1)) (LO (KY (ds:=[x]) rfl (YT h C2)))
def eI{x:PD}(h:PL [x]=some (.bool false))(C2:AD):gQ C2 [x]=some (.inr C2):=by
 refine Hh rfl ?_;unfold Gb;exact LO (KY (ds:=[x]) rfl (YT h C2))
def VN:((BZ 5).all fun u=>(tD u).canLay0&&OD 12 (tD u)&&(Ce (tD u)==true))=true:=by decide +kernel
def nT{u:Tr}(h:u∈BZ 5):u∈BZ 6:=List.mem_append_left _ h
def eG{t:Tb}(h:t.Wu){u:Tr}(hu:u∈BZ 5)(C1 C2:AD):∃y,dD C1 C2 [BX t,tD u]=some (.inl y):=by
 obtain⟨m,n,k,o,hm,_⟩:=id h;refine⟨BH (LI t u),NP rfl ?_⟩;unfold Fp;refine Je (Hi (ds:=[BX t]) rfl (P6 o hm C1)) (Je (Hi (ds:=[tD u]) rfl (XQ (WH (aa.mp VN u hu)) C2)) (T5 (Jf ?_)));refine Bf (x:=IM [LI t u]) (y:=.int 0) (B2 (xs:=[BX t,Gy [u]]) rfl (Sj h (ts:=[u]) (fun v hv=>by rw[List.mem_singleton.mp hv];exact nT hu) (by show 1≤1000;decide))) rfl rfl
def jZ:(List.range 7).map (fun n=>Ck Ph [.int ((n:Nat):Int)])=(List.range 7).map fun n=>some (Gy (BZ n)):=by kernel_rfl
def fZ:∀n,n<7→∀u∈BZ n,u∈BZ 6:=by decide +kernel
def eh:∀n,n<7→(BZ n).length≤1000:=by decide +kernel
def eE{t:Tb}(h:t.Wu){n:Nat}(hn:n<7)(C1:AD):∃y,jg C1 [BX t,.int (n:Nat)]=some (.inl y):=by
 obtain⟨m,_,k,o,hm,_⟩:=id h;refine⟨IM ((BZ n).map (LI t)),NP rfl ?_⟩;unfold Gj;have e:jt [.int (n:Nat)]=some (.inl (Gy (BZ n))):=by
  show(Ck Ph [.int (n:Nat)]).map _=_;rw[List.map_inj_left.mp jZ n (bL.mpr hn)];rfl
 refine Je (Hi (ds:=[BX t]) rfl (P6 o hm C1)) (lA (Uv (xs:=[BX t,Gy (BZ n)]) (SR rfl (SR (Uv (xs:=[.int (n:Nat)]) rfl e) rfl)) ?_));rw[Sj h (fZ n hn) (eh n hn)]
 rfl
def dU{t:Tb}(h:t.Wu)(C1:AD):∃y,jy C1 [BX t]=some (.inl y):=by
 obtain⟨m,_,k,o,hm,_⟩:=id h;refine⟨kD t,NP rfl ?_⟩;unfold Ik;exact Je (Hi (ds:=[BX t]) rfl (P6 o hm C1)) (T5 (Zf h))
abbrev oB:DF:=(Ar (B1 1 (Aj (BB 9) (AB (nm 0) AG)))
 (Ar (Qm 2 AG)
 (Ar (Di (EI KN (AB (A8 CT (Aj KW (AB (nm 1) AG)) (fC (.int 1))) AG)) (F4 3)
  (Ar (B1 4 (A8 CT (BJ (AB (fC (.int 0)) AG)) (GI (Dx 1) HH (lW (CJ (Et false) (nm 1) (nm 2)) (fC (.int 1)) (fC (.int 0))) [none,none,some 3] (GZ (nm 1)))))
  (W0 2 (BJ (AB (Al (AB (Aj Hn (AB (nm 4) AG)) (AB (Al (AB (fC (.int 1)) (AB (fC (.int 1)) AG))) AG))) AG)))))
 (Zl 2 (CI (Al (AB (nm 2) (AB (A8 Jz (BJ (AB (Al (AB (fC (.int 0)) (AB (fC (.int 1)) AG))) AG)) (Aj KW (AB (nm 2) AG))) AG))))))))
def jC:Option Ou→Bool
 |some (.rt _)=>true
 |_=>false
def iK:((BZ 5).all fun u=>jC (oB [.d (tD u),.no,.no,.no,.no]))=true:=by decide +kernel
def dk{u:Tr}(hu:u∈BZ 5)(C2:AD):∃y,gQ C2 [tD u]=some (.inl y):=by
 have h:=aa.mp iK u hu;unfold jC at h;split at h
 ·rename_i y e;refine⟨y,NP rfl ?_⟩;unfold Gb;exact Je (Hi (ds:=[tD u]) rfl (XQ (WH (aa.mp VN u hu)) C2)) (T5 e)
 ·cases h
def Kp(a:AD)(x:Bool)(b:AD)(y:Bool):AD→Option Bool:=fun C=>if C=a then some x else if C=b then some y else none
def SH{K:Fg}{a b:AD}{x y:Bool}{cv:V}(xa:Fj K a)(ka:PySem.W.kitOne K (.ref a) (F8 cv)=some x)(xb:Fj K b)(kb:PySem.W.kitOne K (.ref b) (F8 cv)=some y):∀C u,Kp a x b y C=some u→Fj K C∧PySem.W.kitOne K (.ref C) (F8 cv)=some u:=fun C u h=>by
 unfold Kp at h;split at h
 ·rename_i e;subst e;cases h;exact⟨xa,ka⟩
 ·split at h
  ·rename_i e;subst e;cases h;exact⟨xb,kb⟩
  ·cases h
def NU{T:AD→Option Bool}{C:AD}{b:Bool}{f:Dv→Option PD}{δ:Dv}(hf:f δ=some (Mz C))(h:T C=some b):QI T f δ=some (.bool b):=by
 show(f δ).bind _=_;rw[hf];show(T ((C:Nat):Int).toNat).map PyData.bool=_;rw[Int.toNat_natCast,h];rfl
noncomputable abbrev jq(C1 C2:AD):List PD→Option Xr:=only [C1,C2] (dD C1 C2)
noncomputable abbrev i5(C1 C2:AD):List PD→Option Xr:=only [C1,C2] (jg C1)
noncomputable abbrev js(C1 C2:AD):List PD→Option Xr:=only [C1,C2] (jy C1)
noncomputable abbrev iM(C1 C2:AD):List PD→Option Xr:=only [C1,C2] (gQ C2)
noncomputable abbrev VO(C1 C2:AD):MD:=Cn (iM C1 C2) (js C1 C2) (i5 C1 C2) (jq C1 C2) (Kp C1 true C2 false) (Kp C1 false C2 true) (Kp C1 false C2 false) (Kp C1 true C2 true)
noncomputable abbrev kB(C1 C2:AD):FB:=(EN (MJ (CJ (Et false) (nm 0) (fC (.int 0)))
  (EN (EL (jq C1 C2) (AB (nm 1) (AB (nm 2) AG)))
   EW)
  EW)
  (EN (MJ (CJ (Et false) (nm 0) (fC (.int 1)))
  (EN (EL (i5 C1 C2) (AB (nm 1) (AB (nm 3) AG)))
   EW)
  EW)
  (EN (MJ (CJ (Et false) (nm 0) (fC (.int 2)))
  (EN (EL (js C1 C2) (AB (nm 1) AG))
   EW)
  EW)
  (EN (MJ (CJ (Et false) (nm 0) (fC (.int 3)))
  (EN (EL (iM C1 C2) (AB (nm 2) AG))
   EW)
  EW)
  EW))))
def SJ{C1 C2:AD}{wh:Int}{t x n:PD}(h:kB C1 C2 [.d (.int wh),.d t,.d x,.d n,.d .none,.no,.no]=some none):VO C1 C2 [.int wh,t,x,n]=some (.list []):=by
 refine E1 rfl ?_;unfold J5;refine A0 rfl (A0 (ZN h) (G7 (JP rfl rfl)))
def YN{C1 C2 C:AD}{a b c d:Bool}{wh:Int}{t x n:PD}(h:kB C1 C2 [.d (.int wh),.d t,.d x,.d n,.d .none,.no,.no]=some (some C))(ha:Kp C1 true C2 false C=some a)(hb:Kp C1 false C2 true C=some b)(hc:Kp C1 false C2 false C=some c)(hd:Kp C1 true C2 true C=some d):VO C1 C2 [.int wh,t,x,n]=some (.list [.bool a,.bool b,.bool c,.bool d]):=by
 refine E1 rfl ?_;unfold J5;refine A0 rfl (A0 (Y7 (δ':=[.d (.int wh),.d t,.d x,.d n,.d (Mz C),.d (Mz C),.no]) h rfl) (A0 (Ds rfl rfl) ?_));refine A0 (Df (Ve (xs:=[.bool a,.bool b,.bool c]) (Cm (NU (C:=C) rfl ha) (Cm (NU (C:=C) rfl hb) (Cm (NU (C:=C) rfl hc) rfl))) (by show(3:Nat)≤Dw;decide))) ?_;exact Jf (Bf (x:=.list [.bool a,.bool b,.bool c]) (y:=.list [.bool d]) rfl (Ve (xs:=[.bool d]) (Cm (NU (C:=C) rfl hd) rfl) (by show(1:Nat)≤Dw;decide)) rfl)
abbrev gz:MD:=Cj PX
def bq(u:Tr):List PD:=[.tuple [.tuple [],.tuple [tD u,.tuple []]],.tuple [.tuple [],.tuple (L2.Bn u++[.tuple []])],.list [tD u],.tuple [tD u,.list []],.tuple [tD u,.int 0]]
def Nf(u:Tr):List PD:=bq u++[.tuple [.none],.none,.str "()"]
def Zm(l0 l1:L):(BZ 5).map (fun u=>BJ (AB (Al (AB (Al AG) (AB (Al (AB (nm 2) (AB (Al AG) AG))) AG))) (AB (Al (AB (Al AG) (AB (A8 CT (nm 2) (Al (AB (Al AG) AG))) AG))) (AB (BJ (AB (nm 2) AG)) (AB (Al (AB (nm 2) (AB (BJ AG) AG))) (AB (Al (AB (nm 2) (AB (fC (.int 0)) AG))) AG))))) [l0,l1,.d (tD u),.no])=(BZ 5).map fun u=>some (.list (bq u)):=by kernel_rfl
def X7(l0 l1 l2:L):(BZ 5).map (fun u=>A8 CT (nm 3) (BJ (AB (Al (AB (fC .none) AG)) (AB (fC .none) (AB (fC (.str (Str.ofString "()"))) AG)))) [l0,l1,l2,.d (.list (bq u))])=(BZ 5).map fun u=>some (.list (Nf u)):=by kernel_rfl
def Xy:((BZ 5).all fun u=>(Nf u).all fun d=>d.canLay0&&OD 12 d&&(Ce d==false))=true:=by decide +kernel
def Zc:(L2.Bn (Tr.of (BZ 5))).length=17:=by rw[Ja,List.length_map];decide +kernel
def Va{i:Nat}(h:i<17):∃u,u∈BZ 5∧(L2.Bn (Tr.of (BZ 5)))[i]? = some (tD u):=by
 have hl:(BZ 5).length=17:=by decide +kernel
 refine⟨(BZ 5)[i]'(by omega),List.getElem_mem _,?_⟩;rw[Ja,List.getElem?_map,List.getElem?_eq_getElem (by omega)]
 rfl
def kf(c:Int):∃d,gz [.int c]=some d∧PL [d]=some (.bool false):=by
 obtain⟨i,hi,ei⟩:∃i:Nat,i<17∧c / 8 % 17=(i:Int):=⟨(c / 8 % 17).toNat,by omega,by omega⟩;obtain⟨k,hk,ek⟩:∃k:Nat,k<8∧c % 8=(k:Int):=⟨(c % 8).toNat,by omega,by omega⟩;obtain⟨u,hu,eu⟩:=Va hi;have e8:(Nf u)[k]? = some ((Nf u)[k]'hk):=aL _;refine⟨(Nf u)[k]'hk,E1 rfl ?_,WH (aa.mp (aa.mp Xy u hu) _ (aP e8))⟩;unfold Kh;refine A0 (Df (B2 (xs:=[.int 5]) rfl VE)) (A0 (Df (y:=tD u) ?_) (A0 (Df (List.map_inj_left.mp (Zm _ _) u hu)) (Jf ?_)))
 ·refine Bf (x:=TN 5) (y:=.int (i:Nat)) rfl (Bf (x:=.int (c / 8)) (y:=.int 17) (Bf (x:=.int c) (y:=.int 8) rfl rfl (div_is (by decide) (by decide))) ?_ ((mod_is (by decide)).trans (by rw[ei]))) (EX eu);show some (PyData.int ((L2.Bn (Tr.of (BZ 5))).length:Nat))=_;rw[Zc]
  rfl
 ·exact Bf (x:=.list (Nf u)) (y:=.int (k:Nat)) (List.map_inj_left.mp (X7 _ _ _) u hu) (Bf (x:=.int c) (y:=.int 8) rfl rfl ((mod_is (by decide)).trans (by rw[ek]))) (EX e8)
abbrev lT:PD:=.list [.bool true,.bool false,.bool false,.bool true]
abbrev lF:PD:=.list [.bool false,.bool true,.bool false,.bool true]
section
variable{C1 C2:AD}{t x n:PD}{r:Option AD}
def Y9(h:EL (jq C1 C2) (AB (nm 1) (AB (nm 2) AG)) [.d (.int 0),.d t,.d x,.d n,.d .none,.no,.no]=some r):kB C1 C2 [.d (.int 0),.d t,.d x,.d n,.d .none,.no,.no]=some r:=by
 cases r with
 |none=>exact B6 (Ki rfl (B6 h rfl)) (B6 (GJ rfl rfl) (B6 (GJ rfl rfl) (B6 (GJ rfl rfl) rfl)))
 |some C=>exact Gp (Ki rfl (Gp h))
def ik(h:EL (i5 C1 C2) (AB (nm 1) (AB (nm 3) AG)) [.d (.int 1),.d t,.d x,.d n,.d .none,.no,.no]=some r):kB C1 C2 [.d (.int 1),.d t,.d x,.d n,.d .none,.no,.no]=some r:=by
 refine B6 (GJ rfl rfl) ?_;cases r with
 |none=>exact B6 (Ki rfl (B6 h rfl)) (B6 (GJ rfl rfl) (B6 (GJ rfl rfl) rfl))
 |some C=>exact Gp (Ki rfl (Gp h))
def gy(h:EL (js C1 C2) (AB (nm 1) AG) [.d (.int 2),.d t,.d x,.d n,.d .none,.no,.no]=some r):kB C1 C2 [.d (.int 2),.d t,.d x,.d n,.d .none,.no,.no]=some r:=by
 refine B6 (GJ rfl rfl) (B6 (GJ rfl rfl) ?_);cases r with
 |none=>exact B6 (Ki rfl (B6 h rfl)) (B6 (GJ rfl rfl) rfl)
 |some C=>exact Gp (Ki rfl (Gp h))
def iO(h:EL (iM C1 C2) (AB (nm 2) AG) [.d (.int 3),.d t,.d x,.d n,.d .none,.no,.no]=some r):kB C1 C2 [.d (.int 3),.d t,.d x,.d n,.d .none,.no,.no]=some r:=by
 refine B6 (GJ rfl rfl) (B6 (GJ rfl rfl) (B6 (GJ rfl rfl) ?_));cases r with
 |none=>exact B6 (Ki rfl (B6 h rfl)) rfl
 |some C=>exact Gp (Ki rfl (Gp h))
def a8{wh:Int}(h:kB C1 C2 [.d (.int wh),.d t,.d x,.d n,.d .none,.no,.no]=some (some C1)):VO C1 C2 [.int wh,t,x,n]=some (lT):=YN h (if_pos rfl) (if_pos rfl) (if_pos rfl) (if_pos rfl)
def iQ(hne:C2≠C1){wh:Int}(h:kB C1 C2 [.d (.int wh),.d t,.d x,.d n,.d .none,.no,.no]=some (some C2)):VO C1 C2 [.int wh,t,x,n]=some (lF) :=
 YN h ((if_neg hne).trans (if_pos rfl)) ((if_neg hne).trans (if_pos rfl)) ((if_neg hne).trans (if_pos rfl)) ((if_neg hne).trans (if_pos rfl))
end
def gp{C1 C2:AD}(hne:C2≠C1)(ns:List Int)(c:Int){t:Tb}(hw:t.Wu){d:PD}(hc:d.canLay0=true)(hd:CG d=false):Qv gz CC (VO C1 C2) PX [.d (E9 ns),.d (BX t),.d (.int c),.d d,.no,.no,.no]=some (.rt (.bool true)):=by
 obtain⟨m,_,_,o,hm,_⟩:=id hw;obtain⟨x,hx,tx⟩:=kf (EK ns 3);obtain⟨i,hi,ei⟩:∃i:Nat,i<17∧c % 17=(i:Int):=⟨(c % 17).toNat,by omega,by omega⟩;obtain⟨k,hk,ek⟩:∃k:Nat,k<7∧c % 7=(k:Int):=⟨(c % 7).toNat,by omega,by omega⟩;obtain⟨u,hu,eu⟩:=Va hi;unfold Qv;refine A0 (Df (B2 (xs:=[.int (EK ns 3)]) (Cm (B2 (xs:=[E9 ns,.int 3]) rfl (S6 ns 3)) rfl) hx)) ?_;refine Sl (xs:=Hx 0 3) (fun i δ=>∃l5:L,δ=[.d (E9 ns),.d (BX t),.d (.int c),.d d,.d x,l5,.no]) rfl ⟨_,rfl⟩ ?_ ?_
 ·rintro i y δ hy ⟨l5,rfl⟩;obtain⟨rfl,hi3⟩:=Qe hy;refine⟨_,rfl,_,Ds (Gn (x:=lT) (y:=lT) (B2 (xs:=[.int (0+(i:Int)),d,x,.int 9]) rfl ?_) rfl (by kernel_rfl)) rfl,_,rfl⟩;have:i=0∨i=1∨i=2:=by omega
  rcases this with rfl|rfl|rfl
  ·exact a8 (Y9 (J9 (ds:=[d,x]) rfl (La (gH hc hd C1 C2) (.head _))))
  ·exact a8 (ik (J9 (ds:=[d,.int 9]) rfl (La (jI hc hd C1) (.head _))))
  ·exact a8 (gy (J9 (ds:=[d]) rfl (La (jQ hc hd C1) (.head _))))
 rintro δ ⟨l5,rfl⟩;refine Sl (xs:=[.int 0,.int 3]) (fun i δ=>∃l5:L,δ=[.d (E9 ns),.d (BX t),.d (.int c),.d d,.d x,l5,.no]) rfl ⟨_,rfl⟩ ?_ ?_
 ·rintro i y δ hy ⟨l5,rfl⟩;have hil:=(aC.mp hy).1;have:i=0∨i=1:=by simp at hil;omega
  rcases this with rfl|rfl
  ·cases hy;exact⟨_,rfl,_,Ds (Gn (x:=lF) (y:=lF) (B2 (xs:=[.int 0,BX t,x,.int 3]) rfl (iQ hne (Y9 (J9 (ds:=[BX t,x]) rfl (La (fD o hm tx C1 C2) (.tail _ (.head _))))))) rfl (by kernel_rfl)) rfl,_,rfl⟩
  ·cases hy;exact⟨_,rfl,_,Ds (Gn (x:=lF) (y:=lF) (B2 (xs:=[.int 3,BX t,x,.int 3]) rfl (iQ hne (iO (J9 (ds:=[x]) rfl (La (eI tx C2) (.tail _ (.head _))))))) rfl (by kernel_rfl)) rfl,_,rfl⟩
 rintro δ ⟨l5,rfl⟩;refine A0 (Df (y:=tD u) (Bf (x:=TN 5) (y:=.int (i:Nat)) (B2 (xs:=[.int 5]) rfl VE) (Bf (x:=.int c) (y:=.int 17) rfl rfl ((mod_is (by decide)).trans (by rw[ei]))) (EX eu))) (Jf ?_);refine Bf (x:=.list ((Hx 0 4).map fun _=>.list [])) (y:=.list [.list [],.list [],.list [],.list []]) (comp_map (xs:=Hx 0 4) (g:=fun _=>.list []) rfl (by show(4:Nat)≤Dw;decide) fun y hy=>?_) rfl (by kernel_rfl);obtain⟨j,hj⟩:=bK hy;obtain⟨rfl,hj4⟩:=Qe hj;refine B2 (xs:=[.int (0+(j:Int)),BX t,tD u,.int (k:Nat)]) (Cm rfl (Cm rfl (Cm rfl (Cm (Bf (x:=.int c) (y:=.int 7) rfl rfl ((mod_is (by decide)).trans (by rw[ek]))) rfl)))) ?_;obtain⟨y0,g0⟩:=eG hw hu C1 C2;obtain⟨y1,g1⟩:=eE hw hk C1;obtain⟨y2,g2⟩:=dU hw C1;obtain⟨y3,g3⟩:=dk hu C2;have:j=0∨j=1∨j=2∨j=3:=by omega
 rcases this with rfl|rfl|rfl|rfl
 ·exact SJ (Y9 (Lr (ds:=[BX t,tD u]) rfl (Nc g0)))
 ·exact SJ (ik (Lr (ds:=[BX t,.int (k:Nat)]) rfl (Nc g1)))
 ·exact SJ (gy (Lr (ds:=[BX t]) rfl (Nc g2)))
 ·exact SJ (iO (Lr (ds:=[tD u]) rfl (Nc g3)))
def Tb.Sm.fits{t:Tb}(h:t.Sm):t.Fits 3:=⟨fun r hr q hq=>(h.1 r hr q hq).1,fun q hq=>(h.2 q hq).1⟩
def V1(K:Fg):Sp:=fun vs H Q _=>∃(a:AD) (ns:List Int),vs=[.ref a]∧Ab K H a (ns.map V.int)∧ns.length≤63∧∀H',Q (.bl true) H'
section
variable{P:Program}{w:World}{K:Fg}{mg:Str→Option VL}{base:Heap}{f g1 g2 g3 g4 g5 g6:AD}{fd gd1 gd2 gd3 gd4 gd5 gd6:FuncData}
def iT{k:Nat}{C1 C2:AD}(hK:R6 K=true)(hne:C2≠C1)(F:Fn K mg "law" O9 ["_law_script"] f fd)(HL:Fn K mg "_law_table" KU ["_law_script", "_law_at", "_law_most"] g1 gd1)(CP:Fn K mg "_law_cell" GB ["_law_script", "_law_k"] g2 gd2)(Ej:Fn K mg "_law_bad_table" GS ["_law_table_here", "_law_cell_here"] g3 gd3)(DD:Fn K mg "_law_bad_tree" FP ["_law_cell_here"] g4 gd4)(C8:Fn K mg "_law_kinds" G8 ["_law_which", "_law_table_here", "_law_tree", "_law_most"] g5 gd5)(Ci:Fn K mg "_law_trees" FW ["_law_most"] g6 gd6)
 (T6:AQ P w K mg base Ah k g1 gd1 ["_law_script", "_law_at", "_law_most"] ia)(D__law_cell:AQ P w K mg base Ah k g2 gd2 ["_law_script", "_law_k"] (Bz CC))(OV:AQ P w K mg base Ah k g3 gd3 ["_law_table_here", "_law_cell_here"] cj)(EC:AQ P w K mg base Ah k g4 gd4 ["_law_cell_here"] (Bz gz))(Dh:AQ P w K mg base Ah k g5 gd5 ["_law_which", "_law_table_here", "_law_tree", "_law_most"] (Bz (VO C1 C2)))(C9:AQ P w K mg base Ah k g6 gd6 ["_law_most"] (Bz PX))(BP:mg "range" = none):AQ P w K mg base Ah (k+1) f fd ["_law_script"] (V1 K):=by
 have sc:=YC;have C4:=VB D__law_cell;refine F.F.ok (k:=k) sc (fun vs H Q E h=>?_) (fun cdv A outer s H vs Q E hr h=>?_)
 ·obtain⟨a,ns,rfl,_⟩:=h
  rfl
 obtain⟨a,ns,rfl,hS,h63,q⟩:=h;have ha:=hV hK hS;obtain⟨t,pt,kt⟩:=ZM DD EC CP D__law_cell C8 Dh Ci C9 BP cdv A outer s H E hr;refine⟨_,(AN (A5 (i:=1) sc.nd rfl (Or.inr rfl) (Bp HL T6 hr rfl (AE (pv 0) (AE AR (AE AR AL)))))
  (AN (A5 (i:=2) sc.nd rfl (Or.inr rfl) (Bp CP C4 hr rfl (AE (pv 0) (AE AR AL))))
  (AN (A5 (i:=3) sc.nd rfl (Or.inl rfl) (Bp Ej OV hr rfl (AE (pv 1) (AE (pv 2) AL)))) pt))),?_⟩
 refine⟨_,rfl,a,ns,0,3,rfl,ha,by decide,by decide,fun v1 H1 e1 d1 _=>?_⟩;obtain⟨o1,s1⟩:=iJ (EK ns 0) (EK ns (0+1)) (most:=3) (by decide) (by decide);generalize S7 (EK ns 0) (EK ns (0+1)) 3=t1 at d1 o1 s1;refine⟨_,rfl,a,ns,2,rfl,QX ha e1,fun H2 e2=>?_⟩;refine⟨_,rfl,_,rfl,v1,t1,EK ns 2,rfl,d1.same e2,o1,fun v3 H3 d e3 d3 hc hd=>?_⟩;refine kt _ _ (gp hne ns (EK ns 2) (kM o1 (by decide) s1.fits (by decide) (by decide)) hc hd) H3 H3 H3 H3 _ _ ⟨.refl _,Nw.refl,.refl _,.refl _,rfl,fun i x h=>?_,fun i xs h=>?_,fun i j xs ys _ h=>?_,fun q hq=>by cases hq⟩ fun v G' H' _ _ _ _ dv=>?_
 ·rcases i with _|_|_|_|_|_|_|i
  ·cases h;exact⟨_,rfl,Xo (QX ha (e1.trans (e2.trans e3)))⟩
  ·cases h;exact⟨_,rfl,(d1.same (e2.trans e3)).du⟩
  ·cases h;exact⟨_,rfl,by rw[Du]⟩
  ·cases h;exact⟨_,rfl,d3.du⟩
  all_goals first|(cases h;done)|(simp at h)
 ·rcases i with _|_|_|_|_|_|_|i
  all_goals first|(cases h;done)|(simp at h)
 ·rcases i with _|_|_|_|_|_|_|i
  all_goals first|(cases h;done)|(simp at h)
 ·rw[Du]at dv;subst dv;exact q H'
end
section
open PySem.W PyProof.Rows PySem.Calls
abbrev Ew:Program:=PySem.Challenge.pw_stepgrove_k42_no_tables_no_trees
abbrev CH:OpenLaw:=PySem.Challenge.rw_stepgrove_k42_no_tables_no_trees
noncomputable abbrev dE(P:Params)(x:String)(t:Nat)(v:VL):DictEntry:=⟨PyData.keyHash P (Str.ofString x),.str (Str.ofString x) t,v⟩
noncomputable abbrev sV(x:String)(t:Nat):VL:=.str (Str.ofString x) t
noncomputable abbrev fO(n:String)(i:Nat)(m:String)(t c:Nat):Obj:=⟨.type "function",none,.func (fnOf n n (Fw (top i)) (DH (top i)) (AV (top i)) .none .none .none (.str (Str.ofString m) t) none (.ref c) .none),#[]⟩
noncomputable abbrev cO(n:String)(t l a k r:Nat)(b:Bool)(r2:Nat)(v1 v2 v3 v4:VL)(t2:Nat):Obj:=⟨.type "code",none,.fields #[sV n t,sV n (t+1),sV "/claim/cut.py" (t+2),.int l 0,.int a 0,.int 0 0,.int 0 0,.int k 0,.ref r,.bool b,.int 181 0,.ref r2,v1,v2,v3,v4,.int t2 0,.int l 0,sV "/claim/cut.py" (t2+1)],#[]⟩
noncomputable def kH:Params→Frag:=fun P =>
 (nat_lit 2,⟨.none,none,(.dict #[] 0),#[]⟩) ::
 (nat_lit 3,⟨(.type "dict"),none,(.dict #[dE P "__name__" 165 (sV "law_stepgrove_k42_no_tables_no_trees" 529),dE P "__doc__" 166 .none,dE P "__package__" 167 .none,dE P "__loader__" 168 (.builtin "__main__.__loader__#opaque"),dE P "__spec__" 169 .none,dE P "__annotations__" 170 (.ref 6),dE P "__builtins__" 171 (.ref 4),dE P "__file__" 173 (sV "/claim/cut.py" 172),dE P "__cached__" 174 .none,dE P "GroveError" 206 (.ref 24),dE P "NoBottom" 222 (.ref 37),dE P "NoTree" 238 (.ref 49),dE P "NoTable" 254 (.ref 61),dE P "TooMany" 270 (.ref 73),dE P "fraction_of" 281 (.ref 82),dE P "is_fraction" 288 (.ref 89),dE P "are_fractions" 296 (.ref 96),dE P "is_whole" 303 (.ref 103),dE P "greatest_divisor" 314 (.ref 110),dE P "common_bottom" 323 (.ref 117),dE P "power_of" 334 (.ref 124),dE P "MOST_ROWS" 338 (.int 40 337),dE P "is_table" 345 (.ref 131),dE P "refuse_no_table" 352 (.ref 138),dE P "are_rows" 361 (.ref 145),dE P "MOST_KNOTS" 365 (.int 7 364),dE P "is_tree" 374 (.ref 152),dE P "trees_of" 385 (.ref 159),dE P "trees_to" 394 (.ref 166),dE P "refuse_no_tree" 401 (.ref 173),dE P "in_falling_order" 408 (.ref 180),dE P "knots_within" 414 (.ref 185),dE P "density_within" 423 (.ref 192),dE P "parents_within" 429 (.ref 197),dE P "trees_one_larger" 440 (.ref 204),dE P "tops_over" 448 (.ref 209),dE P "table_bottom" 454 (.ref 214),dE P "table_weight" 464 (.ref 221),dE P "table_weighing" 472 (.ref 228),dE P "true_weights" 478 (.ref 233),dE P "weights_under" 484 (.ref 238),dE P "readings" 490 (.ref 243),dE P "read_by" 496 (.ref 248),dE P "MOST_ORDER" 500 (.int 6 499),dE P "table_order" 510 (.ref 255),dE P "parting_change" 516 (.ref 260),dE P "first_unlike" 528 (.ref 267),dE P "_law_cell" 540 (.ref 274),dE P "_law_frac" 550 (.ref 281),dE P "_law_add" 558 (.ref 288),dE P "_law_mul" 566 (.ref 295),dE P "_law_all" 575 (.ref 302),dE P "_law_kept" 581 (.ref 307),dE P "_law_longer" 587 (.ref 312),dE P "_law_trees" 599 (.ref 319),dE P "_law_entry" 606 (.ref 326),dE P "_law_named" 613 (.ref 333),dE P "_law_table" 630 (.ref 340),dE P "_law_copied" 636 (.ref 345),dE P "_law_kinds" 649 (.ref 352),dE P "_law_bad_table" 663 (.ref 359),dE P "_law_bad_tree" 673 (.ref 366),dE P "law" 679 (.ref 371)] 63),#[]⟩) ::
 (nat_lit 15,⟨(.type "tuple"),none,(.seq #[(.type "ValueError")] 0),#[]⟩) ::
 (nat_lit 22,⟨(.type "tuple"),none,(.seq #[] 0),#[]⟩) ::
 (nat_lit 23,⟨(.type "dict"),none,(.dict #[dE P "__module__" 196 (sV "stepgrove.errors" 187),dE P "__firstlineno__" 200 (.int 2 199),dE P "__static_attributes__" 201 (.ref 22),dE P "__weakref__" 203 (.ref 25),dE P "__doc__" 204 .none] 3),#[]⟩) ::
 (nat_lit 24,⟨(.type "type"),none,(.cls ⟨Str.ofString "GroveError",[(.type "ValueError")],[(.ref 24),(.type "ValueError"),(.type "Exception"),(.type "BaseException"),(.type "object")],23,Str.ofString "GroveError",true,[],[(.ref 37),(.ref 49),(.ref 61),(.ref 73)],false,none,false⟩),#[some (.ref 15),none,some (sV "GroveError" 189),some (sV "GroveError" 197),some (.builtin "ValueError.__new__"),some (.bool true)]⟩) ::
 (nat_lit 25,⟨(.type "getset_descriptor"),none,(.fields #[(sV "__weakref__" 202),(.ref 24),(.builtin "ExceptionGroup.__weakref__"),.none]),#[]⟩) ::
 (nat_lit 28,⟨(.type "tuple"),none,(.seq #[(.ref 24)] 0),#[]⟩) ::
 (nat_lit 35,⟨(.type "tuple"),none,(.seq #[] 0),#[]⟩) ::
 (nat_lit 36,⟨(.type "dict"),none,(.dict #[dE P "__module__" 214 (sV "stepgrove.errors" 187),dE P "__firstlineno__" 218 (.int 4 217),dE P "__static_attributes__" 219 (.ref 35),dE P "__doc__" 220 .none] 2),#[]⟩) ::
 (nat_lit 37,⟨(.type "type"),none,(.cls ⟨Str.ofString "NoBottom",[(.ref 24)],[(.ref 37),(.ref 24),(.type "ValueError"),(.type "Exception"),(.type "BaseException"),(.type "object")],36,Str.ofString "NoBottom",true,[],[],false,none,false⟩),#[some (.ref 28),none,some (sV "NoBottom" 207),some (sV "NoBottom" 215),some (.builtin "ValueError.__new__"),some (.bool true)]⟩) ::
 (nat_lit 40,⟨(.type "tuple"),none,(.seq #[(.ref 24)] 0),#[]⟩) ::
 (nat_lit 47,⟨(.type "tuple"),none,(.seq #[] 0),#[]⟩) ::
 (nat_lit 48,⟨(.type "dict"),none,(.dict #[dE P "__module__" 230 (sV "stepgrove.errors" 187),dE P "__firstlineno__" 234 (.int 6 233),dE P "__static_attributes__" 235 (.ref 47),dE P "__doc__" 236 .none] 2),#[]⟩) ::
 (nat_lit 49,⟨(.type "type"),none,(.cls ⟨Str.ofString "NoTree",[(.ref 24)],[(.ref 49),(.ref 24),(.type "ValueError"),(.type "Exception"),(.type "BaseException"),(.type "object")],48,Str.ofString "NoTree",true,[],[],false,none,false⟩),#[some (.ref 40),none,some (sV "NoTree" 223),some (sV "NoTree" 231),some (.builtin "ValueError.__new__"),some (.bool true)]⟩) ::
 (nat_lit 52,⟨(.type "tuple"),none,(.seq #[(.ref 24)] 0),#[]⟩) ::
 (nat_lit 59,⟨(.type "tuple"),none,(.seq #[] 0),#[]⟩) ::
 (nat_lit 60,⟨(.type "dict"),none,(.dict #[dE P "__module__" 246 (sV "stepgrove.errors" 187),dE P "__firstlineno__" 250 (.int 8 249),dE P "__static_attributes__" 251 (.ref 59),dE P "__doc__" 252 .none] 2),#[]⟩) ::
 (nat_lit 61,⟨(.type "type"),none,(.cls ⟨Str.ofString "NoTable",[(.ref 24)],[(.ref 61),(.ref 24),(.type "ValueError"),(.type "Exception"),(.type "BaseException"),(.type "object")],60,Str.ofString "NoTable",true,[],[],false,none,false⟩),#[some (.ref 52),none,some (sV "NoTable" 239),some (sV "NoTable" 247),some (.builtin "ValueError.__new__"),some (.bool true)]⟩) ::
 (nat_lit 64,⟨(.type "tuple"),none,(.seq #[(.ref 24)] 0),#[]⟩) ::
 (nat_lit 71,⟨(.type "tuple"),none,(.seq #[] 0),#[]⟩) ::
 (nat_lit 72,⟨(.type "dict"),none,(.dict #[dE P "__module__" 262 (sV "stepgrove.errors" 187),dE P "__firstlineno__" 266 (.int 10 265),dE P "__static_attributes__" 267 (.ref 71),dE P "__doc__" 268 .none] 2),#[]⟩) ::
 (nat_lit 73,⟨(.type "type"),none,(.cls ⟨Str.ofString "TooMany",[(.ref 24)],[(.ref 73),(.ref 24),(.type "ValueError"),(.type "Exception"),(.type "BaseException"),(.type "object")],72,Str.ofString "TooMany",true,[],[],false,none,false⟩),#[some (.ref 64),none,some (sV "TooMany" 255),some (sV "TooMany" 263),some (.builtin "ValueError.__new__"),some (.bool true)]⟩) ::
 (nat_lit 81,cO "fraction_of" 273 13 2 3 76 true 77 .none (.ref 78) (.ref 79) (.ref 80) 279) ::
 (nat_lit 82,fO "fraction_of" 7 "stepgrove.fracs" 271 81) ::
 (nat_lit 88,cO "is_fraction" 282 20 1 3 83 true 84 .none (.ref 85) (.ref 86) (.ref 87) 286) ::
 (nat_lit 89,fO "is_fraction" 8 "stepgrove.fracs" 271 88) ::
 (nat_lit 95,cO "are_fractions" 289 26 1 3 90 true 91 .none (.ref 92) (.ref 93) (.ref 94) 294) ::
 (nat_lit 96,fO "are_fractions" 9 "stepgrove.fracs" 271 95) ::
 (nat_lit 102,cO "is_whole" 297 33 1 3 97 true 98 .none (.ref 99) (.ref 100) (.ref 101) 301) ::
 (nat_lit 103,fO "is_whole" 10 "stepgrove.fracs" 271 102) ::
 (nat_lit 109,cO "greatest_divisor" 304 35 2 3 104 true 105 .none (.ref 106) (.ref 107) (.ref 108) 312) ::
 (nat_lit 110,fO "greatest_divisor" 11 "stepgrove.fracs" 271 109) ::
 (nat_lit 116,cO "common_bottom" 315 43 1 3 111 true 112 .none (.ref 113) (.ref 114) (.ref 115) 321) ::
 (nat_lit 117,fO "common_bottom" 12 "stepgrove.fracs" 271 116) ::
 (nat_lit 123,cO "power_of" 324 48 2 3 118 true 119 .none (.ref 120) (.ref 121) (.ref 122) 332) ::
 (nat_lit 124,fO "power_of" 13 "stepgrove.fracs" 271 123) ::
 (nat_lit 130,cO "is_table" 339 61 1 3 125 true 126 .none (.ref 127) (.ref 128) (.ref 129) 343) ::
 (nat_lit 131,fO "is_table" 16 "stepgrove.tables" 335 130) ::
 (nat_lit 137,cO "refuse_no_table" 346 65 1 3 132 true 133 .none (.ref 134) (.ref 135) (.ref 136) 350) ::
 (nat_lit 138,fO "refuse_no_table" 17 "stepgrove.tables" 335 137) ::
 (nat_lit 144,cO "are_rows" 353 68 1 3 139 true 140 .none (.ref 141) (.ref 142) (.ref 143) 359) ::
 (nat_lit 145,fO "are_rows" 18 "stepgrove.tables" 335 144) ::
 (nat_lit 151,cO "is_tree" 366 77 1 3 146 true 147 .none (.ref 148) (.ref 149) (.ref 150) 372) ::
 (nat_lit 152,fO "is_tree" 21 "stepgrove.trees" 362 151) ::
 (nat_lit 158,cO "trees_of" 375 86 1 3 153 true 154 .none (.ref 155) (.ref 156) (.ref 157) 383) ::
 (nat_lit 159,fO "trees_of" 22 "stepgrove.trees" 362 158) ::
 (nat_lit 165,cO "trees_to" 386 96 1 3 160 true 161 .none (.ref 162) (.ref 163) (.ref 164) 392) ::
 (nat_lit 166,fO "trees_to" 23 "stepgrove.trees" 362 165) ::
 (nat_lit 172,cO "refuse_no_tree" 395 103 1 3 167 true 168 .none (.ref 169) (.ref 170) (.ref 171) 399) ::
 (nat_lit 173,fO "refuse_no_tree" 24 "stepgrove.trees" 362 172) ::
 (nat_lit 179,cO "in_falling_order" 402 106 1 3 174 true 175 .none (.ref 176) (.ref 177) (.ref 178) 406) ::
 (nat_lit 180,fO "in_falling_order" 25 "stepgrove.trees" 362 179) ::
 (nat_lit 184,cO "knots_within" 409 108 1 3 181 true 182 .none .none .none (.ref 183) 412) ::
 (nat_lit 185,fO "knots_within" 26 "stepgrove.trees" 362 184) ::
 (nat_lit 191,cO "density_within" 415 110 1 3 186 true 187 .none (.ref 188) (.ref 189) (.ref 190) 421) ::
 (nat_lit 192,fO "density_within" 27 "stepgrove.trees" 362 191) ::
 (nat_lit 196,cO "parents_within" 424 115 1 3 193 true 194 .none .none .none (.ref 195) 427) ::
 (nat_lit 197,fO "parents_within" 28 "stepgrove.trees" 362 196) ::
 (nat_lit 203,cO "trees_one_larger" 430 122 1 3 198 true 199 .none (.ref 200) (.ref 201) (.ref 202) 438) ::
 (nat_lit 204,fO "trees_one_larger" 29 "stepgrove.trees" 362 203) ::
 (nat_lit 208,cO "tops_over" 443 129 2 3 205 true 206 .none .none .none (.ref 207) 446) ::
 (nat_lit 209,fO "tops_over" 31 "stepgrove.wholes" 441 208) ::
 (nat_lit 213,cO "table_bottom" 449 131 1 3 210 true 211 .none .none .none (.ref 212) 452) ::
 (nat_lit 214,fO "table_bottom" 32 "stepgrove.wholes" 441 213) ::
 (nat_lit 220,cO "table_weight" 457 137 2 3 215 true 216 .none (.ref 217) (.ref 218) (.ref 219) 462) ::
 (nat_lit 221,fO "table_weight" 34 "stepgrove.weights" 455 220) ::
 (nat_lit 227,cO "table_weighing" 465 141 2 3 222 true 223 .none (.ref 224) (.ref 225) (.ref 226) 470) ::
 (nat_lit 228,fO "table_weighing" 35 "stepgrove.weights" 455 227) ::
 (nat_lit 232,cO "true_weights" 473 144 1 3 229 true 230 .none .none .none (.ref 231) 476) ::
 (nat_lit 233,fO "true_weights" 36 "stepgrove.weights" 455 232) ::
 (nat_lit 237,cO "weights_under" 479 146 2 3 234 true 235 .none .none .none (.ref 236) 482) ::
 (nat_lit 238,fO "weights_under" 37 "stepgrove.weights" 455 237) ::
 (nat_lit 242,cO "readings" 485 154 3 3 239 true 240 .none .none .none (.ref 241) 488) ::
 (nat_lit 243,fO "readings" 38 "stepgrove.weights" 455 242) ::
 (nat_lit 247,cO "read_by" 491 161 2 3 244 true 245 .none .none .none (.ref 246) 494) ::
 (nat_lit 248,fO "read_by" 39 "stepgrove.weights" 455 247) ::
 (nat_lit 254,cO "table_order" 501 165 1 3 249 true 250 .none (.ref 251) (.ref 252) (.ref 253) 508) ::
 (nat_lit 255,fO "table_order" 42 "stepgrove.orders" 497 254) ::
 (nat_lit 259,cO "parting_change" 511 173 1 3 256 true 257 .none .none .none (.ref 258) 514) ::
 (nat_lit 260,fO "parting_change" 43 "stepgrove.orders" 497 259) ::
 (nat_lit 266,cO "first_unlike" 517 181 3 3 261 true 262 .none (.ref 263) (.ref 264) (.ref 265) 526) ::
 (nat_lit 267,fO "first_unlike" 44 "stepgrove.orders" 497 266) ::
 (nat_lit 273,cO "_law_cell" 531 187 2 3 268 true 269 .none (.ref 270) (.ref 271) (.ref 272) 538) ::
 (nat_lit 274,fO "_law_cell" 46 "law_stepgrove_k42_no_tables_no_trees" 529 273) ::
 (nat_lit 280,cO "_law_frac" 541 196 2 3 275 true 276 .none (.ref 277) (.ref 278) (.ref 279) 548) ::
 (nat_lit 281,fO "_law_frac" 47 "law_stepgrove_k42_no_tables_no_trees" 529 280) ::
 (nat_lit 306,cO "_law_kept" 576 213 1 3 303 true 304 .none .none .none (.ref 305) 579) ::
 (nat_lit 307,fO "_law_kept" 51 "law_stepgrove_k42_no_tables_no_trees" 529 306) ::
 (nat_lit 311,cO "_law_longer" 582 215 1 3 308 true 309 .none .none .none (.ref 310) 585) ::
 (nat_lit 312,fO "_law_longer" 52 "law_stepgrove_k42_no_tables_no_trees" 529 311) ::
 (nat_lit 318,cO "_law_trees" 588 220 1 3 313 true 314 .none (.ref 315) (.ref 316) (.ref 317) 597) ::
 (nat_lit 319,fO "_law_trees" 53 "law_stepgrove_k42_no_tables_no_trees" 529 318) ::
 (nat_lit 325,cO "_law_entry" 600 230 1 3 320 true 321 .none (.ref 322) (.ref 323) (.ref 324) 604) ::
 (nat_lit 326,fO "_law_entry" 54 "law_stepgrove_k42_no_tables_no_trees" 529 325) ::
 (nat_lit 332,cO "_law_named" 607 232 1 3 327 true 328 .none (.ref 329) (.ref 330) (.ref 331) 611) ::
 (nat_lit 333,fO "_law_named" 55 "law_stepgrove_k42_no_tables_no_trees" 529 332) ::
 (nat_lit 339,cO "_law_table" 614 242 3 3 334 true 335 .none (.ref 336) (.ref 337) (.ref 338) 628) ::
 (nat_lit 340,fO "_law_table" 56 "law_stepgrove_k42_no_tables_no_trees" 529 339) ::
 (nat_lit 344,cO "_law_copied" 631 265 1 3 341 true 342 .none .none .none (.ref 343) 634) ::
 (nat_lit 345,fO "_law_copied" 57 "law_stepgrove_k42_no_tables_no_trees" 529 344) ::
 (nat_lit 351,cO "_law_kinds" 637 267 4 3 346 true 347 .none (.ref 348) (.ref 349) (.ref 350) 647) ::
 (nat_lit 352,fO "_law_kinds" 58 "law_stepgrove_k42_no_tables_no_trees" 529 351) ::
 (nat_lit 358,cO "_law_bad_table" 650 284 2 3 353 true 354 .none (.ref 355) (.ref 356) (.ref 357) 661) ::
 (nat_lit 359,fO "_law_bad_table" 59 "law_stepgrove_k42_no_tables_no_trees" 529 358) ::
 (nat_lit 365,cO "_law_bad_tree" 664 311 1 3 360 true 361 .none (.ref 362) (.ref 363) (.ref 364) 671) ::
 (nat_lit 366,fO "_law_bad_tree" 60 "law_stepgrove_k42_no_tables_no_trees" 529 365) ::
 (nat_lit 370,cO "law" 674 316 1 3 367 true 368 .none .none .none (.ref 369) 677) ::
 (nat_lit 371,fO "law" 61 "law_stepgrove_k42_no_tables_no_trees" 529 370)::[]
abbrev qX:Program:=view Ew [1,2,3,4,5,7,8,9,10,11,12,13,15,16,17,18,20,21,22,23,24,25,26,27,28,29,31,32,34,35,36,37,38,39,41,42,43,44,46,47,48,49,50,51,52,53,54,55,56,57,58,59,60,61]
noncomputable abbrev hX:Hook:=kHook kH [nat_lit 2,nat_lit 3,nat_lit 15,nat_lit 22,nat_lit 23,nat_lit 24,nat_lit 25,nat_lit 28,nat_lit 35,nat_lit 36,nat_lit 37,nat_lit 40,nat_lit 47,nat_lit 48,nat_lit 49,nat_lit 52,nat_lit 59,nat_lit 60,nat_lit 61,nat_lit 64,nat_lit 71,nat_lit 72,nat_lit 73,nat_lit 81,nat_lit 82,nat_lit 88,nat_lit 89,nat_lit 95,nat_lit 96,nat_lit 102,nat_lit 103,nat_lit 109,nat_lit 110,nat_lit 116,nat_lit 117,nat_lit 123,nat_lit 124,nat_lit 130,nat_lit 131,nat_lit 137,nat_lit 138,nat_lit 144,nat_lit 145,nat_lit 151,nat_lit 152,nat_lit 158,nat_lit 159,nat_lit 165,nat_lit 166,nat_lit 172,nat_lit 173,nat_lit 179,nat_lit 180,nat_lit 184,nat_lit 185,nat_lit 191,nat_lit 192,nat_lit 196,nat_lit 197,nat_lit 203,nat_lit 204,nat_lit 208,nat_lit 209,nat_lit 213,nat_lit 214,nat_lit 220,nat_lit 221,nat_lit 227,nat_lit 228,nat_lit 232,nat_lit 233,nat_lit 237,nat_lit 238,nat_lit 242,nat_lit 243,nat_lit 247,nat_lit 248,nat_lit 254,nat_lit 255,nat_lit 259,nat_lit 260,nat_lit 266,nat_lit 267,nat_lit 273,nat_lit 274,nat_lit 280,nat_lit 281,nat_lit 306,nat_lit 307,nat_lit 311,nat_lit 312,nat_lit 318,nat_lit 319,nat_lit 325,nat_lit 326,nat_lit 332,nat_lit 333,nat_lit 339,nat_lit 340,nat_lit 344,nat_lit 345,nat_lit 351,nat_lit 352,nat_lit 358,nat_lit 359,nat_lit 365,nat_lit 366,nat_lit 370,nat_lit 371] (fun _=>by kernel_rfl)
noncomputable def dX:DefRec:=⟨Str.ofString "law",Fw (top 61),DH (top 61),AV (top 61),⟨316,0,328,130⟩⟩
def lM:CH.wellSaid=true:=(congrFun PySem.W.Fast.te9446332074065402090 _).trans (by kernel_rfl)
def mv(w:World)(os:OsState):topGo treeTable Ew w 11 Opn.Ic 12 ⟨boot_heap w.params,#[],boot_drawn,boot_toks,os⟩ (topStub Ew)=some (Opn.sA w os,⟨denote treeTable (Opn.cB Ew),Opn.cB Ew,Opn.q0,Opn.bB⟩):=by kernel_rfl
def mH(w:World)(os:OsState):segRun treeTable Ew w 11 Opn.Ic 1 1 (Opn.sA w os) (blockOf (behindTheImports Ew) (Opn.Oe Ew) (Opn.cB Ew) Opn.q0 Opn.bB)=some (.next,(Opn.sB w os).abs,Opn.cB Ew,Opn.q0):=by kernel_rfl
def mY(w:World)(s:SD):topRun treeTable Ew w 11 Opn.Ic 2 s (restOf [] (Opn.Oe Ew) (Opn.cB Ew) ⟨316,0,328,130⟩ Opn.bB)=some s:=by kernel_rfl
def nI(w:World)(os:OsState):Opn.WT Ew 2513 w os=some (.next,Opn.WN Ew 2513 w os,Opn.cB Ew,⟨316,0,328,130⟩):=by kernel_rfl
noncomputable abbrev sX(w:World)(os:OsState):SD:=(Opn.WN Ew 2513 w os).abs
def Qz(w:World)(os:OsState):(staticsOk (importedModules Ew.main.body) (boot_heap w.params) (sX w os).heap&&namesBound Ew (sX w os).heap&&gensDone (sX w os)&&laidKept (boot_heap w.params) (sX w os).heap)=true:=by kernel_rfl
def kq(w:World)(os:OsState):hX.obs (sX w os)=hX.val w:=by kernel_rfl
noncomputable abbrev iP:SD→Bool:=fun s=>xlAt qX [] s&&recOk (RowW.records CH.row.toRowW) s
def kT(w:World)(os:OsState):openSeen qX [] (importedModules Ew.main.body) iP true (sX w os)=openGood qX []:=by kernel_rfl
def lH(w:World):(fencedOpening treeTable Ew w 5150).map (fun s=>(s.heap,s.gens,s.drawn,s.toks))=some (boot_heap w.params,#[],boot_drawn,boot_toks):=boot_open (p:=Ew) (N:=5150) (by kernel_rfl) (by kernel_rfl) (fun _=>by kernel_rfl) w
def kx:LeftO Ew qX [] iP hX.obs hX.val 5150:=Opn.dZ (M:=2528) (S:=sX) lH Opn.kW (fun w os=>Opn.iB (mv w os) (mH w os) (nI w os) (mY w) (by kernel_rfl)) (by kernel_rfl) Qz kT kq
def mK:defOf qX CH.row.name=some (dX,[]):=by kernel_rfl
def mU:Ew.theDef CH.row.name=some (dX.params,dX.body,dX.scope):=by kernel_rfl
def oS:kwWritten? dX.params.kwonlyargs dX.params.kw_defaults=some []:=by kernel_rfl
def nS:(chainsOk qX&&opensWell CH.row.prog&&(frees CH.row.toRowW&&CH.row.within.isEmpty))=true:=by kernel_rfl
def kP:Ew.bare:=⟨rfl,rfl,rfl,rfl,rfl,by decide +kernel⟩
def openX(hw:CH.row.toRowW.promised)(hc:WalkO qX [] (XL qX []) hX.says CH.row.toRowW dX [] (fun f vs=>PySem.call f vs)):CH.Holds :=
 holds_law lM fun said=>holds_open (r:=CH.row) (q:=qX) (loose:=[]) (Xt:=iP) (XP:=XL qX []) (Yf:=hX.obs) (Ya:=hX.val) (YP:=hX.says) (d:=dX) (kwd:=[]) (N:=5150) kx hX.of hX.keeps (fun s e=>xl_of s (Bool.and_eq_true_iff.mp e).1) XL.keeps mK mU oS (fun s e=>recFacts_of (Bool.and_eq_true_iff.mp e).2) rfl said nS kP hw hc
end
section
open PySem.W
def fnX{w:World}{mg:Str→Option VL}{h:Heap}(X:(kH w.params).In h)(G:h.Ns mainGlobals mg)(n:String)(i:Nat)(m:String)(t c f:Nat)(ps:List Str)
 (ha:nsIn (kH w.params) mainGlobals (Str.ofString n)=some (some (.ref f)):=by kernel_rfl)(hl:(kH w.params).lookup f=some (fO n i m t c):=by kernel_rfl)(hc:codeIn (kH w.params) (.ref c) (Str.ofString n)=true:=by kernel_rfl)(hk:keepIn (kH w.params) (.ref f)=true:=by kernel_rfl)
 (hb:∀(kV doc pm:VL) (an:Option AD) (cdv ct:VL) (us:List VL),us.length=ps.length→bindArgs (fnOf (Str.ofString n) (Str.ofString n) (Fw (top i)) (DH (top i)) (AV (top i)) .none kV doc pm an cdv ct) ⟨us,[]⟩=pure (ps.zip us):=by first|(exact fun _ _ _ _ _ _ us hl=>match us,hl with|[_],_=>rfl)|(exact fun _ _ _ _ _ _ us hl=>match us,hl with|[_,_],_=>rfl)|(exact fun _ _ _ _ _ _ us hl=>match us,hl with|[_,_,_],_=>rfl)|(exact fun _ _ _ _ _ _ us hl=>match us,hl with|[_,_,_,_],_=>rfl)|(exact fun _ _ _ _ _ _ us hl=>match us,hl with|[_,_,_,_,_],_=>rfl)|(exact fun _ _ _ _ _ _ us hl=>match us,hl with|[],_=>rfl)) :
  Fn (kH w.params) mg (Str.ofString n) (top i) ps f (fnOf (Str.ofString n) (Str.ofString n) (Fw (top i)) (DH (top i)) (AV (top i)) .none .none .none (.str (Str.ofString m) t) none (.ref c) .none) :=
 ⟨X9 hl hc hk,(X9 (st:=top i) hl hc hk).binds hb,mg_of X G ha⟩
set_option maxHeartbeats 4000000 in
def mJ(w:World)(mg:Str→Option VL)(fa:AD)(h:Heap)(X:(kH w.params).In h)(G:h.Ns mainGlobals mg)(hfa:mg "law" = some (.ref fa)) :
  ∃fd:FuncData,(∀(s:SD) (v:VL),BindsTo s fd ⟨[v],[]⟩ [("_law_script",v)])∧∀base:Heap,(kH w.params).In base→base.Ns mainGlobals mg→AQ CH.prog w (kH w.params) mg base Ah 24 fa fd ["_law_script"] (V1 (kH w.params)):=by
 have e:=hfa.symm.trans (mg_of X G (v:=.ref 371) (by kernel_rfl));cases e;have GH:=fnX X G "fraction_of" 7 "stepgrove.fracs" 271 81 82 ["top", "bottom"];have GL:=fnX X G "is_fraction" 8 "stepgrove.fracs" 271 88 89 ["thing"];have Cq:=fnX X G "are_fractions" 9 "stepgrove.fracs" 271 95 96 ["thing"];have HF:=fnX X G "is_whole" 10 "stepgrove.fracs" 271 102 103 ["thing"];have BU:=fnX X G "greatest_divisor" 11 "stepgrove.fracs" 271 109 110 ["one", "other"];have FC:=fnX X G "common_bottom" 12 "stepgrove.fracs" 271 116 117 ["bottoms"];have JZ:=fnX X G "power_of" 13 "stepgrove.fracs" 271 123 124 ["base", "power"];have JV:=fnX X G "is_table" 16 "stepgrove.tables" 335 130 131 ["thing"];have Ba:=fnX X G "refuse_no_table" 17 "stepgrove.tables" 335 137 138 ["thing"];have JU:=fnX X G "are_rows" 18 "stepgrove.tables" 335 144 145 ["thing"];have Ee:=fnX X G "is_tree" 21 "stepgrove.trees" 362 151 152 ["thing"];have Ek:=fnX X G "trees_of" 22 "stepgrove.trees" 362 158 159 ["many"];have JM:=fnX X G "trees_to" 23 "stepgrove.trees" 362 165 166 ["most"];have CZ:=fnX X G "refuse_no_tree" 24 "stepgrove.trees" 362 172 173 ["thing"];have Cc:=fnX X G "in_falling_order" 25 "stepgrove.trees" 362 179 180 ["boughs"];have A4:=fnX X G "knots_within" 26 "stepgrove.trees" 362 184 185 ["tree"];have B7:=fnX X G "density_within" 27 "stepgrove.trees" 362 191 192 ["tree"];have B9:=fnX X G "parents_within" 28 "stepgrove.trees" 362 196 197 ["tree"];have Bu:=fnX X G "trees_one_larger" 29 "stepgrove.trees" 362 203 204 ["tree"];have IE:=fnX X G "tops_over" 31 "stepgrove.wholes" 441 208 209 ["some", "bottom"];have Fu:=fnX X G "table_bottom" 32 "stepgrove.wholes" 441 213 214 ["table"];have Fo:=fnX X G "table_weight" 34 "stepgrove.weights" 455 220 221 ["table", "tree"];have Eh:=fnX X G "table_weighing" 35 "stepgrove.weights" 455 227 228 ["table", "most"];have Fs:=fnX X G "true_weights" 36 "stepgrove.weights" 455 232 233 ["trees"];have Bs:=fnX X G "weights_under" 37 "stepgrove.weights" 455 237 238 ["table", "trees"];have D8:=fnX X G "readings" 38 "stepgrove.weights" 455 242 243 ["rows", "tree", "known"];have IU:=fnX X G "read_by" 39 "stepgrove.weights" 455 247 248 ["row", "shares"];have GG:=fnX X G "table_order" 42 "stepgrove.orders" 497 254 255 ["table"];have Ei:=fnX X G "parting_change" 43 "stepgrove.orders" 497 259 260 ["tree"];have Fl:=fnX X G "first_unlike" 44 "stepgrove.orders" 497 266 267 ["trees", "one", "other"];have CP:=fnX X G "_law_cell" 46 "law_stepgrove_k42_no_tables_no_trees" 529 273 274 ["_law_script", "_law_k"];have ID:=fnX X G "_law_frac" 47 "law_stepgrove_k42_no_tables_no_trees" 529 280 281 ["_law_top", "_law_bottom"];have Cf:=fnX X G "_law_kept" 51 "law_stepgrove_k42_no_tables_no_trees" 529 306 307 ["_law_tree"];have Cu:=fnX X G "_law_longer" 52 "law_stepgrove_k42_no_tables_no_trees" 529 311 312 ["_law_tree"];have Ci:=fnX X G "_law_trees" 53 "law_stepgrove_k42_no_tables_no_trees" 529 318 319 ["_law_most"];have Ed:=fnX X G "_law_entry" 54 "law_stepgrove_k42_no_tables_no_trees" 529 325 326 ["_law_number"]
 have HR:=fnX X G "_law_named" 55 "law_stepgrove_k42_no_tables_no_trees" 529 332 333 ["_law_number"];have HL:=fnX X G "_law_table" 56 "law_stepgrove_k42_no_tables_no_trees" 529 339 340 ["_law_script", "_law_at", "_law_most"];have GN:=fnX X G "_law_copied" 57 "law_stepgrove_k42_no_tables_no_trees" 529 344 345 ["_law_table_here"];have C8:=fnX X G "_law_kinds" 58 "law_stepgrove_k42_no_tables_no_trees" 529 351 352 ["_law_which", "_law_table_here", "_law_tree", "_law_most"];have Ej:=fnX X G "_law_bad_table" 59 "law_stepgrove_k42_no_tables_no_trees" 529 358 359 ["_law_table_here", "_law_cell_here"];have DD:=fnX X G "_law_bad_tree" 60 "law_stepgrove_k42_no_tables_no_trees" 529 365 366 ["_law_cell_here"];have kO:=fnX X G "law" 61 "law_stepgrove_k42_no_tables_no_trees" 529 370 371 ["_law_script"];have BO:mg "len" = none:=mg_none_of X G (by kernel_rfl);have BP:mg "range" = none:=mg_none_of X G (by kernel_rfl);have Kl:mg "abs" = none:=mg_none_of X G (by kernel_rfl);have Ai:mg "isinstance" = none:=mg_none_of X G (by kernel_rfl);have WW:mg "int" = none:=mg_none_of X G (by kernel_rfl);have So:mg "bool" = none:=mg_none_of X G (by kernel_rfl);have Bj:mg "tuple" = none:=mg_none_of X G (by kernel_rfl);have GC:mg "list" = none:=mg_none_of X G (by kernel_rfl);have CQ:mg "enumerate" = none:=mg_none_of X G (by kernel_rfl);have HN:mg "sum" = none:=mg_none_of X G (by kernel_rfl);have IH:mg "zip" = none:=mg_none_of X G (by kernel_rfl);have Co:mg "sorted" = none:=mg_none_of X G (by kernel_rfl);have Ng:mg "set" = none:=mg_none_of X G (by kernel_rfl);have oA:mg "dict" = none:=mg_none_of X G (by kernel_rfl);have Kb:mg "ValueError" = none:=mg_none_of X G (by kernel_rfl);have a_MR:nsIn (kH w.params) mainGlobals "MOST_ROWS" = some (some (.int 40 337)):=by kernel_rfl
 have a_MK:nsIn (kH w.params) mainGlobals "MOST_KNOTS" = some (some (.int 7 364)):=by kernel_rfl
 have a_MO:nsIn (kH w.params) mainGlobals "MOST_ORDER" = some (some (.int 6 499)):=by kernel_rfl
 have a_GroveError:PySem.W.nsIn (kH w.params) mainGlobals "GroveError" = some (some (.ref 24)):=by kernel_rfl
 have a_NoTable:PySem.W.nsIn (kH w.params) mainGlobals "NoTable" = some (some (.ref 61)):=by kernel_rfl
 have a_NoTree:PySem.W.nsIn (kH w.params) mainGlobals "NoTree" = some (some (.ref 49)):=by kernel_rfl
 have a_TooMany:PySem.W.nsIn (kH w.params) mainGlobals "TooMany" = some (some (.ref 73)):=by kernel_rfl
 have J0:=PySem.W.mg_of X G a_GroveError;have Kr:=PySem.W.mg_of X G a_NoTable;have L5:=PySem.W.mg_of X G a_NoTree;have Mg:=PySem.W.mg_of X G a_TooMany;have X_NoTable:Exc (kH w.params) mg "NoTable" 61:=⟨Kr,by kernel_rfl⟩;have be_NoTable:ER (kH w.params) 61 24 true:=⟨by kernel_rfl,by kernel_rfl,by kernel_rfl,by kernel_rfl⟩;have xk_NoTable:Fj (kH w.params) 61:=⟨by kernel_rfl,by kernel_rfl,by kernel_rfl,by kernel_rfl,by kernel_rfl,by kernel_rfl,by kernel_rfl,by kernel_rfl⟩;have tV_NoTable:PySem.W.kitOne (kH w.params) (.ref 61) (.type "ValueError")=some true:=by kernel_rfl
 have t_NoTable_GroveError:PySem.W.kitOne (kH w.params) (.ref 61) (.ref 24)=some true:=by kernel_rfl
 have t_NoTable_NoTable:PySem.W.kitOne (kH w.params) (.ref 61) (.ref 61)=some true:=by kernel_rfl
 have t_NoTable_NoTree:PySem.W.kitOne (kH w.params) (.ref 61) (.ref 49)=some false:=by kernel_rfl
 have t_NoTable_TooMany:PySem.W.kitOne (kH w.params) (.ref 61) (.ref 73)=some false:=by kernel_rfl
 have X_NoTree:Exc (kH w.params) mg "NoTree" 49:=⟨L5,by kernel_rfl⟩;have be_NoTree:ER (kH w.params) 49 24 true:=⟨by kernel_rfl,by kernel_rfl,by kernel_rfl,by kernel_rfl⟩;have xk_NoTree:Fj (kH w.params) 49:=⟨by kernel_rfl,by kernel_rfl,by kernel_rfl,by kernel_rfl,by kernel_rfl,by kernel_rfl,by kernel_rfl,by kernel_rfl⟩;have tV_NoTree:PySem.W.kitOne (kH w.params) (.ref 49) (.type "ValueError")=some true:=by kernel_rfl
 have t_NoTree_GroveError:PySem.W.kitOne (kH w.params) (.ref 49) (.ref 24)=some true:=by kernel_rfl
 have t_NoTree_NoTable:PySem.W.kitOne (kH w.params) (.ref 49) (.ref 61)=some false:=by kernel_rfl
 have t_NoTree_NoTree:PySem.W.kitOne (kH w.params) (.ref 49) (.ref 49)=some true:=by kernel_rfl
 have t_NoTree_TooMany:PySem.W.kitOne (kH w.params) (.ref 49) (.ref 73)=some false:=by kernel_rfl
 have hK:R6 (kH w.params)=true:=by kernel_rfl
 refine⟨fnOf (Str.ofString "law") (Str.ofString "law") (Fw (top 61)) (DH (top 61)) (AV (top 61)) .none .none .none (.str (Str.ofString "law_stepgrove_k42_no_tables_no_trees") 529) none (.ref 370) .none,fun s v=>.of_eq rfl,fun base _ _=>?_⟩;have LG:=PySem.W.mg_of X G a_MR;have Ea:=PySem.W.mg_of X G a_MK;have HY:=PySem.W.mg_of X G a_MO;have bf:=MX (P:=CH.prog) (w:=w) (base:=base) BU Kl;have nc:=QU GH BU bf;have nZ:=Nn FC BU bf;have mS:=Pw Fu FC nZ;have mw:=UO (P:=CH.prog) (w:=w) (base:=base) IE;have nK:=Ur (P:=CH.prog) (w:=w) (base:=base) JZ;have mV:=Wv (P:=CH.prog) (w:=w) (base:=base) IU HN IH;have nY:=N4 ly D8 IU mV BO IH 8;have md:=lJ (Kz (P:=CH.prog) (w:=w) (base:=base) A4 HN 8);have nP:=OP ly Bs Fu IE D8 JZ A4 GH (mS.mono (by decide)) (mw.mono (by decide)) (nY.mono (by decide)) (nK.mono (by decide)) (md.mono (by decide)) (nc.mono (by decide));have B5:=mI nP;have nh:=UW (P:=CH.prog) (w:=w) (base:=base) HF Ai WW So;have ir:=QR GL HF BU nh bf Ai Bj BO;have iL:=OY Cq GL ir Ai GC;have mQ:=UX JU Cq iL LG Ai GC BO CQ;have nW:=Ue JV JU Cq mQ (iL.mono (by decide)) Ai Bj BO;have Lq:=oJ (q:=CG) nW (fun l d v H Q E hd hq=>⟨l,d,v,rfl,hd,hq⟩);have IX:=mO (OG (P:=CH.prog) (w:=w) (base:=base) Ee Ai Bj CQ 13);have Bl:=Ma (P:=CH.prog) (w:=w) (base:=base) (k:=5) Ba JV (Lq.mono (by decide)) X_NoTable;have Cw:=Np (P:=CH.prog) (w:=w) (base:=base) (k:=13) CZ Ee (IX.mono (by decide)) X_NoTree;have Bb:=Km (P:=CH.prog) (w:=w) (base:=base) (k:=0) A4 HN 9;have Dp:=JB (P:=CH.prog) (w:=w) (base:=base) (k:=10) B7 A4 (Bb.mono (by decide)) 9;have CA:=MW (P:=CH.prog) (w:=w) (base:=base) (k:=0) Cc Co Bj;have C5:=Hf (P:=CH.prog) (w:=w) (base:=base) (k:=1) Bu Cc (CA.mono (by decide)) CQ 9;have Fz:=Us (P:=CH.prog) (w:=w) (base:=base) (k:=11) Ek Bu (C5.mono (by decide)) BP Ng Co Ea;have D_trees_to:=Uu (P:=CH.prog) (w:=w) (base:=base) (k:=12) JM Ek (Fz.mono (by decide)) BP Ea;have Hw:=Pq (P:=CH.prog) (w:=w) (base:=base) (k:=20) Fs B7 (Dp.mono (by decide));have Hr:=P7 (P:=CH.prog) (w:=w) (base:=base) (k:=0) Fl IH;have Lw:=cm D_trees_to;have Ho:=Po (P:=CH.prog) (w:=w) (base:=base) (k:=14) Fo Ba (Bl.mono (by decide)) CZ (Cw.mono (by decide)) Bs (B5.mono (by decide));have GU:=Nq (P:=CH.prog) (w:=w) (base:=base) (k:=13) Eh Ba (Bl.mono (by decide)) JM (Lw.mono (by decide)) Bs (B5.mono (by decide));have Im:=Qd (P:=CH.prog) (w:=w) (base:=base) (k:=21) GG Fl (Hr.mono (by decide)) Ba (Bl.mono (by decide)) Ek (Fz.mono (by decide)) Fs (Hw.mono (by decide)) Bs (B5.mono (by decide)) BP HY;have Dq:=JJ (P:=CH.prog) (w:=w) (base:=base) (k:=0) B9 BO 9;have GX:=Nj (P:=CH.prog) (w:=w) (base:=base) (k:=14) Ei B9 (Dq.mono (by decide)) CZ (Cw.mono (by decide)) BO BP Bj;have nM:=Th (P:=CH.prog) (w:=w) (base:=base) ID Kl;have nH:=Rn Ed ID nM;have C4:=T1 (P:=CH.prog) (w:=w) (base:=base) (k:=0) CP BO;have KH:=Rl (P:=CH.prog) (w:=w) (base:=base) (k:=0) HR;have nX:=Ro HL CP Ed HR ((VB C4).mono (by decide)) (nH.mono (by decide)) ((Zg KH).mono (by decide)) BP BO;have Cy:=NJ (P:=CH.prog) (w:=w) (base:=base) (k:=0) Cf Co Bj 9
 have Eu:=LN (P:=CH.prog) (w:=w) (base:=base) (k:=10) Cu Cf (Cy.mono (by decide)) BO BP 9;have C9:=Rj (P:=CH.prog) (w:=w) (base:=base) (k:=20) Ci Cu (Eu.mono (by decide)) BP Ng Co;have EC:=Oa (P:=CH.prog) (w:=w) (base:=base) (k:=21) DD Ci (C9.mono (by decide)) BO;have mj:=QN (P:=CH.prog) (w:=w) (base:=base) GN GC;have mn:=Nk Ej GN mj BO Bj;have Dh:=Rr (P:=CH.prog) (w:=w) (base:=base) (k:=22) C8 Ei ((L9 [_,_] GX).mono (by decide)) GG ((L9 [_,_] Im).mono (by decide)) Eh ((L9 [_,_] GU).mono (by decide)) Fo ((L9 [_,_] Ho).mono (by decide)) Kb Ai J0 Kr L5 Mg (SH xk_NoTable t_NoTable_NoTable xk_NoTree t_NoTree_NoTable) (SH xk_NoTable t_NoTable_NoTree xk_NoTree t_NoTree_NoTree) (SH xk_NoTable t_NoTable_TooMany xk_NoTree t_NoTree_TooMany) (SH (cv:=.ty "ValueError") xk_NoTable tV_NoTable xk_NoTree tV_NoTree) (fun ds C h=>by
  have:=NQ h;rcases aJ.mp this with rfl|this
  ·exact be_NoTable
  ·rw[List.mem_singleton.mp this];exact be_NoTree) (fun ds C h=>by
  have:=NQ h;rcases aJ.mp this with rfl|this
  ·exact be_NoTable
  ·rw[List.mem_singleton.mp this];exact be_NoTree) (fun ds C h=>by
  have:=NQ h;rcases aJ.mp this with rfl|this
  ·exact be_NoTable
  ·rw[List.mem_singleton.mp this];exact be_NoTree) (fun ds C h=>by
  have:=NQ h;rcases aJ.mp this with rfl|this
  ·exact be_NoTable
  ·rw[List.mem_singleton.mp this];exact be_NoTree)
 exact iT (k:=23) hK (by decide) kO HL CP Ej DD C8 Ci (nX.mono (by decide)) (C4.mono (by decide)) (mn.mono (by decide)) (EC.mono (by decide)) Dh (C9.mono (by decide)) BP
def walkX:WalkO qX [] (XL qX []) hX.says CH.row.toRowW dX [] (fun f vs=>PySem.call f vs) :=
 L2.fF (l:=CH) (n:=63) (k:=24) (x := "_law_script") (CX:=fun _=>Ah) (K:=kH) (sp:=fun w=>V1 (kH w.params)) rfl (by decide) rfl ⟨rfl,by decide,by decide⟩ (fun w h Y=>kIn_of Y) mJ (fun _ _ a ns hl _ hS=>⟨a,ns,rfl,hS,hl,fun _=>rfl⟩) fun _ _ _ _ _ z=>z
end
end Q42
open PySem PySem.W PyProof.Rows
set_option maxRecDepth 100000 in
theorem PySem.Challenge.cw_stepgrove_k42_no_tables_no_trees_holds : PySem.Challenge.rw_stepgrove_k42_no_tables_no_trees.Holds := by
  refine Q42.openX ?hw Q42.walkX
  w_witness2
#print axioms PySem.Challenge.cw_stepgrove_k42_no_tables_no_trees_holds
