import PyProof.Rows.All
import Wide.All
import OpenK.AllK
import Wide.FinOn
import Lean
import PyProof.EqAt
import PyProof.EqKinds
import PyProof.TupleCall
import PySem.Challenge.RW_stepgrove_k98_whole_a_judge_of_papers
set_option Elab.async false
set_option linter.all false
set_option maxRecDepth 100000
abbrev MD:=List PySem.PyData→Option PySem.PyData
abbrev Fg:=PySem.W.Frag
abbrev Wb:=@PySem.wpAny_bind
abbrev PD:=PySem.PyData
abbrev SD:=PySem.Shared
abbrev VL:=PySem.Value
abbrev AD:=PySem.Addr
abbrev aA:=@Option.bind_eq_some_iff
abbrev aB:=@PySem.wpAny_pure
abbrev aC:=@Option.map_eq_some_iff
abbrev aD:=@PySem.Heap.get?_push_of_some
abbrev aE:=@PySem.Heap.lt_size
abbrev aF:=@List.getElem?_eq_some_iff
abbrev aG:=@Nat.le_refl
abbrev aH:=@List.mem_of_getElem?
abbrev aI:=@PySem.PassesOwn.never
abbrev aJ:=@List.mem_cons
abbrev aK:=@Nat.lt_of_lt_of_le
abbrev aL:=@Bool.false_ne_true
abbrev aM:=@List.getElem?_eq_getElem
abbrev aN:=@List.mem_map
abbrev aO:=@Nat.ne_of_lt
abbrev aP:=@PySem.Heap.get?_push_size
abbrev aQ:=@PySem.boot_len
abbrev aR:=@List.mem_cons_of_mem
abbrev aS:=@List.mem_append_right
abbrev aT:=@List.mem_cons_self
abbrev aU:=@PyProof.Rows.boot_tuple
abbrev aV:=@Nat.lt_of_le_of_lt
abbrev aW:=@Nat.le_trans
abbrev aX:=@List.mem_append
abbrev aY:=@PySem.F.plainAttrs_list
abbrev aZ:=@decide_eq_false
abbrev aa:=@Option.some.inj
abbrev ab:=@of_decide_eq_true
abbrev ae:=@PySem.wpAny_newObj_type
abbrev af:=@List.mem_range
abbrev ag:=@Nat.not_lt_zero
abbrev ah:=@PySem.wpAny_mono
abbrev ai:=@Nat.pow_le_pow_right
abbrev aj:=@congrArg
abbrev ak:=@PySem.wpAny_call_entry
abbrev ao:=@List.all_eq_true
abbrev aq:=@PyProof.Rows.boot_list
abbrev ar:=@List.map_congr_left
abbrev au:=@PySem.wpAny_setState_of
abbrev av:=@PySem.wpAny_holding
abbrev aw:=@decide_eq_true
abbrev ax:=@PySem.F.slot_list_append
abbrev ay:=@PySem.F.type_list_append
abbrev az:=@PySem.W.kia_one
abbrev bA:=@PySem.wpAny_field
abbrev bC:=@PyProof.Rows.callWith_type1
abbrev bD:=@PySem.wpAny_callSpecial?_slot
abbrev bE:=@PySem.wpAny_seqItems
abbrev bF:=@Nat.zero_le
abbrev bG:=@Nat.lt_succ_of_lt
abbrev bH:=@PySem.Heap.SameBut.update
abbrev bI:=@Int.fmod_nonneg_of_pos
abbrev bJ:=@Int.emod_lt_of_pos
abbrev bK:=@List.mem_append_left
abbrev bL:=@PyProof.Rows.KeyOrd.kle_refl
abbrev bM:=@List.eq_nil_of_length_eq_zero
abbrev bN:=@Nat.lt_succ_self
abbrev bO:=@PyProof.Rows.boot_isinstance
abbrev bP:=@PyProof.Rows.boot_bool
abbrev bQ:=@List.pairwise_cons
abbrev bR:=@List.mem_filter
abbrev bS:=@Int.emod_nonneg
namespace L2
open PySem PySem.Spec PyProof.Rows
abbrev Key:=Sum Int Str
def cD:Key→VL→Bool
 |.inl k,v=>Value.isInt k v
 |.inr x,v=>Value.isStrOf x v
def kf(w:World):Key→Int
 |.inl k=>hashInt k
 |.inr x=>hashStr w x
def EH:∀ {k:Key} {v:VL},cD k v=true→(∃i t,k=Sum.inl i∧v=Value.int i t)∨(∃x t,k=Sum.inr x∧v=Value.str x t)
 |.inl i,v,h=>by
  obtain⟨t,e⟩:=Value.isInt_shape (k:=i) (v:=v) h;exact .inl ⟨i,t,rfl,e⟩
 |.inr x,v,h=>by
  obtain⟨t,e⟩:=Value.isStrOf_shape (x:=x) (v:=v) h;exact .inr ⟨x,t,rfl,e⟩
def gr(a b:Int):decide ((Sum.inl a:Key)=Sum.inl b)=(a==b):=by
 by_cases e:a=b
 ·subst e;simp
 ·have h:¬(Sum.inl a:Key)=Sum.inl b:=fun q=>e (Sum.inl.inj q);rw[decide_eq_false h];exact(beq_eq_false_iff_ne.mpr e).symm
def fk(a b:Str):decide ((Sum.inr a:Key)=Sum.inr b)=decide (a=b):=by
 by_cases e:a=b
 ·subst e;simp
 ·have h:¬(Sum.inr a:Key)=Sum.inr b:=fun q=>e (Sum.inr.inj q);rw[decide_eq_false h,decide_eq_false e]
def fU(a:Int)(b:Str):decide ((Sum.inl a:Key)=Sum.inr b)=false:=aZ (fun q=>nomatch q)
def jL(a:Str)(b:Int):decide ((Sum.inr a:Key)=Sum.inl b)=false:=aZ (fun q=>nomatch q)
def WV(prog:Program)(w:World):PySem.KeyKind prog w Key where
 is:=cD
 hash:=kf w
 inj:=fun v a b ha hb=>by
  rcases EH ha with ⟨i,t,rfl,rfl⟩|⟨x,t,rfl,rfl⟩
  ·rcases EH hb with ⟨j,u,rfl,e⟩|⟨y,u,rfl,e⟩
   ·injection e with e1 _;rw[e1]
   ·exact nomatch e
  ·rcases EH hb with ⟨j,u,rfl,e⟩|⟨y,u,rfl,e⟩
   ·exact nomatch e
   ·injection e with e1 _;rw[e1]
 byValue:=fun k v h=>by
  rcases EH h with ⟨i,t,rfl,rfl⟩|⟨x,t,rfl,rfl⟩<;>rfl
 pyHash:=fun hv h=>by
  rcases EH hv with ⟨i,t,rfl,rfl⟩|⟨x,t,rfl,rfl⟩
  ·exact wpAny_pyHash_int h
  ·exact wpAny_pyHash_str h
 eqBool:=fun hu hv h=>by
  rcases EH hu with ⟨i,t,rfl,rfl⟩|⟨x,t,rfl,rfl⟩
  ·rcases EH hv with ⟨j,u,rfl,rfl⟩|⟨y,u,rfl,rfl⟩
   ·rw[gr]at h;exact wpAny_eqBool_int h
   ·rw[fU]at h;exact SeqAt.EqAt.int_str i t y u _ _ _ _ h
  ·rcases EH hv with ⟨j,u,rfl,rfl⟩|⟨y,u,rfl,rfl⟩
   ·rw[jL]at h;exact SeqAt.EqAt.str_int x t j u _ _ _ _ h
   ·rw[fk]at h;exact wpAny_eqBool_str h
 «strs»:=fun k x t v h=>by
  rcases EH h with ⟨i,u,rfl,e⟩|⟨y,u,rfl,e⟩
  ·exact nomatch e
  ·injection e with e1 _
   subst e1;cases v<;>rfl
inductive V where
 |CT|bl (b:Bool)|int (i:Int)|str (x:Str)|Nn (b:Array UInt8)|WH (b:UInt64)|ref (a:Addr)|ty (n:String)
 deriving DecidableEq
def RelV:V→VL→Prop
 |.CT,u=>u=Value.none
 |.bl b,u=>u=Value.bool b
 |.int i,u=>∃t,u=Value.int i t
 |.str x,u=>∃t,u=Value.str x t
 |.Nn b,u=>∃t,u=Value.bytes b t
 |.WH b,u=>∃t,u=Value.float b t
 |.ref a,u=>u=Value.ref a
 |.ty n,u=>u=Value.type n
abbrev Vals:List V→List VL→Prop:=Paired RelV
def Vals.length{xs:List V}{us:List VL}(r:Vals xs us):xs.length=us.length:=Paired.length r
def Vals.get:∀ {xs:List V} {us:List VL} {i:Nat} {x:V},Vals xs us→xs[i]? = some x→∃u,us[i]? = some u∧RelV x u
 |_,_,_,_,.nil,e=>by simp at e
 |_,_,0,_,.cons r _,e=>by simp at e;subst e;exact⟨_,rfl,r⟩
 |_,_,i+1,x,.cons _ t,e=>by
  obtain⟨u,h1,h2⟩:=Vals.get (i:=i) (x:=x) t (by simpa using e);exact⟨u,by simpa using h1,h2⟩
def Vals.set{x:V}{u:VL}(r:RelV x u):∀ {xs:List V} {us:List VL} (i:Nat),Vals xs us→Vals (xs.set i x) (us.set i u)
 |_,_,_,.nil=>.nil
 |_,_,0,.cons _ t=>.cons r t
 |_,_,i+1,.cons q t=>.cons q (Vals.set r i t)
def Vals.append:∀ {xs ys:List V} {us ws:List VL},Vals xs us→Vals ys ws→Vals (xs++ys) (us++ws)
 |_,_,_,_,.nil,s=>s
 |_,_,_,_,.cons r t,s=>.cons r (Vals.append t s)
def Vals.take:∀ {xs:List V} {us:List VL} (n:Nat),Vals xs us→Vals (xs.take n) (us.take n)
 |_,_,0,_=>.nil
 |_,_,_+1,.nil=>.nil
 |_,_,n+1,.cons r t=>.cons r (Vals.take n t)
def Vals.drop:∀ {xs:List V} {us:List VL} (n:Nat),Vals xs us→Vals (xs.drop n) (us.drop n)
 |_,_,0,r=>r
 |_,_,_+1,.nil=>.nil
 |_,_,n+1,.cons _ t=>Vals.drop n t
def Zo:Option V→Option VL→Prop
 |some v,some u=>RelV v u
 |none,none=>True
 |_,_=>False
def KV{κ:Type}:List (κ×V)→List (κ×VL)→Prop:=Paired fun(p:κ×V) (q:κ×VL)=>p.1=q.1∧RelV p.2 q.2
def kV:Key→V
 |.inl i=>.int i
 |.inr x=>.str x
inductive HO where
 |lst (xs:List V)
 |tup (xs:List V)
 |dK (kvs:List (Key×V))|dT (kvs:List (List Key×V))
 |set (S:Int→Bool) (n:Nat)
 |ins (C dx:Addr) (fs:List (Str×V))
 |own (x:Addr)
 |xd (fs:List (Str×V))
 |met (f x:Addr)
 |iP (lo hi:Int)
 |Hf (o:Obj) (u:HO)
 |T3 (ps:Array Value)
 |ext (φ:Heap→Prop)
abbrev Hp:=AD→Option HO
def upd(H:Hp)(a:AD)(o:HO):Hp:=fun b=>if b=a then some o else H b
def Au{H:Hp}{a:AD}{o:HO}:upd H a o a=some o:=by unfold upd;rw[if_pos rfl]
def AZ{H:Hp}{a b:AD}{o:HO}(h:b≠a):upd H a o b=H b:=by unfold upd;rw[if_neg h]
def A8{H:Hp}{a b:AD}{o:HO}(h:H a=some o)(h':H b=none):a≠b:=by
 intro e;subst e;rw[h]at h';cases h'
section
variable(P:Program)(w:World)
def EF(H:Hp)(h:Heap)(a:AD):HO→Prop
 |.lst xs=>xs.length≤sizeLine∧∃(its:List VL) (n:Nat),Vals xs its∧h.get? a=some { cls:=.type "list",data:=.seq its.toArray n}
 |.tup xs=>xs.length≤sizeLine∧∃its:List VL,Vals xs its∧IsTup h a its.toArray
 |.dK kvs=>kvs.length≤sizeLine∧(a==sysModules)=false∧∃vs,KV kvs vs∧h.DictOf (WV P w) a vs
 |.dT kvs=>kvs.length≤sizeLine∧(a==sysModules)=false∧∃xs:List (List Key×AD×VL),
   Paired (fun(p:List Key×V) (q:List Key×AD×VL)=>p.1=q.1∧H q.2.1=some (.tup (p.1.map kV))∧RelV p.2 q.2.2) kvs xs ∧
   ∃o es ep,h.get? a=some o∧o.ExactDict∧o.data=.dict es ep∧es.toList=xs.map (entryOfKey (tupleKind (WV P w)))∧(xs.map (·.1)).Nodup
 |.set S n=>h.SetOf (intKind P w) a S n
 |.ins C dx fs=>H dx=some (.own a)∧fs.length≤1000∧dx≠a∧h.get? a=some (PySem.W.instObj C dx) ∧
   ∃mA,h.Ns1 dx mA∧(∀f,Zo (fs.lookup f) (mA f))∧PySem.Within mA (fs.map (·.1))
 |.own _=>∃o,h.get? a=some o
 |.xd fs=>∃mA,h.Ns1 a mA∧∀f,Zo (fs.lookup f) (mA f)
 |.iP lo hi=>∃t u v,h.get? a=some { cls:=.type "range",data:=.fields #[.int lo t,.int hi u,.int 1 v]}
 |.Hf o u=>h.get? a=some o∧EF H h a u
 |.T3 ps=>h.get? a=some { cls:=.none,data:=.fields ps}
 |.met f x=>h.get? a=some (PySem.W.methodObj (.ref f) (.ref x))
 |.ext φ=>φ h∧(∃o,h.get? a=some o)∧∀h1 h2:Heap,φ h1→(∀o,h1.get? a=some o→h2.get? a=some o)→φ h2
def GA(H:Hp)(h:Heap):Prop:=∀a o,H a=some o→EF P w H h a o
end
section
variable{P:Program}{w:World}{H H':Hp}{h h':Heap}{a:AD}{o:HO}
def EF.lt(x:EF P w H h a o):a<h.objs.size:=by
 cases o with
 |lst xs=>obtain⟨_,_,_,_,e⟩:=x;exact aE e
 |tup xs=>obtain⟨_,_,_,p⟩:=x;exact p.lt
 |dK kvs=>obtain⟨_,_,_,_,o,_,_,e,_⟩:=x;exact aE e
 |dT kvs=>obtain⟨_,_,_,_,o,_,_,e,_⟩:=x;exact aE e
 |set S n=>obtain⟨o,_,_,_,e,_⟩:=x;exact aE e
 |ins C dx fs=>obtain⟨_,_,_,e,_⟩:=x;exact aE e
 |own y=>obtain⟨_,e⟩:=x;exact aE e
 |xd fs=>obtain⟨_,⟨_,_,_,e,_⟩,_⟩:=x;exact aE e
 |iP lo hi=>obtain⟨_,_,_,e⟩:=x;exact aE e
 |Hf ob u=>obtain⟨e,_⟩:=x;exact aE e
 |T3 ps=>exact aE (show h.get? a=some _ from x)
 |met f y=>exact aE (show h.get? a=some _ from x)
 |ext φ=>obtain⟨_,⟨_,e⟩,_⟩:=x;exact aE e
def Paired.gT{α β:Type}{F G:α→β→Prop}:∀ {l₁:List α} {l₂:List β},Paired F l₁ l₂→(∀a b,F a b→G a b)→Paired G l₁ l₂
 |_,_,.nil,_=>.nil
 |_,_,.cons r t,f=>.cons (f _ _ r) (Paired.gT t f)
def EF.Lq(x:EF P w H h a o)(k:∀b u,(b=a∨H b=some (.own a))→h.get? b=some u→h'.get? b=some u)
 (ho:∀b,H b=some (.own a)→H' b=some (.own a))(ht:∀b xs,H b=some (.tup xs)→H' b=some (.tup xs)):EF P w H' h' a o:=by
 induction o with
 |lst xs=>obtain⟨z,its,n,r,e⟩:=x;exact⟨z,its,n,r,k _ _ (.inl rfl) e⟩
 |tup xs=>obtain⟨z,its,r,ob,e,c⟩:=x;exact⟨z,its,r,ob,k _ _ (.inl rfl) e,c⟩
 |dK kvs=>obtain⟨z,y,vs,r,ob,es,ep,e,c⟩:=x;exact⟨z,y,vs,r,ob,es,ep,k _ _ (.inl rfl) e,c⟩
 |dT kvs =>
  obtain⟨z,y,xs,r,ob,es,ep,e,c⟩:=x;exact⟨z,y,xs,Paired.gT r fun p q z=>⟨z.1,ht _ _ z.2.1,z.2.2⟩,ob,es,ep,k _ _ (.inl rfl) e,c⟩
 |set S n=>obtain⟨ob,es,ep,t,e,c⟩:=x;exact⟨ob,es,ep,t,k _ _ (.inl rfl) e,c⟩
 |ins C dx fs =>
  obtain⟨d,z,ne,e,mA,⟨od,es,ep,e2,c⟩,r⟩:=x;exact⟨ho _ d,z,ne,k _ _ (.inl rfl) e,mA,⟨od,es,ep,k _ _ (.inr d) e2,c⟩,r⟩
 |own y=>obtain⟨ob,e⟩:=x;exact⟨ob,k _ _ (.inl rfl) e⟩
 |xd fs=>obtain⟨mA,⟨od,es,ep,e,c⟩,r⟩:=x;exact⟨mA,⟨od,es,ep,k _ _ (.inl rfl) e,c⟩,r⟩
 |iP lo hi=>obtain⟨t,u,v,e⟩:=x;exact⟨t,u,v,k _ _ (.inl rfl) e⟩
 |Hf ob u ih=>obtain⟨e,q⟩:=x;exact⟨k _ _ (.inl rfl) e,ih q⟩
 |T3 ps =>
  have e:h.get? a=some { cls:=.none,data:=.fields ps}:=x;show h'.get? a=some { cls:=.none,data:=.fields ps};exact k a _ (.inl rfl) e
 |met f y =>
  have e:h.get? a=some (PySem.W.methodObj (.ref f) (.ref y)):=x;show h'.get? a=some (PySem.W.methodObj (.ref f) (.ref y));exact k a _ (.inl rfl) e
 |ext φ=>obtain⟨p,⟨o,e⟩,st⟩:=x;exact⟨st _ _ p fun o q=>k _ _ (.inl rfl) q,⟨o,k _ _ (.inl rfl) e⟩,st⟩
def GA.lt(x:GA P w H h)(e:H a=some o):a<h.objs.size:=(x a o e).lt
def GA.fresh(x:GA P w H h)(e:h.objs.size≤a):H a=none:=by
 cases q:H a with
 |none=>rfl
 |some u=>exact absurd (aK (x.lt q) e) (Nat.lt_irrefl _)
def GA.kept(x:GA P w H h)(k:∀b u,h.get? b=some u→h'.get? b=some u):GA P w H h':=fun a o e =>
 (x a o e).Lq (fun b u _ q=>k b u q) (fun _ q=>q) fun _ _ q=>q
def GA.laid(x:GA P w H h)(k:∀b u,h.get? b=some u→h'.get? b=some u)(hp:h.objs.size≤a)(new:EF P w (upd H a o) h' a o):GA P w (upd H a o) h':=fun b u e=>by
 have hn:=x.fresh hp;by_cases hb:b=a
 ·subst hb;rw[Au]at e;cases e;exact new
 ·rw[AZ hb]at e;exact(x b u e).Lq (fun c v _ q=>k c v q) (fun c q=>by rw[AZ (A8 q hn)];exact q) fun c xs q=>by rw[AZ (A8 q hn)];exact q
end
def Rd(H:Hp)(a:AD)(u:HO):Prop:=H a=some u∨∃o,H a=some (.Hf o u)
def Rd.ok{P:Program}{w:World}{H:Hp}{h:Heap}{a:AD}{u:HO}(r:Rd H a u)(x:GA P w H h):EF P w H h a u:=by
 rcases r with r|⟨o,r⟩
 ·exact x a u r
 ·obtain⟨_,q⟩:=x a _ r;exact q
def b7:Option HO→Prop
 |some (.lst _)=>True
 |some (.dK _)=>True
 |some (.dT _)=>True
 |some (.set _ _)=>True
 |some (.ins _ _ _)=>True
 |some (.ext _)=>True
 |_=>False
section
variable{P:Program}{w:World}{H:Hp}{h h':Heap}{x e:AD}{o':HO}
def GA.write(ok:GA P w H h)(mu:b7 (H x))(he:e=x∨H e=some (.own x))(k:∀b u,b≠e→h.get? b=some u→h'.get? b=some u)(heo:∃u,h'.get? e=some u)
 (new:EF P w (upd H x o') h' x o'):GA P w (upd H x o') h':=fun b u q=>by
 have nown:∀c y,H c=some (.own y)→c≠x:=fun c y r z=>by subst z;rw[r]at mu;exact mu
 have VT:∀c xs,H c=some (.tup xs)→c≠x:=fun c xs r z=>by subst z;rw[r]at mu;exact mu
 by_cases hb:b=x
 ·subst hb;rw[Au]at q;cases q;exact new
 ·rw[AZ hb]at q;by_cases hbe:b=e
  ·have q':H b=some (.own x):=by
    rcases he with z|z
    ·exact absurd (hbe.trans z) hb
    ·rw[hbe];exact z
   rw[q]at q';cases q';obtain⟨v,hv⟩:=heo;exact⟨v,by rw[hbe];exact hv⟩
  ·refine(ok b u q).Lq (fun c v hc r=>k c v ?_ r) (fun c r=>by rw[AZ (nown c b r)];exact r) fun c xs r=>by rw[AZ (VT c xs r)];exact r
   rcases hc with rfl|hc
   ·exact hbe
   ·rintro rfl;rcases he with z|z
    ·exact nown c b hc z
    ·rw[hc]at z;cases z;exact hb rfl
end
structure Un(fs ex:List Addr)(H H':Hp)(h h':Heap):Prop where
 keep:∀b o,h.get? b=some o→H b=none→b ∉ fs→b ∉ ex→h'.get? b=some o
 slot:∀b o,h.get? b=some o→H b=none→b∈fs→b ∉ ex→∃sl,h'.get? b=some {o with slots:=sl}
 free:∀b o,h.get? b=some o→H b=none→b ∉ ex→H' b=none
 there:∀b o,h.get? b=some o→b ∉ ex→∃o',h'.get? b=some o'
 FC:∀b xs,H b=some (.tup xs)→H' b=some (.tup xs)
 Ls:∀b o u,H b=some (.Hf o u)→H' b=some (.Hf o u)
 Mn:∀b ps,H b=some (.T3 ps)→∃more,H' b=some (.T3 (ps++more))
section
variable{fs ex:List AD}{H H1:Hp}{h h1 h':Heap}{a x e:AD}{o:HO}
def Un.any(u:Un fs ex H H1 h h1){b:AD}{ob:Obj}(q:h.get? b=some ob)(n:H b=none)(hx:b ∉ ex):∃sl,h1.get? b=some {ob with slots:=sl}:=by
 by_cases hb:b∈fs
 ·exact u.slot b ob q n hb hx
 ·exact⟨ob.slots,u.keep b ob q n hb hx⟩
def Un.kept(k:∀b u,h.get? b=some u→h'.get? b=some u):Un fs ex H H h h' :=
 ⟨fun b ob q _ _ _=>k b ob q,fun b ob q _ _ _=>⟨ob.slots,k b ob q⟩,fun _ _ _ n _=>n,fun b ob q _=>⟨ob,k b ob q⟩,fun _ _ q=>q,fun _ _ _ q=>q,fun _ ps q=>⟨#[],by rw[q];simp⟩⟩
def Un.refl:Un fs ex H H h h:=Un.kept fun _ _ q=>q
def Un.laid(k:∀b u,h.get? b=some u→h'.get? b=some u)(hp:h.objs.size≤a)(hn:H a=none):Un fs ex H (upd H a o) h h' where
 keep:=fun b u q _ _ _=>k b u q
 slot:=fun b u q _ _ _=>⟨u.slots,k b u q⟩
 free:=fun b u q n _=>by rw[AZ (aO (aK (aE q) hp))];exact n
 there:=fun b u q _=>⟨u,k b u q⟩
 FC:=fun b xs q=>by rw[AZ (A8 q hn)];exact q
 Ls:=fun b u xs q=>by rw[AZ (A8 q hn)];exact q
 Mn:=fun b ps q=>⟨#[],by rw[AZ (A8 q hn),q];simp⟩
def Un.write(mu:b7 (H x))(he:e=x∨H e=some (.own x))(k:∀b u,b≠e→h.get? b=some u→h'.get? b=some u)(heo:∃u,h'.get? e=some u):Un fs ex H (upd H x o) h h':=by
 have hx:∀b,H b=none→b≠x:=fun b n z=>by subst z;rw[n]at mu;exact mu
 have hb:∀b,H b=none→b≠e:=fun b n z=>by
  subst z;rcases he with r|r
  ·exact hx b n r
  ·rw[n]at r;cases r
 have hm:∀b u,H b=some u→¬b7 (some u)→b≠x:=fun b u q nm z=>by subst z;rw[q]at mu;exact nm mu
 refine⟨fun b u q n _ _=>k b u (hb b n) q,fun b u q n _ _=>⟨u.slots,k b u (hb b n) q⟩,fun b u q n _=>by rw[AZ (hx b n)];exact n,fun b u q _=>?_,
  fun b xs q=>by rw[AZ (hm b _ q fun z=>z)];exact q,fun b u xs q=>by rw[AZ (hm b _ q fun z=>z)];exact q,fun b ps q=>⟨#[],by rw[AZ (hm b _ q fun z=>z),q];simp⟩⟩
 by_cases hbe:b=e
 ·subst hbe;exact heo
 ·exact⟨u,k b u hbe q⟩
end
def IG(h:Heap)(H:Hp):List AD:=(List.range h.objs.size).filter fun a=>(H a).isSome
def Mx(h:Heap)(H:Hp):Heap:=PySem.W.hideAll h (IG h H)
def YH(h:Heap)(H:Hp):(Mx h H).objs.size=h.objs.size:=PySem.W.hideAll_size _ _
def a6{h:Heap}{H:Hp}{b:AD}{o:Obj}(e:h.get? b=some o)(n:H b=none):(Mx h H).get? b=some o :=
 PySem.W.hideAll_get _ e fun hm=>by
  have q:(H b).isSome=true:=(bR.mp hm).2;rw[n]at q;simp at q
def dc{h:Heap}{H:Hp}{b:AD}{o:Obj}(e:(Mx h H).get? b=some o):h.get? b=some o∧H b=none:=by
 have e':h.get? b=some o:=PySem.W.of_hideAll (IG h H) e;refine⟨e',?_⟩;cases q:H b with
 |none=>rfl
 |some x =>
  have hm:b∈IG h H:=bR.mpr ⟨af.mpr (aE e'),by simp[q]⟩;have z:(Mx h H).get? b=none:=PySem.W.hideAll_none (IG h H) hm;rw[z]at e;cases e
structure Mod(K:Fg)(mg:Str→Option Value)(base:Heap):Prop where
 iT:K.In base
 glob:base.Ns mainGlobals mg
 blt:∃mb,base.Ns builtinsNs mb∧∀x:Str,x ≠ "__name__" → mb x=bootBuiltins x
 nolimit:base.NoLimit
structure Cx where
 prog:Program
 w:World
 K:Fg
 mg:Str→Option Value
 base:Heap
 A:Around
 N:List Str
 s₀:Shared
 H₀:Hp
 env:Env
 outer:List Env
 stack:List Env
 ex:List Addr
 fn:Str→Bool
 calm:Bool
 pn:List (Addr×Obj)
 xe:Value→Shared→Prop
def NG(l:List Env):List AD:=l.filterMap (·.frame)
abbrev Cx.fs(X:Cx):List AD:=NG X.outer
def i7(sc:Scope)(x:Str):Prop:=sc.names.lookup x=some .local∨sc.names.lookup x=some .cell∨sc.names.lookup x=some .free
def Loc(sc:Scope)(x:Str):Prop:=sc.names.lookup x=some .local∨sc.names.lookup x=some .cell
def Look(env:Env)(h:Heap)(m:Str→Option VL)(x:Str)(u:VL):Prop :=
 (env.kindOf x=some .local∧m x=some u)∨((env.kindOf x=some .cell∨env.kindOf x=some .free)∧∃c,env.cells.lookup x=some c∧h.IsCell c (some u))
structure Cx.Ok(X:Cx):Prop where
 mod:Mod X.K X.mg X.base
 kind:X.env.scope.kind=.function
 glob:X.env.globals=mainGlobals
 blt:X.env.builtins=builtinsNs
 above:X.s₀.heap.objs.size≤X.env.locals
 inj:∀x y c,X.env.cells.lookup x=some c→X.env.cells.lookup y=some c→x=y
 has:∀x,(X.env.kindOf x=some .cell∨X.env.kindOf x=some .free)→∃c,X.env.cells.lookup x=some c
 YI:∀x c,X.fn x=true→X.env.cells.lookup x=some c→X.s₀.heap.objs.size≤c
 hd:X.calm=true→X.A.handled=none
 frames:X.A.frames=some X.stack
 cQ:X.stack=X.outer∨(X.stack=X.env::X.outer∧X.env.frame=some X.env.locals)
 kY:∀b∈X.ex,b≠X.env.locals∧∀x c,X.env.cells.lookup x=some c→c≠b
 bs:∀b o,X.base.get? b=some o→X.s₀.heap.get? b=some o∧X.H₀ b=none
 SQ:X.base.objs.size≤X.s₀.heap.objs.size
 VP:∀b o,X.base.get? b=some o→b ∉ X.ex
 Tg:∀b∈X.ex,b ∉ X.fs
 Kp:X.s₀.heap.FunFrames X.base X.outer
 WW:∀b∈X.fs,X.H₀ b=none
structure Inv(X:Cx)(pins:List (Addr×Obj))(σ:List (Option V))(H:Hp)(s:Shared):Prop where
 ok:X.Ok
 os:s.os=X.s₀.os
 bare:AllBare s.gens
 base:Un X.fs X.ex X.H₀ H X.s₀.heap s.heap
 loc:∃m,s.heap.Ns X.env.locals m∧∀(i:Nat) (x:Str) (v:V),X.N[i]? = some x→σ[i]? = some (some v)→i7 X.env.scope x→∃u,RelV v u∧Look X.env s.heap m x u
 cell:∀x c,X.env.cells.lookup x=some c→∃v,s.heap.IsCell c v
 free:H X.env.locals=none
 JY:∀x c,X.env.cells.lookup x=some c→H c=none
 pin:∀p∈X.pn++pins,s.heap.get? p.1=some p.2∧H p.1=none∧p.1≠X.env.locals∧p.1 ∉ X.fs∧∀v,p.2.data≠.cell v
 Bj:GA X.prog X.w H s.heap
 len:σ.length=X.N.length
section
variable{X:Cx}{pins:List (AD×Obj)}{σ:List (Option V)}{H H':Hp}{s:SD}{h':Heap}
def Cx.Ok.lu(ok:X.Ok){b:AD}{o:Obj}(e:X.base.get? b=some o):b ∉ X.fs:=fun hb=>by
 have:=(ok.Kp.mem hb).1;rw[e]at this;cases this
def Inv.bs(I:Inv X pins σ H s):∀b o,X.base.get? b=some o→s.heap.get? b=some o∧H b=none:=fun b o e =>
 ⟨I.base.keep b o (I.ok.bs b o e).1 (I.ok.bs b o e).2 (I.ok.lu e) (I.ok.VP b o e),I.base.free b o (I.ok.bs b o e).1 (I.ok.bs b o e).2 (I.ok.VP b o e)⟩
def Inv.bk(I:Inv X pins σ H s):∀b o,X.base.get? b=some o→s.heap.get? b=some o:=fun b o e=>(I.bs b o e).1
def Inv.mod(I:Inv X pins σ H s):Mod X.K X.mg X.base:=I.ok.mod
def Inv.Jj(I:Inv X pins σ H s):X.K.In s.heap:=I.ok.mod.iT.keeps I.bk
def Inv.lt(I:Inv X pins σ H s):X.env.locals<s.heap.objs.size:=let⟨_,hn,_⟩:=I.loc;hn.lt
def Inv.sz(I:Inv X pins σ H s):X.s₀.heap.objs.size≤s.heap.objs.size:=aW I.ok.above (Nat.le_of_lt I.lt)
def Inv.lA(I:Inv X pins σ H s){a:AD}(h:s.heap.objs.size≤a):a ∉ X.fs:=fun hb=>by
 obtain⟨_,o,ho,_⟩:=I.ok.Kp.mem hb;exact absurd (aK (aE ho) (aW I.sz h)) (Nat.lt_irrefl _)
def Inv.U3(I:Inv X pins σ H s):∀x c,X.env.cells.lookup x=some c→c≠X.env.locals:=fun x c e z=>by
 obtain⟨v,o,ho,hd⟩:=I.cell x c e;obtain⟨m,⟨o',es,ep,ho',hd',_⟩,_⟩:=I.loc;rw[z,ho']at ho;cases ho;rw[hd']at hd;cases hd
def Inv.Kp(I:Inv X pins σ H s):s.heap.FunFrames X.base X.outer:=by
 have all:∀(l:List Env),(∀b∈NG l,b∈X.fs)→X.s₀.heap.FunFrames X.base l→s.heap.FunFrames X.base l:=by
  intro l
  induction l with
  |nil=>intro _ _;trivial
  |cons env r ih =>
   intro hs hl;obtain⟨hk,⟨L,o,hf,hn,ho,hd⟩,hr⟩:=hl;have hL:L∈X.fs:=hs L (by unfold NG;rw[List.filterMap_cons,hf];exact aT);obtain⟨sl,e⟩:=I.base.slot L o ho (I.ok.WW L hL) hL fun z=>I.ok.Tg L z hL;exact⟨hk,⟨L,_,hf,hn,e,hd⟩,ih (fun b hb=>hs b (by unfold NG;rw[List.filterMap_cons,hf];exact aR _ hb)) hr⟩
 exact all X.outer (fun _ hb=>hb) I.ok.Kp
def Inv.stack(I:Inv X pins σ H s):s.heap.FunFrames X.base X.stack:=by
 rcases I.ok.cQ with e|⟨e,hf⟩
 ·rw[e];exact I.Kp
 ·rw[e];obtain⟨m,hn,_⟩:=I.loc;refine .cons (by rw[I.ok.kind];decide) hf hn ?_ I.Kp;exact Heap.get?_none_of_le (aW I.ok.SQ I.ok.above)
def Inv.Us(I:Inv X pins σ H s):∀b∈NG X.stack,b∈X.env.locals::X.fs:=fun b hb=>by
 rcases I.ok.cQ with e|⟨e,hf⟩
 ·rw[e]at hb;exact aR _ hb
 ·rw[e]at hb;unfold NG at hb;rw[List.filterMap_cons,hf]at hb;exact hb
def Inv.WZ(I:Inv X pins σ H s):∀b∈NG X.stack,H b=none:=fun b hb=>by
 rcases aJ.mp (I.Us b hb) with e|hb
 ·rw[e];exact I.free
 ·obtain⟨_,o,ho,_⟩:=I.ok.Kp.mem hb;exact I.base.free b o ho (I.ok.WW b hb) fun z=>I.ok.Tg b z hb
def Inv.step{g':Array GenState}{t':Nat}{d':Drawn}{ch:List AD}(I:Inv X pins σ H s)
 (hch:∀b∈ch,(b∈X.ex∨X.s₀.heap.objs.size≤b)∧b≠X.env.locals∧(∀x c,X.env.cells.lookup x=some c→c≠b)∧∀p∈X.pn++pins,p.1≠b)
 (keep:∀b o,b≠X.env.locals→b ∉ X.fs→b ∉ ch→s.heap.get? b=some o→H b=none→h'.get? b=some o)
 (slot:∀b o,b≠X.env.locals→b∈X.fs→b ∉ ch→s.heap.get? b=some o→H b=none→∃sl,h'.get? b=some {o with slots:=sl})(free:∀b o,b ∉ ch→s.heap.get? b=some o→H b=none→H' b=none)
 (there:∀b o,b ∉ ch→s.heap.get? b=some o→∃o',h'.get? b=some o')
 (FC:∀b xs,H b=some (.tup xs)→H' b=some (.tup xs))(Ls:∀b o u,H b=some (.Hf o u)→H' b=some (.Hf o u))(Mn:∀b ps,H b=some (.T3 ps)→∃more,H' b=some (.T3 (ps++more)))
 (ns:∀m,s.heap.Ns X.env.locals m→h'.Ns X.env.locals m)(Bj:GA X.prog X.w H' h')(hg:AllBare g') :
  Inv X pins σ H' {s with heap:=h',gens:=g',drawn:=d',toks:=t'}:=by
 have neL:∀b o,X.s₀.heap.get? b=some o→b≠X.env.locals:=fun b o e=>aO (aK (aE e) I.ok.above);have neC:∀b o,X.s₀.heap.get? b=some o→b ∉ X.ex→b ∉ ch:=fun b o e hx hb=>by
  rcases(hch b hb).1 with z|z
  ·exact hx z
  ·exact absurd (aK (aE e) z) (Nat.lt_irrefl _)
 have cellK:∀x c,X.env.cells.lookup x=some c→∀v,s.heap.IsCell c v→h'.IsCell c v:=fun x c e v ⟨o,ho,hd⟩=>by
  have nch:c ∉ ch:=fun z=>(hch c z).2.2.1 x c e rfl;by_cases hc:c∈X.fs
  ·obtain⟨sl,q⟩:=slot c o (I.U3 x c e) hc nch ho (I.JY x c e);exact⟨_,q,hd⟩
  ·exact⟨o,keep c o (I.U3 x c e) hc nch ho (I.JY x c e),hd⟩
 refine⟨I.ok,I.os,hg,⟨fun b o e n hb hx=>?_,fun b o e n hb hx=>?_,fun b o e n hx=>?_,fun b o e hx=>?_,fun b xs e=>FC b xs (I.base.FC b xs e),fun b o xs e=>Ls b o xs (I.base.Ls b o xs e),fun b ps e=>?_⟩,?_,fun x c e=>?_,?_,fun x c e=>?_,fun p hp=>?_,Bj,I.len⟩
 ·exact keep b o (neL b o e) hb (neC b o e hx) (I.base.keep b o e n hb hx) (I.base.free b o e n hx)
 ·obtain⟨sl,e1⟩:=I.base.slot b o e n hb hx;obtain⟨sl',e2⟩:=slot b _ (neL b o e) hb (neC b o e hx) e1 (I.base.free b o e n hx);exact⟨sl',e2⟩
 ·obtain⟨o',e1⟩:=I.base.there b o e hx;exact free b o' (neC b o e hx) e1 (I.base.free b o e n hx)
 ·obtain⟨o',e1⟩:=I.base.there b o e hx;exact there b o' (neC b o e hx) e1
 ·obtain⟨m1,e1⟩:=I.base.Mn b ps e;obtain⟨m2,e2⟩:=Mn b _ e1;exact⟨m1++m2,by rw[e2,Array.append_assoc]⟩
 ·obtain⟨m,hn,hl⟩:=I.loc;refine⟨m,ns m hn,fun i x v e1 e2 e3=>?_⟩;obtain⟨u,r,l⟩:=hl i x v e1 e2 e3;refine⟨u,r,?_⟩;rcases l with l|⟨k,c,e,z⟩
  ·exact .inl l
  ·exact .inr ⟨k,c,e,cellK x c e _ z⟩
 ·obtain⟨v,z⟩:=I.cell x c e;exact⟨v,cellK x c e v z⟩
 ·obtain⟨m,⟨o,_,_,ho,_⟩,_⟩:=I.loc;exact free _ o (fun z=>(hch _ z).2.1 rfl) ho I.free
 ·obtain⟨v,o,ho,hd⟩:=I.cell x c e;exact free c o (fun z=>(hch c z).2.2.1 x c e rfl) ho (I.JY x c e)
 ·obtain⟨e,n,ne,nf,d⟩:=I.pin p hp;have nch:p.1 ∉ ch:=fun z=>(hch p.1 z).2.2.2 p hp rfl;exact⟨keep p.1 p.2 ne nf nch e n,free p.1 p.2 nch e n,ne,nf,d⟩
def Inv.un{t':Nat}(I:Inv X pins σ H s)(u:Un X.fs [] H H' s.heap h')(Bj:GA X.prog X.w H' h'):Inv X pins σ H' {s with heap:=h',toks:=t'}:=by
 obtain⟨m,⟨o,es,ep,ho,r⟩,_⟩:=id I.loc;obtain⟨sl,hL⟩:=u.any ho I.free (by simp);exact I.step (g':=s.gens) (d':=s.drawn) (ch:=[]) (fun _ z=>nomatch z) (fun b o _ hb _ e n=>u.keep b o e n hb (by simp)) (fun b o _ hb _ e n=>u.slot b o e n hb (by simp)) (fun b o _ e n=>u.free b o e n (by simp)) (fun b o _ e=>u.there b o e (by simp)) u.FC u.Ls u.Mn (fun m' hm=>by
  obtain⟨o',es',ep',ho',r'⟩:=hm;rw[ho]at ho';cases ho';exact⟨_,es',ep',hL,r'⟩) Bj I.bare
def Inv.call{g':Array GenState}{t':Nat}{d':Drawn}{ch:List AD}(I:Inv X pins σ H s)(u:Un (NG X.stack) ch H H' s.heap h')(Bj:GA X.prog X.w H' h')(hg:AllBare g')
 (hch:∀b∈ch,(b∈X.ex∨X.s₀.heap.objs.size≤b)∧b≠X.env.locals∧(∀x c,X.env.cells.lookup x=some c→c≠b)∧∀p∈X.pn++pins,p.1≠b) :
  Inv X pins σ H' {s with heap:=h',gens:=g',drawn:=d',toks:=t'}:=by
 obtain⟨m,⟨o,es,ep,ho,r⟩,_⟩:=id I.loc;obtain⟨sl,hL⟩:=u.any ho I.free fun z=>(hch _ z).2.1 rfl;exact I.step (ch:=ch) hch (fun b o hL hb hc e n=>u.keep b o e n (fun z=>(aJ.mp (I.Us b z)).elim hL hb) hc) (fun b o _ _ hc e n=>u.any e n hc) (fun b o hc e n=>u.free b o e n hc) (fun b o hc e=>u.there b o e hc) u.FC u.Ls u.Mn (fun m' hm=>by
  obtain⟨o',es',ep',ho',r'⟩:=hm;rw[ho]at ho';cases ho';exact⟨_,es',ep',hL,r'⟩) Bj hg
def Inv.turned{t':Nat}{it:AD}(I:Inv X pins σ H s)(k:∀b o,b≠it→s.heap.get? b=some o→h'.get? b=some o)(hn:H it=none)(hL:it≠X.env.locals)
 (h1:it∈X.ex∨X.s₀.heap.objs.size≤it)(h2:∀x c,X.env.cells.lookup x=some c→c≠it)(h3:∀p∈X.pn++pins,p.1≠it):Inv X pins σ H {s with heap:=h',toks:=t'}:=by
 have nit:∀b u,H b=some u→b≠it:=fun b u e z=>by rw[z,hn]at e;cases e
 refine I.step (g':=s.gens) (d':=s.drawn) (ch:=[it]) (fun b hb=>?_) (fun b o _ _ hc e _=>k b o (fun z=>hc (by simp[z])) e) (fun b o _ _ hc e _=>⟨o.slots,k b o (fun z=>hc (by simp[z])) e⟩) (fun _ _ _ _ n=>n)
  (fun b o hc e=>⟨o,k b o (fun z=>hc (by simp[z])) e⟩) (fun _ _ e=>e) (fun _ _ _ e=>e) (fun b ps e=>⟨#[],by rw[e];simp⟩) (fun m hm=>?_) (fun b u e=>?_) I.bare
 ·have e:b=it:=by simpa using hb
  subst e;exact⟨h1,hL,h2,h3⟩
 ·obtain⟨o,es,ep,ho,r⟩:=hm;exact⟨o,es,ep,k _ o (Ne.symm hL) ho,r⟩
 ·refine(I.Bj b u e).Lq (fun c v hc q=>k c v ?_ q) (fun _ q=>q) fun _ _ q=>q;rcases hc with z|z
  ·rw[z];exact nit b u e
  ·exact nit c _ z
def Inv.tok(I:Inv X pins σ H s)(t:Nat):Inv X pins σ H {s with toks:=t}:=I.un (h':=s.heap) (t':=t) Un.refl I.Bj
def Inv.kept{t':Nat}(I:Inv X pins σ H s)(k:∀b u,s.heap.get? b=some u→h'.get? b=some u):Inv X pins σ H {s with heap:=h',toks:=t'}:=I.un (Un.kept k) (I.Bj.kept k)
def Inv.laid{a:AD}{o:HO}{t':Nat}(I:Inv X pins σ H s)(k:∀b u,s.heap.get? b=some u→h'.get? b=some u)(hp:s.heap.objs.size≤a)(new:EF X.prog X.w (upd H a o) h' a o) :
  Inv X pins σ (upd H a o) {s with heap:=h',toks:=t'}:=I.un (Un.laid k hp (I.Bj.fresh hp)) (I.Bj.laid k hp new)
def Inv.write{x e:AD}{o:HO}{t':Nat}(I:Inv X pins σ H s)(mu:b7 (H x))(he:e=x∨H e=some (.own x))(k:∀b u,b≠e→s.heap.get? b=some u→h'.get? b=some u)(heo:∃u,h'.get? e=some u)
 (new:EF X.prog X.w (upd H x o) h' x o):Inv X pins σ (upd H x o) {s with heap:=h',toks:=t'}:=I.un (Un.write mu he k heo) (I.Bj.write mu he k heo new)
def Inv.WM{pins':List (AD×Obj)}(I:Inv X pins σ H s)(h:∀p∈pins',s.heap.get? p.1=some p.2∧H p.1=none∧p.1≠X.env.locals∧p.1 ∉ X.fs∧∀v,p.2.data≠.cell v):Inv X pins' σ H s :=
 ⟨I.ok,I.os,I.bare,I.base,I.loc,I.cell,I.free,I.JY,fun p hp=>(aX.mp hp).elim (fun z=>I.pin p (bK _ z)) (h p),I.Bj,I.len⟩
def Tw{N:List Str}(hN:N.Nodup){i j:Nat}{x:Str}(a:N[i]? = some x)(b:N[j]? = some x):i=j:=by
 obtain⟨h1,e1⟩:=aF.mp a;obtain⟨h2,e2⟩:=aF.mp b;exact(List.getElem_inj hN).mp (e1.trans e2.symm)
def SJ{M:Model}{A:Around}{E:VL→SD→Prop}{i:Nat}{x:Str}{v:V}{u:VL}{Q:Unit→SD→Prop}(I:Inv X pins σ H s)(hN:X.N.Nodup)(hi:X.N[i]? = some x)(hx:Loc X.env.scope x)(r:RelV v u)
 (h:∀s',Inv X pins (σ.set i (some v)) H s'→(∃a,Heap.SameBut a s.heap s'.heap∧(a=X.env.locals∨X.env.cells.lookup x=some a))→Q () s')(hf:X.fn x=true∨X.env.scope.names.lookup x=some .local:=by first|exact .inl rfl|exact .inr rfl|assumption):wpAny M A (storeName X.env x u) Q E s:=by
 obtain⟨m,hn,hl⟩:=id I.loc;have hcls:(X.env.scope.kind==.class||(X.env.scope.kind==.module&&X.env.locals != X.env.globals))=false:=by rw[I.ok.kind];rfl
 have hiσ:i<σ.length:=by rw[I.len];exact(aF.mp hi).1
 have U3:=I.U3;have tracked:∀ {a:AD} {h':Heap},(∃o,s.heap.get? a=some o∧H a=none)→Heap.SameBut a s.heap h'→GA X.prog X.w H h':=fun {a h'} ha hs b ob e=>by
  obtain⟨_,_,hfree⟩:=ha;refine(I.Bj b ob e).Lq (fun c w' hc q=>(hs.2 c ?_).trans q) (fun _ q=>q) fun _ _ q=>q;rintro rfl;rcases hc with rfl|hc
  ·rw[hfree]at e;cases e
  ·rw[hfree]at hc;cases hc
 rcases hx with hk|hk
 ·refine wpAny_storeName_local hk hn (fun h' hn' hs=>?_) hcls;obtain⟨oL,_,_,hoL,_⟩:=id hn;refine h _ ⟨I.ok,I.os,I.bare,⟨fun b o e n hb hx=>?_,fun b o e n hb hx=>?_,I.base.free,fun b o e hx=>?_,I.base.FC,I.base.Ls,I.base.Mn⟩,⟨_,hn',fun j y v' e1 e2 e3=>?_⟩,fun y c e=>?_,I.free,I.JY,fun p hp=>?_,tracked ⟨oL,hoL,I.free⟩ hs,by simpa using I.len⟩ ⟨_,hs,.inl rfl⟩
  ·exact(hs.2 b (aO (aK (aE e) I.ok.above))).trans (I.base.keep b o e n hb hx)
  ·obtain⟨sl,e1⟩:=I.base.slot b o e n hb hx;exact⟨sl,(hs.2 b (aO (aK (aE e) I.ok.above))).trans e1⟩
  ·obtain⟨o',e1⟩:=I.base.there b o e hx;exact⟨o',(hs.2 b (aO (aK (aE e) I.ok.above))).trans e1⟩
  ·by_cases hj:j=i
   ·subst hj;rw[hi]at e1;cases e1;rw[List.getElem?_set_self hiσ]at e2;cases e2;exact⟨u,r,.inl ⟨hk,by simp⟩⟩
   ·rw[List.getElem?_set_ne (Ne.symm hj)]at e2;obtain⟨u',r',q⟩:=hl j y v' e1 e2 e3;refine⟨u',r',?_⟩;rcases q with ⟨k,e⟩|⟨k,c,e,z⟩
    ·refine .inl ⟨k,?_⟩;have:y≠x:=fun e=>hj (Tw hN e1 (e ▸ hi));simp[this,e]
    ·exact .inr ⟨k,c,e,z.sameBut hs (U3 y c e)⟩
  ·obtain⟨w',z⟩:=I.cell y c e;exact⟨w',z.sameBut hs (U3 y c e)⟩
  ·obtain⟨e,n,ne,nf,d⟩:=I.pin p hp;exact⟨(hs.2 p.1 ne).trans e,n,ne,nf,d⟩
 ·have hfn:X.fn x=true:=by
   rcases hf with z|z
   ·exact z
   ·rw[z]at hk;cases hk
  obtain⟨c,hc⟩:=I.ok.has x (.inl hk);obtain⟨w',z⟩:=I.cell x c hc;refine wpAny_storeName_cell I.ok.kind hk hc z (fun h' hc' hs=>?_);obtain⟨oc,hoc,hocd⟩:=id z;refine h {s with heap:=h'} ⟨I.ok,I.os,I.bare,⟨fun b o e n hb hx=>?_,fun b o e n hb hx=>?_,I.base.free,fun b o e hx=>?_,I.base.FC,I.base.Ls,I.base.Mn⟩,⟨m,hn.sameBut hs (Ne.symm (U3 x c hc)),fun j y v' e1 e2 e3=>?_⟩,fun y c' e=>?_,I.free,I.JY,fun p hp=>?_,tracked ⟨oc,hoc,I.JY x c hc⟩ hs,by simpa using I.len⟩ ⟨c,hs,.inr hc⟩
  ·exact(hs.2 b (aO (aK (aE e) (I.ok.YI x c hfn hc)))).trans (I.base.keep b o e n hb hx)
  ·obtain⟨sl,e1⟩:=I.base.slot b o e n hb hx;exact⟨sl,(hs.2 b (aO (aK (aE e) (I.ok.YI x c hfn hc)))).trans e1⟩
  ·obtain⟨o',e1⟩:=I.base.there b o e hx;exact⟨o',(hs.2 b (aO (aK (aE e) (I.ok.YI x c hfn hc)))).trans e1⟩
  ·by_cases hj:j=i
   ·subst hj;rw[hi]at e1;cases e1;rw[List.getElem?_set_self hiσ]at e2;cases e2;exact⟨u,r,.inr ⟨.inl hk,c,hc,hc'⟩⟩
   ·rw[List.getElem?_set_ne (Ne.symm hj)]at e2;obtain⟨u',r',q⟩:=hl j y v' e1 e2 e3;refine⟨u',r',?_⟩;rcases q with q|⟨k,c',e,z'⟩
    ·exact .inl q
    ·refine .inr ⟨k,c',e,z'.sameBut hs ?_⟩;rintro rfl;exact hj (Tw hN e1 (I.ok.inj _ _ _ e hc ▸ hi))
  ·by_cases hcc:c'=c
   ·subst hcc;exact⟨_,hc'⟩
   ·obtain⟨w2,z2⟩:=I.cell y c' e;exact⟨w2,z2.sameBut hs hcc⟩
  ·obtain⟨e,n,ne,nf,d⟩:=I.pin p hp;refine⟨(hs.2 p.1 ?_).trans e,n,ne,nf,d⟩;intro q;rw[q,hoc]at e;have q':oc=p.2:=aa e;exact d w' (by rw[←q'];exact hocd)
def Mv{M:Model}{A:Around}{E:VL→SD→Prop}{i:Nat}{x:Str}{v:V}{u:VL}{Q:Unit→SD→Prop}(I:Inv X pins σ H s)(hN:X.N.Nodup)(hi:X.N[i]? = some x)(hx:Loc X.env.scope x)(r:RelV v u)
 (h:∀s',Inv X pins (σ.set i (some v)) H s'→Q () s')(hf:X.fn x=true∨X.env.scope.names.lookup x=some .local:=by first|exact .inl rfl|exact .inr rfl|assumption):wpAny M A (storeName X.env x u) Q E s :=
 SJ I hN hi hx r (fun s' I' _=>h s' I') hf
def Inv.jz{s':SD}{ch:List AD}(I:Inv X pins σ H s)(ho:s'.os=s.os)(u:Un (NG X.stack) ch H H' s.heap s'.heap)(Bj:GA X.prog X.w H' s'.heap)(hg:AllBare s'.gens)
 (hch:∀b∈ch,(b∈X.ex∨X.s₀.heap.objs.size≤b)∧b≠X.env.locals∧(∀x c,X.env.cells.lookup x=some c→c≠b)∧∀p∈X.pn++pins,p.1≠b):Inv X pins σ H' s':=by
 obtain⟨h',g',d',t',o'⟩:=s';have e:o'=s.os:=ho;subst e;exact I.call (g':=g') (t':=t') (d':=d') u Bj hg hch
end
abbrev XK:=VL→Option AD→Hp→Prop
abbrev St:=List (Option V)
abbrev VK:=V→Hp→Prop
abbrev TE:=St→Hp→VK→Prop
abbrev TT:=St→Hp→(Bool→Hp→Prop)→Prop
abbrev TA:=St→Hp→(List V→Hp→Prop)→Prop
structure Ends where
 nx:St→Hp→Prop
 rt:VK
 bk:St→Hp→Prop:=fun _ _=>False
 ct:St→Hp→Prop:=fun _ _=>False
abbrev TS:=Ends→St→Hp→Prop
def EP(X:Cx)(pins:List (AD×Obj))(σ:St)(Q:VK)(u:VL)(s':SD):Prop:=∃v H',Inv X pins σ H' s'∧RelV v u∧Q v H'
def TP(X:Cx)(pins:List (AD×Obj))(σ:St)(Q:Bool→Hp→Prop)(b:Bool)(s':SD):Prop:=∃H',Inv X pins σ H' s'∧Q b H'
def AP(X:Cx)(pins:List (AD×Obj))(σ:St)(Q:List V→Hp→Prop)(us:List VL)(s':SD):Prop:=∃vs H',Inv X pins σ H' s'∧Vals vs us∧Q vs H'
def SP(X:Cx)(pins:List (AD×Obj))(D:Ends)(f:Flow)(s':SD):Prop :=
 match f with
 |.next=>∃σ' H',Inv X pins σ' H' s'∧D.nx σ' H'
 |.brk=>∃σ' H',Inv X pins σ' H' s'∧D.bk σ' H'
 |.cont=>∃σ' H',Inv X pins σ' H' s'∧D.ct σ' H'
 |.ret u=>∃v σ' H',Inv X pins σ' H' s'∧RelV v u∧D.rt v H'
def PE(X:Cx)(e:Expr)(t:TE):Prop :=
 ∀(pins:List (AD×Obj)) (s:SD) (σ:St) (H:Hp) (Q:VK),Inv X pins σ H s→t σ H Q→wpAny (model X.prog X.w) X.A (eval e X.env) (EP X pins σ Q) X.xe s
def PT(X:Cx)(e:Expr)(t:TT):Prop :=
 ∀(pins:List (AD×Obj)) (s:SD) (σ:St) (H:Hp) (Q:Bool→Hp→Prop),Inv X pins σ H s→t σ H Q→wpAny (model X.prog X.w) X.A (isTrue e X.env (eval e X.env)) (TP X pins σ Q) X.xe s
def PW(X:Cx)(e:Expr)(t:TT):Prop :=
 ∀(whole:Sem VL) (pins:List (AD×Obj)) (s:SD) (σ:St) (H:Hp) (Q:Bool→Hp→Prop),Inv X pins σ H s→t σ H Q→wpAny (model X.prog X.w) X.A (isTrue e X.env whole) (TP X pins σ Q) X.xe s
def PW.pt{X:Cx}{e:Expr}{t:TT}(h:PW X e t):PT X e t:=h _
def PA(X:Cx)(es:List Expr)(t:TA):Prop :=
 ∀(pos:Pos) (pins:List (AD×Obj)) (s:SD) (σ:St) (H:Hp) (Q:List V→Hp→Prop),Inv X pins σ H s→t σ H Q→wpAny (model X.prog X.w) X.A (spliced (backTo pos (starEach es X.env))) (AP X pins σ Q) X.xe s
def PS(X:Cx)(st:Stmt)(t:TS):Prop :=
 ∀(pins:List (AD×Obj)) (s:SD) (σ:St) (H:Hp) (D:Ends),Inv X pins σ H s→t D σ H→wpAny (model X.prog X.w) X.A (exec st X.env) (SP X pins D) X.xe s
def LS(X:Cx)(st:List Stmt)(t:TS):Prop :=
 ∀(pins:List (AD×Obj)) (s:SD) (σ:St) (H:Hp) (D:Ends),Inv X pins σ H s→t D σ H→wpAny (model X.prog X.w) X.A (execs st X.env) (SP X pins D) X.xe s
def CG{α:Type}{t:Sem α}{Q Q':α→SD→Prop}{M:Model}{A:Around}{E:VL→SD→Prop}{s:SD}(h:wpAny M A t Q E s)(hQ:∀a s,Q a s→Q' a s):wpAny M A t Q' E s:=ah h hQ fun _ _ x=>x
section
variable{X:Cx}
def Nr(i:Nat):TE:=fun σ H Q=>∃v,σ[i]? = some (some v)∧Q v H
def tC(v:V):TE:=fun _ H Q=>Q v H
def f7{i:Nat}{x:Str}{pos:Pos}(hN:X.N[i]? = some x)(hv:i7 X.env.scope x)(hd:(x==("__debug__" : Str))=false:=by decide)(hcd:(x==("__classdict__" : Str))=false:=by decide):PE X (.Name x pos) (Nr i):=by
 intro pins s σ H Q I h;obtain⟨v,e,h⟩:=h;obtain⟨m,hn,hl⟩:=I.loc;obtain⟨u,r,l⟩:=hl i x v hN e hv;have fin:EP X pins σ Q u s:=⟨v,H,I,r,h⟩;rcases l with ⟨hk,hm⟩|⟨hk,c,hc,hcell⟩
 ·exact wpAny_Name (wpAny_loadName_local I.ok.kind hk hn hm fin) hd
 ·rcases hk with hk|hk
  ·exact wpAny_Name (wpAny_loadName_cell I.ok.kind hk hc hcell fin) hd
  ·exact wpAny_Name (wpAny_loadName_free I.ok.kind hk hc hcell fin hcd) hd
def Aq{i j pos}:PE X (.Constant (.int i) j pos) (tC (.int i)):=fun _ _ _ H _ I h=>wpAny_Constant_int ⟨.int i,H,I.tok _,⟨_,rfl⟩,h⟩
def Xq{b j pos}:PE X (.Constant (.bool b) j pos) (tC (.bl b)):=fun _ _ _ H _ I h=>Constant_bool ⟨.bl b,H,I,rfl,h⟩
def gJ{j pos}:PE X (.Constant .none j pos) (tC .CT):=fun _ _ _ H _ I h=>Constant_none ⟨.CT,H,I,rfl,h⟩
def gc{x j pos}:PE X (.Constant (.str x) j pos) (tC (.str x)):=fun _ _ _ H _ I h=>Calls.Constant_str ⟨.str x,H,I.tok _,⟨_,rfl⟩,h⟩
def Gl(X:Cx)(x:Str):Prop:=X.env.kindOf x=some .globalImplicit
def V6{E:VL→SD→Prop}{pins:List (AD×Obj)}{s:SD}{σ:St}{H:Hp}{x:Str}{u:VL}{pos:Pos}{Q:VL→SD→Prop}(I:Inv X pins σ H s)(hg:Gl X x)(hm:X.mg x=some u)(h:Q u s)
 (hd:(x==("__debug__" : Str))=false:=by decide):wpAny (model X.prog X.w) X.A (eval (.Name x pos) X.env) Q E s :=
 Calls.Name_function_global I.ok.kind hg (Calls.loadGlobal_global (by rw[I.ok.glob];exact I.mod.glob.keeps I.bk) hm h) hd
def Iw{E:VL→SD→Prop}{pins:List (AD×Obj)}{s:SD}{σ:St}{H:Hp}{x:Str}{u:VL}{pos:Pos}{Q:VL→SD→Prop}(I:Inv X pins σ H s)(hg:Gl X x)(hm:X.mg x=none)(hv:bootBuiltins x=some u)(h:Q u s)
 (hn:x ≠ "__name__" := by decide)(hd:(x==("__debug__" : Str))=false:=by decide):wpAny (model X.prog X.w) X.A (eval (.Name x pos) X.env) Q E s:=by
 obtain⟨mb,h1,h2⟩:=I.mod.blt;exact Calls.Name_function_global I.ok.kind hg (Calls.loadGlobal_builtin (by rw[I.ok.glob];exact I.mod.glob.keeps I.bk) hm (by rw[I.ok.blt];exact h1.keeps I.bk) ((h2 x hn).trans hv) h) hd
def dg{x:Str}{v:V}{u:VL}{pos:Pos}(hg:Gl X x)(hm:X.mg x=some u)(r:RelV v u)(hd:(x==("__debug__" : Str))=false:=by decide):PE X (.Name x pos) (tC v) :=
 fun _ _ _ H _ I h=>V6 I hg hm ⟨v,H,I,r,h⟩ hd
def Oe{x:Str}{v:V}{u:VL}{pos:Pos}(hg:Gl X x)(hm:X.mg x=none)(hv:bootBuiltins x=some u)(r:RelV v u)(hn:x ≠ "__name__" := by decide)(hd:(x==("__debug__" : Str))=false:=by decide):PE X (.Name x pos) (tC v) :=
 fun _ _ _ H _ I h=>Iw I hg hm hv ⟨v,H,I,r,h⟩ hn hd
variable{a b:Expr}{ta tb:TE}{pos:Pos}
def tB(t:TE):TT:=fun σ H Q=>t σ H fun x H1=>∃c,x=.bl c∧Q c H1
def Q2{e : Expr}{t : TE}(h : PE X e t)(he : ∀ whole,isTrue e X.env whole = (do let v ← whole; standAt e.pos; holding [v] (truthy v)) := by intro _; rfl) : PT X e (tB t) := by
  intro pins s σ H Q I hw
  refine isTrue_plain (CG (h pins s σ H _ I hw) fun v s1 ⟨x,H1,I1,r1,q1⟩ => ?_) (he _)
  obtain ⟨d,rfl,q⟩:=q1
  cases r1
  exact wpAny_truthy_bool ⟨H1,I1,q⟩
variable{tA tB':TT}{rest:List Expr}
def lK(t u:TT):TT:=fun σ H Q=>t σ H fun c H1=>if c=true then u σ H1 Q else Q false H1
def mQ(t u:TT):TT:=fun σ H Q=>t σ H fun c H1=>if c=true then Q true H1 else u σ H1 Q
def lW(t:TT):TT:=fun σ H Q=>t σ H fun c H1=>Q (!c) H1
def Wg(ha:PT X a tA):PW X (.BoolOp .And [a] pos) tA:=by
 intro wh pins s σ H Q I h;refine isTrue_and (CG (ha pins s σ H Q I h) fun c s1 e=>?_);cases c with
 |true=>exact isTrue_and_nil e
 |false=>exact e
def Ug(ha:PT X a tA):PW X (.BoolOp .Or [a] pos) tA:=by
 intro wh pins s σ H Q I h;refine isTrue_or (CG (ha pins s σ H Q I h) fun c s1 e=>?_);cases c with
 |false=>exact isTrue_or_nil e
 |true=>exact e
def YA(ha:PT X a tA)(hb:PW X (.BoolOp .And (b::rest) pos) tB'):PW X (.BoolOp .And (a::b::rest) pos) (lK tA tB'):=by
 intro wh pins s σ H Q I h;refine isTrue_and (CG (ha pins s σ H _ I h) fun c s1 ⟨H1,I1,q1⟩=>?_);cases c with
 |true=>exact hb wh pins s1 σ H1 Q I1 q1
 |false=>exact⟨H1,I1,q1⟩
def XA(ha:PT X a tA)(hb:PW X (.BoolOp .Or (b::rest) pos) tB'):PW X (.BoolOp .Or (a::b::rest) pos) (mQ tA tB'):=by
 intro wh pins s σ H Q I h;refine isTrue_or (CG (ha pins s σ H _ I h) fun c s1 ⟨H1,I1,q1⟩=>?_);cases c with
 |true=>exact⟨H1,I1,q1⟩
 |false=>exact hb wh pins s1 σ H1 Q I1 q1
def Qm(ha:PT X a tA):PT X (.UnaryOp .Not a pos) (lW tA):=by
 intro pins s σ H Q I h;exact isTrue_not (ha pins s σ H (fun c H1=>Q (!c) H1) I h)
def jO(ta tb:TE):TE:=fun σ H Q=>ta σ H fun x H1=>∃c,x=.bl c∧if c=true then tb σ H1 Q else Q (.bl false) H1
def ju(ta:TE):TE:=fun σ H Q=>ta σ H fun x H1=>∃c,x=.bl c∧Q (.bl (!c)) H1
def UZ{op}{t:TE}(h:PE X a t):PE X (.BoolOp op [a] pos) t:=fun pins s σ H Q I hw=>BoolOp_one (h pins s σ H Q I hw)
def Uu(ha:PE X a ta)(hb:PE X (.BoolOp .And (b::rest) pos) tb):PE X (.BoolOp .And (a::b::rest) pos) (jO ta tb):=by
 intro pins s σ H Q I h;refine BoolOp_and (CG (ha pins s σ H _ I h) fun v s1 ⟨x,H1,I1,r1,q1⟩=>?_);obtain⟨c,rfl,q1⟩:=q1;cases r1;refine wpAny_truthy_bool ?_;cases c with
 |true=>exact hb pins s1 σ H1 Q I1 q1
 |false=>exact⟨.bl false,H1,I1,rfl,q1⟩
def ZF(ha:PE X a ta):PE X (.UnaryOp .Not a pos) (ju ta):=by
 intro pins s σ H Q I h;refine UnaryOp_ (CG (ha pins s σ H _ I h) fun v s1 ⟨x,H1,I1,r1,q1⟩=>?_);obtain⟨c,rfl,q1⟩:=q1;cases r1;exact not_of (wpAny_truthy_bool ⟨.bl (!c),H1,I1,rfl,q1⟩)
end
def Bo(K:Fg)(H:Hp)(a:AD)(xs:List V):Prop :=
 Rd H a (.lst xs) ∨
  ∃(o:Obj) (its:Array VL) (n:Nat),K.lookup a=some o∧o.cls=.type "list" ∧ o.dict=none∧o.data=.seq its n∧its.size≤sizeLine∧Vals xs its.toList
def CK(K:Fg)(H:Hp)(a:AD)(xs:List V):Prop :=
 Rd H a (.tup xs) ∨
  ∃(o:Obj) (its:Array VL) (n:Nat),K.lookup a=some o∧o.cls=.type "tuple" ∧ o.data=.seq its n∧its.size≤sizeLine∧Vals xs its.toList
def ky:VL→Option V
 |.none=>some .CT
 |.bool b=>some (.bl b)
 |.int i _=>some (.int i)
 |.str x _=>some (.str x)
 |.bytes b _=>some (.Nn b)
 |.float b _=>some (.WH b)
 |.ref a=>some (.ref a)
 |.type n=>some (.ty n)
 |_=>none
def RelV.abs{x:V}{u:VL}(r:RelV x u):ky u=some x:=by
 cases x with
 |CT=>cases r;rfl
 |bl _=>cases r;rfl
 |int _=>obtain⟨t,rfl⟩:=r;rfl
 |str _=>obtain⟨t,rfl⟩:=r;rfl
 |Nn _=>obtain⟨t,rfl⟩:=r;rfl
 |WH _=>obtain⟨t,rfl⟩:=r;rfl
 |ref _=>cases r;rfl
 |ty _=>cases r;rfl
def RelV.inj{x y:V}{u:VL}(r:RelV x u)(q:RelV y u):x=y:=aa (r.abs.symm.trans q.abs)
def Vals.inj:∀ {xs ys:List V} {us:List VL},Vals xs us→Vals ys us→xs=ys
 |_,_,_,.nil,.nil=>rfl
 |_,_,_,.cons r t,.cons r' t'=>by rw[r.inj r',Vals.inj t t']
section
variable{X:Cx}{pins:List (AD×Obj)}{σ:St}{H:Hp}{s:SD}{a:AD}{xs ys:List V}
def Bo.of{K:Fg}(h:H a=some (.lst xs)):Bo K H a xs:=.inl (.inl h)
def CK.of{K:Fg}(h:H a=some (.tup xs)):CK K H a xs:=.inl (.inl h)
def Inv.list(I:Inv X pins σ H s)(h:Bo X.K H a xs):∃its:List VL,Vals xs its∧PlainL s.heap a its.toArray∧xs.length≤sizeLine:=by
 rcases h with h|⟨o,its,n,hk,hc,hd,hs,hz,r⟩
 ·obtain⟨z,its,n,r,e⟩:=h.ok I.Bj;exact⟨its,r,⟨_,n,e,rfl,rfl,rfl⟩,z⟩
 ·refine⟨its.toList,r,⟨o,n,I.Jj a o hk,hc,hd,by simpa using hs⟩,?_⟩;have e:=r.length;simp only[Array.length_toList]at e
  lia
def Inv.tuple(I:Inv X pins σ H s)(h:CK X.K H a xs):∃its:List VL,Vals xs its∧IsTup s.heap a its.toArray∧xs.length≤sizeLine:=by
 rcases h with h|⟨o,its,n,hk,hc,hs,hz,r⟩
 ·obtain⟨z,its,r,p⟩:=h.ok I.Bj;exact⟨its,r,p,z⟩
 ·refine⟨its.toList,r,⟨o,I.Jj a o hk,hc,n,by simpa using hs⟩,?_⟩;have e:=r.length;simp only[Array.length_toList]at e
  lia
def Inv.Tj(I:Inv X pins σ H s)(h:Bo X.K H a xs)(h':Bo X.K H a ys):xs=ys:=by
 obtain⟨its,r,⟨o,n,e,_,_,d⟩,_⟩:=I.list h;obtain⟨its',r',⟨o',n',e',_,_,d'⟩,_⟩:=I.list h';rw[e]at e';cases e';rw[d]at d'
 injection d' with d1 _
 have:its=its':=by simpa using aj Array.toList d1
 subst this;exact r.inj r'
def Inv.Se(I:Inv X pins σ H s)(h:CK X.K H a xs)(h':CK X.K H a ys):xs=ys:=by
 obtain⟨its,r,⟨o,e,_,n,d⟩,_⟩:=I.tuple h;obtain⟨its',r',⟨o',e',_,n',d'⟩,_⟩:=I.tuple h';rw[e]at e';cases e';rw[d]at d'
 injection d' with d1 _
 have:its=its':=by simpa using aj Array.toList d1
 subst this;exact r.inj r'
end
abbrev Cx.L0(X:Cx)(E:VL→SD→Prop):Cx:={X with xe:=E}
abbrev Cx.Vq(X:Cx):Cx:=X.L0 fun _ _=>False
def Cx.Ok.L0{X:Cx}(ok:X.Ok)(E:VL→SD→Prop):(X.L0 E).Ok :=
 ⟨ok.mod,ok.kind,ok.glob,ok.blt,ok.above,ok.inj,ok.has,ok.YI,ok.hd,ok.frames,ok.cQ,ok.kY,ok.bs,ok.SQ,ok.VP,ok.Tg,ok.Kp,ok.WW⟩
def Cx.Ok.Jz{X:Cx}{E:VL→SD→Prop}(ok:(X.L0 E).Ok):X.Ok :=
 ⟨ok.mod,ok.kind,ok.glob,ok.blt,ok.above,ok.inj,ok.has,ok.YI,ok.hd,ok.frames,ok.cQ,ok.kY,ok.bs,ok.SQ,ok.VP,ok.Tg,ok.Kp,ok.WW⟩
section
variable{X:Cx}{pins:List (AD×Obj)}{σ:St}{H:Hp}{s:SD}{E:VL→SD→Prop}
def Inv.L0(I:Inv X pins σ H s)(E:VL→SD→Prop):Inv (X.L0 E) pins σ H s:=⟨I.ok.L0 E,I.os,I.bare,I.base,I.loc,I.cell,I.free,I.JY,I.pin,I.Bj,I.len⟩
def Inv.Jz(I:Inv (X.L0 E) pins σ H s):Inv X pins σ H s:=⟨I.ok.Jz,I.os,I.bare,I.base,I.loc,I.cell,I.free,I.JY,I.pin,I.Bj,I.len⟩
def SP.Jz{D:Ends}{f:Flow}{s':SD}(h:SP (X.L0 E) pins D f s'):SP X pins D f s':=by
 cases f with
 |next=>obtain⟨σ',H',I,q⟩:=h;exact⟨σ',H',I.Jz,q⟩
 |brk=>obtain⟨σ',H',I,q⟩:=h;exact⟨σ',H',I.Jz,q⟩
 |cont=>obtain⟨σ',H',I,q⟩:=h;exact⟨σ',H',I.Jz,q⟩
 |ret u=>obtain⟨v,σ',H',I,r,q⟩:=h;exact⟨v,σ',H',I.Jz,r,q⟩
def LS.Vq{st:List Stmt}{t:TS}(h:LS X.Vq st t):LS X st t:=fun pins s σ H D I hw =>
 ah (h pins s σ H D (I.L0 _) hw) (fun _ _ q=>q.Jz) fun _ _ z=>False.elim z
end
section
variable{X:Cx}{st:Stmt}{rest:List Stmt}{t u:TS}{e:Expr}{te:TE}{pos:Pos}
def cy:TS:=fun D σ H=>D.nx σ H
def ip(t u:TS):TS:=fun D σ H=>t {D with nx:=u D} σ H
def Fi:LS X [] cy:=fun _ _ σ H _ I h=>wpAny_execs_nil ⟨σ,H,I,h⟩
def BB(h1:PS X st t)(h2:LS X rest u):LS X (st::rest) (ip t u):=by
 intro pins s σ H D I h;refine wpAny_execs_cons (CG (h1 pins s σ H {D with nx:=u D} I h) fun f s1 q=>?_);cases f with
 |next =>
  obtain⟨σ',H',I',q⟩:=q;exact h2 pins s1 σ' H' D I' q
 |ret v=>exact q
 |brk=>exact q
 |cont=>exact q
def Bt(h1:PS X st t):LS X [st] t:=by
 intro pins s σ H D I h;refine wpAny_execs_cons (CG (h1 pins s σ H D I h) fun f s1 q=>?_);cases f with
 |next=>exact wpAny_execs_nil q
 |ret v=>exact q
 |brk=>exact q
 |cont=>exact q
def Inv.quiet{pins:List (AD×Obj)}{σ:St}{H:Hp}{s:SD}(I:Inv X pins σ H s):interactive X.env=false:=by simp[interactive,I.ok.kind]
def Xf(te:TE):TS:=fun D σ H=>te σ H fun _ H1=>D.nx σ H1
def Fv(he:PE X e te)(hs:swapsWith e none pos.line X.env=pure false:=by rfl):PS X (.Expr e pos) (Xf te):=by
 intro pins s σ H D I h;exact wpAny_Expr_any (CG (he pins s σ H _ I h) fun v s1 ⟨x,H1,I1,r1,q1⟩=>⟨σ,H1,I1,q1⟩) I.quiet hs
def lO(te:TE):TS:=fun D σ H=>te σ H D.rt
def Dh(he:PE X e te):PS X (.Return (some e) pos) (lO te):=by
 intro pins s σ H D I h;exact wpAny_Return_some (CG (he pins s σ H _ I h) fun v s1 ⟨x,H1,I1,r1,q1⟩=>⟨x,σ,H1,I1,r1,q1⟩)
def lT(c:TT)(t u:TS):TS:=fun D σ H=>c σ H fun b H1=>if b=true then t D σ H1 else u D σ H1
def Ii{c:Expr}{a b:List Stmt}{tc:TT}(hc:PT X c tc)(ha:LS X a t)(hb:LS X b u):PS X (.If c a b pos) (lT tc t u):=by
 intro pins s σ H D I h;refine wpAny_If (CG (hc pins s σ H _ I h) fun d s1 ⟨H1,I1,q1⟩=>?_);cases d with
 |true=>exact ha pins s1 σ H1 D I1 q1
 |false=>exact hb pins s1 σ H1 D I1 q1
def fY:TS:=fun _ _ _=>False
def Te:PS X st fY:=fun _ _ _ _ _ _ h=>h.elim
end
abbrev TG:=V→St→Hp→(St→Hp→Prop)→Prop
abbrev UQ:=List V→St→Hp→(St→Hp→Prop)→Prop
def PG(X:Cx)(target:Expr)(t:TG):Prop :=
 ∀(pins:List (AD×Obj)) (s:SD) (σ:St) (H:Hp) (v:V) (u:VL) (Q:St→Hp→Prop),Inv X pins σ H s→RelV v u→t v σ H Q →
  wpAny (model X.prog X.w) X.A (assign target X.env u) (fun _ s'=>∃σ' H',Inv X pins σ' H' s'∧Q σ' H') X.xe s
def cb(X:Cx)(ts:List Expr)(t:UQ):Prop :=
 ∀(pins:List (AD×Obj)) (s:SD) (σ:St) (H:Hp) (vs:List V) (us:List VL) (Q:St→Hp→Prop),Inv X pins σ H s→Vals vs us→t vs σ H Q →
  wpAny (model X.prog X.w) X.A (assignInOrder ((assignEach ts X.env).map (·.2)) us) (fun _ s'=>∃σ' H',Inv X pins σ' H' s'∧Q σ' H') X.xe s
abbrev ZI:=V→V→V→Hp→(Hp→Prop)→Prop
def ft(X:Cx)(t:ZI):Prop :=
 ∀(pins:List (AD×Obj)) (s:SD) (σ:St) (H:Hp) (o i v:V) (ov iv u:VL) (Q:Hp→Prop),Inv X pins σ H s→RelV o ov→RelV i iv→RelV v u→t o i v H Q →
  wpAny (model X.prog X.w) X.A (setItem ov iv u) (fun _ s'=>∃H',Inv X pins σ H' s'∧Q H') X.xe s
section
variable{X:Cx}{pos:Pos}
def FO(i:Nat):TG:=fun v σ H Q=>Q (σ.set i (some v)) H
def A2{i:Nat}{x:Str}(hN:X.N.Nodup)(hi:X.N[i]? = some x)(hx:Loc X.env.scope x)(hf:X.fn x=true∨X.env.scope.names.lookup x=some .local:=by first|exact .inl rfl|exact .inr rfl|assumption):PG X (.Name x pos) (FO i):=by
 intro pins s σ H v u Q I r h;exact wpAny_assign_Name (Mv I hN hi hx r (fun s' I'=>⟨_,H,I',h⟩) hf)
def XS:UQ:=fun vs σ H Q=>vs=[]∧Q σ H
def Le(t:TG)(u:UQ):UQ:=fun vs σ H Q=>∃v r,vs=v::r∧t v σ H fun σ' H'=>u r σ' H' Q
def EU:cb X [] XS:=by
 intro pins s σ H vs us Q I r h;obtain⟨e,h⟩:=h;subst e;cases r;exact assignInOrder_nil ⟨σ,H,I,h⟩
def Bd{e:Expr}{es:List Expr}{t:TG}{u:UQ}(h1:PG X e t)(h2:cb X es u)
 (hs:(assignEach (e::es) X.env).map (·.2)=assign e X.env::(assignEach es X.env).map (·.2):=by rfl):cb X (e::es) (Le t u):=by
 intro pins s σ H vs us Q I r h;obtain⟨v,vr,e1,h⟩:=h;subst e1;cases r with
 |cons r rr =>
  rw[hs];refine assignInOrder_cons (CG (h1 pins s σ H _ _ _ I r h) fun _ s1 ⟨σ1,H1,I1,q1⟩=>?_);exact h2 pins s1 σ1 H1 _ _ Q I1 rr q1
def Wl(K:Fg)(n:Nat)(t:UQ):TG:=fun v σ H Q=>∃a xs,v=.ref a∧CK K H a xs∧xs.length=n∧t xs σ H Q
def FU{es:List Expr}{k:Nat}{t:UQ}{n:Nat}(hc:X.calm=true)(h:cb X es t)
 (hn:(assignEach es X.env).length=n:=by rfl)(hst:(assignEach es X.env).findIdx? (·.1)=none:=by rfl):PG X (.Tuple es k pos) (Wl X.K n t):=by
 intro pins s σ H v u Q I r hw;obtain⟨a,xs,e1,hq,hl,hw⟩:=hw;subst e1;cases r;obtain⟨its,rv,ht,hz⟩:=I.tuple hq;refine assign_Tuple_tuple (I.ok.hd hc) ht (by simp[hn,←hl,rv.length]) hst fun h' hx=>?_;have I1:Inv X pins σ H {s with heap:=h'}:=I.kept (t':=s.toks) fun b o e=>hx b o (aO (aE e)) e;exact h pins _ σ H xs _ Q I1 (by simpa using rv) hw
def km(to ti:TE)(t:ZI):TG:=fun v σ H Q=>to σ H fun o H1=>ti σ H1 fun i H2=>t o i v H2 fun H3=>Q σ H3
def Uh{o i:Expr}{to ti:TE}{t:ZI}(ho:PE X o to)(hi:PE X i ti)(hs:ft X t)
 (ha:∀v,assign (.Subscript o i pos) X.env v=(do
      let ov ←holding [v] (eval o X.env)
      let iv ←holding [v,ov] (eval i X.env)
      standAt pos
      holding [v,ov,iv] (setItem ov iv v)
      release [v,ov,iv] []):=by intro _;rfl):PG X (.Subscript o i pos) (km to ti t):=by
  intro pins s σ H v u Q I r h
  rw[ha]
  refine Wb (av (CG (ho pins s σ H _ I h) fun ov s1 ⟨x,H1,I1,r1,q1⟩=>?_))
  refine Wb (av (CG (hi pins s1 σ H1 _ I1 q1) fun iv s2 ⟨y,H2,I2,r2,q2⟩=>?_))
  refine Wb (wpAny_standAt (Wb (av (CG (hs pins s2 σ H2 x y v ov iv u _ I2 r1 r2 r q2) fun _ s3 ⟨H3,I3,q3⟩=>?_))))
  exact wpAny_release ⟨σ,H3,I3,q3⟩
def Xb(te:TE)(g:TG):TS:=fun D σ H=>te σ H fun x H1=>g x σ H1 D.nx
def Qp{tg e:Expr}{te:TE}{g:TG}(he:PE X e te)(hg:PG X tg g)(hs:swapsWithSole [tg] e pos.line X.env=pure false:=by rfl)(hw:swappedStores [tg] e X.env=pure none:=by rfl)
 (h1:(assignEach [tg] X.env).map (·.2)=[assign tg X.env]:=by rfl):PS X (.Assign [tg] e pos) (Xb te g):=by
 intro pins s σ H D I h;refine wpAny_Assign_stores (CG (he pins s σ H _ I h) fun v s1 ⟨x,H1,I1,r1,q1⟩=>?_) hs hw;rw[h1];exact CG (hg pins s1 σ H1 x v _ I1 r1 q1) fun _ s2 q=>q
def B7{i:Nat}{x:Str}{e:Expr}{te:TE}{pos':Pos}(hN:X.N.Nodup)(hi:X.N[i]? = some x)(hx:Loc X.env.scope x)(he:PE X e te)(hs:swapsWith e (some (.Name x pos')) pos.line X.env=pure false:=by rfl)(hf:X.fn x=true∨X.env.scope.names.lookup x=some .local:=by first|exact .inl rfl|exact .inr rfl|assumption) :
  PS X (.Assign [.Name x pos'] e pos) (Xb te (FO i)):=by
 intro pins s σ H D I h;refine wpAny_Assign_Name (CG (he pins s σ H _ I h) fun v s1 ⟨y,H1,I1,r1,q1⟩=>?_) hs;exact Mv I1 hN hi hx r1 (fun s2 I2=>⟨_,H1,I2,q1⟩) hf
def lV(i j:Nat)(ta:TA):TS:=fun D σ H=>ta σ H fun vs H1=>∃v w,vs=[v,w]∧D.nx ((σ.set i (some v)).set j (some w)) H1
def iI{i j:Nat}{x y:Str}{a b:Expr}{ta:TA}{px py pt:Pos}{kt k2 pt2}(hc:X.calm=true)(hN:X.N.Nodup)(hi:X.N[i]? = some x)(hj:X.N[j]? = some y)(hij:i≠j)
 (hx:X.env.scope.names.lookup x=some .local)(hy:X.env.scope.names.lookup y=some .local)(ha:PA X [a,b] ta)
 (hw:swappedStores [.Tuple [.Name x px,.Name y py] kt pt] (.Tuple [a,b] k2 pt2) X.env=pure (some [x,y]))
 (hs:swapsWithSole [.Tuple [.Name x px,.Name y py] kt pt] (.Tuple [a,b] k2 pt2) pos.line X.env=pure false:=by rfl) :
  PS X (.Assign [.Tuple [.Name x px,.Name y py] kt pt] (.Tuple [a,b] k2 pt2) pos) (lV i j ta):=by
 intro pins s σ H D I h;rw[exec_Assign_arm];refine Wb (wpAny_standAt ?_);rw[hs];refine Wb (aB ?_);rw[if_neg (by decide)];refine Wb (Tuple_ (CG (ha _ pins s σ H _ I h) fun us s1 ⟨vs,H1,I1,r1,q1⟩=>?_));obtain⟨v,w,e1,q1⟩:=q1;subst e1;obtain⟨u1,u2,rfl,rv,rw'⟩:∃u1 u2,us=[u1,u2]∧RelV v u1∧RelV w u2:=by
  cases r1 with
  |cons p q =>
   cases q with
   |cons p' q' =>
    cases q';exact⟨_,_,rfl,p,p'⟩
 refine ae ?_ (by show 2≤sizeLine;decide);have I2:Inv X pins σ H1 {s1 with heap:=s1.heap.push { cls:=.type "tuple",data:=.seq [u1,u2].toArray} }:=I1.kept (t':=s1.toks) fun b o e=>aD _ e;rw[hw];refine Wb (aB ?_);show wpAny (model X.prog X.w) X.A (do rule "assign.swapped-stores"; let items ←unpackItems (.ref s1.heap.objs.size) 2 none;assignInOrder [fun v=>bindName X.env y v,fun v=>bindName X.env x v] items.reverse;pure Flow.next) _ _ _;refine Wb (wpAny_rule (Wb (unpackItems_tuple (items:=#[u1,u2]) (I.ok.hd hc) (IsTup.new s1.heap _) fun h' hx'=>?_)));have I3:=I2.kept (h':=h') (t':=s1.toks) fun b o e=>hx' b o (aO (aE e)) e;show wpAny _ _ (assignInOrder [fun v=>bindName X.env y v,fun v=>bindName X.env x v] [u2,u1]>>=fun _=>pure Flow.next) _ _ _;refine Wb (assignInOrder_cons (wpAny_bindName (Mv I3 hN hj (.inl hy) rw' (fun s2 I4=>?_) (.inr hy))));refine assignInOrder_cons (wpAny_bindName (Mv I4 hN hi (.inl hx) rv (fun s3 I5=>assignInOrder_nil (aB ?_)) (.inr hx)));rw[List.set_comm _ _ (Ne.symm hij)]at I5;exact⟨_,H1,I5,q1⟩
end
section
variable{X:Cx}{pos:Pos}
def YU(c:TT)(tb:TS):TS:=fun D σ H=>∃W:Nat→St→Hp→Prop,(∃m,W m σ H)∧∀m σ H,W m σ H →
 c σ H fun b H1=>if b=true then ∃N:St→Hp→Prop,(∀σ' H',N σ' H'→∃m',m'<m∧W m' σ' H')∧tb {D with nx:=N,ct:=N,bk:=D.nx} σ H1 else D.nx σ H1
def Pp{c:Expr}{body:List Stmt}{tc:TT}{tb:TS}(hp:PassesOwn (model X.prog X.w) X.A X.env X.xe)(hc:PT X c tc)(hb:LS X body tb):PS X (.While c body [] pos) (YU tc tb):=by
 intro pins s σ H D I h;obtain⟨W,⟨m0,w0⟩,turn⟩:=h;refine wpAny_While (codeAny_whileLoop (fun n s'=>∃σ' H',Inv X pins σ' H' s'∧W n σ' H') ?_ m0 ⟨σ,H,I,w0⟩);rintro n s1 ⟨σ1,H1,I1,w1⟩;refine wpAny_passesOwn hp (CG (hc pins s1 σ1 H1 _ I1 (turn n σ1 H1 w1)) fun b s2 ⟨H2,I2,q2⟩=>?_);cases b with
 |true =>
  obtain⟨N,hN,q2⟩:=q2;rw[if_pos rfl];refine wpAny_passesOwn hp (CG (hb pins s2 σ1 H2 _ I2 q2) fun f s3 q3=>?_);cases f with
  |next =>
   obtain⟨σ3,H3,I3,n3⟩:=q3;obtain⟨m',hm,w3⟩:=hN σ3 H3 n3;exact⟨m',hm,σ3,H3,I3,w3⟩
  |cont =>
   obtain⟨σ3,H3,I3,n3⟩:=q3;obtain⟨m',hm,w3⟩:=hN σ3 H3 n3;exact⟨m',hm,σ3,H3,I3,w3⟩
  |brk=>exact q3
  |ret v=>exact q3
 |false =>
  rw[if_neg aL];exact wpAny_execs_nil ⟨σ1,H2,I2,q2⟩
end
structure It where
 go:Nat→Hp→Prop
 GX:Nat→Hp→V→Hp→Prop
 stop:Nat→Hp→Prop
def L3(X:Cx)(pins:List (AD×Obj))(H:Hp)(b:AD):Prop :=
 H b=none∧b≠X.env.locals∧b ∉ X.fs∧(b∈X.ex∨X.s₀.heap.objs.size≤b)∧(∀x c,X.env.cells.lookup x=some c→c≠b)∧∀p∈X.pn++pins,p.1≠b
def Inv.RY{X:Cx}{pins:List (AD×Obj)}{σ:St}{H H':Hp}{s:SD}{b:AD}(I:Inv X pins σ H s)(hb:s.heap.objs.size≤b)(hn:H' b=none):L3 X pins H' b:=by
 refine⟨hn,Nat.ne_of_gt (aK I.lt hb),I.lA hb,.inr (aW I.sz hb),fun x c e z=>?_,fun p hp z=>?_⟩
 ·obtain⟨v,q⟩:=I.cell x c e;exact absurd (aK q.lt (by rw[z];exact hb)) (Nat.lt_irrefl _)
 ·exact absurd (aK (aE (I.pin p hp).1) (by rw[z];exact hb)) (Nat.lt_irrefl _)
structure Turn(P:Program)(w:World)(K:Fg)(tg:Expr)(J:It)(fp:List Addr)(it:Addr)(tn:Nat→Heap→Prop):Prop where
 mem:it∈fp
 obj:∀i h,tn i h→∀b∈fp,∃o,h.get? b=some o∧∀v,o.data≠.cell v
 keep:∀i h h',tn i h→(∀b∈fp,∀o,h.get? b=some o→h'.get? b=some o)→tn i h'
 item:∀(X:Cx),X.prog=P→X.w=w→X.K=K→X.calm=true→∀(i:Nat) (pins:List (Addr×Obj)) (s:Shared) (σ:St) (H:Hp) (E:Value→Shared→Prop),Inv X pins σ H s→(∀b∈fp,L3 X pins H b)→tn i s.heap→J.go i H →
  wpAny (model P w) X.A (pyNext (.ref it)) (fun r s1=>∃u,r=some u ∧
   wpAny (model P w) X.A (letOwnedTupleGo tg (.ref it) u) (fun _ s2=>∃x H',Inv X pins σ H' s2∧RelV x u∧J.GX i H x H'∧tn (i+1) s2.heap∧∀b∈fp,H' b=none) E s1) E s
 done:∀(X:Cx),X.prog=P→X.w=w→X.K=K→X.calm=true→∀(i:Nat) (pins:List (Addr×Obj)) (s:Shared) (σ:St) (H:Hp) (E:Value→Shared→Prop),Inv X pins σ H s→(∀b∈fp,L3 X pins H b)→tn i s.heap→J.stop i H →
  wpAny (model P w) X.A (pyNext (.ref it)) (fun r s1=>r=none∧Inv X pins σ H s1) E s
 self:∀(A:Around) (i:Nat) (s:Shared) (Q:Value→Shared→Prop) (E:Value→Shared→Prop),tn i s.heap→Q (.ref it) s→wpAny (model P w) A (pyIter (.ref it)) Q E s
abbrev TI:=St→Hp→(It→Hp→Prop)→Prop
def kQ(X:Cx)(pins:List (AD×Obj))(σ:St)(tg:Expr)(R:It→Hp→Prop)(itv:VL)(s2:SD):Prop :=
 ∃(it:AD) (fp:List AD) (tn:Nat→Heap→Prop) (J:It) (H':Hp),itv=.ref it∧Inv X pins σ H' s2∧Turn X.prog X.w X.K tg J fp it tn∧tn 0 s2.heap∧(∀b∈fp,L3 X pins H' b)∧R J H'
def PI(X:Cx)(tg iter:Expr)(wi:TI):Prop :=
 ∀(pins:List (AD×Obj)) (s:SD) (σ:St) (H:Hp) (R:It→Hp→Prop),Inv X pins σ H s→wi σ H R →
  wpAny (model X.prog X.w) X.A (eval iter X.env) (fun v s1=>wpAny (model X.prog X.w) X.A (pyIter v) (kQ X pins σ tg R) X.xe s1) X.xe s
def Xp{M:Model}{A:Around}{E:VL→SD→Prop}{s:SD}{tg:Expr}{it:AD}{u:VL}{o:Obj}{n:String}{vs:Array VL}{Q:Unit→SD→Prop}(ho:s.heap.get? it=some o)(hc:o.cls=.type n)(hd:o.data=.fields vs)
 (hn:["enumerate", "zip", "dict_itemiterator", "dict_reverseitemiterator", "odict_iterator", "itertools.zip_longest", "itertools.pairwise"].contains n=false)(hQ:Q () s):wpAny M A (letOwnedTupleGo tg (.ref it) u) Q E s:=by
 unfold letOwnedTupleGo;cases tg<;>first
  |exact aB hQ
  |(cases u<;>first
    |exact aB hQ
    |(refine Wb (wpAny_load ho ?_)
      rw[hc,hd];show wpAny M A (if(["enumerate", "zip", "dict_itemiterator", "dict_reverseitemiterator", "odict_iterator", "itertools.zip_longest", "itertools.pairwise"].contains n&&vs[0]? == some (rawInt _))=true then _ else _) Q E s;rw[if_neg (by intro h;rw[hn,Bool.false_and]at h;cases h)];exact aB hQ))
def WS(K:Fg)(a:AD):It :=
 ⟨fun i H=>∃xs x,Bo K H a xs∧xs[i]? = some x,fun i H x H'=>H'=H∧∀xs,Bo K H a xs→xs[i]? = some x,fun i H=>∃xs,Bo K H a xs∧xs.length≤i⟩
def iq(K:Fg)(a:AD):It :=
 ⟨fun i H=>∃xs x,CK K H a xs∧xs[i]? = some x,fun i H x H'=>H'=H∧∀xs,CK K H a xs→xs[i]? = some x,fun i H=>∃xs,CK K H a xs∧xs.length≤i⟩
def Ss(lo:Int)(n:Nat):It:=⟨fun i _=>i<n,fun i H x H'=>H'=H∧x=.int (lo+i),fun i _=>n≤i⟩
def YN{P:Program}{w:World}{K:Fg}{tg:Expr}(a it:AD):Turn P w K tg (WS K a) [it] it (fun i h=>h.IsListIter it a i) where
 mem:=by simp
 obj:=fun i h st b hb=>by
  have e:b=it:=by simpa using hb
  subst e;obtain⟨o,e,c,d⟩:=st;exact⟨o,e,fun v z=>by rw[d]at z;cases z⟩
 keep:=fun i h h' st k=>st.at fun o e=>k it (by simp) o e
 item:=by
  intro X hP hw hK hc i pins s σ H E I hf st hg;subst hP hw hK;obtain⟨xs,x,hq,hx⟩:=hg;obtain⟨its,rv,p,hz⟩:=I.list hq;obtain⟨u,hu,ru⟩:=rv.get hx;obtain⟨f0,f1,f2,f3,f4,f5⟩:=hf it (by simp);refine wpAny_pyNext_list_item st p.isList (x:=u) (by simpa using hu) fun h' st' sb=>?_;have I1:Inv X pins σ H {s with heap:=h'}:=I.turned (t':=s.toks) (fun b o hb e=>(sb.2 b hb).trans e) f0 f1 f3 f4 f5;obtain⟨o,e,c,d⟩:=id st';exact⟨u,rfl,Xp (s:={s with heap:=h'}) e c d (by decide) ⟨x,H,I1,ru,⟨rfl,fun ys hy=>by rw[I.Tj hy hq];exact hx⟩,st',fun b hb=>(hf b hb).1⟩⟩
 done:=by
  intro X hP hw hK hc i pins s σ H E I hf st hg;subst hP hw hK;obtain⟨xs,hq,hx⟩:=hg;obtain⟨its,rv,p,hz⟩:=I.list hq;obtain⟨f0,f1,f2,f3,f4,f5⟩:=hf it (by simp);have hl:=rv.length;exact wpAny_pyNext_list_end (I.ok.hd hc) st p.isList (by simp;lia) fun h' eb=>⟨rfl,I.turned (t':=s.toks) (fun b o hb e=>eb b o hb e) f0 f1 f3 f4 f5⟩
 self:=fun _ _ _ _ _ st h=>wpAny_pyIter_listiter st h
def Wy{P:Program}{w:World}{K:Fg}{tg:Expr}(a it:AD):Turn P w K tg (iq K a) [it] it (fun i h=>h.IsTupleIter it a i) where
 mem:=by simp
 obj:=fun i h st b hb=>by
  have e:b=it:=by simpa using hb
  subst e;obtain⟨o,e,c,d⟩:=st;exact⟨o,e,fun v z=>by rw[d]at z;cases z⟩
 keep:=fun i h h' st k=>st.at fun o e=>k it (by simp) o e
 item:=by
  intro X hP hw hK hc i pins s σ H E I hf st hg;subst hP hw hK;obtain⟨xs,x,hq,hx⟩:=hg;obtain⟨its,rv,p,hz⟩:=I.tuple hq;obtain⟨u,hu,ru⟩:=rv.get hx;obtain⟨f0,f1,f2,f3,f4,f5⟩:=hf it (by simp);refine wpAny_pyNext_tuple_item st (show s.heap.IsTuple a its.toArray from p) (x:=u) (by simpa using hu) fun h' st' sb=>?_;have I1:Inv X pins σ H {s with heap:=h'}:=I.turned (t':=s.toks) (fun b o hb e=>(sb.2 b hb).trans e) f0 f1 f3 f4 f5;obtain⟨o,e,c,d⟩:=id st';exact⟨u,rfl,Xp (s:={s with heap:=h'}) e c d (by decide) ⟨x,H,I1,ru,⟨rfl,fun ys hy=>by rw[I.Se hy hq];exact hx⟩,st',fun b hb=>(hf b hb).1⟩⟩
 done:=by
  intro X hP hw hK hc i pins s σ H E I hf st hg;subst hP hw hK;obtain⟨xs,hq,hx⟩:=hg;obtain⟨its,rv,p,hz⟩:=I.tuple hq;obtain⟨f0,f1,f2,f3,f4,f5⟩:=hf it (by simp);have hl:=rv.length;exact wpAny_pyNext_tuple_end (I.ok.hd hc) st (show s.heap.IsTuple a its.toArray from p) (by simp;lia) fun h' eb=>⟨rfl,I.turned (t':=s.toks) (fun b o hb e=>eb b o hb e) f0 f1 f3 f4 f5⟩
 self:=fun _ _ _ _ _ st h=>wpAny_pyIter_tupleiter st h
def XH{P:Program}{w:World}{K:Fg}{tg:Expr}(it:AD)(lo:Int)(n:Nat):Turn P w K tg (Ss lo n) [it] it (fun i h=>IsRangeIter h it (lo+(i:Nat)*1) ((n:Int)-(i:Nat)) 1) where
 mem:=by simp
 obj:=fun i h st b hb=>by
  have e:b=it:=by simpa using hb
  subst e;exact⟨_,st,fun v z=>by
   have z':Data.fields _=Data.cell v:=z;cases z'⟩
 keep:=fun i h h' st k=>k it (by simp) _ st
 item:=by
  intro X hP hw hK hc i pins s σ H E I hf st hg;subst hP hw hK;obtain⟨f0,f1,f2,f3,f4,f5⟩:=hf it (by simp);have W:=Walks.range (prog:=X.prog) (w:=X.w) (I.ok.hd hc) it lo 1 n;refine W.item i s _ _ hg st fun v h' tk hv st' kk=>?_;obtain⟨t,rfl⟩:=hv;have I1:Inv X pins σ H {s with heap:=h',toks:=tk}:=I.turned (fun b o hb e=>kk b o (by simpa using hb) e) f0 f1 f3 f4 f5;refine⟨_,rfl,Xp (s:={s with heap:=h',toks:=tk}) (n := "range_iterator") st' rfl rfl (by decide) ⟨.int (lo+i),H,I1,⟨t,?_⟩,⟨rfl,rfl⟩,st',fun b hb=>(hf b hb).1⟩⟩;rw[Int.mul_one]
 done:=by
  intro X hP hw hK hc i pins s σ H E I hf st hg;subst hP hw hK;obtain⟨f0,f1,f2,f3,f4,f5⟩:=hf it (by simp);exact wpAny_pyNext_range_end (I.ok.hd hc) st (by have:n≤i:=hg;lia) fun h' eb=>⟨rfl,I.turned (t':=s.toks) (fun b o hb e=>eb b o hb e) f0 f1 f3 f4 f5⟩
 self:=fun _ _ _ _ _ st h=>wpAny_pyIter_rangeiter st h
section
variable{X:Cx}{tg:Expr}
def js(K:Fg)(tl:TE):TI:=fun σ H R=>tl σ H fun x H1=>∃a,x=.ref a∧(∃xs,Bo K H1 a xs)∧R (WS K a) H1
def kz(K:Fg)(tl:TE):TI:=fun σ H R=>tl σ H fun x H1=>∃a,x=.ref a∧(∃xs,CK K H1 a xs)∧R (iq K a) H1
def Ox{l:Expr}{tl:TE}(hl:PE X l tl):PI X tg l (js X.K tl):=by
 intro pins s σ H R I h;refine CG (hl pins s σ H _ I h) fun v s1 ⟨x,H1,I1,r1,q1⟩=>?_;obtain⟨a,e,⟨xs,hq⟩,q⟩:=q1;subst e;cases r1;obtain⟨its,rv,p,hz⟩:=I1.list hq;refine wpAny_pyIter_list p.isList ?_;refine⟨s1.heap.objs.size,[s1.heap.objs.size],_,_,H1,rfl,I1.kept (t':=s1.toks) fun b o e=>aD _ e,YN a _,⟨_,Heap.get?_push_size _ rfl,rfl,rfl⟩,fun b hb=>?_,q⟩;have e:b=s1.heap.objs.size:=by simpa using hb
 subst e;exact I1.RY (aG _) (I1.Bj.fresh (aG _))
def i3{l:Expr}{tl:TE}(hl:PE X l tl):PI X tg l (kz X.K tl):=by
 intro pins s σ H R I h;refine CG (hl pins s σ H _ I h) fun v s1 ⟨x,H1,I1,r1,q1⟩=>?_;obtain⟨a,e,⟨xs,hq⟩,q⟩:=q1;subst e;cases r1;obtain⟨its,rv,p,hz⟩:=I1.tuple hq;refine wpAny_pyIter_tuple (show s1.heap.IsTuple a its.toArray from p) ?_;refine⟨s1.heap.objs.size,[s1.heap.objs.size],_,_,H1,rfl,I1.kept (t':=s1.toks) fun b o e=>aD _ e,Wy a _,⟨_,Heap.get?_push_size _ rfl,rfl,rfl⟩,fun b hb=>?_,q⟩;have e:b=s1.heap.objs.size:=by simpa using hb
 subst e;exact I1.RY (aG _) (I1.Bj.fresh (aG _))
def VH{pins:List (AD×Obj)}{σ:St}{H:Hp}{s:SD}{R:It→Hp→Prop}{E:VL→SD→Prop}{lo hi:Int}{t u v:Tok}{tk:Nat}(I:Inv X pins σ H s)(h1:-(2^62)≤lo)(h2:lo<2^62)(h3:-(2^62)≤hi)(h4:hi<2^62)
 (q:R (Ss lo (hi-lo).toNat) H):wpAny (model X.prog X.w) X.A (pyIter (.ref s.heap.objs.size)) (kQ X pins σ tg R) E {s with heap:=s.heap.push { cls:=.type "range",data:=.fields #[.int lo t,.int hi u,.int 1 v]},toks:=tk}:=by
 refine wpAny_pyIter_range (IsRange.new ..) (small_one h1 h2 h3 h4) ?_;have I1:Inv X pins σ H {s with heap:=s.heap.push { cls:=.type "range",data:=.fields #[.int lo t,.int hi u,.int 1 v]},toks:=tk}:=I.kept fun b o e=>aD _ e;refine⟨(s.heap.push { cls:=.type "range",data:=.fields #[.int lo t,.int hi u,.int 1 v]}).objs.size,[(s.heap.push { cls:=.type "range",data:=.fields #[.int lo t,.int hi u,.int 1 v]}).objs.size],_,_,H,rfl,
  I1.kept (t':=tk) fun b o e=>aD _ e,XH _ lo (hi-lo).toNat,?_,fun b hb=>?_,q⟩
 ·have e1:lo+((0:Nat):Int)*1=lo:=by simp
  have e2:(((hi-lo).toNat:Nat):Int)-((0:Nat):Int)=Builtin.Range.rangeSize lo hi 1:=by rw[rangeSize_one];split<;>lia
  show IsRangeIter _ _ (lo+((0:Nat):Int)*1) ((((hi-lo).toNat:Nat):Int)-((0:Nat):Int)) 1;rw[e1,e2];exact aP _ rfl
 ·have e:b=(s.heap.push { cls:=.type "range",data:=.fields #[.int lo t,.int hi u,.int 1 v]}).objs.size:=by simpa using hb
  subst e;exact I1.RY (aG _) (I1.Bj.fresh (aG _))
def jV(ta:TA):TI:=fun σ H R=>ta σ H fun vs H1=>∃j:Int,vs=[.int j]∧-(2^62)≤j∧j<2^62∧R (Ss 0 j.toNat) H1
def jW(ta:TA):TI:=fun σ H R=>ta σ H fun vs H1=>∃i j:Int,vs=[.int i,.int j]∧(-(2^62)≤i∧i<2^62∧-(2^62)≤j∧j<2^62)∧R (Ss i (j-i).toNat) H1
def Ji{a:Expr}{ta:TA}{p pos:Pos}(hg:Gl X "range")(hm:X.mg "range" = none)(ha:PA X [a] ta)(hs:starEach [a] X.env=[(false,eval a X.env)]:=by rfl):PI X tg (.Call (.Name "range" p) [a] [] pos) (jV ta):=by
 intro pins s σ H R I h;refine Call_ (Iw I hg hm boot_range (bC (CG (ha pos pins s σ H _ I h) fun us s1 ⟨vs,H1,I1,r1,q1⟩=>?_) hs rfl));obtain⟨j,e,q1,q2,q⟩:=q1;subst e;cases r1 with
 |cons r rr =>
  cases rr;obtain⟨t,rfl⟩:=r;exact call_range_1 (VH I1 (by lia) (by lia) q1 q2 (by simpa using q))
def Yh{a b:Expr}{ta:TA}{p pos:Pos}(hg:Gl X "range")(hm:X.mg "range" = none)(ha:PA X [a,b] ta)(hs:starEach [a,b] X.env=[(false,eval a X.env),(false,eval b X.env)]:=by rfl)(hs2:starEach [b] X.env=[(false,eval b X.env)]:=by rfl) :
  PI X tg (.Call (.Name "range" p) [a,b] [] pos) (jW ta):=by
 intro pins s σ H R I h;refine Call_ (Iw I hg hm boot_range (bC (CG (ha pos pins s σ H _ I h) fun us s1 ⟨vs,H1,I1,r1,q1⟩=>?_) (by rw[hs,hs2]) (by rw[hs2];rfl)));obtain⟨i,j,e,⟨q1,q2,q3,q4⟩,q⟩:=q1;subst e;cases r1 with
 |cons r rr =>
  cases rr with
  |cons r' rr =>
   cases rr;obtain⟨t,rfl⟩:=r;obtain⟨t',rfl⟩:=r';exact call_range_2 (VH I1 q1 q2 q3 q4 q)
def lB(wi:TI)(g:TG)(tb:TS):TS:=fun D σ H=>wi σ H fun J H1=>∃W:Nat→Nat→St→Hp→Prop,(∃m,W 0 m σ H1)∧∀i m σ H,W i m σ H →
 (J.stop i H∧D.nx σ H)∨(J.go i H∧∃N:St→Hp→Prop,(∀σ' H',N σ' H'→∃m',m'<m∧W (i+1) m' σ' H')∧∀x H',J.GX i H x H'→g x σ H' fun σ2 H2=>tb {D with nx:=N,ct:=N,bk:=D.nx} σ2 H2)
def Na(fp:List AD)(h:Heap):List (AD×Obj):=fp.filterMap fun b=>(h.get? b).map fun o=>(b,o)
def KW{fp:List AD}{h:Heap}{b:AD}{o:Obj}(hb:b∈fp)(e:h.get? b=some o):(b,o)∈Na fp h:=List.mem_filterMap.mpr ⟨b,hb,by rw[e];rfl⟩
def X2{fp:List AD}{h:Heap}{p:AD×Obj}(hp:p∈Na fp h):p.1∈fp∧h.get? p.1=some p.2:=by
 obtain⟨b,hb,e⟩:=List.mem_filterMap.mp hp;cases q:h.get? b with
 |none=>rw[q]at e;cases e
 |some o =>
  rw[q]at e;have e':(b,o)=p:=aa e;subst e';exact⟨hb,q⟩
def Inv.pinned{pins:List (AD×Obj)}{σ:St}{H:Hp}{s:SD}{fp:List AD}(I:Inv X pins σ H s)(hf:∀b∈fp,L3 X pins H b)(ho:∀b∈fp,∃o,s.heap.get? b=some o∧∀v,o.data≠.cell v):Inv X (pins++Na fp s.heap) σ H s :=
 I.WM fun p hp=>(aX.mp hp).elim (fun z=>I.pin p (aS _ z)) fun z=>by
  obtain⟨hb,e⟩:=X2 z;obtain⟨f0,f1,f2,_⟩:=hf p.1 hb;obtain⟨o,e',d⟩:=ho p.1 hb;rw[e]at e';cases e';exact⟨e,f0,f1,f2,d⟩
def Inv.Mb{pins pl:List (AD×Obj)}{σ:St}{H:Hp}{s:SD}(I:Inv X (pins++pl) σ H s):Inv X pins σ H s:=I.WM fun p hp=>I.pin p (aS _ (bK _ hp))
def Qg{iter:Expr}{body:List Stmt}{wi:TI}{g:TG}{tb:TS}{pos:Pos}(hp:PassesOwn (model X.prog X.w) X.A X.env X.xe)(hc:X.calm=true)(hi:PI X tg iter wi)(hg:PG X tg g)(hb:LS X body tb)
 (hs:∀x,foldedSetIterable iter X.env x=pure x:=by intro _;rfl):PS X (.For tg iter body [] pos) (lB wi g tb):=by
 intro pins s σ H D I h;refine wpAny_For (CG (hi pins s σ H _ I h) fun v s1 h1=>CG h1 fun itv s2 h2=>?_) hs;obtain⟨it,fp,tn,J,H2,e,I2,T,st2,f2,W,⟨m0,w0⟩,turn⟩:=h2;subst e;have stat:∀ {H':Hp},(∀b∈fp,H' b=none)→∀b∈fp,L3 X pins H' b:=fun hn b hb=>⟨hn b hb,(f2 b hb).2⟩;refine codeAny_forLoop_any (fun n s'=>∃i σ' H',Inv X pins σ' H' s'∧tn i s'.heap∧(∀b∈fp,H' b=none)∧W i n σ' H') ?_ m0 ⟨0,σ,H2,I2,st2,fun b hb=>(f2 b hb).1,w0⟩;rintro n s3 ⟨i,σ3,H3,I3,st3,fr3,w3⟩;rcases turn i n σ3 H3 w3 with ⟨stop,qn⟩|⟨go,N,hN,step⟩
 ·refine wpAny_passesOwn hp (CG (T.done X rfl rfl rfl hc i pins s3 σ3 H3 X.xe I3 (stat fr3) st3 stop) fun r s4 ⟨hr,I4⟩=>?_);subst hr;exact wpAny_execs_nil ⟨σ3,H3,I4,qn⟩
 ·refine wpAny_passesOwn hp (CG (T.item X rfl rfl rfl hc i pins s3 σ3 H3 X.xe I3 (stat fr3) st3 go) fun r s4 ⟨u,hr,h4⟩=>?_);subst hr;refine wpAny_passesOwn hp (CG h4 fun _ s5 ⟨x,H5,I5,r5,y5,st5,fr5⟩=>?_);have I5':=I5.pinned (stat fr5) (T.obj _ _ st5);refine wpAny_passesOwn hp (CG (hg _ s5 σ3 H5 x u _ I5' r5 (step x H5 y5)) fun _ s6 ⟨σ6,H6,I6,q6⟩=>?_);refine wpAny_passesOwn hp (CG (hb _ s6 σ6 H6 _ I6 q6) fun f s7 q7=>?_);have again:∀ {σ7:St} {H7:Hp},Inv X (pins++Na fp s5.heap) σ7 H7 s7→N σ7 H7→∃m,m<n∧∃i σ' H',Inv X pins σ' H' s7∧tn i s7.heap∧(∀b∈fp,H' b=none)∧W i m σ' H':=fun {σ7 H7} I7 n7=>by
   obtain⟨m',hm,w7⟩:=hN σ7 H7 n7;refine⟨m',hm,i+1,σ7,H7,I7.Mb,T.keep _ _ _ st5 fun b hb o e=>(I7.pin (b,o) (aS _ (aS _ (KW hb e)))).1,fun b hb=>?_,w7⟩;obtain⟨o,e,d⟩:=T.obj _ _ st5 b hb;exact(I7.pin (b,o) (aS _ (aS _ (KW hb e)))).2.1
  cases f with
  |next=>obtain⟨σ7,H7,I7,n7⟩:=q7;exact again I7 n7
  |cont=>obtain⟨σ7,H7,I7,n7⟩:=q7;exact again I7 n7
  |brk=>obtain⟨σ7,H7,I7,q7⟩:=q7;exact⟨σ7,H7,I7.Mb,q7⟩
  |ret v=>obtain⟨x7,σ7,H7,I7,r7,q7⟩:=q7;exact⟨x7,σ7,H7,I7.Mb,r7,q7⟩
end
def Zc{K:Fg}{a:AD}{xs:List V}{g:TG}{tb:TS}{D:Ends}{σ:St}{H:Hp}(Pv:Nat→St→Hp→Prop)(h0:Pv 0 σ H)(hl:∀i σ H,i≤xs.length→Pv i σ H→Bo K H a xs)
 (hs:∀i x σ H,xs[i]? = some x→Pv i σ H→g x σ H fun σ2 H2=>tb {D with nx:=Pv (i+1),ct:=Pv (i+1),bk:=D.nx} σ2 H2)(hd:∀σ H,Pv xs.length σ H→D.nx σ H) :
  ∃W:Nat→Nat→St→Hp→Prop,(∃m,W 0 m σ H)∧∀i m σ H,W i m σ H →
   ((WS K a).stop i H∧D.nx σ H)∨((WS K a).go i H∧∃N:St→Hp→Prop,(∀σ' H',N σ' H'→∃m',m'<m∧W (i+1) m' σ' H')∧∀x H',(WS K a).GX i H x H'→g x σ H' fun σ2 H2=>tb {D with nx:=N,ct:=N,bk:=D.nx} σ2 H2):=by
 refine⟨fun i m σ H=>m=xs.length-i∧i≤xs.length∧Pv i σ H,⟨xs.length,by simp,Nat.zero_le _,h0⟩,?_⟩;rintro i m σ H ⟨rfl,hi,p⟩;have q:=hl i σ H hi p;by_cases hlt:i<xs.length
 ·refine .inr ⟨⟨xs,xs[i],q,by simp[hlt]⟩,Pv (i+1),fun σ' H' p'=>⟨xs.length-(i+1),by lia,rfl,hlt,p'⟩,fun x H' y=>?_⟩;obtain⟨e,y⟩:=y;subst e;exact hs i x σ _ (y xs q) p
 ·have e:i=xs.length:=by lia
  subst e;exact .inl ⟨⟨xs,q,Nat.le_refl _⟩,hd σ H p⟩
def Sg{lo:Int}{n:Nat}{g:TG}{tb:TS}{D:Ends}{σ:St}{H:Hp}(Pv:Nat→St→Hp→Prop)(h0:Pv 0 σ H)
 (hs:∀i σ H,i<n→Pv i σ H→g (.int (lo+i)) σ H fun σ2 H2=>tb {D with nx:=Pv (i+1),ct:=Pv (i+1),bk:=D.nx} σ2 H2)(hd:∀σ H,Pv n σ H→D.nx σ H) :
  ∃W:Nat→Nat→St→Hp→Prop,(∃m,W 0 m σ H)∧∀i m σ H,W i m σ H →
   ((Ss lo n).stop i H∧D.nx σ H)∨((Ss lo n).go i H∧∃N:St→Hp→Prop,(∀σ' H',N σ' H'→∃m',m'<m∧W (i+1) m' σ' H')∧∀x H',(Ss lo n).GX i H x H'→g x σ H' fun σ2 H2=>tb {D with nx:=N,ct:=N,bk:=D.nx} σ2 H2):=by
 refine⟨fun i m σ H=>m=n-i∧i≤n∧Pv i σ H,⟨n,by simp,Nat.zero_le _,h0⟩,?_⟩;rintro i m σ H ⟨rfl,hi,p⟩;by_cases hlt:i<n
 ·refine .inr ⟨hlt,Pv (i+1),fun σ' H' p'=>⟨n-(i+1),by lia,rfl,hlt,p'⟩,fun x H' y=>?_⟩;obtain⟨e,y⟩:=y;subst e y;exact hs i σ _ hlt p
 ·have e:i=n:=by lia
  subst e;exact .inl ⟨aG _,hd σ H p⟩
def Ua{c:TT}{tb:TS}{D:Ends}{σ:St}{H:Hp}(Pv:St→Hp→Prop)(μ:St→Hp→Nat)(h0:Pv σ H)
 (hs:∀σ H,Pv σ H→c σ H fun b H1=>if b=true then tb {D with nx:=fun σ' H'=>Pv σ' H'∧μ σ' H'<μ σ H,ct:=fun σ' H'=>Pv σ' H'∧μ σ' H'<μ σ H,bk:=D.nx} σ H1 else D.nx σ H1)
 (mono:∀σ H Q Q',(∀b H1,Q b H1→Q' b H1)→c σ H Q→c σ H Q'):YU c tb D σ H:=by
 refine⟨fun m σ H=>m=μ σ H∧Pv σ H,⟨_,rfl,h0⟩,?_⟩;rintro m σ H ⟨rfl,p⟩;refine mono σ H _ _ (fun b H1 q=>?_) (hs σ H p);cases b with
 |true=>exact⟨_,fun σ' H' ⟨p',l⟩=>⟨_,l,rfl,p'⟩,q⟩
 |false=>exact q
abbrev R2:=V→V→Hp→VK→Prop
def D0(X:Cx)(f:VL→VL→Sem VL)(r:R2):Prop :=
 ∀(pins:List (AD×Obj)) (s:SD) (σ:St) (H:Hp) (x y:V) (v u:VL) (Q:VK),Inv X pins σ H s→RelV x v→RelV y u→r x y H Q →
  wpAny (model X.prog X.w) X.A (f v u) (EP X pins σ Q) X.xe s
def fJ(X:Cx)(f:VL→Sem VL)(r:V→Hp→VK→Prop):Prop :=
 ∀(pins:List (AD×Obj)) (s:SD) (σ:St) (H:Hp) (x:V) (v:VL) (Q:VK),Inv X pins σ H s→RelV x v→r x H Q →
  wpAny (model X.prog X.w) X.A (f v) (EP X pins σ Q) X.xe s
def E6(X:Cx)(f:VL)(r:List V→Hp→VK→Prop):Prop :=
 ∀(pins:List (AD×Obj)) (s:SD) (σ:St) (H:Hp) (xs:List V) (us:List VL) (Q:VK),Inv X pins σ H s→Vals xs us→r xs H Q →
  wpAny (model X.prog X.w) X.A (call f us) (EP X pins σ Q) X.xe s
def cu(r:R2)(ta tb:TE):TE:=fun σ H Q=>ta σ H fun x H1=>tb σ H1 fun y H2=>r x y H2 Q
def mX(r:V→Hp→VK→Prop)(ta:TE):TE:=fun σ H Q=>ta σ H fun x H1=>r x H1 Q
def rI(C:Int→Int→Prop)(g:Int→Int→V):R2:=fun x y H Q=>∃i j,x=.int i∧y=.int j∧C i j∧Q (g i j) H
def SR(g:Int→Int→V):R2:=fun x y H Q=>∃i j,x=.int i∧y=.int j∧Q (g i j) H
def rU(g:Int→V):V→Hp→VK→Prop:=fun x H Q=>∃i,x=.int i∧Q (g i) H
section
variable{X:Cx}{a b:Expr}{ta tb:TE}{pos:Pos}
def ZJ(ha:PE X a ta)(hb:PE X b tb){pins:List (AD×Obj)}{s:SD}{σ:St}{H:Hp}{R:V→V→Hp→Prop}(I:Inv X pins σ H s)
 (h:ta σ H fun x H1=>tb σ H1 fun y H2=>R x y H2){Q:VL→SD→Prop}{f:VL→VL→Sem VL}
 (hf:∀v u s2 x y H2,Inv X pins σ H2 s2→RelV x v→RelV y u→R x y H2→wpAny (model X.prog X.w) X.A (f v u) Q X.xe s2) :
  wpAny (model X.prog X.w) X.A (eval a X.env) (fun v s₁=>wpAny (model X.prog X.w) X.A (eval b X.env) (fun u s₂=>wpAny (model X.prog X.w) X.A (f v u) Q X.xe s₂) X.xe s₁) X.xe s:=by
 refine CG (ha pins s σ H _ I h) fun v s1 ⟨x,H1,I1,r1,q1⟩=>?_;refine CG (hb pins s1 σ H1 _ I1 q1) fun u s2 ⟨y,H2,I2,r2,q2⟩=>?_;exact hf v u s2 x y H2 I2 r1 r2 q2
def BL{op:Operator}{r:R2}(ho:D0 X (binaryOp op) r)(ha:PE X a ta)(hb:PE X b tb):PE X (.BinOp a op b pos) (cu r ta tb):=by
 intro pins s σ H Q I h;exact wpAny_BinOp (ZJ ha hb I h fun v u s2 x y H2 I2 rx ry q=>ho pins s2 σ H2 x y v u Q I2 rx ry q)
def b5{op:UnaryOp}{r:V→Hp→VK→Prop}(ho:fJ X (unaryOp op) r)(ha:PE X a ta):PE X (.UnaryOp op a pos) (mX r ta):=by
 intro pins s σ H Q I h;exact UnaryOp_ (CG (ha pins s σ H _ I h) fun v s1 ⟨x,H1,I1,r1,q1⟩=>ho pins s1 σ H1 x v Q I1 r1 q1)
def V0{f:VL→VL→Sem VL}{C:Int→Int→Prop}{g:Int→Int→Int}
 (rule:∀(i j:Int) (t u:Tok) (s:SD) (Q:VL→SD→Prop) (E:VL→SD→Prop),C i j→Q (.int (g i j) s.toks) {s with toks:=s.toks+1}→wpAny (model X.prog X.w) X.A (f (.int i t) (.int j u)) Q E s) :
  D0 X f (rI C fun i j=>.int (g i j)):=by
 intro pins s σ H x y v u Q I rx ry h;obtain⟨i,j,rfl,rfl,hc,q⟩:=h;obtain⟨t,rfl⟩:=rx;obtain⟨t',rfl⟩:=ry;exact rule i j t t' s _ _ hc ⟨.int (g i j),H,I.tok _,⟨_,rfl⟩,q⟩
def gu{f:VL→VL→Sem VL}{g:Int→Int→Int}
 (rule:∀(i j:Int) (t u:Tok) (s:SD) (Q:VL→SD→Prop) (E:VL→SD→Prop),Q (.int (g i j) s.toks) {s with toks:=s.toks+1}→wpAny (model X.prog X.w) X.A (f (.int i t) (.int j u)) Q E s) :
  D0 X f (SR fun i j=>.int (g i j)):=by
 intro pins s σ H x y v u Q I rx ry h;obtain⟨i,j,rfl,rfl,q⟩:=h;obtain⟨t,rfl⟩:=rx;obtain⟨t',rfl⟩:=ry;exact rule i j t t' s _ _ ⟨.int (g i j),H,I.tok _,⟨_,rfl⟩,q⟩
def bh{f:VL→VL→Sem VL}{g:Int→Int→Bool}
 (rule:∀(i j:Int) (t u:Tok) (s:SD) (Q:VL→SD→Prop) (E:VL→SD→Prop),Q (.bool (g i j)) s→wpAny (model X.prog X.w) X.A (f (.int i t) (.int j u)) Q E s) :
  D0 X f (SR fun i j=>.bl (g i j)):=by
 intro pins s σ H x y v u Q I rx ry h;obtain⟨i,j,rfl,rfl,q⟩:=h;obtain⟨t,rfl⟩:=rx;obtain⟨t',rfl⟩:=ry;exact rule i j t t' s _ _ ⟨.bl (g i j),H,I,rfl,q⟩
def kd(i j:Int):Prop:=0<j∧j<1073741824
def lH(i j:Int):Prop:=0≤j∧j≤1000000∧i.natAbs<2^64
def Rp(i j:Int):Prop:=(-(2^64)<i∧i<2^64)∨(-(2^64)<j∧j<2^64)
def Rp.ok{i j:Int}(h:Rp i j):IntMulOk i j:=by
 rcases h with ⟨h1,h2⟩|⟨h1,h2⟩
 ·exact .of_left (intBits_le_64 h1 h2)
 ·exact .of_right (intBits_le_64 h1 h2)
def Fs:D0 X (binaryOp .Add) (SR fun i j=>.int (i+j)):=gu fun _ _ _ _ _ _ _ q=>add_int q
def Q7:D0 X (binaryOp .Sub) (SR fun i j=>.int (i-j)):=gu fun _ _ _ _ _ _ _ q=>sub_int q
def Kj:D0 X (binaryOp .FloorDiv) (rI kd fun i j=>.int (i / j)):=V0 fun i j _ _ _ _ _ hc q=>by
 have h1:(0:Int)<j:=hc.1;have h2:j<1073741824:=hc.2;exact floordiv_int (by lia) (by rw[Int.fdiv_eq_ediv_of_nonneg i (by lia)];exact q) (.inl (PyProof.noPylong_small (by lia)))
def Jk:D0 X (binaryOp .Mod) (rI (fun _ j=>0<j) fun i j=>.int (i % j)):=V0 fun i j _ _ _ _ _ hc q=>by
 have h1:(0:Int)<j:=hc;exact mod_int' (by lia) (by rw[Int.fmod_eq_emod_of_nonneg i (by lia)];exact q)
def JK:D0 X (binaryOp .Mod) (rI (fun _ j=>j≠0) fun i j=>.int (i.fmod j)):=V0 fun _ _ _ _ _ _ _ hc q=>mod_int' hc q
def Q0:D0 X (binaryOp .Pow) (rI lH fun i j=>.int (i^j.toNat)):=V0 fun _ _ _ _ _ _ _ hc q=>pow_int_small hc.1 hc.2.1 hc.2.2 q
def me{f:VL→Sem VL}{g:Int→Int}
 (rule:∀(i:Int) (t:Tok) (s:SD) (Q:VL→SD→Prop) (E:VL→SD→Prop),Q (.int (g i) s.toks) {s with toks:=s.toks+1}→wpAny (model X.prog X.w) X.A (f (.int i t)) Q E s) :
  fJ X f (rU fun i=>.int (g i)):=by
 intro pins s σ H x v Q I rx h;obtain⟨i,rfl,q⟩:=h;obtain⟨t,rfl⟩:=rx;exact rule i t s _ _ ⟨.int (g i),H,I.tok _,⟨_,rfl⟩,q⟩
def Yd:fJ X (unaryOp .USub) (rU fun i=>.int (-i)):=me fun _ _ _ _ _ q=>neg_int q
end
def gq:V→V→Bool
 |.CT,.CT=>true|.CT,.int _=>true|.int _,.CT=>true|.CT,.bl _=>true|.bl _,.CT=>true|.CT,.str _=>true|.str _,.CT=>true
 |.int _,.int _=>true|.bl _,.bl _=>true|.str _,.str _=>true|.Nn _,.Nn _=>true
 |.int _,.str _=>true|.str _,.int _=>true|.bl _,.str _=>true|.str _,.bl _=>true
 |_,_=>false
def mI:R2:=fun x y H Q=>gq x y=true∧Q (.bl (decide (x=y))) H
def mR:R2:=fun x y H Q=>gq x y=true∧Q (.bl (!decide (x=y))) H
def WI{i j:Int}:decide (V.int i=V.int j)=(i==j):=by
 rw[Bool.eq_iff_iff];simp
def YF{i j:Bool}:decide (V.bl i=V.bl j)=(i==j):=by
 rw[Bool.eq_iff_iff];simp
def WG{i j:Str}:decide (V.str i=V.str j)=(i==j):=by
 rw[Bool.eq_iff_iff];simp
def V5{i j:Array UInt8}:decide (V.Nn i=V.Nn j)=(i.toList==j.toList):=by
 rw[Bool.eq_iff_iff];cases i;cases j;simp
section
variable{X:Cx}{a b c:Expr}{ta tb:TE}{pos:Pos}
def CD{pins:List (AD×Obj)}{σ:St}{H:Hp}{s:SD}{Q:VK}{k k':Bool}(I:Inv X pins σ H s)(q:Q (.bl k) H)(e:k=k'):EP X pins σ Q (.bool k') s:=by
 subst e;exact⟨.bl k,H,I,rfl,q⟩
def QU:D0 X (compareOp .Eq) mI:=by
 intro pins s σ H x y v u Q I rx ry h;obtain⟨hs,q⟩:=h;cases x with
 |CT =>
  cases rx;cases y with
  |CT=>cases ry;exact PySem.EqNone.eq_none_none (CD I q (by simp))
  |bl j=>cases ry;exact PySem.EqNone.eq_none_bool (CD I q (by simp))
  |int j=>obtain⟨t',rfl⟩:=ry;exact PySem.EqNone.eq_none_int (CD I q (by simp))
  |str j=>obtain⟨t',rfl⟩:=ry;exact PySem.EqNone.eq_none_str (CD I q (by simp))
  |_=>exact absurd (show false=true from hs) aL
 |bl i =>
  cases rx;cases y with
  |CT=>cases ry;exact PySem.EqNone.eq_bool_none (CD I q (by simp))
  |bl j=>cases ry;exact eq_bool (CD I q YF)
  |str j=>obtain⟨t',rfl⟩:=ry;exact PySem.EqMixed.eq_bool_str (CD I q (by simp))
  |_=>exact absurd (show false=true from hs) aL
 |int i =>
  obtain⟨t,rfl⟩:=rx;cases y with
  |CT=>cases ry;exact PySem.EqNone.eq_int_none (CD I q (by simp))
  |int j=>obtain⟨t',rfl⟩:=ry;exact eq_int (CD I q WI)
  |str j=>obtain⟨t',rfl⟩:=ry;exact PySem.EqMixed.eq_int_str (CD I q (by simp))
  |_=>exact absurd (show false=true from hs) aL
 |str i =>
  obtain⟨t,rfl⟩:=rx;cases y with
  |CT=>cases ry;exact PySem.EqNone.eq_str_none (CD I q (by simp))
  |bl j=>cases ry;exact PySem.EqMixed.eq_str_bool (CD I q (by simp))
  |int j=>obtain⟨t',rfl⟩:=ry;exact PySem.EqMixed.eq_str_int (CD I q (by simp))
  |str j=>obtain⟨t',rfl⟩:=ry;exact eq_str (CD I q WG)
  |_=>exact absurd (show false=true from hs) aL
 |Nn i =>
  obtain⟨t,rfl⟩:=rx;cases y with
  |Nn j=>obtain⟨t',rfl⟩:=ry;exact PySem.W.eq_bytes (CD I q V5)
  |_=>exact absurd (show false=true from hs) aL
 |_=>cases y<;>exact absurd (show false=true from hs) aL
def W6:D0 X (compareOp .NotEq) mR:=by
 intro pins s σ H x y v u Q I rx ry h;obtain⟨hs,q⟩:=h;cases x with
 |CT =>
  cases rx;cases y with
  |CT=>cases ry;exact PySem.EqNone.ne_none_none (CD I q (by simp))
  |bl j=>cases ry;exact PySem.EqNone.ne_none_bool (CD I q (by simp))
  |int j=>obtain⟨t',rfl⟩:=ry;exact PySem.EqNone.ne_none_int (CD I q (by simp))
  |str j=>obtain⟨t',rfl⟩:=ry;exact PySem.EqNone.ne_none_str (CD I q (by simp))
  |_=>exact absurd (show false=true from hs) aL
 |bl i =>
  cases rx;cases y with
  |CT=>cases ry;exact PySem.EqNone.ne_bool_none (CD I q (by simp))
  |bl j=>cases ry;exact ne_bool (CD I q (aj not YF))
  |str j=>obtain⟨t',rfl⟩:=ry;exact PySem.EqMixed.ne_bool_str (CD I q (by simp))
  |_=>exact absurd (show false=true from hs) aL
 |int i =>
  obtain⟨t,rfl⟩:=rx;cases y with
  |CT=>cases ry;exact PySem.EqNone.ne_int_none (CD I q (by simp))
  |int j=>obtain⟨t',rfl⟩:=ry;exact ne_int (CD I q (aj not WI))
  |str j=>obtain⟨t',rfl⟩:=ry;exact PySem.EqMixed.ne_int_str (CD I q (by simp))
  |_=>exact absurd (show false=true from hs) aL
 |str i =>
  obtain⟨t,rfl⟩:=rx;cases y with
  |CT=>cases ry;exact PySem.EqNone.ne_str_none (CD I q (by simp))
  |bl j=>cases ry;exact PySem.EqMixed.ne_str_bool (CD I q (by simp))
  |int j=>obtain⟨t',rfl⟩:=ry;exact PySem.EqMixed.ne_str_int (CD I q (by simp))
  |str j=>obtain⟨t',rfl⟩:=ry;exact ne_str (CD I q (aj not WG))
  |_=>exact absurd (show false=true from hs) aL
 |Nn i =>
  obtain⟨t,rfl⟩:=rx;cases y with
  |Nn j=>obtain⟨t',rfl⟩:=ry;exact PySem.W.ne_bytes (CD I q (aj not V5))
  |_=>exact absurd (show false=true from hs) aL
 |_=>cases y<;>exact absurd (show false=true from hs) aL
def TN:D0 X (compareOp .Lt) (SR fun i j=>.bl (decide (i<j))):=bh fun _ _ _ _ _ _ _ q=>lt_int q
def cM:D0 X (compareOp .Gt) (SR fun i j=>.bl (decide (j<i))):=bh fun _ _ _ _ _ _ _ q=>gt_int q
def Xc:D0 X (compareOp .GtE) (SR fun i j=>.bl (decide (j≤i))):=bh fun _ _ _ _ _ _ _ q=>ge_int q
def jH:D0 X (compareOp .Is) (fun x y H Q=>y=.CT∧Q (.bl (decide (x=.CT))) H):=by
 intro pins s σ H x y v u Q I rx ry h;obtain⟨rfl,q⟩:=h;cases ry;refine is_none_gen (CD I q ?_);cases x<;>first
  |(cases rx;rfl)
  |(obtain⟨t,rfl⟩:=rx;rfl)
def D0.or{f:VL→VL→Sem VL}{r r':R2}(h:D0 X f r)(h':D0 X f r'):D0 X f (fun x y H Q=>r x y H Q∨r' x y H Q):=by
 intro pins s σ H x y v u Q I rx ry q;rcases q with q|q
 ·exact h pins s σ H x y v u Q I rx ry q
 ·exact h' pins s σ H x y v u Q I rx ry q
def Ag(b:Expr){op:CmpOp}(h:op≠.In:=by decide)(h2:op≠.NotIn:=by decide):behindInMarks op b=false:=by
 have e1:(op==CmpOp.In)=false:=by cases op<;>first|rfl|exact absurd rfl h
 have e2:(op==CmpOp.NotIn)=false:=by cases op<;>first|rfl|exact absurd rfl h2
 cases b<;>simp[behindInMarks,e1,e2]
def Rq{op:CmpOp}{r:R2}(ho:D0 X (compareOp op) r)(ha:PE X a ta)(hb:PE X b tb)(hm:behindInMarks op b=false):PE X (.Compare a [op] [b] pos) (cu r ta tb):=by
 intro pins s σ H Q I h;exact wpAny_Compare1 (ZJ ha hb I h fun v u s2 x y H2 I2 rx ry q=>ho pins s2 σ H2 x y v u Q I2 rx ry q) hm
def j8(t:TE):TT:=fun σ H Q=>t σ H fun x H'=>∃k,x=.bl k∧Q k H'
def Eu{op:CmpOp}{r:R2}(ho:D0 X (compareOp op) r)(ha:PE X a ta)(hb:PE X b tb)(hm:behindInMarks op b=false):PT X (.Compare a [op] [b] pos) (j8 (cu r ta tb)):=by
 intro pins s σ H Q I h;refine wpAny_isTrue_Compare1 (CG (ha pins s σ H _ I h) fun v s1 ⟨x,H1,I1,r1,q1⟩=>CG (hb pins s1 σ H1 _ I1 q1) fun u s2 ⟨y,H2,I2,r2,q2⟩ =>
  CG (ho pins s2 σ H2 x y v u _ I2 r1 r2 q2) fun c s3 ⟨z,H3,I3,r3,k,e,q3⟩=>?_) hm
 subst e;cases r3;exact wpAny_truthy_bool ⟨H3,I3,q3⟩
def Nc:(sizeLine:Nat)<2^63:=by rw[sizeLine_eq];decide
def Xg:D0 X (binaryOp .Add) (fun x y H Q=>∃i j,x=.str i∧y=.str j∧i.length+j.length≤sizeLine∧Q (.str (i++j)) H):=by
 intro pins s σ H x y v u Q I rx ry h;obtain⟨i,j,rfl,rfl,hz,q⟩:=h;obtain⟨t,rfl⟩:=rx;obtain⟨t',rfl⟩:=ry;exact add_str (fun t' tk=>⟨.str (i++j),H,I.tok _,⟨_,rfl⟩,q⟩) hz
def vals1{x:V}{us:List VL}(r:Vals [x] us):∃u,us=[u]∧RelV x u:=by
 cases r with
 |cons r1 r2=>cases r2;exact⟨_,rfl,r1⟩
def QB:E6 X (.builtin "abs") (fun xs H Q=>∃i,xs=[.int i]∧Q (.int (if i<0 then -i else i)) H):=by
 intro pins s σ H xs us Q I r h;obtain⟨i,rfl,q⟩:=h;obtain⟨u,rfl,t,rfl⟩:=vals1 r;exact call_abs_int fun u tk=>⟨.int (if i<0 then -i else i),H,I.tok _,⟨_,rfl⟩,q⟩
end
structure ZW(h:Heap)(x dx C:Addr)(mA:Str→Option Value):Prop where
 obj:h.get? x=some (PySem.W.instObj C dx)
 ns:h.Ns1 dx mA
 ne:dx≠x
def X4{h:Heap}{dx:AD}{mA:Str→Option VL}(n:h.Ns1 dx mA):∃od,h.get? dx=some od∧∀name,PySem.W.lookIn name od=some (mA name):=by
 obtain⟨o,es,ep,ho,hd,hk,_,hm⟩:=n;refine⟨o,ho,fun name=>?_⟩;have e:=hm name;unfold nsFind findBy at e;rw[←Array.find?_toList]at e;unfold PySem.W.lookIn;rw[hd];dsimp only;split
 ·rename_i y q;rw[q]at e;exact aj some e
 ·rename_i q;rw[q]at e;have a:es.toList.any (·.refKey)=false:=by
   rw[List.any_eq_false];intro y hy;obtain⟨z,t,hkey⟩:=hk y (Array.mem_toList_iff.mp hy);simp[DictEntry.refKey,hkey]
  have a':¬es.toList.any (·.refKey)=true:=by rw[a];exact aL
  rw[if_neg a'];exact aj some e
def ZW.look{h:Heap}{x dx C:AD}{mA:Str→Option VL}(I:ZW h x dx C mA):∃od,PySem.W.InstAt h x (PySem.W.instObj C dx) C (some od)∧∀name,PySem.W.lookIn name od=some (mA name) :=
 let⟨od,ho,hl⟩:=X4 I.ns
 ⟨od,⟨I.obj,rfl,rfl,ho⟩,hl⟩
section
variable{P:Program}{w:World}{H:Hp}{h:Heap}{a C dx:AD}{fs:List (Str×V)}
def dP(Bj:GA P w H h)(e:H a=some (.ins C dx fs)):∃mA,ZW h a dx C mA∧(∀f,Zo (fs.lookup f) (mA f))∧PySem.Within mA (fs.map (·.1))∧fs.length≤1000∧H dx=some (.own a):=by
 obtain⟨d,z,ne,ob,mA,n,r,q⟩:=(show EF P w H h a (.ins C dx fs) from Bj a _ e);exact⟨mA,⟨ob,n,ne⟩,r,q,z,d⟩
end
structure iE(K:Fg)(C:Addr):Prop where
 pg:PySem.W.plainGet K C Str.empty=true
 hd:PySem.W.hasDictIn K C=true
 po:PySem.W.plainOver K C=true
 sa:PySem.W.findIn K (.ref C) "__setattr__" = some (some (.builtin "object.__setattr__"))
def iE.get{K:Fg}{C:AD}(c:iE K C)(f:Str):PySem.W.plainGet K C f=true:=c.pg
section
variable{X:Cx}{pins:List (AD×Obj)}{σ:St}{H:Hp}{s:SD}{A:Around}{E:VL→SD→Prop}{Q:VL→SD→Prop}{c:VL}{b:Bool}
inductive IB(K:Fg)(H:Hp):V→Value→Prop where
 |CT:IB K H .CT (.type "NoneType")
 |bl (x:Bool):IB K H (.bl x) (.type "bool")
 |int (i:Int):IB K H (.int i) (.type "int")
 |str (x:Str):IB K H (.str x) (.type "str")
 |WH (x:UInt64):IB K H (.WH x) (.type "float")
 |lst {a:Addr} {xs:List V} (e:H a=some (.lst xs)):IB K H (.ref a) (.type "list")
 |Hf {a:Addr} {o:Obj} {xs:List V} (e:H a=some (.Hf o (.lst xs))):IB K H (.ref a) (.type "list")
 |tup {a:Addr} {xs:List V} (e:H a=some (.tup xs)):IB K H (.ref a) (.type "tuple")
 |dK {a:Addr} {kvs:List (Key×V)} (e:H a=some (.dK kvs)):IB K H (.ref a) (.type "dict")
 |dT {a:Addr} {kvs:List (List Key×V)} (e:H a=some (.dT kvs)):IB K H (.ref a) (.type "dict")
 |ins {a C dx:Addr} {fs:List (Str×V)} (e:H a=some (.ins C dx fs)) (cl:iE K C) (ha:PySem.W.findIn K (.ref C) "__class__" = some (some (.builtin "object.__class__")))
   (hn:PySem.W.specialIn K (.builtin "object.__class__") "__get__" = some (some (.builtin "getset_descriptor.__get__"))) (htk:PySem.W.takesIn K (.builtin "object.__class__")=some true)
   (hm:PySem.W.mroIn K C (.type "object")=some true):IB K H (.ref a) (.ref C)
def Xv{x:V}{u t:VL}(I:Inv X pins σ H s)(rx:RelV x u)(ty:IB X.K H x t)(e:PySem.W.kitOne X.K t c=some b)(h:∀tk,Q (.bool b) {s with toks:=tk}) :
  wpAny (model X.prog X.w) A (call (.builtin "isinstance") [u,c]) Q E s:=by
 cases ty with
 |CT=>cases (show u=Value.none from rx);exact az PySem.W.kitx_none I.Jj True.intro e (fun z=>nomatch z) h
 |bl y=>cases (show u=Value.bool y from rx);exact az PySem.W.kitx_bool I.Jj True.intro e (fun z=>nomatch z) h
 |int i=>obtain⟨t,q⟩:=(show ∃t,u=Value.int i t from rx);cases q;exact az PySem.W.kitx_int I.Jj True.intro e (fun z=>nomatch z) h
 |str y=>obtain⟨t,q⟩:=(show ∃t,u=Value.str y t from rx);cases q;exact az PySem.W.kitx_str I.Jj True.intro e (fun z=>nomatch z) h
 |WH y=>obtain⟨t,q⟩:=(show ∃t,u=Value.float y t from rx);cases q;exact az PySem.W.kitx_float I.Jj True.intro e (fun z=>nomatch z) h
 | @lst a xs ea =>
  cases (show u=Value.ref a from rx);obtain⟨_,_,n,_,h1⟩:=(show EF X.prog X.w H s.heap a (.lst xs) from I.Bj a _ ea);exact az PySem.W.kitx_list I.Jj ⟨_,h1,rfl⟩ e (fun z=>nomatch z) h
 | @Hf a ob xs ea =>
  cases (show u=Value.ref a from rx);obtain⟨_,_,_,n,_,h1⟩:=(show EF X.prog X.w H s.heap a (.Hf ob (.lst xs)) from I.Bj a _ ea);exact az PySem.W.kitx_list I.Jj ⟨_,h1,rfl⟩ e (fun z=>nomatch z) h
 | @tup a xs ea =>
  cases (show u=Value.ref a from rx);obtain⟨_,_,_,p⟩:=(show EF X.prog X.w H s.heap a (.tup xs) from I.Bj a _ ea);obtain⟨o,h1,h2,_⟩:=p;exact az PySem.W.kitx_tuple I.Jj ⟨o,h1,h2⟩ e (fun z=>nomatch z) h
 | @dK a kvs ea =>
  cases (show u=Value.ref a from rx);obtain⟨_,_,vs,_,p⟩:=(show EF X.prog X.w H s.heap a (.dK kvs) from I.Bj a _ ea);obtain⟨o,es,ep,h1,h2,_⟩:=p;exact az PySem.W.kitx_dict I.Jj ⟨o,h1,h2.1⟩ e (fun z=>nomatch z) h
 | @dT a kvs ea =>
  cases (show u=Value.ref a from rx);obtain⟨_,_,xs,_,o,es,ep,h1,h2,_⟩:=(show EF X.prog X.w H s.heap a (.dT kvs) from I.Bj a _ ea);exact az PySem.W.kitx_dict I.Jj ⟨o,h1,h2.1⟩ e (fun z=>nomatch z) h
 | @ins a C dx fs ea cl ha hn htk hm =>
  cases (show u=Value.ref a from rx);obtain⟨mA,O,_⟩:=dP I.Bj ea;obtain⟨od,J,_⟩:=O.look;exact az (PySem.W.kitx_own (cl.get _) cl.hd ha hn htk hm) I.Jj J e (fun z=>nomatch z) h
end
structure Fc(k:Nat)(A:Around):Prop where
 hd:A.handled=none
 dp:A.depth+3*k+5<recursionLimit
 un:A.units+16*k+200<cLine
def Fc.mono{j k:Nat}{A:Around}(r:Fc k A)(h:j≤k:=by decide):Fc j A:=⟨r.hd,by have:=r.dp;lia,by have:=r.un;lia⟩
def Fc.deeper{k:Nat}{A:Around}(r:Fc (k+1) A)(env:Env):Fc k (A.deeper env) :=
 ⟨r.hd,by have:=r.dp;show A.depth+1+3*k+5<_;lia,by have:=r.un;show A.units+3+16*k+200<_;lia⟩
def Fc.depth{k:Nat}{A:Around}(r:Fc k A):A.depth<recursionLimit:=by have:=r.dp;lia
def Fc.units{k:Nat}{A:Around}(r:Fc k A):A.units+64<cLine:=by have:=r.un;lia
def ku:TA:=fun _ H Q=>Q [] H
def jT(ta:TE)(tr:TA):TA:=fun σ H Q=>ta σ H fun x H1=>tr σ H1 fun xs H2=>Q (x::xs) H2
section
variable{X:Cx}{e:Expr}{es:List Expr}{te:TE}{t:TA}{pos:Pos}
def BE:PA X [] ku:=fun _ _ _ _ H Q I h=>Calls.spliced_nil ⟨[],H,I,.nil,h⟩
def Ad(ha:PE X e te)(hr:PA X es t)(hs:starEach (e::es) X.env=(false,eval e X.env)::starEach es X.env:=by rfl):PA X (e::es) (jT te t):=by
 intro pos pins s σ H Q I h;rw[hs];show wpAny _ _ (spliced ((false,eval e X.env)::backTo pos (starEach es X.env))) _ _ s;refine Calls.spliced_cons (CG (ha pins s σ H _ I h) fun u s1 ⟨x,H1,I1,r1,q1⟩=>?_);exact CG (hr pos pins s1 σ H1 _ I1 q1) fun us s2 ⟨xs,H2,I2,r2,q2⟩=>⟨x::xs,H2,I2,.cons r1 r2,q2⟩
def lG(t:TA):TE:=fun σ H Q=>t σ H fun xs H1=>xs.length≤sizeLine∧∀p,H1 p=none→Q (.ref p) (upd H1 p (.tup xs))
def ko(t:TA):TE:=fun σ H Q=>t σ H fun xs H1=>xs.length≤sizeLine∧∀p,H1 p=none→Q (.ref p) (upd H1 p (.lst xs))
def Qk{x1}(h:PA X es t):PE X (.Tuple es x1 pos) (lG t):=by
 intro pins s σ H Q I hq;refine wpAny_Tuple_spliced (CG (h pos pins s σ H _ I hq) fun us s1 ⟨xs,H1,I1,r,z,q⟩=>⟨by rw[←r.length];exact z,?_⟩);have hf:H1 s1.heap.objs.size=none:=I1.Bj.fresh (aG _);refine⟨.ref s1.heap.objs.size,upd H1 s1.heap.objs.size (.tup xs),I1.laid (t':=s1.toks) (fun b u e=>aD _ e) (aG _) ?_,rfl,q _ hf⟩;exact⟨z,us,r,⟨_,Heap.get?_push_size _ rfl,rfl,_,rfl⟩⟩
def MZ(h:PA X es t):PE X (.List es pos) (ko t):=by
 intro pins s σ H Q I hq;refine wpAny_List_spliced (CG (h pos pins s σ H _ I hq) fun us s1 ⟨xs,H1,I1,r,z,q⟩=>⟨by rw[←r.length];exact z,?_⟩);have hf:H1 s1.heap.objs.size=none:=I1.Bj.fresh (aG _);refine⟨.ref s1.heap.objs.size,upd H1 s1.heap.objs.size (.lst xs),I1.laid (t':=s1.toks) (fun b u e=>aD _ e) (aG _) ?_,rfl,q _ hf⟩;exact⟨z,us,0,r,Heap.get?_push_size _ rfl⟩
end
abbrev Sp:=List V→Hp→VK→XK→Prop
abbrev JE:=List Env→Hp→SD→XK→VL→SD→Prop
structure Wq(P:Program)(w:World)(K:Fg)(mg:Str→Option Value)(base:Heap)(A:Around)(outer:List Env)(s:Shared)(H:Hp):Prop where
 frames:A.frames=some outer
 mod:Mod K mg base
 bs:∀b o,base.get? b=some o→s.heap.get? b=some o∧H b=none
 SQ:base.objs.size≤s.heap.objs.size
 Kp:s.heap.FunFrames base outer
 WW:∀b∈NG outer,H b=none
 Bj:GA P w H s.heap
 bare:AllBare s.gens
def CE(outer:List Env)(P:Program)(w:World)(H:Hp)(s:SD)(Q:VK)(u:VL)(s':SD):Prop :=
 ∃v H',s'.os=s.os∧AllBare s'.gens∧Un (NG outer) [] H H' s.heap s'.heap∧GA P w H' s'.heap∧RelV v u∧Q v H'
def CR(CX:JE)(outer:List Env)(P:Program)(w:World)(H:Hp)(s:SD)(Q:VK)(E:XK)(r:Result)(s':SD):Prop :=
 match r with
 |.ok (.ret u)=>CE outer P w H s Q u s'
 |.ok _=>False
 |.error e=>CX outer H s E e s'
structure AV(P:Program)(w:World)(K:Fg)(mg:Str→Option Value)(base:Heap)(CX:JE)(k:Nat)(f:Addr)(fd:FuncData)(ps:List Str)(sp:Sp):Prop where
 len:∀vs H Q E,sp vs H Q E→vs.length=ps.length
 run:∀(A:Around) (outer:List Env) (s:Shared) (H:Hp) (args:Args) (us:List Value) (vs:List V) (Q:VK) (E:XK),Fc k A→Wq P w K mg base A outer s H→BindsTo s fd args (ps.zip us)→Vals vs us→sp vs H Q E →
  codeAny (model P w) A (.call (.ref f) args) (CR CX outer P w H s Q E) s
def AV.mono{P:Program}{w:World}{K:Fg}{mg:Str→Option VL}{base:Heap}{CX:JE}{j k:Nat}{f:AD}{fd:FuncData}{ps:List Str}{sp:Sp}(F:AV P w K mg base CX j f fd ps sp)(h:j≤k:=by decide) :
  AV P w K mg base CX k f fd ps sp:=⟨F.len,fun A outer s H args us vs Q E hr=>F.run A outer s H args us vs Q E (hr.mono h)⟩
def AV.imp{P:Program}{w:World}{K:Fg}{mg:Str→Option VL}{base:Heap}{CX:JE}{k:Nat}{f:AD}{fd:FuncData}{ps:List Str}{sp sp':Sp}(F:AV P w K mg base CX k f fd ps sp)
 (h:∀vs H Q E,sp' vs H Q E→sp vs H Q E):AV P w K mg base CX k f fd ps sp' :=
 ⟨fun vs H Q E q=>F.len vs H Q E (h _ _ _ _ q),fun A outer s H args us vs Q E hr he hb hv hs=>F.run A outer s H args us vs Q E hr he hb hv (h _ _ _ _ hs)⟩
section
variable{X:Cx}{pins:List (AD×Obj)}{σ:St}{H:Hp}{s s':SD}
def Inv.lR(I:Inv X pins σ H s):Wq X.prog X.w X.K X.mg X.base X.A X.stack s H :=
 ⟨I.ok.frames,I.ok.mod,I.bs,Nat.le_trans I.ok.SQ I.sz,I.stack,I.WZ,I.Bj,I.bare⟩
def Inv.after{Q:VK}{u:VL}(I:Inv X pins σ H s)(h:CE X.stack X.prog X.w H s Q u s'):EP X pins σ Q u s':=by
 obtain⟨v,H',os,bare,un,Bj,r,q⟩:=h;obtain⟨hh,g,d,t,os'⟩:=s';obtain rfl:os'=s.os:=os;exact⟨v,H',I.call (h':=hh) (g':=g) (d':=d) (t':=t) (ch:=[]) un Bj bare (fun b z=>absurd z (by simp)),r,q⟩
end
def cX(sp:Sp)(dvs:List V)(E:XK)(t:TA):TE:=fun σ H Q=>t σ H fun vs H1=>sp (vs++dvs) H1 Q E
def Binds(K:Fg)(fd:FuncData)(ps:List Str)(ds:List VL):Prop :=
 ∀(s:SD) (us:List VL),K.In s.heap→(us++ds).length=ps.length→BindsTo s fd ⟨us,[]⟩ (ps.zip (us++ds))
def Binds.all{K:Fg}{fd:FuncData}{ps:List Str}(h:∀us:List VL,us.length=ps.length→bindArgs fd ⟨us,[]⟩=pure (ps.zip us)):Binds K fd ps []:=fun s us _ hl=>by
 rw[List.append_nil]at hl ⊢;exact .of_eq (h us hl)
def Passes(CX:JE)(X:Cx)(E:XK):Prop:=∀(pins:List (AD×Obj)) (σ:St) (H:Hp) (s:SD) (e:VL) (s':SD),Inv X pins σ H s→CX X.stack H s E e s'→X.xe e s'
section
variable{X:Cx}{CX:JE}{k:Nat}{f:AD}{fd:FuncData}{ps:List Str}{sp:Sp}{dvs:List V}{ds:List VL}{E:XK}{x:Str}{p pos:Pos}{e:Expr}{es:List Expr}{t:TA}
def i4{pins:List (AD×Obj)}{σ:St}{H:Hp}{s:SD}{Q:VK}{us:List VL}{vs:List V}(F:AV X.prog X.w X.K X.mg X.base CX k f fd ps sp)(hr:Fc k X.A)(hb:Binds X.K fd ps ds)(hd:Vals dvs ds)(hx:Passes CX X E)
 (I:Inv X pins σ H s)(r:Vals vs us)(h:sp (vs++dvs) H Q E):wpAny (model X.prog X.w) X.A (call (.ref f) us) (EP X pins σ Q) X.xe s:=by
 have r2:Vals (vs++dvs) (us++ds):=r.append hd;have hl:(us++ds).length=ps.length:=by rw[←r2.length];exact F.len _ _ _ _ h
 refine wpAny_call (codeAny_mono (F.run X.A X.stack s H ⟨us,[]⟩ (us++ds) (vs++dvs) Q E hr I.lR (hb s us I.Jj hl) r2 h) fun r s' hq=>?_);cases r with
 |error e=>exact hx pins σ H s e s' I hq
 |ok fl =>
  cases fl with
  |ret u=>exact I.after hq
  |next=>exact False.elim hq
  |brk=>exact False.elim hq
  |cont=>exact False.elim hq
def eE(F:AV X.prog X.w X.K X.mg X.base CX k f fd ps sp)(hr:Fc k X.A)(hg:Gl X x)(hm:X.mg x=some (.ref f))(hk:PySem.W.keepIn X.K (.ref f)=true)(hb:Binds X.K fd ps ds)(hd:Vals dvs ds)(hx:Passes CX X E)
 (ha:PA X (e::es) t)(hdb:(x==("__debug__" : Str))=false:=by decide)(he:starEach (e::es) X.env=(false,eval e X.env)::starEach es X.env:=by rfl)(hpl:(backTo pos (starEach es X.env)).any (·.1)=false:=by rfl) :
  PE X (.Call (.Name x p) (e::es) [] pos) (cX sp dvs E t):=by
 intro pins s σ H Q I h;refine wpAny_Call_Name_kw (V6 I hg hm ?_ hdb);refine PySem.W.callWith_K (h₀:=X.base) I.ok.mod.iT hk (CG (ha pos pins s σ H _ I h) fun us s1 ⟨vs,H1,I1,r,q⟩=>⟨I1.Jj,?_⟩) he hpl;exact i4 F hr hb hd hx I1 r q
end
structure Av(N P:List Str)(sc:Scope):Prop where
 kind:sc.kind=.function
 co:sc.isCoroutine=false
 gen:sc.isGenerator=false
 nd:N.Nodup
 pre:N.take P.length=P
 par:∀x∈P,sc.names.lookup x=some .local∨sc.names.lookup x=some .cell
 fW:∀y∈sc.names,y.2≠.free
def Ct{N P:List Str}{sc:Scope}(a:sc.kind=.function:=by rfl)(b:sc.isCoroutine=false:=by rfl)(c:sc.isGenerator=false:=by rfl)(d:N.Nodup:=by decide +kernel)(e:N.take P.length=P:=by rfl)(f:∀x ∈ P, sc.names.lookup x=some .local ∨ sc.names.lookup x=some .cell:=by decide +kernel)(g:∀y ∈ sc.names, y.2 ≠ .free:=by decide +kernel):Av N P sc:=⟨a, b, c, d, e, f, g⟩
def So{kindOf:Str→Option NameKind}{x:Str}:∀ {binds:List (Str×VL)} {m:Str→Option VL},(∀v,(x,v) ∉ binds)→bindL kindOf binds m x=m x
 |[],_,_=>rfl
 |(n,v)::r,m,h=>by
  unfold bindL;rw[So fun w hw=>h w (aR _ hw)];split
  ·have:x≠n:=by rintro rfl;exact h v aT
   simp[this]
  ·rfl
def SU{kindOf:Str→Option NameKind}{x:Str}:∀ {binds:List (Str×VL)} {m:Str→Option VL},(∀v,(x,v) ∉ binds)→bindC kindOf binds m x=m x
 |[],_,_=>rfl
 |(n,v)::r,m,h=>by
  unfold bindC;rw[SU fun w hw=>h w (aR _ hw)];split
  ·rfl
  ·have:x≠n:=by rintro rfl;exact h v aT
   simp[this]
def SV{kindOf:Str→Option NameKind}{x:Str}{v:VL}:∀ {P:List Str} {vs:List VL} {i:Nat} {m:Str→Option VL},P.Nodup→P[i]? = some x→vs[i]? = some v→kindOf x=some .local →
  bindL kindOf (P.zip vs) m x=some v
 |[],_,_,_,_,h,_,_=>by simp at h
 |_::_,[],_,_,_,_,h,_=>by simp at h
 |p::P,w::vs,0,m,nd,h1,h2,hk=>by
  simp at h1 h2;subst h1;subst h2;show bindL kindOf ((p,w)::P.zip vs) m p=_;unfold bindL;rw[So fun v hv=>(List.nodup_cons.mp nd).1 (List.of_mem_zip hv).1,if_pos hk];simp
 |p::P,w::vs,i+1,m,nd,h1,h2,hk=>by
  show bindL kindOf ((p,w)::P.zip vs) m x=_;unfold bindL;exact SV (i:=i) (List.nodup_cons.mp nd).2 (by simpa using h1) (by simpa using h2) hk
def Sb{kindOf:Str→Option NameKind}{x:Str}{v:VL}:∀ {P:List Str} {vs:List VL} {i:Nat} {m:Str→Option VL},P.Nodup→P[i]? = some x→vs[i]? = some v→kindOf x≠some .local →
  bindC kindOf (P.zip vs) m x=some v
 |[],_,_,_,_,h,_,_=>by simp at h
 |_::_,[],_,_,_,_,h,_=>by simp at h
 |p::P,w::vs,0,m,nd,h1,h2,hk=>by
  simp at h1 h2;subst h1;subst h2;show bindC kindOf ((p,w)::P.zip vs) m p=_;unfold bindC;rw[SU fun v hv=>(List.nodup_cons.mp nd).1 (List.of_mem_zip hv).1,if_neg hk];simp
 |p::P,w::vs,i+1,m,nd,h1,h2,hk=>by
  show bindC kindOf ((p,w)::P.zip vs) m x=_;unfold bindC;exact Sb (i:=i) (List.nodup_cons.mp nd).2 (by simpa using h1) (by simpa using h2) hk
def start(N:List Str)(vs:List V):St:=vs.map some++List.replicate (N.length-vs.length) none
def Nv(CX:JE)(P:Program)(w:World)(K:Fg)(mg:Str→Option VL)(base:Heap)(N:List Str)(qual:Str)(scope:Scope)(f:AD)(cd:VL)(A:Around)(outer:List Env)(s:SD)(H:Hp)(E:XK):Cx where
 prog:=P
 w:=w
 K:=K
 mg:=mg
 base:=base
 A:=A.deeper (envOfC qual scope s.heap.objs.size f cd)
 N:=N
 s₀:=s
 H₀:=H
 env:=envOfC qual scope s.heap.objs.size f cd
 outer:=outer
 stack:=envOfC qual scope s.heap.objs.size f cd::outer
 ex:=[]
 calm:=true
 fn:=fun _=>true
 pn:=[]
 xe:=fun e s'=>wpAny (model P w) (A.deeper (envOfC qual scope s.heap.objs.size f cd)) (leaving (envOfC qual scope s.heap.objs.size f cd) e) (fun _ s''=>CX outer H s E e s'') (fun e' s''=>CX outer H s E e' s'') s'
def Uv{sc:Scope}{n:Nat}{x:Str}(h:sc.names.lookup x=some .cell):∃c,(cellsFrom n sc.names []).lookup x=some c:=by
 have q:=PySem.W.cellsFrom_some sc.names n [] (.inl h);exact Option.isSome_iff_exists.mp q
def X9{CX:JE}{P:Program}{w:World}{K:Fg}{mg:Str→Option VL}{base:Heap}{N ps:List Str}{qual:Str}{scope:Scope}{f:AD}{cd:VL}{A:Around}{outer:List Env}{s s1:SD}{H:Hp}{E:XK}{us:List VL}{vs:List V}
 (S:Av N ps scope)(hd:A.handled=none)(e0:Wq P w K mg base A outer s H)(hl:vs.length=ps.length)(r:Vals vs us)
 (x:InCallC s s.heap.objs.size (bindL (envOfC qual scope s.heap.objs.size f cd).kindOf (ps.zip us) fun _=>none) (cellsFrom (s.heap.objs.size+1) scope.names []) (bindC (envOfC qual scope s.heap.objs.size f cd).kindOf (ps.zip us) fun _=>none) s1) :
  Inv (Nv CX P w K mg base N qual scope f cd A outer s H E) [] (start N vs) H s1:=by
 have hpl:ps.length≤N.length:=by have:=aj List.length S.pre;rw[List.length_take]at this;lia
 obtain⟨h1,tk,rfl,hk⟩:=x.done;have noA:∀b:AD,b ∉ (Nv CX P w K mg base N qual scope f cd A outer s H E).ex:=fun b z=>absurd (show b∈([]:List AD) from z) (by simp);refine⟨⟨e0.mod,S.kind,rfl,rfl,Nat.le_refl _,fun y z c h1 h2=>?_,fun y hy=>?_,fun y c _ h=>?_,fun _=>hd,Around.frames_deeper e0.frames,.inr ⟨rfl,rfl⟩,fun b z=>absurd z (noA b),e0.bs,e0.SQ,fun b _ _=>noA b,fun b z=>absurd z (noA b),e0.Kp,e0.WW⟩,
  rfl,e0.bare,Un.kept hk,⟨_,x.toInCall.ns,fun i y v h1 h2 h3=>?_⟩,fun y c h=>⟨_,x.cell y c h⟩,e0.Bj.fresh (aG _),fun y c h=>?_,fun p hp=>absurd (show p∈([]:List (AD×Obj)) from hp) (by simp),e0.Bj.kept hk,?_⟩
 ·exact name_of_addr x.apart (PySem.mem_of_lookup h1) (PySem.mem_of_lookup h2)
 ·have hy:scope.names.lookup y=some .cell∨scope.names.lookup y=some .free:=hy;rcases hy with hy|hy
  ·exact Uv hy
  ·exact absurd rfl (S.fW _ (PySem.mem_of_lookup hy))
 ·exact Nat.le_of_lt (x.above y c (PySem.mem_of_lookup h))
 ·have hi:i<vs.length:=by
   unfold start at h2;by_cases hi:i<vs.length
   ·exact hi
   ·rw[List.getElem?_append_right (by simpa using hi)]at h2;rw[List.getElem?_replicate]at h2;split at h2<;>cases h2
  have ha:vs[i]? = some v:=by
   unfold start at h2;rw[List.getElem?_append_left (by simpa using hi),List.getElem?_map]at h2;cases e:vs[i]? with
   |none=>rw[e]at h2;cases h2
   |some a=>rw[e]at h2;cases h2;rfl
  obtain⟨u,hu,rv⟩:=r.get ha;have hp:ps[i]? = some y:=by
   rw[←S.pre,List.getElem?_take_of_lt (by lia)];exact h1
  have ndP:ps.Nodup:=by rw[←S.pre];exact S.nd.sublist (List.take_sublist _ _)
  refine⟨u,rv,?_⟩;rcases S.par y (aH hp) with k|k
  ·exact .inl ⟨k,SV ndP hp hu k⟩
  ·obtain⟨c,e⟩:=Uv (n:=s.heap.objs.size+1) k;refine .inr ⟨.inl k,c,e,?_⟩;have q:=x.cell y c e;rw[Sb ndP hp hu (by show scope.names.lookup y≠_;rw[k];decide)]at q;exact q
 ·exact e0.Bj.fresh (Nat.le_of_lt (x.above y c (PySem.mem_of_lookup h)))
 ·unfold start;show _=N.length;rw[List.length_append,List.length_map,List.length_replicate]
  lia
def jQ{CX:JE}{P:Program}{w:World}{K:Fg}{mg:Str→Option VL}{base:Heap}{k:Nat}{f:AD}{name qual:Str}{params:Arguments}{body:List Stmt}{scope:Scope}{dV kV doc pm cdv ct oc:VL}{an od:Option AD}
 {osl:Array (Option VL)}{N ps:List Str}{sp:Sp}(lk:K.lookup f=some ⟨oc,od,.func (PySem.W.fnOf name qual params body scope dV kV doc pm an cdv ct),osl⟩)(hcd:PySem.W.codeIn K cdv qual=true)(S:Av N ps scope)
 (len:∀vs H Q E,sp vs H Q E→vs.length=ps.length)
 (hbody:∀(A:Around) (outer:List Env) (s:SD) (H:Hp) (vs:List V) (Q:VK) (E:XK),Fc k (A.deeper (envOfC qual scope s.heap.objs.size f cdv))→sp vs H Q E →
   ∃t,LS (Nv CX P w K mg base N qual scope f cdv A outer s H E) body t∧t { nx:=fun _ H'=>Q .CT H',rt:=Q} (start N vs) H) :
  AV P w K mg base CX (k+1) f (PySem.W.fnOf name qual params body scope dV kV doc pm an cdv ct) ps sp:=by
 refine⟨len,fun A outer s H args us vs Q E hr e0 hb r hsp=>?_⟩;have hl:=len _ _ _ _ hsp;have KX:K.In s.heap:=e0.mod.iT.keeps fun b o e=>(e0.bs b o e).1;have lim:s.heap.NoLimit:=e0.mod.nolimit.keeps fun b o e=>(e0.bs b o e).1;have hkind:∀y∈ps.zip us,scope.names.lookup y.1=some .local∨(scope.names.lookup y.1=some .cell∧((cellsFrom (s.heap.objs.size+1) scope.names []).lookup y.1).isSome=true):=fun⟨n,v⟩ hy=>by
  rcases S.par n (List.of_mem_zip hy).1 with q|q
  ·exact .inl q
  ·exact .inr ⟨q,PySem.W.cellsFrom_some _ _ _ (.inl q)⟩
 refine codeAny_call_function hr.depth (KX _ _ lk) rfl S.co S.gen rfl (PySem.W.codeRec_of KX hcd) (hb _ _ _ _ ?_);refine wpAny_newFunctionEnv_cells S.kind hkind fun env he s1 x=>?_;subst he;refine⟨lim.keeps x.toInCall.keep,codeAny_func ?_⟩;obtain⟨t,ht,hq⟩:=hbody A outer s H vs Q E (hr.deeper _) hsp;have I:Inv (Nv CX P w K mg base N qual scope f cdv A outer s H E) [] (start N vs) H s1:=X9 S hr.hd e0 hl r x;refine ah (ht [] s1 (start N vs) H _ I hq) (fun fl s' hs=>?_) fun e s' hs=>hs;have fin:∀ {σ':St} {H':Hp} {v:V} {u:VL},Inv (Nv CX P w K mg base N qual scope f cdv A outer s H E) [] σ' H' s'→RelV v u→Q v H'→CE outer P w H s Q u s' :=
  fun {σ' H' v u} J rv q=>⟨v,H',J.os,J.bare,J.base,J.Bj,rv,q⟩
 cases fl with
 |ret u =>
  obtain⟨v,σ',H',J,rv,q⟩:=hs;exact fin J rv q
 |next =>
  obtain⟨σ',H',J,q⟩:=hs;exact fin (v:=V.CT) (u:=Value.none) J rfl q
 |brk =>
  obtain⟨_,_,_,q⟩:=hs;exact False.elim q
 |cont =>
  obtain⟨_,_,_,q⟩:=hs;exact False.elim q
section
variable{X:Cx}{x:Str}{p pos:Pos}{e:Expr}{es:List Expr}{t:TA}{id T:String}{r:List V→Hp→VK→Prop}
def kX(r:List V→Hp→VK→Prop)(t:TA):TE:=fun σ H Q=>t σ H fun vs H1=>r vs H1 Q
def Dx(hc:E6 X (.builtin id) r)(hg:Gl X x)(hm:X.mg x=none)(hv:bootBuiltins x=some (.builtin id))(ha:PA X (e::es) t)(hn:x ≠ "__name__" := by decide)(hdb:(x==("__debug__" : Str))=false:=by decide)
 (he:starEach (e::es) X.env=(false,eval e X.env)::starEach es X.env:=by rfl)(hpl:(backTo pos (starEach es X.env)).any (·.1)=false:=by rfl):PE X (.Call (.Name x p) (e::es) [] pos) (kX r t):=by
 intro pins s σ H Q I h;refine wpAny_Call_Name_kw (Iw I hg hm hv ?_ hn hdb);exact PyProof.Rows.callWith_builtin1 (CG (ha pos pins s σ H _ I h) fun us s1 ⟨vs,H1,I1,r1,q1⟩=>hc pins s1 σ H1 vs us Q I1 r1 q1) he hpl
def Sf(hc:E6 X (.type T) r)(hg:Gl X x)(hm:X.mg x=none)(hv:bootBuiltins x=some (.type T))(ha:PA X (e::es) t)(hn:x ≠ "__name__" := by decide)(hdb:(x==("__debug__" : Str))=false:=by decide)
 (he:starEach (e::es) X.env=(false,eval e X.env)::starEach es X.env:=by rfl)(hpl:(backTo pos (starEach es X.env)).any (·.1)=false:=by rfl):PE X (.Call (.Name x p) (e::es) [] pos) (kX r t):=by
 intro pins s σ H Q I h;refine wpAny_Call_Name_kw (Iw I hg hm hv ?_ hn hdb);exact bC (CG (ha pos pins s σ H _ I h) fun us s1 ⟨vs,H1,I1,r1,q1⟩=>hc pins s1 σ H1 vs us Q I1 r1 q1) he hpl
end
end L2
namespace HT
open PySem PyProof.Rows
section
variable{prog:Program}{w:World}{A:Around}{E:VL→SD→Prop}{s:SD}
def dZ{t b:AD}{vs ws:List VL}{Q:VL→SD→Prop}(ht:IsTup s.heap t vs.toArray)(hb:IsTup s.heap b ws.toArray)(hv:vs≠[])
 (h1:ws=[]→Q (.ref t) s)(h2:ws≠[]→Q (.ref s.heap.objs.size) {s with heap:=s.heap.push { cls:=.type "tuple",data:=.seq (vs++ws).toArray} })
 (hsz:vs.length+ws.length≤sizeLine):wpAny (model prog w) A (binaryOp .Add (.ref t) (.ref b)) Q E s:=by
 obtain⟨⟨cls,dd,data,sl⟩,ho,hc,n,hd⟩:=id ht;obtain⟨⟨cls2,dd2,data2,sl2⟩,ho2,hc2,n2,hd2⟩:=id hb;simp only at hc hd hc2 hd2;subst hc hd hc2 hd2;have e:vs.toArray++ws.toArray=(vs++ws).toArray:=by simp
 by_cases hw:ws=[]
 ·exact concat_meets ⟨_,ho,rfl⟩ ⟨_,ho2,rfl⟩ noFill_tuple_add seq_tuple_add PySem.F.slot_tuple_add PySem.F.entry_tuple_add (PySem.F.args_tuple_add_2 _ _)
   (tuple_addW1 t b vs.toArray ws.toArray n n2 dd dd2 sl sl2 (by simpa using hv) (by simp[hw])) ⟨ho,ho2,h1 hw⟩
 ·refine concat_meets ⟨_,ho,rfl⟩ ⟨_,ho2,rfl⟩ noFill_tuple_add seq_tuple_add PySem.F.slot_tuple_add PySem.F.entry_tuple_add (PySem.F.args_tuple_add_2 _ _)
   (tuple_addW2 t b vs.toArray ws.toArray n n2 dd dd2 sl sl2 (by simpa using hv) (by simpa using hw) (by rw[List.size_toArray,List.size_toArray];exact hsz)) ⟨ho,ho2,?_⟩
  rw[e];exact h2 hw
def Cc(n d:Nat):Option Int→Nat
 |none=>d
 |some v=>if v<0 then(v+(n:Int)).toNat else min v.toNat n
def jJ(n d:Nat)(hd:d≤n)(o:Option Int):Cc n d o≤n:=by
 cases o with
 |none=>exact hd
 |some v =>
  show(if v<0 then(v+(n:Int)).toNat else min v.toNat n)≤n;by_cases hv:v<0
  ·rw[if_pos hv];lia
  ·rw[if_neg hv];exact Nat.min_le_right _ _
def WA(v:Int)(n d:Nat):(if v<0 then max (v+(n:Int)) 0 else min v (n:Int))=((Cc n d (some v):Nat):Int):=by
 show(if v<0 then max (v+(n:Int)) 0 else min v (n:Int))=(((if v<0 then(v+(n:Int)).toNat else min v.toNat n):Nat):Int);by_cases hv:v<0
 ·simp only[if_pos hv];lia
 ·simp only[if_neg hv];lia
def XO(lo hi:Option Int)(n:Nat):Builtin.Slice.sliceAdjust lo hi 1 (n:Int)=(((Cc n 0 lo:Nat):Int),((Cc n n hi:Nat):Int)):=by
 have h1:¬((1:Int)<0):=by lia
 unfold Builtin.Slice.sliceAdjust;simp only[h1,if_false];refine Prod.ext ?_ ?_
 ·cases lo with
  |none=>rfl
  |some v=>exact WA v n 0
 ·cases hi with
  |none=>rfl
  |some v=>exact WA v n n
def Xl(i j:Nat):Builtin.Slice.slicePlaces (i:Int) (j:Int) 1=j-i:=by
 unfold Builtin.Slice.slicePlaces;have h1:(1:Int) > 0:=by lia
 simp only[h1,if_true,Int.ediv_one];split<;>lia
def QR{v:VL}{o:Option Int}{Q:Option Int→SD→Prop}(p:IsPart v o)(h:Q o s):wpAny (model prog w) A (Builtin.Slice.slicePartIndex v) Q E s:=by
 cases p with
 |none=>exact slicePart_none h
 |int i t=>exact slicePart_int h
def P4{sl:AD}{vl vu:VL}{lo hi:Option Int}{n:Nat}{Q:Int×Int×Nat→SD→Prop}(hs:s.heap.IsSliceOf sl vl vu .none)(pl:IsPart vl lo)(pu:IsPart vu hi)
 (h:Q (((Cc n 0 lo:Nat):Int),1,Cc n n hi-Cc n 0 lo) s):wpAny (model prog w) A (Builtin.Slice.sliceApplied (.ref sl) (pure (n:Int))) Q E s:=by
 obtain⟨os,hos,hcs,hds⟩:=id hs;unfold Builtin.Slice.sliceApplied Builtin.Slice.sliceFields;refine Wb (Wb (bA hos hds (x:=vl) rfl (Wb (bA hos hds (x:=vu) rfl (Wb (bA hos hds (x:=.none) rfl (aB ?_)))))));refine Wb (slicePart_none ?_);show wpAny _ _ (if((1:Int)==0)=true then _ else _) _ _ s;rw[if_neg (by decide)];refine Wb (QR pl (Wb (QR pu (Wb (aB ?_)))));show wpAny _ _ (match Builtin.Slice.sliceAdjust lo hi 1 (n:Int) with|(lo,hi)=>pure (lo,(1:Int),Builtin.Slice.slicePlaces lo hi 1)) _ _ s;rw[XO lo hi n];show wpAny _ _ (pure (((Cc n 0 lo:Nat):Int),(1:Int),Builtin.Slice.slicePlaces ((Cc n 0 lo:Nat):Int) ((Cc n n hi:Nat):Int) 1)) _ _ s;rw[Xl];exact aB h
def a8(xs:Array VL)(i k:Nat):((List.range k).filterMap fun(m:Nat)=>xs[((i:Int)+(m:Int)*1).toNat]?).toArray=((xs.toList.drop i).take k).toArray:=by
 have e:(fun(m:Nat)=>xs[((i:Int)+(m:Int)*1).toNat]?)=fun m=>xs[i+m]? := by
  funext m
  have:((i:Int)+(m:Int)*1).toNat=i+m:=by lia
  rw[this]
 rw[e];have:=pick_run xs i k;rw[List.filterMap_map]at this;have e2:((fun x=>xs[x]?) ∘ fun x=>i+x)=fun m=>xs[i+m]?:=rfl;rw[e2]at this;rw[this]
def Oz{t sl:AD}{items:Array VL}{vl vu:VL}{lo hi:Option Int}{Q:VL→SD→Prop}(ht:IsTup s.heap t items)(hs:s.heap.IsSliceOf sl vl vu .none)(pl:IsPart vl lo)(pu:IsPart vu hi)
 (hw:¬(Cc items.size 0 lo=0∧Cc items.size items.size hi=items.size))
 (h:Q (.ref s.heap.objs.size) {s with heap:=s.heap.push { cls:=.type "tuple",data:=.seq ((items.toList.drop (Cc items.size 0 lo)).take (Cc items.size items.size hi-Cc items.size 0 lo)).toArray} })
 (hsz:items.size≤sizeLine):wpAny (model prog w) A (getItem (.ref t) (.ref sl)) Q E s:=by
 have htake:sizeOk (.seq ((items.toList.drop (Cc items.size 0 lo)).take (Cc items.size items.size hi-Cc items.size 0 lo)).toArray):=by
  show((items.toList.drop (Cc items.size 0 lo)).take (Cc items.size items.size hi-Cc items.size 0 lo)).toArray.size≤sizeLine;rw[List.size_toArray,List.length_take,List.length_drop,Array.length_toList]
  lia
 have hj:Cc items.size items.size hi≤items.size:=jJ _ _ (aG _) hi;obtain⟨os,hos,hcs,hds⟩:=id hs;have hTs:s.TypeIs (.ref sl) "slice" := ⟨os,hos,hcs⟩;unfold getItem
 try with_reducible refine av ?_
 first|refine Wb (aB ?_)|skip
 refine Wb (wpAny_sequenceKey ht.typeIs (by decide) ?_);refine Wb (bD (name:=Str.ofString "__getitem__") ht.typeIs PyProof.Rows.slot_tuple_getitem
  (ak PyProof.Rows.slot_tuple_getitem ht.typeIs entry_tuple_getitem ?_ (args_tuple_getitem _ _)))
 show wpAny _ _ (Builtin.Tuple.tupleItemsOf (.ref t)>>=_) _ _ s;refine Wb (tupleItemsOf_ ht ?_);refine Wb (wpAny_typeOf hTs ?_);rw[if_pos (by decide)];refine Wb (P4 hs pl pu ?_);have hno:¬((((Cc items.size 0 lo:Nat):Int)==0&&(1:Int)==1&&(Cc items.size items.size hi-Cc items.size 0 lo)==items.size)=true):=by
  intro q;rw[Bool.and_eq_true,Bool.and_eq_true]at q;have q1:((Cc items.size 0 lo:Nat):Int)=0:=eq_of_beq q.1.1;have q2:Cc items.size items.size hi-Cc items.size 0 lo=items.size:=eq_of_beq q.2;exact hw ⟨by lia,by lia⟩
 show wpAny _ _ (if(((Cc items.size 0 lo:Nat):Int)==0&&(1:Int)==1&&(Cc items.size items.size hi-Cc items.size 0 lo)==items.size)=true then _ else _) _ _ s;rw[if_neg hno,a8]
 first
  |exact Wb (m:=Builtin.Tuple.tupleExact _) (ae (aB ⟨_,rfl,wpAny_pure h⟩) htake)
  |exact Wb (m:=Builtin.Tuple.tupleExact _) (ae (Wb (aB (aB ⟨_,rfl,wpAny_pure h⟩))) htake)
  |exact Wb (Wb (m:=Builtin.Tuple.tupleExact _) (ae (aB (aB ⟨_,rfl,wpAny_pure h⟩)) htake))
  |exact Wb (Wb (m:=Builtin.Tuple.tupleExact _) (ae (aB ⟨_,rfl,wpAny_pure h⟩) htake))
end
end HT
namespace L2
open PySem PySem.Spec PyProof.Rows
abbrev TO:=St→Hp→(Option Int→Hp→Prop)→Prop
def PO(X:Cx)(e:Option Expr)(t:TO):Prop :=
 ∀(pins:List (AD×Obj)) (s:SD) (σ:St) (H:Hp) (Q:Option Int→Hp→Prop),Inv X pins σ H s→t σ H Q →
  wpAny (model X.prog X.w) X.A (evalPart e X.env) (fun u s'=>∃o H',Inv X pins σ H' s'∧IsPart u o∧Q o H') X.xe s
def di:TO:=fun _ H Q=>Q none H
def jY(t:TE):TO:=fun σ H Q=>t σ H fun x H1=>∃i,x=.int i∧Q (some i) H1
def intsAre_of{ns:List Int}:∀ {us:List VL},Vals (ns.map V.int) us→IntsAre us ns:=by
 induction ns with
 |nil=>intro us r;rw[List.map_nil]at r;cases r;exact .nil
 |cons n ns ih =>
  intro us r;rw[List.map_cons]at r;cases r with
  |cons r1 r2 =>
   obtain⟨t,e⟩:=r1;subst e;exact .cons n t (ih r2)
section
variable{X:Cx}{e:Expr}{te:TE}{lo hi:Option Expr}{tl th:TO}{pos p2:Pos}
def eQ:PO X none di:=by
 intro pins s σ H Q I h;rw[evalPart_none];exact aB ⟨none,H,I,.none,h⟩
def dF(h:PE X e te):PO X (some e) (jY te):=by
 intro pins s σ H Q I hw;rw[evalPart_some];refine CG (h pins s σ H _ I hw) fun u s1 ⟨x,H1,I1,r1,q1⟩=>?_;obtain⟨i,rfl,q⟩:=q1;obtain⟨t,rfl⟩:=r1;exact⟨some i,H1,I1,.int i t,q⟩
def TZ(X:Cx)(r:V→Option Int→Option Int→Hp→VK→Prop):Prop :=
 ∀(pins:List (AD×Obj)) (s:SD) (σ:St) (H:Hp) (x:V) (v vl vu:VL) (lo hi:Option Int) (sl:AD) (Q:VK),Inv X pins σ H s→RelV x v→s.heap.IsSliceOf sl vl vu .none→IsPart vl lo→IsPart vu hi→r x lo hi H Q →
  ∃T id,typeLookup (.type T) "__getitem__" = pure (some (.builtin id))∧s.TypeIs v T∧wpAny (model X.prog X.w) X.A (getItem v (.ref sl)) (EP X pins σ Q) X.xe s
def TZ.or{r r':V→Option Int→Option Int→Hp→VK→Prop}(h:TZ X r)(h':TZ X r'):TZ X (fun x lo hi H Q=>r x lo hi H Q∨r' x lo hi H Q):=by
 intro pins s σ H x v vl vu lo hi sl Q I rx hs pl pu q;rcases q with q|q
 ·exact h pins s σ H x v vl vu lo hi sl Q I rx hs pl pu q
 ·exact h' pins s σ H x v vl vu lo hi sl Q I rx hs pl pu q
def mL(r:V→Option Int→Option Int→Hp→VK→Prop)(te:TE)(tl th:TO):TE:=fun σ H Q=>te σ H fun x H1=>tl σ H1 fun l H2=>th σ H2 fun u H3=>r x l u H3 Q
def Zj{r:V→Option Int→Option Int→Hp→VK→Prop}(hr:TZ X r)(he:PE X e te)(hl:PO X lo tl)(hu:PO X hi th):PE X (.Subscript e (.Slice lo hi none p2) pos) (mL r te tl th):=by
 intro pins s σ H Q I h;refine Subscript_ (CG (he pins s σ H _ I h) fun v s1 ⟨x,H1,I1,r1,q1⟩=>?_);refine wpAny_Slice (CG (hl pins s1 σ H1 _ I1 q1) fun vl s2 ⟨l,H2,I2,pl,q2⟩=>CG (hu pins s2 σ H2 _ I2 q2) fun vu s3 ⟨u,H3,I3,pu,q3⟩=>?_);rw[evalPart_none];refine aB ?_;have I4:Inv X pins σ H3 {s3 with heap:=s3.heap.push { cls:=.type "slice",data:=.fields #[vl,vu,.none]} }:=I3.kept (t':=s3.toks) fun b ob q=>aD _ q;obtain⟨T,id,hT,ht,hg⟩:=hr pins {s3 with heap:=s3.heap.push { cls:=.type "slice",data:=.fields #[vl,vu,.none]} } σ H3 x v vl vu l u s3.heap.objs.size Q I4 r1 (Heap.IsSliceOf.new ..) pl pu q3;show wpAny (model X.prog X.w) X.A (subscriptTail e (.Slice lo hi none p2) v (.ref s3.heap.objs.size)) (EP X pins σ Q) X.xe {s3 with heap:=s3.heap.push { cls:=.type "slice",data:=.fields #[vl,vu,.none]} };exact tail_any (ops:=[.ref s3.heap.objs.size,v]) ht hT hg (by with_unfolding_all rfl)
def Np(xs:List V)(lo hi:Option Int):List V:=(xs.drop (HT.Cc xs.length 0 lo)).take (HT.Cc xs.length xs.length hi-HT.Cc xs.length 0 lo)
def Pb(xs:List V)(lo hi:Option Int):(Np xs lo hi).length≤xs.length:=by
 unfold Np;rw[List.length_take,List.length_drop]
 lia
def ly(K:Fg):V→Option Int→Option Int→Hp→VK→Prop:=fun x lo hi H Q=>∃a xs,x=.ref a∧CK K H a xs ∧
 ¬(HT.Cc xs.length 0 lo=0∧HT.Cc xs.length xs.length hi=xs.length)∧∀p,H p=none→Q (.ref p) (upd H p (.tup (Np xs lo hi)))
def gW:TZ X (ly X.K):=by
 intro pins s σ H x v vl vu lo hi sl Q I rx hs pl pu h;obtain⟨a,xs,rfl,hx,hw,q⟩:=h;cases rx;obtain⟨its,r,ht,hz⟩:=I.tuple hx;have hlen:its.toArray.size=xs.length:=by rw[List.size_toArray];exact r.length.symm
 refine⟨"tuple",_,PyProof.Rows.slot_tuple_getitem.lookup,ht.typeIs,?_⟩;refine HT.Oz ht hs pl pu (by rw[hlen];exact hw) ?_ (by rw[hlen];exact hz);rw[hlen];refine⟨.ref s.heap.objs.size,_,I.laid (t':=s.toks) (o:=.tup (Np xs lo hi)) (fun b ob q=>aD _ q) (aG _) ?_,rfl,q _ (I.Bj.fresh (aG _))⟩;exact⟨aW (Pb xs lo hi) hz,_,(r.drop (HT.Cc xs.length 0 lo)).take (HT.Cc xs.length xs.length hi-HT.Cc xs.length 0 lo),IsTup.new _ _⟩
def Vals.Vk{xs:List V}{us:List VL}(r:Vals xs us):us=[] ↔ xs=[]:=by
 cases r with
 |nil=>simp
 |cons _ _=>simp
end
def Pj(n:Nat)(i:Int):Option Nat:=if 0≤i then(if i<n then some i.toNat else none) else if -(n:Int)≤i then some (i+n).toNat else none
def Fy{α:Type}(xs:List α)(i:Int):Option α:=(Pj xs.length i).bind fun j=>xs[j]?
def V3{n:Nat}{i:Int}{j:Nat}(h:Pj n i=some j):seqIndex? i n=some j∧j<n∧-(n:Int)≤i∧i<n:=by
 unfold Pj at h;by_cases h0:0≤i
 ·rw[if_pos h0]at h;by_cases h1:i<n
  ·rw[if_pos h1]at h;have e:i.toNat=j:=aa h;exact⟨by rw[seqIndex_of h0 h1,e],by lia,by lia,h1⟩
  ·rw[if_neg h1]at h;cases h
 ·rw[if_neg h0]at h;by_cases h1:-(n:Int)≤i
  ·rw[if_pos h1]at h;have e:(i+n).toNat=j:=aa h;exact⟨by rw[seqIndex_neg (by lia) h1,e],by lia,h1,by lia⟩
  ·rw[if_neg h1]at h;cases h
def RG{α:Type}{xs:List α}{i:Int}{v:α}(h:Fy xs i=some v):∃j,seqIndex? i xs.length=some j∧xs[j]? = some v∧j<xs.length∧-(xs.length:Int)≤i∧i<xs.length:=by
 unfold Fy at h;cases e:Pj xs.length i with
 |none=>rw[e]at h;cases h
 |some j =>
  rw[e]at h;obtain⟨h1,h2,h3,h4⟩:=V3 e;exact⟨j,h1,h,h2,h3,h4⟩
def EV{α:Type}{xs:List α}{j:Nat}{v:α}(h:xs[j]? = some v):Fy xs (j:Int)=some v:=by
 have hj:j<xs.length:=(aF.mp h).1;have e:Pj xs.length (j:Int)=some j:=by
  unfold Pj;rw[if_pos (by lia),if_pos (by lia)];simp
 unfold Fy;rw[e];exact h
def SG(b:Expr):Prop:=∀o i,subscripted b false o i=operate [o,i] (getItem o i)
def PX(X:Cx)(r:R2):Prop :=
 ∀(value slice:Expr) (pins:List (AD×Obj)) (s:SD) (σ:St) (H:Hp) (x y:V) (v u:VL) (Q:VK),Inv X pins σ H s→RelV x v→RelV y u→r x y H Q →
  subscripted slice false v u=operate [v,u] (getItem v u)→wpAny (model X.prog X.w) X.A (subscriptTail value slice v u) (EP X pins σ Q) X.xe s
def mS(X:Cx)(id:String)(r:V→List V→Hp→VK→Prop):Prop :=
 ∀(pins:List (AD×Obj)) (s:SD) (σ:St) (H:Hp) (x:V) (xs:List V) (v:VL) (us:List VL) (Q:VK),Inv X pins σ H s→RelV x v→Vals xs us→r x xs H Q →
  wpAny (model X.prog X.w) X.A (call (.builtin id) (v::us)) (EP X pins σ Q) X.xe s
section
variable{X:Cx}{a b:Expr}{ta tb:TE}{pos:Pos}
def PX.or{r r':R2}(h:PX X r)(h':PX X r'):PX X (fun x y H Q=>r x y H Q∨r' x y H Q):=by
 intro value slice pins s σ H x y v u Q I rx ry q hs;rcases q with q|q
 ·exact h value slice pins s σ H x y v u Q I rx ry q hs
 ·exact h' value slice pins s σ H x y v u Q I rx ry q hs
def EG{r:R2}(hr:PX X r)(ha:PE X a ta)(hb:PE X b tb)(hs:SG b):PE X (.Subscript a b pos) (cu r ta tb):=by
 intro pins s σ H Q I h;exact Subscript_ (ZJ ha hb I h fun v u s2 x y H2 I2 rx ry q=>hr a b pins s2 σ H2 x y v u Q I2 rx ry q (hs _ _))
def iV(K:Fg):R2:=fun x y H Q=>∃p xs i v,x=.ref p∧y=.int i∧Bo K H p xs∧Fy xs i=some v∧Q v H
def Zk(K:Fg):R2:=fun x y H Q=>∃p xs i v,x=.ref p∧y=.int i∧CK K H p xs∧Fy xs i=some v∧Q v H
def iG:R2:=fun x y H Q=>∃z i c,x=.str z∧y=.int i∧z.length≤sizeLine∧Fy z.cps.toList i=some c∧Q (.str ⟨#[c]⟩) H
def Km:PX X (iV X.K):=by
 intro value slice pins s σ H x y v u Q I rx ry h hs;obtain⟨p,xs,i,z,rfl,rfl,hq,he,q⟩:=h;cases rx;obtain⟨t,rfl⟩:=ry;obtain⟨its,r,pl,hz⟩:=I.list hq;obtain⟨j,h1,h2,h3,h4,h5⟩:=RG he;obtain⟨w,ew,rw'⟩:=r.get h2;have hl:=r.length;have hn:=Nc;have fin:EP X pins σ Q w s:=⟨z,H,I,rw',q⟩;by_cases h0:0≤i
 ·have hj:i.toNat=j:=by
   rw[seqIndex_of h0 h5]at h1;exact aa h1
  exact item_listR pl.isList h0 (by lia) (by rw[hj];simpa using ew) fin hs
 ·have hj:(i+(its.toArray.size:Int)).toNat=j:=by
   rw[seqIndex_neg (by lia) h4]at h1;rw[List.size_toArray,←hl];exact aa h1
  exact subscriptTail_builtinR (x:=w) pl.isList.typeIs slot_list_getitem.lookup
   (wpAny_getItem_list_neg (Q:=fun r s'=>r=w∧EP X pins σ Q r s') pl.isList (by lia) (by rw[List.size_toArray]<;>lia) (by lia) (by rw[hj];simpa using ew) ⟨rfl,fin⟩) hs
def FP:PX X (Zk X.K):=by
 intro value slice pins s σ H x y v u Q I rx ry h hs;obtain⟨p,xs,i,z,rfl,rfl,hq,he,q⟩:=h;cases rx;obtain⟨t,rfl⟩:=ry;obtain⟨its,r,pl,hz⟩:=I.tuple hq;obtain⟨j,h1,h2,h3,h4,h5⟩:=RG he;obtain⟨w,ew,rw'⟩:=r.get h2;have hl:=r.length;have hn:=Nc;have fin:EP X pins σ Q w s:=⟨z,H,I,rw',q⟩;exact subscriptTail_builtinR (x:=w) pl.typeIs slot_tuple_getitem.lookup
  (getItem_tuple (j:=j) (Q:=fun r s'=>r=w∧EP X pins σ Q r s') pl (by lia) (by lia) (by rw[List.size_toArray,←hl];exact h1) (by simpa using ew) ⟨rfl,fin⟩) hs
def gf:PX X iG:=by
 intro value slice pins s σ H x y v u Q I rx ry h hs;obtain⟨z,i,c,rfl,rfl,hz,he,q⟩:=h;obtain⟨t,rfl⟩:=rx;obtain⟨t',rfl⟩:=ry;obtain⟨j,h1,h2,h3,h4,h5⟩:=RG he;have hl:z.cps.toList.length=z.length:=by simp[Str.length]
 rw[hl]at h1 h4 h5;have hn:=Nc;exact tail_any (typeIs_str s z t) slot_str_getitem.lookup (getItem_str (c:=c) (by
  have e1:decide (i < -(2^63:Int))=false:=aZ (by lia);have e2:decide (i ≥ 2^63)=false:=aZ (by lia);rw[e1,e2,Bool.or_false]) (by rw[h1];simpa using h2) ⟨.str ⟨#[c]⟩,H,I.tok _,⟨_,rfl⟩,q⟩) hs
def mW(K:Fg):R2:=fun x y H Q=>iV K x y H Q∨Zk K x y H Q∨iG x y H Q
def fX:PX X (mW X.K):=Km.or (FP.or gf)
def Wz(its:List VL)(n j:Nat)(u:VL):Obj.mapSeq (·.setIfInBounds j u) { cls:=.type "list",data:=.seq its.toArray n}={ cls:=.type "list",data:=.seq (its.set j u).toArray n}:=by
 simp[Obj.mapSeq]
def Inv.lst{pins:List (AD×Obj)}{σ:St}{H:Hp}{s:SD}{p:AD}{xs:List V}(I:Inv X pins σ H s)(h:H p=some (.lst xs)) :
  ∃(its:List VL) (n:Nat),Vals xs its∧s.heap.get? p=some { cls:=.type "list",data:=.seq its.toArray n}∧xs.length≤sizeLine:=by
 obtain⟨z,its,n,r,e⟩:=I.Bj p _ h;exact⟨its,n,r,e,z⟩
def Inv.h9{pins:List (AD×Obj)}{σ:St}{H:Hp}{s:SD}{p:AD}{xs ys:List V}{its its':List VL}{n n':Nat}{f:Obj→Obj}(I:Inv X pins σ H s)(h:H p=some (.lst xs))
 (ho:s.heap.get? p=some { cls:=.type "list",data:=.seq its.toArray n})(hf:f { cls:=.type "list",data:=.seq its.toArray n}={ cls:=.type "list",data:=.seq its'.toArray n'})(r:Vals ys its')(hz:ys.length≤sizeLine)(t:Nat) :
  Inv X pins σ (upd H p (.lst ys)) {s with heap:=s.heap.update p f,toks:=t}:=by
 have e:(s.heap.update p f).get? p=some { cls:=.type "list",data:=.seq its'.toArray n'}:=by
  rw[Heap.get?_update_self f ho (by rw[hf]<;>rfl),hf]
 refine I.write (x:=p) (e:=p) (by rw[h];trivial) (.inl rfl) (fun b u hb q=>(Heap.get?_update_other _ _ (Ne.symm hb)).trans q) ⟨_,e⟩ ?_;exact⟨hz,its',n',r,e⟩
def jt:V→V→V→Hp→(Hp→Prop)→Prop:=fun o i v H Q=>∃p xs k j,o=.ref p∧i=.int k∧H p=some (.lst xs)∧Pj xs.length k=some j∧Q (upd H p (.lst (xs.set j v)))
def set_list:ft X jt:=by
 intro pins s σ H o i v ov iv u Q I ro ri rv h;obtain⟨p,xs,k,j,rfl,rfl,hp,hj,q⟩:=h;cases ro;obtain⟨t,rfl⟩:=ri;obtain⟨its,n,r,ho,hz⟩:=I.lst hp;obtain⟨h1,h2,h3,h4⟩:=V3 hj;have hl:=r.length;have hn:=Nc;have I':Inv X pins σ (upd H p (.lst (xs.set j v))) {s with heap:=s.heap.update p (Obj.mapSeq (·.setIfInBounds j u))} :=
  I.h9 hp ho (Wz its n j u) (r.set rv j) (by rw[List.length_set];exact hz) s.toks
 by_cases h0:0≤k
 ·have hk:k.toNat=j:=by
   rw[seqIndex_of h0 h4]at h1;exact aa h1
  exact PySem.W.ki_setAt ho h0 (by lia) (by rw[List.size_toArray,←hl];exact h4) (by rw[hk];exact⟨_,I',q⟩)
 ·have hk:(k+(its.toArray.size:Int)).toNat=j:=by
   rw[seqIndex_neg (by lia) h3]at h1;rw[List.size_toArray,←hl];exact aa h1
  exact PySem.W.ki_setBack ho (by lia) (by rw[List.size_toArray,←hl];exact h3) (by lia) (by rw[hk];exact⟨_,I',q⟩)
def UN(lo hi:Option Int)(n:Nat):(sliceBounds lo hi none n).1=((HT.Cc n 0 lo:Nat):Int)∧(sliceBounds lo hi none n).2.1=((HT.Cc n n hi:Nat):Int)∧(sliceBounds lo hi none n).2.2=1:=by
 refine⟨?_,?_,rfl⟩
 ·cases lo with
  |none=>simp[sliceBounds,HT.Cc]
  |some i =>
   simp only[sliceBounds,HT.Cc,Option.getD_none,show(1:Int) > 0 by decide,if_true];by_cases h:i<0
   ·simp only[h,if_true]<;>lia
   ·simp only[h,if_false]<;>lia
 ·cases hi with
  |none=>simp[sliceBounds,HT.Cc]
  |some i =>
   simp only[sliceBounds,HT.Cc,Option.getD_none,show(1:Int) > 0 by decide,if_true];by_cases h:i<0
   ·simp only[h,if_true]<;>lia
   ·simp only[h,if_false]<;>lia
def TC(its:List VL)(lo hi:Option Int):slicePick its.toArray lo hi none=((its.drop (HT.Cc its.length 0 lo)).take (HT.Cc its.length its.length hi-HT.Cc its.length 0 lo)).toArray:=by
 obtain⟨h1,h2,h3⟩:=UN lo hi its.toArray.size;unfold slicePick;rw[h1,h2,h3];simp only[sliceRange_one,pick_run,List.size_toArray]<;>rfl
def lI(K:Fg):V→Option Int→Option Int→Hp→VK→Prop:=fun x lo hi H Q=>∃a xs,x=.ref a∧Bo K H a xs∧∀p,H p=none→Q (.ref p) (upd H p (.lst (Np xs lo hi)))
def de:TZ X (lI X.K):=by
 intro pins s σ H x v vl vu lo hi sl Q I rx hs pl pu h;obtain⟨a,xs,rfl,hx,q⟩:=h;cases rx;obtain⟨its,r,ht,hz⟩:=I.list hx;have hlen:=r.length;refine⟨"list",_,slot_list_getitem.lookup,ht.isList.typeIs,?_⟩;refine wpAny_getItem_list_slice ht.isList hs pl pu .none (by simp) ?_ (by rw[List.size_toArray]<;>lia);rw[TC,←hlen];refine⟨.ref s.heap.objs.size,_,I.laid (t':=s.toks) (o:=.lst (Np xs lo hi)) (fun b ob q=>aD _ q) (aG _) ?_,rfl,q _ (I.Bj.fresh (aG _))⟩;exact⟨aW (Pb xs lo hi) hz,_,0,(r.drop (HT.Cc xs.length 0 lo)).take (HT.Cc xs.length xs.length hi-HT.Cc xs.length 0 lo),Heap.get?_push_size _ rfl⟩
def HA:E6 X (.builtin "len") (fun xs H Q=>∃p ys,xs=[.ref p]∧(Bo X.K H p ys∨CK X.K H p ys)∧Q (.int ys.length) H):=by
 intro pins s σ H xs us Q I r h;obtain⟨p,ys,rfl,hq,q⟩:=h;obtain⟨u,rfl,rx⟩:=vals1 r;cases rx;have hn:=Nc;rcases hq with hq|hq
 ·obtain⟨its,r',pl,hz⟩:=I.list hq;have hlen:=r'.length;exact Calls.call_len_list pl.isList (by simp only[List.size_toArray]<;>lia) ⟨.int ys.length,H,I.tok _,⟨s.toks+1,by rw[List.size_toArray,hlen]⟩,q⟩
 ·obtain⟨its,r',pl,hz⟩:=I.tuple hq;have hlen:=r'.length;exact len_tuple pl (by simp only[List.size_toArray]<;>lia) ⟨.int ys.length,H,I.tok _,⟨s.toks+1,by rw[List.size_toArray,hlen]⟩,q⟩
def E6.or{f:VL}{r r':List V→Hp→VK→Prop}(h:E6 X f r)(h':E6 X f r'):E6 X f (fun xs H Q=>r xs H Q∨r' xs H Q):=by
 intro pins s σ H xs us Q I rs q;rcases q with q|q
 ·exact h pins s σ H xs us Q I rs q
 ·exact h' pins s σ H xs us Q I rs q
def Uc:E6 X (.type "list") (fun xs H Q=>∃p ys,xs=[.ref p]∧(Bo X.K H p ys∨CK X.K H p ys)∧∀l,H l=none→Q (.ref l) (upd H l (.lst ys))):=by
 intro pins s σ H xs us Q I r h;obtain⟨p,ys,rfl,hq,q⟩:=h;obtain⟨u,rfl,rx⟩:=vals1 r;cases rx;have fin:∀(its:List VL),Vals ys its→ys.length≤sizeLine→∀(h':Heap) (c':Nat),(∀b o',s.heap.get? b=some o'→h'.get? b=some o') →
   h'.get? s.heap.objs.size=some { cls:=.type "list",dict:=none,data:=.seq its.toArray c',slots:=#[]}→EP X pins σ Q (.ref s.heap.objs.size) {s with heap:=h'}:=fun its r' hz h' c' kp e =>
  ⟨.ref s.heap.objs.size,_,I.laid (t':=s.toks) kp (aG _) (show EF X.prog X.w _ h' _ (.lst ys) from⟨hz,its,c',r',e⟩),rfl,q _ (I.Bj.fresh (aG _))⟩
 rcases hq with hq|hq
 ·obtain⟨its,r',pl,hz⟩:=I.list hq;have hlen:=r'.length;obtain⟨o,ho,hc,n,hd⟩:=pl.isList;exact call_list_seq p (.inl rfl) ho hc hd (fun h' c' kp e=>fin its r' hz h' c' kp e) (by simp only[List.size_toArray]<;>lia)
 ·obtain⟨its,r',pl,hz⟩:=I.tuple hq;have hlen:=r'.length;obtain⟨o,ho,hc,n,hd⟩:=pl;exact call_list_seq p (.inr rfl) ho hc hd (fun h' c' kp e=>fin its r' hz h' c' kp e) (by simp only[List.size_toArray]<;>lia)
def S8:E6 X (.type "tuple") (fun xs H Q=>∃p ys,xs=[.ref p]∧((Bo X.K H p ys∧∀l,H l=none→Q (.ref l) (upd H l (.tup ys)))∨(CK X.K H p ys∧Q (.ref p) H))):=by
 intro pins s σ H xs us Q I r h;obtain⟨p,ys,rfl,h⟩:=h;obtain⟨u,rfl,rx⟩:=vals1 r;cases rx;rcases h with ⟨hq,q⟩|⟨hq,q⟩
 ·obtain⟨its,r',pl,hz⟩:=I.list hq;have hlen:=r'.length;refine call_tuple_list pl.isList (fun h' kp=>?_) (by simp only[List.size_toArray]<;>lia);have I1:Inv X pins σ H {s with heap:=h'}:=I.kept (t':=s.toks) kp;have I2:Inv X pins σ (upd H h'.objs.size (.tup ys)) {s with heap:=h'.push { cls:=.type "tuple",data:=.seq its.toArray} } :=
   I1.laid (t':=s.toks) (fun b o e=>aD _ e) (aG _) (show EF X.prog X.w _ _ _ (.tup ys) from⟨hz,its,r',IsTup.new _ _⟩)
  exact⟨.ref h'.objs.size,_,I2,rfl,q _ (I1.Bj.fresh (aG _))⟩
 ·obtain⟨its,r',pl,hz⟩:=I.tuple hq;exact call_tuple_same pl ⟨.ref p,H,I,rfl,q⟩
def kT(K:Fg)(T:String)(x:V)(H:Hp):Prop:=match x with
 |.str _=>T = "str"
 |.int _=>T = "int"
 |.ref p=>(T = "list" ∧ ∃xs,Bo K H p xs)∨(T = "tuple" ∧ ∃o,K.lookup p=some o∧o.cls=.type "tuple" ∧ o.dict=none) ∨
   (T = "dict" ∧((∃kvs,H p=some (.dK kvs))∨∃kvs,H p=some (.dT kvs)))∨(T = "set" ∧ ∃S n,H p=some (.set S n))
 |_=>False
def gH{pins:List (AD×Obj)}{σ:St}{H:Hp}{s:SD}{T:String}{x:V}{v:VL}(I:Inv X pins σ H s)(r:RelV x v)(ty:kT X.K T x H) :
  s.TypeIs v T∧∀a,v=.ref a→∃ob,s.heap.get? a=some ob∧ob.dict=none:=by
 cases x with
 |str z =>
  obtain⟨t,rfl⟩:=r;cases (show T = "str" from ty);exact⟨typeIs_str s z t,fun _ e=>nomatch e⟩
 |int i =>
  obtain⟨t,rfl⟩:=r;cases (show T = "int" from ty);exact⟨typeIs_int s i t,fun _ e=>nomatch e⟩
 |ref p =>
  cases r;rcases ty with ⟨rfl,xs,hq⟩|⟨rfl,o,hk,hc,hd⟩|⟨rfl,hk⟩|⟨rfl,S,n,hk⟩
  ·obtain⟨its,_,pl,_⟩:=I.list hq;refine⟨pl.isList.typeIs,fun a e=>?_⟩;cases e;obtain⟨o,n,e,c,hd,_⟩:=pl;exact⟨o,e,hd⟩
  ·refine⟨⟨o,I.Jj p o hk,hc⟩,fun a e=>?_⟩;cases e;exact⟨o,I.Jj _ o hk,hd⟩
  ·have z:∃o,s.heap.get? p=some o∧o.ExactDict:=by
    rcases hk with ⟨kvs,hk⟩|⟨kvs,hk⟩
    ·obtain⟨_,_,_,_,o,_,_,e,ex,_⟩:=I.Bj p _ hk;exact⟨o,e,ex⟩
    ·obtain⟨_,_,_,_,o,_,_,e,ex,_⟩:=I.Bj p _ hk;exact⟨o,e,ex⟩
   obtain⟨o,e,ex⟩:=z;refine⟨⟨o,e,ex.1⟩,fun a e2=>?_⟩;cases e2;exact⟨o,e,ex.2.1⟩
  ·obtain⟨o,_,_,_,e,ex,_⟩:=I.Bj p _ hk;refine⟨⟨o,e,ex.1⟩,fun a e2=>?_⟩;cases e2;exact⟨o,e,ex.2.1⟩
 |_=>exact False.elim ty
def hJ(K:Fg)(T:String)(r:V→List V→Hp→VK→Prop)(to:TE)(t:TA):TE:=fun σ H Q=>to σ H fun x H1=>kT K T x H1∧t σ H1 fun xs H2=>r x xs H2 Q
variable{o e:Expr}{es:List Expr}{to:TE}{t:TA}{name:Str}{apos cpos:Pos}{T id:String}{r:V→List V→Hp→VK→Prop}
def JX(pa:PlainAttrs T)(slot:Slot T name id)(hty:typeOf (.builtin id)=pure (.type "method_descriptor"))(hm:mS X id r)(ho:PE X o to)(ha:PA X (e::es) t)
 (hbase:attributeBase o name X.env (eval o X.env)=eval o X.env:=by rfl)
 (hfew:((backTo cpos (starEach (e::es) X.env)).all (fun x=>!x.1)&&(backToKw cpos (keywordEach [] X.env)).all (fun x=>x.1.isSome)
   && decide ((e::es).length+([]:List Keyword).length+(if([]:List Keyword).isEmpty then 0 else 1)<30))=true:=by rfl)
 (hline:(apos.endLine==cpos.line)=true:=by rfl)(hs:starEach (e::es) X.env=(false,eval e X.env)::starEach es X.env:=by rfl)(hplain:(backTo cpos (starEach es X.env)).any (·.1)=false:=by rfl) :
  PE X (.Call (.Attribute o name apos) (e::es) [] cpos) (hJ X.K T r to t):=by
 intro pins s σ H Q I h;refine wpAny_Call_method_late hbase hfew hline rfl (CG (ho pins s σ H _ I h) fun v s1 ⟨x,H1,I1,r1,ty,q1⟩=>?_);obtain⟨h1,h2⟩:=gH I1 r1 ty;refine⟨T,id,pa,slot,hty,h1,h2,?_⟩;have hA:=ha cpos pins s1 σ H1 _ I1 q1;rw[hs]at hA ⊢;refine Calls.callWith_builtin (by show(false||(backTo cpos (starEach es X.env)).any (·.1))=false;rw[hplain]<;>rfl) (Calls.evalArgs_plain ?_);exact CG hA fun us s2 ⟨vs,H2,I2,r2,q2⟩=>hm pins s2 σ H2 x vs v us Q I2 r1 r2 q2
end
def kW(X:Cx)(id:String)(r:V→List V→Hp→VK→Prop):Prop :=
 ∀(pins:List (AD×Obj)) (s:SD) (σ:St) (H:Hp) (x:V) (xs:List V) (v:VL) (us:List VL) (Q:VK),Inv X pins σ H s→RelV x v→Vals xs us→r x xs H Q →
  wpAny (model X.prog X.w) X.A (call (.builtin id) (v::us)) (EP X pins σ Q) X.xe s
def Vals.one:∀ {x:V} {us:List VL},Vals [x] us→∃u,us=[u]∧RelV x u
 |_,_,.cons r .nil=>⟨_,rfl,r⟩
def Vals.two:∀ {x y:V} {us:List VL},Vals [x,y] us→∃u v,us=[u,v]∧RelV x u∧RelV y v
 |_,_,_,.cons r (.cons q .nil)=>⟨_,_,rfl,r,q⟩
def Vals.rep{xs:List V}{us:List VL}(h:Vals xs us):∀k:Nat,Vals (List.replicate k xs).flatten (List.replicate k us).flatten
 |0=>.nil
 |k+1=>by
  rw[List.replicate_succ,List.replicate_succ,List.flatten_cons,List.flatten_cons];exact Vals.append h (Vals.rep h k)
def foldl_rep(its:List VL):∀(k:Nat) (acc:List VL),
  List.foldl (fun x1 x2=>x1++x2) acc.toArray (List.replicate k its.toArray)=(acc++(List.replicate k its).flatten).toArray
 |0,acc=>by simp
 |k+1,acc=>by
  have e:acc.toArray++its.toArray=(acc++its).toArray:=by simp
  have e2:(acc++its)++(List.replicate k its).flatten=acc++(List.replicate (k+1) its).flatten:=by
   rw[List.replicate_succ,List.flatten_cons,List.append_assoc]
  rw[←e2,←foldl_rep its k (acc++its),←e,List.replicate_succ,List.foldl_cons]
section
variable{X:Cx}{pins:List (AD×Obj)}{σ:St}{H:Hp}{s:SD}{l:AD}{xs ys:List V}
def Inv.jA{its its':List VL}{n:Nat}{f:Array VL→Array VL}{t':Nat}(I:Inv X pins σ H s)(hH:H l=some (.lst xs))
 (e:s.heap.get? l=some { cls:=.type "list",data:=.seq its.toArray n})(hf:f its.toArray=its'.toArray)(hv:Vals ys its')(hz:ys.length≤sizeLine) :
  Inv X pins σ (upd H l (.lst ys)) {s with heap:=s.heap.update l (Obj.mapSeq f),toks:=t'}:=by
 have q:=PySem.IsL.update e f;rw[hf]at q;refine I.write (x:=l) (e:=l) (by rw[hH];exact trivial) (.inl rfl) (fun b' u hb hu=>(Heap.get?_update_other s.heap (Obj.mapSeq f) (Ne.symm hb)).trans hu) ⟨_,q⟩ ?_;exact⟨hz,its',_,hv,q⟩
def Inv.iQ{its:List VL}{t':Nat}(I:Inv X pins σ H s)(hv:Vals ys its)(hz:ys.length≤sizeLine) :
  Inv X pins σ (upd H s.heap.objs.size (.lst ys)) {s with heap:=s.heap.push { cls:=.type "list",data:=.seq its.toArray},toks:=t'} :=
 I.laid (fun _ _ q=>aD _ q) (aG _) ⟨hz,its,0,hv,Heap.get?_push_size _ rfl⟩
def Inv.fresh(I:Inv X pins σ H s):H s.heap.objs.size=none:=I.Bj.fresh (aG _)
def Inv.R6(I:Inv X pins σ H s)(hH:H l=some (.lst xs)):xs.length≤sizeLine∧∃(its:List VL) (n:Nat),Vals xs its∧xs.length=its.length∧s.heap.get? l=some { cls:=.type "list",data:=.seq its.toArray n}:=by
 obtain⟨z,its,n,r,e⟩:=I.Bj l _ hH;exact⟨z,its,n,r,r.length,e⟩
def Tp{n:Nat}(h:n≤sizeLine):Builtin.List.listTooLong n=false:=by
 unfold Builtin.List.listTooLong;exact aZ (by lia)
end
section
variable{X:Cx}
def Vv:V→List V→Hp→VK→Prop:=fun x vs H Q=>∃l xs y,x=.ref l∧vs=[y]∧H l=some (.lst xs)∧xs.length<sizeLine∧Q .CT (upd H l (.lst (xs++[y])))
def Fx:kW X "list.append" Vv:=by
 intro pins s σ H x vs v us Q I rx rv h;obtain⟨l,xs,y,rfl,rfl,hH,hz,q⟩:=h;cases rx;obtain⟨u,rfl,ru⟩:=rv.one;obtain⟨z,its,n,r,hl,e⟩:=I.R6 hH;refine call_meets F.slot_list_append ⟨_,e,rfl⟩ F.entry_list_append (F.args_list_append_2 _ _) (PySem.list_append l its.toArray n u (by rw[List.size_toArray];lia)) ⟨e,?_⟩;refine⟨.CT,_,I.jA (its':=its++[u]) hH e (by simp) (r.append (.cons ru .nil)) ?_,rfl,q⟩;rw[List.length_append,List.length_singleton]
 lia
def WL:V→List V→Hp→VK→Prop:=fun x vs H Q=>∃l b xs zs,x=.ref l∧vs=[.ref b]∧H l=some (.lst xs)∧H b=some (.lst zs)∧xs.length+zs.length≤sizeLine∧Q .CT (upd H l (.lst (xs++zs)))
def N0:kW X "list.extend" WL:=by
 intro pins s σ H x vs v us Q I rx rv h;obtain⟨l,b,xs,zs,rfl,rfl,hH,hB,hz,q⟩:=h;cases rx;obtain⟨u,rfl,ru⟩:=rv.one;cases ru;obtain⟨z,its,n,r,hl,e⟩:=I.R6 hH;obtain⟨z2,its2,n2,r2,hl2,e2⟩:=I.R6 hB;have hsz:its.toArray.size+its2.toArray.size≤sizeLine:=by rw[List.size_toArray,List.size_toArray];lia
 have hlong:¬(!its.toArray.isEmpty&&Builtin.List.listTooLong (its.toArray.size+its2.toArray.size))=true:=by
  rw[Tp hsz,Bool.and_false];exact aL
 refine call_meets F.slot_list_extend ⟨_,e,rfl⟩ F.entry_list_extend (F.args_list_extend_2 _ _)
  (AutoSeq1.list_extend_list_list_0 l its.toArray n b its2.toArray n2 hlong (by rw[List.size_toArray];lia) (by lia)) ⟨e,e2,?_⟩
 refine⟨.CT,_,I.jA (its':=its++its2) hH e (by simp) (r.append r2) ?_,rfl,q⟩;rw[List.length_append]
 lia
def lJ:R2:=fun x y H Q=>∃l b xs zs,x=.ref l∧y=.ref b∧H l=some (.lst xs)∧H b=some (.lst zs)∧xs.length+zs.length≤sizeLine∧∀p,H p=none→Q (.ref p) (upd H p (.lst (xs++zs)))
def YX:D0 X (binaryOp .Add) lJ:=by
 intro pins s σ H x y v u Q I rx ry h;obtain⟨l,b,xs,zs,rfl,rfl,hH,hB,hz,q⟩:=h;cases rx;cases ry;obtain⟨z,its,n,r,hl,e⟩:=I.R6 hH;obtain⟨z2,its2,n2,r2,hl2,e2⟩:=I.R6 hB;refine PySem.P.add_list e e2 ?_ (by rw[List.size_toArray,List.size_toArray];lia);have ea:its.toArray++its2.toArray=(its++its2).toArray:=by simp
 rw[ea];exact⟨.ref _,_,I.iQ (t':=s.toks) (r.append r2) (by rw[List.length_append];lia),rfl,q _ I.fresh⟩
def lM:R2:=fun x y H Q=>∃l k xs,x=.ref l∧y=.int k∧H l=some (.lst xs)∧-(2^63)≤k∧k<2^63∧xs.length*k.toNat≤sizeLine ∧
 ∀p,H p=none→Q (.ref p) (upd H p (.lst (List.replicate k.toNat xs).flatten))
def len_rep{α:Type}(xs:List α)(k:Nat):(List.replicate k xs).flatten.length=k*xs.length:=by
 induction k with
 |zero=>simp
 |succ k ih=>rw[List.replicate_succ,List.flatten_cons,List.length_append,ih,Nat.succ_mul,Nat.add_comm]
def fw:D0 X (binaryOp .Mult) lM:=by
 intro pins s σ H x y v u Q I rx ry h;obtain⟨l,k,xs,rfl,rfl,hH,h1,h2,hz,q⟩:=h;cases rx;obtain⟨t,rfl⟩:=ry;obtain⟨z,its,n,r,hl,e⟩:=I.R6 hH;have hlen:its.toArray.size*k.toNat≤sizeLine:=by rw[List.size_toArray,←hl];exact hz
 have hcap:¬its.toArray.size*k.toNat > (2^63-1) / 8:=by
  have:(sizeLine:Nat)≤(2^63-1) / 8:=by decide
  lia
 have hfit:¬(!Builtin.List.listFitsIndex k)=true:=by
  rw[fitsIndex_both h1 h2];exact aL
 have hlong:¬Builtin.List.listTooLong (its.toArray.size*k.toNat)=true:=by
  rw[Tp hlen];exact aL
 have hnew:List.foldl (fun x1 x2=>x1++x2) #[] (List.replicate (if its.toArray.isEmpty=true then 0 else k.toNat) its.toArray)=(List.replicate k.toNat its).flatten.toArray:=by
  have f0:∀m:Nat,List.foldl (fun x1 x2=>x1++x2) #[] (List.replicate m its.toArray)=(List.replicate m its).flatten.toArray:=fun m=>by
   have:=foldl_rep its m [];rw[List.nil_append]at this;exact this
  rw[f0];cases its with
  |nil=>simp
  |cons a r'=>rw[if_neg (by simp)]
 refine wpAny_binaryOp_repeat_ref (T := "list") (U := "int") (by decide) ⟨_,e,rfl⟩ (fun s'=>typeIs_int s' k t) noFill_list_mul F.fills_int_mul F.slot_int_rmul repeat_list F.slot_int_index.lookup
  (call_meets F.slot_int_rmul (typeIs_int s k t) F.entry_int_rmul (F.args_int_rmul_2 _ _) (int___rmul___int_list k t l its.toArray n)
   ⟨e,rfl,⟨_,e,rfl⟩,call_meets F.slot_list_mul ⟨_,e,rfl⟩ F.entry_list_mul (F.args_list_mul_2 _ _) (AutoListH.list___mul___list_int_3 l its.toArray n k t hfit hcap hlong) ⟨e,?_⟩⟩)
 rw[hnew];exact⟨.ref _,_,I.iQ (t':=s.toks) (r.rep k.toNat) (by rw[len_rep,Nat.mul_comm];exact hz),rfl,q _ I.fresh⟩
end
end L2
namespace Att
open PySem PySem.W PySem.Calls PyProof.Rows
def QV{P:Params}{h:Heap}:∀(ns:List Int) (vs:List VL),WellAll P h vs (ns.map WData.int)→IntsAre vs ns:=by
 intro ns
 induction ns with
 |nil =>
  intro vs w;rw[List.map_nil]at w;cases w;exact .nil
 |cons n ns ih =>
  intro vs w;rw[List.map_cons]at w;cases w with
  |cons a b =>
   cases a;exact .cons _ _ (ih _ b)
def Yu{l:OpenLaw}{n:Nat}(hn:l.most=some n){P:Params}{h:Heap}{args:List WData}{vals:List VL}
 (hpre:l.row.toRowW.claim.pre args=true)(hwl:WellAll P h vals args) :
  ∃a vs ns,vals=[Value.ref a]∧args=[WData.list (ns.map WData.int)]∧h.get? a=some { cls:=.type "list",data:=.seq vs.toArray}∧IntsAre vs ns∧ns.length≤n:=by
 have hsh:WShape.hasAll [] args [.list .int]=true:=(pre_splitW hpre).1;have hc:l.pre.holds [] { args:=args}=true:=(pre_splitW hpre).2;obtain⟨d,r,rfl,h1,h2⟩:=hasAllW_cons hsh;obtain rfl:=hasAllW_nil h2;obtain⟨xs,rfl,h3⟩:=hasW_list h1;obtain⟨ns,rfl⟩:=items_int h3;have hlen:ns.length≤n:=by
  unfold OpenLaw.pre at hc;have h4:(WTm.not (.lt (.lit (.int (n:Int))) (.len (.arg 0)))).holds [] { args:=[.list (ns.map .int)]}=true:=by
   have h4:=(holds_andW hc).1;rw[hn]at h4;exact h4
  have h5:=condW_of h4 (w_not (w_lt w_lit (w_len_list (w_arg rfl))));rw[List.length_map]at h5;refine Nat.le_of_not_lt fun q=>?_;have q':(n:Int)<((ns.length:Nat):Int):=by lia
  first
   |(rw[decide_eq_true q']at h5;exact absurd h5 (by decide))
   |(simp at h5;lia)
 cases hwl with
 |cons w1 w2 =>
  cases w2;cases w1 with
  |list ho hall=>exact⟨_,_,ns,rfl,rfl,ho,QV ns _ hall,hlen⟩
def ZD(l:OpenLaw)(args:List WData):l.row.toRowW.claim.post args (.bool true) args=true :=
 postW_of (r:=l.row.toRowW) (X:=(true==true))
  (show WShape.has [] (.bool true) .bool=true by first|rfl|decide|simp[WShape.has,WShape.arms,WShape.armsAll])
  (show(WTm.eq .res (.lit (.bool true))).value [] { args:=args,res:=some (.bool true),after:=args}=some (.bool (true==true)) from w_eq_bool (w_res rfl) w_lit) rfl
def VU{l:OpenLaw}{n:Nat}{q:Program}{loose:List Str}{XP:(Str→Option VL)→Heap→Prop}{YP:World→Heap→Prop}{d:DefRec}
 (hn:l.most=some n)(hdf:d.params.defaults=[])
 (call:∀(w:World) (s₀ s₁:SD) (mg mb:Str→Option VL) (fa:AD) (o:Obj) (pm cd doc:VL) (a:AD) (vs:List VL) (ns:List Int),
   Ground q loose [] XP w s₀ mg mb s₁.heap→YP w s₁.heap →
   s₁.heap.get? fa=some o→o.data=.func (docDef d.name d.params d.body d.scope pm cd doc)→s₁.heap.CodeRec cd d.name→mg d.name=some (.ref fa) →
   s₁.heap.get? a=some { cls:=.type "list",data:=.seq vs.toArray}→IntsAre vs ns→ns.length≤n→s₁.gens=#[] →
   codeAny (model l.prog w) callerA (.call (.ref fa) ⟨[.ref a],[]⟩) (fun r s'=>r=.ok (.ret (.bool true))∧OldK s₁.heap s'.heap∧s'.os=s₁.os∧AllBare s'.gens) s₁) :
  WalkO q loose XP YP l.row.toRowW d [] (fun f vs=>PySem.call f vs):=by
 intro w s₀ s₁ mg mb G Y fa o pm cd doc dV kV ho hd hcd hD hmg hg args vals as hpre hlay hrd hwl hlo;obtain rfl:dV=.none:=Dflts.none hD hdf;obtain rfl:kV=.none:=Dflts.noKw hD;obtain⟨a,vs,ns,rfl,rfl,hobj,hints,hlen⟩:=Yu hn hpre hwl;refine enter_call (codeAny_mono (call w s₀ s₁ mg mb fa o pm cd doc a vs ns G Y ho (fd_plain hd) hcd hmg hobj hints hlen hg) fun r s' hq=>?_);obtain⟨rfl,h2,h3,h4⟩:=hq;exact⟨.inl ⟨.bool true,.bool true,[],rfl,fun _=>rfl,.bool true,ZD l _,fun _=>⟨List.Pairwise.nil,fun _ hm=>(nomatch hm)⟩⟩,h2,h3,h4⟩
end Att
namespace L2
open PySem PySem.Spec PyProof.Rows
def Sl:∀ {vs:List VL} {ns:List Int},IntsAre vs ns→Vals (ns.map V.int) vs
 |_,_,.nil=>.nil
 |_,_,.cons n t h=>.cons ⟨t,rfl⟩ (Sl h)
def ZR(H:Hp):Prop:=∀b,H b=none∨∃o xs,H b=some (.Hf o (.lst xs))
def ZL{P:Program}{w:World}{K:Fg}{mg mb:Str→Option VL}{CX:JE}{k:Nat}{fa a:AD}{fd:FuncData}{x:Str}{sp:Sp}{s₁:SD}{vs:List VL}{ns:List Int}
 (KX:K.In s₁.heap)(hns:s₁.heap.Ns mainGlobals mg)(hb:s₁.heap.Ns builtinsNs mb)(hbb:∀x:Str,x ≠ "__name__" → mb x=bootBuiltins x)(hlim:s₁.heap.NoLimit)(hg:s₁.gens=#[])
 (ha:s₁.heap.get? a=some { cls:=.type "list",data:=.seq vs.toArray})(hi:IntsAre vs ns)(hl:ns.length≤sizeLine)(hr:Fc k callerA)
 (F:∀base:Heap,K.In base→base.Ns mainGlobals mg→AV P w K mg base CX k fa fd [x] sp)(hbind:∀(s:SD) (u:VL),BindsTo s fd ⟨[u],[]⟩ [(x,u)])
 (hsp:∀H:Hp,ZR H→Bo K H a (ns.map V.int)→sp [.ref a] H (fun v _=>v=.bl true) fun _ _ _=>False)
 (hCX:∀H e s',CX [] H s₁ (fun _ _ _=>False) e s'→False) :
  codeAny (model P w) callerA (.call (.ref fa) ⟨[.ref a],[]⟩) (fun r s'=>r=.ok (.ret (.bool true))∧OldK s₁.heap s'.heap∧s'.os=s₁.os∧AllBare s'.gens) s₁:=by
 have rv:=Sl hi;have lenV:=hi.length;have core:∀H:Hp,ZR H→Bo K H a (ns.map V.int)→GA P w H s₁.heap→(∀b,H b≠none→b=a)→(H a≠none→K.lookup a=none) →
   codeAny (model P w) callerA (.call (.ref fa) ⟨[.ref a],[]⟩) (fun r s'=>r=.ok (.ret (.bool true))∧OldK s₁.heap s'.heap∧s'.os=s₁.os∧AllBare s'.gens) s₁:=by
  intro H hO hS Bj hA hK;have base_of:∀ {b:AD} {o:Obj},s₁.heap.get? b=some o→H b=none→(Mx s₁.heap H).get? b=some o:=fun e n=>a6 e n;have noA:∀ {b:AD} {o:Obj} {es:Array DictEntry} {ep:Nat},s₁.heap.get? b=some o→o.data=.dict es ep→H b=none:=fun {b o es ep} e d=>by
   cases q:H b with
   |none=>rfl
   |some u =>
    have e':b=a:=hA b (by rw[q];simp);subst e';rw[ha]at e;cases e;have d':Data.seq vs.toArray _=Data.dict es ep:=d;cases d'
  have nsK:∀ {b:AD} {m:Str→Option VL},s₁.heap.Ns b m→(Mx s₁.heap H).Ns b m:=fun {b m} ⟨o,es,ep,e,d,r⟩=>⟨o,es,ep,base_of e (noA e d),d,r⟩;have hKb:K.In (Mx s₁.heap H):=fun b o e=>base_of (KX b o e) (by
   cases q:H b with
   |none=>rfl
   |some u =>
    have e':b=a:=hA b (by rw[q];simp);subst e';rw[hK (by rw[q];simp)]at e;cases e)
  have hM:Mod K mg (Mx s₁.heap H):=⟨hKb,nsK hns,⟨mb,nsK hb,hbb⟩,let⟨mc,h1,h2⟩:=hlim;⟨mc,nsK h1,h2⟩⟩;have e0:Wq P w K mg (Mx s₁.heap H) callerA [] s₁ H:=⟨rfl,hM,fun b o e=>dc e,Nat.le_of_eq (YH _ _),trivial,fun b hb=>absurd (show b∈([]:List AD) from hb) (by simp),Bj,.of_eq hg⟩;refine codeAny_mono ((F _ hKb (nsK hns)).run callerA [] s₁ H ⟨[.ref a],[]⟩ [.ref a] [.ref a] _ _ hr e0 (hbind s₁ (.ref a)) (.cons rfl .nil) (hsp H hO hS)) fun r s' h=>?_;cases r with
  |error e=>exact(hCX H e s' h).elim
  |ok fl =>
   cases fl with
   |next=>exact False.elim h
   |brk=>exact False.elim h
   |cont=>exact False.elim h
   |ret u =>
    obtain⟨v,H',os,bare,un,hok',r',q⟩:=h;have q':v=.bl true:=q;subst q';obtain rfl:u=Value.bool true:=r';refine⟨rfl,OldK.of_keep fun b o e=>?_,os,bare⟩;cases q:H b with
    |none=>exact un.keep b o e q (by intro z;exact absurd (show b∈([]:List AD) from z) (by simp)) (by simp)
    |some u =>
     rcases hO b with z|⟨ob,xs,z⟩
     ·rw[q]at z;cases z
     ·have z2:=un.Ls b ob _ z;obtain⟨e1,_⟩:=Bj b _ z;obtain⟨e2,_⟩:=hok' b _ z2;rw[e]at e1;cases e1;exact e2
 cases hk:K.lookup a with
 |some o =>
  have e:=KX a o hk;rw[ha]at e;cases e;refine core (fun _=>none) (fun _=>.inl rfl) (.inr ⟨_,vs.toArray,_,hk,rfl,rfl,rfl,by rw[List.size_toArray,lenV];exact hl,by simpa using rv⟩) (fun b u z=>by have z':(none:Option HO)=some u:=z;cases z') (fun b z=>absurd rfl z) fun z=>absurd rfl z
 |none =>
  refine core (fun b=>if b=a then some (.Hf { cls:=.type "list",data:=.seq vs.toArray} (.lst (ns.map V.int))) else none) (fun b=>?_) (.inl (.inr ⟨{ cls:=.type "list",data:=.seq vs.toArray},if_pos rfl⟩)) (fun b u z=>?_) (fun b z=>?_) fun _=>hk
  ·by_cases hb:b=a
   ·exact .inr ⟨_,_,if_pos hb⟩
   ·exact .inl (if_neg hb)
  ·by_cases hb:b=a
   ·have z':=(if_pos hb).symm.trans z;cases z';subst hb;exact⟨ha,by rw[List.length_map];exact hl,vs,_,rv,ha⟩
   ·have z':=(if_neg hb).symm.trans z;cases z'
  ·by_cases hb:b=a
   ·exact hb
   ·exact absurd (if_neg hb) z
def eF{l:PySem.W.OpenLaw}{n k:Nat}{q:Program}{loose:List Str}{XP:(Str→Option VL)→Heap→Prop}{YP:World→Heap→Prop}{d:DefRec}{K:Params→Fg}{CX:World→JE}{sp:World→Sp}{x:Str}
 (hn:l.most=some n)(hn2:n≤sizeLine)(hdf:d.params.defaults=[])(hr:Fc k callerA)
 (hY:∀(w:World) (h:Heap),YP w h→(K w.params).In h)
 (F:∀(w:World) (mg:Str→Option VL) (fa:AD) (h:Heap),(K w.params).In h→h.Ns mainGlobals mg→mg d.name=some (.ref fa) →
   ∃fd:FuncData,(∀(s:SD) (u:VL),BindsTo s fd ⟨[u],[]⟩ [(x,u)]) ∧
    ∀base:Heap,(K w.params).In base→base.Ns mainGlobals mg→AV l.prog w (K w.params) mg base (CX w) k fa fd [x] (sp w))
 (hsp:∀(w:World) (H:Hp) (a:AD) (ns:List Int),ns.length≤n→ZR H→Bo (K w.params) H a (ns.map V.int)→sp w [.ref a] H (fun v _=>v=.bl true) fun _ _ _=>False)
 (hCX:∀(w:World) (H:Hp) (s:SD) (e:VL) (s':SD),CX w [] H s (fun _ _ _=>False) e s'→False) :
  PySem.W.WalkO q loose XP YP l.row.toRowW d [] (fun f vs=>PySem.call f vs):=by
 refine Att.VU hn hdf fun w s₀ s₁ mg mb fa o pm cd doc a vs ns G Y ho hd hcd hmg hobj hints hlen hg=>?_;have KX:=hY w _ Y;obtain⟨fd,hb,hF⟩:=F w mg fa _ KX G.T.g hmg;exact ZL KX G.T.g G.T.b G.T.builtins G.T.nolimit hg hobj hints (aW hlen hn2) hr hF hb (fun H hO hS=>hsp w H a ns hlen hO hS) fun H e s'=>hCX w H s₁ e s'
def HG(s:Stmt):Arguments:=match s with
 |.FunctionDef _ a _ _ _ _ _ _ _ _=>a
 |_=>{ posonlyargs:=[],args:=[],vararg:=none,kwonlyargs:=[],kw_defaults:=[],kwarg:=none,defaults:=[]}
def FJ(s:Stmt):List Stmt:=match s with
 |.FunctionDef _ _ b _ _ _ _ _ _ _=>b
 |_=>[]
def Ab(s:Stmt):Scope:=match s with
 |.FunctionDef _ _ _ _ _ _ sc _ _ _=>sc
 |_=>{ kind:=.function,names:=[],isGenerator:=false,isCoroutine:=false}
abbrev Ar:JE:=fun _ _ _ _ _ _=>False
abbrev E0:XK:=fun _ _ _=>False
def jX{X:Cx}:Passes Ar X E0:=fun _ _ _ _ _ _ _ h=>h.elim
structure WU(K:Fg)(x qual:Str)(st:Stmt)(f:Addr)(fd:FuncData):Prop where
 ex:∃(oc:Value) (od:Option Addr) (kV doc pm:Value) (an:Option Addr) (cdv ct:Value) (osl:Array (Option Value)),
  fd=PySem.W.fnOf x qual (HG st) (FJ st) (Ab st) .none kV doc pm an cdv ct∧K.lookup f=some ⟨oc,od,.func fd,osl⟩∧PySem.W.codeIn K cdv qual=true
 kp:PySem.W.keepIn K (.ref f)=true
section
variable{P:Program}{w:World}{K:Fg}{mg:Str→Option VL}{base:Heap}
def WU.ok{x qual:Str}{st:Stmt}{f:AD}{fd:FuncData}{N ps:List Str}{k:Nat}{sp:Sp}(F:WU K x qual st f fd)(S:Av N ps (Ab st))(len:∀vs H Q E,sp vs H Q E→vs.length=ps.length)
 (hbody:∀(cdv:VL) (A:Around) (outer:List Env) (s:SD) (H:Hp) (vs:List V) (Q:VK) (E:XK),Fc k (A.deeper (envOfC qual (Ab st) s.heap.objs.size f cdv))→sp vs H Q E →
   ∃t,LS (Nv Ar P w K mg base N qual (Ab st) f cdv A outer s H E).Vq (FJ st) t∧t { nx:=fun _ H'=>Q .CT H',rt:=Q} (start N vs) H):AV P w K mg base Ar (k+1) f fd ps sp:=by
 obtain⟨oc,od,kV,doc,pm,an,cdv,ct,osl,rfl,lk,hcd⟩:=F.ex;refine jQ lk hcd S len fun A outer s H vs Q E hr hsp=>?_;obtain⟨t,h,q⟩:=hbody cdv A outer s H vs Q E hr hsp;exact⟨t,h.Vq,q⟩
def WU.binds{x qual:Str}{st:Stmt}{f:AD}{fd:FuncData}{ps:List Str}(F:WU K x qual st f fd)
 (h:∀(kV doc pm:VL) (an:Option AD) (cdv ct:VL) (us:List VL),us.length=ps.length→bindArgs (PySem.W.fnOf x qual (HG st) (FJ st) (Ab st) .none kV doc pm an cdv ct) ⟨us,[]⟩=pure (ps.zip us)):Binds K fd ps []:=by
 obtain⟨oc,od,kV,doc,pm,an,cdv,ct,osl,rfl,lk,hcd⟩:=F.ex;exact .all (h kV doc pm an cdv ct)
def YQ{x qual:Str}{st:Stmt}{f:AD}{oc:VL}{od an:Option AD}{osl:Array (Option VL)}{kV doc pm cdv ct:VL}(l:K.lookup f=some ⟨oc,od,.func (PySem.W.fnOf x qual (HG st) (FJ st) (Ab st) .none kV doc pm an cdv ct),osl⟩)
 (c:PySem.W.codeIn K cdv qual=true)(k:PySem.W.keepIn K (.ref f)=true):WU K x qual st f (PySem.W.fnOf x qual (HG st) (FJ st) (Ab st) .none kV doc pm an cdv ct):=⟨⟨oc,od,kV,doc,pm,an,cdv,ct,osl,rfl,l,c⟩,k⟩
end
def Sa{n:Nat}(h:n≤1000):n<sizeLine:=aV h (by decide)
section
variable{X:Cx}
def pv(i:Nat){x:Str}{pos:Pos}(hN:X.N[i]? = some x:=by rfl)(hv:i7 X.env.scope x:=by first|exact Or.inl rfl|exact Or.inr (Or.inl rfl)|exact Or.inr (Or.inr rfl))(hd:(x==("__debug__" : Str))=false:=by decide)
 (hcd:(x==("__classdict__" : Str))=false:=by decide):PE X (.Name x pos) (Nr i):=f7 hN hv hd hcd
end
def lL{A B:Prop}(h:B):if false=true then A else B:=by
 rw[if_neg aL];exact h
def Rf{A B:Prop}(h:A):if true=true then A else B:=by
 rw[if_pos rfl];exact h
def HS{c A B:Prop}[Decidable c](h1:c→A)(h2:¬c→B):if c then A else B:=by
 by_cases h:c
 ·rw[if_pos h];exact h1 h
 ·rw[if_neg h];exact h2 h
def Ak(H H':Hp):Prop:=∀b o,H b=some o→H' b=some o
def Ak.refl(H:Hp):Ak H H:=fun _ _ h=>h
def Ak.trans{H H1 H2:Hp}(a:Ak H H1)(b:Ak H1 H2):Ak H H2:=fun c o h=>b c o (a c o h)
def Ak.seq{K:Fg}{H H':Hp}{a:AD}{xs:List V}(e:Ak H H')(h:Bo K H a xs):Bo K H' a xs:=by
 rcases h with (h|⟨o,h⟩)|h
 ·exact .inl (.inl (e _ _ h))
 ·exact .inl (.inr ⟨o,e _ _ h⟩)
 ·exact .inr h
section
variable{X:Cx}
def OU(i j:Int):Prop:=∃m:Nat,m≤1000000∧i.natAbs<2^m∧j.natAbs<2^m
def OU.ok{i j:Int}(h:OU i j):IntMulOk i j:=by
 obtain⟨m,hm,h1,h2⟩:=h;exact IntMulOk.of_le (intBits_le_iff.mpr h1) (intBits_le_iff.mpr h2) (by lia)
def Fm:D0 X (binaryOp .Mult) (rI (fun i j=>Rp i j∨OU i j) fun i j=>.int (i*j)) :=
 V0 fun _ _ _ _ _ _ _ hc q=>mul_int q (hc.elim (fun z=>z.ok) fun z=>z.ok)
def jw(_i j:Int):Prop:=j≠0∧∃m:Nat,m≤9000∧j.natAbs<2^m
def Gw:D0 X (binaryOp .FloorDiv) (rI jw fun i j=>.int (i.fdiv j)):=V0 fun i j _ _ _ _ _ hc q=>by
 obtain⟨h0,m,hm,h1⟩:=hc;refine floordiv_int h0 q (.inl (PyProof.noPylong_of_log2 ?_));have hne:j.natAbs≠0:=by lia
 have:j.natAbs.log2<m:=(Nat.log2_lt hne).mpr h1
 lia
mutual
def Br(K:Fg)(H:Hp):PD→V→Prop
 |.none,v=>v=.CT
 |.bool b,v=>v=.bl b
 |.int i,v=>v=.int i
 |.str x,v=>v=.str x
 |.tuple ds,v=>∃a xs,v=.ref a∧CK K H a xs∧HL K H ds xs
 |.list ds,v=>∃a xs,v=.ref a∧Bo K H a xs∧HL K H ds xs
 |.dict _,_=>False
def HL(K:Fg)(H:Hp):List PD→List V→Prop
 |[],xs=>xs=[]
 |d::ds,xs=>∃x r,xs=x::r∧Br K H d x∧HL K H ds r
end
mutual
def Br.reads{pins:List (AD×Obj)}{σ:St}{H:Hp}{s:SD}(I:Inv X pins σ H s):∀ {d:PD} {v:V} {u:VL},Br X.K H d v→RelV v u→∃as,Reads s.heap u d as
 |.none,_,u,h,r=>by rw[Br]at h;subst h;cases r;exact⟨_,.none⟩
 |.bool b,_,u,h,r=>by rw[Br]at h;subst h;cases r;exact⟨_,.bool b⟩
 |.int i,_,u,h,r=>by rw[Br]at h;subst h;obtain⟨t,rfl⟩:=r;exact⟨_,.int i t⟩
 |.str x,_,u,h,r=>by rw[Br]at h;subst h;obtain⟨t,rfl⟩:=r;exact⟨_,.str x t⟩
 |.tuple ds,_,u,h,r=>by
  rw[Br]at h;obtain⟨a,xs,e1,h1,h2⟩:=h;subst e1;cases r;obtain⟨its,rv,⟨o,e,c,n,hd⟩,_⟩:=I.tuple h1;obtain⟨as,ra⟩:=HL.reads I h2 rv;exact⟨_,.tuple e c hd (by simpa using ra)⟩
 |.list ds,_,u,h,r=>by
  rw[Br]at h;obtain⟨a,xs,e1,h1,h2⟩:=h;subst e1;cases r;obtain⟨its,rv,⟨o,n,e,c,_,hd⟩,_⟩:=I.list h1;obtain⟨as,ra⟩:=HL.reads I h2 rv;exact⟨_,.list e c hd (by simpa using ra)⟩
 |.dict _,_,_,h,_=>by rw[Br]at h;exact h.elim
def HL.reads{pins:List (AD×Obj)}{σ:St}{H:Hp}{s:SD}(I:Inv X pins σ H s):∀ {ds:List PD} {xs:List V} {us:List VL},HL X.K H ds xs→Vals xs us→∃as,ReadsAll s.heap us ds as
 |[],_,us,h,r=>by rw[HL]at h;subst h;cases r;exact⟨_,.nil⟩
 |_::_,_,us,h,r=>by
  rw[HL]at h;obtain⟨x,q,e1,h1,h2⟩:=h;subst e1;cases r with
  |cons r1 r2 =>
   obtain⟨as,ra⟩:=Br.reads I h1 r1;obtain⟨bs,rb⟩:=HL.reads I h2 r2;exact⟨_,.cons ra rb⟩
end
def Zl(K:Fg)(neg:Bool):R2:=fun x y H Q=>∃d e,Br K H d x∧Br K H e y∧SeqAt.shaped d=true∧SeqAt.shaped e=true∧Q (.bl (if neg then !PyData.eqv d e else PyData.eqv d e)) H
def jI(hu:X.A.units+64<cLine):D0 X (compareOp .Eq) (Zl X.K false):=by
 intro pins s σ H x y v u Q I rx ry h;obtain⟨d,e,h1,h2,s1,s2,q⟩:=h;obtain⟨as,ra⟩:=Br.reads I h1 rx;obtain⟨bs,rb⟩:=Br.reads I h2 ry;exact eq_dataH ra rb s1 s2 hu ⟨.bl _,H,I,rfl,q⟩
def iC(hu:X.A.units+64<cLine):D0 X (compareOp .NotEq) (Zl X.K true):=by
 intro pins s σ H x y v u Q I rx ry h;obtain⟨d,e,h1,h2,s1,s2,q⟩:=h;obtain⟨as,ra⟩:=Br.reads I h1 rx;obtain⟨bs,rb⟩:=Br.reads I h2 ry;exact ne_dataH ra rb s1 s2 hu ⟨.bl _,H,I,rfl,q⟩
end
end L2
set_option maxHeartbeats 4000000
namespace L2
open PySem PySem.Spec PyProof.Rows
def NI(X:Cx)(ifs:List Expr)(t:TT):Prop :=
 ∀(pins:List (AD×Obj)) (s:SD) (σ:St) (H:Hp) (Q:Bool→Hp→Prop),Inv X pins σ H s→t σ H Q →
  wpAny (model X.prog X.w) X.A (forIn ifs true fun c r=>if r=true then do let ok ←isTrue c X.env (eval c X.env);pure (ForInStep.yield ok) else pure (ForInStep.yield r)) (TP X pins σ Q) X.xe s
def Qq:TT:=fun _ H Q=>Q true H
def L8{X:Cx}:NI X [] Qq:=fun _ _ σ H _ I h=>wpAny_tests_nil ⟨H,I,h⟩
def eS{X:Cx}{c:Expr}{t:TT}(h:PT X c t):NI X [c] t:=by
 intro pins s σ H Q I hw;simp only[List.forIn_cons,List.forIn_nil,if_true];refine Wb (Wb (CG (h pins s σ H Q I hw) fun b s1 q=>?_));exact aB (aB q)
def G5(N XN:List Str)(sc xsc:Scope):List (Option Nat)→Nat→Bool
 |[],_=>true
 |none::r,i=>G5 N XN sc xsc r (i+1)
 |some j::r,i=>(match N[i]?,XN[j]? with
   |some n,some m=>n==m&&sc.names.lookup n==some .free&&xsc.names.lookup n==some .cell
   |_,_=>false)&&G5 N XN sc xsc r (i+1)
def Pt{N XN:List Str}{sc xsc:Scope}:∀ {fr:List (Option Nat)} {k:Nat},G5 N XN sc xsc fr k=true→∀ {i j:Nat},fr[i]? = some (some j) →
  ∃n,N[k+i]? = some n∧XN[j]? = some n∧sc.names.lookup n=some .free∧xsc.names.lookup n=some .cell
 |[],_,_,i,j,e=>by simp at e
 |none::r,k,h,0,j,e=>by simp at e
 |none::r,k,h,i+1,j,e=>by
  have q:=Pt (fr:=r) (k:=k+1) h (i:=i) (j:=j) (by simpa using e);have z:k+(i+1)=k+1+i:=by lia
  rw[z];exact q
 |some j'::r,k,h,0,j,e=>by
  have e':j'=j:=by simpa using e
  subst e';rw[G5,Bool.and_eq_true]at h;have h1:=h.1;split at h1
  ·rename_i n m hn hm;simp only[Bool.and_eq_true,beq_iff_eq]at h1;obtain⟨⟨rfl,h2⟩,h3⟩:=h1;exact⟨n,by simpa using hn,hm,h2,h3⟩
  ·cases h1
 |some j'::r,k,h,i+1,j,e=>by
  rw[G5,Bool.and_eq_true]at h;have q:=Pt (fr:=r) (k:=k+1) h.2 (i:=i) (j:=j) (by simpa using e);have z:k+(i+1)=k+1+i:=by lia
  rw[z];exact q
def carry(fr:List (Option Nat))(σ:St):St:=fr.map fun o=>match o with
 |some j=>(σ[j]?).join
 |none=>none
def Yb{fr:List (Option Nat)}{σ:St}{i:Nat}{v:V}(h:(carry fr σ)[i]? = some (some v)):∃j,fr[i]? = some (some j)∧σ[j]? = some (some v):=by
 unfold carry at h;rw[List.getElem?_map]at h;cases e:fr[i]? with
 |none=>rw[e]at h;cases h
 |some o =>
  rw[e]at h;cases o with
  |none=>simp at h
  |some j =>
   refine⟨j,rfl,?_⟩;simp only[Option.map_some,Option.some.injEq]at h;cases q:σ[j]? with
   |none=>rw[q]at h;cases h
   |some w=>rw[q]at h;simp at h;rw[h]
def Iq{env:Env}:∀(names:List (Str×NameKind)) (cs:List (Str×AD)),(∀x∈names,x.2=NameKind.free→∃c,env.cells.lookup x.1=some c)→(∀x c,cs.lookup x=some c→env.cells.lookup x=some c) →
  ∃cl,(forIn names cs (fun(x:Str×NameKind) (r:List (Str×AD))=>do if(x.2==NameKind.free)=true then do let a ←cellOf env x.1;pure (ForInStep.yield ((x.1,a)::r)) else pure (ForInStep.yield r)):Sem (List (Str×AD)))=pure cl ∧
   (∀x c,cl.lookup x=some c→env.cells.lookup x=some c)∧(∀x,(∃c,cs.lookup x=some c)→∃c,cl.lookup x=some c)∧∀x∈names,x.2=NameKind.free→∃c,cl.lookup x.1=some c
 |[],cs,_,h2=>⟨cs,rfl,h2,fun _ q=>q,fun _ z=>(by cases z)⟩
 |(n,k)::r,cs,h1,h2=>by
  rw[List.forIn_cons];by_cases hk:(k==NameKind.free)=true
  ·obtain⟨c,hc⟩:=h1 (n,k) aT (by simpa using hk);have h2':∀x c',((n,c)::cs).lookup x=some c'→env.cells.lookup x=some c':=fun x c' e=>by
    rw[List.lookup_cons]at e;cases hx:x==n with
    |true=>rw[hx]at e;have:=beq_iff_eq.mp hx;subst this;simp at e;rw[←e];exact hc
    |false=>rw[hx]at e;exact h2 x c' e
   obtain⟨cl,q1,q2,q3,q4⟩:=Iq r ((n,c)::cs) (fun x hx=>h1 x (aR _ hx)) h2';have hn:∃c',cl.lookup n=some c':=q3 n ⟨c,by rw[List.lookup_cons,beq_self_eq_true]⟩;refine⟨cl,?_,q2,fun x hx=>?_,fun x hx hf=>?_⟩
   ·simp only[hk,if_true];unfold cellOf;rw[hc];exact q1
   ·refine q3 x ?_;rw[List.lookup_cons];cases hxn:x==n with
    |true=>exact⟨c,rfl⟩
    |false=>exact hx
   ·rcases aJ.mp hx with e|hx
    ·subst e;exact hn
    ·exact q4 x hx hf
  ·obtain⟨cl,q1,q2,q3,q4⟩:=Iq r cs (fun x hx=>h1 x (aR _ hx)) h2;refine⟨cl,?_,q2,q3,fun x hx hf=>?_⟩
   ·simp only[hk];exact q1
   ·rcases aJ.mp hx with e|hx
    ·subst e;exact absurd (by simpa using hf) hk
    ·exact q4 x hx hf
def Be(X:Cx)(scope:Scope)(cl:List (Str×AD))(N:List Str)(C:AD)(s₀:SD)(H₀:Hp)(fp:List AD):Cx where
 prog:=X.prog
 w:=X.w
 K:=X.K
 mg:=X.mg
 base:=X.base
 A:=X.A
 N:=N
 s₀:=s₀
 H₀:=H₀
 env:=compEnvC scope cl C X.env
 outer:=X.stack
 stack:=X.stack
 ex:=fp
 fn:=fun _=>false
 calm:=X.calm
 pn:=[]
 xe:=fun _ _=>False
def TV(wi:TI)(fr:List (Option Nat))(ix:Nat)(tif:TT)(te:TE):TE:=fun σ H Q=>wi σ H fun J H1=>∀D,H1 D=none→∃W:Nat→Nat→List V→Hp→Prop,(∃m,W 0 m [] (upd H1 D (.lst []))) ∧
 ∀i m ys H,W i m ys H→H D=some (.lst ys)∧((J.stop i H∧Q (.ref D) H)∨(J.go i H∧ys.length<sizeLine∧∀x H',J.GX i H x H' →
  tif ((carry fr σ).set ix (some x)) H' fun b H2=>if b=true then te ((carry fr σ).set ix (some x)) H2 fun y H3=>H3 D=some (.lst ys)∧∃m',m'<m∧W (i+1) m' (ys++[y]) (upd H3 D (.lst (ys++[y])))
   else ∃m',m'<m∧W (i+1) m' ys H2))
structure Ej(scope:Scope)(N:List Str)(x:Str)(ix:Nat):Prop where
 kind:scope.kind=.function
 cell:∀y∈scope.names,y.2≠.cell
 names:∀y∈scope.names,y.2=.local→scope.names.lookup y.1=some .local
 free:∀y∈scope.names,y.2=.free→scope.names.lookup y.1=some .free
 loc:scope.names.lookup x=some .local
 nd:N.Nodup
 at_:N[ix]? = some x
def lookup_mem{names:List (Str×NameKind)}{n:Str}{k:NameKind}:names.lookup n=some k→(n,k)∈names:=by
 induction names with
 |nil=>intro h;cases h
 |cons y r ih =>
  intro h;obtain⟨m,j⟩:=y;rw[List.lookup_cons]at h;cases e:n==m with
  |true=>rw[e]at h;have:=beq_iff_eq.mp e;subst this;simp at h;subst h;exact aT
  |false=>rw[e]at h;exact aR _ (ih h)
def T8{scope:Scope}{env:Env}(hc:∀y∈scope.names,y.2≠.cell){n:Str}(h:(relabel scope env).names.lookup n=some .cell∨(relabel scope env).names.lookup n=some .free):∃k,(n,k)∈scope.names∧k=NameKind.free:=by
 have key:∀k',(relabel scope env).names.lookup n=some k'→(k'=.cell∨k'=.free)→∃k,(n,k)∈scope.names∧k=NameKind.free:=fun k' h hk=>by
  have hm:=lookup_mem h;unfold relabel at hm;obtain⟨⟨m,k⟩,hy,e⟩:=aN.mp hm;dsimp only at e;by_cases hcond:(k==NameKind.free&&env.scope.kind==.function&&env.kindOf m==some .cell)=true
  ·rw[if_pos hcond]at e
   injection e with e1 e2
   subst e1;refine⟨k,hy,?_⟩;simp only[Bool.and_eq_true,beq_iff_eq]at hcond;exact hcond.1.1
  ·rw[if_neg hcond]at e
   injection e with e1 e2
   subst e1 e2;rcases hk with rfl|rfl
   ·exact absurd rfl (hc _ hy)
   ·exact⟨_,hy,rfl⟩
 rcases h with h|h
 ·exact key _ h (.inl rfl)
 ·exact key _ h (.inr rfl)
section
variable{X:Cx}{elt iter:Expr}{x:Str}{px pos:Pos}{ifs:List Expr}{scope:Scope}{wi:TI}{fr:List (Option Nat)}{ix:Nat}{tif:TT}{te:TE}{N:List Str}
def LO{prog:Program}{w:World}{A:Around}{R:Result→SD→Prop}{s:SD}{elt target iter:Expr}{ifs:List Expr}{scope:Scope}{pos:Pos}{it acc:VL}{env:Env}(I:Nat→SD→Prop)
 (turn:∀n s,I n s→wpAny (model prog w) A (pyNext it) (fun r s₁=>match r with
   |none=>R (.ok .next) s₁
   |some v=>wpAny (model prog w) A (letOwnedTupleGo target it v>>=fun _=>assign target env v) (fun _ s₂ =>
     wpAny (model prog w) A (forIn ifs true fun c r=>if r=true then do let ok ←isTrue c env (eval c env);pure (ForInStep.yield ok) else pure (ForInStep.yield r)) (fun ok s₃ =>
      if ok=true then wpAny (model prog w) A (eval elt env) (fun x s₄ =>
       wpAny (model prog w) A (call (.builtin "list.append") [acc,x]) (fun _ s₅=>∃m,m<n∧I m s₅) (notedBy (model prog w) A env fun e s'=>R (.error e) s') s₄) (notedBy (model prog w) A env fun e s'=>R (.error e) s') s₃
      else ∃m,m<n∧I m s₃) (notedBy (model prog w) A env fun e s'=>R (.error e) s') s₂) (notedBy (model prog w) A env fun e s'=>R (.error e) s') s₁) (notedBy (model prog w) A env fun e s'=>R (.error e) s') s)
 (n:Nat)(h:I n s) :
  codeAny (model prog w) A (.compLoop (.ListComp elt [⟨target,iter,ifs,0⟩] scope pos) 0 it acc env) R s:=by
 refine codeAny_loop rfl I (fun n s hI=>?_) n h;show wpAny _ A ((compTurn (.ListComp elt [⟨target,iter,ifs,0⟩] scope pos) 0 it acc env).onRaise (fun x=>do noteFrame x env;theTreesLotGoes x)) _ _ s;refine wpAny_noted ?_;rw[compTurn_list];refine Wb (wpAny_standAt (Wb (ah (turn n s hI) (fun r s₁ h₁=>?_) fun _ _ h'=>h')));cases r with
 |none=>exact aB h₁
 |some v =>
  show wpAny (model prog w) A (letOwnedTupleGo target it v>>=fun _=>assign target env v>>=_) _ _ s₁;rw[←bind_assoc];refine Wb (ah h₁ (fun _ s₂ h₂=>Wb (ah h₂ (fun ok s₃ h₃=>?_) fun _ _ h'=>h')) fun _ _ h'=>h');cases ok with
  |false=>exact aB ⟨rfl,h₃⟩
  |true =>
   exact Wb (Wb (ah h₃ (fun x s₄ h₄=>Wb (ah h₄ (fun _ s₅ h₅=>aB (aB ⟨rfl,h₅⟩)) fun _ _ h'=>h')) fun _ _ h'=>h'))
def PM{pins:List (AD×Obj)}{σ:St}{H2:Hp}{s2:SD}{Q:VK}{it:AD}{fp:List AD}{tn:Nat→Heap→Prop}{J:It}{cl:List (Str×AD)}{E:VL→SD→Prop}{RR:VL→AD→Result→SD→Prop}
 (S:Ej scope N x ix)(hcalm:X.calm=true){tgE:Expr}{g:TG}(Rv:St→Prop)(r0:Rv (carry fr σ))(hpg:∀C,PG (Be X scope cl N C s2 H2 fp) tgE g)(hfr:G5 N X.N scope X.env.scope fr 0=true)(hlen:fr.length=N.length)
 (hif:∀cl C s₀ H₀ fp,NI (Be X scope cl N C s₀ H₀ fp) ifs tif)(he:∀cl C s₀ H₀ fp,PE (Be X scope cl N C s₀ H₀ fp) elt te)
 (I2:Inv X pins σ H2 s2)(T:Turn X.prog X.w X.K tgE J fp it tn)(st2:tn 0 s2.heap)(f2:∀b∈fp,L3 X pins H2 b)
 (c1:∀x c,cl.lookup x=some c→X.env.cells.lookup x=some c)(c2:∀x∈scope.names,x.2=NameKind.free→∃c,cl.lookup x.1=some c)
 (W:∀D,H2 D=none→∃W:Nat→Nat→List V→Hp→Prop,(∃m,W 0 m [] (upd H2 D (.lst []))) ∧
   ∀i m ys H,W i m ys H→H D=some (.lst ys)∧((J.stop i H∧Q (.ref D) H)∨(J.go i H∧ys.length<sizeLine∧∀x H',J.GX i H x H'→∀σ',Rv σ'→g x σ' H' fun σ6 H6=>Rv σ6 ∧
    tif σ6 H6 fun b H2=>if b=true then te σ6 H2 fun y H3=>H3 D=some (.lst ys)∧∃m',m'<m∧W (i+1) m' (ys++[y]) (upd H3 D (.lst (ys++[y])))
     else ∃m',m'<m∧W (i+1) m' ys H2)))
 (fin:∀(D C:AD) (s':SD) (H':Hp) m,s'.heap.Ns C m→Q (.ref D) H'→(∀h',Heap.SameBut C s'.heap h'→Inv X pins σ H' { s' with heap:=h'})→C≠D→(∀b o,s2.heap.get? b=some o→b≠C)→H' C=none→s2.heap.objs.size≤C→RR (.ref D) C (.ok .next) s') :
  wpAny (model X.prog X.w) X.A (newList []) (fun acc s₃=>wpAny (model X.prog X.w) X.A (newFunctionEnv scope X.env.globals cl [] X.env.qual none .none (some X.env)) (fun cenv s₄ =>
   codeAny (model X.prog X.w) X.A (.compStart (.ListComp elt [⟨tgE,iter,ifs,0⟩] scope pos) 0 (.ref it) acc {cenv with scope:=relabel scope X.env}) (RR acc cenv.locals) s₄) E s₃) E s2:=by
 refine ae (wpAny_newFunctionEnv S.cell (by intro y hy;simp at hy) (fun h₁ hns₁ hsb₁=>?_) S.kind);dsimp only at hns₁ hsb₁ ⊢;generalize hHp:s2.heap.push { cls:=.type "list",dict:=none,data:=.seq ([]:List VL).toArray}=Hq at hns₁ hsb₁ ⊢;have hC:Hq.objs.size=s2.heap.objs.size+1:=by rw[←hHp,Heap.size_push]
 have hDC:s2.heap.objs.size≠Hq.objs.size:=by rw[hC];exact aO (bN _)
 have below:∀b,b<s2.heap.objs.size→b≠Hq.objs.size∧b≠s2.heap.objs.size:=fun b hb=>⟨by rw[hC];exact aO (bG hb),Nat.ne_of_lt hb⟩;have old:∀b o,s2.heap.get? b=some o→h₁.get? b=some o:=fun b o e=>hsb₁.extBut b o (below b (aE e)).1 (aD _ (hHp ▸ aD _ e));have hacc:h₁.get? s2.heap.objs.size=some { cls:=.type "list",data:=.seq ([]:List VL).toArray}:=hsb₁.extBut _ _ hDC (aD _ (hHp ▸ aP _ rfl));have hD2:H2 s2.heap.objs.size=none:=I2.Bj.fresh (aG _);have hC2:H2 Hq.objs.size=none:=I2.Bj.fresh (by rw[hC];exact Nat.le_succ _);have fpo:∀b∈fp,b<s2.heap.objs.size:=fun b hb=>by
  obtain⟨o,e,_⟩:=T.obj _ _ st2 b hb;exact aE e
 obtain⟨W,⟨m0,w0⟩,turn⟩:=W s2.heap.objs.size hD2;have ok:(Be X scope cl N Hq.objs.size s2 H2 fp).Ok:=by
  refine⟨I2.ok.mod,S.kind,I2.ok.glob,I2.ok.blt,by show s2.heap.objs.size≤Hq.objs.size;rw[hC];exact Nat.le_succ _,?_,?_,?_,fun _=>I2.ok.hd hcalm,I2.ok.frames,.inl rfl,?_,I2.bs,Nat.le_trans I2.ok.SQ I2.sz,?_,?_,I2.stack,I2.WZ⟩
  ·exact fun a b c h1 h2=>I2.ok.inj a b c (c1 _ _ h1) (c1 _ _ h2)
  ·intro y hy;obtain⟨k,hm,rfl⟩:=T8 S.cell hy;exact c2 _ hm rfl
  ·intro y c hf;cases hf
  ·intro b hb;refine⟨(below b (fpo b hb)).1,fun y c e=>?_⟩;obtain⟨_,_,_,_,f5,_⟩:=f2 b hb;exact f5 y c (c1 _ _ e)
  ·intro b o e hb;obtain⟨_,_,_,f4,_,_⟩:=f2 b hb;rcases f4 with z|z
   ·exact I2.ok.VP b o e z
   ·exact absurd (aK (aE e) (aW I2.ok.SQ z)) (Nat.lt_irrefl _)
  ·intro b hb hs;obtain⟨_,f1,f3,_⟩:=f2 b hb;rcases aJ.mp (I2.Us b hs) with z|z
   ·exact f1 z
   ·exact f3 z
 have I4:Inv (Be X scope cl N Hq.objs.size s2 H2 fp) [] (carry fr σ) (upd H2 s2.heap.objs.size (.lst [])) {s2 with heap:=h₁,toks:=s2.toks+([]:List (Str×VL)).length}:=by
  refine⟨ok,rfl,I2.bare,Un.laid old (aG _) hD2,⟨_,hns₁,fun i y v h1 h2 h3=>?_⟩,fun y c e=>?_,?_,fun y c e=>?_,fun p hp=>(by cases hp),I2.Bj.laid old (aG _) ⟨bF _,[],0,.nil,hacc⟩,?_⟩
  ·obtain⟨j,e1,e2⟩:=Yb h2;obtain⟨n,n1,n2,n3,n4⟩:=Pt hfr e1;rw[Nat.zero_add]at n1;have:y=n:=by
    have h1':N[i]? = some y:=h1;rw[h1']at n1;exact aa n1
   subst this;obtain⟨m,hn,hl⟩:=I2.loc;obtain⟨u,ru,lk⟩:=hl j y v n2 e2 (.inr (.inl n4));refine⟨u,ru,?_⟩;obtain⟨c,hc⟩:=c2 _ (lookup_mem n3) rfl;rcases lk with ⟨k1,_⟩|⟨_,c',hc',hcell⟩
   ·have k1':X.env.scope.names.lookup y=some .local:=k1;rw[n4]at k1';cases k1'
   ·have:=c1 _ _ hc;rw[hc']at this;cases this;refine .inr ⟨?_,c,hc,hcell.keeps old⟩;rcases h3 with z|z|z
    ·obtain⟨k,hm⟩:∃k,(y,k)∈scope.names∧k=NameKind.local:=by
      have hm:=lookup_mem z;have hm':(y,NameKind.local)∈(relabel scope X.env).names:=hm;unfold relabel at hm';obtain⟨⟨m',k⟩,hy,e⟩:=aN.mp hm';dsimp only at e;by_cases hcond:(k==NameKind.free&&X.env.scope.kind==.function&&X.env.kindOf m'==some .cell)=true
      ·rw[if_pos hcond]at e;injection e with _ e2';cases e2'
      ·rw[if_neg hcond]at e;injection e with e1' e2';subst e1' e2';exact⟨_,hy,rfl⟩
     obtain⟨hm,rfl⟩:=hm;have:=S.names _ hm rfl;rw[n3]at this;cases this
    ·exact .inl z
    ·exact .inr z
  ·obtain⟨v,z⟩:=I2.cell y c (c1 _ _ e);exact⟨v,z.keeps old⟩
  ·show upd H2 s2.heap.objs.size _ Hq.objs.size=none;rw[AZ (Ne.symm hDC)];exact hC2
  ·obtain⟨v,o,ho,_⟩:=I2.cell y c (c1 _ _ e);rw[AZ (below c (aE ho)).2];exact I2.JY y c (c1 _ _ e)
  ·show(carry fr σ).length=N.length;unfold carry;rw[List.length_map];exact hlen
 have fpX:∀(p:List (AD×Obj)) (H':Hp),(∀q∈p,q.1∈fp→False)→(∀b∈fp,H' b=none)→∀b∈fp,L3 (Be X scope cl N Hq.objs.size s2 H2 fp) p H' b:=fun p H' hp hn b hb=>by
  obtain⟨_,f1,f3,f4,f5,_⟩:=f2 b hb;refine⟨hn b hb,(below b (fpo b hb)).1,fun hs=>ok.Tg b hb hs,.inl hb,fun y c e=>f5 y c (c1 _ _ e),fun q hq e=>?_⟩;exact hp q hq (e ▸ hb)
 have hxv:(relabel scope X.env).names.lookup x=some .local:=lookup_relabel_local S.loc;have loop:∀s₃:SD,s₃={s2 with heap:=h₁,toks:=s2.toks+([]:List (Str×VL)).length} →
   codeAny (model X.prog X.w) X.A (.compLoop (.ListComp elt [⟨tgE,iter,ifs,0⟩] scope pos) 0 (.ref it) (.ref s2.heap.objs.size) (compEnvC scope cl Hq.objs.size X.env)) (RR (.ref s2.heap.objs.size) Hq.objs.size) s₃:=by
  rintro s₃ rfl;refine LO (fun n s'=>∃i ys σ' H',Inv (Be X scope cl N Hq.objs.size s2 H2 fp) [] σ' H' s'∧Rv σ'∧tn i s'.heap∧(∀b∈fp,H' b=none)∧W i n ys H') ?_ m0
   ⟨0,[],carry fr σ,_,I4,r0,T.keep _ _ _ st2 fun b _ o e=>old b o e,fun b hb=>by rw[AZ (below b (fpo b hb)).2];exact(f2 b hb).1,w0⟩
  rintro n s3 ⟨i,ys,σ3,H3,I3,hσ,st3,fr3,w3⟩;obtain⟨hD3,way⟩:=turn i n ys H3 w3;rcases way with ⟨stop,qn⟩|⟨go,hsz,step⟩
  ·refine ah (T.done (Be X scope cl N Hq.objs.size s2 H2 fp) rfl rfl rfl hcalm i [] s3 σ3 H3 (fun _ _=>False) I3 (fpX [] H3 (fun _ z=>by cases z) fr3) st3 stop) (fun r s4 ⟨hr,I5⟩=>?_) fun _ _ z=>z.elim;subst hr;obtain⟨m,hn,_⟩:=id I5.loc;refine fin _ _ s4 H3 m hn qn (fun h' hs'=>?_) (Ne.symm hDC) (fun b o e=>(below b (aE e)).1) I5.free (by rw[hC];exact Nat.le_succ _);have nC:∀b u,H3 b=some u→b≠Hq.objs.size:=fun b u e z=>by
    have:=I5.free;rw[show(Be X scope cl N Hq.objs.size s2 H2 fp).env.locals=Hq.objs.size from rfl,←z,e]at this;cases this
   have keepU:Un (NG X.stack) fp H2 H3 s2.heap h':=by
    have u:=I5.base;refine⟨fun b o e n hb hx=>?_,fun b o e n hb hx=>?_,fun b o e n hx=>u.free b o e n hx,fun b o e hx=>?_,u.FC,u.Ls,u.Mn⟩
    ·exact(hs'.2 b (below b (aE e)).1).trans (u.keep b o e n hb hx)
    ·obtain⟨sl,e1⟩:=u.slot b o e n hb hx;exact⟨sl,(hs'.2 b (below b (aE e)).1).trans e1⟩
    ·obtain⟨o',e1⟩:=u.there b o e hx;exact⟨o',(hs'.2 b (below b (aE e)).1).trans e1⟩
   have hok':GA X.prog X.w H3 h':=fun b u e=>(I5.Bj b u e).Lq (fun c v hc q=>(hs'.2 c (by
    rcases hc with rfl|hc
    ·exact nC _ _ e
    ·exact nC _ _ hc)).trans q) (fun _ q=>q) fun _ _ q=>q
   refine I2.jz (s':={s4 with heap:=h'}) (ch:=fp) I5.os keepU hok' I5.bare fun b hb=>?_;obtain⟨_,f1,_,f4,f5,f6⟩:=f2 b hb;exact⟨f4,f1,f5,f6⟩
  ·refine ah (T.item (Be X scope cl N Hq.objs.size s2 H2 fp) rfl rfl rfl hcalm i [] s3 σ3 H3 (fun _ _=>False) I3 (fpX [] H3 (fun _ z=>by cases z) fr3) st3 go) (fun r s4 ⟨u,hr,h4⟩=>?_) fun _ _ z=>z.elim;subst hr;show wpAny (model X.prog X.w) X.A (letOwnedTupleGo tgE (.ref it) u>>=fun _=>assign tgE (compEnvC scope cl Hq.objs.size X.env) u) _ _ s4;refine Wb (ah h4 (fun _ s5 ⟨xv,H5,I5,r5,y5,st5,fr5⟩=>?_) fun _ _ z=>z.elim);have I5':=I5.pinned (fpX [] H5 (fun _ z=>by cases z) fr5) (T.obj _ _ st5);refine ah (hpg _ _ s5 σ3 H5 xv u _ I5' r5 (step xv H5 y5 σ3 hσ)) (fun _ s6 ⟨σ6,H6,I6,rv6,step5⟩=>?_) fun _ _ z=>z.elim;refine ah (hif _ _ _ _ _ _ s6 _ H6 _ I6 step5) (fun b s7 ⟨H7,I7,q7⟩=>?_) fun _ _ z=>z.elim;have again:∀ {s8:SD} {H8:Hp} {k:Nat} {zs:List V},Inv (Be X scope cl N Hq.objs.size s2 H2 fp) ([]++Na fp s5.heap) σ6 H8 s8→W (i+1) k zs H8→k<n →
     ∃m,m<n∧∃i ys σ' H',Inv (Be X scope cl N Hq.objs.size s2 H2 fp) [] σ' H' s8∧Rv σ'∧tn i s8.heap∧(∀b∈fp,H' b=none)∧W i m ys H':=fun {s8 H8 k zs} I8 w8 hk=>by
    refine⟨k,hk,i+1,zs,_,H8,I8.Mb,rv6,T.keep _ _ _ st5 fun b hb o e=>(I8.pin (b,o) (aS _ (aS _ (KW hb e)))).1,fun b hb=>?_,w8⟩;obtain⟨o,e,d⟩:=T.obj _ _ st5 b hb;exact(I8.pin (b,o) (aS _ (aS _ (KW hb e)))).2.1
   cases b with
   |false =>
    rw[if_neg aL]at q7 ⊢;obtain⟨k,hk,w7⟩:=q7;exact again I7 w7 hk
   |true =>
    rw[if_pos rfl]at q7 ⊢;refine ah (he _ _ _ _ _ _ s7 _ H7 _ I7 q7) (fun yv s8 ⟨y,H8,I8,r8,hD8,k,hk,w8⟩=>?_) fun _ _ z=>z.elim;refine ah (Fx (X:=Be X scope cl N Hq.objs.size s2 H2 fp) _ s8 _ H8 (.ref s2.heap.objs.size) [y] (.ref s2.heap.objs.size) [yv] (fun _ H9=>H9=upd H8 s2.heap.objs.size (.lst (ys++[y]))) I8 rfl (.cons r8 .nil) ⟨_,ys,y,rfl,rfl,hD8,hsz,rfl⟩) (fun _ s9 ⟨_,H9,I9,_,e9⟩=>?_) fun _ _ z=>z.elim;subst e9;exact again I9 w8 hk
 exact codeAny_compStart_list (loop _ rfl) (T.self X.A 0 _ _ _ (T.keep _ _ _ st2 fun b _ o e=>old b o e) (loop _ rfl))
def Xe{pins:List (AD×Obj)}{σ:St}{H2:Hp}{s2:SD}{Q:VK}{it:AD}{fp:List AD}{tn:Nat→Heap→Prop}{J:It}{cl:List (Str×AD)}{E:VL→SD→Prop}{RR:VL→AD→Result→SD→Prop}
 (S:Ej scope N x ix)(hcalm:X.calm=true)(hfr:G5 N X.N scope X.env.scope fr 0=true)(hlen:fr.length=N.length)
 (hif:∀cl C s₀ H₀ fp,NI (Be X scope cl N C s₀ H₀ fp) ifs tif)(he:∀cl C s₀ H₀ fp,PE (Be X scope cl N C s₀ H₀ fp) elt te)
 (I2:Inv X pins σ H2 s2)(T:Turn X.prog X.w X.K (.Name x px) J fp it tn)(st2:tn 0 s2.heap)(f2:∀b∈fp,L3 X pins H2 b)
 (c1:∀x c,cl.lookup x=some c→X.env.cells.lookup x=some c)(c2:∀x∈scope.names,x.2=NameKind.free→∃c,cl.lookup x.1=some c)
 (W:∀D,H2 D=none→∃W:Nat→Nat→List V→Hp→Prop,(∃m,W 0 m [] (upd H2 D (.lst []))) ∧
   ∀i m ys H,W i m ys H→H D=some (.lst ys)∧((J.stop i H∧Q (.ref D) H)∨(J.go i H∧ys.length<sizeLine∧∀x H',J.GX i H x H' →
    tif ((carry fr σ).set ix (some x)) H' fun b H2=>if b=true then te ((carry fr σ).set ix (some x)) H2 fun y H3=>H3 D=some (.lst ys)∧∃m',m'<m∧W (i+1) m' (ys++[y]) (upd H3 D (.lst (ys++[y])))
     else ∃m',m'<m∧W (i+1) m' ys H2)))
 (fin:∀(D C:AD) (s':SD) (H':Hp) m,s'.heap.Ns C m→Q (.ref D) H'→(∀h',Heap.SameBut C s'.heap h'→Inv X pins σ H' { s' with heap:=h'})→C≠D→(∀b o,s2.heap.get? b=some o→b≠C)→H' C=none→s2.heap.objs.size≤C→RR (.ref D) C (.ok .next) s') :
  wpAny (model X.prog X.w) X.A (newList []) (fun acc s₃=>wpAny (model X.prog X.w) X.A (newFunctionEnv scope X.env.globals cl [] X.env.qual none .none (some X.env)) (fun cenv s₄ =>
   codeAny (model X.prog X.w) X.A (.compStart (.ListComp elt [⟨.Name x px,iter,ifs,0⟩] scope pos) 0 (.ref it) acc {cenv with scope:=relabel scope X.env}) (RR acc cenv.locals) s₄) E s₃) E s2:=by
 have hxv:(relabel scope X.env).names.lookup x=some .local:=lookup_relabel_local S.loc;refine PM S hcalm (fun σ'=>∀v,σ'.set ix v=(carry fr σ).set ix v) (fun _=>rfl) (fun C=>A2 (X:=Be X scope cl N C s2 H2 fp) S.nd S.at_ (.inl hxv) (.inr hxv)) hfr hlen hif he I2 T st2 f2 c1 c2 (fun D hD=>?_) fin;obtain⟨W,w0,st⟩:=W D hD;refine⟨W,w0,fun i m ys H w=>?_⟩;obtain⟨h1,h2|⟨h2,h3,h4⟩⟩:=st i m ys H w
 ·exact⟨h1,.inl h2⟩
 ·refine⟨h1,.inr ⟨h2,h3,fun x H' hy σ' hr=>?_⟩⟩;have:=h4 x H' hy;rw[←hr]at this;exact⟨fun v=>by rw[List.set_set,hr],this⟩
def ei(S:Ej scope N x ix)(hcalm:X.calm=true)(hfr:G5 N X.N scope X.env.scope fr 0=true)(hlen:fr.length=N.length)(hfree:∀y∈scope.names,y.2=.free→X.env.scope.names.lookup y.1=some .cell∨X.env.scope.names.lookup y.1=some .free)
 (hi:PI X (.Name x px) iter wi)(hif:∀cl C s₀ H₀ fp,NI (Be X scope cl N C s₀ H₀ fp) ifs tif)(he:∀cl C s₀ H₀ fp,PE (Be X scope cl N C s₀ H₀ fp) elt te)
 (hs:∀x,foldedSetIterable iter X.env x=pure x:=by intro _;rfl):PE X (.ListComp elt [⟨.Name x px,iter,ifs,0⟩] scope pos) (TV wi fr ix tif te):=by
 intro pins s σ H Q I hw;obtain⟨cl,hclos,c1,_,c2⟩:=Iq (env:=X.env) scope.names [] (fun y hy hf=>I.ok.has y.1 (hfree y hy hf)) (fun y c z=>by cases z);have hclos':closureFor scope X.env=pure cl:=by
  have e:closureFor scope X.env=((forIn scope.names [] (fun(x:Str×NameKind) (r:List (Str×AD))=>do if(x.2==NameKind.free)=true then do let a ←cellOf X.env x.1;pure (ForInStep.yield ((x.1,a)::r)) else pure (ForInStep.yield r)):Sem (List (Str×AD)))>>=fun cs=>pure cs):=rfl;rw[e,hclos]
  rfl
 rw[eval_ListComp];refine wpAny_comprehension_free (use:=none) rfl hs hclos' S.kind S.names (CG (hi pins s σ H _ I hw) fun v s1 h1=>CG h1 fun itv s2 h2=>?_);obtain⟨it,fp,tn,J,H2,e,I2,T,st2,f2,W⟩:=h2;subst e;refine Xe (RR:=fun acc C=>compPost (model X.prog X.w) X.A X.xe none (EP X pins σ Q) acc C) S hcalm hfr hlen hif he I2 T st2 f2 c1 c2 W ?_;intro D C s' H' m hn q hI _ _ _ _;exact⟨m,hn,fun h' hs'=>⟨.ref D,H',hI h' hs',rfl,q⟩⟩
end
end L2
namespace FM
def gi(a b:Int):Int:=(Int.gcd a b:Int)
def Uo(a b:Int):Int.gcd b (a.fmod b)=Int.gcd a b:=by
 have e:a.fmod b=a-b*a.fdiv b:=Int.fmod_def a b;rw[e,Int.gcd_comm a b];exact Int.gcd_sub_mul_left_right b a (a.fdiv b)
def SN(a b:Int)(hb:b≠0):(a.fmod b).natAbs<b.natAbs:=by
 rcases Int.lt_or_gt_of_ne hb with h|h
 ·have h1:-(a.fmod b)=(-a).fmod (-b):=by
   rw[Int.fmod_def,Int.fmod_def,Int.neg_fdiv_neg];have:-b*a.fdiv b=-(b*a.fdiv b):=Int.neg_mul _ _
   lia
  have h2:=bI (-a) (show 0 < -b by lia);have h3:=Int.fmod_lt_of_pos (-a) (show 0 < -b by lia)
  lia
 ·have h2:=bI a h;have h3:=Int.fmod_lt_of_pos a h
  lia
def Ny{a b:Int}(hb:b≠0):0<gi a b:=by
 have:0<Int.gcd a b:=Int.gcd_pos_of_ne_zero_right a hb;unfold gi;lia
def cE{a b:Int}(hb:b≠0):(gi a b).natAbs≤b.natAbs:=by
 have h:Int.gcd a b ∣ b.natAbs:=by
  have:=Int.gcd_dvd_right a b;exact Int.natAbs_dvd_natAbs.mpr this
 have h2:0<b.natAbs:=by lia
 have:=Nat.le_of_dvd h2 h;unfold gi;lia
def gs(t b:Int):Int:=if b<0 then -gi t b else gi t b
def cW{t b:Int}(hb:b≠0):gs t b≠0:=by
 have:=Ny (a:=t) hb;unfold gs;split<;>lia
def cH{t b:Int}(hb:b≠0):(gs t b).natAbs≤b.natAbs:=by
 have:=cE (a:=t) hb;unfold gs;split<;>lia
def HK{g x k:Int}(hg:g≠0)(e:x=g*k):x.fdiv g=k:=by
 subst e;exact Int.mul_fdiv_cancel_left k hg
def PU(a b:Int):gi a b ∣ a:=Int.gcd_dvd_left a b
def OQ(a b:Int):gi a b ∣ b:=Int.gcd_dvd_right a b
def UI{t b:Int}(hb:b≠0):t.fdiv (gs t b)=(Rat.divInt t b).num:=by
 have hp:=Ny (a:=t) hb;obtain⟨k,hk⟩:=PU t b;rw[Rat.num_divInt,Int.gcd_comm b t];show t.fdiv (gs t b)=b.sign*t / gi t b;unfold gs;generalize gi t b=g at hp hk ⊢;rcases Int.lt_or_gt_of_ne hb with h|h
 ·rw[if_pos h,Int.sign_eq_neg_one_of_neg h,HK (k:=-k) (by lia) (by rw[hk];simp[Int.mul_neg,Int.neg_mul])];have:-1*t=g*(-k):=by rw[hk];simp[Int.mul_neg]
  rw[this,Int.mul_ediv_cancel_left _ (by lia)]
 ·rw[if_neg (by lia),Int.sign_eq_one_of_pos h,HK (k:=k) (by lia) hk,Int.one_mul,hk,Int.mul_ediv_cancel_left _ (by lia)]
def Tu{t b:Int}(hb:b≠0):b.fdiv (gs t b)=((Rat.divInt t b).den:Int):=by
 have hp:=Ny (a:=t) hb;obtain⟨k,hk⟩:=OQ t b;rw[Rat.den_divInt,if_neg hb,Int.gcd_comm b t];have e:(((b.natAbs / Int.gcd t b:Nat)):Int)=(b.natAbs:Int) / gi t b:=by unfold gi;simp
 rw[e];unfold gs;generalize gi t b=g at hp hk ⊢;rcases Int.lt_or_gt_of_ne hb with h|h
 ·rw[if_pos h,HK (k:=-k) (by lia) (by rw[Int.neg_mul_neg];exact hk)];have:(b.natAbs:Int)=g*(-k):=by rw[Int.mul_neg,←hk];lia
  rw[this,Int.mul_ediv_cancel_left _ (by lia)]
 ·rw[if_neg (by lia),HK (k:=k) (by lia) hk];have:(b.natAbs:Int)=g*k:=by rw[←hk];lia
  rw[this,Int.mul_ediv_cancel_left _ (by lia)]
def Gd(a b:Int):(a.fdiv b).natAbs≤a.natAbs:=by
 cases a with
 |ofNat n =>
  cases n with
  |zero =>
   have e:Int.fdiv (.ofNat 0) b=0:=Int.zero_fdiv b;rw[e];exact bF _
  |succ k =>
   cases b with
   |ofNat j=>exact Nat.div_le_self (k+1) j
   |negSucc j=>exact Nat.succ_le_succ (Nat.div_le_self k (j+1))
 |negSucc k =>
  cases b with
  |ofNat j =>
   cases j with
   |zero=>exact bF _
   |succ j=>exact Nat.succ_le_succ (Nat.div_le_self k (j+1))
  |negSucc j=>exact Nat.div_le_self (k+1) (j+1)
def hW{t b:Int}(hb:b≠0):(Rat.divInt t b).num.natAbs≤t.natAbs:=by
 rw[←UI hb];exact Gd _ _
def fi{t b:Int}(hb:b≠0):(Rat.divInt t b).den≤b.natAbs:=by
 have h:=Gd b (gs t b);rw[Tu hb]at h
 simpa using h
def QT(p:Rat):(p.den:Int)≠0:=by
 have:=p.den_nz
 lia
def En(p:Rat):Rat.divInt p.num p.den=p:=Rat.num_divInt_den p
def iB(p q:Rat):Rat.divInt (p.num*q.den+q.num*p.den) (p.den*q.den)=p+q:=by
 rw[←Rat.divInt_add_divInt _ _ (QT p) (QT q),En,En]
def Pw(p q:Rat):Rat.divInt (p.num*q.num) (p.den*q.den)=p*q:=by
 rw[←Rat.divInt_mul_divInt,En,En]
def Oy(p q:Rat):(p.den:Int)*q.den≠0:=Int.mul_ne_zero (QT p) (QT q)
def fE{p q:Rat}(h1:p.num=q.num)(h2:(p.den:Int)=(q.den:Int)):p=q:=Rat.ext h1 (by lia)
def QS{x y:Int}{m n:Nat}(hx:x.natAbs<2^m)(hy:y.natAbs<2^n):(x*y).natAbs<2^(m+n):=by
 rw[Int.natAbs_mul,Nat.pow_add];exact Nat.mul_lt_mul'' hx hy
def Oi{x:Nat}{m n:Nat}(hx:x<2^m)(h:m≤n):x<2^n:=aK hx (ai (by decide) h)
def Fits(p:Rat)(n:Nat):Prop:=p.num.natAbs<2^n∧p.den<2^n
def Fits.mono{p:Rat}{m n:Nat}(h:Fits p m)(l:m≤n:=by decide):Fits p n:=⟨Oi h.1 l,Oi h.2 l⟩
def Fits.d{p:Rat}{n:Nat}(h:Fits p n):((p.den:Int)).natAbs<2^n:=by simpa using h.2
def Fits.Ye{t b:Int}{n:Nat}(hb:b≠0)(h1:t.natAbs<2^n)(h2:b.natAbs<2^n):Fits (Rat.divInt t b) n :=
 ⟨aV (hW hb) h1,Nat.lt_of_le_of_lt (fi hb) h2⟩
def dd{p q:Rat}{m n:Nat}(h:Fits p m)(k:Fits q n):((p.den:Int)*q.den).natAbs<2^(m+n):=QS h.d k.d
def nn{p q:Rat}{m n:Nat}(h:Fits p m)(k:Fits q n):(p.num*q.num).natAbs<2^(m+n):=QS h.1 k.1
def Fits.times{p q:Rat}{m n:Nat}(h:Fits p m)(k:Fits q n):Fits (p*q) (m+n):=by
 rw[←Pw];exact .Ye (Oy p q) (nn h k) (dd h k)
end FM
namespace FM
def eH(a b:Int):Int.gcd (if a<0 then -a else a) (if b<0 then -b else b)=Int.gcd a b:=by
 split<;>split<;>simp[Int.gcd_neg,Int.neg_gcd]
def abs_nonneg(a:Int):0≤(if a<0 then -a else a):=by split<;>lia
def iM{g a b:Int}(h:Int.gcd g 0=Int.gcd a b)(h0:0≤g):g=gi a b:=by
 unfold gi;rw[←h,Int.gcd_zero_right]
 lia
def dz{g a b:Int}(h:Int.gcd g 0=Int.gcd a b):(if g<0 then -g else g)=gi a b:=by
 unfold gi;rw[←h,Int.gcd_zero_right];split<;>lia
def fmod_nonneg{g l:Int}(hl:l≠0)(h:0≤l):0≤g.fmod l:=bI g (by lia)
end FM
namespace L2
open PySem PySem.Spec PyProof.Rows
structure Fn(K:Fg)(mg:Str→Option Value)(x:Str)(st:Stmt)(ps:List Str)(f:Addr)(fd:FuncData):Prop where
 F:WU K x x st f fd
 b:Binds K fd ps []
 m:mg x=some (.ref f)
section
variable{X:Cx}{k:Nat}{f:AD}{fd:FuncData}{ps:List Str}{sp:Sp}{x:Str}{st:Stmt}{p pos:Pos}{e:Expr}{es:List Expr}{t:TA}
def Dy(T:Fn X.K X.mg x st ps f fd)(G:AV X.prog X.w X.K X.mg X.base Ar k f fd ps sp)(hr:Fc k X.A)(hg:Gl X x)(ha:PA X (e::es) t)
 (hdb:(x==("__debug__" : Str))=false:=by decide)(he:starEach (e::es) X.env=(false,eval e X.env)::starEach es X.env:=by rfl)(hpl:(backTo pos (starEach es X.env)).any (·.1)=false:=by rfl) :
  PE X (.Call (.Name x p) (e::es) [] pos) (cX sp [] E0 t):=eE G hr hg T.m T.F.kp T.b .nil jX ha hdb he hpl
end
def LL{t u:TS}{D:Ends}{σ:St}{H:Hp}(P:St→Hp→Prop)(h1:∀nx:St→Hp→Prop,(∀σ' H',P σ' H'→nx σ' H')→t {D with nx:=nx} σ H)(h2:∀σ' H',P σ' H'→u D σ' H'):ip t u D σ H:=h1 _ h2
def Yg:2≤sizeLine:=by decide
def Bv{H:Hp}{p:AD}(h:H p=none)(o:HO):Ak H (upd H p o):=fun b u q=>by rw[AZ (A8 q h)];exact q
def SameBut(l:AD)(H H':Hp):Prop:=∀b o,b≠l→H b=some o→H' b=some o
def SameBut.of{l:AD}{H H':Hp}(h:Ak H H'):SameBut l H H':=fun b o _ q=>h b o q
def SameBut.trans{l:AD}{H H1 H2:Hp}(a:SameBut l H H1)(b:SameBut l H1 H2):SameBut l H H2:=fun c o n h=>b c o n (a c o n h)
def SameBut.upd{l:AD}{H:Hp}{o:HO}:SameBut l H (upd H l o):=fun b u n q=>by rw[AZ n];exact q
def JO(p:Rat):List V:=[.int p.num,.int (p.den:Int)]
def Rt(K:Fg)(H:Hp)(p:Rat)(v:V):Prop:=∃a,v=.ref a∧CK K H a (JO p)
def Rt.of{K:Fg}{H:Hp}{p:Rat}{a:AD}(h:H a=some (.tup (JO p))):Rt K H p (.ref a):=⟨a,rfl,.of h⟩
def AK(p:Rat):PD:=.tuple [.int p.num,.int (p.den:Int)]
def Xs{i j:Int}{m n:Nat}(h1:i.natAbs<2^m)(h2:j.natAbs<2^n)(h:m+n≤1000000):Rp i j∨OU i j :=
 .inr ⟨m+n,h,FM.Oi h1 (Nat.le_add_right _ _),FM.Oi h2 (Nat.le_add_left _ _)⟩
def lP(ea:AD)(cls:VL):HO:=.ext fun h=>∃o vs,h.get? ea=some o∧o.cls=cls∧o.data=.fields vs
open PySem PySem.Spec PyProof.Rows PySem.Builtin.ObjectAttr PySem.Builtin.Getset_descriptor
def Rx:V→VL
 |.ref C=>.ref C
 |.ty n=>.type n
 |_=>.none
def eK{c:V}{u:VL}(r:RelV c u)(h:Rx c≠.none):u=Rx c:=by
 cases c with
 |ref C=>exact r
 |ty n=>exact r
 |_=>exact absurd rfl h
section
variable{X:Cx}
def lj(K:Fg):List V→Hp→VK→Prop:=fun xs H Q=>∃x c t b,xs=[x,c]∧Rx c≠.none∧IB K H x t∧PySem.W.kitOne K t (Rx c)=some b∧Q (.bl b) H
def Mc:E6 X (.builtin "isinstance") (lj X.K):=by
 intro pins s σ H xs us Q I r h;obtain⟨x,c,t,b,rfl,hc,ty,e,q⟩:=h;obtain⟨u,v,rfl,r1,r2⟩:=r.two;rw[eK r2 hc];exact Xv I r1 ty e fun tk=>⟨.bl b,H,I.tok tk,rfl,q⟩
end
def iJ(K:Fg):PySem.W.kitOne K (.type "tuple") (.type "tuple")=some true:=rfl
def gG(K:Fg):PySem.W.kitOne K (.type "int") (.type "int")=some true:=rfl
def iX(K:Fg):PySem.W.kitOne K (.type "bool") (.type "bool")=some true:=rfl
def gm(K:Fg):PySem.W.kitOne K (.type "int") (.type "bool")=some false:=by kernel_rfl
def jF(K:Fg):PySem.W.kitOne K (.type "bool") (.type "int")=some true:=by kernel_rfl
def gL(K:Fg):PySem.W.kitOne K (.type "list") (.type "tuple")=some false:=by kernel_rfl
def gR(K:Fg):PySem.W.kitOne K (.type "tuple") (.type "list")=some false:=by kernel_rfl
def gO(K:Fg):PySem.W.kitOne K (.type "list") (.type "list")=some true:=rfl
def fK(K:Fg):PySem.W.kitOne K (.type "int") (.type "tuple")=some false:=by kernel_rfl
def gV(K:Fg):PySem.W.kitOne K (.type "bool") (.type "tuple")=some false:=by kernel_rfl
def fc(K:Fg):PySem.W.kitOne K (.type "NoneType") (.type "tuple")=some false:=by kernel_rfl
def ig(K:Fg):PySem.W.kitOne K (.type "str") (.type "tuple")=some false:=by kernel_rfl
def fQ(K:Fg):PySem.W.kitOne K (.type "tuple") (.type "int")=some false:=by kernel_rfl
def jG(K:Fg):PySem.W.kitOne K (.type "list") (.type "int")=some false:=by kernel_rfl
def gC(K:Fg):PySem.W.kitOne K (.type "NoneType") (.type "int")=some false:=by kernel_rfl
def iu(K:Fg):PySem.W.kitOne K (.type "str") (.type "int")=some false:=by kernel_rfl
def gw(K:Fg):PySem.W.kitOne K (.type "int") (.type "list")=some false:=by kernel_rfl
def fh(K:Fg):PySem.W.kitOne K (.type "bool") (.type "list")=some false:=by kernel_rfl
def iz(K:Fg):PySem.W.kitOne K (.type "NoneType") (.type "list")=some false:=by kernel_rfl
def fe(K:Fg):PySem.W.kitOne K (.type "str") (.type "list")=some false:=by kernel_rfl
def freeOk(xsc:Scope)(names:List (Str×NameKind)):Bool:=names.all fun y=>y.2 != .free||xsc.names.lookup y.1==some .cell||xsc.names.lookup y.1==some .free
def OP{xsc:Scope}{names:List (Str×NameKind)}(h:freeOk xsc names=true):∀y∈names,y.2=.free→xsc.names.lookup y.1=some .cell∨xsc.names.lookup y.1=some .free:=fun y hy hf=>by
 have q:=ao.mp h y hy;rw[hf]at q;simp only[bne_self_eq_false,Bool.false_or,Bool.or_eq_true,beq_iff_eq]at q;exact q
def DD(scope:Scope)(N:List Str)(x:Str)(ix:Nat):Bool :=
 scope.kind==.function&&(scope.names.all fun y=>y.2 != .cell&&(y.2 != .local||scope.names.lookup y.1==some .local)&&(y.2 != .free||scope.names.lookup y.1==some .free))&&scope.names.lookup x==some .local&&decide N.Nodup&&N[ix]? == some x
def HE{scope:Scope}{N:List Str}{x:Str}{ix:Nat}(h:DD scope N x ix=true):Ej scope N x ix:=by
 unfold DD at h;simp only[Bool.and_eq_true,beq_iff_eq,decide_eq_true_eq,List.all_eq_true,bne_iff_ne,Bool.or_eq_true]at h;obtain⟨⟨⟨⟨h1,h2⟩,h3⟩,h4⟩,h5⟩:=h;exact⟨h1,fun y hy=>(h2 y hy).1.1,fun y hy hl=>(h2 y hy).1.2.resolve_left fun z=>z hl,fun y hy hl=>(h2 y hy).2.resolve_left fun z=>z hl,h3,h4,h5⟩
section
variable{X:Cx}{elt iter:Expr}{x:Str}{px pos:Pos}{ifs:List Expr}{scope:Scope}{wi:TI}{tif:TT}{te:TE}
def K9(N:List Str)(ix:Nat)(fr:List (Option Nat))(hi:PI X (.Name x px) iter wi)(hif:∀cl C s₀ H₀ fp,NI (Be X scope cl N C s₀ H₀ fp) ifs tif)(he:∀cl C s₀ H₀ fp,PE (Be X scope cl N C s₀ H₀ fp) elt te)
 (h1:DD scope N x ix=true:=by decide +kernel)(h2:X.calm=true:=by rfl)(h3:G5 N X.N scope X.env.scope fr 0=true:=by rfl)(h4:fr.length=N.length:=by rfl)(h5:freeOk X.env.scope scope.names=true:=by rfl)
 (hs:∀x,foldedSetIterable iter X.env x=pure x:=by intro _;rfl):PE X (.ListComp elt [⟨.Name x px,iter,ifs,0⟩] scope pos) (TV wi fr ix tif te) :=
 ei (HE h1) h2 h3 h4 (OP h5) hi hif he hs
end
end L2
inductive Tr where
 |nil
 |cons (b r:Tr)
 deriving DecidableEq
namespace Tr
def bs:Tr→List Tr
 |.nil=>[]
 |.cons b r=>b::r.bs
def of:List Tr→Tr
 |[]=>.nil
 |b::r=>.cons b (of r)
def Oq:∀t:Tr,of t.bs=t
 |.nil=>rfl
 |.cons b r=>by rw[bs,of,Oq r]
def Wu:∀l:List Tr,(of l).bs=l
 |[]=>rfl
 |b::r=>by rw[of,bs,Wu r]
def iA{t u:Tr}(h:t.bs=u.bs):t=u:=by rw[←Oq t,h,Oq]
def len:Tr→Nat
 |.nil=>0
 |.cons _ r=>r.len+1
def Iu:∀t:Tr,t.bs.length=t.len
 |.nil=>rfl
 |.cons _ r=>by rw[bs,List.length_cons,Iu r,len]
def Ah:Tr→Nat
 |.nil=>1
 |.cons b r=>b.Ah+r.Ah
def deep:Tr→Nat
 |.nil=>0
 |.cons b r=>max (b.deep+1) r.deep
def lt:Tr→Tr→Bool
 |.nil,.nil=>false
 |.nil,.cons _ _=>true
 |.cons _ _,.nil=>false
 |.cons b r,.cons c q=>if b=c then lt r q else lt b c
def lt_irrefl:∀t:Tr,lt t t=false
 |.nil=>rfl
 |.cons b r=>by rw[lt,if_pos rfl];exact lt_irrefl r
def lt_trans:∀a b c:Tr,lt a b=true→lt b c=true→lt a c=true
 |.nil,.nil,_,h,_=>by cases h
 |.nil,.cons _ _,.nil,_,h=>by cases h
 |.nil,.cons _ _,.cons _ _,_,_=>rfl
 |.cons _ _,.nil,_,h,_=>by cases h
 |.cons _ _,.cons _ _,.nil,_,h=>by cases h
 |.cons a r,.cons b s,.cons c t,h1,h2=>by
  rw[lt]at h1 h2 ⊢;by_cases e1:a=b
  ·subst e1;rw[if_pos rfl]at h1;by_cases e2:a=c
   ·subst e2;rw[if_pos rfl]at h2 ⊢;exact lt_trans r s t h1 h2
   ·rw[if_neg e2]at h2 ⊢;exact h2
  ·rw[if_neg e1]at h1;by_cases e2:b=c
   ·subst e2;rw[if_neg e1];exact h1
   ·rw[if_neg e2]at h2;have h3:=lt_trans a b c h1 h2;by_cases e3:a=c
    ·subst e3;rw[lt_irrefl]at h3;cases h3
    ·rw[if_neg e3];exact h3
def Kv:∀a b:Tr,lt a b=false→lt b a=false→a=b
 |.nil,.nil,_,_=>rfl
 |.nil,.cons _ _,h,_=>by cases h
 |.cons _ _,.nil,_,h=>by cases h
 |.cons a r,.cons b s,h1,h2=>by
  rw[lt]at h1 h2;by_cases e:a=b
  ·subst e;rw[if_pos rfl]at h1 h2;rw[Kv r s h1 h2]
  ·rw[if_neg e]at h1;rw[if_neg (Ne.symm e)]at h2;exact absurd (Kv a b h1 h2) e
def PR(a b c:Tr)(h:lt a c=true):lt a b=true∨lt b c=true:=by
 cases h1:lt a b with
 |true=>exact .inl rfl
 |false =>
  right
  cases h2:lt b a with
  |true=>exact lt_trans b a c h2 h
  |false=>rw[←Kv a b h1 h2];exact h
def lt_asymm{a b:Tr}(h:lt a b=true):lt b a=false:=by
 cases h2:lt b a with
 |false=>rfl
 |true=>have:=lt_trans a b a h h2;rw[lt_irrefl]at this;cases this
def ins(x:Tr):List Tr→List Tr
 |[]=>[x]
 |y::r=>if lt x y=true then y::ins x r else x::y::r
def Dd:List Tr→List Tr
 |[]=>[]
 |x::r=>ins x (Dd r)
end Tr
namespace TH
open PySem PyProof.Rows PySem.SeqAt
def Vs(h:Heap):Tr→List VL→Prop
 |.nil,us=>us=[]
 |.cons b r,us=>∃(a:AD) (its rest:List VL),us=.ref a::rest∧h.IsTuple a its.toArray∧Vs h b its∧Vs h r rest
def Vs.length{h:Heap}:∀ {t:Tr} {us:List VL},Vs h t us→us.length=t.len
 |.nil,us,e=>by rw[Vs]at e;rw[e];rfl
 |.cons b r,us,e=>by
  rw[Vs]at e;obtain⟨a,its,rest,rfl,_,_,q⟩:=e;rw[List.length_cons,Tr.len,Vs.length q]
def QQ{h:Heap}{a:AD}{x y:Array VL}(h1:h.IsTuple a x)(h2:h.IsTuple a y):x=y:=by
 obtain⟨o,e,_,n,d⟩:=h1;obtain⟨o',e',_,n',d'⟩:=h2;rw[e]at e';cases e';rw[d]at d';cases d';rfl
def Vs.inj{h:Heap}:∀ {t u:Tr} {us:List VL},Vs h t us→Vs h u us→t=u
 |.nil,.nil,_,_,_=>rfl
 |.nil,.cons _ _,us,e,f=>by
  rw[Vs]at e;rw[Vs]at f;obtain⟨_,_,_,f,_⟩:=f;rw[e]at f;cases f
 |.cons _ _,.nil,us,e,f=>by
  rw[Vs]at e;rw[Vs]at f;obtain⟨_,_,_,e,_⟩:=e;rw[f]at e;cases e
 |.cons b r,.cons c q,us,e,f=>by
  rw[Vs]at e f;obtain⟨a,its,rest,rfl,h1,h2,h3⟩:=e;obtain⟨a',its',rest',e',k1,k2,k3⟩:=f;cases e';have:=QQ h1 k1;have e2:its=its':=by simpa using this
  subst e2;rw[Vs.inj h2 k2,Vs.inj h3 k3]
def XT{s:SD}:∀(t u:Tr) (A:Around) (us vs:List VL),Vs s.heap t us→Vs s.heap u vs→A.units+t.deep≤cLine →
  ∀j (h1:j<us.length) (h2:j<vs.length),EqAt A s us[j] vs[j] (decide (t.bs[j]? = u.bs[j]?))
 |.nil,u,A,us,vs,e,f,_,j,h1,h2=>by
  rw[Vs]at e;subst e;exact absurd h1 (ag _)
 |.cons b r,.nil,A,us,vs,e,f,_,j,h1,h2=>by
  rw[Vs]at f;subst f;exact absurd h2 (ag _)
 |.cons b r,.cons c q,A,us,vs,e,f,hu,j,h1,h2=>by
  rw[Vs]at e f;obtain⟨a,its,rest,rfl,k1,k2,k3⟩:=e;obtain⟨a',its',rest',rfl,l1,l2,l3⟩:=f;have hd:(Tr.cons b r).deep=max (b.deep+1) r.deep:=rfl;cases j with
  |zero =>
   show EqAt A s (.ref a) (.ref a') (decide (some b=some c));by_cases ea:a=a'
   ·subst ea;have:=QQ k1 l1;have e2:its=its':=by simpa using this
    subst e2;rw[Vs.inj k2 l2,decide_eq_true rfl];exact EqAt.same _
   ·refine EqAt.of_refs ea ?_;have key:=RcAt.tuples (s:=s) (A:=A) (e:=fun j=>decide (b.bs[j]? = c.bs[j]?)) k1 l1 (by lia) fun j x1 x2=>by
     have:=XT b c A.in1 its its' k2 l2 (by rw[show A.in1.units=A.units+1 from rfl];lia) j (by simpa using x1) (by simpa using x2)
     simpa using this
    have ev:((List.range (min its.toArray.size its'.toArray.size)).all (fun j=>decide (b.bs[j]? = c.bs[j]?))&&its.toArray.size==its'.toArray.size)=decide (some b=some c):=by
     have z1:its.toArray.size=b.bs.length:=by rw[Tr.Iu,←Vs.length k2];simp
     have z2:its'.toArray.size=c.bs.length:=by rw[Tr.Iu,←Vs.length l2];simp
     rw[z1,z2];by_cases hbc:b=c
     ·subst hbc;simp
     ·rw[decide_eq_false (fun z=>hbc (aa z))];cases hl:b.bs.length==c.bs.length with
      |false=>rw[Bool.and_false]
      |true =>
       rw[Bool.and_true];have hl':b.bs.length=c.bs.length:=by simpa using hl
       refine Bool.eq_false_iff.mpr fun z=>hbc (Tr.iA (List.ext_getElem? fun i=>?_));by_cases hi:i<b.bs.length
       ·have:=ao.mp z i (af.mpr (by lia))
        simpa using this
       ·rw[List.getElem?_eq_none (by lia),List.getElem?_eq_none (by lia)]
    rw[ev]at key;exact key
  |succ j =>
   exact XT r q A rest rest' k3 l3 (by lia) j (by simpa using h1) (by simpa using h2)
def UO{s:SD}{t u:Tr}{A:Around}{a b:AD}{its its':List VL}(h1:s.heap.IsTuple a its.toArray)(k1:Vs s.heap t its)(h2:s.heap.IsTuple b its'.toArray)(k2:Vs s.heap u its')(hu:A.units+t.deep<cLine) :
  EqAt A s (.ref a) (.ref b) (decide (t=u)):=by
 have:=XT (.cons t .nil) (.cons u .nil) A [.ref a] [.ref b] ⟨a,its,[],rfl,h1,k1,by rw[Vs]⟩ ⟨b,its',[],rfl,h2,k2,by rw[Vs]⟩ (by show A.units+max (t.deep+1) 0≤cLine;lia) 0 (by simp) (by simp)
 simpa[Tr.bs]using this
section
open PySem.AutoSeq1 (wpAny_loadPart')
open PySem.MeetsSeq PySem.MeetsSeq2 PySem.MeetsSeq3
def VI(n0:Nat)(ih:∀(t u:Tr) (A:Around) (s:SD) (a b:AD) (its its':List VL),t.deep<n0→s.heap.IsTuple a its.toArray→Vs s.heap t its→s.heap.IsTuple b its'.toArray→Vs s.heap u its'→A.units+t.deep<cLine →
   ∀(prog:Program) (w:World) (E:VL→SD→Prop) (Q:VL→SD→Prop),Q (.bool (Tr.lt t u)) s→wpAny (model prog w) A (richCompare .Lt (.ref a) (.ref b)) Q E s)
 (l b:AD)(items items2:Array VL)(n n2:Nat)(dd dd2:Option AD)(sl sl2:Array (Option VL))(t u:Tr)(ht:t.deep≤n0) :
  Meets (Builtin.«tuple.__lt__» ⟨[.ref l,.ref b],[]⟩)
   (fun A R s=>s.heap.get? l=some { cls:=.type "tuple",dict:=dd,data:=.seq items n,slots:=sl}∧s.heap.get? b=some { cls:=.type "tuple",dict:=dd2,data:=.seq items2 n2,slots:=sl2} ∧
    Vs s.heap t items.toList∧Vs s.heap u items2.toList∧A.units+t.deep<cLine∧R (.ok (.ret (.bool (Tr.lt t u)))) s) :=
 .of_wp fun prog w A R s h=>by
  obtain⟨hp,g,d,tk,os⟩:=s;obtain⟨hl,hb,hi,hj,hun,h⟩:=h;have f2:=AutoSeq1.sub_tuple_tuple;have z1:items.size=t.len:=by rw[←Vs.length hi];simp
  have z2:items2.size=u.len:=by rw[←Vs.length hj];simp
  wp_walk using wpAny_loadPart' hl,wpAny_loadPart' hb,wpAny_forIn_list _ (fun rest b s'=>b.1=none∧s'=⟨hp,g,d,tk,os⟩∧∃(vs ws:List VL) (t' u':Tr),rest=vs.zip ws ∧
   Vs hp t' vs∧Vs hp u' ws∧t'.deep≤t.deep∧t'.len+items2.size=u'.len+items.size∧R (.ok (.ret (.bool (Tr.lt t' u')))) ⟨hp,g,d,tk,os⟩) _
  case turn =>
   rintro⟨y,x⟩ rest b s' ⟨hb',rfl,vs,ws,t',u',hz,hvi,hwi,hdp,hlen,hR⟩;cases t' with
   |nil=>rw[Vs]at hvi;subst hvi;rw[List.zip_nil_left]at hz;cases hz
   |cons bt rt =>
    cases u' with
    |nil=>rw[Vs]at hwi;subst hwi;rw[List.zip_nil_right]at hz;cases hz
    |cons bu ru =>
     rw[Vs]at hvi hwi;obtain⟨a1,i1,v1,rfl,p1,p2,p3⟩:=hvi;obtain⟨a2,i2,v2,rfl,q1,q2,q3⟩:=hwi;rw[List.zip_cons_cons]at hz
     injection hz with hyx hrest
     injection hyx with hy hx
     subst hy hx;have hdd:(Tr.cons bt rt).deep=max (bt.deep+1) rt.deep:=rfl;rw[Tr.lt]at hR;simp only[Tr.len]at hlen;have he:=UO (s:=⟨hp,g,d,tk,os⟩) (A:=A.in1) p1 p2 q1 q2 (by rw[show A.in1.units=A.units+1 from rfl];lia);refine Wb (he prog w _ _ ?_);cases hc:decide (bt=bu) with
     |true =>
      rw[if_pos (ab hc)]at hR
      wp_walk
      exact⟨rfl,rfl,_,_,_,_,hrest,p3,q3,by lia,by lia,hR⟩
     |false =>
      rw[if_neg (of_decide_eq_false hc)]at hR;have hri:=ih bt bu A.in1 ⟨hp,g,d,tk,os⟩ a1 a2 i1 i2 (by lia) p1 p2 q1 q2 (by rw[show A.in1.units=A.units+1 from rfl];lia) prog w
      wp_walk using hri
      exact⟨_,rfl,by simpa using hR⟩
  case fin =>
   rintro⟨b1,b2⟩ s' ⟨hb',rfl,vs,ws,t',u',hz,hvi,hwi,hdp,hlen,hR⟩;simp only at hb';subst hb';have hv:Tr.lt t' u'=decide (items.size<items2.size):=by
    cases t' with
    |nil =>
     cases u' with
     |nil =>
      simp only[Tr.len]at hlen;exact(aZ (by lia)).symm
     |cons c q =>
      simp only[Tr.len]at hlen;exact(aw (by lia)).symm
    |cons bt rt =>
     cases u' with
     |nil =>
      simp only[Tr.len]at hlen;exact(aZ (by lia)).symm
     |cons c q =>
      rw[Vs]at hvi hwi;obtain⟨_,_,_,rfl,_⟩:=hvi;obtain⟨_,_,_,rfl,_⟩:=hwi;rw[List.zip_cons_cons]at hz;cases hz
   rw[hv]at hR
   wp_walk
   exact⟨_,rfl,by simpa[Builtin.Tuple.tupleCompareSizes]using hR⟩
  case h =>
   exact⟨rfl,rfl,items.toList,items2.toList,t,u,rfl,hi,hj,Nat.le_refl _,by lia,h⟩
def XF:∀(n0:Nat) (t u:Tr) (A:Around) (s:SD) (a b:AD) (its its':List VL),t.deep<n0→s.heap.IsTuple a its.toArray→Vs s.heap t its→s.heap.IsTuple b its'.toArray→Vs s.heap u its'→A.units+t.deep<cLine →
   ∀(prog:Program) (w:World) (E:VL→SD→Prop) (Q:VL→SD→Prop),Q (.bool (Tr.lt t u)) s→wpAny (model prog w) A (richCompare .Lt (.ref a) (.ref b)) Q E s
 |0,_,_,_,_,_,_,_,_,h,_,_,_,_,_=>absurd h (ag _)
 |n0+1,t,u,A,s,a,b,its,its',hd,hl,ht,hb,hu',hun=>fun prog w E Q h=>by
  obtain⟨⟨cls,dd,data,sl⟩,ho,hc,n,hdt⟩:=id hl;obtain⟨⟨cls2,dd2,data2,sl2⟩,ho2,hc2,n2,hdt2⟩:=id hb;simp only at hc hdt hc2 hdt2;subst hc hdt hc2 hdt2;exact richCompare_meets_room (op:=.Lt) ⟨_,ho,rfl⟩ ⟨_,ho2,rfl⟩ PySem.F.slot_tuple_lt PySem.F.entry_tuple_lt (PySem.F.args_tuple_lt_2 _ _) (VI n0 (XF n0) a b its.toArray its'.toArray n n2 dd dd2 sl sl2 t u (by lia))
   ⟨ho,ho2,by simpa using ht,by simpa using hu',hun,show Value.bool (Tr.lt t u)≠Value.notImplemented∧Q (.bool (Tr.lt t u)) s from⟨(fun x=>nomatch x),h⟩⟩ (by lia)
end
end TH
namespace SM
open PySem.W PyProof.Rows
def Wp{α:Type}(lt:Nat→Nat→Bool)(n:Nat):KasT α→(α→Prop)→Prop
 |.ret a,Q=>Q a
 |.ask i j k,Q=>i<n∧j<n∧Wp lt n (k (lt i j)) Q
def Wp.mono{α:Type}{lt:Nat→Nat→Bool}{n:Nat}{Q Q':α→Prop}(hq:∀a,Q a→Q' a):∀t:KasT α,Wp lt n t Q→Wp lt n t Q'
 |.ret a,h=>hq a h
 |.ask i j k,h=>⟨h.1,h.2.1,Wp.mono hq (k (lt i j)) h.2.2⟩
def Wp.bind{α β:Type}{lt:Nat→Nat→Bool}{n:Nat}{f:α→KasT β}{Q:β→Prop}:∀t:KasT α,Wp lt n t (fun a=>Wp lt n (f a) Q)→Wp lt n (t.bind f) Q
 |.ret _,h=>h
 |.ask i j k,h=>⟨h.1,h.2.1,Wp.bind (k (lt i j)) h.2.2⟩
def K3{p:Array Nat}{i j:Nat}(hj:j≤p.size)(k:Nat):(kas_rev p i j).getD k 0=if i≤k∧k<j then p.getD (i+j-1-k) 0 else p.getD k 0:=by
 have e:=getElem?_mirror_all (i:=i) hj k;unfold kas_rev;rw[Array.getD_eq_getD_getElem?,Array.getD_eq_getD_getElem?,Array.getD_eq_getD_getElem?,e];split<;>rfl
def Vi{p:Array Nat}{src d:Nat}(hs:src<p.size)(hd:d≤src)(k:Nat) :
  (bubble p src d).getD k 0=if k=src-d then p.getD src 0 else if src-d<k∧k≤src then p.getD (k-1) 0 else p.getD k 0:=by
 have e:=getElem?_bubble hs d hd k;simp only[Array.getD_eq_getD_getElem?,e];split
 ·rfl
 ·split<;>rfl
section
variable{O:KeyOrd}{key:Nat→O.α}{n:Nat}
def Key(key:Nat→O.α)(p:Array Nat)(i:Nat):O.α:=key (p.getD i 0)
def Up(key:Nat→O.α)(p:Array Nat)(m:Nat):Prop:=∀i j,i≤j→j<m→O.kle (Key key p i) (Key key p j)
def Dn(key:Nat→O.α)(p:Array Nat)(m:Nat):Prop:=∀i j,i≤j→j<m→O.kle (Key key p j) (Key key p i)
structure Pm(n:Nat)(p:Array Nat):Prop where
 perm:p.Perm (List.toArray (List.range n))
 pos:0<n
def Pm.size{p:Array Nat}(h:Pm n p):p.size=n:=by rw[h.perm.size_eq];simp
def Pm.lt{p:Array Nat}(h:Pm n p)(i:Nat):p.getD i 0<n:=by
 rw[Array.getD_eq_getD_getElem?];by_cases hi:i<p.size
 ·rw[Array.getElem?_eq_getElem hi];have hm:p[i]∈p:=Array.getElem_mem hi;have:=(h.perm.mem_iff).mp hm
  simpa using this
 ·rw[Array.getElem?_eq_none (by lia)];exact h.pos
def Pm.rev{p:Array Nat}(h:Pm n p)(i j:Nat):Pm n (kas_rev p i j):=⟨(mirror_perm _ _ _ _).trans h.perm,h.pos⟩
def Pm.bubble{p:Array Nat}(h:Pm n p)(i j:Nat):Pm n (bubble p i j):=⟨(bubble_perm _ _ _).trans h.perm,h.pos⟩
abbrev Hx(key:Nat→O.α):Nat→Nat→Bool:=fun i j=>O.blt (key i) (key j)
def Up.one{p:Array Nat}:Up key p 1:=fun i j h1 h2=>by
 have:i=j:=by lia
 subst this;exact bL _
def Up.more{p:Array Nat}{m:Nat}(h:Up key p m)(h1:1≤m)(hk:O.kle (Key key p (m-1)) (Key key p m)):Up key p (m+1):=fun i j hij hj=>by
 by_cases e:j=m
 ·subst e;by_cases e2:i=j
  ·subst e2;exact bL _
  ·exact KeyOrd.kle_trans (h i (j-1) (by lia) (by lia)) hk
 ·exact h i j hij (by lia)
def Dn.more{p:Array Nat}{m:Nat}(h:Dn key p m)(h1:1≤m)(hk:O.kle (Key key p m) (Key key p (m-1))):Dn key p (m+1):=fun i j hij hj=>by
 by_cases e:j=m
 ·subst e;by_cases e2:i=j
  ·subst e2;exact bL _
  ·exact KeyOrd.kle_trans hk (h i (j-1) (by lia) (by lia))
 ·exact h i j hij (by lia)
def asc{p:Array Nat}(hp:Pm n p):∀(f m:Nat),1≤m→Up key p m→Wp (Hx key) n (kas_asc p f m) fun r=>m≤r∧r≤m+f∧Up key p r∧(r=m+f∨O.klt (Key key p r) (Key key p (r-1)))
 |0,m,_,h=>⟨aG _,Nat.le_refl _,h,.inl rfl⟩
 |f+1,m,h1,h=>by
  refine⟨hp.lt _,hp.lt _,?_⟩;cases c:Hx key (p.getD m 0) (p.getD (m-1) 0) with
  |true=>exact⟨aG _,by lia,h,.inr c⟩
  |false =>
   simp only[Bool.false_eq_true,if_false];refine Wp.mono (fun r hr=>?_) _ (asc hp f (m+1) (by lia) (h.more h1 c));exact⟨by lia,by lia,hr.2.2.1,hr.2.2.2.elim (fun z=>.inl (by lia)) .inr⟩
def Eq(key:Nat→O.α)(p:Array Nat)(m q:Nat):Prop:=q<m∧∀k,m-(q+1)≤k→k<m→Key key p k=Key key p (m-1)
def rev_eq{p:Array Nat}{m q:Nat}(h:Eq key p m q)(hm:m≤p.size)(k:Nat):Key key (kas_rev p (m-(q+1)) m) k=Key key p k:=by
 unfold Key;rw[K3 hm];split
 ·have a:=h.2 (m-(q+1)+m-1-k) (by have:=h.1;lia) (by have:=h.1;lia);have b:=h.2 k (by lia) (by lia);exact a.trans b.symm
 ·rfl
def desc:∀(f:Nat) (p:Array Nat) (m q:Nat),Pm n p→1≤m→m+f≤n→Dn key p m→Eq key p m q→Wp (Hx key) n (kas_desc f p m q) fun r=>Pm n r.1∧m≤r.2.1∧r.2.1≤m+f∧Dn key r.1 r.2.1∧Eq key r.1 r.2.1 r.2.2
 |0,p,m,q,hp,_,_,h,e=>⟨hp,Nat.le_refl _,Nat.le_refl _,h,e⟩
 |f+1,p,m,q,hp,h1,hf,h,e=>by
  refine⟨hp.lt _,hp.lt _,?_⟩;have hm:m≤p.size:=by rw[hp.size];lia
  cases c:Hx key (p.getD m 0) (p.getD (m-1) 0) with
  |true =>
   have ck:O.klt (Key key p m) (Key key p (m-1)):=c;simp only[if_true];have fin:∀p':Array Nat,Pm n p'→(∀k,Key key p' k=Key key p k)→Wp (Hx key) n (kas_desc f p' (m+1) 0) fun r=>Pm n r.1∧m≤r.2.1∧r.2.1≤m+(f+1)∧Dn key r.1 r.2.1∧Eq key r.1 r.2.1 r.2.2:=fun p' hp' hk=>by
    have hd:Dn key p' (m+1):=fun i j hij hj=>by rw[hk,hk];exact h.more h1 (KeyOrd.kle_of_klt ck) i j hij hj
    have he:Eq key p' (m+1) 0:=⟨by lia,fun k h1 h2=>by rw[show k=m+1-1 by lia]⟩;exact Wp.mono (fun r hr=>⟨hr.1,by lia,by lia,hr.2.2.2.1,hr.2.2.2.2⟩) _ (desc f p' (m+1) 0 hp' (by lia) (by lia) hd he)
   split
   ·exact fin _ (hp.rev _ _) (rev_eq e hm)
   ·exact fin _ hp fun _=>rfl
  |false =>
   simp only[Bool.false_eq_true,if_false];refine⟨hp.lt _,hp.lt _,?_⟩;cases d:Hx key (p.getD (m-1) 0) (p.getD m 0) with
   |true =>
    simp only[if_true];exact⟨hp,Nat.le_refl _,Nat.le_add_right _ _,h,e⟩
   |false =>
    simp only[Bool.false_eq_true,if_false];have ek:Key key p m=Key key p (m-1):=KeyOrd.kle_antisymm (show O.kle (Key key p m) (Key key p (m-1)) from d) (show O.kle (Key key p (m-1)) (Key key p m) from c);refine Wp.mono (fun r hr=>⟨hr.1,by lia,by lia,hr.2.2.2.1,hr.2.2.2.2⟩) _ (desc f p (m+1) (q+1) hp (by lia) (by lia) (h.more h1 (by rw[ek];exact bL _)) ⟨by have:=e.1;lia,fun k h2 h3=>?_⟩);rw[show m+1-1=m by lia,ek];by_cases z:k=m
    ·rw[z,ek]
    ·exact e.2 k (by lia) (by lia)
def f9{p:Array Nat}{m:Nat}(h:Dn key p m)(hm:m≤p.size):Up key (kas_rev p 0 m) m:=fun i j hij hj=>by
 unfold Key;rw[K3 hm,K3 hm,if_pos ⟨bF _,by lia⟩,if_pos ⟨bF _,by lia⟩];exact h (0+m-1-j) (0+m-1-i) (by lia) (by lia)
def tail3{p:Array Nat}{m:Nat}(hp:Pm n p)(h1:1≤m)(hm:m≤n)(h:Dn key p m):Wp (Hx key) n (kas_tail3 m n p) fun r=>Pm n r.2∧1≤r.1∧r.1≤n∧Up key r.2 r.1:=by
 unfold kas_tail3;refine Wp.bind _ (Wp.mono (fun r hr=>?_) _ (asc (hp.rev 0 m) (n-m) m h1 (f9 h (by rw[hp.size];exact hm))));exact⟨hp.rev 0 m,by lia,by lia,hr.2.2.1⟩
def descPart{p:Array Nat}{m:Nat}(hp:Pm n p)(h1:1≤m)(hm:m+1≤n)(h:Dn key p (m+1)):Wp (Hx key) n (kas_descPart m n p) fun r=>Pm n r.2∧1≤r.1∧r.1≤n∧Up key r.2 r.1:=by
 unfold kas_descPart;refine Wp.bind _ (Wp.mono (fun r hr=>?_) _ (desc (n-(m+1)) p (m+1) 0 hp (by lia) (by lia) h ⟨by lia,fun k h1 h2=>by rw[show k=m+1-1 by lia]⟩));obtain⟨a,b,c,d,e⟩:=hr;have hz:r.2.1≤r.1.size:=by rw[a.size];lia
 split
 ·refine tail3 (a.rev _ _) (by lia) (by lia) fun i j hij hj=>?_;rw[rev_eq e hz,rev_eq e hz];exact d i j hij hj
 ·exact tail3 a (by lia) (by lia) d
def count{p:Array Nat}(hp:Pm n p):Wp (Hx key) n (kas_count n p) fun r=>Pm n r.2∧1≤r.1∧r.1≤n∧Up key r.2 r.1:=by
 have hn:=hp.pos;unfold kas_count;refine Wp.bind _ (Wp.mono (fun m hm=>?_) _ (asc hp (n-1) 1 (aG _) Up.one));obtain⟨h1,h2,h3,h4⟩:=hm;split
 ·exact⟨hp,h1,by lia,h3⟩
 ·rename_i hne;have hne':m≠n:=by simpa using hne
  have hk:O.klt (Key key p m) (Key key p (m-1)):=by
   rcases h4 with z|z
   ·exact absurd (by lia) hne'
   ·exact z
  have hz:m≤p.size:=by rw[hp.size];lia
  split
  ·refine⟨hp.lt _,hp.lt _,?_⟩;cases c:Hx key (p.getD 0 0) (p.getD (m-1) 0) with
   |true=>simp only[if_true];exact⟨hp,h1,by lia,h3⟩
   |false =>
    simp only[Bool.false_eq_true,if_false];have all:∀k,k<m→Key key p k=Key key p (m-1):=fun k hk'=>KeyOrd.kle_antisymm (h3 k (m-1) (by lia) (by lia)) (KeyOrd.kle_trans (show O.kle (Key key p (m-1)) (Key key p 0) from c) (h3 0 k (by lia) hk'));have ek:∀k,Key key (kas_rev p 0 m) k=Key key p k:=fun k=>by
     by_cases hk':k<m
     ·have:Key key (kas_rev p 0 m) k=Key key p (0+m-1-k):=by
       unfold Key;rw[K3 hz,if_pos ⟨bF _,hk'⟩]
      rw[this,all _ (by lia),all k hk']
     ·unfold Key;rw[K3 hz,if_neg (by lia)]
    refine descPart (hp.rev _ _) h1 (by lia) fun i j hij hj=>?_;rw[ek,ek];by_cases e:j=m
    ·subst e;by_cases e2:i=j
     ·subst e2;exact bL _
     ·rw[all i (by lia)];exact KeyOrd.kle_of_klt hk
    ·rw[all i (by lia),all j (by lia)];exact bL _
  ·have:m=1:=by lia
   subst this;refine descPart hp h1 (by lia) fun i j hij hj=>?_;by_cases e:i=j
   ·subst e;exact bL _
   ·rw[show i=0 by lia,show j=1 by lia];exact KeyOrd.kle_of_klt hk
def place{p:Array Nat}{k:Nat}(hp:Pm n p)(hs:Up key p k):∀(f l r:Nat),l≤r→r≤k→r-l≤f→(∀i,i<l→O.kle (Key key p i) (Key key p k))→(∀i,r≤i→i<k→O.klt (Key key p k) (Key key p i)) →
  Wp (Hx key) n (kas_place p k f l r) fun x=>x≤k∧(∀i,i<x→O.kle (Key key p i) (Key key p k))∧∀i,x≤i→i<k→O.klt (Key key p k) (Key key p i)
 |0,l,r,h1,h2,h3,a,b=>by
  have:l=r:=by lia
  subst this;exact⟨h2,a,b⟩
 |f+1,l,r,h1,h2,h3,a,b=>by
  unfold kas_place;split
  ·have:l=r:=by lia
   subst this;exact⟨h2,a,b⟩
  ·refine⟨hp.lt _,hp.lt _,?_⟩;cases c:Hx key (p.getD k 0) (p.getD ((l+r) / 2) 0) with
   |true =>
    simp only[if_true];exact place hp hs f l ((l+r) / 2) (by lia) (by lia) (by lia) a fun i x1 x2=>KeyOrd.klt_of_klt_of_kle (show O.klt (Key key p k) (Key key p ((l+r) / 2)) from c) (hs _ _ x1 x2)
   |false =>
    simp only[Bool.false_eq_true,if_false];exact place hp hs f ((l+r) / 2+1) r (by lia) h2 (by lia) (fun i x1=>KeyOrd.kle_trans (hs i ((l+r) / 2) (by lia) (by lia)) (show O.kle (Key key p ((l+r) / 2)) (Key key p k) from c)) b
def bin:∀(f:Nat) (p:Array Nat) (k:Nat),Pm n p→1≤k→k+f=n→Up key p k→Wp (Hx key) n (kas_bin f p k) fun r=>Pm n r∧Up key r n
 |0,p,k,hp,_,hk,h=>by
  have:k=n:=by lia
  subst this;exact⟨hp,h⟩
 |f+1,p,k,hp,h1,hk,h=>by
  have hks:k<p.size:=by rw[hp.size];lia
  refine Wp.bind _ (Wp.mono (fun l hl=>?_) _ (place hp h k 0 k (bF _) (aG _) (by lia) (fun i z=>absurd z (by lia)) fun i z1 z2=>absurd z1 (by lia)));obtain⟨hlk,hlo,hhi⟩:=hl;refine bin f _ (k+1) (hp.bubble _ _) (by lia) (by lia) fun i j hij hj=>?_;have kb:∀x,Key key (PyProof.Rows.bubble p k (k-l)) x=if x=l then Key key p k else if l<x∧x≤k then Key key p (x-1) else Key key p x:=fun x=>by
   unfold Key;rw[Vi hks (by lia),show k-(k-l)=l by lia];split
   ·rfl
   ·split<;>rfl
  rw[kb,kb]
  repeat' split
  all_goals first
   |(exfalso;lia)
   |exact bL _
   |exact hlo _ (by lia)
   |exact KeyOrd.kle_of_klt (hhi _ (by lia) (by lia))
   |exact h _ _ (by lia) (by lia)
def sort(hn:0<n):Wp (Hx key) n (kas_sort n) fun p=>Pm n p∧Up key p n:=by
 have hp:Pm n (List.toArray (List.range n)):=⟨Array.Perm.refl _,hn⟩;unfold kas_sort;refine Wp.bind _ (Wp.mono (fun r hr=>?_) _ (count hp));obtain⟨a,b,c,d⟩:=hr;split
 ·rw[show max r.1 1=r.1 by lia];exact bin _ _ _ a b (by lia) d
 ·have:r.1=n:=by lia
  rw[this]at d;exact⟨a,d⟩
end
end SM
namespace Tr
def Pq(x:Tr):∀l:List Tr,(ins x l).Perm (x::l)
 |[]=>.refl _
 |y::r=>by
  rw[ins];split
  ·exact((Pq x r).cons y).trans (.swap x y r)
  ·exact .refl _
def Kq:∀l:List Tr,(Dd l).Perm l
 |[]=>.refl _
 |x::r=>by
  rw[Dd];exact(Pq x (Dd r)).trans ((Kq r).cons x)
abbrev RT(l:List Tr):Prop:=l.Pairwise fun a b=>lt a b=false
def VR(x:Tr):∀l:List Tr,RT l→RT (ins x l)
 |[],_=>List.pairwise_singleton _ _
 |y::r,h=>by
  obtain⟨h1,h2⟩:=bQ.mp h;rw[ins];split
  ·rename_i c;refine bQ.mpr ⟨fun z hz=>?_,VR x r h2⟩;rcases aJ.mp ((Pq x r).mem_iff.mp hz) with rfl|hz
   ·exact lt_asymm c
   ·exact h1 z hz
  ·rename_i c;have c':lt x y=false:=by simpa using c
   refine bQ.mpr ⟨fun z hz=>?_,h⟩;rcases aJ.mp hz with rfl|hz
   ·exact c'
   ·cases e:lt x z with
    |false=>rfl
    |true =>
     rcases PR x y z e with q|q
     ·rw[c']at q;cases q
     ·rw[h1 z hz]at q;cases q
def K1:∀l:List Tr,RT (Dd l)
 |[]=>List.Pairwise.nil
 |x::r=>by rw[Dd];exact VR x _ (K1 r)
def Lz:∀ {l m:List Tr},RT l→RT m→l.Perm m→l=m
 |[],m,_,_,p=>(List.nil_perm.mp p).symm
 |x::r,[],_,_,p=>absurd p.length_eq (by simp)
 |x::r,y::q,h1,h2,p=>by
  obtain⟨a1,a2⟩:=bQ.mp h1;obtain⟨b1,b2⟩:=bQ.mp h2;have hx:x∈y::q:=p.mem_iff.mp aT;have hy:y∈x::r:=p.mem_iff.mpr aT;have e:x=y:=by
   rcases aJ.mp hx with e|hx
   ·exact e
   ·rcases aJ.mp hy with e|hy
    ·exact e.symm
    ·exact Kv x y (a1 y hy) (b1 x hx)
  subst e;rw[Lz a2 b2 (List.Perm.cons_inv p)]
def Xx{l m:List Tr}(h:RT m)(p:m.Perm l):m=Dd l:=Lz h (K1 l) (p.trans (Kq l).symm)
def W2{l m:List Tr}(h:m.Pairwise fun a b=>lt b a=false)(p:m.Perm l):m=(Dd l).reverse:=by
 have:m.reverse=Dd l:=Xx (List.pairwise_reverse.mpr h) ((List.reverse_perm m).trans p);rw[←this,List.reverse_reverse]
def Om(n:Nat):∀l:List Tr,(of l).deep≤n ↔ ∀c∈l,c.deep+1≤n
 |[]=>by simp[of,deep]
 |b::r=>by
  rw[of,deep,List.forall_mem_cons,←Om n r]
  lia
def YK{l m:List Tr}(p:l.Perm m):(of l).deep≤(of m).deep:=(Om _ l).mpr fun c hc=>(Om _ m).mp (aG _) c (p.mem_iff.mp hc)
def a9(t:Tr):(of t.bs.reverse).deep≤t.deep:=by
 have:=YK (List.reverse_perm t.bs)
 rwa [Oq]at this
def ord:PyProof.Rows.KeyOrd where
 α:=Tr
 blt:=lt
 irrefl:=lt_irrefl
 trans:=lt_trans
 negTrans:=PR
 total:=Kv
end Tr
namespace TH
open PySem PySem.W PyProof.Rows PySem.SeqAt
def Vs.at{h:Heap}:∀ {t:Tr} {us:List VL} {i:Nat},Vs h t us→i<us.length→∃(a:AD) (its:List VL) (c:Tr),us.getD i Value.none=.ref a∧h.IsTuple a its.toArray∧Vs h c its∧t.bs[i]? = some c∧c.deep<t.deep
 |.nil,us,i,e,hi=>by rw[Vs]at e;subst e;exact absurd hi (ag _)
 |.cons b r,us,i,e,hi=>by
  rw[Vs]at e;obtain⟨a,its,rest,rfl,h1,h2,h3⟩:=e;have hd:(Tr.cons b r).deep=max (b.deep+1) r.deep:=rfl;cases i with
  |zero=>exact⟨a,its,b,rfl,h1,h2,rfl,by lia⟩
  |succ i =>
   obtain⟨a',its',c,q1,q2,q3,q4,q5⟩:=Vs.at (i:=i) h3 (by simpa using hi);exact⟨a',its',c,by simpa using q1,q2,q3,by simpa[Tr.bs]using q4,by lia⟩
def Vs.K6{h:Heap}:∀(ts:List Tr) (us:List VL),us.length=ts.length→(∀i,i<ts.length→∃(a:AD) (its:List VL) (c:Tr),us[i]? = some (.ref a)∧h.IsTuple a its.toArray∧Vs h c its∧ts[i]? = some c)→Vs h (Tr.of ts) us
 |[],us,hl,_=>by
  rw[Tr.of,Vs];exact bM (by simpa using hl)
 |t::ts,[],hl,_=>by simp at hl
 |t::ts,u::us,hl,h=>by
  rw[Tr.of,Vs];obtain⟨a,its,c,e1,e2,e3,e4⟩:=h 0 (by simp);simp at e1 e4;subst e1 e4;refine⟨a,its,us,rfl,e2,e3,Vs.K6 ts us (by simpa using hl) fun i hi=>?_⟩;obtain⟨a',its',c',q1,q2,q3,q4⟩:=h (i+1) (by simpa using hi);exact⟨a',its',c',by simpa using q1,q2,q3,by simpa using q4⟩
def Vs.all{h:Heap}{t:Tr}{us:List VL}(e:Vs h t us):∀i,i<t.bs.length→∃(a:AD) (its:List VL) (c:Tr),us[i]? = some (.ref a)∧h.IsTuple a its.toArray∧Vs h c its∧t.bs[i]? = some c:=fun i hi=>by
 have hl:i<us.length:=by rw[Vs.length e,←Tr.Iu];exact hi
 obtain⟨a,its,c,q1,q2,q3,q4,_⟩:=e.at hl;refine⟨a,its,c,?_,q2,q3,q4⟩;rw[List.getD_eq_getElem?_getD,List.getElem?_eq_getElem hl]at q1;rw[List.getElem?_eq_getElem hl]
 simpa using q1
section
variable{prog:Program}{w:World}{A:Around}{E:VL→SD→Prop}{s:SD}{t u:Tr}{a b:AD}{its its':List VL}{Q:Bool→SD→Prop}
def Vj(h1:s.heap.IsTuple a its.toArray)(k1:Vs s.heap t its)(h2:s.heap.IsTuple b its'.toArray)(k2:Vs s.heap u its')(hu:A.units+t.deep<cLine)(h:Q (Tr.lt t u) s):wpAny (model prog w) A (oneLt' false (.ref a) (.ref b)) Q E s:=by
 rw[oneLt'_eq];simp only[Bool.false_eq_true,if_false];exact Wb (XF (t.deep+1) t u A s a b its its' (bN _) h1 k1 h2 k2 hu prog w E _ (wpAny_truthy_bool h))
def eY(h1:s.heap.IsTuple a its.toArray)(k1:Vs s.heap t its)(h2:s.heap.IsTuple b its'.toArray)(k2:Vs s.heap u its')(hu:A.units+t.deep<cLine)(h:Q (Tr.lt t u) s):wpAny (model prog w) A (oneLt' true (.ref a) (.ref b)) Q E s:=by
 rw[oneLt'_eq];simp only[if_true];refine Wb (wpAny_cRoomFor (by lia) ?_);obtain⟨⟨cls,dd,data,sl⟩,ho,hc,n,hdt⟩:=id h1;obtain⟨⟨cls2,dd2,data2,sl2⟩,ho2,hc2,n2,hdt2⟩:=id h2;simp only at hc hdt hc2 hdt2;subst hc hdt hc2 hdt2;refine Wb (wpAny_callSpecialIfBound?_slot (T := "tuple") ⟨_,ho,rfl⟩ PySem.F.slot_tuple_lt (call_meets PySem.F.slot_tuple_lt ⟨_,ho,rfl⟩ PySem.F.entry_tuple_lt (PySem.F.args_tuple_lt_2 _ _)
  (VI t.deep (XF t.deep) a b its.toArray its'.toArray n n2 dd dd2 sl sl2 t u (aG _)) ⟨ho,ho2,by simpa using k1,by simpa using k2,hu,?_⟩))
 exact wpAny_truthy_bool h
def Vp:∀(t u:Tr) (us vs:List VL) (i:Nat),Vs s.heap t us→Vs s.heap u vs→A.units+t.deep≤cLine→Q (Tr.lt t u) s→KatLex prog w A false (decide (t.len<u.len)) Q (us.zip vs) i s
 |.nil,.nil,us,vs,i,e,f,_,h=>by
  rw[Vs]at e;subst e;rw[List.zip_nil_left];exact kat_nil h
 |.nil,.cons c q,us,vs,i,e,f,_,h=>by
  rw[Vs]at e;subst e;rw[List.zip_nil_left];refine kat_nil ?_;rw[show decide (Tr.nil.len<(Tr.cons c q).len)=true from aw (Nat.zero_lt_succ _)];exact h
 |.cons b r,.nil,us,vs,i,e,f,_,h=>by
  rw[Vs]at f;subst f;rw[List.zip_nil_right];refine kat_nil ?_;rw[show decide ((Tr.cons b r).len<Tr.nil.len)=false from aZ (ag _)];exact h
 |.cons b r,.cons c q,us,vs,i,e,f,hu,h=>by
  rw[Vs]at e f;obtain⟨a,its,rest,rfl,k1,k2,k3⟩:=e;obtain⟨a',its',rest',rfl,l1,l2,l3⟩:=f;have hd:(Tr.cons b r).deep=max (b.deep+1) r.deep:=rfl;rw[List.zip_cons_cons,show decide ((Tr.cons b r).len<(Tr.cons c q).len)=decide (r.len<q.len) from by simp[Tr.len]];rw[Tr.lt]at h;refine kat_cons (UO k1 k2 l1 l2 (by lia) prog w _ _ ?_);by_cases hbc:b=c
  ·rw[decide_eq_true hbc];rw[if_pos hbc]at h;exact kat_yes (Vp r q rest rest' (i+1) k3 l3 (by lia) h)
  ·rw[decide_eq_false hbc];rw[if_neg hbc]at h;exact kat_no (by rw[Bool.false_and];exact Vj k1 k2 l1 l2 (by lia) h)
def fG(h1:s.heap.IsTuple a its.toArray)(k1:Vs s.heap t its)(h2:s.heap.IsTuple b its'.toArray)(k2:Vs s.heap u its')(hu:A.units+t.deep<cLine)(h:Q (Tr.lt t u) s):wpAny (model prog w) A (keyLt' (tuples' false) (.ref a) (.ref b)) Q E s:=by
 obtain⟨o,ho,hc,n,hd⟩:=id h1;obtain⟨o2,ho2,hc2,n2,hd2⟩:=id h2;refine kat_lt ho hd ho2 hd2 ?_;have z1:its.toArray.size=t.len:=by rw[←Vs.length k1];simp
 have z2:its'.toArray.size=u.len:=by rw[←Vs.length k2];simp
 rw[z1,z2];exact Vp t u its its' 0 k1 k2 (by lia) h
def Ti(κ:SortKind):Prop:=κ=general'∨κ=oneType'∨κ=tuples' false
def eV{κ:SortKind}(hκ:Ti κ)(h1:s.heap.IsTuple a its.toArray)(k1:Vs s.heap t its)(h2:s.heap.IsTuple b its'.toArray)(k2:Vs s.heap u its')(hu:A.units+t.deep<cLine)(h:Q (Tr.lt t u) s):wpAny (model prog w) A (keyLt' κ (.ref a) (.ref b)) Q E s:=by
 rcases hκ with rfl|rfl|rfl
 ·exact Vj h1 k1 h2 k2 hu h
 ·rw[keyLt'_oneType];exact eY h1 k1 h2 k2 hu h
 ·exact fG h1 k1 h2 k2 hu h
def Pl{M:Model}{h:Heap}{a:AD}{x:Array VL}(h1:h.IsTuple a x):Looks M h (typeOf (.ref a)) (.type "tuple"):=by
 obtain⟨o,ho,hc,_⟩:=h1;exact hc ▸ (Looks.ld ho).andThen .now
def Sr{M:Model}:∀(t:Tr) (us:List VL) {Q:List (Option VL)→SD→Prop},Vs s.heap t us→(∀fs:List (Option VL),(∀v,some v∈fs→Looks M s.heap (typeOf v) (.type "tuple"))→Q fs s)→wpAny M A (us.mapM firstOfTuple') Q E s
 |.nil,us,Q,e,h=>by
  rw[Vs]at e;subst e;rw[List.mapM_nil];exact aB (h [] fun _ z=>by cases z)
 |.cons b r,us,Q,e,h=>by
  rw[Vs]at e;obtain⟨a,its,rest,rfl,h1,h2,h3⟩:=e;obtain⟨o,ho,hc,n,hd⟩:=id h1;rw[List.mapM_cons];refine Wb ?_;rw[kas_first_eq];refine Wb (Looks.here (show Looks M s.heap (typeOf (.ref a)) o.cls from(Looks.ld ho).andThen .now) ?_);rw[hc,if_neg (by first|decide|simp)];refine Wb (listItems_at ho hd (aB ?_));refine Wb (Sr r rest (Q:=fun bs s'=>wpAny M A (pure (its.toArray[0]? :: bs)) Q E s') h3 fun fs hfs=>aB (h _ fun v hv=>?_));rcases aJ.mp hv with z|z
  ·cases b with
   |nil=>rw[Vs]at h2;subst h2;simp at z
   |cons c q =>
    rw[Vs]at h2;obtain⟨a',its',rest',rfl,k1,_⟩:=h2;simp at z;subst z;exact Pl k1
  ·exact hfs v z
def WD{M:Model}{vs:List VL}{Q:Option VL→SD→Prop}(hT:∀v∈vs,Looks M s.heap (typeOf v) (.type "tuple"))(h0:vs=[]→Q none s)(h1:Q (some (.type "tuple")) s):wpAny M A (oneTypeOnly' vs.toArray) Q E s:=by
 rw[oneTypeOnly'_eq,List.mapM_toArray,map_eq_pure_bind];refine Wb (Wb (kas_mapM (r:=Value.type "tuple") _ (fun v hv Q' hq=>(hT v hv).here hq) (aB ?_)));cases vs with
 |nil=>exact aB (h0 rfl)
 |cons f r =>
  have hall:((List.map (fun _=>Value.type "tuple") (f::r)).toArray.all fun x=>x==Value.type "tuple")=true:=by
   simp only[List.all_toArray,List.all_map,List.all_eq_true];intro _ _
   rfl
  have e0:(List.map (fun _=>Value.type "tuple") (f::r)).toArray[0]? = some (Value.type "tuple"):=by simp
  rw[e0];simp only[hall,if_true];exact aB h1
def eU{M:Model}{t:Tr}{us:List VL}{Q:SortKind→SD→Prop}(e:Vs s.heap t us)(h:∀κ,Ti κ→Q κ s):wpAny M A (keyKind' us.toArray) Q E s:=by
 rw[kat_kind_eq,List.mapM_toArray,map_eq_pure_bind];refine Wb (Wb (Sr t us e fun fs hfs=>aB ?_));split
 ·refine Wb (wpAny_rule ?_);have e1:fs.toArray.filterMap id=(fs.filterMap id).toArray:=by simp
  rw[e1];have hl:∀v∈fs.filterMap id,Looks M s.heap (typeOf v) (.type "tuple"):=fun v hv=>hfs v (by simpa using hv);refine Wb (WD hl (fun _=>?_) ?_)
  ·exact aB (h _ (.inr (.inr rfl)))
  ·exact aB (h _ (.inr (.inr rfl)))
 ·split
  ·exact aB (h _ (.inl rfl))
  ·have hl:∀v∈us,Looks M s.heap (typeOf v) (.type "tuple"):=fun v hv=>by
    obtain⟨i,hi,rfl⟩:=List.getElem_of_mem hv;obtain⟨a,its,c,q1,q2,_⟩:=e.at hi;rw[List.getD_eq_getElem?_getD,List.getElem?_eq_getElem hi]at q1;simp at q1;rw[q1];exact Pl q2
   refine Wb (WD hl (fun _=>?_) ?_)
   ·exact aB (h _ (.inl rfl))
   ·exact aB (h _ (.inr (.inl rfl)))
def US{α:Type}{cmp:Nat→Nat→(Bool→SD→Prop)→SD→Prop}{lt:Nat→Nat→Bool}{n:Nat}{Q':α→Prop}(hc:∀i j C,i<n→j<n→C (lt i j) s→cmp i j C s):∀T:KasT α,SM.Wp lt n T Q'→T.kasWp cmp (fun a s'=>s'=s∧Q' a) s
 |.ret a,h=>⟨rfl,h⟩
 |.ask i j k,h=>hc i j _ h.1 h.2.1 (US hc (k (lt i j)) h.2.2)
end
end TH
namespace TH
open PySem PySem.W PyProof.Rows PySem.SeqAt
def Vs.keeps{h h':Heap}(k:∀b o,h.get? b=some o→o.cls=.type "tuple" → h'.get? b=some o):∀ {t:Tr} {us:List VL},Vs h t us→Vs h' t us
 |.nil,us,e=>by rw[Vs]at e ⊢;exact e
 |.cons b r,us,e=>by
  rw[Vs]at e ⊢;obtain⟨a,its,rest,rfl,⟨o,ho,hc,hd⟩,h2,h3⟩:=e;exact⟨a,its,rest,rfl,⟨o,k _ _ ho hc,hc,hd⟩,h2.keeps k,h3.keeps k⟩
def map_getD{α:Type}(d:α)(l:List α):(List.range l.length).map (fun i=>l.getD i d)=l:=by
 refine List.ext_getElem (by simp) fun i h1 h2=>?_;simp[h2]
def Vs.rev{h:Heap}{t:Tr}{us:List VL}(e:Vs h t us):Vs h (Tr.of t.bs.reverse) us.reverse:=by
 have hl:us.length=t.bs.length:=by rw[e.length,Tr.Iu]
 refine Vs.K6 _ _ (by simp[hl]) fun i hi=>?_;rw[List.length_reverse]at hi;obtain⟨a,its,c,q1,q2,q3,q4⟩:=e.all (t.bs.length-1-i) (by lia);exact⟨a,its,c,by rw[List.getElem?_reverse (by lia),hl];exact q1,q2,q3,by rw[List.getElem?_reverse hi];exact q4⟩
section
variable{prog:Program}{w:World}{A:Around}{E:VL→SD→Prop}{s:SD}
def bf{κ:SortKind}{t:Tr}{ws:List VL}(hκ:Ti κ)(e:Vs s.heap t ws)(h2:2≤ws.length)(h64:ws.length<64)(hu:A.units+t.deep≤cLine) :
  wpAny (model prog w) A ((sortRuns').run (SortSt.mk' κ (ws.toArray.zip ws.toArray) #[] 7 none)) (fun r s'=>s'=s∧failedOf r.2=none∧∃ix:List Nat,ix.length=ws.length∧(∀i∈ix,i<ws.length) ∧
   (arrOf r.2).map (·.2)=(ix.map fun i=>ws.getD i Value.none).toArray∧(ix.map fun i=>t.bs.getD i .nil)=(Tr.Dd t.bs).reverse) E s:=by
 have hl:ws.length=t.bs.length:=by rw[e.length,Tr.Iu]
 have key:∀i,i<ws.length→∃(a:AD) (its:List VL),ws.getD i Value.none=.ref a∧s.heap.IsTuple a its.toArray∧Vs s.heap (t.bs.getD i .nil) its∧(t.bs.getD i .nil).deep<t.deep:=fun i hi=>by
  obtain⟨a,its,c,q1,q2,q3,q4,q5⟩:=e.at hi;have:t.bs.getD i .nil=c:=by rw[List.getD_eq_getElem?_getD,q4];rfl
  rw[this];exact⟨a,its,q1,q2,q3,q5⟩
 refine kat_run (Q:=fun st' s'=>s'=s∧failedOf st'=none∧∃ix:List Nat,ix.length=ws.length∧(∀i∈ix,i<ws.length)∧(arrOf st').map (·.2)=(ix.map fun i=>ws.getD i Value.none).toArray∧(ix.map fun i=>t.bs.getD i .nil)=(Tr.Dd t.bs).reverse)
  (G:=fun p s'=>s'=s∧SM.Pm ws.length p∧SM.Up (O:=Tr.ord) (fun i=>t.bs.getD i .nil) p ws.length) rfl h2 h64 (fun p st' s' hp har hf hG=>?_)
  (US (lt:=SM.Hx (O:=Tr.ord) fun i=>t.bs.getD i .nil) (n:=ws.length) (fun i j C hi hj hC=>?_) _ (SM.sort (by lia)))
 ·obtain⟨rfl,hpm,hup⟩:=hG;have h1:p.toList.Perm (List.range ws.length):=by simpa using Array.perm_iff_toList_perm.mp hpm.perm
  refine⟨rfl,hf,p.toList,by rw[Array.length_toList,hp],fun i hi=>af.mp (h1.mem_iff.mp hi),kat_snds rfl har,?_⟩;have perm:(p.toList.map fun i=>t.bs.getD i .nil).Perm t.bs:=by
   have h3:=h1.map fun i=>t.bs.getD i Tr.nil
   rwa [hl,map_getD]at h3
  refine Tr.W2 (List.pairwise_iff_getElem.mpr fun i j hi hj hij=>?_) perm;rw[List.length_map,Array.length_toList,hp]at hi hj;have:=hup i j (by lia) hj;have e1:∀k,k<ws.length→∀hk,(p.toList.map fun i=>t.bs.getD i Tr.nil)[k]'hk=t.bs.getD (p.getD k 0) .nil:=fun k hk hk'=>by
   rw[List.getElem_map,Array.getElem_toList,Array.getD,dif_pos (by lia)]
   rfl
  rw[e1 i hi,e1 j hj];exact this
 ·obtain⟨a,its,q1,q2,q3,q4⟩:=key i hi;obtain⟨a',its',r1,r2,r3,r4⟩:=key j hj;unfold kas_ask;rw[q1,r1];exact eV hκ q2 q3 r2 r3 (by lia) hC
def X6(b:Bool)(us:List VL)(hz:us.length<2):(if b=true then((if b=true then(us.toArray.zip us.toArray).reverse else us.toArray.zip us.toArray).map (·.2)).reverse else(if b=true then(us.toArray.zip us.toArray).reverse else us.toArray.zip us.toArray).map (·.2))=us.toArray:=by
 match us,hz with
 |[],_=>cases b<;>simp
 |[x],_=>cases b<;>simp
def OE{a : AD}{us : List VL}{t : Tr}{n : Nat}{b : Bool}{P : PySem.Fin→SD→Prop}(ho : s.heap.get? a = some (seqObj "list" us.toArray n))(e : Vs s.heap t us)(h64 : us.length < 64)(hu : A.units + t.deep≤cLine)
 (h : ∀ ix : List Nat,ix.length = us.length→(∀ i∈ix,i < us.length)→(ix.map fun i => t.bs.getD i .nil) = (if b then Tr.Dd t.bs else (Tr.Dd t.bs).reverse)→P (.done (.ret .none)) { s with heap:=sortedHeap s.heap a us (ix.map fun i => us.getD i Value.none).toArray }) :
    wpAny (model prog w) A (Builtin.«list.sort» ⟨[.ref a],[(Str.ofString "reverse",.bool b)]⟩) P E s := by
  rw [list_sort_rev]
  have ha : a < s.heap.objs.size:=aE ho
  refine Wb (listItems_at ho rfl ?_)
  refine Wb (listUpdate_at ho rfl ?_ (by rw [List.size_toArray,sizeLine_eq]; lia) (bF _))
  obtain ⟨e1,ho1⟩ : ∃ e1,(s.heap.update a (Obj.mapSeq fun _ => #[])).get? a = some (seqObj "list" #[] e1):=⟨_,get?_update_seq ho (fun _ => #[])⟩
  refine Wb (seqEpoch_at ho1 rfl ?_)
  refine Wb (wpAny_newTuple ?_ (by show us.length≤_; rw [sizeLine_eq]; lia))
  refine Wb (wpAny_newList ?_ (bF _))
  refine av ?_
  have ho6 : (((s.heap.update a (Obj.mapSeq fun _ => #[])).push (seqObj "tuple" us.toArray 0)).push (seqObj "list" #[] 0)).get? a = some (seqObj "list" #[] e1) := by
    rw [Heap.get?_push_ne _ _ _ (by rw [size_push',Heap.size_update]; exact aO (bG ha)),Heap.get?_push_ne _ _ _ (by rw [Heap.size_update]; exact aO ha)]
    exact ho1
  have keep : ∀ c o,s.heap.get? c = some o→o.cls = .type "tuple" → (((s.heap.update a (Obj.mapSeq fun _ => #[])).push (seqObj "tuple" us.toArray 0)).push (seqObj "list" #[] 0)).get? c = some o:=fun c o hc hcl => by
    have hne : c≠a:=fun z => by
      rw [z,ho] at hc
      cases hc
      exact absurd (show Value.type "list" = Value.type "tuple" from hcl) (by decide)
    refine aD _ (aD _ ?_)
    rw [Heap.get?_update_ne _ _ _ _ hne]
    exact hc
  show wpAny (model prog w) A _ P E { s with heap:=((s.heap.update a (Obj.mapSeq fun _ => #[])).push (seqObj "tuple" us.toArray 0)).push (seqObj "list" #[] 0) }
  have e6:=e.keeps keep
  dsimp only
  have step : ∀ T : Sem PySem.Fin,wpAny (model prog w) A T P E { s with heap:=((s.heap.update a (Obj.mapSeq fun _ => #[])).push (seqObj "tuple" us.toArray 0)).push (seqObj "list" #[] 0) } →
      wpAny (model prog w) A (if b = true then (do let _ ← rule "list.sort.reverse"; T) else T) P E { s with heap:=((s.heap.update a (Obj.mapSeq fun _ => #[])).push (seqObj "tuple" us.toArray 0)).push (seqObj "list" #[] 0) } := by
    intro T hT
    split
    · exact Wb (wpAny_rule hT)
    · exact hT
  refine step _ ?_
  by_cases h2 : us.toArray.size < 2
  · rw [if_pos h2,if_pos h2]
    refine Wb (aB ?_)
    rw [StateT.run_pure]
    refine Wb (aB ?_)
    dsimp only
    have hz : us.length < 2 := by simpa using h2
    have hout:=X6 b us hz
    refine Wb (seqEpoch_at ho6 rfl ?_)
    refine Wb (listUpdate_at ho6 rfl ?_ (bF _) (by
      refine aW (Nat.le_of_eq (aj Array.size hout)) ?_
      rw [List.size_toArray,sizeLine_eq]; lia))
    simp only [bne_self_eq_false,Bool.false_eq_true,if_false]
    have hl : us.length = t.bs.length := by rw [e.length,Tr.Iu]
    have fin:=h (List.range us.length) (by simp) (fun i hi => af.mp hi) (by
      rw [hl,map_getD]
      match hbs : t.bs,(show t.bs.length < 2 by lia) with
      | [],_ => cases b <;> rfl
      | [_],_ => cases b <;> rfl)
    rw [map_getD] at fin
    rw [← hout] at fin
    exact aB fin
  · rw [if_neg h2,if_neg h2]
    have hz : 2≤us.length := by simpa using h2
    refine Wb (eU (s:={ s with heap:=((s.heap.update a (Obj.mapSeq fun _ => #[])).push (seqObj "tuple" us.toArray 0)).push (seqObj "list" #[] 0) }) e6 fun κ hκ => ?_)
    have hl : us.length = t.bs.length := by rw [e.length,Tr.Iu]
    obtain ⟨ws,tw,ew,hwl,hws,hdp,pick⟩ : ∃ (ws : List VL) (tw : Tr),Vs (((s.heap.update a (Obj.mapSeq fun _ => #[])).push (seqObj "tuple" us.toArray 0)).push (seqObj "list" #[] 0)) tw ws∧ws.length = us.length ∧
        (if b = true then (us.toArray.zip us.toArray).reverse else us.toArray.zip us.toArray) = ws.toArray.zip ws.toArray∧tw.deep≤t.deep ∧
        ∀ (_b : Bool) (ix : List Nat),ix.length = ws.length→(∀ i∈ix,i < ws.length)→(ix.map fun i => tw.bs.getD i .nil) = (Tr.Dd tw.bs).reverse→∃ iy : List Nat,iy.length = us.length∧(∀ i∈iy,i < us.length)∧(iy.map fun i => t.bs.getD i .nil) = (if b then Tr.Dd t.bs else (Tr.Dd t.bs).reverse) ∧
          (if b = true then ((ix.map fun i => ws.getD i Value.none).toArray).reverse else (ix.map fun i => ws.getD i Value.none).toArray) = (iy.map fun i => us.getD i Value.none).toArray := by
      cases b with
      | false => exact ⟨us,t,e6,rfl,rfl,Nat.le_refl _,fun _ ix h1 h2 h3 => ⟨ix,h1,h2,h3,rfl⟩⟩
      | true =>
        have hsrt : Tr.Dd t.bs.reverse = Tr.Dd t.bs:=Tr.Xx (Tr.K1 _) ((Tr.Kq _).trans (List.reverse_perm _))
        refine ⟨us.reverse,Tr.of t.bs.reverse,e6.rev,by simp,kat_pairs (ks:=us) (vs:=us) true rfl,Tr.a9 t,fun _ ix h1 h2 h3 => ⟨(ix.map fun i => us.length - 1 - i).reverse,by simpa using h1,fun i hi => ?_,?_,?_⟩⟩
        · rw [List.mem_reverse,List.mem_map] at hi
          obtain ⟨k,hk,rfl⟩:=hi
          have:=h2 k hk
          rw [List.length_reverse] at this
          lia
        · rw [Tr.Wu,hsrt] at h3
          rw [List.map_reverse,List.map_map]
          have : (ix.map ((fun i => t.bs.getD i Tr.nil) ∘ fun i => us.length - 1 - i)) = ix.map fun i => t.bs.reverse.getD i .nil:=ar fun i hi => by
            have:=h2 i hi
            rw [List.length_reverse] at this
            show t.bs.getD (us.length - 1 - i) Tr.nil = _
            rw [List.getD_eq_getElem?_getD,List.getD_eq_getElem?_getD,List.getElem?_reverse (by lia),hl]
          rw [this,h3,List.reverse_reverse]
          rfl
        · rw [if_pos rfl,List.map_reverse,List.map_map,List.reverse_toArray]
          congr 2
          exact ar fun i hi => by
            have:=h2 i hi
            rw [List.length_reverse] at this
            show us.reverse.getD i Value.none = us.getD (us.length - 1 - i) Value.none
            rw [List.getD_eq_getElem?_getD,List.getD_eq_getElem?_getD,List.getElem?_reverse (by lia)]
    rw [hws]
    refine Wb (ah (bf (s:={ s with heap:=((s.heap.update a (Obj.mapSeq fun _ => #[])).push (seqObj "tuple" us.toArray 0)).push (seqObj "list" #[] 0) }) hκ ew (by lia) (by lia) (by lia)) ?_ fun _ _ z => z)
    rintro ⟨⟨⟩,st'⟩ s' ⟨rfl,hf,ix,hil,hix,hout,hst⟩
    dsimp only
    refine Wb (seqEpoch_at ho6 rfl ?_)
    obtain ⟨iy,y1,y2,y3,hfin⟩ : ∃ iy : List Nat,iy.length = us.length∧(∀ i∈iy,i < us.length)∧(iy.map fun i => t.bs.getD i .nil) = (if b then Tr.Dd t.bs else (Tr.Dd t.bs).reverse) ∧
        (if b = true then ((arrOf st').map (·.2)).reverse else (arrOf st').map (·.2)) = (iy.map fun i => us.getD i Value.none).toArray := by
      rw [show (arrOf st').map (·.2) = _ from hout]
      exact pick b ix hil hix hst
    refine Wb (listUpdate_at ho6 rfl ?_ (bF _) (by
      refine aW (Nat.le_of_eq (aj Array.size hfin)) ?_
      rw [List.size_toArray,List.length_map,y1,sizeLine_eq]; lia))
    rw [show failedOf st' = none from hf]
    simp only [bne_self_eq_false,Bool.false_eq_true,if_false]
    have fin:=h iy y1 y2 y3
    rw [← hfin] at fin
    exact aB fin
end
end TH
namespace ET
open PySem
section
variable{prog:Program}{w:World}{A:Around}{E:VL→SD→Prop}{s:SD}
def next_item{it t:AD}{i:Nat}{items}{x:VL}{Q:VL→SD→Prop}(hit:s.heap.IsTupleIter it t i)(ht:s.heap.IsTuple t items)(hx:items[i]? = some x)
 (hQ:∀h',h'.IsTupleIter it t (i+1)→Heap.SameBut it s.heap h'→Q x {s with heap:=h'}):wpAny (model prog w) A (Builtin.SmallTypes.nextOf (.ref it)) Q E s:=by
 obtain⟨o,ho,hc,hd⟩:=id hit;obtain⟨ol,hol,_,nl,hdl⟩:=ht;unfold Builtin.SmallTypes.nextOf;refine Wb (bD (name:=Str.ofString "__next__") hit.typeIs F.slot_tuple_iterator_next
  (ak F.slot_tuple_iterator_next hit.typeIs F.entry_tuple_iterator_next ?_ (F.args_tuple_iterator_next_1 _)))
 show wpAny _ _ (field (.ref it) 0>>=_) _ _ s;refine Wb (bA ho hd (x:=.ref t) rfl ?_);show wpAny _ _ (if(Value.ref t==Value.none)=true then _ else _) _ _ s;rw[if_neg (show ¬((Value.ref t==Value.none)=true) from aL)];show wpAny _ _ (field (.ref it) 1>>=_) _ _ s;refine Wb (bA ho hd (x:=.int i 0) rfl ?_);show wpAny _ _ (seqItems? (.ref t)>>=_) _ _ s;refine Wb (bE hol hdl ?_);simp only[Int.toNat_natCast,hx];refine Wb (wpAny_setField ho hd (by simp) (aB ⟨x,rfl,wpAny_pure (hQ _ ?_ (bH ..))⟩));exact⟨_,Heap.get?_update_self _ ho (Obj.isFreed_of_fields (Obj.data_mapFields hd _)),(Obj.cls_mapFields ..).trans hc,by
  rw[Obj.data_mapFields hd];simp[rawInt]⟩
def next_end{it t:AD}{i:Nat}{items}{Q:VL→SD→Prop}(hh:A.handled=none)(hit:s.heap.IsTupleIter it t i)(ht:s.heap.IsTuple t items)(hx:items[i]? = none)
 (hE:∀h' e,Heap.ExtBut it s.heap h'→(∃o,h'.get? e=some o∧o.cls=.type "StopIteration")→E (.ref e) {s with heap:=h'}):wpAny (model prog w) A (Builtin.SmallTypes.nextOf (.ref it)) Q E s:=by
 obtain⟨o,ho,hc,hd⟩:=id hit;obtain⟨ol,hol,_,nl,hdl⟩:=ht;unfold Builtin.SmallTypes.nextOf;refine Wb (bD (name:=Str.ofString "__next__") hit.typeIs F.slot_tuple_iterator_next
  (ak F.slot_tuple_iterator_next hit.typeIs F.entry_tuple_iterator_next ?_ (F.args_tuple_iterator_next_1 _)))
 show wpAny _ _ (field (.ref it) 0>>=_) _ _ s;refine Wb (bA ho hd (x:=.ref t) rfl ?_);show wpAny _ _ (if(Value.ref t==Value.none)=true then _ else _) _ _ s;rw[if_neg (show ¬((Value.ref t==Value.none)=true) from aL)];show wpAny _ _ (field (.ref it) 1>>=_) _ _ s;refine Wb (bA ho hd (x:=.int i 0) rfl ?_);show wpAny _ _ (seqItems? (.ref t)>>=_) _ _ s;refine Wb (bE hol hdl ?_);simp only[Int.toNat_natCast,hx];refine Wb (wpAny_rule (Wb (wpAny_setField ho hd (by simp) ?_)));show wpAny _ _ (newExc (.type "StopIteration") []>>=_) _ _ _;refine Wb ?_;simp only[newExc,newTuple];refine Wb (ae ?_ (by size_fits));refine Wb (m:=firstArgMember _ _) (wpAny_of_eq (a:=Value.none) (by first|rfl|(simp only[firstArgMember];rfl)) ?_);refine ae ?_ (by size_fits);simp only[raiseNew];refine Wb (wpAny_handled ?_)
 first|rw[show A.in1.handled=none from hh]|rw[hh]
 refine Wb (aB (wpAny_throw ?_));exact hE _ _ (((bH ..).extBut.push _).push _) ⟨_,Heap.get?_push_size _ rfl,rfl⟩
end
section
open AutoSeq1 (wpAny_loadPart')
def YT(l:AD)(items:Array VL)(n:Nat)(dct:Option AD)(sl:Array (Option VL)) :
  Meets (Builtin.«enumerate.__new__» ⟨[.type "enumerate",.ref l],[]⟩) (fun _ R s=>s.heap.get? l=some { cls:=.type "tuple",dict:=dct,data:=.seq items n,slots:=sl} ∧
   R (.ok (.ret (.ref (s.heap.push { cls:=.type "tuple_iterator",data:=.fields #[.ref l,.int 0 0]}).objs.size)))
    {s with heap:=(s.heap.push { cls:=.type "tuple_iterator",data:=.fields #[.ref l,.int 0 0]}).push { cls:=.type "enumerate",data:=.fields #[.none,.bool false,.ref s.heap.objs.size,rawInt 0,.none,.none]} }) :=
 .of_wp fun prog w A R s h=>by
  obtain⟨hp,g,d,tk,os⟩:=s;obtain⟨hl,h⟩:=h;have hsub:=sub_enumerate;have hL:Heap.IsTuple (Shared.heap ⟨hp,g,d,tk,os⟩) l items:=⟨_,hl,rfl,n,rfl⟩
  wp_walk using wpAny_loadPart' hl
  refine wpAny_stack_any fun st=>aB ?_;split
  ·rename_i c _ _ _ _ _;cases (c==Value.type "enumerate")
   ·wp_walk using wpAny_loadPart' hl,wpAny_pyIter_tuple hL
    exact⟨_,rfl,h⟩
   ·wp_walk using wpAny_loadPart' hl,wpAny_pyIter_tuple hL
    exact⟨_,rfl,h⟩
  ·wp_walk using wpAny_loadPart' hl,wpAny_pyIter_tuple hL
   exact⟨_,rfl,h⟩
def X7{prog:Program}{w:World}{A:Around}{E:VL→SD→Prop}{s:SD}{l:AD}{items:Array VL}{Q:VL→SD→Prop}(hL:s.heap.IsTuple l items)
 (h:∀h',IsEnum h' (s.heap.objs.size+1) s.heap.objs.size 0 .none→h'.IsTupleIter s.heap.objs.size l 0→h'.objs.size=s.heap.objs.size+2 →
   (∀b o,s.heap.get? b=some o→h'.get? b=some o)→Q (.ref (s.heap.objs.size+1)) {s with heap:=h'}) :
  wpAny (model prog w) A (call (.type "enumerate") [.ref l]) Q E s:=by
 obtain⟨⟨c,dct,dt,sl⟩,hl,hc,n,hd⟩:=hL
 replace hc:c=.type "tuple" := hc
 replace hd:dt=.seq items n:=hd
 subst hc hd;refine callType_new F.called_enumerate (by decide) (F.typeCall_enumerate_1 _) (F.newCall_enumerate_1 _) (fun obj=>F.args_object_init_2 obj _) F.entry_enumerate_new
  (YT l items n dct sl) ⟨hl,?_⟩
 have hz:(s.heap.push { cls:=.type "tuple_iterator",data:=.fields #[.ref l,.int 0 0]}).objs.size=s.heap.objs.size+1:=Heap.size_push ..;show _∧_;rw[hz];have he:IsEnum ((s.heap.push { cls:=.type "tuple_iterator",data:=.fields #[.ref l,.int 0 0]}).push
   { cls:=.type "enumerate",data:=.fields #[.none,.bool false,.ref s.heap.objs.size,rawInt 0,.none,.none]}) (s.heap.objs.size+1) s.heap.objs.size 0 .none:=by
  have:=aP (s.heap.push { cls:=.type "tuple_iterator",data:=.fields #[.ref l,.int 0 0]})
   (o:={ cls:=.type "enumerate",data:=.fields #[.none,.bool false,.ref s.heap.objs.size,rawInt 0,.none,.none]}) rfl
  rw[hz]at this;exact this
 refine⟨⟨_,he,rfl⟩,h _ he ⟨_,Heap.get?_push_of_some _ (aP _ rfl),rfl,rfl⟩ (by rw[Heap.size_push,hz]) fun b o x=>aD _ (aD _ x)⟩
end
def draws{prog:Program}{w:World}{A:Around}(hh:A.handled=none)(it a:AD)(its:List VL)(hne:a≠it) :
  Draws prog w A it [it,a] its.length (fun i x=>its[i]? = some x) (fun i h=>h.IsTupleIter it a i∧h.IsTuple a its.toArray) where
 live:=fun i h st=>let⟨o,e,_⟩:=st.1;⟨o,e⟩
 frame:=fun i h h' st k=>by
  obtain⟨⟨o,e,r⟩,o2,e2,r2⟩:=st;exact⟨⟨o,k it (by simp) o e,r⟩,o2,k a (by simp) o2 e2,r2⟩
 item:=fun i s Q E hi st hQ=>next_item st.1 st.2 (x:=its[i]) (by simp[hi]) fun h' st' sb =>
  hQ _ h' s.toks (by simp[hi]) ⟨st',let⟨o,e,r⟩:=st.2;⟨o,(sb.2 a hne).trans e,r⟩⟩ sb
 done:=fun s Q E st hE=>next_end hh st.1 st.2 (by simp) hE
end ET
namespace L2
open PySem PySem.Spec PyProof.Rows
def Ts(H:Hp):Tr→List V→Prop
 |.nil,xs=>xs=[]
 |.cons b r,xs=>∃(a:AD) (ys zs:List V),xs=.ref a::zs∧H a=some (.tup ys)∧Ts H b ys∧Ts H r zs
def Tv(H:Hp)(t:Tr)(v:V):Prop:=∃(a:AD) (ys:List V),v=.ref a∧H a=some (.tup ys)∧Ts H t ys
def Ts.same{H H':Hp}(e:Ak H H'):∀ {t:Tr} {xs:List V},Ts H t xs→Ts H' t xs
 |.nil,xs,h=>by rw[Ts]at h ⊢;exact h
 |.cons b r,xs,h=>by
  rw[Ts]at h ⊢;obtain⟨a,ys,zs,e1,h1,h2,h3⟩:=h;exact⟨a,ys,zs,e1,e _ _ h1,h2.same e,h3.same e⟩
def Tv.same{H H':Hp}{t:Tr}{v:V}(h:Tv H t v)(e:Ak H H'):Tv H' t v:=let⟨a,ys,e1,h1,h2⟩:=h;⟨a,ys,e1,e _ _ h1,h2.same e⟩
def Ts.length{H:Hp}:∀ {t:Tr} {xs:List V},Ts H t xs→xs.length=t.len
 |.nil,xs,h=>by rw[Ts]at h;rw[h];rfl
 |.cons b r,xs,h=>by
  rw[Ts]at h;obtain⟨a,ys,zs,rfl,_,_,h3⟩:=h;rw[List.length_cons,Tr.len,h3.length]
def Ts.len{H:Hp}{t:Tr}{xs:List V}(h:Ts H t xs):xs.length=t.bs.length:=by rw[h.length,Tr.Iu]
def Ts.get{H:Hp}:∀ {t:Tr} {xs:List V} {i:Nat} {v:V},Ts H t xs→xs[i]? = some v→∃c,t.bs[i]? = some c∧Tv H c v
 |.nil,xs,i,v,h,e=>by rw[Ts]at h;subst h;simp at e
 |.cons b r,xs,i,v,h,e=>by
  rw[Ts]at h;obtain⟨a,ys,zs,rfl,h1,h2,h3⟩:=h;cases i with
  |zero=>simp at e;subst e;exact⟨b,rfl,a,ys,rfl,h1,h2⟩
  |succ i =>
   obtain⟨c,q1,q2⟩:=h3.get (i:=i) (v:=v) (by simpa using e);exact⟨c,by simpa[Tr.bs]using q1,q2⟩
def Ts.K6{H:Hp}:∀(ts:List Tr) (xs:List V),xs.length=ts.length→(∀(i:Nat) (v:V),xs[i]? = some v→∃c,ts[i]? = some c∧Tv H c v)→Ts H (Tr.of ts) xs
 |[],xs,hl,_=>by
  rw[Tr.of,Ts];exact bM (by simpa using hl)
 |t::ts,[],hl,_=>by simp at hl
 |t::ts,x::xs,hl,h=>by
  rw[Tr.of,Ts];obtain⟨c,e1,a,ys,rfl,h1,h2⟩:=h 0 x rfl;simp at e1;subst e1;exact⟨a,ys,xs,rfl,h1,h2,Ts.K6 ts xs (by simpa using hl) fun i v e=>by
   obtain⟨c,q1,q2⟩:=h (i+1) v (by simpa using e);exact⟨c,by simpa using q1,q2⟩⟩
def Ts.pick{H:Hp}{t:Tr}{xs:List V}(h:Ts H t xs)(ix:List Nat)(hi:∀i∈ix,i<xs.length):Ts H (Tr.of (ix.map fun i=>t.bs.getD i .nil)) (ix.map fun i=>xs.getD i .CT):=by
 refine Ts.K6 _ _ (by simp) fun i v e=>?_;rw[List.getElem?_map]at e ⊢;cases q:ix[i]? with
 |none=>rw[q]at e;cases e
 |some k =>
  rw[q]at e;have hk:k<xs.length:=hi k (aH q);simp only[Option.map_some,Option.some.injEq]at e;obtain⟨c,q1,q2⟩:=h.get (i:=k) (v:=v) (by rw[←e,List.getD_eq_getElem?_getD,List.getElem?_eq_getElem hk];rfl);refine⟨c,?_,q2⟩;simp only[Option.map_some,List.getD_eq_getElem?_getD,q1]
  rfl
section
variable{X:Cx}{pins:List (AD×Obj)}{σ:St}{H:Hp}{s:SD}
def Ts.vs(I:Inv X pins σ H s):∀ {t:Tr} {xs:List V} {us:List VL},Ts H t xs→Vals xs us→TH.Vs s.heap t us
 |.nil,xs,us,h,r=>by
  rw[Ts]at h;subst h;cases r;rw[TH.Vs]
 |.cons b rr,xs,us,h,r=>by
  rw[Ts]at h;obtain⟨a,ys,zs,rfl,h1,h2,h3⟩:=h;cases r with
  |cons r1 r2 =>
   cases r1;obtain⟨its,rv,p,_⟩:=I.tuple (CK.of (K:=X.K) h1);rw[TH.Vs];exact⟨a,its,_,rfl,p,Ts.vs I h2 rv,Ts.vs I h3 r2⟩
def Tv.at(I:Inv X pins σ H s){t:Tr}{v:V}{u:VL}(h:Tv H t v)(r:RelV v u):∃(a:AD) (its:List VL),u=.ref a∧s.heap.IsTuple a its.toArray∧TH.Vs s.heap t its:=by
 obtain⟨a,ys,rfl,h1,h2⟩:=h;cases r;obtain⟨its,rv,p,_⟩:=I.tuple (CK.of (K:=X.K) h1);exact⟨a,its,rfl,p,Ts.vs I h2 rv⟩
end
def gY(K:Fg)(a:AD):It :=
 ⟨fun i H=>∃xs x,CK K H a xs∧xs[i]? = some x,fun i H v H'=>∃p x,v=.ref p∧H p=none∧H'=upd H p (.tup [.int i,x])∧∀xs,CK K H a xs→xs[i]? = some x,fun i H=>∃xs,CK K H a xs∧xs.length=i⟩
def Yi{P:Program}{w:World}{K:Fg}{elts:List Expr}{x1}{pos:Pos}(a e it:AD)(hne:e≠it) :
  Turn P w K (.Tuple elts x1 pos) (gY K a) [e,it] e (fun i h=>(∃old,IsEnum h e it (i:Nat) old)∧h.IsTupleIter it a i) where
 mem:=by simp
 obj:=fun i h st b hb=>by
  rcases aJ.mp hb with rfl|hb
  ·obtain⟨⟨old,q⟩,_⟩:=st;exact⟨_,q,fun v z=>by cases z⟩
  ·have e2:b=it:=by simpa using hb
   subst e2;obtain⟨_,o,q,c,d⟩:=st;exact⟨o,q,fun v z=>by rw[d]at z;cases z⟩
 keep:=fun i h h' st k=>by
  obtain⟨⟨old,q⟩,o,q2,r⟩:=st;exact⟨⟨old,k e (by simp) _ q⟩,o,k it (by simp) _ q2,r⟩
 item:=by
  intro X hP hw hK hc i pins s σ H E I hf st hg;subst hP hw hK;obtain⟨xs,x,hq,hx⟩:=hg;obtain⟨its,rv,p,hz⟩:=I.tuple hq;obtain⟨u,hu,ru⟩:=rv.get hx;obtain⟨⟨old,he⟩,hit⟩:=st;have hai:a≠it:=fun z=>by
   obtain⟨o,e1,c1,_⟩:=p;obtain⟨o2,e2,c2,_⟩:=hit;rw[z,e2]at e1;cases e1;rw[c1]at c2;exact absurd c2 (by decide)
  have hae:a≠e:=fun z=>by
   obtain⟨o,e1,c1,_⟩:=p;rw[z,he]at e1;cases e1;exact absurd (show Value.type "enumerate" = Value.type "tuple" from c1) (by decide)
  have hlt:i<its.length:=(aF.mp hu).1;have hE0:=hf e (by simp);have hI0:=hf it (by simp);refine wpAny_pyNext_enum_itemD (ET.draws (prog:=X.prog) (w:=X.w) (A:=X.A.in1) (I.ok.hd hc) it a its hai) he ⟨hit,p⟩ hlt hne (by simp[hne,Ne.symm hae]) fun y h' tk hy ho hs' hT hsz hk=>⟨_,rfl,wpAny_letOwnedTupleGo_enum (s:={s with heap:=h',toks:=tk+1}) ho fun h'' he'' sb=>?_⟩;have hyu:y=u:=by rw[hu]at hy;exact(aa hy).symm
  subst hyu;have keep:∀b o,b≠e→b≠it→s.heap.get? b=some o→h''.get? b=some o:=fun b o h1 h2 q=>(sb.2 b h1).trans (hk b o h1 h2 q);have hTe:s.heap.objs.size≠e:=Nat.ne_of_gt (aE he);have hTi:s.heap.objs.size≠it:=let⟨_,q,_⟩:=hit;Nat.ne_of_gt (aE q);have hT'':h''.get? s.heap.objs.size=some { cls:=.type "tuple",data:=.seq #[.int i tk,y]}:=(sb.2 _ hTe).trans hT;have hTn:H s.heap.objs.size=none:=I.Bj.fresh (aG _);have neT:∀b o,s.heap.get? b=some o→b≠s.heap.objs.size:=fun b o q=>aO (aE q);have IG:∀b o,H b=some o→b≠e∧b≠it:=fun b o q=>⟨(fun z=>by rw[z,hE0.1]at q;cases q),(fun z=>by rw[z,hI0.1]at q;cases q)⟩;refine⟨.ref s.heap.objs.size,upd H s.heap.objs.size (.tup [.int i,x]),?_,rfl,⟨_,x,rfl,hTn,rfl,fun ys hy=>by rw[I.Se hy hq];exact hx⟩,⟨⟨_,by simpa using he''⟩,?_⟩,fun b hb=>?_⟩
  ·show Inv X pins σ _ {s with heap:=h'',gens:=s.gens,drawn:=s.drawn,toks:=tk+1};refine I.step (h':=h'') (g':=s.gens) (d':=s.drawn) (t':=tk+1) (ch:=[e,it]) (fun b hb=>?_) (fun b o _ _ hc q _=>keep b o (fun z=>hc (by simp[z])) (fun z=>hc (by simp[z])) q) (fun b o _ _ hc q _=>⟨o.slots,keep b o (fun z=>hc (by simp[z])) (fun z=>hc (by simp[z])) q⟩)
    (fun b o _ q n=>by rw[AZ (neT b o q)];exact n) (fun b o hc q=>⟨o,keep b o (fun z=>hc (by simp[z])) (fun z=>hc (by simp[z])) q⟩) (fun b ys q=>by rw[AZ (A8 q hTn)];exact q) (fun b o u q=>by rw[AZ (A8 q hTn)];exact q)
    (fun b ps q=>⟨#[],by rw[AZ (A8 q hTn),q];simp⟩) (fun m hm=>?_) (fun b o q=>?_) I.bare
   ·rcases aJ.mp hb with rfl|hb
    ·exact⟨hE0.2.2.2.1,hE0.2.1,hE0.2.2.2.2.1,hE0.2.2.2.2.2⟩
    ·have e2:b=it:=by simpa using hb
     subst e2;exact⟨hI0.2.2.2.1,hI0.2.1,hI0.2.2.2.2.1,hI0.2.2.2.2.2⟩
   ·obtain⟨o,es,ep,ho,r⟩:=hm;exact⟨o,es,ep,keep _ o (Ne.symm hE0.2.1) (Ne.symm hI0.2.1) ho,r⟩
   ·by_cases hb:b=s.heap.objs.size
    ·subst hb;rw[Au]at q;cases q;exact⟨Yg,[.int i tk,y],.cons ⟨tk,rfl⟩ (.cons ru .nil),_,hT'',rfl,_,rfl⟩
    ·rw[AZ hb]at q;refine(I.Bj b o q).Lq (fun c v hc r=>keep c v ?_ ?_ r) (fun c r=>by rw[AZ (A8 r hTn)];exact r) fun c ys r=>by rw[AZ (A8 r hTn)];exact r
     ·rcases hc with rfl|hc
      ·exact(IG _ _ q).1
      ·exact(IG _ _ hc).1
     ·rcases hc with rfl|hc
      ·exact(IG _ _ q).2
      ·exact(IG _ _ hc).2
  ·obtain⟨⟨o,q,r⟩,_⟩:=hs';exact⟨o,(sb.2 it (Ne.symm hne)).trans q,r⟩
  ·rcases aJ.mp hb with rfl|hb
   ·rw[AZ (Ne.symm hTe)];exact hE0.1
   ·have e2:b=it:=by simpa using hb
    subst e2;rw[AZ (Ne.symm hTi)];exact hI0.1
 done:=by
  intro X hP hw hK hc i pins s σ H E I hf st hg;subst hP hw hK;obtain⟨xs,hq,hx⟩:=hg;obtain⟨its,rv,p,hz⟩:=I.tuple hq;obtain⟨⟨old,he⟩,hit⟩:=st;have hai:a≠it:=fun z=>by
   obtain⟨o,e1,c1,_⟩:=p;obtain⟨o2,e2,c2,_⟩:=hit;rw[z,e2]at e1;cases e1;rw[c1]at c2;exact absurd c2 (by decide)
  have hl:its.length=i:=by rw[←rv.length];exact hx
  subst hl;obtain⟨f0,f1,f2,f3,f4,f5⟩:=hf it (by simp);exact wpAny_pyNext_enum_endD (ET.draws (prog:=X.prog) (w:=X.w) (A:=X.A.in1) (I.ok.hd hc) it a its hai) he ⟨hit,p⟩ fun h' eb=>⟨rfl,I.turned (t':=s.toks) (fun b o hb q=>eb b o hb q) f0 f1 f3 f4 f5⟩
 self:=fun _ _ _ _ _ st h=>by
  obtain⟨⟨old,he⟩,_⟩:=st;exact wpAny_pyIter_enum he h
def j3(K:Fg)(ta:TA):TI:=fun σ H R=>ta σ H fun vs H1=>∃a,vs=[.ref a]∧(∃xs,CK K H1 a xs)∧R (gY K a) H1
def eg{X:Cx}{elts:List Expr}{x1}{tpos:Pos}{a:Expr}{ta:TA}{p pos:Pos}(hg:Gl X "enumerate")(hm:X.mg "enumerate" = none)(ha:PA X [a] ta)(hs:starEach [a] X.env=[(false,eval a X.env)]:=by rfl) :
  PI X (.Tuple elts x1 tpos) (.Call (.Name "enumerate" p) [a] [] pos) (j3 X.K ta):=by
 intro pins s σ H R I h;refine Call_ (Iw I hg hm boot_enumerate (bC (CG (ha pos pins s σ H _ I h) fun us s1 ⟨vs,H1,I1,r1,q1⟩=>?_) hs rfl));obtain⟨t,e,⟨xs,hq⟩,q⟩:=q1;subst e;cases r1 with
 |cons r rr =>
  cases rr;cases r;obtain⟨its,rv,p',hz⟩:=I1.tuple hq;refine ET.X7 (show s1.heap.IsTuple t its.toArray from p') fun h' he hit hsz hk=>wpAny_pyIter_enum he ?_;have I2:Inv X pins σ H1 {s1 with heap:=h'}:=I1.kept (t':=s1.toks) hk;have hn:s1.heap.objs.size+1≠s1.heap.objs.size:=by lia
  refine⟨s1.heap.objs.size+1,[s1.heap.objs.size+1,s1.heap.objs.size],_,_,H1,rfl,I2,Yi t _ _ hn,⟨⟨_,he⟩,hit⟩,fun b hb=>?_,q⟩;have hb':s1.heap.objs.size≤b:=by
   have hb2:b=s1.heap.objs.size+1∨b=s1.heap.objs.size:=by simpa using hb
   rcases hb2 with z|z
   ·rw[z];exact Nat.le_succ _
   ·rw[z];exact aG _
  exact I1.RY hb' (I1.Bj.fresh hb')
end L2
namespace TH
open PySem PySem.W PyProof.Rows PySem.SeqAt
section
variable{prog:Program}{w:World}{A:Around}{E:VL→SD→Prop}{s:SD}
def RL(a:AD):Builtin.«list.sort» ⟨[.ref a],[]⟩=Builtin.«list.sort» ⟨[.ref a],[(Str.ofString "reverse",.bool false)]⟩:=by
 rw[list_sort_rev,list_sort_plain]
 rfl
def NT{a:AD}{us:List VL}{t:Tr}{n:Nat}{P:PySem.Fin→SD→Prop}(ho:s.heap.get? a=some (seqObj "list" us.toArray n))(e:Vs s.heap t us)(h64:us.length<64)(hu:A.units+t.deep≤cLine)
 (h:∀ix:List Nat,ix.length=us.length→(∀i∈ix,i<us.length)→(ix.map fun i=>t.bs.getD i .nil)=(Tr.Dd t.bs).reverse→P (.done (.ret .none)) {s with heap:=sortedHeap s.heap a us (ix.map fun i=>us.getD i Value.none).toArray}) :
  wpAny (model prog w) A (Builtin.«list.sort» ⟨[.ref a],[]⟩) P E s:=by
 rw[RL];exact OE (b:=false) ho e h64 hu h
def VW{l:AD}{vs:List VL}{Q:List VL→SD→Prop}(hl:s.heap.IsTuple l vs.toArray)
 (h:Q vs {s with heap:=(s.heap.push (seqObj "list" #[] 0)).update s.heap.objs.size (Obj.mapSeq (· ++ vs.toArray))})(hsz:vs.length≤sizeLine) :
    wpAny (model prog w) A (collect (.ref l)) Q E s:=by
  obtain⟨o,ho,hc,n,hd⟩:=id hl
  unfold collect
  refine Wb (wpAny_runValue (codeAny_builtin entry_proto_collect' ?_))
  show wpAny _ _ (do again (.builtin "list.__iadd__" ⟨[←newList [],.ref l],[]⟩)) _ _ s
  refine Wb (wpAny_newList (aB ⟨Code.quiet_builtin _ (by decide +kernel),codeAny_builtin entry_list_iadd' ?_⟩))
  show wpAny _ _ (Builtin.List.listExtendWith (.ref s.heap.objs.size) (.ref l) (.ref s.heap.objs.size)) _ _ {s with heap:=s.heap.push (seqObj "list" #[] 0)}
  unfold Builtin.List.listExtendWith
  have ho':(s.heap.push (seqObj "list" #[] 0)).get? l=some o:=aD _ ho
  refine Wb (wpAny_typeOf (T := "tuple") ⟨o,ho',hc⟩ ?_)
  have ht:(Value.type "tuple" == Value.type "tuple")=true:=by rfl
  rw[if_pos (by rw[ht];simp)]
  refine Wb (listItems_at ho' hd ?_)
  refine Wb (listItems_at (xs:=#[]) (n:=0) (aP _ rfl) rfl ?_)
  rw[if_neg (by simp)]
  refine Wb (listUpdate_at (xs:=#[]) (n:=0) (aP _ rfl) rfl ?_ (bF _) (by show(#[]++vs.toArray).size≤sizeLine+1;simp only[Array.size_append,List.size_toArray,List.length_nil];lia))
  refine aB ?_
  show wpAny (model prog w) A (do
      let o ←load s.heap.objs.size
      match o.data with
      |.seq xs _=>pure xs.toList
      |_=>unsupported "internal:collect") Q E {s with heap:=(s.heap.push (seqObj "list" #[] 0)).update s.heap.objs.size (Obj.mapSeq (· ++ vs.toArray))}
  refine Wb (wpAny_load (get?_update_seq (aP _ rfl) _) ?_)
  show wpAny _ _ (pure ((#[]:Array VL)++vs.toArray).toList) Q E _
  rw[show((#[]:Array VL)++vs.toArray).toList=vs by simp]
  exact aB h
def Pd{l:AD}{vs:List VL}{Q:List VL→SD→Prop}(hl:s.heap.IsList l vs.toArray∨s.heap.IsTuple l vs.toArray)
 (h:Q vs {s with heap:=(s.heap.push (seqObj "list" #[] 0)).update s.heap.objs.size (Obj.mapSeq (· ++ vs.toArray))})(hsz:vs.length≤sizeLine):wpAny (model prog w) A (collect (.ref l)) Q E s:=hl.elim (fun z=>collect_list z h hsz) fun z=>VW z h hsz
def Pc{l:AD}{us:List VL}{t:Tr}{Q:VL→SD→Prop}(hl:s.heap.IsList l us.toArray∨s.heap.IsTuple l us.toArray)(e:Vs s.heap t us)(h64:us.length<64)(hu:A.units+2+t.deep≤cLine)
 (h:∀(h':Heap) (ix:List Nat) (e1:Nat),ix.length=us.length→(∀i∈ix,i<us.length)→(ix.map fun i=>t.bs.getD i .nil)=(Tr.Dd t.bs).reverse→(∀c o,s.heap.get? c=some o→h'.get? c=some o) →
   h'.get? (s.heap.objs.size+1)=some (seqObj "list" (ix.map fun i=>us.getD i Value.none).toArray e1)→Q (.ref (s.heap.objs.size+1)) {s with heap:=h'}) :
  wpAny (model prog w) A (call (.builtin "sorted") [.ref l]) Q E s:=by
 refine Calls.call_function_entry kind_sorted plain_sorted entry_sorted (args_sorted1 _) ?_;unfold Builtin.«sorted»;refine Wb (m:=checkCount "sorted" 1 1 _) (aB ?_);refine Wb (Pd hl ?_ (by rw[sizeLine_eq];lia));refine Wb (wpAny_newList ?_ (by rw[sizeLine_eq];lia));have hsz:((s.heap.push (seqObj "list" #[] 0)).update s.heap.objs.size (Obj.mapSeq (· ++ us.toArray))).objs.size=s.heap.objs.size+1:=by
  rw[Heap.size_update,size_push']
 have hoL:(((s.heap.push (seqObj "list" #[] 0)).update s.heap.objs.size (Obj.mapSeq (· ++ us.toArray))).push (seqObj "list" us.toArray 0)).get? (s.heap.objs.size+1)=some (seqObj "list" us.toArray 0):=by
  rw[←hsz];exact aP _ rfl
 have keep:∀b o,s.heap.get? b=some o→o.cls=.type "tuple" →(((s.heap.push (seqObj "list" #[] 0)).update s.heap.objs.size (Obj.mapSeq (· ++ us.toArray))).push (seqObj "list" us.toArray 0)).get? b=some o:=fun b o q _=>by
  have hlt:b<s.heap.objs.size:=aE q;rw[Heap.get?_push_ne _ _ _ (by rw[hsz];exact aO (bG hlt)),Heap.get?_update_ne _ _ _ _ (aO hlt),Heap.get?_push_ne _ _ _ (aO hlt)];exact q
 show wpAny _ _ _ _ _ {s with heap:=((s.heap.push (seqObj "list" #[] 0)).update s.heap.objs.size (Obj.mapSeq (· ++ us.toArray))).push (seqObj "list" us.toArray 0)};rw[hsz];refine Wb (av (ak slot_list_sort ⟨_,hoL,rfl⟩ entry_list_sort (NT (s:={s with heap:=((s.heap.push (seqObj "list" #[] 0)).update s.heap.objs.size (Obj.mapSeq (· ++ us.toArray))).push (seqObj "list" us.toArray 0)}) hoL (e.keeps keep) h64 (by
  rw[show A.in1.in1.units=A.units+2 from rfl];lia) fun ix a1 a2 a3=>⟨_,rfl,?_⟩) (args_list_sort _)))
 obtain⟨e1,he1⟩:=sortedAll_at s.heap us (ix.map fun i=>us.getD i Value.none).toArray;exact aB ⟨_,rfl,h _ ix e1 a1 a2 a3 (fun _ _=>sortedAll_old) he1⟩
def N5{l:AD}{us:List VL}{t:Tr}{b:Bool}{Q:VL→SD→Prop}(hl:s.heap.IsList l us.toArray∨s.heap.IsTuple l us.toArray)(e:Vs s.heap t us)(h64:us.length<64)(hu:A.units+2+t.deep≤cLine)
 (h:∀(h':Heap) (ix:List Nat) (e1:Nat),ix.length=us.length→(∀i∈ix,i<us.length)→(ix.map fun i=>t.bs.getD i .nil)=(if b then Tr.Dd t.bs else(Tr.Dd t.bs).reverse)→(∀c o,s.heap.get? c=some o→h'.get? c=some o) →
   h'.get? (s.heap.objs.size+1)=some (seqObj "list" (ix.map fun i=>us.getD i Value.none).toArray e1)→Q (.ref (s.heap.objs.size+1)) {s with heap:=h'}) :
  wpAny (model prog w) A (call (.builtin "sorted") [.ref l] [(Str.ofString "reverse",.bool b)]) Q E s:=by
 refine call_function_entry_kw kind_sorted plain_sorted entry_sorted (args_sorted_rev _ _) ?_;unfold Builtin.«sorted»;refine Wb (m:=checkCount "sorted" 1 1 _) (aB ?_);refine Wb (Pd hl ?_ (by rw[sizeLine_eq];lia));refine Wb (wpAny_newList ?_ (by rw[sizeLine_eq];lia));have hsz:((s.heap.push (seqObj "list" #[] 0)).update s.heap.objs.size (Obj.mapSeq (· ++ us.toArray))).objs.size=s.heap.objs.size+1:=by
  rw[Heap.size_update,size_push']
 have hoL:(((s.heap.push (seqObj "list" #[] 0)).update s.heap.objs.size (Obj.mapSeq (· ++ us.toArray))).push (seqObj "list" us.toArray 0)).get? (s.heap.objs.size+1)=some (seqObj "list" us.toArray 0):=by
  rw[←hsz];exact aP _ rfl
 have keep:∀b o,s.heap.get? b=some o→o.cls=.type "tuple" →(((s.heap.push (seqObj "list" #[] 0)).update s.heap.objs.size (Obj.mapSeq (· ++ us.toArray))).push (seqObj "list" us.toArray 0)).get? b=some o:=fun b o q _=>by
  have hlt:b<s.heap.objs.size:=aE q;rw[Heap.get?_push_ne _ _ _ (by rw[hsz];exact aO (bG hlt)),Heap.get?_update_ne _ _ _ _ (aO hlt),Heap.get?_push_ne _ _ _ (aO hlt)];exact q
 show wpAny _ _ _ _ _ {s with heap:=((s.heap.push (seqObj "list" #[] 0)).update s.heap.objs.size (Obj.mapSeq (· ++ us.toArray))).push (seqObj "list" us.toArray 0)};rw[hsz];refine Wb (av (wpAny_call_entry_kw slot_list_sort ⟨_,hoL,rfl⟩ entry_list_sort (OE (b:=b) (s:={s with heap:=((s.heap.push (seqObj "list" #[] 0)).update s.heap.objs.size (Obj.mapSeq (· ++ us.toArray))).push (seqObj "list" us.toArray 0)}) hoL (e.keeps keep) h64 (by
  rw[show A.in1.in1.units=A.units+2 from rfl];lia) fun ix a1 a2 a3=>⟨_,rfl,?_⟩) (args_list_sort_rev _ _)))
 obtain⟨e1,he1⟩:=sortedAll_at s.heap us (ix.map fun i=>us.getD i Value.none).toArray;exact aB ⟨_,rfl,h _ ix e1 a1 a2 a3 (fun _ _=>sortedAll_old) he1⟩
end
end TH
namespace L2
open PySem PySem.Spec PyProof.Rows
def Vals.pick{xs:List V}{us:List VL}(r:Vals xs us):∀ix:List Nat,(∀i∈ix,i<xs.length)→Vals (ix.map fun i=>xs.getD i .CT) (ix.map fun i=>us.getD i Value.none)
 |[],_=>.nil
 |i::ix,h=>by
  refine .cons ?_ (Vals.pick r ix fun k hk=>h k (aR _ hk));have hi:=h i aT;obtain⟨u,h1,h2⟩:=r.get (i:=i) (x:=xs[i]) (by simp[hi]);show RelV (xs.getD i .CT) (us.getD i Value.none);rw[List.getD_eq_getElem?_getD,List.getD_eq_getElem?_getD,h1,List.getElem?_eq_getElem hi];exact h2
section
variable{X:Cx}
def jv(K:Fg):List V→Hp→VK→Prop:=fun xs H Q=>∃(p:AD) (ys:List V) (t:Tr),xs=[.ref p]∧(Bo K H p ys∨CK K H p ys)∧Ts H t ys∧ys.length<64∧t.deep≤60 ∧
 ∀(l:AD) (zs:List V),H l=none→Ts H (Tr.of (Tr.Dd t.bs).reverse) zs→Q (.ref l) (upd H l (.lst zs))
def Y0(K:Fg):List V→Hp→VK→Prop:=fun xs H Q=>∃(p:AD) (ys:List V) (t:Tr),xs=[.ref p]∧(Bo K H p ys∨CK K H p ys)∧Ts H t ys∧ys.length<64∧t.deep≤60 ∧
 ∀(l:AD) (zs:List V),H l=none→Ts H (Tr.of (Tr.Dd t.bs)) zs→Q (.ref l) (upd H l (.lst zs))
def Mo{pins:List (AD×Obj)}{σ:St}{H:Hp}{s:SD}{Q:VK}{t:Tr}{ts:List Tr}{ys:List V}{its:List VL}{h':Heap}{ix:List Nat}{e1:Nat}(I:Inv X pins σ H s)(ht:Ts H t ys)(rv:Vals ys its)(h64:ys.length<64)
 (a1:ix.length=its.length)(a2:∀i∈ix,i<its.length)(a3:(ix.map fun i=>t.bs.getD i .nil)=ts)(keep:∀c o,s.heap.get? c=some o→h'.get? c=some o)
 (hD:h'.get? (s.heap.objs.size+1)=some (seqObj "list" (ix.map fun i=>its.getD i Value.none).toArray e1))(q:∀(l:AD) (zs:List V),H l=none→Ts H (Tr.of ts) zs→Q (.ref l) (upd H l (.lst zs))) :
  EP X pins σ Q (.ref (s.heap.objs.size+1)) {s with heap:=h'}:=by
 have hl:=rv.length;have a2':∀i∈ix,i<ys.length:=fun i hi=>by rw[hl];exact a2 i hi
 refine⟨.ref (s.heap.objs.size+1),upd H (s.heap.objs.size+1) (.lst (ix.map fun i=>ys.getD i .CT)),I.laid (t':=s.toks) keep (Nat.le_succ _) ⟨?_,_,e1,rv.pick ix a2',hD⟩,rfl,q _ _ (I.Bj.fresh (Nat.le_succ _)) ?_⟩
 ·rw[List.length_map,a1,←hl];exact Nat.le_of_lt (aK h64 (by rw[sizeLine_eq];decide))
 ·rw[←a3];exact ht.pick ix a2'
def Xw(hu:X.A.units+64<cLine):E6 X (.builtin "sorted") (jv X.K):=by
 intro pins s σ H xs us Q I r h;obtain⟨p,ys,t,rfl,hq,ht,h64,hd,q⟩:=h;obtain⟨u,rfl,r1⟩:=r.one;cases r1;rcases hq with hq|hq
 ·obtain⟨its,rv,pl,hz⟩:=I.list hq;have hl:=rv.length;exact TH.Pc (.inl pl.isList) (ht.vs I rv) (by lia) (by lia) fun h' ix e1 a1 a2 a3 keep hD=>Mo I ht rv h64 a1 a2 a3 keep hD q
 ·obtain⟨its,rv,pl,hz⟩:=I.tuple hq;have hl:=rv.length;exact TH.Pc (.inr (show s.heap.IsTuple p its.toArray from pl)) (ht.vs I rv) (by lia) (by lia) fun h' ix e1 a1 a2 a3 keep hD=>Mo I ht rv h64 a1 a2 a3 keep hD q
def Z7{e:Expr}{t:TA}{p pos kp kp2:Pos}{j}(hu:X.A.units+64<cLine)(hg:Gl X "sorted")(hm:X.mg "sorted" = none)(ha:PA X [e] t)
 (he:backTo pos (starEach [e] X.env)=(false,eval e X.env)::backTo pos (starEach [] X.env):=by rfl)(hplain:(backTo pos (starEach [e] X.env)).any (·.1)=false:=by rfl) :
  PE X (.Call (.Name "sorted" p) [e] [⟨some "reverse",.Constant (.bool true) j kp2,kp⟩] pos) (fun σ H Q=>t σ H fun vs H1=>Y0 X.K vs H1 Q):=by
 intro pins s σ H Q I h;refine wpAny_Call_Name_kw (Iw I hg hm boot_sorted ?_ (by decide) (by decide));refine callWith_kw (CG (ha pos pins s σ H _ I h) fun us s1 ⟨vs,H1,I1,r1,q1⟩=>kws_cons (Constant_bool (kws_nil ?_))) he hplain;obtain⟨p,ys,t,rfl,hq,ht,h64,hd,q⟩:=q1;obtain⟨u,rfl,r2⟩:=r1.one;cases r2;rcases hq with hq|hq
 ·obtain⟨its,rv,pl,hz⟩:=I1.list hq;have hl:=rv.length;exact TH.N5 (b:=true) (.inl pl.isList) (ht.vs I1 rv) (by lia) (by lia) fun h' ix e1 a1 a2 a3 keep hD=>Mo I1 ht rv h64 a1 a2 a3 keep hD q
 ·obtain⟨its,rv,pl,hz⟩:=I1.tuple hq;have hl:=rv.length;exact TH.N5 (b:=true) (.inr (show s1.heap.IsTuple p its.toArray from pl)) (ht.vs I1 rv) (by lia) (by lia) fun h' ix e1 a1 a2 a3 keep hD=>Mo I1 ht rv h64 a1 a2 a3 keep hD q
end
def CW(Pv:Nat→List V→Hp→Prop)(n:Nat)(D:AD):Nat→Nat→List V→Hp→Prop:=fun i m ys H=>m=n-i∧i≤n∧H D=some (.lst ys)∧Pv i ys H
def Kh{Pv:Nat→List V→Hp→Prop}{n i:Nat}{D:AD}{ys:List V}{y:V}{H:Hp}(hi:i<n)(p:Pv (i+1) (ys++[y]) (upd H D (.lst (ys++[y])))):∃m',m'<n-i∧CW Pv n D (i+1) m' (ys++[y]) (upd H D (.lst (ys++[y]))) :=
 ⟨n-(i+1),by lia,rfl,hi,Au,p⟩
def Vz{Pv:Nat→List V→Hp→Prop}{n i:Nat}{D:AD}{ys:List V}{H:Hp}(hi:i<n)(hD:H D=some (.lst ys))(p:Pv (i+1) ys H):∃m',m'<n-i∧CW Pv n D (i+1) m' ys H:=⟨n-(i+1),by lia,rfl,hi,hD,p⟩
def MM{J:It}{n:Nat}{D:AD}{H1:Hp}{fr:List (Option Nat)}{σ:St}{ix:Nat}{tif:TT}{te:TE}{G:Hp→Prop}(Pv:Nat→List V→Hp→Prop)(h0:Pv 0 [] (upd H1 D (.lst [])))
 (hgo:∀i ys H,i<n→Pv i ys H→H D=some (.lst ys)→J.go i H∧ys.length<sizeLine∧∀x H',J.GX i H x H' →
   tif ((carry fr σ).set ix (some x)) H' fun b H2=>if b=true then te ((carry fr σ).set ix (some x)) H2 fun y H3=>H3 D=some (.lst ys)∧∃m',m'<n-i∧CW Pv n D (i+1) m' (ys++[y]) (upd H3 D (.lst (ys++[y])))
    else ∃m',m'<n-i∧CW Pv n D (i+1) m' ys H2)
 (hstop:∀ys H,Pv n ys H→H D=some (.lst ys)→J.stop n H∧G H) :
  ∃W:Nat→Nat→List V→Hp→Prop,(∃m,W 0 m [] (upd H1 D (.lst []))) ∧
   ∀i m ys H,W i m ys H→H D=some (.lst ys)∧((J.stop i H∧G H)∨(J.go i H∧ys.length<sizeLine∧∀x H',J.GX i H x H' →
    tif ((carry fr σ).set ix (some x)) H' fun b H2=>if b=true then te ((carry fr σ).set ix (some x)) H2 fun y H3=>H3 D=some (.lst ys)∧∃m',m'<m∧W (i+1) m' (ys++[y]) (upd H3 D (.lst (ys++[y])))
     else ∃m',m'<m∧W (i+1) m' ys H2)):=by
 refine⟨CW Pv n D,⟨n,by simp,Nat.zero_le _,Au,h0⟩,?_⟩;rintro i m ys H ⟨rfl,hi,hH,p⟩;refine⟨hH,?_⟩;by_cases hlt:i<n
 ·exact .inr (hgo i ys H hlt p hH)
 ·have e:i=n:=by lia
  subst e;exact .inl (hstop ys H p hH)
section
variable{X:Cx}
def UC(hc:X.calm=true):E6 X (.builtin "sum") (fun xs H Q=>∃(p:AD) (ns:List Int),xs=[.ref p]∧Bo X.K H p (ns.map V.int)∧Q (.int ns.sum) H):=by
 intro pins s σ H xs us Q I r h;obtain⟨p,ns,rfl,hq,q⟩:=h;obtain⟨u,rfl,r1⟩:=r.one;cases r1;obtain⟨its,rv,pl,hz⟩:=I.list hq;have hi:=intsAre_of rv;obtain⟨xs,hx⟩:=hi.allInts.items;have hl':s.heap.IsList p (intItems xs):=hx ▸ pl.isList
 refine sum_intListG (I.ok.hd hc) hl' fun h' tk t' hk=>?_;have e1:ns=xs.toList.map (·.1):=by
  rw[←nums_intItems,←hx];exact(show numsOf its.toArray.toList=ns from hi.numsOf).symm
 have e2:preSum (numAt xs) xs.size=ns.sum:=by
  rw[preSum_eq,List.take_of_length_le (by simp),e1]
 rw[e2];exact⟨.int _,H,I.kept (t':=tk) hk,⟨t',rfl⟩,q⟩
end
section
variable{X:Cx}{scope:Scope}{cl:List (Str×AD)}{N:List Str}{C:AD}{s₀:SD}{H₀:Hp}{fp:List AD}
def SE:PX (Be X scope cl N C s₀ H₀ fp) (Zk X.K):=FP
end
mutual
def Dt(l:AD)(H:Hp):PD→V→Prop
 |.none,v=>v=.CT
 |.bool b,v=>v=.bl b
 |.int i,v=>v=.int i
 |.str x,v=>v=.str x
 |.tuple ds,v=>∃(a:AD) (xs:List V),v=.ref a∧a≠l∧H a=some (.tup xs)∧BO l H ds xs
 |.list ds,v=>∃(a:AD) (xs:List V),v=.ref a∧a≠l∧H a=some (.lst xs)∧BO l H ds xs
 |.dict _,_=>False
def BO(l:AD)(H:Hp):List PD→List V→Prop
 |[],xs=>xs=[]
 |d::ds,xs=>∃x r,xs=x::r∧Dt l H d x∧BO l H ds r
end
mutual
def Dt.but{l:AD}{H H':Hp}(e:SameBut l H H'):∀ {d:PD} {v:V},Dt l H d v→Dt l H' d v
 |.none,_,h=>by rw[Dt]at h ⊢;exact h
 |.bool _,_,h=>by rw[Dt]at h ⊢;exact h
 |.int _,_,h=>by rw[Dt]at h ⊢;exact h
 |.str _,_,h=>by rw[Dt]at h ⊢;exact h
 |.tuple _,_,h=>by
  rw[Dt]at h ⊢;obtain⟨a,xs,e1,n,h1,h2⟩:=h;exact⟨a,xs,e1,n,e _ _ n h1,BO.but e h2⟩
 |.list _,_,h=>by
  rw[Dt]at h ⊢;obtain⟨a,xs,e1,n,h1,h2⟩:=h;exact⟨a,xs,e1,n,e _ _ n h1,BO.but e h2⟩
 |.dict _,_,h=>by rw[Dt]at h;exact h.elim
def BO.but{l:AD}{H H':Hp}(e:SameBut l H H'):∀ {ds:List PD} {xs:List V},BO l H ds xs→BO l H' ds xs
 |[],_,h=>by rw[BO]at h ⊢;exact h
 |_::_,_,h=>by
  rw[BO]at h ⊢;obtain⟨x,r,e1,h1,h2⟩:=h;exact⟨x,r,e1,Dt.but e h1,BO.but e h2⟩
end
def BO.same{l:AD}{H H':Hp}{d:List PD}{v:List V}(h:BO l H d v)(e:Ak H H'):BO l H' d v:=BO.but (.of e) h
def BO.len{l:AD}{H:Hp}:∀ {ds:List PD} {xs:List V},BO l H ds xs→xs.length=ds.length
 |[],_,h=>by rw[BO]at h;rw[h];rfl
 |_::_,_,h=>by
  rw[BO]at h;obtain⟨x,r,rfl,_,h2⟩:=h;rw[List.length_cons,List.length_cons,BO.len h2]
def BO.get{l:AD}{H:Hp}:∀ {ds:List PD} {xs:List V} {i:Nat} {v:V},BO l H ds xs→xs[i]? = some v→∃d,ds[i]? = some d∧Dt l H d v
 |[],_,i,v,h,e=>by rw[BO]at h;subst h;simp at e
 |d::ds,_,i,v,h,e=>by
  rw[BO]at h;obtain⟨x,r,rfl,h1,h2⟩:=h;cases i with
  |zero=>simp at e;subst e;exact⟨d,rfl,h1⟩
  |succ i =>
   obtain⟨c,q1,q2⟩:=h2.get (i:=i) (v:=v) (by simpa using e);exact⟨c,by simpa using q1,q2⟩
def BO.nil{l:AD}{H:Hp}:BO l H [] []:=by rw[BO]
def BO.cons{l:AD}{H:Hp}{d:PD}{ds:List PD}{x:V}{xs:List V}(h:Dt l H d x)(k:BO l H ds xs):BO l H (d::ds) (x::xs):=by
 rw[BO];exact⟨x,xs,rfl,h,k⟩
def BO.app{l:AD}{H:Hp}:∀ {ds es:List PD} {xs ys:List V},BO l H ds xs→BO l H es ys→BO l H (ds++es) (xs++ys)
 |[],_,_,_,h,k=>by rw[BO]at h;subst h;exact k
 |d::ds,es,_,ys,h,k=>by
  rw[BO]at h;obtain⟨x,r,rfl,h1,h2⟩:=h;exact .cons h1 (h2.app k)
def Dt.int{l:AD}{H:Hp}{i:Int}:Dt l H (.int i) (.int i):=by rw[Dt]
def Dt.bool{l:AD}{H:Hp}{b:Bool}:Dt l H (.bool b) (.bl b):=by rw[Dt]
def Dt.CT{l:AD}{H:Hp}:Dt l H .none .CT:=by rw[Dt]
def Dt.str{l:AD}{H:Hp}{x:Str}:Dt l H (.str x) (.str x):=by rw[Dt]
def Dt.tup{l a:AD}{H:Hp}{ds:List PD}{xs:List V}(n:a≠l)(h:H a=some (.tup xs))(k:BO l H ds xs):Dt l H (.tuple ds) (.ref a):=by rw[Dt];exact⟨a,xs,rfl,n,h,k⟩
def Dt.lst{l a:AD}{H:Hp}{ds:List PD}{xs:List V}(n:a≠l)(h:H a=some (.lst xs))(k:BO l H ds xs):Dt l H (.list ds) (.ref a):=by rw[Dt];exact⟨a,xs,rfl,n,h,k⟩
def Ok(n:Nat)(d:PD):Prop:=d.canLay0=true∧d.depth≤n
def Wj(n:Nat)(ds:List PD):Prop:=PyData.canLayAll0 ds=true∧PyData.depthAll ds≤n
def Ok.shaped{n:Nat}{d:PD}(h:Ok n d)(hn:n≤64):SeqAt.shaped d=true:=by
 unfold SeqAt.shaped;rw[h.1,Bool.true_and];exact aw (aW h.2 hn)
def Ok.tup{n:Nat}{ds:List PD}(h:Wj n ds):Ok (n+1) (.tuple ds):=⟨by simp only[PyData.canLay0];exact h.1,by simp only[PyData.depth];exact Nat.succ_le_succ h.2⟩
def Ok.lst{n:Nat}{ds:List PD}(h:Wj n ds):Ok (n+1) (.list ds):=⟨by simp only[PyData.canLay0];exact h.1,by simp only[PyData.depth];exact Nat.succ_le_succ h.2⟩
def Ok.int{n:Nat}{i:Int}:Ok n (.int i):=⟨by simp[PyData.canLay0],by simp[PyData.depth]⟩
def Ok.bool{n:Nat}{b:Bool}:Ok n (.bool b):=⟨by simp[PyData.canLay0],by simp[PyData.depth]⟩
def Ok.CT{n:Nat}:Ok n .none:=⟨by simp[PyData.canLay0],by simp[PyData.depth]⟩
def Ok.str{n:Nat}{x:Str}(h:PyData.strOk x=true):Ok n (.str x):=⟨by simp[PyData.canLay0,h],by simp[PyData.depth]⟩
def Ok.mono{m n:Nat}{d:PD}(h:Ok m d)(l:m≤n:=by decide):Ok n d:=⟨h.1,Nat.le_trans h.2 l⟩
def U7(s:String):PyData.strOk (Str.ofString s)=true:=by
 rw[Str.ofString_eq_toList];unfold PyData.strOk;simp only[List.all_toArray,List.all_map,List.all_eq_true,Function.comp,decide_eq_true_eq];intro c _;have:=c.valid;unfold Char.toNat;rcases this with h|⟨_,h⟩
 ·exact Nat.lt_trans h (by decide)
 ·exact h
mutual
def Hu:∀d:PD,d.canLay0=true→PyData.eqv d d=true
 |.none,_=>by simp[PyData.eqv]
 |.bool _,_=>by simp[PyData.eqv]
 |.int _,_=>by simp[PyData.eqv]
 |.str _,_=>by simp[PyData.eqv]
 |.tuple ds,h=>by simp only[PyData.eqv];exact Ly ds (by simpa only[PyData.canLay0]using h)
 |.list ds,h=>by simp only[PyData.eqv];exact Ly ds (by simpa only[PyData.canLay0]using h)
 |.dict _,h=>by simp[PyData.canLay0]at h
def Ly:∀ds:List PD,PyData.canLayAll0 ds=true→PyData.eqvAll ds ds=true
 |[],_=>by simp[PyData.eqvAll]
 |d::ds,h=>by
  simp only[PyData.canLayAll0,Bool.and_eq_true]at h;simp only[PyData.eqvAll,Hu d h.1,Ly ds h.2,Bool.and_self]
end
def Px:PD→String
 |.none => "NoneType"
 |.bool _ => "bool"
 |.int _ => "int"
 |.str _ => "str"
 |.tuple _ => "tuple"
 |.list _ => "list"
 |.dict _ => "dict"
def Dt.ty{K:Fg}{l:AD}{H:Hp}:∀ {d:PD} {v:V},Dt l H d v→IB K H v (.type (Px d))
 |.none,_,h=>by rw[Dt]at h;subst h;exact .CT
 |.bool _,_,h=>by rw[Dt]at h;subst h;exact .bl _
 |.int _,_,h=>by rw[Dt]at h;subst h;exact .int _
 |.str _,_,h=>by rw[Dt]at h;subst h;exact .str _
 |.tuple _,_,h=>by rw[Dt]at h;obtain⟨a,xs,rfl,_,h1,_⟩:=h;exact .tup h1
 |.list _,_,h=>by rw[Dt]at h;obtain⟨a,xs,rfl,_,h1,_⟩:=h;exact .lst h1
 |.dict _,_,h=>by rw[Dt]at h;exact h.elim
def CO:PD→Bool
 |.tuple _=>true
 |_=>false
def GC:PD→Bool
 |.list _=>true
 |_=>false
def Bk:PD→Bool
 |.int _=>true
 |.bool _=>true
 |_=>false
def BR:PD→Bool
 |.bool _=>true
 |_=>false
def F4(K:Fg):∀d:PD,(∀kv,d≠.dict kv)→PySem.W.kitOne K (.type (Px d)) (.type "tuple")=some (CO d)
 |.none,_=>fc K
 |.bool _,_=>gV K
 |.int _,_=>fK K
 |.str _,_=>ig K
 |.tuple _,_=>iJ K
 |.list _,_=>gL K
 |.dict kv,h=>absurd rfl (h kv)
def M3(K:Fg):∀d:PD,(∀kv,d≠.dict kv)→PySem.W.kitOne K (.type (Px d)) (.type "list")=some (GC d)
 |.none,_=>iz K
 |.bool _,_=>fh K
 |.int _,_=>gw K
 |.str _,_=>fe K
 |.tuple _,_=>gR K
 |.list _,_=>gO K
 |.dict kv,h=>absurd rfl (h kv)
def fH(K:Fg):PySem.W.kitOne K (.type "NoneType") (.type "bool")=some false:=by kernel_rfl
def gK(K:Fg):PySem.W.kitOne K (.type "str") (.type "bool")=some false:=by kernel_rfl
def fv(K:Fg):PySem.W.kitOne K (.type "tuple") (.type "bool")=some false:=by kernel_rfl
def fL(K:Fg):PySem.W.kitOne K (.type "list") (.type "bool")=some false:=by kernel_rfl
def M5(K:Fg):∀d:PD,(∀kv,d≠.dict kv)→PySem.W.kitOne K (.type (Px d)) (.type "int")=some (Bk d)
 |.none,_=>gC K
 |.bool _,_=>jF K
 |.int _,_=>gG K
 |.str _,_=>iu K
 |.tuple _,_=>fQ K
 |.list _,_=>jG K
 |.dict kv,h=>absurd rfl (h kv)
def J1(K:Fg):∀d:PD,(∀kv,d≠.dict kv)→PySem.W.kitOne K (.type (Px d)) (.type "bool")=some (BR d)
 |.none,_=>fH K
 |.bool _,_=>iX K
 |.int _,_=>gm K
 |.str _,_=>gK K
 |.tuple _,_=>fv K
 |.list _,_=>fL K
 |.dict kv,h=>absurd rfl (h kv)
def Dt.nodict{l:AD}{H:Hp}{d:PD}{v:V}(h:Dt l H d v):∀kv,d≠.dict kv:=fun kv z=>by subst z;rw[Dt]at h;exact h
end L2
namespace Tr
def ZK{t c:Tr}(h:c∈t.bs):c.deep<t.deep:=by
 induction t with
 |nil=>cases h
 |cons b r _ ih =>
  rw[bs]at h;have hd:(cons b r).deep=max (b.deep+1) r.deep:=rfl;rcases aJ.mp h with rfl|h
  ·lia
  ·have:=ih h;lia
def LP:∀t:Tr,0<t.Ah
 |.nil=>Nat.one_pos
 |.cons b r=>by rw[Ah];have:=LP b;lia
def YB{t c:Tr}(h:c∈t.bs):c.Ah<t.Ah:=by
 induction t with
 |nil=>cases h
 |cons b r _ ih =>
  rw[bs]at h;have hk:(cons b r).Ah=b.Ah+r.Ah:=rfl;have h3:=LP b;have h4:=LP r;rcases aJ.mp h with rfl|h
  ·lia
  ·have:=ih h;lia
end Tr
namespace L2
open PySem PySem.Spec PyProof.Rows
mutual
def Hz:PD→Option Tr
 |.tuple ds=>JV ds
 |_=>none
def JV:List PD→Option Tr
 |[]=>some .nil
 |d::ds=>(Hz d).bind fun b=>(JV ds).map fun r=>.cons b r
end
section
variable{X:Cx}
def kD:R2:=fun x y H Q=>∃a b xs ys,x=.ref a∧y=.ref b∧H a=some (.tup xs)∧H b=some (.tup ys)∧xs.length+ys.length≤sizeLine∧∀p H',Ak H H'→H' p=some (.tup (xs++ys))→Q (.ref p) H'
def eR:D0 X (binaryOp .Add) kD:=by
 intro pins s σ H x y v u Q I rx ry h;obtain⟨a,b,xs,ys,rfl,rfl,ha,hb,hz,q⟩:=h;cases rx;cases ry;obtain⟨its,r1,p1,_⟩:=I.tuple (CK.of (K:=X.K) ha);obtain⟨its2,r2,p2,_⟩:=I.tuple (CK.of (K:=X.K) hb);by_cases hv:its=[]
 ·have hx:=r1.Vk.mp hv;subst hv hx;obtain⟨⟨cls,dd,data,sl⟩,ho,hc,n,hd⟩:=id p1;obtain⟨⟨cls2,dd2,data2,sl2⟩,ho2,hc2,n2,hd2⟩:=id p2;simp only at hc hd hc2 hd2;subst hc hd hc2 hd2;exact concat_meets ⟨_,ho,rfl⟩ ⟨_,ho2,rfl⟩ noFill_tuple_add seq_tuple_add PySem.F.slot_tuple_add PySem.F.entry_tuple_add (PySem.F.args_tuple_add_2 _ _)
   (tuple_addW0 a b _ _ n n2 dd dd2 sl sl2 (by simp)) ⟨ho,ho2,⟨.ref b,H,I,rfl,q b H (.refl H) (by simpa using hb)⟩⟩
 ·refine HT.dZ p1 p2 hv (fun z=>?_) (fun z=>?_) (by rw[←r1.length,←r2.length];exact hz)
  ·have hy:=r2.Vk.mp z;subst hy;exact⟨.ref a,H,I,rfl,q a H (.refl H) (by simpa using ha)⟩
  ·refine⟨.ref s.heap.objs.size,_,I.laid (t':=s.toks) (o:=.tup (xs++ys)) (fun b ob q=>aD _ q) (aG _) ?_,rfl,q _ _ (Bv (I.Bj.fresh (aG _)) _) Au⟩;exact⟨by rw[List.length_append];exact hz,_,r1.append r2,IsTup.new _ _⟩
end
end L2
namespace Tim
open PySem PyProof.Rows
section pure
end pure
section
section pure
end pure
section pure
end pure
end
end Tim
set_option maxHeartbeats 0
set_option maxHeartbeats 4000000
namespace L2
open PySem PySem.Spec PyProof.Rows
abbrev O6(x y:Str)(px py:Pos)(tk:Nat)(tp:Pos):Expr:=.Tuple [.Name x px,.Name y py] tk tp
def eW{ix iy:Nat}(h:ix≠iy)(σ:St)(a b c d:Option V):((((σ.set ix a).set iy b).set ix c).set iy d)=(σ.set ix c).set iy d:=by
 rw[List.set_comm _ _ h.symm,List.set_set,List.set_set]
def L5(K:Fg)(wi:TI)(fr:List (Option Nat))(ix iy:Nat)(tif:TT)(te:TE):TE:=fun σ H Q=>wi σ H fun J H1=>∀D,H1 D=none→∃W:Nat→Nat→List V→Hp→Prop,(∃m,W 0 m [] (upd H1 D (.lst []))) ∧
 ∀i m ys H,W i m ys H→H D=some (.lst ys)∧((J.stop i H∧Q (.ref D) H)∨(J.go i H∧ys.length<sizeLine∧∀x H',J.GX i H x H'→∃a v1 v2,x=.ref a∧CK K H' a [v1,v2] ∧
  tif (((carry fr σ).set ix (some v1)).set iy (some v2)) H' fun b H2=>if b=true then te (((carry fr σ).set ix (some v1)).set iy (some v2)) H2 fun y H3=>H3 D=some (.lst ys)∧∃m',m'<m∧W (i+1) m' (ys++[y]) (upd H3 D (.lst (ys++[y])))
   else ∃m',m'<m∧W (i+1) m' ys H2))
section
variable{X:Cx}{elt iter:Expr}{x y:Str}{px py tp pos:Pos}{tk:Nat}{ifs:List Expr}{scope:Scope}{wi:TI}{fr:List (Option Nat)}{ix iy:Nat}{tif:TT}{te:TE}{N:List Str}
def PQ{pins:List (AD×Obj)}{σ:St}{H2:Hp}{s2:SD}{Q:VK}{it:AD}{fp:List AD}{tn:Nat→Heap→Prop}{J:It}{cl:List (Str×AD)}{E:VL→SD→Prop}{RR:VL→AD→Result→SD→Prop}
 (S:Ej scope N x ix)(S2:Ej scope N y iy)(hxy:ix≠iy)(hcalm:X.calm=true)(hfr:G5 N X.N scope X.env.scope fr 0=true)(hlen:fr.length=N.length)
 (hif:∀cl C s₀ H₀ fp,NI (Be X scope cl N C s₀ H₀ fp) ifs tif)(he:∀cl C s₀ H₀ fp,PE (Be X scope cl N C s₀ H₀ fp) elt te)
 (I2:Inv X pins σ H2 s2)(T:Turn X.prog X.w X.K (O6 x y px py tk tp) J fp it tn)(st2:tn 0 s2.heap)(f2:∀b∈fp,L3 X pins H2 b)
 (c1:∀x c,cl.lookup x=some c→X.env.cells.lookup x=some c)(c2:∀x∈scope.names,x.2=NameKind.free→∃c,cl.lookup x.1=some c)
 (W:∀D,H2 D=none→∃W:Nat→Nat→List V→Hp→Prop,(∃m,W 0 m [] (upd H2 D (.lst []))) ∧
   ∀i m ys H,W i m ys H→H D=some (.lst ys)∧((J.stop i H∧Q (.ref D) H)∨(J.go i H∧ys.length<sizeLine∧∀x H',J.GX i H x H'→∃a v1 v2,x=.ref a∧CK X.K H' a [v1,v2] ∧
    tif (((carry fr σ).set ix (some v1)).set iy (some v2)) H' fun b H2=>if b=true then te (((carry fr σ).set ix (some v1)).set iy (some v2)) H2 fun y H3=>H3 D=some (.lst ys)∧∃m',m'<m∧W (i+1) m' (ys++[y]) (upd H3 D (.lst (ys++[y])))
     else ∃m',m'<m∧W (i+1) m' ys H2)))
 (fin:∀(D C:AD) (s':SD) (H':Hp) m,s'.heap.Ns C m→Q (.ref D) H'→(∀h',Heap.SameBut C s'.heap h'→Inv X pins σ H' { s' with heap:=h'})→C≠D→(∀b o,s2.heap.get? b=some o→b≠C)→H' C=none→s2.heap.objs.size≤C→RR (.ref D) C (.ok .next) s') :
  wpAny (model X.prog X.w) X.A (newList []) (fun acc s₃=>wpAny (model X.prog X.w) X.A (newFunctionEnv scope X.env.globals cl [] X.env.qual none .none (some X.env)) (fun cenv s₄ =>
   codeAny (model X.prog X.w) X.A (.compStart (.ListComp elt [⟨O6 x y px py tk tp,iter,ifs,0⟩] scope pos) 0 (.ref it) acc {cenv with scope:=relabel scope X.env}) (RR acc cenv.locals) s₄) E s₃) E s2:=by
 have hxv:(relabel scope X.env).names.lookup x=some .local:=lookup_relabel_local S.loc;have hyv:(relabel scope X.env).names.lookup y=some .local:=lookup_relabel_local S2.loc;refine PM (g:=Wl X.K 2 (Le (FO ix) (Le (FO iy) XS))) S hcalm (fun σ'=>∀v w,(σ'.set ix v).set iy w=((carry fr σ).set ix v).set iy w) (fun _ _=>rfl) (fun C=>FU (X:=Be X scope cl N C s2 H2 fp) hcalm (Bd (A2 (X:=Be X scope cl N C s2 H2 fp) S.nd S.at_ (.inl hxv) (.inr hxv)) (Bd (A2 (X:=Be X scope cl N C s2 H2 fp) S2.nd S2.at_ (.inl hyv) (.inr hyv)) EU))) hfr hlen hif he I2 T st2 f2 c1 c2 (fun D hD=>?_) fin;obtain⟨W,w0,st⟩:=W D hD;refine⟨W,w0,fun i m ys H w=>?_⟩;obtain⟨h1,h2|⟨h2,h3,h4⟩⟩:=st i m ys H w
 ·exact⟨h1,.inl h2⟩
 ·refine⟨h1,.inr ⟨h2,h3,fun x H' hy σ' hr=>?_⟩⟩;obtain⟨a,v1,v2,rfl,hs,q⟩:=h4 x H' hy;rw[←hr]at q;exact⟨a,[v1,v2],rfl,hs,rfl,v1,[v2],rfl,v2,[],rfl,rfl,fun v w=>by rw[eW hxy,hr],q⟩
def Zv(S:Ej scope N x ix)(S2:Ej scope N y iy)(hxy:ix≠iy)(hcalm:X.calm=true)(hfr:G5 N X.N scope X.env.scope fr 0=true)(hlen:fr.length=N.length)(hfree:∀y∈scope.names,y.2=.free→X.env.scope.names.lookup y.1=some .cell∨X.env.scope.names.lookup y.1=some .free)
 (hi:PI X (O6 x y px py tk tp) iter wi)(hif:∀cl C s₀ H₀ fp,NI (Be X scope cl N C s₀ H₀ fp) ifs tif)(he:∀cl C s₀ H₀ fp,PE (Be X scope cl N C s₀ H₀ fp) elt te)
 (hs:∀x,foldedSetIterable iter X.env x=pure x:=by intro _;rfl):PE X (.ListComp elt [⟨O6 x y px py tk tp,iter,ifs,0⟩] scope pos) (L5 X.K wi fr ix iy tif te):=by
 intro pins s σ H Q I hw;obtain⟨cl,hclos,c1,_,c2⟩:=Iq (env:=X.env) scope.names [] (fun y hy hf=>I.ok.has y.1 (hfree y hy hf)) (fun y c z=>by cases z);have hclos':closureFor scope X.env=pure cl:=by
  have e:closureFor scope X.env=((forIn scope.names [] (fun(x:Str×NameKind) (r:List (Str×AD))=>do if(x.2==NameKind.free)=true then do let a ←cellOf X.env x.1;pure (ForInStep.yield ((x.1,a)::r)) else pure (ForInStep.yield r)):Sem (List (Str×AD)))>>=fun cs=>pure cs):=rfl;rw[e,hclos]
  rfl
 rw[eval_ListComp];refine wpAny_comprehension_free (use:=none) rfl hs hclos' S.kind S.names (CG (hi pins s σ H _ I hw) fun v s1 h1=>CG h1 fun itv s2 h2=>?_);obtain⟨it,fp,tn,J,H2,e,I2,T,st2,f2,W⟩:=h2;subst e;refine PQ (RR:=fun acc C=>compPost (model X.prog X.w) X.A X.xe none (EP X pins σ Q) acc C) S S2 hxy hcalm hfr hlen hif he I2 T st2 f2 c1 c2 W ?_;intro D C s' H' m hn q hI _ _ _ _;exact⟨m,hn,fun h' hs'=>⟨.ref D,H',hI h' hs',rfl,q⟩⟩
def Va{i : Nat}{z : Str}{pz spos : Pos}(hN : X.N.Nodup)(hy : X.N[i]? = some z)(hly : X.env.scope.names.lookup z = some .local)(S : Ej scope N x ix)(S2 : Ej scope N y iy)(hxy : ix≠iy)(hcalm : X.calm = true)(hfr : G5 N X.N scope X.env.scope fr 0 = true)(hlen : fr.length = N.length)
 (hfree : ∀ y∈scope.names,y.2 = .free→X.env.scope.names.lookup y.1 = some .cell∨X.env.scope.names.lookup y.1 = some .free)
 (hi : PI X (O6 x y px py tk tp) iter wi)(hif : ∀ cl C s₀ H₀ fp,NI (Be X scope cl N C s₀ H₀ fp) ifs tif)(he : ∀ cl C s₀ H₀ fp,PE (Be X scope cl N C s₀ H₀ fp) elt te)
 (hsw : swapsWith (.ListComp elt [⟨O6 x y px py tk tp,iter,ifs,0⟩] scope pos) (some (.Name z pz)) spos.line X.env = pure true := by rfl)
 (hs : ∀ x,foldedSetIterable iter X.env x = pure x := by intro _; rfl) :
    PS X (.Assign [.Name z pz] (.ListComp elt [⟨O6 x y px py tk tp,iter,ifs,0⟩] scope pos) spos) (Xb (L5 X.K wi fr ix iy tif te) (FO i)) := by
  intro pins s σ H D I hw
  obtain ⟨cl,hclos,c1,_,c2⟩:=Iq (env:=X.env) scope.names [] (fun y hy hf => I.ok.has y.1 (hfree y hy hf)) (fun y c z => by cases z)
  have hclos' : closureFor scope X.env = pure cl := by
    have e : closureFor scope X.env = ((forIn scope.names [] (fun (x : Str×NameKind) (r : List (Str×AD)) => do if (x.2 == NameKind.free) = true then do let a ← cellOf X.env x.1; pure (ForInStep.yield ((x.1,a) :: r)) else pure (ForInStep.yield r)) : Sem (List (Str×AD))) >>= fun cs => pure cs):=rfl
    rw [e,hclos]
    rfl
  rw [exec_Assign_Name_used _ _ _ _ hsw]
  refine Wb (wpAny_standAt (Wb ?_))
  show wpAny _ X.A (do let _ ← comprehension (.ListComp elt [⟨O6 x y px py tk tp,iter,ifs,0⟩] scope pos) scope X.env _ (newList []) false (eval iter X.env) (some (assign (.Name z pz) X.env))) _ _ s
  refine Wb (ah (wpAny_comprehension_free (use:=some (assign (.Name z pz) X.env)) (Q:=fun _ s' => SP X pins D .next s') rfl hs hclos' S.kind S.names
    (CG (hi pins s σ H _ I hw) fun v s1 h1 => CG h1 fun itv s2 h2 => ?_)) (fun _ s' hq => aB (aB hq)) fun _ _ e => e)
  obtain ⟨it,fp,tn,J,H2,e,I2,T,st2,f2,W⟩:=h2
  subst e
  refine PQ (Q:=fun x H1 => FO i x σ H1 D.nx) (RR:=fun acc C => compPost (model X.prog X.w) X.A X.xe (some (assign (.Name z pz) X.env)) (fun _ s' => SP X pins D .next s') acc C) S S2 hxy hcalm hfr hlen hif he I2 T st2 f2 c1 c2 W ?_
  intro D' C s' H' m hn q hI hCD hold hfreeC hsz
  have I5 : Inv X pins σ H' s':=hI s'.heap (Heap.SameBut.refl ..)
  refine wpAny_assign_Name (SJ I5 hN hy (.inl hly) (v:=.ref D') rfl (fun s'' I6 ⟨a,hsb,ha⟩ => ?_) (.inr hly))
  have hL : C≠X.env.locals:=fun z => by
    obtain ⟨_,⟨o,_,_,e,_⟩,_⟩:=I2.loc
    exact hold _ _ e z.symm
  have hcl : ∀ z c,X.env.cells.lookup z = some c→c≠C:=fun z c e => by
    obtain ⟨_,o,ho,_⟩:=I2.cell z c e
    exact hold _ _ ho
  have hCa : C≠a := by
    rcases ha with z | z
    · rw [z]; exact hL
    · exact Ne.symm (hcl _ _ z)
  refine ⟨m,hn.sameBut hsb hCa,fun h' hs' => ⟨_,H',I6.turned (t':=s''.toks) (it:=C) (fun b o hb e => (hs'.2 b hb).trans e) hfreeC hL (.inr (aW I2.sz hsz)) hcl fun p hp => ?_,q⟩⟩
  obtain ⟨e,_⟩:=I2.pin p hp
  exact hold _ _ e
end
section
variable{X:Cx}{elt iter:Expr}{x y:Str}{px py tp pos:Pos}{tk:Nat}{ifs:List Expr}{scope:Scope}{wi:TI}{tif:TT}{te:TE}
def YE(N:List Str)(ix iy:Nat)(fr:List (Option Nat))(hi:PI X (O6 x y px py tk tp) iter wi)(hif:∀cl C s₀ H₀ fp,NI (Be X scope cl N C s₀ H₀ fp) ifs tif)(he:∀cl C s₀ H₀ fp,PE (Be X scope cl N C s₀ H₀ fp) elt te)
 (h1:DD scope N x ix=true:=by decide +kernel)(h1':DD scope N y iy=true:=by decide +kernel)(hxy:ix≠iy:=by decide)(h2:X.calm=true:=by rfl)(h3:G5 N X.N scope X.env.scope fr 0=true:=by rfl)(h4:fr.length=N.length:=by rfl)(h5:freeOk X.env.scope scope.names=true:=by rfl)
 (hs:∀x,foldedSetIterable iter X.env x=pure x:=by intro _;rfl):PE X (.ListComp elt [⟨.Tuple [.Name x px,.Name y py] tk tp,iter,ifs,0⟩] scope pos) (L5 X.K wi fr ix iy tif te) :=
 Zv (HE h1) (HE h1') hxy h2 h3 h4 (OP h5) hi hif he hs
def U2{i:Nat}{z:Str}{pz spos:Pos}(N:List Str)(ix iy:Nat)(fr:List (Option Nat))(hN:X.N.Nodup)(hy:X.N[i]? = some z)(hly:X.env.scope.names.lookup z=some .local)
 (hi:PI X (O6 x y px py tk tp) iter wi)(hif:∀cl C s₀ H₀ fp,NI (Be X scope cl N C s₀ H₀ fp) ifs tif)(he:∀cl C s₀ H₀ fp,PE (Be X scope cl N C s₀ H₀ fp) elt te)
 (h1:DD scope N x ix=true:=by decide +kernel)(h1':DD scope N y iy=true:=by decide +kernel)(hxy:ix≠iy:=by decide)(h2:X.calm=true:=by rfl)(h3:G5 N X.N scope X.env.scope fr 0=true:=by rfl)(h4:fr.length=N.length:=by rfl)(h5:freeOk X.env.scope scope.names=true:=by rfl)
 (hsw:swapsWith (.ListComp elt [⟨.Tuple [.Name x px,.Name y py] tk tp,iter,ifs,0⟩] scope pos) (some (.Name z pz)) spos.line X.env=pure true:=by rfl)
 (hs:∀x,foldedSetIterable iter X.env x=pure x:=by intro _;rfl):PS X (.Assign [.Name z pz] (.ListComp elt [⟨.Tuple [.Name x px,.Name y py] tk tp,iter,ifs,0⟩] scope pos) spos) (Xb (L5 X.K wi fr ix iy tif te) (FO i)) :=
 Va hN hy hly (HE h1) (HE h1') hxy h2 h3 h4 (OP h5) hi hif he hsw hs
end
def ZO{K:Fg}{J:It}{n:Nat}{D:AD}{H1:Hp}{fr:List (Option Nat)}{σ:St}{ix iy:Nat}{tif:TT}{te:TE}{G:Hp→Prop}(Pv:Nat→List V→Hp→Prop)(h0:Pv 0 [] (upd H1 D (.lst [])))
 (hgo:∀i ys H,i<n→Pv i ys H→H D=some (.lst ys)→J.go i H∧ys.length<sizeLine∧∀x H',J.GX i H x H'→∃a v1 v2,x=.ref a∧CK K H' a [v1,v2] ∧
   tif (((carry fr σ).set ix (some v1)).set iy (some v2)) H' fun b H2=>if b=true then te (((carry fr σ).set ix (some v1)).set iy (some v2)) H2 fun y H3=>H3 D=some (.lst ys)∧∃m',m'<n-i∧CW Pv n D (i+1) m' (ys++[y]) (upd H3 D (.lst (ys++[y])))
    else ∃m',m'<n-i∧CW Pv n D (i+1) m' ys H2)
 (hstop:∀ys H,Pv n ys H→H D=some (.lst ys)→J.stop n H∧G H) :
  ∃W:Nat→Nat→List V→Hp→Prop,(∃m,W 0 m [] (upd H1 D (.lst []))) ∧
   ∀i m ys H,W i m ys H→H D=some (.lst ys)∧((J.stop i H∧G H)∨(J.go i H∧ys.length<sizeLine∧∀x H',J.GX i H x H'→∃a v1 v2,x=.ref a∧CK K H' a [v1,v2] ∧
    tif (((carry fr σ).set ix (some v1)).set iy (some v2)) H' fun b H2=>if b=true then te (((carry fr σ).set ix (some v1)).set iy (some v2)) H2 fun y H3=>H3 D=some (.lst ys)∧∃m',m'<m∧W (i+1) m' (ys++[y]) (upd H3 D (.lst (ys++[y])))
     else ∃m',m'<m∧W (i+1) m' ys H2)):=by
 refine⟨CW Pv n D,⟨n,by simp,Nat.zero_le _,Au,h0⟩,?_⟩;rintro i m ys H ⟨rfl,hi,hH,p⟩;refine⟨hH,?_⟩;by_cases hlt:i<n
 ·exact .inr (hgo i ys H hlt p hH)
 ·have:i=n:=by lia
  subst this;exact .inl (hstop ys H p hH)
end L2
namespace ZT
open PySem PyProof.Rows
structure Apart(z TI TO i1 i2:Addr)(f1 f2:List Addr):Prop where
 a1:TI≠z∧TI≠TO∧TI≠i1∧TI≠i2
 a2:TO≠z∧TO≠i1∧TO≠i2
 a3:i1≠z∧i2≠z∧i1≠i2
 b1:z ∉ f1∧TO ∉ f1∧i2 ∉ f1
 b2:z ∉ f2∧TO ∉ f2∧i1 ∉ f2
section
variable{prog:Program}{w:World}{A:Around}{E:VL→SD→Prop}{s:SD}{z TI TO i1 i2:AD}{f1 f2:List AD}{n1 n2 k:Nat}{P1 P2:Nat→VL→Prop}{S1 S2:Nat→Heap→Prop}{a b:VL}
def FN{f:List AD}{x:AD}{h h':Heap}(hx:x ∉ f)(e:Heap.SameBut x h h'):∀c∈f,∀o,h.get? c=some o→h'.get? c=some o:=fun c hc o q=>(e.2 c fun y=>hx (y ▸ hc)).trans q
def item{Q:VL→SD→Prop}(D1:Draws prog w A i1 f1 n1 P1 S1)(D2:Draws prog w A i2 f2 n2 P2 S2)(ap:Apart z TI TO i1 i2 f1 f2)(hz:IsZip s.heap z TI TO .none)(hI:IsPair s.heap TI (.ref i1) (.ref i2))(hO:IsPair s.heap TO a b)
 (t1:S1 k s.heap)(t2:S2 k s.heap)(l1:k<n1)(l2:k<n2)
 (q:∀x y h' tk,P1 k x→P2 k y→IsZip h' z TI TO (rawInt s.heap.objs.size)→IsPair h' TO x y→S1 (k+1) h'→S2 (k+1) h'→IsPair h' s.heap.objs.size x y→h'.objs.size=s.heap.objs.size+1 →
   (∀c o,c≠z→c≠TO→c≠i1→c≠i2→s.heap.get? c=some o→h'.get? c=some o)→Q (.ref s.heap.objs.size) {s with heap:=h',toks:=tk}) :
  wpAny (model prog w) A (Builtin.«zip.__next__» ⟨[.ref z],[]⟩) (fun fin s'=>∃v,fin=.done (.ret v)∧Q v s') E s:=by
 obtain⟨⟨c1,c2,c3,c4⟩,⟨c5,c6,c7⟩,⟨c8,c9,c10⟩,⟨d1,d2,d3⟩,d4,d5,d6⟩:=ap;show wpAny _ _ (field (.ref z) 2>>=_) _ _ _;refine Wb (bA hz rfl (x:=.bool false) rfl ?_);show wpAny _ _ (field (.ref z) 3>>=_) _ _ _;refine Wb (bA hz rfl (x:=.ref TI) rfl (Wb (bE hI rfl ?_)));show wpAny _ _ (Builtin.SmallTypes.ownedTupleIsFree (.ref z)>>=_) _ _ _;unfold Builtin.SmallTypes.ownedTupleIsFree;refine Wb (Wb (bA hz rfl (x:=.none) rfl (aB ?_)));simp only[if_true];refine Wb (wpAny_rule (Wb (bA hz rfl (x:=.ref TO) rfl (Wb (wpAny_setField_rec hz (by simp) fun g1 z1 m1=>Wb ?_)))));have m1:Heap.SameBut z s.heap g1:=m1;have z1:IsZip g1 z TI TO .ellipsis:=z1;simp only[List.zipIdx_cons,List.zipIdx_nil,List.forIn_cons,List.forIn_nil];refine Wb (Wb (wpAny_onRaise ?_));show wpAny _ _ (Builtin.SmallTypes.nextOf (.ref i1)>>=_) _ _ _;refine Wb (D1.item k _ _ _ l1 (D1.frame _ _ _ t1 (FN d1 m1)) fun x g2 tk2 p1 u1 m2=>aB ?_);have o2:IsPair g2 TO a b:=(m2.2 _ c6).trans ((m1.2 _ c5).trans hO);refine Wb (bE o2 rfl (Wb (wpAny_updateSeq_pair o2 fun g3 o3 m3=>Wb (wpAny_letGo (aB ?_)))));have o3:IsPair g3 TO x b:=o3;have t2':S2 k g3:=D2.frame _ _ _ (D2.frame _ _ _ (D2.frame _ _ _ t2 (FN d4 m1)) (FN d6 m2)) (FN d5 m3);refine Wb (Wb (wpAny_onRaise ?_));show wpAny _ _ (Builtin.SmallTypes.nextOf (.ref i2)>>=_) _ _ _;refine Wb (D2.item k _ _ _ l2 t2' fun y g4 tk4 p2 u2 m4=>aB ?_);have m3:Heap.SameBut TO g2 g3:=m3;have m4:Heap.SameBut i2 g3 g4:=m4;have o4:IsPair g4 TO x b:=(m4.2 _ c7).trans o3;refine Wb (bE o4 rfl (Wb (wpAny_updateSeq_pair o4 fun g5 o5 m5=>Wb (wpAny_letGo (aB (aB ?_))))));have m5:Heap.SameBut TO g4 g5:=m5;have o5:IsPair g5 TO x y:=o5;refine Wb (bE o5 rfl (Wb (wpAny_newTuple ?_)));have m2:Heap.SameBut i1 g1 g2:=m2;have sz:g5.objs.size=s.heap.objs.size:=by rw[m5.1,m4.1,m3.1,m2.1,m1.1]
 have z5:IsZip g5 z TI TO .ellipsis:=(m5.2 _ c5.symm).trans ((m4.2 _ c9.symm).trans ((m3.2 _ c5.symm).trans ((m2.2 _ c8.symm).trans z1)));have kp:∀c o,c≠z→c≠TO→c≠i1→c≠i2→s.heap.get? c=some o→g5.get? c=some o:=fun c o e1 e2 e3 e4 e=>(m5.2 _ e2).trans ((m4.2 _ e4).trans ((m3.2 _ e2).trans ((m2.2 _ e3).trans ((m1.2 _ e1).trans e))));have v1:S1 (k+1) g5:=D1.frame _ _ _ (D1.frame _ _ _ (D1.frame _ _ _ u1 (FN d2 m3)) (FN d3 m4)) (FN d2 m5);have v2:S2 (k+1) g5:=D2.frame _ _ _ u2 (FN d5 m5);show wpAny _ _ (Builtin.SmallTypes.ownedTupleHandOut (.ref z) (.ref g5.objs.size)>>=_) _ _ _;unfold Builtin.SmallTypes.ownedTupleHandOut;have z6:IsZip (g5.push { cls:=.type "tuple",data:=.seq #[x,y]}) z TI TO .ellipsis:=aD _ z5;refine Wb (Wb (wpAny_setField_rec z6 (by simp) fun g7 z7 m7=>wpAny_setField_rec (show IsZip g7 z TI TO (rawInt g5.objs.size) from z7) (by simp) fun g8 z8 m8=>?_));have z8:IsZip g8 z TI TO (rawInt g5.objs.size):=z8;have up:∀c o,c≠z→(g5.push { cls:=.type "tuple",data:=.seq #[x,y]}).get? c=some o→g8.get? c=some o:=fun c o e1 e=>(m8.2 _ e1).trans ((m7.2 _ e1).trans e);have zl:z<g5.objs.size:=aE z5;refine aB ⟨_,rfl,?_⟩;show Q (.ref g5.objs.size) _;have fin:=q x y g8 tk4 p1 p2 (by rw[←sz];exact z8) (up _ _ c5 (aD _ o5)) (D1.frame _ _ _ v1 fun c hc o e=>up c o (fun y=>d1 (y ▸ hc)) (aD _ e)) (D2.frame _ _ _ v2 fun c hc o e=>up c o (fun y=>d4 (y ▸ hc)) (aD _ e))
  (by rw[←sz];exact up _ _ (Nat.ne_of_gt zl) (aP _ rfl)) (by rw[←sz,m8.1,m7.1,Heap.size_push]) fun c o e1 e2 e3 e4 e=>up c o e1 (aD _ (kp c o e1 e2 e3 e4 e))
 rw[sz];exact fin
def ended{Q:Fin→SD→Prop}(D1:Draws prog w A i1 f1 n1 P1 S1)(D2:Draws prog w A i2 f2 n2 P2 S2)(ap:Apart z TI TO i1 i2 f1 f2)(hz:IsZip s.heap z TI TO .none)(hI:IsPair s.heap TI (.ref i1) (.ref i2))(hO:IsPair s.heap TO a b)
 (t1:S1 k s.heap)(t2:S2 k s.heap)(he:k=n1∨(k<n1∧k=n2))
 (q:∀h' e tk,(∀c o,c≠z→c≠TO→c≠i1→c≠i2→s.heap.get? c=some o→h'.get? c=some o)→(∃o,h'.get? e=some o∧o.cls=.type "StopIteration")→E (.ref e) {s with heap:=h',toks:=tk}) :
  wpAny (model prog w) A (Builtin.«zip.__next__» ⟨[.ref z],[]⟩) Q E s:=by
 obtain⟨⟨c1,c2,c3,c4⟩,⟨c5,c6,c7⟩,⟨c8,c9,c10⟩,⟨d1,d2,d3⟩,d4,d5,d6⟩:=ap;show wpAny _ _ (field (.ref z) 2>>=_) _ _ _;refine Wb (bA hz rfl (x:=.bool false) rfl ?_);show wpAny _ _ (field (.ref z) 3>>=_) _ _ _;refine Wb (bA hz rfl (x:=.ref TI) rfl (Wb (bE hI rfl ?_)));show wpAny _ _ (Builtin.SmallTypes.ownedTupleIsFree (.ref z)>>=_) _ _ _;unfold Builtin.SmallTypes.ownedTupleIsFree;refine Wb (Wb (bA hz rfl (x:=.none) rfl (aB ?_)));simp only[if_true];refine Wb (wpAny_rule (Wb (bA hz rfl (x:=.ref TO) rfl (Wb (wpAny_setField_rec hz (by simp) fun g1 z1 m1=>Wb ?_)))));have m1:Heap.SameBut z s.heap g1:=m1;have z1:IsZip g1 z TI TO .ellipsis:=z1;simp only[List.zipIdx_cons,List.zipIdx_nil,List.forIn_cons,List.forIn_nil];refine Wb (Wb (wpAny_onRaise ?_));show wpAny _ _ (Builtin.SmallTypes.nextOf (.ref i1)>>=_) _ _ _;have t1':=D1.frame _ _ _ t1 (FN d1 m1);rcases he with he|⟨he1,he2⟩
 ·rw[he]at t1';refine Wb (D1.done _ _ _ t1' fun g2 e m2 ho=>?_);obtain⟨o,ho,hc⟩:=ho;have z2:IsZip g2 z TI TO .ellipsis:=m2 _ _ c8.symm z1;have ez:e≠z:=fun y=>by subst y;rw[z2]at ho;cases ho;simp at hc
  exact wpAny_setField_rec z2 (by simp) fun g3 _ m3=>q g3 e _ (fun c o e1 e2 e3 e4 y=>(m3.2 _ e1).trans (m2 _ _ e3 ((m1.2 _ e1).trans y))) ⟨o,(m3.2 _ ez).trans ho,hc⟩
 ·refine Wb (D1.item k _ _ _ he1 t1' fun x g2 tk2 p1 u1 m2=>aB ?_);have o2:IsPair g2 TO a b:=(m2.2 _ c6).trans ((m1.2 _ c5).trans hO);refine Wb (bE o2 rfl (Wb (wpAny_updateSeq_pair o2 fun g3 o3 m3=>Wb (wpAny_letGo (aB ?_)))));have t2':S2 k g3:=D2.frame _ _ _ (D2.frame _ _ _ (D2.frame _ _ _ t2 (FN d4 m1)) (FN d6 m2)) (FN d5 m3);rw[he2]at t2';have m2:Heap.SameBut i1 g1 g2:=m2;have m3:Heap.SameBut TO g2 g3:=m3;refine Wb (Wb (wpAny_onRaise ?_));show wpAny _ _ (Builtin.SmallTypes.nextOf (.ref i2)>>=_) _ _ _;refine Wb (D2.done _ _ _ t2' fun g4 e m4 ho=>?_);obtain⟨o,ho,hc⟩:=ho;have z4:IsZip g4 z TI TO .ellipsis:=m4 _ _ c9.symm ((m3.2 _ c5.symm).trans ((m2.2 _ c8.symm).trans z1));have ez:e≠z:=fun y=>by subst y;rw[z4]at ho;cases ho;simp at hc
  exact wpAny_setField_rec z4 (by simp) fun g5 _ m5=>q g5 e _ (fun c o e1 e2 e3 e4 y=>(m5.2 _ e1).trans (m4 _ _ e4 ((m3.2 _ e2).trans ((m2.2 _ e3).trans ((m1.2 _ e1).trans y))))) ⟨o,(m5.2 _ ez).trans ho,hc⟩
def next_item{Q:Option VL→SD→Prop}(D1:Draws prog w A.in1 i1 f1 n1 P1 S1)(D2:Draws prog w A.in1 i2 f2 n2 P2 S2)(ap:Apart z TI TO i1 i2 f1 f2)(hz:IsZip s.heap z TI TO .none)(hI:IsPair s.heap TI (.ref i1) (.ref i2))(hO:IsPair s.heap TO a b)
 (t1:S1 k s.heap)(t2:S2 k s.heap)(l1:k<n1)(l2:k<n2)
 (q:∀x y h' tk,P1 k x→P2 k y→IsZip h' z TI TO (rawInt s.heap.objs.size)→IsPair h' TO x y→S1 (k+1) h'→S2 (k+1) h'→IsPair h' s.heap.objs.size x y→h'.objs.size=s.heap.objs.size+1 →
   (∀c o,c≠z→c≠TO→c≠i1→c≠i2→s.heap.get? c=some o→h'.get? c=some o)→Q (some (.ref s.heap.objs.size)) {s with heap:=h',toks:=tk}) :
  wpAny (model prog w) A (pyNext (.ref z)) Q E s:=by
 have hT:s.TypeIs (.ref z) "zip" := ⟨_,hz,rfl⟩;unfold pyNext;exact Wb (wpAny_attempt (bD (name:=Str.ofString "__next__") hT F.slot_zip_next
  (ak F.slot_zip_next hT F.entry_zip_next (item D1 D2 ap hz hI hO t1 t2 l1 l2 fun x y h' tk r1 r2 r3 r4 r5 r6 r7 r8 r9=>aB (q x y h' tk r1 r2 r3 r4 r5 r6 r7 r8 r9)) (F.args_zip_next_1 _))))
def next_end{Q:Option VL→SD→Prop}(D1:Draws prog w A.in1 i1 f1 n1 P1 S1)(D2:Draws prog w A.in1 i2 f2 n2 P2 S2)(ap:Apart z TI TO i1 i2 f1 f2)(hz:IsZip s.heap z TI TO .none)(hI:IsPair s.heap TI (.ref i1) (.ref i2))(hO:IsPair s.heap TO a b)
 (t1:S1 k s.heap)(t2:S2 k s.heap)(he:k=n1∨(k<n1∧k=n2))
 (q:∀h' tk,(∀c o,c≠z→c≠TO→c≠i1→c≠i2→s.heap.get? c=some o→h'.get? c=some o)→Q none {s with heap:=h',toks:=tk}) :
  wpAny (model prog w) A (pyNext (.ref z)) Q E s:=by
 have hT:s.TypeIs (.ref z) "zip" := ⟨_,hz,rfl⟩;unfold pyNext;refine Wb (wpAny_attempt (bD (name:=Str.ofString "__next__") hT F.slot_zip_next
  (ak F.slot_zip_next hT F.entry_zip_next (ended D1 D2 ap hz hI hO t1 t2 he fun h' e tk kp ho=>?_) (F.args_zip_next_1 _))))
 obtain⟨o,ho,hc⟩:=ho;exact Wb (wpAny_isInstance (T := "StopIteration") (b:=true) ⟨o,ho,hc⟩ isSubtype_stop (aB (q _ _ kp)))
end
end ZT
namespace ZT
open PySem PyProof.Rows
def Sq(b:Bool)(h:Heap)(l:AD)(xs:List VL):Prop:=if b then h.IsTuple l xs.toArray else h.IsList l xs.toArray
def Fz(b:Bool)(l:AD):Obj:=if b then { cls:=.type "tuple_iterator",data:=.fields #[.ref l,.int 0 0]} else { cls:=.type "list_iterator",data:=.fields #[.ref l,.int 0 0]}
def Qb(b:Bool)(h:Heap)(it l:AD)(k:Nat):Prop:=if b then h.IsTupleIter it l k else h.IsListIter it l k
def Sq.push{b:Bool}{h:Heap}{l:AD}{xs:List VL}(o:Obj)(x:Sq b h l xs):Sq b (h.push o) l xs:=by
 cases b with
 |true=>obtain⟨u,e,r⟩:=(show h.IsTuple l xs.toArray from x);exact(show(h.push o).IsTuple l xs.toArray from⟨u,Heap.get?_push_of_some _ e,r⟩)
 |false=>obtain⟨u,e,r⟩:=(show h.IsList l xs.toArray from x);exact(show(h.push o).IsList l xs.toArray from⟨u,Heap.get?_push_of_some _ e,r⟩)
section
variable{prog:Program}{w:World}{A:Around}{E:VL→SD→Prop}{s:SD}
def Vm{b:Bool}{l:AD}{xs:List VL}{Q:VL→SD→Prop}(x:Sq b s.heap l xs)(h:Q (.ref s.heap.objs.size) {s with heap:=s.heap.push (Fz b l)}):wpAny (model prog w) A (pyIter (.ref l)) Q E s:=by
 cases b with
 |true=>exact wpAny_pyIter_tuple x h
 |false=>exact wpAny_pyIter_list x h
def Mw(hh:A.handled=none)(b:Bool)(it l:AD)(xs:List VL)(hne:l≠it):Draws prog w A it [it,l] xs.length (fun i v=>xs[i]? = some v) (fun i h=>Qb b h it l i∧Sq b h l xs):=by
 cases b with
 |true=>exact ET.draws hh it l xs hne
 |false =>
  have:=Draws.list (prog:=prog) (w:=w) hh it l hne xs.toArray
  simpa[Qb,Sq]using this
def zh(b1 b2:Bool)(h:Heap)(l1 l2:AD):Heap :=
 ((((h.push (Fz b1 l1)).push (Fz b2 l2)).push { cls:=.type "tuple",data:=.seq #[.ref h.objs.size,.ref (h.push (Fz b1 l1)).objs.size]}).push { cls:=.type "tuple",data:=.seq #[.none,.none]}).push
  { cls:=.type "zip",data:=.fields #[.none,.bool false,.bool false,.ref ((h.push (Fz b1 l1)).push (Fz b2 l2)).objs.size,.ref (((h.push (Fz b1 l1)).push (Fz b2 l2)).push { cls:=.type "tuple",data:=.seq #[.ref h.objs.size,.ref (h.push (Fz b1 l1)).objs.size]}).objs.size]}
def dm(b1 b2:Bool)(l1 l2:AD)(xs ys:List VL) :
  Meets (Builtin.«zip.__new__» ⟨[.type "zip",.ref l1,.ref l2],[]⟩) (fun _ R s=>Sq b1 s.heap l1 xs∧Sq b2 s.heap l2 ys ∧
   R (.ok (.ret (.ref ((((s.heap.push (Fz b1 l1)).push (Fz b2 l2)).push { cls:=.type "tuple",data:=.seq #[.ref s.heap.objs.size,.ref (s.heap.push (Fz b1 l1)).objs.size]}).push { cls:=.type "tuple",data:=.seq #[.none,.none]}).objs.size)) ) {s with heap:=zh b1 b2 s.heap l1 l2}) :=
 .of_wp fun prog w A R s h=>by
  obtain⟨hp,g,d,tk,os⟩:=s;obtain⟨h1,h2,h⟩:=h;have hsub:=sub_zip;have i1:∀(A:Around) (E:VL→SD→Prop) (Q:VL→SD→Prop),Q (.ref hp.objs.size) ⟨hp.push (Fz b1 l1),g,d,tk,os⟩→wpAny (model prog w) A (pyIter (.ref l1)) Q E ⟨hp,g,d,tk,os⟩:=fun A E Q q=>Vm (s:=⟨hp,g,d,tk,os⟩) h1 q;have i2:∀(A:Around) (E:VL→SD→Prop) (Q:VL→SD→Prop),Q (.ref (hp.push (Fz b1 l1)).objs.size) ⟨(hp.push (Fz b1 l1)).push (Fz b2 l2),g,d,tk,os⟩→wpAny (model prog w) A (pyIter (.ref l2)) Q E ⟨hp.push (Fz b1 l1),g,d,tk,os⟩:=fun A E Q q=>Vm (s:=⟨hp.push (Fz b1 l1),g,d,tk,os⟩) (h2.push _) q
  wp_walk using i1,i2
  exact⟨_,rfl,h⟩
def Zw{b1 b2:Bool}{l1 l2:AD}{xs ys:List VL}{Q:VL→SD→Prop}(h1:Sq b1 s.heap l1 xs)(h2:Sq b2 s.heap l2 ys)
 (h:∀h',IsZip h' (s.heap.objs.size+4) (s.heap.objs.size+2) (s.heap.objs.size+3) .none→IsPair h' (s.heap.objs.size+2) (.ref s.heap.objs.size) (.ref (s.heap.objs.size+1))→IsPair h' (s.heap.objs.size+3) .none .none →
   Qb b1 h' s.heap.objs.size l1 0→Qb b2 h' (s.heap.objs.size+1) l2 0→(∀c o,s.heap.get? c=some o→h'.get? c=some o)→Q (.ref (s.heap.objs.size+4)) {s with heap:=h'}) :
  wpAny (model prog w) A (call (.type "zip") [.ref l1,.ref l2]) Q E s:=by
 refine callType_new F.called_zip (by decide) (F.typeCall_zip_2 _ _) (F.newCall_zip_2 _ _) (fun obj=>F.args_object_init_3 obj _ _) F.entry_zip_new (dm b1 b2 l1 l2 xs ys) ⟨h1,h2,?_⟩;have n1:(s.heap.push (Fz b1 l1)).objs.size=s.heap.objs.size+1:=Heap.size_push ..;have up:∀(g:Heap) (o:Obj) (c:AD) (u:Obj),g.get? c=some u→(g.push o).get? c=some u:=fun g o c u e=>aD _ e;have a0:(s.heap.push (Fz b1 l1)).get? s.heap.objs.size=some (Fz b1 l1):=aP _ (by cases b1<;>rfl);generalize hg1:s.heap.push (Fz b1 l1)=g1 at n1 a0;have k1:∀c o,s.heap.get? c=some o→g1.get? c=some o:=fun c o e=>by rw[←hg1];exact up _ _ _ _ e
 have n2:(g1.push (Fz b2 l2)).objs.size=s.heap.objs.size+2:=by rw[Heap.size_push,n1]
 have a1:(g1.push (Fz b2 l2)).get? (s.heap.objs.size+1)=some (Fz b2 l2):=by rw[←n1];exact aP _ (by cases b2<;>rfl)
 generalize hg2:g1.push (Fz b2 l2)=g2 at n2 a1;have k2:∀c o,g1.get? c=some o→g2.get? c=some o:=fun c o e=>by rw[←hg2];exact up _ _ _ _ e
 have n3:(g2.push { cls:=.type "tuple",data:=.seq #[.ref s.heap.objs.size,.ref (s.heap.objs.size+1)]}).objs.size=s.heap.objs.size+3:=by rw[Heap.size_push,n2]
 have a2:IsPair (g2.push { cls:=.type "tuple",data:=.seq #[.ref s.heap.objs.size,.ref (s.heap.objs.size+1)]}) (s.heap.objs.size+2) (.ref s.heap.objs.size) (.ref (s.heap.objs.size+1)):=by rw[←n2];exact aP _ rfl
 generalize hg3:g2.push { cls:=.type "tuple",data:=.seq #[.ref s.heap.objs.size,.ref (s.heap.objs.size+1)]}=g3 at n3 a2;have k3:∀c o,g2.get? c=some o→g3.get? c=some o:=fun c o e=>by rw[←hg3];exact up _ _ _ _ e
 have n4:(g3.push { cls:=.type "tuple",data:=.seq #[.none,.none]}).objs.size=s.heap.objs.size+4:=by rw[Heap.size_push,n3]
 have a3:IsPair (g3.push { cls:=.type "tuple",data:=.seq #[.none,.none]}) (s.heap.objs.size+3) .none .none:=by rw[←n3];exact aP _ rfl
 generalize hg4:g3.push { cls:=.type "tuple",data:=.seq #[.none,.none]}=g4 at n4 a3;have k4:∀c o,g3.get? c=some o→g4.get? c=some o:=fun c o e=>by rw[←hg4];exact up _ _ _ _ e
 have ez:zh b1 b2 s.heap l1 l2=g4.push { cls:=.type "zip",data:=.fields #[.none,.bool false,.bool false,.ref (s.heap.objs.size+2),.ref (s.heap.objs.size+3)]}:=by
  unfold zh;rw[hg1,hg2,n1,hg3,hg4,n2,n3]
 have a4:IsZip (g4.push { cls:=.type "zip",data:=.fields #[.none,.bool false,.bool false,.ref (s.heap.objs.size+2),.ref (s.heap.objs.size+3)]}) (s.heap.objs.size+4) (s.heap.objs.size+2) (s.heap.objs.size+3) .none:=by rw[←n4];exact aP _ rfl
 rw[n1,hg3,hg4,n4,ez];show _∧_;have k5:∀c o,g4.get? c=some o→(g4.push { cls:=.type "zip",data:=.fields #[.none,.bool false,.bool false,.ref (s.heap.objs.size+2),.ref (s.heap.objs.size+3)]}).get? c=some o:=fun c o e=>up _ _ _ _ e;refine⟨⟨_,a4,rfl⟩,h _ a4 (k5 _ _ (k4 _ _ a2)) (k5 _ _ a3) ?_ ?_ fun c o e=>k5 _ _ (k4 _ _ (k3 _ _ (k2 _ _ (k1 _ _ e))))⟩
 ·have:=k5 _ _ (k4 _ _ (k3 _ _ (k2 _ _ a0)));cases b1 with
  |true=>exact⟨_,this,rfl,rfl⟩
  |false=>exact⟨_,this,rfl,rfl⟩
 ·have:=k5 _ _ (k4 _ _ (k3 _ _ a1));cases b2 with
  |true=>exact⟨_,this,rfl,rfl⟩
  |false=>exact⟨_,this,rfl,rfl⟩
end
end ZT
namespace L2
open PySem PySem.Spec PyProof.Rows
def G7(b:Bool)(H:Hp)(a:AD)(xs:List V):Prop:=if b then H a=some (.tup xs) else H a=some (.lst xs)
def G7.inj{b:Bool}{H:Hp}{a:AD}{xs ys:List V}(h:G7 b H a xs)(k:G7 b H a ys):xs=ys:=by
 cases b with
 |true=>have h:H a=some (.tup xs):=h;have k:H a=some (.tup ys):=k;rw[h]at k;cases k;rfl
 |false=>have h:H a=some (.lst xs):=h;have k:H a=some (.lst ys):=k;rw[h]at k;cases k;rfl
def G7.none{b:Bool}{H:Hp}{a c:AD}{xs:List V}(h:G7 b H a xs)(k:H c=none):a≠c:=fun z=>by
 subst z;cases b with
 |true=>have h:H a=some (.tup xs):=h;rw[k]at h;cases h
 |false=>have h:H a=some (.lst xs):=h;rw[k]at h;cases h
def G7.raw{X:Cx}{pins:List (AD×Obj)}{σ:St}{H:Hp}{s:SD}(I:Inv X pins σ H s){b:Bool}{a:AD}{xs:List V}(h:G7 b H a xs):∃its,Vals xs its∧ZT.Sq b s.heap a its:=by
 cases b with
 |true =>
  obtain⟨its,rv,p,_⟩:=I.tuple (CK.of (K:=X.K) (show H a=some (.tup xs) from h));exact⟨its,rv,p⟩
 |false =>
  obtain⟨its,rv,p,_⟩:=I.list (Bo.of (K:=X.K) (show H a=some (.lst xs) from h));exact⟨its,rv,p.isList⟩
def gQ(b1 b2:Bool)(a1 a2:AD):It :=
 ⟨fun i H=>∃xs x ys y,G7 b1 H a1 xs∧G7 b2 H a2 ys∧xs[i]? = some x∧ys[i]? = some y,
  fun i H v H'=>∃p x y,v=.ref p∧H p=none∧H'=upd H p (.tup [x,y])∧(∀xs,G7 b1 H a1 xs→xs[i]? = some x)∧∀ys,G7 b2 H a2 ys→ys[i]? = some y,
  fun i H=>∃xs ys,G7 b1 H a1 xs∧G7 b2 H a2 ys∧(i=xs.length∨(i<xs.length∧i=ys.length))⟩
def mM(b1 b2:Bool)(a1 a2 z TI TO i1 i2:AD):Nat→Heap→Prop:=fun i h=>IsZip h z TI TO .none∧IsPair h TI (.ref i1) (.ref i2)∧(∃a b,IsPair h TO a b)∧ZT.Qb b1 h i1 a1 i∧ZT.Qb b2 h i2 a2 i
def OT{b:Bool}{h:Heap}{it l:AD}{k:Nat}(x:ZT.Qb b h it l k):∃o,h.get? it=some o∧∀v,o.data≠.cell v:=by
 cases b with
 |true=>obtain⟨o,e,_,d⟩:=(show h.IsTupleIter it l k from x);exact⟨o,e,fun v z=>by rw[d]at z;cases z⟩
 |false=>obtain⟨o,e,_,d⟩:=(show h.IsListIter it l k from x);exact⟨o,e,fun v z=>by rw[d]at z;cases z⟩
def Mh{b:Bool}{h h':Heap}{it l:AD}{k:Nat}(x:ZT.Qb b h it l k)(e:∀o,h.get? it=some o→h'.get? it=some o):ZT.Qb b h' it l k:=by
 cases b with
 |true=>obtain⟨o,q,r⟩:=(show h.IsTupleIter it l k from x);exact(show h'.IsTupleIter it l k from⟨o,e _ q,r⟩)
 |false=>obtain⟨o,q,r⟩:=(show h.IsListIter it l k from x);exact(show h'.IsListIter it l k from⟨o,e _ q,r⟩)
def Zp{P:Program}{w:World}{K:Fg}{elts:List Expr}{x1}{pos:Pos}{b1 b2:Bool}{a1 a2 z TI TO i1 i2:AD}(ne:[z,TI,TO,i1,i2].Nodup) :
  Turn P w K (.Tuple elts x1 pos) (gQ b1 b2 a1 a2) [z,TI,TO,i1,i2] z (mM b1 b2 a1 a2 z TI TO i1 i2) where
 mem:=by simp
 obj:=fun i h st b hb=>by
  obtain⟨h1,h2,⟨u,v,h3⟩,h4,h5⟩:=st;have hb:b=z∨b=TI∨b=TO∨b=i1∨b=i2:=by simpa using hb
  rcases hb with rfl|rfl|rfl|rfl|rfl
  ·exact⟨_,h1,fun v y=>by cases y⟩
  ·exact⟨_,h2,fun v y=>by cases y⟩
  ·exact⟨_,h3,fun v y=>by cases y⟩
  ·exact OT h4
  ·exact OT h5
 keep:=fun i h h' st k=>by
  obtain⟨h1,h2,⟨u,v,h3⟩,h4,h5⟩:=st;exact⟨k z (by simp) _ h1,k TI (by simp) _ h2,⟨u,v,k TO (by simp) _ h3⟩,Mh h4 fun o e=>k i1 (by simp) o e,Mh h5 fun o e=>k i2 (by simp) o e⟩
 item:=by
  intro X hP hw hK hc i pins s σ H E I hf st hg;subst hP hw hK;obtain⟨xs,x,ys,y,q1,q2,hx,hy⟩:=hg;obtain⟨us,rv1,p1⟩:=q1.raw I;obtain⟨vs,rv2,p2⟩:=q2.raw I;obtain⟨u,hu,ru⟩:=rv1.get hx;obtain⟨v,hv,rv⟩:=rv2.get hy;obtain⟨t1,t2,⟨ta,tb,t3⟩,t4,t5⟩:=st;have e1:∀b∈[z,TI,TO,i1,i2],a1≠b:=fun b hb=>q1.none (hf b hb).1;have e2:∀b∈[z,TI,TO,i1,i2],a2≠b:=fun b hb=>q2.none (hf b hb).1;simp only[List.nodup_cons,List.mem_cons,List.not_mem_nil,or_false,not_or]at ne;obtain⟨⟨n1,n2,n3,n4⟩,⟨n5,n6,n7⟩,⟨n8,n9⟩,n10,_⟩:=ne;have ap:ZT.Apart z TI TO i1 i2 [i1,a1] [i2,a2]:=⟨⟨Ne.symm n1,n5,n6,n7⟩,⟨Ne.symm n2,n8,n9⟩,⟨Ne.symm n3,Ne.symm n4,n10⟩,
   ⟨by simp[n3,Ne.symm (e1 z (by simp))],by simp[n8,Ne.symm (e1 TO (by simp))],by simp[Ne.symm n10,Ne.symm (e1 i2 (by simp))]⟩,⟨by simp[n4,Ne.symm (e2 z (by simp))],by simp[n9,Ne.symm (e2 TO (by simp))],by simp[n10,Ne.symm (e2 i1 (by simp))]⟩⟩
  refine ZT.next_item (ZT.Mw (prog:=X.prog) (w:=X.w) (A:=X.A.in1) (I.ok.hd hc) b1 i1 a1 us (e1 i1 (by simp))) (ZT.Mw (prog:=X.prog) (w:=X.w) (A:=X.A.in1) (I.ok.hd hc) b2 i2 a2 vs (e2 i2 (by simp))) ap t1 t2 t3 ⟨t4,p1⟩ ⟨t5,p2⟩ (aF.mp hu).1 (aF.mp hv).1
   fun u' v' h' tk r1 r2 r3 r4 r5 r6 r7 r8 r9=>⟨_,rfl,wpAny_letOwnedTupleGo_zip (s:={s with heap:=h',toks:=tk}) r3 fun h'' z'' sb=>?_⟩
  rw[hu]at r1;rw[hv]at r2;cases r1;cases r2;have keep:∀b o,b ∉ [z,TI,TO,i1,i2]→s.heap.get? b=some o→h''.get? b=some o:=fun b o hb q=>by
   simp only[List.mem_cons,List.not_mem_nil,or_false,not_or]at hb;exact(sb.2 b hb.1).trans (r9 b o hb.1 hb.2.2.1 hb.2.2.2.1 hb.2.2.2.2 q)
  have lt:∀b∈[z,TI,TO,i1,i2],b<s.heap.objs.size:=fun b hb=>by
   have hb:b=z∨b=TI∨b=TO∨b=i1∨b=i2:=by simpa using hb
   rcases hb with rfl|rfl|rfl|rfl|rfl
   ·exact aE t1
   ·exact aE t2
   ·exact aE t3
   ·obtain⟨o,e,_⟩:=OT t4;exact aE e
   ·obtain⟨o,e,_⟩:=OT t5;exact aE e
  have hTn:H s.heap.objs.size=none:=I.Bj.fresh (aG _);have hT'':h''.get? s.heap.objs.size=some { cls:=.type "tuple",data:=.seq #[u,v]}:=(sb.2 _ (Nat.ne_of_gt (lt z (by simp)))).trans r7;have neT:∀b o,s.heap.get? b=some o→b≠s.heap.objs.size:=fun b o q=>aO (aE q);have IG:∀b o,H b=some o→b ∉ [z,TI,TO,i1,i2]:=fun b o q hb=>by rw[(hf b hb).1]at q;cases q
  refine⟨.ref s.heap.objs.size,upd H s.heap.objs.size (.tup [x,y]),?_,rfl,⟨_,x,y,rfl,hTn,rfl,fun zs hz=>by rw[hz.inj q1];exact hx,fun zs hz=>by rw[hz.inj q2];exact hy⟩,⟨z'',?_,⟨u,v,?_⟩,?_,?_⟩,fun b hb=>?_⟩
  ·show Inv X pins σ _ {s with heap:=h'',gens:=s.gens,drawn:=s.drawn,toks:=tk};refine I.step (h':=h'') (g':=s.gens) (d':=s.drawn) (t':=tk) (ch:=[z,TI,TO,i1,i2]) (fun b hb=>?_) (fun b o _ _ hc q _=>keep b o hc q) (fun b o _ _ hc q _=>⟨o.slots,keep b o hc q⟩)
    (fun b o _ q n=>by rw[AZ (neT b o q)];exact n) (fun b o hc q=>⟨o,keep b o hc q⟩) (fun b ys q=>by rw[AZ (A8 q hTn)];exact q) (fun b o u q=>by rw[AZ (A8 q hTn)];exact q)
    (fun b ps q=>⟨#[],by rw[AZ (A8 q hTn),q];simp⟩) (fun m hm=>?_) (fun b o q=>?_) I.bare
   ·obtain⟨_,f1,_,f3,f4,f5⟩:=hf b hb;exact⟨f3,f1,f4,f5⟩
   ·obtain⟨o,es,ep,ho,r⟩:=hm;exact⟨o,es,ep,keep _ o (fun hb=>(hf _ hb).2.1 rfl) ho,r⟩
   ·by_cases hb:b=s.heap.objs.size
    ·subst hb;rw[Au]at q;cases q;exact⟨Yg,[u,v],.cons ru (.cons rv .nil),_,hT'',rfl,_,rfl⟩
    ·rw[AZ hb]at q;refine(I.Bj b o q).Lq (fun c w hc r=>keep c w ?_ r) (fun c r=>by rw[AZ (A8 r hTn)];exact r) fun c ys r=>by rw[AZ (A8 r hTn)];exact r
     rcases hc with rfl|hc
     ·exact IG _ _ q
     ·exact IG _ _ hc
  ·exact(sb.2 _ (Ne.symm n1)).trans (r9 _ _ (Ne.symm n1) n5 n6 n7 t2)
  ·exact(sb.2 _ (Ne.symm n2)).trans r4
  ·exact Mh r5.1 fun o e=>(sb.2 _ (Ne.symm n3)).trans e
  ·exact Mh r6.1 fun o e=>(sb.2 _ (Ne.symm n4)).trans e
  ·rw[AZ (aO (lt b hb))];exact(hf b hb).1
 done:=by
  intro X hP hw hK hc i pins s σ H E I hf st hg;subst hP hw hK;obtain⟨xs,ys,q1,q2,he⟩:=hg;obtain⟨us,rv1,p1⟩:=q1.raw I;obtain⟨vs,rv2,p2⟩:=q2.raw I;obtain⟨t1,t2,⟨ta,tb,t3⟩,t4,t5⟩:=st;have e1:∀b∈[z,TI,TO,i1,i2],a1≠b:=fun b hb=>q1.none (hf b hb).1;have e2:∀b∈[z,TI,TO,i1,i2],a2≠b:=fun b hb=>q2.none (hf b hb).1;simp only[List.nodup_cons,List.mem_cons,List.not_mem_nil,or_false,not_or]at ne;obtain⟨⟨n1,n2,n3,n4⟩,⟨n5,n6,n7⟩,⟨n8,n9⟩,n10,_⟩:=ne;have ap:ZT.Apart z TI TO i1 i2 [i1,a1] [i2,a2]:=⟨⟨Ne.symm n1,n5,n6,n7⟩,⟨Ne.symm n2,n8,n9⟩,⟨Ne.symm n3,Ne.symm n4,n10⟩,
   ⟨by simp[n3,Ne.symm (e1 z (by simp))],by simp[n8,Ne.symm (e1 TO (by simp))],by simp[Ne.symm n10,Ne.symm (e1 i2 (by simp))]⟩,⟨by simp[n4,Ne.symm (e2 z (by simp))],by simp[n9,Ne.symm (e2 TO (by simp))],by simp[n10,Ne.symm (e2 i1 (by simp))]⟩⟩
  have he':i=us.length∨(i<us.length∧i=vs.length):=by rw[←rv1.length,←rv2.length];exact he
  refine ZT.next_end (ZT.Mw (prog:=X.prog) (w:=X.w) (A:=X.A.in1) (I.ok.hd hc) b1 i1 a1 us (e1 i1 (by simp))) (ZT.Mw (prog:=X.prog) (w:=X.w) (A:=X.A.in1) (I.ok.hd hc) b2 i2 a2 vs (e2 i2 (by simp))) ap t1 t2 t3 ⟨t4,p1⟩ ⟨t5,p2⟩ he' fun h' tk kp=>⟨rfl,?_⟩;have keep:∀b o,b ∉ [z,TI,TO,i1,i2]→s.heap.get? b=some o→h'.get? b=some o:=fun b o hb q=>by
   simp only[List.mem_cons,List.not_mem_nil,or_false,not_or]at hb;exact kp b o hb.1 hb.2.2.1 hb.2.2.2.1 hb.2.2.2.2 q
  have IG:∀b o,H b=some o→b ∉ [z,TI,TO,i1,i2]:=fun b o q hb=>by rw[(hf b hb).1]at q;cases q
  show Inv X pins σ _ {s with heap:=h',gens:=s.gens,drawn:=s.drawn,toks:=tk};refine I.step (h':=h') (g':=s.gens) (d':=s.drawn) (t':=tk) (ch:=[z,TI,TO,i1,i2]) (fun b hb=>?_) (fun b o _ _ hc q _=>keep b o hc q) (fun b o _ _ hc q _=>⟨o.slots,keep b o hc q⟩)
    (fun b o _ q n=>n) (fun b o hc q=>⟨o,keep b o hc q⟩) (fun b ys q=>q) (fun b o u q=>q)
    (fun b ps q=>⟨#[],by rw[q];simp⟩) (fun m hm=>?_) (fun b o q=>?_) I.bare
  ·obtain⟨_,f1,_,f3,f4,f5⟩:=hf b hb;exact⟨f3,f1,f4,f5⟩
  ·obtain⟨o,es,ep,ho,r⟩:=hm;exact⟨o,es,ep,keep _ o (fun hb=>(hf _ hb).2.1 rfl) ho,r⟩
  ·refine(I.Bj b o q).Lq (fun c w hc r=>keep c w ?_ r) (fun c r=>r) fun c ys r=>r;rcases hc with rfl|hc
   ·exact IG _ _ q
   ·exact IG _ _ hc
 self:=fun _ _ _ _ _ st h=>wpAny_pyIter_zip st.1 h
def lY(ta:TA):TI:=fun σ H R=>ta σ H fun vs H1=>∃(b1 b2:Bool) (a1 a2:AD),vs=[.ref a1,.ref a2]∧(∃xs,G7 b1 H1 a1 xs)∧(∃ys,G7 b2 H1 a2 ys)∧R (gQ b1 b2 a1 a2) H1
def ff{X:Cx}{elts:List Expr}{x1}{tpos:Pos}{a b:Expr}{ta:TA}{p pos:Pos}(hg:Gl X "zip")(hm:X.mg "zip" = none)(ha:PA X [a,b] ta)(hs:starEach [a,b] X.env=[(false,eval a X.env),(false,eval b X.env)]:=by rfl)(hs2:starEach [b] X.env=[(false,eval b X.env)]:=by rfl) :
  PI X (.Tuple elts x1 tpos) (.Call (.Name "zip" p) [a,b] [] pos) (lY ta):=by
 intro pins s σ H R I h;refine Call_ (Iw I hg hm boot_zip (bC (CG (ha pos pins s σ H _ I h) fun us s1 ⟨vs,H1,I1,r1,q1⟩=>?_) (by rw[hs,hs2]) (by rw[hs2];rfl)));obtain⟨b1,b2,l1,l2,e,⟨xs,h1⟩,⟨ys,h2⟩,q⟩:=q1;subst e;cases r1 with
 |cons r rr =>
  cases rr with
  |cons r' rr =>
   cases rr;cases r;cases r';obtain⟨us,_,p1⟩:=h1.raw I1;obtain⟨vs,_,p2⟩:=h2.raw I1;refine ZT.Zw p1 p2 fun h' z1 z2 z3 z4 z5 hk=>wpAny_pyIter_zip z1 ?_;have I2:Inv X pins σ H1 {s1 with heap:=h'}:=I1.kept (t':=s1.toks) hk;refine⟨_,[s1.heap.objs.size+4,s1.heap.objs.size+2,s1.heap.objs.size+3,s1.heap.objs.size,s1.heap.objs.size+1],_,_,H1,rfl,I2,Zp ?_,⟨z1,z2,⟨_,_,z3⟩,z4,z5⟩,fun b hb=>?_,q⟩
   ·simp
   have hb':s1.heap.objs.size≤b:=by
    have hb2:b=s1.heap.objs.size+4∨b=s1.heap.objs.size+2∨b=s1.heap.objs.size+3∨b=s1.heap.objs.size∨b=s1.heap.objs.size+1:=by simpa using hb
    rcases hb2 with h|h|h|h|h<;>rw[h]<;>first|exact aG _|exact Nat.le_add_right _ _
   exact I1.RY hb' (I1.Bj.fresh hb')
def ia(K:Fg)(a:AD):It :=
 ⟨fun i H=>∃xs x,Bo K H a xs∧xs[i]? = some x,fun i H v H'=>∃p x,v=.ref p∧H p=none∧H'=upd H p (.tup [.int i,x])∧∀xs,Bo K H a xs→xs[i]? = some x,fun i H=>∃xs,Bo K H a xs∧xs.length=i⟩
def Wx{P:Program}{w:World}{K:Fg}{elts:List Expr}{x1}{pos:Pos}(a e it:AD)(hne:e≠it) :
  Turn P w K (.Tuple elts x1 pos) (ia K a) [e,it] e (fun i h=>(∃old,IsEnum h e it (i:Nat) old)∧h.IsListIter it a i) where
 mem:=by simp
 obj:=fun i h st b hb=>by
  rcases aJ.mp hb with rfl|hb
  ·obtain⟨⟨old,q⟩,_⟩:=st;exact⟨_,q,fun v z=>by cases z⟩
  ·have e2:b=it:=by simpa using hb
   subst e2;obtain⟨_,o,q,c,d⟩:=st;exact⟨o,q,fun v z=>by rw[d]at z;cases z⟩
 keep:=fun i h h' st k=>by
  obtain⟨⟨old,q⟩,o,q2,r⟩:=st;exact⟨⟨old,k e (by simp) _ q⟩,o,k it (by simp) _ q2,r⟩
 item:=by
  intro X hP hw hK hc i pins s σ H E I hf st hg;subst hP hw hK;obtain⟨xs,x,hq,hx⟩:=hg;obtain⟨its,rv,pL,hz⟩:=I.list hq;have p:=pL.isList;obtain⟨u,hu,ru⟩:=rv.get hx;obtain⟨⟨old,he⟩,hit⟩:=st;have hai:a≠it:=fun z=>by
   obtain⟨o,e1,c1,_⟩:=p;obtain⟨o2,e2,c2,_⟩:=hit;rw[z,e2]at e1;cases e1;rw[c1]at c2;exact absurd c2 (by decide)
  have hae:a≠e:=fun z=>by
   obtain⟨o,e1,c1,_⟩:=p;rw[z,he]at e1;cases e1;exact absurd (show Value.type "enumerate" = Value.type "list" from c1) (by decide)
  have hlt:i<its.length:=(aF.mp hu).1;have hE0:=hf e (by simp);have hI0:=hf it (by simp);refine wpAny_pyNext_enum_itemD (Draws.list (prog:=X.prog) (w:=X.w) (A:=X.A.in1) (I.ok.hd hc) it a hai its.toArray) he ⟨hit,p⟩ (by simpa using hlt) hne (by simp[hne,Ne.symm hae]) fun y h' tk hy ho hs' hT hsz hk=>⟨_,rfl,wpAny_letOwnedTupleGo_enum (s:={s with heap:=h',toks:=tk+1}) ho fun h'' he'' sb=>?_⟩;have hyu:y=u:=by
   have hy:its[i]? = some y:=by simpa using hy
   rw[hu]at hy;exact(aa hy).symm
  subst hyu;have keep:∀b o,b≠e→b≠it→s.heap.get? b=some o→h''.get? b=some o:=fun b o h1 h2 q=>(sb.2 b h1).trans (hk b o h1 h2 q);have hTe:s.heap.objs.size≠e:=Nat.ne_of_gt (aE he);have hTi:s.heap.objs.size≠it:=let⟨_,q,_⟩:=hit;Nat.ne_of_gt (aE q);have hT'':h''.get? s.heap.objs.size=some { cls:=.type "tuple",data:=.seq #[.int i tk,y]}:=(sb.2 _ hTe).trans hT;have hTn:H s.heap.objs.size=none:=I.Bj.fresh (aG _);have neT:∀b o,s.heap.get? b=some o→b≠s.heap.objs.size:=fun b o q=>aO (aE q);have IG:∀b o,H b=some o→b≠e∧b≠it:=fun b o q=>⟨(fun z=>by rw[z,hE0.1]at q;cases q),(fun z=>by rw[z,hI0.1]at q;cases q)⟩;refine⟨.ref s.heap.objs.size,upd H s.heap.objs.size (.tup [.int i,x]),?_,rfl,⟨_,x,rfl,hTn,rfl,fun ys hy=>by rw[I.Tj hy hq];exact hx⟩,⟨⟨_,by simpa using he''⟩,?_⟩,fun b hb=>?_⟩
  ·show Inv X pins σ _ {s with heap:=h'',gens:=s.gens,drawn:=s.drawn,toks:=tk+1};refine I.step (h':=h'') (g':=s.gens) (d':=s.drawn) (t':=tk+1) (ch:=[e,it]) (fun b hb=>?_) (fun b o _ _ hc q _=>keep b o (fun z=>hc (by simp[z])) (fun z=>hc (by simp[z])) q) (fun b o _ _ hc q _=>⟨o.slots,keep b o (fun z=>hc (by simp[z])) (fun z=>hc (by simp[z])) q⟩)
    (fun b o _ q n=>by rw[AZ (neT b o q)];exact n) (fun b o hc q=>⟨o,keep b o (fun z=>hc (by simp[z])) (fun z=>hc (by simp[z])) q⟩) (fun b ys q=>by rw[AZ (A8 q hTn)];exact q) (fun b o u q=>by rw[AZ (A8 q hTn)];exact q)
    (fun b ps q=>⟨#[],by rw[AZ (A8 q hTn),q];simp⟩) (fun m hm=>?_) (fun b o q=>?_) I.bare
   ·rcases aJ.mp hb with rfl|hb
    ·exact⟨hE0.2.2.2.1,hE0.2.1,hE0.2.2.2.2.1,hE0.2.2.2.2.2⟩
    ·have e2:b=it:=by simpa using hb
     subst e2;exact⟨hI0.2.2.2.1,hI0.2.1,hI0.2.2.2.2.1,hI0.2.2.2.2.2⟩
   ·obtain⟨o,es,ep,ho,r⟩:=hm;exact⟨o,es,ep,keep _ o (Ne.symm hE0.2.1) (Ne.symm hI0.2.1) ho,r⟩
   ·by_cases hb:b=s.heap.objs.size
    ·subst hb;rw[Au]at q;cases q;exact⟨Yg,[.int i tk,y],.cons ⟨tk,rfl⟩ (.cons ru .nil),_,hT'',rfl,_,rfl⟩
    ·rw[AZ hb]at q;refine(I.Bj b o q).Lq (fun c v hc r=>keep c v ?_ ?_ r) (fun c r=>by rw[AZ (A8 r hTn)];exact r) fun c ys r=>by rw[AZ (A8 r hTn)];exact r
     ·rcases hc with rfl|hc
      ·exact(IG _ _ q).1
      ·exact(IG _ _ hc).1
     ·rcases hc with rfl|hc
      ·exact(IG _ _ q).2
      ·exact(IG _ _ hc).2
  ·obtain⟨⟨o,q,r⟩,_⟩:=hs';exact⟨o,(sb.2 it (Ne.symm hne)).trans q,r⟩
  ·rcases aJ.mp hb with rfl|hb
   ·rw[AZ (Ne.symm hTe)];exact hE0.1
   ·have e2:b=it:=by simpa using hb
    subst e2;rw[AZ (Ne.symm hTi)];exact hI0.1
 done:=by
  intro X hP hw hK hc i pins s σ H E I hf st hg;subst hP hw hK;obtain⟨xs,hq,hx⟩:=hg;obtain⟨its,rv,pL,hz⟩:=I.list hq;have p:=pL.isList;obtain⟨⟨old,he⟩,hit⟩:=st;have hai:a≠it:=fun z=>by
   obtain⟨o,e1,c1,_⟩:=p;obtain⟨o2,e2,c2,_⟩:=hit;rw[z,e2]at e1;cases e1;rw[c1]at c2;exact absurd c2 (by decide)
  have hl:its.length=i:=by rw[←rv.length];exact hx
  subst hl;obtain⟨f0,f1,f2,f3,f4,f5⟩:=hf it (by simp);exact wpAny_pyNext_enum_endD (Draws.list (prog:=X.prog) (w:=X.w) (A:=X.A.in1) (I.ok.hd hc) it a hai its.toArray) he ⟨hit,p⟩ fun h' eb=>⟨rfl,I.turned (t':=s.toks) (fun b o hb q=>eb b o hb q) f0 f1 f3 f4 f5⟩
 self:=fun _ _ _ _ _ st h=>by
  obtain⟨⟨old,he⟩,_⟩:=st;exact wpAny_pyIter_enum he h
def iY(K:Fg)(ta:TA):TI:=fun σ H R=>ta σ H fun vs H1=>∃a,vs=[.ref a]∧(∃xs,Bo K H1 a xs)∧R (ia K a) H1
def Zt{X:Cx}{elts:List Expr}{x1}{tpos:Pos}{a:Expr}{ta:TA}{p pos:Pos}(hg:Gl X "enumerate")(hm:X.mg "enumerate" = none)(ha:PA X [a] ta)(hs:starEach [a] X.env=[(false,eval a X.env)]:=by rfl) :
  PI X (.Tuple elts x1 tpos) (.Call (.Name "enumerate" p) [a] [] pos) (iY X.K ta):=by
 intro pins s σ H R I h;refine Call_ (Iw I hg hm boot_enumerate (bC (CG (ha pos pins s σ H _ I h) fun us s1 ⟨vs,H1,I1,r1,q1⟩=>?_) hs rfl));obtain⟨t,e,⟨xs,hq⟩,q⟩:=q1;subst e;cases r1 with
 |cons r rr =>
  cases rr;cases r;obtain⟨its,rv,p',hz⟩:=I1.list hq;refine call_enumerate_list (show s1.heap.IsList t its.toArray from p'.isList) fun h' he hit hsz hk=>wpAny_pyIter_enum he ?_;have I2:Inv X pins σ H1 {s1 with heap:=h'}:=I1.kept (t':=s1.toks) hk;have hn:s1.heap.objs.size+1≠s1.heap.objs.size:=by lia
  refine⟨s1.heap.objs.size+1,[s1.heap.objs.size+1,s1.heap.objs.size],_,_,H1,rfl,I2,Wx t _ _ hn,⟨⟨_,he⟩,hit⟩,fun b hb=>?_,q⟩;have hb':s1.heap.objs.size≤b:=by
   have hb2:b=s1.heap.objs.size+1∨b=s1.heap.objs.size:=by simpa using hb
   rcases hb2 with z|z
   ·rw[z];exact Nat.le_succ _
   ·rw[z];exact aG _
  exact I1.RY hb' (I1.Bj.fresh hb')
end L2
namespace TH
open PySem PyProof.Rows PySem.SeqAt
def OW:Tr→List Int
 |.nil=>[]
 |.cons b r=>reduceHash (Builtin.Tuple.tupleHashOf (OW b))::OW r
def CC(t:Tr):Int:=reduceHash (Builtin.Tuple.tupleHashOf (OW t))
section
variable{prog:Program}{w:World}{E:VL→SD→Prop}
def IsTuple.ty{h:Heap}{a:AD}{x:Array VL}{s:SD}(e:s.heap=h)(k:h.IsTuple a x):s.TypeIs (.ref a) "tuple" := by
 subst e;obtain⟨o,ho,hc,_⟩:=k;exact⟨o,ho,hc⟩
def WJ(prog:Program)(w:World)(E:VL→SD→Prop)(t:Tr):Prop:=∀(us:List VL) (A:Around) (s:SD) (b:Array Int) (Q:Array Int→SD→Prop),Vs s.heap t us→A.units+t.deep≤cLine →
 (∀tk b',b'.toList=b.toList++OW t→Q b' {s with toks:=tk})→wpAny (model prog w) A (forIn us b fun x r=>do let h ←pyHash x;pure PUnit.unit;pure (ForInStep.yield (r.push h))) Q E s
def PH{t:Tr}(row:WJ prog w E t){a:AD}{its:List VL}{A:Around}{s:SD}{Q:Int→SD→Prop}(h1:s.heap.IsTuple a its.toArray)(h2:Vs s.heap t its)(hu:A.units+t.deep<cLine)
 (h:∀tk,Q (CC t) {s with toks:=tk}):wpAny (model prog w) A (pyHash (.ref a)) Q E s:=by
 have hT:=IsTuple.ty rfl h1;obtain⟨o,ho,hc,n,hd⟩:=id h1;refine PySem.W.pyHash_slot (T := "tuple") hT F.slot_tuple_hash F.entry_tuple_hash (F.args_tuple_hash_1 _) (beq_builtin_none _) (.inr (by lia)) ?_;show wpAny _ _ (Builtin.Tuple.tupleItemsOf (.ref a)>>=_) _ _ s;refine Wb (wpAny_tupleItemsOf ho hd ?_);refine Wb ?_;rw[←Array.forIn_toList];refine row its A.in1 s #[] _ h2 (by rw[Around.in1_units];lia) fun tk b hb=>?_;show wpAny _ _ (retInt (Builtin.Tuple.tupleHashOf b.toList)) _ _ _;rw[hb];exact Wb (wpAny_mkInt (aB ⟨_,_,rfl,h _⟩))
def QA:∀t:Tr,WJ prog w E t
 |.nil=>fun us A s b Q e _ h=>by rw[Vs]at e;subst e;exact aB (h s.toks b (by simp[OW]))
 |.cons c r=>fun us A s b Q e hu h=>by
  rw[Vs]at e;obtain⟨a,its,rest,rfl,h1,h2,h3⟩:=e;have hd:(Tr.cons c r).deep=max (c.deep+1) r.deep:=rfl;rw[List.forIn_cons];refine Wb (Wb (PH (QA c) h1 h2 (by lia) fun tk=>?_));refine Wb (aB (aB ?_));exact QA r rest A _ _ Q h3 (by lia) fun tk' b' hb=>h tk' b' (by simp[hb,OW,CC])
def en{t:Tr}{a:AD}{its:List VL}{A:Around}{s:SD}{Q:Int→SD→Prop}(h1:s.heap.IsTuple a its.toArray)(h2:Vs s.heap t its)(hu:A.units+t.deep<cLine)
 (h:∀tk,Q (CC t) {s with toks:=tk}):wpAny (model prog w) A (pyHash (.ref a)) Q E s:=PH (QA t) h1 h2 hu h
def Good(h:Heap)(n:Nat)(v:VL):Prop:=∃a its t,v=.ref a∧h.IsTuple a its.toArray∧Vs h t its∧t.deep<n
def My{h:Heap}:∀ {t:Tr} {us:List VL} {n:Nat},Vs h t us→t.deep≤n→∀v∈us,Good h n v
 |.nil,us,n,e,_,v,hv=>by rw[Vs]at e;subst e;cases hv
 |.cons c r,us,n,e,hd,v,hv=>by
  rw[Vs]at e;obtain⟨a,its,rest,rfl,h1,h2,h3⟩:=e;rw[Tr.deep]at hd;rcases aJ.mp hv with rfl|hv
  ·exact⟨a,its,c,rfl,h1,h2,by lia⟩
  ·exact My h3 (by lia) v hv
def U0:∀(n:Nat) {v:VL} {A:Around} {s:SD} {Q:Bool→SD→Prop},Good s.heap n v→Q true s→wpAny (model prog w) A (hashByValue n v) Q E s
 |0,v,A,s,Q,⟨_,_,_,_,_,_,z⟩,_=>absurd z (ag _)
 |n+1,v,A,s,Q,⟨a,its,t,e,h1,h2,hd⟩,h=>by
  subst e;have hT:=IsTuple.ty rfl h1;obtain⟨o,ho,hc,k,hdt⟩:=id h1;unfold hashByValue;refine Wb (wpAny_specialOf hT F.slot_tuple_hash.lookup ?_);refine Wb (bE ho hdt ?_);refine Wb ?_;show wpAny _ _ (forIn its.toArray _ _) _ _ s;rw[←Array.forIn_toList];refine wpAny_forIn_list _ (fun rest r s'=>r.1=none∧s'=s∧∀v∈rest,Good s.heap n v) _ ?_ ?_ _ _ ⟨rfl,rfl,My h2 (by lia)⟩
  ·rintro v rest r s' ⟨hr,rfl,hall⟩;refine Wb (U0 n (hall v aT) ?_);simp only[Bool.not_true,Bool.false_eq_true,if_false];exact aB ⟨rfl,rfl,fun u hu'=>hall u (aR _ hu')⟩
  ·rintro⟨r1,r2⟩ s' ⟨hr,rfl,_⟩;simp only at hr;subst hr;exact aB h
def quiet:∀(n:Nat) {v:VL} {A:Around} {s:SD} {Q:Bool→SD→Prop},Good s.heap n v→Q true s→wpAny (model prog w) A (eqIsQuiet n v) Q E s
 |0,v,A,s,Q,⟨_,_,_,_,_,_,z⟩,_=>absurd z (ag _)
 |n+1,v,A,s,Q,⟨a,its,t,e,h1,h2,hd⟩,h=>by
  subst e;have hT:=IsTuple.ty rfl h1;obtain⟨o,ho,hc,k,hdt⟩:=id h1;unfold eqIsQuiet;refine Wb (wpAny_specialOf hT F.slot_tuple_eq.lookup ?_);show wpAny _ _ (isInstance (.ref a) (.type "tuple")>>=_) _ _ s;refine Wb (wpAny_isInstance hT isSubtype_tuple_tuple ?_);simp only[Bool.not_true,Bool.false_eq_true,if_false];refine Wb (bE ho hdt ?_);refine Wb ?_;show wpAny _ _ (forIn its.toArray _ _) _ _ s;rw[←Array.forIn_toList];refine wpAny_forIn_list _ (fun rest r s'=>r.1=none∧s'=s∧∀v∈rest,Good s.heap n v) _ ?_ ?_ _ _ ⟨rfl,rfl,My h2 (by lia)⟩
  ·rintro v rest r s' ⟨hr,rfl,hall⟩;refine Wb (quiet n (hall v aT) ?_);simp only[Bool.not_true,Bool.false_eq_true,if_false];exact aB ⟨rfl,rfl,fun u hu'=>hall u (aR _ hu')⟩
  ·rintro⟨r1,r2⟩ s' ⟨hr,rfl,_⟩;simp only at hr;subst hr;exact aB h
def Pz:∀(n:Nat) {v:VL} {A:Around} {s:SD} {Q:Bool→SD→Prop},Good s.heap n v→Q false s→wpAny (model prog w) A (ofAClassStatement n v) Q E s
 |0,v,A,s,Q,⟨_,_,_,_,_,_,z⟩,_=>absurd z (ag _)
 |n+1,v,A,s,Q,⟨a,its,t,e,h1,h2,hd⟩,h=>by
  subst e;have hT:=IsTuple.ty rfl h1;obtain⟨o,ho,hc,k,hdt⟩:=id h1;unfold ofAClassStatement;refine Wb (wpAny_typeOf hT ?_);have ht:("tuple" == "tuple")=true:=by rfl
  dsimp only;rw[if_pos ht];refine Wb (aB ?_);simp only[Bool.not_true,Bool.false_eq_true,if_false];refine Wb (bE ho hdt ?_);refine Wb ?_;rw[←Array.forIn_toList];refine wpAny_forIn_list _ (fun rest r s'=>r.1=none∧s'=s∧∀v∈rest,Good s.heap n v) _ ?_ ?_ _ _ ⟨rfl,rfl,My h2 (by lia)⟩
  ·rintro v rest r s' ⟨hr,rfl,hall⟩;refine Wb (Pz n (hall v aT) ?_);simp only[Bool.false_eq_true,if_false];exact aB ⟨rfl,rfl,fun u hu'=>hall u (aR _ hu')⟩
  ·rintro⟨r1,r2⟩ s' ⟨hr,rfl,_⟩;simp only at hr;subst hr;exact aB h
def ZH{x:VL}{l:List VL}{A:Around}{s:SD}{Q:Bool→SD→Prop}(hx:Good s.heap 8 x)(hl:∀y∈l,Good s.heap 8 y)(h:Q false s):wpAny (model prog w) A (searchCouldBeSeen x l) Q E s:=by
  unfold searchCouldBeSeen
  refine Wb ?_
  refine wpAny_forIn_list _ (fun rest r s'=>r.1=none∧s'=s∧∀v∈rest,Good s.heap 8 v) _ ?_ ?_ _ _ ⟨rfl,rfl,hl⟩
  · rintro v rest r s' ⟨hr,rfl,hall⟩
    have go:∀b:Bool,wpAny (model prog w) A (if b=true then pure (ForInStep.yield (none,())) else do
        let q ←eqIsQuiet 8 x
        if(!q)=true then pure (ForInStep.done (some true,())) else do
          let q ←eqIsQuiet 8 v
          if(!q)=true then pure (ForInStep.done (some true,())) else do
            let q ←ofAClassStatement 8 x
            if q=true then pure (ForInStep.done (some true,())) else do
              let q ←ofAClassStatement 8 v
              if q=true then pure (ForInStep.done (some true,())) else pure (ForInStep.yield (none,())))
        (fun st s''=>match st with
          |ForInStep.yield r=>r.1=none∧s''=s'∧∀v∈rest,Good s'.heap 8 v
          |ForInStep.done r=>False) E s':=fun b=>by
      cases b with
      |true=>rw[if_pos rfl];exact aB ⟨rfl,rfl,fun u hu'=>hall u (aR _ hu')⟩
      |false =>
        rw[if_neg aL]
        refine Wb (quiet 8 hx ?_)
        simp only[Bool.not_true,Bool.false_eq_true,if_false]
        refine Wb (quiet 8 (hall v aT) ?_)
        simp only[Bool.not_true,Bool.false_eq_true,if_false]
        refine Wb (Pz 8 hx ?_)
        simp only[Bool.false_eq_true,if_false]
        refine Wb (Pz 8 (hall v aT) ?_)
        simp only[Bool.false_eq_true,if_false]
        exact aB ⟨rfl,rfl,fun u hu'=>hall u (aR _ hu')⟩
    refine ah (go _) (fun st s'' z=>?_) fun _ _ z=>z
    cases st with
    |yield r=>exact z
    |done r=>exact z.elim
  · rintro⟨r1,r2⟩ s' ⟨hr,rfl,_⟩
    simp only at hr
    subst hr
    exact aB h
end
end TH
namespace TH
open PySem PyProof.Rows PySem.SeqAt
abbrev ES:=Array (Int×Tr)
def O3(et:ES)(i:Nat):Int:=(et[i]?.map (·.1)).getD 0
def XW(et:ES)(t:SetTable)(x:Tr)(h:Int):Option (Option Nat) :=
 if t.gaveWay then none else
 match t.probe (O3 et) h (t.probeStart h) with
 |some (.empty j none)=>some (some j)
 |some (.candidate _ i _)=>match et[i]? with
  |some (_,y)=>if y=x then some none else none
  |none=>none
 |_=>none
def IM(st:ES×SetTable)(x:Tr):Option (ES×SetTable) :=
 if(st.2.fits st.1.size&&decide (st.1.size≤1000)&&st.2.plain)=false then none else
 match XW st.1 st.2 x (CC x) with
 |none=>none
 |some none=>some st
 |some (some slot) =>
  if(st.2.put slot).1.tooFull=false then some (SetTable.insertAt st.1 (st.2.put slot).2 (CC x,x),(st.2.put slot).1) else
  if((st.2.put slot).1.fits (SetTable.insertAt st.1 (st.2.put slot).2 (CC x,x)).size&&decide (SetTable.sizeAbove (SetTable.grown (st.1.size+1))≤100000))=false then none else
  match (st.2.put slot).1.relaid ((SetTable.insertAt st.1 (st.2.put slot).2 (CC x,x)).map (·.1)) (SetTable.grown (st.1.size+1)) with
  |none=>none
  |some (t',order) =>
   if(order.filterMap ((SetTable.insertAt st.1 (st.2.put slot).2 (CC x,x))[·]?)).size=(SetTable.insertAt st.1 (st.2.put slot).2 (CC x,x)).size then
    some (order.filterMap ((SetTable.insertAt st.1 (st.2.put slot).2 (CC x,x))[·]?),t') else none
def Py(G:VL→Tr→Prop)(h:Heap)(p:Int×VL)(q:Int×Tr):Prop:=p.1=q.1∧q.2.deep<8∧G p.2 q.2∧∃a its,p.2=.ref a∧h.IsTuple a its.toArray∧Vs h q.2 its
abbrev Eh(G:VL→Tr→Prop)(h:Heap)(ev:Array (Int×VL))(et:ES):Prop:=Paired (Py G h) ev.toList et.toList
variable{G:VL→Tr→Prop}
section
variable{α β:Type}{F:α→β→Prop}
def Paired.get:∀ {l:List α} {m:List β},Paired F l m→∀ {i:Nat} {y:β},m[i]? = some y→∃x,l[i]? = some x∧F x y
 |_,_,.nil,i,y,h=>by simp at h
 |_,_,.cons h1 r,0,y,h=>by simp at h;subst h;exact⟨_,rfl,h1⟩
 |_,_,.cons h1 r,i+1,y,h=>Paired.get r (by simpa using h)
def Paired.none:∀ {l:List α} {m:List β},Paired F l m→∀ {i:Nat},m[i]? = Option.none→l[i]? = Option.none:=fun {l m} r i h=>by
 have:=r.length;rw[List.getElem?_eq_none_iff]at h ⊢
 lia
def Paired.app{l2:List α}{m2:List β}(k:Paired F l2 m2):∀ {l:List α} {m:List β},Paired F l m→Paired F (l++l2) (m++m2)
 |_,_,.nil=>k
 |_,_,.cons h r=>.cons h (Paired.app k r)
def Paired.take:∀ {l:List α} {m:List β} (n:Nat),Paired F l m→Paired F (l.take n) (m.take n)
 |_,_,0,_=>by simpa using Paired.nil
 |_,_,n+1,.nil=>by simpa using Paired.nil
 |_,_,n+1,.cons h r=>.cons h (Paired.take n r)
def Paired.drop:∀ {l:List α} {m:List β} (n:Nat),Paired F l m→Paired F (l.drop n) (m.drop n)
 |_,_,0,h=>h
 |_,_,n+1,.nil=>by simpa using Paired.nil
 |_,_,n+1,.cons h r=>Paired.drop n r
def Paired.pick{l:List α}{m:List β}(r:Paired F l m):∀(o:List Nat),Paired F (o.filterMap (l[·]?)) (o.filterMap (m[·]?))
 |[]=>.nil
 |i::o=>by
  rw[List.filterMap_cons,List.filterMap_cons];cases e:m[i]? with
  |none=>rw[Paired.none r e];exact Paired.pick r o
  |some y =>
   obtain⟨x,e2,h⟩:=Paired.get r e;rw[e2];exact .cons h (Paired.pick r o)
def Paired.imp{G:α→β→Prop}(h:∀a b,F a b→G a b):∀ {l:List α} {m:List β},Paired F l m→Paired G l m
 |_,_,.nil=>.nil
 |_,_,.cons k r=>.cons (h _ _ k) (Paired.imp h r)
end
def KD{α:Type}(xs:Array α)(p:Nat)(x:α):(SetTable.insertAt xs p x).toList=xs.toList.take p++x::xs.toList.drop p:=by
 unfold SetTable.insertAt;simp[List.extract];rw[List.take_of_length_le (by simp)]
def Eh.fst{h:Heap}{ev:Array (Int×VL)}{et:ES}(r:Eh G h ev et):ev.map (·.1)=et.map (·.1):=by
 have key:∀ {l:List (Int×VL)} {m:List (Int×Tr)},Paired (Py G h) l m→l.map (·.1)=m.map (·.1):=fun r=>by
  induction r with
  |nil=>rfl
  |cons k _ ih=>rw[List.map_cons,List.map_cons,ih,k.1]
 apply Array.toList_inj.mp
 simpa using key r
def Eh.size{h:Heap}{ev:Array (Int×VL)}{et:ES}(r:Eh G h ev et):ev.size=et.size:=by simpa using Paired.length r
def Eh.O3{h:Heap}{ev:Array (Int×VL)}{et:ES}(r:Eh G h ev et)(i:Nat):(ev[i]?.map (·.1)).getD 0=O3 et i:=by
 have:=aj (fun a:Array Int=>a[i]?) r.fst;simp only[Array.getElem?_map]at this;rw[TH.O3,this]
def Eh.good{h:Heap}{ev:Array (Int×VL)}{et:ES}(r:Eh G h ev et):∀p∈ev.toList,Good h 8 p.2:=by
 have key:∀ {l:List (Int×VL)} {m:List (Int×Tr)},Paired (Py G h) l m→∀p∈l,Good h 8 p.2:=fun r=>by
  induction r with
  |nil=>intro p hp;cases hp
  |cons k _ ih =>
   intro p hp;rcases aJ.mp hp with rfl|hp
   ·obtain⟨_,hd,_,a,its,e,h1,h2⟩:=k;exact⟨a,its,_,e,h1,h2,hd⟩
   ·exact ih p hp
 exact key r
def Eh.at{h:Heap}{ev:Array (Int×VL)}{et:ES}(r:Eh G h ev et){i:Nat}{z:Int}{y:Tr}(e:et[i]? = some (z,y)):∃a its,ev[i]? = some (z,.ref a)∧h.IsTuple a its.toArray∧Vs h y its∧y.deep<8:=by
 obtain⟨⟨z',v⟩,h1,h2,hd,_,a,its,e2,h3,h4⟩:=Paired.get r (by simpa using e);have h2:z'=z:=h2;have e2:v=.ref a:=e2;subst h2 e2;exact⟨a,its,by simpa using h1,h3,h4,hd⟩
def Eh.keeps{h h':Heap}{ev:Array (Int×VL)}{et:ES}(k:∀b o,h.get? b=some o→o.cls=.type "tuple" → h'.get? b=some o)(r:Eh G h ev et):Eh G h' ev et :=
 Paired.imp (fun p q ⟨e,hd,hg,a,its,e2,h1,h2⟩=>⟨e,hd,hg,a,its,e2,(by obtain⟨o,ho,hc,n,hdt⟩:=h1;exact⟨o,k _ _ ho hc,hc,n,hdt⟩),h2.keeps k⟩) r
section
variable{prog:Program}{w:World}{E:VL→SD→Prop}{A:Around}{s:SD}{a xa:AD}{o:Obj}{ev:Array (Int×VL)}{et:ES}{ep:Nat}{t:SetTable}{x:Tr}{its:List VL}{h:Int}
def Ys{r:Option Nat}{Q:SetFound→SD→Prop}(ho:s.heap.get? a=some o)(hd:o.data=.set ev ep t)(hf:t.fits et.size=true)(R:Eh G s.heap ev et)(hx1:s.heap.IsTuple xa its.toArray)(hx2:Vs s.heap x its)(hxd:x.deep<8)
 (hu:A.units+8<cLine)(hs:XW et t x h=some r)(h0:r=none→Q (.there none) s)(h1:∀j,r=some j→Q (.free j false) s):wpAny (model prog w) A (setSearch a (.ref xa) h true) Q E s:=by
 have hf':t.fits ev.size=true:=by rw[R.size];exact hf
 unfold XW at hs;by_cases hg:t.gaveWay=true
 ·rw[if_pos hg]at hs;cases hs
 rw[if_neg hg]at hs;unfold setSearch;rw[show(100000:Nat)=99999+1 from rfl,setSearchFrom];refine Wb (au ho hd hf' ?_);dsimp only;rw[if_neg hg];have hpr:∀f:Nat→Int,(∀i,f i=O3 et i)→t.probe f h ((none:Option SetTable.Probe).getD (t.probeStart h))=t.probe (O3 et) h (t.probeStart h):=fun f hf=>by
  rw[show f=O3 et from funext hf];rfl
 generalize hst:t.probe _ h ((none:Option SetTable.Probe).getD (t.probeStart h))=pr;have hpr':pr=t.probe (O3 et) h (t.probeStart h):=hst.symm.trans (hpr _ fun i=>R.O3 i);clear hst hpr;subst hpr';cases hp:t.probe (O3 et) h (t.probeStart h) with
 |none=>rw[hp]at hs;cases hs
 |some met =>
  rw[hp]at hs;cases met with
  |empty j dummy =>
   cases dummy with
   |none=>cases hs;exact aB (h1 j rfl)
   |some d=>cases hs
  |candidate j i next =>
   cases he:et[i]? with
   |none=>simp only[he]at hs;cases hs
   |some zy =>
    obtain⟨z,y⟩:=zy;simp only[he]at hs;by_cases hy:y=x
    ·rw[if_pos hy]at hs;cases hs;subst hy;obtain⟨b,its2,e1,e2,e3,e4⟩:=R.at he;cases hl:t.led with
     |true =>
      simp only[Bool.not_true,Bool.false_eq_true,if_false];rw[e1];refine Wb (av (UO e2 e3 hx1 hx2 (by lia) prog w E _ ?_));rw[decide_eq_true rfl];refine Wb (au ho hd hf' ?_);exact aB (h0 rfl)
     |false =>
      simp only[Bool.not_false,if_true];refine Wb (ZH ⟨xa,its,_,rfl,hx1,hx2,hxd⟩ (fun v hv=>?_) ?_)
      ·obtain⟨p,hp1,rfl⟩:=aN.mp hv;exact R.good p (Array.mem_toList_iff.mpr (Array.mem_filter.mp (Array.mem_toList_iff.mp hp1)).1)
      simp only[Bool.false_eq_true,if_false];rw[e1];refine Wb (av (UO e2 e3 hx1 hx2 (by lia) prog w E _ ?_));rw[decide_eq_true rfl];refine Wb (au ho hd hf' ?_);exact aB (h0 rfl)
    ·rw[if_neg hy]at hs;cases hs
def Ig{n:Nat}(h:n≤100000):n≤sizeLine:=aW h (by rw[sizeLine_eq];decide)
def V8{hp:Heap}(ho:hp.get? a=some o)(hd:o.data=.set ev ep t)(ev':Array (Int×VL))(t':SetTable):(hp.update a (Obj.putSet ev' t')).get? a=some {o with data:=.set ev' (ep+1) t'}:=by
 have:=Heap.get?_update_self (Obj.putSet ev' t') ho (by rw[putSet_of ev' t' hd];rfl);rw[putSet_of ev' t' hd]at this;exact this
def UE{hp:Heap}(ho:hp.get? a=some o)(hc:o.cls=.type "set")(g:Obj→Obj):∀b u,hp.get? b=some u→u.cls=.type "tuple" →(hp.update a g).get? b=some u:=fun b u q hu=>by
 have:a≠b:=fun z=>by
  subst z;rw[ho]at q;cases q;rw[hc]at hu
  injection hu with z
  exact absurd z (by decide)
 rw[Heap.get?_update_other _ _ this];exact q
def ie{et' : ES}{t' : SetTable}{Q : Bool→SD→Prop}(ho : s.heap.get? a = some o)(hc : o.cls = .type "set")(hd : o.data = .set ev ep t)(R : Eh G s.heap ev et)(hx1 : s.heap.IsTuple xa its.toArray)(hx2 : Vs s.heap x its)(hxd : x.deep < 8)(hxg : G (.ref xa) x)
 (hu : A.units + 8 < cLine)(hs : IM (et,t) x = some (et',t'))
 (k : ∀ (b : Bool) (h' : Heap) (tk : Nat) (ev' : Array (Int×VL)) (ep' : Nat),Heap.SameBut a s.heap h'→h'.get? a = some { o with data:=.set ev' ep' t' }→Eh G h' ev' et'→Q b { s with heap:=h',toks:=tk }) :
    wpAny (model prog w) A (setAdd a (.ref xa)) Q E s := by
  unfold setAdd
  refine av (Wb (en hx1 hx2 (by lia) fun tk => ?_))
  unfold setAddHashed
  refine av ?_
  unfold IM at hs
  by_cases h1 : (t.fits et.size && decide (et.size≤1000) && t.plain) = false
  · rw [if_pos h1] at hs; cases hs
  rw [if_neg h1] at hs
  simp only [Bool.not_eq_false,Bool.and_eq_true,decide_eq_true_eq] at h1
  obtain ⟨⟨hf,hz⟩,hpl⟩:=h1
  have hf' : t.fits ev.size = true := by rw [R.size]; exact hf
  cases hsr : XW et t x (CC x) with
  | none => simp only [hsr] at hs; cases hs
  | some r =>
    simp only [hsr] at hs
    rw [show (100000 : Nat) = 99999 + 1 from rfl,setAddHashedIn]
    refine Wb (au (s:={ s with toks:=tk }) ho hd hf' ?_)
    dsimp only
    have hbs : byScan (.ref xa) ev = false:=rfl
    rw [hbs,if_neg aL]
    refine Wb (Ys (s:={ s with toks:=tk }) ho hd hf R hx1 hx2 hxd hu hsr (fun hr => ?_) fun j hr => ?_)
    · subst hr
      cases hs
      exact aB (k _ s.heap tk ev ep (Heap.SameBut.refl ..) (by rw [ho,← hd]) R)
    · subst hr
      dsimp only at hs ⊢
      refine Wb (au (s:={ s with toks:=tk }) ho hd hf' ?_)
      dsimp only
      have hpl2 : (t.put j).1.plain = true:=hpl
      rw [if_pos hpl2]
      refine Wb (U0 8 (s:={ s with toks:=tk }) ⟨xa,its,x,rfl,hx1,hx2,hxd⟩ ?_)
      simp only [if_true]
      have R1 : Eh G s.heap (SetTable.insertAt ev (t.put j).2 (CC x,.ref xa)) (SetTable.insertAt et (t.put j).2 (CC x,x)) := by
        unfold Eh
        rw [KD,KD]
        exact Paired.app (.cons ⟨rfl,hxd,hxg,xa,its,rfl,hx1,hx2⟩ (Paired.drop _ R)) (Paired.take _ R)
      have hz1 : (SetTable.insertAt ev (t.put j).2 (CC x,Value.ref xa)).size≤1001 := by
        have h2:=aj List.length (KD ev (t.put j).2 (CC x,Value.ref xa))
        simp only [Array.length_toList,List.length_append,List.length_take,List.length_cons,List.length_drop] at h2
        have:=R.size
        lia
      have hz2 : (SetTable.insertAt et (t.put j).2 (CC x,x)).size = (SetTable.insertAt ev (t.put j).2 (CC x,Value.ref xa)).size:=R1.size.symm
      refine Wb (wpAny_storeSet_of (s:={ s with toks:=tk }) ho hd ?_ (Ig (by lia)))
      have g1:=V8 ho hd (SetTable.insertAt ev (t.put j).2 (CC x,.ref xa)) (t.put j).1
      have k1:=UE ho hc (Obj.putSet (SetTable.insertAt ev (t.put j).2 (CC x,.ref xa)) (t.put j).1)
      have sb1:=bH s.heap a (Obj.putSet (SetTable.insertAt ev (t.put j).2 (CC x,.ref xa)) (t.put j).1)
      by_cases hfull : (t.put j).1.tooFull = false
      · rw [if_pos hfull] at hs
        cases hs
        rw [hfull]
        simp only [Bool.and_false,Bool.false_eq_true,if_false]
        exact aB (k _ _ tk _ _ sb1 g1 (R1.keeps k1))
      · rw [if_neg hfull] at hs
        have hfull : (t.put j).1.tooFull = true := by simpa using hfull
        rw [hfull]
        simp only [Bool.not_false,Bool.and_true,if_true]
        by_cases h2 : ((t.put j).1.fits (SetTable.insertAt et (t.put j).2 (CC x,x)).size && decide (SetTable.sizeAbove (SetTable.grown (et.size + 1))≤100000)) = false
        · rw [if_pos h2] at hs; cases hs
        rw [if_neg h2] at hs
        simp only [Bool.not_eq_false,Bool.and_eq_true,decide_eq_true_eq] at h2
        obtain ⟨hfit,hsa⟩:=h2
        cases hrl : (t.put j).1.relaid ((SetTable.insertAt et (t.put j).2 (CC x,x)).map (·.1)) (SetTable.grown (et.size + 1)) with
        | none => simp only [hrl] at hs; cases hs
        | some to =>
          obtain ⟨t2,order⟩:=to
          simp only [hrl] at hs
          by_cases h3 : (order.filterMap ((SetTable.insertAt et (t.put j).2 (CC x,x))[·]?)).size = (SetTable.insertAt et (t.put j).2 (CC x,x)).size
          · rw [if_pos h3] at hs
            cases hs
            have R2 : Eh G s.heap (order.filterMap ((SetTable.insertAt ev (t.put j).2 (CC x,Value.ref xa))[·]?)) (order.filterMap ((SetTable.insertAt et (t.put j).2 (CC x,x))[·]?)) := by
              unfold Eh
              have:=Paired.pick R1 order.toList
              simpa using this
            have g2:=V8 g1 rfl (order.filterMap ((SetTable.insertAt ev (t.put j).2 (CC x,Value.ref xa))[·]?)) t'
            have k2:=UE g1 hc (Obj.putSet (order.filterMap ((SetTable.insertAt ev (t.put j).2 (CC x,Value.ref xa))[·]?)) t')
            have sb2:=bH (s.heap.update a (Obj.putSet (SetTable.insertAt ev (t.put j).2 (CC x,.ref xa)) (t.put j).1)) a (Obj.putSet (order.filterMap ((SetTable.insertAt ev (t.put j).2 (CC x,Value.ref xa))[·]?)) t')
            refine Wb ?_
            unfold setRelay
            refine Wb (au g1 rfl (by rw [← hz2]; exact hfit) ?_)
            dsimp only
            rw [R.size,if_neg (Nat.not_lt.mpr (Ig hsa))]
            refine Wb ?_
            rw [R1.fst,hrl]
            have hsz : (order.filterMap ((SetTable.insertAt ev (t.put j).2 (CC x,Value.ref xa))[·]?)).size = (SetTable.insertAt ev (t.put j).2 (CC x,Value.ref xa)).size := by rw [R2.size,h3,hz2]
            have hne : ¬ ((order.filterMap ((SetTable.insertAt ev (t.put j).2 (CC x,Value.ref xa))[·]?)).size != (SetTable.insertAt ev (t.put j).2 (CC x,Value.ref xa)).size) = true := by simp [hsz]
            show wpAny _ _ (do if (order.filterMap ((SetTable.insertAt ev (t.put j).2 (CC x,Value.ref xa))[·]?)).size != (SetTable.insertAt ev (t.put j).2 (CC x,Value.ref xa)).size then unsupported "internal:set-table-lost-an-element"
                               pure (order.filterMap ((SetTable.insertAt ev (t.put j).2 (CC x,Value.ref xa))[·]?),t')) _ _ _
            rw [if_neg hne]
            refine aB ?_
            refine wpAny_storeSet_of g1 rfl ?_ (Ig (by rw [hsz]; lia))
            exact aB (k _ _ tk _ _ (sb1.trans sb2) g2 ((R2.keeps k1).keeps k2))
          · rw [if_neg h3] at hs; cases hs
end
end TH
namespace TH
open PySem
def grow:List Tr→Tr→List Tr
 |_,.nil=>[]
 |pre,.cons b r=>((Tr.of (Tr.Dd (b.bs++[.nil]))::grow [] b).map fun g=>Tr.of (Tr.Dd (pre++g::r.bs)))++grow (pre++[b]) r
def lg(t:Tr):List Tr:=Tr.of (Tr.Dd (t.bs++[.nil]))::grow [] t
def ups(l:List Tr):List Tr:=l.flatMap lg
def Nq(st:ES×SetTable):List Tr→Option (ES×SetTable)
 |[]=>some st
 |x::r=>(IM st x).bind fun st'=>Nq st' r
def MJ(led:Bool):ES×SetTable:=(#[],.fresh 0 0 led)
def QP(st:ES×SetTable):List Tr:=st.1.toList.map (·.2)
def tz:Nat→List Tr
 |0=>[.nil]
 |n+1=>(Tr.Dd ((ups (tz n)).eraseDups)).reverse
end TH
namespace TH
open PySem PyProof.Rows PySem.SeqAt
def TU(G:VL→Tr→Prop)(h:Heap)(v:VL)(x:Tr):Prop:=x.deep<8∧G v x∧∃a its,v=.ref a∧h.IsTuple a its.toArray∧Vs h x its
abbrev Kl(G:VL→Tr→Prop)(h:Heap)(vs:List VL)(xs:List Tr):Prop:=Paired (TU G h) vs xs
variable{G:VL→Tr→Prop}
def TU.keeps{h h':Heap}(k:∀b o,h.get? b=some o→o.cls=.type "tuple" → h'.get? b=some o){v:VL}{x:Tr}(r:TU G h v x):TU G h' v x:=by
 obtain⟨hd,hg,a,its,e,h1,h2⟩:=r;exact⟨hd,hg,a,its,e,(by obtain⟨o,ho,hc,n,hdt⟩:=h1;exact⟨o,k _ _ ho hc,hc,n,hdt⟩),h2.keeps k⟩
def Kl.keeps{h h':Heap}(k:∀b o,h.get? b=some o→o.cls=.type "tuple" → h'.get? b=some o){vs:List VL}{xs:List Tr}(r:Kl G h vs xs):Kl G h' vs xs:=Paired.imp (fun _ _ z=>z.keeps k) r
def Mr(G:VL→Tr→Prop)(h:Heap)(S:AD)(st:ES×SetTable):Prop:=∃o ev ep,h.get? S=some o∧o.ExactSet∧o.data=.set ev ep st.2∧Eh G h ev st.1
def Mr.keeps{h h':Heap}{S:AD}{st:ES×SetTable}(x:Mr G h S st)(kS:∀o,h.get? S=some o→h'.get? S=some o)(k:∀b o,h.get? b=some o→o.cls=.type "tuple" → h'.get? b=some o):Mr G h' S st:=by
 obtain⟨o,ev,ep,h1,h2,h3,h4⟩:=x;exact⟨o,ev,ep,kS _ h1,h2,h3,h4.keeps k⟩
section
variable{prog:Program}{w:World}{A:Around}{R:Result→SD→Prop}{I S:AD}{fp wr:List AD}{St:Nat→Heap→Prop}{items:Array VL}{xs:List Tr}{st':ES×SetTable}
def dH(W:Walks prog w A.in1 I fp wr items.size (fun i v=>items[i]? = some v) St)(hSf:S ∉ fp)(hcl:∀i h b o,St i h→b∈wr→h.get? b=some o→o.cls≠.type "tuple")(hu:A.units+10<cLine) :
  ∀(k i:Nat) (s:SD) (st:ES×SetTable),items.size-i=k→i≤items.size→St i s.heap→Mr G s.heap S st→Kl G s.heap items.toList xs→Nq st (xs.drop i)=some st' →
   (∀(h':Heap) (tk:Nat),(∀b o,b≠S→b ∉ wr→s.heap.get? b=some o→h'.get? b=some o)→(∀b o,s.heap.get? b=some o→o.cls=.type "tuple" → h'.get? b=some o)→Mr G h' S st'→R (.ok (.ret .none)) {s with heap:=h',toks:=tk}) →
   codeAny (model prog w) A (.builtin "set.update.loop" ⟨[.ref S,.ref I],[]⟩) R s:=by
 have hSw:S ∉ wr:=fun h=>hSf (W.sub _ h);intro k
 induction k with
 |zero =>
  intro i s st hk hi hst hS hT hrun hR;have hin:i=items.size:=by lia
  subst hin;have hlen:=Paired.length hT;rw[List.drop_of_length_le (by rw[←hlen];simp)]at hrun;cases hrun;refine codeAny_builtin F.entry_set_update_loop ?_;rw[Around.under_plainId F.plain_set_update_loop _];show wpAny _ A.in1 (pyNext (.ref I)>>=_) _ _ s;refine Wb (W.done s _ _ hst fun h' tk hm=>?_);show wpAny _ A.in1 (ret Value.none) _ _ _;have kt:∀b o,s.heap.get? b=some o→o.cls=.type "tuple" → h'.get? b=some o:=fun b o e hc=>hm b o (fun hb=>hcl _ _ b o hst hb e hc) e;exact aB (hR h' tk (fun b o _ hb e=>hm b o hb e) kt (hS.keeps (fun o e=>hm S o hSw e) kt))
 |succ k ih =>
  intro i s st hk hi hst hS hT hrun hR;have hlt:i<items.size:=by lia
  refine codeAny_builtin F.entry_set_update_loop ?_;rw[Around.under_plainId F.plain_set_update_loop _];show wpAny _ A.in1 (pyNext (.ref I)>>=_) _ _ s;refine Wb (W.item i s _ _ hlt hst fun v h1 tk hP hst' hm=>?_);have kt:∀b o,s.heap.get? b=some o→o.cls=.type "tuple" → h1.get? b=some o:=fun b o e hc=>hm b o (fun hb=>hcl _ _ b o hst hb e hc) e;have hS1:=hS.keeps (fun o e=>hm S o hSw e) kt;have hT1:=hT.keeps kt;have hlen:=Paired.length hT;have hxi:i<xs.length:=by rw[←hlen];simpa using hlt
  have hx:xs[i]? = some xs[i]:=aM hxi;obtain⟨v',hv',hxd,hxg,xa,its,e1,e2,e3⟩:=Paired.get hT1 hx;have hvv:v'=v:=by
   have h2:items.toList[i]? = some v:=by simpa using hP
   rw[h2]at hv';exact(aa hv').symm
  subst hvv;subst e1;rw[List.drop_eq_getElem_cons hxi,Nq]at hrun;cases hadd:IM st xs[i]with
  |none=>rw[hadd]at hrun;cases hrun
  |some st1 =>
   rw[hadd]at hrun;obtain⟨o,ev,ep,g1,g2,g3,g4⟩:=hS1;obtain⟨et,t⟩:=st;obtain⟨et1,t1⟩:=st1;show wpAny _ A.in1 (holding [Value.ref xa] (setAdd S (.ref xa))>>=_) _ _ _;refine Wb (av (ie (s:={s with heap:=h1,toks:=tk}) g1 g2.1 g3 g4 e2 e3 hxd hxg (by rw[Around.in1_units];lia) hadd fun b h2 tk2 ev2 ep2 sb gS R2=>?_));have kt2:∀b o,h1.get? b=some o→o.cls=.type "tuple" → h2.get? b=some o:=fun b o' e hc=>by
    rw[sb.2 b fun z=>?_]
    ·exact e
    ·subst z;rw[g1]at e;cases e;rw[g2.1]at hc
     injection hc with hc
     exact absurd hc (by decide)
   refine aB ⟨plainId_quiet F.plain_set_update_loop _,ih (i+1) {s with heap:=h2,toks:=tk2} (et1,t1) (by lia) hlt (W.frame _ _ _ hst' fun b hb o' e=>?_) ⟨_,ev2,ep2,gS,g2,rfl,R2⟩ (hT1.keeps kt2) hrun fun h3 tk3 m3 kt3 S3=>?_⟩
   ·rw[sb.2 b fun z=>hSf (z ▸ hb)];exact e
   ·refine hR h3 tk3 (fun b o' hbS hb e=>?_) (fun b o' e hc=>kt3 b o' (kt2 b o' (kt b o' e hc) hc) hc) S3;refine m3 b o' hbS hb ?_;show h2.get? b=some o';rw[sb.2 b hbS];exact hm b o' hb e
end
end TH
namespace TH
open PySem PyProof.Rows PySem.SeqAt
section
variable{G:VL→Tr→Prop}{prog:Program}{w:World}{A:Around}{E:VL→SD→Prop}{s:SD}{l:AD}{us:List VL}{xs:List Tr}
abbrev HM(led:Bool):Obj:={ cls:=.type "set",dict:=none,data:=.set #[] 0 (.fresh 0 0 led)}
def W5(v:VL){Q1:VL→SD→Prop}(k:Q1 (.ref s.heap.objs.size) {s with heap:=s.heap.push (HM (!w.params.followText "set-order"))}) :
  codeAny (model prog w) A (.call (.builtin "set.__new__") ⟨[.type "set",v],[]⟩) (wants Q1 E) s:=by
 refine codeAny_of_tree (show wpAny _ A.in1 (checkBuiltinCall "set.__new__" ⟨[.type "set",v],[]⟩>>=fun _=>again (.builtin "set.__new__" ⟨[.type "set",v],[]⟩)) _ _ s from ?_);refine Wb (wpAny_of_eq (F.newCall_set_1 v) (aB ⟨plainId_quiet F.plain_set_new _,codeAny_builtin F.entry_set_new ?_⟩));rw[Around.under_plainId F.plain_set_new _];unfold Builtin.«set.__new__»;unfold Builtin.Frozenset.newClass;have q:=sub_set_self;obtain⟨h0,g0,d0,t0,o0⟩:=s;dsimp only
 wp_walk
 refine wpAny_askSetting (aB ?_);dsimp only;simp only[newObj];exact Wb (wpAny_alloc (aB (aB k)))
def VY{Q:VL→SD→Prop}(hA:A.handled=none)(hL:s.heap.IsList l us.toArray)(hT:Kl G s.heap us xs)(hu:A.units+20<cLine){st:ES×SetTable}(hst:Nq (MJ (!w.params.followText "set-order")) xs=some st)
 (k:∀(h2:Heap) (tk:Nat),Mr G h2 s.heap.objs.size st→(∀b u,s.heap.get? b=some u→h2.get? b=some u)→Q (.ref s.heap.objs.size) {s with heap:=h2,toks:=tk}) :
  wpAny (model prog w) A (call (.type "set") [.ref l]) Q E s:=by
 obtain⟨mc,mt,hmro⟩:=F.called_set.mro;have q1:=F.called_set.made;have q2:=F.called_set.sub;have q3:=F.called_set.notType;have q4:=F.called_set.canCreate;have q5:=F.typeCall_set_1 (.ref l);refine wpAny_call (codeAny_of_tree (show wpAny _ _ (callAny (.type "set") _) _ _ _ from ?_));refine aB ⟨Code.quiet_builtin _ (by decide +kernel),codeAny_builtin F.entry_type_call ?_⟩;rw[Around.under_plain (weight_type_call_type "set" [.ref l] []) rfl]
 repeat (any_goals (first|assumption|wp_step))
 have hnew:=W5 (prog:=prog) (w:=w) (s:=s) (A:=A.in1) (E:=E) (.ref l) (Q1:=fun v s1=>v=.ref s.heap.objs.size∧s1={s with heap:=s.heap.push (HM (!w.params.followText "set-order"))}) ⟨rfl,rfl⟩;refine codeAny_mono hnew fun r s1 hr=>?_;cases r with
 |error e=>exact hr
 |ok fl =>
  cases fl with
  |next=>exact hr.elim
  |brk=>exact hr.elim
  |cont=>exact hr.elim
  |ret obj =>
   obtain⟨rfl,rfl⟩:=hr;generalize (!w.params.followText "set-order")=led at hst;have gS:(s.heap.push (HM led)).get? s.heap.objs.size=some (HM led):=aP _ rfl;have tS:Shared.TypeIs {s with heap:=s.heap.push (HM led)} (.ref s.heap.objs.size) "set" := ⟨_,gS,rfl⟩;have q6:=F.called_set.init.lookup;have q7:=F.called_set.init.bind (.ref s.heap.objs.size)
   repeat (any_goals (first|assumption|wp_step))
   have hinit:codeAny (model prog w) A.in1 (.call (.builtin "set.__init__") ⟨[.ref s.heap.objs.size,.ref l],[]⟩)
     (wants (fun v s2=>v=.none∧∃h2 tk,s2={s with heap:=h2,toks:=tk}∧Mr G h2 s.heap.objs.size st∧∀b u,s.heap.get? b=some u→h2.get? b=some u) E) {s with heap:=s.heap.push (HM led)}:=by
    refine codeAny_call_builtin F.called_set.init.plain F.entry_set_init (check_set_init_1 tS ?_);obtain⟨⟨c0,d0,dt0,sl0⟩,gl,c1,n0,dt1⟩:=id hL;simp only at c1 dt1;subst c1 dt1;have gl1:(s.heap.push (HM led)).get? l=some ⟨.type "list",d0,.seq us.toArray n0,sl0⟩:=aD _ gl;have isl:(s.heap.push (HM led)).IsList l us.toArray:=⟨_,gl1,rfl,n0,rfl⟩;have s1:=F.sub_list_set;have s2:=F.sub_list_frozenset;have s3:(Value.type "list" == Value.type "dict")=false:=by decide
    unfold Builtin.«set.__init__» noKeywords Builtin.Frozenset.updateFrom;generalize ePI:pyIter=PI
    wp_walk
    subst ePI;refine wpAny_pyIter_list isl (Wb (wpAny_runValue ?_));have ll:l<s.heap.objs.size:=aE gl;have zI:(s.heap.push (HM led)).objs.size=s.heap.objs.size+1:=Heap.size_push ..;have neI:l≠(s.heap.push (HM led)).objs.size:=by rw[zI];exact aO (bG ll)
    have nfp:s.heap.objs.size ∉ [(s.heap.push (HM led)).objs.size,l]:=by
     simp only[List.mem_cons,List.not_mem_nil,or_false,not_or];exact⟨by rw[zI];exact aO (bN _),Nat.ne_of_gt ll⟩
    have hA3:A.in1.in1.in1.handled=none:=by simp[hA]
    refine dH (G:=G) (xs:=xs) (st':=st) (Walks.list hA3 _ l neI us.toArray) nfp (fun i h b o hit hb e hc=>?_) (by simp only[Around.in1_units];lia) _ 0 _ (MJ led) rfl (bF _) ⟨⟨_,Heap.get?_push_size _ rfl,rfl,rfl⟩,isl.push _⟩ ?_ ?_ hst fun h2 tk m2 kt2 S2=>?_
    ·obtain⟨⟨oi,gi,ci,_⟩,_⟩:=hit;have:b=(s.heap.push (HM led)).objs.size:=by simpa using hb
     subst this;rw[gi]at e;cases e;rw[ci]at hc
     injection hc with hc
     exact absurd hc (by decide)
    ·exact⟨HM led,#[],0,Heap.get?_push_of_some _ gS,⟨rfl,rfl,rfl⟩,rfl,.nil⟩
    ·exact hT.keeps fun b o e _=>aD _ (aD _ e)
    ·refine aB ?_;show wpAny _ _ (ret Value.none) _ _ _;refine aB ⟨rfl,h2,tk,rfl,S2,fun b u e=>?_⟩;have lb:b<s.heap.objs.size:=aE e;refine m2 b u (aO lb) ?_ (aD _ (aD _ e));simp only[List.mem_cons,List.not_mem_nil,or_false];rw[zI];exact aO (bG lb)
   refine codeAny_mono hinit fun r2 s2 hr2=>?_;cases r2 with
   |error e=>exact hr2
   |ok f2 =>
    cases f2 with
    |next=>exact hr2.elim
    |brk=>exact hr2.elim
    |cont=>exact hr2.elim
    |ret v2 =>
     obtain⟨rfl,h2,tk,rfl,S2,k2⟩:=hr2
     repeat (any_goals (first|assumption|wp_step))
     exact k h2 tk S2 k2
end
end TH
namespace TH
open PySem PyProof.Rows PySem.SeqAt
def RP:entryFor table "set.__iter__" = some Builtin.«frozenset.__iter__» :=
 entryFor_alias (id' := "frozenset.__iter__") (by kernel_rfl) rfl (by decide +kernel) (by kernel_rfl)
def FG:Slot "set_iterator" "__next__" "set_iterator.__next__" :=
 .of (owner := "set_iterator") (n := "__next__") (by rw[typeLookup_type,builtinLookup_eq_fast];kernel_rfl) (by decide +kernel)
  (by decide +kernel) (by decide +kernel) (by first|exact .inl (by decide +kernel)|exact .inr (by decide +kernel)) (by rw[isSubtype_type];kernel_rfl)
def MC:entryFor table "set_iterator.__next__" = some Builtin.«set_iterator.__next__»:=entryFor_of_fast (by kernel_rfl)
def NH(a:VL):argsOk "set_iterator.__next__" ⟨[a],[]⟩:=by unfold argsOk;kernel_rfl
def NP:Slot "set_iterator" "__iter__" "set_iterator.__iter__" :=
 .of (owner := "set_iterator") (n := "__iter__") (by rw[typeLookup_type,builtinLookup_eq_fast];kernel_rfl) (by decide +kernel)
  (by decide +kernel) (by decide +kernel) (by first|exact .inl (by decide +kernel)|exact .inr (by decide +kernel)) (by rw[isSubtype_type];kernel_rfl)
def SA:entryFor table "set_iterator.__iter__" = some Builtin.«dict_keyiterator.__iter__» :=
 entryFor_alias (id' := "dict_keyiterator.__iter__") (by kernel_rfl) rfl (by decide +kernel) (by kernel_rfl)
def S0(a:VL):argsOk "set_iterator.__iter__" ⟨[a],[]⟩:=by unfold argsOk;kernel_rfl
section
variable{α:Type}{next:Nat→Nat}
def Vo:∀(n k:Nat) (left:List α) (out:Array α),left.length=n→(pickOrder.go next n k left out).toList.Perm (out.toList++left)
 |0,k,left,out,h=>by
  have:left=[]:=bM h;subst this;rw[pickOrder.go];simp
 |n+1,k,left,out,h=>by
  rw[pickOrder.go];have hlt:next k % left.length<left.length:=Nat.mod_lt _ (by lia);rw[List.getElem?_eq_getElem hlt];refine(Vo n (k+1) _ _ (by rw[List.length_eraseIdx_of_lt hlt];lia)).trans ?_;rw[Array.toList_push,List.append_assoc];refine List.Perm.append_left _ ?_;rw[List.eraseIdx_eq_take_drop_succ];have e:left.take (next k % left.length)++left[next k % left.length]::left.drop (next k % left.length+1)=left:=by rw[←List.drop_eq_getElem_cons hlt,List.take_append_drop]
  have p:=List.perm_middle (a:=left[next k % left.length]) (l₁:=left.take (next k % left.length)) (l₂:=left.drop (next k % left.length+1));rw[e]at p;exact p.symm
def Yw(xs:Array α):(pickOrder next xs).toList.Perm xs.toList:=by
 unfold pickOrder
 simpa using Vo xs.size 0 xs.toList #[] (by simp)
end
end TH
namespace TH
open PySem PyProof.Rows PySem.SeqAt
def Gq(w:World)(S:AD)(ep:Nat)(ev:Array (Int×VL)):Array (Int×VL):=if w.params.followText "set-order" = true then pickOrder (w.params.setOrder S ep) ev else ev
def Si(w:World)(S:AD)(ep:Nat)(ev:Array (Int×VL)):(Gq w S ep ev).toList.Perm ev.toList:=by
 unfold Gq;split
 ·exact Yw ev
 ·exact .refl _
def Lb(w:World)(S:AD)(ep:Nat)(ev:Array (Int×VL)):(Gq w S ep ev).size=ev.size:=by simpa using (Si w S ep ev).length_eq
def Jf(t:SetTable):Nat→Nat
 |0=>0
 |i+1=>t.place.getD i 0+1
def FW(w:World)(t:SetTable)(i:Nat):Nat:=if w.params.followText "set-order" = true then 0 else Jf t i
def Nk(t:SetTable)(n:Nat):Bool:=(List.range (n+1)).all fun i=>decide (SetTable.below t.place (Jf t i)=i)
abbrev LY(w:World)(S:AD)(t:SetTable)(ep n i:Nat):Obj:={ cls:=.type "set_iterator",data:=.fields #[rawInt ((FW w t i:Nat):Int),rawInt (i:Int),.ref S,rawInt (n:Int),rawInt (ep:Int)]}
structure GB(w:World)(o:Obj)(ev:Array (Int×Value))(ep:Nat)(t:SetTable):Prop where
 ex:o.ExactSet
 dat:o.data=.set ev ep t
 fit:t.fits ev.size=true
 plain:t.plain=true
 led:t.led=!w.params.followText "set-order"
 walk:Nk t ev.size=true
section
variable{prog:Program}{w:World}{A:Around}{E:VL→SD→Prop}{s:SD}{S I:AD}{o:Obj}{ev:Array (Int×VL)}{ep i:Nat}{t:SetTable}
def SF{Q:Bool→SD→Prop}(h:Q (w.params.followText "set-order") s):wpAny (model prog w) A setsByText Q E s:=by
 unfold setsByText;exact Wb (wpAny_askSetting (aB h))
def GB.YL(W:GB w o ev ep t):(!t.plain&&decide (ev.size > 1))=false:=by rw[W.plain];rfl
def GB.place(W:GB w o ev ep t):t.place.size=ev.size:=by
 have:=W.fit;unfold SetTable.fits at this;simp only[Bool.and_eq_true,beq_iff_eq]at this;exact this.1
def VD{Q:Option (VL×Nat)→SD→Prop}(W:GB w o ev ep t)(ho:s.heap.get? S=some o)(hi:i≤ev.size)(h:Q ((Gq w S ep ev)[i]?.map fun e=>(e.2,FW w t (i+1))) s) :
  wpAny (model prog w) A (setNext S (FW w t i) i ep) Q E s:=by
 unfold setNext;refine Wb (au ho W.dat W.fit ?_);refine Wb (SF ?_);cases hb:w.params.followText "set-order" with
 |true =>
  rw[if_pos rfl];have hne:¬(ep != ep)=true:=by simp
  rw[if_neg hne];unfold setWalk;refine Wb (Wb (au ho W.dat W.fit ?_));refine Wb (SF ?_);rw[if_pos hb];refine Wb (wpAny_askSetting (aB ?_));refine aB ?_;have e:Gq w S ep ev=pickOrder (w.params.setOrder S ep) ev:=by unfold Gq;rw[if_pos hb]
  rw[e]at h;have e2:FW w t i=FW w t (i+1):=by unfold FW;rw[if_pos hb,if_pos hb]
  rw[e2];exact h
 |false =>
  rw[if_neg aL];refine wpAny_ite_split (fun hd=>?_) fun _=>?_
  ·have:(!t.plain&&decide (ev.size > 1))=true:=hd;rw[W.YL]at this;cases this
  ·refine Wb ?_;have hl:t.led=true:=by rw[W.led,hb];rfl
   have hn:¬(!t.led && !ev.isEmpty)=true:=by rw[hl];simp
   show wpAny _ _ (if(!t.led && !ev.isEmpty)=true then unsupported "set:maker-not-led" else pure ()) _ _ _;rw[if_neg hn];refine aB (aB ?_);have hw:=W.walk;unfold Nk at hw;have hw:=ao.mp hw i (af.mpr (by lia));have hw:SetTable.below t.place (Jf t i)=i:=by simpa using hw
   have e1:FW w t i=Jf t i:=by unfold FW;rw[hb];rfl
   have e2:FW w t (i+1)=Jf t (i+1):=by unfold FW;rw[hb];rfl
   have e3:Gq w S ep ev=ev:=by unfold Gq;rw[hb];rfl
   rw[e2,e3]at h;rw[e1,hw];by_cases hlt:i<ev.size
   ·have hp:i<t.place.size:=by rw[W.place];exact hlt
    rw[Array.getElem?_eq_getElem hlt]at h ⊢;rw[Array.getElem?_eq_getElem hp];have e4:Jf t (i+1)=t.place[i]+1:=by
     rw[Jf,Array.getD_eq_getD_getElem?,Array.getElem?_eq_getElem hp]
     rfl
    rw[e4]at h;exact h
   ·rw[Array.getElem?_eq_none (by lia)]at h ⊢;exact h
def bV{Q:Option VL→SD→Prop}{z:Int}{v:VL}(W:GB w o ev ep t)(ho:s.heap.get? S=some o)(hI:s.heap.get? I=some (LY w S t ep ev.size i))(hx:(Gq w S ep ev)[i]? = some (z,v))
 (h:∀h',h'.get? I=some (LY w S t ep ev.size (i+1))→Heap.SameBut I s.heap h'→Q (some v) {s with heap:=h'}):wpAny (model prog w) A (pyNext (.ref I)) Q E s:=by
 have hT:s.TypeIs (.ref I) "set_iterator" := ⟨_,hI,rfl⟩;have hlt:i<ev.size:=by
  have:=(Array.getElem?_eq_some_iff.mp hx).1;rw[Lb]at this;exact this
 unfold pyNext;refine Wb (wpAny_attempt (bD (name:=Str.ofString "__next__") hT FG (ak FG hT MC ?_ (NH _))));unfold Builtin.«set_iterator.__next__»;refine Wb (wpAny_of_eq (a:=(Value.ref I,[])) rfl ?_);refine Wb (wpAny_fieldsOf hI rfl ?_);show wpAny _ _ (setEntries S>>=_) _ _ s;refine Wb (wpAny_setEntries_of ho W.dat W.fit ?_);have hne:¬((ev.size:Int) != (ev.size:Int))=true:=by simp
 dsimp only;rw[if_neg hne];refine Wb ?_;show wpAny _ _ (setNext S (FW w t i) i ep) _ _ _;refine VD W ho (by lia) ?_;rw[hx];show wpAny _ _ (setField (.ref I) 0 (rawInt ((FW w t (i+1):Nat):Int))>>=_) _ _ _;refine Wb (wpAny_setField hI rfl (by simp) ?_);have g1:(s.heap.update I (Obj.mapFields (·.setIfInBounds 0 (rawInt ((FW w t (i+1):Nat):Int))))).get? I=some { cls:=.type "set_iterator",data:=.fields #[rawInt ((FW w t (i+1):Nat):Int),rawInt (i:Int),.ref S,rawInt (ev.size:Int),rawInt (ep:Int)]} :=
  Heap.get?_update_self _ hI rfl
 refine Wb (wpAny_setField g1 rfl (by simp) ?_);refine aB ⟨_,rfl,wpAny_pure (h _ ?_ ((bH ..).trans (bH ..)))⟩;exact Heap.get?_update_self _ g1 rfl
def ZX{Q:Option VL→SD→Prop}(hh:A.handled=none)(W:GB w o ev ep t)(ho:s.heap.get? S=some o)(hI:s.heap.get? I=some (LY w S t ep ev.size ev.size))
 (h:∀h',Heap.ExtBut I s.heap h'→Q none {s with heap:=h'}):wpAny (model prog w) A (pyNext (.ref I)) Q E s:=by
 have hT:s.TypeIs (.ref I) "set_iterator" := ⟨_,hI,rfl⟩;unfold pyNext;refine Wb (wpAny_attempt (bD (name:=Str.ofString "__next__") hT FG (ak FG hT MC ?_ (NH _))));unfold Builtin.«set_iterator.__next__»;refine Wb (wpAny_of_eq (a:=(Value.ref I,[])) rfl ?_);refine Wb (wpAny_fieldsOf hI rfl ?_);show wpAny _ _ (setEntries S>>=_) _ _ s;refine Wb (wpAny_setEntries_of ho W.dat W.fit ?_);have hne:¬((ev.size:Int) != (ev.size:Int))=true:=by simp
 dsimp only;rw[if_neg hne];refine Wb ?_;show wpAny _ _ (setNext S (FW w t ev.size) ev.size ep) _ _ _;refine VD W ho (aG _) ?_;rw[Array.getElem?_eq_none (by rw[Lb];exact aG _)];show wpAny _ _ (setField (.ref I) 2 Value.none>>=_) _ _ _;refine Wb (wpAny_setField hI rfl (by simp) ?_);refine Wb ?_;simp only[newExc,newTuple];refine Wb (ae ?_ (by size_fits));refine Wb (m:=firstArgMember _ _) (wpAny_of_eq (a:=Value.none) (by first|rfl|(simp only[firstArgMember];rfl)) (ae ?_ (by size_fits)));simp only[raiseNew];refine Wb (wpAny_handled ?_);have hh1:A.in1.handled=none:=hh;rw[hh1];refine Wb (aB (wpAny_throw ?_));refine Wb (wpAny_isInstance (b:=true) (T := "StopIteration") ⟨_,Heap.get?_push_size _ rfl,rfl⟩ isSubtype_stop ?_);exact aB (h _ (((bH ..).extBut.push _).push _))
def Ze{Q:VL→SD→Prop}(hI:s.heap.get? I=some (LY w S t ep ev.size i))(h:Q (.ref I) s):wpAny (model prog w) A (pyIter (.ref I)) Q E s:=by
 have hT:s.TypeIs (.ref I) "set_iterator" := ⟨_,hI,rfl⟩;refine wpAny_pyIter_slot hT NP (ak NP hT SA ?_ (S0 _));show wpAny _ _ (ret (.ref I)) _ _ s;exact aB ⟨_,rfl, "set_iterator",_,hT,FG.lookup,h⟩
def Yj(hh:A.handled=none)(hne:S≠I)(W:GB w o ev ep t) :
  Walks prog w A I [I,S] [I] ev.size (fun i v=>∃z,(Gq w S ep ev)[i]? = some (z,v)) (fun i h=>h.get? I=some (LY w S t ep ev.size i)∧h.get? S=some o) where
 sub:=fun b hb=>by simp at hb;simp[hb]
 frame:=fun _ _ _ x k=>⟨k I (by simp) _ x.1,k S (by simp) _ x.2⟩
 item:=fun i s Q E hi x hQ=>by
  have hi':i<(Gq w S ep ev).size:=by rw[Lb];exact hi
  obtain⟨z,v,hx⟩:∃z v,(Gq w S ep ev)[i]? = some (z,v):=⟨(Gq w S ep ev)[i].1,(Gq w S ep ev)[i].2,by rw[Array.getElem?_eq_getElem hi']⟩;refine bV W x.2 x.1 hx fun h' g sb=>hQ v h' s.toks ⟨z,hx⟩ ⟨g,(sb.2 S hne).trans x.2⟩ fun b u hb e=>?_;rw[sb.2 b fun q=>hb (by simp[q])];exact e
 done:=fun s Q E x hQ=>ZX hh W x.2 x.1 fun h' eb=>hQ h' s.toks fun b u hb e=>eb b u (fun q=>hb (by simp[q])) e
 self:=fun _ _ _ _ x hQ=>Ze x.1 hQ
def Zq{Q:Bool→SD→Prop}(hT:s.TypeIs (.ref S) "set")(h:Q false s):wpAny (model prog w) A (Builtin.List.listLengthHint (.ref S)) Q E s:=by
 unfold Builtin.List.listLengthHint;refine Wb (wpAny_specialOf hT PySem.F.slot_set_len.lookup ?_);generalize hid:("set.__len__" : String)=id0
 wp_delta
 rw[show splitId id0=some ("set", "__len__") from by subst hid;decide +kernel];subst hid;refine Wb (wpAny_isInstance (b:=true) (T := "set") hT (by rw[isSubtype_type];kernel_rfl) ?_);refine wpAny_ite_split (fun z=>absurd z (by decide)) fun _=>?_;refine wpAny_ite_split (fun _=>?_) fun z=>absurd (by decide +kernel) z;exact Wb (wpAny_typeOf hT (aB h))
def Zg{Q:VL→SD→Prop}(W:GB w o ev ep t)(ho:s.heap.get? S=some o)(h:Q (.ref s.heap.objs.size) {s with heap:=s.heap.push (LY w S t ep ev.size 0)}) :
  wpAny (model prog w) A (pyIter (.ref S)) Q E s:=by
 have hT:s.TypeIs (.ref S) "set" := ⟨o,ho,W.ex.1⟩;refine wpAny_pyIter_slot hT PySem.F.slot_set_iter (ak PySem.F.slot_set_iter hT RP ?_ (PySem.F.args_set_iter_1 _));unfold Builtin.«frozenset.__iter__»;refine Wb (wpAny_of_eq (a:=S) rfl ?_);unfold Builtin.Frozenset.sizeOf;refine Wb (Wb (wpAny_setEntries_of ho W.dat W.fit (aB ?_)));unfold setDrawn;refine Wb (Wb (au ho W.dat W.fit (Wb (SF (aB ?_)))));have hd:(!w.params.followText "set-order" && (!t.plain&&decide (ev.size > 1)))=false:=by rw[W.YL];simp
 refine wpAny_ite_split (fun z=>?_) fun _=>?_
 ·have:(!w.params.followText "set-order" && (!t.plain&&decide (ev.size > 1)))=true:=z;rw[hd]at this;cases this
 refine Wb (aB ?_);unfold setEpoch;refine Wb (Wb (au ho W.dat W.fit (aB ?_)));have e0:FW w t 0=0:=by unfold FW Jf;split<;>rfl
 refine Wb (ae (aB ⟨_,rfl, "set_iterator",_,⟨_,Heap.get?_push_size _ rfl,rfl⟩,FG.lookup,?_⟩));unfold LY at h;rw[e0]at h;exact h
def eB(W:GB w o ev ep t):PySem.W.KdlSrc prog w "set" S S ev.size (fun i v=>∃z,(Gq w S ep ev)[i]? = some (z,v)) (fun h=>h.get? S=some o) where
 type:=fun _ ho=>⟨o,ho,W.ex.1⟩
 there:=fun _ ho=>⟨aE ho,Heap.lt_size ho⟩
 keep:=fun _ _ ho k=>k S (.inl rfl) _ ho
 notList:=by decide
 notTuple:=by decide
 hint:=fun _ _ s _ ho h=>Zq ⟨o,ho,W.ex.1⟩ h
 iter:=fun A s hh ho=>⟨LY w S t ep ev.size 0,_,(fun E Q h=>Zg W ho h),Yj hh (aO (aE ho)) W,⟨aP _ rfl,Heap.get?_push_of_some _ ho⟩⟩
end
end TH
namespace TH
open PySem PyProof.Rows PySem.SeqAt
def Paired.perm{α β:Type}{F:α→β→Prop}{l l':List α}(p:l'.Perm l):∀ {m:List β},Paired F l m→∃m',m'.Perm m∧Paired F l' m':=by
 induction p with
 |nil=>intro m r;exact⟨m,.refl _,r⟩
 |cons x _ ih =>
  intro m r;cases r with
  |cons h r' =>
   obtain⟨m',p',q⟩:=ih r';exact⟨_::m',p'.cons _,.cons h q⟩
 |swap x y l =>
  intro m r;cases r with
  |cons h r' =>
   cases r' with
   |cons h' r''=>exact⟨_::_::_,List.Perm.swap ..,.cons h' (.cons h r'')⟩
 |trans _ _ ih1 ih2 =>
  intro m r;obtain⟨m1,p1,q1⟩:=ih2 r;obtain⟨m2,p2,q2⟩:=ih1 q1;exact⟨m2,p2.trans p1,q2⟩
variable{G:VL→Tr→Prop}
def Wd{h:Heap}:∀ {l:List (Int×VL)} {m:List (Int×Tr)},Paired (Py G h) l m→Vs h (Tr.of (m.map (·.2))) (l.map (·.2))
 |_,_,.nil=>by rw[List.map_nil,List.map_nil,Tr.of,Vs]
 |_,_,.cons (a:=(z,v)) ⟨_,_,_,a,its,e,h1,h2⟩ r=>by
  have e:v=.ref a:=e;subst e;rw[List.map_cons,List.map_cons,Tr.of,Vs];exact⟨a,its,_,rfl,h1,h2,Wd r⟩
def Sx{h:Heap}:∀ {l:List (Int×VL)} {m:List (Int×Tr)},Paired (Py G h) l m→∀c∈m.map (·.2),c.deep<8
 |_,_,.nil,c,hc=>by cases hc
 |_,_,.cons ⟨_,hd,_⟩ r,c,hc=>by
  rw[List.map_cons]at hc;rcases aJ.mp hc with rfl|hc
  ·exact hd
  ·exact Sx r c hc
def YG{h:Heap}:∀ {l:List (Int×VL)} {m:List (Int×Tr)},Paired (Py G h) l m→Paired G (l.map (·.2)) (m.map (·.2))
 |_,_,.nil=>.nil
 |_,_,.cons ⟨_,_,hg,_⟩ r=>.cons hg (YG r)
def Paired.dD{α β:Type}{F:α→β→Prop}{l:List α}{m:List β}(r:Paired F l m)(d:α)(e:β):∀(ix:List Nat),(∀i∈ix,i<l.length)→Paired F (ix.map fun i=>l.getD i d) (ix.map fun i=>m.getD i e)
 |[],_=>.nil
 |i::ix,h=>by
  have hl:=r.length;have hi:=h i aT;have hm:m[i]? = some m[i]:=aM (by lia);obtain⟨x,e1,e2⟩:=Paired.get r hm;rw[List.map_cons,List.map_cons];refine .cons ?_ (Paired.dD r d e ix fun j hj=>h j (aR _ hj));rw[List.getD_eq_getElem?_getD,List.getD_eq_getElem?_getD,e1,hm];exact e2
def Zs{l m:List Tr}(p:l.Perm m):Tr.Dd l=Tr.Dd m:=Tr.Lz (Tr.K1 l) (Tr.K1 m) ((Tr.Kq l).trans (p.trans (Tr.Kq m).symm))
section
variable{prog:Program}{w:World}{A:Around}{E:VL→SD→Prop}{s:SD}
def gather{T:String}{r d:AD}{n:Nat}{P:Nat→VL→Prop}{OK:Heap→Prop}{R:List VL→SD→Prop}(K:PySem.W.KdlSrc prog w T r d n P OK)(hA:A.handled=none)(Bj:OK s.heap)(hn:n≤sizeLine)
 (k:∀(h1:Heap) (tk:Nat) (acc:Array VL),s.heap.objs.size<h1.objs.size→(∀b u,s.heap.get? b=some u→h1.get? b=some u)→ItemsOf P acc n→R acc.toList {s with heap:=h1,toks:=tk}) :
  wpAny (model prog w) A (collect (.ref r)) R E s:=by
 obtain⟨lr,ld⟩:=K.there _ Bj;unfold collect;refine Wb (wpAny_runValue (codeAny_builtin entry_proto_collect' ?_));rw[Around.under_plainId PySem.F.plain_proto_collect _];show wpAny _ A.in1 (newList []>>=fun v=>again (.builtin "list.__iadd__" ⟨[v,.ref r],[]⟩)) _ _ s;refine Wb (ae (aB ⟨plainId_quiet PySem.F.plain_list_iadd _,codeAny_builtin entry_list_iadd' ?_⟩));rw[Around.under_plainId PySem.F.plain_list_iadd _];have g0:(s.heap.push { cls:=.type "list",data:=.seq ([]:List VL).toArray}).get? s.heap.objs.size=some { cls:=.type "list",data:=.seq #[]}:=aP _ rfl;have main:=PySem.W.kdl_extend (A:=A) (s:={s with heap:=s.heap.push { cls:=.type "list",data:=.seq ([]:List VL).toArray} }) K hA
  (K.keep _ _ Bj fun _ _ _ e=>aD _ e) s.heap.objs.size (Nat.ne_of_gt lr) (Nat.ne_of_gt ld) (.ref s.heap.objs.size) 0 g0
  (R:=fun q s1=>∃h1 tk acc c,q=.ok (.ret (.ref s.heap.objs.size))∧s1={s with heap:=h1,toks:=tk}∧(∀b u,s.heap.get? b=some u→h1.get? b=some u)∧h1.get? s.heap.objs.size=some { cls:=.type "list",dict:=none,data:=.seq acc c,slots:=#[]}∧ItemsOf P acc n)
  (fun h1 tk acc c k1 g1 ha=>⟨h1,tk,acc,c,rfl,rfl,fun b u e=>k1 b u (aO (aE e)) (aD _ e),g1,ha⟩) hn
 refine ah main (fun fin s1 x=>?_) fun e s1 x=>?_
 ·cases fin with
  |done f =>
   obtain⟨h1,tk,acc,c,e,rfl,k1,g1,ha⟩:=x;cases e;show wpAny _ A (load s.heap.objs.size>>=_) _ _ _;exact Wb (wpAny_load g1 (aB (k h1 tk acc (aE g1) k1 ha)))
  |again c1 =>
   refine⟨x.1,codeAny_mono x.2 fun q s2 y=>?_⟩;obtain⟨h1,tk,acc,c,rfl,rfl,k1,g1,ha⟩:=y;show wpAny _ A (load s.heap.objs.size>>=_) _ _ _;exact Wb (wpAny_load g1 (aB (k h1 tk acc (aE g1) k1 ha)))
 ·obtain⟨_,_,_,_,z,_⟩:=x;cases z
end
section
variable{prog:Program}{w:World}{A:Around}{E:VL→SD→Prop}{s:SD}{S:AD}{o:Obj}{ev:Array (Int×VL)}{et:ES}{ep:Nat}{t:SetTable}
def XI{Q:VL→SD→Prop}(hA:A.handled=none)(W:GB w o ev ep t)(ho:s.heap.get? S=some o)(R:Eh G s.heap ev et)(h64:et.size<64)(hu:A.units+20<cLine)
 (h:∀(h':Heap) (D tk e1:Nat) (us:List VL),s.heap.objs.size≤D→(∀b u,s.heap.get? b=some u→h'.get? b=some u)→h'.get? D=some (seqObj "list" us.toArray e1)→Paired G us (Tr.Dd (et.toList.map (·.2))).reverse→us.length<64 →
   Q (.ref D) {s with heap:=h',toks:=tk}):wpAny (model prog w) A (call (.builtin "sorted") [.ref S]) Q E s:=by
 have hsz:=R.size;refine Calls.call_function_entry kind_sorted plain_sorted entry_sorted (args_sorted1 _) ?_;unfold Builtin.«sorted»;refine Wb (m:=checkCount "sorted" 1 1 _) (aB ?_);refine Wb (gather (A:=A.in1) (eB W) hA ho (Ig (by lia)) fun h1 tk acc z1 k1 hacc=>?_);have hal:acc.toList=(Gq w S ep ev).toList.map (·.2):=by
  apply List.ext_getElem?;intro j;rw[List.getElem?_map];by_cases hj:j<acc.size
  ·have e1:acc[j]? = some acc[j]:=Array.getElem?_eq_getElem hj;obtain⟨z,e2⟩:=hacc.2 j _ e1;rw[Array.getElem?_toList,e1,Array.getElem?_toList,e2]
   rfl
  ·have hj2:¬j<(Gq w S ep ev).size:=by rw[Lb,←hacc.1];exact hj
   rw[List.getElem?_eq_none (by simpa using hj),List.getElem?_eq_none (by simpa using hj2)]
   rfl
 obtain⟨m,pm,rm⟩:=Paired.perm (Si w S ep ev) R;have hvs:=Wd rm;rw[←hal]at hvs;have hd:(Tr.of (m.map (·.2))).deep≤8:=(Tr.Om 8 _).mpr fun c hc=>by have:=Sx rm c hc;lia
 have hlen:acc.toList.length<64:=by rw[Array.length_toList,hacc.1,hsz];exact h64
 refine Wb (wpAny_newList ?_ (Ig (by lia)));have g1:(h1.push (seqObj "list" acc.toList.toArray 0)).get? h1.objs.size=some (seqObj "list" acc.toList.toArray 0):=aP _ rfl;have k2:∀b u,s.heap.get? b=some u→(h1.push (seqObj "list" acc.toList.toArray 0)).get? b=some u:=fun b u e=>aD _ (k1 b u e);refine Wb (av (ak slot_list_sort ⟨_,g1,rfl⟩ entry_list_sort (NT (s:={s with heap:=h1.push (seqObj "list" acc.toList.toArray 0),toks:=tk}) g1 (hvs.keeps fun b u e _=>k2 b u e) hlen
  (by rw[show A.in1.in1.units=A.units+2 from rfl];lia) fun ix a1 a2 a3=>⟨_,rfl,?_⟩) (args_list_sort _)))
 obtain⟨e1,he1⟩:=sortedHeap_at (vs:=acc.toList) (out:=(ix.map fun i=>acc.toList.getD i Value.none).toArray) g1;refine aB ⟨_,rfl,h _ h1.objs.size tk e1 (ix.map fun i=>acc.toList.getD i Value.none) ?_ (fun b u e=>?_) he1 ?_ (by rw[List.length_map,a1];exact hlen)⟩
 ·exact Nat.le_of_lt z1
 ·have lb:b<h1.objs.size:=aE (k1 b u e);rw[sortedHeap_old (aO lb) (by rw[Heap.size_push];exact bG lb)];exact k2 b u e
 ·have hg:=YG rm;rw[←hal]at hg;have:=Paired.dD hg Value.none Tr.nil ix a2;rw[Tr.Wu]at a3;rw[a3,Zs (pm.map (·.2))]at this;exact this
end
end TH
namespace TH
open PySem PyProof.Rows
def ji:Option Tr→Int
 |none=>4238894112
 |some t=>CC t
abbrev KE:=Option Tr×VL×VL
def kq(x:KE):DictEntry:=⟨ji x.1,x.2.1,x.2.2⟩
end TH
namespace L2
open PySem PySem.Spec PyProof.Rows
abbrev KR:=Option Tr×V×V
def lq(q:KR)(x:TH.KE):Prop:=x.1=q.1∧RelV q.2.1 x.2.1∧RelV q.2.2 x.2.2
def dN(d:AD)(r:List KR):HO:=.ext fun h=>(d==sysModules)=false∧∃o es ep xs,h.get? d=some o∧o.ExactDict∧o.data=.dict es ep∧es.toList=xs.map TH.kq∧PySem.Paired lq r xs
def W3(H:Hp):Option Tr→V→Prop
 |none,v=>v=.CT
 |some t,v=>t.deep<8∧Tv H t v
def W3.same{H H':Hp}{k:Option Tr}{v:V}(h:W3 H k v)(e:Ak H H'):W3 H' k v:=by
 cases k with
 |none=>exact h
 |some t=>exact⟨h.1,h.2.same e⟩
section
variable{X:Cx}
def X8(hc:X.calm=true):E6 X (.builtin "sum") (fun xs H Q=>∃(p:AD) (ns:List Int),xs=[.ref p]∧CK X.K H p (ns.map V.int)∧Q (.int ns.sum) H):=by
 intro pins s σ H xs us Q I r h;obtain⟨p,ns,rfl,hq,q⟩:=h;obtain⟨u,rfl,r1⟩:=r.one;cases r1;obtain⟨its,rv,pl,hz⟩:=I.tuple hq;have hi:=intsAre_of rv;obtain⟨xs,hx⟩:=hi.allInts.items;have hl':s.heap.IsTuple p (intItems xs):=hx ▸ pl
 have hlt:p<s.heap.objs.size:=by obtain⟨_,e,_⟩:=hl';exact aE e
 have e1:ns=xs.toList.map (·.1):=by
  rw[←nums_intItems,←hx];exact(show numsOf its.toArray.toList=ns from hi.numsOf).symm
 have e2:preSum (numAt xs) xs.size=ns.sum:=by
  rw[preSum_eq,List.take_of_length_le (by simp),e1]
 refine call_sum_walkG (wpAny_pyIter_tuple hl' ?_);refine⟨_,[_,p],[_],_,_,_,numAt xs,rfl,Walks.tuple (A:=X.A.in1) (I.ok.hd hc) _ p (aO hlt) (intItems xs),
  ⟨⟨_,Heap.get?_push_size _ rfl,rfl,rfl⟩,hl'.push _⟩,fun c hcc=>?_,(fun _ _=>intItems_at),fun h' tk t' hk=>?_⟩
 ·show c<(s.heap.push _).objs.size;rw[Heap.size_push];rcases aJ.mp hcc with rfl|hcc
  ·exact bN _
  ·rw[List.mem_singleton.mp hcc];exact bG hlt
 ·have e3:preSum (numAt xs) (intItems xs).size=ns.sum:=by
   rw[←e2];simp[intItems]
  rw[e3];exact⟨.int _,H,I.kept (t':=tk) (PyProof.Rows.LSm.kept_iter hk),⟨t',rfl⟩,q⟩
end
end L2
set_option maxHeartbeats 1000000
namespace L2
open PySem PySem.Spec PyProof.Rows
def Rd.same{H H':Hp}{a:AD}{u:HO}(e:Ak H H')(h:Rd H a u):Rd H' a u:=by
 rcases h with h|⟨o,h⟩
 ·exact .inl (e _ _ h)
 ·exact .inr ⟨o,e _ _ h⟩
def BK:Tr→List PD
 |.nil=>[]
 |.cons b r=>.tuple (BK b)::BK r
def ij:Option Tr→PD
 |none=>.none
 |some t=>.tuple (BK t)
mutual
def Du(H:Hp):PD→V→Prop
 |.none,v=>v=.CT
 |.bool b,v=>v=.bl b
 |.int i,v=>v=.int i
 |.str x,v=>v=.str x
 |.tuple ds,v=>∃a xs,v=.ref a∧H a=some (.tup xs)∧BQ H ds xs
 |.list ds,v=>∃a xs,v=.ref a∧H a=some (.lst xs)∧BQ H ds xs
 |.dict kv,v=>(∃ea C:AD,kv=[(.int (C:Nat),.none)]∧v=.ref ea∧H ea=some (lP ea (.ref C)))∨(∃(a:AD) (ns:List Int),kv=[(.none,.list (ns.map .int))]∧v=.ref a∧Rd H a (.lst (ns.map V.int)))∨ND H kv v
def BQ(H:Hp):List PD→List V→Prop
 |[],xs=>xs=[]
 |d::ds,xs=>∃x r,xs=x::r∧Du H d x∧BQ H ds r
def ND(H:Hp):List (PD×PD)→V→Prop
 |[],_=>False
 |(k0,d0)::t,v=>k0=.bool true∧d0=.none∧∃a r,v=.ref a∧H a=some (dN a r)∧(r.map (·.1)).Nodup∧NF H t r
def NF(H:Hp):List (PD×PD)→List KR→Prop
 |[],r=>r=[]
 |(k,d)::t,r=>∃q r',r=q::r'∧k=ij q.1∧W3 H q.1 q.2.1∧Du H d q.2.2∧NF H t r'
end
mutual
def Du.same{H H':Hp}(e:Ak H H'):∀ {d:PD} {v:V},Du H d v→Du H' d v
 |.none,_,h=>by rw[Du]at h ⊢;exact h
 |.bool _,_,h=>by rw[Du]at h ⊢;exact h
 |.int _,_,h=>by rw[Du]at h ⊢;exact h
 |.str _,_,h=>by rw[Du]at h ⊢;exact h
 |.tuple _,_,h=>by
  rw[Du]at h ⊢;obtain⟨a,xs,e1,h1,h2⟩:=h;exact⟨a,xs,e1,e _ _ h1,BQ.same e h2⟩
 |.list _,_,h=>by
  rw[Du]at h ⊢;obtain⟨a,xs,e1,h1,h2⟩:=h;exact⟨a,xs,e1,e _ _ h1,BQ.same e h2⟩
 |.dict _,_,h=>by
  rw[Du]at h ⊢;rcases h with ⟨ea,C,e1,e2,h1⟩|⟨a,ns,e1,e2,h1⟩|h
  ·exact .inl ⟨ea,C,e1,e2,e _ _ h1⟩
  ·exact .inr (.inl ⟨a,ns,e1,e2,h1.same e⟩)
  ·exact .inr (.inr (ND.same e h))
def BQ.same{H H':Hp}(e:Ak H H'):∀ {ds:List PD} {xs:List V},BQ H ds xs→BQ H' ds xs
 |[],_,h=>by rw[BQ]at h ⊢;exact h
 |_::_,_,h=>by
  rw[BQ]at h ⊢;obtain⟨x,r,e1,h1,h2⟩:=h;exact⟨x,r,e1,Du.same e h1,BQ.same e h2⟩
def ND.same{H H':Hp}(e:Ak H H'):∀ {kv:List (PD×PD)} {v:V},ND H kv v→ND H' kv v
 |[],_,h=>by rw[ND]at h;exact h.elim
 |(_,_)::_,_,h=>by
  rw[ND]at h ⊢;obtain⟨h1,h2,a,r,h3,h4,h5,h6⟩:=h;exact⟨h1,h2,a,r,h3,e _ _ h4,h5,NF.same e h6⟩
def NF.same{H H':Hp}(e:Ak H H'):∀ {kv:List (PD×PD)} {r:List KR},NF H kv r→NF H' kv r
 |[],_,h=>by rw[NF]at h ⊢;exact h
 |(_,_)::_,_,h=>by
  rw[NF]at h ⊢;obtain⟨q,r',h1,h2,h3,h4,h5⟩:=h;exact⟨q,r',h1,h2,h3.same e,Du.same e h4,NF.same e h5⟩
end
mutual
def Du.br{K:Fg}{H:Hp}:∀ {d:PD} {v:V},d.canLay0=true→Du H d v→Br K H d v
 |.none,_,_,h=>by rw[Du]at h;rw[Br];exact h
 |.bool _,_,_,h=>by rw[Du]at h;rw[Br];exact h
 |.int _,_,_,h=>by rw[Du]at h;rw[Br];exact h
 |.str _,_,_,h=>by rw[Du]at h;rw[Br];exact h
 |.tuple _,_,c,h=>by
  rw[Du]at h;rw[Br];obtain⟨a,xs,e1,h1,h2⟩:=h;exact⟨a,xs,e1,CK.of h1,BQ.br (by simp only[PyData.canLay0,Bool.and_eq_true]at c;first|exact c|exact c.2|exact c.1) h2⟩
 |.list _,_,c,h=>by
  rw[Du]at h;rw[Br];obtain⟨a,xs,e1,h1,h2⟩:=h;exact⟨a,xs,e1,Bo.of h1,BQ.br (by simp only[PyData.canLay0,Bool.and_eq_true]at c;first|exact c|exact c.2|exact c.1) h2⟩
 |.dict _,_,c,h=>by simp[PyData.canLay0]at c
def BQ.br{K:Fg}{H:Hp}:∀ {ds:List PD} {xs:List V},PyData.canLayAll0 ds=true→BQ H ds xs→HL K H ds xs
 |[],_,_,h=>by rw[BQ]at h;rw[HL];exact h
 |_::_,_,c,h=>by
  rw[BQ]at h;rw[HL];obtain⟨x,r,e1,h1,h2⟩:=h;simp only[PyData.canLayAll0,Bool.and_eq_true]at c;exact⟨x,r,e1,Du.br c.1 h1,BQ.br c.2 h2⟩
end
def BQ.nil{H:Hp}:BQ H [] []:=by rw[BQ]
def BQ.cons{H:Hp}{d:PD}{ds:List PD}{x:V}{xs:List V}(h:Du H d x)(k:BQ H ds xs):BQ H (d::ds) (x::xs):=by rw[BQ];exact⟨x,xs,rfl,h,k⟩
def BQ.un{H:Hp}{d:PD}{ds:List PD}{xs:List V}(h:BQ H (d::ds) xs):∃x r,xs=x::r∧Du H d x∧BQ H ds r:=by rw[BQ]at h;exact h
def BQ.nil_eq{H:Hp}{xs:List V}(h:BQ H [] xs):xs=[]:=by rw[BQ]at h;exact h
def BQ.len{H:Hp}:∀ {ds:List PD} {xs:List V},BQ H ds xs→xs.length=ds.length
 |[],_,h=>by rw[h.nil_eq];rfl
 |_::_,_,h=>by obtain⟨x,r,rfl,_,h2⟩:=h.un;simp[h2.len]
def BQ.get{H:Hp}:∀ {ds:List PD} {xs:List V} {i:Nat} {d:PD},BQ H ds xs→ds[i]? = some d→∃v,xs[i]? = some v∧Du H d v
 |[],_,i,_,_,e=>by simp at e
 |_::_,_,0,_,h,e=>by
  obtain⟨x,r,rfl,h1,_⟩:=h.un;simp at e;subst e;exact⟨x,rfl,h1⟩
 |_::_,_,i+1,_,h,e=>by
  obtain⟨x,r,rfl,_,h2⟩:=h.un;obtain⟨v,k1,k2⟩:=h2.get (i:=i) (by simpa using e);exact⟨v,by simpa using k1,k2⟩
def BQ.back{H:Hp}{ds:List PD}{xs:List V}{i:Nat}{v:V}(h:BQ H ds xs)(e:xs[i]? = some v):∃d,ds[i]? = some d∧Du H d v:=by
 have hl:=h.len;have hi:i<ds.length:=by rw[←hl];exact(aF.mp e).1
 have hd:ds[i]? = some ds[i]:=by simp[hi]
 obtain⟨w,k1,k2⟩:=h.get hd;rw[e]at k1;cases k1;exact⟨_,hd,k2⟩
def BQ.app{H:Hp}:∀ {ds es:List PD} {xs ys:List V},BQ H ds xs→BQ H es ys→BQ H (ds++es) (xs++ys)
 |[],_,_,_,h,k=>by rw[h.nil_eq];exact k
 |_::_,_,_,_,h,k=>by obtain⟨x,r,rfl,h1,h2⟩:=h.un;exact .cons h1 (h2.app k)
def BQ.take{H:Hp}:∀ {ds:List PD} {xs:List V} (i:Nat),BQ H ds xs→BQ H (ds.take i) (xs.take i)
 |_,_,0,_=>by rw[List.take_zero,List.take_zero];exact .nil
 |[],_,i+1,h=>by rw[h.nil_eq];exact .nil
 |_::_,_,i+1,h=>by obtain⟨x,r,rfl,h1,h2⟩:=h.un;exact .cons h1 (h2.take i)
def BQ.drop{H:Hp}:∀ {ds:List PD} {xs:List V} (i:Nat),BQ H ds xs→BQ H (ds.drop i) (xs.drop i)
 |_,_,0,h=>h
 |[],_,i+1,h=>by rw[h.nil_eq];exact .nil
 |_::_,_,i+1,h=>by obtain⟨x,r,rfl,h1,h2⟩:=h.un;exact h2.drop i
inductive Oc where
 |lst (xs:List PyData)|i6 (kvs:List (List Key×PyData))|X5 (kvs:List (Option Tr×PyData))
inductive L where
 |no|d (x:PyData)|own (c:Oc)
abbrev Dv:=List L
def Rc(G:Hp):List (List Key×PD)→List (List Key×V)→Prop
 |[],r=>r=[]
 |q::t,r=>∃v r',r=(q.1,v)::r'∧Du G q.2 v∧Rc G t r'
def Rc.same{G G':Hp}(e:Ak G G'):∀ {t:List (List Key×PD)} {r:List (List Key×V)},Rc G t r→Rc G' t r
 |[],r,h=>h
 |q::t,r,h=>by
  obtain⟨v,r',rfl,h1,h2⟩:=h;exact⟨v,r',rfl,h1.same e,Rc.same e h2⟩
abbrev b9(kvs:List (Option Tr×PD)):List (PD×PD):=kvs.map fun q=>(ij q.1,q.2)
abbrev XM(kvs:List (Option Tr×PD)):PD:=.dict ((.bool true,.none)::b9 kvs)
def KA(G:Hp)(a:AD):Oc→HO→Prop
 |.lst xs,o=>∃ys,o=.lst ys∧BQ G xs ys
 |.i6 kvs,o=>∃r,o=.dT r∧Rc G kvs r
 |.X5 kvs,o=>∃r,o=dN a r∧(r.map (·.1)).Nodup∧NF G (b9 kvs) r
def KA.same{G G':Hp}{a:AD}{c:Oc}{o:HO}(h:KA G a c o)(e:Ak G G'):KA G' a c o:=by
 cases c with
 |X5 kvs=>obtain⟨r,h1,h2,h3⟩:=h;exact⟨r,h1,h2,NF.same e h3⟩
 |lst xs=>obtain⟨ys,h1,h2⟩:=h;exact⟨ys,h1,h2.same e⟩
 |i6 kvs=>obtain⟨ys,h1,h2⟩:=h;exact⟨ys,h1,h2.same e⟩
def KA.VT{G:Hp}{a:AD}{c:Oc}{xs:List V}(h:KA G a c (.tup xs)):False:=by
 cases c with
 |X5 kvs=>obtain⟨r,h1,h2,h3⟩:=h;unfold dN at h1;cases h1
 |lst xs=>obtain⟨ys,h1,h2⟩:=h;cases h1
 |i6 kvs=>obtain⟨ys,h1,h2⟩:=h;cases h1
def Nw(G0 H0 G:Hp):Prop:=∀a o,G a=some o→G0 a=some o∨H0 a=none∨∃xs,o=HO.tup xs
structure Rw(G0 H0 G H:Hp)(σ:St)(δ:Dv)(ts:List (PyData×V)):Prop where
 ext:Ak G0 G
 new:Nw G0 H0 G
 ins:Ak G H
 keep:Ak H0 H
 len:σ.length=δ.length
 dat:∀(i:Nat) (x:PyData),δ[i]? = some (L.d x)→∃v,σ[i]? = some (some v)∧Du G x v
 own:∀(i:Nat) (xs:Oc),δ[i]? = some (L.own xs)→∃(a:Addr) (ys:HO),σ[i]? = some (some (V.ref a))∧G a=none∧H0 a=none∧H a=some ys∧KA G a xs ys
 apart:∀(i j:Nat) (xs ys:Oc),i≠j→δ[i]? = some (L.own xs)→δ[j]? = some (L.own ys)→σ[i]?≠σ[j]?
 C6:∀p∈ts,Du G p.1 p.2
def DE(X:Cx)(e:Expr)(f:Dv→Option PD):Prop:=∃t,PE X e t∧∀δ x,f δ=some x→∀G0 H0 G H σ ts (Q:VK),Rw G0 H0 G H σ δ ts→(∀v G' H',Rw G0 H0 G' H' σ δ ((x,v)::ts)→Q v H')→t σ H Q
def DA(X:Cx)(es:List Expr)(f:Dv→Option (List PD)):Prop:=∃t,PA X es t∧∀δ xs,f δ=some xs→∀G0 H0 G H σ ts (Q:List V→Hp→Prop),Rw G0 H0 G H σ δ ts→(∀vs G' H',Rw G0 H0 G' H' σ δ (xs.zip vs++ts)→vs.length=xs.length→Q vs H')→t σ H Q
def DT(X:Cx)(e:Expr)(f:Dv→Option Bool):Prop:=∃t,PT X e t∧∀δ b,f δ=some b→∀G0 H0 G H σ ts (Q:Bool→Hp→Prop),Rw G0 H0 G H σ δ ts→(∀G' H',Rw G0 H0 G' H' σ δ ts→Q b H')→t σ H Q
section
variable{G0 H0 G H:Hp}{σ:St}{δ:Dv}{ts:List (PD×V)}
def Rw.drop{p:PD×V}(r:Rw G0 H0 G H σ δ (p::ts)):Rw G0 H0 G H σ δ ts:={r with C6:=fun q hq=>r.C6 q (.tail _ hq)}
def Rw.less{us:List (PD×V)}(r:Rw G0 H0 G H σ δ ts)(h:∀p∈us,p∈ts):Rw G0 H0 G H σ δ us:={r with C6:=fun q hq=>r.C6 q (h q hq)}
def Rw.put{x:PD}{v:V}(r:Rw G0 H0 G H σ δ ts)(h:Du G x v):Rw G0 H0 G H σ δ ((x,v)::ts):={r with C6:=fun q hq=>by rcases aJ.mp hq with rfl|hq;exact h;exact r.C6 q hq}
def Rw.newObj{p:AD}{o:HO}(r:Rw G0 H0 G H σ δ ts)(hp:H p=none):Rw G0 H0 (upd G p o) (upd H p o) σ δ ts:=by
 have hG:G p=none:=by
  cases q:G p with
  |none=>rfl
  |some u=>rw[r.ins _ _ q]at hp;cases hp
 have h0:H0 p=none:=by
  cases q:H0 p with
  |none=>rfl
  |some u=>rw[r.keep _ _ q]at hp;cases hp
 have e:Ak G (upd G p o):=Bv hG o;refine⟨r.ext.trans e,fun a u h=>?_,fun a u h=>?_,r.keep.trans (Bv hp o),r.len,fun i x h=>?_,fun i xs h=>?_,r.apart,fun q hq=>(r.C6 q hq).same e⟩
 ·by_cases ha:a=p
  ·subst ha;exact .inr (.inl h0)
  ·rw[AZ ha]at h;exact r.new _ _ h
 ·by_cases ha:a=p
  ·subst ha;rw[Au]at h ⊢;exact h
  ·rw[AZ ha]at h ⊢;exact r.ins _ _ h
 ·obtain⟨v,k1,k2⟩:=r.dat i x h;exact⟨v,k1,k2.same e⟩
 ·obtain⟨a,ys,k1,k2,k3,k4,k5⟩:=r.own i xs h;have ha:a≠p:=fun z=>by subst z;rw[k4]at hp;cases hp
  exact⟨a,ys,k1,by rw[AZ ha];exact k2,k3,by rw[AZ ha];exact k4,k5.same e⟩
def Rw.hU{p:AD}{xs:List V}{H':Hp}(r:Rw G0 H0 G H σ δ ts)(e:Ak H H')(hp:H' p=some (.tup xs)):Rw G0 H0 (upd G p (.tup xs)) H' σ δ ts:=by
 have e1:Ak G (upd G p (.tup xs)):=fun a o h=>by
  by_cases ha:a=p
  ·subst ha;have:=e _ _ (r.ins _ _ h);rw[hp]at this;rw[Au];exact this
  ·rw[AZ ha];exact h
 refine⟨r.ext.trans e1,fun a u h=>?_,fun a u h=>?_,r.keep.trans e,r.len,fun i x h=>?_,fun i xs h=>?_,r.apart,fun q hq=>(r.C6 q hq).same e1⟩
 ·by_cases ha:a=p
  ·subst ha;rw[Au]at h;cases h;exact .inr (.inr ⟨_,rfl⟩)
  ·rw[AZ ha]at h;exact r.new _ _ h
 ·by_cases ha:a=p
  ·subst ha;rw[Au]at h;rw[hp];exact h
  ·rw[AZ ha]at h;exact e _ _ (r.ins _ _ h)
 ·obtain⟨v,k1,k2⟩:=r.dat i x h;exact⟨v,k1,k2.same e1⟩
 ·obtain⟨a,ys,k1,k2,k3,k4,k5⟩:=r.own i xs h;have ha:a≠p:=fun z=>by subst z;rw[e _ _ k4]at hp;cases hp;exact k5.VT
  exact⟨a,ys,k1,by rw[AZ ha];exact k2,k3,e _ _ k4,k5.same e1⟩
def Rw.lift{G' H':Hp}(r:Rw G0 H0 G H σ δ ts)(h1:Ak G G')(h2:Nw G H G')(h3:Ak G' H')(h4:Ak H H'):Rw G0 H0 G' H' σ δ ts:=by
 refine⟨r.ext.trans h1,fun a o h=>?_,h3,r.keep.trans h4,r.len,fun i x h=>?_,fun i xs h=>?_,r.apart,fun q hq=>(r.C6 q hq).same h1⟩
 ·rcases h2 a o h with k|k|k
  ·exact r.new a o k
  ·right;left
   cases q:H0 a with
   |none=>rfl
   |some u=>rw[r.keep _ _ q]at k;cases k
  ·exact .inr (.inr k)
 ·obtain⟨v,k1,k2⟩:=r.dat i x h;exact⟨v,k1,k2.same h1⟩
 ·obtain⟨a,ys,k1,k2,k3,k4,k5⟩:=r.own i xs h;refine⟨a,ys,k1,?_,k3,h4 _ _ k4,k5.same h1⟩;cases q:G' a with
  |none=>rfl
  |some u =>
   rcases h2 a u q with z|z|⟨xs',z⟩
   ·rw[k2]at z;cases z
   ·rw[k4]at z;cases z
   ·have:=h3 _ _ q;rw[h4 _ _ k4,z]at this;cases this;exact k5.VT.elim
end
section
variable{X:Cx}{a b e:Expr}{f g h:Dv→Option PD}{pos:Pos}
def AH{i j pos}:DE X (.Constant (.int i) j pos) (fun _=>some (.int i)):=⟨_,Aq,fun δ x h G0 H0 G H σ ts Q r k=>by cases h;exact k _ _ _ (r.put (by rw[Du]))⟩
def Cr{i j pos}:DE X (.Constant (.bool i) j pos) (fun _=>some (.bool i)):=⟨_,Xq,fun δ x h G0 H0 G H σ ts Q r k=>by cases h;exact k _ _ _ (r.put (by rw[Du]))⟩
def Kw{j pos}:DE X (.Constant .none j pos) (fun _=>some .none):=⟨_,gJ,fun δ x h G0 H0 G H σ ts Q r k=>by cases h;exact k _ _ _ (r.put (by rw[Du]))⟩
def gE{i j pos}:DE X (.Constant (.str i) j pos) (fun _=>some (.str i)):=⟨_,gc,fun δ x h G0 H0 G H σ ts Q r k=>by cases h;exact k _ _ _ (r.put (by rw[Du]))⟩
def nm(i:Nat)(δ:Dv):Option PD:=match δ[i]? with|some (.d x)=>some x|_=>none
def jr{i:Nat}{δ:Dv}{x:PD}(h:nm i δ=some x):δ[i]? = some (.d x):=by
 unfold nm at h;split at h
 ·rename_i y e;cases h;exact e
 ·cases h
def AE{i:Nat}{x:Str}(h:PE X (.Name x pos) (Nr i)):DE X (.Name x pos) (nm i):=⟨_,h,fun δ y hy G0 H0 G H σ ts Q r k=>by
 obtain⟨v,h1,h2⟩:=r.dat _ _ (jr hy);exact⟨v,h1,k _ _ _ (r.put h2)⟩⟩
def AI(o:PD→PD→Option PD)(f g:Dv→Option PD)(δ:Dv):Option PD:=(f δ).bind fun x=>(g δ).bind fun y=>o x y
def Ep(X:Cx)(m:VL→VL→Sem VL)(o:PD→PD→Option PD):Prop:=∃r:R2,D0 X m r∧∀x y z,o x y=some z→∀G0 H0 G H σ δ ts u v (Q:VK),Rw G0 H0 G H σ δ ts→Du G x u→Du G y v→(∀w G' H',Rw G0 H0 G' H' σ δ ((z,w)::ts)→Q w H')→r u v H Q
def two{x y:PD}{f g:Dv→Option PD}{δ:Dv}{o:PD→PD→Option PD}{z:PD}(h:AI o f g δ=some z):∃x y,f δ=some x∧g δ=some y∧o x y=some z:=by
 unfold AI at h;obtain⟨x,h1,h2⟩:=aA.mp h;obtain⟨y,h3,h4⟩:=aA.mp h2;exact⟨x,y,h1,h3,h4⟩
def Aj{op:Operator}{o:PD→PD→Option PD}(ho:Ep X (binaryOp op) o)(ha:DE X a f)(hb:DE X b g):DE X (.BinOp a op b pos) (AI o f g):=by
 obtain⟨r,hr,kr⟩:=ho;obtain⟨ta,pa,ka⟩:=ha;obtain⟨tb,pb,kb⟩:=hb;refine⟨_,BL hr pa pb,fun δ z hz G0 H0 G H σ ts Q R0 k=>?_⟩;obtain⟨x,y,h1,h2,h3⟩:=two (x:=.none) (y:=.none) hz;refine ka δ x h1 G0 H0 G H σ ts _ R0 fun u G1 H1 R1=>?_;refine kb δ y h2 G0 H0 G1 H1 σ _ _ R1 fun v G2 H2 R2=>?_;exact kr x y z h3 G0 H0 G2 H2 σ δ ts u v Q (R2.drop.drop) (R2.C6 (x,u) (.tail _ (.head _))) (R2.C6 (y,v) (.head _)) k
def HC{op:CmpOp}{o:PD→PD→Option PD}(ho:Ep X (compareOp op) o)(ha:DE X a f)(hb:DE X b g)(hm:behindInMarks op b=false):DE X (.Compare a [op] [b] pos) (AI o f g):=by
 obtain⟨r,hr,kr⟩:=ho;obtain⟨ta,pa,ka⟩:=ha;obtain⟨tb,pb,kb⟩:=hb;refine⟨_,Rq hr pa pb hm,fun δ z hz G0 H0 G H σ ts Q R0 k=>?_⟩;obtain⟨x,y,h1,h2,h3⟩:=two (x:=.none) (y:=.none) hz;refine ka δ x h1 G0 H0 G H σ ts _ R0 fun u G1 H1 R1=>?_;refine kb δ y h2 G0 H0 G1 H1 σ _ _ R1 fun v G2 H2 R2=>?_;exact kr x y z h3 G0 H0 G2 H2 σ δ ts u v Q (R2.drop.drop) (R2.C6 (x,u) (.tail _ (.head _))) (R2.C6 (y,v) (.head _)) k
end
section
variable{X:Cx}
def Pg(o o':PD→PD→Option PD)(x y:PD):Option PD:=match o x y with|some z=>some z|none=>o' x y
def Ep.or{m:VL→VL→Sem VL}{o o':PD→PD→Option PD}(h:Ep X m o)(h':Ep X m o'):Ep X m (Pg o o'):=by
 obtain⟨r,hr,kr⟩:=h;obtain⟨r',hr',kr'⟩:=h';refine⟨_,D0.or hr hr',fun x y z hz G0 H0 G H σ δ ts u v Q R0 du dv k=>?_⟩;unfold Pg at hz;split at hz
 ·rename_i z' e;cases hz;exact .inl (kr x y z e G0 H0 G H σ δ ts u v Q R0 du dv k)
 ·exact .inr (kr' x y z hz G0 H0 G H σ δ ts u v Q R0 du dv k)
def OX{m:VL→VL→Sem VL}{C:Int→Int→Prop}{gv:Int→Int→V}{o:Int→Int→Option PD}(ho:D0 X m (rI C gv))(hC:∀i j z,o i j=some z→C i j∧∀H,Du H z (gv i j)) :
  Ep X m (fun x y=>match x,y with|.int i,.int j=>o i j|_,_=>none):=by
 refine⟨_,ho,fun x y z hz G0 H0 G H σ δ ts u v Q R0 du dv k=>?_⟩;dsimp only at hz;split at hz
 ·rename_i i j;rw[Du]at du dv;obtain⟨h1,h2⟩:=hC i j z hz;exact⟨i,j,du,dv,h1,k _ _ _ (R0.put (h2 _))⟩
 ·cases hz
def LM{m:VL→VL→Sem VL}{gv:Int→Int→V}{o:Int→Int→PD}(ho:D0 X m (SR gv))(hC:∀i j H,Du H (o i j) (gv i j)) :
  Ep X m (fun x y=>match x,y with|.int i,.int j=>some (o i j)|_,_=>none):=by
 refine⟨_,ho,fun x y z hz G0 H0 G H σ δ ts u v Q R0 du dv k=>?_⟩;dsimp only at hz;split at hz
 ·rename_i i j;cases hz;rw[Du]at du dv;exact⟨i,j,du,dv,k _ _ _ (R0.put (hC _ _ _))⟩
 ·cases hz
def Bi:Nat:=1000
def R9{n:Nat}(h:n≤Bi):n<sizeLine:=Sa h
def GO{n:Nat}(h:n≤Bi):n≤sizeLine:=Nat.le_of_lt (Sa h)
def fP:PD→PD→Option PD:=fun x y=>match x,y with|.int i,.int j=>some (.int (i+j))|_,_=>none
def RQ:PD→PD→Option PD:=fun x y=>match x,y with|.int i,.int j=>some (.int (i-j))|_,_=>none
def KC(n:Nat)(i:Int):Bool:=decide (i.natAbs<2^n)
def Mp(i j:Int):Bool:=KC 64 i||KC 64 j||(KC 9000 i&&KC 9000 j)
def Xd:PD→PD→Option PD:=fun x y=>match x,y with|.int i,.int j=>(if Mp i j=true then some (.int (i*j)) else none)|_,_=>none
def Gp:PD→PD→Option PD:=fun x y=>match x,y with|.int i,.int j=>(if j≠0∧KC 9000 j=true then some (.int (i.fdiv j)) else none)|_,_=>none
def C5:PD→PD→Option PD:=fun x y=>match x,y with|.int i,.int j=>(if j≠0 then some (.int (i.fmod j)) else none)|_,_=>none
def Nx:PD→PD→Option PD:=fun x y=>match x,y with|.int i,.int j=>(if 0≤j∧j≤1000∧KC 64 i=true then some (.int (i^j.toNat)) else none)|_,_=>none
def dJ:Ep X (binaryOp .Add) fP:=LM Fs fun _ _ _=>by rw[Du]
def OZ:Ep X (binaryOp .Sub) RQ:=LM Q7 fun _ _ _=>by rw[Du]
def cK{i:Int}(h:KC 64 i=true):-(2^64)<i∧i<2^64:=by
 have:=ab h
 lia
def eP:Ep X (binaryOp .Mult) Xd:=OX (o:=fun i j=>if Mp i j=true then some (.int (i*j)) else none) Fm fun i j z h=>by
 split at h
 ·rename_i q;cases h;refine⟨?_,fun _=>by rw[Du]⟩;unfold Mp at q;rw[Bool.or_eq_true,Bool.or_eq_true,Bool.and_eq_true]at q;rcases q with (q|q)|q
  ·exact .inl (.inl (cK q))
  ·exact .inl (.inr (cK q))
  ·exact .inr ⟨9000,by decide,of_decide_eq_true q.1,of_decide_eq_true q.2⟩
 ·cases h
def Kn:Ep X (binaryOp .FloorDiv) Gp:=OX (o:=fun i j=>if j≠0∧KC 9000 j=true then some (.int (i.fdiv j)) else none) Gw fun i j z h=>by
 split at h
 ·rename_i q;cases h;exact⟨⟨q.1,9000,Nat.le_refl _,of_decide_eq_true q.2⟩,fun _=>by rw[Du]⟩
 ·cases h
def DM:Ep X (binaryOp .Mod) C5:=OX (o:=fun i j=>if j≠0 then some (.int (i.fmod j)) else none) JK fun i j z h=>by
 split at h
 ·rename_i q;cases h;exact⟨q,fun _=>by rw[Du]⟩
 ·cases h
def Rh:Ep X (binaryOp .Pow) Nx:=OX (o:=fun i j=>if 0≤j∧j≤1000∧KC 64 i=true then some (.int (i^j.toNat)) else none) Q0 fun i j z h=>by
 split at h
 ·rename_i q;cases h;exact⟨⟨q.1,by lia,of_decide_eq_true q.2.2⟩,fun _=>by rw[Du]⟩
 ·cases h
def CH(p:Int→Int→Bool):PD→PD→Option PD:=fun x y=>match x,y with|.int i,.int j=>some (.bool (p i j))|_,_=>none
def JU:Ep X (compareOp .Lt) (CH fun i j=>decide (i<j)):=LM (o:=fun i j=>.bool (decide (i<j))) TN fun _ _ _=>by rw[Du]
def Kf:Ep X (compareOp .Gt) (CH fun i j=>decide (j<i)):=LM (o:=fun i j=>.bool (decide (j<i))) cM fun _ _ _=>by rw[Du]
def cg:Ep X (compareOp .GtE) (CH fun i j=>decide (j≤i)):=LM (o:=fun i j=>.bool (decide (j≤i))) Xc fun _ _ _=>by rw[Du]
def Lp:PD→PD→Option PD:=fun x y=>match x,y with|.list a,.list b=>(if a.length+b.length≤Bi then some (.list (a++b)) else none)|_,_=>none
def dh:Ep X (binaryOp .Add) Lp:=by
 refine⟨_,YX,fun x y z hz G0 H0 G H σ δ ts u v Q R0 du dv k=>?_⟩;unfold Lp at hz;split at hz
 ·rename_i a b;split at hz
  ·rename_i hl;cases hz;rw[Du]at du dv;obtain⟨p,xs,rfl,h1,h2⟩:=du;obtain⟨q,ys,rfl,h3,h4⟩:=dv;refine⟨p,q,xs,ys,rfl,rfl,R0.ins _ _ h1,R0.ins _ _ h3,GO (by rw[h2.len,h4.len];exact hl),fun l hl'=>?_⟩;have R1:=R0.newObj (o:=.lst (xs++ys)) hl';refine k _ _ _ (R1.put ?_);rw[Du];have e:Ak G (upd G l (.lst (xs++ys))):=fun a o h=>by
    have:=R0.ins _ _ h;rw[AZ (A8 this hl')];exact h
   exact⟨l,xs++ys,rfl,Au,(h2.same e).app (h4.same e)⟩
  ·cases hz
 ·cases hz
def Q9:PD→PD→Option PD:=fun x y=>match x,y with|.tuple a,.tuple b=>(if a.length+b.length≤Bi then some (.tuple (a++b)) else none)|_,_=>none
def fB:Ep X (binaryOp .Add) Q9:=by
 refine⟨_,eR,fun x y z hz G0 H0 G H σ δ ts u v Q R0 du dv k=>?_⟩;unfold Q9 at hz;split at hz
 ·rename_i a b;split at hz
  ·rename_i hl;cases hz;rw[Du]at du dv;obtain⟨p,xs,rfl,h1,h2⟩:=du;obtain⟨q,ys,rfl,h3,h4⟩:=dv;refine⟨p,q,xs,ys,rfl,rfl,R0.ins _ _ h1,R0.ins _ _ h3,GO (by rw[h2.len,h4.len];exact hl),fun l H' e hp=>?_⟩;have R1:=R0.hU e hp;refine k _ _ _ (R1.put ?_);rw[Du];have e1:Ak G (upd G l (.tup (xs++ys))):=fun a o h=>by
    by_cases ha:a=l
    ·subst ha;have:=e _ _ (R0.ins _ _ h);rw[hp]at this;rw[Au];exact this
    ·rw[AZ ha];exact h
   exact⟨l,xs++ys,rfl,Au,(h2.same e1).app (h4.same e1)⟩
  ·cases hz
 ·cases hz
def Wv:PD→PD→Option PD:=fun x y=>match x,y with|.str a,.str b=>(if a.length+b.length≤Bi then some (.str (a++b)) else none)|_,_=>none
def fD:Ep X (binaryOp .Add) Wv:=by
 refine⟨_,Xg,fun x y z hz G0 H0 G H σ δ ts u v Q R0 du dv k=>?_⟩;unfold Wv at hz;split at hz
 ·rename_i a b;split at hz
  ·rename_i hl;cases hz;rw[Du]at du dv;exact⟨a,b,du,dv,GO hl,k _ _ _ (R0.put (by rw[Du]))⟩
  ·cases hz
 ·cases hz
def Ay:PD→PD→Option PD:=Pg fP (Pg Lp (Pg Q9 Wv))
def BC:Ep X (binaryOp .Add) Ay:=dJ.or (dh.or (fB.or fD))
def Wn:PD→PD→Option PD:=fun x y=>match x,y with|.list a,.int k=>(if a.length*k.toNat≤Bi∧-1000000≤k∧k≤1000000 then some (.list (List.replicate k.toNat a).flatten) else none)|_,_=>none
def BQ.rep{H:Hp}{ds:List PD}{xs:List V}(h:BQ H ds xs):∀n,BQ H (List.replicate n ds).flatten (List.replicate n xs).flatten
 |0=>.nil
 |n+1=>by rw[List.replicate_succ,List.replicate_succ,List.flatten_cons,List.flatten_cons];exact h.app (h.rep n)
def d9:Ep X (binaryOp .Mult) Wn:=by
 refine⟨_,fw,fun x y z hz G0 H0 G H σ δ ts u v Q R0 du dv k=>?_⟩;unfold Wn at hz;split at hz
 ·rename_i a n;split at hz
  ·rename_i hl;cases hz;rw[Du]at du;rw[Du]at dv;obtain⟨p,xs,rfl,h1,h2⟩:=du;subst dv;refine⟨p,n,xs,rfl,rfl,R0.ins _ _ h1,by lia,by lia,GO (by rw[h2.len];exact hl.1),fun l hl'=>?_⟩;have R1:=R0.newObj (o:=.lst (List.replicate n.toNat xs).flatten) hl';refine k _ _ _ (R1.put ?_);rw[Du];have e:Ak G (upd G l (.lst (List.replicate n.toNat xs).flatten)):=fun a o h=>by
    have:=R0.ins _ _ h;rw[AZ (A8 this hl')];exact h
   exact⟨l,_,rfl,Au,(h2.same e).rep _⟩
  ·cases hz
 ·cases hz
def Dk:PD→PD→Option PD:=Pg Xd Wn
def Ey:Ep X (binaryOp .Mult) Dk:=eP.or d9
def LU{d:PD}(h:SeqAt.shaped d=true):d.canLay0=true:=by unfold SeqAt.shaped at h;rw[Bool.and_eq_true]at h;exact h.1
def BI(neg:Bool):PD→PD→Option PD:=fun x y=>if SeqAt.shaped x=true∧SeqAt.shaped y=true then some (.bool (if neg then !PyData.eqv x y else PyData.eqv x y)) else none
def X0{m:VL→VL→Sem VL}{neg:Bool}(ho:D0 X m (Zl X.K neg)):Ep X m (BI neg):=by
 refine⟨_,ho,fun x y z hz G0 H0 G H σ δ ts u v Q R0 du dv k=>?_⟩;unfold BI at hz;split at hz
 ·rename_i hs;cases hz;exact⟨x,y,(du.same R0.ins).br (LU hs.1),(dv.same R0.ins).br (LU hs.2),hs.1,hs.2,k _ _ _ (R0.put (by rw[Du]))⟩
 ·cases hz
def DR(hu:X.A.units+64<cLine):Ep X (compareOp .Eq) (BI false):=X0 (jI hu)
def EE(hu:X.A.units+64<cLine):Ep X (compareOp .NotEq) (BI true):=X0 (iC hu)
def PyData.Zz:PD→Bool
 |.none=>true
 |_=>false
def fZ{H:Hp}:∀ {x:PD} {u:V},Du H x u→decide (u=.CT)=PyData.Zz x
 |.none,u,h=>by rw[Du]at h;subst h;rfl
 |.bool _,u,h=>by rw[Du]at h;subst h;rfl
 |.int _,u,h=>by rw[Du]at h;subst h;rfl
 |.str _,u,h=>by rw[Du]at h;subst h;rfl
 |.tuple _,u,h=>by rw[Du]at h;obtain⟨a,xs,rfl,_⟩:=h;rfl
 |.list _,u,h=>by rw[Du]at h;obtain⟨a,xs,rfl,_⟩:=h;rfl
 |.dict [],u,h=>by rw[Du,ND]at h;rcases h with ⟨ea,C,_,rfl,_⟩|⟨a,ns,_,rfl,_⟩|h;rfl;rfl;exact h.elim
 |.dict ((_,_)::_),u,h=>by rw[Du,ND]at h;rcases h with ⟨ea,C,_,rfl,_⟩|⟨a,ns,_,rfl,_⟩|⟨_,_,a,r,rfl,_⟩<;>rfl
def dA(neg:Bool):PD→PD→Option PD:=fun x y=>match y with
 |.none=>some (.bool (if neg then !PyData.Zz x else PyData.Zz x))
 |_=>none
def cC:Ep X (compareOp .Is) (dA false):=by
 refine⟨_,jH,fun x y z hz G0 H0 G H σ δ ts u v Q R0 du dv k=>?_⟩;unfold dA at hz;split at hz
 ·cases hz;rw[Du]at dv;refine⟨dv,?_⟩;rw[fZ du];exact k _ _ _ (R0.put (by rw[Du];rfl))
 ·cases hz
end
section
variable{X:Cx}{a b c e:Expr}{es:List Expr}{f g h:Dv→Option PD}{pos p:Pos}
def NK:PD→Option Bool
 |.bool b=>some b
 |_=>none
def SX:PD→Option Int
 |.int b=>some b
 |_=>none
def Qf{x:PD}{b:Bool}(h:NK x=some b):x=.bool b:=by
 unfold NK at h;split at h
 ·cases h;rfl
 ·cases h
def T1{x:PD}{b:Int}(h:SX x=some b):x=.int b:=by
 unfold SX at h;split at h
 ·cases h;rfl
 ·cases h
def Qs(ha:DE X a f):DE X (.UnaryOp .USub a pos) (fun δ=>(f δ).bind fun x=>(SX x).map fun i=>.int (-i)):=by
 obtain⟨ta,pa,ka⟩:=ha;refine⟨_,b5 Yd pa,fun δ z hz G0 H0 G H σ ts Q R0 k=>?_⟩;obtain⟨x,h1,h2⟩:=aA.mp hz;obtain⟨i,h3,rfl⟩:=aC.mp h2;have:=T1 h3;subst this;refine ka δ _ h1 G0 H0 G H σ ts _ R0 fun u G1 H1 R1=>?_;have:=R1.C6 _ (.head _);rw[Du]at this;exact⟨i,this,k _ _ _ (R1.drop.put (by rw[Du]))⟩
def gh(ha:DE X a f):DE X (.UnaryOp .Not a pos) (fun δ=>(f δ).bind fun x=>(NK x).map fun i=>.bool (!i)):=by
 obtain⟨ta,pa,ka⟩:=ha;refine⟨_,ZF pa,fun δ z hz G0 H0 G H σ ts Q R0 k=>?_⟩;obtain⟨x,h1,h2⟩:=aA.mp hz;obtain⟨i,h3,rfl⟩:=aC.mp h2;have:=Qf h3;subst this;refine ka δ _ h1 G0 H0 G H σ ts _ R0 fun u G1 H1 R1=>?_;have:=R1.C6 _ (.head _);rw[Du]at this;exact⟨i,this,k _ _ _ (R1.drop.put (by rw[Du]))⟩
def Jn{op}(ha:DE X a f):DE X (.BoolOp op [a] pos) f:=by
 obtain⟨ta,pa,ka⟩:=ha;exact⟨_,UZ pa,ka⟩
def IW{rest:List Expr}(ha:DE X a f)(hb:DE X (.BoolOp .And (b::rest) pos) g):DE X (.BoolOp .And (a::b::rest) pos) (fun δ=>(f δ).bind fun x=>(NK x).bind fun c=>if c=true then g δ else some (.bool false)):=by
 obtain⟨ta,pa,ka⟩:=ha;obtain⟨tb,pb,kb⟩:=hb;refine⟨_,Uu pa pb,fun δ z hz G0 H0 G H σ ts Q R0 k=>?_⟩;obtain⟨x,h1,h2⟩:=aA.mp hz;obtain⟨i,h3,h4⟩:=aA.mp h2;have:=Qf h3;subst this;refine ka δ _ h1 G0 H0 G H σ ts _ R0 fun u G1 H1 R1=>?_;have hu:=R1.C6 _ (.head _);rw[Du]at hu;refine⟨i,hu,?_⟩;split
 ·rename_i hc;rw[if_pos hc]at h4;exact kb δ z h4 G0 H0 G1 H1 σ ts Q R1.drop k
 ·rename_i hc;rw[if_neg hc]at h4;cases h4;exact k _ _ _ (R1.drop.put (by rw[Du]))
variable{fa fb:Dv→Option Bool}
def DW(X:Cx)(e:Expr)(f:Dv→Option Bool):Prop:=∃t,PW X e t∧∀δ b,f δ=some b→∀G0 H0 G H σ ts (Q:Bool→Hp→Prop),Rw G0 H0 G H σ δ ts→(∀G' H',Rw G0 H0 G' H' σ δ ts→Q b H')→t σ H Q
def DW.dt(h:DW X e fa):DT X e fa:=let⟨t,p,k⟩:=h;⟨t,p.pt,k⟩
def Aw{op:CmpOp}{o:PD→PD→Option PD}(ho:Ep X (compareOp op) o)(ha:DE X a f)(hb:DE X b g)(hm:behindInMarks op b=false):DT X (.Compare a [op] [b] pos) (fun δ=>(AI o f g δ).bind NK):=by
 obtain⟨r,hr,kr⟩:=ho;obtain⟨ta,pa,ka⟩:=ha;obtain⟨tb,pb,kb⟩:=hb;refine⟨_,Eu hr pa pb hm,fun δ z hz G0 H0 G H σ ts Q R0 k=>?_⟩;obtain⟨q,h0,h4⟩:=aA.mp hz;have:=Qf h4;subst this;obtain⟨x,y,h1,h2,h3⟩:=two (x:=.none) (y:=.none) h0;refine ka δ x h1 G0 H0 G H σ ts _ R0 fun u G1 H1 R1=>?_;refine kb δ y h2 G0 H0 G1 H1 σ _ _ R1 fun v G2 H2 R2=>?_;refine kr x y _ h3 G0 H0 G2 H2 σ δ ts u v _ (R2.drop.drop) (R2.C6 (x,u) (.tail _ (.head _))) (R2.C6 (y,v) (.head _)) fun w G3 H3 R3=>?_;have hu:=R3.C6 _ (.head _);rw[Du]at hu;exact⟨z,hu,k _ _ R3.drop⟩
def Cm(ha : DE X e f)(he : ∀ whole,isTrue e X.env whole = (do let v ← whole; standAt e.pos; holding [v] (truthy v)) := by intro _; rfl) : DT X e (fun δ => (f δ).bind NK) := by
  obtain ⟨ta,pa,ka⟩:=ha
  refine ⟨_,Q2 pa he,fun δ z hz G0 H0 G H σ ts Q R0 k => ?_⟩
  obtain ⟨q,h0,h4⟩:=aA.mp hz
  have:=Qf h4; subst this
  refine ka δ _ h0 G0 H0 G H σ ts _ R0 fun u G1 H1 R1 => ?_
  have hu:=R1.C6 _ (.head _)
  rw [Du] at hu
  exact ⟨z,hu,k _ _ R1.drop⟩
def Cs(ha:DT X a fa):DT X (.UnaryOp .Not a pos) (fun δ=>(fa δ).map fun c=>!c):=by
 obtain⟨ta,pa,ka⟩:=ha;refine⟨_,Qm pa,fun δ z hz G0 H0 G H σ ts Q R0 k=>?_⟩;obtain⟨i,h3,rfl⟩:=aC.mp hz;exact ka δ _ h3 G0 H0 G H σ ts _ R0 fun G1 H1 R1=>k _ _ R1
def Cu{op:BoolOp}(ha:DT X a fa):DW X (.BoolOp op [a] pos) fa:=by
 obtain⟨ta,pa,ka⟩:=ha;cases op
 ·exact⟨_,Wg pa,ka⟩
 ·exact⟨_,Ug pa,ka⟩
def QM{rest:List Expr}(ha:DT X a fa)(hb:DW X (.BoolOp .And (b::rest) pos) fb):DW X (.BoolOp .And (a::b::rest) pos) (fun δ=>(fa δ).bind fun c=>if c=true then fb δ else some false):=by
 obtain⟨ta,pa,ka⟩:=ha;obtain⟨tb,pb,kb⟩:=hb;refine⟨_,YA pa pb,fun δ z hz G0 H0 G H σ ts Q R0 k=>?_⟩;obtain⟨i,h3,h4⟩:=aA.mp hz;refine ka δ _ h3 G0 H0 G H σ ts _ R0 fun G1 H1 R1=>?_;split
 ·rename_i hc;rw[if_pos hc]at h4;exact kb δ z h4 G0 H0 G1 H1 σ ts Q R1 k
 ·rename_i hc;rw[if_neg hc]at h4;cases h4;exact k _ _ R1
def C7{rest:List Expr}(ha:DT X a fa)(hb:DW X (.BoolOp .Or (b::rest) pos) fb):DW X (.BoolOp .Or (a::b::rest) pos) (fun δ=>(fa δ).bind fun c=>if c=true then some true else fb δ):=by
 obtain⟨ta,pa,ka⟩:=ha;obtain⟨tb,pb,kb⟩:=hb;refine⟨_,XA pa pb,fun δ z hz G0 H0 G H σ ts Q R0 k=>?_⟩;obtain⟨i,h3,h4⟩:=aA.mp hz;refine ka δ _ h3 G0 H0 G H σ ts _ R0 fun G1 H1 R1=>?_;split
 ·rename_i hc;rw[if_pos hc]at h4;cases h4;exact k _ _ R1
 ·rename_i hc;rw[if_neg hc]at h4;exact kb δ z h4 G0 H0 G1 H1 σ ts Q R1 k
variable{fs:Dv→Option (List PD)}
def AF:DA X [] (fun _=>some []):=⟨_,BE,fun δ xs h G0 H0 G H σ ts Q R0 k=>by cases h;exact k [] G H (by simpa using R0) rfl⟩
def AB(ha:DE X e f)(hr:DA X es fs)(hs:starEach (e::es) X.env=(false,eval e X.env)::starEach es X.env:=by rfl):DA X (e::es) (fun δ=>(f δ).bind fun x=>(fs δ).map fun xs=>x::xs):=by
 obtain⟨ta,pa,ka⟩:=ha;obtain⟨tr,pr,kr⟩:=hr;refine⟨_,Ad pa pr hs,fun δ z hz G0 H0 G H σ ts Q R0 k=>?_⟩;obtain⟨x,h1,h2⟩:=aA.mp hz;obtain⟨xs,h3,rfl⟩:=aC.mp h2;refine ka δ x h1 G0 H0 G H σ ts _ R0 fun u G1 H1 R1=>?_;refine kr δ xs h3 G0 H0 G1 H1 σ _ _ R1 fun vs G2 H2 R2 hl=>?_;refine k (u::vs) G2 H2 (R2.less fun q hq=>?_) (by simp[hl]);simp only[List.zip_cons_cons,List.cons_append,List.mem_cons,List.mem_append]at hq ⊢;rcases hq with h|h|h
 ·exact .inr (.inl h)
 ·exact .inl h
 ·exact .inr (.inr h)
def Yz{G:Hp}:∀ {xs:List PD} {vs:List V},vs.length=xs.length→(∀q∈xs.zip vs,Du G q.1 q.2)→BQ G xs vs
 |[],vs,hl,_=>by rw[List.eq_nil_of_length_eq_zero hl];exact .nil
 |x::xs,[],hl,_=>by simp at hl
 |x::xs,v::vs,hl,h=>.cons (h (x,v) (by simp)) (Yz (by simpa using hl) fun q hq=>h q (by simp[hq]))
def Rw.args{G0 H0 G H:Hp}{σ:St}{δ:Dv}{ts:List (PD×V)}{xs:List PD}{vs:List V}(r:Rw G0 H0 G H σ δ (xs.zip vs++ts))(hl:vs.length=xs.length):BQ G xs vs∧Rw G0 H0 G H σ δ ts :=
 ⟨Yz hl fun q hq=>r.C6 q (bK _ hq),r.less fun q hq=>aS _ hq⟩
def Rw.RC{G0 H0 G H:Hp}{σ:St}{δ:Dv}{ts:List (PD×V)}{xs:List PD}{vs:List V}{p:AD}(r:Rw G0 H0 G H σ δ ts)(d:BQ G xs vs)(hp:H p=none):Rw G0 H0 (upd G p (.lst vs)) (upd H p (.lst vs)) σ δ ((.list xs,.ref p)::ts):=by
 refine(r.newObj hp).put ?_;have e:Ak G (upd G p (.lst vs)):=fun a o h=>by rw[AZ (A8 (r.ins _ _ h) hp)];exact h
 rw[Du];exact⟨p,vs,rfl,Au,d.same e⟩
def Rw.ZM{G0 H0 G H:Hp}{σ:St}{δ:Dv}{ts:List (PD×V)}{xs:List PD}{vs:List V}{p:AD}(r:Rw G0 H0 G H σ δ ts)(d:BQ G xs vs)(hp:H p=none):Rw G0 H0 (upd G p (.tup vs)) (upd H p (.tup vs)) σ δ ((.tuple xs,.ref p)::ts):=by
 refine(r.newObj hp).put ?_;have e:Ak G (upd G p (.tup vs)):=fun a o h=>by rw[AZ (A8 (r.ins _ _ h) hp)];exact h
 rw[Du];exact⟨p,vs,rfl,Au,d.same e⟩
def IZ(xs:List PD):Option (List PD):=if xs.length≤Bi then some xs else none
def Nd{xs ys:List PD}(h:IZ xs=some ys):xs=ys∧xs.length≤Bi:=by
 unfold IZ at h;split at h
 ·rename_i q;cases h;exact⟨rfl,q⟩
 ·cases h
def AY{x1}(ha:DA X es fs):DE X (.Tuple es x1 pos) (fun δ=>((fs δ).bind IZ).map .tuple):=by
 obtain⟨ta,pa,ka⟩:=ha;refine⟨_,Qk pa,fun δ z hz G0 H0 G H σ ts Q R0 k=>?_⟩;obtain⟨ys,h1,rfl⟩:=aC.mp hz;obtain⟨xs,h2,h3⟩:=aA.mp h1;obtain⟨rfl,hl⟩:=Nd h3;refine ka δ _ h2 G0 H0 G H σ ts _ R0 fun vs G1 H1 R1 hv=>?_;obtain⟨d,R2⟩:=R1.args hv;exact⟨GO (by rw[hv];exact hl),fun q hq=>k _ _ _ (R2.ZM d hq)⟩
def BG(ha:DA X es fs):DE X (.List es pos) (fun δ=>((fs δ).bind IZ).map .list):=by
 obtain⟨ta,pa,ka⟩:=ha;refine⟨_,MZ pa,fun δ z hz G0 H0 G H σ ts Q R0 k=>?_⟩;obtain⟨ys,h1,rfl⟩:=aC.mp hz;obtain⟨xs,h2,h3⟩:=aA.mp h1;obtain⟨rfl,hl⟩:=Nd h3;refine ka δ _ h2 G0 H0 G H σ ts _ R0 fun vs G1 H1 R1 hv=>?_;obtain⟨d,R2⟩:=R1.args hv;exact⟨GO (by rw[hv];exact hl),fun q hq=>k _ _ _ (R2.RC d hq)⟩
def BQ.Fy{H:Hp}{ds:List PD}{xs:List V}{i:Int}{d:PD}(h:BQ H ds xs)(e:Fy ds i=some d):∃v,Fy xs i=some v∧Du H d v:=by
 unfold L2.Fy at e ⊢;rw[h.len];obtain⟨j,h1,h2⟩:=aA.mp e;obtain⟨v,h3,h4⟩:=h.get h2;exact⟨v,by rw[h1];exact h3,h4⟩
def SO{G:Hp}:∀ns:List Int,BQ G (ns.map .int) (ns.map V.int)
 |[]=>.nil
 |n::ns=>.cons (by rw[Du]) (SO ns)
def Am:PD→PD→Option PD:=fun x y=>match x,y with
 |.list xs,.int i=>Fy xs i
 |.tuple xs,.int i=>Fy xs i
 |.dict [(.none,.list xs)],.int i=>Fy xs i
 |.str z,.int i=>if z.length≤Bi then(Fy z.cps.toList i).map fun c=>.str ⟨#[c]⟩ else none
 |_,_=>none
def An(ha:DE X a f)(hb:DE X b g)(hs:SG b):DE X (.Subscript a b pos) (AI Am f g):=by
 obtain⟨ta,pa,ka⟩:=ha;obtain⟨tb,pb,kb⟩:=hb;refine⟨_,EG fX pa pb hs,fun δ z hz G0 H0 G H σ ts Q R0 k=>?_⟩;obtain⟨x,y,h1,h2,h3⟩:=two (x:=.none) (y:=.none) hz;refine ka δ x h1 G0 H0 G H σ ts _ R0 fun u G1 H1 R1=>?_;refine kb δ y h2 G0 H0 G1 H1 σ _ _ R1 fun v G2 H2 R2=>?_;have du:=R2.C6 (x,u) (.tail _ (.head _));have dv:=R2.C6 (y,v) (.head _);unfold Am at h3;split at h3
 ·rw[Du]at du;rw[Du]at dv;obtain⟨p,xs,rfl,h4,h5⟩:=du;obtain⟨w,h6,h7⟩:=h5.Fy h3;exact .inl ⟨p,xs,_,w,rfl,dv,Bo.of (R2.ins _ _ h4),h6,k _ _ _ (R2.drop.drop.put h7)⟩
 ·rw[Du]at du;rw[Du]at dv;obtain⟨p,xs,rfl,h4,h5⟩:=du;obtain⟨w,h6,h7⟩:=h5.Fy h3;exact .inr (.inl ⟨p,xs,_,w,rfl,dv,CK.of (R2.ins _ _ h4),h6,k _ _ _ (R2.drop.drop.put h7)⟩)
 ·rw[Du]at du;rw[Du]at dv;rcases du with ⟨ea,C,e1,_⟩|⟨p,ns,e1,rfl,h4⟩|z
  rotate_left 2
  ·rw[ND]at z;cases z.1
  ·simp at e1
  ·obtain rfl:_=ns.map PyData.int:=by simpa using e1
   obtain⟨w,h6,h7⟩:=(SO (G:=_) ns).Fy h3;exact .inl ⟨p,_,_,w,rfl,dv,.inl (h4.same R2.ins),h6,k _ _ _ (R2.drop.drop.put h7)⟩
 ·rw[Du]at du;rw[Du]at dv;split at h3
  ·rename_i hl;obtain⟨ch,h6,rfl⟩:=aC.mp h3;exact .inr (.inr ⟨_,_,ch,du,dv,GO hl,h6,k _ _ _ (R2.drop.drop.put (by rw[Du]))⟩)
  ·cases h3
 ·cases h3
end
def BD(g:MD):Sp:=fun vs H Q _=>∃ds x G,g ds=some x∧BQ G ds vs∧Ak G H∧∀v G' H',Ak G G'→Nw G H G'→Ak G' H'→Ak H H'→Du G' x v→Q v H'
section
variable{X:Cx}{a e:Expr}{es:List Expr}{f h:Dv→Option PD}{fs:Dv→Option (List PD)}{pos p:Pos}
def Ae{k:Nat}{fA:AD}{fd:FuncData}{ps:List Str}{m:MD}{x:Str}{st:Stmt}(T:Fn X.K X.mg x st ps fA fd)(F:AV X.prog X.w X.K X.mg X.base Ar k fA fd ps (BD m))(hr:Fc k X.A)(hg:Gl X x)(ha:DA X (e::es) fs)
 (hdb:(x==("__debug__" : Str))=false:=by decide)(he:starEach (e::es) X.env=(false,eval e X.env)::starEach es X.env:=by rfl)(hpl:(backTo pos (starEach es X.env)).any (·.1)=false:=by rfl) :
  DE X (.Call (.Name x p) (e::es) [] pos) (fun δ=>(fs δ).bind m):=by
 obtain⟨ta,pa,ka⟩:=ha;refine⟨_,Dy T F hr hg pa hdb he hpl,fun δ z hz G0 H0 G H σ ts Q R0 k=>?_⟩;obtain⟨xs,h1,h2⟩:=aA.mp hz;refine ka δ _ h1 G0 H0 G H σ ts _ R0 fun vs G1 H1 R1 hv=>?_;obtain⟨d,R2⟩:=R1.args hv;refine⟨xs,z,G1,h2,by rw[List.append_nil];exact d,R2.ins,fun v G' H' h3 h4 h5 h6 h7=>?_⟩;exact k _ _ _ ((R2.lift h3 h4 h5 h6).put h7)
def LV(X:Cx)(v:VL)(o:MD):Prop:=∃r,E6 X v r∧∀xs z,o xs=some z→∀G0 H0 G H σ δ ts us (Q:VK),Rw G0 H0 G H σ δ ts→BQ G xs us→(∀w G' H',Rw G0 H0 G' H' σ δ ((z,w)::ts)→Q w H')→r us H Q
def CI{x:Str}{id:String}{o:MD}(hc:LV X (.builtin id) o)(hg:Gl X x)(hm:X.mg x=none)(hv:bootBuiltins x=some (.builtin id))(ha:DA X (e::es) fs)(hn:x ≠ "__name__" := by decide)(hdb:(x==("__debug__" : Str))=false:=by decide)
 (he:starEach (e::es) X.env=(false,eval e X.env)::starEach es X.env:=by rfl)(hpl:(backTo pos (starEach es X.env)).any (·.1)=false:=by rfl):DE X (.Call (.Name x p) (e::es) [] pos) (fun δ=>(fs δ).bind o):=by
 obtain⟨r,hr,kr⟩:=hc;obtain⟨ta,pa,ka⟩:=ha;refine⟨_,Dx hr hg hm hv pa hn hdb he hpl,fun δ z hz G0 H0 G H σ ts Q R0 k=>?_⟩;obtain⟨xs,h1,h2⟩:=aA.mp hz;refine ka δ _ h1 G0 H0 G H σ ts _ R0 fun vs G1 H1 R1 hv=>?_;obtain⟨d,R2⟩:=R1.args hv;exact kr xs z h2 G0 H0 G1 H1 σ δ ts vs Q R2 d k
def G8{x:Str}{T:String}{o:MD}(hc:LV X (.type T) o)(hg:Gl X x)(hm:X.mg x=none)(hv:bootBuiltins x=some (.type T))(ha:DA X (e::es) fs)(hn:x ≠ "__name__" := by decide)(hdb:(x==("__debug__" : Str))=false:=by decide)
 (he:starEach (e::es) X.env=(false,eval e X.env)::starEach es X.env:=by rfl)(hpl:(backTo pos (starEach es X.env)).any (·.1)=false:=by rfl):DE X (.Call (.Name x p) (e::es) [] pos) (fun δ=>(fs δ).bind o):=by
 obtain⟨r,hr,kr⟩:=hc;obtain⟨ta,pa,ka⟩:=ha;refine⟨_,Sf hr hg hm hv pa hn hdb he hpl,fun δ z hz G0 H0 G H σ ts Q R0 k=>?_⟩;obtain⟨xs,h1,h2⟩:=aA.mp hz;refine ka δ _ h1 G0 H0 G H σ ts _ R0 fun vs G1 H1 R1 hv=>?_;obtain⟨d,R2⟩:=R1.args hv;exact kr xs z h2 G0 H0 G1 H1 σ δ ts vs Q R2 d k
def BQ.Ib{H:Hp}{d:PD}{xs:List V}(h:BQ H [d] xs):∃x,xs=[x]∧Du H d x:=by
 obtain⟨x,r,rfl,h1,h2⟩:=h.un;rw[h2.nil_eq];exact⟨x,rfl,h1⟩
def BQ.PK{H:Hp}{d e:PD}{xs:List V}(h:BQ H [d,e] xs):∃x y,xs=[x,y]∧Du H d x∧Du H e y:=by
 obtain⟨x,r,rfl,h1,h2⟩:=h.un;obtain⟨y,rfl,h3⟩:=h2.Ib;exact⟨x,y,rfl,h1,h3⟩
def DJ:MD
 |[.list xs]=>some (.int xs.length)
 |[.tuple xs]=>some (.int xs.length)
 |[.dict [(.none,.list xs)]]=>some (.int xs.length)
 |_=>none
def DY:LV X (.builtin "len") DJ:=by
 refine⟨_,HA,fun xs z hz G0 H0 G H σ δ ts us Q R0 d k=>?_⟩;unfold DJ at hz;split at hz
 ·cases hz;obtain⟨u,rfl,du⟩:=d.Ib;rw[Du]at du;obtain⟨p,ys,rfl,h4,h5⟩:=du;refine⟨p,ys,rfl,.inl (Bo.of (R0.ins _ _ h4)),?_⟩;rw[h5.len];exact k _ _ _ (R0.put (by rw[Du]))
 ·cases hz;obtain⟨u,rfl,du⟩:=d.Ib;rw[Du]at du;obtain⟨p,ys,rfl,h4,h5⟩:=du;refine⟨p,ys,rfl,.inr (CK.of (R0.ins _ _ h4)),?_⟩;rw[h5.len];exact k _ _ _ (R0.put (by rw[Du]))
 ·cases hz;obtain⟨u,rfl,du⟩:=d.Ib;rw[Du]at du;rcases du with ⟨ea,C,e1,_⟩|⟨p,ns,e1,rfl,h4⟩|z
  rotate_left 2
  ·rw[ND]at z;cases z.1
  ·simp at e1
  ·obtain rfl:_=ns.map PyData.int:=by simpa using e1
   refine⟨p,_,rfl,.inl (.inl (h4.same R0.ins)),?_⟩;rw[List.length_map]at k ⊢;exact k _ _ _ (R0.put (by rw[Du]))
 ·cases hz
def Mi:MD
 |[.list xs]=>some (.tuple xs)
 |[.tuple xs]=>some (.tuple xs)
 |_=>none
def VS:LV X (.type "tuple") Mi:=by
 refine⟨_,S8,fun xs z hz G0 H0 G H σ δ ts us Q R0 d k=>?_⟩;unfold Mi at hz;split at hz
 ·cases hz;obtain⟨u,rfl,du⟩:=d.Ib;rw[Du]at du;obtain⟨p,ys,rfl,h4,h5⟩:=du;exact⟨p,ys,rfl,.inl ⟨Bo.of (R0.ins _ _ h4),fun l hl=>k _ _ _ (R0.ZM h5 hl)⟩⟩
 ·cases hz;obtain⟨u,rfl,du⟩:=d.Ib;have du':=du;rw[Du]at du;obtain⟨p,ys,rfl,h4,h5⟩:=du;exact⟨p,ys,rfl,.inr ⟨CK.of (R0.ins _ _ h4),k _ _ _ (R0.put du')⟩⟩
 ·cases hz
def JR:MD
 |[.list xs]=>some (.list xs)
 |[.tuple xs]=>some (.list xs)
 |_=>none
def Ot:LV X (.type "list") JR:=by
 refine⟨_,Uc,fun xs z hz G0 H0 G H σ δ ts us Q R0 d k=>?_⟩;unfold JR at hz;split at hz
 ·cases hz;obtain⟨u,rfl,du⟩:=d.Ib;rw[Du]at du;obtain⟨p,ys,rfl,h4,h5⟩:=du;exact⟨p,ys,rfl,.inl (Bo.of (R0.ins _ _ h4)),fun l hl=>k _ _ _ (R0.RC h5 hl)⟩
 ·cases hz;obtain⟨u,rfl,du⟩:=d.Ib;rw[Du]at du;obtain⟨p,ys,rfl,h4,h5⟩:=du;exact⟨p,ys,rfl,.inr (CK.of (R0.ins _ _ h4)),fun l hl=>k _ _ _ (R0.RC h5 hl)⟩
 ·cases hz
def Du.ty{K:Fg}{H:Hp}:∀ {d:PD} {v:V},(∀kv,d≠.dict kv)→Du H d v→IB K H v (.type (Px d))∧∀kv,d≠.dict kv
 |.none,_,_,h=>by rw[Du]at h;subst h;exact⟨.CT,by simp⟩
 |.bool _,_,_,h=>by rw[Du]at h;subst h;exact⟨.bl _,by simp⟩
 |.int _,_,_,h=>by rw[Du]at h;subst h;exact⟨.int _,by simp⟩
 |.str _,_,_,h=>by rw[Du]at h;subst h;exact⟨.str _,by simp⟩
 |.tuple _,_,_,h=>by rw[Du]at h;obtain⟨a,xs,rfl,h1,_⟩:=h;exact⟨.tup h1,by simp⟩
 |.list _,_,_,h=>by rw[Du]at h;obtain⟨a,xs,rfl,h1,_⟩:=h;exact⟨.lst h1,by simp⟩
 |.dict _,_,n,h=>absurd rfl (n _)
def VF(q:PD→Bool):PD→Option PD
 |.dict _=>none
 |x=>some (.bool (q x))
def eI{q:PD→Bool}{x z:PD}(h:VF q x=some z):(∀kv,x≠.dict kv)∧z=.bool (q x):=by
 unfold VF at h;split at h
 ·cases h
 ·rename_i n;cases h;exact⟨fun kv e=>n kv e,rfl⟩
def D3{T:String}{q:PD→Bool}{xT:Str}{p1 p2:Pos}(hk:∀d:PD,(∀kv,d≠.dict kv)→PySem.W.kitOne X.K (.type (Px d)) (.type T)=some (q d))(hg:Gl X "isinstance")(hm:X.mg "isinstance" = none)(hgT:Gl X xT)(hmT:X.mg xT=none)(hvT:bootBuiltins xT=some (.type T))(ha:DE X a f)
 (hnT:xT ≠ "__name__" := by decide)(hdT:(xT==("__debug__" : Str))=false:=by decide)(hs1:starEach [a,.Name xT p2] X.env=(false,eval a X.env)::starEach [.Name xT p2] X.env:=by rfl)(hpl:(backTo pos (starEach [.Name xT p2] X.env)).any (·.1)=false:=by rfl) :
  DE X (.Call (.Name "isinstance" p1) [a,.Name xT p2] [] pos) (fun δ=>(f δ).bind (VF q)):=by
 obtain⟨ta,pa,ka⟩:=ha;have pT:PE X (.Name xT p2) (tC (.ty T)):=Oe hgT hmT hvT rfl hnT hdT;refine⟨_,Dx Mc hg hm bO (Ad pa (Ad pT BE) hs1) (by decide) (by decide) hs1 hpl,fun δ z hz G0 H0 G H σ ts Q R0 k=>?_⟩;obtain⟨x,h1,h2⟩:=aA.mp hz;obtain⟨n1,rfl⟩:=eI h2;refine ka δ _ h1 G0 H0 G H σ ts _ R0 fun u G1 H1 R1=>?_;have du:=R1.C6 _ (.head _);obtain⟨t1,t2⟩:=(du.same R1.ins).ty (K:=X.K) n1;exact⟨u,.ty T,_,q x,rfl,by simp[Rx],t1,hk x t2,k _ _ _ (R1.drop.put (by rw[Du]))⟩
end
inductive Ou where
 |nx (δ:Dv)|rt (x:PyData)|bk (δ:Dv)|ct (δ:Dv)|rn (xs:List PyData)
def Fin(G0 H0:Hp)(D:Ends):Ou→Prop
 |.nx δ=>∀σ G H,Rw G0 H0 G H σ δ []→D.nx σ H
 |.rt x=>∀v G H,Ak G0 G→Nw G0 H0 G→Ak G H→Ak H0 H→Du G x v→D.rt v H
 |.bk δ=>∀σ G H,Rw G0 H0 G H σ δ []→D.bk σ H
 |.ct δ=>∀σ G H,Rw G0 H0 G H σ δ []→D.ct σ H
 |.rn xs=>∀a ys G H,Ak G0 G→Nw G0 H0 G→Ak G H→Ak H0 H→H0 a=none→G a=none→H a=some (.lst ys)→BQ G xs ys→D.rt (.ref a) H
abbrev DF:=Dv→Option Ou
def DS(X:Cx)(st:Stmt)(F:DF):Prop:=∃t,PS X st t∧∀δ r,F δ=some r→∀G0 H0 G H σ D,Rw G0 H0 G H σ δ []→Fin G0 H0 D r→t D σ H
def O4(X:Cx)(st:List Stmt)(F:DF):Prop:=∃t,LS X st t∧∀δ r,F δ=some r→∀G0 H0 G H σ D,Rw G0 H0 G H σ δ []→Fin G0 H0 D r→t D σ H
def AX(F1 F2:DF)(δ:Dv):Option Ou:=match F1 δ with
 |some (.nx δ')=>F2 δ'
 |o=>o
section
variable{X:Cx}{c e:Expr}{f h:Dv→Option PD}{fa:Dv→Option Bool}{pos p:Pos}{st:Stmt}{sts sts':List Stmt}{F1 F2:DF}
def A6:O4 X [] (fun δ=>some (.nx δ)):=⟨_,Fi,fun δ r h G0 H0 G H σ D R k=>by cases h;exact k _ _ _ R⟩
def AJ(h1:DS X st F1)(h2:O4 X sts F2):O4 X (st::sts) (AX F1 F2):=by
 obtain⟨t1,p1,k1⟩:=h1;obtain⟨t2,p2,k2⟩:=h2;refine⟨_,BB p1 p2,fun δ r h G0 H0 G H σ D R k=>?_⟩;unfold AX at h;split at h
 ·rename_i δ' e1;exact k1 δ _ e1 G0 H0 G H σ _ R fun σ' G' H' R'=>k2 δ' r h G0 H0 G' H' σ' D R' k
 ·rename_i hne;refine k1 δ r h G0 H0 G H σ _ R ?_;cases r with
  |nx δ'=>exact absurd h (hne δ')
  |rt x=>exact k
  |bk δ'=>exact k
  |ct δ'=>exact k
  |rn xs=>exact k
def AN(h1:DS X st F1):O4 X [st] F1:=by
 obtain⟨t1,p1,k1⟩:=h1;exact⟨_,Bt p1,k1⟩
def Mt:DS X st (fun _=>none):=⟨_,Te,fun _ _ h=>by cases h⟩
def Ao(he:DE X e f):DS X (.Return (some e) pos) (fun δ=>(f δ).map .rt):=by
 obtain⟨t,p,k⟩:=he;refine⟨_,Dh p,fun δ r h G0 H0 G H σ D R q=>?_⟩;obtain⟨x,h1,rfl⟩:=aC.mp h;exact k δ x h1 G0 H0 G H σ [] _ R fun v G' H' R'=>q v G' H' R'.ext R'.new R'.ins R'.keep (R'.C6 _ (.head _))
def V7(he:DE X e f)(hs:swapsWith e none pos.line X.env=pure false:=by rfl):DS X (.Expr e pos) (fun δ=>(f δ).map fun _=>.nx δ):=by
 obtain⟨t,p,k⟩:=he;refine⟨_,Fv p hs,fun δ r h G0 H0 G H σ D R q=>?_⟩;obtain⟨x,h1,rfl⟩:=aC.mp h;exact k δ x h1 G0 H0 G H σ [] _ R fun v G' H' R'=>q _ _ _ R'.drop
def BV(hc:DT X c fa)(h1:O4 X sts F1)(h2:O4 X sts' F2):DS X (.If c sts sts' pos) (fun δ=>(fa δ).bind fun c=>if c=true then F1 δ else F2 δ):=by
 obtain⟨tc,pc,kc⟩:=hc;obtain⟨t1,p1,k1⟩:=h1;obtain⟨t2,p2,k2⟩:=h2;refine⟨_,Ii pc p1 p2,fun δ r h G0 H0 G H σ D R q=>?_⟩;obtain⟨i,h3,h4⟩:=aA.mp h;refine kc δ i h3 G0 H0 G H σ [] _ R fun G' H' R'=>?_;split
 ·rename_i hc;rw[if_pos hc]at h4;exact k1 δ r h4 G0 H0 G' H' σ D R' q
 ·rename_i hc;rw[if_neg hc]at h4;exact k2 δ r h4 G0 H0 G' H' σ D R' q
end
section
variable{G0 H0 G H:Hp}{σ:St}{δ:Dv}{ts:List (PD×V)}
def Rw.Im{i:Nat}{x:PD}{v:V}(r:Rw G0 H0 G H σ δ ((x,v)::ts)):Rw G0 H0 G H (σ.set i (some v)) (δ.set i (.d x)) ts:=by
 have hl:=r.len;refine⟨r.ext,r.new,r.ins,r.keep,by simp[hl],fun j y h=>?_,fun j ys h=>?_,fun j l ys zs hjl h1 h2=>?_,fun q hq=>r.C6 q (.tail _ hq)⟩
 ·by_cases hj:i=j
  ·subst hj;by_cases hi:i<δ.length
   ·rw[List.getElem?_set_self hi]at h;cases h;exact⟨v,by rw[List.getElem?_set_self (by lia)],r.C6 _ (.head _)⟩
   ·rw[List.getElem?_eq_none (by simp;lia)]at h;cases h
  ·rw[List.getElem?_set_ne hj]at h;obtain⟨w,k1,k2⟩:=r.dat j y h;exact⟨w,by rw[List.getElem?_set_ne hj];exact k1,k2⟩
 ·by_cases hj:i=j
  ·subst hj;by_cases hi:i<δ.length
   ·rw[List.getElem?_set_self hi]at h;cases h
   ·rw[List.getElem?_eq_none (by simp;lia)]at h;cases h
  ·rw[List.getElem?_set_ne hj]at h;obtain⟨w,k1,k2,k3⟩:=r.own j ys h;exact⟨w,k1,by rw[List.getElem?_set_ne hj];exact k2,k3⟩
 ·have nj:i≠j:=fun z=>by
   subst z;by_cases hi:i<δ.length
   ·rw[List.getElem?_set_self hi]at h1;cases h1
   ·rw[List.getElem?_eq_none (by simp;lia)]at h1;cases h1
  have nl:i≠l:=fun z=>by
   subst z;by_cases hi:i<δ.length
   ·rw[List.getElem?_set_self hi]at h2;cases h2
   ·rw[List.getElem?_eq_none (by simp;lia)]at h2;cases h2
  rw[List.getElem?_set_ne nj]at h1 ⊢;rw[List.getElem?_set_ne nl]at h2 ⊢;exact r.apart j l ys zs hjl h1 h2
end
section
variable{X:Cx}{e:Expr}{f:Dv→Option PD}{pos p:Pos}
def BN{i:Nat}{x:Str}{pos':Pos}(hN:X.N.Nodup)(hi:X.N[i]? = some x)(hx:Loc X.env.scope x)(he:DE X e f)(hs:swapsWith e (some (.Name x pos')) pos.line X.env=pure false:=by rfl)(hf:X.fn x=true∨X.env.scope.names.lookup x=some .local:=by first|exact .inl rfl|exact .inr rfl|assumption) :
  DS X (.Assign [.Name x pos'] e pos) (fun δ=>(f δ).map fun y=>.nx (δ.set i (.d y))):=by
 obtain⟨t,p,k⟩:=he;refine⟨_,B7 hN hi hx p hs hf,fun δ r h G0 H0 G H σ D R q=>?_⟩;obtain⟨y,h1,rfl⟩:=aC.mp h;exact k δ y h1 G0 H0 G H σ [] _ R fun v G' H' R'=>q _ _ _ R'.Im
end
section
variable{G0 H0 G H:Hp}{σ:St}{δ:Dv}{ts:List (PD×V)}
def Rw.base(r:Rw G0 H0 G H σ δ ts):Rw G H0 G H σ δ ts:={r with ext:=Ak.refl G,new:=fun _ _ h=>.inl h}
def Nw.trans{G1 G2:Hp}(a:Nw G0 H0 G1)(b:Nw G1 H0 G2):Nw G0 H0 G2:=fun c o h=>by
 rcases b c o h with z|z|z
 ·exact a c o z
 ·exact .inr (.inl z)
 ·exact .inr (.inr z)
def Rw.UG{G' H':Hp}{σ':St}{δ':Dv}{ts':List (PD×V)}(r:Rw G0 H0 G H σ δ ts)(q:Rw G H0 G' H' σ' δ' ts'):Rw G0 H0 G' H' σ' δ' ts':={q with ext:=r.ext.trans q.ext,new:=r.new.trans q.new}
def Hf(i:Nat)(δ:Dv):Dv:=match δ[i]? with
 |some (.own (.lst xs))=>δ.set i (.d (.list xs))
 |some (.own (.X5 kvs))=>δ.set i (.d (XM kvs))
 |_=>δ
def Rw.letGo{i:Nat}{c:Oc}{x:PD}(r:Rw G0 H0 G H σ δ ts)(hi:δ[i]? = some (.own c))(hx:∀a o,G a=none→KA G a c o→Du (upd G a o) x (.ref a)):∃a o,σ[i]? = some (some (.ref a))∧G a=none∧H0 a=none∧H a=some o∧KA G a c o∧Rw G0 H0 (upd G a o) H σ (δ.set i (.d x)) ts:=by
 obtain⟨a,o,k1,k2,k3,k4,k5⟩:=r.own i _ hi;have e:Ak G (upd G a o):=Bv k2 _;have hlt:i<δ.length:=(aF.mp hi).1;refine⟨a,o,k1,k2,k3,k4,k5,r.ext.trans e,fun b o' h=>?_,fun b o' h=>?_,r.keep,by simp[r.len],fun j y h=>?_,fun j zs h=>?_,fun j l us ws hjl h1 h2=>?_,fun q hq=>(r.C6 q hq).same e⟩
 ·by_cases hb:b=a
  ·subst hb;exact .inr (.inl k3)
  ·rw[AZ hb]at h;exact r.new _ _ h
 ·by_cases hb:b=a
  ·subst hb;rw[Au]at h;rw[k4];exact h
  ·rw[AZ hb]at h;exact r.ins _ _ h
 ·by_cases hj:i=j
  ·subst hj;rw[List.getElem?_set_self hlt]at h;cases h;exact⟨.ref a,k1,hx a o k2 k5⟩
  ·rw[List.getElem?_set_ne hj]at h;obtain⟨w,m1,m2⟩:=r.dat j y h;exact⟨w,m1,m2.same e⟩
 ·by_cases hj:i=j
  ·subst hj;rw[List.getElem?_set_self hlt]at h;cases h
  ·rw[List.getElem?_set_ne hj]at h;obtain⟨b,us,m1,m2,m3,m4,m5⟩:=r.own j zs h;have nb:b≠a:=fun z=>by subst z;exact r.apart i j _ zs hj hi h (by rw[k1,m1])
   exact⟨b,us,m1,by rw[AZ nb];exact m2,m3,m4,m5.same e⟩
 ·have nj:i≠j:=fun z=>by subst z;rw[List.getElem?_set_self hlt]at h1;cases h1
  have nl:i≠l:=fun z=>by subst z;rw[List.getElem?_set_self hlt]at h2;cases h2
  rw[List.getElem?_set_ne nj]at h1;rw[List.getElem?_set_ne nl]at h2;exact r.apart j l us ws hjl h1 h2
def gz{a:AD}{o:HO}{xs:List PD}(hG:G a=none)(h:KA G a (.lst xs) o):Du (upd G a o) (.list xs) (.ref a):=by
 obtain⟨ys,rfl,k5⟩:=h;rw[Du];exact⟨a,ys,rfl,Au,k5.same (Bv hG _)⟩
def gj{a:AD}{o:HO}{kvs:List (Option Tr×PD)}(hG:G a=none)(h:KA G a (.X5 kvs) o):Du (upd G a o) (XM kvs) (.ref a):=by
 obtain⟨r,rfl,n,k5⟩:=h;rw[Du,ND];exact .inr (.inr ⟨rfl,rfl,a,r,rfl,Au,n,NF.same (Bv hG _) k5⟩)
def Rw.Hf(i:Nat)(r:Rw G0 H0 G H σ δ ts):∃G',Rw G0 H0 G' H σ (L2.Hf i δ) ts:=by
 unfold L2.Hf;split
 ·rename_i xs hi;obtain⟨a,o,_,_,_,_,_,R⟩:=r.letGo (x:=.list xs) hi fun a o h=>gz h;exact⟨_,R⟩
 ·rename_i kvs hi;obtain⟨a,o,_,_,_,_,_,R⟩:=r.letGo (x:=XM kvs) hi fun a o h=>gj h;exact⟨_,R⟩
 ·exact⟨G,r⟩
def Rw.YY{i:Nat}{xs:Oc}{ys:HO}{a:AD}(r:Rw G0 H0 G H σ δ ts)(d:KA G a xs ys)(ha:H a=none):Rw G0 H0 G (upd H a ys) (σ.set i (some (.ref a))) (δ.set i (.own xs)) ts:=by
 have hG:G a=none:=by
  cases q:G a with
  |none=>rfl
  |some u=>rw[r.ins _ _ q]at ha;cases ha
 have h0:H0 a=none:=by
  cases q:H0 a with
  |none=>rfl
  |some u=>rw[r.keep _ _ q]at ha;cases ha
 have e:Ak H (upd H a ys):=Bv ha _;have hl:=r.len;have other:∀(j:Nat) (zs:Oc),i≠j→(δ.set i (.own xs))[j]? = some (L.own zs)→δ[j]? = some (L.own zs):=fun j zs hj h=>by rw[List.getElem?_set_ne hj]at h;exact h
 have nota:∀(j:Nat) (zs:Oc),δ[j]? = some (L.own zs)→σ[j]?≠some (some (V.ref a)):=fun j zs h z=>by
  obtain⟨b,us,m1,m2,m3,m4,m5⟩:=r.own j zs h;rw[z]at m1;cases m1;rw[m4]at ha;cases ha
 refine⟨r.ext,r.new,r.ins.trans e,r.keep.trans e,by simp[hl],fun j y h=>?_,fun j zs h=>?_,fun j l us ws hjl h1 h2=>?_,r.C6⟩
 ·by_cases hj:i=j
  ·subst hj;by_cases hi:i<δ.length
   ·rw[List.getElem?_set_self hi]at h;cases h
   ·rw[List.getElem?_eq_none (by simp;lia)]at h;cases h
  ·rw[List.getElem?_set_ne hj]at h;obtain⟨w,m1,m2⟩:=r.dat j y h;exact⟨w,by rw[List.getElem?_set_ne hj];exact m1,m2⟩
 ·by_cases hj:i=j
  ·subst hj;by_cases hi:i<δ.length
   ·rw[List.getElem?_set_self hi]at h;cases h;exact⟨a,ys,by rw[List.getElem?_set_self (by lia)],hG,h0,Au,d⟩
   ·rw[List.getElem?_eq_none (by simp;lia)]at h;cases h
  ·have h:=other j zs hj h;obtain⟨b,us,m1,m2,m3,m4,m5⟩:=r.own j zs h;exact⟨b,us,by rw[List.getElem?_set_ne hj];exact m1,m2,m3,e _ _ m4,m5⟩
 ·by_cases hj:i=j
  ·subst hj;have hl2:i≠l:=hjl;have h2:=other l ws hl2 h2;by_cases hi:i<δ.length
   ·rw[List.getElem?_set_self (by lia),List.getElem?_set_ne hl2];exact fun z=>nota l ws h2 z.symm
   ·rw[List.getElem?_eq_none (by simp;lia)]at h1;cases h1
  ·have h1:=other j us hj h1;by_cases hk:i=l
   ·subst hk;by_cases hi:i<δ.length
    ·rw[List.getElem?_set_self (by lia),List.getElem?_set_ne hj];exact fun z=>nota j us h1 z
    ·rw[List.getElem?_eq_none (by simp;lia)]at h2;cases h2
   ·have h2:=other l ws hk h2;rw[List.getElem?_set_ne hj,List.getElem?_set_ne hk];exact r.apart j l us ws hjl h1 h2
def Rw.cx{i:Nat}{xs xs':Oc}{ys:HO}{a:AD}(r:Rw G0 H0 G H σ δ ts)(hi:δ[i]? = some (.own xs))(ha:σ[i]? = some (some (.ref a)))(d:KA G a xs' ys):Rw G0 H0 G (upd H a ys) σ (δ.set i (.own xs')) ts:=by
 obtain⟨a',ys0,k1,k2,k3,k4,k5⟩:=r.own i xs hi;rw[ha]at k1;cases k1;have hlt:i<δ.length:=(aF.mp hi).1;have hl:=r.len;refine⟨r.ext,r.new,fun b o h=>?_,fun b o h=>?_,by simp[hl],fun j y h=>?_,fun j zs h=>?_,fun j l us ws hjl h1 h2=>?_,r.C6⟩
 ·rw[AZ (fun z=>by subst z;rw[k2]at h;cases h)];exact r.ins _ _ h
 ·rw[AZ (fun z=>by subst z;rw[k3]at h;cases h)];exact r.keep _ _ h
 ·by_cases hj:i=j
  ·subst hj;rw[List.getElem?_set_self hlt]at h;cases h
  ·rw[List.getElem?_set_ne hj]at h;exact r.dat j y h
 ·by_cases hj:i=j
  ·subst hj;rw[List.getElem?_set_self hlt]at h;cases h;exact⟨a,ys,ha,k2,k3,Au,d⟩
  ·rw[List.getElem?_set_ne hj]at h;obtain⟨b,us,m1,m2,m3,m4,m5⟩:=r.own j zs h;have nb:b≠a:=fun z=>by subst z;exact r.apart i j xs zs hj hi h (by rw[ha,m1])
   exact⟨b,us,m1,m2,m3,by rw[AZ nb];exact m4,m5⟩
 ·have f:∀(j:Nat) (us:Oc),(δ.set i (.own xs'))[j]? = some (L.own us)→∃us',δ[j]? = some (L.own us'):=fun j us h=>by
   by_cases hj:i=j
   ·subst hj;exact⟨xs,hi⟩
   ·rw[List.getElem?_set_ne hj]at h;exact⟨us,h⟩
  obtain⟨us',h1⟩:=f j us h1;obtain⟨ws',h2⟩:=f l ws h2;exact r.apart j l us' ws' hjl h1 h2
end
section
variable{X:Cx}{a b e:Expr}{es:List Expr}{f g h:Dv→Option PD}{fs:Dv→Option (List PD)}{pos p:Pos}{st:Stmt}{F:DF}
def L6(i:Nat)(h1:DS X st F):DS X st (fun δ=>F (Hf i δ)):=by
 obtain⟨t,p,k⟩:=h1;refine⟨t,p,fun δ r h G0 H0 G H σ D R q=>?_⟩;obtain⟨G',R'⟩:=R.Hf i;exact k _ r h G0 H0 G' H σ D R' q
def Jl{i:Nat}{x:Str}{pos' lp:Pos}(hN:X.N.Nodup)(hi:X.N[i]? = some x)(hx:Loc X.env.scope x)(ha:DA X es fs)(hs:swapsWith (.List es lp) (some (.Name x pos')) pos.line X.env=pure false:=by rfl)(hf:X.fn x=true∨X.env.scope.names.lookup x=some .local:=by first|exact .inl rfl|exact .inr rfl|assumption) :
  DS X (.Assign [.Name x pos'] (.List es lp) pos) (fun δ=>((fs δ).bind IZ).map fun ys=>.nx (δ.set i (.own (.lst ys)))):=by
 obtain⟨t,p,k⟩:=ha;refine⟨_,B7 hN hi hx (MZ p) hs hf,fun δ r h G0 H0 G H σ D R q=>?_⟩;obtain⟨y,h1,rfl⟩:=aC.mp h;obtain⟨xs,h2,h3⟩:=aA.mp h1;obtain⟨rfl,hl⟩:=Nd h3;refine k δ _ h2 G0 H0 G H σ [] _ R fun vs G1 H1 R1 hv=>?_;obtain⟨d,R2⟩:=R1.args hv;exact⟨GO (by rw[hv];exact hl),fun l hl'=>q _ _ _ (R2.YY ⟨_,rfl,d⟩ hl')⟩
def ow(i:Nat)(δ:Dv):Option (List PD):=match δ[i]? with
 |some (.own (.lst xs))=>some xs
 |_=>none
def Oj{i:Nat}{δ:Dv}{xs:List PD}(h:ow i δ=some xs):δ[i]? = some (.own (.lst xs)):=by
 unfold ow at h;split at h
 ·rename_i y e;cases h;exact e
 ·cases h
def IH{i:Nat}{x:Str}{np ap cp:Pos}(hv:PE X (.Name x np) (Nr i))(he:DE X e f)
 (hP:∀ {to:TE} {t:TA},PE X (.Name x np) to→PA X [e] t→PS X (.Expr (.Call (.Attribute (.Name x np) "append" ap) [e] [] cp) pos) (Xf (hJ X.K "list" Vv to t)))(hs1:starEach [e] X.env=(false,eval e X.env)::starEach [] X.env:=by rfl) :
  DS X (.Expr (.Call (.Attribute (.Name x np) "append" ap) [e] [] cp) pos) (fun δ=>(f δ).bind fun y=>(ow i δ).bind fun xs=>if xs.length<Bi then some (.nx (δ.set i (.own (.lst (xs++[y]))))) else none):=by
 obtain⟨t,p,k⟩:=he;refine⟨_,hP hv (Ad p BE hs1),fun δ r h G0 H0 G H σ D R q=>?_⟩;obtain⟨y,h1,h2⟩:=aA.mp h;obtain⟨xs,h3,h4⟩:=aA.mp h2;split at h4
 ·rename_i hl;cases h4;have hi:=Oj h3;obtain⟨a,_,k1,k2,k3,k4,⟨ys,rfl,k5⟩⟩:=R.own i _ hi;refine⟨.ref a,k1,.inl ⟨rfl,ys,Bo.of k4⟩,?_⟩;refine k δ y h1 G0 H0 G H σ [] _ R fun u G1 H1 R1=>?_;obtain⟨a',_,m1,m2,m3,m4,⟨zs,rfl,m5⟩⟩:=R1.own i _ hi;rw[k1]at m1;cases m1;refine⟨a,zs,u,rfl,rfl,m4,R9 (by rw[m5.len];lia),?_⟩;exact q _ _ _ (R1.drop.cx hi k1 ⟨_,rfl,m5.app (.cons (R1.C6 _ (.head _)) .nil)⟩)
 ·cases h4
def OI{i:Nat}{x:Str}{np ap cp:Pos}(hv:PE X (.Name x np) (Nr i))(he:DE X e f)
 (hP:∀ {to:TE} {t:TA},PE X (.Name x np) to→PA X [e] t→PS X (.Expr (.Call (.Attribute (.Name x np) "extend" ap) [e] [] cp) pos) (Xf (hJ X.K "list" WL to t)))(hs1:starEach [e] X.env=(false,eval e X.env)::starEach [] X.env:=by rfl) :
  DS X (.Expr (.Call (.Attribute (.Name x np) "extend" ap) [e] [] cp) pos) (fun δ=>(f δ).bind fun y=>(ow i δ).bind fun xs=>match y with|.list zs=>(if xs.length+zs.length≤Bi then some (.nx (δ.set i (.own (.lst (xs++zs))))) else none)|_=>none):=by
 obtain⟨t,p,k⟩:=he;refine⟨_,hP hv (Ad p BE hs1),fun δ r h G0 H0 G H σ D R q=>?_⟩;obtain⟨y,h1,h2⟩:=aA.mp h;obtain⟨xs,h3,h4⟩:=aA.mp h2;split at h4
 ·rename_i zs;split at h4
  ·rename_i hl;cases h4;have hi:=Oj h3;obtain⟨a,_,k1,k2,k3,k4,⟨ys,rfl,k5⟩⟩:=R.own i _ hi;refine⟨.ref a,k1,.inl ⟨rfl,ys,Bo.of k4⟩,?_⟩;refine k δ _ h1 G0 H0 G H σ [] _ R fun u G1 H1 R1=>?_;obtain⟨a',_,m1,m2,m3,m4,⟨us,rfl,m5⟩⟩:=R1.own i _ hi;rw[k1]at m1;cases m1;have du:=R1.C6 _ (.head _);rw[Du]at du;obtain⟨b,ws,rfl,n1,n2⟩:=du;refine⟨a,b,us,ws,rfl,rfl,m4,R1.ins _ _ n1,GO (by rw[m5.len,n2.len];exact hl),?_⟩;exact q _ _ _ (R1.drop.cx hi k1 ⟨_,rfl,m5.app n2⟩)
  ·cases h4
 ·cases h4
def Yk{i:Nat}{x:Str}{np:Pos}(hv:PE X (.Name x np) (Nr i))(hg:Gl X "len")(hm:X.mg "len" = none)(hs1:starEach [.Name x np] X.env=(false,eval (.Name x np) X.env)::starEach [] X.env:=by rfl)(hpl:(backTo pos (starEach [] X.env)).any (·.1)=false:=by rfl) :
  DE X (.Call (.Name "len" p) [.Name x np] [] pos) (fun δ=>(ow i δ).map fun xs=>.int xs.length):=by
 refine⟨_,Dx HA hg hm aQ (Ad hv BE hs1) (by decide) (by decide) hs1 hpl,fun δ z hz G0 H0 G H σ ts Q R0 k=>?_⟩;obtain⟨xs,h1,rfl⟩:=aC.mp hz;obtain⟨a,_,k1,k2,k3,k4,⟨ys,rfl,k5⟩⟩:=R0.own i _ (Oj h1);refine⟨.ref a,k1,a,ys,rfl,.inl (Bo.of k4),?_⟩;rw[k5.len];exact k _ _ _ (R0.put (by rw[Du]))
def VQ{i:Nat}{x:Str}{np:Pos}(hv:PE X (.Name x np) (Nr i))(hb:DE X b g)(hs:SG b):DE X (.Subscript (.Name x np) b pos) (fun δ=>(g δ).bind fun y=>(ow i δ).bind fun xs=>(SX y).bind fun k=>Fy xs k):=by
 obtain⟨tb,pb,kb⟩:=hb;refine⟨_,EG Km hv pb hs,fun δ z hz G0 H0 G H σ ts Q R0 k=>?_⟩;obtain⟨y,h1,h2⟩:=aA.mp hz;obtain⟨xs,h3,h4⟩:=aA.mp h2;obtain⟨j,h5,h6⟩:=aA.mp h4;have:=T1 h5;subst this;obtain⟨a,_,k1,k2,k3,k4,⟨ys,rfl,k5⟩⟩:=R0.own i _ (Oj h3);refine⟨.ref a,k1,?_⟩;refine kb δ _ h1 G0 H0 G H σ ts _ R0 fun v G1 H1 R1=>?_;have dv:=R1.C6 _ (.head _);rw[Du]at dv;obtain⟨a',_,m1,m2,m3,m4,⟨us,rfl,m5⟩⟩:=R1.own i _ (Oj h3);rw[k1]at m1;cases m1;obtain⟨w,h7,h8⟩:=m5.Fy h6;exact⟨a,us,j,w,rfl,dv,Bo.of m4,h7,k _ _ _ (R1.drop.put h8)⟩
end
structure LB(J:It)(xs:List PyData)(G:Hp):Prop where
 stop:∀H,Ak G H→J.stop xs.length H
 go:∀(i:Nat) (d:PyData) H,xs[i]? = some d→Ak G H→J.go i H
 GX:∀(i:Nat) (d:PyData) H x H',xs[i]? = some d→Ak G H→J.GX i H x H'→∀Gc,Ak G Gc→Ak Gc H→∃Gc',Ak Gc Gc'∧Nw Gc H Gc'∧Ak Gc' H'∧Ak H H'∧Du Gc' d x
def Nw.refl{G H:Hp}:Nw G H G:=fun _ _ h=>.inl h
def dI{K:Fg}{G:Hp}{a:AD}{ys:List V}{xs:List PD}(ha:G a=some (.lst ys))(d:BQ G xs ys):LB (WS K a) xs G where
 stop:=fun H e=>⟨ys,Bo.of (e _ _ ha),by rw[d.len];exact aG _⟩
 go:=fun i x H hx e=>by
  obtain⟨v,h1,_⟩:=d.get hx;exact⟨ys,v,Bo.of (e _ _ ha),h1⟩
 GX:=fun i x H v H' hx e y Gc e1 e2=>by
  obtain⟨rfl,y⟩:=y;have h1:=y ys (Bo.of (e _ _ ha));obtain⟨x',h2,h3⟩:=d.back h1;rw[hx]at h2;cases h2;exact⟨Gc,Ak.refl _,Nw.refl,e2,Ak.refl _,h3.same e1⟩
def fS{K:Fg}{G:Hp}{a:AD}{ys:List V}{xs:List PD}(ha:G a=some (.tup ys))(d:BQ G xs ys):LB (iq K a) xs G where
 stop:=fun H e=>⟨ys,CK.of (e _ _ ha),by rw[d.len];exact aG _⟩
 go:=fun i x H hx e=>by
  obtain⟨v,h1,_⟩:=d.get hx;exact⟨ys,v,CK.of (e _ _ ha),h1⟩
 GX:=fun i x H v H' hx e y Gc e1 e2=>by
  obtain⟨rfl,y⟩:=y;have h1:=y ys (CK.of (e _ _ ha));obtain⟨x',h2,h3⟩:=d.back h1;rw[hx]at h2;cases h2;exact⟨Gc,Ak.refl _,Nw.refl,e2,Ak.refl _,h3.same e1⟩
def HR(lo:Int)(n:Nat):List PD:=(List.range n).map fun k=>.int (lo+(k:Nat))
def Y5{G:Hp}{lo:Int}{n:Nat}:LB (Ss lo n) (HR lo n) G where
 stop:=fun H e=>by show n≤_;simp[HR]
 go:=fun i x H hx e=>by
  have:=(aF.mp hx).1;show i<n
  simpa[HR]using this
 GX:=fun i x H v H' hx e y Gc e1 e2=>by
  obtain⟨rfl,rfl⟩:=y;unfold HR at hx;rw[List.getElem?_map]at hx;obtain⟨k,h1,rfl⟩:=aC.mp hx;have hk:k=i:=by
   have:=(aF.mp h1).1;rw[List.getElem?_range (by simpa using this)]at h1;cases h1;rfl
  subst hk;exact⟨Gc,Ak.refl _,Nw.refl,e2,Ak.refl _,by rw[Du]⟩
def Pu{Gc H:Hp}{p:AD}{d1 d2:PD}{v1 v2:V}(e2:Ak Gc H)(hp:H p=none)(h1:Du Gc d1 v1)(h2:Du Gc d2 v2) :
  ∃Gc',Ak Gc Gc'∧Nw Gc H Gc'∧Ak Gc' (upd H p (.tup [v1,v2]))∧Ak H (upd H p (.tup [v1,v2]))∧Du Gc' (.tuple [d1,d2]) (.ref p):=by
 have hG:Gc p=none:=by
  cases q:Gc p with
  |none=>rfl
  |some u=>rw[e2 _ _ q]at hp;cases hp
 have e:Ak Gc (upd Gc p (.tup [v1,v2])):=Bv hG _;refine⟨upd Gc p (.tup [v1,v2]),e,fun a o h=>?_,fun a o h=>?_,Bv hp _,?_⟩
 ·by_cases ha:a=p
  ·subst ha;exact .inr (.inl hp)
  ·rw[AZ ha]at h;exact .inl h
 ·by_cases ha:a=p
  ·subst ha;rw[Au]at h ⊢;exact h
  ·rw[AZ ha]at h ⊢;exact e2 _ _ h
 ·rw[Du];exact⟨p,[v1,v2],rfl,Au,.cons (h1.same e) (.cons (h2.same e) .nil)⟩
def ER(xs:List PD):List PD:=xs.zipIdx.map fun q=>.tuple [.int (q.2:Nat),q.1]
def F0{xs:List PD}{i:Nat}{d:PD}(h:(ER xs)[i]? = some d):∃x,xs[i]? = some x∧d=.tuple [.int (i:Nat),x]:=by
 unfold ER at h;rw[List.getElem?_map]at h;obtain⟨q,h1,rfl⟩:=aC.mp h;rw[List.getElem?_zipIdx]at h1;obtain⟨x,h2,rfl⟩:=aC.mp h1;exact⟨x,h2,by simp⟩
def ZY{K:Fg}{G:Hp}{a:AD}{ys:List V}{xs:List PD}(ha:G a=some (.tup ys))(d:BQ G xs ys):LB (gY K a) (ER xs) G where
 stop:=fun H e=>⟨ys,CK.of (e _ _ ha),by rw[d.len];simp[ER]⟩
 go:=fun i x H hx e=>by
  obtain⟨x',h0,rfl⟩:=F0 hx;obtain⟨v,h1,_⟩:=d.get h0;exact⟨ys,v,CK.of (e _ _ ha),h1⟩
 GX:=fun i x H v H' hx e y Gc e1 e2=>by
  obtain⟨x',h0,rfl⟩:=F0 hx;obtain⟨p,u,rfl,hp,rfl,y⟩:=y;have h1:=y ys (CK.of (e _ _ ha));obtain⟨x2,h2,h3⟩:=d.back h1;rw[h0]at h2;cases h2;exact Pu e2 hp (by rw[Du]) (h3.same e1)
def ZN{K:Fg}{G:Hp}{a:AD}{ys:List V}{xs:List PD}(ha:G a=some (.lst ys))(d:BQ G xs ys):LB (ia K a) (ER xs) G where
 stop:=fun H e=>⟨ys,Bo.of (e _ _ ha),by rw[d.len];simp[ER]⟩
 go:=fun i x H hx e=>by
  obtain⟨x',h0,rfl⟩:=F0 hx;obtain⟨v,h1,_⟩:=d.get h0;exact⟨ys,v,Bo.of (e _ _ ha),h1⟩
 GX:=fun i x H v H' hx e y Gc e1 e2=>by
  obtain⟨x',h0,rfl⟩:=F0 hx;obtain⟨p,u,rfl,hp,rfl,y⟩:=y;have h1:=y ys (Bo.of (e _ _ ha));obtain⟨x2,h2,h3⟩:=d.back h1;rw[h0]at h2;cases h2;exact Pu e2 hp (by rw[Du]) (h3.same e1)
def J6(xs ys:List PD):List PD:=(xs.zip ys).map fun q=>.tuple [q.1,q.2]
def QG{xs ys:List PD}{i:Nat}{d:PD}(h:(J6 xs ys)[i]? = some d):∃x y,xs[i]? = some x∧ys[i]? = some y∧d=.tuple [x,y]:=by
 unfold J6 at h;rw[List.getElem?_map]at h;obtain⟨q,h1,rfl⟩:=aC.mp h;obtain⟨k1,k2⟩:=List.getElem?_zip_eq_some.mp h1;exact⟨q.1,q.2,k1,k2,rfl⟩
def fx{G:Hp}{b1 b2:Bool}{a1 a2:AD}{us vs:List V}{xs ys:List PD}(h1:G a1=some (if b1 then .tup us else .lst us))(h2:G a2=some (if b2 then .tup vs else .lst vs))(d1:BQ G xs us)(d2:BQ G ys vs):LB (gQ b1 b2 a1 a2) (J6 xs ys) G where
 stop:=fun H e=>by
  have k1:=e _ _ h1;have k2:=e _ _ h2;refine⟨us,vs,?_,?_,?_⟩
  ·cases b1<;>simpa[G7]using k1
  ·cases b2<;>simpa[G7]using k2
  ·rw[d1.len,d2.len];simp[J6];lia
 go:=fun i x H hx e=>by
  obtain⟨x1,x2,k1,k2,rfl⟩:=QG hx;obtain⟨v1,k3,_⟩:=d1.get k1;obtain⟨v2,k4,_⟩:=d2.get k2;have m1:=e _ _ h1;have m2:=e _ _ h2;refine⟨us,v1,vs,v2,?_,?_,k3,k4⟩
  ·cases b1<;>simpa[G7]using m1
  ·cases b2<;>simpa[G7]using m2
 GX:=fun i x H v H' hx e y Gc e1 e2=>by
  obtain⟨x1,x2,k1,k2,rfl⟩:=QG hx;obtain⟨p,v1,v2,rfl,hp,rfl,y1,y2⟩:=y;have m1:=e _ _ h1;have m2:=e _ _ h2;have z1:=y1 us (by cases b1<;>simpa[G7]using m1);have z2:=y2 vs (by cases b2<;>simpa[G7]using m2);obtain⟨w1,n1,n2⟩:=d1.back z1;obtain⟨w2,n3,n4⟩:=d2.back z2;rw[k1]at n1;cases n1;rw[k2]at n3;cases n3;exact Pu e2 hp (n2.same e1) (n4.same e1)
def DI(X:Cx)(tg iter:Expr)(f:Dv→Option (List PD)):Prop:=∃wi,PI X tg iter wi∧∀δ xs,f δ=some xs→∀G0 H0 G H σ ts (R:It→Hp→Prop),Rw G0 H0 G H σ δ ts→(∀J G' H',Rw G0 H0 G' H' σ δ ts→LB J xs G'→R J H')→wi σ H R
section
variable{X:Cx}{tg a b e:Expr}{f g h:Dv→Option PD}{fs:Dv→Option (List PD)}{pos p:Pos}{sts:List Stmt}{F:DF}
def PI.or{wi wi':TI}(h:PI X tg e wi)(h':PI X tg e wi'):PI X tg e (fun σ H R=>wi σ H R∨wi' σ H R):=fun pins s σ H R I q=>by
 rcases q with q|q
 ·exact h pins s σ H R I q
 ·exact h' pins s σ H R I q
def Ia:PD→Option (List PD)
 |.list xs=>some xs
 |.tuple xs=>some xs
 |_=>none
def CS(he:DE X e f):DI X tg e (fun δ=>(f δ).bind Ia):=by
 obtain⟨t,p,k⟩:=he;refine⟨_,(Ox p).or (i3 p),fun δ xs h G0 H0 G H σ ts R R0 q=>?_⟩;obtain⟨x,h1,h2⟩:=aA.mp h;unfold Ia at h2;split at h2
 ·cases h2
  left
  refine k δ _ h1 G0 H0 G H σ ts _ R0 fun v G' H' R'=>?_;have du:=R'.C6 _ (.head _);rw[Du]at du;obtain⟨a,ys,rfl,n1,n2⟩:=du;exact⟨a,rfl,⟨ys,Bo.of (R'.ins _ _ n1)⟩,q _ _ _ R'.drop (dI n1 n2)⟩
 ·cases h2
  right
  refine k δ _ h1 G0 H0 G H σ ts _ R0 fun v G' H' R'=>?_;have du:=R'.C6 _ (.head _);rw[Du]at du;obtain⟨a,ys,rfl,n1,n2⟩:=du;exact⟨a,rfl,⟨ys,CK.of (R'.ins _ _ n1)⟩,q _ _ _ R'.drop (fS n1 n2)⟩
 ·cases h2
def P6:List PD→Option (List PD)
 |[.int j]=>if -1000000≤j∧j≤1000000 then some (HR 0 j.toNat) else none
 |_=>none
def J8:List PD→Option (List PD)
 |[.int i,.int j]=>if -1000000≤i∧i≤1000000∧-1000000≤j∧j≤1000000 then some (HR i (j-i).toNat) else none
 |_=>none
def N1(hg:Gl X "range")(hm:X.mg "range" = none)(ha:DA X [a] fs)(hs:starEach [a] X.env=[(false,eval a X.env)]:=by rfl):DI X tg (.Call (.Name "range" p) [a] [] pos) (fun δ=>(fs δ).bind P6):=by
 obtain⟨t,p,k⟩:=ha;refine⟨_,Ji hg hm p hs,fun δ xs h G0 H0 G H σ ts R R0 q=>?_⟩;obtain⟨x,h1,h2⟩:=aA.mp h;refine k δ _ h1 G0 H0 G H σ ts _ R0 fun vs G' H' R' hv=>?_;obtain⟨d,R2⟩:=R'.args hv;unfold P6 at h2;split at h2
 ·split at h2
  ·cases h2;obtain⟨u,rfl,du⟩:=d.Ib;rw[Du]at du;subst du;exact⟨_,rfl,by lia,by lia,q _ _ _ R2 Y5⟩
  ·cases h2
 ·cases h2
def J0(hg:Gl X "range")(hm:X.mg "range" = none)(ha:DA X [a,b] fs)(hs:starEach [a,b] X.env=[(false,eval a X.env),(false,eval b X.env)]:=by rfl)(hs2:starEach [b] X.env=[(false,eval b X.env)]:=by rfl):DI X tg (.Call (.Name "range" p) [a,b] [] pos) (fun δ=>(fs δ).bind J8):=by
 obtain⟨t,p,k⟩:=ha;refine⟨_,Yh hg hm p hs hs2,fun δ xs h G0 H0 G H σ ts R R0 q=>?_⟩;obtain⟨x,h1,h2⟩:=aA.mp h;refine k δ _ h1 G0 H0 G H σ ts _ R0 fun vs G' H' R' hv=>?_;obtain⟨d,R2⟩:=R'.args hv;unfold J8 at h2;split at h2
 ·split at h2
  ·cases h2;obtain⟨u,v,rfl,du,dv⟩:=d.PK;rw[Du]at du dv;subst du dv;exact⟨_,_,rfl,⟨by lia,by lia,by lia,by lia⟩,q _ _ _ R2 Y5⟩
  ·cases h2
 ·cases h2
def Ho:List PD→Option (List PD)
 |[.list xs]=>some (ER xs)
 |[.tuple xs]=>some (ER xs)
 |_=>none
def Kg{elts:List Expr}{x1}{tpos:Pos}(hg:Gl X "enumerate")(hm:X.mg "enumerate" = none)(ha:DA X [a] fs)(hs:starEach [a] X.env=[(false,eval a X.env)]:=by rfl):DI X (.Tuple elts x1 tpos) (.Call (.Name "enumerate" p) [a] [] pos) (fun δ=>(fs δ).bind Ho):=by
 obtain⟨t,p,k⟩:=ha;refine⟨_,(Zt hg hm p hs).or (eg hg hm p hs),fun δ xs h G0 H0 G H σ ts R R0 q=>?_⟩;obtain⟨x,h1,h2⟩:=aA.mp h;unfold Ho at h2;split at h2
 ·cases h2
  left
  refine k δ _ h1 G0 H0 G H σ ts _ R0 fun vs G' H' R' hv=>?_;obtain⟨d,R2⟩:=R'.args hv;obtain⟨u,rfl,du⟩:=d.Ib;rw[Du]at du;obtain⟨a,ys,rfl,n1,n2⟩:=du;exact⟨a,rfl,⟨ys,Bo.of (R2.ins _ _ n1)⟩,q _ _ _ R2 (ZN n1 n2)⟩
 ·cases h2
  right
  refine k δ _ h1 G0 H0 G H σ ts _ R0 fun vs G' H' R' hv=>?_;obtain⟨d,R2⟩:=R'.args hv;obtain⟨u,rfl,du⟩:=d.Ib;rw[Du]at du;obtain⟨a,ys,rfl,n1,n2⟩:=du;exact⟨a,rfl,⟨ys,CK.of (R2.ins _ _ n1)⟩,q _ _ _ R2 (ZY n1 n2)⟩
 ·cases h2
def zip2:List PD→Option (List PD)
 |[x,y]=>(Ia x).bind fun xs=>(Ia y).map fun ys=>J6 xs ys
 |_=>none
def Qi{G:Hp}{x:PD}{v:V}{xs:List PD}(h:Du G x v)(e:Ia x=some xs):∃(b:Bool) (a:AD) (ys:List V),v=.ref a∧G a=some (if b then .tup ys else .lst ys)∧BQ G xs ys:=by
 unfold Ia at e;split at e
 ·cases e;rw[Du]at h;obtain⟨a,ys,rfl,n1,n2⟩:=h;exact⟨false,a,ys,rfl,n1,n2⟩
 ·cases e;rw[Du]at h;obtain⟨a,ys,rfl,n1,n2⟩:=h;exact⟨true,a,ys,rfl,n1,n2⟩
 ·cases e
def g9{elts:List Expr}{x1}{tpos:Pos}(hg:Gl X "zip")(hm:X.mg "zip" = none)(ha:DA X [a,b] fs)(hs:starEach [a,b] X.env=[(false,eval a X.env),(false,eval b X.env)]:=by rfl)(hs2:starEach [b] X.env=[(false,eval b X.env)]:=by rfl) :
  DI X (.Tuple elts x1 tpos) (.Call (.Name "zip" p) [a,b] [] pos) (fun δ=>(fs δ).bind zip2):=by
 obtain⟨t,p,k⟩:=ha;refine⟨_,ff hg hm p hs hs2,fun δ xs h G0 H0 G H σ ts R R0 q=>?_⟩;obtain⟨x,h1,h2⟩:=aA.mp h;refine k δ _ h1 G0 H0 G H σ ts _ R0 fun vs G' H' R' hv=>?_;obtain⟨d,R2⟩:=R'.args hv;unfold zip2 at h2;split at h2
 ·obtain⟨xs1,h3,h4⟩:=aA.mp h2;obtain⟨ys1,h5,rfl⟩:=aC.mp h4;obtain⟨u,v,rfl,du,dv⟩:=d.PK;obtain⟨b1,a1,us,rfl,n1,n2⟩:=Qi du h3;obtain⟨b2,a2,ws,rfl,m1,m2⟩:=Qi dv h5;have s1:=R2.ins _ _ n1;have s2:=R2.ins _ _ m1;exact⟨b1,b2,a1,a2,rfl,⟨us,by cases b1<;>simpa[G7]using s1⟩,⟨ws,by cases b2<;>simpa[G7]using s2⟩,q _ _ _ R2 (fx n1 m1 n2 m2)⟩
 ·cases h2
def DG(X:Cx)(tg:Expr)(set:PD→Dv→Option Dv):Prop:=∃g,PG X tg g∧∀δ x δ',set x δ=some δ'→∀G0 H0 G H σ v (Q:St→Hp→Prop),Rw G0 H0 G H σ δ [(x,v)]→(∀σ' G' H',Rw G0 H0 G' H' σ' δ' []→Q σ' H')→g v σ H Q
def DL{i:Nat}{x:Str}(h:PG X (.Name x pos) (FO i)):DG X (.Name x pos) (fun y δ=>some (δ.set i (.d y))) :=
 ⟨_,h,fun δ y δ' e G0 H0 G H σ v Q R k=>by cases e;exact k _ _ _ R.Im⟩
def DV(i j:Nat)(y:PD)(δ:Dv):Option Dv:=match y with
 |.tuple [u,v]=>some ((δ.set i (.d u)).set j (.d v))
 |_=>none
def Gs{x y:Str}{i j:Nat}{px py:Pos}{k1}(h:PG X (.Tuple [.Name x px,.Name y py] k1 pos) (Wl X.K 2 (Le (FO i) (Le (FO j) XS)))):DG X (.Tuple [.Name x px,.Name y py] k1 pos) (DV i j):=by
 refine⟨_,h,fun δ z δ' e G0 H0 G H σ v Q R k=>?_⟩;unfold DV at e;split at e
 ·cases e;have du:=R.C6 _ (.head _);rw[Du]at du;obtain⟨a,ys,rfl,n1,n2⟩:=du;obtain⟨w1,w2,rfl,m1,m2⟩:=n2.PK;refine⟨a,[w1,w2],rfl,CK.of (R.ins _ _ n1),rfl,w1,[w2],rfl,w2,[],rfl,rfl,?_⟩;exact k _ _ _ (((R.drop.put m2).put m1).Im.Im)
 ·cases e
def Ef(set:PD→Dv→Option Dv)(body:DF):List PD→Dv→Option Ou
 |[],δ=>some (.nx δ)
 |x::xs,δ=>match (set x δ).bind body with
  |some (.nx δ')=>Ef set body xs δ'
  |some (.ct δ')=>Ef set body xs δ'
  |some (.bk δ')=>some (.nx δ')
  |some (.rt v)=>some (.rt v)
  |some (.rn v)=>some (.rn v)
  |none=>none
def Cb{set:PD→Dv→Option Dv}(hp:PassesOwn (model X.prog X.w) X.A X.env X.xe)(hc:X.calm=true)(hi:DI X tg e fs)(hg:DG X tg set)(hb:O4 X sts F)(hs:∀x,foldedSetIterable e X.env x=pure x:=by intro _;rfl) :
  DS X (.For tg e sts [] pos) (fun δ=>(fs δ).bind fun xs=>Ef set F xs δ):=by
 obtain⟨wi,pi,ki⟩:=hi;obtain⟨g,pg,kg⟩:=hg;obtain⟨tb,pb,kb⟩:=hb;refine⟨_,Qg hp hc pi pg pb hs,fun δ r h G0 H0 G H σ D R q=>?_⟩;obtain⟨xs,h1,h2⟩:=aA.mp h;refine ki δ xs h1 G0 H0 G H σ [] _ R fun J Ga Ha Ra it=>?_;refine⟨fun i m σ' H'=>m=xs.length-i∧i≤xs.length∧∃δ' G',Ef set F (xs.drop i) δ'=some r∧Rw G0 H0 G' H' σ' δ' []∧Ak Ga G',⟨xs.length,by simp,Nat.zero_le _,δ,Ga,by simpa using h2,Ra,Ak.refl _⟩,?_⟩;rintro i m σ1 H1 ⟨rfl,hi,δ1,G1,f1,R1,s1⟩;have sH:Ak Ga H1:=s1.trans R1.ins;by_cases hlt:i<xs.length
 ·right
  have hx:xs[i]? = some xs[i]:=by simp[hlt]
  refine⟨it.go i _ H1 hx sH,fun σ' H'=>i+1≤xs.length∧∃δ' G',Ef set F (xs.drop (i+1)) δ'=some r∧Rw G0 H0 G' H' σ' δ' []∧Ak Ga G',fun σ' H' n=>⟨xs.length-(i+1),by lia,rfl,n⟩,fun x H' y=>?_⟩;obtain⟨G2,e1,e2,e3,e4,e5⟩:=it.GX i _ H1 x H' hx sH y G1 s1 R1.ins;have R2:=(R1.lift e1 e2 e3 e4).put e5;have s2:=s1.trans e1;rw[List.drop_eq_getElem_cons hlt]at f1;unfold Ef at f1;cases hb2:(set xs[i] δ1).bind F with
  |none=>rw[hb2]at f1;cases f1
  |some o =>
   obtain⟨δ2,k1,k2⟩:=aA.mp hb2;rw[hb2]at f1;have R2b:=R2.base;refine kg δ1 _ δ2 k1 G2 H0 G2 H' σ1 x _ R2b fun σ3 G3 H3 R3=>?_;refine kb δ2 o k2 G2 H0 G3 H3 σ3 _ R3 ?_;cases o with
   |nx δ3=>exact fun σ4 G4 H4 R4=>⟨hlt,δ3,G4,f1,R2.drop.UG R4,s2.trans R4.ext⟩
   |ct δ3=>exact fun σ4 G4 H4 R4=>⟨hlt,δ3,G4,f1,R2.drop.UG R4,s2.trans R4.ext⟩
   |bk δ3=>cases f1;exact fun σ4 G4 H4 R4=>q σ4 G4 H4 (R2.drop.UG R4)
   |rt v=>cases f1;exact fun w G4 H4 h1 h2 h3 h4 h5=>q w G4 H4 (R2.ext.trans h1) (R2.new.trans h2) h3 h4 h5
   |rn v=>cases f1;exact fun w ys G4 H4 h1 h2=>q w ys G4 H4 (R2.ext.trans h1) (R2.new.trans h2)
 ·left
  have e:i=xs.length:=by lia
  subst e;refine⟨it.stop H1 sH,?_⟩;rw[List.drop_length]at f1;unfold Ef at f1;cases f1;exact q _ _ _ R1
end
def tD(f:Dv→Option PD):TE:=fun σ H Q=>∃δ x G0 H0 G ts,f δ=some x∧Rw G0 H0 G H σ δ ts∧∀v G' H',Rw G0 H0 G' H' σ δ ((x,v)::ts)→Q v H'
def V9(f:Dv→Option Bool):TT:=fun σ H Q=>∃δ x G0 H0 G ts,f δ=some x∧Rw G0 H0 G H σ δ ts∧∀G' H',Rw G0 H0 G' H' σ δ ts→Q x H'
def DE.pe{X:Cx}{e:Expr}{f:Dv→Option PD}(h:DE X e f):PE X e (tD f):=by
 obtain⟨t,p,k⟩:=h;intro pins s σ H Q I q;obtain⟨δ,x,G0,H0,G,ts,h1,h2,h3⟩:=q;exact p pins s σ H Q I (k δ x h1 G0 H0 G H σ ts Q h2 h3)
def DT.pt{X:Cx}{e:Expr}{f:Dv→Option Bool}(h:DT X e f):PT X e (V9 f):=by
 obtain⟨t,p,k⟩:=h;intro pins s σ H Q I q;obtain⟨δ,x,G0,H0,G,ts,h1,h2,h3⟩:=q;exact p pins s σ H Q I (k δ x h1 G0 H0 G H σ ts Q h2 h3)
def Yr(X:Cx)(ifs:List Expr)(f:Dv→Option Bool):Prop:=NI X ifs (V9 f)
def FK{X:Cx}:Yr X [] (fun _=>some true):=by
 intro pins s σ H Q I q;obtain⟨δ,x,G0,H0,G,ts,h1,h2,h3⟩:=q;cases h1;exact L8 pins s σ H Q I (h3 _ _ h2)
def Oa{X:Cx}{c:Expr}{f:Dv→Option Bool}(h:DT X c f):Yr X [c] f:=eS h.pt
def DQ(fr:List (Option Nat))(δ:Dv):Dv:=fr.map fun o=>match o with
 |some j=>(match δ[j]? with|some (.d x)=>.d x|_=>.no)
 |none=>.no
def Rw.inner{G0 H0 G H:Hp}{σ:St}{δ:Dv}{ts:List (PD×V)}(fr:List (Option Nat))(r:Rw G0 H0 G H σ δ ts):Rw G H G H (carry fr σ) (DQ fr δ) ts:=by
 have key:∀(i:Nat) (l:L),(DQ fr δ)[i]? = some l→∃o,fr[i]? = some o∧l=(match o with|some j=>(match δ[j]? with|some (.d x)=>.d x|_=>.no)|none=>.no):=fun i l h=>by
  unfold DQ at h;rw[List.getElem?_map]at h;obtain⟨o,h1,rfl⟩:=aC.mp h;exact⟨o,h1,rfl⟩
 have noown:∀(i:Nat) (xs:Oc),(DQ fr δ)[i]?≠some (L.own xs):=fun i xs h=>by
  obtain⟨o,_,h2⟩:=key i _ h;split at h2
  ·split at h2<;>cases h2
  ·cases h2
 refine⟨Ak.refl _,Nw.refl,r.ins,Ak.refl _,by simp[carry,DQ],fun i x h=>?_,fun i xs h=>absurd h (noown i xs),fun i j xs ys _ h=>absurd h (noown i xs),r.C6⟩;obtain⟨o,h1,h2⟩:=key i _ h;split at h2
 ·rename_i j;split at h2
  ·rename_i y hy;cases h2;obtain⟨v,k1,k2⟩:=r.dat j _ hy;refine⟨v,?_,k2⟩;unfold carry;rw[List.getElem?_map,h1];simp[k1]
  ·cases h2
 ·cases h2
def Rw.other{G0 H0 G H:Hp}{σ:St}{δ:Dv}{ts:List (PD×V)}{D:AD}{o:HO}(r:Rw G0 H0 G H σ δ ts)(hG:G D=none)(h0:H0 D=none)(ho:∀(i:Nat) (xs:Oc),δ[i]? = some (L.own xs)→σ[i]?≠some (some (V.ref D))):Rw G0 H0 G (upd H D o) σ δ ts:=by
 refine⟨r.ext,r.new,fun a u h=>?_,fun a u h=>?_,r.len,r.dat,fun i xs h=>?_,r.apart,r.C6⟩
 ·rw[AZ (fun z=>by subst z;rw[hG]at h;cases h)];exact r.ins _ _ h
 ·rw[AZ (fun z=>by subst z;rw[h0]at h;cases h)];exact r.keep _ _ h
 ·obtain⟨a,ys,k1,k2,k3,k4,k5⟩:=r.own i xs h;exact⟨a,ys,k1,k2,k3,by rw[AZ (fun z=>by subst z;exact ho i xs h k1)];exact k4,k5⟩
def Rw.adopt{G0 H0 G H:Hp}{σ:St}{δ:Dv}{ts:List (PD×V)}{D:AD}{ys:List V}(r:Rw G0 H0 G H σ δ ts)(hD:H D=some (.lst ys))(hG:G D=none)(h0:H0 D=none)(ho:∀(i:Nat) (xs:Oc),δ[i]? = some (L.own xs)→σ[i]?≠some (some (V.ref D))):Rw G0 H0 (upd G D (.lst ys)) H σ δ ts:=by
 have e:Ak G (upd G D (.lst ys)):=Bv hG _;refine⟨r.ext.trans e,fun a u h=>?_,fun a u h=>?_,r.keep,r.len,fun i x h=>?_,fun i xs h=>?_,r.apart,fun q hq=>(r.C6 q hq).same e⟩
 ·by_cases ha:a=D
  ·subst ha;exact .inr (.inl h0)
  ·rw[AZ ha]at h;exact r.new _ _ h
 ·by_cases ha:a=D
  ·subst ha;rw[Au]at h;rw[hD];exact h
  ·rw[AZ ha]at h;exact r.ins _ _ h
 ·obtain⟨v,k1,k2⟩:=r.dat i x h;exact⟨v,k1,k2.same e⟩
 ·obtain⟨a,zs,k1,k2,k3,k4,k5⟩:=r.own i xs h;have ha:a≠D:=fun z=>by subst z;exact ho i xs h k1
  exact⟨a,zs,k1,by rw[AZ ha];exact k2,k3,k4,k5.same e⟩
def IP(set:PD→Dv→Option Dv)(tif:Dv→Option Bool)(f:Dv→Option PD)(δ:Dv)(x:PD):Option (Option PD) :=
 (set x δ).bind fun δ1=>(tif δ1).bind fun b=>if b=true then(f δ1).map some else some none
def collect(one:PD→Option (Option PD)):List PD→Option (List PD)
 |[]=>some []
 |x::xs=>(one x).bind fun o=>(collect one xs).map fun r=>o.toList++r
def F9(set:PD→Dv→Option Dv)(tif:Dv→Option Bool)(f:Dv→Option PD)(fr:List (Option Nat))(fs:Dv→Option (List PD))(δ:Dv):Option (List PD) :=
 (fs δ).bind fun xs=>(collect (IP set tif f (DQ fr δ)) xs).bind IZ
def B5(set:PD→Dv→Option Dv)(tif:Dv→Option Bool)(f:Dv→Option PD)(fr:List (Option Nat))(fs:Dv→Option (List PD))(δ:Dv):Option PD :=
 (F9 set tif f fr fs δ).map .list
structure V2(G0 H0 Ga:Hp)(σ:St)(δ:Dv)(ts:List (PyData×V))(one:PyData→Option (Option PyData))(xs full:List PyData)(D:Addr)(i:Nat)(ys:List V)(H:Hp):Prop where
 ex:∃G done rest,Rw G0 H0 G H σ δ ts∧Ak Ga G∧G D=none∧collect one (xs.drop i)=some rest∧done++rest=full∧BQ G done ys
 h0:H0 D=none
 ap:∀(j:Nat) (us:Oc),δ[j]? = some (L.own us)→σ[j]?≠some (some (V.ref D))
def RH{G0 H0 G H:Hp}{D:AD}{ys:List V}(hG:G0 D=none)(hD:H0 D=some (.lst ys))(n:Nw G0 H0 G)(e:Ak G H)(k:Ak H0 H):G D=none:=by
 cases q:G D with
 |none=>rfl
 |some o =>
  rcases n _ _ q with z|z|⟨us,z⟩
  ·rw[hG]at z;cases z
  ·rw[hD]at z;cases z
  ·have:=e _ _ q;rw[k _ _ hD,z]at this;cases this
section
variable{X:Cx}{elt iter:Expr}{x y:Str}{px pos:Pos}{ifs:List Expr}{scope:Scope}{fs:Dv→Option (List PD)}{tif:Dv→Option Bool}{f:Dv→Option PD}
def Cq(i:Nat)(y:PD)(δ:Dv):Option Dv:=some (δ.set i (.d y))
def W0{wi:TI}{ix:Nat}{fr:List (Option Nat)}(ki:∀(δ:Dv) (xs:List PD),fs δ=some xs→∀(G0 H0 G H:Hp) (σ:St) (ts:List (PD×V)) (R:It→Hp→Prop),Rw G0 H0 G H σ δ ts→(∀J G' H',Rw G0 H0 G' H' σ δ ts→LB J xs G'→R J H')→wi σ H R){δ:Dv}{zs:List PD}(hz:F9 (Cq ix) tif f fr fs δ=some zs){G0 H0 G H:Hp}{σ:St}{ts:List (PD×V)}{Q:VK}(R0:Rw G0 H0 G H σ δ ts)(k:∀D ys G' H',Rw G0 H0 G' H' σ δ ts→H' D=some (.lst ys)→G' D=none→H0 D=none→(∀(j:Nat) (us:Oc),δ[j]? = some (L.own us)→σ[j]?≠some (some (V.ref D)))→BQ G' zs ys→Q (.ref D) H') :
  TV wi fr ix (V9 tif) (tD f) σ H Q:=by
 unfold F9 at hz;obtain⟨xs,m2,m3⟩:=aA.mp hz;obtain⟨full,m4,m5⟩:=aA.mp m3;obtain⟨rfl,hfew⟩:=Nd m5;refine ki δ xs m2 G0 H0 G H σ ts _ R0 fun J Ga Ha Ra it D hD=>?_;have hGD:Ga D=none:=by
  cases q:Ga D with
  |none=>rfl
  |some u=>rw[Ra.ins _ _ q]at hD;cases hD
 have hHD:H0 D=none:=by
  cases q:H0 D with
  |none=>rfl
  |some u=>rw[Ra.keep _ _ q]at hD;cases hD
 have hap:∀(j:Nat) (us:Oc),δ[j]? = some (L.own us)→σ[j]?≠some (some (V.ref D)):=fun j us h z=>by
  obtain⟨a,ys,k1,k2,k3,k4,k5⟩:=Ra.own j us h;rw[z]at k1;cases k1;rw[k4]at hD;cases hD
 refine MM (n:=xs.length) (V2 G0 H0 Ga σ δ ts (IP (Cq ix) tif f (DQ fr δ)) xs full D) ⟨⟨Ga,[],full,Ra.other hGD hHD hap,Ak.refl _,hGD,by simpa using m4,rfl,.nil⟩,hHD,hap⟩ ?_ ?_
 ·rintro i ys H1 hlt ⟨⟨G1,done,rest,R1,s1,g1,c1,e1,d1⟩,_,_⟩ hD1;have hx:xs[i]? = some xs[i]:=by simp[hlt]
  have sH:=s1.trans R1.ins;have hyl:ys.length<sizeLine:=R9 (by
   rw[d1.len];have:done.length≤full.length:=by rw[←e1];simp
   lia)
  refine⟨it.go i _ H1 hx sH,hyl,fun v H' y=>?_⟩;obtain⟨G2,n1,n2,n3,n4,n5⟩:=it.GX i _ H1 v H' hx sH y G1 s1 R1.ins;have R2:=R1.lift n1 n2 n3 n4;have hD2:=n4 _ _ hD1;have g2:G2 D=none:=RH g1 hD1 n2 n3 n4;rw[List.drop_eq_getElem_cons hlt]at c1;unfold collect at c1;obtain⟨o,c2,c3⟩:=aA.mp c1;obtain⟨rest',c4,rfl⟩:=aC.mp c3;unfold IP Cq at c2;simp only[Option.bind_some]at c2;obtain⟨b,c5,c6⟩:=aA.mp c2;have Ri:=((R2.inner fr).put n5).Im (i:=ix);have Ri0:Rw G2 H' G2 H' ((carry fr σ).set ix (some v)) ((DQ fr δ).set ix (.d xs[i])) []:=Ri.less fun q hq=>by cases hq
  refine⟨_,b,G2,H',G2,[],c5,Ri0,fun G3 H3 R3=>?_⟩;have R3o:=R2.lift R3.ext R3.new R3.ins R3.keep;have hD3:=R3.keep _ _ hD2;have g3:G3 D=none:=RH g2 hD2 R3.new R3.ins R3.keep;dsimp only;split
  ·rename_i hb;rw[if_pos hb]at c6;obtain⟨w,c7,rfl⟩:=aC.mp c6;refine⟨_,w,G2,H',G3,[],c7,R3,fun u G4 H4 R4=>?_⟩;have R4o:=R2.lift R4.ext R4.new R4.ins R4.keep;have hD4:=R4.keep _ _ hD2;have g4:G4 D=none:=RH g2 hD2 R4.new R4.ins R4.keep;refine⟨hD4,Kh hlt ⟨⟨G4,done++[w],rest',R4o.other g4 hHD hap,s1.trans (n1.trans R4.ext),g4,c4,by simpa using e1,(d1.same (n1.trans R4.ext)).app (.cons (R4.C6 _ (.head _)) .nil)⟩,hHD,hap⟩⟩
  ·rename_i hb;rw[if_neg hb]at c6;cases c6;exact Vz hlt hD3 ⟨⟨G3,done,rest',R3o,s1.trans (n1.trans R3.ext),g3,c4,by simpa using e1,d1.same (n1.trans R3.ext)⟩,hHD,hap⟩
 ·rintro ys H1 ⟨⟨G1,done,rest,R1,s1,g1,c1,e1,d1⟩,_,_⟩ hD1;refine⟨it.stop H1 (s1.trans R1.ins),?_⟩;rw[List.drop_length]at c1;cases c1;rw[List.append_nil]at e1;subst e1;exact k _ _ _ _ R1 hD1 g1 hHD hap d1
def YZ{wi:TI}{ix:Nat}{fr:List (Option Nat)}(ki:∀(δ:Dv) (xs:List PD),fs δ=some xs→∀(G0 H0 G H:Hp) (σ:St) (ts:List (PD×V)) (R:It→Hp→Prop),Rw G0 H0 G H σ δ ts→(∀J G' H',Rw G0 H0 G' H' σ δ ts→LB J xs G'→R J H')→wi σ H R){δ:Dv}{z:PD}(hz:B5 (Cq ix) tif f fr fs δ=some z){G0 H0 G H:Hp}{σ:St}{ts:List (PD×V)}{Q:VK}(R0:Rw G0 H0 G H σ δ ts)(k:∀v G' H',Rw G0 H0 G' H' σ δ ((z,v)::ts)→Q v H') :
  TV wi fr ix (V9 tif) (tD f) σ H Q:=by
 unfold B5 at hz;obtain⟨full,m1,rfl⟩:=aC.mp hz;refine W0 ki m1 R0 fun D ys G1 H1 R1 hD1 g1 hHD hap d1=>?_;have e:Ak G1 (upd G1 D (.lst ys)):=Bv g1 _;have R2:=R1.adopt hD1 g1 hHD hap;refine k _ _ _ (R2.put ?_);rw[Du];exact⟨D,ys,rfl,Au,d1.same e⟩
def FH(N:List Str)(ix:Nat)(fr:List (Option Nat))(hi:DI X (.Name x px) iter fs)(hif:∀cl C s₀ H₀ fp,Yr (Be X scope cl N C s₀ H₀ fp) ifs tif)(he:∀cl C s₀ H₀ fp,DE (Be X scope cl N C s₀ H₀ fp) elt f)
 (h1:DD scope N x ix=true:=by decide +kernel)(h2:X.calm=true:=by rfl)(h3:G5 N X.N scope X.env.scope fr 0=true:=by rfl)(h4:fr.length=N.length:=by rfl)(h5:freeOk X.env.scope scope.names=true:=by rfl)
 (hs:∀x,foldedSetIterable iter X.env x=pure x:=by intro _;rfl):DE X (.ListComp elt [⟨.Name x px,iter,ifs,0⟩] scope pos) (B5 (Cq ix) tif f fr fs):=by
 obtain⟨wi,pi,ki⟩:=hi;exact⟨_,K9 N ix fr pi hif (fun cl C s₀ H₀ fp=>(he cl C s₀ H₀ fp).pe) h1 h2 h3 h4 h5 hs,fun δ z hz G0 H0 G H σ ts Q R0 k=>YZ ki hz R0 k⟩
end
section
variable{X:Cx}{elt iter:Expr}{x y:Str}{px py tp pos:Pos}{tk:Nat}{ifs:List Expr}{scope:Scope}{fs:Dv→Option (List PD)}{tif:Dv→Option Bool}{f:Dv→Option PD}
def Vc{wi:TI}{ix iy:Nat}{fr:List (Option Nat)}(ki:∀(δ:Dv) (xs:List PD),fs δ=some xs→∀(G0 H0 G H:Hp) (σ:St) (ts:List (PD×V)) (R:It→Hp→Prop),Rw G0 H0 G H σ δ ts→(∀J G' H',Rw G0 H0 G' H' σ δ ts→LB J xs G'→R J H')→wi σ H R){δ:Dv}{zs:List PD}(hz:F9 (DV ix iy) tif f fr fs δ=some zs){G0 H0 G H:Hp}{σ:St}{ts:List (PD×V)}{Q:VK}(R0:Rw G0 H0 G H σ δ ts)(k:∀D ys G' H',Rw G0 H0 G' H' σ δ ts→H' D=some (.lst ys)→G' D=none→H0 D=none→(∀(j:Nat) (us:Oc),δ[j]? = some (L.own us)→σ[j]?≠some (some (V.ref D)))→BQ G' zs ys→Q (.ref D) H') :
  L5 X.K wi fr ix iy (V9 tif) (tD f) σ H Q:=by
 unfold F9 at hz;obtain⟨xs,m2,m3⟩:=aA.mp hz;obtain⟨full,m4,m5⟩:=aA.mp m3;obtain⟨rfl,hfew⟩:=Nd m5;refine ki δ xs m2 G0 H0 G H σ ts _ R0 fun J Ga Ha Ra it D hD=>?_;have hGD:Ga D=none:=by
  cases q:Ga D with
  |none=>rfl
  |some u=>rw[Ra.ins _ _ q]at hD;cases hD
 have hHD:H0 D=none:=by
  cases q:H0 D with
  |none=>rfl
  |some u=>rw[Ra.keep _ _ q]at hD;cases hD
 have hap:∀(j:Nat) (us:Oc),δ[j]? = some (L.own us)→σ[j]?≠some (some (V.ref D)):=fun j us h z=>by
  obtain⟨a,ys,k1,k2,k3,k4,k5⟩:=Ra.own j us h;rw[z]at k1;cases k1;rw[k4]at hD;cases hD
 refine ZO (n:=xs.length) (V2 G0 H0 Ga σ δ ts (IP (DV ix iy) tif f (DQ fr δ)) xs full D) ⟨⟨Ga,[],full,Ra.other hGD hHD hap,Ak.refl _,hGD,by simpa using m4,rfl,.nil⟩,hHD,hap⟩ ?_ ?_
 ·rintro i ys H1 hlt ⟨⟨G1,done,rest,R1,s1,g1,c1,e1,d1⟩,_,_⟩ hD1;have hx:xs[i]? = some xs[i]:=by simp[hlt]
  have sH:=s1.trans R1.ins;have hyl:ys.length<sizeLine:=R9 (by
   rw[d1.len];have:done.length≤full.length:=by rw[←e1];simp
   lia)
  refine⟨it.go i _ H1 hx sH,hyl,fun v H' y=>?_⟩;obtain⟨G2,n1,n2,n3,n4,n5⟩:=it.GX i _ H1 v H' hx sH y G1 s1 R1.ins;have R2:=R1.lift n1 n2 n3 n4;have hD2:=n4 _ _ hD1;have g2:G2 D=none:=RH g1 hD1 n2 n3 n4;rw[List.drop_eq_getElem_cons hlt]at c1;unfold collect at c1;obtain⟨o,c2,c3⟩:=aA.mp c1;obtain⟨rest',c4,rfl⟩:=aC.mp c3;unfold IP at c2;obtain⟨δ1,c8,c9⟩:=aA.mp c2;obtain⟨b,c5,c6⟩:=aA.mp c9;unfold DV at c8;split at c8
  ·rename_i u1 u2 hu;cases c8;rw[hu,Du]at n5;obtain⟨pa,ps,rfl,q1,q2⟩:=n5;obtain⟨w1,w2,rfl,q3,q4⟩:=q2.PK;have Ri:=(((R2.inner fr).put q4).put q3).Im (i:=ix) |>.Im (i:=iy)
   have Ri0:Rw G2 H' G2 H' (((carry fr σ).set ix (some w1)).set iy (some w2)) (((DQ fr δ).set ix (.d u1)).set iy (.d u2)) []:=Ri.less fun q hq=>by cases hq
   refine⟨pa,w1,w2,rfl,CK.of (n3 _ _ q1),?_⟩;refine⟨_,b,G2,H',G2,[],c5,Ri0,fun G3 H3 R3=>?_⟩;have R3o:=R2.lift R3.ext R3.new R3.ins R3.keep;have hD3:=R3.keep _ _ hD2;have g3:G3 D=none:=RH g2 hD2 R3.new R3.ins R3.keep;dsimp only;split
   ·rename_i hb;rw[if_pos hb]at c6;obtain⟨w,c7,rfl⟩:=aC.mp c6;refine⟨_,w,G2,H',G3,[],c7,R3,fun u G4 H4 R4=>?_⟩;have R4o:=R2.lift R4.ext R4.new R4.ins R4.keep;have hD4:=R4.keep _ _ hD2;have g4:G4 D=none:=RH g2 hD2 R4.new R4.ins R4.keep;refine⟨hD4,Kh hlt ⟨⟨G4,done++[w],rest',R4o.other g4 hHD hap,s1.trans (n1.trans R4.ext),g4,c4,by simpa using e1,(d1.same (n1.trans R4.ext)).app (.cons (R4.C6 _ (.head _)) .nil)⟩,hHD,hap⟩⟩
   ·rename_i hb;rw[if_neg hb]at c6;cases c6;exact Vz hlt hD3 ⟨⟨G3,done,rest',R3o,s1.trans (n1.trans R3.ext),g3,c4,by simpa using e1,d1.same (n1.trans R3.ext)⟩,hHD,hap⟩
  ·cases c8
 ·rintro ys H1 ⟨⟨G1,done,rest,R1,s1,g1,c1,e1,d1⟩,_,_⟩ hD1;refine⟨it.stop H1 (s1.trans R1.ins),?_⟩;rw[List.drop_length]at c1;cases c1;rw[List.append_nil]at e1;subst e1;exact k _ _ _ _ R1 hD1 g1 hHD hap d1
def Q5{wi:TI}{ix iy:Nat}{fr:List (Option Nat)}(ki:∀(δ:Dv) (xs:List PD),fs δ=some xs→∀(G0 H0 G H:Hp) (σ:St) (ts:List (PD×V)) (R:It→Hp→Prop),Rw G0 H0 G H σ δ ts→(∀J G' H',Rw G0 H0 G' H' σ δ ts→LB J xs G'→R J H')→wi σ H R){δ:Dv}{z:PD}(hz:B5 (DV ix iy) tif f fr fs δ=some z){G0 H0 G H:Hp}{σ:St}{ts:List (PD×V)}{Q:VK}(R0:Rw G0 H0 G H σ δ ts)(k:∀v G' H',Rw G0 H0 G' H' σ δ ((z,v)::ts)→Q v H') :
  L5 X.K wi fr ix iy (V9 tif) (tD f) σ H Q:=by
 unfold B5 at hz;obtain⟨full,m1,rfl⟩:=aC.mp hz;refine Vc ki m1 R0 fun D ys G1 H1 R1 hD1 g1 hHD hap d1=>?_;have e:Ak G1 (upd G1 D (.lst ys)):=Bv g1 _;have R2:=R1.adopt hD1 g1 hHD hap;refine k _ _ _ (R2.put ?_);rw[Du];exact⟨D,ys,rfl,Au,d1.same e⟩
def UD(N:List Str)(ix iy:Nat)(fr:List (Option Nat))(hi:DI X (.Tuple [.Name x px,.Name y py] tk tp) iter fs)(hif:∀cl C s₀ H₀ fp,Yr (Be X scope cl N C s₀ H₀ fp) ifs tif)(he:∀cl C s₀ H₀ fp,DE (Be X scope cl N C s₀ H₀ fp) elt f)
 (h1:DD scope N x ix=true:=by decide +kernel)(h1':DD scope N y iy=true:=by decide +kernel)(hxy:ix≠iy:=by decide)(h2:X.calm=true:=by rfl)(h3:G5 N X.N scope X.env.scope fr 0=true:=by rfl)(h4:fr.length=N.length:=by rfl)(h5:freeOk X.env.scope scope.names=true:=by rfl)
 (hs:∀x,foldedSetIterable iter X.env x=pure x:=by intro _;rfl):DE X (.ListComp elt [⟨.Tuple [.Name x px,.Name y py] tk tp,iter,ifs,0⟩] scope pos) (B5 (DV ix iy) tif f fr fs):=by
 obtain⟨wi,pi,ki⟩:=hi;exact⟨_,YE N ix iy fr pi hif (fun cl C s₀ H₀ fp=>(he cl C s₀ H₀ fp).pe) h1 h1' hxy h2 h3 h4 h5 hs,fun δ z hz G0 H0 G H σ ts Q R0 k=>Q5 ki hz R0 k⟩
def Ph{i:Nat}{z:Str}{pz spos:Pos}(N:List Str)(ix iy:Nat)(fr:List (Option Nat))(hN:X.N.Nodup)(hyi:X.N[i]? = some z)(hly:X.env.scope.names.lookup z=some .local)(hi:DI X (.Tuple [.Name x px,.Name y py] tk tp) iter fs)(hif:∀cl C s₀ H₀ fp,Yr (Be X scope cl N C s₀ H₀ fp) ifs tif)(he:∀cl C s₀ H₀ fp,DE (Be X scope cl N C s₀ H₀ fp) elt f)
 (h1:DD scope N x ix=true:=by decide +kernel)(h1':DD scope N y iy=true:=by decide +kernel)(hxy:ix≠iy:=by decide)(h2:X.calm=true:=by rfl)(h3:G5 N X.N scope X.env.scope fr 0=true:=by rfl)(h4:fr.length=N.length:=by rfl)(h5:freeOk X.env.scope scope.names=true:=by rfl)
 (hsw:swapsWith (.ListComp elt [⟨.Tuple [.Name x px,.Name y py] tk tp,iter,ifs,0⟩] scope pos) (some (.Name z pz)) spos.line X.env=pure true:=by rfl)
 (hs:∀x,foldedSetIterable iter X.env x=pure x:=by intro _;rfl):DS X (.Assign [.Name z pz] (.ListComp elt [⟨.Tuple [.Name x px,.Name y py] tk tp,iter,ifs,0⟩] scope pos) spos) (fun δ=>(B5 (DV ix iy) tif f fr fs δ).map fun y=>.nx (δ.set i (.d y))):=by
 obtain⟨wi,pi,ki⟩:=hi;refine⟨_,U2 N ix iy fr hN hyi hly pi hif (fun cl C s₀ H₀ fp=>(he cl C s₀ H₀ fp).pe) h1 h1' hxy h2 h3 h4 h5 hsw hs,fun δ r h G0 H0 G H σ D R q=>?_⟩;obtain⟨y2,m1,rfl⟩:=aC.mp h;exact Q5 ki m1 R fun v G' H' R'=>q _ _ _ R'.Im
def Lo(N:List Str)(ds:List PD):Dv:=ds.map .d++List.replicate (N.length-ds.length) .no
def CV(ps N:List Str)(F:DF)(ds:List PD):Option PD:=if ds.length=ps.length then(match F (Lo N ds) with
 |some (.rt x)=>some x
 |some (.nx _)=>some .none
 |some (.rn xs)=>some (.list xs)
 |_=>none) else none
def Rw.start{N:List Str}{ds:List PD}{vs:List V}{G H:Hp}(d:BQ G ds vs)(e:Ak G H):Rw G H G H (start N vs) (Lo N ds) []:=by
 have hl:=d.len;refine⟨Ak.refl _,Nw.refl,e,Ak.refl _,by simp[L2.start,Lo,hl],fun i x h=>?_,fun i xs h=>?_,fun i j xs ys _ h=>?_,fun q hq=>by cases hq⟩
 ·unfold Lo at h;by_cases hi:i<ds.length
  ·rw[List.getElem?_append_left (by simpa using hi),List.getElem?_map]at h;obtain⟨y,h1,h2⟩:=aC.mp h;cases h2;obtain⟨v,h3,h4⟩:=d.get h1;refine⟨v,?_,h4⟩;unfold L2.start;rw[List.getElem?_append_left (by simp;lia),List.getElem?_map,h3];rfl
  ·rw[List.getElem?_append_right (by simpa using hi),List.getElem?_replicate]at h;split at h<;>cases h
 ·unfold Lo at h;by_cases hi:i<ds.length
  ·rw[List.getElem?_append_left (by simpa using hi),List.getElem?_map]at h;obtain⟨y,h1,h2⟩:=aC.mp h;cases h2
  ·rw[List.getElem?_append_right (by simpa using hi),List.getElem?_replicate]at h;split at h<;>cases h
 ·unfold Lo at h;by_cases hi:i<ds.length
  ·rw[List.getElem?_append_left (by simpa using hi),List.getElem?_map]at h;obtain⟨y,h1,h2⟩:=aC.mp h;cases h2
  ·rw[List.getElem?_append_right (by simpa using hi),List.getElem?_replicate]at h;split at h<;>cases h
def jg{G H G' H':Hp}{a:AD}{ys:List V}{xs:List PD}(m1:Ak G G')(m2:Nw G H G')(m3:Ak G' H')(m5:H a=none)(m6:G' a=none)(m7:H' a=some (.lst ys))(m8:BQ G' xs ys) :
  Ak G (upd G' a (.lst ys))∧Nw G H (upd G' a (.lst ys))∧Ak (upd G' a (.lst ys)) H'∧Du (upd G' a (.lst ys)) (.list xs) (.ref a):=by
 refine⟨m1.trans (Bv m6 _),fun b o hb=>?_,fun b o hb=>?_,?_⟩
 ·by_cases z:b=a
  ·subst z;exact .inr (.inl m5)
  ·rw[AZ z]at hb;exact m2 _ _ hb
 ·by_cases z:b=a
  ·subst z;rw[Au]at hb;rw[m7];exact hb
  ·rw[AZ z]at hb;exact m3 _ _ hb
 ·rw[Du];exact⟨a,ys,rfl,Au,m8.same (Bv m6 _)⟩
def EC{P:Program}{w:World}{K:Fg}{mg:Str→Option VL}{base:Heap}{x:Str}{st:Stmt}{fA:AD}{fd:FuncData}{N ps:List Str}{k:Nat}{F:DF}(T:Fn K mg x st ps fA fd)(S:Av N ps (Ab st))
 (hb:∀(cdv:VL) (A:Around) (outer:List Env) (s:SD) (H:Hp) (E:XK),Fc k (A.deeper (envOfC x (Ab st) s.heap.objs.size fA cdv))→O4 (Nv Ar P w K mg base N x (Ab st) fA cdv A outer s H E).Vq (FJ st) F) :
  AV P w K mg base Ar (k+1) fA fd ps (BD (CV ps N F)):=by
 refine T.F.ok S (fun vs H Q E h=>?_) fun cdv A outer s H vs Q E hr h=>?_
 ·obtain⟨ds,y,G,h1,h2,_⟩:=h;unfold CV at h1;split at h1
  ·rename_i hl;rw[h2.len];exact hl
  ·cases h1
 ·obtain⟨ds,y,G,h1,h2,h3,h4⟩:=h;obtain⟨t,p,kk⟩:=hb cdv A outer s H E hr;refine⟨t,p,?_⟩;unfold CV at h1;split at h1
  ·split at h1
   ·rename_i z e1;cases h1;exact kk _ _ e1 G H G H _ _ (Rw.start h2 h3) fun v G' H' m1 m2 m3 m4 m5=>h4 v G' H' m1 m2 m3 m4 m5
   ·rename_i δ e1;cases h1;exact kk _ _ e1 G H G H _ _ (Rw.start h2 h3) fun σ' G' H' R=>h4 .CT G' H' R.ext R.new R.ins R.keep (by rw[Du])
   ·rename_i xs e1;cases h1;exact kk _ _ e1 G H G H _ _ (Rw.start h2 h3) fun a ys G' H' m1 m2 m3 m4 m5 m6 m7 m8=>let⟨n1,n2,n3,n4⟩:=jg m1 m2 m3 m5 m6 m7 m8;h4 _ _ H' n1 n2 n3 m4 n4
   ·cases h1
  ·cases h1
end
section
variable{X:Cx}{tg a b c e:Expr}{f g h:Dv→Option PD}{fa:Dv→Option Bool}{pos p p2:Pos}{sts:List Stmt}{F:DF}
def JL{x:Str}{i:Int}{tk:Tok}(hg:Gl X x)(hm:X.mg x=some (.int i tk))(hd:(x==("__debug__" : Str))=false:=by decide):DE X (.Name x pos) (fun _=>some (.int i)) :=
 ⟨_,dg (v:=.int i) hg hm ⟨tk,rfl⟩ hd,fun δ x h G0 H0 G H σ ts Q r k=>by cases h;exact k _ _ _ (r.put (by rw[Du]))⟩
def U4{set:PD→Dv→Option Dv}(he:DE X e f)(hg:DG X tg set)(hs:swapsWithSole [tg] e pos.line X.env=pure false:=by rfl)(hw:swappedStores [tg] e X.env=pure none:=by rfl)
 (h1:(assignEach [tg] X.env).map (·.2)=[assign tg X.env]:=by rfl):DS X (.Assign [tg] e pos) (fun δ=>(f δ).bind fun y=>(set y δ).map .nx):=by
 obtain⟨t,p,k⟩:=he;obtain⟨g,pg,kg⟩:=hg;refine⟨_,Qp p pg hs hw h1,fun δ r h G0 H0 G H σ D R q=>?_⟩;obtain⟨y,m1,m2⟩:=aA.mp h;obtain⟨δ',m3,rfl⟩:=aC.mp m2;exact k δ y m1 G0 H0 G H σ [] _ R fun v G' H' R'=>kg δ y δ' m3 G0 H0 G' H' σ v _ R' q
def Kx(fa:Dv→Option Bool)(F:DF):Nat→Dv→Option Ou
 |0,_=>none
 |n+1,δ=>(fa δ).bind fun b=>if b=true then(match F δ with
  |some (.nx δ')=>Kx fa F n δ'
  |some (.ct δ')=>Kx fa F n δ'
  |some (.bk δ')=>some (.nx δ')
  |some (.rt v)=>some (.rt v)
  |some (.rn v)=>some (.rn v)
  |none=>none) else some (.nx δ)
def bg(n:Nat)(hp:PassesOwn (model X.prog X.w) X.A X.env X.xe)(hc:DT X c fa)(hb:O4 X sts F):DS X (.While c sts [] pos) (Kx fa F n):=by
 obtain⟨tc,pc,kc⟩:=hc;obtain⟨tb,pb,kb⟩:=hb;refine⟨_,Pp hp pc pb,fun δ r h G0 H0 G H σ D R q=>?_⟩;refine⟨fun m σ' H'=>∃δ' G',Kx fa F m δ'=some r∧Rw G0 H0 G' H' σ' δ' [],⟨n,δ,G,h,R⟩,?_⟩;rintro m σ1 H1 ⟨δ1,G1,f1,R1⟩;cases m with
 |zero=>cases f1
 |succ m =>
  unfold Kx at f1;obtain⟨b,h1,h2⟩:=aA.mp f1;refine kc δ1 b h1 G0 H0 G1 H1 σ1 [] _ R1 fun G2 H2 R2=>?_;dsimp only;split
  ·rename_i hb;rw[if_pos hb]at h2;refine⟨fun σ' H'=>∃δ' G',Kx fa F m δ'=some r∧Rw G0 H0 G' H' σ' δ' [],fun σ' H' z=>⟨m,Nat.lt_succ_self m,z⟩,?_⟩;cases e:F δ1 with
   |none=>rw[e]at h2;cases h2
   |some o =>
    rw[e]at h2;refine kb δ1 o e G0 H0 G2 H2 σ1 _ R2 ?_;cases o with
    |nx δ3=>exact fun σ4 G4 H4 R4=>⟨δ3,G4,h2,R4⟩
    |ct δ3=>exact fun σ4 G4 H4 R4=>⟨δ3,G4,h2,R4⟩
    |bk δ3=>cases h2;exact q
    |rt v=>cases h2;exact q
    |rn v=>cases h2;exact q
  ·rename_i hb;rw[if_neg hb]at h2;cases h2;exact q _ _ _ R2
def DO(X:Cx)(o:Option Expr)(f:Dv→Option (Option Int)):Prop:=∃t,PO X o t∧∀δ x,f δ=some x→∀G0 H0 G H σ ts (Q:Option Int→Hp→Prop),Rw G0 H0 G H σ δ ts→(∀G' H',Rw G0 H0 G' H' σ δ ts→Q x H')→t σ H Q
variable{fo fu:Dv→Option (Option Int)}{lo hi:Option Expr}
def GL:DO X none (fun _=>some none):=⟨_,eQ,fun δ x h G0 H0 G H σ ts Q r k=>by cases h;exact k _ _ r⟩
def GN(he:DE X e f):DO X (some e) (fun δ=>(f δ).bind fun x=>(SX x).map some):=by
 obtain⟨t,p,k⟩:=he;refine⟨_,dF p,fun δ z h G0 H0 G H σ ts Q r q=>?_⟩;obtain⟨x,h1,h2⟩:=aA.mp h;obtain⟨i,h3,rfl⟩:=aC.mp h2;have:=T1 h3;subst this;refine k δ _ h1 G0 H0 G H σ ts _ r fun v G' H' R'=>?_;have hv:=R'.C6 _ (.head _);rw[Du]at hv;exact⟨i,hv,q _ _ R'.drop⟩
def cutD(xs:List PD)(lo hi:Option Int):List PD:=(xs.drop (HT.Cc xs.length 0 lo)).take (HT.Cc xs.length xs.length hi-HT.Cc xs.length 0 lo)
def BQ.cut{H:Hp}{ds:List PD}{xs:List V}(h:BQ H ds xs)(lo hi:Option Int):BQ H (cutD ds lo hi) (Np xs lo hi):=by
 unfold cutD Np;rw[h.len];exact(h.drop _).take _
def Z0(x:PD)(lo hi:Option Int):Option PD:=match x with
 |.list xs=>some (.list (cutD xs lo hi))
 |.tuple xs=>if ¬(HT.Cc xs.length 0 lo=0∧HT.Cc xs.length xs.length hi=xs.length) then some (.tuple (cutD xs lo hi)) else none
 |_=>none
def FY(he:DE X e f)(hl:DO X lo fo)(hh:DO X hi fu):DE X (.Subscript e (.Slice lo hi none p2) pos) (fun δ=>(f δ).bind fun x=>(fo δ).bind fun l=>(fu δ).bind fun u=>Z0 x l u):=by
 obtain⟨te,pe,ke⟩:=he;obtain⟨tl,pl,kl⟩:=hl;obtain⟨th,ph,kh⟩:=hh;refine⟨_,Zj (de.or gW) pe pl ph,fun δ z hz G0 H0 G H σ ts Q R0 k=>?_⟩;obtain⟨x,h1,h2⟩:=aA.mp hz;obtain⟨l,h3,h4⟩:=aA.mp h2;obtain⟨u,h5,h6⟩:=aA.mp h4;refine ke δ x h1 G0 H0 G H σ ts _ R0 fun v G1 H1 R1=>?_;refine kl δ l h3 G0 H0 G1 H1 σ _ _ R1 fun G2 H2 R2=>?_;refine kh δ u h5 G0 H0 G2 H2 σ _ _ R2 fun G3 H3 R3=>?_;have du:=R3.C6 _ (.head _);unfold Z0 at h6;split at h6
 ·cases h6;rw[Du]at du;obtain⟨a,ys,rfl,n1,n2⟩:=du;exact .inl ⟨a,ys,rfl,Bo.of (R3.ins _ _ n1),fun q hq=>k _ _ _ (R3.drop.RC (n2.cut l u) hq)⟩
 ·split at h6
  ·rename_i hc;cases h6;rw[Du]at du;obtain⟨a,ys,rfl,n1,n2⟩:=du;exact .inr ⟨a,ys,rfl,CK.of (R3.ins _ _ n1),by rw[n2.len];exact hc,fun q hq=>k _ _ _ (R3.drop.ZM (n2.cut l u) hq)⟩
  ·cases h6
 ·cases h6
def VG:List PD→Option (List Int)
 |[]=>some []
 |.int i::r=>(VG r).map fun l=>i::l
 |_::_=>none
def BQ.ints{H:Hp}:∀ {ds:List PD} {xs:List V} {ns:List Int},BQ H ds xs→VG ds=some ns→xs=ns.map V.int
 |[],xs,ns,h,e=>by cases e;rw[h.nil_eq];rfl
 |.int i::r,xs,ns,h,e=>by
  unfold VG at e;obtain⟨l,h1,rfl⟩:=aC.mp e;obtain⟨x,q,rfl,k1,k2⟩:=h.un;rw[Du]at k1;subst k1;rw[List.map_cons,k2.ints h1]
 |.none::_,_,_,_,e=>by cases e
 |.bool _::_,_,_,_,e=>by cases e
 |.str _::_,_,_,_,e=>by cases e
 |.tuple _::_,_,_,_,e=>by cases e
 |.list _::_,_,_,_,e=>by cases e
 |.dict _::_,_,_,_,e=>by cases e
def Ww:MD
 |[.list xs]=>(VG xs).map fun ns=>.int ns.sum
 |[.tuple xs]=>(VG xs).map fun ns=>.int ns.sum
 |_=>none
def Yy(hc:X.calm=true):LV X (.builtin "sum") Ww:=by
 refine⟨_,(UC hc).or (X8 hc),fun xs z hz G0 H0 G H σ δ ts us Q R0 d k=>?_⟩;unfold Ww at hz;split at hz
 ·obtain⟨ns,h1,rfl⟩:=aC.mp hz;obtain⟨u,rfl,du⟩:=d.Ib;rw[Du]at du;obtain⟨q,ys,rfl,h4,h5⟩:=du;refine .inl ⟨q,ns,rfl,by rw[←h5.ints h1];exact Bo.of (R0.ins _ _ h4),k _ _ _ (R0.put (by rw[Du]))⟩
 ·obtain⟨ns,h1,rfl⟩:=aC.mp hz;obtain⟨u,rfl,du⟩:=d.Ib;rw[Du]at du;obtain⟨q,ys,rfl,h4,h5⟩:=du;refine .inr ⟨q,ns,rfl,by rw[←h5.ints h1];exact CK.of (R0.ins _ _ h4),k _ _ _ (R0.put (by rw[Du]))⟩
 ·cases hz
end
open PySem
abbrev fC(x:PD):Dv→Option PD:=fun _=>some x
abbrev VA(f:Dv→Option PD):Dv→Option PD:=fun δ=>(f δ).bind fun x=>(SX x).map fun i=>.int (-i)
abbrev lE(f:Dv→Option PD):Dv→Option PD:=fun δ=>(f δ).bind fun x=>(NK x).map fun i=>.bool (!i)
abbrev J5(f g:Dv→Option PD):Dv→Option PD:=fun δ=>(f δ).bind fun x=>(NK x).bind fun c=>if c=true then g δ else some (.bool false)
abbrev AG:Dv→Option (List PD):=fun _=>some []
abbrev AA(f:Dv→Option PD)(fs:Dv→Option (List PD)):Dv→Option (List PD):=fun δ=>(f δ).bind fun x=>(fs δ).map fun xs=>x::xs
abbrev Af(fs:Dv→Option (List PD)):Dv→Option PD:=fun δ=>((fs δ).bind IZ).map .tuple
abbrev BW(fs:Dv→Option (List PD)):Dv→Option PD:=fun δ=>((fs δ).bind IZ).map .list
abbrev AM(m:MD)(fs:Dv→Option (List PD)):Dv→Option PD:=fun δ=>(fs δ).bind m
abbrev B9(q:PD→Bool)(f:Dv→Option PD):Dv→Option PD:=fun δ=>(f δ).bind (VF q)
abbrev eJ(i:Nat):Dv→Option PD:=fun δ=>(ow i δ).map fun xs=>.int xs.length
abbrev Yo(i:Nat)(g:Dv→Option PD):Dv→Option PD:=fun δ=>(g δ).bind fun y=>(ow i δ).bind fun xs=>(SX y).bind fun k=>Fy xs k
abbrev GW:Dv→Option (Option Int):=fun _=>some none
abbrev GZ(f:Dv→Option PD):Dv→Option (Option Int):=fun δ=>(f δ).bind fun x=>(SX x).map some
abbrev IQ(f:Dv→Option PD)(fo fu:Dv→Option (Option Int)):Dv→Option PD:=fun δ=>(f δ).bind fun x=>(fo δ).bind fun l=>(fu δ).bind fun u=>Z0 x l u
abbrev Bh(f:Dv→Option PD):Dv→Option Bool:=fun δ=>(f δ).bind NK
abbrev Al(o:PD→PD→Option PD)(f g:Dv→Option PD):Dv→Option Bool:=fun δ=>(AI o f g δ).bind NK
abbrev B3(f:Dv→Option Bool):Dv→Option Bool:=fun δ=>(f δ).map fun c=>!c
abbrev J2(f g:Dv→Option Bool):Dv→Option Bool:=fun δ=>(f δ).bind fun c=>if c=true then g δ else some false
abbrev DX(f g:Dv→Option Bool):Dv→Option Bool:=fun δ=>(f δ).bind fun c=>if c=true then some true else g δ
abbrev B2(f:Dv→Option PD):Dv→Option (List PD):=fun δ=>(f δ).bind Ia
abbrev Dj(m:List PD→Option (List PD))(fs:Dv→Option (List PD)):Dv→Option (List PD):=fun δ=>(fs δ).bind m
abbrev D9:Dv→Option Bool:=fun _=>some true
abbrev EL(i:Nat):PD→Dv→Option Dv:=fun y δ=>some (δ.set i (.d y))
abbrev A9:DF:=fun δ=>some (.nx δ)
abbrev A7(f:Dv→Option PD):DF:=fun δ=>(f δ).map .rt
abbrev TL(f:Dv→Option PD):DF:=fun δ=>(f δ).map fun _=>.nx δ
abbrev Bs(c:Dv→Option Bool)(F G:DF):DF:=fun δ=>(c δ).bind fun c=>if c=true then F δ else G δ
abbrev BS(i:Nat)(f:Dv→Option PD):DF:=fun δ=>(f δ).map fun y=>.nx (δ.set i (.d y))
abbrev Nj(i:Nat)(fs:Dv→Option (List PD)):DF:=fun δ=>((fs δ).bind IZ).map fun ys=>.nx (δ.set i (.own (.lst ys)))
abbrev N8(i:Nat)(f:Dv→Option PD):DF:=fun δ=>(f δ).bind fun y=>(ow i δ).bind fun xs=>if xs.length<Bi then some (.nx (δ.set i (.own (.lst (xs++[y]))))) else none
abbrev Z3(i:Nat)(f:Dv→Option PD):DF:=fun δ=>(f δ).bind fun y=>(ow i δ).bind fun xs=>match y with|.list zs=>(if xs.length+zs.length≤Bi then some (.nx (δ.set i (.own (.lst (xs++zs))))) else none)|_=>none
abbrev VB(f:Dv→Option PD)(set:PD→Dv→Option Dv):DF:=fun δ=>(f δ).bind fun y=>(set y δ).map .nx
abbrev CM(fs:Dv→Option (List PD))(set:PD→Dv→Option Dv)(F:DF):DF:=fun δ=>(fs δ).bind fun xs=>Ef set F xs δ
abbrev Ro(i:Nat)(F:DF):DF:=fun δ=>F (Hf i δ)
abbrev Qo:DF:=fun _=>none
def Gm{P:Program}{w:World}{K:Fg}{mg:Str→Option VL}{base:Heap}{CX:JE}{k:Nat}{f:AD}{fd:FuncData}{ps:List Str}{sp:Sp}(h:∀vs H Q E,¬sp vs H Q E):AV P w K mg base CX k f fd ps sp :=
 ⟨fun _ _ _ _ z=>(h _ _ _ _ z).elim,fun _ _ _ _ _ _ _ _ _ _ _ _ _ z=>(h _ _ _ _ z).elim⟩
def MH{P:Program}{w:World}{K:Fg}{mg:Str→Option VL}{base:Heap}{CX:JE}{k:Nat}{f:AD}{fd:FuncData}{ps:List Str}{sp:Sp}{m:MD}(F:AV P w K mg base CX k f fd ps sp)
 (h:∀ds x,m ds=some x→∀(G H:Hp) (vs:List V) (Q:VK) (E:XK),BQ G ds vs→Ak G H→(∀v G' H',Ak G G'→Nw G H G'→Ak G' H'→Ak H H'→Du G' x v→Q v H')→sp vs H Q E):AV P w K mg base CX k f fd ps (BD m) :=
 F.imp fun vs H Q E z=>by
  obtain⟨ds,x,G,h1,h2,h3,h4⟩:=z;exact h ds x h1 G H vs Q E h2 h3 h4
def FC(G H:Hp):Hp:=fun a=>match H a with
 |some (.tup xs)=>some (.tup xs)
 |_=>G a
def Z9{G H:Hp}{a:AD}{xs:List V}(h:H a=some (.tup xs)):FC G H a=some (.tup xs):=by unfold FC;rw[h]
section
variable{G0 H0 G H:Hp}{σ:St}{δ:Dv}{ts:List (PD×V)}
def Rw.FC(r:Rw G0 H0 G H σ δ ts):Rw G0 H0 (L2.FC G H) H σ δ ts:=by
 have e:Ak G (L2.FC G H):=fun a o h=>by
  unfold L2.FC;split
  ·rename_i xs hx;rw[r.ins _ _ h]at hx;exact hx.symm ▸ rfl
  ·exact h
 refine⟨r.ext.trans e,fun a o h=>?_,fun a o h=>?_,r.keep,r.len,fun i x h=>?_,fun i xs h=>?_,r.apart,fun q hq=>(r.C6 q hq).same e⟩
 ·unfold L2.FC at h;split at h
  ·cases h;exact .inr (.inr ⟨_,rfl⟩)
  ·exact r.new _ _ h
 ·unfold L2.FC at h;split at h
  ·rename_i xs hx;rw[hx];exact h
  ·exact r.ins _ _ h
 ·obtain⟨v,k1,k2⟩:=r.dat i x h;exact⟨v,k1,k2.same e⟩
 ·obtain⟨a,ys,k1,k2,k3,k4,k5⟩:=r.own i xs h;refine⟨a,ys,k1,?_,k3,k4,k5.same e⟩;unfold L2.FC;rw[k4];split
  ·rename_i q;cases q;exact k5.VT.elim
  ·exact k2
end
def OC{G:Hp}:∀ {t:Tr} {xs:List V},BQ G (BK t) xs→Ts G t xs
 |.nil,xs,h=>by rw[BK]at h;rw[Ts];exact h.nil_eq
 |.cons b r,xs,h=>by
  rw[BK]at h;obtain⟨x,q,rfl,h1,h2⟩:=h.un;rw[Du]at h1;obtain⟨a,ys,rfl,h3,h4⟩:=h1;rw[Ts];exact⟨a,ys,q,rfl,h3,OC h4,OC h2⟩
def Qr{G H:Hp}:∀ {t:Tr} {xs:List V},Ts H t xs→BQ (FC G H) (BK t) xs
 |.nil,xs,h=>by rw[Ts]at h;rw[BK,h];exact .nil
 |.cons b r,xs,h=>by
  rw[Ts]at h;obtain⟨a,ys,zs,rfl,h1,h2,h3⟩:=h;rw[BK];refine .cons ?_ (Qr h3);rw[Du];exact⟨a,ys,rfl,Z9 h1,Qr h2⟩
mutual
def Ng:∀ {ds:List PD} {t:Tr},JV ds=some t→ds=BK t
 |[],t,h=>by rw[JV]at h;cases h;rw[BK]
 |d::ds,t,h=>by
  rw[JV]at h;obtain⟨b,h1,h2⟩:=aA.mp h;obtain⟨r,h3,rfl⟩:=aC.mp h2;rw[BK,←eX h1,←Ng h3]
def eX:∀ {d:PD} {t:Tr},Hz d=some t→d=.tuple (BK t)
 |.tuple ds,t,h=>by rw[Hz]at h;rw[Ng h]
 |.none,_,h=>by simp[Hz]at h
 |.bool _,_,h=>by simp[Hz]at h
 |.int _,_,h=>by simp[Hz]at h
 |.str _,_,h=>by simp[Hz]at h
 |.list _,_,h=>by simp[Hz]at h
 |.dict _,_,h=>by simp[Hz]at h
end
def gy(rev:Bool)(t:Tr):Option PD:=if t.bs.length<64∧t.deep≤60 then some (.list (BK (Tr.of (if rev then Tr.Dd t.bs else(Tr.Dd t.bs).reverse)))) else none
def MN(rev:Bool):MD
 |[x]=>(Ia x).bind fun ds=>(JV ds).bind (gy rev)
 |_=>none
section
variable{X:Cx}{a e:Expr}{fs:Dv→Option (List PD)}{pos p:Pos}
def WE{rev:Bool}{G0 H0 G H:Hp}{σ:St}{δ:Dv}{ts:List (PD×V)}{x z:PD}{u:V}{Q:VK}(R0:Rw G0 H0 G H σ δ ts)(du:Du G x u)(hz:MN rev [x]=some z)(k:∀w G' H',Rw G0 H0 G' H' σ δ ((z,w)::ts)→Q w H') :
  ∃(p:AD) (ys:List V) (t:Tr),[u]=[.ref p]∧(Bo X.K H p ys∨CK X.K H p ys)∧Ts H t ys∧ys.length<64∧t.deep≤60∧∀(l:AD) (zs:List V),H l=none→Ts H (Tr.of (if rev then Tr.Dd t.bs else(Tr.Dd t.bs).reverse)) zs→Q (.ref l) (upd H l (.lst zs)):=by
 unfold MN at hz;obtain⟨ds,h1,h2⟩:=aA.mp hz;obtain⟨t,h3,h4⟩:=aA.mp h2;unfold gy at h4;split at h4
 ·rename_i hc;cases h4;have hds:=Ng h3;obtain⟨bb,a,ys,rfl,n1,n2⟩:=Qi du h1;rw[hds]at n2;have ht:=(OC n2).same R0.ins;have hl:ys.length=t.bs.length:=by rw[ht.len]
  refine⟨a,ys,t,rfl,?_,ht,by lia,hc.2,fun l zs hl' hz'=>?_⟩
  ·have:=R0.ins _ _ n1;cases bb
   ·exact .inl (Bo.of (by simpa using this))
   ·exact .inr (CK.of (by simpa using this))
  ·have R1:=R0.FC;exact k _ _ _ (R1.RC (Qr hz') hl')
 ·cases h4
def eN(hu:X.A.units+64<cLine):LV X (.builtin "sorted") (MN false):=by
 refine⟨_,Xw hu,fun xs z hz G0 H0 G H σ δ ts us Q R0 d k=>?_⟩;cases xs with
 |nil=>cases hz
 |cons x r =>
  cases r with
  |cons y q=>cases hz
  |nil =>
   obtain⟨u,rfl,du⟩:=d.Ib;exact WE R0 du hz k
def bq{e:Expr}{p pos kp kp2:Pos}{j}(hu:X.A.units+64<cLine)(hg:Gl X "sorted")(hm:X.mg "sorted" = none)(ha:DA X [e] fs)
 (hP:∀ {t:TA},PA X [e] t→PE X (.Call (.Name "sorted" p) [e] [⟨some "reverse",.Constant (.bool true) j kp2,kp⟩] pos) (fun σ H Q=>t σ H fun vs H1=>Y0 X.K vs H1 Q)) :
  DE X (.Call (.Name "sorted" p) [e] [⟨some "reverse",.Constant (.bool true) j kp2,kp⟩] pos) (AM (MN true) fs):=by
 obtain⟨t,p,k⟩:=ha;refine⟨_,hP p,fun δ z hz G0 H0 G H σ ts Q R0 q=>?_⟩;obtain⟨xs,h1,h2⟩:=aA.mp hz;refine k δ _ h1 G0 H0 G H σ ts _ R0 fun vs G1 H1 R1 hv=>?_;obtain⟨d,R2⟩:=R1.args hv;cases xs with
 |nil=>cases h2
 |cons x r =>
  cases r with
  |cons y q=>cases h2
  |nil =>
   obtain⟨u,rfl,du⟩:=d.Ib;exact WE (rev:=true) R2 du h2 q
end
section
variable{G0 H0 G H:Hp}{σ:St}{δ:Dv}{ts:List (PD×V)}
def Rw.on{H':Hp}(r:Rw G0 H0 G H σ δ ts)(e:Ak H H'):Rw G0 H0 G H' σ δ ts:=r.lift (Ak.refl _) Nw.refl (r.ins.trans e) e
end
section
variable{F F1 F2:DF}{δ δ':Dv}{r:Option Ou}{c:Dv→Option Bool}{f g:Dv→Option PD}{fs:Dv→Option (List PD)}
def AR(h:F1 δ=some (.nx δ'))(k:F2 δ'=r):AX F1 F2 δ=r:=by unfold AX;rw[h];exact k
def BF{x:PD}(h:F1 δ=some (.rt x)):AX F1 F2 δ=some (.rt x):=by unfold AX;rw[h]
def Bf(h:c δ=some true)(k:F1 δ=r):Bs c F1 F2 δ=r:=by show(c δ).bind _=r;rw[h];exact k
def Az(h:c δ=some false)(k:F2 δ=r):Bs c F1 F2 δ=r:=by show(c δ).bind _=r;rw[h];exact k
def Bu{i:Nat}{y:PD}(h:f δ=some y):BS i f δ=some (.nx (δ.set i (.d y))):=by show(f δ).map _=_;rw[h];rfl
def B6{y:PD}(h:f δ=some y):A7 f δ=some (.rt y):=by show(f δ).map _=_;rw[h];rfl
def Aa{o:PD→PD→Option PD}{x y:PD}{z:Option PD}(h1:f δ=some x)(h2:g δ=some y)(h3:o x y=z):AI o f g δ=z:=by unfold AI;rw[h1,h2];exact h3
def Ai{m:MD}{xs:List PD}{z:Option PD}(h1:fs δ=some xs)(h2:m xs=z):AM m fs δ=z:=by show(fs δ).bind m=z;rw[h1];exact h2
def AO{x:PD}{xs:List PD}(h1:f δ=some x)(h2:fs δ=some xs):AA f fs δ=some (x::xs):=by show(f δ).bind _=_;rw[h1];show(fs δ).map _=_;rw[h2];rfl
def MO{xs:List PD}(h:fs δ=some xs)(hl:xs.length≤Bi):BW fs δ=some (.list xs):=by show((fs δ).bind IZ).map _=_;rw[h];show(IZ xs).map _=_;unfold IZ;rw[if_pos hl];rfl
def Ck{xs:List PD}(h:fs δ=some xs)(hl:xs.length≤Bi):Af fs δ=some (.tuple xs):=by show((fs δ).bind IZ).map _=_;rw[h];show(IZ xs).map _=_;unfold IZ;rw[if_pos hl];rfl
def BP{o:PD→PD→Option PD}{x y:PD}{b:Bool}(h1:f δ=some x)(h2:g δ=some y)(h3:o x y=some (.bool b)):Al o f g δ=some b:=by show(AI o f g δ).bind NK=_;rw[Aa h1 h2 h3];rfl
def Bw{a b:Dv→Option Bool}{q:Option Bool}(h:a δ=some false)(k:b δ=q):DX a b δ=q:=by show(a δ).bind _=q;rw[h];exact k
def E7{a b:Dv→Option Bool}(h:a δ=some true):DX a b δ=some true:=by show(a δ).bind _=_;rw[h];rfl
def Cy{a:Dv→Option Bool}{b:Bool}(h:a δ=some b):B3 a δ=some (!b):=by show(a δ).map _=_;rw[h];rfl
def FE{b:Bool}(h:f δ=some (.bool b)):Bh f δ=some b:=by show(f δ).bind NK=_;rw[h];rfl
def Tn{set:PD→Dv→Option Dv}(Iv:Nat→Dv→Prop):∀(xs:List PD) (δ:Dv) (n:Nat),Iv n δ→(∀(i:Nat) (x:PD) (δ:Dv),xs[i]? = some x→Iv (n+i) δ→∃δ1 δ2,set x δ=some δ1∧F δ1=some (.nx δ2)∧Iv (n+i+1) δ2) →
  ∃δ',Ef set F xs δ=some (.nx δ')∧Iv (n+xs.length) δ'
 |[],δ,n,h,_=>⟨δ,rfl,h⟩
 |x::xs,δ,n,h,k=>by
  obtain⟨δ1,δ2,h1,h2,h3⟩:=k 0 x δ rfl h;obtain⟨δ',h4,h5⟩:=Tn Iv xs δ2 (n+1) h3 fun i y δ hy hv=>by
   have:=k (i+1) y δ (by simpa using hy) (by rw[show n+(i+1)=n+1+i by lia];exact hv);rw[show n+(i+1)+1=n+1+i+1 by lia]at this;exact this
  refine⟨δ',?_,by rw[List.length_cons,show n+(xs.length+1)=n+1+xs.length by lia];exact h5⟩;unfold Ef;rw[h1,Option.bind_some,h2];exact h4
def bW{set:PD→Dv→Option Dv}{xs:List PD}(Iv:Nat→Dv→Prop)(hx:fs δ=some xs)(h0:Iv 0 δ)(hs:∀(i:Nat) (x:PD) (δ:Dv),xs[i]? = some x→Iv i δ→∃δ1 δ2,set x δ=some δ1∧F δ1=some (.nx δ2)∧Iv (i+1) δ2) :
  ∃δ',CM fs set F δ=some (.nx δ')∧Iv xs.length δ':=by
 obtain⟨δ',h1,h2⟩:=Tn (F:=F) (set:=set) Iv xs δ 0 h0 fun i x δ hx hv=>by
  have:=hs i x δ hx (by simpa using hv)
  simpa using this
 refine⟨δ',?_,by simpa using h2⟩;show(fs δ).bind _=_;rw[hx];exact h1
end
def Bz{ps N:List Str}{F:DF}{ds:List PD}{x:PD}(hl:ds.length=ps.length)(h:F (Lo N ds)=some (.rt x)):CV ps N F ds=some x:=by unfold CV;rw[if_pos hl,h]
def Ov{lo:Int}{n i:Nat}{x:PD}(h:(HR lo n)[i]? = some x):x=.int (lo+(i:Nat))∧i<n:=by
 unfold HR at h;rw[List.getElem?_map]at h;obtain⟨j,hj,rfl⟩:=aC.mp h;have hl:=(aF.mp hj).1;rw[List.getElem?_range (by simpa using hl)]at hj;cases hj;exact⟨rfl,by simpa using hl⟩
def OA{n:Nat}{i:Int}(h:i.natAbs<2^n):KC n i=true:=aw h
def Ut{i j:Int}(h:Mp i j=true):Dk (.int i) (.int j)=some (.int (i*j)):=by
 show Pg Xd Wn (.int i) (.int j)=_;unfold Pg;rw[show Xd (.int i) (.int j)=some (.int (i*j)) from if_pos h]
def mul_r{i j:Int}(h:j.natAbs<2^64):Dk (.int i) (.int j)=some (.int (i*j)):=Ut (by unfold Mp;rw[OA h];simp)
def XD{i j:Int}(h:i.natAbs<2^64):Dk (.int i) (.int j)=some (.int (i*j)):=Ut (by unfold Mp;rw[OA h];simp)
def mod_is{i j:Int}(h:0<j):C5 (.int i) (.int j)=some (.int (i % j)):=by
 show(if j≠0 then some (PyData.int (i.fmod j)) else none)=_;rw[if_pos (by lia),Int.fmod_eq_emod_of_nonneg _ (by lia)]
def Yl{i:Int}{n:Nat}(hn:n≤1000)(hi:KC 64 i=true):Nx (.int i) (.int (n:Int))=some (.int (i^n)):=by
 show(if 0≤(n:Int)∧(n:Int)≤1000∧KC 64 i=true then some (PyData.int (i^(n:Int).toNat)) else none)=_;rw[if_pos ⟨by lia,by lia,hi⟩,Int.toNat_natCast]
def EB(ns:List Int):PD:=.dict [(.none,.list (ns.map .int))]
def jC{H:Hp}{a:AD}{ns:List Int}(h:Rd H a (.lst (ns.map V.int))):Du H (EB ns) (.ref a):=by unfold EB;rw[Du];exact .inr (.inl ⟨a,ns,rfl,rfl,h⟩)
def TM(K:Fg):Bool:=K.all fun p=>match p.2.cls with|.type n=>n != "list" |_=>true
def PJ{a:AD}{o:Obj}:∀ {K:Fg},K.lookup a=some o→(a,o)∈K
 |[],h=>by cases h
 |(b,u)::K,h=>by
  rw[List.lookup_cons]at h;split at h
  ·rename_i e;cases h;rw[show a=b from by simpa using e];exact .head _
  ·exact .tail _ (PJ h)
def iW{K:Fg}{H:Hp}{a:AD}{xs:List V}(hK:TM K=true)(h:Bo K H a xs):Rd H a (.lst xs):=by
 rcases h with h|⟨o,its,n,h1,h2,_⟩
 ·exact h
 ·unfold TM at hK;rw[List.all_eq_true]at hK;have:=hK _ (PJ h1);rw[h2]at this;exact absurd this (by decide)
abbrev Q8(i:Nat):DF:=fun δ=>(ow i δ).map .rn
section
variable{X:Cx}{a:Expr}{h:Dv→Option PD}{pos:Pos}
def Oh{i:Nat}{x:Str}{np:Pos}(hv:PE X (.Name x np) (Nr i)):DS X (.Return (some (.Name x np)) pos) (Q8 i):=by
 refine⟨_,Dh hv,fun δ r h G0 H0 G H σ D R q=>?_⟩;obtain⟨xs,h1,rfl⟩:=aC.mp h;obtain⟨a,_,k1,k2,k3,k4,⟨ys,rfl,k5⟩⟩:=R.own i _ (Oj h1);exact⟨.ref a,k1,q a ys G H R.ext R.new R.ins R.keep k3 k2 k4 k5⟩
end
section
variable{F F1 F2:DF}{δ δ':Dv}{fs:Dv→Option (List PD)}{xs:List PD}{set:PD→Dv→Option Dv}{r:Option Ou}
def JW{Q:Dv→Prop}(h:F1 δ=some (.nx δ'))(k:∃δ2,F2 δ'=some (.nx δ2)∧Q δ2):∃δ2,AX F1 F2 δ=some (.nx δ2)∧Q δ2:=let⟨δ2,a,b⟩:=k;⟨δ2,AR h a,b⟩
def Yt(Iv:Nat→Dv→Prop)(hx:fs δ=some xs)(h0:Iv 0 δ)(hs:∀(i:Nat) (x:PD) (δ:Dv),xs[i]? = some x→Iv i δ→∃δ1,set x δ=some δ1∧∃δ2,F δ1=some (.nx δ2)∧Iv (i+1) δ2) :
  ∃δ',CM fs set F δ=some (.nx δ')∧Iv xs.length δ':=bW Iv hx h0 fun i x δ a b=>let⟨δ1,c,δ2,e,g⟩:=hs i x δ a b;⟨δ1,δ2,c,e,g⟩
def HB(Iv:Nat→Dv→Prop)(hx:fs δ=some xs)(h0:Iv 0 δ)(hs:∀(i:Nat) (x:PD) (δ:Dv),xs[i]? = some x→Iv i δ→∃δ1,set x δ=some δ1∧∃δ2,F δ1=some (.nx δ2)∧Iv (i+1) δ2)
 (k:∀δ',Iv xs.length δ'→F2 δ'=r):AX (CM fs set F) F2 δ=r:=by
 obtain⟨δ',h1,h2⟩:=Yt Iv hx h0 hs;exact AR h1 (k δ' h2)
def Kk{Q:Dv→Prop}(Iv:Nat→Dv→Prop)(hx:fs δ=some xs)(h0:Iv 0 δ)(hs:∀(i:Nat) (x:PD) (δ:Dv),xs[i]? = some x→Iv i δ→∃δ1,set x δ=some δ1∧∃δ2,F δ1=some (.nx δ2)∧Iv (i+1) δ2)(hq:∀δ,Iv xs.length δ→Q δ) :
  ∃δ',CM fs set F δ=some (.nx δ')∧Q δ':=let⟨δ',a,b⟩:=Yt Iv hx h0 hs;⟨δ',a,hq _ b⟩
def MK{f:Dv→Option PD}{x:PD}(h:f δ=some x)(k:Ia x=some xs):B2 f δ=some xs:=by show(f δ).bind Ia=_;rw[h];exact k
end
end L2
set_option maxHeartbeats 2000000
set_option maxHeartbeats 1000000
set_option maxHeartbeats 4000000
namespace L2
open PySem PySem.Spec PyProof.Rows
def GT(H:Hp)(v:VL)(x:Tr):Prop:=∃a ys,v=.ref a∧H a=some (.tup ys)∧Ts H x ys
def Wt(S:AD)(ev:Array (Int×VL))(ep:Nat)(t:SetTable):HO:=.ext fun h=>∃o,h.get? S=some o∧o.ExactSet∧o.data=.set ev ep t
abbrev jD(H:Hp)(p:Int×VL)(q:Int×Tr):Prop:=p.1=q.1∧q.2.deep<8∧GT H p.2 q.2
def ZV(H:Hp)(S:AD)(st:TH.ES×SetTable):Prop:=∃ev ep,H S=some (Wt S ev ep st.2)∧PySem.Paired (jD H) ev.toList st.1.toList
def GT.same{H H':Hp}{v:VL}{x:Tr}(h:GT H v x)(e:Ak H H'):GT H' v x:=let⟨a,ys,e1,e2,e3⟩:=h;⟨a,ys,e1,e _ _ e2,e3.same e⟩
structure cP(w:World)(st:TH.ES×SetTable):Prop where
 fit:st.2.fits st.1.size=true
 plain:st.2.plain=true
 led:st.2.led=!w.params.followText "set-order"
 walk:TH.Nk st.2 st.1.size=true
 small:st.1.size<64
section
variable{X:Cx}{pins:List (AD×Obj)}{σ:St}{H:Hp}{s:SD}
def Yn(I:Inv X pins σ H s){v:VL}{x:Tr}(g:GT H v x):∃a its,v=.ref a∧s.heap.IsTuple a its.toArray∧TH.Vs s.heap x its:=by
 obtain⟨a,ys,rfl,h1,h2⟩:=g;obtain⟨its,r,p,_⟩:=I.tuple (CK.of (K:=X.K) h1);exact⟨a,its,rfl,p,h2.vs I r⟩
def UP(I:Inv X pins σ H s):∀ {t:Tr} {ys:List V} {us:List VL},Ts H t ys→Vals ys us→t.deep≤8→TH.Kl (GT H) s.heap us t.bs
 |.nil,ys,us,h,r,_=>by
  rw[Ts]at h;subst h;cases r;exact .nil
 |.cons b q,ys,us,h,r,hd=>by
  rw[Ts]at h;obtain⟨a,zs,rest,rfl,h1,h2,h3⟩:=h;rw[Tr.deep]at hd;cases r with
  |cons r1 r2 =>
   cases r1;have g:GT H (.ref a) b:=⟨a,zs,rfl,h1,h2⟩;exact .cons ⟨by lia,g,Yn I g⟩ (UP I h3 r2 (by lia))
def bX(I:Inv X pins σ H s){l:List (Int×VL)}{m:List (Int×Tr)}(h:PySem.Paired (jD H) l m):PySem.Paired (TH.Py (GT H) s.heap) l m :=
 TH.Paired.imp (fun _ _ ⟨a,b,c⟩=>⟨a,b,c,Yn I c⟩) h
def fy:∀ {us:List VL} {ts:List Tr},PySem.Paired (GT H) us ts→∃zs,Vals zs us∧Ts H (Tr.of ts) zs
 |_,_,.nil=>⟨[],.nil,by rw[Tr.of,Ts]⟩
 |_,_,.cons ⟨a,ys,e,h1,h2⟩ r=>by
  obtain⟨zs,r1,r2⟩:=fy r;subst e;exact⟨.ref a::zs,.cons rfl r1,by rw[Tr.of,Ts];exact⟨a,ys,zs,rfl,h1,h2,r2⟩⟩
def kF(w:World)(K:Fg):List V→Hp→VK→Prop:=fun xs H Q=>∃p ys t st,xs=[.ref p]∧Bo K H p ys∧Ts H t ys∧t.deep≤8∧TH.Nq (TH.MJ (!w.params.followText "set-order")) t.bs=some st ∧
 ∀S H',Ak H H'→ZV H' S st→Q (.ref S) H'
def Y9(hc:X.calm=true)(hu:X.A.units+64<cLine):E6 X (.type "set") (kF X.w X.K):=by
 intro pins s σ H xs us Q I r h;obtain⟨p,ys,t,st,rfl,hq,ht,hd,hst,q⟩:=h;obtain⟨u,rfl,r1⟩:=r.one;cases r1;obtain⟨its,rv,pl,hz⟩:=I.list hq;refine TH.VY (G:=GT H) (I.ok.hd hc) pl.isList (UP I ht rv hd) (by lia) hst fun h2 tk S2 k2=>?_;obtain⟨o,ev,ep,g1,g2,g3,g4⟩:=S2;have hf:=I.Bj.fresh (aG s.heap.objs.size);have es:=Bv hf (Wt s.heap.objs.size ev ep st.2);refine⟨.ref s.heap.objs.size,upd H s.heap.objs.size (Wt s.heap.objs.size ev ep st.2),I.laid (t':=tk) k2 (aG _) ?_,rfl,q _ _ es ⟨ev,ep,Au,TH.Paired.imp (fun _ _ ⟨a,b,c,_⟩=>⟨a,b,c.same es⟩) g4⟩⟩;exact⟨⟨o,g1,g2,g3⟩,⟨o,g1⟩,fun h1 h2 ⟨o,q1,q2⟩ k=>⟨o,k _ q1,q2⟩⟩
def df(I:Inv X pins σ H s){S:AD}{st:TH.ES×SetTable}(h:ZV H S st)(ok:cP X.w st):∃o ev ep,s.heap.get? S=some o∧TH.GB X.w o ev ep st.2∧TH.Eh (GT H) s.heap ev st.1:=by
 obtain⟨ev,ep,h1,h2⟩:=h;obtain⟨⟨o,g1,g2,g3⟩,_,_⟩:=(show EF X.prog X.w H s.heap S (Wt S ev ep st.2) from I.Bj S _ h1);have R:=bX I h2;have hz:ev.size=st.1.size:=TH.Eh.size R;exact⟨o,ev,ep,g1,⟨g2,g3,by rw[hz];exact ok.fit,ok.plain,ok.led,by rw[hz];exact ok.walk⟩,R⟩
def gn(w:World):List V→Hp→VK→Prop:=fun xs H Q=>∃S st,xs=[.ref S]∧ZV H S st∧cP w st∧∀(l:AD) (zs:List V),H l=none→zs.length<64→Ts H (Tr.of (Tr.Dd (TH.QP st)).reverse) zs→Q (.ref l) (upd H l (.lst zs))
def Xo(hc:X.calm=true)(hu:X.A.units+64<cLine):E6 X (.builtin "sorted") (gn X.w):=by
 intro pins s σ H xs us Q I r h;obtain⟨S,st,rfl,hS,ok,q⟩:=h;obtain⟨u,rfl,r1⟩:=r.one;cases r1;obtain⟨o,ev,ep,g1,W,R⟩:=df I hS ok;refine TH.XI (I.ok.hd hc) W g1 R ok.small (by lia) fun h' D tk e1 us hD k1 gD hp hl=>?_;obtain⟨zs,r1,r2⟩:=fy hp;have hz:zs.length<64:=by rw[r1.length];exact hl
 refine⟨.ref D,upd H D (.lst zs),I.laid (t':=tk) k1 hD ⟨Nat.le_of_lt (aK hz (by rw[sizeLine_eq];decide)),us,e1,r1,gD⟩,rfl,q D zs (I.Bj.fresh hD) hz r2⟩
end
open PySem PyProof.Rows
end L2
set_option maxHeartbeats 1000000
namespace L2
open PySem PySem.Spec PyProof.Rows
def Qt(led:Bool)(l z:List Tr):Bool:=match TH.Nq (TH.MJ led) l with
 |some st=>decide ((Tr.Dd (TH.QP st)).reverse=z)&&st.2.fits st.1.size&&st.2.plain&&decide (st.2.led=led)&&TH.Nk st.2 st.1.size&&decide (st.1.size<64)
 |none=>false
def bo{led:Bool}{l z:List Tr}(h:Qt led l z=true):∃st,TH.Nq (TH.MJ led) l=some st∧(Tr.Dd (TH.QP st)).reverse=z∧st.2.fits st.1.size=true∧st.2.plain=true∧st.2.led=led∧TH.Nk st.2 st.1.size=true∧st.1.size<64:=by
 unfold Qt at h;split at h
 ·rename_i st e;simp only[Bool.and_eq_true,decide_eq_true_eq]at h;obtain⟨⟨⟨⟨⟨h1,h2⟩,h3⟩,h4⟩,h5⟩,h6⟩:=h;exact⟨st,e,h1,h2,h3,h4,h5,h6⟩
 ·cases h
def XQ(l:List Tr):List Tr:=match TH.Nq (TH.MJ true) l with
 |some st=>(Tr.Dd (TH.QP st)).reverse
 |none=>[]
def Im(t:Tr):Option PD:=if t.deep≤8∧Qt true t.bs (XQ t.bs)=true∧Qt false t.bs (XQ t.bs)=true then some (.list (BK (Tr.of (XQ t.bs)))) else none
def QI:PD→Option PD
 |.list ds=>(JV ds).bind Im
 |_=>none
section
variable{X:Cx}{e:Expr}{f:Dv→Option PD}{pos p p2 pos2:Pos}
def Xr(hc:X.calm=true)(hu:X.A.units+64<cLine)(hg:Gl X "sorted")(hm:X.mg "sorted" = none)(hg2:Gl X "set")(hm2:X.mg "set" = none)(ha:DE X e f)
 (hs1:starEach [e] X.env=(false,eval e X.env)::starEach [] X.env:=by rfl)(hs2:starEach [.Call (.Name "set" p2) [e] [] pos2] X.env=(false,eval (.Call (.Name "set" p2) [e] [] pos2) X.env)::starEach [] X.env:=by rfl)
 (hq1:(backTo pos2 (starEach [] X.env)).any (·.1)=false:=by rfl)(hq2:(backTo pos (starEach [] X.env)).any (·.1)=false:=by rfl) :
  DE X (.Call (.Name "sorted" p) [.Call (.Name "set" p2) [e] [] pos2] [] pos) (fun δ=>(f δ).bind QI):=by
 obtain⟨ta,pa,ka⟩:=ha;refine⟨_,Dx (Xo hc hu) hg hm PyProof.Rows.boot_sorted (Ad (Sf (Y9 hc hu) hg2 hm2 PyProof.Rows.boot_set (Ad pa BE hs1) (by decide) (by decide) hs1 hq1) BE hs2) (by decide) (by decide) hs2 hq2,fun δ z hz G0 H0 G H σ ts Q R0 k=>?_⟩;obtain⟨y,h1,h2⟩:=aA.mp hz;refine ka δ y h1 G0 H0 G H σ ts _ R0 fun u G1 H1 R1=>?_;unfold QI at h2;split at h2
 ·rename_i ds;obtain⟨t,h3,h4⟩:=aA.mp h2;unfold Im at h4;split at h4
  ·rename_i hh;cases h4;have hds:=Ng h3;have du:=R1.C6 (_,u) (.head _);obtain⟨bb,a,ys,rfl,n1,n2⟩:=Qi du (show Ia (.list ds)=some ds from rfl);have n1':H1 a=some (.lst ys):=by
    have:=R1.ins _ _ n1;cases bb
    ·simpa using this
    ·exact absurd n1 (by
      have du':=du;intro n1;rw[Du]at du';obtain⟨a',ys',e1,e2,_⟩:=du';cases e1;rw[e2]at n1;cases n1)
   rw[hds]at n2;have ht:=(OC n2).same R1.ins;have both:∀led,Qt led t.bs (XQ t.bs)=true:=fun led=>by cases led;exact hh.2.2;exact hh.2.1
   obtain⟨st,r1,r2,r3,r4,r5,r6,r7⟩:=bo (both (!X.w.params.followText "set-order"));refine⟨a,ys,t,st,rfl,Bo.of n1',ht,hh.1,r1,fun S H' e1 hS=>⟨S,st,rfl,hS,⟨r3,r4,r5,r6,r7⟩,fun l zs hl hz ht'=>?_⟩⟩;rw[r2]at ht';have R2:=(R1.drop.on e1).FC;exact k _ _ _ (R2.RC (Qr ht') hl)
  ·cases h4
 ·cases h2
end
end L2
set_option maxHeartbeats 4000000
namespace L2
open PySem PySem.Spec PyProof.Rows
section
variable{X:Cx}{a:Expr}{pos:Pos}
def RF(i j l:Nat)(y:PD)(δ:Dv):Option Dv:=match y with
 |.tuple [u,v,w]=>some (((δ.set i (.d u)).set j (.d v)).set l (.d w))
 |_=>none
def VJ{x y z:Str}{i j l:Nat}{px py pz:Pos}{k1}(h:PG X (.Tuple [.Name x px,.Name y py,.Name z pz] k1 pos) (Wl X.K 3 (Le (FO i) (Le (FO j) (Le (FO l) XS))))):DG X (.Tuple [.Name x px,.Name y py,.Name z pz] k1 pos) (RF i j l):=by
 refine⟨_,h,fun δ z δ' e G0 H0 G H σ v Q R k=>?_⟩;unfold RF at e;split at e
 ·cases e;have du:=R.C6 _ (.head _);rw[Du]at du;obtain⟨a,ys,rfl,n1,n2⟩:=du;obtain⟨w1,r1,rfl,m1,n2⟩:=n2.un;obtain⟨w2,r2,rfl,m2,n2⟩:=n2.un;obtain⟨w3,rfl,m3⟩:=n2.Ib;refine⟨a,[w1,w2,w3],rfl,CK.of (R.ins _ _ n1),rfl,w1,[w2,w3],rfl,w2,[w3],rfl,w3,[],rfl,rfl,?_⟩;exact k _ _ _ ((((R.drop.put m3).put m2).put m1).Im.Im.Im)
 ·cases e
end
end L2
set_option maxHeartbeats 1000000
namespace L2
open PySem PySem.Spec PyProof.Rows
abbrev QW(i:Nat)(f:Dv→Option PD):DF:=fun δ=>(f δ).bind fun x=>match x with
 |.list xs=>some (.nx (δ.set i (.own (.lst xs))))
 |_=>none
section
variable{X:Cx}{a b:Expr}{f g:Dv→Option PD}{i:Nat}{y:Str}{pos pos' p cp:Pos}
def Sj(ha:DE X a f)(hb:DE X b g)(hN:X.N.Nodup)(hi':X.N[i]? = some y)(hx:Loc X.env.scope y)
 (hs:swapsWith (.BinOp a .Add b cp) (some (.Name y pos')) pos.line X.env=pure false:=by rfl)(hf:X.fn y=true∨X.env.scope.names.lookup y=some .local:=by first|exact .inl rfl|exact .inr rfl|assumption) :
  DS X (.Assign [.Name y pos'] (.BinOp a .Add b cp) pos) (QW i (AI Lp f g)):=by
 obtain⟨ta,pa,ka⟩:=ha;obtain⟨tb,pb,kb⟩:=hb;refine⟨_,B7 hN hi' hx (BL YX pa pb) hs hf,fun δ r hz G0 H0 G H σ D R q=>?_⟩;obtain⟨z,h1,h2⟩:=aA.mp hz;obtain⟨x,y,h3,h4,h5⟩:=two (x:=.none) (y:=.none) h1;refine ka δ x h3 G0 H0 G H σ [] _ R fun u G1 H1 R1=>?_;refine kb δ y h4 G0 H0 G1 H1 σ _ _ R1 fun v G2 H2 R2=>?_;have du:=R2.C6 (x,u) (.tail _ (.head _));have dv:=R2.C6 (y,v) (.head _);unfold Lp at h5;split at h5
 ·split at h5
  ·rename_i hl;cases h5;cases h2;rw[Du]at du dv;obtain⟨p,xs,rfl,k1,k2⟩:=du;obtain⟨q',ys,rfl,k3,k4⟩:=dv;exact⟨p,q',xs,ys,rfl,rfl,R2.ins _ _ k1,R2.ins _ _ k3,GO (by rw[k2.len,k4.len];exact hl),fun l hl'=>q _ _ _ (R2.drop.drop.YY ⟨_,rfl,k2.app k4⟩ hl')⟩
  ·cases h5
 ·cases h5
end
end L2
set_option maxHeartbeats 4000000
set_option maxHeartbeats 1000000
set_option maxHeartbeats 4000000
set_option maxHeartbeats 1000000
set_option maxHeartbeats 4000000
set_option maxHeartbeats 1000000
set_option maxHeartbeats 2000000
set_option maxHeartbeats 4000000
set_option maxHeartbeats 1000000
namespace L2
open PySem PySem.Spec PyProof.Rows
def cj{G:Hp}{x:PD}{t:Tr}{v:V}(h:Hz x=some t)(d:Du G x v):Tv G t v:=by
 cases x with
 |tuple ds =>
  rw[Hz]at h;have:=Ng h;subst this;rw[Du]at d;obtain⟨a,xs,rfl,h1,h2⟩:=d;exact⟨a,xs,rfl,h1,OC h2⟩
 |_=>simp[Hz]at h
end L2
set_option maxHeartbeats 4000000
namespace TH
open PySem PyProof.Rows PySem.SeqAt
section
open PySem.AutoSeq1 (wpAny_loadPart')
open PySem.MeetsSeq PySem.MeetsSeq2 PySem.MeetsSeq3
def bZ(n0:Nat)(ih:∀(t u:Tr) (A:Around) (s:SD) (a b:AD) (its its':List VL),t.deep<n0→s.heap.IsTuple a its.toArray→Vs s.heap t its→s.heap.IsTuple b its'.toArray→Vs s.heap u its'→A.units+t.deep<cLine →
   ∀(prog:Program) (w:World) (E:VL→SD→Prop) (Q:VL→SD→Prop),Q (.bool (!Tr.lt u t)) s→wpAny (model prog w) A (richCompare .LtE (.ref a) (.ref b)) Q E s)
 (l b:AD)(items items2:Array VL)(n n2:Nat)(dd dd2:Option AD)(sl sl2:Array (Option VL))(t u:Tr)(ht:t.deep≤n0) :
  Meets (Builtin.«tuple.__le__» ⟨[.ref l,.ref b],[]⟩)
   (fun A R s=>s.heap.get? l=some { cls:=.type "tuple",dict:=dd,data:=.seq items n,slots:=sl}∧s.heap.get? b=some { cls:=.type "tuple",dict:=dd2,data:=.seq items2 n2,slots:=sl2} ∧
    Vs s.heap t items.toList∧Vs s.heap u items2.toList∧A.units+t.deep<cLine∧R (.ok (.ret (.bool (!Tr.lt u t)))) s) :=
 .of_wp fun prog w A R s h=>by
  obtain⟨hp,g,d,tk,os⟩:=s;obtain⟨hl,hb,hi,hj,hun,h⟩:=h;have f2:=AutoSeq1.sub_tuple_tuple;have z1:items.size=t.len:=by rw[←Vs.length hi];simp
  have z2:items2.size=u.len:=by rw[←Vs.length hj];simp
  wp_walk using wpAny_loadPart' hl,wpAny_loadPart' hb,wpAny_forIn_list _ (fun rest b s'=>b.1=none∧s'=⟨hp,g,d,tk,os⟩∧∃(vs ws:List VL) (t' u':Tr),rest=vs.zip ws ∧
   Vs hp t' vs∧Vs hp u' ws∧t'.deep≤t.deep∧t'.len+items2.size=u'.len+items.size∧R (.ok (.ret (.bool (!Tr.lt u' t')))) ⟨hp,g,d,tk,os⟩) _
  case turn =>
   rintro⟨y,x⟩ rest b s' ⟨hb',rfl,vs,ws,t',u',hz,hvi,hwi,hdp,hlen,hR⟩;cases t' with
   |nil=>rw[Vs]at hvi;subst hvi;rw[List.zip_nil_left]at hz;cases hz
   |cons bt rt =>
    cases u' with
    |nil=>rw[Vs]at hwi;subst hwi;rw[List.zip_nil_right]at hz;cases hz
    |cons bu ru =>
     rw[Vs]at hvi hwi;obtain⟨a1,i1,v1,rfl,p1,p2,p3⟩:=hvi;obtain⟨a2,i2,v2,rfl,q1,q2,q3⟩:=hwi;rw[List.zip_cons_cons]at hz
     injection hz with hyx hrest
     injection hyx with hy hx
     subst hy hx;have hdd:(Tr.cons bt rt).deep=max (bt.deep+1) rt.deep:=rfl;rw[Tr.lt]at hR;simp only[Tr.len]at hlen;have he:=UO (s:=⟨hp,g,d,tk,os⟩) (A:=A.in1) p1 p2 q1 q2 (by rw[show A.in1.units=A.units+1 from rfl];lia);refine Wb (he prog w _ _ ?_);cases hc:decide (bt=bu) with
     |true =>
      rw[if_pos (ab hc).symm]at hR
      wp_walk
      exact⟨rfl,rfl,_,_,_,_,hrest,p3,q3,by lia,by lia,hR⟩
     |false =>
      rw[if_neg (fun z=>of_decide_eq_false hc z.symm)]at hR;have hri:=ih bt bu A.in1 ⟨hp,g,d,tk,os⟩ a1 a2 i1 i2 (by lia) p1 p2 q1 q2 (by rw[show A.in1.units=A.units+1 from rfl];lia) prog w
      wp_walk using hri
      exact⟨_,rfl,by simpa using hR⟩
  case fin =>
   rintro⟨b1,b2⟩ s' ⟨hb',rfl,vs,ws,t',u',hz,hvi,hwi,hdp,hlen,hR⟩;simp only at hb';subst hb';have hv:(!Tr.lt u' t')=decide (items.size≤items2.size):=by
    cases t' with
    |nil =>
     cases u' with
     |nil =>
      simp only[Tr.len]at hlen;exact(aw (by lia)).symm
     |cons c q =>
      simp only[Tr.len]at hlen;exact(aw (by lia)).symm
    |cons bt rt =>
     cases u' with
     |nil =>
      simp only[Tr.len]at hlen;exact(aZ (by lia)).symm
     |cons c q =>
      rw[Vs]at hvi hwi;obtain⟨_,_,_,rfl,_⟩:=hvi;obtain⟨_,_,_,rfl,_⟩:=hwi;rw[List.zip_cons_cons]at hz;cases hz
   rw[hv]at hR
   wp_walk
   exact⟨_,rfl,by simpa[Builtin.Tuple.tupleCompareSizes]using hR⟩
  case h =>
   exact⟨rfl,rfl,items.toList,items2.toList,t,u,rfl,hi,hj,Nat.le_refl _,by lia,h⟩
def cF:∀(n0:Nat) (t u:Tr) (A:Around) (s:SD) (a b:AD) (its its':List VL),t.deep<n0→s.heap.IsTuple a its.toArray→Vs s.heap t its→s.heap.IsTuple b its'.toArray→Vs s.heap u its'→A.units+t.deep<cLine →
   ∀(prog:Program) (w:World) (E:VL→SD→Prop) (Q:VL→SD→Prop),Q (.bool (!Tr.lt u t)) s→wpAny (model prog w) A (richCompare .LtE (.ref a) (.ref b)) Q E s
 |0,_,_,_,_,_,_,_,_,h,_,_,_,_,_=>absurd h (ag _)
 |n0+1,t,u,A,s,a,b,its,its',hd,hl,ht,hb,hu',hun=>fun prog w E Q h=>by
  obtain⟨⟨cls,dd,data,sl⟩,ho,hc,n,hdt⟩:=id hl;obtain⟨⟨cls2,dd2,data2,sl2⟩,ho2,hc2,n2,hdt2⟩:=id hb;simp only at hc hdt hc2 hdt2;subst hc hdt hc2 hdt2;exact richCompare_meets_room (op:=.LtE) ⟨_,ho,rfl⟩ ⟨_,ho2,rfl⟩ PySem.F.slot_tuple_le PySem.F.entry_tuple_le (PySem.F.args_tuple_le_2 _ _) (bZ n0 (cF n0) a b its.toArray its'.toArray n n2 dd dd2 sl sl2 t u (by lia))
   ⟨ho,ho2,by simpa using ht,by simpa using hu',hun,show Value.bool (!Tr.lt u t)≠Value.notImplemented∧Q (.bool (!Tr.lt u t)) s from⟨(fun x=>nomatch x),h⟩⟩ (by lia)
end
end TH
set_option maxHeartbeats 1000000
namespace L2
open PySem PySem.Spec PyProof.Rows
section
variable{X:Cx}{a b:Expr}{p2:Pos}
def jd:R2:=fun x y H Q=>∃t u,Tv H t x∧Tv H u y∧t.deep≤60∧Q (.bl (!Tr.lt u t)) H
def eG(hu:X.A.units+64<cLine):D0 X (compareOp .LtE) jd:=by
 intro pins s σ H x y v u' Q I rx ry h;obtain⟨t,u,h1,h2,hd,q⟩:=h;obtain⟨a,its,rfl,p1,k1⟩:=h1.at I rx;obtain⟨b,its',rfl,p2,k2⟩:=h2.at I ry;exact TH.cF (t.deep+1) t u X.A s a b its its' (bN _) p1 k1 p2 k2 (by lia) X.prog X.w X.xe _ ⟨.bl _,H,I,rfl,q⟩
def cR:PD→PD→Option PD:=fun x y=>(Hz x).bind fun t=>(Hz y).bind fun u=>if t.deep≤60 then some (.bool (!Tr.lt u t)) else none
def eT(hu:X.A.units+64<cLine):Ep X (compareOp .LtE) cR:=by
 refine⟨_,eG hu,fun x y z hz G0 H0 G H σ δ ts u v Q R du dv k=>?_⟩;obtain⟨t,h1,hz⟩:=aA.mp hz;obtain⟨t',h2,hz⟩:=aA.mp hz;split at hz
 ·rename_i hd;cases hz;exact⟨t,t',(cj h1 du).same R.ins,(cj h2 dv).same R.ins,hd,k _ _ _ (R.put (by rw[Du]))⟩
 ·cases hz
end
end L2
set_option maxHeartbeats 4000000
set_option maxHeartbeats 1000000
namespace L2
open PySem PySem.Spec PyProof.Rows
section
variable{X:Cx}
def D8(es:List PD)(d:PD):Bool:=es.any fun y=>PyData.eqv y d
def ZP(K:Fg)(neg:Bool):R2:=fun x y H Q=>∃d es,Br K H d x∧Br K H (.list es) y∧SeqAt.shaped d=true∧SeqAt.shaped (.list es)=true∧Q (.bl (if neg then !D8 es d else D8 es d)) H
def Wf{es:List PD}(h:SeqAt.shaped (.list es)=true):PyData.canLayAll0 es=true∧PyData.depthAll es≤63:=by
 have h1:=SeqAt.canLay_of_shaped h;have h2:=SeqAt.depth_of_shaped h;simp only[PyData.canLay0]at h1;simp only[PyData.depth]at h2;exact⟨h1,by lia⟩
def gU(hu:X.A.units+64<cLine):D0 X (compareOp .In) (ZP X.K false):=by
 intro pins s σ H x y v u Q I rx ry h;obtain⟨d,es,h1,h2,s1,s2,q⟩:=h;obtain⟨as,ra⟩:=Br.reads I h1 rx;obtain⟨bs,rb⟩:=Br.reads I h2 ry;obtain⟨c1,c2⟩:=Wf s2;exact SeqAt.in_list_reads rb ra c1 (SeqAt.canLay_of_shaped s1) (by have:=Nat.min_le_left (PyData.depthAll es) d.depth;lia) ⟨.bl _,H,I,rfl,q⟩
def YC(hu:X.A.units+64<cLine):D0 X (compareOp .NotIn) (ZP X.K true):=by
 intro pins s σ H x y v u Q I rx ry h;obtain⟨d,es,h1,h2,s1,s2,q⟩:=h;obtain⟨as,ra⟩:=Br.reads I h1 rx;obtain⟨bs,rb⟩:=Br.reads I h2 ry;obtain⟨c1,c2⟩:=Wf s2;exact SeqAt.notIn_list_reads rb ra c1 (SeqAt.canLay_of_shaped s1) (by have:=Nat.min_le_left (PyData.depthAll es) d.depth;lia) ⟨.bl _,H,I,rfl,q⟩
def JS(neg:Bool):PD→PD→Option PD:=fun x y=>match y with
 |.list es=>if SeqAt.shaped x=true∧SeqAt.shaped (.list es)=true then some (.bool (if neg then !D8 es x else D8 es x)) else none
 |_=>none
def WN{m:VL→VL→Sem VL}{neg:Bool}(ho:D0 X m (ZP X.K neg)):Ep X m (JS neg):=by
 refine⟨_,ho,fun x y z hz G0 H0 G H σ δ ts u v Q R0 du dv k=>?_⟩;unfold JS at hz;split at hz
 ·split at hz
  ·rename_i hs;cases hz;exact⟨x,_,(du.same R0.ins).br (LU hs.1),(dv.same R0.ins).br (LU hs.2),hs.1,hs.2,k _ _ _ (R0.put (by rw[Du]))⟩
  ·cases hz
 ·cases hz
def Xy(hu:X.A.units+64<cLine):Ep X (compareOp .In) (JS false):=WN (gU hu)
def X1:E6 X (.type "str") (fun xs H Q=>∃i:Int,xs=[.int i]∧i.natAbs.log2<1920∧Q (.str (Str.ofString (toString i))) H):=by
 intro pins s σ H xs us Q I r h;obtain⟨i,rfl,hl,q⟩:=h;obtain⟨u,rfl,t,rfl⟩:=vals1 r;exact P.str_of_int hl ⟨.str (Str.ofString (toString i)),H,I.tok _,⟨_,rfl⟩,q⟩
def XU:MD
 |[.int i]=>if i.natAbs<10 then some (.str (Str.ofString (toString i))) else none
 |_=>none
def ic:LV X (.type "str") XU:=by
 refine⟨_,X1,fun xs z hz G0 H0 G H σ δ ts us Q R0 d k=>?_⟩;unfold XU at hz;split at hz
 ·split at hz
  ·rename_i i hi;cases hz;obtain⟨u,rfl,du⟩:=d.Ib;rw[Du]at du;subst du;exact⟨_,rfl,Nat.lt_of_le_of_lt (Nat.log2_le_self _) (by lia),k _ _ _ (R0.put (by rw[Du]))⟩
  ·cases hz
 ·cases hz
def Y3(hu:X.A.units+64<cLine):Ep X (compareOp .NotIn) (JS true):=WN (YC hu)
end
end L2
set_option maxHeartbeats 4000000
namespace Opn
open PySem PySem.W PyProof.Rows PySem.Calls
noncomputable def q0:Pos:=⟨0,0,0,0⟩
noncomputable def kK:Obj:={ cls:=.type "tuple",data:=.seq #[]}
noncomputable def kG:Obj:={ cls:=.none,data:=.fields #[]}
noncomputable def kI:Obj:={ cls:=.type "code",data:=.fields #[.str (Str.ofString "<module>") 182,.str (Str.ofString "<module>") 183,.str (Str.ofString "/claim/cut.py") 184,.int 1 0,.int 0 0,.int 0 0,.int 0 0,.int 0 0,.ref 11,.bool false,.int 181 0,.ref 12,.none,.none,.none,.none,.int 185 0,.int 1 0,.str (Str.ofString "/claim/cut.py") 186]}
noncomputable def kR:Obj:={ cls:=.type "frame",slots:=#[some (.ref 13),some (.ref 3),some (.ref 3),none,some (.str (Str.ofString "__main__") 164),none,some (.ref 0)]}
noncomputable def jk(P:Params):List Obj:=(boot_heap P).objs.toList++[kK,kG,kI,kR]
noncomputable def nN(P:Params)(o:Params→Obj)(l r:BT):BT:=.node (o P) l r
noncomputable def lN(P:Params)(o:Params→Obj):BT:=.node (o P) .nil .nil
noncomputable def kB(P:Params):BT :=
 nN P boot_o_0 (nN P boot_o_1 (nN P boot_o_3 (lN P boot_o_7) (.node kK .nil .nil)) (nN P boot_o_5 (lN P boot_o_9) (.node kI .nil .nil)))
  (nN P boot_o_2 (nN P boot_o_4 (lN P boot_o_8) (.node kG .nil .nil)) (nN P boot_o_6 (lN P boot_o_10) (.node kR .nil .nil)))
noncomputable def cS:Life:=Life.mk [] [] [] 0 [] [] false #[] [] 0 false false false 0 [2000,10,10] false 0 true [] [] 0 false
noncomputable def sA(w:World)(os:OsState):SD:=⟨⟨⟨jk w.params⟩,cS⟩,#[],boot_drawn,187,os⟩
noncomputable def sB(w:World)(os:OsState):SharedT:=⟨kB w.params,15,cS,#[],boot_drawn,187,os⟩
noncomputable def P9(p:Program):Env:={ scope:=p.main.scope,locals:=mainNs,globals:=mainNs,cells:=[],code:=.ref 13,frame:=some 14}
noncomputable def cB(p:Program):Code:=.body (behindTheImports p) (P9 p)
noncomputable abbrev J3:Option VL:=some (.ref 6)
noncomputable abbrev bB:List Frame:=[topFrame q0]
noncomputable def XE(p:Program)(M:Nat)(w:World)(os:OsState):Option (Flow×SharedT×Code×Pos) :=
 PySem.W.Fast.tw10110043849684766642 PySem.W.Fast.tw14364793385576792824 p w 11 J3 1 M (sB w os) (piecesOf (behindTheImports p) (P9 p) (cB p) q0 bB)
noncomputable def W4(p:Program)(M:Nat)(w:World)(os:OsState):SharedT:=match XE p M w os with|some (_,s,_)=>s|none=>sB w os
def dG{p:Program}{M:Nat}{w:World}{os:OsState}{r:Option (Flow×SharedT×Code×Pos)}(h:XE p M w os=r) :
  segRunT treeTable p w 11 J3 1 M (sB w os) (piecesOf (behindTheImports p) (P9 p) (cB p) q0 bB)=r:=by
 have e:segRunT treeTable=PySem.W.Fast.tw10110043849684766642 PySem.W.Fast.tw14364793385576792824:=congr PySem.W.Fast.te10110043849684766642 PySem.W.Fast.te14364793385576792824;rw[e];exact h
def i9{p:Program}{M M0:Nat}{posE:Pos}{w:World}{os:OsState}
 (pre:topGo treeTable p w 11 J3 12 ⟨boot_heap w.params,#[],boot_drawn,boot_toks,os⟩ (topStub p)=some (sA w os,⟨denote treeTable (cB p),cB p,q0,bB⟩))
 (blk:segRun treeTable p w 11 J3 1 1 (sA w os) (blockOf (behindTheImports p) (P9 p) (cB p) q0 bB)=some (.next,(sB w os).abs,cB p,q0))
 (seg:XE p M w os=some (.next,W4 p M w os,cB p,posE))
 (fin:∀s,topRun treeTable p w 11 J3 2 s (restOf [] (P9 p) (cB p) posE bB)=some s)(hM:M0=12+(1+(M+2))) :
  topRun treeTable p w 11 J3 M0 ⟨boot_heap w.params,#[],boot_drawn,boot_toks,os⟩ (topStub p)=some (W4 p M w os).abs:=by
 subst hM;refine go_top pre (piece_block blk ?_);have h:=piece_app (rest:=[]) (segRun_of (dG seg)) (fin _);rw[List.append_nil]at h;exact h
def d7{p q:Program}{loose:List Str}{Xt:SD→Bool}{α:Type}{Yf:SD→α}{Ya:World→α}{N M:Nat}{S:World→OsState→SD}
 (open_:∀w:World,(fencedOpening treeTable p w N).map (fun s=>(s.heap,s.gens,s.drawn,s.toks))=some (boot_heap w.params,#[],boot_drawn,boot_toks))
 (size:∀w:World,((boot_heap w.params).isNs mainGlobals&&(#[]:Array GenState).size==0,(boot_heap w.params).objs.size,(boot_heap w.params).nsMap mainGlobals "__annotations__")=(true,11,J3))
 (run:∀w os,topRun treeTable p w 11 J3 M ⟨boot_heap w.params,#[],boot_drawn,boot_toks,os⟩ (topStub p)=some (S w os))(le:Nat.ble M N=true)
 (ok:∀w os,(staticsOk (importedModules p.main.body) (boot_heap w.params) (S w os).heap&&namesBound p (S w os).heap&&gensDone (S w os)&&laidKept (boot_heap w.params) (S w os).heap)=true)
 (seen:∀w os,openSeen q loose (importedModules p.main.body) Xt true (S w os)=openGood q loose)
 (hY:∀w os,Yf (S w os)=Ya w):LeftO p q loose Xt Yf Ya N:=fun w=>by
 obtain⟨⟨h,gs,d,k,os⟩,e,e'⟩:=aC.mp (open_ w);obtain⟨rfl,rfl,rfl,rfl⟩:h=boot_heap w.params∧gs=#[]∧d=boot_drawn∧k=boot_toks:=by simpa using e'
 obtain⟨z1,z2,z3⟩:_∧_∧_:=by simpa only[Prod.mk.injEq]using size w
 have l1:=ok w os;have r:=topRun_mono (N-M) _ _ _ _ (run w os);rw[show M+(N-M)=N by have:=Nat.le_of_ble_eq_true le;lia]at r;have t:topFrom treeTable p w N ⟨boot_heap w.params,#[],boot_drawn,boot_toks,os⟩=some (S w os):=by
  unfold topFrom;dsimp only;rw[z1,z2,z3,r];show(match staticsOk (importedModules p.main.body) (boot_heap w.params) (S w os).heap&&namesBound p (S w os).heap&&gensDone (S w os)&&laidKept (boot_heap w.params) (S w os).heap with|true=>_|false=>_)=_;rw[l1]
 unfold openEnds;rw[e];show(topFrom treeTable p w N _).map _=_;rw[t];exact aj some (Prod.ext (seen w os) (hY w os))
def jb(w:World):((boot_heap w.params).isNs mainGlobals&&(#[]:Array GenState).size==0,(boot_heap w.params).objs.size,(boot_heap w.params).nsMap mainGlobals "__annotations__")=(true,11,J3):=by kernel_rfl
end Opn
namespace Q98
open PySem L2
def top(i:Nat):Stmt:=PySem.Challenge.pw_stepgrove_k98_whole_a_judge_of_papers.main.body.getD i (.Pass ⟨0,0,0,0⟩)
abbrev Hr:Stmt:=top 6
abbrev K0:Stmt:=top 7
abbrev FI:Stmt:=top 8
abbrev Gb:Stmt:=top 9
abbrev F7:Stmt:=top 10
abbrev De:Stmt:=top 11
abbrev Ie:Stmt:=top 12
abbrev LC:Stmt:=top 13
abbrev M4:Stmt:=top 16
abbrev HY:Stmt:=top 17
abbrev Mg:Stmt:=top 18
abbrev KU:Stmt:=top 21
abbrev Mm:Stmt:=top 22
abbrev G6:Stmt:=top 23
abbrev JJ:Stmt:=top 24
abbrev F6:Stmt:=top 25
abbrev Hv:Stmt:=top 26
abbrev Gh:Stmt:=top 27
abbrev Ht:Stmt:=top 31
abbrev GS:Stmt:=top 32
abbrev IA:Stmt:=top 33
abbrev LG:Stmt:=top 34
abbrev Ln:Stmt:=top 35
abbrev GY:Stmt:=top 36
abbrev Er:Stmt:=top 38
abbrev Lx:Stmt:=top 39
abbrev Hn:Stmt:=top 40
abbrev He:Stmt:=top 41
abbrev Jb:Stmt:=top 42
abbrev LX:Stmt:=top 43
abbrev Ja:Stmt:=top 44
abbrev LH:Stmt:=top 45
abbrev Kz:Stmt:=top 46
abbrev J7:Stmt:=top 47
abbrev IX:Stmt:=top 48
abbrev LF:Stmt:=top 49
abbrev JN:Stmt:=top 50
abbrev Lu:Stmt:=top 51
abbrev GH:Stmt:=top 52
abbrev GK:Stmt:=top 53
abbrev Kb:Stmt:=top 54
abbrev HZ:Stmt:=top 55
abbrev HQ:Stmt:=top 56
abbrev JT:Stmt:=top 57
abbrev Gi:Stmt:=top 58
abbrev JP:Stmt:=top 59
abbrev Ip:Stmt:=top 60
abbrev Qd:Stmt:=top 61
def iL{n:String}:Rx (.ty n)≠.none:=fun z=>nomatch z
def mulC{i j:Int}(h1:-18446744073709551616<j)(h2:j<18446744073709551616):Rp i j∨OU i j:=.inl (.inr ⟨h1,h2⟩)
def mulL{i j:Int}(h1:-18446744073709551616<i)(h2:i<18446744073709551616):Rp i j∨OU i j:=.inl (.inl ⟨h1,h2⟩)
def P8:Sp:=fun vs H Q _=>∃a b,vs=[.int a,.int b]∧Q (.int (FM.gi a b)) H
def Rj:Sp:=fun vs H Q _=>∃t b m,vs=[.int t,.int b]∧b≠0∧m≤9000∧b.natAbs<2^m∧∀l H',Ak H H'→H' l=some (.tup (JO (Rat.divInt t b)))→Q (.ref l) H'
def iD(K:Fg)(op:Rat→Rat→Rat)(ok:Rat→Prop):Sp:=fun vs H Q _=>∃v w p q n,vs=[v,w]∧Rt K H p v∧Rt K H q w∧FM.Fits p n∧FM.Fits q n∧n≤4000∧ok q ∧
 ∀l H',Ak H H'→H' l=some (.tup (JO (op p q)))→Q (.ref l) H'
section
variable{P:Program}{w:World}{K:Fg}{mg:Str→Option VL}{base:Heap}{f g:AD}{fd gd:FuncData}
def NV:Av ["one", "other", "greater", "lesser", "rest"] ["one", "other"] (Ab De):=Ct
def mV(σ:St):Nat:=match σ[3]? with|some (some (V.int l))=>l.natAbs|_=>0
def NY(F:Fn K mg "greatest_divisor" De ["one", "other"] f fd)(M6:mg "abs" = none):AV P w K mg base Ar 1 f fd ["one", "other"] P8:=by
 have sc:=NV;refine F.F.ok (k:=0) sc (fun vs H Q E h=>?_) (fun cdv A outer s H vs Q E hr h=>?_)
 ·obtain⟨a,b,rfl,_⟩:=h
  rfl
 obtain⟨a,b,rfl,q⟩:=h;refine⟨_,(BB (B7 (i:=2) sc.nd rfl (Or.inl rfl) (Dx QB rfl M6 PyProof.Rows.boot_abs (Ad (pv 0) BE)))
 (BB (B7 (i:=3) sc.nd rfl (Or.inl rfl) (Dx QB rfl M6 PyProof.Rows.boot_abs (Ad (pv 1) BE)))
 (BB (Pp aI (Eu W6 (pv 3) Aq (Ag _))
  (BB (B7 (i:=4) sc.nd rfl (Or.inl rfl) (BL JK (pv 2) (pv 3)))
  (BB (B7 (i:=2) sc.nd rfl (Or.inl rfl) (pv 3))
  (Bt (B7 (i:=3) sc.nd rfl (Or.inl rfl) (pv 4))))))
 (Bt (Dh (pv 2)))))),?_⟩
 refine⟨_,rfl,_,rfl,_,rfl,_,rfl,?_⟩;refine Ua (fun σ H'=>∃g l r,σ=[some (.int a),some (.int b),some (.int g),some (.int l),r]∧H=H'∧Int.gcd g l=Int.gcd a b∧0≤g∧0≤l) (fun σ _=>mV σ) ?_ ?_ ?_
 ·exact⟨_,_,_,rfl,rfl,FM.eH a b,FM.abs_nonneg a,FM.abs_nonneg b⟩
 ·rintro σ H' ⟨g,l,r,rfl,rfl,hg,h0,h1⟩;refine⟨_,rfl,rfl,_,rfl,HS (fun c=>?_) (fun c=>?_)⟩
  ·have hl:l≠0:=fun z=>by subst z;simp at c
   refine⟨_,rfl,_,rfl,_,_,rfl,rfl,hl,_,rfl,_,rfl,⟨_,_,_,rfl,rfl,?_,h1,FM.fmod_nonneg hl h1⟩,?_⟩
   ·rw[FM.Uo];exact hg
   ·exact FM.SN g l hl
  ·have hl:l=0:=by simpa using c
   subst hl;refine⟨_,rfl,?_⟩;rw[FM.iM hg h0];exact q
 ·exact fun σ H Q Q' hq ⟨v,e,s,k,e2,q⟩=>⟨v,e,s,k,e2,hq _ _ q⟩
def RZ:Av ["top", "bottom", "shared"] ["top", "bottom"] (Ab Hr):=Ct
def RO(F:Fn K mg "fraction_of" Hr ["top", "bottom"] f fd)(Bb:Fn K mg "greatest_divisor" De ["one", "other"] g gd)
 (CQ:AV P w K mg base Ar 1 g gd ["one", "other"] P8):AV P w K mg base Ar 2 f fd ["top", "bottom"] Rj:=by
 have sc:=RZ;refine F.F.ok (k:=1) sc (fun vs H Q E h=>?_) (fun cdv A outer s H vs Q E hr h=>?_)
 ·obtain⟨t,b,m,rfl,_⟩:=h
  rfl
 obtain⟨t,b,m,rfl,hb,hm,hs,q⟩:=h;refine⟨_,(BB (Ii (Eu QU (pv 1) Aq (Ag _))
  (Bt Te)
  Fi)
 (BB (B7 (i:=2) sc.nd rfl (Or.inl rfl) (Dy Bb CQ hr rfl (Ad (pv 0) (Ad (pv 1) BE))))
 (BB (Ii (Eu TN (pv 1) Aq (Ag _))
  (Bt (B7 (i:=2) sc.nd rfl (Or.inl rfl) (b5 Yd (pv 2))))
  Fi)
 (Bt (Dh (Qk (Ad (BL Gw (pv 0) (pv 2)) (Ad (BL Gw (pv 1) (pv 2)) BE)))))))),?_⟩
 refine⟨_,rfl,rfl,_,rfl,HS (fun c=>absurd c (by simpa using hb)) (fun _=>?_)⟩;refine⟨_,rfl,_,rfl,t,b,rfl,?_⟩
 try dsimp only[FO]
 refine LL (fun σ' H'=>σ'=[some (.int t),some (.int b),some (.int (FM.gs t b))]∧H=H') (fun nx hn=>?_) ?_
 ·refine⟨_,rfl,_,_,rfl,rfl,_,rfl,HS (fun c=>?_) (fun c=>?_)⟩
  ·have c':b<0:=ab c;refine⟨_,rfl,_,rfl,hn _ _ ⟨?_,rfl⟩⟩;unfold FM.gs;rw[if_pos c']
   rfl
  ·have c':¬b<0:=of_decide_eq_false (Bool.eq_false_iff.mpr c);refine hn _ _ ⟨?_,rfl⟩;unfold FM.gs;rw[if_neg c']
   rfl
 ·rintro σ' H' ⟨rfl,rfl⟩;have h0:FM.gs t b≠0:=FM.cW hb;have h1:(FM.gs t b).natAbs<2^m:=aV (FM.cH hb) hs;refine⟨_,rfl,_,rfl,_,_,rfl,rfl,⟨h0,m,hm,h1⟩,_,rfl,_,rfl,_,_,rfl,rfl,⟨h0,m,hm,h1⟩,Yg,fun p hp=>?_⟩;refine q p _ (Bv hp _) ?_;rw[Au];show some (HO.tup [V.int (t.fdiv (FM.gs t b)),V.int (b.fdiv (FM.gs t b))])=_;rw[FM.UI hb,FM.Tu hb]
  rfl
def TB:Av ["one", "other"] ["one", "other"] (Ab K0):=Ct
def Sz(F:Fn K mg "frac_times" K0 ["one", "other"] f fd)(EZ:Fn K mg "fraction_of" Hr ["top", "bottom"] g gd)
 (J4:AV P w K mg base Ar 2 g gd ["top", "bottom"] Rj):AV P w K mg base Ar 3 f fd ["one", "other"] (iD K (fun p q=>p*q) (fun _=>True)):=by
 have sc:=TB;refine F.F.ok (k:=2) sc (fun vs H Q E h=>?_) (fun cdv A outer s H vs Q E hr h=>?_)
 ·obtain⟨v,w,p,q,n,rfl,_⟩:=h
  rfl
 obtain⟨v,w,p,q,n,rfl,⟨a,rfl,sp⟩,⟨b,rfl,sq⟩,hp,hq,hn,Bj,k⟩:=h;refine⟨_,(Bt (Dh (Dy EZ J4 hr rfl (Ad (BL Fm (EG FP (pv 0) Aq (fun _ _=>rfl)) (EG FP (pv 1) Aq (fun _ _=>rfl))) (Ad (BL Fm (EG FP (pv 0) Aq (fun _ _=>rfl)) (EG FP (pv 1) Aq (fun _ _=>rfl))) BE))))),?_⟩;refine⟨_,rfl,_,_,_,_,rfl,rfl,sp,rfl,_,rfl,_,_,_,_,rfl,rfl,sq,rfl,_,_,rfl,rfl,Xs hp.1 hq.1 (by lia),_,rfl,_,_,_,_,rfl,rfl,sp,rfl,_,rfl,_,_,_,_,rfl,rfl,sq,rfl,_,_,rfl,rfl,Xs hp.d hq.d (by lia),_,_,n+n,rfl,FM.Oy p q,by lia,FM.dd hp hq,fun l H' e1 e2=>?_⟩;exact k l H' e1 (by rw[FM.Pw p q]at e2;exact e2)
end
def cn:Sp:=fun vs H Q _=>∃(a:AD) (bs:List Int) (k:Nat),vs=[.ref a]∧H a=some (.lst (bs.map V.int))∧(∀b∈bs,1≤b∧b.natAbs<2^k)∧k*bs.length≤4000 ∧
 ∀c:Int,1≤c→c.natAbs<2^(k*bs.length+1)→(∀b∈bs,b ∣ c)→Q (.int c) H
def VM{c b:Int}(hc:1≤c)(hb:1≤b):1≤c.fdiv (FM.gi c b)*b∧c ∣ c.fdiv (FM.gi c b)*b∧b ∣ c.fdiv (FM.gi c b)*b∧(c.fdiv (FM.gi c b)).natAbs≤c.natAbs:=by
 have hg:0<FM.gi c b:=FM.Ny (by lia);obtain⟨q,hq⟩:=FM.PU c b;obtain⟨r,hr⟩:=FM.OQ c b;have e:=FM.HK (Int.ne_of_gt hg) hq;refine⟨?_,?_,Int.dvd_mul_left _ _,FM.Gd _ _⟩
 ·rw[e];have hq0:0<q:=by
   rcases Int.lt_or_le 0 q with h|h
   ·exact h
   ·have:=Int.mul_nonpos_of_nonneg_of_nonpos (Int.le_of_lt hg) h
    lia
  exact Int.mul_pos hq0 (by lia)
 ·rw[e];refine⟨r,?_⟩;rw[hr]
  conv=>rhs;rw[hq]
  rw[←hr,Int.mul_comm (FM.gi c b) q,Int.mul_assoc,Int.mul_comm (FM.gi c b) r]
  conv=>lhs;rw[hr]
  rw[Int.mul_comm (FM.gi c b) r]
def cG:Sp:=fun vs H Q _=>∃(a:AD) (xs:List V) (ps:List (Int×Int)) (k:Nat),vs=[.ref a]∧H a=some (.lst xs)∧xs.length=ps.length∧ps.length≤1000∧(∀(j:Nat) x p,xs[j]? = some x→ps[j]? = some p→∃c,x=.ref c∧H c=some (.tup [.int p.1,.int p.2])) ∧
 (∀p∈ps,1≤p.2∧p.1.natAbs<2^k∧p.2.natAbs<2^k)∧k*ps.length≤4000∧∀l H',Ak H H'→H' l=some (.tup (JO (ps.map fun p=>Rat.divInt p.1 p.2).sum))→Q (.ref l) H'
def div_add(x y:Int){c:Int}(hc:c≠0):Rat.divInt (x+y) c=Rat.divInt x c+Rat.divInt y c:=by
 rw[Rat.divInt_add_divInt _ _ hc hc,←Int.add_mul,Rat.divInt_mul_right hc]
def div_one{t b c:Int}(hb:b≠0)(hc:c≠0)(h:b ∣ c):Rat.divInt (t*c.fdiv b) c=Rat.divInt t b:=by
 obtain⟨q,rfl⟩:=h;rw[FM.HK hb rfl,Rat.divInt_mul_right (fun z=>hc (by rw[z,Int.mul_zero]))]
def V1{c:Int}(hc:c≠0):∀ {ps:List (Int×Int)},(∀p∈ps,p.2≠0∧p.2 ∣ c)→Rat.divInt (ps.map fun p=>p.1*c.fdiv p.2).sum c=(ps.map fun p=>Rat.divInt p.1 p.2).sum
 |[],_=>by simp
 |p::ps,h=>by
  obtain⟨h1,h2⟩:=h p aT;rw[List.map_cons,List.sum_cons,List.map_cons,List.sum_cons,div_add _ _ hc,div_one h1 hc h2,V1 hc fun q hq=>h q (aR _ hq)]
section
variable{P:Program}{w:World}{K:Fg}{mg:Str→Option VL}{base:Heap}{f g g1 g2:AD}{fd gd gd1 gd2:FuncData}
def QE:Av ["bottoms", "common", "bottom"] ["bottoms"] (Ab Ie):=Ct
def QD(F:Fn K mg "common_bottom" Ie ["bottoms"] f fd)(Bb:Fn K mg "greatest_divisor" De ["one", "other"] g gd)
 (CQ:AV P w K mg base Ar 1 g gd ["one", "other"] P8):AV P w K mg base Ar 2 f fd ["bottoms"] cn:=by
 have sc:=QE;refine F.F.ok (k:=1) sc (fun vs H Q E h=>?_) (fun cdv A outer s H vs Q E hr h=>?_)
 ·obtain⟨a,bs,k,rfl,_⟩:=h
  rfl
 obtain⟨a,bs,k,rfl,ha,hb,hk,q⟩:=h;refine⟨_,(BB (B7 (i:=1) sc.nd rfl (Or.inl rfl) Aq)
 (BB (Qg aI rfl (Ox (pv 0)) (A2 (i:=2) sc.nd rfl (Or.inl rfl))
  (Bt (B7 (i:=1) sc.nd rfl (Or.inl rfl) (BL Fm (BL Gw (pv 1) (Dy Bb CQ hr rfl (Ad (pv 1) (Ad (pv 2) BE)))) (pv 2)))))
 (Bt (Dh (pv 1))))),?_⟩
 refine⟨_,rfl,a,rfl,⟨_,Bo.of ha⟩,Zc (xs:=bs.map V.int) (fun i σ H'=>∃(c:Int) (r:Option V),σ=[some (.ref a),some (.int c),r]∧H=H'∧1≤c∧c.natAbs<2^(k*i+1)∧∀j b,j<i→bs[j]? = some b→b ∣ c) ?_ ?_ ?_ ?_⟩
 ·exact⟨1,_,rfl,rfl,by decide,by simp,fun j b h=>absurd h (ag _)⟩
 ·rintro i σ H' _ ⟨c,r,rfl,rfl,_⟩;exact Bo.of ha
 ·rintro i x σ H' hx ⟨c,r,rfl,rfl,c1,c2,c3⟩;have hi:i<bs.length:=by have:=(aF.mp hx).1;simpa using this
  rw[List.getElem?_map,List.getElem?_eq_getElem hi]at hx;cases hx;obtain⟨b1,b2⟩:=hb _ (List.getElem_mem hi);obtain⟨s1,s2,s3,s4⟩:=VM c1 b1;have hg:FM.gi c bs[i]≠0:=Int.ne_of_gt (FM.Ny (by lia));have hki:k*i+k≤4000:=by
   have:k*(i+1)≤k*bs.length:=Nat.mul_le_mul_left k hi;rw[Nat.mul_succ]at this
   lia
  have n1:(c.fdiv (FM.gi c bs[i])).natAbs<2^(k*i+1):=aV s4 c2;refine⟨_,rfl,_,rfl,_,rfl,c,bs[i],rfl,_,_,rfl,rfl,⟨hg,k,by have:k*1≤k*bs.length:=Nat.mul_le_mul_left k (by lia);lia,Nat.lt_of_le_of_lt (FM.cE (by lia)) b2⟩,_,rfl,_,_,rfl,rfl,Xs n1 b2 (by lia),_,_,rfl,rfl,s1,?_,fun j b hj hbj=>?_⟩
  ·have:=FM.QS n1 b2;rw[Nat.mul_succ,show k*i+k+1=k*i+1+k by lia];exact this
  ·by_cases z:j=i
   ·subst z;rw[List.getElem?_eq_getElem hi]at hbj;cases hbj;exact s3
   ·exact Int.dvd_trans (c3 j b (by lia) hbj) s2
 ·rintro σ H' ⟨c,r,rfl,rfl,c1,c2,c3⟩;rw[List.length_map]at c2 c3;refine⟨_,rfl,q c c1 c2 fun b hb=>?_⟩;obtain⟨j,hj⟩:=List.getElem?_of_mem hb;exact c3 j b (aF.mp hj).1 hj
def S6:Av ["some", "bottom"] ["some"] (Ab LC):=Ct
def S4(F:Fn K mg "frac_total" LC ["some"] f fd)(Ge:Fn K mg "common_bottom" Ie ["bottoms"] g1 gd1)(EZ:Fn K mg "fraction_of" Hr ["top", "bottom"] g2 gd2)
 (QY:AV P w K mg base Ar 2 g1 gd1 ["bottoms"] cn)(J4:AV P w K mg base Ar 2 g2 gd2 ["top", "bottom"] Rj)(IJ:mg "sum" = none):AV P w K mg base Ar 3 f fd ["some"] cG:=by
 have sc:=S6;refine F.F.ok (k:=2) sc (fun vs H Q E h=>?_) (fun cdv A outer s H vs Q E hr h=>?_)
 ·obtain⟨a,xs,ps,k,rfl,_⟩:=h
  rfl
 obtain⟨a,xs,ps,k,rfl,ha,hl,h1000,hx,hp,hk,q⟩:=h;have hk1:ps≠[]→k≤4000:=fun hne=>by
  have:k*1≤k*ps.length:=Nat.mul_le_mul_left k (List.length_pos_iff.mpr hne)
  lia
 have at_:∀(i:Nat) (hi:i<xs.length),∃(p:Int×Int) (c:AD),ps[i]? = some p∧xs[i]=.ref c∧H c=some (.tup [.int p.1,.int p.2]):=fun i hi=>by
  have hpi:ps[i]? = some (ps[i]'(by lia)):=aM _;obtain⟨c,h1,h2⟩:=hx i xs[i] _ (aM hi) hpi;exact⟨_,c,hpi,h1,h2⟩
 refine⟨_,(BB (B7 (i:=1) sc.nd rfl (Or.inr rfl) (Dy Ge QY hr rfl (Ad (K9 [".0", "part"] 1 [none,none] (Ox (pv 0)) (fun _ _ _ _ _=>L8) (fun _ _ _ _ _=>(EG SE (pv 1) Aq (fun _ _=>rfl)))) BE)))
 (Bt (Dh (Dy EZ J4 hr rfl (Ad (Dx (UC rfl) rfl IJ PyProof.Rows.boot_sum (Ad (K9 [".0", "part", "bottom"] 1 [none,none,some 1] (Ox (pv 0)) (fun _ _ _ _ _=>L8) (fun _ _ _ _ _=>(BL Fm (EG SE (pv 1) Aq (fun _ _=>rfl)) (BL Gw (pv 2) (EG SE (pv 1) Aq (fun _ _=>rfl)))))) BE)) (Ad (pv 1) BE)))))),?_⟩
 refine⟨_,rfl,a,rfl,⟨_,Bo.of ha⟩,fun D hD=>MM (n:=xs.length) (fun i ys H'=>Ak H H'∧ys=((ps.take i).map (·.2)).map V.int) ?_ ?_ ?_⟩
 ·exact⟨Bv hD _,rfl⟩
 ·rintro i ys H0 hi ⟨e0,rfl⟩ hD0;obtain⟨p,c,h1,h2,h3⟩:=at_ i hi;refine⟨⟨xs,xs[i],Bo.of (e0 _ _ ha),by simp[hi]⟩,?_,fun x H' y=>?_⟩
  ·rw[List.length_map,List.length_map,List.length_take];exact aV (Nat.min_le_left _ _) (aK (show i<1000 by lia) (by rw[sizeLine_eq];decide))
  ·obtain⟨rfl,y⟩:=y;have hxi:=y xs (Bo.of (e0 _ _ ha));rw[List.getElem?_eq_getElem hi,h2]at hxi;cases hxi;unfold Qq;refine Rf ⟨_,rfl,_,_,_,_,rfl,rfl,CK.of (e0 _ _ h3),rfl,hD0,Kh hi ⟨fun b o z=>?_,?_⟩⟩
   ·rw[AZ (A8 z hD)];exact e0 _ _ z
   ·rw[List.take_succ,h1];simp
 rintro ys H0 ⟨e0,rfl⟩ hD0;refine⟨⟨xs,Bo.of (e0 _ _ ha),Nat.le_refl _⟩,?_⟩;rw[hl,List.take_length]at hD0;refine⟨D,ps.map (·.2),k,rfl,hD0,fun b hb=>?_,by rw[List.length_map];exact hk,fun c c1 c2 c3=>?_⟩
 ·obtain⟨p,hp',rfl⟩:=aN.mp hb;exact⟨(hp p hp').1,(hp p hp').2.2⟩
 rw[List.length_map]at c2;refine⟨_,rfl,a,rfl,⟨_,Bo.of (e0 _ _ ha)⟩,fun D2 hD2=>MM (n:=xs.length) (fun i ys H'=>Ak H0 H'∧ys=((ps.take i).map fun p=>p.1*c.fdiv p.2).map V.int) ?_ ?_ ?_⟩
 ·exact⟨Bv hD2 _,rfl⟩
 ·rintro i ys H1 hi ⟨e1,rfl⟩ hD1;have E1:=e0.trans e1;obtain⟨p,d,h1,h2,h3⟩:=at_ i hi;have hpm:=aH h1;have hkk:=hk1 (List.ne_nil_of_mem hpm);obtain⟨p1,p2,p3⟩:=hp p hpm;refine⟨⟨xs,xs[i],Bo.of (E1 _ _ ha),by simp[hi]⟩,?_,fun x H' y=>?_⟩
  ·rw[List.length_map,List.length_map,List.length_take];exact aV (Nat.min_le_left _ _) (aK (show i<1000 by lia) (by rw[sizeLine_eq];decide))
  ·obtain⟨rfl,y⟩:=y;have hxi:=y xs (Bo.of (E1 _ _ ha));rw[List.getElem?_eq_getElem hi,h2]at hxi;cases hxi;unfold Qq;refine Rf ⟨_,rfl,_,_,_,_,rfl,rfl,CK.of (E1 _ _ h3),rfl,_,rfl,_,rfl,_,_,_,_,rfl,rfl,CK.of (E1 _ _ h3),rfl,_,_,rfl,rfl,⟨by lia,k,by lia,p3⟩,_,_,rfl,rfl,Xs p2 (aV (FM.Gd c p.2) c2) (by lia),hD1,Kh hi ⟨fun b o z=>?_,?_⟩⟩
   ·rw[AZ (A8 z hD2)];exact e1 _ _ z
   ·rw[List.take_succ,h1];simp
 rintro ys H1 ⟨e1,rfl⟩ hD1;refine⟨⟨xs,Bo.of ((e0.trans e1) _ _ ha),Nat.le_refl _⟩,?_⟩;rw[hl,List.take_length]at hD1;refine⟨D2,_,rfl,Bo.of hD1,_,rfl,_,c,k*ps.length+1,rfl,by lia,by lia,c2,fun l H' e2 hl'=>?_⟩;refine q l H' (e0.trans (e1.trans e2)) ?_;rw[V1 (by lia) fun p hp'=>⟨by have:=(hp p hp').1;lia,c3 _ (List.mem_map_of_mem hp')⟩]at hl';exact hl'
end
def DU(H:Hp)(d:PD)(v:V):Prop:=∃N:Nat,∀l,N≤l→Dt l H d v
def C3(H:Hp)(ds:List PD)(xs:List V):Prop:=∃N:Nat,∀l,N≤l→BO l H ds xs
def C3.same{H H':Hp}{d:List PD}{v:List V}(h:C3 H d v)(e:Ak H H'):C3 H' d v:=let⟨N,k⟩:=h;⟨N,fun l hl=>(k l hl).same e⟩
def DU.int{H:Hp}{i:Int}:DU H (.int i) (.int i):=⟨0,fun _ _=>.int⟩
def DU.bool{H:Hp}{i:Bool}:DU H (.bool i) (.bl i):=⟨0,fun _ _=>.bool⟩
def DU.CT{H:Hp}:DU H .none .CT:=⟨0,fun _ _=>.CT⟩
def DU.str{H:Hp}{x:Str}:DU H (.str x) (.str x):=⟨0,fun _ _=>.str⟩
def C3.nil{H:Hp}:C3 H [] []:=⟨0,fun _ _=>.nil⟩
def C3.cons{H:Hp}{d:PD}{ds:List PD}{x:V}{xs:List V}(h:DU H d x)(k:C3 H ds xs):C3 H (d::ds) (x::xs) :=
 let⟨N,a⟩:=h;let⟨M,b⟩:=k;⟨max N M,fun l hl=>.cons (a l (by lia)) (b l (by lia))⟩
def C3.app{H:Hp}{ds es:List PD}{xs ys:List V}(h:C3 H ds xs)(k:C3 H es ys):C3 H (ds++es) (xs++ys) :=
 let⟨N,a⟩:=h;let⟨M,b⟩:=k;⟨max N M,fun l hl=>(a l (by lia)).app (b l (by lia))⟩
def C3.len{H:Hp}{ds:List PD}{xs:List V}(h:C3 H ds xs):xs.length=ds.length:=let⟨N,a⟩:=h;(a N (aG _)).len
def C3.get{H:Hp}{ds:List PD}{xs:List V}{i:Nat}{d:PD}(h:C3 H ds xs)(e:ds[i]? = some d):∃v,xs[i]? = some v∧DU H d v:=by
 have hl:=h.len;have hi:i<xs.length:=by rw[hl];exact(aF.mp e).1
 have hx:xs[i]? = some xs[i]:=by simp[hi]
 obtain⟨N,a⟩:=h;refine⟨xs[i],hx,N,fun l hl=>?_⟩;obtain⟨d',h1,h2⟩:=(a l hl).get hx;rw[e]at h1;cases h1;exact h2
def DU.lst{H:Hp}{a:AD}{ds:List PD}{xs:List V}(h:H a=some (.lst xs))(k:C3 H ds xs):DU H (.list ds) (.ref a) :=
 let⟨N,b⟩:=k;⟨max N (a+1),fun l hl=>.lst (aO (show a<l from aK (bN a) (aW (Nat.le_max_right _ _) hl))) h (b l (by lia))⟩
def DU.tup{H:Hp}{a:AD}{ds:List PD}{xs:List V}(h:H a=some (.tup xs))(k:C3 H ds xs):DU H (.tuple ds) (.ref a) :=
 let⟨N,b⟩:=k;⟨max N (a+1),fun l hl=>.tup (aO (show a<l from aK (bN a) (aW (Nat.le_max_right _ _) hl))) h (b l (by lia))⟩
def DU.ik{H:Hp}{ds:List PD}{v:V}(h:DU H (.list ds) v):∃a xs,v=.ref a∧H a=some (.lst xs)∧C3 H ds xs:=by
 obtain⟨N,b⟩:=h;have h0:=b N (aG _);rw[Dt]at h0;obtain⟨a,xs,rfl,_,ha,_⟩:=h0;refine⟨a,xs,rfl,ha,N,fun l hl=>?_⟩;have h1:=b l hl;rw[Dt]at h1;obtain⟨a',xs',e,_,ha',hx'⟩:=h1;cases e;rw[ha]at ha';cases ha';exact hx'
def DU.kU{H:Hp}{ds:List PD}{v:V}(h:DU H (.tuple ds) v):∃a xs,v=.ref a∧H a=some (.tup xs)∧C3 H ds xs:=by
 obtain⟨N,b⟩:=h;have h0:=b N (aG _);rw[Dt]at h0;obtain⟨a,xs,rfl,_,ha,_⟩:=h0;refine⟨a,xs,rfl,ha,N,fun l hl=>?_⟩;have h1:=b l hl;rw[Dt]at h1;obtain⟨a',xs',e,_,ha',hx'⟩:=h1;cases e;rw[ha]at ha';cases ha';exact hx'
def C3.PK{H:Hp}{d e:PD}{xs:List V}(h:C3 H [d,e] xs):∃x y,xs=[x,y]∧DU H d x∧DU H e y:=by
 obtain⟨x,h1,h2⟩:=h.get (i:=0) rfl;obtain⟨y,h3,h4⟩:=h.get (i:=1) rfl;have:=h.len
 match xs,this with
 |[a,b],_ =>
  simp at h1 h3;subst h1 h3;exact⟨a,b,rfl,h2,h4⟩
mutual
def jo{c:AD}{H:Hp}:∀ {d:PD} {v:V},Dt c H d v→DU H d v
 |.none,_,h=>by rw[Dt]at h;subst h;exact .CT
 |.bool _,_,h=>by rw[Dt]at h;subst h;exact .bool
 |.int _,_,h=>by rw[Dt]at h;subst h;exact .int
 |.str _,_,h=>by rw[Dt]at h;subst h;exact .str
 |.tuple _,_,h=>by
  rw[Dt]at h;obtain⟨a,xs,rfl,n,h1,h2⟩:=h;exact .tup h1 (LK h2)
 |.list _,_,h=>by
  rw[Dt]at h;obtain⟨a,xs,rfl,n,h1,h2⟩:=h;exact .lst h1 (LK h2)
 |.dict _,_,h=>by rw[Dt]at h;exact h.elim
def LK{c:AD}{H:Hp}:∀ {ds:List PD} {xs:List V},BO c H ds xs→C3 H ds xs
 |[],_,h=>by rw[BO]at h;subst h;exact .nil
 |_::_,_,h=>by
  rw[BO]at h;obtain⟨x,r,rfl,h1,h2⟩:=h;exact .cons (jo h1) (LK h2)
end
def DU.ints{H:Hp}{ps:List Int}{v:V}(h:DU H (.tuple (ps.map .int)) v):∃a,v=.ref a∧H a=some (.tup (ps.map V.int)):=by
 obtain⟨a,xs,rfl,ha,hx⟩:=h.kU;refine⟨a,rfl,?_⟩;rw[ha]
 congr 2
 obtain⟨N,b⟩:=hx;have:=b N (aG _);clear b ha h
 induction ps generalizing xs with
 |nil=>rw[List.map_nil,BO]at this;exact this
 |cons p ps ih =>
  rw[List.map_cons,BO]at this;obtain⟨x,r,rfl,h1,h2⟩:=this;rw[Dt]at h1;subst h1;rw[List.map_cons,ih r h2]
def D7:PD→Bool
 |.tuple [.int a,.int b]=>decide (1≤b)&&(FM.gi a b==1)
 |_=>false
def Kr{ds:List PD}(h:ds.length≠2∨∃d0 d1,ds=[d0,d1]∧((Bk d0 && !BR d0)=false∨(Bk d1 && !BR d1)=false)):D7 (.tuple ds)=false:=by
 rcases h with h|⟨d0,d1,rfl,h⟩
 ·match ds,h with
  |[],_=>rfl
  |[a],_=>cases a<;>rfl
  |[_,_],h=>exact absurd rfl h
  |a::b::_::_,_=>cases a<;>first|rfl|(cases b<;>rfl)
 ·cases d0<;>first|rfl|(cases d1<;>first|rfl|(exfalso;rcases h with h|h<;>exact absurd h (by simp[Bk,BR])))
def YJ:Sp:=fun vs H Q _=>∃l d v,vs=[v]∧Dt l H d v∧Q (.bl (Bk d && !BR d)) H
def gp:Sp:=fun vs H Q _=>∃l d v,vs=[v]∧Dt l H d v∧Q (.bl (D7 d)) H
def ID{d:PD}(h:(Bk d && !BR d)=true):∃i,d=.int i:=by
 cases d<;>first|exact⟨_,rfl⟩|(exact absurd h (by simp[Bk,BR]))|(rename_i b;cases b<;>exact absurd h (by decide))
section
variable{P:Program}{w:World}{K:Fg}{mg:Str→Option VL}{base:Heap}{f g1 g2:AD}{fd gd1 gd2:FuncData}
def VX:Av ["thing"] ["thing"] (Ab F7):=Ct
def Vb(F:Fn K mg "is_whole" F7 ["thing"] f fd)(AW:mg "isinstance" = none)(Hs:mg "int" = none)(EK:mg "bool" = none):AV P w K mg base Ar 1 f fd ["thing"] YJ:=by
 have sc:=VX;refine F.F.ok (k:=0) sc (fun vs H Q E h=>?_) (fun cdv A outer s H vs Q E hr h=>?_)
 ·obtain⟨l,d,v,rfl,_⟩:=h
  rfl
 obtain⟨l,d,v,rfl,hd,q⟩:=h;refine⟨_,(Bt (Dh (Uu (Dx Mc rfl AW bO (Ad (pv 0) (Ad (Oe (v:=.ty "int") rfl Hs PyProof.Rows.boot_int rfl) BE))) (UZ (ZF (Dx Mc rfl AW bO (Ad (pv 0) (Ad (Oe (v:=.ty "bool") rfl EK bP rfl) BE)))))))),?_⟩;refine⟨_,rfl,_,_,_,_,rfl,iL,hd.ty,M5 K d hd.nodict,_,rfl,HS (fun c=>⟨_,rfl,_,_,_,_,rfl,iL,hd.ty,J1 K d hd.nodict,_,rfl,?_⟩) (fun c=>?_)⟩
 ·rw[c,Bool.true_and]at q;exact q
 ·rw[Bool.eq_false_iff.mpr c,Bool.false_and]at q;exact q
def Rn:Av ["thing"] ["thing"] (Ab FI):=Ct
def R8(F:Fn K mg "is_fraction" FI ["thing"] f fd)(DH:Fn K mg "is_whole" F7 ["thing"] g1 gd1)(Bb:Fn K mg "greatest_divisor" De ["one", "other"] g2 gd2)
 (ED:AV P w K mg base Ar 1 g1 gd1 ["thing"] YJ)(CQ:AV P w K mg base Ar 1 g2 gd2 ["one", "other"] P8)(AW:mg "isinstance" = none)(Bp:mg "tuple" = none)(BJ:mg "len" = none):AV P w K mg base Ar 2 f fd ["thing"] gp:=by
 have sc:=Rn;refine F.F.ok (k:=1) sc (fun vs H Q E h=>?_) (fun cdv A outer s H vs Q E hr h=>?_)
 ·obtain⟨l,d,v,rfl,_⟩:=h
  rfl
 obtain⟨l,d,v,rfl,hd,q⟩:=h;refine⟨_,(BB (Ii (PW.pt (XA (Qm (Q2 (Dx Mc rfl AW bO (Ad (pv 0) (Ad (Oe (v:=.ty "tuple") rfl Bp aU rfl) BE))))) (Ug (Eu W6 (Dx HA rfl BJ aQ (Ad (pv 0) BE)) Aq (Ag _)))))
  (Bt (Dh Xq))
  Fi)
 (BB (Ii (PW.pt (XA (Qm (Q2 (Dy DH ED hr rfl (Ad (EG FP (pv 0) Aq (fun _ _=>rfl)) BE)))) (Ug (Qm (Q2 (Dy DH ED hr rfl (Ad (EG FP (pv 0) Aq (fun _ _=>rfl)) BE)))))))
  (Bt (Dh Xq))
  Fi)
 (Bt (Dh (Uu (Rq Xc (EG FP (pv 0) Aq (fun _ _=>rfl)) Aq (Ag _)) (UZ (Rq QU (Dy Bb CQ hr rfl (Ad (EG FP (pv 0) Aq (fun _ _=>rfl)) (Ad (EG FP (pv 0) Aq (fun _ _=>rfl)) BE))) Aq (Ag _)))))))),?_⟩
 refine⟨_,rfl,_,_,_,_,rfl,iL,hd.ty,F4 K d hd.nodict,_,rfl,?_⟩;have no:CO d=false→D7 d=false:=fun z=>by cases d<;>first|rfl|exact absurd z (by simp[CO])
 by_cases ht:CO d=true
 ·rw[ht];obtain⟨ds,rfl⟩:∃ds,d=.tuple ds:=by cases d<;>first|exact⟨_,rfl⟩|exact absurd ht (by simp[CO])
  rw[Dt]at hd;obtain⟨a,xs,rfl,na,ha,hx⟩:=hd;have hlen:=hx.len;have s1:CK K H a xs:=CK.of ha;refine lL ⟨_,rfl,a,xs,rfl,.inr s1,rfl,_,rfl,HS (fun c=>?_) (fun c=>?_)⟩
  ·have:ds.length≠2:=by
    rw[←hlen];intro z;rw[z]at c;exact absurd c (by decide)
   rw[Kr (.inl this)]at q;exact q
  ·have h2:xs.length=2:=by
    by_cases z:xs.length=2
    ·exact z
    ·exfalso
     refine c ?_;have:¬(V.int (xs.length:Nat)=V.int 2):=by simp;lia
     rw[decide_eq_false this];rfl
   obtain⟨d0,d1,rfl⟩:∃d0 d1,ds=[d0,d1]:=by
    match ds,(show ds.length=2 by lia) with
    |[x,y],_=>exact⟨x,y,rfl⟩
   rw[BO]at hx;obtain⟨x0,r,rfl,hx0,hx⟩:=hx;rw[BO]at hx;obtain⟨x1,r,rfl,hx1,hx⟩:=hx;rw[BO]at hx;subst hx;refine⟨_,rfl,_,_,_,_,rfl,rfl,s1,rfl,l,d0,x0,rfl,hx0,_,rfl,HS (fun c0=>?_) (fun c0=>?_)⟩
   ·rw[Kr (.inr ⟨d0,d1,rfl,.inl (by simp at c0;rcases c0 with c|c<;>simp[c])⟩)]at q;exact q
   refine⟨_,rfl,_,_,_,_,rfl,rfl,s1,rfl,l,d1,x1,rfl,hx1,_,rfl,HS (fun c1=>?_) (fun c1=>?_)⟩
   ·rw[Kr (.inr ⟨d0,d1,rfl,.inr (by simp at c1;rcases c1 with c|c<;>simp[c])⟩)]at q;exact q
   obtain⟨i,rfl⟩:=ID (d:=d0) (by simpa using c0);obtain⟨j,rfl⟩:=ID (d:=d1) (by simpa using c1);rw[Dt]at hx0 hx1;subst hx0 hx1;refine⟨_,rfl,_,_,_,_,rfl,rfl,s1,rfl,_,_,rfl,rfl,_,rfl,HS (fun c=>?_) (fun c=>?_)⟩
   ·refine⟨_,rfl,_,_,_,_,rfl,rfl,s1,rfl,_,rfl,_,_,_,_,rfl,rfl,s1,rfl,i,j,rfl,rfl,?_⟩;have hj:1≤j:=by have:=ab c;lia
    have e:D7 (.tuple [.int i,.int j])=decide (V.int (FM.gi i j)=V.int 1):=by
     rw[D7,decide_eq_true hj,Bool.true_and,Bool.eq_iff_iff];simp
    rw[e]at q;exact q
   ·have hj:¬1≤j:=fun z=>c (aw (by lia));have e:D7 (.tuple [.int i,.int j])=false:=by rw[D7,decide_eq_false hj,Bool.false_and]
    rw[e]at q;exact q
 ·rw[Bool.eq_false_iff.mpr ht];rw[no (Bool.eq_false_iff.mpr ht)]at q;exact Rf (Rf q)
end
def Zh{i n:Nat}(h:i<n)(hn:n≤60):i<sizeLine:=aK (show i<60 by lia) (by rw[sizeLine_eq];decide)
def TR{n:Nat}(hn:n≤60):n≤sizeLine:=aW hn (by rw[sizeLine_eq];decide)
structure Tb where
 rs:List (List Rat)
 ls:List Rat
def BH(r:List Rat):List PD:=r.map AK
def BK(r:List Rat):PD:=.list (BH r)
def Bx(rs:List (List Rat)):List PD:=rs.map BK
def AQ(t:Tb):PD:=.tuple [.list (Bx t.rs),.list (BH t.ls)]
structure Tb.Ok(m:Nat)(t:Tb):Prop where
 one:1≤t.rs.length
 most:t.rs.length≤m
 last:t.ls.length=t.rs.length
 row:∀(i:Nat) r,t.rs[i]? = some r→r.length=i
def Lf(r:List Rat):(BH r).length=r.length:=List.length_map _
def K8(r:List (List Rat)):(Bx r).length=r.length:=List.length_map _
def C3.kL{H:Hp}{d:PD}{ds:List PD}{xs:List V}(h:C3 H (d::ds) xs):∃x r,xs=x::r∧DU H d x∧C3 H ds r:=by
 obtain⟨N,b⟩:=h;have h0:=b N (aG _);rw[BO]at h0;obtain⟨x,r,rfl,_,_⟩:=h0;refine⟨x,r,rfl,⟨N,fun l hl=>?_⟩,⟨N,fun l hl=>?_⟩⟩
 ·have:=b l hl;rw[BO]at this;obtain⟨_,_,e,h1,_⟩:=this;cases e;exact h1
 ·have:=b l hl;rw[BO]at this;obtain⟨_,_,e,_,h1⟩:=this;cases e;exact h1
def DU.rat{H:Hp}{q:Rat}{v:V}(h:DU H (AK q) v):∃p,v=.ref p∧H p=some (.tup (JO q)):=h.ints (ps:=[q.num,(q.den:Int)])
def Tq{H:Hp}{q:Rat}{p:AD}(h:H p=some (.tup (JO q))):DU H (AK q) (.ref p):=.tup h (.cons .int (.cons .int .nil))
def QF{c:AD}{zs:List V}{H:Hp}(hc:H c=some (.lst zs)):∀ {qs:List Rat} {xs:List V},C3 H (BH qs) xs→BO c H (BH qs) xs
 |[],xs,h=>by
  have:=h.len;rw[show BH []=[] from rfl,List.length_nil]at this;rw[List.eq_nil_of_length_eq_zero this];exact .nil
 |q::qs,xs,h=>by
  obtain⟨x,r,rfl,h1,h2⟩:=C3.kL h;obtain⟨p,rfl,hp⟩:=h1.rat;exact .cons (.tup (fun z=>by subst z;rw[hp]at hc;cases hc) hp (.cons .int (.cons .int .nil))) (QF hc h2)
def Gg{c:AD}{zs:List V}{H H':Hp}(hc:H c=some (.lst zs))(e:SameBut c H H'){qs:List Rat}{xs:List V}(h:C3 H (BH qs) xs):C3 H' (BH qs) xs:=LK (.but e (QF hc h))
def gI{c a:AD}{zs xs:List V}{H:Hp}{qs:List Rat}(hc:H c=some (.lst zs))(n:a≠c)(ha:H a=some (.lst xs))(h:C3 H (BH qs) xs):Dt c H (BK qs) (.ref a):=.lst n ha (QF hc h)
def C3.set{H:Hp}{d:PD}{v:V}(hv:DU H d v):∀ {ds:List PD} {xs:List V} {j:Nat},C3 H ds xs→C3 H (ds.set j d) (xs.set j v)
 |[],xs,j,h=>by
  have:=h.len;rw[List.length_nil]at this;rw[List.eq_nil_of_length_eq_zero this];exact .nil
 |e::es,xs,j,h=>by
  obtain⟨x,r,rfl,h1,h2⟩:=h.kL;cases j with
  |zero=>exact .cons hv h2
  |succ j=>exact .cons h1 (C3.set (j:=j) hv h2)
def DU.tab{H:Hp}{t:Tb}{v:V}(h:DU H (AQ t) v):∃p R L xs ys,v=.ref p∧H p=some (.tup [.ref R,.ref L])∧H R=some (.lst xs)∧C3 H (Bx t.rs) xs∧H L=some (.lst ys)∧C3 H (BH t.ls) ys:=by
 obtain⟨p,zs,rfl,hp,h1⟩:=h.kU;obtain⟨x,y,rfl,h2,h3⟩:=h1.PK;obtain⟨R,xs,rfl,hR,h4⟩:=h2.ik;obtain⟨L,ys,rfl,hL,h5⟩:=h3.ik;exact⟨p,R,L,xs,ys,rfl,hp,hR,h4,hL,h5⟩
def X3{H:Hp}{t:Tb}{p R L:AD}{xs ys:List V}(hp:H p=some (.tup [.ref R,.ref L]))(hR:H R=some (.lst xs))(h4:C3 H (Bx t.rs) xs)(hL:H L=some (.lst ys))(h5:C3 H (BH t.ls) ys):DU H (AQ t) (.ref p) :=
 .tup hp (.cons (.lst hR h4) (.cons (.lst hL h5) .nil))
def Zm{H:Hp}{rs:List (List Rat)}{xs:List V}{i:Nat}{r:List Rat}(h:C3 H (Bx rs) xs)(hr:rs[i]? = some r):∃a ys,xs[i]? = some (.ref a)∧H a=some (.lst ys)∧C3 H (BH r) ys:=by
 obtain⟨v,h1,h2⟩:=h.get (i:=i) (d:=BK r) (by rw[Bx,List.getElem?_map,hr];rfl);obtain⟨a,ys,rfl,h3,h4⟩:=h2.ik;exact⟨a,ys,h1,h3,h4⟩
def Yc(a b:List Rat):BH (a++b)=BH a++BH b:=List.map_append
def JM(c b:Int):Int:=c.fdiv (FM.gi c b)*b
def XJ(bs:List Int):Int:=bs.foldl JM 1
def Ta{k:Nat}:∀(bs:List Int) (c:Int) (n:Nat),1≤c→c.natAbs<2^n→(∀b∈bs,1≤b∧b.natAbs<2^k) →
  1≤bs.foldl JM c∧(bs.foldl JM c).natAbs<2^(n+k*bs.length)∧c ∣ bs.foldl JM c∧∀b∈bs,b ∣ bs.foldl JM c
 |[],c,n,h1,h2,_=>⟨h1,by simpa using h2,Int.dvd_refl _,fun _ z=>(List.not_mem_nil z).elim⟩
 |b::bs,c,n,h1,h2,h=>by
  obtain⟨b1,b2⟩:=h b aT;obtain⟨s1,s2,s3,s4⟩:=VM h1 b1;have n1:(JM c b).natAbs<2^(n+k):=FM.QS (aV s4 h2) b2;obtain⟨r1,r2,r3,r4⟩:=Ta bs (JM c b) (n+k) s1 n1 fun y hy=>h y (aR _ hy);refine⟨r1,?_,Int.dvd_trans s2 r3,fun y hy=>?_⟩
  ·rw[List.length_cons,Nat.mul_succ,show n+(k*bs.length+k)=n+k+k*bs.length by lia];exact r2
  ·rcases aJ.mp hy with rfl|hy
   ·exact Int.dvd_trans s3 r3
   ·exact r4 y hy
def dy{k:Nat}{bs:List Int}(h:∀b∈bs,1≤b∧b.natAbs<2^k):1≤XJ bs∧(XJ bs).natAbs<2^(1+k*bs.length)∧∀b∈bs,b ∣ XJ bs:=by
 obtain⟨a,b,_,d⟩:=Ta bs 1 1 (by decide) (by decide) h;exact⟨a,b,d⟩
def Og(rs:List Rat)(B:Int):List Int:=rs.map fun r=>r.num*B.fdiv (r.den:Int)
def Xk{H:Hp}{qs:List Rat}{xs:List V}{i:Nat}{q:Rat}(h:C3 H (BH qs) xs)(hq:qs[i]? = some q):∃p,xs[i]? = some (.ref p)∧H p=some (.tup (JO q)):=by
 obtain⟨v,h1,h2⟩:=h.get (i:=i) (d:=AK q) (by rw[BH,List.getElem?_map,hq];rfl);obtain⟨p,rfl,hp⟩:=h2.rat;exact⟨p,h1,hp⟩
def Vn{rs:List Rat}{n:Nat}(h:∀r∈rs,FM.Fits r n):∀b∈rs.map (fun r=>(r.den:Int)),1≤b∧b.natAbs<2^n:=fun b hb=>by
 obtain⟨r,hr,rfl⟩:=aN.mp hb;have:=r.den_nz;exact⟨by lia,(h r hr).d⟩
def Wk(a b:List Int):List Int:=List.zipWith (· * ·) a b
def il(a b:List Int):Int:=(Wk a b).sum
def cJ(n:Nat):List Int:=List.replicate n 1
def QN(rows:List (List Int)):Tr→List Int→List Int
 |.nil,acc=>acc
 |.cons b r,acc=>QN rows r (Wk acc (rows.map fun row=>il row (QN rows b (cJ rows.length))))
def hZ(rows:List (List Int))(t:Tr):List Int:=rows.map fun row=>il row (QN rows t (cJ rows.length))
def Qa:∀(t:Tr) (i:Nat),(Tr.of (t.bs.take i)).Ah≤t.Ah
 |.nil,i=>by rw[Tr.bs,List.take_nil];exact aG _
 |.cons b r,0=>by
  have:=Tr.LP (.cons b r);exact this
 |.cons b r,i+1=>by
  rw[Tr.bs,List.take_succ_cons,Tr.of,Tr.Ah,Tr.Ah];exact Nat.add_le_add_left (Qa r i) _
def Od(r:List Rat):List Int:=r.map fun q=>(q.den:Int)
def Kc(t:Tb)(i:Nat):List Int:=Od t.ls++((t.rs.take i).map Od).flatten
def Rk(t:Tb):Int:=XJ (Kc t t.rs.length)
def Tb.Fits(t:Tb)(n:Nat):Prop:=(∀r∈t.rs,∀q∈r,FM.Fits q n)∧∀q∈t.ls,FM.Fits q n
def Xh{t:Tb}{i:Nat}{r:List Rat}(h:t.rs[i]? = some r):Kc t (i+1)=Kc t i++Od r:=by
 unfold Kc;rw[List.take_add_one,h,List.map_append,List.flatten_append,List.append_assoc];simp
def Sw{t:Tb}{m:Nat}(o:t.Ok m):∀i,i≤t.rs.length→(Kc t i).length≤t.rs.length+t.rs.length*i
 |0,_=>by unfold Kc Od;simp[o.last]
 |i+1,h=>by
  have hr:=aM (l:=t.rs) (i:=i) (by lia);have:=Sw o i (by lia);rw[Xh hr,List.length_append,show(Od t.rs[i]).length=t.rs[i].length from List.length_map _,o.row i _ hr,Nat.mul_succ]
  lia
def Y4{t:Tb}{n:Nat}(h:t.Fits n)(i:Nat):∀b∈Kc t i,1≤b∧b.natAbs<2^n:=fun b hb=>by
 unfold Kc at hb;rcases aX.mp hb with hb|hb
 ·exact Vn h.2 b hb
 ·obtain⟨l,hl,hb⟩:=List.mem_flatten.mp hb;obtain⟨r,hr,rfl⟩:=aN.mp hl;exact Vn (h.1 r (List.mem_of_mem_take hr)) b hb
def cq(t:Tb):List (List Int):=(t.rs++[t.ls]).map fun r=>Og r (Rk t)
def Ap(t:Tb)(u:Tr):Rat:=Rat.divInt ((hZ (cq t) u).getLast?.getD 0) (Rk t^u.Ah)
section
variable{P:Program}{w:World}{K:Fg}{mg:Str→Option VL}{base:Heap}{f:AD}{fd:FuncData}
def Q3:Av ["tree"] ["tree"] (Ab JJ):=Ct
def Ma(BU:MD):DF :=
 (A7 (AI Ay (fC (.int 1)) (AM Ww (AA (B5 (Cq 1) D9 (AM BU (AA (nm 1) AG)) [none,none] (B2 (nm 0))) AG))))
def BU:Nat→MD
 |0=>fun _=>none
 |n+1=>CV ["tree"] ["tree"] (Ma (BU n))
def Li{k:Nat}(DK:Fn K mg "knots_within" JJ ["tree"] f fd)(IJ:mg "sum" = none):∀n,
  AV P w K mg base Ar (k+n+1) f fd ["tree"] (BD (BU n))
 |0=>Gm fun _ _ _ _ ⟨_,_,_,h,_⟩=>by cases h
 |n+1=>by
  have sc:=Q3;have DZ:=Li (k:=k) DK IJ n;refine EC (k:=k+n+1) (F:=Ma (BU n)) DK sc fun cdv A outer s H E hr=>?_;exact(AN (Ao (Aj BC AH (CI (Yy rfl) rfl IJ PyProof.Rows.boot_sum (AB (FH [".0", "bough"] 1 [none,none] (CS (AE (pv 0))) (fun _ _ _ _ _=>FK) (fun _ _ _ _ _=>(Ae DK DZ hr rfl (AB (AE (pv 1)) AF)))) AF)))))
def O1:Av ["tree", "density", "bough"] ["tree"] (Ab F6):=Ct
def LD(BU:MD)(BA:MD):DF :=
 (AX (BS 1 (AM BU (AA (nm 0) AG)))
 (AX (CM (B2 (nm 0)) (EL 2)
  (BS 1 (AI Dk (nm 1) (AM BA (AA (nm 2) AG)))))
 (A7 (nm 1))))
def BA(BU:MD):Nat→MD
 |0=>fun _=>none
 |n+1=>CV ["tree"] ["tree", "density", "bough"] (LD BU (BA BU n))
def KG{k:Nat}{BU:MD}(CF:Fn K mg "density_within" F6 ["tree"] f fd)
 {MV:AD}{Lk:FuncData}(DK:Fn K mg "knots_within" JJ ["tree"] MV Lk)(DZ:AV P w K mg base Ar k MV Lk ["tree"] (BD BU)):∀n,
  AV P w K mg base Ar (k+n+1) f fd ["tree"] (BD (BA BU n))
 |0=>Gm fun _ _ _ _ ⟨_,_,_,h,_⟩=>by cases h
 |n+1=>by
  have sc:=O1;have DB:=KG (k:=k) (BU:=BU) CF DK DZ n;have DZ:=DZ.mono (show k≤k+n+1 by lia);refine EC (k:=k+n+1) (F:=LD BU (BA BU n)) CF sc fun cdv A outer s H E hr=>?_;exact(AJ (BN (i:=1) sc.nd rfl (Or.inl rfl) (Ae DK DZ hr rfl (AB (AE (pv 0)) AF)))
 (AJ (Cb aI rfl (CS (AE (pv 0))) (DL (A2 (i:=2) sc.nd rfl (Or.inl rfl)))
  (AN (BN (i:=1) sc.nd rfl (Or.inl rfl) (Aj Ey (AE (pv 1)) (Ae CF DB hr rfl (AB (AE (pv 2)) AF))))))
 (AN (Ao (AE (pv 1))))))
def JI:Av ["boughs"] ["boughs"] (Ab G6):=Ct
def Nu:DF :=
 (A7 (AM Mi (AA (AM (MN true) (AA (nm 0) AG)) AG)))
def BM:MD:=CV ["boughs"] ["boughs"] (Nu)
def NZ{k:Nat}(F:Fn K mg "in_falling_order" G6 ["boughs"] f fd)(Fb:mg "sorted" = none)(Bp:mg "tuple" = none) :
  AV P w K mg base Ar (k+1) f fd ["boughs"] (BD (BM)):=EC F JI fun cdv A outer s H E hr=>by
 have sc:=JI;exact(AN (Ao (G8 VS rfl Bp aU (AB (bq (by have:=hr.units;exact this) rfl Fb (AB (AE (pv 0)) AF) (fun h=>Z7 (by have:=hr.units;exact this) rfl Fb h)) AF))))
def NW:Av ["tree", "larger", "k", "bough", "grown"] ["tree"] (Ab Gh):=Ct
def Jr(BM:MD)(Bc:MD):DF :=
 (AX (Nj 1 (AA (AM BM (AA (AI Ay (nm 0) (Af (AA (Af AG) AG))) AG)) AG))
 (AX (CM (Dj Ho (AA (nm 0) AG)) (DV 2 3)
  (CM (B2 (AM Bc (AA (nm 3) AG))) (EL 4)
   (N8 1 (AM BM (AA (AI Ay (AI Ay (IQ (nm 0) GW (GZ (nm 2))) (Af (AA (nm 4) AG))) (IQ (nm 0) (GZ (AI Ay (nm 2) (fC (.int 1)))) GW)) AG)))))
 (Q8 1)))
def Bc(BM:MD):Nat→MD
 |0=>fun _=>none
 |n+1=>CV ["tree"] ["tree", "larger", "k", "bough", "grown"] (Jr BM (Bc BM n))
def JD{k:Nat}{BM:MD}(Co:Fn K mg "trees_one_larger" Gh ["tree"] f fd)
 {Jt:AD}{JA:FuncData}(Df:Fn K mg "in_falling_order" G6 ["boughs"] Jt JA)(DC:AV P w K mg base Ar k Jt JA ["boughs"] (BD BM))(B0:mg "enumerate" = none):∀n,
  AV P w K mg base Ar (k+n+1) f fd ["tree"] (BD (Bc BM n))
 |0=>Gm fun _ _ _ _ ⟨_,_,_,h,_⟩=>by cases h
 |n+1=>by
  have sc:=NW;have EJ:=JD (k:=k) (BM:=BM) Co Df DC B0 n;have DC:=DC.mono (show k≤k+n+1 by lia);refine EC (k:=k+n+1) (F:=Jr BM (Bc BM n)) Co sc fun cdv A outer s H E hr=>?_;exact(AJ (Jl (i:=1) sc.nd rfl (Or.inl rfl) (AB (Ae Df DC hr rfl (AB (Aj BC (AE (pv 0)) (AY (AB (AY AF) AF))) AF)) AF))
 (AJ (Cb aI rfl (Kg rfl B0 (AB (AE (pv 0)) AF)) (Gs (FU rfl (Bd (A2 (i:=2) sc.nd rfl (Or.inl rfl)) (Bd (A2 (i:=3) sc.nd rfl (Or.inl rfl)) EU))))
  (AN (Cb aI rfl (CS (Ae Co EJ hr rfl (AB (AE (pv 3)) AF))) (DL (A2 (i:=4) sc.nd rfl (Or.inl rfl)))
   (AN (IH (pv 1) (Ae Df DC hr rfl (AB (Aj BC (Aj BC (FY (AE (pv 0)) GL (GN (AE (pv 2)))) (AY (AB (AE (pv 4)) AF))) (FY (AE (pv 0)) (GN (Aj BC (AE (pv 2)) AH)) GL)) AF)) (fun ho ha=>Fv (JX aY ax ay Fx ho ha)))))))
 (AN (Oh (pv 1)))))
def Pn:Av ["many", "trees", "knots", "larger", "tree"] ["many"] (Ab KU):=Ct
def Wh(Bc:MD):DF :=
 (AX (Bs (DX (Al (CH fun i j=>decide (i<j)) (nm 0) (fC (.int 1))) (Al (CH fun i j=>decide (j<i)) (nm 0) (fC (.int 7))))
  Qo
  A9)
 (AX (BS 1 (BW (AA (Af AG) AG)))
 (AX (CM (Dj J8 (AA (fC (.int 1)) (AA (nm 0) AG))) (EL 2)
  (AX (Nj 3 AG)
  (AX (CM (B2 (nm 1)) (EL 4)
   (Z3 3 (AM Bc (AA (nm 4) AG))))
  (Ro 3 (BS 1 (fun δ=>((nm 3) δ).bind QI))))))
 (A7 (nm 1)))))
def Cg(Bc:MD):MD:=CV ["many"] ["many", "trees", "knots", "larger", "tree"] (Wh Bc)
def Vg{k:Nat}{Bc:MD}(F:Fn K mg "trees_of" KU ["many"] f fd)
 {Ju:AD}{JB:FuncData}(Co:Fn K mg "trees_one_larger" Gh ["tree"] Ju JB)(EJ:AV P w K mg base Ar k Ju JB ["tree"] (BD Bc))(Bl:mg "range" = none)(XX:mg "set" = none)(Fb:mg "sorted" = none){tk_MOST_KNOTS:Tok}(Fu:mg "MOST_KNOTS" = some (.int 7 tk_MOST_KNOTS)) :
  AV P w K mg base Ar (k+1) f fd ["many"] (BD (Cg Bc)):=EC F Pn fun cdv A outer s H E hr=>by
 have sc:=Pn;exact(AJ (BV (DW.dt (C7 (Aw JU (AE (pv 0)) AH (Ag _)) (Cu (Aw Kf (AE (pv 0)) (JL rfl Fu) (Ag _)))))
  (AN Mt)
  A6)
 (AJ (BN (i:=1) sc.nd rfl (Or.inl rfl) (BG (AB (AY AF) AF)))
 (AJ (Cb aI rfl (J0 rfl Bl (AB AH (AB (AE (pv 0)) AF))) (DL (A2 (i:=2) sc.nd rfl (Or.inl rfl)))
  (AJ (Jl (i:=3) sc.nd rfl (Or.inl rfl) AF)
  (AJ (Cb aI rfl (CS (AE (pv 1))) (DL (A2 (i:=4) sc.nd rfl (Or.inl rfl)))
   (AN (OI (pv 3) (Ae Co EJ hr rfl (AB (AE (pv 4)) AF)) (fun ho ha=>Fv (JX aY PySem.F.slot_list_extend PySem.F.type_list_extend N0 ho ha)))))
  (AN (L6 3 (BN (i:=1) sc.nd rfl (Or.inl rfl) (Xr rfl (by have:=hr.units;exact this) rfl Fb rfl XX (AE (pv 3)))))))))
 (AN (Ao (AE (pv 1)))))))
def PV:Av ["most", "trees", "many"] ["most"] (Ab Mm):=Ct
def XZ(Cg:MD):DF :=
 (AX (Bs (DX (Al (CH fun i j=>decide (i<j)) (nm 0) (fC (.int 0))) (Al (CH fun i j=>decide (j<i)) (nm 0) (fC (.int 7))))
  Qo
  A9)
 (AX (Nj 1 AG)
 (AX (CM (Dj J8 (AA (fC (.int 1)) (AA (AI Ay (nm 0) (fC (.int 1))) AG))) (EL 2)
  (Z3 1 (AM Cg (AA (nm 2) AG))))
 (Q8 1))))
def Ee(Cg:MD):MD:=CV ["most"] ["most", "trees", "many"] (XZ Cg)
def VZ{k:Nat}{Cg:MD}(F:Fn K mg "trees_to" Mm ["most"] f fd)
 {Iz:AD}{Hg:FuncData}(F8:Fn K mg "trees_of" KU ["many"] Iz Hg)(HI:AV P w K mg base Ar k Iz Hg ["many"] (BD Cg))(Bl:mg "range" = none){tk_MOST_KNOTS:Tok}(Fu:mg "MOST_KNOTS" = some (.int 7 tk_MOST_KNOTS)) :
  AV P w K mg base Ar (k+1) f fd ["most"] (BD (Ee Cg)):=EC F PV fun cdv A outer s H E hr=>by
 have sc:=PV;exact(AJ (BV (DW.dt (C7 (Aw JU (AE (pv 0)) AH (Ag _)) (Cu (Aw Kf (AE (pv 0)) (JL rfl Fu) (Ag _)))))
  (AN Mt)
  A6)
 (AJ (Jl (i:=1) sc.nd rfl (Or.inl rfl) AF)
 (AJ (Cb aI rfl (J0 rfl Bl (AB AH (AB (Aj BC (AE (pv 0)) AH) AF))) (DL (A2 (i:=2) sc.nd rfl (Or.inl rfl)))
  (AN (OI (pv 1) (Ae F8 HI hr rfl (AB (AE (pv 2)) AF)) (fun ho ha=>Fv (JX aY PySem.F.slot_list_extend PySem.F.type_list_extend N0 ho ha)))))
 (AN (Oh (pv 1))))))
def PZ:Av ["thing"] ["thing"] (Ab F7):=Ct
def Qw:DF :=
 (A7 (J5 (B9 Bk (nm 0)) (lE (B9 BR (nm 0)))))
def Bm:MD:=CV ["thing"] ["thing"] (Qw)
def Vh{k:Nat}(F:Fn K mg "is_whole" F7 ["thing"] f fd)(EK:mg "bool" = none)(Hs:mg "int" = none)(AW:mg "isinstance" = none) :
  AV P w K mg base Ar (k+1) f fd ["thing"] (BD (Bm)):=EC F PZ fun cdv A outer s H E hr=>by
 have sc:=PZ;exact(AN (Ao (IW (D3 (M5 _) rfl AW rfl Hs PyProof.Rows.boot_int (AE (pv 0))) (Jn (gh (D3 (J1 _) rfl AW rfl EK bP (AE (pv 0))))))))
def MU:Av ["thing"] ["thing"] (Ab FI):=Ct
def Hm(Dc:MD)(Bm:MD):DF :=
 (AX (Bs (DX (B3 (Bh (B9 CO (nm 0)))) (Al (BI true) (AM DJ (AA (nm 0) AG)) (fC (.int 2))))
  (A7 (fC (.bool false)))
  A9)
 (AX (Bs (DX (B3 (Bh (AM Bm (AA (AI Am (nm 0) (fC (.int 0))) AG)))) (B3 (Bh (AM Bm (AA (AI Am (nm 0) (fC (.int 1))) AG)))))
  (A7 (fC (.bool false)))
  A9)
 (A7 (J5 (AI (CH fun i j=>decide (j≤i)) (AI Am (nm 0) (fC (.int 1))) (fC (.int 1))) (AI (BI false) (AM Dc (AA (AI Am (nm 0) (fC (.int 0))) (AA (AI Am (nm 0) (fC (.int 1))) AG))) (fC (.int 1)))))))
def Bq(Dc:MD)(Bm:MD):MD:=CV ["thing"] ["thing"] (Hm Dc Bm)
def Rm{k:Nat}{Dc:MD}{Bm:MD}(F:Fn K mg "is_fraction" FI ["thing"] f fd)
 {Jo:AD}{JC:FuncData}(Bb:Fn K mg "greatest_divisor" De ["one", "other"] Jo JC)(CQ:AV P w K mg base Ar k Jo JC ["one", "other"] (BD Dc))
 {IY:AD}{Hd:FuncData}(DH:Fn K mg "is_whole" F7 ["thing"] IY Hd)(ED:AV P w K mg base Ar k IY Hd ["thing"] (BD Bm))(AW:mg "isinstance" = none)(BJ:mg "len" = none)(Bp:mg "tuple" = none) :
  AV P w K mg base Ar (k+1) f fd ["thing"] (BD (Bq Dc Bm)):=EC F MU fun cdv A outer s H E hr=>by
 have sc:=MU;exact(AJ (BV (DW.dt (C7 (Cs (Cm (D3 (F4 _) rfl AW rfl Bp aU (AE (pv 0))))) (Cu (Aw (EE (by have:=hr.units;exact this)) (CI DY rfl BJ aQ (AB (AE (pv 0)) AF)) AH (Ag _)))))
  (AN (Ao Cr))
  A6)
 (AJ (BV (DW.dt (C7 (Cs (Cm (Ae DH ED hr rfl (AB (An (AE (pv 0)) AH (fun _ _=>rfl)) AF)))) (Cu (Cs (Cm (Ae DH ED hr rfl (AB (An (AE (pv 0)) AH (fun _ _=>rfl)) AF)))))))
  (AN (Ao Cr))
  A6)
 (AN (Ao (IW (HC cg (An (AE (pv 0)) AH (fun _ _=>rfl)) AH (Ag _)) (Jn (HC (DR (by have:=hr.units;exact this)) (Ae Bb CQ hr rfl (AB (An (AE (pv 0)) AH (fun _ _=>rfl)) (AB (An (AE (pv 0)) AH (fun _ _=>rfl)) AF))) AH (Ag _))))))))
def Kt:Av ["thing", "part"] ["thing"] (Ab Gb):=Ct
def LQ(Bq:MD):DF :=
 (AX (Bs (B3 (Bh (B9 GC (nm 0))))
  (A7 (fC (.bool false)))
  A9)
 (AX (CM (B2 (nm 0)) (EL 1)
  (Bs (B3 (Bh (AM Bq (AA (nm 1) AG))))
   (A7 (fC (.bool false)))
   A9))
 (A7 (fC (.bool true)))))
def Ba(Bq:MD):MD:=CV ["thing"] ["thing", "part"] (LQ Bq)
def QH{k:Nat}{Bq:MD}(F:Fn K mg "are_fractions" Gb ["thing"] f fd)
 {GG:AD}{Fp:FuncData}(D4:Fn K mg "is_fraction" FI ["thing"] GG Fp)(GD:AV P w K mg base Ar k GG Fp ["thing"] (BD Bq))(AW:mg "isinstance" = none)(C4:mg "list" = none) :
  AV P w K mg base Ar (k+1) f fd ["thing"] (BD (Ba Bq)):=EC F Kt fun cdv A outer s H E hr=>by
 have sc:=Kt;exact(AJ (BV (Cs (Cm (D3 (M3 _) rfl AW rfl C4 aq (AE (pv 0)))))
  (AN (Ao Cr))
  A6)
 (AJ (Cb aI rfl (CS (AE (pv 0))) (DL (A2 (i:=1) sc.nd rfl (Or.inl rfl)))
  (AN (BV (Cs (Cm (Ae D4 GD hr rfl (AB (AE (pv 1)) AF))))
   (AN (Ao Cr))
   A6)))
 (AN (Ao Cr))))
def PC:Av ["thing", "k", "row"] ["thing"] (Ab Mg):=Ct
def QK(Ba:MD):DF :=
 (AX (Bs (DX (B3 (Bh (B9 GC (nm 0)))) (DX (Al (CH fun i j=>decide (i<j)) (AM DJ (AA (nm 0) AG)) (fC (.int 1))) (Al (CH fun i j=>decide (j<i)) (AM DJ (AA (nm 0) AG)) (fC (.int 40)))))
  (A7 (fC (.bool false)))
  A9)
 (AX (CM (Dj Ho (AA (nm 0) AG)) (DV 1 2)
  (Bs (DX (B3 (Bh (AM Ba (AA (nm 2) AG)))) (Al (BI true) (AM DJ (AA (nm 2) AG)) (nm 1)))
   (A7 (fC (.bool false)))
   A9))
 (A7 (fC (.bool true)))))
def Ed(Ba:MD):MD:=CV ["thing"] ["thing", "k", "row"] (QK Ba)
def Ve{k:Nat}{Ba:MD}(F:Fn K mg "are_rows" Mg ["thing"] f fd)
 {FV:AD}{Ez:FuncData}(Dz:Fn K mg "are_fractions" Gb ["thing"] FV Ez)(EO:AV P w K mg base Ar k FV Ez ["thing"] (BD Ba))(B0:mg "enumerate" = none)(AW:mg "isinstance" = none)(BJ:mg "len" = none)(C4:mg "list" = none){tk_MOST_ROWS:Tok}(Lr:mg "MOST_ROWS" = some (.int 40 tk_MOST_ROWS)) :
  AV P w K mg base Ar (k+1) f fd ["thing"] (BD (Ed Ba)):=EC F PC fun cdv A outer s H E hr=>by
 have sc:=PC;exact(AJ (BV (DW.dt (C7 (Cs (Cm (D3 (M3 _) rfl AW rfl C4 aq (AE (pv 0))))) (C7 (Aw JU (CI DY rfl BJ aQ (AB (AE (pv 0)) AF)) AH (Ag _)) (Cu (Aw Kf (CI DY rfl BJ aQ (AB (AE (pv 0)) AF)) (JL rfl Lr) (Ag _))))))
  (AN (Ao Cr))
  A6)
 (AJ (Cb aI rfl (Kg rfl B0 (AB (AE (pv 0)) AF)) (Gs (FU rfl (Bd (A2 (i:=1) sc.nd rfl (Or.inl rfl)) (Bd (A2 (i:=2) sc.nd rfl (Or.inl rfl)) EU))))
  (AN (BV (DW.dt (C7 (Cs (Cm (Ae Dz EO hr rfl (AB (AE (pv 2)) AF)))) (Cu (Aw (EE (by have:=hr.units;exact this)) (CI DY rfl BJ aQ (AB (AE (pv 2)) AF)) (AE (pv 1)) (Ag _)))))
   (AN (Ao Cr))
   A6)))
 (AN (Ao Cr))))
def PY:Av ["thing"] ["thing"] (Ab M4):=Ct
def RA(Ba:MD)(Ed:MD):DF :=
 (AX (Bs (DX (B3 (Bh (B9 CO (nm 0)))) (Al (BI true) (AM DJ (AA (nm 0) AG)) (fC (.int 2))))
  (A7 (fC (.bool false)))
  A9)
 (A7 (J5 (AM Ed (AA (AI Am (nm 0) (fC (.int 0))) AG)) (J5 (AM Ba (AA (AI Am (nm 0) (fC (.int 1))) AG)) (AI (BI false) (AM DJ (AA (AI Am (nm 0) (fC (.int 1))) AG)) (AM DJ (AA (AI Am (nm 0) (fC (.int 0))) AG)))))))
def Ei(Ba:MD)(Ed:MD):MD:=CV ["thing"] ["thing"] (RA Ba Ed)
def Vd{k:Nat}{Ba:MD}{Ed:MD}(F:Fn K mg "is_table" M4 ["thing"] f fd)
 {FV:AD}{Ez:FuncData}(Dz:Fn K mg "are_fractions" Gb ["thing"] FV Ez)(EO:AV P w K mg base Ar k FV Ez ["thing"] (BD Ba))
 {Ql:AD}{PB:FuncData}(Ka:Fn K mg "are_rows" Mg ["thing"] Ql PB)(Ms:AV P w K mg base Ar k Ql PB ["thing"] (BD Ed))(AW:mg "isinstance" = none)(BJ:mg "len" = none)(Bp:mg "tuple" = none) :
  AV P w K mg base Ar (k+1) f fd ["thing"] (BD (Ei Ba Ed)):=EC F PY fun cdv A outer s H E hr=>by
 have sc:=PY;exact(AJ (BV (DW.dt (C7 (Cs (Cm (D3 (F4 _) rfl AW rfl Bp aU (AE (pv 0))))) (Cu (Aw (EE (by have:=hr.units;exact this)) (CI DY rfl BJ aQ (AB (AE (pv 0)) AF)) AH (Ag _)))))
  (AN (Ao Cr))
  A6)
 (AN (Ao (IW (Ae Ka Ms hr rfl (AB (An (AE (pv 0)) AH (fun _ _=>rfl)) AF)) (IW (Ae Dz EO hr rfl (AB (An (AE (pv 0)) AH (fun _ _=>rfl)) AF)) (Jn (HC (DR (by have:=hr.units;exact this)) (CI DY rfl BJ aQ (AB (An (AE (pv 0)) AH (fun _ _=>rfl)) AF)) (CI DY rfl BJ aQ (AB (An (AE (pv 0)) AH (fun _ _=>rfl)) AF)) (Ag _))))))))
def Jh:Av ["thing"] ["thing"] (Ab HY):=Ct
def HN(Ei:MD):DF :=
 (Bs (B3 (Bh (AM Ei (AA (nm 0) AG))))
  Qo
  A9)
def Cf(Ei:MD):MD:=CV ["thing"] ["thing"] (HN Ei)
def OS{k:Nat}{Ei:MD}(F:Fn K mg "refuse_no_table" HY ["thing"] f fd)
 {Qn:AD}{O5:FuncData}(KY:Fn K mg "is_table" M4 ["thing"] Qn O5)(Mj:AV P w K mg base Ar k Qn O5 ["thing"] (BD Ei)) :
  AV P w K mg base Ar (k+1) f fd ["thing"] (BD (Cf Ei)):=EC F Jh fun cdv A outer s H E hr=>by
 have sc:=Jh;exact(AN (BV (Cs (Cm (Ae KY Mj hr rfl (AB (AE (pv 0)) AF))))
  (AN Mt)
  A6))
def Io:Av ["table"] ["table"] (Ab GS):=Ct
def GQ(Cf:MD):DF :=
 (AX (TL (AM Cf (AA (nm 0) AG)))
 (Bs (Al (CH fun i j=>decide (j<i)) (AM DJ (AA (AI Am (nm 0) (fC (.int 0))) AG)) (fC (.int 5)))
  Qo
  A9))
def CJ(Cf:MD):MD:=CV ["table"] ["table"] (GQ Cf)
def Mz{k:Nat}{Cf:MD}(F:Fn K mg "refuse_no_judging" GS ["table"] f fd)
 {KN:AD}{Je:FuncData}(Ff:Fn K mg "refuse_no_table" HY ["thing"] KN Je)(HX:AV P w K mg base Ar k KN Je ["thing"] (BD Cf))(BJ:mg "len" = none){tk_MOST_JUDGED_ROWS:Tok}(Gu:mg "MOST_JUDGED_ROWS" = some (.int 5 tk_MOST_JUDGED_ROWS)) :
  AV P w K mg base Ar (k+1) f fd ["table"] (BD (CJ Cf)):=EC F Io fun cdv A outer s H E hr=>by
 have sc:=Io;exact(AJ (V7 (Ae Ff HX hr rfl (AB (AE (pv 0)) AF)))
 (AN (BV (Aw Kf (CI DY rfl BJ aQ (AB (An (AE (pv 0)) AH (fun _ _=>rfl)) AF)) (JL rfl Gu) (Ag _))
  (AN Mt)
  A6)))
def O2:Av ["tree", "parents", "bough", "number"] ["tree"] (Ab Hv):=Ct
def LI(BX:MD):DF :=
 (AX (Nj 1 AG)
 (AX (CM (B2 (nm 0)) (EL 2)
  (AX (BS 3 (AI Ay (eJ 1) (fC (.int 1))))
  (AX (N8 1 (fC (.int 0)))
  (Z3 1 (B5 (Cq 1) D9 (AI Ay (nm 2) (nm 1)) [none,none,some 3] (B2 (AM BX (AA (nm 2) AG))))))))
 (Q8 1)))
def BX:Nat→MD
 |0=>fun _=>none
 |n+1=>CV ["tree"] ["tree", "parents", "bough", "number"] (LI (BX n))
def KL{k:Nat}(C8:Fn K mg "parents_within" Hv ["tree"] f fd)(BJ:mg "len" = none):∀n,
  AV P w K mg base Ar (k+n+1) f fd ["tree"] (BD (BX n))
 |0=>Gm fun _ _ _ _ ⟨_,_,_,h,_⟩=>by cases h
 |n+1=>by
  have sc:=O2;have Ew:=KL (k:=k) C8 BJ n;refine EC (k:=k+n+1) (F:=LI (BX n)) C8 sc fun cdv A outer s H E hr=>?_;exact(AJ (Jl (i:=1) sc.nd rfl (Or.inl rfl) AF)
 (AJ (Cb aI rfl (CS (AE (pv 0))) (DL (A2 (i:=2) sc.nd rfl (Or.inl rfl)))
  (AJ (BN (i:=3) sc.nd rfl (Or.inr rfl) (Aj BC (Yk (pv 1) rfl BJ) AH))
  (AJ (IH (pv 1) AH (fun ho ha=>Fv (JX aY ax ay Fx ho ha)))
  (AN (OI (pv 1) (FH [".0", "parent", "number"] 1 [none,none,some 3] (CS (Ae C8 Ew hr rfl (AB (AE (pv 2)) AF))) (fun _ _ _ _ _=>FK) (fun _ _ _ _ _=>(Aj BC (AE (pv 2)) (AE (pv 1))))) (fun ho ha=>Fv (JX aY PySem.F.slot_list_extend PySem.F.type_list_extend N0 ho ha)))))))
 (AN (Oh (pv 1)))))
def LN:Av ["table", "tree", "ways", "parent", "longer", "way", "share", "k", "part"] ["table", "tree"] (Ab GY):=Ct
def Lh(Fw:MD)(Fl:MD)(BX:MD):DF :=
 (AX (BS 2 (B5 (DV 1 2) D9 (Af (AA (Af (AA (nm 1) AG)) (AA (nm 2) AG))) [none,none,none] (Dj Ho (AA (AI Am (nm 0) (fC (.int 1))) AG))))
 (AX (CM (B2 (AM BX (AA (nm 1) AG))) (EL 3)
  (AX (Nj 4 AG)
  (AX (CM (B2 (nm 2)) (DV 5 6)
   (CM (Dj Ho (AA (AI Am (AI Am (nm 0) (fC (.int 0))) (AI Am (nm 5) (nm 3))) AG)) (DV 7 8)
    (N8 4 (Af (AA (AI Ay (nm 5) (Af (AA (nm 7) AG))) (AA (AM Fw (AA (nm 6) (AA (nm 8) AG))) AG))))))
  (Ro 4 (BS 2 (nm 4))))))
 (A7 (AM Fl (AA (B5 (DV 1 2) D9 (nm 2) [none,none,none] (B2 (nm 2))) AG)))))
def BZ(Fw:MD)(Fl:MD)(BX:MD):MD:=CV ["table", "tree"] ["table", "tree", "ways", "parent", "longer", "way", "share", "k", "part"] (Lh Fw Fl BX)
def P7{k:Nat}{Fw:MD}{Fl:MD}{BX:MD}(F:Fn K mg "walked_weight" GY ["table", "tree"] f fd)
 {Nh:AD}{NQ:FuncData}(Ij:Fn K mg "frac_times" K0 ["one", "other"] Nh NQ)(LJ:AV P w K mg base Ar k Nh NQ ["one", "other"] (BD Fw))
 {OL:AD}{NL:FuncData}(Ic:Fn K mg "frac_total" LC ["some"] OL NL)(Ks:AV P w K mg base Ar k OL NL ["some"] (BD Fl))
 {K2:AD}{KH:FuncData}(C8:Fn K mg "parents_within" Hv ["tree"] K2 KH)(Ew:AV P w K mg base Ar k K2 KH ["tree"] (BD BX))(B0:mg "enumerate" = none) :
  AV P w K mg base Ar (k+1) f fd ["table", "tree"] (BD (BZ Fw Fl BX)):=EC F LN fun cdv A outer s H E hr=>by
 have sc:=LN;exact(AJ (Ph (i:=2) [".0", "k", "part"] 1 2 [none,none,none] sc.nd rfl rfl (Kg rfl B0 (AB (An (AE (pv 0)) AH (fun _ _=>rfl)) AF)) (fun _ _ _ _ _=>FK) (fun _ _ _ _ _=>(AY (AB (AY (AB (AE (pv 1)) AF)) (AB (AE (pv 2)) AF)))))
 (AJ (Cb aI rfl (CS (Ae C8 Ew hr rfl (AB (AE (pv 1)) AF))) (DL (A2 (i:=3) sc.nd rfl (Or.inl rfl)))
  (AJ (Jl (i:=4) sc.nd rfl (Or.inl rfl) AF)
  (AJ (Cb aI rfl (CS (AE (pv 2))) (Gs (FU rfl (Bd (A2 (i:=5) sc.nd rfl (Or.inl rfl)) (Bd (A2 (i:=6) sc.nd rfl (Or.inl rfl)) EU))))
   (AN (Cb aI rfl (Kg rfl B0 (AB (An (An (AE (pv 0)) AH (fun _ _=>rfl)) (An (AE (pv 5)) (AE (pv 3)) (fun _ _=>rfl)) (fun _ _=>rfl)) AF)) (Gs (FU rfl (Bd (A2 (i:=7) sc.nd rfl (Or.inl rfl)) (Bd (A2 (i:=8) sc.nd rfl (Or.inl rfl)) EU))))
    (AN (IH (pv 4) (AY (AB (Aj BC (AE (pv 5)) (AY (AB (AE (pv 7)) AF))) (AB (Ae Ij LJ hr rfl (AB (AE (pv 6)) (AB (AE (pv 8)) AF))) AF))) (fun ho ha=>Fv (JX aY ax ay Fx ho ha)))))))
  (AN (L6 4 (BN (i:=2) sc.nd rfl (Or.inl rfl) (AE (pv 4))))))))
 (AN (Ao (Ae Ic Ks hr rfl (AB (UD [".0", "way", "share"] 1 2 [none,none,none] (CS (AE (pv 2))) (fun _ _ _ _ _=>FK) (fun _ _ _ _ _=>(AE (pv 2)))) AF))))))
def Qz:Av ["thing", "trees"] ["thing", "trees"] (Ab Ln):=Ct
def SH(Bq:MD):DF :=
 (AX (Bs (DX (B3 (Bh (B9 CO (nm 0)))) (Al (BI true) (AM DJ (AA (nm 0) AG)) (fC (.int 2))))
  (A7 (fC (.bool false)))
  A9)
 (A7 (J5 (AI (JS false) (AI Am (nm 0) (fC (.int 0))) (nm 1)) (AM Bq (AA (AI Am (nm 0) (fC (.int 1))) AG)))))
def C1(Bq:MD):MD:=CV ["thing", "trees"] ["thing", "trees"] (SH Bq)
def XB{k:Nat}{Bq:MD}(F:Fn K mg "is_line" Ln ["thing", "trees"] f fd)
 {GG:AD}{Fp:FuncData}(D4:Fn K mg "is_fraction" FI ["thing"] GG Fp)(GD:AV P w K mg base Ar k GG Fp ["thing"] (BD Bq))(AW:mg "isinstance" = none)(BJ:mg "len" = none)(Bp:mg "tuple" = none) :
  AV P w K mg base Ar (k+1) f fd ["thing", "trees"] (BD (C1 Bq)):=EC F Qz fun cdv A outer s H E hr=>by
 have sc:=Qz;exact(AJ (BV (DW.dt (C7 (Cs (Cm (D3 (F4 _) rfl AW rfl Bp aU (AE (pv 0))))) (Cu (Aw (EE (by have:=hr.units;exact this)) (CI DY rfl BJ aQ (AB (AE (pv 0)) AF)) AH (Ag _)))))
  (AN (Ao Cr))
  A6)
 (AN (Ao (IW (HC (Xy (by have:=hr.units;exact this)) (An (AE (pv 0)) AH (fun _ _=>rfl)) (AE (pv 1)) rfl) (Jn (Ae D4 GD hr rfl (AB (An (AE (pv 0)) AH (fun _ _=>rfl)) AF)))))))
def KS:Av ["table", "trees", "lines", "tree", "line"] ["table", "trees", "lines"] (Ab IA):=Ct
def EA(BA:MD)(C1:MD)(BZ:MD):DF :=
 (AX (Bs (DX (B3 (Bh (B9 GC (nm 2)))) (Al (BI true) (AM DJ (AA (nm 2) AG)) (AM DJ (AA (nm 1) AG))))
  (A7 (fC (.bool false)))
  A9)
 (AX (CM (Dj zip2 (AA (nm 1) (AA (nm 2) AG))) (DV 3 4)
  (Bs (DX (B3 (Bh (AM C1 (AA (nm 4) (AA (BW (AA (nm 3) AG)) AG))))) (DX (Al (BI true) (AI Am (nm 4) (fC (.int 1))) (Af (AA (fC (.int 1)) (AA (AM BA (AA (nm 3) AG)) AG)))) (Al (BI true) (AI Am (nm 4) (fC (.int 1))) (AM BZ (AA (nm 0) (AA (nm 3) AG))))))
   (A7 (fC (.bool false)))
   A9))
 (A7 (fC (.bool true)))))
def Cp(BA:MD)(C1:MD)(BZ:MD):MD:=CV ["table", "trees", "lines"] ["table", "trees", "lines", "tree", "line"] (EA BA C1 BZ)
def O0{k:Nat}{BA:MD}{C1:MD}{BZ:MD}(F:Fn K mg "are_true_lines" IA ["table", "trees", "lines"] f fd)
 {E2:AD}{Ec:FuncData}(CF:Fn K mg "density_within" F6 ["tree"] E2 Ec)(DB:AV P w K mg base Ar k E2 Ec ["tree"] (BD BA))
 {Jv:AD}{IT:FuncData}(Gz:Fn K mg "is_line" Ln ["thing", "trees"] Jv IT)(IE:AV P w K mg base Ar k Jv IT ["thing", "trees"] (BD C1))
 {FQ:AD}{Ex:FuncData}(Dq:Fn K mg "walked_weight" GY ["table", "tree"] FQ Ex)(EW:AV P w K mg base Ar k FQ Ex ["table", "tree"] (BD BZ))(AW:mg "isinstance" = none)(BJ:mg "len" = none)(C4:mg "list" = none)(Xa:mg "zip" = none) :
  AV P w K mg base Ar (k+1) f fd ["table", "trees", "lines"] (BD (Cp BA C1 BZ)):=EC F KS fun cdv A outer s H E hr=>by
 have sc:=KS;exact(AJ (BV (DW.dt (C7 (Cs (Cm (D3 (M3 _) rfl AW rfl C4 aq (AE (pv 2))))) (Cu (Aw (EE (by have:=hr.units;exact this)) (CI DY rfl BJ aQ (AB (AE (pv 2)) AF)) (CI DY rfl BJ aQ (AB (AE (pv 1)) AF)) (Ag _)))))
  (AN (Ao Cr))
  A6)
 (AJ (Cb aI rfl (g9 rfl Xa (AB (AE (pv 1)) (AB (AE (pv 2)) AF))) (Gs (FU rfl (Bd (A2 (i:=3) sc.nd rfl (Or.inl rfl)) (Bd (A2 (i:=4) sc.nd rfl (Or.inl rfl)) EU))))
  (AN (BV (DW.dt (C7 (Cs (Cm (Ae Gz IE hr rfl (AB (AE (pv 4)) (AB (BG (AB (AE (pv 3)) AF)) AF))))) (C7 (Aw (EE (by have:=hr.units;exact this)) (An (AE (pv 4)) AH (fun _ _=>rfl)) (AY (AB AH (AB (Ae CF DB hr rfl (AB (AE (pv 3)) AF)) AF))) (Ag _)) (Cu (Aw (EE (by have:=hr.units;exact this)) (An (AE (pv 4)) AH (fun _ _=>rfl)) (Ae Dq EW hr rfl (AB (AE (pv 0)) (AB (AE (pv 3)) AF))) (Ag _))))))
   (AN (Ao Cr))
   A6)))
 (AN (Ao Cr))))
def NO:Av ["table", "order", "odd"] ["table", "order", "odd"] (Ab LG):=Ct
def HD(BA:MD)(C1:MD)(Cg:MD)(BZ:MD):DF :=
 (AX (Bs (Al (BI false) (nm 1) (fC (.int 6)))
  (A7 (AI (dA false) (nm 2) (fC .none)))
  A9)
 (AX (Bs (DX (B3 (Bh (AM C1 (AA (nm 2) (AA (AM Cg (AA (AI Ay (nm 1) (fC (.int 1))) AG)) AG))))) (Al (BI false) (AI Am (nm 2) (fC (.int 1))) (Af (AA (fC (.int 1)) (AA (AM BA (AA (AI Am (nm 2) (fC (.int 0))) AG)) AG)))))
  (A7 (fC (.bool false)))
  A9)
 (A7 (AI (BI false) (AI Am (nm 2) (fC (.int 1))) (AM BZ (AA (nm 0) (AA (AI Am (nm 2) (fC (.int 0))) AG)))))))
def Dr(BA:MD)(C1:MD)(Cg:MD)(BZ:MD):MD:=CV ["table", "order", "odd"] ["table", "order", "odd"] (HD BA C1 Cg BZ)
def S9{k:Nat}{BA:MD}{C1:MD}{Cg:MD}{BZ:MD}(F:Fn K mg "is_due_odd" LG ["table", "order", "odd"] f fd)
 {E2:AD}{Ec:FuncData}(CF:Fn K mg "density_within" F6 ["tree"] E2 Ec)(DB:AV P w K mg base Ar k E2 Ec ["tree"] (BD BA))
 {Jv:AD}{IT:FuncData}(Gz:Fn K mg "is_line" Ln ["thing", "trees"] Jv IT)(IE:AV P w K mg base Ar k Jv IT ["thing", "trees"] (BD C1))
 {Iz:AD}{Hg:FuncData}(F8:Fn K mg "trees_of" KU ["many"] Iz Hg)(HI:AV P w K mg base Ar k Iz Hg ["many"] (BD Cg))
 {FQ:AD}{Ex:FuncData}(Dq:Fn K mg "walked_weight" GY ["table", "tree"] FQ Ex)(EW:AV P w K mg base Ar k FQ Ex ["table", "tree"] (BD BZ)){tk_MOST_ORDER:Tok}(Fh:mg "MOST_ORDER" = some (.int 6 tk_MOST_ORDER)) :
  AV P w K mg base Ar (k+1) f fd ["table", "order", "odd"] (BD (Dr BA C1 Cg BZ)):=EC F NO fun cdv A outer s H E hr=>by
 have sc:=NO;exact(AJ (BV (Aw (DR (by have:=hr.units;exact this)) (AE (pv 1)) (JL rfl Fh) (Ag _))
  (AN (Ao (HC cC (AE (pv 2)) Kw (Ag _))))
  A6)
 (AJ (BV (DW.dt (C7 (Cs (Cm (Ae Gz IE hr rfl (AB (AE (pv 2)) (AB (Ae F8 HI hr rfl (AB (Aj BC (AE (pv 1)) AH) AF)) AF))))) (Cu (Aw (DR (by have:=hr.units;exact this)) (An (AE (pv 2)) AH (fun _ _=>rfl)) (AY (AB AH (AB (Ae CF DB hr rfl (AB (An (AE (pv 2)) AH (fun _ _=>rfl)) AF)) AF))) (Ag _)))))
  (AN (Ao Cr))
  A6)
 (AN (Ao (HC (DR (by have:=hr.units;exact this)) (An (AE (pv 2)) AH (fun _ _=>rfl)) (Ae Dq EW hr rfl (AB (AE (pv 0)) (AB (An (AE (pv 2)) AH (fun _ _=>rfl)) AF))) (Ag _))))))
def MT:Av ["table", "paper", "order"] ["table", "paper"] (Ab Ht):=Ct
def EX(Cp:MD)(Dr:MD)(Bm:MD)(CJ:MD)(Ee:MD):DF :=
 (AX (TL (AM CJ (AA (nm 0) AG)))
 (AX (Bs (DX (B3 (Bh (B9 CO (nm 1)))) (Al (BI true) (AM DJ (AA (nm 1) AG)) (fC (.int 3))))
  (A7 (fC (.bool false)))
  A9)
 (AX (BS 2 (AI Am (nm 1) (fC (.int 0))))
 (AX (Bs (DX (B3 (Bh (AM Bm (AA (nm 2) AG)))) (DX (Al (CH fun i j=>decide (i<j)) (nm 2) (fC (.int 0))) (Al (CH fun i j=>decide (j<i)) (nm 2) (fC (.int 6)))))
  (A7 (fC (.bool false)))
  A9)
 (A7 (J5 (AM Cp (AA (nm 0) (AA (AM Ee (AA (nm 2) AG)) (AA (AI Am (nm 1) (fC (.int 1))) AG)))) (AM Dr (AA (nm 0) (AA (nm 2) (AA (AI Am (nm 1) (fC (.int 2))) AG))))))))))
def Eb(Cp:MD)(Dr:MD)(Bm:MD)(CJ:MD)(Ee:MD):MD:=CV ["table", "paper"] ["table", "paper", "order"] (EX Cp Dr Bm CJ Ee)
def R7{k:Nat}{Cp:MD}{Dr:MD}{Bm:MD}{CJ:MD}{Ee:MD}(F:Fn K mg "judge_paper" Ht ["table", "paper"] f fd)
 {K7:AD}{KQ:FuncData}(F3:Fn K mg "are_true_lines" IA ["table", "trees", "lines"] K7 KQ)(Hw:AV P w K mg base Ar k K7 KQ ["table", "trees", "lines"] (BD Cp))
 {OJ:AD}{NC:FuncData}(Ir:Fn K mg "is_due_odd" LG ["table", "order", "odd"] OJ NC)(Ku:AV P w K mg base Ar k OJ NC ["table", "order", "odd"] (BD Dr))
 {IY:AD}{Hd:FuncData}(DH:Fn K mg "is_whole" F7 ["thing"] IY Hd)(ED:AV P w K mg base Ar k IY Hd ["thing"] (BD Bm))
 {JH:AD}{Ik:FuncData}(E9:Fn K mg "refuse_no_judging" GS ["table"] JH Ik)(GV:AV P w K mg base Ar k JH Ik ["table"] (BD CJ))
 {QO:AD}{Pa:FuncData}(Kd:Fn K mg "trees_to" Mm ["most"] QO Pa)(Mu:AV P w K mg base Ar k QO Pa ["most"] (BD Ee))(AW:mg "isinstance" = none)(BJ:mg "len" = none)(Bp:mg "tuple" = none){tk_MOST_ORDER:Tok}(Fh:mg "MOST_ORDER" = some (.int 6 tk_MOST_ORDER)) :
  AV P w K mg base Ar (k+1) f fd ["table", "paper"] (BD (Eb Cp Dr Bm CJ Ee)):=EC F MT fun cdv A outer s H E hr=>by
 have sc:=MT;exact(AJ (V7 (Ae E9 GV hr rfl (AB (AE (pv 0)) AF)))
 (AJ (BV (DW.dt (C7 (Cs (Cm (D3 (F4 _) rfl AW rfl Bp aU (AE (pv 1))))) (Cu (Aw (EE (by have:=hr.units;exact this)) (CI DY rfl BJ aQ (AB (AE (pv 1)) AF)) AH (Ag _)))))
  (AN (Ao Cr))
  A6)
 (AJ (BN (i:=2) sc.nd rfl (Or.inl rfl) (An (AE (pv 1)) AH (fun _ _=>rfl)))
 (AJ (BV (DW.dt (C7 (Cs (Cm (Ae DH ED hr rfl (AB (AE (pv 2)) AF)))) (C7 (Aw JU (AE (pv 2)) AH (Ag _)) (Cu (Aw Kf (AE (pv 2)) (JL rfl Fh) (Ag _))))))
  (AN (Ao Cr))
  A6)
 (AN (Ao (IW (Ae F3 Hw hr rfl (AB (AE (pv 0)) (AB (Ae Kd Mu hr rfl (AB (AE (pv 2)) AF)) (AB (An (AE (pv 1)) AH (fun _ _=>rfl)) AF)))) (Jn (Ae Ir Ku hr rfl (AB (AE (pv 0)) (AB (AE (pv 2)) (AB (An (AE (pv 1)) AH (fun _ _=>rfl)) AF))))))))))))
def OO:Av ["_law_one", "_law_other"] ["_law_one", "_law_other"] (Ab Jb):=Ct
def PF(Cw:MD):DF :=
 (A7 (AM Cw (AA (AI Ay (AI Dk (AI Am (nm 0) (fC (.int 0))) (AI Am (nm 1) (fC (.int 1)))) (AI Dk (AI Am (nm 1) (fC (.int 0))) (AI Am (nm 0) (fC (.int 1))))) (AA (AI Dk (AI Am (nm 0) (fC (.int 1))) (AI Am (nm 1) (fC (.int 1)))) AG))))
def Bg(Cw:MD):MD:=CV ["_law_one", "_law_other"] ["_law_one", "_law_other"] (PF Cw)
def Uw{k:Nat}{Cw:MD}(F:Fn K mg "_law_plus" Jb ["_law_one", "_law_other"] f fd)
 {Hi:AD}{Gj:FuncData}(Dl:Fn K mg "_law_frac" He ["_law_top", "_law_bottom"] Hi Gj)(Es:AV P w K mg base Ar k Hi Gj ["_law_top", "_law_bottom"] (BD Cw)) :
  AV P w K mg base Ar (k+1) f fd ["_law_one", "_law_other"] (BD (Bg Cw)):=EC F OO fun cdv A outer s H E hr=>by
 have sc:=OO;exact(AN (Ao (Ae Dl Es hr rfl (AB (Aj BC (Aj Ey (An (AE (pv 0)) AH (fun _ _=>rfl)) (An (AE (pv 1)) AH (fun _ _=>rfl))) (Aj Ey (An (AE (pv 1)) AH (fun _ _=>rfl)) (An (AE (pv 0)) AH (fun _ _=>rfl)))) (AB (Aj Ey (An (AE (pv 0)) AH (fun _ _=>rfl)) (An (AE (pv 1)) AH (fun _ _=>rfl))) AF)))))
def Qh:Av ["_law_one", "_law_other"] ["_law_one", "_law_other"] (Ab LX):=Ct
def Sv(Cw:MD):DF :=
 (A7 (AM Cw (AA (AI Dk (AI Am (nm 0) (fC (.int 0))) (AI Am (nm 1) (fC (.int 0)))) (AA (AI Dk (AI Am (nm 0) (fC (.int 1))) (AI Am (nm 1) (fC (.int 1)))) AG))))
def B4(Cw:MD):MD:=CV ["_law_one", "_law_other"] ["_law_one", "_law_other"] (Sv Cw)
def W7{k:Nat}{Cw:MD}(F:Fn K mg "_law_by" LX ["_law_one", "_law_other"] f fd)
 {Hi:AD}{Gj:FuncData}(Dl:Fn K mg "_law_frac" He ["_law_top", "_law_bottom"] Hi Gj)(Es:AV P w K mg base Ar k Hi Gj ["_law_top", "_law_bottom"] (BD Cw)) :
  AV P w K mg base Ar (k+1) f fd ["_law_one", "_law_other"] (BD (B4 Cw)):=EC F Qh fun cdv A outer s H E hr=>by
 have sc:=Qh;exact(AN (Ao (Ae Dl Es hr rfl (AB (Aj Ey (An (AE (pv 0)) AH (fun _ _=>rfl)) (An (AE (pv 1)) AH (fun _ _=>rfl))) (AB (Aj Ey (An (AE (pv 0)) AH (fun _ _=>rfl)) (An (AE (pv 1)) AH (fun _ _=>rfl))) AF)))))
def OH:Av ["_law_script", "_law_k", "_law_cell_here", "_law_number", "_law_found", "_law_turn"] ["_law_script", "_law_k"] (Ab Er):=Ct
def L1:DF :=
 (AX (BS 2 (fC (.int 0)))
 (AX (Bs (Al (CH fun i j=>decide (i<j)) (nm 1) (AM DJ (AA (nm 0) AG)))
  (BS 2 (AI Am (nm 0) (nm 1)))
  A9)
 (AX (Bs (Al (CH fun i j=>decide (j≤i)) (nm 2) (AI Nx (fC (.int 10)) (fC (.int 18))))
  (A7 (AI C5 (AI RQ (nm 2) (AI Nx (fC (.int 10)) (fC (.int 18)))) (AI Nx (fC (.int 10)) (fC (.int 60)))))
  A9)
 (AX (BS 3 (AI C5 (AI Ay (AI Ay (AI Dk (nm 2) (fC (.int 48271))) (AI Dk (nm 1) (fC (.int 69621)))) (fC (.int 11))) (fC (.int 2147483629))))
 (AX (BS 4 (fC (.int 0)))
 (AX (CM (Dj P6 (AA (fC (.int 8)) AG)) (EL 5)
  (AX (BS 3 (AI C5 (AI Ay (AI Ay (AI Dk (nm 3) (nm 3)) (AI Dk (fC (.int 69621)) (nm 5))) (fC (.int 7))) (fC (.int 2147483587))))
  (BS 4 (AI Ay (AI Dk (nm 4) (fC (.int 2147483563))) (AI C5 (AI Dk (nm 3) (nm 3)) (fC (.int 2147483563)))))))
 (A7 (nm 4))))))))
def Dm:MD:=CV ["_law_script", "_law_k"] ["_law_script", "_law_k", "_law_cell_here", "_law_number", "_law_found", "_law_turn"] (L1)
def UA{k:Nat}(F:Fn K mg "_law_cell" Er ["_law_script", "_law_k"] f fd)(BJ:mg "len" = none)(Bl:mg "range" = none) :
  AV P w K mg base Ar (k+1) f fd ["_law_script", "_law_k"] (BD (Dm)):=EC F OH fun cdv A outer s H E hr=>by
 have sc:=OH;exact(AJ (BN (i:=2) sc.nd rfl (Or.inl rfl) AH)
 (AJ (BV (Aw JU (AE (pv 1)) (CI DY rfl BJ aQ (AB (AE (pv 0)) AF)) (Ag _))
  (AN (BN (i:=2) sc.nd rfl (Or.inl rfl) (An (AE (pv 0)) (AE (pv 1)) (fun _ _=>rfl))))
  A6)
 (AJ (BV (Aw cg (AE (pv 2)) (Aj Rh AH AH) (Ag _))
  (AN (Ao (Aj DM (Aj OZ (AE (pv 2)) (Aj Rh AH AH)) (Aj Rh AH AH))))
  A6)
 (AJ (BN (i:=3) sc.nd rfl (Or.inl rfl) (Aj DM (Aj BC (Aj BC (Aj Ey (AE (pv 2)) AH) (Aj Ey (AE (pv 1)) AH)) AH) AH))
 (AJ (BN (i:=4) sc.nd rfl (Or.inl rfl) AH)
 (AJ (Cb aI rfl (N1 rfl Bl (AB AH AF)) (DL (A2 (i:=5) sc.nd rfl (Or.inl rfl)))
  (AJ (BN (i:=3) sc.nd rfl (Or.inl rfl) (Aj DM (Aj BC (Aj BC (Aj Ey (AE (pv 3)) (AE (pv 3))) (Aj Ey AH (AE (pv 5)))) AH) AH))
  (AN (BN (i:=4) sc.nd rfl (Or.inl rfl) (Aj BC (Aj Ey (AE (pv 4)) AH) (Aj DM (Aj Ey (AE (pv 3)) (AE (pv 3))) AH))))))
 (AN (Ao (AE (pv 4))))))))))
def M9:Av ["_law_which"] ["_law_which"] (Ab Kz):=Ct
def T6:DF :=
 (AX (Bs (Al (BI false) (nm 0) (fC (.int 0)))
  (A7 (Af (AA (BW (AA (BW AG) AG)) (AA (BW (AA (Af (AA (fC (.int 1)) (AA (fC (.int 1)) AG))) AG)) AG))))
  A9)
 (AX (Bs (Al (BI false) (nm 0) (fC (.int 1)))
  (A7 (Af (AA (BW (AA (BW AG) (AA (BW (AA (Af (AA (fC (.int 1)) (AA (fC (.int 2)) AG))) AG)) AG))) (AA (BW (AA (Af (AA (fC (.int 0)) (AA (fC (.int 1)) AG))) (AA (Af (AA (fC (.int 1)) (AA (fC (.int 1)) AG))) AG))) AG))))
  A9)
 (AX (Bs (Al (BI false) (nm 0) (fC (.int 2)))
  (A7 (Af (AA (BW (AA (BW AG) (AA (BW (AA (Af (AA (fC (.int 1)) (AA (fC (.int 1)) AG))) AG)) AG))) (AA (BW (AA (Af (AA (fC (.int 1)) (AA (fC (.int 2)) AG))) (AA (Af (AA (fC (.int 1)) (AA (fC (.int 2)) AG))) AG))) AG))))
  A9)
 (AX (Bs (Al (BI false) (nm 0) (fC (.int 3)))
  (A7 (Af (AA (BW (AA (BW AG) (AA (BW (AA (Af (AA (fC (.int 1)) (AA (fC (.int 3)) AG))) AG)) (AA (BW (AA (Af (AA (fC (.int 0)) (AA (fC (.int 1)) AG))) (AA (Af (AA (fC (.int 2)) (AA (fC (.int 3)) AG))) AG))) AG)))) (AA (BW (AA (Af (AA (fC (.int 1)) (AA (fC (.int 4)) AG))) (AA (Af (AA (fC (.int 0)) (AA (fC (.int 1)) AG))) (AA (Af (AA (fC (.int 3)) (AA (fC (.int 4)) AG))) AG)))) AG))))
  A9)
 (AX (Bs (Al (BI false) (nm 0) (fC (.int 4)))
  (A7 (Af (AA (BW (AA (BW AG) (AA (BW (AA (Af (AA (fC (.int 1)) (AA (fC (.int 2)) AG))) AG)) (AA (BW (AA (Af (AA (fC (.int 0)) (AA (fC (.int 1)) AG))) (AA (Af (AA (fC (.int 1)) (AA (fC (.int 2)) AG))) AG))) (AA (BW (AA (Af (AA (fC (.int 0)) (AA (fC (.int 1)) AG))) (AA (Af (AA (fC (.int 0)) (AA (fC (.int 1)) AG))) (AA (Af (AA (fC (.int 1)) (AA (fC (.int 1)) AG))) AG)))) AG))))) (AA (BW (AA (Af (AA (fC (.int 1)) (AA (fC (.int 6)) AG))) (AA (Af (AA (fC (.int 1)) (AA (fC (.int 3)) AG))) (AA (Af (AA (fC (.int 1)) (AA (fC (.int 3)) AG))) (AA (Af (AA (fC (.int 1)) (AA (fC (.int 6)) AG))) AG))))) AG))))
  A9)
 (A7 (Af (AA (BW (AA (BW AG) (AA (BW (AA (Af (AA (fC (.int 1)) (AA (fC (.int 2)) AG))) AG)) (AA (BW (AA (Af (AA (VA (fC (.int 1))) (AA (fC (.int 1)) AG))) (AA (Af (AA (fC (.int 2)) (AA (fC (.int 1)) AG))) AG))) AG)))) (AA (BW (AA (Af (AA (fC (.int 1)) (AA (fC (.int 6)) AG))) (AA (Af (AA (fC (.int 2)) (AA (fC (.int 3)) AG))) (AA (Af (AA (fC (.int 1)) (AA (fC (.int 6)) AG))) AG)))) AG)))))))))
def K5:MD:=CV ["_law_which"] ["_law_which"] (T6)
def Sy{k:Nat}(F:Fn K mg "_law_known" Kz ["_law_which"] f fd) :
  AV P w K mg base Ar (k+1) f fd ["_law_which"] (BD (K5)):=EC F M9 fun cdv A outer s H E hr=>by
 have sc:=M9;exact(AJ (BV (Aw (DR (by have:=hr.units;exact this)) (AE (pv 0)) AH (Ag _))
  (AN (Ao (AY (AB (BG (AB (BG AF) AF)) (AB (BG (AB (AY (AB AH (AB AH AF))) AF)) AF)))))
  A6)
 (AJ (BV (Aw (DR (by have:=hr.units;exact this)) (AE (pv 0)) AH (Ag _))
  (AN (Ao (AY (AB (BG (AB (BG AF) (AB (BG (AB (AY (AB AH (AB AH AF))) AF)) AF))) (AB (BG (AB (AY (AB AH (AB AH AF))) (AB (AY (AB AH (AB AH AF))) AF))) AF)))))
  A6)
 (AJ (BV (Aw (DR (by have:=hr.units;exact this)) (AE (pv 0)) AH (Ag _))
  (AN (Ao (AY (AB (BG (AB (BG AF) (AB (BG (AB (AY (AB AH (AB AH AF))) AF)) AF))) (AB (BG (AB (AY (AB AH (AB AH AF))) (AB (AY (AB AH (AB AH AF))) AF))) AF)))))
  A6)
 (AJ (BV (Aw (DR (by have:=hr.units;exact this)) (AE (pv 0)) AH (Ag _))
  (AN (Ao (AY (AB (BG (AB (BG AF) (AB (BG (AB (AY (AB AH (AB AH AF))) AF)) (AB (BG (AB (AY (AB AH (AB AH AF))) (AB (AY (AB AH (AB AH AF))) AF))) AF)))) (AB (BG (AB (AY (AB AH (AB AH AF))) (AB (AY (AB AH (AB AH AF))) (AB (AY (AB AH (AB AH AF))) AF)))) AF)))))
  A6)
 (AJ (BV (Aw (DR (by have:=hr.units;exact this)) (AE (pv 0)) AH (Ag _))
  (AN (Ao (AY (AB (BG (AB (BG AF) (AB (BG (AB (AY (AB AH (AB AH AF))) AF)) (AB (BG (AB (AY (AB AH (AB AH AF))) (AB (AY (AB AH (AB AH AF))) AF))) (AB (BG (AB (AY (AB AH (AB AH AF))) (AB (AY (AB AH (AB AH AF))) (AB (AY (AB AH (AB AH AF))) AF)))) AF))))) (AB (BG (AB (AY (AB AH (AB AH AF))) (AB (AY (AB AH (AB AH AF))) (AB (AY (AB AH (AB AH AF))) (AB (AY (AB AH (AB AH AF))) AF))))) AF)))))
  A6)
 (AN (Ao (AY (AB (BG (AB (BG AF) (AB (BG (AB (AY (AB AH (AB AH AF))) AF)) (AB (BG (AB (AY (AB (Qs AH) (AB AH AF))) (AB (AY (AB AH (AB AH AF))) AF))) AF)))) (AB (BG (AB (AY (AB AH (AB AH AF))) (AB (AY (AB AH (AB AH AF))) (AB (AY (AB AH (AB AH AF))) AF)))) AF))))))))))
def NJ:Av ["_law_most", "_law_found", "_law_many", "_law_pool", "_law_smaller", "_law_rows", "_law_done", "_law_longer", "_law_size", "_law_boughs", "_law_more", "_law_tree"] ["_law_most"] (Ab IX):=Ct
def UX:DF :=
 (AX (Nj 1 (AA (BW AG) (AA (BW (AA (Af AG) AG)) AG)))
 (AX (CM (Dj J8 (AA (fC (.int 2)) (AA (AI Ay (nm 0) (fC (.int 1))) AG))) (EL 2)
  (AX (BS 3 (BW AG))
  (AX (CM (Dj J8 (AA (fC (.int 1)) (AA (nm 2) AG))) (EL 4)
   (BS 3 (AI Ay (nm 3) (B5 (Cq 1) D9 (Af (AA (nm 2) (AA (nm 1) AG))) [none,none,some 4] (B2 (Yo 1 (nm 4)))))))
  (AX (BS 5 (BW (AA (Af (AA (fC (.int 0)) (AA (Af AG) AG))) AG)))
  (AX (BS 6 (BW AG))
  (AX (Kx (Al (BI true) (nm 5) (BW AG))
   (AX (Nj 7 AG)
   (AX (CM (B2 (nm 5)) (DV 8 9)
    (CM (B2 (nm 3)) (DV 10 11)
     (Bs (J2 (Al (CH fun i j=>decide (i<j)) (AI Ay (nm 8) (nm 10)) (nm 2)) (DX (Al (BI false) (nm 9) (Af AG)) (Al cR (nm 11) (AI Am (nm 9) (VA (fC (.int 1)))))))
      (N8 7 (Af (AA (AI Ay (nm 8) (nm 10)) (AA (AI Ay (nm 9) (Af (AA (nm 11) AG))) AG))))
      A9)))
   (AX (Ro 7 (BS 6 (AI Ay (nm 6) (B5 (DV 1 2) (Al (BI false) (nm 1) (AI RQ (nm 3) (fC (.int 1)))) (nm 2) [none,none,none,some 2] (B2 (nm 7))))))
   (Ro 7 (BS 5 (B5 (DV 1 2) (Al (CH fun i j=>decide (i<j)) (nm 1) (AI RQ (nm 3) (fC (.int 1)))) (Af (AA (nm 1) (AA (nm 2) AG))) [none,none,none,some 2] (B2 (nm 7)))))))) 8)
  (N8 1 (AM (MN false) (AA (nm 6) AG)))))))))
 (Q8 1)))
def Dw:MD:=CV ["_law_most"] ["_law_most", "_law_found", "_law_many", "_law_pool", "_law_smaller", "_law_rows", "_law_done", "_law_longer", "_law_size", "_law_boughs", "_law_more", "_law_tree"] (UX)
def TJ{k:Nat}(F:Fn K mg "_law_trees" IX ["_law_most"] f fd)(Bl:mg "range" = none)(Fb:mg "sorted" = none) :
  AV P w K mg base Ar (k+1) f fd ["_law_most"] (BD (Dw)):=EC F NJ fun cdv A outer s H E hr=>by
 have sc:=NJ;exact(AJ (Jl (i:=1) sc.nd rfl (Or.inl rfl) (AB (BG AF) (AB (BG (AB (AY AF) AF)) AF)))
 (AJ (Cb aI rfl (J0 rfl Bl (AB AH (AB (Aj BC (AE (pv 0)) AH) AF))) (DL (A2 (i:=2) sc.nd rfl (Or.inr rfl)))
  (AJ (BN (i:=3) sc.nd rfl (Or.inl rfl) (BG AF))
  (AJ (Cb aI rfl (J0 rfl Bl (AB AH (AB (AE (pv 2)) AF))) (DL (A2 (i:=4) sc.nd rfl (Or.inr rfl)))
   (AN (BN (i:=3) sc.nd rfl (Or.inl rfl) (Aj BC (AE (pv 3)) (FH [".0", "_law_tree", "_law_smaller"] 1 [none,none,some 4] (CS (VQ (pv 1) (AE (pv 4)) (fun _ _=>rfl))) (fun _ _ _ _ _=>FK) (fun _ _ _ _ _=>(AY (AB (AE (pv 2)) (AB (AE (pv 1)) AF)))))))))
  (AJ (BN (i:=5) sc.nd rfl (Or.inl rfl) (BG (AB (AY (AB AH (AB (AY AF) AF))) AF)))
  (AJ (BN (i:=6) sc.nd rfl (Or.inl rfl) (BG AF))
  (AJ (bg 8 aI (Aw (EE (by have:=hr.units;exact this)) (AE (pv 5)) (BG AF) (Ag _))
   (AJ (Jl (i:=7) sc.nd rfl (Or.inl rfl) AF)
   (AJ (Cb aI rfl (CS (AE (pv 5))) (Gs (FU rfl (Bd (A2 (i:=8) sc.nd rfl (Or.inl rfl)) (Bd (A2 (i:=9) sc.nd rfl (Or.inl rfl)) EU))))
    (AN (Cb aI rfl (CS (AE (pv 3))) (Gs (FU rfl (Bd (A2 (i:=10) sc.nd rfl (Or.inl rfl)) (Bd (A2 (i:=11) sc.nd rfl (Or.inl rfl)) EU))))
     (AN (BV (DW.dt (QM (Aw JU (Aj BC (AE (pv 8)) (AE (pv 10))) (AE (pv 2)) (Ag _)) (Cu (DW.dt (C7 (Aw (DR (by have:=hr.units;exact this)) (AE (pv 9)) (AY AF) (Ag _)) (Cu (Aw (eT (by have:=hr.units;exact this)) (AE (pv 11)) (An (AE (pv 9)) (Qs AH) (fun _ _=>rfl)) (Ag _))))))))
      (AN (IH (pv 7) (AY (AB (Aj BC (AE (pv 8)) (AE (pv 10))) (AB (Aj BC (AE (pv 9)) (AY (AB (AE (pv 11)) AF))) AF))) (fun ho ha=>Fv (JX aY ax ay Fx ho ha))))
      A6)))))
   (AJ (L6 7 (BN (i:=6) sc.nd rfl (Or.inl rfl) (Aj BC (AE (pv 6)) (UD [".0", "_law_size", "_law_boughs", "_law_many"] 1 2 [none,none,none,some 2] (CS (AE (pv 7))) (fun _ _ _ _ _=>(Oa (Aw (DR (by have:=hr.units;exact this)) (AE (pv 1)) (Aj OZ (AE (pv 3)) AH) (Ag _)))) (fun _ _ _ _ _=>(AE (pv 2)))))))
   (AN (L6 7 (Ph (i:=5) [".0", "_law_size", "_law_boughs", "_law_many"] 1 2 [none,none,none,some 2] sc.nd rfl rfl (CS (AE (pv 7))) (fun _ _ _ _ _=>(Oa (Aw JU (AE (pv 1)) (Aj OZ (AE (pv 3)) AH) (Ag _)))) (fun _ _ _ _ _=>(AY (AB (AE (pv 1)) (AB (AE (pv 2)) AF)))))))))))
  (AN (IH (pv 1) (CI (eN (by have:=hr.units;exact this)) rfl Fb PyProof.Rows.boot_sorted (AB (AE (pv 6)) AF)) (fun ho ha=>Fv (JX aY ax ay Fx ho ha))))))))))
 (AN (Oh (pv 1)))))
def S5:Av ["_law_tree"] ["_law_tree"] (Ab LF):=Ct
def Nm(Bn:MD):DF :=
 (A7 (AI Ay (fC (.int 1)) (AM Ww (AA (B5 (Cq 1) D9 (AM Bn (AA (nm 1) AG)) [none,none] (B2 (nm 0))) AG))))
def Bn:Nat→MD
 |0=>fun _=>none
 |n+1=>CV ["_law_tree"] ["_law_tree"] (Nm (Bn n))
def NB{k:Nat}(Ds:Fn K mg "_law_knots" LF ["_law_tree"] f fd)(IJ:mg "sum" = none):∀n,
  AV P w K mg base Ar (k+n+1) f fd ["_law_tree"] (BD (Bn n))
 |0=>Gm fun _ _ _ _ ⟨_,_,_,h,_⟩=>by cases h
 |n+1=>by
  have sc:=S5;have EN:=NB (k:=k) Ds IJ n;refine EC (k:=k+n+1) (F:=Nm (Bn n)) Ds sc fun cdv A outer s H E hr=>?_;exact(AN (Ao (Aj BC AH (CI (Yy rfl) rfl IJ PyProof.Rows.boot_sum (AB (FH [".0", "_law_bough"] 1 [none,none] (CS (AE (pv 0))) (fun _ _ _ _ _=>FK) (fun _ _ _ _ _=>(Ae Ds EN hr rfl (AB (AE (pv 1)) AF)))) AF)))))
def Qc:Av ["_law_tree", "_law_found", "_law_bough"] ["_law_tree"] (Ab JN):=Ct
def MF(Bn:MD)(B8:MD):DF :=
 (AX (BS 1 (AM Bn (AA (nm 0) AG)))
 (AX (CM (B2 (nm 0)) (EL 2)
  (BS 1 (AI Dk (nm 1) (AM B8 (AA (nm 2) AG)))))
 (A7 (nm 1))))
def B8(Bn:MD):Nat→MD
 |0=>fun _=>none
 |n+1=>CV ["_law_tree"] ["_law_tree", "_law_found", "_law_bough"] (MF Bn (B8 Bn n))
def La{k:Nat}{Bn:MD}(Dg:Fn K mg "_law_density" JN ["_law_tree"] f fd)
 {N9:AD}{NM:FuncData}(Ds:Fn K mg "_law_knots" LF ["_law_tree"] N9 NM)(EN:AV P w K mg base Ar k N9 NM ["_law_tree"] (BD Bn)):∀n,
  AV P w K mg base Ar (k+n+1) f fd ["_law_tree"] (BD (B8 Bn n))
 |0=>Gm fun _ _ _ _ ⟨_,_,_,h,_⟩=>by cases h
 |n+1=>by
  have sc:=Qc;have Fo:=La (k:=k) (Bn:=Bn) Dg Ds EN n;have EN:=EN.mono (show k≤k+n+1 by lia);refine EC (k:=k+n+1) (F:=MF Bn (B8 Bn n)) Dg sc fun cdv A outer s H E hr=>?_;exact(AJ (BN (i:=1) sc.nd rfl (Or.inl rfl) (Ae Ds EN hr rfl (AB (AE (pv 0)) AF)))
 (AJ (Cb aI rfl (CS (AE (pv 0))) (DL (A2 (i:=2) sc.nd rfl (Or.inl rfl)))
  (AN (BN (i:=1) sc.nd rfl (Or.inl rfl) (Aj Ey (AE (pv 1)) (Ae Dg Fo hr rfl (AB (AE (pv 2)) AF))))))
 (AN (Ao (AE (pv 1))))))
def Uj:Av ["_law_rows", "_law_tree", "_law_row", "_law_found", "_law_bough", "_law_total", "_law_other", "_law_part_here"] ["_law_rows", "_law_tree", "_law_row"] (Ab Lu):=Ct
def Lw(B4:MD)(Bg:MD)(Cz:MD):DF :=
 (AX (BS 3 (Af (AA (fC (.int 1)) (AA (fC (.int 1)) AG))))
 (AX (CM (B2 (nm 1)) (EL 4)
  (AX (BS 5 (Af (AA (fC (.int 0)) (AA (fC (.int 1)) AG))))
  (AX (CM (Dj Ho (AA (AI Am (nm 0) (nm 2)) AG)) (DV 6 7)
   (BS 5 (AM Bg (AA (nm 5) (AA (AM B4 (AA (nm 7) (AA (AM Cz (AA (nm 0) (AA (nm 4) (AA (nm 6) AG)))) AG))) AG)))))
  (BS 3 (AM B4 (AA (nm 3) (AA (nm 5) AG)))))))
 (A7 (nm 3))))
def Cz(B4:MD)(Bg:MD):Nat→MD
 |0=>fun _=>none
 |n+1=>CV ["_law_rows", "_law_tree", "_law_row"] ["_law_rows", "_law_tree", "_law_row", "_law_found", "_law_bough", "_law_total", "_law_other", "_law_part_here"] (Lw B4 Bg (Cz B4 Bg n))
def OM{k:Nat}{B4:MD}{Bg:MD}(Ek:Fn K mg "_law_seen" Lu ["_law_rows", "_law_tree", "_law_row"] f fd)
 {Jy:AD}{IU:FuncData}(FX:Fn K mg "_law_by" LX ["_law_one", "_law_other"] Jy IU)(Em:AV P w K mg base Ar k Jy IU ["_law_one", "_law_other"] (BD B4))
 {Hj:AD}{G9:FuncData}(El:Fn K mg "_law_plus" Jb ["_law_one", "_law_other"] Hj G9)(EI:AV P w K mg base Ar k Hj G9 ["_law_one", "_law_other"] (BD Bg))(B0:mg "enumerate" = none):∀n,
  AV P w K mg base Ar (k+n+1) f fd ["_law_rows", "_law_tree", "_law_row"] (BD (Cz B4 Bg n))
 |0=>Gm fun _ _ _ _ ⟨_,_,_,h,_⟩=>by cases h
 |n+1=>by
  have sc:=Uj;have Hc:=OM (k:=k) (B4:=B4) (Bg:=Bg) Ek FX Em El EI B0 n;have Em:=Em.mono (show k≤k+n+1 by lia);have EI:=EI.mono (show k≤k+n+1 by lia);refine EC (k:=k+n+1) (F:=Lw B4 Bg (Cz B4 Bg n)) Ek sc fun cdv A outer s H E hr=>?_;exact(AJ (BN (i:=3) sc.nd rfl (Or.inl rfl) (AY (AB AH (AB AH AF))))
 (AJ (Cb aI rfl (CS (AE (pv 1))) (DL (A2 (i:=4) sc.nd rfl (Or.inl rfl)))
  (AJ (BN (i:=5) sc.nd rfl (Or.inl rfl) (AY (AB AH (AB AH AF))))
  (AJ (Cb aI rfl (Kg rfl B0 (AB (An (AE (pv 0)) (AE (pv 2)) (fun _ _=>rfl)) AF)) (Gs (FU rfl (Bd (A2 (i:=6) sc.nd rfl (Or.inl rfl)) (Bd (A2 (i:=7) sc.nd rfl (Or.inl rfl)) EU))))
   (AN (BN (i:=5) sc.nd rfl (Or.inl rfl) (Ae El EI hr rfl (AB (AE (pv 5)) (AB (Ae FX Em hr rfl (AB (AE (pv 7)) (AB (Ae Ek Hc hr rfl (AB (AE (pv 0)) (AB (AE (pv 4)) (AB (AE (pv 6)) AF)))) AF))) AF))))))
  (AN (BN (i:=3) sc.nd rfl (Or.inl rfl) (Ae FX Em hr rfl (AB (AE (pv 3)) (AB (AE (pv 5)) AF))))))))
 (AN (Ao (AE (pv 3))))))
def MP:Av ["_law_table_here", "_law_tree", "_law_total", "_law_row", "_law_part_here"] ["_law_table_here", "_law_tree"] (Ab GH):=Ct
def NU(B4:MD)(Bg:MD)(Cz:MD):DF :=
 (AX (BS 2 (Af (AA (fC (.int 0)) (AA (fC (.int 1)) AG))))
 (AX (CM (Dj Ho (AA (AI Am (nm 0) (fC (.int 1))) AG)) (DV 3 4)
  (BS 2 (AM Bg (AA (nm 2) (AA (AM B4 (AA (nm 4) (AA (AM Cz (AA (AI Am (nm 0) (fC (.int 0))) (AA (nm 1) (AA (nm 3) AG)))) AG))) AG)))))
 (A7 (nm 2))))
def Ax(B4:MD)(Bg:MD)(Cz:MD):MD:=CV ["_law_table_here", "_law_tree"] ["_law_table_here", "_law_tree", "_law_total", "_law_row", "_law_part_here"] (NU B4 Bg Cz)
def Rr{k:Nat}{B4:MD}{Bg:MD}{Cz:MD}(F:Fn K mg "_law_weight" GH ["_law_table_here", "_law_tree"] f fd)
 {Jy:AD}{IU:FuncData}(FX:Fn K mg "_law_by" LX ["_law_one", "_law_other"] Jy IU)(Em:AV P w K mg base Ar k Jy IU ["_law_one", "_law_other"] (BD B4))
 {Hj:AD}{G9:FuncData}(El:Fn K mg "_law_plus" Jb ["_law_one", "_law_other"] Hj G9)(EI:AV P w K mg base Ar k Hj G9 ["_law_one", "_law_other"] (BD Bg))
 {Pf:AD}{N4:FuncData}(Ek:Fn K mg "_law_seen" Lu ["_law_rows", "_law_tree", "_law_row"] Pf N4)(Hc:AV P w K mg base Ar k Pf N4 ["_law_rows", "_law_tree", "_law_row"] (BD Cz))(B0:mg "enumerate" = none) :
  AV P w K mg base Ar (k+1) f fd ["_law_table_here", "_law_tree"] (BD (Ax B4 Bg Cz)):=EC F MP fun cdv A outer s H E hr=>by
 have sc:=MP;exact(AJ (BN (i:=2) sc.nd rfl (Or.inl rfl) (AY (AB AH (AB AH AF))))
 (AJ (Cb aI rfl (Kg rfl B0 (AB (An (AE (pv 0)) AH (fun _ _=>rfl)) AF)) (Gs (FU rfl (Bd (A2 (i:=3) sc.nd rfl (Or.inl rfl)) (Bd (A2 (i:=4) sc.nd rfl (Or.inl rfl)) EU))))
  (AN (BN (i:=2) sc.nd rfl (Or.inl rfl) (Ae El EI hr rfl (AB (AE (pv 2)) (AB (Ae FX Em hr rfl (AB (AE (pv 4)) (AB (Ae Ek Hc hr rfl (AB (An (AE (pv 0)) AH (fun _ _=>rfl)) (AB (AE (pv 1)) (AB (AE (pv 3)) AF)))) AF))) AF))))))
 (AN (Ao (AE (pv 2))))))
def N2:Av ["_law_tree"] ["_law_tree"] (Ab GK):=Ct
def O9(B8:MD):DF :=
 (A7 (Af (AA (fC (.int 1)) (AA (AM B8 (AA (nm 0) AG)) AG))))
def A0(B8:MD):MD:=CV ["_law_tree"] ["_law_tree"] (O9 B8)
def Tf{k:Nat}{B8:MD}(F:Fn K mg "_law_true" GK ["_law_tree"] f fd)
 {ML:AD}{LR:FuncData}(Dg:Fn K mg "_law_density" JN ["_law_tree"] ML LR)(Fo:AV P w K mg base Ar k ML LR ["_law_tree"] (BD B8)) :
  AV P w K mg base Ar (k+1) f fd ["_law_tree"] (BD (A0 B8)):=EC F N2 fun cdv A outer s H E hr=>by
 have sc:=N2;exact(AN (Ao (AY (AB AH (AB (Ae Dg Fo hr rfl (AB (AE (pv 0)) AF)) AF)))))
def Pk:Av ["_law_table_here", "_law_trees_here", "_law_lines", "_law_order", "_law_tree"] ["_law_table_here", "_law_trees_here"] (Ab Kb):=Ct
def Qu(A0:MD)(Ax:MD):DF :=
 (AX (BS 2 (BW AG))
 (AX (CM (Dj P6 (AA (fC (.int 5)) AG)) (EL 3)
  (AX (CM (B2 (AI Am (nm 1) (AI Ay (nm 3) (fC (.int 1))))) (EL 4)
   (Bs (Al (BI true) (AM Ax (AA (nm 0) (AA (nm 4) AG))) (AM A0 (AA (nm 4) AG)))
    (A7 (Af (AA (nm 3) (AA (nm 2) (AA (Af (AA (nm 4) (AA (AM Ax (AA (nm 0) (AA (nm 4) AG))) AG))) AG)))))
    A9))
  (BS 2 (AI Ay (nm 2) (B5 (Cq 1) D9 (Af (AA (nm 1) (AA (AM A0 (AA (nm 1) AG)) AG))) [none,none] (B2 (AI Am (nm 1) (AI Ay (nm 3) (fC (.int 1))))))))))
 (A7 (Af (AA (fC (.int 5)) (AA (nm 2) (AA (fC .none) AG)))))))
def F5(A0:MD)(Ax:MD):MD:=CV ["_law_table_here", "_law_trees_here"] ["_law_table_here", "_law_trees_here", "_law_lines", "_law_order", "_law_tree"] (Qu A0 Ax)
def Vf{k:Nat}{A0:MD}{Ax:MD}(F:Fn K mg "_law_due" Kb ["_law_table_here", "_law_trees_here"] f fd)
 {DP:AD}{C9:FuncData}(CN:Fn K mg "_law_true" GK ["_law_tree"] DP C9)(CZ:AV P w K mg base Ar k DP C9 ["_law_tree"] (BD A0))
 {D5:AD}{Di:FuncData}(B1:Fn K mg "_law_weight" GH ["_law_table_here", "_law_tree"] D5 Di)(CA:AV P w K mg base Ar k D5 Di ["_law_table_here", "_law_tree"] (BD Ax))(Bl:mg "range" = none) :
  AV P w K mg base Ar (k+1) f fd ["_law_table_here", "_law_trees_here"] (BD (F5 A0 Ax)):=EC F Pk fun cdv A outer s H E hr=>by
 have sc:=Pk;exact(AJ (BN (i:=2) sc.nd rfl (Or.inl rfl) (BG AF))
 (AJ (Cb aI rfl (N1 rfl Bl (AB AH AF)) (DL (A2 (i:=3) sc.nd rfl (Or.inl rfl)))
  (AJ (Cb aI rfl (CS (An (AE (pv 1)) (Aj BC (AE (pv 3)) AH) (fun _ _=>rfl))) (DL (A2 (i:=4) sc.nd rfl (Or.inl rfl)))
   (AN (BV (Aw (EE (by have:=hr.units;exact this)) (Ae B1 CA hr rfl (AB (AE (pv 0)) (AB (AE (pv 4)) AF))) (Ae CN CZ hr rfl (AB (AE (pv 4)) AF)) (Ag _))
    (AN (Ao (AY (AB (AE (pv 3)) (AB (AE (pv 2)) (AB (AY (AB (AE (pv 4)) (AB (Ae B1 CA hr rfl (AB (AE (pv 0)) (AB (AE (pv 4)) AF))) AF))) AF))))))
    A6)))
  (AN (BN (i:=2) sc.nd rfl (Or.inl rfl) (Aj BC (AE (pv 2)) (FH [".0", "_law_tree"] 1 [none,none] (CS (An (AE (pv 1)) (Aj BC (AE (pv 3)) AH) (fun _ _=>rfl))) (fun _ _ _ _ _=>FK) (fun _ _ _ _ _=>(AY (AB (AE (pv 1)) (AB (Ae CN CZ hr rfl (AB (AE (pv 1)) AF)) AF))))))))))
 (AN (Ao (AY (AB AH (AB (AE (pv 2)) (AB Kw AF))))))))
def Jw:Av ["_law_line", "_law_number", "_law_trees_here", "_law_tree", "_law_weight_here", "_law_some"] ["_law_line", "_law_number", "_law_trees_here"] (Ab HZ):=Ct
def KP:DF :=
 (AX (VB (nm 0) (DV 3 4))
 (AX (Nj 5 (AA (Af (AA (nm 3) (AA (Af (AA (AI Ay (AI Am (nm 4) (fC (.int 0))) (AI Am (nm 4) (fC (.int 1)))) (AA (AI Am (nm 4) (fC (.int 1))) AG))) AG))) (AA (Af (AA (nm 3) (AA (Af (AA (AI Dk (fC (.int 2)) (AI Am (nm 4) (fC (.int 0)))) (AA (AI Dk (fC (.int 2)) (AI Am (nm 4) (fC (.int 1)))) AG))) AG))) (AA (Af (AA (nm 3) (AA (AI Am (nm 4) (fC (.int 0))) AG))) AG))))
 (AX (Ro 5 (QW 5 (AI Lp (nm 5) (BW (AA (BW (AA (nm 3) (AA (nm 4) AG))) (AA (Af (AA (nm 3) AG)) (AA (Af (AA (nm 3) (AA (nm 4) (AA (fC (.int 0)) AG)))) (AA (Af (AA (Af (AA (Af AG) (AA (Af (AA (Af AG) AG)) AG))) (AA (nm 4) AG))) (AA (Af (AA (BW AG) (AA (nm 4) AG))) AG)))))))))
 (AX (N8 5 (Af (AA (nm 3) (AA (AM JR (AA (nm 4) AG)) AG))))
 (AX (Ro 5 (QW 5 (AI Lp (nm 5) (BW (AA (Af (AA (fC .none) (AA (nm 4) AG))) (AA (Af (AA (Af (AA (nm 3) AG)) (AA (nm 4) AG))) (AA (Af (AA (AI Am (AI Am (nm 2) (fC (.int 4))) (AI C5 (AI Gp (nm 1) (fC (.int 12))) (fC (.int 4)))) (AA (nm 4) AG))) AG)))))))
 (A7 (Yo 5 (AI C5 (nm 1) (fC (.int 12))))))))))
def Ce:MD:=CV ["_law_line", "_law_number", "_law_trees_here"] ["_law_line", "_law_number", "_law_trees_here", "_law_tree", "_law_weight_here", "_law_some"] (KP)
def Nt{k:Nat}(F:Fn K mg "_law_wrong_line" HZ ["_law_line", "_law_number", "_law_trees_here"] f fd)(C4:mg "list" = none) :
  AV P w K mg base Ar (k+1) f fd ["_law_line", "_law_number", "_law_trees_here"] (BD (Ce)):=EC F Jw fun cdv A outer s H E hr=>by
 have sc:=Jw;exact(AJ (U4 (AE (pv 0)) (Gs (FU rfl (Bd (A2 (i:=3) sc.nd rfl (Or.inl rfl)) (Bd (A2 (i:=4) sc.nd rfl (Or.inl rfl)) EU)))))
 (AJ (Jl (i:=5) sc.nd rfl (Or.inl rfl) (AB (AY (AB (AE (pv 3)) (AB (AY (AB (Aj BC (An (AE (pv 4)) AH (fun _ _=>rfl)) (An (AE (pv 4)) AH (fun _ _=>rfl))) (AB (An (AE (pv 4)) AH (fun _ _=>rfl)) AF))) AF))) (AB (AY (AB (AE (pv 3)) (AB (AY (AB (Aj Ey AH (An (AE (pv 4)) AH (fun _ _=>rfl))) (AB (Aj Ey AH (An (AE (pv 4)) AH (fun _ _=>rfl))) AF))) AF))) (AB (AY (AB (AE (pv 3)) (AB (An (AE (pv 4)) AH (fun _ _=>rfl)) AF))) AF))))
 (AJ (L6 5 (Sj (i:=5) (AE (pv 5)) (BG (AB (BG (AB (AE (pv 3)) (AB (AE (pv 4)) AF))) (AB (AY (AB (AE (pv 3)) AF)) (AB (AY (AB (AE (pv 3)) (AB (AE (pv 4)) (AB AH AF)))) (AB (AY (AB (AY (AB (AY AF) (AB (AY (AB (AY AF) AF)) AF))) (AB (AE (pv 4)) AF))) (AB (AY (AB (BG AF) (AB (AE (pv 4)) AF))) AF)))))) sc.nd rfl (Or.inl rfl)))
 (AJ (IH (pv 5) (AY (AB (AE (pv 3)) (AB (G8 Ot rfl C4 aq (AB (AE (pv 4)) AF)) AF))) (fun ho ha=>Fv (JX aY ax ay Fx ho ha)))
 (AJ (L6 5 (Sj (i:=5) (AE (pv 5)) (BG (AB (AY (AB Kw (AB (AE (pv 4)) AF))) (AB (AY (AB (AY (AB (AE (pv 3)) AF)) (AB (AE (pv 4)) AF))) (AB (AY (AB (An (An (AE (pv 2)) AH (fun _ _=>rfl)) (Aj DM (Aj Kn (AE (pv 1)) AH) AH) (fun _ _=>rfl)) (AB (AE (pv 4)) AF))) AF)))) sc.nd rfl (Or.inl rfl)))
 (AN (Ao (VQ (pv 5) (Aj DM (AE (pv 1)) AH) (fun _ _=>rfl)))))))))
def Jq:Av ["_law_lines", "_law_number", "_law_trees_here", "_law_act", "_law_place"] ["_law_lines", "_law_number", "_law_trees_here"] (Ab HQ):=Ct
def C2(A0:MD)(Ce:MD):DF :=
 (AX (BS 3 (AI C5 (nm 1) (fC (.int 8))))
 (AX (BS 4 (AI C5 (AI Gp (nm 1) (fC (.int 8))) (AM DJ (AA (nm 0) AG))))
 (AX (BS 1 (AI Gp (nm 1) (fC (.int 64))))
 (AX (Bs (Al (BI false) (nm 3) (fC (.int 0)))
  (A7 (AI Ay (IQ (nm 0) GW (GZ (nm 4))) (IQ (nm 0) (GZ (AI Ay (nm 4) (fC (.int 1)))) GW)))
  A9)
 (AX (Bs (Al (BI false) (nm 3) (fC (.int 1)))
  (A7 (AI Ay (AI Ay (IQ (nm 0) GW (GZ (nm 4))) (BW (AA (AI Am (nm 0) (nm 4)) AG))) (IQ (nm 0) (GZ (nm 4)) GW)))
  A9)
 (AX (Bs (J2 (Al (BI false) (nm 3) (fC (.int 2))) (Al (CH fun i j=>decide (j<i)) (AM DJ (AA (nm 0) AG)) (fC (.int 1))))
  (A7 (AI Ay (IQ (nm 0) (GZ (fC (.int 1))) GW) (IQ (nm 0) GW (GZ (fC (.int 1))))))
  A9)
 (AX (Bs (Al (BI false) (nm 3) (fC (.int 3)))
  (A7 (AI Ay (nm 0) (B5 (Cq 1) D9 (Af (AA (nm 1) (AA (AM A0 (AA (nm 1) AG)) AG))) [none,none] (B2 (AI Am (nm 2) (AI Ay (fC (.int 1)) (AI C5 (nm 1) (fC (.int 4)))))))))
  A9)
 (AX (Bs (Al (BI false) (nm 3) (fC (.int 4)))
  (A7 (AM Mi (AA (nm 0) AG)))
  A9)
 (A7 (AI Ay (AI Ay (IQ (nm 0) GW (GZ (nm 4))) (BW (AA (AM Ce (AA (AI Am (nm 0) (nm 4)) (AA (nm 1) (AA (nm 2) AG)))) AG))) (IQ (nm 0) (GZ (AI Ay (nm 4) (fC (.int 1)))) GW)))))))))))
def Cd(A0:MD)(Ce:MD):MD:=CV ["_law_lines", "_law_number", "_law_trees_here"] ["_law_lines", "_law_number", "_law_trees_here", "_law_act", "_law_place"] (C2 A0 Ce)
def N6{k:Nat}{A0:MD}{Ce:MD}(F:Fn K mg "_law_bent_lines" HQ ["_law_lines", "_law_number", "_law_trees_here"] f fd)
 {DP:AD}{C9:FuncData}(CN:Fn K mg "_law_true" GK ["_law_tree"] DP C9)(CZ:AV P w K mg base Ar k DP C9 ["_law_tree"] (BD A0))
 {KI:AD}{Jm:FuncData}(Fd:Fn K mg "_law_wrong_line" HZ ["_law_line", "_law_number", "_law_trees_here"] KI Jm)(HW:AV P w K mg base Ar k KI Jm ["_law_line", "_law_number", "_law_trees_here"] (BD Ce))(BJ:mg "len" = none)(Bp:mg "tuple" = none) :
  AV P w K mg base Ar (k+1) f fd ["_law_lines", "_law_number", "_law_trees_here"] (BD (Cd A0 Ce)):=EC F Jq fun cdv A outer s H E hr=>by
 have sc:=Jq;exact(AJ (BN (i:=3) sc.nd rfl (Or.inl rfl) (Aj DM (AE (pv 1)) AH))
 (AJ (BN (i:=4) sc.nd rfl (Or.inl rfl) (Aj DM (Aj Kn (AE (pv 1)) AH) (CI DY rfl BJ aQ (AB (AE (pv 0)) AF))))
 (AJ (BN (i:=1) sc.nd rfl (Or.inl rfl) (Aj Kn (AE (pv 1)) AH))
 (AJ (BV (Aw (DR (by have:=hr.units;exact this)) (AE (pv 3)) AH (Ag _))
  (AN (Ao (Aj BC (FY (AE (pv 0)) GL (GN (AE (pv 4)))) (FY (AE (pv 0)) (GN (Aj BC (AE (pv 4)) AH)) GL))))
  A6)
 (AJ (BV (Aw (DR (by have:=hr.units;exact this)) (AE (pv 3)) AH (Ag _))
  (AN (Ao (Aj BC (Aj BC (FY (AE (pv 0)) GL (GN (AE (pv 4)))) (BG (AB (An (AE (pv 0)) (AE (pv 4)) (fun _ _=>rfl)) AF))) (FY (AE (pv 0)) (GN (AE (pv 4))) GL))))
  A6)
 (AJ (BV (DW.dt (QM (Aw (DR (by have:=hr.units;exact this)) (AE (pv 3)) AH (Ag _)) (Cu (Aw Kf (CI DY rfl BJ aQ (AB (AE (pv 0)) AF)) AH (Ag _)))))
  (AN (Ao (Aj BC (FY (AE (pv 0)) (GN AH) GL) (FY (AE (pv 0)) GL (GN AH)))))
  A6)
 (AJ (BV (Aw (DR (by have:=hr.units;exact this)) (AE (pv 3)) AH (Ag _))
  (AN (Ao (Aj BC (AE (pv 0)) (FH [".0", "_law_tree"] 1 [none,none] (CS (An (AE (pv 2)) (Aj BC AH (Aj DM (AE (pv 1)) AH)) (fun _ _=>rfl))) (fun _ _ _ _ _=>FK) (fun _ _ _ _ _=>(AY (AB (AE (pv 1)) (AB (Ae CN CZ hr rfl (AB (AE (pv 1)) AF)) AF))))))))
  A6)
 (AJ (BV (Aw (DR (by have:=hr.units;exact this)) (AE (pv 3)) AH (Ag _))
  (AN (Ao (G8 VS rfl Bp aU (AB (AE (pv 0)) AF))))
  A6)
 (AN (Ao (Aj BC (Aj BC (FY (AE (pv 0)) GL (GN (AE (pv 4)))) (BG (AB (Ae Fd HW hr rfl (AB (An (AE (pv 0)) (AE (pv 4)) (fun _ _=>rfl)) (AB (AE (pv 1)) (AB (AE (pv 2)) AF)))) AF))) (FY (AE (pv 0)) (GN (Aj BC (AE (pv 4)) AH)) GL))))))))))))
def OB:Av ["_law_table_here", "_law_paper", "_law_number", "_law_trees_here", "_law_order", "_law_lines", "_law_odd", "_law_act", "_law_more", "_law_other", "_law_weight_here"] ["_law_table_here", "_law_paper", "_law_number", "_law_trees_here"] (Ab JT):=Ct
def Dp(Cd:MD)(A0:MD)(Ax:MD):DF :=
 (AX (VB (nm 1) (RF 4 5 6))
 (AX (BS 7 (AI C5 (nm 2) (fC (.int 8))))
 (AX (BS 2 (AI Gp (nm 2) (fC (.int 8))))
 (AX (Bs (J2 (Al (BI false) (nm 7) (fC (.int 7))) (Al (CH fun i j=>decide (i<j)) (nm 4) (fC (.int 4))))
  (AX (BS 8 (AI Ay (nm 5) (B5 (Cq 1) D9 (Af (AA (nm 1) (AA (AM A0 (AA (nm 1) AG)) AG))) [none,none] (B2 (AI Am (nm 3) (AI Ay (nm 4) (fC (.int 1))))))))
  (AX (Bs (Al (BI false) (AI C5 (AI Gp (nm 2) (fC (.int 40))) (fC (.int 2))) (fC (.int 1)))
   (BS 8 (AI Ay (nm 5) (B5 (Cq 1) D9 (Af (AA (nm 1) (AA (AM Ax (AA (nm 2) (AA (nm 1) AG))) AG))) [none,none,some 0] (B2 (AI Am (nm 3) (AI Ay (nm 4) (fC (.int 1))))))))
   A9)
  (AX (BS 9 (AI Am (AI Am (nm 3) (AI Ay (nm 4) (fC (.int 2)))) (AI C5 (nm 2) (AM DJ (AA (AI Am (nm 3) (AI Ay (nm 4) (fC (.int 2)))) AG)))))
  (A7 (Af (AA (AI Ay (nm 4) (fC (.int 1))) (AA (nm 8) (AA (Af (AA (nm 9) (AA (AM Ax (AA (nm 0) (AA (nm 9) AG))) AG))) AG))))))))
  A9)
 (AX (Bs (Al (BI false) (nm 7) (fC (.int 0)))
  (A7 (Af (AA (AI Am (BW (AA (AI Ay (nm 4) (fC (.int 1))) (AA (AI RQ (nm 4) (fC (.int 1))) (AA (fC (.bool true)) (AA (AM XU (AA (nm 4) AG)) (AA (VA (fC (.int 1))) (AA (fC (.int 7)) (AA (fC .none) (AA (Af (AA (nm 4) AG)) AG))))))))) (AI C5 (nm 2) (fC (.int 8)))) (AA (nm 5) (AA (nm 6) AG)))))
  A9)
 (AX (Bs (J2 (Al (CH fun i j=>decide (i<j)) (nm 7) (fC (.int 3))) (Al (BI true) (nm 5) (BW AG)))
  (A7 (Af (AA (nm 4) (AA (AM Cd (AA (nm 5) (AA (nm 2) (AA (nm 3) AG)))) (AA (nm 6) AG)))))
  A9)
 (AX (Bs (Al (BI false) (nm 7) (fC (.int 3)))
  (A7 (AI Am (BW (AA (fC .none) (AA (Af AG) (AA (BW (AA (nm 4) (AA (nm 5) (AA (nm 6) AG)))) (AA (Af (AA (nm 4) (AA (nm 5) AG))) (AA (Af (AA (nm 4) (AA (nm 5) (AA (nm 6) (AA (fC (.int 0)) AG))))) (AA (fC (.str (Str.ofString "paper"))) (AA (fC (.int 0)) (AA (fC (.bool true)) AG))))))))) (AI C5 (nm 2) (fC (.int 8)))))
  A9)
 (AX (Bs (Al (BI false) (nm 7) (fC (.int 4)))
  (A7 (Af (AA (nm 4) (AA (nm 5) (AA (AI Am (BW (AA (fC .none) (AA (AM JR (AA (nm 6) AG)) (AA (Af (AA (AI Am (nm 6) (fC (.int 0))) AG)) (AA (Af (AA (AI Am (nm 6) (fC (.int 0))) (AA (AM A0 (AA (AI Am (nm 6) (fC (.int 0))) AG)) AG))) (AA (AI Am (nm 6) (fC (.int 0))) (AA (fC (.int 0)) AG))))))) (AI C5 (nm 2) (fC (.int 6)))) AG)))))
  A9)
 (AX (Bs (Al (BI false) (nm 7) (fC (.int 5)))
  (AX (BS 9 (AI Am (AI Am (nm 3) (AI Ay (fC (.int 1)) (AI C5 (nm 2) (fC (.int 5))))) (VA (fC (.int 1)))))
  (A7 (Af (AA (nm 4) (AA (nm 5) (AA (Af (AA (nm 9) (AA (AM Ax (AA (nm 0) (AA (nm 9) AG))) AG))) AG))))))
  A9)
 (AX (BS 9 (AI Am (AI Am (nm 3) (AI Ay (nm 4) (fC (.int 1)))) (AI C5 (nm 2) (AM DJ (AA (AI Am (nm 3) (AI Ay (nm 4) (fC (.int 1)))) AG)))))
 (AX (BS 10 (AM Ax (AA (nm 0) (AA (nm 9) AG))))
 (A7 (Af (AA (nm 4) (AA (nm 5) (AA (Af (AA (nm 9) (AA (AI Am (BW (AA (nm 10) (AA (Af (AA (AI Ay (AI Am (nm 10) (fC (.int 0))) (AI Am (nm 10) (fC (.int 1)))) (AA (AI Am (nm 10) (fC (.int 1))) AG))) AG))) (AI C5 (AI Gp (nm 2) (fC (.int 20))) (fC (.int 2)))) AG))) AG))))))))))))))))
def FZ(Cd:MD)(A0:MD)(Ax:MD):MD:=CV ["_law_table_here", "_law_paper", "_law_number", "_law_trees_here"] ["_law_table_here", "_law_paper", "_law_number", "_law_trees_here", "_law_order", "_law_lines", "_law_odd", "_law_act", "_law_more", "_law_other", "_law_weight_here"] (Dp Cd A0 Ax)
def Uq{k:Nat}{Cd:MD}{A0:MD}{Ax:MD}(F:Fn K mg "_law_bent" JT ["_law_table_here", "_law_paper", "_law_number", "_law_trees_here"] f fd)
 {KJ:AD}{Jg:FuncData}(Fe:Fn K mg "_law_bent_lines" HQ ["_law_lines", "_law_number", "_law_trees_here"] KJ Jg)(HP:AV P w K mg base Ar k KJ Jg ["_law_lines", "_law_number", "_law_trees_here"] (BD Cd))
 {DP:AD}{C9:FuncData}(CN:Fn K mg "_law_true" GK ["_law_tree"] DP C9)(CZ:AV P w K mg base Ar k DP C9 ["_law_tree"] (BD A0))
 {D5:AD}{Di:FuncData}(B1:Fn K mg "_law_weight" GH ["_law_table_here", "_law_tree"] D5 Di)(CA:AV P w K mg base Ar k D5 Di ["_law_table_here", "_law_tree"] (BD Ax))(BJ:mg "len" = none)(C4:mg "list" = none)(XR:mg "str" = none) :
  AV P w K mg base Ar (k+1) f fd ["_law_table_here", "_law_paper", "_law_number", "_law_trees_here"] (BD (FZ Cd A0 Ax)):=EC F OB fun cdv A outer s H E hr=>by
 have sc:=OB;exact(AJ (U4 (AE (pv 1)) (VJ (FU rfl (Bd (A2 (i:=4) sc.nd rfl (Or.inl rfl)) (Bd (A2 (i:=5) sc.nd rfl (Or.inl rfl)) (Bd (A2 (i:=6) sc.nd rfl (Or.inl rfl)) EU))))))
 (AJ (BN (i:=7) sc.nd rfl (Or.inl rfl) (Aj DM (AE (pv 2)) AH))
 (AJ (BN (i:=2) sc.nd rfl (Or.inl rfl) (Aj Kn (AE (pv 2)) AH))
 (AJ (BV (DW.dt (QM (Aw (DR (by have:=hr.units;exact this)) (AE (pv 7)) AH (Ag _)) (Cu (Aw JU (AE (pv 4)) AH (Ag _)))))
  (AJ (BN (i:=8) sc.nd rfl (Or.inl rfl) (Aj BC (AE (pv 5)) (FH [".0", "_law_tree"] 1 [none,none] (CS (An (AE (pv 3)) (Aj BC (AE (pv 4)) AH) (fun _ _=>rfl))) (fun _ _ _ _ _=>FK) (fun _ _ _ _ _=>(AY (AB (AE (pv 1)) (AB (Ae CN CZ hr rfl (AB (AE (pv 1)) AF)) AF)))))))
  (AJ (BV (Aw (DR (by have:=hr.units;exact this)) (Aj DM (Aj Kn (AE (pv 2)) AH) AH) AH (Ag _))
   (AN (BN (i:=8) sc.nd rfl (Or.inl rfl) (Aj BC (AE (pv 5)) (FH [".0", "_law_tree", "_law_table_here"] 1 [none,none,some 0] (CS (An (AE (pv 3)) (Aj BC (AE (pv 4)) AH) (fun _ _=>rfl))) (fun _ _ _ _ _=>FK) (fun _ _ _ _ _=>(AY (AB (AE (pv 1)) (AB (Ae B1 CA hr rfl (AB (AE (pv 2)) (AB (AE (pv 1)) AF))) AF))))))))
   A6)
  (AJ (BN (i:=9) sc.nd rfl (Or.inl rfl) (An (An (AE (pv 3)) (Aj BC (AE (pv 4)) AH) (fun _ _=>rfl)) (Aj DM (AE (pv 2)) (CI DY rfl BJ aQ (AB (An (AE (pv 3)) (Aj BC (AE (pv 4)) AH) (fun _ _=>rfl)) AF))) (fun _ _=>rfl)))
  (AN (Ao (AY (AB (Aj BC (AE (pv 4)) AH) (AB (AE (pv 8)) (AB (AY (AB (AE (pv 9)) (AB (Ae B1 CA hr rfl (AB (AE (pv 0)) (AB (AE (pv 9)) AF))) AF))) AF)))))))))
  A6)
 (AJ (BV (Aw (DR (by have:=hr.units;exact this)) (AE (pv 7)) AH (Ag _))
  (AN (Ao (AY (AB (An (BG (AB (Aj BC (AE (pv 4)) AH) (AB (Aj OZ (AE (pv 4)) AH) (AB Cr (AB (G8 ic rfl XR PyProof.Rows.boot_str (AB (AE (pv 4)) AF)) (AB (Qs AH) (AB AH (AB Kw (AB (AY (AB (AE (pv 4)) AF)) AF))))))))) (Aj DM (AE (pv 2)) AH) (fun _ _=>rfl)) (AB (AE (pv 5)) (AB (AE (pv 6)) AF))))))
  A6)
 (AJ (BV (DW.dt (QM (Aw JU (AE (pv 7)) AH (Ag _)) (Cu (Aw (EE (by have:=hr.units;exact this)) (AE (pv 5)) (BG AF) (Ag _)))))
  (AN (Ao (AY (AB (AE (pv 4)) (AB (Ae Fe HP hr rfl (AB (AE (pv 5)) (AB (AE (pv 2)) (AB (AE (pv 3)) AF)))) (AB (AE (pv 6)) AF))))))
  A6)
 (AJ (BV (Aw (DR (by have:=hr.units;exact this)) (AE (pv 7)) AH (Ag _))
  (AN (Ao (An (BG (AB Kw (AB (AY AF) (AB (BG (AB (AE (pv 4)) (AB (AE (pv 5)) (AB (AE (pv 6)) AF)))) (AB (AY (AB (AE (pv 4)) (AB (AE (pv 5)) AF))) (AB (AY (AB (AE (pv 4)) (AB (AE (pv 5)) (AB (AE (pv 6)) (AB AH AF))))) (AB gE (AB AH (AB Cr AF))))))))) (Aj DM (AE (pv 2)) AH) (fun _ _=>rfl))))
  A6)
 (AJ (BV (Aw (DR (by have:=hr.units;exact this)) (AE (pv 7)) AH (Ag _))
  (AN (Ao (AY (AB (AE (pv 4)) (AB (AE (pv 5)) (AB (An (BG (AB Kw (AB (G8 Ot rfl C4 aq (AB (AE (pv 6)) AF)) (AB (AY (AB (An (AE (pv 6)) AH (fun _ _=>rfl)) AF)) (AB (AY (AB (An (AE (pv 6)) AH (fun _ _=>rfl)) (AB (Ae CN CZ hr rfl (AB (An (AE (pv 6)) AH (fun _ _=>rfl)) AF)) AF))) (AB (An (AE (pv 6)) AH (fun _ _=>rfl)) (AB AH AF))))))) (Aj DM (AE (pv 2)) AH) (fun _ _=>rfl)) AF))))))
  A6)
 (AJ (BV (Aw (DR (by have:=hr.units;exact this)) (AE (pv 7)) AH (Ag _))
  (AJ (BN (i:=9) sc.nd rfl (Or.inl rfl) (An (An (AE (pv 3)) (Aj BC AH (Aj DM (AE (pv 2)) AH)) (fun _ _=>rfl)) (Qs AH) (fun _ _=>rfl)))
  (AN (Ao (AY (AB (AE (pv 4)) (AB (AE (pv 5)) (AB (AY (AB (AE (pv 9)) (AB (Ae B1 CA hr rfl (AB (AE (pv 0)) (AB (AE (pv 9)) AF))) AF))) AF)))))))
  A6)
 (AJ (BN (i:=9) sc.nd rfl (Or.inl rfl) (An (An (AE (pv 3)) (Aj BC (AE (pv 4)) AH) (fun _ _=>rfl)) (Aj DM (AE (pv 2)) (CI DY rfl BJ aQ (AB (An (AE (pv 3)) (Aj BC (AE (pv 4)) AH) (fun _ _=>rfl)) AF))) (fun _ _=>rfl)))
 (AJ (BN (i:=10) sc.nd rfl (Or.inl rfl) (Ae B1 CA hr rfl (AB (AE (pv 0)) (AB (AE (pv 9)) AF))))
 (AN (Ao (AY (AB (AE (pv 4)) (AB (AE (pv 5)) (AB (AY (AB (AE (pv 9)) (AB (An (BG (AB (AE (pv 10)) (AB (AY (AB (Aj BC (An (AE (pv 10)) AH (fun _ _=>rfl)) (An (AE (pv 10)) AH (fun _ _=>rfl))) (AB (An (AE (pv 10)) AH (fun _ _=>rfl)) AF))) AF))) (Aj DM (Aj Kn (AE (pv 2)) AH) AH) (fun _ _=>rfl)) AF))) AF)))))))))))))))))
def JG:Av ["_law_thing", "_law_number"] ["_law_thing"] (Ab Gi):=Ct
def Jx(FF:MD):DF :=
 (AX (Bs (DX (B3 (Bh (B9 CO (nm 0)))) (Al (BI true) (AM DJ (AA (nm 0) AG)) (fC (.int 2))))
  (A7 (fC (.bool false)))
  A9)
 (AX (CM (B2 (nm 0)) (EL 1)
  (Bs (DX (B3 (Bh (B9 Bk (nm 1)))) (Bh (B9 BR (nm 1))))
   (A7 (fC (.bool false)))
   A9))
 (A7 (J5 (AI (CH fun i j=>decide (j<i)) (AI Am (nm 0) (fC (.int 1))) (fC (.int 0))) (AI (BI false) (AM FF (AA (AI Am (nm 0) (fC (.int 0))) (AA (AI Am (nm 0) (fC (.int 1))) AG))) (fC (.int 1)))))))
def CP(FF:MD):MD:=CV ["_law_thing"] ["_law_thing", "_law_number"] (Jx FF)
def NX{k:Nat}{FF:MD}(F:Fn K mg "_law_is_fraction" Gi ["_law_thing"] f fd)
 {NS:AD}{MI:FuncData}(Ea:Fn K mg "_law_shared" Hn ["_law_one", "_law_other"] NS MI)(GF:AV P w K mg base Ar k NS MI ["_law_one", "_law_other"] (BD FF))(EK:mg "bool" = none)(Hs:mg "int" = none)(AW:mg "isinstance" = none)(BJ:mg "len" = none)(Bp:mg "tuple" = none) :
  AV P w K mg base Ar (k+1) f fd ["_law_thing"] (BD (CP FF)):=EC F JG fun cdv A outer s H E hr=>by
 have sc:=JG;exact(AJ (BV (DW.dt (C7 (Cs (Cm (D3 (F4 _) rfl AW rfl Bp aU (AE (pv 0))))) (Cu (Aw (EE (by have:=hr.units;exact this)) (CI DY rfl BJ aQ (AB (AE (pv 0)) AF)) AH (Ag _)))))
  (AN (Ao Cr))
  A6)
 (AJ (Cb aI rfl (CS (AE (pv 0))) (DL (A2 (i:=1) sc.nd rfl (Or.inl rfl)))
  (AN (BV (DW.dt (C7 (Cs (Cm (D3 (M5 _) rfl AW rfl Hs PyProof.Rows.boot_int (AE (pv 1))))) (Cu (Cm (D3 (J1 _) rfl AW rfl EK bP (AE (pv 1)))))))
   (AN (Ao Cr))
   A6)))
 (AN (Ao (IW (HC Kf (An (AE (pv 0)) AH (fun _ _=>rfl)) AH (Ag _)) (Jn (HC (DR (by have:=hr.units;exact this)) (Ae Ea GF hr rfl (AB (An (AE (pv 0)) AH (fun _ _=>rfl)) (AB (An (AE (pv 0)) AH (fun _ _=>rfl)) AF))) AH (Ag _))))))))
def Ll:Av ["_law_thing", "_law_trees_here"] ["_law_thing", "_law_trees_here"] (Ab JP):=Ct
def MG(CP:MD):DF :=
 (AX (Bs (DX (B3 (Bh (B9 CO (nm 0)))) (DX (Al (BI true) (AM DJ (AA (nm 0) AG)) (fC (.int 2))) (B3 (Bh (AM CP (AA (AI Am (nm 0) (fC (.int 1))) AG))))))
  (A7 (fC (.bool false)))
  A9)
 (A7 (J5 (B9 CO (AI Am (nm 0) (fC (.int 0)))) (AI (BI true) (B5 (Cq 1) (Al (JS false) (AI Am (nm 2) (fC (.int 0))) (nm 1)) (nm 1) [none,none,some 0] (B2 (nm 1))) (BW AG)))))
def C0(CP:MD):MD:=CV ["_law_thing", "_law_trees_here"] ["_law_thing", "_law_trees_here"] (MG CP)
def Qy{k:Nat}{CP:MD}(F:Fn K mg "_law_is_line" JP ["_law_thing", "_law_trees_here"] f fd)
 {Js:AD}{JF:FuncData}(FT:Fn K mg "_law_is_fraction" Gi ["_law_thing"] Js JF)(Gy:AV P w K mg base Ar k Js JF ["_law_thing"] (BD CP))(AW:mg "isinstance" = none)(BJ:mg "len" = none)(Bp:mg "tuple" = none) :
  AV P w K mg base Ar (k+1) f fd ["_law_thing", "_law_trees_here"] (BD (C0 CP)):=EC F Ll fun cdv A outer s H E hr=>by
 have sc:=Ll;exact(AJ (BV (DW.dt (C7 (Cs (Cm (D3 (F4 _) rfl AW rfl Bp aU (AE (pv 0))))) (C7 (Aw (EE (by have:=hr.units;exact this)) (CI DY rfl BJ aQ (AB (AE (pv 0)) AF)) AH (Ag _)) (Cu (Cs (Cm (Ae FT Gy hr rfl (AB (An (AE (pv 0)) AH (fun _ _=>rfl)) AF))))))))
  (AN (Ao Cr))
  A6)
 (AN (Ao (IW (D3 (F4 _) rfl AW rfl Bp aU (An (AE (pv 0)) AH (fun _ _=>rfl))) (Jn (HC (EE (by have:=hr.units;exact this)) (FH [".0", "_law_some", "_law_thing"] 1 [none,none,some 0] (CS (AE (pv 1))) (fun _ _ _ _ _=>(Oa (Aw (Xy (by have:=hr.units;exact this)) (An (AE (pv 2)) AH (fun _ _=>rfl)) (AE (pv 1)) rfl))) (fun _ _ _ _ _=>(AE (pv 1)))) (BG AF) (Ag _)))))))
def NN:Av ["_law_table_here", "_law_paper", "_law_trees_here", "_law_order", "_law_lines", "_law_odd", "_law_due_here", "_law_many", "_law_tree", "_law_weight_here"] ["_law_table_here", "_law_paper", "_law_trees_here"] (Ab Ip):=Ct
def Cv(C0:MD)(A0:MD)(Ax:MD):DF :=
 (AX (Bs (DX (B3 (Bh (B9 CO (nm 1)))) (DX (Al (BI true) (AM DJ (AA (nm 1) AG)) (fC (.int 3))) (B3 (Bh (B9 GC (AI Am (nm 1) (fC (.int 1))))))))
  (A7 (fC (.bool false)))
  A9)
 (AX (VB (nm 1) (RF 3 4 5))
 (AX (Bs (DX (B3 (Bh (B9 Bk (nm 3)))) (DX (Bh (B9 BR (nm 3))) (DX (Al (CH fun i j=>decide (i<j)) (nm 3) (fC (.int 0))) (Al (CH fun i j=>decide (j<i)) (nm 3) (fC (.int 4))))))
  (A7 (fC (.bool false)))
  A9)
 (AX (Bs (Al (BI true) (B5 (Cq 1) (B3 (Bh (AM C0 (AA (nm 1) (AA (nm 2) AG))))) (nm 1) [none,none,some 2] (B2 (nm 4))) (BW AG))
  (A7 (fC (.bool false)))
  A9)
 (AX (BS 6 (BW AG))
 (AX (CM (Dj J8 (AA (fC (.int 1)) (AA (AI Ay (nm 3) (fC (.int 1))) AG))) (EL 7)
  (BS 6 (AI Ay (nm 6) (B5 (Cq 1) D9 (Af (AA (nm 1) (AA (AM A0 (AA (nm 1) AG)) AG))) [none,none] (B2 (AI Am (nm 2) (nm 7)))))))
 (AX (Bs (Al (BI true) (nm 4) (nm 6))
  (A7 (fC (.bool false)))
  A9)
 (AX (CM (B2 (nm 6)) (DV 8 9)
  (Bs (Al (BI true) (AM Ax (AA (nm 0) (AA (nm 8) AG))) (nm 9))
   (A7 (fC (.bool false)))
   A9))
 (AX (Bs (DX (B3 (Bh (AM C0 (AA (nm 5) (AA (nm 2) AG))))) (Al (JS true) (AI Am (nm 5) (fC (.int 0))) (AI Am (nm 2) (AI Ay (nm 3) (fC (.int 1))))))
  (A7 (fC (.bool false)))
  A9)
 (A7 (J5 (AI (BI false) (AI Am (nm 5) (fC (.int 1))) (AM Ax (AA (nm 0) (AA (AI Am (nm 5) (fC (.int 0))) AG)))) (AI (BI true) (AI Am (nm 5) (fC (.int 1))) (AM A0 (AA (AI Am (nm 5) (fC (.int 0))) AG))))))))))))))
def E3(C0:MD)(A0:MD)(Ax:MD):MD:=CV ["_law_table_here", "_law_paper", "_law_trees_here"] ["_law_table_here", "_law_paper", "_law_trees_here", "_law_order", "_law_lines", "_law_odd", "_law_due_here", "_law_many", "_law_tree", "_law_weight_here"] (Cv C0 A0 Ax)
def TK{k:Nat}{C0:MD}{A0:MD}{Ax:MD}(F:Fn K mg "_law_shows" Ip ["_law_table_here", "_law_paper", "_law_trees_here"] f fd)
 {MY:AD}{Lg:FuncData}(Ft:Fn K mg "_law_is_line" JP ["_law_thing", "_law_trees_here"] MY Lg)(HH:AV P w K mg base Ar k MY Lg ["_law_thing", "_law_trees_here"] (BD C0))
 {DP:AD}{C9:FuncData}(CN:Fn K mg "_law_true" GK ["_law_tree"] DP C9)(CZ:AV P w K mg base Ar k DP C9 ["_law_tree"] (BD A0))
 {D5:AD}{Di:FuncData}(B1:Fn K mg "_law_weight" GH ["_law_table_here", "_law_tree"] D5 Di)(CA:AV P w K mg base Ar k D5 Di ["_law_table_here", "_law_tree"] (BD Ax))(EK:mg "bool" = none)(Hs:mg "int" = none)(AW:mg "isinstance" = none)(BJ:mg "len" = none)(C4:mg "list" = none)(Bl:mg "range" = none)(Bp:mg "tuple" = none) :
  AV P w K mg base Ar (k+1) f fd ["_law_table_here", "_law_paper", "_law_trees_here"] (BD (E3 C0 A0 Ax)):=EC F NN fun cdv A outer s H E hr=>by
 have sc:=NN;exact(AJ (BV (DW.dt (C7 (Cs (Cm (D3 (F4 _) rfl AW rfl Bp aU (AE (pv 1))))) (C7 (Aw (EE (by have:=hr.units;exact this)) (CI DY rfl BJ aQ (AB (AE (pv 1)) AF)) AH (Ag _)) (Cu (Cs (Cm (D3 (M3 _) rfl AW rfl C4 aq (An (AE (pv 1)) AH (fun _ _=>rfl)))))))))
  (AN (Ao Cr))
  A6)
 (AJ (U4 (AE (pv 1)) (VJ (FU rfl (Bd (A2 (i:=3) sc.nd rfl (Or.inl rfl)) (Bd (A2 (i:=4) sc.nd rfl (Or.inl rfl)) (Bd (A2 (i:=5) sc.nd rfl (Or.inl rfl)) EU))))))
 (AJ (BV (DW.dt (C7 (Cs (Cm (D3 (M5 _) rfl AW rfl Hs PyProof.Rows.boot_int (AE (pv 3))))) (C7 (Cm (D3 (J1 _) rfl AW rfl EK bP (AE (pv 3)))) (C7 (Aw JU (AE (pv 3)) AH (Ag _)) (Cu (Aw Kf (AE (pv 3)) AH (Ag _)))))))
  (AN (Ao Cr))
  A6)
 (AJ (BV (Aw (EE (by have:=hr.units;exact this)) (FH [".0", "_law_line", "_law_trees_here"] 1 [none,none,some 2] (CS (AE (pv 4))) (fun _ _ _ _ _=>(Oa (Cs (Cm (Ae Ft HH hr rfl (AB (AE (pv 1)) (AB (AE (pv 2)) AF))))))) (fun _ _ _ _ _=>(AE (pv 1)))) (BG AF) (Ag _))
  (AN (Ao Cr))
  A6)
 (AJ (BN (i:=6) sc.nd rfl (Or.inl rfl) (BG AF))
 (AJ (Cb aI rfl (J0 rfl Bl (AB AH (AB (Aj BC (AE (pv 3)) AH) AF))) (DL (A2 (i:=7) sc.nd rfl (Or.inl rfl)))
  (AN (BN (i:=6) sc.nd rfl (Or.inl rfl) (Aj BC (AE (pv 6)) (FH [".0", "_law_tree"] 1 [none,none] (CS (An (AE (pv 2)) (AE (pv 7)) (fun _ _=>rfl))) (fun _ _ _ _ _=>FK) (fun _ _ _ _ _=>(AY (AB (AE (pv 1)) (AB (Ae CN CZ hr rfl (AB (AE (pv 1)) AF)) AF)))))))))
 (AJ (BV (Aw (EE (by have:=hr.units;exact this)) (AE (pv 4)) (AE (pv 6)) (Ag _))
  (AN (Ao Cr))
  A6)
 (AJ (Cb aI rfl (CS (AE (pv 6))) (Gs (FU rfl (Bd (A2 (i:=8) sc.nd rfl (Or.inl rfl)) (Bd (A2 (i:=9) sc.nd rfl (Or.inl rfl)) EU))))
  (AN (BV (Aw (EE (by have:=hr.units;exact this)) (Ae B1 CA hr rfl (AB (AE (pv 0)) (AB (AE (pv 8)) AF))) (AE (pv 9)) (Ag _))
   (AN (Ao Cr))
   A6)))
 (AJ (BV (DW.dt (C7 (Cs (Cm (Ae Ft HH hr rfl (AB (AE (pv 5)) (AB (AE (pv 2)) AF))))) (Cu (Aw (Y3 (by have:=hr.units;exact this)) (An (AE (pv 5)) AH (fun _ _=>rfl)) (An (AE (pv 2)) (Aj BC (AE (pv 3)) AH) (fun _ _=>rfl)) rfl))))
  (AN (Ao Cr))
  A6)
 (AN (Ao (IW (HC (DR (by have:=hr.units;exact this)) (An (AE (pv 5)) AH (fun _ _=>rfl)) (Ae B1 CA hr rfl (AB (AE (pv 0)) (AB (An (AE (pv 5)) AH (fun _ _=>rfl)) AF))) (Ag _)) (Jn (HC (EE (by have:=hr.units;exact this)) (An (AE (pv 5)) AH (fun _ _=>rfl)) (Ae CN CZ hr rfl (AB (An (AE (pv 5)) AH (fun _ _=>rfl)) AF)) (Ag _)))))))))))))))
end
def Y2:Sp:=fun vs H Q _=>∃(l:AD) (x n:Int),vs=[.ref l,.int n]∧H l=some (.lst [.int x])∧0<n∧n<2^64∧∀r y:Int,0≤r→r<n→Q (.int r) (upd H l (.lst [.int y]))
def RE(K:Fg):Sp:=fun vs H Q _=>∃(a:AD) (ns:List Int) (k:Int),vs=[.ref a,.int k]∧Bo K H a (ns.map V.int)∧0≤k∧k<1000∧∀x:Int,Q (.int x) H
def RJ:Sp:=fun vs H Q _=>∃(l:AD) (x:Int),vs=[.ref l]∧H l=some (.lst [.int x])∧∀(p:AD) (r:Rat) (y:Int) (H':Hp),Ak (upd H l (.lst [.int y])) H'→H' p=some (.tup (JO r))→r.num.natAbs≤6→r.den≤6→Q (.ref p) H'
def Yp:∀i,i<13→∀j,j<6→(Rat.divInt ((i:Nat)-6:Int) (1+(j:Nat):Int)).num.natAbs≤6∧(Rat.divInt ((i:Nat)-6:Int) (1+(j:Nat):Int)).den≤6:=by decide +kernel
def VV{i j:Int}(h1:0≤i)(h2:i<13)(h3:0≤j)(h4:j<6):(Rat.divInt (i-6) (1+j)).num.natAbs≤6∧(Rat.divInt (i-6) (1+j)).den≤6:=by
 have:=Yp i.toNat (by lia) j.toNat (by lia)
 rwa [Int.toNat_of_nonneg h1,Int.toNat_of_nonneg h3]at this
section
variable{P:Program}{w:World}{K:Fg}{mg:Str→Option VL}{base:Heap}{f g g1 g2:AD}{fd gd gd1 gd2:FuncData}
def U5:Av ["_law_pile", "_law_size", "_law_digit"] ["_law_pile", "_law_size"] (Ab Lx):=Ct
def UJ(F:Fn K mg "_law_take" Lx ["_law_pile", "_law_size"] f fd):AV P w K mg base Ar 1 f fd ["_law_pile", "_law_size"] Y2:=by
 have sc:=U5;refine F.F.ok (k:=0) sc (fun vs H Q E h=>?_) (fun cdv A outer s H vs Q E hr h=>?_)
 ·obtain⟨l,x,n,rfl,_⟩:=h
  rfl
 obtain⟨l,x,n,rfl,hl,h0,h1,q⟩:=h;refine⟨_,(BB (B7 (i:=2) sc.nd rfl (Or.inl rfl) (BL JK (EG Km (pv 0) Aq (fun _ _=>rfl)) (pv 1)))
 (BB (Qp (BL Gw (EG Km (pv 0) Aq (fun _ _=>rfl)) (pv 1)) (Uh (pv 0) Aq set_list))
 (Bt (Dh (pv 2))))),?_⟩
 refine⟨_,rfl,_,_,_,_,rfl,rfl,Bo.of hl,rfl,_,rfl,_,_,rfl,rfl,(by show n≠0;lia),?_⟩;refine⟨_,rfl,_,_,_,_,rfl,rfl,Bo.of hl,rfl,_,rfl,_,_,rfl,rfl,⟨by lia,64,by decide,by lia⟩,_,rfl,l,_,_,0,rfl,rfl,hl,rfl,_,rfl,?_⟩;exact q _ _ (bI x h0) (Int.fmod_lt_of_pos x h0)
def Ry:Av ["_law_one", "_law_other"] ["_law_one", "_law_other"] (Ab Hn):=Ct
def mh(σ:St):Nat:=match σ[1]? with|some (some (V.int l))=>l.natAbs|_=>0
def RU(F:Fn K mg "_law_shared" Hn ["_law_one", "_law_other"] f fd)(M6:mg "abs" = none):AV P w K mg base Ar 1 f fd ["_law_one", "_law_other"] P8:=by
 have sc:=Ry;refine F.F.ok (k:=0) sc (fun vs H Q E h=>?_) (fun cdv A outer s H vs Q E hr h=>?_)
 ·obtain⟨a,b,rfl,_⟩:=h
  rfl
 obtain⟨a,b,rfl,q⟩:=h;refine⟨_,(BB (Pp aI (Eu W6 (pv 1) Aq (Ag _))
  (Bt (iI (i:=0) (j:=1) rfl sc.nd rfl rfl (by decide) rfl rfl (Ad (pv 1) (Ad (BL JK (pv 0) (pv 1)) BE)) rfl)))
 (Bt (Dh (Dx QB rfl M6 PyProof.Rows.boot_abs (Ad (pv 0) BE))))),?_⟩
 refine Ua (fun σ H'=>∃g l,σ=[some (.int g),some (.int l)]∧H=H'∧Int.gcd g l=Int.gcd a b) (fun σ _=>mh σ) ⟨_,_,rfl,rfl,rfl⟩ ?_ ?_
 ·rintro σ H' ⟨g,l,rfl,rfl,hg⟩;refine⟨_,rfl,rfl,_,rfl,HS (fun c=>?_) (fun c=>?_)⟩
  ·have hl:l≠0:=fun z=>by subst z;simp at c
   refine⟨_,rfl,_,rfl,_,rfl,_,_,rfl,rfl,hl,_,_,rfl,⟨_,_,rfl,rfl,?_⟩,?_⟩
   ·rw[FM.Uo];exact hg
   ·exact FM.SN g l hl
  ·have hl:l=0:=by simpa using c
   subst hl;refine⟨_,rfl,_,rfl,?_⟩;rw[FM.dz hg];exact q
 ·exact fun σ H Q Q' hq ⟨v,e,s,k,e2,q⟩=>⟨v,e,s,k,e2,hq _ _ q⟩
def Ud:Av ["_law_top", "_law_bottom", "_law_by_here"] ["_law_top", "_law_bottom"] (Ab He):=Ct
def Um(F:Fn K mg "_law_frac" He ["_law_top", "_law_bottom"] f fd)(Ea:Fn K mg "_law_shared" Hn ["_law_one", "_law_other"] g gd)
 (GF:AV P w K mg base Ar 1 g gd ["_law_one", "_law_other"] P8):AV P w K mg base Ar 2 f fd ["_law_top", "_law_bottom"] Rj:=by
 have sc:=Ud;refine F.F.ok (k:=1) sc (fun vs H Q E h=>?_) (fun cdv A outer s H vs Q E hr h=>?_)
 ·obtain⟨t,b,m,rfl,_⟩:=h
  rfl
 obtain⟨t,b,m,rfl,hb,hm,hs,q⟩:=h;refine⟨_,(BB (B7 (i:=2) sc.nd rfl (Or.inl rfl) (Dy Ea GF hr rfl (Ad (pv 0) (Ad (pv 1) BE))))
 (BB (Ii (Eu TN (pv 1) Aq (Ag _))
  (Bt (B7 (i:=2) sc.nd rfl (Or.inl rfl) (BL Q7 Aq (pv 2))))
  Fi)
 (Bt (Dh (Qk (Ad (BL Gw (pv 0) (pv 2)) (Ad (BL Gw (pv 1) (pv 2)) BE))))))),?_⟩
 refine⟨_,rfl,_,rfl,t,b,rfl,?_⟩
 try dsimp only[FO]
 refine LL (fun σ' H'=>σ'=[some (.int t),some (.int b),some (.int (FM.gs t b))]∧H=H') (fun nx hn=>?_) ?_
 ·refine⟨_,rfl,_,_,rfl,rfl,_,rfl,HS (fun c=>?_) (fun c=>?_)⟩
  ·have c':b<0:=ab c;refine⟨_,rfl,_,_,rfl,rfl,hn _ _ ⟨?_,rfl⟩⟩;show [some (V.int t),some (V.int b),some (V.int (0-FM.gi t b))]=_;unfold FM.gs;rw[if_pos c',Int.zero_sub]
  ·have c':¬b<0:=of_decide_eq_false (Bool.eq_false_iff.mpr c);refine hn _ _ ⟨?_,rfl⟩;unfold FM.gs;rw[if_neg c']
   rfl
 ·rintro σ' H' ⟨rfl,rfl⟩;have h0:FM.gs t b≠0:=FM.cW hb;have h1:(FM.gs t b).natAbs<2^m:=aV (FM.cH hb) hs;refine⟨_,rfl,_,rfl,_,_,rfl,rfl,⟨h0,m,hm,h1⟩,_,rfl,_,rfl,_,_,rfl,rfl,⟨h0,m,hm,h1⟩,Yg,fun p hp=>?_⟩;refine q p _ (Bv hp _) ?_;rw[Au];show some (HO.tup [V.int (t.fdiv (FM.gs t b)),V.int (b.fdiv (FM.gs t b))])=_;rw[FM.UI hb,FM.Tu hb]
  rfl
def Uz:Av ["_law_script", "_law_k", "_law_cell_here", "_law_number", "_law_found", "_law_turn"] ["_law_script", "_law_k"] (Ab Er):=Ct
def Ur(F:Fn K mg "_law_cell" Er ["_law_script", "_law_k"] f fd)(BJ:mg "len" = none)(Bl:mg "range" = none):AV P w K mg base Ar 1 f fd ["_law_script", "_law_k"] (RE K):=by
 have sc:=Uz;refine F.F.ok (k:=0) sc (fun vs H Q E h=>?_) (fun cdv A outer s H vs Q E hr h=>?_)
 ·obtain⟨a,ns,k,rfl,_⟩:=h
  rfl
 obtain⟨a,ns,k,rfl,hS,h0,hk,q⟩:=h;refine⟨_,(BB (B7 (i:=2) sc.nd rfl (Or.inl rfl) Aq)
 (BB (Ii (Eu TN (pv 1) (Dx HA rfl BJ aQ (Ad (pv 0) BE)) (Ag _))
  (Bt (B7 (i:=2) sc.nd rfl (Or.inl rfl) (EG Km (pv 0) (pv 1) (fun _ _=>rfl))))
  Fi)
 (BB (Ii (Eu Xc (pv 2) (BL Q0 Aq Aq) (Ag _))
  (Bt (Dh (BL Jk (BL Q7 (pv 2) (BL Q0 Aq Aq)) (BL Q0 Aq Aq))))
  Fi)
 (BB (B7 (i:=3) sc.nd rfl (Or.inl rfl) (BL Jk (BL Fs (BL Fs (BL Fm (pv 2) Aq) (BL Fm (pv 1) Aq)) Aq) Aq))
 (BB (B7 (i:=4) sc.nd rfl (Or.inl rfl) Aq)
 (BB (Qg aI rfl (Ji rfl Bl (Ad Aq BE)) (A2 (i:=5) sc.nd rfl (Or.inl rfl))
  (BB (B7 (i:=3) sc.nd rfl (Or.inl rfl) (BL Jk (BL Fs (BL Fs (BL Fm (pv 3) (pv 3)) (BL Fm Aq (pv 5))) Aq) Aq))
  (Bt (B7 (i:=4) sc.nd rfl (Or.inl rfl) (BL Fs (BL Fm (pv 4) Aq) (BL Jk (BL Fm (pv 3) (pv 3)) Aq))))))
 (Bt (Dh (pv 4))))))))),?_⟩
 try dsimp only[FO]
 refine LL (fun σ' H'=>∃c:Int,σ'=[some (.ref a),some (.int k),some (.int c),none,none,none]∧H=H') (fun nx hn=>?_) ?_
 ·exact hn _ _ ⟨0,rfl,rfl⟩
 rintro _ _ ⟨_,rfl,rfl⟩
 try dsimp only[FO]
 refine LL (fun σ' H'=>∃c:Int,σ'=[some (.ref a),some (.int k),some (.int c),none,none,none]∧H=H') (fun nx hn=>?_) ?_
 ·refine⟨_,rfl,_,rfl,a,_,rfl,.inl hS,_,_,rfl,rfl,_,rfl,HS (fun c=>?_) (fun c=>?_)⟩
  ·have c':k<(((ns.map V.int).length:Nat):Int):=ab c;rw[List.length_map]at c';have hk:k.toNat<ns.length:=by lia
   have hat:Fy (ns.map V.int) k=some (.int ns[k.toNat]):=by
    have z:=EV (xs:=ns.map V.int) (j:=k.toNat) (v:=.int ns[k.toNat]) (by rw[List.getElem?_map,List.getElem?_eq_getElem hk];rfl)
    rwa [show((k.toNat:Nat):Int)=k by lia]at z
   exact⟨_,rfl,_,rfl,a,_,_,_,rfl,rfl,hS,hat,hn _ _ ⟨_,rfl,rfl⟩⟩
  ·exact hn _ _ ⟨_,rfl,rfl⟩
 rintro _ _ ⟨c,rfl,rfl⟩;refine⟨_,rfl,_,_,rfl,rfl,⟨by decide,by decide,by decide⟩,_,_,rfl,rfl,_,rfl,HS (fun _=>?_) (fun _=>?_)⟩
 ·exact⟨_,rfl,_,_,rfl,rfl,⟨by decide,by decide,by decide⟩,_,_,rfl,rfl,_,_,rfl,rfl,⟨by decide,by decide,by decide⟩,_,_,rfl,rfl,(by show(0:Int)<10^60;decide),q _⟩
 ·refine⟨_,rfl,_,_,rfl,rfl,mulC (by decide) (by decide),_,rfl,_,_,rfl,rfl,mulC (by decide) (by decide),_,_,rfl,rfl,_,_,rfl,rfl,_,_,rfl,rfl,(by show(0:Int)<2147483629;decide),?_⟩;have z0:0≤(c*48271+k*69621+11) % 2147483629:=bS _ (by decide);have z1:(c*48271+k*69621+11) % 2147483629<2147483629:=bJ _ (by decide);refine⟨8,rfl,by decide,by decide,Sg (n:=8) (fun _ σ H'=>∃(m fo:Int) (jj:Option V),σ=[some (.ref a),some (.int k),some (.int c),some (.int m),some (.int fo),jj]∧0≤m∧m<2147483629∧H=H') ⟨(c*48271+k*69621+11) % 2147483629,0,none,rfl,z0,z1,rfl⟩ ?_ ?_⟩
  ·rintro i σ H' hi ⟨m,fo,jj,rfl,m0,m1,rfl⟩;refine⟨_,rfl,_,rfl,_,_,rfl,rfl,mulC (by lia) (by lia),_,rfl,_,_,rfl,rfl,mulL (by decide) (by decide),_,_,rfl,rfl,_,_,rfl,rfl,_,_,rfl,rfl,(by show(0:Int)<2147483587;decide),?_⟩;have y0:0≤(m*m+69621*(0+(i:Nat))+7) % 2147483587:=bS _ (by decide);have y1:(m*m+69621*(0+(i:Nat))+7) % 2147483587<2147483587:=bJ _ (by decide);exact⟨_,rfl,_,_,rfl,rfl,mulC (by decide) (by decide),_,rfl,_,rfl,((m*m+69621*(0+(i:Nat))+7) % 2147483587:Int),((m*m+69621*(0+(i:Nat))+7) % 2147483587:Int),rfl,rfl,mulC (by lia) (by lia),_,_,rfl,rfl,(by show(0:Int)<2147483563;decide),_,_,rfl,rfl,_,_,_,rfl,y0,by lia,rfl⟩
  ·rintro σ H' ⟨m,fo,jj,rfl,m0,m1,rfl⟩;exact⟨_,rfl,q _⟩
def Tt:Av ["_law_pile", "_law_top"] ["_law_pile"] (Ab Ja):=Ct
def VE(F:Fn K mg "_law_part" Ja ["_law_pile"] f fd)(Hh:Fn K mg "_law_take" Lx ["_law_pile", "_law_size"] g1 gd1)(Dl:Fn K mg "_law_frac" He ["_law_top", "_law_bottom"] g2 gd2)
 (O7:AV P w K mg base Ar 2 g1 gd1 ["_law_pile", "_law_size"] Y2)(Es:AV P w K mg base Ar 2 g2 gd2 ["_law_top", "_law_bottom"] Rj):AV P w K mg base Ar 3 f fd ["_law_pile"] RJ:=by
 have sc:=Tt;refine F.F.ok (k:=2) sc (fun vs H Q E h=>?_) (fun cdv A outer s H vs Q E hr h=>?_)
 ·obtain⟨l,x,rfl,_⟩:=h
  rfl
 obtain⟨l,x,rfl,hl,q⟩:=h;refine⟨_,(BB (B7 (i:=1) sc.nd rfl (Or.inl rfl) (BL Q7 (Dy Hh O7 hr rfl (Ad (pv 0) (Ad Aq BE))) Aq))
 (Bt (Dh (Dy Dl Es hr rfl (Ad (pv 1) (Ad (BL Fs Aq (Dy Hh O7 hr rfl (Ad (pv 0) (Ad Aq BE)))) BE)))))),?_⟩
 refine⟨_,rfl,l,x,13,rfl,hl,by decide,by decide,fun i y i0 i1=>⟨_,_,rfl,rfl,?_⟩⟩;refine⟨_,rfl,_,rfl,l,y,6,rfl,Au,by decide,by decide,fun j z j0 j1=>⟨_,_,rfl,rfl,?_⟩⟩;have hd:=VV i0 i1 j0 j1;refine⟨i-6,1+j,8,rfl,by lia,by decide,by lia,fun p H' e hp=>?_⟩;refine q p _ z H' (fun b o hb=>e _ _ ?_) hp hd.1 hd.2;by_cases hbl:b=l
 ·subst hbl;rw[Au]at hb ⊢;exact hb
 ·rw[AZ hbl]at hb;rw[AZ hbl,AZ hbl];exact hb
end
mutual
def QX{H:Hp}:∀ {d:PD} {v:V},d.canLay0=true→Du H d v→DU H d v
 |.none,_,_,h=>by rw[Du]at h;subst h;exact .CT
 |.bool _,_,_,h=>by rw[Du]at h;subst h;exact .bool
 |.int _,_,_,h=>by rw[Du]at h;subst h;exact .int
 |.str _,_,_,h=>by rw[Du]at h;subst h;exact .str
 |.tuple _,_,c,h=>by
  rw[Du]at h;obtain⟨a,xs,rfl,h1,h2⟩:=h;exact .tup h1 (RD (by simpa only[PyData.canLay0]using c) h2)
 |.list _,_,c,h=>by
  rw[Du]at h;obtain⟨a,xs,rfl,h1,h2⟩:=h;exact .lst h1 (RD (by simpa only[PyData.canLay0]using c) h2)
 |.dict _,_,c,h=>by simp[PyData.canLay0]at c
def RD{H:Hp}:∀ {ds:List PD} {xs:List V},PyData.canLayAll0 ds=true→BQ H ds xs→C3 H ds xs
 |[],_,_,h=>by rw[h.nil_eq];exact .nil
 |_::_,_,c,h=>by
  obtain⟨x,r,rfl,h1,h2⟩:=h.un;simp only[PyData.canLayAll0,Bool.and_eq_true]at c;exact .cons (QX c.1 h1) (RD c.2 h2)
end
mutual
def cz{l:AD}{H:Hp}:∀ {d:PD} {v:V},Dt l H d v→Du H d v
 |.none,_,h=>by rw[Dt]at h;rw[Du];exact h
 |.bool _,_,h=>by rw[Dt]at h;rw[Du];exact h
 |.int _,_,h=>by rw[Dt]at h;rw[Du];exact h
 |.str _,_,h=>by rw[Dt]at h;rw[Du];exact h
 |.tuple _,_,h=>by
  rw[Dt]at h;rw[Du];obtain⟨a,xs,rfl,n,h1,h2⟩:=h;exact⟨a,xs,rfl,h1,Ru h2⟩
 |.list _,_,h=>by
  rw[Dt]at h;rw[Du];obtain⟨a,xs,rfl,n,h1,h2⟩:=h;exact⟨a,xs,rfl,h1,Ru h2⟩
 |.dict _,_,h=>by rw[Dt]at h;exact h.elim
def Ru{l:AD}{H:Hp}:∀ {ds:List PD} {xs:List V},BO l H ds xs→BQ H ds xs
 |[],_,h=>by rw[BO]at h;subst h;exact .nil
 |_::_,_,h=>by
  rw[BO]at h;obtain⟨x,r,rfl,h1,h2⟩:=h;exact .cons (cz h1) (Ru h2)
end
def DU.du{H:Hp}{d:PD}{v:V}(h:DU H d v):Du H d v:=let⟨N,k⟩:=h;cz (k N (aG _))
def W8{G H H':Hp}{l:AD}{vs:List V}{ds:List PD}(e0:Ak G H)(e:Ak H H')(hl:H' l=some (.tup vs))(d:BQ G ds vs):∃G',Ak G G'∧Nw G H G'∧Ak G' H'∧Du G' (.tuple ds) (.ref l):=by
 have e1:Ak G (upd G l (.tup vs)):=fun a o h=>by
  by_cases ha:a=l
  ·subst ha;have:=e _ _ (e0 _ _ h);rw[hl]at this;rw[Au];exact this
  ·rw[AZ ha];exact h
 refine⟨upd G l (.tup vs),e1,fun a u h=>?_,fun a u h=>?_,?_⟩
 ·by_cases ha:a=l
  ·subst ha;rw[Au]at h;cases h;exact .inr (.inr ⟨_,rfl⟩)
  ·rw[AZ ha]at h;exact .inl h
 ·by_cases ha:a=l
  ·subst ha;rw[Au]at h;rw[hl];exact h
  ·rw[AZ ha]at h;exact e _ _ (e0 _ _ h)
 ·rw[Du];exact⟨l,vs,rfl,Au,d.same e1⟩
def M1{G:Hp}:∀ps:List Int,BQ G (ps.map .int) (ps.map V.int)
 |[]=>.nil
 |p::ps=>.cons (by rw[Du]) (M1 ps)
section
variable{P:Program}{w:World}{K:Fg}{mg:Str→Option VL}{base:Heap}{CX:JE}{k:Nat}{f:AD}{fd:FuncData}{ps:List Str}
def mB(q:PD→Bool):MD
 |[d]=>if d.canLay0=true then some (.bool (q d)) else none
 |_=>none
def jN{q:PD→Bool}{d:PD}(h:d.canLay0=true):mB q [d]=some (.bool (q d)):=if_pos h
def mN{sp:Sp}{q:PD→Bool}(F:AV P w K mg base CX k f fd ps sp)(h:∀(l:AD) d v H Q E,Dt l H d v→(∀H',Ak H H'→Q (.bl (q d)) H')→sp [v] H Q E):AV P w K mg base CX k f fd ps (BD (mB q)) :=
 MH F fun ds x hm G H vs Q E d e kk=>by
  unfold mB at hm;split at hm
  ·split at hm
   ·rename_i dd hc;cases hm;obtain⟨v,rfl,d1⟩:=d.Ib;obtain⟨N,b⟩:=QX hc (d1.same e);exact h N _ v H Q E (b N (aG _)) fun H' e'=>kk _ G H' (.refl _) Nw.refl (e.trans e') e' (by rw[Du])
   ·cases hm
  ·cases hm
end
def Uk:∀ps:List Int,PyData.canLayAll0 (ps.map .int)=true
 |[]=>by simp[PyData.canLayAll0]
 |p::ps=>by rw[List.map_cons];simp only[PyData.canLayAll0,PyData.canLay0];rw[Uk ps];rfl
def YW{ds:List PD}(h:∀d∈ds,d.canLay0=true):PyData.canLayAll0 ds=true:=by
 induction ds with
 |nil=>simp[PyData.canLayAll0]
 |cons d ds ih=>simp only[PyData.canLayAll0];rw[h d (.head _),ih fun e he=>h e (.tail _ he)];rfl
def jZ{ds:List PD}(h:∀d∈ds,d.canLay0=true):(PyData.tuple ds).canLay0=true:=by simp only[PyData.canLay0];exact YW h
def OV:PD→Rat
 |.tuple [.int a,.int b]=>Rat.divInt a b
 |_=>0
def Mq(r:Rat):OV (AK r)=r:=FM.En r
def MQ(r:Rat):(AK r).canLay0=true:=by unfold AK;simp only[PyData.canLay0];exact Uk [r.num,(r.den:Int)]
section
variable{P:Program}{w:World}{K:Fg}{mg:Str→Option VL}{base:Heap}{CX:JE}{k:Nat}{f:AD}{fd:FuncData}{ps:List Str}
def ZA(ds:List PD):Option PD:=match ds with
 |[.int t,.int b]=>if b≠0∧b.natAbs<2^400 then some (AK (Rat.divInt t b)) else none
 |_=>none
def lC(F:AV P w K mg base CX k f fd ps Rj):AV P w K mg base CX k f fd ps (BD ZA) :=
 MH F fun ds x hm G H vs Q E d e kk=>by
  unfold ZA at hm;split at hm
  ·split at hm
   ·rename_i hh;cases hm;obtain⟨v1,v2,rfl,d1,d2⟩:=d.PK;rw[Du]at d1 d2;subst d1 d2;refine⟨_,_,400,rfl,hh.1,by decide,hh.2,fun l H' e' hl'=>?_⟩;obtain⟨G',n1,n2,n3,n4⟩:=W8 e e' hl' (M1 [(Rat.divInt _ _).num,((Rat.divInt _ _).den:Int)]);exact kk _ G' H' n1 n2 n3 e' n4
   ·cases hm
  ·cases hm
end
def Tz{n:Nat}{ds:List PD}(h:∀d∈ds,Ok n d):Wj n ds:=by
 induction ds with
 |nil=>exact⟨by simp[PyData.canLayAll0],by simp[PyData.depthAll]⟩
 |cons d ds ih =>
  obtain⟨a,b⟩:=h d (.head _);obtain⟨a',b'⟩:=ih fun e he=>h e (.tail _ he);exact⟨by simp only[PyData.canLayAll0];rw[a,a'];rfl,by simp only[PyData.depthAll];lia⟩
def L4{n:Nat}{ds:List PD}(h:∀d∈ds,Ok n d):Ok (n+1) (.list ds):=.lst (Tz h)
def Lv{n:Nat}{ds:List PD}(h:∀d∈ds,Ok n d):Ok (n+1) (.tuple ds):=.tup (Tz h)
def Gf(r:Rat):Ok 1 (AK r):=Lv (n:=0) fun d hd=>by
 rcases aJ.mp hd with rfl|hd
 ·exact .int
 ·rw[List.mem_singleton.mp hd];exact .int
def ne_self{x:PD}{n:Nat}(h:Ok n x)(hn:n≤64):BI true x x=some (.bool false):=by
 refine(if_pos ⟨h.shaped hn,h.shaped hn⟩).trans ?_;rw[Hu x h.1];rfl
def Zn{x:PD}{n:Nat}(h:Ok n x)(hn:n≤64):BI false x x=some (.bool true):=by
 refine(if_pos ⟨h.shaped hn,h.shaped hn⟩).trans ?_;rw[Hu x h.1];rfl
def Ko(x y:Int):BI false (.int x) (.int y)=some (.bool (decide (x=y))):=by
 have h:SeqAt.shaped (.int x)=true∧SeqAt.shaped (.int y)=true:=⟨(Ok.int (n:=0)).shaped (by decide),(Ok.int (n:=0)).shaped (by decide)⟩;refine(if_pos h).trans ?_;simp[PyData.eqv];exact Bool.eq_iff_iff.mpr (by simp)
def UK{i j:Int}{n:Nat}(h1:i.natAbs<2^n)(h2:j.natAbs<2^n)(hn:n≤9000):Dk (.int i) (.int j)=some (.int (i*j)):=Ut (by
 unfold Mp;rw[OA (n:=9000) (aK h1 (ai (by decide) hn)),OA (n:=9000) (aK h2 (ai (by decide) hn))];simp)
def div_is{i j:Int}(h:0<j)(h2:j.natAbs<2^64):Gp (.int i) (.int j)=some (.int (i / j)):=by
 refine(if_pos ⟨by lia,OA (aK h2 (ai (by decide) (by decide)))⟩).trans ?_;rw[Int.fdiv_eq_ediv_of_nonneg _ (by lia)]
def YR{t b:Int}(h:b≠0)(h2:b.natAbs<2^400):ZA [.int t,.int b]=some (AK (Rat.divInt t b)):=if_pos ⟨h,h2⟩
def Et:∀ts:List Tr,L2.BK (Tr.of ts)=ts.map fun t=>.tuple (L2.BK t)
 |[]=>rfl
 |t::ts=>by rw[List.map_cons,←Et ts];rfl
abbrev tD(t:Tr):PD:=.tuple (L2.BK t)
def Ws(n:Nat):((60:Int)^n)≠0:=Int.pow_ne_zero (by decide)
def FR(m:Int)(c:Nat)(q:Rat):Prop:=∃a:Int,q=Rat.divInt a m∧a.natAbs≤c
def FR.mono{m:Int}{c d:Nat}{q:Rat}(h:FR m c q)(l:c≤d:=by decide):FR m d q:=let⟨a,e,k⟩:=h;⟨a,e,Nat.le_trans k l⟩
def FR.add{m:Int}{c d:Nat}{p q:Rat}(hm:m≠0)(h:FR m c p)(k:FR m d q):FR m (c+d) (p+q):=by
 obtain⟨a,rfl,h1⟩:=h;obtain⟨b,rfl,h2⟩:=k;exact⟨a+b,by rw[Rat.divInt_add_divInt _ _ hm hm,←Int.add_mul,Rat.divInt_mul_right hm],by lia⟩
def FR.mul{m n:Int}{c d:Nat}{p q:Rat}(h:FR m c p)(k:FR n d q):FR (m*n) (c*d) (p*q):=by
 obtain⟨a,rfl,h1⟩:=h;obtain⟨b,rfl,h2⟩:=k;exact⟨a*b,by rw[Rat.divInt_mul_divInt],by rw[Int.natAbs_mul];exact Nat.mul_le_mul h1 h2⟩
def FR.zero{m:Int}{c:Nat}:FR m c 0:=⟨0,by rw[Rat.zero_divInt],by simp⟩
def FR.fits{m:Int}{c n:Nat}{q:Rat}(hm:m≠0)(h:FR m c q)(h1:c<2^n)(h2:m.natAbs<2^n):FM.Fits q n:=by
 obtain⟨a,rfl,h3⟩:=h;exact .Ye hm (aV h3 h1) h2
def ME(r:Rat):Prop:=FM.Fits r 3∧r.den≤6
def N7(l:AD)(Hb:Hp)(i:Nat)(ys:List V)(H':Hp):Prop:=SameBut l Hb H'∧(∃y,H' l=some (.lst [.int y]))∧ys.length=i∧∃rs:List Rat,rs.length=i∧(∀r∈rs,ME r)∧C3 H' (BH rs) ys
def Uy{l D:AD}{Hb:Hp}{y:Int}(hl:Hb l=some (.lst [.int y]))(hD:Hb D=none):N7 l Hb 0 [] (upd Hb D (.lst [])):=⟨.of (Bv hD _),⟨y,Bv hD _ _ _ hl⟩,rfl,[],rfl,fun _ z=>(List.not_mem_nil z).elim,.nil⟩
def PN{l D p:AD}{Hb H1 H2:Hp}{yb y2:Int}{i:Nat}{ys:List V}{r:Rat}(hl:Hb l=some (.lst [.int yb]))(hD:Hb D=none)(d:N7 l Hb i ys H1)(hD1:H1 D=some (.lst ys))(e2:Ak (upd H1 l (.lst [.int y2])) H2)(hp:H2 p=some (.tup (JO r)))(h6:r.num.natAbs≤6)(h7:r.den≤6) :
  H2 D=some (.lst ys)∧N7 l Hb (i+1) (ys++[.ref p]) (upd H2 D (.lst (ys++[.ref p]))):=by
 obtain⟨e1,⟨y1,hl1⟩,hyl,rs,hrl,hrs,dr⟩:=d;have nl:l≠D:=A8 hl hD;have hl2:H2 l=some (.lst [.int y2]):=e2 _ _ Au;have e12:SameBut l H1 H2:=SameBut.upd.trans (.of e2);have hD2:=e12 _ _ nl.symm hD1;have d2:C3 H2 (BH (rs++[r])) (ys++[.ref p]):=by
  rw[Yc];exact(Gg hl1 e12 dr).app (.cons (Tq hp) .nil)
 refine⟨hD2,fun b o nb z=>?_,⟨y2,by rw[AZ nl];exact hl2⟩,by simp[hyl],rs++[r],by simp[hrl],fun x hx=>?_,Gg hD2 .upd d2⟩
 ·rw[AZ (A8 z hD)];exact e12 _ _ nb (e1 _ _ nb z)
 ·rcases aX.mp hx with hx|hx
  ·exact hrs x hx
  ·rw[List.mem_singleton.mp hx];exact⟨⟨aV h6 (by decide),Nat.lt_of_le_of_lt h7 (by decide)⟩,h7⟩
def U9(K:Fg):Sp:=fun vs H Q _=>∃(a:AD) (ns:List Int),vs=[.ref a,.int 1,.int 4]∧Bo K H a (ns.map V.int)∧∀v H' t,Ak H H'→DU H' (AQ t) v→t.Ok 4→(∀r∈t.rs,∀q∈r,ME q)→(∀q∈t.ls,ME q)→Q v H'
section
variable{P:Program}{w:World}{K:Fg}{mg:Str→Option VL}{base:Heap}{f g1 g2:AD}{fd gd1 gd2:FuncData}
def TF:Av ["_law_script", "_law_start", "_law_most", "_law_size", "_law_rows", "_law_k", "_law_pile"] ["_law_script", "_law_start", "_law_most"] (Ab LH):=Ct
def RK(F:Fn K mg "_law_table" LH ["_law_script", "_law_start", "_law_most"] f fd)(Ca:Fn K mg "_law_cell" Er ["_law_script", "_law_k"] g1 gd1)(Eo:Fn K mg "_law_part" Ja ["_law_pile"] g2 gd2)
 (DN:AV P w K mg base Ar 3 g1 gd1 ["_law_script", "_law_k"] (RE K))(JZ:AV P w K mg base Ar 3 g2 gd2 ["_law_pile"] RJ)(Bl:mg "range" = none):AV P w K mg base Ar 4 f fd ["_law_script", "_law_start", "_law_most"] (U9 K):=by
 have sc:=TF;refine F.F.ok (k:=3) sc (fun vs H Q E h=>?_) (fun cdv A outer s H vs Q E hr h=>?_)
 ·obtain⟨a,ns,rfl,_⟩:=h
  rfl
 obtain⟨a,ns,rfl,hS,q⟩:=h;refine⟨_,(BB (B7 (i:=3) sc.nd rfl (Or.inl rfl) (BL Fs Aq (BL JK (Dy Ca DN hr rfl (Ad (pv 0) (Ad (pv 1) BE))) (pv 2))))
 (BB (B7 (i:=4) sc.nd rfl (Or.inl rfl) (MZ BE))
 (BB (Qg aI rfl (Ji rfl Bl (Ad (pv 3) BE)) (A2 (i:=5) sc.nd rfl (Or.inl rfl))
  (BB (B7 (i:=6) sc.nd rfl (Or.inr rfl) (MZ (Ad (Dy Ca DN hr rfl (Ad (pv 0) (Ad (BL Fs (BL Fs (pv 1) Aq) (pv 5)) BE))) BE)))
  (Bt (Fv (JX aY ax ay Fx (pv 4) (Ad (K9 [".0", "_law_j", "_law_pile"] 1 [none,none,some 6] (Ji rfl Bl (Ad (pv 5) BE)) (fun _ _ _ _ _=>L8) (fun _ _ _ _ _=>(Dy Eo JZ hr rfl (Ad (pv 2) BE)))) BE))))))
 (BB (B7 (i:=6) sc.nd rfl (Or.inr rfl) (MZ (Ad (Dy Ca DN hr rfl (Ad (pv 0) (Ad (BL Fs (BL Fs (pv 1) Aq) (pv 2)) BE))) BE)))
 (Bt (Dh (Qk (Ad (pv 4) (Ad (K9 [".0", "_law_j", "_law_pile"] 1 [none,none,some 6] (Ji rfl Bl (Ad (pv 3) BE)) (fun _ _ _ _ _=>L8) (fun _ _ _ _ _=>(Dy Eo JZ hr rfl (Ad (pv 2) BE)))) BE))))))))),?_⟩
 refine⟨_,rfl,_,rfl,a,ns,1,rfl,hS,by decide,by decide,fun x0=>⟨_,rfl,_,_,rfl,rfl,(by decide:(4:Int)≠0),_,_,rfl,rfl,?_⟩⟩;obtain⟨size,hs1,hs4,es⟩:∃size:Nat,1≤size∧size≤4∧1+x0.fmod 4=(size:Int):=by
  have e:=Int.fmod_eq_emod_of_nonneg x0 (show(0:Int)≤4 by decide);exact⟨(1+x0.fmod 4).toNat,by lia,by lia,by lia⟩
 rw[show((fun i j:Int=>V.int (i+j)) 1 (x0.fmod 4))=V.int (size:Int) from aj V.int es];refine⟨TR (show 0≤60 by decide),fun R hR=>?_⟩;have e1:=Bv hR (.lst []);have hR1:upd H R (.lst []) R=some (.lst []):=Au;generalize upd H R (.lst [])=H1 at e1 hR1;refine⟨_,rfl,(size:Int),rfl,by lia,by lia,Sg (n:=(size:Int).toNat) (fun i σ H'=>∃(r5 r6:Option V) (rs:List (List Rat)) (xs:List V),σ=[some (.ref a),some (.int 1),some (.int 4),some (.int (size:Int)),some (.ref R),r5,r6]∧Ak H H'∧H' R=some (.lst xs)∧BO R H' (Bx rs) xs∧rs.length=i∧(∀(j:Nat) r,rs[j]? = some r→r.length=j)∧∀r∈rs,∀q∈r,ME q) ?_ ?_ ?_⟩
 ·exact⟨_,_,[],[],rfl,e1,hR1,.nil,rfl,fun j r z=>by simp at z,fun _ z=>(List.not_mem_nil z).elim⟩
 ·rintro i σ H2 hi ⟨r5,r6,rs,xs,rfl,e2,hR2,dx,hrl,hrj,hrf⟩;refine⟨_,rfl,_,rfl,_,_,rfl,rfl,_,rfl,_,_,rfl,rfl,a,ns,_,rfl,e2.seq hS,by lia,by lia,fun cell=>⟨TR (show 1≤60 by decide),fun l hl=>?_⟩⟩;have e3:=Bv hl (.lst [.int cell]);have hl3:upd H2 l (.lst [.int cell]) l=some (.lst [.int cell]):=Au;generalize upd H2 l (.lst [.int cell])=H3 at e3 hl3;have hxl:xs.length=i:=by rw[dx.len,K8,hrl]
  refine⟨_,rfl,.inl ⟨rfl,_,Bo.of (e3 _ _ hR2)⟩,_,rfl,0+(i:Int),rfl,by lia,by lia,fun D hD=>MM (n:=(0+(i:Int)).toNat) (N7 l H3) (Uy hl3 hD) ?_ ?_⟩
  ·rintro j ys H4 hj d hD4;refine⟨hj,Zh (n:=60) (by rw[d.2.2.1];lia) (by decide),fun x H' y=>?_⟩;obtain⟨rfl,rfl⟩:=y;obtain⟨y1,hl1⟩:=d.2.1;unfold Qq;refine Rf ⟨_,rfl,l,y1,rfl,hl1,fun p r y2 H5 e5 hp r6 r7=>?_⟩;obtain⟨k1,k2⟩:=PN hl3 hD d hD4 e5 hp r6 r7;exact⟨k1,Kh hj k2⟩
  ·rintro ys H4 ⟨e4,_,hyl,qs,hql,hqs,dq⟩ hD4;have E4:Ak H2 H4:=fun b o z=>e4 _ _ (A8 z hl) (e3 _ _ z);have hR4:=E4 _ _ hR2;have nD:D≠R:=fun z=>by subst z;rw[e3 _ _ hR2]at hD;cases hD
   refine⟨aG _,R,xs,_,rfl,rfl,hR4,Zh (n:=60) (by lia) (by decide),?_⟩;have u:SameBut R H4 (upd H4 R (.lst (xs++[.ref D]))):=.upd;refine⟨_,_,rs++[qs],xs++[.ref D],rfl,fun b o z=>?_,Au,?_,by simp[hrl],fun j r hr=>?_,fun r hr=>?_⟩
   ·rw[AZ (A8 z hR)];exact E4 _ _ (e2 _ _ z)
   ·rw[Bx,List.map_append];exact .but u ((dx.same E4).app (.cons (gI hR4 nD hD4 dq) .nil))
   ·by_cases z:j<rs.length
    ·rw[List.getElem?_append_left z]at hr;exact hrj j r hr
    ·rw[List.getElem?_append_right (by lia)]at hr;have:=(aF.mp hr).1;rw[List.length_singleton]at this;rw[show j-rs.length=0 by lia]at hr;cases hr
     lia
   ·rcases aX.mp hr with hr|hr
    ·exact hrf r hr
    ·rw[List.mem_singleton.mp hr];exact hqs
 ·rintro σ H2 ⟨r5,r6,rs,xs,rfl,e2,hR2,dx,hrl,hrj,hrf⟩;refine⟨_,rfl,_,rfl,_,_,rfl,rfl,_,rfl,_,_,rfl,rfl,a,ns,_,rfl,e2.seq hS,by decide,by decide,fun cell=>⟨TR (show 1≤60 by decide),fun l hl=>?_⟩⟩;have e3:=Bv hl (.lst [.int cell]);have hl3:upd H2 l (.lst [.int cell]) l=some (.lst [.int cell]):=Au;generalize upd H2 l (.lst [.int cell])=H3 at e3 hl3;refine⟨_,rfl,_,rfl,(size:Int),rfl,by lia,by lia,fun D hD=>MM (n:=(size:Int).toNat) (N7 l H3) (Uy hl3 hD) ?_ ?_⟩
  ·rintro j ys H4 hj d hD4;refine⟨hj,Zh (n:=60) (by rw[d.2.2.1];lia) (by decide),fun x H' y=>?_⟩;obtain⟨rfl,rfl⟩:=y;obtain⟨y1,hl1⟩:=d.2.1;unfold Qq;refine Rf ⟨_,rfl,l,y1,rfl,hl1,fun p r y2 H5 e5 hp r6 r7=>?_⟩;obtain⟨k1,k2⟩:=PN hl3 hD d hD4 e5 hp r6 r7;exact⟨k1,Kh hj k2⟩
  ·rintro ys H4 ⟨e4,_,hyl,qs,hql,hqs,dq⟩ hD4;have E4:Ak H2 H4:=fun b o z=>e4 _ _ (A8 z hl) (e3 _ _ z);refine⟨aG _,TR (show 2≤60 by decide),fun t0 ht=>?_⟩;have e5:=Bv ht (.tup [V.ref R,V.ref D]);have h5:upd H4 t0 (.tup [V.ref R,V.ref D]) t0=some (.tup [V.ref R,V.ref D]):=Au;generalize upd H4 t0 (.tup [V.ref R,V.ref D])=H5 at e5 h5;exact q _ H5 ⟨rs,qs⟩ (e2.trans (E4.trans e5)) (X3 h5 (e5 _ _ (E4 _ _ hR2)) ((LK dx).same (E4.trans e5)) (e5 _ _ hD4) (dq.same e5)) ⟨by show 1≤rs.length;lia,by show rs.length≤4;lia,by show qs.length=rs.length;lia,hrj⟩ hrf hqs
end
def Tb.Sm(t:Tb):Prop:=(∀r∈t.rs,∀q∈r,ME q)∧∀q∈t.ls,ME q
def gP(H H':Hp)(v:V):Prop:=∃(p R L:AD) (xs:List V),v=.ref p∧H' p=some (.tup [.ref R,.ref L])∧H' R=some (.lst xs)∧H R=none∧H L=none∧∀b,V.ref b∈xs→H b=none
def q0:Rat:=⟨0,1,by decide,by decide⟩
def q1:Rat:=⟨1,1,by decide,by decide⟩
def Vl:Rat:=⟨1,2,by decide,by decide⟩
def fT:Rat:=⟨1,3,by decide,by decide⟩
def kJ:Rat:=⟨2,3,by decide,by decide⟩
def md:Rat:=⟨1,4,by decide,by decide⟩
def mG:Rat:=⟨3,4,by decide,by decide⟩
def cI:Rat:=⟨1,6,by decide,by decide⟩
def mH:Tb:=⟨[[]],[q1]⟩
def mJ:Tb:=⟨[[],[Vl]],[q0,q1]⟩
def mU:Tb:=⟨[[],[q1]],[Vl,Vl]⟩
def mY:Tb:=⟨[[],[fT],[q0,kJ]],[md,q0,mG]⟩
def mf:Tb:=⟨[[],[Vl],[q0,Vl],[q0,q0,q1]],[cI,fT,fT,cI]⟩
instance (r:Rat):Decidable (ME r):=inferInstanceAs (Decidable ((r.num.natAbs<2^3∧r.den<2^3)∧r.den≤6))
def Zb(t:Tb):Bool:=decide (1≤t.rs.length)&&decide (t.rs.length≤4)&&decide (t.ls.length=t.rs.length)&&(List.range 4).all (fun i=>match t.rs[i]? with|some r=>decide (r.length=i)|none=>true)&&t.rs.all (fun r=>r.all fun q=>decide (ME q))&&t.ls.all fun q=>decide (ME q)
def dM{t:Tb}(h:Zb t=true):t.Ok 4∧t.Sm:=by
 unfold Zb at h;simp only[Bool.and_eq_true,decide_eq_true_eq,List.all_eq_true,List.mem_range]at h;obtain⟨⟨⟨⟨⟨h1,h2⟩,h3⟩,h4⟩,h5⟩,h6⟩:=h;refine⟨⟨h1,h2,h3,fun i r hr=>?_⟩,h5,h6⟩;have:=h4 i (by have:=(aF.mp hr).1;lia);rw[hr]at this
 simpa using this
def dn(t:Tb):(AQ t).canLay0=true:=by
 have f:∀r:List Rat,PyData.canLayAll0 (BH r)=true:=fun r=>by
  induction r with
  |nil=>rfl
  |cons q r ih=>show PyData.canLayAll0 (AK q::BH r)=true;simp[PyData.canLayAll0,ih,AK,PyData.canLay0]
 have g:∀rs:List (List Rat),PyData.canLayAll0 (Bx rs)=true:=fun rs=>by
  induction rs with
  |nil=>rfl
  |cons r rs ih=>show PyData.canLayAll0 (BK r::Bx rs)=true;simp[PyData.canLayAll0,ih,BK,PyData.canLay0,f]
 simp[AQ,PyData.canLay0,PyData.canLayAll0,f,g]
def Tc{G H:Hp}(n:∀a xs,G a=some (.lst xs)→H a=none):∀ {rs:List (List Rat)} {xs:List V},BQ G (Bx rs) xs→∀b,V.ref b∈xs→H b=none
 |[],xs,h,b,hb=>by
  have:=h.len;have e:xs=[]:=bM (by simpa[Bx]using this);rw[e]at hb;cases hb
 |r::rs,xs,h,b,hb=>by
  obtain⟨x,t,rfl,h1,h2⟩:=BQ.un (d:=BK r) (ds:=Bx rs) h;rw[BK,Du]at h1;obtain⟨a,ys,rfl,h3,_⟩:=h1;rcases aJ.mp hb with e|hb
  ·cases e;exact n _ _ h3
  ·exact Tc n h2 b hb
structure Gv(H:Hp)(t:Tb)(R L:Addr)(xs ys:List V):Prop where
 R:H R=some (.lst xs)
 L:H L=some (.lst ys)
 lx:xs.length=t.rs.length
 row:∀(i:Nat) r,t.rs[i]? = some r→∃a zs,xs[i]? = some (.ref a)∧H a=some (.lst zs)∧C3 H (BH r) zs
 ls:C3 H (BH t.ls) ys
def Gv.same{H H':Hp}{t:Tb}{R L:AD}{xs ys:List V}(h:Gv H t R L xs ys)(e:Ak H H'):Gv H' t R L xs ys :=
 ⟨e _ _ h.R,e _ _ h.L,h.lx,fun i r hi=>let⟨a,zs,h1,h2,h3⟩:=h.row i r hi;⟨a,zs,h1,e _ _ h2,h3.same e⟩,h.ls.same e⟩
def SY{H:Hp}:∀ {rs:List (List Rat)} {xs:List V},xs.length=rs.length→(∀(i:Nat) (r:List Rat),rs[i]? = some r→∃(a:AD) (zs:List V),xs[i]? = some (.ref a)∧H a=some (.lst zs)∧C3 H (BH r) zs)→C3 H (Bx rs) xs
 |[],[],_,_=>.nil
 |[],_::_,h,_=>by cases h
 |_::_,[],h,_=>by cases h
 |r::rs,x::xs,h,g=>by
  obtain⟨a,zs,h1,h2,h3⟩:=g 0 r rfl;cases h1;exact .cons (.lst h2 h3) (SY (by simpa using h) fun i r hi=>g (i+1) r hi)
def Gv.du{H:Hp}{t:Tb}{p R L:AD}{xs ys:List V}(h:Gv H t R L xs ys)(hp:H p=some (.tup [.ref R,.ref L])):DU H (AQ t) (.ref p):=X3 hp h.R (SY h.lx h.row) h.L h.ls
def Gv.rl{H:Hp}{t:Tb}{R L:AD}{xs ys:List V}(h:Gv H t R L xs ys)(o:t.Ok 4){i:Nat}{a:AD}{zs:List V}(hi:xs[i]? = some (.ref a))(hz:H a=some (.lst zs)):zs.length=i∧i<t.rs.length:=by
 have hil:i<t.rs.length:=by rw[←h.lx];exact(aF.mp hi).1
 obtain⟨a',zs',h1,h2,h3⟩:=h.row i _ (aM hil);rw[hi]at h1;cases h1;rw[hz]at h2;cases h2;have:=h3.len;rw[Lf,o.row i _ (aM hil)]at this;exact⟨this,hil⟩
def Gv.yl{H:Hp}{t:Tb}{R L:AD}{xs ys:List V}(h:Gv H t R L xs ys)(o:t.Ok 4):ys.length=t.rs.length:=by
 rw[h.ls.len,Lf,o.last]
def Gv.eA{H:Hp}{t:Tb}{R L l:AD}{xs ys:List V}{q:Rat}{j:Nat}(h:Gv H t R L xs ys)(o:t.Ok 4)(hl:H l=some (.tup (JO q))):Gv (upd H L (.lst (ys.set j (.ref l)))) ⟨t.rs,t.ls.set j q⟩ R L xs (ys.set j (.ref l)):=by
 have o1:=o.one;have u:SameBut L H (upd H L (.lst (ys.set j (.ref l)))):=.upd;have nRL:R≠L:=fun z=>by
  have e:=h.R;rw[z,h.L]at e;cases e;obtain⟨a,zs,k1,k2,_⟩:=h.row 0 _ (aM (show 0<t.rs.length by lia));obtain⟨p',k4,k5⟩:=Xk h.ls (aM (show 0<t.ls.length by rw[o.last];lia));rw[k1]at k4;cases k4;rw[k2]at k5;cases k5
 refine⟨by rw[AZ nRL];exact h.R,Au,h.lx,fun i r hi=>?_,?_⟩
 ·obtain⟨a,zs,h1,h2,h3⟩:=h.row i r hi;have hr:=h.rl o h1 h2;have na:a≠L:=fun z=>by
   rw[z,h.L]at h2;cases h2;have:=h.yl o
   lia
  exact⟨a,zs,h1,by rw[AZ na];exact h2,Gg h.L u h3⟩
 ·refine Gg h.L u ?_;show C3 H (BH (t.ls.set j q)) _;rw[BH,List.map_set];exact .set (Tq hl) h.ls
def Gv.jK{H:Hp}{t:Tb}{R L l a:AD}{xs ys zs:List V}{q:Rat}{j k:Nat}{r:List Rat}(h:Gv H t R L xs ys)(o:t.Ok 4)(hr:t.rs[k]? = some r)(ha:xs[k]? = some (.ref a))(hz:H a=some (.lst zs))(hl:H l=some (.tup (JO q))):Gv (upd H a (.lst (zs.set j (.ref l)))) ⟨t.rs.set k (r.set j q),t.ls⟩ R L xs ys:=by
 have u:SameBut a H (upd H a (.lst (zs.set j (.ref l)))):=.upd;obtain⟨lz,lk⟩:=h.rl o ha hz;have nR:R≠a:=fun z=>by
  rw[←z,h.R]at hz;cases hz;have:=h.lx
  lia
 have nL:L≠a:=fun z=>by
  rw[←z,h.L]at hz;cases hz;have:=h.yl o
  lia
 refine⟨by rw[AZ nR];exact h.R,by rw[AZ nL];exact h.L,by rw[List.length_set];exact h.lx,fun i r' hi=>?_,Gg hz u h.ls⟩;by_cases hik:i=k
 ·subst hik;rw[List.getElem?_set_self lk]at hi;cases hi;refine⟨a,_,ha,Au,Gg hz u ?_⟩;obtain⟨a',zs',k1,k2,k3⟩:=h.row i r hr;rw[ha]at k1;cases k1;rw[hz]at k2;cases k2;rw[BH,List.map_set];exact .set (Tq hl) k3
 ·rw[List.getElem?_set_ne (fun z=>hik z.symm)]at hi;obtain⟨a',zs',k1,k2,k3⟩:=h.row i r' hi;have na:a'≠a:=fun z=>by
   rw[z,hz]at k2;cases k2;have:=(h.rl o k1 (by rw[z];exact hz)).1
   lia
  exact⟨a',zs',k1,by rw[AZ na];exact k2,Gg hz u k3⟩
def ee{t:Tb}(o:t.Ok 4)(s:t.Sm){j:Nat}{q:Rat}(hq:ME q):(Tb.mk t.rs (t.ls.set j q)).Ok 4∧(Tb.mk t.rs (t.ls.set j q)).Sm :=
 ⟨⟨o.one,o.most,by show(t.ls.set j q).length=_;rw[List.length_set];exact o.last,o.row⟩,s.1,fun x hx=>by
  rcases List.mem_or_eq_of_mem_set hx with h|h
  ·exact s.2 x h
  ·rw[h];exact hq⟩
def gA{t:Tb}(o:t.Ok 4)(s:t.Sm){k j:Nat}{r:List Rat}{q:Rat}(hr:t.rs[k]? = some r)(hq:ME q):(Tb.mk (t.rs.set k (r.set j q)) t.ls).Ok 4∧(Tb.mk (t.rs.set k (r.set j q)) t.ls).Sm:=by
 have hk:=(aF.mp hr).1;refine⟨⟨by show 1≤(t.rs.set k (r.set j q)).length;rw[List.length_set];exact o.one,by show(t.rs.set k (r.set j q)).length≤4;rw[List.length_set];exact o.most,by show _=(t.rs.set k (r.set j q)).length;rw[List.length_set];exact o.last,fun i r' hi=>?_⟩,fun r' hr'=>?_,s.2⟩
 ·by_cases hik:i=k
  ·subst hik;have hi:(t.rs.set i (r.set j q))[i]? = some r':=hi;rw[List.getElem?_set_self hk]at hi;cases hi;rw[List.length_set];exact o.row i r hr
  ·have hi:(t.rs.set k (r.set j q))[i]? = some r':=hi;rw[List.getElem?_set_ne (fun z=>hik z.symm)]at hi;exact o.row i r' hi
 ·rcases List.mem_or_eq_of_mem_set (show r'∈t.rs.set k (r.set j q) from hr') with h|h
  ·exact s.1 r' h
  ·intro x hx;rw[h]at hx;rcases List.mem_or_eq_of_mem_set hx with h'|h'
   ·exact s.1 r (aH hr) x h'
   ·rw[h'];exact hq
def mK:Rat:=⟨-1,1,by decide,by decide⟩
def q2:Rat:=⟨2,1,by decide,by decide⟩
def mZ:Tb:=⟨[[],[Vl],[mK,q2]],[cI,kJ,cI]⟩
def VN(n:Int):Tb:=if n=0 then mH else if n=1 then mJ else if n=2 then mU else if n=3 then mY else if n=4 then mf else mZ
def ZZ(n:Int):K5 [.int n]=some (AQ (VN n)):=by
 have c:∀(k:Int) (b:Bool),decide (n=k)=b→Al (BI false) (nm 0) (fC (.int k)) [.d (.int n)]=some b:=fun k b h=>BP (x:=.int n) (y:=.int k) rfl rfl (by rw[Ko,h]);unfold VN;by_cases h0:n=0
 ·rw[if_pos h0];exact Bz rfl (BF (Bf (c 0 true (by simp[h0])) rfl))
 rw[if_neg h0];by_cases h1:n=1
 ·rw[if_pos h1];exact Bz rfl (AR (Az (c 0 false (by simp[h0])) rfl) (BF (Bf (c 1 true (by simp[h1])) rfl)))
 rw[if_neg h1];by_cases h2:n=2
 ·rw[if_pos h2];exact Bz rfl (AR (Az (c 0 false (by simp[h0])) rfl) (AR (Az (c 1 false (by simp[h1])) rfl) (BF (Bf (c 2 true (by simp[h2])) rfl))))
 rw[if_neg h2];by_cases h3:n=3
 ·rw[if_pos h3];exact Bz rfl (AR (Az (c 0 false (by simp[h0])) rfl) (AR (Az (c 1 false (by simp[h1])) rfl) (AR (Az (c 2 false (by simp[h2])) rfl) (BF (Bf (c 3 true (by simp[h3])) rfl)))))
 rw[if_neg h3];by_cases h4:n=4
 ·rw[if_pos h4];exact Bz rfl (AR (Az (c 0 false (by simp[h0])) rfl) (AR (Az (c 1 false (by simp[h1])) rfl) (AR (Az (c 2 false (by simp[h2])) rfl) (AR (Az (c 3 false (by simp[h3])) rfl) (BF (Bf (c 4 true (by simp[h4])) rfl))))))
 ·rw[if_neg h4];exact Bz rfl (AR (Az (c 0 false (by simp[h0])) rfl) (AR (Az (c 1 false (by simp[h1])) rfl) (AR (Az (c 2 false (by simp[h2])) rfl) (AR (Az (c 3 false (by simp[h3])) rfl) (AR (Az (c 4 false (by simp[h4])) rfl) rfl)))))
def fg(n:Int):Zb (VN n)=true:=by
 unfold VN
 repeat' split
 all_goals decide +kernel
def cv:Sp:=fun vs H Q _=>∃(n:Int),vs=[.int n]∧∀v H',Ak H H'→DU H' (AQ (VN n)) v→gP H H' v→Q v H'
def bj{P:Program}{w:World}{K:Fg}{mg:Str→Option VL}{base:Heap}{f:AD}{fd:FuncData}{k:Nat}{ps:List Str}(F:AV P w K mg base Ar k f fd ps (BD K5)):AV P w K mg base Ar k f fd ps cv :=
 F.imp fun vs H Q E z=>by
  obtain⟨n,rfl,q⟩:=z;refine⟨[.int n],AQ (VN n),fun _=>none,ZZ n,.cons (by rw[Du]) .nil,fun a o h=>(by cases h),fun v G' H' _ nw e1 e2 dv=>?_⟩;refine q v H' e2 (QX (dn _) (dv.same e1)) ?_;have nw':∀a xs,G' a=some (.lst xs)→H a=none:=fun a xs h=>by
   rcases nw _ _ h with h|h|⟨ys,h⟩
   ·cases h
   ·exact h
   ·cases h
  rw[AQ,Du]at dv;obtain⟨a,xs,rfl,g1,g2⟩:=dv;obtain⟨x,r,rfl,g4,g3⟩:=g2.un;obtain⟨y,r,rfl,g5,g6⟩:=g3.un;rw[g6.nil_eq]at g1;rw[Du]at g4 g5;obtain⟨R,xs,rfl,hR,dR⟩:=g4;obtain⟨L,ys,rfl,hL,_⟩:=g5;exact⟨a,R,L,xs,rfl,e1 _ _ g1,e1 _ _ hR,nw' _ _ hR,nw' _ _ hL,Tc nw' dR⟩
def Yv(K:Fg):Sp:=fun vs H Q _=>∃(a:AD) (ns:List Int),vs=[.ref a,.int 0]∧Bo K H a (ns.map V.int)∧∀v H' t,Ak H H'→DU H' (AQ t) v→t.Ok 4→t.Sm→Q v H'
section
variable{P:Program}{w:World}{K:Fg}{mg:Str→Option VL}{base:Heap}{f g1 g2 g3 g4:AD}{fd gd1 gd2 gd3 gd4:FuncData}
def Rz:Av ["_law_script", "_law_start", "_law_cell_here", "_law_table_here", "_law_place", "_law_part_here"] ["_law_script", "_law_start"] (Ab J7):=Ct
def RM(F:Fn K mg "_law_tables" J7 ["_law_script", "_law_start"] f fd)(Ca:Fn K mg "_law_cell" Er ["_law_script", "_law_k"] g1 gd1)(IL:Fn K mg "_law_known" Kz ["_law_which"] g2 gd2)(Eo:Fn K mg "_law_part" Ja ["_law_pile"] g3 gd3)(IK:Fn K mg "_law_table" LH ["_law_script", "_law_start", "_law_most"] g4 gd4)
 (DN:AV P w K mg base Ar 4 g1 gd1 ["_law_script", "_law_k"] (RE K))(Ky:AV P w K mg base Ar 4 g2 gd2 ["_law_which"] cv)(JZ:AV P w K mg base Ar 4 g3 gd3 ["_law_pile"] RJ)(UH:AV P w K mg base Ar 4 g4 gd4 ["_law_script", "_law_start", "_law_most"] (U9 K))(BJ:mg "len" = none):AV P w K mg base Ar 5 f fd ["_law_script", "_law_start"] (Yv K):=by
 have sc:=Rz;refine F.F.ok (k:=4) sc (fun vs H Q E h=>?_) (fun cdv A outer s H vs Q E hr h=>?_)
 ·obtain⟨a,ns,rfl,_⟩:=h
  rfl
 obtain⟨a,ns,rfl,hS,q⟩:=h;refine⟨_,(BB (B7 (i:=2) sc.nd rfl (Or.inl rfl) (Dy Ca DN hr rfl (Ad (pv 0) (Ad (pv 1) BE))))
 (BB (B7 (i:=3) sc.nd rfl (Or.inl rfl) (Dy IL Ky hr rfl (Ad (BL Jk (pv 2) Aq) BE)))
 (BB (Ii (Eu QU (BL Jk (BL Kj (pv 2) Aq) Aq) Aq (Ag _))
  (Bt (Dh (Dy IK UH hr rfl (Ad (pv 0) (Ad (BL Fs (pv 1) Aq) (Ad Aq BE))))))
  Fi)
 (BB (Ii (Eu QU (BL Jk (BL Kj (pv 2) Aq) Aq) Aq (Ag _))
  (BB (B7 (i:=4) sc.nd rfl (Or.inl rfl) (BL JK (BL Kj (pv 2) Aq) (Dx HA rfl BJ aQ (Ad (EG FP (pv 3) Aq (fun _ _=>rfl)) BE))))
  (BB (B7 (i:=5) sc.nd rfl (Or.inl rfl) (Dy Eo JZ hr rfl (Ad (MZ (Ad (BL Kj (pv 2) Aq) BE)) BE)))
  (BB (Qp (pv 5) (Uh (EG FP (pv 3) Aq (fun _ _=>rfl)) (pv 4) set_list))
  (Bt (Ii (PW.pt (YA (Eu QU (BL Jk (BL Kj (pv 2) Aq) Aq) Aq (Ag _)) (Wg (Eu cM (pv 4) Aq (Ag _)))))
   (Bt (Qp (pv 5) (Uh (EG Km (EG FP (pv 3) Aq (fun _ _=>rfl)) (pv 4) (fun _ _=>rfl)) (BL JK (BL Kj (pv 2) Aq) (pv 4)) set_list)))
   Fi)))))
  Fi)
 (Bt (Dh (pv 3))))))),?_⟩
 refine⟨_,rfl,_,rfl,a,ns,0,rfl,hS,by decide,by decide,fun x=>?_⟩;refine⟨_,rfl,_,_,rfl,rfl,(by show(0:Int)<6;decide),x % 6,rfl,fun v H1 e1 dt nt=>?_⟩;refine⟨_,rfl,_,_,rfl,rfl,⟨by decide,by decide⟩,_,_,rfl,rfl,(by show(0:Int)<3;decide),rfl,_,rfl,HS (fun c=>?_) (fun c=>?_)⟩
 ·refine⟨_,rfl,_,rfl,_,_,rfl,rfl,a,ns,rfl,e1.seq hS,fun v H2 t e2 d2 o2 s2 s3=>?_⟩;exact q v H2 t (e1.trans e2) d2 o2 ⟨s2,s3⟩
 obtain⟨o,sm⟩:=dM (fg (x % 6));generalize VN (x % 6)=t at dt o sm;obtain⟨p,R,L,xs,ys,rfl,hp,hR,dR,hL,dL⟩:=dt.tab;obtain⟨p',R',L',xs',e',n1,n2,n3,n4,n5⟩:=nt;cases e';rw[hp]at n1;cases n1;rw[hR]at n2;cases n2;have A1:Gv H1 t R L xs ys:=⟨hR,hL,by rw[dR.len,K8],fun i r hi=>Zm dR hi,dL⟩;unfold cy;dsimp only;refine LL (fun σ' H'=>∃(r4 r5:Option V) (t':Tb) (ys':List V),σ'=[some (.ref a),some (.int 0),some (.int x),some (.ref p),r4,r5]∧Ak H H'∧H' p=some (.tup [.ref R,.ref L])∧Gv H' t' R L xs ys'∧t'.Ok 4∧t'.Sm) (fun nx hn=>?_) ?_
 ·refine⟨_,rfl,_,_,rfl,rfl,⟨by decide,by decide⟩,_,_,rfl,rfl,(by show(0:Int)<3;decide),rfl,_,rfl,HS (fun c2=>?_) (fun c2=>?_)⟩
  ·have hyl:=A1.yl o;have o1:=o.one;have hyp:(0:Int)<((ys.length:Nat):Int):=by lia
   refine⟨_,rfl,_,_,rfl,rfl,⟨by decide,by decide⟩,_,rfl,_,_,_,_,rfl,rfl,CK.of hp,rfl,_,_,rfl,.inl (Bo.of hL),_,_,rfl,rfl,(by show((ys.length:Nat):Int)≠0;lia),?_⟩;have i1:0≤(x / 18).fmod ((ys.length:Nat):Int):=bI _ hyp;have i2:(x / 18).fmod ((ys.length:Nat):Int)<((ys.length:Nat):Int):=Int.fmod_lt_of_pos _ hyp;obtain⟨j,ej,hj⟩:∃j:Nat,(x / 18).fmod ((ys.length:Nat):Int)=(j:Int)∧j<ys.length:=⟨((x / 18).fmod ((ys.length:Nat):Int)).toNat,by lia,by lia⟩;simp only[ej];refine⟨_,rfl,_,_,rfl,rfl,⟨by decide,by decide⟩,(by show 1≤sizeLine;decide),fun pl hpl=>?_⟩;have f1:=Bv hpl (.lst [.int (x / 90)]);have g1:upd H1 pl (.lst [.int (x / 90)]) pl=some (.lst [.int (x / 90)]):=Au;generalize upd H1 pl (.lst [.int (x / 90)])=H2 at f1 g1;refine⟨pl,x / 90,rfl,g1,fun l r y H3 e3 hl3 r6 r7=>?_⟩;have f3:Ak H1 H3:=fun b o hb=>e3 _ _ (by rw[AZ (A8 hb hpl)];exact f1 _ _ hb);have hq:ME r:=⟨⟨aV r6 (by decide),Nat.lt_of_le_of_lt r7 (by decide)⟩,r7⟩;have A3:=A1.same f3;have hp3:=f3 _ _ hp;refine⟨_,rfl,_,rfl,_,_,_,_,rfl,rfl,CK.of hp3,rfl,_,rfl,L,ys,_,j,rfl,rfl,A3.L,(by unfold Pj;rw[if_pos (by lia),if_pos (by lia)];simp),?_⟩;have A4:=A3.eA (j:=j) o hl3;obtain⟨o4,s4⟩:=ee (j:=j) o sm hq;have E4:Ak H (upd H3 L (.lst (ys.set j (.ref l)))):=fun b o hb=>by
    rw[AZ (A8 hb n4)];exact f3 _ _ (e1 _ _ hb)
   have hp4:upd H3 L (.lst (ys.set j (.ref l))) p=some (.tup [.ref R,.ref L]):=by
    rw[AZ (fun z=>by rw[z,A3.L]at hp3;cases hp3)];exact hp3
   have hl4:upd H3 L (.lst (ys.set j (.ref l))) l=some (.tup (JO r)):=by
    rw[AZ (fun z=>by rw[z,A3.L]at hl3;cases hl3)];exact hl3
   generalize upd H3 L (.lst (ys.set j (.ref l)))=H4 at A4 E4 hp4 hl4;generalize (Tb.mk t.rs (t.ls.set j r))=t4 at A4 o4 s4;have lx4:=A4.lx;have hjr:j<t4.rs.length:=by have:=A1.lx;lia
   have done:∀(r5:Option V),nx [some (.ref a),some (.int 0),some (.int x),some (.ref p),some (.int (j:Int)),r5] H4:=fun r5=>hn _ _ ⟨_,_,t4,_,rfl,E4,hp4,A4,o4,s4⟩;refine⟨_,rfl,_,_,rfl,rfl,⟨by decide,by decide⟩,_,_,rfl,rfl,(by show(0:Int)<2;decide),rfl,_,rfl,HS (fun c3=>?_) (fun c3=>?_)⟩
   ·refine⟨_,rfl,_,_,rfl,rfl,_,rfl,HS (fun c4=>?_) (fun c4=>?_)⟩
    ·have hj0:0<j:=by have:(0:Int)<(j:Int):=ab c4;lia
     have hjp:(0:Int)<(j:Int):=by lia
     have k1:0≤(x / 180).fmod (j:Int):=bI _ hjp;have k2:(x / 180).fmod (j:Int)<(j:Int):=Int.fmod_lt_of_pos _ hjp;obtain⟨m,em,hm⟩:∃m:Nat,(x / 180).fmod (j:Int)=(m:Int)∧m<j:=⟨((x / 180).fmod (j:Int)).toNat,by lia,by lia⟩;obtain⟨ra,zs,z1,z2,z3⟩:=A4.row j _ (aM hjr);have zl:=(A4.rl o4 z1 z2).1;refine⟨_,rfl,_,rfl,_,_,_,_,rfl,rfl,CK.of hp4,rfl,_,rfl,_,_,_,_,rfl,rfl,Bo.of A4.R,EV z1,_,rfl,_,_,rfl,rfl,⟨by decide,by decide⟩,_,rfl,_,_,rfl,rfl,(by show(j:Int)≠0;lia),ra,zs,_,m,rfl,rfl,z2,(by show Pj _ ((x / 180).fmod (j:Int))=_;rw[em];unfold Pj;rw[if_pos (by lia),if_pos (by lia)];simp),?_⟩;have A5:=A4.jK (j:=m) o4 (aM hjr) z1 z2 hl4;obtain⟨o5,s5⟩:=gA (j:=m) o4 s4 (aM hjr) hq;refine hn _ _ ⟨_,_,_,_,rfl,fun b o hb=>?_,?_,A5,o5,s5⟩
     ·rw[AZ (A8 hb (n5 ra (aH z1)))];exact E4 _ _ hb
     ·rw[AZ (fun z=>by rw[z,z2]at hp4;cases hp4)];exact hp4
    ·exact done _
   ·exact done _
  ·exact hn _ _ ⟨_,_,t,ys,rfl,e1,hp,A1,o,sm⟩
 ·rintro σ' H' ⟨r4,r5,t',ys',rfl,e',hp',A',o',s'⟩;exact⟨_,rfl,q _ H' t' e' (A'.du hp') o' s'⟩
end
def AL:Nat→List Tr
 |0=>[]
 |n+1=>AL n++TH.tz n
def j5:Nat→Nat
 |0=>0|1=>1|2=>2|3=>4|4=>8|5=>17|6=>37|_=>85
def UW:∀n,n≤5→(AL n).length=j5 n∧∀t∈AL n,t.deep≤8∧t.Ah≤5∧1≤t.Ah:=by decide +kernel
def dW:Dw [.int 5]=some (.list [.list [],.list (L2.BK (Tr.of (TH.tz 0))),.list (L2.BK (Tr.of (TH.tz 1))),.list (L2.BK (Tr.of (TH.tz 2))),.list (L2.BK (Tr.of (TH.tz 3))),.list (L2.BK (Tr.of (TH.tz 4)))]):=by kernel_rfl
abbrev E5(ns:List Nat):List PD:=ns.map fun(n:Nat)=>PyData.int (n:Int)
def QC{p:Rat→Prop}(h0:p 0){l:List Rat}(h:∀q∈l,p q)(i:Nat):p (l.getD i 0):=by
 rw[List.getD_eq_getElem?_getD];cases e:l[i]? with
 |none=>exact h0
 |some q=>exact h q (aH e)
def dw{δ:Dv}{f g:Dv→Option PD}{i j:Int}(h:f δ=some (.int i))(k:g δ=some (.int j))(h0:-1000000≤i∧i≤1000000∧-1000000≤j∧j≤1000000):Dj J8 (AA f (AA g AG)) δ=some (HR i (j-i).toNat):=by
 show(AA f (AA g AG) δ).bind J8=_;rw[AO h (AO k (show AG δ=some [] from rfl))];exact if_pos h0
def Md(p q:Rat):PyData.eqv (AK p) (AK q)=decide (p=q):=by
 by_cases h:p=q
 ·subst h;rw[decide_eq_true rfl];exact Hu _ (MQ p)
 ·rw[decide_eq_false h];refine Bool.eq_false_iff.mpr fun z=>h ?_;unfold AK at z;simp[PyData.eqv,PyData.eqvAll]at z;exact FM.fE z.1 (by lia)
def MS(p q:Rat):BI true (AK p) (AK q)=some (.bool (!decide (p=q))):=by
 refine(if_pos ⟨(Gf p).shaped (by decide),(Gf q).shaped (by decide)⟩).trans ?_;rw[Md];rfl
def iZ{i:Nat}{f:Dv→Option PD}{δ:Dv}{y:PD}{xs:List PD}(h:f δ=some y)(o:ow i δ=some xs)(hl:xs.length<Bi):N8 i f δ=some (.nx (δ.set i (.own (.lst (xs++[y]))))):=by
 show(f δ).bind _=_;rw[h];show(ow i δ).bind _=_;rw[o];exact if_pos hl
abbrev Mon:=List Nat
abbrev FA:=List (Mon×Int)
def EM(x:Nat→Rat):Mon→Rat
 |[]=>1
 |i::m=>x i*EM x m
def Cn(x:Nat→Rat):FA→Rat
 |[]=>0
 |t::p=>(t.2:Rat)*EM x t.1+Cn x p
def RI(a:Nat):Mon→Mon
 |[]=>[a]
 |b::m=>if a≤b then a::b::m else b::RI a m
def WR(x:Nat→Rat)(a:Nat):∀m:Mon,EM x (RI a m)=x a*EM x m
 |[]=>rfl
 |b::m=>by
  unfold RI;split
  ·rfl
  ·show x b*EM x (RI a m)=x a*(x b*EM x m);rw[WR x a m,←Rat.mul_assoc,←Rat.mul_assoc,Rat.mul_comm (x b)]
def mulM:Mon→Mon→Mon
 |[],n=>n
 |a::m,n=>RI a (mulM m n)
def WT(x:Nat→Rat):∀m n:Mon,EM x (mulM m n)=EM x m*EM x n
 |[],n=>by show EM x n=1*EM x n;rw[Rat.one_mul]
 |a::m,n=>by
  show EM x (RI a (mulM m n))=x a*EM x m*EM x n;rw[WR,WT x m n,Rat.mul_assoc]
def Mf(m:Mon)(c:Int):FA→FA
 |[]=>if c=0 then [] else [(m,c)]
 |(n,d)::p=>if m=n then(if c+d=0 then p else(n,c+d)::p) else(n,d)::Mf m c p
def UU:((0:Int):Rat)=0:=rfl
def dS(a b:Int):((a+b:Int):Rat)=(a:Rat)+(b:Rat):=Rat.intCast_add a b
def eh(a b:Int):((a*b:Int):Rat)=(a:Rat)*(b:Rat):=Rat.intCast_mul a b
def QJ(x:Nat→Rat)(m:Mon)(c:Int):∀p:FA,Cn x (Mf m c p)=(c:Rat)*EM x m+Cn x p
 |[]=>by
  unfold Mf;split
  ·rename_i e;subst e;show(0:Rat)=((0:Int):Rat)*_+0;rw[UU,Rat.zero_mul,Rat.add_zero]
  ·rfl
 |(n,d)::p=>by
  unfold Mf;split
  ·rename_i e;subst e;have h:(c:Rat)*EM x m+Cn x ((m,d)::p)=((c+d:Int):Rat)*EM x m+Cn x p:=by
    show(c:Rat)*EM x m+((d:Rat)*EM x m+Cn x p)=_;rw[←Rat.add_assoc,←Rat.add_mul,dS]
   rw[h];split
   ·rename_i e;rw[e,UU,Rat.zero_mul,Rat.zero_add]
   ·rfl
  ·show(d:Rat)*EM x n+Cn x (Mf m c p)=_;rw[QJ x m c p];show _=(c:Rat)*EM x m+((d:Rat)*EM x n+Cn x p);rw[←Rat.add_assoc,←Rat.add_assoc,Rat.add_comm (_*_) (_*_)]
def IM:FA→FA→FA
 |[],q=>q
 |t::p,q=>Mf t.1 t.2 (IM p q)
def MX(x:Nat→Rat):∀p q:FA,Cn x (IM p q)=Cn x p+Cn x q
 |[],q=>by show Cn x q=0+_;rw[Rat.zero_add]
 |t::p,q=>by
  show Cn x (Mf t.1 t.2 (IM p q))=(t.2:Rat)*EM x t.1+Cn x p+Cn x q;rw[QJ,MX x p q,Rat.add_assoc]
def Rl(m:Mon)(c:Int):FA→FA
 |[]=>[]
 |t::p=>Mf (mulM m t.1) (c*t.2) (Rl m c p)
def RB(x:Nat→Rat)(m:Mon)(c:Int):∀p:FA,Cn x (Rl m c p)=(c:Rat)*EM x m*Cn x p
 |[]=>by show(0:Rat)=_*0;rw[Rat.mul_zero]
 |t::p=>by
  show Cn x (Mf (mulM m t.1) (c*t.2) (Rl m c p))=_;rw[QJ,RB x m c p,WT,eh];show _=(c:Rat)*EM x m*((t.2:Rat)*EM x t.1+Cn x p);rw[Rat.mul_add]
  congr 1
  rw[Rat.mul_assoc,Rat.mul_assoc,←Rat.mul_assoc (t.2:Rat),Rat.mul_comm (t.2:Rat) (EM x m),Rat.mul_assoc]
def LZ:FA→FA→FA
 |[],_=>[]
 |t::p,q=>IM (Rl t.1 t.2 q) (LZ p q)
def R5(x:Nat→Rat):∀p q:FA,Cn x (LZ p q)=Cn x p*Cn x q
 |[],q=>by show(0:Rat)=0*_;rw[Rat.zero_mul]
 |t::p,q=>by
  show Cn x (IM (Rl t.1 t.2 q) (LZ p q))=((t.2:Rat)*EM x t.1+Cn x p)*Cn x q;rw[MX,RB,R5 x p q,Rat.add_mul]
def XY(p:FA):FA:=Rl [] (-1) p
def dj(x:Nat→Rat)(p:FA):Cn x (XY p)=- Cn x p:=by
 unfold XY;rw[RB];show((-1:Int):Rat)*1*Cn x p=_;rw[Rat.mul_one,show((-1:Int):Rat)=-1 from rfl,Rat.neg_mul,Rat.one_mul]
def W9:List FA→FA
 |[]=>[]
 |p::l=>IM p (W9 l)
def WC(x:Nat→Rat):∀l:List FA,Cn x (W9 l)=(l.map (Cn x)).sum
 |[]=>rfl
 |p::l=>by
  show Cn x (IM p (W9 l))=_;rw[MX,WC x l,List.map_cons,List.sum_cons]
structure Rg(α:Type) where
 add:α→α→α
 mul:α→α→α
 z:α
 o:α
def K4{α:Type}(R:Rg α)(a b:List α):α:=(List.zipWith R.mul a b).foldr R.add R.z
def HV{α:Type}(R:Rg α)(rows:List (List α)):Tr→List α→List α
 |.nil,acc=>acc
 |.cons b r,acc=>HV R rows r (List.zipWith R.mul acc (rows.map fun row=>K4 R row (HV R rows b (List.replicate rows.length R.o))))
def Lc{α:Type}(R:Rg α)(rows:List (List α))(ls:List α)(u:Tr):α:=K4 R ls (HV R rows u (List.replicate rows.length R.o))
structure KO{α β:Type}(R:Rg α)(S:Rg β)(φ:α→β):Prop where
 add:∀a b,φ (R.add a b)=S.add (φ a) (φ b)
 mul:∀a b,φ (R.mul a b)=S.mul (φ a) (φ b)
 z:φ R.z=S.z
 o:φ R.o=S.o
section
variable{α β:Type}{R:Rg α}{S:Rg β}{φ:α→β}
def KO.zip(h:KO R S φ):∀a b:List α,(List.zipWith R.mul a b).map φ=List.zipWith S.mul (a.map φ) (b.map φ)
 |[],_=>rfl
 |_::_,[]=>rfl
 |x::a,y::b=>by
  show φ (R.mul x y)::(List.zipWith R.mul a b).map φ=S.mul (φ x) (φ y)::List.zipWith S.mul (a.map φ) (b.map φ);rw[h.mul,KO.zip h a b]
def KO.fold(h:KO R S φ):∀a:List α,φ (a.foldr R.add R.z)=(a.map φ).foldr S.add S.z
 |[]=>h.z
 |x::a=>by
  show φ (R.add x (a.foldr R.add R.z))=S.add (φ x) ((a.map φ).foldr S.add S.z);rw[h.add,KO.fold h a]
def KO.dot(h:KO R S φ)(a b:List α):φ (K4 R a b)=K4 S (a.map φ) (b.map φ):=by
 unfold K4;rw[h.fold,h.zip]
def KO.QN(h:KO R S φ)(rows:List (List α)):∀(t:Tr) (acc:List α),(HV R rows t acc).map φ=HV S (rows.map (List.map φ)) t (acc.map φ)
 |.nil,acc=>rfl
 |.cons b r,acc=>by
  rw[HV,HV,KO.QN h rows r,h.zip,List.map_map,List.map_map]
  congr 2
  refine ar fun row _=>?_;show φ (K4 R row _)=K4 S (row.map φ) _;rw[h.dot,KO.QN h rows b,List.map_replicate,h.o,List.length_map]
def KO.last(h:KO R S φ)(rows:List (List α))(ls:List α)(u:Tr):φ (Lc R rows ls u)=Lc S (rows.map (List.map φ)) (ls.map φ) u:=by
 unfold Lc;rw[h.dot,h.QN,List.map_replicate,h.o,List.length_map]
end
def rI:Rg Int:=⟨fun a b=>a+b,fun a b=>a*b,0,1⟩
def rQ:Rg Rat:=⟨fun a b=>a+b,fun a b=>a*b,0,1⟩
def rP:Rg FA:=⟨IM,LZ,[],[([],1)]⟩
def ir:KO rI rQ (fun n:Int=>(n:Rat)):=⟨Rat.intCast_add,Rat.intCast_mul,rfl,rfl⟩
def YM(x:Nat→Rat):KO rP rQ (Cn x):=⟨MX x,R5 x,rfl,by show((1:Int):Rat)*1+0=1;rw[Rat.mul_one,Rat.add_zero];rfl⟩
def XC(rows:List (List Int)):∀(t:Tr) (acc:List Int),QN rows t acc=HV rI rows t acc
 |.nil,acc=>rfl
 |.cons b r,acc=>by
  rw[QN,HV,XC rows r];show HV rI rows r (Wk acc _)=HV rI rows r (Wk acc _)
  congr 2
  refine ar fun row _=>?_;rw[XC rows b]
  rfl
def iO(rows:List (List Int))(ls:List Int)(u:Tr):(hZ (rows++[ls]) u).getLast?.getD 0=Lc rI (rows++[ls]) ls u:=by
 unfold hZ;rw[List.map_append,List.map_singleton,List.getLast?_concat,Option.getD_some,XC]
 rfl
def Qj(m:Nat):List (List FA):=(List.range m).map fun i=>(List.range i).map fun j=>[([5*i+j],1)]
def Ob(m:Nat)(u:Tr):FA:=Lc rP (Qj (m+1)) ((List.range m).map fun j=>[([5*m+j],1)]) u
def Vx(x:Nat→Rat)(b:Rat):∀m:Mon,EM (fun n=>x n*b) m=EM x m*b^m.length
 |[]=>by show(1:Rat)=1*b^0;rw[Rat.one_mul,Rat.pow_zero]
 |i::m=>by
  show x i*b*EM (fun n=>x n*b) m=x i*EM x m*b^(m.length+1);rw[Vx x b m,Rat.pow_succ];rw[Rat.mul_assoc,Rat.mul_assoc,←Rat.mul_assoc b,Rat.mul_comm b (EM x m),Rat.mul_assoc,Rat.mul_comm b]
def Wa(x:Nat→Rat)(b:Rat)(k:Nat):∀p:FA,(∀t∈p,t.1.length=k)→Cn (fun n=>x n*b) p=Cn x p*b^k
 |[],_=>by show(0:Rat)=0*_;rw[Rat.zero_mul]
 |t::p,h=>by
  show(t.2:Rat)*EM (fun n=>x n*b) t.1+Cn (fun n=>x n*b) p=((t.2:Rat)*EM x t.1+Cn x p)*b^k;rw[Vx,Wa x b k p fun u hu=>h u (.tail _ hu),h t (.head _),Rat.add_mul,Rat.mul_assoc]
def CB(t:Tb):List (List Rat):=t.rs++[t.ls]
def xT(t:Tb)(n:Nat):Rat:=((CB t).getD (n / 5) []).getD (n % 5) 0
def Ui(x:Nat→Rat)(n:Nat):Cn x [([n],1)]=x n:=by
 show((1:Int):Rat)*(x n*1)+0=x n;rw[Rat.add_zero,Rat.mul_one,show((1:Int):Rat)=1 from rfl,Rat.one_mul]
def Xm(t:Tb){i j:Nat}(hj:j<5):xT t (5*i+j)=((CB t).getD i []).getD j 0:=by
 unfold xT;rw[show(5*i+j) / 5=i by lia,show(5*i+j) % 5=j by lia]
def ZG{t:Tb}{i:Nat}(h:i<t.rs.length):(CB t).getD i []=t.rs.getD i []:=by
 unfold CB;rw[List.getD_eq_getElem?_getD,List.getD_eq_getElem?_getD,List.getElem?_append_left h]
def Ke(t:Tb):(CB t)[t.rs.length]? = some t.ls:=by
 unfold CB;rw[List.getElem?_append_right (aG _),Nat.sub_self];rfl
def ZE{t:Tb}{m:Nat}(h:t.Ok m){i:Nat}{row:List Rat}(e:(CB t)[i]? = some row):row.length=i∧i≤t.rs.length:=by
 by_cases z:i<t.rs.length
 ·unfold CB at e;rw[List.getElem?_append_left z]at e;exact⟨h.row i row e,by lia⟩
 ·have hl:=(aF.mp e).1;unfold CB at hl;rw[List.length_append,List.length_singleton]at hl;have:i=t.rs.length:=by lia
  subst this;rw[Ke]at e;cases e;exact⟨h.last,Nat.le_refl _⟩
def VC{t:Tb}(h:t.Ok 4)(b:Rat){i:Nat}{row:List Rat}(e:(CB t)[i]? = some row):((List.range i).map fun j=>[([5*i+j],(1:Int))]).map (Cn fun n=>xT t n*b)=row.map (· * b):=by
 obtain⟨hl,hi⟩:=ZE h e;have h4:=h.most;refine List.ext_getElem? fun j=>?_;rw[List.getElem?_map,List.getElem?_map,List.getElem?_map];by_cases z:j<i
 ·rw[List.getElem?_range z,List.getElem?_eq_getElem (show j<row.length by lia),Option.map_some,Option.map_some,Option.map_some,Ui];rw[Xm t (by lia),List.getD_eq_getElem?_getD (l:=CB t),e,Option.getD_some,List.getD_eq_getElem?_getD,List.getElem?_eq_getElem (show j<row.length by lia)]
  rfl
 ·rw[List.getElem?_eq_none (by rw[List.length_range];lia),List.getElem?_eq_none (show row.length≤j by lia)]
  rfl
def Vr{t:Tb}(h:t.Ok 4)(b:Rat):(Qj (t.rs.length+1)).map (List.map (Cn fun n=>xT t n*b))=(CB t).map (List.map (· * b)):=by
 have hl:(CB t).length=t.rs.length+1:=by unfold CB;rw[List.length_append];rfl
 refine List.ext_getElem? fun i=>?_;unfold Qj;rw[List.getElem?_map,List.getElem?_map,List.getElem?_map];by_cases z:i<t.rs.length+1
 ·have e:=aM (l:=CB t) (i:=i) (by lia);rw[List.getElem?_range z,e,Option.map_some,Option.map_some,Option.map_some,VC h b e]
 ·rw[List.getElem?_eq_none (by rw[List.length_range];lia),List.getElem?_eq_none (show(CB t).length≤i by lia)]
  rfl
def dY(q:Rat):q*(((q.den:Nat):Int):Rat)=(q.num:Rat):=by
 have h:=FM.En q;have hd:(((q.den:Nat):Int):Rat)≠0:=fun e=>q.den_nz (by have:=Rat.intCast_eq_zero_iff.mp e;lia);rw[Rat.divInt_eq_div]at h;have e:=Rat.div_mul_cancel (a:=(q.num:Rat)) hd;rw[h]at e;exact e
def Z8{q:Rat}{B:Int}(h:(q.den:Int) ∣ B):((q.num*B.fdiv (q.den:Int):Int):Rat)=q*(B:Rat):=by
 obtain⟨c,rfl⟩:=h;have hd:(q.den:Int)≠0:=by have:=q.den_nz;lia
 rw[Int.mul_fdiv_cancel_left _ hd,Rat.intCast_mul,Rat.intCast_mul,←Rat.mul_assoc,dY]
def Nb{r:List Rat}{B:Int}(h:∀q∈r,(q.den:Int) ∣ B):(Og r B).map (fun n:Int=>(n:Rat))=r.map (· * (B:Rat)):=by
 unfold Og;rw[List.map_map];exact ar fun q hq=>Z8 (h q hq)
def eC{t:Tb}{n:Nat}(h:t.Fits n){m:Nat}(o:t.Ok m):1≤Rk t∧(Rk t).natAbs<2^(1+n*(m+m*m))∧∀r∈CB t,∀q∈r,(q.den:Int) ∣ Rk t:=by
 obtain⟨h1,h2,h3⟩:=dy (Y4 h t.rs.length);have hl:=Sw o t.rs.length (aG _);have hm:=o.most;refine⟨h1,Nat.lt_of_lt_of_le h2 (ai (by decide) ?_),fun r hr q hq=>h3 _ ?_⟩
 ·have:t.rs.length+t.rs.length*t.rs.length≤m+m*m:=Nat.add_le_add hm (Nat.mul_le_mul hm hm);have:=Nat.mul_le_mul_left n (aW hl this)
  lia
 ·unfold Kc;rw[List.take_length];rcases aX.mp hr with hr|hr
  ·exact aS _ (List.mem_flatten.mpr ⟨Od r,List.mem_map.mpr ⟨r,hr,rfl⟩,List.mem_map.mpr ⟨q,hq,rfl⟩⟩)
  ·rw[List.mem_singleton.mp hr]at hq;exact bK _ (aN.mpr ⟨q,hq,rfl⟩)
def eM:([1,2,3,4].all fun m=>(AL 5).all fun u=>(Ob m u).all fun t=>decide (t.1.length=u.Ah))=true:=by decide +kernel
def iU{m:Nat}(h1:1≤m)(h4:m≤4){u:Tr}(hu:u∈AL 5):∀t∈Ob m u,t.1.length=u.Ah:=by
 have hm:m∈[1,2,3,4]:=by
  match m,h1,h4 with
  |1,_,_=>exact .head _
  |2,_,_=>exact .tail _ (.head _)
  |3,_,_=>exact .tail _ (.tail _ (.head _))
  |4,_,_=>exact .tail _ (.tail _ (.tail _ (.head _)))
 exact fun t ht=>ab (ao.mp (ao.mp (ao.mp eM m hm) u hu) t ht)
def Wr{t:Tb}(h:t.Ok 4){n:Nat}(hf:t.Fits n){u:Tr}(hu:u∈AL 5):Ap t u=Cn (xT t) (Ob t.rs.length u):=by
 obtain⟨b1,_,b3⟩:=eC hf h;have e2:=iU h.one h.most hu;unfold Ap cq;generalize Rk t=B at b1 b3;rw[List.map_append,List.map_singleton,iO];have z:((Lc rI (t.rs.map (fun r=>Og r B)++[Og t.ls B]) (Og t.ls B) u:Int):Rat)=Cn (xT t) (Ob t.rs.length u)*(B:Rat)^u.Ah:=by
  rw[←Wa (xT t) (B:Rat) u.Ah _ e2];refine(ir.last _ _ u).trans ?_;refine Eq.trans ?_ ((YM (fun n=>xT t n*(B:Rat))).last (Qj (t.rs.length+1)) ((List.range t.rs.length).map fun j=>[([5*t.rs.length+j],1)]) u).symm;rw[Vr h,VC h (B:Rat) (Ke t),Nb fun q hq=>b3 t.ls (aS _ (List.mem_singleton.mpr rfl)) q hq]
  congr 1
  unfold CB;rw[List.map_append,List.map_append,List.map_map]
  congr 1
  ·exact ar fun r hr=>Nb fun q hq=>b3 r (bK _ hr) q hq
  ·exact aj (fun x=>[x]) (Nb fun q hq=>b3 t.ls (aS _ (List.mem_singleton.mpr rfl)) q hq)
 have hB:((B^u.Ah:Int):Rat)≠0:=fun e=>Int.pow_ne_zero (by lia:B≠0) (Rat.intCast_eq_zero_iff.mp e);rw[Rat.divInt_eq_div,z,←Rat.intCast_pow];exact Rat.mul_div_cancel hB
def map_one(l:List Rat):l.map (· * 1)=l:=by
 induction l with
 |nil=>rfl
 |cons x l ih=>rw[List.map_cons,ih,Rat.mul_one]
def kA{t:Tb}(h:t.Ok 4){n:Nat}(hf:t.Fits n){u:Tr}(hu:u∈AL 5):Ap t u=Lc rQ (CB t) t.ls u:=by
 rw[Wr h hf hu];have e:(fun n=>xT t n*(1:Rat))=xT t:=funext fun n=>Rat.mul_one _;have r:=Vr h 1;have l:=VC h 1 (Ke t);rw[e]at r l;refine((YM (xT t)).last (Qj (t.rs.length+1)) ((List.range t.rs.length).map fun j=>[([5*t.rs.length+j],1)]) u).trans ?_;rw[r,l,map_one]
 congr 1
 exact List.map_id'' (fun x=>map_one x) (CB t)
def Vt(ds:List PD):Option PD:=match ds with
 |[.int a,.int b]=>some (.int (FM.gi a b))
 |_=>none
def i5{P:Program}{w:World}{K:Fg}{mg:Str→Option VL}{base:Heap}{f:AD}{fd:FuncData}{k:Nat}{ps:List Str}(F:AV P w K mg base Ar k f fd ps P8):AV P w K mg base Ar k f fd ps (BD Vt) :=
 MH F fun ds x hm G H vs Q E d e kk=>by
  unfold Vt at hm;split at hm
  ·cases hm;obtain⟨v1,v2,rfl,d1,d2⟩:=d.PK;rw[Du]at d1 d2;subst d1 d2;exact⟨_,_,rfl,kk _ G H (.refl _) Nw.refl e (.refl _) (by rw[Du])⟩
  ·cases hm
abbrev kN:MD:=Bq Vt Bm
abbrev gF:MD:=Ba kN
abbrev kO:MD:=Ed gF
abbrev bw:MD:=Ei gF kO
def Ih{f g:Dv→Option PD}{δ:Dv}{r:Option PD}(h:f δ=some (.bool true))(k:g δ=r):J5 f g δ=r:=by
 show(f δ).bind _=_;rw[h];exact k
def Gx(z:Int):BI true (.int z) (.int z)=some (.bool false):=ne_self (Ok.int (n:=0)) (by decide)
def YV(z:Int):BI false (.int z) (.int z)=some (.bool true):=Zn (Ok.int (n:=0)) (by decide)
def jS(q:Rat):kN [AK q]=some (.bool true):=by
 refine Bz rfl ?_;unfold Hm;have hd:=q.den_nz;have hg:FM.gi q.num (q.den:Int)=1:=by
  have k:=q.reduced;unfold FM.gi;unfold Nat.Coprime at k;rw[show q.num.gcd (q.den:Int)=1 from k]
  rfl
 have wh:∀z:Int,Bm [.int z]=some (.bool true):=fun _=>rfl;refine AR (Az (Bw rfl (BP (x:=.int 2) (y:=.int 2) rfl rfl (Gx 2))) rfl) (AR (Az (Bw (Cy (FE (Ai (xs:=[.int q.num]) rfl (wh _)))) (Cy (FE (Ai (xs:=[.int (q.den:Int)]) rfl (wh _))))) rfl) (B6 (Ih (Aa (x:=.int (q.den:Int)) (y:=.int 1) rfl rfl ?_) (Aa (x:=.int 1) (y:=.int 1) (Ai (xs:=[.int q.num,.int (q.den:Int)]) rfl ?_) rfl (YV 1)))))
 ·show some (PyData.bool (decide ((1:Int)≤(q.den:Int))))=_;rw[decide_eq_true (by lia)]
 ·show some (PyData.int (FM.gi q.num (q.den:Int)))=_;rw[hg]
def b8(ws:List Rat):gF [.list (ws.map AK)]=some (.bool true):=by
 refine Bz rfl ?_;unfold LQ;refine AR (δ':=[.d (.list (ws.map AK)),.no]) (Az rfl rfl) ?_;refine HB (xs:=ws.map AK) (fun i δ=>∃l:L,δ=[.d (.list (ws.map AK)),l]) rfl ⟨_,rfl⟩ ?_ ?_
 ·rintro i x δ hx ⟨l,rfl⟩;obtain⟨q,_,rfl⟩:=aN.mp (aH hx);exact⟨_,rfl,_,Az (Cy (FE (Ai (xs:=[AK q]) rfl (jS q)))) rfl,_,rfl⟩
 ·rintro δ ⟨l,rfl⟩
  rfl
def j7{t:Tb}{m:Nat}(o:t.Ok m)(hm:m≤40):kO [.list (Bx t.rs)]=some (.bool true):=by
 have h1:=o.one;have h2:=o.most;have hl:=K8 t.rs;refine Bz rfl ?_;unfold QK;refine AR (δ':=[.d (.list (Bx t.rs)),.no,.no]) (Az (Bw rfl (Bw (BP (x:=.int ((Bx t.rs).length:Nat)) (y:=.int 1) rfl rfl ?_) (BP (x:=.int ((Bx t.rs).length:Nat)) (y:=.int 40) rfl rfl ?_))) rfl) ?_
 ·show some (PyData.bool (decide (((Bx t.rs).length:Int)<1)))=_;rw[decide_eq_false (by lia)]
 ·show some (PyData.bool (decide ((40:Int)<((Bx t.rs).length:Int))))=_;rw[decide_eq_false (by lia)]
 refine HB (xs:=ER (Bx t.rs)) (fun i δ=>∃l l':L,δ=[.d (.list (Bx t.rs)),l,l']) rfl ⟨_,_,rfl⟩ ?_ ?_
 ·rintro i x δ hx ⟨l,l',rfl⟩;obtain⟨y,hy,rfl⟩:=F0 hx;unfold Bx at hy;rw[List.getElem?_map]at hy;obtain⟨r,hr,rfl⟩:=aC.mp hy;have hrl:=o.row i r hr;refine⟨[.d (.list (Bx t.rs)),.d (.int (i:Nat)),.d (.list (BH r))],rfl,_,Az (Bw (Cy (FE (Ai (xs:=[.list (r.map AK)]) rfl (b8 r)))) (BP (x:=.int (i:Nat)) (y:=.int (i:Nat)) ?_ rfl (Gx _))) rfl,_,_,rfl⟩;show some (PyData.int ((BH r).length:Nat))=_;rw[Lf,hrl]
 ·rintro δ ⟨l,l',rfl⟩
  rfl
def fm{t:Tb}{m:Nat}(o:t.Ok m)(hm:m≤40):bw [AQ t]=some (.bool true):=by
 refine Bz rfl ?_;unfold RA;refine AR (Az (Bw rfl (BP (x:=.int 2) (y:=.int 2) rfl rfl (Gx 2))) rfl) (B6 (Ih (Ai (xs:=[.list (Bx t.rs)]) rfl (j7 o hm)) (Ih (Ai (xs:=[.list (t.ls.map AK)]) rfl (b8 t.ls)) (Aa (x:=.int (t.rs.length:Nat)) (y:=.int (t.rs.length:Nat)) ?_ ?_ (YV _)))))
 ·show some (PyData.int ((BH t.ls).length:Nat))=_;rw[Lf,o.last]
 ·show some (PyData.int ((Bx t.rs).length:Nat))=_;rw[K8]
abbrev CL(ts:List Tr):PD:=.list (L2.BK (Tr.of ts))
def Jp{α:Type}{i:Nat}{f:Dv→Option PD}{fs:Dv→Option (List PD)}{δ:Dv}{fr:List (Option Nat)}{zs:List α}{a g:α→PD}(hx:fs δ=some (zs.map a))(hl:zs.length≤Bi)
 (h:∀z∈zs,f ((DQ fr δ).set i (.d (a z)))=some (g z)):F9 (Cq i) D9 f fr fs δ=some (zs.map g):=by
 unfold F9;rw[hx,Option.bind_some];have:∀zs:List α,(∀z∈zs,f ((DQ fr δ).set i (.d (a z)))=some (g z))→L2.collect (IP (Cq i) D9 f (DQ fr δ)) (zs.map a)=some (zs.map g):=fun zs=>by
  induction zs with
  |nil=>intro _;rfl
  |cons z zs ih =>
   intro h;rw[List.map_cons,List.map_cons];unfold L2.collect;rw[ih fun y hy=>h y (.tail _ hy)];have e:IP (Cq i) D9 f (DQ fr δ) (a z)=some (some (g z)):=by
    unfold IP Cq;rw[Option.bind_some];show(some true).bind _=_;rw[Option.bind_some,if_pos rfl,h z (.head _)]
    rfl
   rw[e];rfl
 rw[this zs h,Option.bind_some,IZ,if_pos (by rw[List.length_map];exact hl)]
def Sk{set:PD→Dv→Option Dv}{F:DF}(Iv:Dv→Prop)(g:PD→Option PD):∀(xs:List PD) (δ:Dv),Iv δ→(∀x∈xs,∀δ,Iv δ→∃δ1,set x δ=some δ1∧((∃r,g x=some r∧F δ1=some (.rt r))∨(g x=none∧∃δ2,F δ1=some (.nx δ2)∧Iv δ2))) →
  (∃r,xs.findSome? g=some r∧Ef set F xs δ=some (.rt r))∨(xs.findSome? g=none∧∃δ',Ef set F xs δ=some (.nx δ')∧Iv δ')
 |[],δ,h,_=>.inr ⟨rfl,δ,rfl,h⟩
 |x::xs,δ,h,k=>by
  obtain⟨δ1,h1,h2⟩:=k x (.head _) δ h;rcases h2 with ⟨r,h3,h4⟩|⟨h3,δ2,h4,h5⟩
  ·refine .inl ⟨r,by rw[List.findSome?_cons,h3],?_⟩;unfold Ef;rw[h1,Option.bind_some,h4]
  ·have e:(x::xs).findSome? g=xs.findSome? g:=by rw[List.findSome?_cons,h3]
   have e2:Ef set F (x::xs) δ=Ef set F xs δ2:=by
    rw[Ef,h1,Option.bind_some,h4]
   rw[e,e2];exact Sk Iv g xs δ2 h5 fun y hy=>k y (.tail _ hy)
def ZC{set:PD→Dv→Option Dv}{F F2:DF}{fs:Dv→Option (List PD)}{δ:Dv}{xs:List PD}{z:PD}(Iv:Dv→Prop)(g:PD→Option PD)(hx:fs δ=some xs)(h0:Iv δ)(hs:∀x∈xs,∀δ,Iv δ→∃δ1,set x δ=some δ1∧((∃r,g x=some r∧F δ1=some (.rt r))∨(g x=none∧∃δ2,F δ1=some (.nx δ2)∧Iv δ2)))
 (k:∀δ',Iv δ'→F2 δ'=some (.rt z)):AX (CM fs set F) F2 δ=some (.rt ((xs.findSome? g).getD z)):=by
 have e:CM fs set F δ=Ef set F xs δ:=by show(fs δ).bind _=_;rw[hx];rfl
 rcases Sk (F:=F) Iv g xs δ h0 hs with ⟨r,h1,h2⟩|⟨h1,δ',h2,h3⟩
 ·rw[h1];exact BF (e.trans h2)
 ·rw[h1];exact AR (e.trans h2) (k δ' h3)
def Ol:∀t:Tr,JV (L2.BK t)=some t
 |.nil=>by rw[L2.BK,JV]
 |.cons b r=>by rw[L2.BK,JV,Hz,Ol b,Ol r];rfl
abbrev kj:MD:=Bc BM 9
abbrev WQ:MD:=Cg kj
def K6:(List.range 6).map (fun k=>WQ [.int ((k+1:Nat):Int)])=(List.range 6).map fun k=>some (CL (TH.tz k)):=by kernel_rfl
def of_is{k:Nat}(h:k<6):WQ [.int ((k+1:Nat):Int)]=some (CL (TH.tz k)):=List.map_inj_left.mp K6 k (af.mpr h)
def fM:Tr→Nat
 |.nil=>1
 |.cons b r=>b.Ah*fM b*fM r
def Sh(u:Tr):Nat:=u.Ah*fM u
abbrev Jc:MD:=BA (BU 9) 9
def Z1:(AL 6).map (fun u=>Jc [tD u])=(AL 6).map fun u=>some (.int ((Sh u:Nat):Int)):=by kernel_rfl
def eo{u:Tr}(h:u∈AL 6):Jc [tD u]=some (.int ((Sh u:Nat):Int)):=List.map_inj_left.mp Z1 u h
def CU(u:Tr):Rat:=Rat.divInt 1 (Sh u:Nat)
def dQ:(AL 6).map (fun u=>AK (CU u))=(AL 6).map fun u=>PyData.tuple [.int 1,.int ((Sh u:Nat):Int)]:=by kernel_rfl
def cw{u:Tr}(h:u∈AL 6):AK (CU u)=.tuple [.int 1,.int ((Sh u:Nat):Int)]:=List.map_inj_left.mp dQ u h
def GR(t:Tb)(u:Tr):Bool:=!decide (Ap t u=CU u)
abbrev gM:MD:=Cf bw
def WO{ps N:List Str}{F:DF}{ds:List PD}{δ:Dv}(hl:ds.length=ps.length)(h:F (Lo N ds)=some (.nx δ)):CV ps N F ds=some .none:=by unfold CV;rw[if_pos hl,h]
def gX{t:Tb}{m:Nat}(o:t.Ok m)(hm:m≤40):gM [AQ t]=some .none:=by
 have f:HN bw (Lo ["thing"] [AQ t])=some (.nx [.d (AQ t)]):=by
  unfold HN;exact Az (Cy (FE (Ai (xs:=[AQ t]) rfl (fm o hm)))) rfl
 exact WO rfl f
abbrev TX:MD:=Bg ZA
abbrev cY:MD:=B4 ZA
def Wo{p q:Rat}(hp:FM.Fits p 190)(hq:FM.Fits q 190):cY [AK p,AK q]=some (AK (p*q)):=by
 refine Bz rfl ?_;unfold Sv;refine B6 (Ai (xs:=[.int (p.num*q.num),.int ((p.den:Int)*q.den)]) (AO (Aa (x:=.int p.num) (y:=.int q.num) rfl rfl (UK hp.1 hq.1 (by decide))) (AO (Aa (x:=.int (p.den:Int)) (y:=.int (q.den:Int)) rfl rfl (UK hp.d hq.d (by decide))) rfl)) ?_);refine(YR (FM.Oy p q) (aK (FM.dd hp hq) (ai (by decide) (by decide)))).trans ?_;rw[FM.Pw]
def Vu{p q:Rat}(hp:FM.Fits p 190)(hq:FM.Fits q 190):TX [AK p,AK q]=some (AK (p+q)):=by
 refine Bz rfl ?_;unfold PF;refine B6 (Ai (xs:=[.int (p.num*q.den+q.num*p.den),.int ((p.den:Int)*q.den)]) (AO (Aa (x:=.int (p.num*q.den)) (y:=.int (q.num*p.den)) (Aa (x:=.int p.num) (y:=.int (q.den:Int)) rfl rfl (UK hp.1 hq.d (by decide))) (Aa (x:=.int q.num) (y:=.int (p.den:Int)) rfl rfl (UK hq.1 hp.d (by decide))) rfl) (AO (Aa (x:=.int (p.den:Int)) (y:=.int (q.den:Int)) rfl rfl (UK hp.d hq.d (by decide))) rfl)) ?_);refine(YR (FM.Oy p q) (aK (FM.dd hp hq) (ai (by decide) (by decide)))).trans ?_;rw[FM.iB]
def GU(row:List Rat)(f:Nat→Rat):Nat→Rat
 |0=>0
 |i+1=>GU row f i+row.getD i 0*f i
def Ci(t:Tb)(k:Nat):List Rat:=t.rs.getD k []
def seenQ(t:Tb):Tr→Nat→Rat
 |.nil,_=>1
 |.cons b r,k=>GU (Ci t k) (seenQ t b) (Ci t k).length*seenQ t r k
abbrev NR(t:Tb)(b:Tr)(k:Nat):Rat:=GU (Ci t k) (seenQ t b) (Ci t k).length
def SK(t:Tb)(k:Nat)(b:Tr):∀xs:List Tr,seenQ t (Tr.of (xs++[b])) k=seenQ t (Tr.of xs) k*NR t b k
 |[]=>by
  show NR t b k*1=1*NR t b k;rw[Rat.mul_one,Rat.one_mul]
 |x::xs=>by
  show NR t x k*seenQ t (Tr.of (xs++[b])) k=NR t x k*seenQ t (Tr.of xs) k*NR t b k;rw[SK t k b xs,Rat.mul_assoc]
def Tb.S7(t:Tb):Prop:=(∀r∈t.rs,∀q∈r,FR 60 420 q)∧∀q∈t.ls,FR 60 420 q
def cN{q:Rat}(h:ME q):FR 60 420 q:=by
 obtain⟨⟨h1,_⟩,h6⟩:=h;have hd:q.den=1∨q.den=2∨q.den=3∨q.den=4∨q.den=5∨q.den=6:=by have:=q.den_nz;lia
 have go:∀(b c:Int),c≠0→(q.den:Int)=b→b*c=60→c.natAbs≤60→FR 60 420 q:=fun b c hc e1 e2 e3=>⟨q.num*c,by
  rw[←e2,Rat.divInt_mul_right hc,←e1];exact(FM.En q).symm,by
  rw[Int.natAbs_mul];exact aW (Nat.mul_le_mul (show q.num.natAbs≤7 by lia) e3) (by decide)⟩
 rcases hd with h|h|h|h|h|h
 ·exact go 1 60 (by decide) (by rw[h];rfl) (by decide) (by decide)
 ·exact go 2 30 (by decide) (by rw[h];rfl) (by decide) (by decide)
 ·exact go 3 20 (by decide) (by rw[h];rfl) (by decide) (by decide)
 ·exact go 4 15 (by decide) (by rw[h];rfl) (by decide) (by decide)
 ·exact go 5 12 (by decide) (by rw[h];rfl) (by decide) (by decide)
 ·exact go 6 10 (by decide) (by rw[h];rfl) (by decide) (by decide)
def dC{t:Tb}(s:t.Sm):t.S7:=⟨fun r hr q hq=>cN (s.1 r hr q hq),fun q hq=>cN (s.2 q hq)⟩
def UY{row:List Rat}{f:Nat→Rat}{m:Int}{c:Nat}(hm:m≠0)(hr:∀q∈row,FR 60 420 q)(hf:∀i,FR m c (f i)):∀i,FR (60*m) (i*(420*c)) (GU row f i)
 |0=>.zero
 |i+1=>by
  have h60:(60*m)≠0:=Int.mul_ne_zero (by decide) hm;have e:FR 60 420 (row.getD i 0):=QC .zero hr i;have:=(UY hm hr hf i).add h60 (e.mul (hf i));exact this.mono (Nat.le_of_eq (Nat.succ_mul i (420*c)).symm)
def Ml{t:Tb}(o:t.Ok 4)(k:Nat):(Ci t k).length≤3∧(k<t.rs.length→(Ci t k).length=k):=by
 unfold Ci;rw[List.getD_eq_getElem?_getD];cases h:t.rs[k]? with
 |none =>
  refine⟨by decide,fun z=>?_⟩;rw[List.getElem?_eq_none_iff]at h
  lia
 |some r =>
  have h1:=o.row k r h;have h2:=(aF.mp h).1;have h3:=o.most;show r.length≤3∧(k<t.rs.length→r.length=k);exact⟨by lia,fun _=>h1⟩
def QZ{t:Tb}(s:t.S7)(k:Nat):∀q∈Ci t k,FR 60 420 q:=by
 unfold Ci;rw[List.getD_eq_getElem?_getD];cases h:t.rs[k]? with
 |none=>exact fun q hq=>nomatch hq
 |some r=>exact s.1 r (aH h)
def Il:∀u:Tr,1≤u.Ah
 |.nil=>by simp[Tr.Ah]
 |.cons b r=>by have:=Il r;simp[Tr.Ah];lia
def MW{t:Tb}(o:t.Ok 4)(s:t.S7):∀(u:Tr) (k:Nat),FR (60^(u.Ah-1)) (1680^(u.Ah-1)) (seenQ t u k)
 |.nil,k=>⟨1,by kernel_rfl,by decide⟩
 |.cons b r,k=>by
  have hb:=Il b;have hr:=Il r;have e1:=UY (Ws (b.Ah-1)) (QZ s k) (MW o s b) (Ci t k).length;have e2:=MW o s r k;have e3:FR (60^b.Ah) (1680^b.Ah) (NR t b k):=by
   rw[←Int.pow_succ',show b.Ah-1+1=b.Ah by lia]at e1;refine e1.mono ?_;have hl:=(Ml o k).1
   calc (Ci t k).length*(420*1680^(b.Ah-1))≤3*(420*1680^(b.Ah-1)):=Nat.mul_le_mul_right _ hl
    _≤1680*1680^(b.Ah-1):=by rw[←Nat.mul_assoc];exact Nat.mul_le_mul_right _ (by decide)
    _=1680^b.Ah:=by rw[←Nat.pow_succ',show(b.Ah-1).succ=b.Ah by lia]
  have:=e3.mul e2;rw[←Int.pow_add,←Nat.pow_add,show b.Ah+(r.Ah-1)=(Tr.cons b r).Ah-1 by show _=b.Ah+r.Ah-1;lia]at this;exact this
def TQ{k c:Nat}(hk:k≤6)(hc:c≤2^20){q:Rat}(h:FR (60^k) (c*1680^k) q):FM.Fits q 190:=by
 refine h.fits (Ws _) ?_ ?_
 ·refine aV (Nat.mul_le_mul hc (ai (by decide) hk)) (by decide)
 ·rw[Int.natAbs_pow];exact aV (ai (by decide) hk) (by decide)
def WK{q:Rat}(h:FR 60 420 q):FM.Fits q 190:=h.fits (by decide) (by decide) (by decide)
def UB{t:Tb}(o:t.Ok 4)(s:t.S7){u:Tr}(hu:u.Ah≤6)(k:Nat):FM.Fits (seenQ t u k) 190:=TQ (k:=u.Ah-1) (c:=1) (by lia) (by decide) (by rw[Nat.one_mul];exact MW o s u k)
def Th{t:Tb}(o:t.Ok 4)(s:t.S7){b:Tr}(hb:b.Ah≤5)(row:List Rat)(hr:∀q∈row,FR 60 420 q){i:Nat}(hi:i≤4):FM.Fits (GU row (seenQ t b) i) 190:=by
 have e1:=UY (Ws (b.Ah-1)) hr (MW o s b) i;rw[←Int.pow_succ',show b.Ah-1+1=b.Ah by have:=Il b;lia]at e1;refine TQ (k:=b.Ah) (c:=1) (by lia) (by decide) (e1.mono ?_);rw[Nat.one_mul]
 calc i*(420*1680^(b.Ah-1))≤4*(420*1680^(b.Ah-1)):=Nat.mul_le_mul_right _ hi
  _=1680*1680^(b.Ah-1):=by rw[←Nat.mul_assoc]
  _=1680^b.Ah:=by rw[←Nat.pow_succ',show(b.Ah-1).succ=b.Ah by have:=Il b;lia]
abbrev XG:Nat→MD:=Cz cY TX
def V4{t:Tb}(o:t.Ok 4)(s:t.S7):∀(n:Nat) (u:Tr),u.deep<n→u.Ah≤5→∀k,k<t.rs.length→XG n [.list (Bx t.rs),tD u,.int (k:Nat)]=some (AK (seenQ t u k))
 |0,_,h,_,_,_=>absurd h (ag _)
 |n+1,u,hd,hu,k,hk=>by
  have hrow:t.rs[k]? = some (Ci t k):=by unfold Ci;rw[List.getD_eq_getElem?_getD,List.getElem?_eq_getElem hk];rfl
  have hlen:=(Ml o k).2 hk;have h4:=o.most;refine Bz rfl ?_;unfold Lw;refine AR (Bu (y:=AK 1) rfl) ?_;refine HB (xs:=u.bs.map tD) (fun i δ=>∃l4 l5 l6 l7:L,δ=[.d (.list (Bx t.rs)),.d (tD u),.d (.int (k:Nat)),.d (AK (seenQ t (Tr.of (u.bs.take i)) k)),l4,l5,l6,l7]) ?_ ⟨_,_,_,_,rfl⟩ ?_ ?_
  ·show some (L2.BK u)=_;have:=Et u.bs;rw[Tr.Oq]at this;rw[this]
  ·rintro i x δ hx ⟨l4,l5,l6,l7,rfl⟩;rw[List.getElem?_map]at hx;obtain⟨b,hb,rfl⟩:=aC.mp hx;have hm:=aH hb;have hbd:=Tr.ZK hm;have hbk:=Tr.YB hm;refine⟨_,rfl,JW (Bu (y:=AK 0) rfl) ?_⟩;have inner:∃δ',CM (Dj Ho (AA (AI Am (nm 0) (nm 2)) AG)) (DV 6 7) (BS 5 (AM TX (AA (nm 5) (AA (AM cY (AA (nm 7) (AA (AM (XG n) (AA (nm 0) (AA (nm 4) (AA (nm 6) AG)))) AG))) AG)))) [.d (.list (Bx t.rs)),.d (tD u),.d (.int (k:Nat)),.d (AK (seenQ t (Tr.of (u.bs.take i)) k)),.d (tD b),.d (AK 0),l6,l7]=some (.nx δ')∧∃l6 l7:L,δ'=[.d (.list (Bx t.rs)),.d (tD u),.d (.int (k:Nat)),.d (AK (seenQ t (Tr.of (u.bs.take i)) k)),.d (tD b),.d (AK (NR t b k)),l6,l7]:=by
    refine Kk (xs:=ER (BH (Ci t k))) (fun j δ=>∃l6 l7:L,δ=[.d (.list (Bx t.rs)),.d (tD u),.d (.int (k:Nat)),.d (AK (seenQ t (Tr.of (u.bs.take i)) k)),.d (tD b),.d (AK (GU (Ci t k) (seenQ t b) j)),l6,l7]) ?_ ⟨_,_,rfl⟩ ?_ ?_
    ·have e:AI Am (nm 0) (nm 2) [.d (.list (Bx t.rs)),.d (tD u),.d (.int (k:Nat)),.d (AK (seenQ t (Tr.of (u.bs.take i)) k)),.d (tD b),.d (AK 0),l6,l7]=some (.list (BH (Ci t k))):=Aa (x:=.list (Bx t.rs)) (y:=.int (k:Nat)) rfl rfl (EV (by unfold Bx;rw[List.getElem?_map,hrow];rfl));show(AA _ AG _).bind Ho=_;rw[AO e rfl]
     rfl
    ·rintro j x δ hx ⟨l6,l7,rfl⟩;obtain⟨y,hy,rfl⟩:=F0 hx;unfold BH at hy;rw[List.getElem?_map]at hy;obtain⟨q,hq,rfl⟩:=aC.mp hy;have hjl:j<(Ci t k).length:=(aF.mp hq).1;have hqg:(Ci t k).getD j 0=q:=by rw[List.getD_eq_getElem?_getD,hq];rfl
     have hqs:=QZ s k q (aH hq);refine⟨_,rfl,_,Bu (y:=AK (GU (Ci t k) (seenQ t b) (j+1))) ?_,_,_,rfl⟩;show _=some (AK (GU (Ci t k) (seenQ t b) j+(Ci t k).getD j 0*seenQ t b j));rw[hqg];have ih:=V4 o s n b (by lia) (by lia) j (by lia);refine Ai (xs:=[AK (GU (Ci t k) (seenQ t b) j),AK (q*seenQ t b j)]) (AO rfl (AO (Ai (xs:=[AK q,AK (seenQ t b j)]) (AO rfl (AO (Ai (xs:=[.list (Bx t.rs),tD b,.int (j:Nat)]) rfl ih) rfl)) (Wo (WK hqs) (UB o s (by lia) j))) rfl)) (Vu (Th o s (by lia) _ (QZ s k) (by lia)) ?_);have e1:=hqs.mul (MW o s b j);rw[←Int.pow_succ',show b.Ah-1+1=b.Ah by have:=Il b;lia]at e1;refine TQ (k:=b.Ah) (c:=1) (by lia) (by decide) (e1.mono ?_);rw[Nat.one_mul]
     calc 420*1680^(b.Ah-1)≤1680*1680^(b.Ah-1):=Nat.mul_le_mul_right _ (by decide)
      _=1680^b.Ah:=by rw[←Nat.pow_succ',show(b.Ah-1).succ=b.Ah by have:=Il b;lia]
    ·rintro δ ⟨l6,l7,rfl⟩;refine⟨l6,l7,?_⟩;have:(ER (BH (Ci t k))).length=(Ci t k).length:=by unfold ER;simp[BH]
     rw[this]
   obtain⟨δ',f1,l6',l7',rfl⟩:=inner;refine JW f1 ⟨_,Bu (y:=AK (seenQ t (Tr.of (u.bs.take (i+1))) k)) ?_,_,_,_,_,rfl⟩;have et:u.bs.take (i+1)=u.bs.take i++[b]:=by rw[List.take_succ,hb];rfl
   rw[et,SK];have hkt:(Tr.of (u.bs.take i)).Ah≤u.Ah:=Qa u i;exact Ai (xs:=[AK (seenQ t (Tr.of (u.bs.take i)) k),AK (NR t b k)]) rfl (Wo (UB o s (by lia) k) (Th o s (by lia) _ (QZ s k) (by lia)))
  ·rintro δ ⟨l4,l5,l6,l7,rfl⟩;rw[List.length_map,List.take_length,Tr.Oq]
   rfl
def fsum:List Rat→(Nat→Rat)→Nat→Rat
 |[],_,_=>0
 |q::row,f,j=>q*f j+fsum row f (j+1)
def Y1(row:List Rat)(f:Nat→Rat):∀i,i≤row.length→GU row f i+fsum (row.drop i) f i=fsum row f 0
 |0,_=>by rw[GU,List.drop_zero,Rat.zero_add]
 |i+1,h=>by
  rw[←Y1 row f i (by lia),GU,List.drop_eq_getElem_cons (show i<row.length by lia),fsum,List.getD_eq_getElem?_getD,List.getElem?_eq_getElem (show i<row.length by lia),Rat.add_assoc]
  rfl
def Ub(row:List Rat)(f:Nat→Rat):GU row f row.length=fsum row f 0:=by
 have:=Y1 row f row.length (aG _)
 rwa [List.drop_length,fsum,Rat.add_zero]at this
def Wi:∀(row L:List Rat) (f:Nat→Rat) (j:Nat),(∀i,i<row.length→L[i]? = some (f (j+i)))→K4 rQ row L=fsum row f j
 |[],L,f,j,_=>rfl
 |q::row,[],f,j,h=>by have:=h 0 (by simp);simp at this
 |q::row,x::L,f,j,h=>by
  have h0:=h 0 (by simp);simp at h0;subst h0;show q*f j+K4 rQ row L=q*f j+fsum row f (j+1);rw[Wi row L f (j+1) fun i hi=>by have:=h (i+1) (by simpa using hi);rw[show j+1+i=j+(i+1) by lia];simpa using this]
def bc{t:Tb}{k:Nat}(hk:k<t.rs.length):(CB t)[k]? = some (Ci t k):=by
 unfold CB Ci;rw[List.getElem?_append_left hk,List.getD_eq_getElem?_getD,List.getElem?_eq_getElem hk];rfl
def Pr{t:Tb}(o:t.Ok 4):∀(u:Tr) (acc:List Rat),acc.length=t.rs.length+1→∀(k:Nat) (q:Rat),k<t.rs.length→acc[k]? = some q→(HV rQ (CB t) u acc)[k]? = some (q*seenQ t u k)
 |.nil,acc,hl,k,q,hk,h=>by
  show acc[k]? = some (q*1);rw[Rat.mul_one];exact h
 |.cons b r,acc,hl,k,q,hk,h=>by
  have lQ:(CB t).length=t.rs.length+1:=by unfold CB;rw[List.length_append];rfl
  have ones:∀j,j<t.rs.length→(HV rQ (CB t) b (List.replicate (CB t).length rQ.o))[j]? = some (seenQ t b j):=fun j hj=>by
   have:=Pr o b (List.replicate (CB t).length rQ.o) (by rw[List.length_replicate,lQ]) j 1 hj (by rw[List.getElem?_replicate,if_pos (by lia)];rfl)
   rwa [Rat.one_mul]at this
  have hlen:=(Ml o k).2 hk;have e:K4 rQ (Ci t k) (HV rQ (CB t) b (List.replicate (CB t).length rQ.o))=NR t b k:=by
   rw[Wi (Ci t k) _ (seenQ t b) 0 fun i hi=>by rw[Nat.zero_add];exact ones i (by lia)];exact(Ub _ _).symm
  have hz:(List.zipWith rQ.mul acc ((CB t).map fun row=>K4 rQ row (HV rQ (CB t) b (List.replicate (CB t).length rQ.o))))[k]? = some (q*NR t b k):=by
   rw[List.getElem?_zipWith,h,List.getElem?_map,bc hk,Option.map_some,e]
   rfl
  have:=Pr o r _ (by rw[List.length_zipWith,List.length_map,hl,lQ,Nat.min_self]) k _ hk hz;show(HV rQ (CB t) r _)[k]? = some (q*(NR t b k*seenQ t r k));rw[this,Rat.mul_assoc]
def ba(t:Tb)(u:Tr):Rat:=GU t.ls (seenQ t u) t.ls.length
def Vy{t:Tb}(o:t.Ok 4){n:Nat}(hf:t.Fits n){u:Tr}(hu:u∈AL 5):ba t u=Ap t u:=by
 have lQ:(CB t).length=t.rs.length+1:=by unfold CB;rw[List.length_append];rfl
 rw[kA o hf hu];unfold ba Lc;rw[Ub,Wi t.ls _ (seenQ t u) 0 fun i hi=>?_];have hl:=o.last;have:=Pr o u (List.replicate (CB t).length rQ.o) (by rw[List.length_replicate,lQ]) i 1 (by lia) (by rw[List.getElem?_replicate,if_pos (by lia)];rfl);rw[Rat.one_mul]at this;rw[Nat.zero_add];exact this
abbrev Jd:MD:=Ax cY TX (XG 9)
def dB{t:Tb}(o:t.Ok 4)(s:t.S7){u:Tr}(hd:u.deep<9)(hu:u.Ah≤5):Jd [AQ t,tD u]=some (AK (ba t u)):=by
 have h4:=o.most;have hl:=o.last;refine Bz rfl ?_;unfold NU;refine AR (Bu (y:=AK 0) rfl) ?_;refine HB (xs:=ER (BH t.ls)) (fun j δ=>∃l3 l4:L,δ=[.d (AQ t),.d (tD u),.d (AK (GU t.ls (seenQ t u) j)),l3,l4]) rfl ⟨_,_,rfl⟩ ?_ ?_
 ·rintro j x δ hx ⟨l3,l4,rfl⟩;obtain⟨y,hy,rfl⟩:=F0 hx;unfold BH at hy;rw[List.getElem?_map]at hy;obtain⟨q,hq,rfl⟩:=aC.mp hy;have hjl:j<t.ls.length:=(aF.mp hq).1;have hqg:t.ls.getD j 0=q:=by rw[List.getD_eq_getElem?_getD,hq];rfl
  have hqs:=s.2 q (aH hq);refine⟨_,rfl,_,Bu (y:=AK (GU t.ls (seenQ t u) (j+1))) ?_,_,_,rfl⟩;show _=some (AK (GU t.ls (seenQ t u) j+t.ls.getD j 0*seenQ t u j));rw[hqg];refine Ai (xs:=[AK (GU t.ls (seenQ t u) j),AK (q*seenQ t u j)]) (AO rfl (AO (Ai (xs:=[AK q,AK (seenQ t u j)]) (AO rfl (AO (Ai (xs:=[.list (Bx t.rs),tD u,.int (j:Nat)]) rfl (V4 o s 9 u hd hu j (by lia))) rfl)) (Wo (WK hqs) (UB o s (by lia) j))) rfl)) (Vu (Th o s hu _ s.2 (by lia)) ?_);have e1:=hqs.mul (MW o s u j);rw[←Int.pow_succ',show u.Ah-1+1=u.Ah by have:=Il u;lia]at e1;refine TQ (k:=u.Ah) (c:=1) (by lia) (by decide) (e1.mono ?_);rw[Nat.one_mul]
  calc 420*1680^(u.Ah-1)≤1680*1680^(u.Ah-1):=Nat.mul_le_mul_right _ (by decide)
   _=1680^u.Ah:=by rw[←Nat.pow_succ',show(u.Ah-1).succ=u.Ah by have:=Il u;lia]
 ·rintro δ ⟨l3,l4,rfl⟩;have:(ER (BH t.ls)).length=t.ls.length:=by unfold ER;simp[BH]
  rw[this]
  rfl
def LW{α:Type}(mul:α→α→α)(row:Nat→Nat→α)(ws:List (List Nat×α))(p:Nat):List (List Nat×α):=ws.flatMap fun w=>(List.range (w.1.getD p 0)).map fun k=>(w.1++[k],mul w.2 (row (w.1.getD p 0) k))
def KZ{α:Type}(mul:α→α→α)(row:Nat→Nat→α)(ls:Nat→α)(m:Nat)(ps:List Nat):List (List Nat×α):=ps.foldl (LW mul row) ((List.range m).map fun k=>([k],ls k))
def Zy:Tr→List Nat→List Nat
 |.nil,acc=>acc
 |.cons b r,acc=>Zy r (acc++[0]++(Zy b []).map (acc.length+1 + ·))
def D6(u:Tr):List Nat:=Zy u []
def eZ:(AL 5).map (fun u=>BX 9 [tD u])=(AL 5).map fun u=>some (PyData.list (E5 (D6 u))):=by kernel_rfl
def TY(m:Nat)(ps:List Nat):List (List Nat×FA):=KZ LZ (fun r k=>[([5*r+k],1)]) (fun k=>[([5*m+k],1)]) m ps
def Xj(p q:FA):Bool:=(IM (XY q) p).isEmpty
def Z5{p q:FA}(h:Xj p q=true)(x:Nat→Rat):Cn x p=Cn x q:=by
 have e:=MX x (XY q) p;unfold Xj at h;rw[List.isEmpty_iff.mp h,dj]at e;have e:(0:Rat)=-Cn x q+Cn x p:=e
 grind
def ZU:([1,2,3,4].all fun m=>(AL 5).all fun u=>Xj (W9 ((TY m (D6 u)).map (·.2))) (Ob m u))=true:=by decide +kernel
def da:([1,2,3,4].all fun m=>(AL 5).all fun u=>(List.range 6).all fun i=>decide ((TY m ((D6 u).take i)).length≤100))=true:=by decide +kernel
def dU:∀u∈AL 5,(D6 u).length+1=u.Ah∧∀i,i<5→∀p,(D6 u)[i]? = some p→p≤i:=by decide +kernel
def E8(t:Tb)(ps:List Nat):List (List Nat×Rat):=KZ (· * ·) (fun r k=>(Ci t r).getD k 0) (fun k=>t.ls.getD k 0) t.rs.length ps
def Lj(m:Nat){α:Type}(ws:List (List Nat×α)):Prop:=∀w∈ws,∀e∈w.1,e<m
def Yq{α:Type}(mul:α→α→α)(row:Nat→Nat→α)(ls:Nat→α)(m:Nat)(ps:List Nat)(p:Nat):KZ mul row ls m (ps++[p])=LW mul row (KZ mul row ls m ps) p:=by
 unfold KZ;rw[List.foldl_append];rfl
def cZ{α:Type}{mul:α→α→α}{row:Nat→Nat→α}{m:Nat}{ws:List (List Nat×α)}(h:Lj m ws)(p:Nat):Lj m (LW mul row ws p):=fun w hw e he=>by
 unfold LW at hw;obtain⟨v,hv,hv2⟩:=List.mem_flatMap.mp hw;obtain⟨k,hk,rfl⟩:=aN.mp hv2;rcases aX.mp he with z|z
 ·exact h v hv e z
 ·rw[List.mem_singleton.mp z];have hk:=af.mp hk;rw[List.getD_eq_getElem?_getD]at hk;cases q:v.1[p]? with
  |none=>rw[q]at hk;exact absurd hk (ag _)
  |some r =>
   rw[q]at hk;have:=h v hv r (aH q);exact Nat.lt_trans hk this
def eL{α:Type}(mul:α→α→α)(row:Nat→Nat→α)(ls:Nat→α)(m:Nat):∀ps:List Nat,Lj m (KZ mul row ls m ps):=by
 have go:∀(ps:List Nat) (ws:List (List Nat×α)),Lj m ws→Lj m (ps.foldl (LW mul row) ws):=fun ps=>by
  induction ps with
  |nil=>intro ws h;exact h
  |cons p ps ih=>intro ws h;exact ih _ (cZ h p)
 intro ps;refine go ps _ fun w hw e he=>?_;obtain⟨k,hk,rfl⟩:=aN.mp hw;rw[List.mem_singleton.mp he];exact af.mp hk
def T7{α β:Type}{f g:α→List β}:∀ {l:List α},(∀a∈l,f a=g a)→l.flatMap f=l.flatMap g
 |[],_=>rfl
 |a::l,h=>by rw[List.flatMap_cons,List.flatMap_cons,h a (.head _),T7 fun b hb=>h b (.tail _ hb)]
def Ul{t:Tb}(o:t.Ok 4):∀ps:List Nat,(TY t.rs.length ps).map (fun w=>(w.1,Cn (xT t) w.2))=E8 t ps:=by
 have h4:=o.most;have st:∀(ws:List (List Nat×FA)) (p:Nat),Lj t.rs.length ws→(LW LZ (fun r k=>[([5*r+k],1)]) ws p).map (fun w=>(w.1,Cn (xT t) w.2))=LW (· * ·) (fun r k=>(Ci t r).getD k 0) (ws.map fun w=>(w.1,Cn (xT t) w.2)) p:=fun ws p hw=>by
  unfold LW;rw[List.map_flatMap,List.flatMap_map];refine T7 fun w hm=>?_;rw[List.map_map];refine ar fun k hk=>?_;have hk:=af.mp hk;show(w.1++[k],Cn (xT t) (LZ w.2 [([5*w.1.getD p 0+k],1)]))=(w.1++[k],Cn (xT t) w.2*(Ci t (w.1.getD p 0)).getD k 0);have hr:w.1.getD p 0<t.rs.length:=by
   rw[List.getD_eq_getElem?_getD]at hk ⊢;cases q:w.1[p]? with
   |none=>rw[q]at hk;exact absurd hk (ag _)
   |some r=>exact hw w hm r (aH q)
  rw[R5,Ui,Xm t (by lia),ZG hr]
  rfl
 have go:∀(ps:List Nat) (ws:List (List Nat×FA)),Lj t.rs.length ws→(ps.foldl (LW LZ (fun r k=>[([5*r+k],1)])) ws).map (fun w=>(w.1,Cn (xT t) w.2))=ps.foldl (LW (· * ·) (fun r k=>(Ci t r).getD k 0)) (ws.map fun w=>(w.1,Cn (xT t) w.2)):=fun ps=>by
  induction ps with
  |nil=>intro ws _;rfl
  |cons p ps ih=>intro ws h;rw[List.foldl_cons,List.foldl_cons,←st ws p h];exact ih _ (cZ h p)
 intro ps;unfold TY E8 KZ;rw[go ps _ fun w hw e he=>by
  obtain⟨k,hk,rfl⟩:=aN.mp hw;rw[List.mem_singleton.mp he];exact af.mp hk]
 congr 1
 rw[List.map_map];refine ar fun k hk=>?_;have hk:=af.mp hk;show([k],Cn (xT t) [([5*t.rs.length+k],1)])=([k],t.ls.getD k 0);rw[Ui,Xm t (by lia),List.getD_eq_getElem?_getD (l:=CB t),Ke]
 rfl
def m4{m:Nat}(h1:1≤m)(h4:m≤4):m∈[1,2,3,4]:=by
 match m,h1,h4 with
 |1,_,_=>exact .head _
 |2,_,_=>exact .tail _ (.head _)
 |3,_,_=>exact .tail _ (.tail _ (.head _))
 |4,_,_=>exact .tail _ (.tail _ (.tail _ (.head _)))
def bT{t:Tb}(o:t.Ok 4){n:Nat}(hf:t.Fits n){u:Tr}(hu:u∈AL 5):((E8 t (D6 u)).map (·.2)).sum=Ap t u:=by
 rw[Wr o hf hu,←Z5 (ao.mp (ao.mp ZU _ (m4 o.one o.most)) u hu) (xT t),WC,←Ul o,List.map_map,List.map_map]
 rfl
def UL{t:Tb}(o:t.Ok 4){u:Tr}(hu:u∈AL 5){i:Nat}(hi:i<6):(E8 t ((D6 u).take i)).length≤100:=by
 rw[←Ul o,List.length_map];exact ab (ao.mp (ao.mp (ao.mp da _ (m4 o.one o.most)) u hu) i (af.mpr hi))
open Classical in
noncomputable def mT(ds:List PD):Option PD:=match ds with
 |[x,y]=>if ∃p q,x=AK p∧y=AK q∧FM.Fits p 400∧FM.Fits q 400 then some (AK (OV x*OV y)) else none
 |_=>none
def kE{p q:Rat}(hp:FM.Fits p 400)(hq:FM.Fits q 400):mT [AK p,AK q]=some (AK (p*q)):=by
 unfold mT;refine(if_pos ⟨p,q,rfl,rfl,hp,hq⟩).trans ?_;rw[Mq,Mq]
section
variable{P:Program}{w:World}{K:Fg}{mg:Str→Option VL}{base:Heap}{CX:JE}{k:Nat}{f:AD}{fd:FuncData}{ps:List Str}
def toT(F:AV P w K mg base CX k f fd ps (iD K (fun p q=>p*q) fun _=>True)):AV P w K mg base CX k f fd ps (BD mT) :=
 MH F fun ds x hm G H vs Q E d e kk=>by
  unfold mT at hm;split at hm
  ·split at hm
   ·rename_i hh;obtain⟨p,q,rfl,rfl,hp,hq⟩:=hh;cases hm;rw[Mq,Mq]at kk;obtain⟨v1,v2,rfl,d1,d2⟩:=d.PK;obtain⟨a,rfl,ha⟩:=(QX (MQ p) (d1.same e)).rat;obtain⟨b,rfl,hb⟩:=(QX (MQ q) (d2.same e)).rat;refine⟨_,_,p,q,400,rfl,.of ha,.of hb,hp,hq,by decide,trivial,fun l H' e' hl'=>?_⟩;obtain⟨G',n1,n2,n3,n4⟩:=W8 e e' hl' (M1 [(p*q).num,((p*q).den:Int)]);exact kk _ G' H' n1 n2 n3 e' n4
   ·cases hm
  ·cases hm
end
abbrev pairD(p:Int×Int):PD:=.tuple [.int p.1,.int p.2]
def b6:PD→Rat
 |.list ds=>(ds.map OV).sum
 |_=>0
open Classical in
noncomputable def UR(ds:List PD):Option PD:=match ds with
 |[x]=>if ∃ps:List (Int×Int),x=.list (ps.map pairD)∧ps.length≤100∧∀p∈ps,1≤p.2∧p.1.natAbs<2^20∧p.2.natAbs<2^20 then some (AK (b6 x)) else none
 |_=>none
def eO{ps:List (Int×Int)}(h1:ps.length≤100)(h2:∀p∈ps,1≤p.2∧p.1.natAbs<2^20∧p.2.natAbs<2^20):UR [.list (ps.map pairD)]=some (AK (ps.map fun p=>Rat.divInt p.1 p.2).sum):=by
 unfold UR;refine(if_pos ⟨ps,rfl,h1,h2⟩).trans ?_;show some (AK ((ps.map pairD).map OV).sum)=_;rw[List.map_map]
 rfl
def kC{G:Hp}{p:Int×Int}{v:V}(h:Du G (pairD p) v):∃c,v=.ref c∧G c=some (.tup [.int p.1,.int p.2]):=by
 rw[Du]at h;obtain⟨c,xs,rfl,h1,h2⟩:=h;obtain⟨x,y,rfl,k1,k2⟩:=h2.PK;rw[Du]at k1 k2;subst k1 k2;exact⟨c,rfl,h1⟩
def jR{P:Program}{w:World}{K:Fg}{mg:Str→Option VL}{base:Heap}{CX:JE}{k:Nat}{f:AD}{fd:FuncData}{ps:List Str}(F:AV P w K mg base CX k f fd ps cG):AV P w K mg base CX k f fd ps (BD UR) :=
 MH F fun ds x hm G H vs Q E d e kk=>by
  unfold UR at hm;split at hm
  ·split at hm
   ·rename_i hh;obtain⟨qs,rfl,h1,h2⟩:=hh;cases hm;obtain⟨v,rfl,d1⟩:=d.Ib;rw[Du]at d1;obtain⟨a,xs,rfl,n1,n2⟩:=d1;have hl:=n2.len;rw[List.length_map]at hl;have ht:b6 (.list (qs.map pairD))=(qs.map fun p=>Rat.divInt p.1 p.2).sum:=by
     show((qs.map pairD).map OV).sum=_;rw[List.map_map];rfl
    rw[ht]at kk;refine⟨a,xs,qs,20,rfl,e _ _ n1,hl,by lia,fun j x p hx hp=>?_,h2,by lia,fun l H' e' hl'=>?_⟩
    ·obtain⟨v,k1,k2⟩:=n2.get (i:=j) (d:=pairD p) (by rw[List.getElem?_map,hp];rfl);rw[hx]at k1;cases k1;obtain⟨c,r1,r2⟩:=kC k2;exact⟨c,r1,e _ _ r2⟩
    ·obtain⟨G',m1,m2,m3,m4⟩:=W8 e e' hl' (M1 [((qs.map fun p=>Rat.divInt p.1 p.2).sum).num,(((qs.map fun p=>Rat.divInt p.1 p.2).sum).den:Int)]);exact kk _ G' H' m1 m2 m3 e' m4
   ·cases hm
  ·cases hm
def Eg(w:List Nat×Rat):PD:=.tuple [.tuple (E5 w.1),AK w.2]
def d8(row:List Rat):ER (BH row)=(List.range row.length).map fun(k:Nat)=>PyData.tuple [.int (k:Int),AK (row.getD k 0)]:=by
 refine List.ext_getElem? fun i=>?_;unfold ER BH;rw[List.getElem?_map,List.getElem?_zipIdx,List.getElem?_map,List.getElem?_map];by_cases h:i<row.length
 ·rw[List.getElem?_range h,List.getElem?_eq_getElem h];simp[List.getD_eq_getElem?_getD,h]
 ·rw[List.getElem?_eq_none (by lia),List.getElem?_eq_none (by rw[List.length_range];lia)]
  rfl
def Su{α:Type}{i j:Nat}{f:Dv→Option PD}{fs:Dv→Option (List PD)}{δ:Dv}{fr:List (Option Nat)}{zs:List α}{a b g:α→PD}(hx:fs δ=some (zs.map fun z=>.tuple [a z,b z]))(hl:zs.length≤Bi)
 (h:∀z∈zs,f (((DQ fr δ).set i (.d (a z))).set j (.d (b z)))=some (g z)):B5 (DV i j) D9 f fr fs δ=some (.list (zs.map g)):=by
 unfold B5 F9;rw[hx,Option.bind_some];have:∀zs:List α,(∀z∈zs,f (((DQ fr δ).set i (.d (a z))).set j (.d (b z)))=some (g z))→L2.collect (IP (DV i j) D9 f (DQ fr δ)) (zs.map fun z=>.tuple [a z,b z])=some (zs.map g):=fun zs=>by
  induction zs with
  |nil=>intro _;rfl
  |cons z zs ih =>
   intro h;rw[List.map_cons];unfold L2.collect;rw[ih fun y hy=>h y (.tail _ hy)];have e:IP (DV i j) D9 f (DQ fr δ) (.tuple [a z,b z])=some (some (g z)):=by
    unfold IP DV;rw[Option.bind_some];show(some true).bind _=_;rw[Option.bind_some,if_pos rfl,h z (.head _)]
    rfl
   rw[e];rfl
 rw[this zs h,Option.bind_some,IZ,if_pos (by rw[List.length_map];exact hl)]
 rfl
def ef{α:Type}(mul:α→α→α)(row:Nat→Nat→α)(ls:Nat→α)(m:Nat):∀(ps:List Nat),∀w∈KZ mul row ls m ps,w.1.length=ps.length+1:=by
 have go:∀(ps:List Nat) (n:Nat) (ws:List (List Nat×α)),(∀w∈ws,w.1.length=n)→∀w∈ps.foldl (LW mul row) ws,w.1.length=ps.length+n:=fun ps=>by
  induction ps with
  |nil=>intro n ws h w hw;rw[List.length_nil,Nat.zero_add];exact h w hw
  |cons p ps ih =>
   intro n ws h w hw;rw[List.length_cons,show ps.length+1+n=ps.length+(n+1) by lia];refine ih (n+1) _ (fun v hv=>?_) w hw;unfold LW at hv;obtain⟨z,hz,hz2⟩:=List.mem_flatMap.mp hv;obtain⟨k,_,rfl⟩:=aN.mp hz2;rw[List.length_append,h z hz];rfl
 intro ps w hw;refine go ps 1 _ (fun v hv=>?_) w hw;obtain⟨k,_,rfl⟩:=aN.mp hv
 rfl
def ZS(n:Nat):FM.Fits 0 (n+1):=⟨Nat.pow_pos (by decide),Nat.one_lt_two_pow (by lia)⟩
def Ux{t:Tb}(s:t.Sm):∀(ps:List Nat),∀w∈E8 t ps,FM.Fits w.2 (3*(ps.length+1)):=by
 have hrow:∀r k,FM.Fits ((Ci t r).getD k 0) 3:=fun r k=>by
  unfold Ci;rw[List.getD_eq_getElem?_getD (l:=t.rs)];cases h:t.rs[r]? with
  |none=>exact ZS 2
  |some row=>exact QC (p:=fun q=>FM.Fits q 3) (ZS 2) (fun q hq=>(s.1 row (aH h) q hq).1) k
 have go:∀(ps:List Nat) (n:Nat) (ws:List (List Nat×Rat)),(∀w∈ws,FM.Fits w.2 (3*n))→∀w∈ps.foldl (LW (· * ·) (fun r k=>(Ci t r).getD k 0)) ws,FM.Fits w.2 (3*(ps.length+n)):=fun ps=>by
  induction ps with
  |nil=>intro n ws h w hw;rw[List.length_nil,Nat.zero_add];exact h w hw
  |cons p ps ih =>
   intro n ws h w hw;rw[List.length_cons,show ps.length+1+n=ps.length+(n+1) by lia];refine ih (n+1) _ (fun v hv=>?_) w hw;unfold LW at hv;obtain⟨z,hz,hz2⟩:=List.mem_flatMap.mp hv;obtain⟨k,_,rfl⟩:=aN.mp hz2;rw[Nat.mul_succ];exact(h z hz).times (hrow _ _)
 intro ps w hw;refine go ps 1 _ (fun v hv=>?_) w hw;obtain⟨k,_,rfl⟩:=aN.mp hv;exact QC (p:=fun q=>FM.Fits q 3) (ZS 2) (fun q hq=>(s.2 q hq).1) k
def cat_t{xs ys:List PD}(h:xs.length+ys.length≤500):Ay (.tuple xs) (.tuple ys)=some (.tuple (xs++ys)):=by
 have e:Q9 (.tuple xs) (.tuple ys)=some (.tuple (xs++ys)):=if_pos (by unfold Bi;lia);unfold Ay Pg;show(match Q9 (.tuple xs) (.tuple ys) with|some z=>some z|none=>Wv (.tuple xs) (.tuple ys))=_;rw[e]
noncomputable abbrev T2:MD:=BZ mT UR (BX 9)
abbrev L9(t:Tb)(p:Nat)(w:List Nat×Rat):List (List Nat×Rat):=(List.range (w.1.getD p 0)).map fun k=>(w.1++[k],w.2*(Ci t (w.1.getD p 0)).getD k 0)
def cT{t:Tb}(o:t.Ok 4)(s:t.Sm){n:Nat}(hf:t.Fits n){u:Tr}(hu:u∈AL 5):T2 [AQ t,tD u]=some (AK (Ap t u)):=by
 have h4:=o.most;have hl:=o.last;obtain⟨pl,pp⟩:=dU u hu;have hk5:=((UW 5 (by decide)).2 u hu).2.1;have hpar:BX 9 [tD u]=some (PyData.list (E5 (D6 u))):=List.map_inj_left.mp eZ u hu;have w0:(List.range t.ls.length).map (fun k=>Eg ([k],t.ls.getD k 0))=(E8 t []).map Eg:=by
  unfold E8 KZ;rw[List.foldl_nil,List.map_map,hl]
  rfl
 refine Bz rfl ?_;unfold Lh;refine AR (Bu (y:=.list ((E8 t []).map Eg)) ?_) ?_
 ·rw[←w0];refine Su (zs:=List.range t.ls.length) (a:=fun(k:Nat)=>.int (k:Int)) (b:=fun k=>AK (t.ls.getD k 0)) ?_ (by rw[List.length_range];unfold Bi;lia) fun k _=>rfl;rw[←d8]
  rfl
 refine HB (xs:=E5 (D6 u)) (fun i δ=>∃l3 l4 l5 l6 l7 l8:L,δ=[.d (AQ t),.d (tD u),.d (.list ((E8 t ((D6 u).take i)).map Eg)),l3,l4,l5,l6,l7,l8]) ?_ ⟨_,_,_,_,_,_,rfl⟩ ?_ ?_
 ·exact MK (x:=.list (E5 (D6 u))) (Ai (xs:=[tD u]) rfl hpar) rfl
 ·rintro i x δ hx ⟨l3,l4,l5,l6,l7,l8,rfl⟩;unfold E5 at hx;rw[List.getElem?_map]at hx;obtain⟨p,hp,rfl⟩:=aC.mp hx;have hi:i<(D6 u).length:=(aF.mp hp).1;have hpi:=pp i (by lia) p hp;have et:(D6 u).take (i+1)=(D6 u).take i++[p]:=by rw[List.take_succ,hp];rfl
  have wl:∀w∈E8 t ((D6 u).take i),w.1.length=i+1:=fun w hw=>by
   have:=ef _ _ _ _ _ w hw;rw[List.length_take,Nat.min_eq_left (by lia)]at this;exact this
  have wf:∀w∈E8 t ((D6 u).take i),FM.Fits w.2 (3*(i+1)):=fun w hw=>by
   have:=Ux s _ w hw;rw[List.length_take,Nat.min_eq_left (by lia)]at this;exact this
  have wo:Lj t.rs.length (E8 t ((D6 u).take i)):=eL _ _ _ _ _;have l1:=UL o hu (i:=i+1) (by lia);have enext:E8 t ((D6 u).take (i+1))=(E8 t ((D6 u).take i)).flatMap (L9 t p):=by
   rw[et];exact Yq _ _ _ _ _ p
  rw[enext]at l1;have enx:∀ws:List (List Nat×Rat),E8 t ((D6 u).take (i+1))=ws.flatMap (L9 t p)→True:=fun _ _=>trivial;rw[enext];generalize E8 t ((D6 u).take i)=ws at wl wf wo l1;have l2:∀j,((ws.take j).flatMap (L9 t p)).length≤100:=fun j=>by
   have:ws.flatMap (L9 t p)=(ws.take j).flatMap (L9 t p)++(ws.drop j).flatMap (L9 t p):=by rw[←List.flatMap_append,List.take_append_drop]
   rw[this,List.length_append]at l1
   lia
  refine⟨_,rfl,JW (δ':=[.d (AQ t),.d (tD u),.d (.list (ws.map Eg)),.d (.int (p:Int)),.own (.lst []),l5,l6,l7,l8]) rfl ?_⟩;have mid:∃δ',CM (B2 (nm 2)) (DV 5 6) (CM (Dj Ho (AA (AI Am (AI Am (nm 0) (fC (.int 0))) (AI Am (nm 5) (nm 3))) AG)) (DV 7 8) (N8 4 (Af (AA (AI Ay (nm 5) (Af (AA (nm 7) AG))) (AA (AM mT (AA (nm 6) (AA (nm 8) AG))) AG))))) [.d (AQ t),.d (tD u),.d (.list (ws.map Eg)),.d (.int (p:Int)),.own (.lst []),l5,l6,l7,l8]=some (.nx δ')∧∃l5 l6 l7 l8:L,δ'=[.d (AQ t),.d (tD u),.d (.list (ws.map Eg)),.d (.int (p:Int)),.own (.lst ((ws.flatMap (L9 t p)).map Eg)),l5,l6,l7,l8]:=by
   refine Kk (xs:=ws.map Eg) (fun j δ=>∃l5 l6 l7 l8:L,δ=[.d (AQ t),.d (tD u),.d (.list (ws.map Eg)),.d (.int (p:Int)),.own (.lst (((ws.take j).flatMap (L9 t p)).map Eg)),l5,l6,l7,l8]) rfl ⟨_,_,_,_,rfl⟩ ?_ ?_
   ·rintro j x δ hx ⟨l5,l6,l7,l8,rfl⟩;rw[List.getElem?_map]at hx;obtain⟨w,hw,rfl⟩:=aC.mp hx;have hm:=aH hw;have hwl:=wl w hm;have hwf:=wf w hm;have hpw:w.1[p]? = some (w.1.getD p 0):=by rw[List.getD_eq_getElem?_getD,List.getElem?_eq_getElem (show p<w.1.length by lia)];rfl
    have hrk:=wo w hm _ (aH hpw);have hj2:=l2 (j+1);have etj:ws.take (j+1)=ws.take j++[w]:=by rw[List.take_succ,hw];rfl
    have efl:(ws.take (j+1)).flatMap (L9 t p)=(ws.take j).flatMap (L9 t p)++L9 t p w:=by rw[etj,List.flatMap_append,List.flatMap_cons,List.flatMap_nil,List.append_nil]
    rw[efl]at hj2 ⊢;have hst:L9 t p w=(List.range (w.1.getD p 0)).map fun k=>(w.1++[k],w.2*(Ci t (w.1.getD p 0)).getD k 0):=rfl;rw[hst]at hj2 ⊢;have hrow:t.rs[w.1.getD p 0]? = some (Ci t (w.1.getD p 0)):=by unfold Ci;rw[List.getD_eq_getElem?_getD (l:=t.rs),List.getElem?_eq_getElem hrk];rfl
    have hrl:=(Ml o (w.1.getD p 0)).2 hrk;have hrs:∀q∈Ci t (w.1.getD p 0),FM.Fits q 3:=fun q hq=>(s.1 _ (aH hrow) q hq).1;generalize w.1.getD p 0=r at hpw hrow hrl hrs hj2 hrk;generalize Ci t r=row at hrow hrl hrs hj2;generalize (ws.take j).flatMap (L9 t p)=pre at hj2;rw[List.length_append,List.length_map,List.length_range]at hj2;refine⟨[.d (AQ t),.d (tD u),.d (.list (ws.map Eg)),.d (.int (p:Int)),.own (.lst (pre.map Eg)),.d (.tuple (E5 w.1)),.d (AK w.2),l7,l8],rfl,?_⟩;refine Kk (xs:=ER (BH row)) (fun k δ=>∃l7 l8:L,δ=[.d (AQ t),.d (tD u),.d (.list (ws.map Eg)),.d (.int (p:Int)),.own (.lst ((pre++(List.range k).map fun k=>(w.1++[k],w.2*row.getD k 0)).map Eg)),.d (.tuple (E5 w.1)),.d (AK w.2),l7,l8]) ?_ ⟨_,_,by rw[List.range_zero,List.map_nil,List.append_nil]⟩ ?_ ?_
    ·have e1:AI Am (nm 5) (nm 3) [.d (AQ t),.d (tD u),.d (.list (ws.map Eg)),.d (.int (p:Int)),.own (.lst (pre.map Eg)),.d (.tuple (E5 w.1)),.d (AK w.2),l7,l8]=some (.int (r:Int)):=Aa (x:=.tuple (E5 w.1)) (y:=.int (p:Int)) rfl rfl (EV (by unfold E5;rw[List.getElem?_map,hpw];rfl));have e2:AI Am (AI Am (nm 0) (fC (.int 0))) (AI Am (nm 5) (nm 3)) [.d (AQ t),.d (tD u),.d (.list (ws.map Eg)),.d (.int (p:Int)),.own (.lst (pre.map Eg)),.d (.tuple (E5 w.1)),.d (AK w.2),l7,l8]=some (.list (BH row)):=Aa (x:=.list (Bx t.rs)) (y:=.int (r:Int)) rfl e1 (EV (by unfold Bx;rw[List.getElem?_map,hrow];rfl));show(AA _ AG _).bind Ho=_;rw[AO e2 rfl]
     rfl
    ·rintro k x δ hx ⟨l7,l8,rfl⟩;obtain⟨y,hy,rfl⟩:=F0 hx;unfold BH at hy;rw[List.getElem?_map]at hy;obtain⟨q,hq,rfl⟩:=aC.mp hy;have hkl:k<row.length:=(aF.mp hq).1;have hqg:row.getD k 0=q:=by rw[List.getD_eq_getElem?_getD,hq];rfl
     have hqf:=hrs q (aH hq);refine⟨_,rfl,_,iZ (y:=Eg (w.1++[k],w.2*row.getD k 0)) (xs:=(pre++(List.range k).map fun k=>(w.1++[k],w.2*row.getD k 0)).map Eg) ?_ rfl ?_,.d (.int (k:Int)),.d (AK q),?_⟩
     ·rw[hqg];refine Ck (xs:=[.tuple (E5 (w.1++[k])),AK (w.2*q)]) (AO (Aa (x:=.tuple (E5 w.1)) (y:=.tuple [.int (k:Int)]) rfl rfl ?_) (AO (Ai (xs:=[AK w.2,AK q]) rfl (kE (hwf.mono (by lia)) (hqf.mono))) rfl)) (by show(2:Nat)≤Bi;decide);rw[cat_t (by unfold E5;rw[List.length_map];simp;lia)];unfold E5;rw[List.map_append]
      rfl
     ·rw[List.length_map,List.length_append,List.length_map,List.length_range];unfold Bi
      lia
     ·have er:(pre++(List.range (k+1)).map fun k=>(w.1++[k],w.2*row.getD k 0)).map Eg=(pre++(List.range k).map fun k=>(w.1++[k],w.2*row.getD k 0)).map Eg++[Eg (w.1++[k],w.2*row.getD k 0)]:=by
       simp only[List.range_succ,List.map_append,List.append_assoc,List.map_cons,List.map_nil]
      rw[er]
      rfl
    ·rintro δ ⟨l7,l8,rfl⟩;have:(ER (BH row)).length=r:=by unfold ER;simp[BH,hrl]
     rw[this];exact⟨_,_,_,_,rfl⟩
   ·rintro δ ⟨l5,l6,l7,l8,rfl⟩;rw[List.length_map,List.take_length];exact⟨_,_,_,_,rfl⟩
  obtain⟨δ',f1,l5',l6',l7',l8',rfl⟩:=mid;exact JW f1 ⟨_,rfl,_,_,_,_,_,_,rfl⟩
 ·rintro δ ⟨l3,l4,l5,l6,l7,l8,rfl⟩;have hn:(E5 (D6 u)).length=(D6 u).length:=List.length_map _;rw[hn,List.take_length];have hlen:(E8 t (D6 u)).length≤100:=by
   have:=UL o hu (i:=(D6 u).length) (by lia)
   rwa [List.take_length]at this
  have hfit:=Ux s (D6 u);have hsum:=bT o hf hu;generalize E8 t (D6 u)=ws at hlen hfit hsum;refine B6 (Ai (xs:=[.list ((ws.map fun w=>(w.2.num,(w.2.den:Int))).map pairD)]) (AO ?_ rfl) ?_)
  ·rw[List.map_map];exact Su (zs:=ws) (a:=fun w=>.tuple (E5 w.1)) (b:=fun w=>AK w.2) rfl (by unfold Bi;lia) fun w _=>rfl
  ·refine(eO (by rw[List.length_map];exact hlen) fun p hp=>?_).trans ?_
   ·obtain⟨w,hw,rfl⟩:=aN.mp hp;have hfw:=(hfit w hw).mono (show 3*((D6 u).length+1)≤20 by lia);exact⟨by have:=w.2.den_nz;show(1:Int)≤(w.2.den:Int);lia,hfw.1,hfw.d⟩
   ·rw[List.map_map,←hsum]
    congr 3
    exact ar fun w _=>FM.En w.2
def Y7(n:Nat):∀k,∃us,AL (n+k)=AL n++us
 |0=>⟨[],by rw[List.append_nil];rfl⟩
 |k+1=>by
  obtain⟨us,h⟩:=Y7 n k;exact⟨us++TH.tz (n+k),by rw[←List.append_assoc,←h];rfl⟩
def bp{u:Tr}(h:u∈AL 5):u∈AL 6:=bK _ h
def Ue:Nat→Tr
 |0=>.nil
 |n+1=>.cons (Ue n) .nil
def jM:∀m,m≤4→1≤m→Ue m∈AL (m+1)∧Ue m∈AL 5∧Ob m (Ue m)=[]∧CU (Ue m)≠0:=by decide +kernel
def fits_of{t:Tb}(s:t.Sm):t.Fits 3:=⟨fun r hr q hq=>(s.1 r hr q hq).1,fun q hq=>(s.2 q hq).1⟩
def SI{t:Tb}(o:t.Ok 4)(s:t.Sm):∃u,u∈AL 5∧(AL 5).find? (GR t)=some u∧(AL 6).find? (GR t)=some u:=by
 have h1:=o.one;have h4:=o.most;obtain⟨c1,c2,c3,c4⟩:=jM t.rs.length h4 h1;have hb:GR t (Ue t.rs.length)=true:=by
  unfold GR;rw[Wr o (fits_of s) c2,c3];have:¬(Cn (xT t) []=CU (Ue t.rs.length)):=fun z=>c4 z.symm;rw[decide_eq_false this]
  rfl
 cases hf:(AL 5).find? (GR t) with
 |none=>exact absurd hb (by simpa using List.find?_eq_none.mp hf _ c2)
 |some u=>exact⟨u,List.mem_of_find?_eq_some hf,rfl,by rw[AL,List.find?_append,hf];rfl⟩
def kP:((AL 5).Pairwise fun u v=>u.Ah≤v.Ah)∧∀u∈AL 5,u∈TH.tz (u.Ah-1)∧1≤u.Ah∧u.Ah≤5:=by decide +kernel
def Mk:∀k,k<6→(∀v∈AL k,v.Ah≤k∧(k<5→v∈AL 5))∧(k<5→∀v∈TH.tz k,v∈AL 5∧v.Ah=k+1)∧(AL k).length≤17∧(k<5→(TH.tz k).length≤9):=by decide +kernel
structure Z4(t:Tb)(k:Nat)(u:Tr):Prop where
 k5:k<5
 z:u∈TH.tz k
 m5:u∈AL 5
 kn:u.Ah=k+1
 good:∀v∈AL 5,v.Ah≤k→Ap t v=CU v
 find:(TH.tz k).find? (GR t)=some u
 bad:Ap t u≠CU u
 f6:(AL 6).find? (GR t)=some u
def jE{t:Tb}{u:Tr}(h:GR t u=false):Ap t u=CU u:=by
 unfold GR at h
 simpa using h
def Xz{t:Tb}{u:Tr}(h:GR t u=true):Ap t u≠CU u:=by
 unfold GR at h
 simpa using h
def i8{t:Tb}(o:t.Ok 4)(s:t.Sm):∃k u,Z4 t k u:=by
 obtain⟨u,hu,f5,f6⟩:=SI o s;obtain⟨z1,z2,z3⟩:=kP.2 u hu;obtain⟨b,as,bs,e,ha⟩:=List.find?_eq_some_iff_append.mp f5;have good:∀v∈AL 5,v.Ah<u.Ah→GR t v=false:=fun v hv hlt=>by
  have pw:=kP.1;rw[e]at hv pw;rcases aX.mp hv with q|q
  ·simpa using ha v q
  ·rcases aJ.mp q with rfl|q
   ·lia
   ·have:=(bQ.mp (List.pairwise_append.mp pw).2.1).1 v q
    lia
 refine⟨u.Ah-1,u,by lia,z1,hu,by lia,fun v hv hl=>jE (good v hv (by lia)),?_,Xz b,f6⟩;obtain⟨us,h5⟩:=Y7 (u.Ah-1+1) (5-(u.Ah-1+1));have e1:AL (u.Ah-1+1)=AL (u.Ah-1)++TH.tz (u.Ah-1):=rfl;rw[show u.Ah-1+1+(5-(u.Ah-1+1))=5 by lia,e1]at h5;rw[h5,List.append_assoc,List.find?_append,List.find?_append]at f5;have n1:(AL (u.Ah-1)).find? (GR t)=none:=List.find?_eq_none.mpr fun v hv=>by
  have:=(Mk (u.Ah-1) (by lia)).1 v hv;rw[good v (this.2 (by lia)) (by lia)]
  decide
 rw[n1,Option.none_or]at f5;cases hf:(TH.tz (u.Ah-1)).find? (GR t) with
 |none=>exact absurd b (by simpa using List.find?_eq_none.mp hf _ z1)
 |some w=>rw[hf,Option.some_or]at f5;exact f5
def We{set:PD→Dv→Option Dv}{F:DF}{r:PD}(Iv:Nat→Dv→Prop):∀(xs:List PD) (n m:Nat) (δ:Dv),Iv m δ→(∀i x δ,i<n→xs[i]? = some x→Iv (m+i) δ→∃δ1,set x δ=some δ1∧∃δ2,F δ1=some (.nx δ2)∧Iv (m+i+1) δ2) →
  (∃x,xs[n]? = some x∧∀δ,Iv (m+n) δ→∃δ1,set x δ=some δ1∧F δ1=some (.rt r))→Ef set F xs δ=some (.rt r)
 |[],n,m,δ,_,_,⟨x,hx,_⟩=>by simp at hx
 |x::xs,0,m,δ,h0,_,⟨y,hy,hn⟩=>by
  have:y=x:=by simpa using hy.symm
  subst this;obtain⟨δ1,a,b⟩:=hn δ h0;rw[Ef,a,Option.bind_some,b]
 |x::xs,n+1,m,δ,h0,hs,⟨y,hy,hn⟩=>by
  obtain⟨δ1,a,δ2,b,c⟩:=hs 0 x δ (by lia) rfl h0;rw[Ef,a,Option.bind_some,b];refine We Iv xs n (m+1) δ2 c (fun i z δ hi hz hI=>?_) ⟨y,by simpa using hy,fun δ hI=>hn δ (by rw[show m+(n+1)=m+1+n by lia];exact hI)⟩;have:=hs (i+1) z δ (by lia) (by simpa using hz) (by rw[show m+(i+1)=m+1+i by lia];exact hI);rw[show m+(i+1)+1=m+1+i+1 by lia]at this;exact this
def UT{set:PD→Dv→Option Dv}{F F2:DF}{fs:Dv→Option (List PD)}{δ:Dv}{xs:List PD}{r:PD}(Iv:Nat→Dv→Prop)(n:Nat)(hx:fs δ=some xs)(h0:Iv 0 δ)(hs:∀i x δ,i<n→xs[i]? = some x→Iv i δ→∃δ1,set x δ=some δ1∧∃δ2,F δ1=some (.nx δ2)∧Iv (i+1) δ2)
 (hn:∃x,xs[n]? = some x∧∀δ,Iv n δ→∃δ1,set x δ=some δ1∧F δ1=some (.rt r)):AX (CM fs set F) F2 δ=some (.rt r):=by
 have e:CM fs set F δ=Ef set F xs δ:=by show(fs δ).bind _=_;rw[hx];rfl
 refine BF (e.trans (We Iv xs n 0 δ h0 (fun i x δ hi hx hI=>?_) ?_))
 ·rw[Nat.zero_add]at hI ⊢;exact hs i x δ hi hx hI
 ·rw[Nat.zero_add];exact hn
def AU(v:Tr):PD:=.tuple [tD v,AK (CU v)]
def CY(t:Tb)(k:Nat)(u:Tr):PD:=.tuple [.int (k:Int),.list ((AL k).map AU),.tuple [tD u,AK (Ap t u)]]
abbrev k7:MD:=Bn 9
abbrev fV:MD:=B8 k7 9
def e7:(AL 5).map (fun u=>fV [tD u])=(AL 5).map fun u=>some (.int ((Sh u:Nat):Int)):=by kernel_rfl
abbrev II:MD:=A0 fV
def Oo{v:Tr}(hv:v∈AL 5):II [tD v]=some (AK (CU v)):=by
 refine Bz rfl ?_;unfold O9;rw[cw (bp hv)];exact B6 (Ck (xs:=[.int 1,.int ((Sh v:Nat):Int)]) (AO rfl (AO (Ai (xs:=[tD v]) rfl (List.map_inj_left.mp e7 v hv)) rfl)) (by show(2:Nat)≤Bi;decide))
abbrev Ac:List PD:=[.list [],CL (TH.tz 0),CL (TH.tz 1),CL (TH.tz 2),CL (TH.tz 3),CL (TH.tz 4)]
def MA{i:Nat}(h:i<5):Ac[i+1]? = some (CL (TH.tz i)):=by
 match i,h with
 |0,_=>rfl
 |1,_=>rfl
 |2,_=>rfl
 |3,_=>rfl
 |4,_=>rfl
def I0{xs ys:List PD}(h:xs.length+ys.length≤500):Ay (.list xs) (.list ys)=some (.list (xs++ys)):=by
 have e:Lp (.list xs) (.list ys)=some (.list (xs++ys)):=if_pos (by unfold Bi;lia);unfold Ay Pg;show(match Lp (.list xs) (.list ys) with|some z=>some z|none=>_)=_;rw[e]
def Ym(t:Tb)(v:Tr):PD:=.tuple [tD v,AK (Ap t v)]
abbrev Vw:MD:=Ee WQ
abbrev cV:MD:=CJ gM
def U6{f:Dv→Option PD}{δ:Dv}{x:PD}(h:f δ=some x):TL f δ=some (.nx δ):=by show(f δ).map _=_;rw[h];rfl
def jx{t:Tb}(o:t.Ok 4):cV [AQ t]=some .none:=by
 have h4:=o.most;have f:GQ gM (Lo ["table"] [AQ t])=some (.nx [.d (AQ t)]):=by
  unfold GQ;refine AR (U6 (Ai (xs:=[AQ t]) rfl (gX o (by decide)))) (Az (BP (x:=.int ((Bx t.rs).length:Nat)) (y:=.int 5) rfl rfl ?_) rfl);show some (PyData.bool (decide ((5:Int)<((Bx t.rs).length:Int))))=_;have hl:=K8 t.rs;rw[decide_eq_false (by lia)]
 exact WO rfl f
def Rb(p q:Rat):BI false (AK p) (AK q)=some (.bool (decide (p=q))):=by
 refine(if_pos ⟨(Gf p).shaped (by decide),(Gf q).shaped (by decide)⟩).trans ?_;rw[Md];rfl
def jP{n:Nat}{x:PD}(h:Ok n x):∀kv,x≠.dict kv:=fun kv e=>by
 subst e;have:=h.1;simp[PyData.canLay0]at this
def gN{n:Nat}{q:PD→Bool}{x:PD}(h:Ok n x):VF q x=some (.bool (q x)):=by
 cases x<;>first|rfl|exact absurd rfl (jP h _)
def OY{n:Nat}{q:PD→Bool}{f:Dv→Option PD}{δ:Dv}{x:PD}(e:f δ=some x)(h:Ok n x):B9 q f δ=some (.bool (q x)):=by
 show(f δ).bind _=_;rw[e];exact gN h
def FL{n:Nat}{q:PD→Bool}{f:Dv→Option PD}{δ:Dv}{x:PD}(e:f δ=some x)(h:Ok n x):Bh (B9 q f) δ=some (q x):=FE (OY e h)
def RX:∀ {xs:List PD} {n:Nat},PyData.canLayAll0 xs=true→PyData.depthAll xs≤n→∀x∈xs,Ok n x
 |[],_,_,_,x,hx=>by cases hx
 |y::ys,n,h1,h2,x,hx=>by
  simp only[PyData.canLayAll0,Bool.and_eq_true]at h1;simp only[PyData.depthAll]at h2;rcases aJ.mp hx with rfl|hx
  ·exact⟨h1.1,by lia⟩
  ·exact RX h1.2 (by lia) x hx
def Hy{n:Nat}{xs:List PD}(h:Ok n (.tuple xs)):∀x∈xs,Ok n x:=by
 obtain⟨h1,h2⟩:=h;simp only[PyData.canLay0]at h1;simp only[PyData.depth]at h2;exact RX h1 (by lia)
def Z6{n:Nat}{xs:List PD}(h:Ok n (.list xs)):∀x∈xs,Ok n x:=by
 obtain⟨h1,h2⟩:=h;simp only[PyData.canLay0]at h1;simp only[PyData.depth]at h2;exact RX h1 (by lia)
def Ld:∀(v:Tr) (xs:List PD),PyData.eqvAll (L2.BK v) xs=true→xs=L2.BK v
 |.nil,[],_=>by rw[L2.BK]
 |.nil,x::xs,h=>by rw[L2.BK]at h;simp[PyData.eqvAll]at h
 |.cons b r,[],h=>by rw[L2.BK]at h;simp[PyData.eqvAll]at h
 |.cons b r,x::xs,h=>by
  rw[L2.BK]at h ⊢;simp only[PyData.eqvAll,Bool.and_eq_true]at h;cases x with
  |tuple ys =>
   simp only[PyData.eqv]at h;rw[Ld b ys h.1,Ld r xs h.2]
  |_=>simp[PyData.eqv]at h
def Ki:∀v:Tr,PyData.canLayAll0 (L2.BK v)=true
 |.nil=>by rw[L2.BK];simp[PyData.canLayAll0]
 |.cons b r=>by rw[L2.BK];simp only[PyData.canLayAll0,PyData.canLay0,Ki b,Ki r,Bool.and_self]
def Gk{ts:List Tr}{a:PD}:D8 (ts.map tD) a=true ↔ ∃v∈ts,a=tD v:=by
 unfold D8;rw[List.any_eq_true];constructor
 ·rintro⟨y,hy,h⟩;obtain⟨v,hv,rfl⟩:=aN.mp hy;refine⟨v,hv,?_⟩;cases a with
  |tuple ys =>
   simp only[PyData.eqv]at h;rw[Ld v ys h]
  |_=>simp[PyData.eqv]at h
 ·rintro⟨v,hv,rfl⟩;exact⟨_,List.mem_map_of_mem hv,Hu _ (by simp only[PyData.canLay0];exact Ki v)⟩
def T5{y:PD}:D7 y=true ↔ ∃q,y=AK q:=by
 constructor
 ·intro h;unfold D7 at h;split at h
  ·rename_i a b;rw[Bool.and_eq_true]at h;have h1:=ab h.1;have h2:FM.gi a b=1:=eq_of_beq h.2;refine⟨⟨a,b.toNat,by lia,?_⟩,?_⟩
   ·unfold FM.gi at h2;have:a.gcd b=1:=by lia
    unfold Nat.Coprime;unfold Int.gcd at this;rw[show b.toNat=b.natAbs by lia];exact this
   ·unfold AK;show PyData.tuple [.int a,.int b]=.tuple [.int a,.int (b.toNat:Int)];rw[Int.toNat_of_nonneg (by lia)]
  ·cases h
 ·rintro⟨q,rfl⟩;have hd:=q.den_nz;have hg:FM.gi q.num (q.den:Int)=1:=by
   have k:=q.reduced;unfold FM.gi;unfold Nat.Coprime at k;rw[show q.num.gcd (q.den:Int)=1 from k]
   rfl
  show(decide (1≤(q.den:Int))&&(FM.gi q.num (q.den:Int)==1))=true;rw[hg,decide_eq_true (by lia)]
  rfl
def P5{p q:Rat}(h:AK p=AK q):p=q:=by
 have:=Md p q;rw[h,Hu _ (MQ q)]at this;exact ab this.symm
def WY(x y:Int):BI true (.int x) (.int y)=some (.bool (!decide (x=y))):=by
 have h:SeqAt.shaped (.int x)=true∧SeqAt.shaped (.int y)=true:=⟨(Ok.int (n:=0)).shaped (by decide),(Ok.int (n:=0)).shaped (by decide)⟩;refine(if_pos h).trans ?_;simp only[PyData.eqv,if_true]
 congr 2
def YO{set:PD→Dv→Option Dv}{F:DF}(Iv:Dv→Prop)(bad:PD→Bool):∀(xs:List PD) (δ:Dv),Iv δ→(∀x∈xs,∀δ,Iv δ→∃δ1,set x δ=some δ1∧((bad x=true∧F δ1=some (.rt (.bool false)))∨(bad x=false∧∃δ2,F δ1=some (.nx δ2)∧Iv δ2))) →
  (∃x∈xs,bad x=true)→Ef set F xs δ=some (.rt (.bool false))
 |[],δ,h,_,⟨x,hx,_⟩=>by cases hx
 |y::xs,δ,h,k,hb=>by
  obtain⟨δ1,h1,h2⟩:=k y (.head _) δ h;unfold Ef;rw[h1,Option.bind_some];rcases h2 with ⟨_,h4⟩|⟨h3,δ2,h4,h5⟩
  ·rw[h4]
  ·rw[h4];refine YO Iv bad xs δ2 h5 (fun z hz=>k z (.tail _ hz)) ?_;obtain⟨x,hx,hb⟩:=hb;rcases aJ.mp hx with rfl|hx
   ·rw[h3]at hb;cases hb
   ·exact⟨x,hx,hb⟩
def Me{set:PD→Dv→Option Dv}{F F2:DF}{fs:Dv→Option (List PD)}{δ:Dv}{xs:List PD}(Iv:Dv→Prop)(bad:PD→Bool)(hx:fs δ=some xs)(h0:Iv δ)(hs:∀x∈xs,∀δ,Iv δ→∃δ1,set x δ=some δ1∧((bad x=true∧F δ1=some (.rt (.bool false)))∨(bad x=false∧∃δ2,F δ1=some (.nx δ2)∧Iv δ2)))
 (hb:∃x∈xs,bad x=true):AX (CM fs set F) F2 δ=some (.rt (.bool false)):=by
 have e:CM fs set F δ=Ef set F xs δ:=by show(fs δ).bind _=_;rw[hx];rfl
 exact BF (e.trans (YO Iv bad xs δ h0 hs hb))
abbrev iH:MD:=CP Vt
def jq{n:Nat}{y:PD}(h:Ok n y):iH [y]=some (.bool (D7 y)):=by
 refine Bz rfl ?_;unfold Jx;by_cases ht:CO y=true
 case neg =>
  have hf:CO y=false:=by simpa using ht
  have:D7 y=false:=by cases y<;>first|rfl|exact absurd rfl ht
  rw[this];exact BF (Bf (E7 (by rw[Cy (FL (f:=nm 0) (x:=y) rfl h),hf];rfl)) rfl)
 obtain⟨ds,rfl⟩:∃ds,y=.tuple ds:=by cases y<;>first|exact⟨_,rfl⟩|cases ht
 have a1:B3 (Bh (B9 CO (nm 0))) [.d (.tuple ds),.no]=some false:=by rw[Cy (FL (f:=nm 0) (x:=.tuple ds) rfl h)];rfl
 by_cases hl:ds.length=2
 case neg =>
  rw[Kr (.inl hl)];refine BF (Bf (Bw a1 (BP (x:=.int (ds.length:Nat)) (y:=.int 2) rfl rfl ((WY _ _).trans ?_))) rfl);rw[decide_eq_false (by lia)]
  rfl
 obtain⟨d0,d1,rfl⟩:∃d0 d1,ds=[d0,d1]:=by
  match ds,hl with
  |[a,b],_=>exact⟨a,b,rfl⟩
 refine AR (δ':=[.d (.tuple [d0,d1]),.no]) (Az (Bw a1 (BP (x:=.int 2) (y:=.int 2) rfl rfl (Gx 2))) rfl) ?_;have o0:=Hy h d0 (.head _);have o1:=Hy h d1 (.tail _ (.head _));have bd:∀(x:PD) (l:L),Ok n x→DX (B3 (Bh (B9 Bk (nm 1)))) (Bh (B9 BR (nm 1))) [l,.d x]=some (!(Bk x && !BR x)):=fun x l hx=>by
  have b1:B3 (Bh (B9 Bk (nm 1))) [l,.d x]=some (!Bk x):=Cy (FL (f:=nm 1) (x:=x) rfl hx);have b2:Bh (B9 BR (nm 1)) [l,.d x]=some (BR x):=FL (f:=nm 1) (x:=x) rfl hx;cases hi:Bk x with
  |false=>rw[hi]at b1;exact E7 b1
  |true =>
   rw[hi]at b1;refine Bw b1 (b2.trans ?_);cases BR x<;>rfl
 have fin:=ZC (set:=EL 1) (F:=Bs (DX (B3 (Bh (B9 Bk (nm 1)))) (Bh (B9 BR (nm 1)))) (A7 (fC (.bool false))) A9) (F2:=A7 (J5 (AI (CH fun i j=>decide (j<i)) (AI Am (nm 0) (fC (.int 1))) (fC (.int 0))) (AI (BI false) (AM Vt (AA (AI Am (nm 0) (fC (.int 0))) (AA (AI Am (nm 0) (fC (.int 1))) AG))) (fC (.int 1))))) (fs:=B2 (nm 0)) (δ:=[.d (.tuple [d0,d1]),.no]) (xs:=[d0,d1]) (z:=.bool (D7 (.tuple [d0,d1]))) (fun δ=>∃l:L,δ=[.d (.tuple [d0,d1]),l]) (fun x=>if(Bk x && !BR x)=true then none else some (.bool false)) rfl ⟨_,rfl⟩;by_cases w:(Bk d0 && !BR d0)=true∧(Bk d1 && !BR d1)=true
 ·obtain⟨i,rfl⟩:=ID w.1;obtain⟨j,rfl⟩:=ID w.2;refine(fin ?_ ?_).trans ?_
  ·rintro x hx δ ⟨l,rfl⟩;refine⟨_,rfl,.inr ?_⟩;have hw:(Bk x && !BR x)=true:=by
    rcases aJ.mp hx with rfl|hx
    ·exact w.1
    ·rw[List.mem_singleton.mp hx];exact w.2
   have ox:Ok n x:=Hy h x hx;have:=bd x (.d (.tuple [.int i,.int j])) ox;rw[hw]at this;exact⟨if_pos hw,_,Az this rfl,_,rfl⟩
  ·rintro δ ⟨l,rfl⟩;have e1:AI (CH fun i j=>decide (j<i)) (AI Am (nm 0) (fC (.int 1))) (fC (.int 0)) [.d (.tuple [.int i,.int j]),l]=some (.bool (decide (0<j))):=rfl;have e2:AI (BI false) (AM Vt (AA (AI Am (nm 0) (fC (.int 0))) (AA (AI Am (nm 0) (fC (.int 1))) AG))) (fC (.int 1)) [.d (.tuple [.int i,.int j]),l]=some (.bool (decide (FM.gi i j=1))):=Aa (x:=.int (FM.gi i j)) (y:=.int 1) rfl rfl (Ko _ _);refine B6 ?_;by_cases hj:0<j
   ·rw[decide_eq_true hj]at e1;refine(Ih e1 e2).trans ?_;show _=some (PyData.bool (decide (1≤j)&&(FM.gi i j==1)));rw[decide_eq_true (show 1≤j by lia)]
    congr 2
   ·rw[decide_eq_false hj]at e1;show(AI _ _ _ _).bind _=_;rw[e1];show some (PyData.bool false)=some (PyData.bool (decide (1≤j)&&(FM.gi i j==1)));rw[decide_eq_false (show ¬1≤j by lia)]
    rfl
  ·rfl
 ·have hnf:D7 (.tuple [d0,d1])=false:=Kr (.inr ⟨d0,d1,rfl,by
   cases h0:(Bk d0 && !BR d0) with
   |false=>exact .inl rfl
   |true =>
    cases h1:(Bk d1 && !BR d1) with
    |false=>exact .inr rfl
    |true=>exact absurd ⟨h0,h1⟩ w⟩)
  rw[hnf]at fin ⊢;refine(Me (set:=EL 1) (fs:=B2 (nm 0)) (xs:=[d0,d1]) (fun δ=>∃l:L,δ=[.d (.tuple [d0,d1]),l]) (fun x=>!(Bk x && !BR x)) rfl ⟨_,rfl⟩ ?_ ?_)
  ·rintro x hx δ ⟨l,rfl⟩;refine⟨_,rfl,?_⟩;have ox:Ok n x:=Hy h x hx;have:=bd x (.d (.tuple [d0,d1])) ox;cases hw:(Bk x && !BR x) with
   |true=>rw[hw]at this;exact .inr ⟨rfl,_,Az this rfl,_,rfl⟩
   |false=>rw[hw]at this;exact .inl ⟨rfl,Bf this rfl⟩
  ·cases h0:(Bk d0 && !BR d0) with
   |false=>exact⟨d0,.head _,by rw[h0];rfl⟩
   |true =>
    cases h1:(Bk d1 && !BR d1) with
    |false=>exact⟨d1,.tail _ (.head _),by rw[h1];rfl⟩
    |true=>exact absurd ⟨h0,h1⟩ w
abbrev kM:MD:=mB D7
abbrev SS:MD:=C1 kM
def EY(ts:List Tr):PD→Bool
 |.tuple [a,b]=>D8 (ts.map tD) a&&D7 b
 |_=>false
def IC{ts:List Tr}{x:PD}:EY ts x=true ↔ ∃v∈ts,∃q,x=.tuple [tD v,AK q]:=by
 constructor
 ·intro h;unfold EY at h;split at h
  ·rw[Bool.and_eq_true]at h;obtain⟨v,hv,rfl⟩:=Gk.mp h.1;obtain⟨q,rfl⟩:=T5.mp h.2;exact⟨v,hv,q,rfl⟩
  ·cases h
 ·rintro⟨v,hv,q,rfl⟩;show(D8 (ts.map tD) (tD v)&&D7 (AK q))=true;rw[Gk.mpr ⟨v,hv,rfl⟩,T5.mpr ⟨q,rfl⟩]
  rfl
def U1{n:Nat}{ts:List Tr}{a:PD}(neg:Bool)(hs:SeqAt.shaped (CL ts)=true)(h:Ok n a)(hn:n≤64):JS neg a (CL ts)=some (.bool (if neg then !D8 (ts.map tD) a else D8 (ts.map tD) a)):=by
 have e:L2.BK (Tr.of ts)=ts.map tD:=Et ts;unfold CL at hs ⊢;unfold JS;show(if _ then _ else _)=_;rw[if_pos ⟨h.shaped hn,hs⟩,e]
def Lm{n:Nat}{x:PD}(m:Nat)(h:Ok n x):(CO x=false)∨(∃ds,x=.tuple ds∧ds.length≠m)∨∃ds,x=.tuple ds∧ds.length=m:=by
 cases x with
 |tuple ds =>
  by_cases e:ds.length=m
  ·exact .inr (.inr ⟨ds,rfl,e⟩)
  ·exact .inr (.inl ⟨ds,rfl,e⟩)
 |_=>exact .inl rfl
def Ni{ds:List PD}{m:Nat}(h:ds.length≠m):BI true (.int (ds.length:Nat)) (.int (m:Nat))=some (.bool true):=by
 rw[WY,decide_eq_false (by lia)];rfl
def bz{n:Nat}{ts:List Tr}{x:PD}(hs:SeqAt.shaped (CL ts)=true)(h:Ok n x)(hn:n≤64):SS [x,CL ts]=some (.bool (EY ts x)):=by
 refine Bz rfl ?_;unfold SH;have b0:B3 (Bh (B9 CO (nm 0))) [.d x,.d (CL ts)]=some (!CO x):=Cy (FL (f:=nm 0) (x:=x) rfl h);rcases Lm 2 h with hf|⟨ds,rfl,hl⟩|⟨ds,rfl,hl⟩
 ·rw[hf]at b0;have:EY ts x=false:=by cases x<;>first|rfl|cases hf
  rw[this];exact BF (Bf (E7 b0) rfl)
 ·have:EY ts (.tuple ds)=false:=by
   match ds,hl with
   |[],_=>rfl
   |[_],_=>rfl
   |[_,_],hl=>exact absurd rfl hl
   |_::_::_::_,_=>rfl
  rw[this];exact BF (Bf (Bw b0 (BP (x:=.int (ds.length:Nat)) (y:=.int 2) rfl rfl (Ni hl))) rfl)
 ·match ds,hl with
  |[a,b],_ =>
   have oa:=Hy h a (.head _);have ob:=Hy h b (.tail _ (.head _));refine AR (δ':=[.d (.tuple [a,b]),.d (CL ts)]) (Az (Bw b0 (BP (x:=.int 2) (y:=.int 2) rfl rfl (Gx 2))) rfl) (B6 ?_);have e1:AI (JS false) (AI Am (nm 0) (fC (.int 0))) (nm 1) [.d (.tuple [a,b]),.d (CL ts)]=some (.bool (D8 (ts.map tD) a)):=Aa (x:=a) (y:=CL ts) rfl rfl (U1 false hs oa hn);have e2:AM kM (AA (AI Am (nm 0) (fC (.int 1))) AG) [.d (.tuple [a,b]),.d (CL ts)]=some (.bool (D7 b)):=Ai (xs:=[b]) rfl (jN ob.1);show _=some (PyData.bool (D8 (ts.map tD) a&&D7 b));cases ha:D8 (ts.map tD) a with
   |true=>rw[ha]at e1;exact Ih e1 e2
   |false =>
    rw[ha]at e1;show(AI _ _ _ _).bind _=_;rw[e1]
    rfl
abbrev T9:MD:=C0 iH
def MR{i:Nat}{c:Dv→Option Bool}{δ:Dv}{P:PD→Bool}:∀ {xs:List PD},(∀x∈xs,c (δ.set i (.d x))=some (P x))→i<δ.length→L2.collect (IP (Cq i) c (nm i) δ) xs=some (xs.filter P)
 |[],_,_=>rfl
 |x::xs,h,hi=>by
  unfold L2.collect;rw[MR (fun y hy=>h y (.tail _ hy)) hi];have e:IP (Cq i) c (nm i) δ x=some (if P x=true then some x else none):=by
   unfold IP Cq;rw[Option.bind_some,h x (.head _),Option.bind_some];cases P x with
   |false=>rfl
   |true =>
    show((nm i (δ.set i (.d x))).map some)=_;have:nm i (δ.set i (.d x))=some x:=by
     unfold nm;rw[List.getElem?_set_self hi]
    rw[this]
    rfl
  rw[e,Option.bind_some,List.filter_cons];cases P x<;>rfl
def Po{i:Nat}{c:Dv→Option Bool}{δ:Dv}{fr:List (Option Nat)}{fs:Dv→Option (List PD)}{P:PD→Bool}{xs:List PD}(hx:fs δ=some xs)(h:∀x∈xs,c ((DQ fr δ).set i (.d x))=some (P x))(hi:i<(DQ fr δ).length)(hl:xs.length≤500):B5 (Cq i) c (nm i) fr fs δ=some (.list (xs.filter P)):=by
 show(F9 _ _ _ _ _ _).map PyData.list=_;unfold F9;rw[hx,Option.bind_some,MR h hi,Option.bind_some,IZ,if_pos (show(xs.filter P).length≤Bi from aW (List.length_filter_le _ _) (by unfold Bi;lia))]
 rfl
def ne_nil{n:Nat}{xs:List PD}(h:∀x∈xs,Ok n x)(hn:n<64):BI true (.list xs) (.list [])=some (.bool (decide (xs≠[]))):=by
 have o1:SeqAt.shaped (.list xs)=true:=(L4 h).shaped (by lia);have o2:SeqAt.shaped (.list [])=true:=by decide +kernel
 refine(if_pos ⟨o1,o2⟩).trans ?_;cases xs with
 |nil=>simp[PyData.eqv,PyData.eqvAll]
 |cons x xs=>simp[PyData.eqv,PyData.eqvAll]
def P0:List (List Tr):=[[],TH.tz 0,TH.tz 1,TH.tz 2,TH.tz 3,TH.tz 4]
def Wm:Ac=P0.map CL:=by kernel_rfl
def la:∀ts∈P0,SeqAt.shaped (CL ts)=true:=by decide +kernel
def mD:∀ts∈P0,(CL ts).canLay0=true∧(CL ts).depth≤20:=by decide +kernel
def j9:∀ts∈P0,∀v∈ts,v∈AL 5:=by decide +kernel
def jh:∀v∈AL 5,∃ts∈P0,v∈ts:=by decide +kernel
def je{a:PD}:((P0.map CL).filter fun y=>match y with|.list es=>D8 es a|_=>false)≠[] ↔ ∃v∈AL 5,a=tD v:=by
 have un:∀ts:List Tr,(match CL ts with|.list es=>D8 es a|_=>false)=D8 (ts.map tD) a:=fun ts=>by
  have e:L2.BK (Tr.of ts)=ts.map tD:=Et ts;show D8 (L2.BK (Tr.of ts)) a=_;rw[e]
 constructor
 ·intro h;obtain⟨y,hy⟩:=List.exists_mem_of_ne_nil _ h;obtain⟨hy,hb⟩:=bR.mp hy;obtain⟨ts,ht,rfl⟩:=aN.mp hy;rw[un]at hb;obtain⟨v,hv,rfl⟩:=Gk.mp hb;exact⟨v,j9 ts ht v hv,rfl⟩
 ·rintro⟨v,hv,rfl⟩ h;obtain⟨ts,ht,hm⟩:=jh v hv;have:CL ts∈(P0.map CL).filter fun y=>match y with|.list es=>D8 es (tD v)|_=>false:=bR.mpr ⟨List.mem_map_of_mem ht,by rw[un];exact Gk.mpr ⟨v,hm,rfl⟩⟩
  rw[h]at this;cases this
def cA{n:Nat}{x:PD}(h:Ok n x)(hn:n<64):T9 [x,.list Ac]=some (.bool (EY (AL 5) x)):=by
 refine Bz rfl ?_;unfold MG;have b0:B3 (Bh (B9 CO (nm 0))) [.d x,.d (.list Ac)]=some (!CO x):=Cy (FL (f:=nm 0) (x:=x) rfl h);rcases Lm 2 h with hf|⟨ds,rfl,hl⟩|⟨ds,rfl,hl⟩
 ·rw[hf]at b0;have:EY (AL 5) x=false:=by cases x<;>first|rfl|cases hf
  rw[this];exact BF (Bf (E7 b0) rfl)
 ·have:EY (AL 5) (.tuple ds)=false:=by
   match ds,hl with
   |[],_=>rfl
   |[_],_=>rfl
   |[_,_],hl=>exact absurd rfl hl
   |_::_::_::_,_=>rfl
  rw[this];exact BF (Bf (Bw b0 (E7 (BP (x:=.int (ds.length:Nat)) (y:=.int 2) rfl rfl (Ni hl)))) rfl)
 ·match ds,hl with
  |[a,b],_ =>
   have oa:=Hy h a (.head _);have ob:=Hy h b (.tail _ (.head _));have e2:B3 (Bh (AM iH (AA (AI Am (nm 0) (fC (.int 1))) AG))) [.d (.tuple [a,b]),.d (.list Ac)]=some (!D7 b):=Cy (FE (Ai (xs:=[b]) rfl (jq ob)));show _=some (Ou.rt (PyData.bool (D8 ((AL 5).map tD) a&&D7 b)));cases hb:D7 b with
   |false =>
    rw[hb]at e2;rw[Bool.and_false];exact BF (Bf (Bw b0 (Bw (BP (x:=.int 2) (y:=.int 2) rfl rfl (Gx 2)) e2)) rfl)
   |true =>
    rw[hb]at e2;rw[Bool.and_true];refine AR (δ':=[.d (.tuple [a,b]),.d (.list Ac)]) (Az (Bw b0 (Bw (BP (x:=.int 2) (y:=.int 2) rfl rfl (Gx 2)) e2)) rfl) (B6 ?_);have e3:B9 CO (AI Am (nm 0) (fC (.int 0))) [.d (.tuple [a,b]),.d (.list Ac)]=some (.bool (CO a)):=OY (x:=a) rfl oa;have e4:B5 (Cq 1) (Al (JS false) (AI Am (nm 2) (fC (.int 0))) (nm 1)) (nm 1) [none,none,some 0] (B2 (nm 1)) [.d (.tuple [a,b]),.d (.list Ac)]=some (.list (Ac.filter fun y=>match y with|.list es=>D8 es a|_=>false)):=by
     refine Po rfl (fun y hy=>?_) (by show(1:Nat)<3;decide) (by show(6:Nat)≤500;decide);rw[Wm]at hy;obtain⟨ts,ht,rfl⟩:=aN.mp hy;refine BP (x:=a) (y:=CL ts) rfl rfl ((U1 false (la ts ht) oa (by lia)).trans ?_);have e:L2.BK (Tr.of ts)=ts.map tD:=Et ts;show some (PyData.bool (D8 (ts.map tD) a))=some (PyData.bool (D8 (L2.BK (Tr.of ts)) a));rw[e]
    have o4:∀y∈Ac.filter (fun y=>match y with|.list es=>D8 es a|_=>false),Ok 20 y:=fun y hy=>by
     have hy:=(bR.mp hy).1;rw[Wm]at hy;obtain⟨ts,ht,rfl⟩:=aN.mp hy;exact mD ts ht
    have e5:AI (BI true) (B5 (Cq 1) (Al (JS false) (AI Am (nm 2) (fC (.int 0))) (nm 1)) (nm 1) [none,none,some 0] (B2 (nm 1))) (BW AG) [.d (.tuple [a,b]),.d (.list Ac)]=some (.bool (D8 ((AL 5).map tD) a)):=by
     refine Aa (y:=.list []) e4 rfl ((ne_nil o4 (by decide)).trans ?_)
     congr 2
     rw[Bool.eq_iff_iff,decide_eq_true_eq,Gk,Wm];exact je
    cases ht:CO a with
    |true=>rw[ht]at e3;exact Ih e3 e5
    |false =>
     rw[ht]at e3;have:D8 ((AL 5).map tD) a=false:=by
      rw[Bool.eq_false_iff];intro z;obtain⟨v,_,rfl⟩:=Gk.mp z;cases ht
     rw[this];show(B9 _ _ _).bind _=_;rw[e3]
     rfl
def LA{u v:Tr}(h:tD u=tD v):u=v:=by
 have h1:L2.BK u=L2.BK v:=by injection h
 have h2:=Ol u;rw[h1,Ol v]at h2;exact(aa h2).symm
def ma:(List.range 6).map (fun k=>Vw [.int ((k:Nat):Int)])=(List.range 6).map fun k=>some (CL (AL k)):=by kernel_rfl
def iK{k:Nat}(h:k<6):Vw [.int ((k:Nat):Int)]=some (CL (AL k)):=List.map_inj_left.mp ma k (af.mpr h)
def Zr:∀k,k<6→∀v∈AL k,v∈AL 5:=by decide +kernel
def mE:∀v∈AL 5,SeqAt.shaped (CL [v])=true:=by decide +kernel
def fI:∀k,k<5→SeqAt.shaped (CL (TH.tz k))=true:=by decide +kernel
def UM{v:Tr}(hv:v∈AL 5){g:Dv→Option PD}{δ:Dv}(h:g δ=some (tD v)):Af (AA (fC (.int 1)) (AA (AM Jc (AA g AG)) AG)) δ=some (AK (CU v)):=by
 rw[cw (bp hv)];exact Ck (xs:=[.int 1,.int ((Sh v:Nat):Int)]) (AO rfl (AO (Ai (xs:=[tD v]) (AO h rfl) (eo (bp hv))) rfl)) (by show(2:Nat)≤Bi;decide)
open Classical in
noncomputable def Tx(t:Tb)(v:Tr)(x:PD):Bool:=decide (x=AU v∧Ap t v=CU v)
def Z2(v:Tr):EY [v] (AU v)=true:=IC.mpr ⟨v,.head _,_,rfl⟩
open Classical in
def Wc{t:Tb}(o:t.Ok 4)(s:t.Sm){v:Tr}(hv:v∈AL 5){x:PD}(hx:Ok 40 x)(a b:L):DX (B3 (Bh (AM SS (AA (nm 4) (AA (BW (AA (nm 3) AG)) AG))))) (DX (Al (BI true) (AI Am (nm 4) (fC (.int 1))) (Af (AA (fC (.int 1)) (AA (AM Jc (AA (nm 3) AG)) AG)))) (Al (BI true) (AI Am (nm 4) (fC (.int 1))) (AM T2 (AA (nm 0) (AA (nm 3) AG))))) [.d (AQ t),a,b,.d (tD v),.d x]=some (!Tx t v x):=by
 have e1:B3 (Bh (AM SS (AA (nm 4) (AA (BW (AA (nm 3) AG)) AG)))) [.d (AQ t),a,b,.d (tD v),.d x]=some (!EY [v] x):=Cy (FE (Ai (xs:=[x,CL [v]]) rfl (bz (mE v hv) hx (by decide))));by_cases l:EY [v] x=true
 ·rw[l]at e1;obtain⟨w,hw,q,rfl⟩:=IC.mp l;rw[List.mem_singleton.mp hw]at *;refine Bw e1 ?_;have e2:Al (BI true) (AI Am (nm 4) (fC (.int 1))) (Af (AA (fC (.int 1)) (AA (AM Jc (AA (nm 3) AG)) AG))) [.d (AQ t),a,b,.d (tD v),.d (.tuple [tD v,AK q])]=some (!decide (q=CU v)):=BP (x:=AK q) (y:=AK (CU v)) rfl (UM hv rfl) (MS _ _);have e3:Al (BI true) (AI Am (nm 4) (fC (.int 1))) (AM T2 (AA (nm 0) (AA (nm 3) AG))) [.d (AQ t),a,b,.d (tD v),.d (.tuple [tD v,AK q])]=some (!decide (q=Ap t v)):=BP (x:=AK q) (y:=AK (Ap t v)) rfl (Ai (xs:=[AQ t,tD v]) rfl (cT o s (fits_of s) hv)) (MS _ _);have key:Tx t v (.tuple [tD v,AK q])=(decide (q=CU v)&&decide (q=Ap t v)):=by
   unfold Tx;rw[Bool.eq_iff_iff,decide_eq_true_eq,Bool.and_eq_true,decide_eq_true_eq,decide_eq_true_eq];constructor
   ·rintro⟨h1,h2⟩;have:AK q=AK (CU v):=by
     unfold AU at h1
     injection h1 with h1
     injection h1 with _ h1
     injection h1
    have:=P5 this;exact⟨this,this.trans h2.symm⟩
   ·rintro⟨h1,h2⟩;exact⟨by rw[h1];rfl,h2.symm.trans h1⟩
  rw[key];by_cases z:q=CU v
  ·rw[decide_eq_true z]at e2;rw[decide_eq_true z,Bool.true_and];exact Bw e2 e3
  ·rw[decide_eq_false z]at e2;rw[decide_eq_false z];exact E7 e2
 ·have hf:EY [v] x=false:=by simpa using l
  rw[hf]at e1;have:Tx t v x=false:=aZ fun z=>l (by rw[z.1];exact Z2 v);rw[this];exact E7 e1
noncomputable abbrev T4:MD:=Cp Jc SS T2
def SW{n:Nat}{x:PD}(h:Ok n x):GC x=false∨∃xs,x=.list xs:=by
 cases x with
 |list xs=>exact .inr ⟨xs,rfl⟩
 |_=>exact .inl rfl
def YD{t:Tb}{vs:List Tr}{xs:List PD}(hl:xs.length=vs.length):(∀(i:Nat) v x,vs[i]? = some v→xs[i]? = some x→x=AU v∧Ap t v=CU v) ↔ (PyData.list xs=.list (vs.map AU)∧∀v∈vs,Ap t v=CU v):=by
 constructor
 ·intro h;refine⟨aj PyData.list (List.ext_getElem? fun i=>?_),fun v hv=>?_⟩
  ·rw[List.getElem?_map];by_cases hi:i<xs.length
   ·have e1:=aM hi;have e2:=aM (l:=vs) (i:=i) (by lia);rw[e1,e2];exact aj some (h i _ _ e2 e1).1
   ·rw[List.getElem?_eq_none (by lia),List.getElem?_eq_none (by lia)];rfl
  ·obtain⟨i,hi⟩:=List.mem_iff_getElem?.mp hv;have hb:i<xs.length:=by have:=(aF.mp hi).1;lia
   exact(h i v _ hi (aM hb)).2
 ·rintro⟨h1,h2⟩ i v x hv hx;have h1:xs=vs.map AU:=by injection h1
  rw[h1,List.getElem?_map,hv]at hx;cases hx;exact⟨rfl,h2 v (aH hv)⟩
open Classical in
def jc{t:Tb}(o:t.Ok 4)(s:t.Sm){k:Nat}(hk:k<6){ls:PD}(h:Ok 40 ls):∃b,T4 [AQ t,CL (AL k),ls]=some (.bool b)∧(b=true ↔ (ls=.list ((AL k).map AU)∧∀v∈AL k,Ap t v=CU v)):=by
 have er:L2.BK (Tr.of (AL k))=(AL k).map tD:=Et _;have b0:B3 (Bh (B9 GC (nm 2))) [.d (AQ t),.d (CL (AL k)),.d ls,.no,.no]=some (!GC ls):=Cy (FL (f:=nm 2) (x:=ls) rfl h);have run:∀b,EA Jc SS T2 [.d (AQ t),.d (CL (AL k)),.d ls,.no,.no]=some (.rt (.bool b))→T4 [AQ t,CL (AL k),ls]=some (.bool b):=fun b hb=>Bz rfl hb;rcases SW h with hf|⟨xs,rfl⟩
 ·refine⟨false,run _ ?_,by simp;rintro rfl;cases hf⟩;unfold EA;rw[hf]at b0;exact BF (Bf (E7 b0) rfl)
 have ln:AM DJ (AA (nm 1) AG) [.d (AQ t),.d (CL (AL k)),.d (.list xs),.no,.no]=some (.int ((AL k).length:Nat)):=by
  show some (PyData.int ((L2.BK (Tr.of (AL k))).length:Nat))=_;rw[er,List.length_map]
 by_cases hl:xs.length=(AL k).length
 case neg =>
  refine⟨false,run _ ?_,by
   simp only[Bool.false_eq_true,false_iff];rintro⟨e,_⟩
   injection e with e
   exact hl (by rw[e,List.length_map])⟩
  unfold EA;exact BF (Bf (Bw b0 (BP (x:=.int (xs.length:Nat)) (y:=.int ((AL k).length:Nat)) rfl ln (Ni hl))) rfl)
 have pre:∀(F:DF) (r:Option Ou),F [.d (AQ t),.d (CL (AL k)),.d (.list xs),.no,.no]=r→AX (Bs (DX (B3 (Bh (B9 GC (nm 2)))) (Al (BI true) (AM DJ (AA (nm 2) AG)) (AM DJ (AA (nm 1) AG)))) (A7 (fC (.bool false))) A9) F [.d (AQ t),.d (CL (AL k)),.d (.list xs),.no,.no]=r:=fun F r hF=>AR (δ':=[.d (AQ t),.d (CL (AL k)),.d (.list xs),.no,.no]) (Az (Bw b0 (BP (x:=.int (xs.length:Nat)) (y:=.int (xs.length:Nat)) rfl (ln.trans (by rw[hl])) (Gx _))) rfl) hF;have hz:Dj zip2 (AA (nm 1) (AA (nm 2) AG)) [.d (AQ t),.d (CL (AL k)),.d (.list xs),.no,.no]=some (J6 ((AL k).map tD) xs):=by
  show some (J6 (L2.BK (Tr.of (AL k))) xs)=_;rw[er]
 have item:∀y∈J6 ((AL k).map tD) xs,∃(i:Nat) (v:Tr) (x:PD),(AL k)[i]? = some v∧xs[i]? = some x∧y=.tuple [tD v,x]:=fun y hy=>by
  obtain⟨i,hi⟩:=List.mem_iff_getElem?.mp hy;obtain⟨a,b,h1,h2,rfl⟩:=QG hi;rw[List.getElem?_map]at h1;obtain⟨v,hv,rfl⟩:=aC.mp h1;exact⟨i,v,b,hv,h2,rfl⟩
 have al:=YD (t:=t) hl;have okx:∀(i:Nat) x,xs[i]? = some x→Ok 40 x:=fun i x hx=>Z6 h x (aH hx);by_cases g:∀(i:Nat) v x,(AL k)[i]? = some v→xs[i]? = some x→x=AU v∧Ap t v=CU v
 ·refine⟨true,run _ ?_,by simp only[true_iff];exact al.mp g⟩;unfold EA;refine pre _ _ (HB (xs:=J6 ((AL k).map tD) xs) (fun i δ=>∃l l':L,δ=[.d (AQ t),.d (CL (AL k)),.d (.list xs),l,l']) hz ⟨_,_,rfl⟩ ?_ ?_)
  ·rintro i y δ hy ⟨l,l',rfl⟩;obtain⟨j,v,x,hv,hx,rfl⟩:=item y (aH hy);have hv5:=Zr k hk v (aH hv);have e:=Wc o s hv5 (okx j x hx) (.d (CL (AL k))) (.d (.list xs));rw[show Tx t v x=true from aw (g j v x hv hx)]at e;exact⟨[.d (AQ t),.d (CL (AL k)),.d (.list xs),.d (tD v),.d x],rfl,_,Az e rfl,_,_,rfl⟩
  ·rintro δ ⟨l,l',rfl⟩
   rfl
 ·refine⟨false,run _ ?_,by simp only[Bool.false_eq_true,false_iff];exact fun z=>g (al.mpr z)⟩;unfold EA;refine pre _ _ (Me (xs:=J6 ((AL k).map tD) xs) (fun δ=>∃l l':L,δ=[.d (AQ t),.d (CL (AL k)),.d (.list xs),l,l']) (fun y=>decide (¬ ∃v x,y=.tuple [tD v,x]∧Tx t v x=true)) hz ⟨_,_,rfl⟩ ?_ ?_)
  ·rintro y hy δ ⟨l,l',rfl⟩;obtain⟨j,v,x,hv,hx,rfl⟩:=item y hy;have hv5:=Zr k hk v (aH hv);have e:=Wc o s hv5 (okx j x hx) (.d (CL (AL k))) (.d (.list xs));refine⟨[.d (AQ t),.d (CL (AL k)),.d (.list xs),.d (tD v),.d x],rfl,?_⟩;cases hb:Tx t v x with
   |true =>
    rw[hb]at e;exact .inr ⟨aZ fun z=>z ⟨v,x,rfl,hb⟩,_,Az e rfl,_,_,rfl⟩
   |false =>
    rw[hb]at e;refine .inl ⟨aw ?_,Bf e rfl⟩;rintro⟨v',x',e',hb'⟩
    injection e' with e'
    injection e' with e1 e2
    injection e2 with e2
    rw[←LA e1,←e2,hb]at hb';cases hb'
  ·refine Classical.byContradiction fun no=>g fun i v x hv hx=>?_;have hm:PyData.tuple [tD v,x]∈J6 ((AL k).map tD) xs:=by
    unfold J6;refine aN.mpr ⟨(tD v,x),?_,rfl⟩;refine List.mem_iff_getElem?.mpr ⟨i,?_⟩;rw[List.getElem?_zip_eq_some];exact⟨by rw[List.getElem?_map,hv];rfl,hx⟩
   refine Classical.byContradiction fun nb=>no ⟨_,hm,decide_eq_true ?_⟩;rintro⟨v',x',e',hb'⟩
   injection e' with e'
   injection e' with e1 e2
   injection e2 with e2
   rw[←LA e1,←e2]at hb';exact nb (ab hb')
noncomputable abbrev Yx:MD:=Dr Jc SS WQ T2
def Qx:∀k,k<5→∀u∈TH.tz k,u∈AL 5:=by decide +kernel
def hV{t:Tb}(o:t.Ok 4)(s:t.Sm){k:Nat}(hk:k<5){d:PD}(h:Ok 40 d):∃b,Yx [AQ t,.int (k:Int),d]=some (.bool b)∧(b=true ↔ ∃u∈TH.tz k,d=.tuple [tD u,AK (Ap t u)]∧Ap t u≠CU u):=by
 have run:∀b,HD Jc SS WQ T2 [.d (AQ t),.d (.int (k:Int)),.d d]=some (.rt (.bool b))→Yx [AQ t,.int (k:Int),d]=some (.bool b):=fun b hb=>Bz rfl hb;have c0:Al (BI false) (nm 1) (fC (.int 6)) [.d (AQ t),.d (.int (k:Int)),.d d]=some false:=BP (x:=.int (k:Int)) (y:=.int 6) rfl rfl ((Ko _ _).trans (by rw[decide_eq_false (by lia)]));have c1:B3 (Bh (AM SS (AA (nm 2) (AA (AM WQ (AA (AI Ay (nm 1) (fC (.int 1))) AG)) AG)))) [.d (AQ t),.d (.int (k:Int)),.d d]=some (!EY (TH.tz k) d):=Cy (FE (Ai (xs:=[d,CL (TH.tz k)]) (AO rfl (AO (Ai (xs:=[.int ((k+1:Nat):Int)]) rfl (of_is (by lia))) rfl)) (bz (fI k hk) h (by decide))));cases l:EY (TH.tz k) d with
 |false =>
  rw[l]at c1;refine⟨false,run _ ?_,by
   simp only[Bool.false_eq_true,false_iff];rintro⟨u,hu,rfl,_⟩;rw[IC.mpr ⟨u,hu,_,rfl⟩]at l;cases l⟩
  unfold HD;exact AR (Az c0 rfl) (BF (Bf (E7 c1) rfl))
 |true =>
  rw[l]at c1;obtain⟨u,hu,q,rfl⟩:=IC.mp l;have h5:=Qx k hk u hu;have c2:Al (BI false) (AI Am (nm 2) (fC (.int 1))) (Af (AA (fC (.int 1)) (AA (AM Jc (AA (AI Am (nm 2) (fC (.int 0))) AG)) AG))) [.d (AQ t),.d (.int (k:Int)),.d (.tuple [tD u,AK q])]=some (decide (q=CU u)):=BP (x:=AK q) (y:=AK (CU u)) rfl (UM h5 rfl) (Rb _ _);have un:(∃u'∈TH.tz k,PyData.tuple [tD u,AK q]=.tuple [tD u',AK (Ap t u')]∧Ap t u'≠CU u') ↔ (q=Ap t u∧q≠CU u):=by
   constructor
   ·rintro⟨u',_,e,hn⟩
    injection e with e
    injection e with e1 e2
    injection e2 with e2
    have eu:=LA e1;subst eu;have:=P5 e2;exact⟨this,by rw[this];exact hn⟩
   ·rintro⟨e,hn⟩;exact⟨u,hu,by rw[e],by rw[←e];exact hn⟩
  by_cases z:q=CU u
  ·rw[decide_eq_true z]at c2;refine⟨false,run _ ?_,by simp only[Bool.false_eq_true,false_iff];rw[un];exact fun w=>w.2 z⟩;unfold HD;exact AR (Az c0 rfl) (BF (Bf (Bw c1 c2) rfl))
  ·rw[decide_eq_false z]at c2;refine⟨decide (q=Ap t u),run _ ?_,by rw[un,decide_eq_true_eq];exact⟨fun w=>⟨w,z⟩,fun w=>w.1⟩⟩;unfold HD;exact AR (Az c0 rfl) (AR (Az (Bw c1 c2) rfl) (B6 (Aa (x:=AK q) (y:=AK (Ap t u)) rfl (Ai (xs:=[AQ t,tD u]) rfl (cT o s (fits_of s) h5)) (Rb _ _))))
def QL(t:Tb)(p:PD):Prop:=∃(k:Nat) (u:Tr),k<5∧u∈TH.tz k∧(∀v∈AL k,Ap t v=CU v)∧Ap t u≠CU u∧p=.tuple [.int (k:Int),.list ((AL k).map AU),.tuple [tD u,AK (Ap t u)]]
structure Qe(p:PyData):Prop where
 ok:Ok 40 p
 six:∀o l d,p=.tuple [.int o,l,d]→o≠6
 len:∀o ls d,p=.tuple [o,.list ls,d]→ls.length≤500
def ib{t:Tb}(o:t.Ok 4)(s:t.Sm):¬ ∀v∈AL 5,Ap t v=CU v:=fun h=>by
 obtain⟨u,hu,f5,_⟩:=SI o s;exact Xz (List.find?_some f5) (h u hu)
noncomputable abbrev WX:MD:=Eb T4 Yx Bm cV Vw
def bU{n:Nat}{x:PD}(h:Ok n x):Bm [x]=some (.bool (Bk x && !BR x)):=by
 refine Bz rfl ?_;unfold Qw;refine B6 ?_;have e1:B9 Bk (nm 0) [.d x]=some (.bool (Bk x)):=OY (x:=x) rfl h;have e2:B9 BR (nm 0) [.d x]=some (.bool (BR x)):=OY (x:=x) rfl h;cases hi:Bk x with
 |false =>
  rw[hi]at e1;show(B9 Bk (nm 0) [.d x]).bind _=_;rw[e1]
  rfl
 |true =>
  rw[hi]at e1;refine Ih e1 ?_;show(B9 BR (nm 0) [.d x]).bind _=_;rw[e2]
  rfl
def Zd{t:Tb}(o:t.Ok 4)(s:t.Sm){p:PD}(hp:Qe p):∃b,WX [AQ t,p]=some (.bool b)∧(b=true ↔ QL t p):=by
 have run:∀b,EX T4 Yx Bm cV Vw [.d (AQ t),.d p,.no]=some (.rt (.bool b))→WX [AQ t,p]=some (.bool b):=fun b hb=>Bz rfl hb;have b0:B3 (Bh (B9 CO (nm 1))) [.d (AQ t),.d p,.no]=some (!CO p):=Cy (FL (f:=nm 1) (x:=p) rfl hp.ok);have r0:TL (AM cV (AA (nm 0) AG)) [.d (AQ t),.d p,.no]=some (.nx [.d (AQ t),.d p,.no]):=U6 (Ai (xs:=[AQ t]) rfl (jx o));rcases Lm 3 hp.ok with hf|⟨ds,rfl,hl⟩|⟨ds,rfl,hl⟩
 ·refine⟨false,run _ ?_,by simp only[Bool.false_eq_true,false_iff];rintro⟨_,_,_,_,_,_,rfl⟩;cases hf⟩;rw[hf]at b0;unfold EX;exact AR r0 (BF (Bf (E7 b0) rfl))
 ·refine⟨false,run _ ?_,by
   simp only[Bool.false_eq_true,false_iff];rintro⟨_,_,_,_,_,_,e⟩
   injection e with e
   exact hl (by rw[e];rfl)⟩
  unfold EX;exact AR r0 (BF (Bf (Bw b0 (BP (x:=.int (ds.length:Nat)) (y:=.int 3) rfl rfl (Ni hl))) rfl))
 ·match ds,hl with
  |[x,ls,d],_ =>
   have ox:=Hy hp.ok x (.head _);have ol:=Hy hp.ok ls (.tail _ (.head _));have od:=Hy hp.ok d (.tail _ (.tail _ (.head _)));have c1:Bs (DX (B3 (Bh (B9 CO (nm 1)))) (Al (BI true) (AM DJ (AA (nm 1) AG)) (fC (.int 3)))) (A7 (fC (.bool false))) A9 [.d (AQ t),.d (.tuple [x,ls,d]),.no]=some (.nx [.d (AQ t),.d (.tuple [x,ls,d]),.no]):=Az (Bw b0 (BP (x:=.int 3) (y:=.int 3) rfl rfl (Gx 3))) rfl;have c2:B3 (Bh (AM Bm (AA (nm 2) AG))) [.d (AQ t),.d (.tuple [x,ls,d]),.d x]=some (!(Bk x && !BR x)):=Cy (FE (Ai (xs:=[x]) rfl (bU ox)));have gx:∀(k:Nat) (u:Tr),PyData.tuple [x,ls,d]=.tuple [.int (k:Int),.list ((AL k).map AU),.tuple [tD u,AK (Ap t u)]]→x=.int (k:Int)∧ls=.list ((AL k).map AU)∧d=.tuple [tD u,AK (Ap t u)]:=fun k u e=>by
    injection e with e
    injection e with e1 e
    injection e with e2 e
    injection e with e3
    exact⟨e1,e2,e3⟩
   cases hw:(Bk x && !BR x) with
   |false =>
    rw[hw]at c2;refine⟨false,run _ ?_,by
     simp only[Bool.false_eq_true,false_iff];rintro⟨k,u,_,_,_,_,e⟩;rw[(gx k u e).1]at hw;cases hw⟩
    unfold EX;exact AR r0 (AR c1 (AR (δ':=[.d (AQ t),.d (.tuple [x,ls,d]),.d x]) rfl (BF (Bf (E7 c2) rfl))))
   |true =>
    rw[hw]at c2;obtain⟨i,rfl⟩:=ID hw;have c3:Al (CH fun i j=>decide (i<j)) (nm 2) (fC (.int 0)) [.d (AQ t),.d (.tuple [.int i,ls,d]),.d (.int i)]=some (decide (i<0)):=rfl;have c4:Al (CH fun i j=>decide (j<i)) (nm 2) (fC (.int 6)) [.d (AQ t),.d (.tuple [.int i,ls,d]),.d (.int i)]=some (decide (6<i)):=rfl;have h6:=hp.six i ls d rfl;by_cases hr:0≤i∧i<6
    ·obtain⟨k,rfl⟩:∃k:Nat,i=(k:Int):=⟨i.toNat,by lia⟩;have hk:k<6:=by lia
     rw[decide_eq_false (by lia)]at c3 c4;obtain⟨b1,t1,t2⟩:=jc o s hk ol;have e1:AM T4 (AA (nm 0) (AA (AM Vw (AA (nm 2) AG)) (AA (AI Am (nm 1) (fC (.int 1))) AG))) [.d (AQ t),.d (.tuple [.int (k:Int),ls,d]),.d (.int (k:Int))]=some (.bool b1):=Ai (xs:=[AQ t,CL (AL k),ls]) (AO rfl (AO (Ai (xs:=[.int (k:Int)]) rfl (iK hk)) rfl)) t1;have go:∀b,J5 (AM T4 (AA (nm 0) (AA (AM Vw (AA (nm 2) AG)) (AA (AI Am (nm 1) (fC (.int 1))) AG)))) (AM Yx (AA (nm 0) (AA (nm 2) (AA (AI Am (nm 1) (fC (.int 2))) AG)))) [.d (AQ t),.d (.tuple [.int (k:Int),ls,d]),.d (.int (k:Int))]=some (.bool b)→WX [AQ t,.tuple [.int (k:Int),ls,d]]=some (.bool b):=fun b hb=>by
      refine run _ ?_;unfold EX;exact AR r0 (AR c1 (AR (δ':=[.d (AQ t),.d (.tuple [.int (k:Int),ls,d]),.d (.int (k:Int))]) rfl (AR (Az (Bw c2 (Bw c3 c4)) rfl) (B6 hb))))
     cases b1 with
     |false =>
      refine⟨false,go _ ?_,by
       simp only[Bool.false_eq_true,false_iff];rintro⟨k',u,_,_,hg,_,e⟩;obtain⟨e1,e2,_⟩:=gx k' u e
       injection e1 with e1
       have:k=k':=by lia
       subst this;exact absurd (t2.mpr ⟨e2,hg⟩) (by decide)⟩
      show(AM T4 _ _).bind _=_;rw[e1]
      rfl
     |true =>
      obtain⟨el,hg⟩:=t2.mp rfl;have hk5:k<5:=by
       rcases Nat.lt_or_ge k 5 with z|z
       ·exact z
       ·have:k=5:=by lia
        subst this;exact absurd hg (ib o s)
      obtain⟨b2,d1,d2⟩:=hV o s hk5 od;refine⟨b2,go _ (Ih e1 (Ai (xs:=[AQ t,.int (k:Int),d]) rfl d1)),d2.trans ⟨?_,?_⟩⟩
      ·rintro⟨u,hu,rfl,hn⟩;exact⟨k,u,hk5,hu,hg,hn,by rw[el]⟩
      ·rintro⟨k',u,_,hu,_,hn,e⟩;obtain⟨e1,_,e3⟩:=gx k' u e
       injection e1 with e1
       have:k=k':=by lia
       subst this;exact⟨u,hu,e3,hn⟩
    ·refine⟨false,run _ ?_,by
      simp only[Bool.false_eq_true,false_iff];rintro⟨k',u,h5,_,_,_,e⟩;have:=(gx k' u e).1
      injection this with this
      lia⟩
     unfold EX;refine AR r0 (AR c1 (AR (δ':=[.d (AQ t),.d (.tuple [.int i,ls,d]),.d (.int i)]) rfl (BF (Bf (Bw c2 ?_) rfl))));by_cases hi:i<0
     ·rw[decide_eq_true hi]at c3;exact E7 c3
     ·rw[decide_eq_false hi]at c3;rw[decide_eq_true (by lia)]at c4;exact Bw c3 c4
noncomputable abbrev Xu:MD:=E3 T9 II Jd
def Za{x:PD}{v:Tr}{ts:List Tr}(h:EY ts x=true):PyData.eqv x (AU v)=true ↔ x=AU v:=by
 constructor
 ·intro e;obtain⟨w,_,q,rfl⟩:=IC.mp h;unfold AU at e ⊢;simp only[PyData.eqv,PyData.eqvAll,Bool.and_eq_true]at e;have h1:=Ld w (L2.BK v) e.1;have h2:decide (q=CU v)=true:=by rw[←Md];exact e.2.1
  rw[of_decide_eq_true h2];show PyData.tuple [tD w,_]=.tuple [tD v,_];unfold tD;rw[h1]
 ·rintro rfl;refine Hu _ ?_;unfold AU;exact jZ fun d hd=>by
   rcases aJ.mp hd with rfl|hd
   ·simp only[PyData.canLay0];exact Ki v
   ·rw[List.mem_singleton.mp hd];exact MQ _
def OD{ts:List Tr}:∀ {xs:List PD} {vs:List Tr},(∀x∈xs,EY ts x=true)→(PyData.eqvAll xs (vs.map AU)=true ↔ xs=vs.map AU)
 |[],[],_=>by simp[PyData.eqvAll]
 |[],v::vs,_=>by simp[PyData.eqvAll]
 |x::xs,[],_=>by simp[PyData.eqvAll]
 |x::xs,v::vs,h=>by
  rw[List.map_cons];simp only[PyData.eqvAll,Bool.and_eq_true];rw[Za (h x (.head _)),OD fun y hy=>h y (.tail _ hy)];constructor
  ·rintro⟨rfl,rfl⟩;rfl
  ·intro e;injection e with e1 e2;exact⟨e1,e2⟩
def JQ:∀v∈AL 5,(AU v).canLay0=true∧(AU v).depth≤20:=by
 intro v hv;have h1:∀v∈AL 5,(tD v).depth≤10:=by decide +kernel
 have o:Ok 11 (AU v):=Lv (n:=10) fun d hd=>by
  rcases aJ.mp hd with rfl|hd
  ·exact⟨by simp only[PyData.canLay0];exact Ki v,h1 v hv⟩
  ·rw[List.mem_singleton.mp hd];exact(Gf _).mono
 exact o.mono
def RN{t:Tb}(o:t.Ok 4)(s:t.Sm){v:Tr}(hv:v∈AL 5):Jd [AQ t,tD v]=some (AK (Ap t v)):=by
 have z:=(UW 5 (by decide)).2 v hv;rw[dB o (dC s) (by lia) (by lia),Vy o (fits_of s) hv]
open Classical in
def bx{t:Tb}(o:t.Ok 4)(s:t.Sm){p:PD}(hp:Qe p):∃b,Xu [AQ t,p,.list Ac]=some (.bool b)∧(b=true ↔ QL t p):=by
 have run:∀b,Cv T9 II Jd [.d (AQ t),.d p,.d (.list Ac),.no,.no,.no,.no,.no,.no,.no]=some (.rt (.bool b))→Xu [AQ t,p,.list Ac]=some (.bool b):=fun b hb=>Bz rfl hb;have b0:B3 (Bh (B9 CO (nm 1))) [.d (AQ t),.d p,.d (.list Ac),.no,.no,.no,.no,.no,.no,.no]=some (!CO p):=Cy (FL (f:=nm 1) (x:=p) rfl hp.ok);rcases Lm 3 hp.ok with hf|⟨ds,rfl,hl⟩|⟨ds,rfl,hl⟩
 ·refine⟨false,run _ ?_,by simp only[Bool.false_eq_true,false_iff];rintro⟨_,_,_,_,_,_,rfl⟩;cases hf⟩;rw[hf]at b0;unfold Cv;exact BF (Bf (E7 b0) rfl)
 ·refine⟨false,run _ ?_,by
   simp only[Bool.false_eq_true,false_iff];rintro⟨_,_,_,_,_,_,e⟩
   injection e with e
   exact hl (by rw[e];rfl)⟩
  unfold Cv;exact BF (Bf (Bw b0 (E7 (BP (x:=.int (ds.length:Nat)) (y:=.int 3) rfl rfl (Ni hl)))) rfl)
 match ds,hl with
 |[x,ls,d],_ =>
 have ox:=Hy hp.ok x (.head _);have ol:=Hy hp.ok ls (.tail _ (.head _));have od:=Hy hp.ok d (.tail _ (.tail _ (.head _)));have gx:∀(k:Nat) (u:Tr),PyData.tuple [x,ls,d]=.tuple [.int (k:Int),.list ((AL k).map AU),.tuple [tD u,AK (Ap t u)]]→x=.int (k:Int)∧ls=.list ((AL k).map AU)∧d=.tuple [tD u,AK (Ap t u)]:=fun k u e=>by
  injection e with e
  injection e with e1 e
  injection e with e2 e
  injection e with e3
  exact⟨e1,e2,e3⟩
 have b1:B3 (Bh (B9 GC (AI Am (nm 1) (fC (.int 1))))) [.d (AQ t),.d (.tuple [x,ls,d]),.d (.list Ac),.no,.no,.no,.no,.no,.no,.no]=some (!GC ls):=Cy (FL (f:=AI Am (nm 1) (fC (.int 1))) (x:=ls) rfl ol);rcases SW ol with hf|⟨xs,rfl⟩
 ·refine⟨false,run _ ?_,by
   simp only[Bool.false_eq_true,false_iff];rintro⟨k,u,_,_,_,_,e⟩;rw[(gx k u e).2.1]at hf;cases hf⟩
  rw[hf]at b1;unfold Cv;exact BF (Bf (Bw b0 (Bw (BP (x:=.int 3) (y:=.int 3) rfl rfl (Gx 3)) b1)) rfl)
 have hxl:=hp.len x xs d rfl;have st:∀(F:DF) (r:Option Ou),F [.d (AQ t),.d (.tuple [x,.list xs,d]),.d (.list Ac),.d x,.d (.list xs),.d d,.no,.no,.no,.no]=r→AX (Bs (DX (B3 (Bh (B9 CO (nm 1)))) (DX (Al (BI true) (AM DJ (AA (nm 1) AG)) (fC (.int 3))) (B3 (Bh (B9 GC (AI Am (nm 1) (fC (.int 1)))))))) (A7 (fC (.bool false))) A9) (AX (VB (nm 1) (RF 3 4 5)) F) [.d (AQ t),.d (.tuple [x,.list xs,d]),.d (.list Ac),.no,.no,.no,.no,.no,.no,.no]=r:=fun F r hF=>AR (Az (Bw b0 (Bw (BP (x:=.int 3) (y:=.int 3) rfl rfl (Gx 3)) b1)) rfl) (AR (δ':=[.d (AQ t),.d (.tuple [x,.list xs,d]),.d (.list Ac),.d x,.d (.list xs),.d d,.no,.no,.no,.no]) rfl hF);have c1:B3 (Bh (B9 Bk (nm 3))) [.d (AQ t),.d (.tuple [x,.list xs,d]),.d (.list Ac),.d x,.d (.list xs),.d d,.no,.no,.no,.no]=some (!Bk x):=Cy (FL (f:=nm 3) (x:=x) rfl ox);have c2:Bh (B9 BR (nm 3)) [.d (AQ t),.d (.tuple [x,.list xs,d]),.d (.list Ac),.d x,.d (.list xs),.d d,.no,.no,.no,.no]=some (BR x):=FL (f:=nm 3) (x:=x) rfl ox;have nog:∀ {P:Prop},(∀(k:Nat),x=.int (k:Int)→k<5→P→False)→(QL t (.tuple [x,.list xs,d])→P)→¬QL t (.tuple [x,.list xs,d]):=fun h1 h2 g=>by
  obtain⟨k,u,hk,_,_,_,e⟩:=id g;exact h1 k (gx k u e).1 hk (h2 g)
 by_cases w:∃k:Nat,x=.int (k:Int)∧k<5
 case neg =>
  refine⟨false,run _ ?_,by simp only[Bool.false_eq_true,false_iff];rintro⟨k,u,hk,_,_,_,e⟩;exact w ⟨k,(gx k u e).1,hk⟩⟩;unfold Cv;refine st _ _ (BF (Bf ?_ rfl));cases hi:Bk x with
  |false=>rw[hi]at c1;exact E7 c1
  |true =>
   rw[hi]at c1;refine Bw c1 ?_;cases hb:BR x with
   |true=>rw[hb]at c2;exact E7 c2
   |false =>
    rw[hb]at c2;refine Bw c2 ?_;obtain⟨i,rfl⟩:=ID (show(Bk x && !BR x)=true by rw[hi,hb];rfl);have c3:Al (CH fun i j=>decide (i<j)) (nm 3) (fC (.int 0)) [.d (AQ t),.d (.tuple [.int i,.list xs,d]),.d (.list Ac),.d (.int i),.d (.list xs),.d d,.no,.no,.no,.no]=some (decide (i<0)):=rfl;have c4:Al (CH fun i j=>decide (j<i)) (nm 3) (fC (.int 4)) [.d (AQ t),.d (.tuple [.int i,.list xs,d]),.d (.list Ac),.d (.int i),.d (.list xs),.d d,.no,.no,.no,.no]=some (decide (4<i)):=rfl;by_cases z:i<0
    ·rw[decide_eq_true z]at c3;exact E7 c3
    ·rw[decide_eq_false z]at c3;have:4<i:=by
      rcases Int.lt_or_le 4 i with q|q
      ·exact q
      ·exact absurd ⟨i.toNat,by rw[Int.toNat_of_nonneg (by lia)],by lia⟩ w
     rw[decide_eq_true this]at c4;exact Bw c3 c4
 obtain⟨k,rfl,hk⟩:=w;have st2:∀(F:DF) (r:Option Ou),F [.d (AQ t),.d (.tuple [.int (k:Int),.list xs,d]),.d (.list Ac),.d (.int (k:Int)),.d (.list xs),.d d,.no,.no,.no,.no]=r→AX (Bs (DX (B3 (Bh (B9 Bk (nm 3)))) (DX (Bh (B9 BR (nm 3))) (DX (Al (CH fun i j=>decide (i<j)) (nm 3) (fC (.int 0))) (Al (CH fun i j=>decide (j<i)) (nm 3) (fC (.int 4)))))) (A7 (fC (.bool false))) A9) F [.d (AQ t),.d (.tuple [.int (k:Int),.list xs,d]),.d (.list Ac),.d (.int (k:Int)),.d (.list xs),.d d,.no,.no,.no,.no]=r:=fun F r hF=>by
  refine AR (Az (Bw c1 (Bw c2 (Bw (b:=Al (CH fun i j=>decide (j<i)) (nm 3) (fC (.int 4))) ?_ ?_))) rfl) hF
  ·show some (decide ((k:Int)<0))=_;rw[decide_eq_false (by lia)]
  ·show some (decide ((4:Int)<(k:Int)))=_;rw[decide_eq_false (by lia)]
 have cf:B5 (Cq 1) (B3 (Bh (AM T9 (AA (nm 1) (AA (nm 2) AG))))) (nm 1) [none,none,some 2] (B2 (nm 4)) [.d (AQ t),.d (.tuple [.int (k:Int),.list xs,d]),.d (.list Ac),.d (.int (k:Int)),.d (.list xs),.d d,.no,.no,.no,.no]=some (.list (xs.filter fun y=>!EY (AL 5) y)):=by
  refine Po rfl (fun y hy=>?_) (by show(1:Nat)<3;decide) hxl;exact Cy (FE (Ai (xs:=[y,.list Ac]) rfl (cA (Z6 ol y hy) (by decide))))
 have c5:Al (BI true) (B5 (Cq 1) (B3 (Bh (AM T9 (AA (nm 1) (AA (nm 2) AG))))) (nm 1) [none,none,some 2] (B2 (nm 4))) (BW AG) [.d (AQ t),.d (.tuple [.int (k:Int),.list xs,d]),.d (.list Ac),.d (.int (k:Int)),.d (.list xs),.d d,.no,.no,.no,.no]=some (decide ((xs.filter fun y=>!EY (AL 5) y)≠[])):=BP (y:=.list []) cf rfl (ne_nil (n:=40) (fun y hy=>Z6 ol y (bR.mp hy).1) (by decide));have sub:=Zr k (by lia);by_cases hall:∀y∈xs,EY (AL 5) y=true
 case neg =>
  refine⟨false,run _ ?_,by
   simp only[Bool.false_eq_true,false_iff];rintro⟨k',u,_,_,_,_,e⟩;obtain⟨e1,e2,_⟩:=gx k' u e
   injection e1 with e1
   have:k=k':=by lia
   subst this
   injection e2 with e2
   refine hall fun y hy=>?_;rw[e2]at hy;obtain⟨v,hv,rfl⟩:=aN.mp hy;exact IC.mpr ⟨v,sub v hv,_,rfl⟩⟩
  unfold Cv;have nn:(xs.filter fun y=>!EY (AL 5) y)≠[]:=fun z=>hall fun y hy=>by
   cases hb:EY (AL 5) y with
   |true=>rfl
   |false =>
    have:y∈xs.filter fun y=>!EY (AL 5) y:=bR.mpr ⟨hy,by rw[hb];rfl⟩;rw[z]at this;cases this
  exact st _ _ (st2 _ _ (BF (Bf (c5.trans (aj some (aw nn))) rfl)))
 have nil:(xs.filter fun y=>!EY (AL 5) y)=[]:=List.filter_eq_nil_iff.mpr fun y hy=>by rw[hall y hy];decide
 replace c5:=c5.trans (aj some (aZ fun z=>z nil))
 have ixs:∀(i:Nat) (hi:i<5) (l0 l1 l3 l4 l5 l6 l8 l9:L),B2 (AI Am (nm 2) (nm 7)) [l0,l1,.d (.list Ac),l3,l4,l5,l6,.d (.int ((i+1:Nat):Int)),l8,l9]=some ((TH.tz i).map tD):=fun i hi l0 l1 l3 l4 l5 l6 l8 l9=>by
  refine MK (x:=CL (TH.tz i)) (Aa (x:=.list Ac) (y:=.int ((i+1:Nat):Int)) rfl rfl (EV (MA hi))) ?_;show some (L2.BK (Tr.of (TH.tz i)))=_;rw[Et]
 have due:∃l7:L,CM (Dj J8 (AA (fC (.int 1)) (AA (AI Ay (nm 3) (fC (.int 1))) AG))) (EL 7) (BS 6 (AI Ay (nm 6) (B5 (Cq 1) D9 (Af (AA (nm 1) (AA (AM II (AA (nm 1) AG)) AG))) [none,none] (B2 (AI Am (nm 2) (nm 7)))))) [.d (AQ t),.d (.tuple [.int (k:Int),.list xs,d]),.d (.list Ac),.d (.int (k:Int)),.d (.list xs),.d d,.d (.list []),.no,.no,.no]=some (.nx [.d (AQ t),.d (.tuple [.int (k:Int),.list xs,d]),.d (.list Ac),.d (.int (k:Int)),.d (.list xs),.d d,.d (.list ((AL k).map AU)),l7,.no,.no]):=by
  have h:=Kk (set:=EL 7) (F:=BS 6 (AI Ay (nm 6) (B5 (Cq 1) D9 (Af (AA (nm 1) (AA (AM II (AA (nm 1) AG)) AG))) [none,none] (B2 (AI Am (nm 2) (nm 7)))))) (fs:=Dj J8 (AA (fC (.int 1)) (AA (AI Ay (nm 3) (fC (.int 1))) AG))) (δ:=[.d (AQ t),.d (.tuple [.int (k:Int),.list xs,d]),.d (.list Ac),.d (.int (k:Int)),.d (.list xs),.d d,.d (.list []),.no,.no,.no]) (xs:=HR 1 k) (Q:=fun δ=>∃l7:L,δ=[.d (AQ t),.d (.tuple [.int (k:Int),.list xs,d]),.d (.list Ac),.d (.int (k:Int)),.d (.list xs),.d d,.d (.list ((AL k).map AU)),l7,.no,.no]) (fun i δ=>∃l7:L,δ=[.d (AQ t),.d (.tuple [.int (k:Int),.list xs,d]),.d (.list Ac),.d (.int (k:Int)),.d (.list xs),.d d,.d (.list ((AL i).map AU)),l7,.no,.no]) ?_ ⟨_,rfl⟩ ?_ ?_
  ·obtain⟨δ',e,l7,rfl⟩:=h;exact⟨l7,e⟩
  ·refine(dw (i:=1) (j:=(k:Int)+1) rfl rfl ⟨by decide,by decide,by lia,by lia⟩).trans ?_;rw[show((k:Int)+1-1).toNat=k by lia]
  ·rintro i y δ hy ⟨l7,rfl⟩;obtain⟨rfl,hik⟩:=Ov hy;have hi5:i<5:=by lia
   obtain⟨a1,a2,a3,a4⟩:=Mk i (by lia);rw[show(1:Int)+(i:Int)=((i+1:Nat):Int) by lia];refine⟨_,rfl,_,Bu (y:=.list ((AL (i+1)).map AU)) ?_,_,rfl⟩;have hc:B5 (Cq 1) D9 (Af (AA (nm 1) (AA (AM II (AA (nm 1) AG)) AG))) [none,none] (B2 (AI Am (nm 2) (nm 7))) [.d (AQ t),.d (.tuple [.int (k:Int),.list xs,d]),.d (.list Ac),.d (.int (k:Int)),.d (.list xs),.d d,.d (.list ((AL i).map AU)),.d (.int ((i+1:Nat):Int)),.no,.no]=some (.list ((TH.tz i).map AU)):=by
    show(F9 _ _ _ _ _ _).map PyData.list=_;rw[Jp (zs:=TH.tz i) (a:=tD) (g:=AU) (ixs i hi5 _ _ _ _ _ _ _ _) (by have:=a4 hi5;unfold Bi;lia) fun v hv=>?_]
    ·rfl
    ·exact Ck (xs:=[tD v,AK (CU v)]) (AO rfl (AO (Ai (xs:=[tD v]) rfl (Oo (a2 hi5 v hv).1)) rfl)) (by show(2:Nat)≤Bi;decide)
   refine Aa (x:=.list ((AL i).map AU)) (y:=.list ((TH.tz i).map AU)) rfl hc ?_;rw[I0 (by rw[List.length_map,List.length_map];have:=a4 hi5;lia),AL,List.map_append]
  ·rintro δ ⟨l7,rfl⟩;have:(HR 1 k).length=k:=by unfold HR;rw[List.length_map,List.length_range]
   rw[this];exact⟨_,rfl⟩
 obtain⟨l7,due⟩:=due;have ok_due:∀y∈(AL k).map AU,Ok 20 y:=fun y hy=>by
  obtain⟨v,hv,rfl⟩:=aN.mp hy;exact JQ v (sub v hv)
 have c6:Al (BI true) (nm 4) (nm 6) [.d (AQ t),.d (.tuple [.int (k:Int),.list xs,d]),.d (.list Ac),.d (.int (k:Int)),.d (.list xs),.d d,.d (.list ((AL k).map AU)),l7,.no,.no]=some (!PyData.eqvAll xs ((AL k).map AU)):=by
  refine BP (x:=.list xs) (y:=.list ((AL k).map AU)) rfl rfl ((if_pos ⟨ol.shaped (by decide),(L4 ok_due).shaped (by decide)⟩).trans ?_);simp[PyData.eqv]
 have st3:∀(F:DF) (r:Option Ou),F [.d (AQ t),.d (.tuple [.int (k:Int),.list xs,d]),.d (.list Ac),.d (.int (k:Int)),.d (.list xs),.d d,.d (.list ((AL k).map AU)),l7,.no,.no]=r→AX (Bs (Al (BI true) (B5 (Cq 1) (B3 (Bh (AM T9 (AA (nm 1) (AA (nm 2) AG))))) (nm 1) [none,none,some 2] (B2 (nm 4))) (BW AG)) (A7 (fC (.bool false))) A9) (AX (BS 6 (BW AG)) (AX (CM (Dj J8 (AA (fC (.int 1)) (AA (AI Ay (nm 3) (fC (.int 1))) AG))) (EL 7) (BS 6 (AI Ay (nm 6) (B5 (Cq 1) D9 (Af (AA (nm 1) (AA (AM II (AA (nm 1) AG)) AG))) [none,none] (B2 (AI Am (nm 2) (nm 7))))))) F)) [.d (AQ t),.d (.tuple [.int (k:Int),.list xs,d]),.d (.list Ac),.d (.int (k:Int)),.d (.list xs),.d d,.no,.no,.no,.no]=r:=fun F r hF=>AR (Az c5 rfl) (AR (δ':=[.d (AQ t),.d (.tuple [.int (k:Int),.list xs,d]),.d (.list Ac),.d (.int (k:Int)),.d (.list xs),.d d,.d (.list []),.no,.no,.no]) rfl (AR due hF));by_cases hq:xs=(AL k).map AU
 case neg =>
  refine⟨false,run _ ?_,by
   simp only[Bool.false_eq_true,false_iff];rintro⟨k',u,_,_,_,_,e⟩;obtain⟨e1,e2,_⟩:=gx k' u e
   injection e1 with e1
   have:k=k':=by lia
   subst this
   injection e2 with e2
   exact hq e2⟩
  rw[Bool.eq_false_iff.mpr fun z=>hq ((OD hall).mp z)]at c6;unfold Cv;exact st _ _ (st2 _ _ (st3 _ _ (BF (Bf c6 rfl))))
 rw[(OD hall).mpr hq]at c6;have tst:∀v∈AL 5,Al (BI true) (AM Jd (AA (nm 0) (AA (nm 8) AG))) (nm 9) [.d (AQ t),.d (.tuple [.int (k:Int),.list xs,d]),.d (.list Ac),.d (.int (k:Int)),.d (.list xs),.d d,.d (.list ((AL k).map AU)),l7,.d (tD v),.d (AK (CU v))]=some (!decide (Ap t v=CU v)):=fun v hv=>BP (x:=AK (Ap t v)) (y:=AK (CU v)) (Ai (xs:=[AQ t,tD v]) rfl (RN o s hv)) rfl (MS _ _);by_cases hg:∀v∈AL k,Ap t v=CU v
 case neg =>
  refine⟨false,run _ ?_,by
   simp only[Bool.false_eq_true,false_iff];rintro⟨k',u,_,_,hg',_,e⟩;obtain⟨e1,_,_⟩:=gx k' u e
   injection e1 with e1
   have:k=k':=by lia
   subst this;exact hg hg'⟩
  unfold Cv;refine st _ _ (st2 _ _ (st3 _ _ (AR (Az c6 rfl) (Me (xs:=(AL k).map AU) (fun δ=>∃l8 l9:L,δ=[.d (AQ t),.d (.tuple [.int (k:Int),.list xs,d]),.d (.list Ac),.d (.int (k:Int)),.d (.list xs),.d d,.d (.list ((AL k).map AU)),l7,l8,l9]) (fun y=>decide (¬ ∃v,y=AU v∧Ap t v=CU v)) rfl ⟨_,_,rfl⟩ ?_ ?_))))
  ·rintro y hy δ ⟨l8,l9,rfl⟩;obtain⟨v,hv,rfl⟩:=aN.mp hy;have e:=tst v (sub v hv);refine⟨[.d (AQ t),.d (.tuple [.int (k:Int),.list xs,d]),.d (.list Ac),.d (.int (k:Int)),.d (.list xs),.d d,.d (.list ((AL k).map AU)),l7,.d (tD v),.d (AK (CU v))],rfl,?_⟩;by_cases z:Ap t v=CU v
   ·rw[decide_eq_true z]at e;exact .inr ⟨aZ fun n=>n ⟨v,rfl,z⟩,_,Az e rfl,_,_,rfl⟩
   ·rw[decide_eq_false z]at e;refine .inl ⟨aw ?_,Bf e rfl⟩;rintro⟨v',e',z'⟩;unfold AU at e'
    injection e' with e'
    injection e' with e1 _
    rw[←LA e1]at z';exact z z'
  ·refine Classical.byContradiction fun no=>hg fun v hv=>Classical.byContradiction fun z=>no ⟨AU v,List.mem_map_of_mem hv,decide_eq_true ?_⟩;rintro⟨v',e',z'⟩;unfold AU at e'
   injection e' with e'
   injection e' with e1 _
   rw[←LA e1]at z';exact z z'
 have st4:∀(F:DF) (r:Option Ou),(∀l8 l9:L,F [.d (AQ t),.d (.tuple [.int (k:Int),.list xs,d]),.d (.list Ac),.d (.int (k:Int)),.d (.list xs),.d d,.d (.list ((AL k).map AU)),l7,l8,l9]=r)→AX (Bs (Al (BI true) (nm 4) (nm 6)) (A7 (fC (.bool false))) A9) (AX (CM (B2 (nm 6)) (DV 8 9) (Bs (Al (BI true) (AM Jd (AA (nm 0) (AA (nm 8) AG))) (nm 9)) (A7 (fC (.bool false))) A9)) F) [.d (AQ t),.d (.tuple [.int (k:Int),.list xs,d]),.d (.list Ac),.d (.int (k:Int)),.d (.list xs),.d d,.d (.list ((AL k).map AU)),l7,.no,.no]=r:=fun F r hF=>by
  refine AR (Az c6 rfl) (HB (xs:=(AL k).map AU) (fun i δ=>∃l8 l9:L,δ=[.d (AQ t),.d (.tuple [.int (k:Int),.list xs,d]),.d (.list Ac),.d (.int (k:Int)),.d (.list xs),.d d,.d (.list ((AL k).map AU)),l7,l8,l9]) rfl ⟨_,_,rfl⟩ ?_ ?_)
  ·rintro i y δ hy ⟨l8,l9,rfl⟩;obtain⟨v,hv,rfl⟩:=aN.mp (aH hy);have e:=tst v (sub v hv);rw[decide_eq_true (hg v hv)]at e;exact⟨[.d (AQ t),.d (.tuple [.int (k:Int),.list xs,d]),.d (.list Ac),.d (.int (k:Int)),.d (.list xs),.d d,.d (.list ((AL k).map AU)),l7,.d (tD v),.d (AK (CU v))],rfl,_,Az e rfl,_,_,rfl⟩
  ·rintro δ ⟨l8,l9,rfl⟩;exact hF _ _
 have gk:QL t (.tuple [.int (k:Int),.list xs,d]) ↔ ∃u∈TH.tz k,d=.tuple [tD u,AK (Ap t u)]∧Ap t u≠CU u:=by
  constructor
  ·rintro⟨k',u,_,hu,_,hn,e⟩;obtain⟨e1,_,e3⟩:=gx k' u e
   injection e1 with e1
   have:k=k':=by lia
   subst this;exact⟨u,hu,e3,hn⟩
  ·rintro⟨u,hu,rfl,hn⟩;exact⟨k,u,hk,hu,hg,hn,by rw[hq]⟩
 have c7:∀l8 l9:L,B3 (Bh (AM T9 (AA (nm 5) (AA (nm 2) AG)))) [.d (AQ t),.d (.tuple [.int (k:Int),.list xs,d]),.d (.list Ac),.d (.int (k:Int)),.d (.list xs),.d d,.d (.list ((AL k).map AU)),l7,l8,l9]=some (!EY (AL 5) d):=fun _ _=>Cy (FE (Ai (xs:=[d,.list Ac]) rfl (cA od (by decide))));cases l:EY (AL 5) d with
 |false =>
  rw[l]at c7;refine⟨false,run _ ?_,by
   rw[gk];simp only[Bool.false_eq_true,false_iff];rintro⟨u,hu,rfl,_⟩;rw[IC.mpr ⟨u,Qx k hk u hu,_,rfl⟩]at l;cases l⟩
  unfold Cv;exact st _ _ (st2 _ _ (st3 _ _ (st4 _ _ fun l8 l9=>BF (Bf (E7 (c7 l8 l9)) rfl))))
 |true =>
  rw[l]at c7;obtain⟨u,hu5,q,rfl⟩:=IC.mp l;have ou:Ok 40 (tD u):=Hy od _ (.head _);have c8:∀l8 l9:L,Al (JS true) (AI Am (nm 5) (fC (.int 0))) (AI Am (nm 2) (AI Ay (nm 3) (fC (.int 1)))) [.d (AQ t),.d (.tuple [.int (k:Int),.list xs,.tuple [tD u,AK q]]),.d (.list Ac),.d (.int (k:Int)),.d (.list xs),.d (.tuple [tD u,AK q]),.d (.list ((AL k).map AU)),l7,l8,l9]=some (!D8 ((TH.tz k).map tD) (tD u)):=fun _ _=>BP (x:=tD u) (y:=CL (TH.tz k)) rfl (Aa (x:=.list Ac) (y:=.int ((k+1:Nat):Int)) rfl rfl (EV (MA hk))) (U1 true (fI k hk) ou (by decide));have un:(∃u'∈TH.tz k,PyData.tuple [tD u,AK q]=.tuple [tD u',AK (Ap t u')]∧Ap t u'≠CU u') ↔ (u∈TH.tz k∧q=Ap t u∧q≠CU u):=by
   constructor
   ·rintro⟨u',hu',e,hn⟩
    injection e with e
    injection e with e1 e2
    injection e2 with e2
    have eu:=LA e1;subst eu;have:=P5 e2;exact⟨hu',this,by rw[this];exact hn⟩
   ·rintro⟨hu,e,hn⟩;exact⟨u,hu,by rw[e],by rw[←e];exact hn⟩
  by_cases hu:u∈TH.tz k
  case neg =>
   refine⟨false,run _ ?_,by rw[gk,un];simp only[Bool.false_eq_true,false_iff];exact fun z=>hu z.1⟩;have:D8 ((TH.tz k).map tD) (tD u)=false:=Bool.eq_false_iff.mpr fun z=>by
    obtain⟨v,hv,e⟩:=Gk.mp z;exact hu (by rw[LA e];exact hv)
   rw[this]at c8;unfold Cv;exact st _ _ (st2 _ _ (st3 _ _ (st4 _ _ fun l8 l9=>BF (Bf (Bw (c7 l8 l9) (c8 l8 l9)) rfl))))
  rw[Gk.mpr ⟨u,hu,rfl⟩]at c8;refine⟨decide (q=Ap t u∧q≠CU u),run _ ?_,by rw[gk,un,decide_eq_true_eq];exact⟨fun z=>⟨hu,z⟩,fun z=>z.2⟩⟩;unfold Cv;refine st _ _ (st2 _ _ (st3 _ _ (st4 _ _ fun l8 l9=>AR (Az (Bw (c7 l8 l9) (c8 l8 l9)) rfl) (B6 ?_))));have e1:AI (BI false) (AI Am (nm 5) (fC (.int 1))) (AM Jd (AA (nm 0) (AA (AI Am (nm 5) (fC (.int 0))) AG))) [.d (AQ t),.d (.tuple [.int (k:Int),.list xs,.tuple [tD u,AK q]]),.d (.list Ac),.d (.int (k:Int)),.d (.list xs),.d (.tuple [tD u,AK q]),.d (.list ((AL k).map AU)),l7,l8,l9]=some (.bool (decide (q=Ap t u))):=Aa (x:=AK q) (y:=AK (Ap t u)) rfl (Ai (xs:=[AQ t,tD u]) rfl (RN o s hu5)) (Rb _ _);have e2:AI (BI true) (AI Am (nm 5) (fC (.int 1))) (AM II (AA (AI Am (nm 5) (fC (.int 0))) AG)) [.d (AQ t),.d (.tuple [.int (k:Int),.list xs,.tuple [tD u,AK q]]),.d (.list Ac),.d (.int (k:Int)),.d (.list xs),.d (.tuple [tD u,AK q]),.d (.list ((AL k).map AU)),l7,l8,l9]=some (.bool (!decide (q=CU u))):=Aa (x:=AK q) (y:=AK (CU u)) rfl (Ai (xs:=[tD u]) rfl (Oo hu5)) (MS _ _);by_cases z:q=Ap t u
  ·rw[decide_eq_true z]at e1;have fz:(!decide (q=CU u))=decide (q=Ap t u∧q≠CU u):=by
    rw[Bool.eq_iff_iff,decide_eq_true_eq,Bool.not_eq_true',decide_eq_false_iff_not];exact⟨fun y=>⟨z,y⟩,fun y=>y.2⟩
   exact(Ih e1 e2).trans (by rw[fz])
  ·rw[decide_eq_false z]at e1;have fz:decide (q=Ap t u∧q≠CU u)=false:=aZ fun n=>z n.1;rw[fz];show(AI _ _ _ _).bind _=_;rw[e1]
   rfl
def dk(ns:List Int)(k:Nat):∃c,Dm [EB ns,.int (k:Nat)]=some (.int c):=by
 suffices hh:∃c,L1 [.d (EB ns),.d (.int (k:Nat)),.no,.no,.no,.no]=some (.rt (.int c)) by
  obtain⟨c,h⟩:=hh;exact⟨c,Bz rfl h⟩
 unfold L1;have e1:∃c0,(Bs (Al (CH fun i j=>decide (i<j)) (nm 1) (AM DJ (AA (nm 0) AG))) (BS 2 (AI Am (nm 0) (nm 1))) A9) [.d (EB ns),.d (.int (k:Nat)),.d (.int 0),.no,.no,.no]=some (.nx [.d (EB ns),.d (.int (k:Nat)),.d (.int c0),.no,.no,.no]):=by
  have t:Al (CH fun i j=>decide (i<j)) (nm 1) (AM DJ (AA (nm 0) AG)) [.d (EB ns),.d (.int (k:Nat)),.d (.int 0),.no,.no,.no]=some (decide ((k:Int)<((ns.map PyData.int).length:Nat))):=BP (x:=.int (k:Nat)) (y:=.int ((ns.map PyData.int).length:Nat)) rfl rfl rfl;rw[List.length_map]at t;by_cases z:k<ns.length
  ·rw[decide_eq_true (show(k:Int)<(ns.length:Nat) by lia)]at t;exact⟨ns[k],Bf t (Bu (Aa (x:=EB ns) (y:=.int (k:Nat)) rfl rfl (EV (by rw[List.getElem?_map,List.getElem?_eq_getElem z];rfl))))⟩
  ·rw[decide_eq_false (show ¬(k:Int)<(ns.length:Nat) by lia)]at t;exact⟨0,Az t rfl⟩
 obtain⟨c0,e1⟩:=e1;have p18:AI Nx (fC (.int 10)) (fC (.int 18)) [.d (EB ns),.d (.int (k:Nat)),.d (.int c0),.no,.no,.no]=some (.int ((10:Int)^18)):=Aa (x:=.int 10) (y:=.int 18) rfl rfl (Yl (n:=18) (by decide) (by decide));have p60:AI Nx (fC (.int 10)) (fC (.int 60)) [.d (EB ns),.d (.int (k:Nat)),.d (.int c0),.no,.no,.no]=some (.int ((10:Int)^60)):=Aa (x:=.int 10) (y:=.int 60) rfl rfl (Yl (n:=60) (by decide) (by decide));have t2:Al (CH fun i j=>decide (j≤i)) (nm 2) (AI Nx (fC (.int 10)) (fC (.int 18))) [.d (EB ns),.d (.int (k:Nat)),.d (.int c0),.no,.no,.no]=some (decide ((10:Int)^18≤c0)):=BP (x:=.int c0) (y:=.int ((10:Int)^18)) rfl p18 rfl;by_cases z:(10:Int)^18≤c0
 ·rw[decide_eq_true z]at t2;exact⟨_,AR rfl (AR e1 (BF (Bf t2 (B6 (Aa (x:=.int (c0-(10:Int)^18)) (Aa (x:=.int c0) rfl p18 rfl) p60 (mod_is (Int.pow_pos (by decide))))))))⟩
 ·rw[decide_eq_false z]at t2;have hn:∀(a:Int) (m:Int),0<m→m<2^60→(a % m).natAbs<2^64:=fun a m h0 h1=>by
   have:=bS a (by lia:m≠0);have:=bJ a h0
   lia
  generalize hv:(c0*48271+(k:Int)*69621+11) % 2147483629=v;have v1:v.natAbs<2^64:=by rw[←hv];exact hn _ _ (by decide) (by decide)
  have e3:AI C5 (AI Ay (AI Ay (AI Dk (nm 2) (fC (.int 48271))) (AI Dk (nm 1) (fC (.int 69621)))) (fC (.int 11))) (fC (.int 2147483629)) [.d (EB ns),.d (.int (k:Nat)),.d (.int c0),.no,.no,.no]=some (.int v):=by
   refine Aa (x:=.int (c0*48271+(k:Int)*69621+11)) (y:=.int 2147483629) (Aa (x:=.int (c0*48271+(k:Int)*69621)) (y:=.int 11) (Aa (x:=.int (c0*48271)) (y:=.int ((k:Int)*69621)) (Aa (x:=.int c0) (y:=.int 48271) rfl rfl (mul_r (by decide))) (Aa (x:=.int (k:Nat)) (y:=.int 69621) rfl rfl (mul_r (by decide))) rfl) rfl rfl) rfl ((mod_is (by decide)).trans ?_);rw[hv]
  have loop:∀(F2:DF) (r:PD→Prop),(∀(v f:Int) (l:L),∃c,F2 [.d (EB ns),.d (.int (k:Nat)),.d (.int c0),.d (.int v),.d (.int f),l]=some (.rt (.int c)))→∃c,AX (CM (Dj P6 (AA (fC (.int 8)) AG)) (EL 5) (AX (BS 3 (AI C5 (AI Ay (AI Ay (AI Dk (nm 3) (nm 3)) (AI Dk (fC (.int 69621)) (nm 5))) (fC (.int 7))) (fC (.int 2147483587)))) (BS 4 (AI Ay (AI Dk (nm 4) (fC (.int 2147483563))) (AI C5 (AI Dk (nm 3) (nm 3)) (fC (.int 2147483563))))))) F2 [.d (EB ns),.d (.int (k:Nat)),.d (.int c0),.d (.int v),.d (.int 0),.no]=some (.rt (.int c)):=fun F2 r hF=>by
   have h:=Kk (set:=EL 5) (F:=AX (BS 3 (AI C5 (AI Ay (AI Ay (AI Dk (nm 3) (nm 3)) (AI Dk (fC (.int 69621)) (nm 5))) (fC (.int 7))) (fC (.int 2147483587)))) (BS 4 (AI Ay (AI Dk (nm 4) (fC (.int 2147483563))) (AI C5 (AI Dk (nm 3) (nm 3)) (fC (.int 2147483563)))))) (fs:=Dj P6 (AA (fC (.int 8)) AG)) (δ:=[.d (EB ns),.d (.int (k:Nat)),.d (.int c0),.d (.int v),.d (.int 0),.no]) (xs:=HR 0 8) (Q:=fun δ=>∃(v f:Int) (l:L),δ=[.d (EB ns),.d (.int (k:Nat)),.d (.int c0),.d (.int v),.d (.int f),l]) (fun i δ=>∃(v f:Int) (l:L),v.natAbs<2^64∧δ=[.d (EB ns),.d (.int (k:Nat)),.d (.int c0),.d (.int v),.d (.int f),l]) rfl ⟨v,0,_,v1,rfl⟩ ?_ ?_
   ·obtain⟨δ',e,v',f',l,rfl⟩:=h;obtain⟨c,hc⟩:=hF v' f' l;exact⟨c,AR e hc⟩
   ·rintro i y δ hy ⟨v,f,l,hv,rfl⟩;obtain⟨rfl,_⟩:=Ov hy;have hu:((v*v+69621*(0+(i:Int))+7) % 2147483587).natAbs<2^64:=hn _ _ (by decide) (by decide);refine⟨_,rfl,?_⟩;refine JW (Bu (y:=.int ((v*v+69621*(0+(i:Int))+7) % 2147483587)) (Aa (x:=.int (v*v+69621*(0+(i:Int))+7)) (y:=.int 2147483587) (Aa (x:=.int (v*v+69621*(0+(i:Int)))) (y:=.int 7) (Aa (x:=.int (v*v)) (y:=.int (69621*(0+(i:Int)))) (Aa (x:=.int v) (y:=.int v) rfl rfl (mul_r hv)) (Aa (x:=.int 69621) (y:=.int (0+(i:Int))) rfl rfl (XD (by decide))) rfl) rfl rfl) rfl (mod_is (by decide)))) ?_;generalize (v*v+69621*(0+(i:Int))+7) % 2147483587=u at hu;exact⟨_,Bu (y:=.int (f*2147483563+u*u % 2147483563)) (Aa (x:=.int (f*2147483563)) (y:=.int (u*u % 2147483563)) (Aa (x:=.int f) (y:=.int 2147483563) rfl rfl (mul_r (by decide))) (Aa (x:=.int (u*u)) (y:=.int 2147483563) (Aa (x:=.int u) (y:=.int u) rfl rfl (mul_r hu)) rfl (mod_is (by decide))) rfl),u,_,_,hu,rfl⟩
   ·rintro δ ⟨v,f,l,_,rfl⟩;exact⟨v,f,l,rfl⟩
  obtain⟨c,hc⟩:=loop (A7 (nm 4)) (fun _=>True) fun v f l=>⟨f,rfl⟩;exact⟨c,AR rfl (AR e1 (AR (Az t2 rfl) (AR (Bu e3) (AR rfl hc))))⟩
def pick{xs:List PD}{m:Int}(hm:(xs.length:Int)=m)(h0:0<m)(n:Int):∃y∈xs,Fy xs (n % m)=some y:=by
 obtain⟨j,hj⟩:∃j:Nat,n % m=(j:Int):=⟨(n % m).toNat,by have:=bS n (by lia:m≠0);lia⟩;have hl:j<xs.length:=by have:=bJ n h0;lia
 exact⟨xs[j],List.getElem_mem _,by rw[hj];exact EV (aM hl)⟩
def U8:∀i,i<5→0<(TH.tz i).length:=by decide +kernel
def RV{i:Nat}(hi:i<5)(m:Int):∃w∈TH.tz i,Fy (L2.BK (Tr.of (TH.tz i))) (m % (((L2.BK (Tr.of (TH.tz i))).length:Nat):Int))=some (tD w):=by
 have e:L2.BK (Tr.of (TH.tz i))=(TH.tz i).map tD:=Et _;rw[e];obtain⟨y,hy,h⟩:=pick (xs:=(TH.tz i).map tD) rfl (by rw[List.length_map];have:=U8 i hi;lia) m;obtain⟨w,hw,rfl⟩:=aN.mp hy;exact⟨w,hw,h⟩
def ZQ:(List.range 5).map (fun i=>Fy (L2.BK (Tr.of (TH.tz i))) (-1))=(List.range 5).map fun i=>some (tD ((TH.tz i).getLastD .nil)):=by kernel_rfl
def Zu:∀i,i<5→(TH.tz i).getLastD .nil∈TH.tz i:=by decide +kernel
def Y8{i:Nat}(hi:i<5):∃w∈TH.tz i,Fy (L2.BK (Tr.of (TH.tz i))) (-1)=some (tD w):=⟨_,Zu i hi,List.map_inj_left.mp ZQ i (af.mpr hi)⟩
def mC:∀v∈AL 5,(tD v).depth≤10:=by decide +kernel
def Qv{v:Tr}(hv:v∈AL 5):Ok 10 (tD v):=⟨by simp only[PyData.canLay0];exact Ki v,mC v hv⟩
def HU{n:Nat}{a b:PD}(ha:Ok n a)(hb:Ok n b):Ok (n+1) (.tuple [a,b]):=Lv fun d hd=>by
 rcases aJ.mp hd with rfl|hd
 ·exact ha
 ·rw[List.mem_singleton.mp hd];exact hb
def fj{n:Nat}{a b c:PD}(ha:Ok n a)(hb:Ok n b)(hc:Ok n c):Ok (n+1) (.tuple [a,b,c]):=Lv fun d hd=>by
 rcases aJ.mp hd with rfl|hd
 ·exact ha
 rcases aJ.mp hd with rfl|hd
 ·exact hb
 ·rw[List.mem_singleton.mp hd];exact hc
def Td{n:Nat}{a:PD}(ha:Ok n a):Ok (n+1) (.tuple [a]):=Lv fun d hd=>by rw[List.mem_singleton.mp hd];exact ha
def Ow{v:Tr}(hv:v∈AL 5)(q:Rat):Ok 11 (.tuple [tD v,AK q]):=HU (Qv hv) ((Gf q).mono)
def Gn(T Q:PD)(a b:Int)(w:PD):List PD:=[.tuple [T,.tuple [.int (a+b),.int b]],.tuple [T,.tuple [.int (2*a),.int (2*b)]],.tuple [T,.int a],.list [T,Q],.tuple [T],.tuple [T,Q,.int 0],.tuple [.tuple [.tuple [],.tuple [.tuple []]],Q],.tuple [.list [],Q],.tuple [T,.list [.int a,.int b]],.tuple [.none,Q],.tuple [.tuple [T],Q],.tuple [w,Q]]
def Y6{T Q w:PD}{a b:Int}(hT:Ok 10 T)(hQ:Ok 10 Q)(hw:Ok 10 w):∀y∈Gn T Q a b w,Ok 20 y:=by
 have i:∀j:Int,Ok 10 (.int j):=fun j=>Ok.int;have li:∀xs:List PD,(∀x∈xs,Ok 10 x)→Ok 11 (.list xs):=fun xs h=>L4 h;have ti:∀xs:List PD,(∀x∈xs,Ok 10 x)→Ok 11 (.tuple xs):=fun xs h=>Lv h;have e:Ok 10 (.tuple []):=by constructor<;>decide +kernel
 intro y hy;unfold Gn at hy;simp only[List.mem_cons,List.not_mem_nil,or_false]at hy;rcases hy with rfl|rfl|rfl|rfl|rfl|rfl|rfl|rfl|rfl|rfl|rfl|rfl
 ·exact(HU (n:=11) (hT.mono) (HU (i _) (i _))).mono
 ·exact(HU (n:=11) (hT.mono) (HU (i _) (i _))).mono
 ·exact(HU hT (i _)).mono
 ·refine(li _ fun d hd=>?_).mono;rcases aJ.mp hd with rfl|hd
  ·exact hT
  ·rw[List.mem_singleton.mp hd];exact hQ
 ·exact(Td hT).mono
 ·exact(fj hT hQ (i _)).mono
 ·exact(HU (n:=12) ((HU (n:=11) (e.mono) (Td e)).mono) (hQ.mono)).mono
 ·exact(HU (n:=11) (L4 (n:=10) fun d hd=>by cases hd) (hQ.mono)).mono
 ·refine(HU (n:=11) (hT.mono) (li _ fun d hd=>?_)).mono;rcases aJ.mp hd with rfl|hd
  ·exact i _
  ·rw[List.mem_singleton.mp hd];exact i _
 ·exact(HU Ok.CT hQ).mono
 ·exact(HU (n:=11) (Td hT) (hQ.mono)).mono
 ·exact(HU hw hQ).mono
abbrev fR:MD:=Ce
def jm{v:Tr}(hv:v∈AL 5)(q:Rat)(n:Int):∃y,fR [.tuple [tD v,AK q],.int n,.list Ac]=some y∧Ok 20 y:=by
 obtain⟨w,hw,ew⟩:=RV (i:=3) (by decide) (n / 12);have e4:(((L2.BK (Tr.of (TH.tz 3))).length:Nat):Int)=4:=by kernel_rfl
 rw[e4]at ew;obtain⟨y,hy,ey⟩:=pick (xs:=Gn (tD v) (AK q) q.num (q.den:Int) (tD w)) (m:=12) rfl (by decide) n;refine⟨y,Bz rfl ?_,Y6 (Qv hv) ((Gf q).mono) (Qv (Qx 3 (by decide) w hw)) y hy⟩;unfold KP;refine AR (δ':=[.d (.tuple [tD v,AK q]),.d (.int n),.d (.list Ac),.d (tD v),.d (AK q),.no]) rfl ?_;refine AR (δ':=[.d (.tuple [tD v,AK q]),.d (.int n),.d (.list Ac),.d (tD v),.d (AK q),.own (.lst ((Gn (tD v) (AK q) q.num (q.den:Int) (tD w)).take 3))]) ?_ ?_
 ·show((AA _ _ _).bind IZ).map _=_;rw[AO (x:=.tuple [tD v,.tuple [.int (q.num+(q.den:Int)),.int (q.den:Int)]]) (xs:=[.tuple [tD v,.tuple [.int (2*q.num),.int (2*(q.den:Int))]],.tuple [tD v,.int q.num]]) rfl (AO (Ck (xs:=[tD v,.tuple [.int (2*q.num),.int (2*(q.den:Int))]]) (AO rfl (AO (Ck (xs:=[.int (2*q.num),.int (2*(q.den:Int))]) (AO (Aa (x:=.int 2) (y:=.int q.num) rfl rfl (XD (by decide))) (AO (Aa (x:=.int 2) (y:=.int (q.den:Int)) rfl rfl (XD (by decide))) rfl)) (by show(2:Nat)≤Bi;decide)) rfl)) (by show(2:Nat)≤Bi;decide)) rfl)]
  rfl
 refine AR (δ':=[.d (.tuple [tD v,AK q]),.d (.int n),.d (.list Ac),.d (tD v),.d (AK q),.own (.lst ((Gn (tD v) (AK q) q.num (q.den:Int) (tD w)).take 8))]) rfl ?_;refine AR (δ':=[.d (.tuple [tD v,AK q]),.d (.int n),.d (.list Ac),.d (tD v),.d (AK q),.own (.lst ((Gn (tD v) (AK q) q.num (q.den:Int) (tD w)).take 9))]) rfl ?_;refine AR (δ':=[.d (.tuple [tD v,AK q]),.d (.int n),.d (.list Ac),.d (tD v),.d (AK q),.own (.lst (Gn (tD v) (AK q) q.num (q.den:Int) (tD w)))]) ?_ ?_
 ·show QW 5 _ [.d (.tuple [tD v,AK q]),.d (.int n),.d (.list Ac),.d (tD v),.d (AK q),.d (.list ((Gn (tD v) (AK q) q.num (q.den:Int) (tD w)).take 9))]=_;have h3:AI Am (AI Am (nm 2) (fC (.int 4))) (AI C5 (AI Gp (nm 1) (fC (.int 12))) (fC (.int 4))) [.d (.tuple [tD v,AK q]),.d (.int n),.d (.list Ac),.d (tD v),.d (AK q),.d (.list ((Gn (tD v) (AK q) q.num (q.den:Int) (tD w)).take 9))]=some (tD w):=Aa (x:=CL (TH.tz 3)) (y:=.int ((n / 12) % 4)) rfl (Aa (x:=.int (n / 12)) (y:=.int 4) (Aa (x:=.int n) (y:=.int 12) rfl rfl (div_is (by decide) (by decide))) rfl (mod_is (by decide))) ew;have h4:BW (AA (Af (AA (fC .none) (AA (nm 4) AG))) (AA (Af (AA (Af (AA (nm 3) AG)) (AA (nm 4) AG))) (AA (Af (AA (AI Am (AI Am (nm 2) (fC (.int 4))) (AI C5 (AI Gp (nm 1) (fC (.int 12))) (fC (.int 4)))) (AA (nm 4) AG))) AG))) [.d (.tuple [tD v,AK q]),.d (.int n),.d (.list Ac),.d (tD v),.d (AK q),.d (.list ((Gn (tD v) (AK q) q.num (q.den:Int) (tD w)).take 9))]=some (.list [.tuple [.none,AK q],.tuple [.tuple [tD v],AK q],.tuple [tD w,AK q]]):=MO (AO rfl (AO rfl (AO (Ck (xs:=[tD w,AK q]) (AO h3 (AO rfl rfl)) (by show(2:Nat)≤Bi;decide)) rfl))) (by show(3:Nat)≤Bi;decide);show(AI Lp (nm 5) _ _).bind _=_;rw[Aa (x:=.list ((Gn (tD v) (AK q) q.num (q.den:Int) (tD w)).take 9)) rfl h4 rfl]
  rfl
 ·refine B6 ?_;show(AI C5 (nm 1) (fC (.int 12)) _).bind _=_;rw[Aa (x:=.int n) (y:=.int 12) rfl rfl (mod_is (by decide))];exact ey
structure WB(l:PyData):Prop where
 ok:Ok 30 l
 len:∀ls,l=.list ls→ls.length≤500
def Sn{ls:List PD}(h:∀y∈ls,Ok 20 y)(hl:ls.length≤500):WB (.list ls):=⟨(L4 h).mono,fun _ e=>by injection e with e;rw[←e];exact hl⟩
def eD{xs:List PD}{lo hi:Option Int}{y:PD}(h:y∈cutD xs lo hi):y∈xs:=List.mem_of_mem_drop (List.mem_of_mem_take h)
def ec{xs:List PD}{lo hi:Option Int}:(cutD xs lo hi).length≤xs.length:=by unfold cutD;rw[List.length_take,List.length_drop];lia
def MB{f g:Dv→Option Bool}{δ:Dv}{q:Option Bool}(h:f δ=some true)(k:g δ=q):J2 f g δ=q:=by show(f δ).bind _=q;rw[h];exact k
def VO{f g:Dv→Option Bool}{δ:Dv}(h:f δ=some false):J2 f g δ=some false:=by show(f δ).bind _=_;rw[h];rfl
abbrev cU:MD:=Cd II fR
def Sd{i:Nat}(hi:i<5){fs:Dv→Option (List PD)}{δ:Dv}(h:fs δ=some ((TH.tz i).map tD)):B5 (Cq 1) D9 (Af (AA (nm 1) (AA (AM II (AA (nm 1) AG)) AG))) [none,none] fs δ=some (.list ((TH.tz i).map AU)):=by
 obtain⟨_,a2,_,a4⟩:=Mk i (by lia);show(F9 _ _ _ _ _ _).map PyData.list=_;rw[Jp (zs:=TH.tz i) (a:=tD) (g:=AU) h (by have:=a4 hi;unfold Bi;lia) fun v hv=>?_]
 ·rfl
 ·exact Ck (xs:=[tD v,AK (CU v)]) (AO rfl (AO (Ai (xs:=[tD v]) rfl (Oo (a2 hi v hv).1)) rfl)) (by show(2:Nat)≤Bi;decide)
def jn{vs:List Tr}(hv:∀v∈vs,v∈AL 5)(h1:1≤vs.length)(h17:vs.length≤17)(n:Int):∃l,cU [.list (vs.map AU),.int n,.list Ac]=some l∧WB l:=by
 have oks:∀y∈vs.map AU,Ok 20 y:=fun y hy=>by
  obtain⟨v,h,rfl⟩:=aN.mp hy;exact JQ v (hv v h)
 have hl:(vs.map AU).length≤17:=by rw[List.length_map];exact h17
 have hl1:1≤(vs.map AU).length:=by rw[List.length_map];exact h1
 have run:∀l,C2 II fR [.d (.list (vs.map AU)),.d (.int n),.d (.list Ac),.no,.no]=some (.rt l)→cU [.list (vs.map AU),.int n,.list Ac]=some l:=fun l h=>Bz rfl h;have mem:∀y∈vs.map AU,∃v∈vs,y=AU v:=fun y hy=>by obtain⟨v,h,rfl⟩:=aN.mp hy;exact⟨v,h,rfl⟩
 generalize vs.map AU=xs at oks hl hl1 run mem;obtain⟨j,hj⟩:∃j:Nat,(n / 8) % (xs.length:Int)=(j:Int):=⟨((n / 8) % (xs.length:Int)).toNat,by have:=bS (n / 8) (by lia:(xs.length:Int)≠0);lia⟩;have hjl:j<xs.length:=by have:=bJ (n / 8) (by lia:(0:Int)<(xs.length:Int));lia
 have m8:AI C5 (nm 1) (fC (.int 8)) [.d (.list xs),.d (.int n),.d (.list Ac),.no,.no]=some (.int (n % 8)):=Aa (x:=.int n) (y:=.int 8) rfl rfl (mod_is (by decide));generalize n % 8=act at m8;have m9:AI C5 (AI Gp (nm 1) (fC (.int 8))) (AM DJ (AA (nm 0) AG)) [.d (.list xs),.d (.int n),.d (.list Ac),.d (.int act),.no]=some (.int (j:Int)):=Aa (x:=.int (n / 8)) (y:=.int (xs.length:Nat)) (Aa (x:=.int n) (y:=.int 8) rfl rfl (div_is (by decide) (by decide))) rfl ((mod_is (by lia)).trans (by rw[hj]));have m10:AI Gp (nm 1) (fC (.int 64)) [.d (.list xs),.d (.int n),.d (.list Ac),.d (.int act),.d (.int (j:Int))]=some (.int (n / 64)):=Aa (x:=.int n) (y:=.int 64) rfl rfl (div_is (by decide) (by decide));generalize n / 64=m at m10;have pre:∀(F:DF) (r:Option Ou),F [.d (.list xs),.d (.int m),.d (.list Ac),.d (.int act),.d (.int (j:Int))]=r→AX (BS 3 (AI C5 (nm 1) (fC (.int 8)))) (AX (BS 4 (AI C5 (AI Gp (nm 1) (fC (.int 8))) (AM DJ (AA (nm 0) AG)))) (AX (BS 1 (AI Gp (nm 1) (fC (.int 64)))) F)) [.d (.list xs),.d (.int n),.d (.list Ac),.no,.no]=r:=fun F r h=>AR (Bu m8) (AR (Bu m9) (AR (Bu m10) h));have ac:∀i:Int,Al (BI false) (nm 3) (fC (.int i)) [.d (.list xs),.d (.int m),.d (.list Ac),.d (.int act),.d (.int (j:Int))]=some (decide (act=i)):=fun i=>BP (x:=.int act) (y:=.int i) rfl rfl (Ko _ _);have c2:Al (CH fun i j=>decide (j<i)) (AM DJ (AA (nm 0) AG)) (fC (.int 1)) [.d (.list xs),.d (.int m),.d (.list Ac),.d (.int act),.d (.int (j:Int))]=some (decide ((1:Int)<(xs.length:Int))):=rfl;have cm:∀lo hi,∀y∈cutD xs lo hi,Ok 20 y:=fun lo hi y hy=>oks y (eD hy);have cl:∀lo hi,(cutD xs lo hi).length≤17:=fun lo hi=>aW ec hl;have ix:AI Am (nm 0) (nm 4) [.d (.list xs),.d (.int m),.d (.list Ac),.d (.int act),.d (.int (j:Int))]=some xs[j]:=Aa (x:=.list xs) (y:=.int (j:Int)) rfl rfl (EV (aM hjl));by_cases a0:act=0
 ·refine⟨.list (cutD xs none (some (j:Int))++cutD xs (some ((j:Int)+1)) none),run _ ?_,Sn (fun y hy=>?_) ?_⟩
  ·unfold C2;refine pre _ _ (BF (Bf ((ac 0).trans (by rw[decide_eq_true a0])) (B6 (Aa (x:=.list (cutD xs none (some (j:Int)))) (y:=.list (cutD xs (some ((j:Int)+1)) none)) rfl rfl (I0 ?_)))));have:=cl none (some (j:Int));have:=cl (some ((j:Int)+1)) none;lia
  ·rcases aX.mp hy with h|h<;>exact cm _ _ y h
  ·rw[List.length_append];have:=cl none (some (j:Int));have:=cl (some ((j:Int)+1)) none;lia
 by_cases a1:act=1
 ·refine⟨.list ((cutD xs none (some (j:Int))++[xs[j]])++cutD xs (some (j:Int)) none),run _ ?_,Sn (fun y hy=>?_) ?_⟩
  ·unfold C2;refine pre _ _ (AR (Az ((ac 0).trans (by rw[decide_eq_false a0])) rfl) (BF (Bf ((ac 1).trans (by rw[decide_eq_true a1])) (B6 (Aa (x:=.list (cutD xs none (some (j:Int))++[xs[j]])) (y:=.list (cutD xs (some (j:Int)) none)) (Aa (x:=.list (cutD xs none (some (j:Int)))) (y:=.list [xs[j]]) rfl (MO (AO ix rfl) (by show(1:Nat)≤Bi;decide)) (I0 ?_)) rfl (I0 ?_))))))
   ·have:=cl none (some (j:Int));show _+1≤500;lia
   ·rw[List.length_append];have:=cl none (some (j:Int));have:=cl (some (j:Int)) none;show _+1+_≤500;lia
  ·rcases aX.mp hy with h|h
   ·rcases aX.mp h with h|h
    ·exact cm _ _ y h
    ·rw[List.mem_singleton.mp h];exact oks _ (List.getElem_mem _)
   ·exact cm _ _ y h
  ·rw[List.length_append,List.length_append];have:=cl none (some (j:Int));have:=cl (some (j:Int)) none;show _+1+_≤500;lia
 have n1:∀(F:DF) (r:Option Ou),F [.d (.list xs),.d (.int m),.d (.list Ac),.d (.int act),.d (.int (j:Int))]=r→AX (Bs (Al (BI false) (nm 3) (fC (.int 0))) (A7 (AI Ay (IQ (nm 0) GW (GZ (nm 4))) (IQ (nm 0) (GZ (AI Ay (nm 4) (fC (.int 1)))) GW))) A9) (AX (Bs (Al (BI false) (nm 3) (fC (.int 1))) (A7 (AI Ay (AI Ay (IQ (nm 0) GW (GZ (nm 4))) (BW (AA (AI Am (nm 0) (nm 4)) AG))) (IQ (nm 0) (GZ (nm 4)) GW))) A9) F) [.d (.list xs),.d (.int m),.d (.list Ac),.d (.int act),.d (.int (j:Int))]=r:=fun F r h=>AR (Az ((ac 0).trans (by rw[decide_eq_false a0])) rfl) (AR (Az ((ac 1).trans (by rw[decide_eq_false a1])) rfl) h);by_cases a2:act=2∧(1:Int)<(xs.length:Int)
 ·refine⟨.list (cutD xs (some 1) none++cutD xs none (some 1)),run _ ?_,Sn (fun y hy=>?_) ?_⟩
  ·unfold C2;refine pre _ _ (n1 _ _ (BF (Bf (MB ((ac 2).trans (by rw[decide_eq_true a2.1])) (c2.trans (by rw[decide_eq_true a2.2]))) (B6 (Aa (x:=.list (cutD xs (some 1) none)) (y:=.list (cutD xs none (some 1))) rfl rfl (I0 ?_))))));have:=cl (some 1) none;have:=cl none (some 1);lia
  ·rcases aX.mp hy with h|h<;>exact cm _ _ y h
  ·rw[List.length_append];have:=cl (some 1) none;have:=cl none (some 1);lia
 have e2:J2 (Al (BI false) (nm 3) (fC (.int 2))) (Al (CH fun i j=>decide (j<i)) (AM DJ (AA (nm 0) AG)) (fC (.int 1))) [.d (.list xs),.d (.int m),.d (.list Ac),.d (.int act),.d (.int (j:Int))]=some false:=by
  by_cases z:act=2
  ·exact MB ((ac 2).trans (by rw[decide_eq_true z])) (c2.trans (by rw[decide_eq_false fun y=>a2 ⟨z,y⟩]))
  ·exact VO ((ac 2).trans (by rw[decide_eq_false z]))
 by_cases a3:act=3
 ·obtain⟨i,hi⟩:∃i:Nat,m % 4=(i:Int):=⟨(m % 4).toNat,by have:=bS m (by decide:(4:Int)≠0);lia⟩;have hi5:i<5:=by have:=bJ m (by decide:(0:Int)<4);lia
  have l9:=(Mk i (by lia)).2.2.2 hi5;refine⟨.list (xs++(TH.tz i).map AU),run _ ?_,Sn (fun y hy=>?_) ?_⟩
  ·unfold C2;refine pre _ _ (n1 _ _ (AR (Az e2 rfl) (BF (Bf ((ac 3).trans (by rw[decide_eq_true a3])) (B6 (Aa (x:=.list xs) (y:=.list ((TH.tz i).map AU)) rfl (Sd hi5 ?_) (I0 ?_)))))))
   ·refine MK (x:=CL (TH.tz i)) (Aa (x:=.list Ac) (y:=.int ((i+1:Nat):Int)) rfl (Aa (x:=.int 1) (y:=.int (i:Int)) rfl (Aa (x:=.int m) (y:=.int 4) rfl rfl ((mod_is (by decide)).trans (by rw[hi]))) (show some (PyData.int (1+(i:Int)))=_ by rw[show(1:Int)+(i:Int)=((i+1:Nat):Int) by lia])) (EV (MA hi5))) ?_;show some (L2.BK (Tr.of (TH.tz i)))=_;rw[Et]
   ·rw[List.length_map];lia
  ·rcases aX.mp hy with h|h
   ·exact oks y h
   ·obtain⟨v,hv',rfl⟩:=aN.mp h;exact JQ v (Qx i hi5 v hv')
  ·rw[List.length_append,List.length_map];lia
 by_cases a4:act=4
 ·refine⟨.tuple xs,run _ ?_,⟨(Lv oks).mono,fun _ e=>by cases e⟩⟩;unfold C2;exact pre _ _ (n1 _ _ (AR (Az e2 rfl) (AR (Az ((ac 3).trans (by rw[decide_eq_false a3])) rfl) (BF (Bf ((ac 4).trans (by rw[decide_eq_true a4])) rfl)))))
 obtain⟨v,hv',ev⟩:=mem xs[j] (List.getElem_mem _);obtain⟨y,ey,oy⟩:=jm (hv v hv') (CU v) m;refine⟨.list ((cutD xs none (some (j:Int))++[y])++cutD xs (some ((j:Int)+1)) none),run _ ?_,Sn (fun z hz=>?_) ?_⟩
 ·unfold C2;refine pre _ _ (n1 _ _ (AR (Az e2 rfl) (AR (Az ((ac 3).trans (by rw[decide_eq_false a3])) rfl) (AR (Az ((ac 4).trans (by rw[decide_eq_false a4])) rfl) (B6 (Aa (x:=.list (cutD xs none (some (j:Int))++[y])) (y:=.list (cutD xs (some ((j:Int)+1)) none)) (Aa (x:=.list (cutD xs none (some (j:Int)))) (y:=.list [y]) rfl (MO (AO (Ai (xs:=[AU v,.int m,.list Ac]) (AO (ix.trans (by rw[ev])) rfl) ey) rfl) (by show(1:Nat)≤Bi;decide)) (I0 ?_)) rfl (I0 ?_)))))))
  ·have:=cl none (some (j:Int));show _+1≤500;lia
  ·rw[List.length_append];have:=cl none (some (j:Int));have:=cl (some ((j:Int)+1)) none;show _+1+_≤500;lia
 ·rcases aX.mp hz with h|h
  ·rcases aX.mp h with h|h
   ·exact cm _ _ z h
   ·rw[List.mem_singleton.mp h];exact oy
  ·exact cm _ _ z h
 ·rw[List.length_append,List.length_append];have:=cl none (some (j:Int));have:=cl (some ((j:Int)+1)) none;show _+1+_≤500;lia
noncomputable abbrev Q6:MD:=FZ cU II Jd
def Iy{x l d:PD}(hx:Ok 30 x)(hl:WB l)(hd:Ok 30 d)(h6:∀i,x=.int i→i≠6):Qe (.tuple [x,l,d]):=⟨(fj hx hl.ok hd).mono,fun o l' d' e=>by injection e with e;injection e with e1 _;exact h6 o e1,fun o ls d' e=>by injection e with e;injection e with _ e;injection e with e2 _;exact hl.len ls e2⟩
def Nf{p:PD}(h:Ok 40 p)(hn:∀a b c,p≠.tuple [a,b,c]):Qe p:=⟨h,fun _ _ _ e=>absurd e (hn _ _ _),fun _ _ _ e=>absurd e (hn _ _ _)⟩
def Zi{t:Tb}(o:t.Ok 4)(s:t.Sm){i:Nat}(hi:i<5){fs:Dv→Option (List PD)}{δ:Dv}(h:fs δ=some ((TH.tz i).map tD))(h0:nm 0 δ=some (AQ t))(hc:DQ [none,none,some 0] δ=[.no,.no,.d (AQ t)]):B5 (Cq 1) D9 (Af (AA (nm 1) (AA (AM Jd (AA (nm 2) (AA (nm 1) AG))) AG))) [none,none,some 0] fs δ=some (.list ((TH.tz i).map (Ym t))):=by
 obtain⟨_,a2,_,a4⟩:=Mk i (by lia);show(F9 _ _ _ _ _ _).map PyData.list=_;rw[Jp (zs:=TH.tz i) (a:=tD) (g:=Ym t) h (by have:=a4 hi;unfold Bi;lia) fun v hv=>?_]
 ·rfl
 ·rw[hc];exact Ck (xs:=[tD v,AK (Ap t v)]) (AO rfl (AO (Ai (xs:=[AQ t,tD v]) rfl (RN o s (a2 hi v hv).1)) rfl)) (by show(2:Nat)≤Bi;decide)
def ed{t:Tb}(o:t.Ok 4)(s:t.Sm){k:Nat}{u:Tr}(h:Z4 t k u)(n:Int):∃p,Q6 [AQ t,CY t k u,.int n,.list Ac]=some p∧Qe p:=by
 have hk:=h.k5;obtain⟨b1,b2,b3,b4⟩:=Mk k (by lia);have b4:=b4 hk;have oks:∀y∈(AL k).map AU,Ok 20 y:=fun y hy=>by
  obtain⟨v,hv,rfl⟩:=aN.mp hy;exact JQ v ((b1 v hv).2 hk)
 have llen:((AL k).map AU).length≤17:=by rw[List.length_map];exact b3
 have oL:WB (.list ((AL k).map AU)):=Sn oks (by lia);have oO:Ok 11 (.tuple [tD u,AK (Ap t u)]):=Ow h.m5 _;have oO30:=oO.mono (show 11≤30 by decide);have run:∀p,Dp cU II Jd [.d (AQ t),.d (CY t k u),.d (.int n),.d (.list Ac),.no,.no,.no,.no,.no,.no,.no]=some (.rt p)→Q6 [AQ t,CY t k u,.int n,.list Ac]=some p:=fun p hp=>Bz rfl hp;have e8:AI C5 (nm 2) (fC (.int 8)) [.d (AQ t),.d (CY t k u),.d (.int n),.d (.list Ac),.d (.int (k:Int)),.d (.list ((AL k).map AU)),.d (.tuple [tD u,AK (Ap t u)]),.no,.no,.no,.no]=some (.int (n % 8)):=Aa (x:=.int n) (y:=.int 8) rfl rfl (mod_is (by decide));generalize n % 8=act at e8;have e9:AI Gp (nm 2) (fC (.int 8)) [.d (AQ t),.d (CY t k u),.d (.int n),.d (.list Ac),.d (.int (k:Int)),.d (.list ((AL k).map AU)),.d (.tuple [tD u,AK (Ap t u)]),.d (.int act),.no,.no,.no]=some (.int (n / 8)):=Aa (x:=.int n) (y:=.int 8) rfl rfl (div_is (by decide) (by decide));generalize n / 8=m at e9;have pre:∀(F:DF) (r:Option Ou),F [.d (AQ t),.d (CY t k u),.d (.int m),.d (.list Ac),.d (.int (k:Int)),.d (.list ((AL k).map AU)),.d (.tuple [tD u,AK (Ap t u)]),.d (.int act),.no,.no,.no]=r→AX (VB (nm 1) (RF 4 5 6)) (AX (BS 7 (AI C5 (nm 2) (fC (.int 8)))) (AX (BS 2 (AI Gp (nm 2) (fC (.int 8)))) F)) [.d (AQ t),.d (CY t k u),.d (.int n),.d (.list Ac),.no,.no,.no,.no,.no,.no,.no]=r:=fun F r hF=>AR (δ':=[.d (AQ t),.d (CY t k u),.d (.int n),.d (.list Ac),.d (.int (k:Int)),.d (.list ((AL k).map AU)),.d (.tuple [tD u,AK (Ap t u)]),.no,.no,.no,.no]) rfl (AR (Bu e8) (AR (Bu e9) hF));have ac:∀i:Int,Al (BI false) (nm 7) (fC (.int i)) [.d (AQ t),.d (CY t k u),.d (.int m),.d (.list Ac),.d (.int (k:Int)),.d (.list ((AL k).map AU)),.d (.tuple [tD u,AK (Ap t u)]),.d (.int act),.no,.no,.no]=some (decide (act=i)):=fun i=>BP (x:=.int act) (y:=.int i) rfl rfl (Ko _ _);have c4:Al (CH fun i j=>decide (i<j)) (nm 4) (fC (.int 4)) [.d (AQ t),.d (CY t k u),.d (.int m),.d (.list Ac),.d (.int (k:Int)),.d (.list ((AL k).map AU)),.d (.tuple [tD u,AK (Ap t u)]),.d (.int act),.no,.no,.no]=some (decide ((k:Int)<4)):=rfl;have at_:∀(i:Nat) (hi:i<5) (c:Int) (hc:(k:Int)+c=((i+1:Nat):Int)) (l0 l1 l2 l5 l6 l7 l8 l9 l10:L),AI Am (nm 3) (AI Ay (nm 4) (fC (.int c))) [l0,l1,l2,.d (.list Ac),.d (.int (k:Int)),l5,l6,l7,l8,l9,l10]=some (CL (TH.tz i)):=fun i hi c hc _ _ _ _ _ _ _ _ _=>Aa (x:=.list Ac) (y:=.int ((i+1:Nat):Int)) rfl (Aa (x:=.int (k:Int)) (y:=.int c) rfl rfl (show some (PyData.int ((k:Int)+c))=_ by rw[hc])) (EV (MA hi));have sq:∀i:Nat,B2 (fun _=>some (CL (TH.tz i))) ([]:Dv)=some ((TH.tz i).map tD):=fun i=>by
  show some (L2.BK (Tr.of (TH.tz i)))=_;rw[Et]
 have sqk:∀(l0 l1 l2 l5 l6 l7 l8 l9 l10:L),B2 (AI Am (nm 3) (AI Ay (nm 4) (fC (.int 1)))) [l0,l1,l2,.d (.list Ac),.d (.int (k:Int)),l5,l6,l7,l8,l9,l10]=some ((TH.tz k).map tD):=fun _ _ _ _ _ _ _ _ _=>MK (x:=CL (TH.tz k)) (at_ k hk 1 rfl _ _ _ _ _ _ _ _ _) (sq k);by_cases a7:act=7∧(k:Int)<4
 ·obtain⟨w,hw,ew⟩:=RV (i:=k+1) (by lia) m;have w5:=Qx (k+1) (by lia) w hw;have okm:∀(g:Tr→PD),(∀v∈TH.tz k,Ok 20 (g v))→WB (.list ((AL k).map AU++(TH.tz k).map g)):=fun g hg=>Sn (fun y hy=>by
   rcases aX.mp hy with z|z
   ·exact oks y z
   ·obtain⟨v,hv,rfl⟩:=aN.mp z;exact hg v hv) (by rw[List.length_append,List.length_map,List.length_map];lia)
  have k1:=okm AU fun v hv=>JQ v (Qx k hk v hv);have k2:=okm (Ym t) fun v hv=>(Ow (Qx k hk v hv) _).mono;have p1:AI Ay (nm 5) (B5 (Cq 1) D9 (Af (AA (nm 1) (AA (AM II (AA (nm 1) AG)) AG))) [none,none] (B2 (AI Am (nm 3) (AI Ay (nm 4) (fC (.int 1)))))) [.d (AQ t),.d (CY t k u),.d (.int m),.d (.list Ac),.d (.int (k:Int)),.d (.list ((AL k).map AU)),.d (.tuple [tD u,AK (Ap t u)]),.d (.int act),.no,.no,.no]=some (.list ((AL k).map AU++(TH.tz k).map AU)):=Aa (x:=.list ((AL k).map AU)) (y:=.list ((TH.tz k).map AU)) rfl (Sd hk (sqk _ _ _ _ _ _ _ _ _)) (I0 (by rw[List.length_map,List.length_map];lia));have p2:AI Ay (nm 5) (B5 (Cq 1) D9 (Af (AA (nm 1) (AA (AM Jd (AA (nm 2) (AA (nm 1) AG))) AG))) [none,none,some 0] (B2 (AI Am (nm 3) (AI Ay (nm 4) (fC (.int 1)))))) [.d (AQ t),.d (CY t k u),.d (.int m),.d (.list Ac),.d (.int (k:Int)),.d (.list ((AL k).map AU)),.d (.tuple [tD u,AK (Ap t u)]),.d (.int act),.d (.list ((AL k).map AU++(TH.tz k).map AU)),.no,.no]=some (.list ((AL k).map AU++(TH.tz k).map (Ym t))):=Aa (x:=.list ((AL k).map AU)) (y:=.list ((TH.tz k).map (Ym t))) rfl (Zi o s hk (sqk _ _ _ _ _ _ _ _ _) rfl rfl) (I0 (by rw[List.length_map,List.length_map];lia));have c40:Al (BI false) (AI C5 (AI Gp (nm 2) (fC (.int 40))) (fC (.int 2))) (fC (.int 1)) [.d (AQ t),.d (CY t k u),.d (.int m),.d (.list Ac),.d (.int (k:Int)),.d (.list ((AL k).map AU)),.d (.tuple [tD u,AK (Ap t u)]),.d (.int act),.d (.list ((AL k).map AU++(TH.tz k).map AU)),.no,.no]=some (decide ((m / 40) % 2=1)):=BP (x:=.int ((m / 40) % 2)) (y:=.int 1) (Aa (x:=.int (m / 40)) (y:=.int 2) (Aa (x:=.int m) (y:=.int 40) rfl rfl (div_is (by decide) (by decide))) rfl (mod_is (by decide))) rfl (Ko _ _);have fin:∀M:PD,WB M→∃p,AX (BS 9 (AI Am (AI Am (nm 3) (AI Ay (nm 4) (fC (.int 2)))) (AI C5 (nm 2) (AM DJ (AA (AI Am (nm 3) (AI Ay (nm 4) (fC (.int 2)))) AG))))) (A7 (Af (AA (AI Ay (nm 4) (fC (.int 1))) (AA (nm 8) (AA (Af (AA (nm 9) (AA (AM Jd (AA (nm 0) (AA (nm 9) AG))) AG))) AG))))) [.d (AQ t),.d (CY t k u),.d (.int m),.d (.list Ac),.d (.int (k:Int)),.d (.list ((AL k).map AU)),.d (.tuple [tD u,AK (Ap t u)]),.d (.int act),.d M,.no,.no]=some (.rt p)∧Qe p:=fun M hM=>by
   have tk:=at_ (k+1) (by lia) 2 (by lia) (.d (AQ t)) (.d (CY t k u)) (.d (.int m)) (.d (.list ((AL k).map AU))) (.d (.tuple [tD u,AK (Ap t u)])) (.d (.int act)) (.d M) .no .no;refine⟨.tuple [.int ((k:Int)+1),M,.tuple [tD w,AK (Ap t w)]],AR (Bu (y:=tD w) (Aa (x:=CL (TH.tz (k+1))) (y:=.int (m % (((L2.BK (Tr.of (TH.tz (k+1)))).length:Nat):Int))) tk (Aa (x:=.int m) (y:=.int (((L2.BK (Tr.of (TH.tz (k+1)))).length:Nat):Int)) rfl (Ai (xs:=[CL (TH.tz (k+1))]) (AO tk rfl) rfl) (mod_is ?_)) ew)) (B6 (Ck (xs:=[.int ((k:Int)+1),M,.tuple [tD w,AK (Ap t w)]]) (AO rfl (AO rfl (AO (Ck (xs:=[tD w,AK (Ap t w)]) (AO rfl (AO (Ai (xs:=[AQ t,tD w]) rfl (RN o s w5)) rfl)) (by show(2:Nat)≤Bi;decide)) rfl))) (by show(3:Nat)≤Bi;decide))),Iy Ok.int hM ((Ow w5 _).mono) fun i e=>by injection e with e;lia⟩;have:L2.BK (Tr.of (TH.tz (k+1)))=(TH.tz (k+1)).map tD:=Et _;rw[this,List.length_map];have:=U8 (k+1) (by lia)
   lia
  have cc:J2 (Al (BI false) (nm 7) (fC (.int 7))) (Al (CH fun i j=>decide (i<j)) (nm 4) (fC (.int 4))) [.d (AQ t),.d (CY t k u),.d (.int m),.d (.list Ac),.d (.int (k:Int)),.d (.list ((AL k).map AU)),.d (.tuple [tD u,AK (Ap t u)]),.d (.int act),.no,.no,.no]=some true:=MB ((ac 7).trans (by rw[decide_eq_true a7.1])) (c4.trans (by rw[decide_eq_true a7.2]));by_cases z:(m / 40) % 2=1
  ·rw[decide_eq_true z]at c40;obtain⟨p,hp,po⟩:=fin _ k2;refine⟨p,run _ ?_,po⟩;unfold Dp;exact pre _ _ (BF (Bf cc (AR (Bu p1) (AR (Bf c40 (Bu p2)) hp))))
  ·rw[decide_eq_false z]at c40;obtain⟨p,hp,po⟩:=fin _ k1;refine⟨p,run _ ?_,po⟩;unfold Dp;exact pre _ _ (BF (Bf cc (AR (Bu p1) (AR (Az c40 rfl) hp))))
 have cc:J2 (Al (BI false) (nm 7) (fC (.int 7))) (Al (CH fun i j=>decide (i<j)) (nm 4) (fC (.int 4))) [.d (AQ t),.d (CY t k u),.d (.int m),.d (.list Ac),.d (.int (k:Int)),.d (.list ((AL k).map AU)),.d (.tuple [tD u,AK (Ap t u)]),.d (.int act),.no,.no,.no]=some false:=by
  by_cases z:act=7
  ·exact MB ((ac 7).trans (by rw[decide_eq_true z])) (c4.trans (by rw[decide_eq_false fun y=>a7 ⟨z,y⟩]))
  ·exact VO ((ac 7).trans (by rw[decide_eq_false z]))
 by_cases a0:act=0
 ·obtain⟨y,hy,ey⟩:=pick (xs:=[.int ((k:Int)+1),.int ((k:Int)-1),.bool true,.str (Str.ofString (toString (k:Int))),.int (-1),.int 7,.none,.tuple [.int (k:Int)]]) (m:=8) rfl (by decide) m;have lst:BW (AA (AI Ay (nm 4) (fC (.int 1))) (AA (AI RQ (nm 4) (fC (.int 1))) (AA (fC (.bool true)) (AA (AM XU (AA (nm 4) AG)) (AA (VA (fC (.int 1))) (AA (fC (.int 7)) (AA (fC .none) (AA (Af (AA (nm 4) AG)) AG)))))))) [.d (AQ t),.d (CY t k u),.d (.int m),.d (.list Ac),.d (.int (k:Int)),.d (.list ((AL k).map AU)),.d (.tuple [tD u,AK (Ap t u)]),.d (.int act),.no,.no,.no]=some (.list [.int ((k:Int)+1),.int ((k:Int)-1),.bool true,.str (Str.ofString (toString (k:Int))),.int (-1),.int 7,.none,.tuple [.int (k:Int)]]):=MO (AO rfl (AO rfl (AO rfl (AO (Ai (xs:=[.int (k:Int)]) rfl (if_pos (by lia))) rfl)))) (by show(8:Nat)≤Bi;decide);refine⟨.tuple [y,.list ((AL k).map AU),.tuple [tD u,AK (Ap t u)]],run _ ?_,?_⟩
  ·unfold Dp;exact pre _ _ (AR (Az cc rfl) (BF (Bf ((ac 0).trans (by rw[decide_eq_true a0])) (B6 (Ck (xs:=[y,.list ((AL k).map AU),.tuple [tD u,AK (Ap t u)]]) (AO (Aa (y:=.int (m % 8)) lst (Aa (x:=.int m) (y:=.int 8) rfl rfl (mod_is (by decide))) ey) (AO rfl (AO rfl rfl))) (by show(3:Nat)≤Bi;decide))))))
  ·simp only[List.mem_cons,List.not_mem_nil,or_false]at hy;rcases hy with rfl|rfl|rfl|rfl|rfl|rfl|rfl|rfl
   ·exact Iy Ok.int oL oO30 fun i e=>by injection e with e;lia
   ·exact Iy Ok.int oL oO30 fun i e=>by injection e with e;lia
   ·exact Iy Ok.bool oL oO30 fun i e=>by cases e
   ·exact Iy (Ok.str (U7 _)) oL oO30 fun i e=>by cases e
   ·exact Iy Ok.int oL oO30 fun i e=>by injection e with e;lia
   ·exact Iy Ok.int oL oO30 fun i e=>by injection e with e;lia
   ·exact Iy Ok.CT oL oO30 fun i e=>by cases e
   ·exact Iy ((Td (n:=1) Ok.int).mono) oL oO30 fun i e=>by cases e
 have n0:∀(A B F:DF) (r:Option Ou),F [.d (AQ t),.d (CY t k u),.d (.int m),.d (.list Ac),.d (.int (k:Int)),.d (.list ((AL k).map AU)),.d (.tuple [tD u,AK (Ap t u)]),.d (.int act),.no,.no,.no]=r→AX (Bs (J2 (Al (BI false) (nm 7) (fC (.int 7))) (Al (CH fun i j=>decide (i<j)) (nm 4) (fC (.int 4)))) A A9) (AX (Bs (Al (BI false) (nm 7) (fC (.int 0))) B A9) F) [.d (AQ t),.d (CY t k u),.d (.int m),.d (.list Ac),.d (.int (k:Int)),.d (.list ((AL k).map AU)),.d (.tuple [tD u,AK (Ap t u)]),.d (.int act),.no,.no,.no]=r:=fun A B F r hF=>AR (Az cc rfl) (AR (Az ((ac 0).trans (by rw[decide_eq_false a0])) rfl) hF);have cL:Al (BI true) (nm 5) (BW AG) [.d (AQ t),.d (CY t k u),.d (.int m),.d (.list Ac),.d (.int (k:Int)),.d (.list ((AL k).map AU)),.d (.tuple [tD u,AK (Ap t u)]),.d (.int act),.no,.no,.no]=some (decide ((AL k).map AU≠[])):=BP (x:=.list ((AL k).map AU)) (y:=.list []) rfl rfl (ne_nil oks (by decide));have c3:Al (CH fun i j=>decide (i<j)) (nm 7) (fC (.int 3)) [.d (AQ t),.d (CY t k u),.d (.int m),.d (.list Ac),.d (.int (k:Int)),.d (.list ((AL k).map AU)),.d (.tuple [tD u,AK (Ap t u)]),.d (.int act),.no,.no,.no]=some (decide (act<3)):=rfl;by_cases a2:act<3∧(AL k).map AU≠[]
 ·have h1:1≤(AL k).length:=by
   rcases Nat.eq_zero_or_pos (AL k).length with z|z
   ·exact absurd (by rw[List.length_eq_zero_iff.mp z];rfl) a2.2
   ·exact z
  obtain⟨l,el,ol⟩:=jn (vs:=AL k) (fun v hv=>(b1 v hv).2 hk) h1 b3 m;refine⟨.tuple [.int (k:Int),l,.tuple [tD u,AK (Ap t u)]],run _ ?_,Iy Ok.int ol oO30 fun i e=>by injection e with e;lia⟩;unfold Dp;refine pre _ _ (n0 _ _ _ _ (BF (Bf (MB (c3.trans (by rw[decide_eq_true a2.1])) (cL.trans (aj some (aw a2.2)))) (B6 (Ck (xs:=[.int (k:Int),l,.tuple [tD u,AK (Ap t u)]]) (AO rfl (AO (Ai (xs:=[.list ((AL k).map AU),.int m,.list Ac]) rfl el) (AO rfl rfl))) (by show(3:Nat)≤Bi;decide))))))
 have c23:J2 (Al (CH fun i j=>decide (i<j)) (nm 7) (fC (.int 3))) (Al (BI true) (nm 5) (BW AG)) [.d (AQ t),.d (CY t k u),.d (.int m),.d (.list Ac),.d (.int (k:Int)),.d (.list ((AL k).map AU)),.d (.tuple [tD u,AK (Ap t u)]),.d (.int act),.no,.no,.no]=some false:=by
  by_cases z:act<3
  ·exact MB (c3.trans (by rw[decide_eq_true z])) (cL.trans (aj some (aZ fun y=>a2 ⟨z,y⟩)))
  ·exact VO (c3.trans (by rw[decide_eq_false z]))
 by_cases a3:act=3
 ·obtain⟨y,hy,ey⟩:=pick (xs:=[.none,.tuple [],.list [.int (k:Int),.list ((AL k).map AU),.tuple [tD u,AK (Ap t u)]],.tuple [.int (k:Int),.list ((AL k).map AU)],.tuple [.int (k:Int),.list ((AL k).map AU),.tuple [tD u,AK (Ap t u)],.int 0],.str (Str.ofString "paper"),.int 0,.bool true]) (m:=8) rfl (by decide) m;refine⟨y,run _ ?_,?_⟩
  ·unfold Dp;exact pre _ _ (n0 _ _ _ _ (AR (Az c23 rfl) (BF (Bf ((ac 3).trans (by rw[decide_eq_true a3])) (B6 (Aa (y:=.int (m % 8)) rfl (Aa (x:=.int m) (y:=.int 8) rfl rfl (mod_is (by decide))) ey))))))
  ·simp only[List.mem_cons,List.not_mem_nil,or_false]at hy;have three:∀d∈[PyData.int (k:Int),.list ((AL k).map AU),.tuple [tD u,AK (Ap t u)],.int 0],Ok 30 d:=fun d hd=>by
    simp only[List.mem_cons,List.not_mem_nil,or_false]at hd;rcases hd with rfl|rfl|rfl|rfl
    ·exact Ok.int
    ·exact oL.ok
    ·exact oO30
    ·exact Ok.int
   rcases hy with rfl|rfl|rfl|rfl|rfl|rfl|rfl|rfl
   ·exact Nf Ok.CT fun _ _ _ e=>by cases e
   ·exact Nf ((Lv (n:=1) fun d hd=>by cases hd).mono) fun _ _ _ e=>by cases e
   ·exact Nf ((L4 (n:=30) fun d hd=>three d (by simp only[List.mem_cons,List.not_mem_nil,or_false]at hd ⊢;rcases hd with z|z|z<;>simp[z])).mono) fun _ _ _ e=>by cases e
   ·exact Nf ((HU (n:=30) Ok.int oL.ok).mono) fun _ _ _ e=>by cases e
   ·exact Nf ((Lv (n:=30) three).mono) fun _ _ _ e=>by cases e
   ·exact Nf (Ok.str (U7 _)) fun _ _ _ e=>by cases e
   ·exact Nf Ok.int fun _ _ _ e=>by cases e
   ·exact Nf Ok.bool fun _ _ _ e=>by cases e
 by_cases a4:act=4
 ·obtain⟨y,hy,ey⟩:=pick (xs:=[.none,.list [tD u,AK (Ap t u)],.tuple [tD u],.tuple [tD u,AK (CU u)],tD u,.int 0]) (m:=6) rfl (by decide) m;have ltr:AM II (AA (AI Am (nm 6) (fC (.int 0))) AG) [.d (AQ t),.d (CY t k u),.d (.int m),.d (.list Ac),.d (.int (k:Int)),.d (.list ((AL k).map AU)),.d (.tuple [tD u,AK (Ap t u)]),.d (.int act),.no,.no,.no]=some (AK (CU u)):=Ai (xs:=[tD u]) rfl (Oo h.m5);have lst:BW (AA (fC .none) (AA (AM JR (AA (nm 6) AG)) (AA (Af (AA (AI Am (nm 6) (fC (.int 0))) AG)) (AA (Af (AA (AI Am (nm 6) (fC (.int 0))) (AA (AM II (AA (AI Am (nm 6) (fC (.int 0))) AG)) AG))) (AA (AI Am (nm 6) (fC (.int 0))) (AA (fC (.int 0)) AG)))))) [.d (AQ t),.d (CY t k u),.d (.int m),.d (.list Ac),.d (.int (k:Int)),.d (.list ((AL k).map AU)),.d (.tuple [tD u,AK (Ap t u)]),.d (.int act),.no,.no,.no]=some (.list [.none,.list [tD u,AK (Ap t u)],.tuple [tD u],.tuple [tD u,AK (CU u)],tD u,.int 0]):=MO (AO rfl (AO rfl (AO rfl (AO (Ck (xs:=[tD u,AK (CU u)]) (AO rfl (AO ltr rfl)) (by show(2:Nat)≤Bi;decide)) rfl)))) (by show(6:Nat)≤Bi;decide);have oT:=Qv h.m5;refine⟨.tuple [.int (k:Int),.list ((AL k).map AU),y],run _ ?_,Iy Ok.int oL ?_ fun i e=>by injection e with e;lia⟩
  ·unfold Dp;exact pre _ _ (n0 _ _ _ _ (AR (Az c23 rfl) (AR (Az ((ac 3).trans (by rw[decide_eq_false a3])) rfl) (BF (Bf ((ac 4).trans (by rw[decide_eq_true a4])) (B6 (Ck (xs:=[.int (k:Int),.list ((AL k).map AU),y]) (AO rfl (AO rfl (AO (Aa (y:=.int (m % 6)) lst (Aa (x:=.int m) (y:=.int 6) rfl rfl (mod_is (by decide))) ey) rfl))) (by show(3:Nat)≤Bi;decide))))))))
  ·simp only[List.mem_cons,List.not_mem_nil,or_false]at hy;rcases hy with rfl|rfl|rfl|rfl|rfl|rfl
   ·exact Ok.CT
   ·refine(L4 (n:=10) fun d hd=>?_).mono;rcases aJ.mp hd with rfl|hd
    ·exact oT
    ·rw[List.mem_singleton.mp hd];exact(Gf _).mono
   ·exact(Td oT).mono
   ·exact(Ow h.m5 _).mono
   ·exact oT.mono
   ·exact Ok.int
 have n4:∀(A B C F:DF) (r:Option Ou),F [.d (AQ t),.d (CY t k u),.d (.int m),.d (.list Ac),.d (.int (k:Int)),.d (.list ((AL k).map AU)),.d (.tuple [tD u,AK (Ap t u)]),.d (.int act),.no,.no,.no]=r→AX (Bs (J2 (Al (CH fun i j=>decide (i<j)) (nm 7) (fC (.int 3))) (Al (BI true) (nm 5) (BW AG))) A A9) (AX (Bs (Al (BI false) (nm 7) (fC (.int 3))) B A9) (AX (Bs (Al (BI false) (nm 7) (fC (.int 4))) C A9) F)) [.d (AQ t),.d (CY t k u),.d (.int m),.d (.list Ac),.d (.int (k:Int)),.d (.list ((AL k).map AU)),.d (.tuple [tD u,AK (Ap t u)]),.d (.int act),.no,.no,.no]=r:=fun A B C F r hF=>AR (Az c23 rfl) (AR (Az ((ac 3).trans (by rw[decide_eq_false a3])) rfl) (AR (Az ((ac 4).trans (by rw[decide_eq_false a4])) rfl) hF));by_cases a5:act=5
 ·obtain⟨i,hi⟩:∃i:Nat,m % 5=(i:Int):=⟨(m % 5).toNat,by have:=bS m (by decide:(5:Int)≠0);lia⟩;have hi5:i<5:=by have:=bJ m (by decide:(0:Int)<5);lia
  obtain⟨w,hw,ew⟩:=Y8 hi5;have w5:=Qx i hi5 w hw;refine⟨.tuple [.int (k:Int),.list ((AL k).map AU),.tuple [tD w,AK (Ap t w)]],run _ ?_,Iy Ok.int oL ((Ow w5 _).mono) fun i e=>by injection e with e;lia⟩;unfold Dp;exact pre _ _ (n0 _ _ _ _ (n4 _ _ _ _ _ (BF (Bf ((ac 5).trans (by rw[decide_eq_true a5])) (AR (Bu (y:=tD w) (Aa (x:=CL (TH.tz i)) (y:=.int (-1)) (Aa (x:=.list Ac) (y:=.int ((i+1:Nat):Int)) rfl (Aa (x:=.int 1) (y:=.int (i:Int)) rfl (Aa (x:=.int m) (y:=.int 5) rfl rfl ((mod_is (by decide)).trans (by rw[hi]))) (show some (PyData.int (1+(i:Int)))=_ by rw[show(1:Int)+(i:Int)=((i+1:Nat):Int) by lia])) (EV (MA hi5))) rfl ew)) (B6 (Ck (xs:=[.int (k:Int),.list ((AL k).map AU),.tuple [tD w,AK (Ap t w)]]) (AO rfl (AO rfl (AO (Ck (xs:=[tD w,AK (Ap t w)]) (AO rfl (AO (Ai (xs:=[AQ t,tD w]) rfl (RN o s w5)) rfl)) (by show(2:Nat)≤Bi;decide)) rfl))) (by show(3:Nat)≤Bi;decide))))))))
 obtain⟨w,hw,ew⟩:=RV hk m;have w5:=Qx k hk w hw;have tk:=at_ k hk 1 rfl (.d (AQ t)) (.d (CY t k u)) (.d (.int m)) (.d (.list ((AL k).map AU))) (.d (.tuple [tD u,AK (Ap t u)])) (.d (.int act)) .no .no .no;have rl:(0:Int)<(((L2.BK (Tr.of (TH.tz k))).length:Nat):Int):=by
  have:L2.BK (Tr.of (TH.tz k))=(TH.tz k).map tD:=Et _;rw[this,List.length_map];have:=U8 k hk
  lia
 obtain⟨y,hy,ey⟩:=pick (xs:=[AK (Ap t w),.tuple [.int ((Ap t w).num+((Ap t w).den:Int)),.int ((Ap t w).den:Int)]]) (m:=2) rfl (by decide) (m / 20);refine⟨.tuple [.int (k:Int),.list ((AL k).map AU),.tuple [tD w,y]],run _ ?_,Iy Ok.int oL ?_ fun i e=>by injection e with e;lia⟩
 ·unfold Dp;exact pre _ _ (n0 _ _ _ _ (n4 _ _ _ _ _ (AR (Az ((ac 5).trans (by rw[decide_eq_false a5])) rfl) (AR (Bu (y:=tD w) (Aa (x:=CL (TH.tz k)) (y:=.int (m % (((L2.BK (Tr.of (TH.tz k))).length:Nat):Int))) tk (Aa (x:=.int m) (y:=.int (((L2.BK (Tr.of (TH.tz k))).length:Nat):Int)) rfl (Ai (xs:=[CL (TH.tz k)]) (AO tk rfl) rfl) (mod_is rl)) ew)) (AR (Bu (y:=AK (Ap t w)) (Ai (xs:=[AQ t,tD w]) rfl (RN o s w5))) (B6 (Ck (xs:=[.int (k:Int),.list ((AL k).map AU),.tuple [tD w,y]]) (AO rfl (AO rfl (AO (Ck (xs:=[tD w,y]) (AO rfl (AO (Aa (x:=.list [AK (Ap t w),.tuple [.int ((Ap t w).num+((Ap t w).den:Int)),.int ((Ap t w).den:Int)]]) (y:=.int ((m / 20) % 2)) rfl (Aa (x:=.int (m / 20)) (y:=.int 2) (Aa (x:=.int m) (y:=.int 20) rfl rfl (div_is (by decide) (by decide))) rfl (mod_is (by decide))) ey) rfl)) (by show(2:Nat)≤Bi;decide)) rfl))) (by show(3:Nat)≤Bi;decide))))))))
 ·have:Ok 10 y:=by
   simp only[List.mem_cons,List.not_mem_nil,or_false]at hy;rcases hy with rfl|rfl
   ·exact(Gf _).mono
   ·exact(HU (n:=1) Ok.int Ok.int).mono
  exact(HU (Qv w5) this).mono
abbrev Zx:MD:=F5 II Jd
def fN{t:Tb}(o:t.Ok 4)(s:t.Sm){k:Nat}{u:Tr}(h:Z4 t k u):Zx [AQ t,.list Ac]=some (CY t k u):=by
 have s7:=dC s;have hk5:=h.k5;have wgt:∀v∈AL 5,Jd [AQ t,tD v]=some (AK (Ap t v)):=fun v hv=>by
  have z:=(UW 5 (by decide)).2 v hv;rw[dB o s7 (by lia) (by lia),Vy o (fits_of s) hv]
 have tst:∀(v:Tr) (hv:v∈AL 5) (l1 l2 l3:L),Al (BI true) (AM Jd (AA (nm 0) (AA (nm 4) AG))) (AM II (AA (nm 4) AG)) [.d (AQ t),l1,l2,l3,.d (tD v)]=some (GR t v):=fun v hv l1 l2 l3=>BP (x:=AK (Ap t v)) (y:=AK (CU v)) (Ai (xs:=[AQ t,tD v]) rfl (wgt v hv)) (Ai (xs:=[tD v]) rfl (Oo hv)) (MS _ _);refine Bz rfl ?_;unfold Qu;refine AR rfl ?_;have ixs:∀(i:Nat) (hi:i<5) (l1 l4:L),B2 (AI Am (nm 1) (AI Ay (nm 3) (fC (.int 1)))) [.d (AQ t),.d (.list Ac),l1,.d (.int (i:Int)),l4]=some ((TH.tz i).map tD):=fun i hi l1 l4=>by
  refine MK (x:=CL (TH.tz i)) (Aa (x:=.list Ac) (y:=.int ((i+1:Nat):Int)) rfl rfl (EV (MA hi))) ?_;show some (L2.BK (Tr.of (TH.tz i)))=_;rw[Et]
 refine UT (xs:=HR 0 5) (fun i δ=>∃l3 l4:L,δ=[.d (AQ t),.d (.list Ac),.d (.list ((AL i).map AU)),l3,l4]) k rfl ⟨_,_,rfl⟩ ?_ ?_
 ·rintro i x δ hi hx ⟨l3,l4,rfl⟩;obtain⟨rfl,hi5⟩:=Ov hx;rw[Int.zero_add];obtain⟨a1,a2,a3,a4⟩:=Mk i (by lia);refine⟨[.d (AQ t),.d (.list Ac),.d (.list ((AL i).map AU)),.d (.int (i:Int)),l4],rfl,?_⟩;have inner:∃δ',CM (B2 (AI Am (nm 1) (AI Ay (nm 3) (fC (.int 1))))) (EL 4) (Bs (Al (BI true) (AM Jd (AA (nm 0) (AA (nm 4) AG))) (AM II (AA (nm 4) AG))) (A7 (Af (AA (nm 3) (AA (nm 2) (AA (Af (AA (nm 4) (AA (AM Jd (AA (nm 0) (AA (nm 4) AG))) AG))) AG))))) A9) [.d (AQ t),.d (.list Ac),.d (.list ((AL i).map AU)),.d (.int (i:Int)),l4]=some (.nx δ')∧∃l4:L,δ'=[.d (AQ t),.d (.list Ac),.d (.list ((AL i).map AU)),.d (.int (i:Int)),l4]:=by
   refine Kk (xs:=(TH.tz i).map tD) (fun j δ=>∃l4:L,δ=[.d (AQ t),.d (.list Ac),.d (.list ((AL i).map AU)),.d (.int (i:Int)),l4]) (ixs i hi5 _ _) ⟨_,rfl⟩ ?_ fun δ z=>z;rintro j x δ hx ⟨l4,rfl⟩;rw[List.getElem?_map]at hx;obtain⟨v,hv,rfl⟩:=aC.mp hx;obtain⟨v5,vk⟩:=a2 hi5 v (aH hv);have hb:GR t v=false:=by unfold GR;rw[h.good v v5 (by lia)];simp
   have tt:=tst v v5 (.d (.list Ac)) (.d (.list ((AL i).map AU))) (.d (.int (i:Int)));rw[hb]at tt;exact⟨_,rfl,_,Az tt rfl,_,rfl⟩
  obtain⟨δ',f1,l4',rfl⟩:=inner;refine JW f1 ⟨_,Bu (y:=.list ((AL (i+1)).map AU)) ?_,_,_,rfl⟩;have hc:B5 (Cq 1) D9 (Af (AA (nm 1) (AA (AM II (AA (nm 1) AG)) AG))) [none,none] (B2 (AI Am (nm 1) (AI Ay (nm 3) (fC (.int 1))))) [.d (AQ t),.d (.list Ac),.d (.list ((AL i).map AU)),.d (.int (i:Int)),l4']=some (.list ((TH.tz i).map AU)):=by
   show(F9 _ _ _ _ _ _).map PyData.list=_;rw[Jp (zs:=TH.tz i) (a:=tD) (g:=AU) (ixs i hi5 _ _) (by have:=a4 hi5;unfold Bi;lia) fun v hv=>?_]
   ·rfl
   ·exact Ck (xs:=[tD v,AK (CU v)]) (AO rfl (AO (Ai (xs:=[tD v]) rfl (Oo (a2 hi5 v hv).1)) rfl)) (by show(2:Nat)≤Bi;decide)
  refine Aa (x:=.list ((AL i).map AU)) (y:=.list ((TH.tz i).map AU)) rfl hc ?_;rw[I0 (by rw[List.length_map,List.length_map];have:=a4 hi5;lia),AL,List.map_append]
 ·refine⟨.int (0+(k:Int)),?_,?_⟩
  ·unfold HR;rw[List.getElem?_map,List.getElem?_range hk5]
   rfl
  rintro δ ⟨l3,l4,rfl⟩;rw[Int.zero_add];refine⟨[.d (AQ t),.d (.list Ac),.d (.list ((AL k).map AU)),.d (.int (k:Int)),l4],rfl,?_⟩;obtain⟨b,as,bs,e,ha⟩:=List.find?_eq_some_iff_append.mp h.find;have mem:∀v∈TH.tz k,v∈AL 5:=fun v hv=>((Mk k (by lia)).2.1 hk5 v hv).1;refine UT (xs:=(TH.tz k).map tD) (fun j δ=>∃l4:L,δ=[.d (AQ t),.d (.list Ac),.d (.list ((AL k).map AU)),.d (.int (k:Int)),l4]) as.length (ixs k hk5 _ _) ⟨_,rfl⟩ ?_ ?_
  ·rintro j x δ hj hx ⟨l4,rfl⟩;rw[List.getElem?_map]at hx;obtain⟨v,hv,rfl⟩:=aC.mp hx;have v5:=mem v (aH hv);rw[e,List.getElem?_append_left hj]at hv;have hb:GR t v=false:=by simpa using ha v (aH hv)
   have tt:=tst v v5 (.d (.list Ac)) (.d (.list ((AL k).map AU))) (.d (.int (k:Int)));rw[hb]at tt;exact⟨_,rfl,_,Az tt rfl,_,rfl⟩
  ·refine⟨tD u,by rw[List.getElem?_map,e,List.getElem?_append_right (aG _),Nat.sub_self];rfl,?_⟩;rintro δ ⟨l4,rfl⟩;have tt:=tst u h.m5 (.d (.list Ac)) (.d (.list ((AL k).map AU))) (.d (.int (k:Int)));rw[b]at tt;refine⟨_,rfl,Bf tt (B6 ?_)⟩;exact Ck (xs:=[.int (k:Int),.list ((AL k).map AU),.tuple [tD u,AK (Ap t u)]]) (AO rfl (AO rfl (AO (Ck (xs:=[tD u,AK (Ap t u)]) (AO rfl (AO (Ai (xs:=[AQ t,tD u]) rfl (wgt u h.m5)) rfl)) (by show(2:Nat)≤Bi;decide)) rfl))) (by show(3:Nat)≤Bi;decide)
section
variable{P:Program}{w:World}{K:Fg}{mg:Str→Option VL}{base:Heap}{f:AD} 
def YS:Av ["_law_script", "_law_table_here", "_law_trees_here", "_law_paper", "_law_handed", "_law_k", "_law_spoilt", "_law_found"] ["_law_script"] (Ab Qd):=Ct
def RS(FZ:MD)(Dm:MD)(F5:MD)(E3:MD)(Dw:MD)(Eb:MD):DF :=
 (AX (BS 2 (AM Dw (AA (fC (.int 5)) AG)))
 (AX (BS 3 (AM F5 (AA (nm 1) (AA (nm 2) AG))))
 (AX (Bs (Al (dA false) (AI Am (nm 3) (fC (.int 2))) (fC .none))
  (A7 (fC (.bool false)))
  A9)
 (AX (BS 4 (Af (AA (B5 (Cq 1) D9 (AM JR (AA (nm 1) AG)) [none,none] (B2 (AI Am (nm 1) (fC (.int 0))))) (AA (AM JR (AA (AI Am (nm 1) (fC (.int 1))) AG)) AG))))
 (AX (CM (Dj P6 (AA (fC (.int 16)) AG)) (EL 5)
  (AX (BS 6 (nm 3))
  (AX (Bs (Al (CH fun i j=>decide (j<i)) (nm 5) (fC (.int 0)))
   (BS 6 (AM FZ (AA (nm 1) (AA (nm 3) (AA (AM Dm (AA (nm 0) (AA (AI Ay (fC (.int 8)) (nm 5)) AG))) (AA (nm 2) AG))))))
   A9)
  (AX (BS 7 (AM Eb (AA (nm 4) (AA (nm 6) AG))))
  (AX (Bs (DX (B3 (Bh (B9 BR (nm 7)))) (Al (BI true) (nm 4) (nm 1)))
   (A7 (fC (.bool false)))
   A9)
  (Bs (Al (BI true) (nm 7) (AM E3 (AA (nm 1) (AA (nm 6) (AA (nm 2) AG)))))
   (A7 (fC (.bool false)))
   A9))))))
 (A7 (fC (.bool true))))))))
def Zf{k:Nat}{FZ:MD}{Dm:MD}{F5:MD}{E3:MD}{Dw:MD}{Eb:MD}
 {PL:AD}{N3:FuncData}(GP:Fn K mg "_law_bent" JT ["_law_table_here", "_law_paper", "_law_number", "_law_trees_here"] PL N3)(Hk:AV P w K mg base Ar k PL N3 ["_law_table_here", "_law_paper", "_law_number", "_law_trees_here"] (BD FZ))
 {O8:AD}{OG:FuncData}(Ca:Fn K mg "_law_cell" Er ["_law_script", "_law_k"] O8 OG)(DN:AV P w K mg base Ar k O8 OG ["_law_script", "_law_k"] (BD Dm))
 {Q4:AD}{Pe:FuncData}(HJ:Fn K mg "_law_due" Kb ["_law_table_here", "_law_trees_here"] Q4 Pe)(IV:AV P w K mg base Ar k Q4 Pe ["_law_table_here", "_law_trees_here"] (BD F5))
 {Nz:AD}{M7:FuncData}(Fj:Fn K mg "_law_shows" Ip ["_law_table_here", "_law_paper", "_law_trees_here"] Nz M7)(HF:AV P w K mg base Ar k Nz M7 ["_law_table_here", "_law_paper", "_law_trees_here"] (BD E3))
 {Nl:AD}{M8:FuncData}(Fq:Fn K mg "_law_trees" IX ["_law_most"] Nl M8)(Gr:AV P w K mg base Ar k Nl M8 ["_law_most"] (BD Dw))
 {NA:AD}{L7:FuncData}(FD:Fn K mg "judge_paper" Ht ["table", "paper"] NA L7)(GJ:AV P w K mg base Ar k NA L7 ["table", "paper"] (BD Eb))(EK:mg "bool" = none)(AW:mg "isinstance" = none)(C4:mg "list" = none)(Bl:mg "range" = none)(cdv:VL)(A:Around)(outer:List Env)(s:SD)(H:Hp)(E:XK)(hr:Fc k (A.deeper (PyProof.Rows.envOfC "law" (Ab Qd) s.heap.objs.size f cdv))) :
  O4 (Nv Ar P w K mg base ["_law_script", "_law_table_here", "_law_trees_here", "_law_paper", "_law_handed", "_law_k", "_law_spoilt", "_law_found"] "law" (Ab Qd) f cdv A outer s H E).Vq ((FJ Qd).drop 1) (RS FZ Dm F5 E3 Dw Eb):=by
 have sc:=YS;exact(AJ (BN (i:=2) sc.nd rfl (Or.inl rfl) (Ae Fq Gr hr rfl (AB AH AF)))
 (AJ (BN (i:=3) sc.nd rfl (Or.inl rfl) (Ae HJ IV hr rfl (AB (AE (pv 1)) (AB (AE (pv 2)) AF))))
 (AJ (BV (Aw cC (An (AE (pv 3)) AH (fun _ _=>rfl)) Kw (Ag _))
  (AN (Ao Cr))
  A6)
 (AJ (BN (i:=4) sc.nd rfl (Or.inl rfl) (AY (AB (FH [".0", "_law_row"] 1 [none,none] (CS (An (AE (pv 1)) AH (fun _ _=>rfl))) (fun _ _ _ _ _=>FK) (fun _ _ _ _ _=>(G8 Ot rfl C4 aq (AB (AE (pv 1)) AF)))) (AB (G8 Ot rfl C4 aq (AB (An (AE (pv 1)) AH (fun _ _=>rfl)) AF)) AF))))
 (AJ (Cb aI rfl (N1 rfl Bl (AB AH AF)) (DL (A2 (i:=5) sc.nd rfl (Or.inl rfl)))
  (AJ (BN (i:=6) sc.nd rfl (Or.inl rfl) (AE (pv 3)))
  (AJ (BV (Aw Kf (AE (pv 5)) AH (Ag _))
   (AN (BN (i:=6) sc.nd rfl (Or.inl rfl) (Ae GP Hk hr rfl (AB (AE (pv 1)) (AB (AE (pv 3)) (AB (Ae Ca DN hr rfl (AB (AE (pv 0)) (AB (Aj BC AH (AE (pv 5))) AF))) (AB (AE (pv 2)) AF)))))))
   A6)
  (AJ (BN (i:=7) sc.nd rfl (Or.inl rfl) (Ae FD GJ hr rfl (AB (AE (pv 4)) (AB (AE (pv 6)) AF))))
  (AJ (BV (DW.dt (C7 (Cs (Cm (D3 (J1 _) rfl AW rfl EK bP (AE (pv 7))))) (Cu (Aw (EE (by have:=hr.units;exact this)) (AE (pv 4)) (AE (pv 1)) (Ag _)))))
   (AN (Ao Cr))
   A6)
  (AN (BV (Aw (EE (by have:=hr.units;exact this)) (AE (pv 7)) (Ae Fj HF hr rfl (AB (AE (pv 1)) (AB (AE (pv 6)) (AB (AE (pv 2)) AF)))) (Ag _))
   (AN (Ao Cr))
   A6)))))))
 (AN (Ao Cr)))))))
end
def fF(t:Tb):Ok 4 (AQ t):=Lv (n:=3) fun d hd=>by
 rcases aJ.mp hd with rfl|hd
 ·refine L4 (n:=2) fun d hd=>?_;obtain⟨r,_,rfl⟩:=aN.mp hd;refine L4 (n:=1) fun d hd=>?_;obtain⟨q,_,rfl⟩:=aN.mp hd;exact Gf q
 ·rw[List.mem_singleton.mp hd];refine Ok.mono (L4 (n:=1) fun d hd=>?_) (by decide);obtain⟨q,_,rfl⟩:=aN.mp hd;exact Gf q
def iw(ns:List Int){t:Tb}(o:t.Ok 4)(s:t.Sm):RS Q6 Dm Zx Xu Dw WX [.d (EB ns),.d (AQ t),.no,.no,.no,.no,.no,.no]=some (.rt (.bool true)):=by
 obtain⟨k,u,h⟩:=i8 o s;have hk:=h.k5;have h4:=o.most;obtain⟨b1,b2,b3,b4⟩:=Mk k (by lia);have pp:Qe (CY t k u):=by
  refine Iy Ok.int (Sn (fun y hy=>?_) (by rw[List.length_map];lia)) ((Ow h.m5 _).mono) fun i e=>by injection e with e;lia
  obtain⟨v,hv,rfl⟩:=aN.mp hy;exact JQ v ((b1 v hv).2 hk)
 have both:∀p,Qe p→∃b,WX [AQ t,p]=some (.bool b)∧Xu [AQ t,p,.list Ac]=some (.bool b):=fun p hp=>by
  obtain⟨b,j1,j2⟩:=Zd o s hp;obtain⟨c,s1,s2⟩:=bx o s hp;have:b=c:=Bool.eq_iff_iff.mpr (j2.trans s2.symm);subst this;exact⟨b,j1,s1⟩
 have bn:∀b:Bool,BI true (.bool b) (.bool b)=some (.bool false):=fun b=>ne_self (Ok.bool (n:=0)) (by decide);unfold RS;refine AR (Bu (y:=.list Ac) (Ai (xs:=[.int 5]) rfl dW)) (AR (Bu (y:=CY t k u) (Ai (xs:=[AQ t,.list Ac]) rfl (fN o s h))) (AR (δ':=[.d (EB ns),.d (AQ t),.d (.list Ac),.d (CY t k u),.no,.no,.no,.no]) (Az rfl rfl) (AR (Bu (y:=AQ t) ?_) (HB (xs:=HR 0 16) (fun i δ=>∃l5 l6 l7:L,δ=[.d (EB ns),.d (AQ t),.d (.list Ac),.d (CY t k u),.d (AQ t),l5,l6,l7]) rfl ⟨_,_,_,rfl⟩ ?_ ?_))))
 ·refine Ck (xs:=[.list (Bx t.rs),.list (BH t.ls)]) (AO ?_ (AO rfl rfl)) (by show(2:Nat)≤Bi;decide);show(F9 _ _ _ _ _ _).map PyData.list=_;rw[Jp (zs:=t.rs) (a:=fun r=>.list (BH r)) (g:=fun r=>.list (BH r)) rfl (by unfold Bi;lia) fun r _=>rfl]
  rfl
 ·rintro i x δ hx ⟨l5,l6,l7,rfl⟩;obtain⟨rfl,hi⟩:=Ov hx;rw[Int.zero_add];refine⟨[.d (EB ns),.d (AQ t),.d (.list Ac),.d (CY t k u),.d (AQ t),.d (.int (i:Int)),l6,l7],rfl,?_⟩;have spoilt:∃p,Qe p∧Bs (Al (CH fun i j=>decide (j<i)) (nm 5) (fC (.int 0))) (BS 6 (AM Q6 (AA (nm 1) (AA (nm 3) (AA (AM Dm (AA (nm 0) (AA (AI Ay (fC (.int 8)) (nm 5)) AG))) (AA (nm 2) AG)))))) A9 [.d (EB ns),.d (AQ t),.d (.list Ac),.d (CY t k u),.d (AQ t),.d (.int (i:Int)),.d (CY t k u),l7]=some (.nx [.d (EB ns),.d (AQ t),.d (.list Ac),.d (CY t k u),.d (AQ t),.d (.int (i:Int)),.d p,l7]):=by
   have c:Al (CH fun i j=>decide (j<i)) (nm 5) (fC (.int 0)) [.d (EB ns),.d (AQ t),.d (.list Ac),.d (CY t k u),.d (AQ t),.d (.int (i:Int)),.d (CY t k u),l7]=some (decide ((0:Int)<(i:Int))):=rfl;by_cases z:(0:Int)<(i:Int)
   ·rw[decide_eq_true z]at c;obtain⟨n,hn⟩:=dk ns (8+i);obtain⟨p,hp,po⟩:=ed o s h n;refine⟨p,po,Bf c (Bu (Ai (xs:=[AQ t,CY t k u,.int n,.list Ac]) (AO rfl (AO rfl (AO (Ai (xs:=[EB ns,.int ((8+i:Nat):Int)]) (AO rfl (AO (Aa (x:=.int 8) (y:=.int (i:Int)) rfl rfl (show some (PyData.int (8+(i:Int)))=_ by rw[show(8:Int)+(i:Int)=((8+i:Nat):Int) by lia])) rfl)) hn) rfl))) hp))⟩
   ·rw[decide_eq_false z]at c;exact⟨_,pp,Az c rfl⟩
  obtain⟨p,po,e1⟩:=spoilt;obtain⟨b,j1,s1⟩:=both p po;refine JW (δ':=[.d (EB ns),.d (AQ t),.d (.list Ac),.d (CY t k u),.d (AQ t),.d (.int (i:Int)),.d (CY t k u),l7]) rfl (JW e1 (JW (Bu (y:=.bool b) (Ai (xs:=[AQ t,p]) rfl j1)) (JW (δ':=[.d (EB ns),.d (AQ t),.d (.list Ac),.d (CY t k u),.d (AQ t),.d (.int (i:Int)),.d p,.d (.bool b)]) (Az (Bw rfl (BP (x:=AQ t) (y:=AQ t) rfl rfl (ne_self (fF t) (by decide)))) rfl) ⟨_,Az (BP (x:=.bool b) (y:=.bool b) rfl (Ai (xs:=[AQ t,p,.list Ac]) rfl s1) (bn b)) rfl,_,_,_,rfl⟩)))
 ·rintro δ ⟨l5,l6,l7,rfl⟩
  rfl
def Xi(K:Fg):Sp:=fun vs H Q _=>∃(a:AD) (ns:List Int),vs=[.ref a]∧Bo K H a (ns.map V.int)∧ns.length≤63∧∀H',Q (.bl true) H'
section
variable{P:Program}{w:World}{K:Fg}{mg:Str→Option VL}{base:Heap}{f g1 g2 g3 g4 g5 g6 g7:AD}{fd gd1 gd2 gd3 gd4 gd5 gd6 gd7:FuncData}
def fq{k:Nat}(hK:TM K=true)(F:Fn K mg "law" Qd ["_law_script"] f fd)(Hl:Fn K mg "_law_tables" J7 ["_law_script", "_law_start"] g1 gd1)(GP:Fn K mg "_law_bent" JT ["_law_table_here", "_law_paper", "_law_number", "_law_trees_here"] g2 gd2)(Ca:Fn K mg "_law_cell" Er ["_law_script", "_law_k"] g3 gd3)(HJ:Fn K mg "_law_due" Kb ["_law_table_here", "_law_trees_here"] g4 gd4)(Fj:Fn K mg "_law_shows" Ip ["_law_table_here", "_law_paper", "_law_trees_here"] g5 gd5)(Fq:Fn K mg "_law_trees" IX ["_law_most"] g6 gd6)(FD:Fn K mg "judge_paper" Ht ["table", "paper"] g7 gd7)
 (J9:AV P w K mg base Ar k g1 gd1 ["_law_script", "_law_start"] (Yv K))(Hk:AV P w K mg base Ar k g2 gd2 ["_law_table_here", "_law_paper", "_law_number", "_law_trees_here"] (BD Q6))(DN:AV P w K mg base Ar k g3 gd3 ["_law_script", "_law_k"] (BD Dm))(IV:AV P w K mg base Ar k g4 gd4 ["_law_table_here", "_law_trees_here"] (BD Zx))(HF:AV P w K mg base Ar k g5 gd5 ["_law_table_here", "_law_paper", "_law_trees_here"] (BD Xu))(Gr:AV P w K mg base Ar k g6 gd6 ["_law_most"] (BD Dw))(GJ:AV P w K mg base Ar k g7 gd7 ["table", "paper"] (BD WX))
 (EK:mg "bool" = none)(AW:mg "isinstance" = none)(C4:mg "list" = none)(Bl:mg "range" = none):AV P w K mg base Ar (k+1) f fd ["_law_script"] (Xi K):=by
 have sc:=YS;refine F.F.ok (k:=k) sc (fun vs H Q E h=>?_) (fun cdv A outer s H vs Q E hr h=>?_)
 ·obtain⟨a,ns,rfl,_⟩:=h
  rfl
 obtain⟨a,ns,rfl,hS,h63,q⟩:=h;obtain⟨t,pt,kt⟩:=Zf GP Hk Ca DN HJ IV Fj HF Fq Gr FD GJ EK AW C4 Bl cdv A outer s H E hr;refine⟨_,(BB (B7 (i:=1) sc.nd rfl (Or.inl rfl) (Dy Hl J9 hr rfl (Ad (pv 0) (Ad Aq BE)))) pt),?_⟩;refine⟨_,rfl,a,ns,rfl,hS,fun v H1 tb e1 dv ho hs=>?_⟩;refine kt _ _ (iw ns ho hs) H1 H1 H1 H1 _ _ ⟨.refl _,Nw.refl,.refl _,.refl _,rfl,fun i x h=>?_,fun i xs h=>?_,fun i j xs ys _ h=>?_,fun q hq=>by cases hq⟩ fun v G' H' _ _ _ _ dv=>?_
 ·rcases i with _|_|_|_|_|_|_|_|i
  ·cases h;exact⟨_,rfl,jC ((iW hK hS).same e1)⟩
  ·cases h;exact⟨_,rfl,dv.du⟩
  all_goals first|(cases h;done)|(simp at h)
 ·rcases i with _|_|_|_|_|_|_|_|i
  all_goals first|(cases h;done)|(simp at h)
 ·rcases i with _|_|_|_|_|_|_|_|i
  all_goals first|(cases h;done)|(simp at h)
 ·rw[Du]at dv;subst dv;exact q H'
end
section
open PySem.W PyProof.Rows PySem.Calls
abbrev GI:Program:=PySem.Challenge.pw_stepgrove_k98_whole_a_judge_of_papers
abbrev Cj:OpenLaw:=PySem.Challenge.rw_stepgrove_k98_whole_a_judge_of_papers
noncomputable abbrev dE(P:Params)(x:String)(t:Nat)(v:VL):DictEntry:=⟨PyData.keyHash P (Str.ofString x),.str (Str.ofString x) t,v⟩
noncomputable abbrev sV(x:String)(t:Nat):VL:=.str (Str.ofString x) t
noncomputable abbrev fO(n:String)(i:Nat)(m:String)(t c:Nat):Obj:=⟨.type "function",none,.func (fnOf n n (HG (top i)) (FJ (top i)) (Ab (top i)) .none .none .none (.str (Str.ofString m) t) none (.ref c) .none),#[]⟩
noncomputable abbrev cO(n:String)(t l a k r:Nat)(b:Bool)(r2:Nat)(v1 v2 v3 v4:VL)(t2:Nat):Obj:=⟨.type "code",none,.fields #[sV n t,sV n (t+1),sV "/claim/cut.py" (t+2),.int l 0,.int a 0,.int 0 0,.int 0 0,.int k 0,.ref r,.bool b,.int 181 0,.ref r2,v1,v2,v3,v4,.int t2 0,.int l 0,sV "/claim/cut.py" (t2+1)],#[]⟩
noncomputable def kH:Params→Frag:=fun P =>
 (nat_lit 2,⟨.none,none,(.dict #[] 0),#[]⟩) ::
 (nat_lit 3,⟨(.type "dict"),none,(.dict #[dE P "__name__" 165 (sV "law_stepgrove_k98_whole_a_judge_of_papers" 468),dE P "__doc__" 166 .none,dE P "__package__" 167 .none,dE P "__loader__" 168 (.builtin "__main__.__loader__#opaque"),dE P "__spec__" 169 .none,dE P "__annotations__" 170 (.ref 6),dE P "__builtins__" 171 (.ref 4),dE P "__file__" 173 (sV "/claim/cut.py" 172),dE P "__cached__" 174 .none,dE P "GroveError" 206 (.ref 24),dE P "NoBottom" 222 (.ref 37),dE P "NoTable" 238 (.ref 49),dE P "TooMany" 254 (.ref 61),dE P "fraction_of" 265 (.ref 70),dE P "frac_times" 273 (.ref 77),dE P "is_fraction" 280 (.ref 84),dE P "are_fractions" 288 (.ref 91),dE P "is_whole" 295 (.ref 98),dE P "greatest_divisor" 306 (.ref 105),dE P "common_bottom" 315 (.ref 112),dE P "frac_total" 321 (.ref 117),dE P "MOST_ROWS" 325 (.int 40 324),dE P "is_table" 332 (.ref 124),dE P "refuse_no_table" 339 (.ref 131),dE P "are_rows" 348 (.ref 138),dE P "MOST_KNOTS" 352 (.int 7 351),dE P "trees_of" 363 (.ref 145),dE P "trees_to" 372 (.ref 152),dE P "in_falling_order" 379 (.ref 159),dE P "knots_within" 385 (.ref 164),dE P "density_within" 394 (.ref 171),dE P "parents_within" 400 (.ref 176),dE P "trees_one_larger" 411 (.ref 183),dE P "MOST_ORDER" 413 (.int 6 412),dE P "MOST_JUDGED_ROWS" 417 (.int 5 416),dE P "judge_paper" 426 (.ref 190),dE P "refuse_no_judging" 433 (.ref 197),dE P "are_true_lines" 444 (.ref 204),dE P "is_due_odd" 453 (.ref 211),dE P "is_line" 461 (.ref 218),dE P "walked_weight" 467 (.ref 223),dE P "_law_cell" 481 (.ref 230),dE P "_law_take" 490 (.ref 237),dE P "_law_shared" 498 (.ref 244),dE P "_law_frac" 507 (.ref 251),dE P "_law_plus" 515 (.ref 258),dE P "_law_by" 523 (.ref 265),dE P "_law_part" 531 (.ref 272),dE P "_law_table" 537 (.ref 277),dE P "_law_known" 544 (.ref 284),dE P "_law_tables" 556 (.ref 291),dE P "_law_trees" 562 (.ref 296),dE P "_law_knots" 568 (.ref 301),dE P "_law_density" 577 (.ref 308),dE P "_law_seen" 591 (.ref 315),dE P "_law_weight" 602 (.ref 322),dE P "_law_true" 609 (.ref 329),dE P "_law_due" 615 (.ref 334),dE P "_law_wrong_line" 627 (.ref 341),dE P "_law_bent_lines" 633 (.ref 346),dE P "_law_bent" 639 (.ref 351),dE P "_law_is_fraction" 647 (.ref 358),dE P "_law_is_line" 653 (.ref 363),dE P "_law_shows" 659 (.ref 368),dE P "law" 665 (.ref 373)] 65),#[]⟩) ::
 (nat_lit 15,⟨(.type "tuple"),none,(.seq #[(.type "ValueError")] 0),#[]⟩) ::
 (nat_lit 22,⟨(.type "tuple"),none,(.seq #[] 0),#[]⟩) ::
 (nat_lit 23,⟨(.type "dict"),none,(.dict #[dE P "__module__" 196 (sV "stepgrove.errors" 187),dE P "__firstlineno__" 200 (.int 2 199),dE P "__static_attributes__" 201 (.ref 22),dE P "__weakref__" 203 (.ref 25),dE P "__doc__" 204 .none] 3),#[]⟩) ::
 (nat_lit 24,⟨(.type "type"),none,(.cls ⟨Str.ofString "GroveError",[(.type "ValueError")],[(.ref 24),(.type "ValueError"),(.type "Exception"),(.type "BaseException"),(.type "object")],23,Str.ofString "GroveError",true,[],[(.ref 37),(.ref 49),(.ref 61)],false,none,false⟩),#[some (.ref 15),none,some (sV "GroveError" 189),some (sV "GroveError" 197),some (.builtin "ValueError.__new__"),some (.bool true)]⟩) ::
 (nat_lit 25,⟨(.type "getset_descriptor"),none,(.fields #[(sV "__weakref__" 202),(.ref 24),(.builtin "ExceptionGroup.__weakref__"),.none]),#[]⟩) ::
 (nat_lit 28,⟨(.type "tuple"),none,(.seq #[(.ref 24)] 0),#[]⟩) ::
 (nat_lit 35,⟨(.type "tuple"),none,(.seq #[] 0),#[]⟩) ::
 (nat_lit 36,⟨(.type "dict"),none,(.dict #[dE P "__module__" 214 (sV "stepgrove.errors" 187),dE P "__firstlineno__" 218 (.int 4 217),dE P "__static_attributes__" 219 (.ref 35),dE P "__doc__" 220 .none] 2),#[]⟩) ::
 (nat_lit 37,⟨(.type "type"),none,(.cls ⟨Str.ofString "NoBottom",[(.ref 24)],[(.ref 37),(.ref 24),(.type "ValueError"),(.type "Exception"),(.type "BaseException"),(.type "object")],36,Str.ofString "NoBottom",true,[],[],false,none,false⟩),#[some (.ref 28),none,some (sV "NoBottom" 207),some (sV "NoBottom" 215),some (.builtin "ValueError.__new__"),some (.bool true)]⟩) ::
 (nat_lit 40,⟨(.type "tuple"),none,(.seq #[(.ref 24)] 0),#[]⟩) ::
 (nat_lit 47,⟨(.type "tuple"),none,(.seq #[] 0),#[]⟩) ::
 (nat_lit 48,⟨(.type "dict"),none,(.dict #[dE P "__module__" 230 (sV "stepgrove.errors" 187),dE P "__firstlineno__" 234 (.int 6 233),dE P "__static_attributes__" 235 (.ref 47),dE P "__doc__" 236 .none] 2),#[]⟩) ::
 (nat_lit 49,⟨(.type "type"),none,(.cls ⟨Str.ofString "NoTable",[(.ref 24)],[(.ref 49),(.ref 24),(.type "ValueError"),(.type "Exception"),(.type "BaseException"),(.type "object")],48,Str.ofString "NoTable",true,[],[],false,none,false⟩),#[some (.ref 40),none,some (sV "NoTable" 223),some (sV "NoTable" 231),some (.builtin "ValueError.__new__"),some (.bool true)]⟩) ::
 (nat_lit 52,⟨(.type "tuple"),none,(.seq #[(.ref 24)] 0),#[]⟩) ::
 (nat_lit 59,⟨(.type "tuple"),none,(.seq #[] 0),#[]⟩) ::
 (nat_lit 60,⟨(.type "dict"),none,(.dict #[dE P "__module__" 246 (sV "stepgrove.errors" 187),dE P "__firstlineno__" 250 (.int 8 249),dE P "__static_attributes__" 251 (.ref 59),dE P "__doc__" 252 .none] 2),#[]⟩) ::
 (nat_lit 61,⟨(.type "type"),none,(.cls ⟨Str.ofString "TooMany",[(.ref 24)],[(.ref 61),(.ref 24),(.type "ValueError"),(.type "Exception"),(.type "BaseException"),(.type "object")],60,Str.ofString "TooMany",true,[],[],false,none,false⟩),#[some (.ref 52),none,some (sV "TooMany" 239),some (sV "TooMany" 247),some (.builtin "ValueError.__new__"),some (.bool true)]⟩) ::
 (nat_lit 69,cO "fraction_of" 257 11 2 3 64 true 65 .none (.ref 66) (.ref 67) (.ref 68) 263) ::
 (nat_lit 70,fO "fraction_of" 6 "stepgrove.fracs" 255 69) ::
 (nat_lit 76,cO "frac_times" 266 18 2 3 71 true 72 .none (.ref 73) (.ref 74) (.ref 75) 271) ::
 (nat_lit 77,fO "frac_times" 7 "stepgrove.fracs" 255 76) ::
 (nat_lit 83,cO "is_fraction" 274 20 1 3 78 true 79 .none (.ref 80) (.ref 81) (.ref 82) 278) ::
 (nat_lit 84,fO "is_fraction" 8 "stepgrove.fracs" 255 83) ::
 (nat_lit 90,cO "are_fractions" 281 26 1 3 85 true 86 .none (.ref 87) (.ref 88) (.ref 89) 286) ::
 (nat_lit 91,fO "are_fractions" 9 "stepgrove.fracs" 255 90) ::
 (nat_lit 97,cO "is_whole" 289 33 1 3 92 true 93 .none (.ref 94) (.ref 95) (.ref 96) 293) ::
 (nat_lit 98,fO "is_whole" 10 "stepgrove.fracs" 255 97) ::
 (nat_lit 104,cO "greatest_divisor" 296 35 2 3 99 true 100 .none (.ref 101) (.ref 102) (.ref 103) 304) ::
 (nat_lit 105,fO "greatest_divisor" 11 "stepgrove.fracs" 255 104) ::
 (nat_lit 111,cO "common_bottom" 307 43 1 3 106 true 107 .none (.ref 108) (.ref 109) (.ref 110) 313) ::
 (nat_lit 112,fO "common_bottom" 12 "stepgrove.fracs" 255 111) ::
 (nat_lit 116,cO "frac_total" 316 48 1 3 113 true 114 .none .none .none (.ref 115) 319) ::
 (nat_lit 117,fO "frac_total" 13 "stepgrove.fracs" 255 116) ::
 (nat_lit 123,cO "is_table" 326 53 1 3 118 true 119 .none (.ref 120) (.ref 121) (.ref 122) 330) ::
 (nat_lit 124,fO "is_table" 16 "stepgrove.tables" 322 123) ::
 (nat_lit 130,cO "refuse_no_table" 333 57 1 3 125 true 126 .none (.ref 127) (.ref 128) (.ref 129) 337) ::
 (nat_lit 131,fO "refuse_no_table" 17 "stepgrove.tables" 322 130) ::
 (nat_lit 137,cO "are_rows" 340 60 1 3 132 true 133 .none (.ref 134) (.ref 135) (.ref 136) 346) ::
 (nat_lit 138,fO "are_rows" 18 "stepgrove.tables" 322 137) ::
 (nat_lit 144,cO "trees_of" 353 69 1 3 139 true 140 .none (.ref 141) (.ref 142) (.ref 143) 361) ::
 (nat_lit 145,fO "trees_of" 21 "stepgrove.trees" 349 144) ::
 (nat_lit 151,cO "trees_to" 364 79 1 3 146 true 147 .none (.ref 148) (.ref 149) (.ref 150) 370) ::
 (nat_lit 152,fO "trees_to" 22 "stepgrove.trees" 349 151) ::
 (nat_lit 158,cO "in_falling_order" 373 86 1 3 153 true 154 .none (.ref 155) (.ref 156) (.ref 157) 377) ::
 (nat_lit 159,fO "in_falling_order" 23 "stepgrove.trees" 349 158) ::
 (nat_lit 163,cO "knots_within" 380 88 1 3 160 true 161 .none .none .none (.ref 162) 383) ::
 (nat_lit 164,fO "knots_within" 24 "stepgrove.trees" 349 163) ::
 (nat_lit 170,cO "density_within" 386 90 1 3 165 true 166 .none (.ref 167) (.ref 168) (.ref 169) 392) ::
 (nat_lit 171,fO "density_within" 25 "stepgrove.trees" 349 170) ::
 (nat_lit 175,cO "parents_within" 395 95 1 3 172 true 173 .none .none .none (.ref 174) 398) ::
 (nat_lit 176,fO "parents_within" 26 "stepgrove.trees" 349 175) ::
 (nat_lit 182,cO "trees_one_larger" 401 102 1 3 177 true 178 .none (.ref 179) (.ref 180) (.ref 181) 409) ::
 (nat_lit 183,fO "trees_one_larger" 27 "stepgrove.trees" 349 182) ::
 (nat_lit 189,cO "judge_paper" 418 111 2 3 184 true 185 .none (.ref 186) (.ref 187) (.ref 188) 424) ::
 (nat_lit 190,fO "judge_paper" 31 "stepgrove.judging" 414 189) ::
 (nat_lit 196,cO "refuse_no_judging" 427 119 1 3 191 true 192 .none (.ref 193) (.ref 194) (.ref 195) 431) ::
 (nat_lit 197,fO "refuse_no_judging" 32 "stepgrove.judging" 414 196) ::
 (nat_lit 203,cO "are_true_lines" 434 123 3 3 198 true 199 .none (.ref 200) (.ref 201) (.ref 202) 442) ::
 (nat_lit 204,fO "are_true_lines" 33 "stepgrove.judging" 414 203) ::
 (nat_lit 210,cO "is_due_odd" 445 130 3 3 205 true 206 .none (.ref 207) (.ref 208) (.ref 209) 451) ::
 (nat_lit 211,fO "is_due_odd" 34 "stepgrove.judging" 414 210) ::
 (nat_lit 217,cO "is_line" 454 136 2 3 212 true 213 .none (.ref 214) (.ref 215) (.ref 216) 459) ::
 (nat_lit 218,fO "is_line" 35 "stepgrove.judging" 414 217) ::
 (nat_lit 222,cO "walked_weight" 462 140 2 3 219 true 220 .none .none .none (.ref 221) 465) ::
 (nat_lit 223,fO "walked_weight" 36 "stepgrove.judging" 414 222) ::
 (nat_lit 229,cO "_law_cell" 470 150 2 3 224 true 225 .none (.ref 226) (.ref 227) (.ref 228) 479) ::
 (nat_lit 230,fO "_law_cell" 38 "law_stepgrove_k98_whole_a_judge_of_papers" 468 229) ::
 (nat_lit 236,cO "_law_take" 482 162 2 3 231 true 232 .none (.ref 233) (.ref 234) (.ref 235) 488) ::
 (nat_lit 237,fO "_law_take" 39 "law_stepgrove_k98_whole_a_judge_of_papers" 468 236) ::
 (nat_lit 243,cO "_law_shared" 491 166 2 3 238 true 239 .none (.ref 240) (.ref 241) (.ref 242) 496) ::
 (nat_lit 244,fO "_law_shared" 40 "law_stepgrove_k98_whole_a_judge_of_papers" 468 243) ::
 (nat_lit 250,cO "_law_frac" 499 170 2 3 245 true 246 .none (.ref 247) (.ref 248) (.ref 249) 505) ::
 (nat_lit 251,fO "_law_frac" 41 "law_stepgrove_k98_whole_a_judge_of_papers" 468 250) ::
 (nat_lit 257,cO "_law_plus" 508 175 2 3 252 true 253 .none (.ref 254) (.ref 255) (.ref 256) 513) ::
 (nat_lit 258,fO "_law_plus" 42 "law_stepgrove_k98_whole_a_judge_of_papers" 468 257) ::
 (nat_lit 264,cO "_law_by" 516 177 2 3 259 true 260 .none (.ref 261) (.ref 262) (.ref 263) 521) ::
 (nat_lit 265,fO "_law_by" 43 "law_stepgrove_k98_whole_a_judge_of_papers" 468 264) ::
 (nat_lit 271,cO "_law_part" 524 179 1 3 266 true 267 .none (.ref 268) (.ref 269) (.ref 270) 529) ::
 (nat_lit 272,fO "_law_part" 44 "law_stepgrove_k98_whole_a_judge_of_papers" 468 271) ::
 (nat_lit 276,cO "_law_table" 532 182 3 3 273 true 274 .none .none .none (.ref 275) 535) ::
 (nat_lit 277,fO "_law_table" 45 "law_stepgrove_k98_whole_a_judge_of_papers" 468 276) ::
 (nat_lit 283,cO "_law_known" 538 190 1 3 278 true 279 .none (.ref 280) (.ref 281) (.ref 282) 542) ::
 (nat_lit 284,fO "_law_known" 46 "law_stepgrove_k98_whole_a_judge_of_papers" 468 283) ::
 (nat_lit 290,cO "_law_tables" 545 202 2 3 285 true 286 .none (.ref 287) (.ref 288) (.ref 289) 554) ::
 (nat_lit 291,fO "_law_tables" 47 "law_stepgrove_k98_whole_a_judge_of_papers" 468 290) ::
 (nat_lit 295,cO "_law_trees" 557 214 1 3 292 true 293 .none .none .none (.ref 294) 560) ::
 (nat_lit 296,fO "_law_trees" 48 "law_stepgrove_k98_whole_a_judge_of_papers" 468 295) ::
 (nat_lit 300,cO "_law_knots" 563 232 1 3 297 true 298 .none .none .none (.ref 299) 566) ::
 (nat_lit 301,fO "_law_knots" 49 "law_stepgrove_k98_whole_a_judge_of_papers" 468 300) ::
 (nat_lit 307,cO "_law_density" 569 234 1 3 302 true 303 .none (.ref 304) (.ref 305) (.ref 306) 575) ::
 (nat_lit 308,fO "_law_density" 50 "law_stepgrove_k98_whole_a_judge_of_papers" 468 307) ::
 (nat_lit 314,cO "_law_seen" 578 239 3 3 309 true 310 .none (.ref 311) (.ref 312) (.ref 313) 589) ::
 (nat_lit 315,fO "_law_seen" 51 "law_stepgrove_k98_whole_a_judge_of_papers" 468 314) ::
 (nat_lit 321,cO "_law_weight" 592 247 2 3 316 true 317 .none (.ref 318) (.ref 319) (.ref 320) 600) ::
 (nat_lit 322,fO "_law_weight" 52 "law_stepgrove_k98_whole_a_judge_of_papers" 468 321) ::
 (nat_lit 328,cO "_law_true" 603 252 1 3 323 true 324 .none (.ref 325) (.ref 326) (.ref 327) 607) ::
 (nat_lit 329,fO "_law_true" 53 "law_stepgrove_k98_whole_a_judge_of_papers" 468 328) ::
 (nat_lit 333,cO "_law_due" 610 254 2 3 330 true 331 .none .none .none (.ref 332) 613) ::
 (nat_lit 334,fO "_law_due" 54 "law_stepgrove_k98_whole_a_judge_of_papers" 468 333) ::
 (nat_lit 340,cO "_law_wrong_line" 616 262 3 3 335 true 336 .none (.ref 337) (.ref 338) (.ref 339) 625) ::
 (nat_lit 341,fO "_law_wrong_line" 55 "law_stepgrove_k98_whole_a_judge_of_papers" 468 340) ::
 (nat_lit 345,cO "_law_bent_lines" 628 269 3 3 342 true 343 .none .none .none (.ref 344) 631) ::
 (nat_lit 346,fO "_law_bent_lines" 56 "law_stepgrove_k98_whole_a_judge_of_papers" 468 345) ::
 (nat_lit 350,cO "_law_bent" 634 284 4 3 347 true 348 .none .none .none (.ref 349) 637) ::
 (nat_lit 351,fO "_law_bent" 57 "law_stepgrove_k98_whole_a_judge_of_papers" 468 350) ::
 (nat_lit 357,cO "_law_is_fraction" 640 308 1 3 352 true 353 .none (.ref 354) (.ref 355) (.ref 356) 645) ::
 (nat_lit 358,fO "_law_is_fraction" 58 "law_stepgrove_k98_whole_a_judge_of_papers" 468 357) ::
 (nat_lit 362,cO "_law_is_line" 648 315 2 3 359 true 360 .none .none .none (.ref 361) 651) ::
 (nat_lit 363,fO "_law_is_line" 59 "law_stepgrove_k98_whole_a_judge_of_papers" 468 362) ::
 (nat_lit 367,cO "_law_shows" 654 319 3 3 364 true 365 .none .none .none (.ref 366) 657) ::
 (nat_lit 368,fO "_law_shows" 60 "law_stepgrove_k98_whole_a_judge_of_papers" 468 367) ::
 (nat_lit 372,cO "law" 660 338 1 3 369 true 370 .none .none .none (.ref 371) 663) ::
 (nat_lit 373,fO "law" 61 "law_stepgrove_k98_whole_a_judge_of_papers" 468 372)::[]
abbrev qX:Program:=view GI [1,2,3,4,6,7,8,9,10,11,12,13,15,16,17,18,20,21,22,23,24,25,26,27,28,30,31,32,33,34,35,36,38,39,40,41,42,43,44,45,46,47,48,49,50,51,52,53,54,55,56,57,58,59,60,61]
noncomputable abbrev hX:Hook:=kHook kH [nat_lit 2,nat_lit 3,nat_lit 15,nat_lit 22,nat_lit 23,nat_lit 24,nat_lit 25,nat_lit 28,nat_lit 35,nat_lit 36,nat_lit 37,nat_lit 40,nat_lit 47,nat_lit 48,nat_lit 49,nat_lit 52,nat_lit 59,nat_lit 60,nat_lit 61,nat_lit 69,nat_lit 70,nat_lit 76,nat_lit 77,nat_lit 83,nat_lit 84,nat_lit 90,nat_lit 91,nat_lit 97,nat_lit 98,nat_lit 104,nat_lit 105,nat_lit 111,nat_lit 112,nat_lit 116,nat_lit 117,nat_lit 123,nat_lit 124,nat_lit 130,nat_lit 131,nat_lit 137,nat_lit 138,nat_lit 144,nat_lit 145,nat_lit 151,nat_lit 152,nat_lit 158,nat_lit 159,nat_lit 163,nat_lit 164,nat_lit 170,nat_lit 171,nat_lit 175,nat_lit 176,nat_lit 182,nat_lit 183,nat_lit 189,nat_lit 190,nat_lit 196,nat_lit 197,nat_lit 203,nat_lit 204,nat_lit 210,nat_lit 211,nat_lit 217,nat_lit 218,nat_lit 222,nat_lit 223,nat_lit 229,nat_lit 230,nat_lit 236,nat_lit 237,nat_lit 243,nat_lit 244,nat_lit 250,nat_lit 251,nat_lit 257,nat_lit 258,nat_lit 264,nat_lit 265,nat_lit 271,nat_lit 272,nat_lit 276,nat_lit 277,nat_lit 283,nat_lit 284,nat_lit 290,nat_lit 291,nat_lit 295,nat_lit 296,nat_lit 300,nat_lit 301,nat_lit 307,nat_lit 308,nat_lit 314,nat_lit 315,nat_lit 321,nat_lit 322,nat_lit 328,nat_lit 329,nat_lit 333,nat_lit 334,nat_lit 340,nat_lit 341,nat_lit 345,nat_lit 346,nat_lit 350,nat_lit 351,nat_lit 357,nat_lit 358,nat_lit 362,nat_lit 363,nat_lit 367,nat_lit 368,nat_lit 372,nat_lit 373] (fun _=>by kernel_rfl)
noncomputable def dX:DefRec:=⟨Str.ofString "law",HG (top 61),FJ (top 61),Ab (top 61),⟨338,0,354,15⟩⟩
def ja:Cj.wellSaid=true:=(congrFun PySem.W.Fast.te9446332074065402090 _).trans (by kernel_rfl)
def kZ(w:World)(os:OsState):topGo treeTable GI w 11 Opn.J3 12 ⟨boot_heap w.params,#[],boot_drawn,boot_toks,os⟩ (topStub GI)=some (Opn.sA w os,⟨denote treeTable (Opn.cB GI),Opn.cB GI,Opn.q0,Opn.bB⟩):=by kernel_rfl
def lS(w:World)(os:OsState):segRun treeTable GI w 11 Opn.J3 1 1 (Opn.sA w os) (blockOf (behindTheImports GI) (Opn.P9 GI) (Opn.cB GI) Opn.q0 Opn.bB)=some (.next,(Opn.sB w os).abs,Opn.cB GI,Opn.q0):=by kernel_rfl
def lX(w:World)(s:SD):topRun treeTable GI w 11 Opn.J3 2 s (restOf [] (Opn.P9 GI) (Opn.cB GI) ⟨338,0,354,15⟩ Opn.bB)=some s:=by kernel_rfl
def lF(w:World)(os:OsState):Opn.XE GI 2339 w os=some (.next,Opn.W4 GI 2339 w os,Opn.cB GI,⟨338,0,354,15⟩):=by kernel_rfl
noncomputable abbrev sX(w:World)(os:OsState):SD:=(Opn.W4 GI 2339 w os).abs
def mO(w:World)(os:OsState):(staticsOk (importedModules GI.main.body) (boot_heap w.params) (sX w os).heap&&namesBound GI (sX w os).heap&&gensDone (sX w os)&&laidKept (boot_heap w.params) (sX w os).heap)=true:=by kernel_rfl
def j6(w:World)(os:OsState):hX.obs (sX w os)=hX.val w:=by kernel_rfl
noncomputable abbrev gg:SD→Bool:=fun s=>xlAt qX [] s&&recOk (RowW.records Cj.row.toRowW) s
def jl(w:World)(os:OsState):openSeen qX [] (importedModules GI.main.body) gg true (sX w os)=openGood qX []:=by kernel_rfl
def j4(w:World):(fencedOpening treeTable GI w 4802).map (fun s=>(s.heap,s.gens,s.drawn,s.toks))=some (boot_heap w.params,#[],boot_drawn,boot_toks):=boot_open (p:=GI) (N:=4802) (by kernel_rfl) (by kernel_rfl) (fun _=>by kernel_rfl) w
def jy:LeftO GI qX [] gg hX.obs hX.val 4802:=Opn.d7 (M:=2354) (S:=sX) j4 Opn.jb (fun w os=>Opn.i9 (kZ w os) (lS w os) (lF w os) (lX w) (by kernel_rfl)) (by kernel_rfl) mO jl j6
def lh:defOf qX Cj.row.name=some (dX,[]):=by kernel_rfl
def k6:GI.theDef Cj.row.name=some (dX.params,dX.body,dX.scope):=by kernel_rfl
def mF:kwWritten? dX.params.kwonlyargs dX.params.kw_defaults=some []:=by kernel_rfl
def k9:(chainsOk qX&&opensWell Cj.row.prog&&(frees Cj.row.toRowW&&Cj.row.within.isEmpty))=true:=by kernel_rfl
def jf:GI.bare:=⟨rfl,rfl,rfl,rfl,rfl,by decide +kernel⟩
def openX(hw:Cj.row.toRowW.promised)(hc:WalkO qX [] (XL qX []) hX.says Cj.row.toRowW dX [] (fun f vs=>PySem.call f vs)):Cj.Holds :=
 holds_law ja fun said=>holds_open (r:=Cj.row) (q:=qX) (loose:=[]) (Xt:=gg) (XP:=XL qX []) (Yf:=hX.obs) (Ya:=hX.val) (YP:=hX.says) (d:=dX) (kwd:=[]) (N:=4802) jy hX.of hX.keeps (fun s e=>xl_of s (Bool.and_eq_true_iff.mp e).1) XL.keeps lh k6 mF (fun s e=>recFacts_of (Bool.and_eq_true_iff.mp e).2) rfl said k9 jf hw hc
end
section
open PySem.W
def fnX{w:World}{mg:Str→Option VL}{h:Heap}(X:(kH w.params).In h)(G:h.Ns mainGlobals mg)(n:String)(i:Nat)(m:String)(t c f:Nat)(ps:List Str)
 (ha:nsIn (kH w.params) mainGlobals (Str.ofString n)=some (some (.ref f)):=by kernel_rfl)(hl:(kH w.params).lookup f=some (fO n i m t c):=by kernel_rfl)(hc:codeIn (kH w.params) (.ref c) (Str.ofString n)=true:=by kernel_rfl)(hk:keepIn (kH w.params) (.ref f)=true:=by kernel_rfl)
 (hb:∀(kV doc pm:VL) (an:Option AD) (cdv ct:VL) (us:List VL),us.length=ps.length→bindArgs (fnOf (Str.ofString n) (Str.ofString n) (HG (top i)) (FJ (top i)) (Ab (top i)) .none kV doc pm an cdv ct) ⟨us,[]⟩=pure (ps.zip us):=by first|(exact fun _ _ _ _ _ _ us hl=>match us,hl with|[_],_=>rfl)|(exact fun _ _ _ _ _ _ us hl=>match us,hl with|[_,_],_=>rfl)|(exact fun _ _ _ _ _ _ us hl=>match us,hl with|[_,_,_],_=>rfl)|(exact fun _ _ _ _ _ _ us hl=>match us,hl with|[_,_,_,_],_=>rfl)|(exact fun _ _ _ _ _ _ us hl=>match us,hl with|[_,_,_,_,_],_=>rfl)|(exact fun _ _ _ _ _ _ us hl=>match us,hl with|[],_=>rfl)) :
  Fn (kH w.params) mg (Str.ofString n) (top i) ps f (fnOf (Str.ofString n) (Str.ofString n) (HG (top i)) (FJ (top i)) (Ab (top i)) .none .none .none (.str (Str.ofString m) t) none (.ref c) .none) :=
 ⟨YQ hl hc hk,(YQ (st:=top i) hl hc hk).binds hb,mg_of X G ha⟩
set_option maxHeartbeats 4000000 in
def lD(w:World)(mg:Str→Option VL)(fa:AD)(h:Heap)(X:(kH w.params).In h)(G:h.Ns mainGlobals mg)(hfa:mg "law" = some (.ref fa)) :
  ∃fd:FuncData,(∀(s:SD) (v:VL),BindsTo s fd ⟨[v],[]⟩ [("_law_script",v)])∧∀base:Heap,(kH w.params).In base→base.Ns mainGlobals mg→AV Cj.prog w (kH w.params) mg base Ar 24 fa fd ["_law_script"] (Xi (kH w.params)):=by
 have e:=hfa.symm.trans (mg_of X G (v:=.ref 373) (by kernel_rfl));cases e;have EZ:=fnX X G "fraction_of" 6 "stepgrove.fracs" 255 69 70 ["top", "bottom"];have Ij:=fnX X G "frac_times" 7 "stepgrove.fracs" 255 76 77 ["one", "other"];have D4:=fnX X G "is_fraction" 8 "stepgrove.fracs" 255 83 84 ["thing"];have Dz:=fnX X G "are_fractions" 9 "stepgrove.fracs" 255 90 91 ["thing"];have DH:=fnX X G "is_whole" 10 "stepgrove.fracs" 255 97 98 ["thing"];have Bb:=fnX X G "greatest_divisor" 11 "stepgrove.fracs" 255 104 105 ["one", "other"];have Ge:=fnX X G "common_bottom" 12 "stepgrove.fracs" 255 111 112 ["bottoms"];have Ic:=fnX X G "frac_total" 13 "stepgrove.fracs" 255 116 117 ["some"];have KY:=fnX X G "is_table" 16 "stepgrove.tables" 322 123 124 ["thing"];have Ff:=fnX X G "refuse_no_table" 17 "stepgrove.tables" 322 130 131 ["thing"];have Ka:=fnX X G "are_rows" 18 "stepgrove.tables" 322 137 138 ["thing"];have F8:=fnX X G "trees_of" 21 "stepgrove.trees" 349 144 145 ["many"];have Kd:=fnX X G "trees_to" 22 "stepgrove.trees" 349 151 152 ["most"];have Df:=fnX X G "in_falling_order" 23 "stepgrove.trees" 349 158 159 ["boughs"];have DK:=fnX X G "knots_within" 24 "stepgrove.trees" 349 163 164 ["tree"];have CF:=fnX X G "density_within" 25 "stepgrove.trees" 349 170 171 ["tree"];have C8:=fnX X G "parents_within" 26 "stepgrove.trees" 349 175 176 ["tree"];have Co:=fnX X G "trees_one_larger" 27 "stepgrove.trees" 349 182 183 ["tree"];have FD:=fnX X G "judge_paper" 31 "stepgrove.judging" 414 189 190 ["table", "paper"];have E9:=fnX X G "refuse_no_judging" 32 "stepgrove.judging" 414 196 197 ["table"];have F3:=fnX X G "are_true_lines" 33 "stepgrove.judging" 414 203 204 ["table", "trees", "lines"];have Ir:=fnX X G "is_due_odd" 34 "stepgrove.judging" 414 210 211 ["table", "order", "odd"];have Gz:=fnX X G "is_line" 35 "stepgrove.judging" 414 217 218 ["thing", "trees"];have Dq:=fnX X G "walked_weight" 36 "stepgrove.judging" 414 222 223 ["table", "tree"];have Ca:=fnX X G "_law_cell" 38 "law_stepgrove_k98_whole_a_judge_of_papers" 468 229 230 ["_law_script", "_law_k"];have Hh:=fnX X G "_law_take" 39 "law_stepgrove_k98_whole_a_judge_of_papers" 468 236 237 ["_law_pile", "_law_size"];have Ea:=fnX X G "_law_shared" 40 "law_stepgrove_k98_whole_a_judge_of_papers" 468 243 244 ["_law_one", "_law_other"];have Dl:=fnX X G "_law_frac" 41 "law_stepgrove_k98_whole_a_judge_of_papers" 468 250 251 ["_law_top", "_law_bottom"];have El:=fnX X G "_law_plus" 42 "law_stepgrove_k98_whole_a_judge_of_papers" 468 257 258 ["_law_one", "_law_other"];have FX:=fnX X G "_law_by" 43 "law_stepgrove_k98_whole_a_judge_of_papers" 468 264 265 ["_law_one", "_law_other"];have Eo:=fnX X G "_law_part" 44 "law_stepgrove_k98_whole_a_judge_of_papers" 468 271 272 ["_law_pile"];have IK:=fnX X G "_law_table" 45 "law_stepgrove_k98_whole_a_judge_of_papers" 468 276 277 ["_law_script", "_law_start", "_law_most"];have IL:=fnX X G "_law_known" 46 "law_stepgrove_k98_whole_a_judge_of_papers" 468 283 284 ["_law_which"];have Hl:=fnX X G "_law_tables" 47 "law_stepgrove_k98_whole_a_judge_of_papers" 468 290 291 ["_law_script", "_law_start"]
 have Fq:=fnX X G "_law_trees" 48 "law_stepgrove_k98_whole_a_judge_of_papers" 468 295 296 ["_law_most"];have Ds:=fnX X G "_law_knots" 49 "law_stepgrove_k98_whole_a_judge_of_papers" 468 300 301 ["_law_tree"];have Dg:=fnX X G "_law_density" 50 "law_stepgrove_k98_whole_a_judge_of_papers" 468 307 308 ["_law_tree"];have Ek:=fnX X G "_law_seen" 51 "law_stepgrove_k98_whole_a_judge_of_papers" 468 314 315 ["_law_rows", "_law_tree", "_law_row"];have B1:=fnX X G "_law_weight" 52 "law_stepgrove_k98_whole_a_judge_of_papers" 468 321 322 ["_law_table_here", "_law_tree"];have CN:=fnX X G "_law_true" 53 "law_stepgrove_k98_whole_a_judge_of_papers" 468 328 329 ["_law_tree"];have HJ:=fnX X G "_law_due" 54 "law_stepgrove_k98_whole_a_judge_of_papers" 468 333 334 ["_law_table_here", "_law_trees_here"];have Fd:=fnX X G "_law_wrong_line" 55 "law_stepgrove_k98_whole_a_judge_of_papers" 468 340 341 ["_law_line", "_law_number", "_law_trees_here"];have Fe:=fnX X G "_law_bent_lines" 56 "law_stepgrove_k98_whole_a_judge_of_papers" 468 345 346 ["_law_lines", "_law_number", "_law_trees_here"];have GP:=fnX X G "_law_bent" 57 "law_stepgrove_k98_whole_a_judge_of_papers" 468 350 351 ["_law_table_here", "_law_paper", "_law_number", "_law_trees_here"];have FT:=fnX X G "_law_is_fraction" 58 "law_stepgrove_k98_whole_a_judge_of_papers" 468 357 358 ["_law_thing"];have Ft:=fnX X G "_law_is_line" 59 "law_stepgrove_k98_whole_a_judge_of_papers" 468 362 363 ["_law_thing", "_law_trees_here"];have Fj:=fnX X G "_law_shows" 60 "law_stepgrove_k98_whole_a_judge_of_papers" 468 367 368 ["_law_table_here", "_law_paper", "_law_trees_here"];have jU:=fnX X G "law" 61 "law_stepgrove_k98_whole_a_judge_of_papers" 468 372 373 ["_law_script"];have BJ:mg "len" = none:=mg_none_of X G (by kernel_rfl);have Bl:mg "range" = none:=mg_none_of X G (by kernel_rfl);have M6:mg "abs" = none:=mg_none_of X G (by kernel_rfl);have AW:mg "isinstance" = none:=mg_none_of X G (by kernel_rfl);have Hs:mg "int" = none:=mg_none_of X G (by kernel_rfl);have EK:mg "bool" = none:=mg_none_of X G (by kernel_rfl);have Bp:mg "tuple" = none:=mg_none_of X G (by kernel_rfl);have C4:mg "list" = none:=mg_none_of X G (by kernel_rfl);have B0:mg "enumerate" = none:=mg_none_of X G (by kernel_rfl);have IJ:mg "sum" = none:=mg_none_of X G (by kernel_rfl);have Xa:mg "zip" = none:=mg_none_of X G (by kernel_rfl);have Fb:mg "sorted" = none:=mg_none_of X G (by kernel_rfl);have XX:mg "set" = none:=mg_none_of X G (by kernel_rfl);have mP:mg "dict" = none:=mg_none_of X G (by kernel_rfl);have mi:mg "all" = none:=mg_none_of X G (by kernel_rfl);have XR:mg "str" = none:=mg_none_of X G (by kernel_rfl);have a_MR:nsIn (kH w.params) mainGlobals "MOST_ROWS" = some (some (.int 40 324)):=by kernel_rfl
 have a_MK:nsIn (kH w.params) mainGlobals "MOST_KNOTS" = some (some (.int 7 351)):=by kernel_rfl
 have a_MO:nsIn (kH w.params) mainGlobals "MOST_ORDER" = some (some (.int 6 412)):=by kernel_rfl
 have a_MJ:nsIn (kH w.params) mainGlobals "MOST_JUDGED_ROWS" = some (some (.int 5 416)):=by kernel_rfl
 have hK:TM (kH w.params)=true:=by kernel_rfl
 refine⟨fnOf (Str.ofString "law") (Str.ofString "law") (HG (top 61)) (FJ (top 61)) (Ab (top 61)) .none .none .none (.str (Str.ofString "law_stepgrove_k98_whole_a_judge_of_papers") 468) none (.ref 372) .none,fun s v=>.of_eq rfl,fun base _ _=>?_⟩;have Lr:=PySem.W.mg_of X G a_MR;have Fu:=PySem.W.mg_of X G a_MK;have Fh:=PySem.W.mg_of X G a_MO;have Gu:=PySem.W.mg_of X G a_MJ;have Xn:=NY (P:=Cj.prog) (w:=w) (base:=base) Bb M6;have gZ:=RO EZ Bb Xn;have CQ:=i5 Xn;have LJ:=toT (Sz Ij EZ gZ);have lZ:=S4 Ic Ge EZ (QD Ge Bb Xn) (gZ.mono) IJ;have Ks:=jR lZ;have gb:=RU (P:=Cj.prog) (w:=w) (base:=base) Ea M6;have GF:=i5 gb;have jB:=Um Dl Ea gb;have Es:=lC jB;have k8:=UJ (P:=Cj.prog) (w:=w) (base:=base) Hh;have iR:=VE Eo Hh Dl (k8.mono) jB;have gB:=Ur (P:=Cj.prog) (w:=w) (base:=base) Ca BJ Bl;have kx:=RK IK Ca Eo (gB.mono) iR Bl;have lU:=Vb (P:=Cj.prog) (w:=w) (base:=base) DH AW Hs EK;have Hm:=mN (q:=D7) (R8 D4 DH Bb lU Xn AW Bp BJ) fun l d v H Q E dt k=>⟨l,d,v,rfl,dt,k H (.refl _)⟩;have ED:=Vh (P:=Cj.prog) (w:=w) (base:=base) (k:=0) DH EK Hs AW;have GD:=Rm (P:=Cj.prog) (w:=w) (base:=base) (k:=1) D4 Bb (CQ.mono) DH (ED.mono) AW BJ Bp;have EO:=QH (P:=Cj.prog) (w:=w) (base:=base) (k:=2) Dz D4 (GD.mono) AW C4;have Ms:=Ve (P:=Cj.prog) (w:=w) (base:=base) (k:=3) Ka Dz (EO.mono) B0 AW BJ C4 Lr;have Mj:=Vd (P:=Cj.prog) (w:=w) (base:=base) (k:=4) KY Dz (EO.mono) Ka (Ms.mono) AW BJ Bp;have HX:=OS (P:=Cj.prog) (w:=w) (base:=base) (k:=5) Ff KY (Mj.mono);have GV:=Mz (P:=Cj.prog) (w:=w) (base:=base) (k:=6) E9 Ff (HX.mono) BJ Gu;have DZ:=Li (P:=Cj.prog) (w:=w) (base:=base) (k:=0) DK IJ 9;have DB:=KG (P:=Cj.prog) (w:=w) (base:=base) (k:=10) CF DK (DZ.mono) 9;have DC:=NZ (P:=Cj.prog) (w:=w) (base:=base) (k:=0) Df Fb Bp;have EJ:=JD (P:=Cj.prog) (w:=w) (base:=base) (k:=1) Co Df (DC.mono) B0 9;have HI:=Vg (P:=Cj.prog) (w:=w) (base:=base) (k:=11) F8 Co (EJ.mono) Bl XX Fb Fu;have Mu:=VZ (P:=Cj.prog) (w:=w) (base:=base) (k:=12) Kd F8 (HI.mono) Bl Fu;have Ew:=KL (P:=Cj.prog) (w:=w) (base:=base) (k:=0) C8 BJ 9;have EW:=P7 (P:=Cj.prog) (w:=w) (base:=base) (k:=10) Dq Ij (LJ.mono) Ic (Ks.mono) C8 (Ew.mono) B0;have IE:=XB (P:=Cj.prog) (w:=w) (base:=base) (k:=2) Gz D4 (Hm.mono) AW BJ Bp;have Hw:=O0 (P:=Cj.prog) (w:=w) (base:=base) (k:=20) F3 CF (DB.mono) Gz (IE.mono) Dq (EW.mono) AW BJ C4 Xa;have Ku:=S9 (P:=Cj.prog) (w:=w) (base:=base) (k:=20) Ir CF (DB.mono) Gz (IE.mono) F8 (HI.mono) Dq (EW.mono) Fh;have GJ:=R7 (P:=Cj.prog) (w:=w) (base:=base) (k:=21) FD F3 (Hw.mono) Ir (Ku.mono) DH (ED.mono) E9 (GV.mono) Kd (Mu.mono) AW BJ Bp Fh;have DN:=UA (P:=Cj.prog) (w:=w) (base:=base) (k:=0) Ca BJ Bl;have Ky:=Sy (P:=Cj.prog) (w:=w) (base:=base) (k:=0) IL;have J9:=RM Hl Ca IL Eo IK (gB.mono) ((bj Ky).mono) (iR.mono) (kx.mono) BJ;have EI:=Uw (P:=Cj.prog) (w:=w) (base:=base) (k:=2) El Dl (Es.mono);have Em:=W7 (P:=Cj.prog) (w:=w) (base:=base) (k:=2) FX Dl (Es.mono);have Gr:=TJ (P:=Cj.prog) (w:=w) (base:=base) (k:=0) Fq Bl Fb;have EN:=NB (P:=Cj.prog) (w:=w) (base:=base) (k:=0) Ds IJ 9;have Fo:=La (P:=Cj.prog) (w:=w) (base:=base) (k:=10) Dg Ds (EN.mono) 9
 have Hc:=OM (P:=Cj.prog) (w:=w) (base:=base) (k:=3) Ek FX (Em.mono) El (EI.mono) B0 9;have CA:=Rr (P:=Cj.prog) (w:=w) (base:=base) (k:=13) B1 FX (Em.mono) El (EI.mono) Ek (Hc.mono) B0;have CZ:=Tf (P:=Cj.prog) (w:=w) (base:=base) (k:=20) CN Dg (Fo.mono);have IV:=Vf (P:=Cj.prog) (w:=w) (base:=base) (k:=21) HJ CN (CZ.mono) B1 (CA.mono) Bl;have HW:=Nt (P:=Cj.prog) (w:=w) (base:=base) (k:=0) Fd C4;have HP:=N6 (P:=Cj.prog) (w:=w) (base:=base) (k:=21) Fe CN (CZ.mono) Fd (HW.mono) BJ Bp;have Hk:=Uq (P:=Cj.prog) (w:=w) (base:=base) (k:=22) GP Fe (HP.mono) CN (CZ.mono) B1 (CA.mono) BJ C4 XR;have Gy:=NX (P:=Cj.prog) (w:=w) (base:=base) (k:=1) FT Ea (GF.mono) EK Hs AW BJ Bp;have HH:=Qy (P:=Cj.prog) (w:=w) (base:=base) (k:=2) Ft FT (Gy.mono) AW BJ Bp;have HF:=TK (P:=Cj.prog) (w:=w) (base:=base) (k:=21) Fj Ft (HH.mono) CN (CZ.mono) B1 (CA.mono) EK Hs AW BJ C4 Bl Bp;exact fq (k:=23) hK jU Hl GP Ca HJ Fj Fq FD (J9.mono) (Hk.mono) (DN.mono) (IV.mono) (HF.mono) (Gr.mono) (GJ.mono) EK AW C4 Bl
def walkX:WalkO qX [] (XL qX []) hX.says Cj.row.toRowW dX [] (fun f vs=>PySem.call f vs) :=
 L2.eF (l:=Cj) (n:=63) (k:=24) (x := "_law_script") (CX:=fun _=>Ar) (K:=kH) (sp:=fun w=>Xi (kH w.params)) rfl (by decide) rfl ⟨rfl,by decide,by decide⟩ (fun w h Y=>kIn_of Y) lD (fun _ _ a ns hl _ hS=>⟨a,ns,rfl,hS,hl,fun _=>rfl⟩) fun _ _ _ _ _ z=>z
end
end Q98
open PySem PySem.W PyProof.Rows
set_option maxRecDepth 100000 in
theorem PySem.Challenge.cw_stepgrove_k98_whole_a_judge_of_papers_holds : PySem.Challenge.rw_stepgrove_k98_whole_a_judge_of_papers.Holds := by
  refine Q98.openX ?hw Q98.walkX
  w_witness2
#print axioms PySem.Challenge.cw_stepgrove_k98_whole_a_judge_of_papers_holds
