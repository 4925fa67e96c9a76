import PyProof.Rows.All
import Wide.All
import OpenK.AllK
import Wide.FinOn
import Lean
import PyProof.EqAt
import PyProof.EqKinds
import PyProof.TupleCall
import PySem.Challenge.RW_stepgrove_k54_papers_of_tables
set_option Elab.async false
set_option linter.all false
set_option maxRecDepth 100000
abbrev MD:=List PySem.PyData->Option PySem.PyData
abbrev Fg:=PySem.W.Frag
abbrev Wb:=@PySem.wpAny_bind
abbrev PD:=PySem.PyData
abbrev SD:=PySem.Shared
abbrev VL:=PySem.Value
abbrev AD:=PySem.Addr
abbrev aA:=@PySem.wpAny_pure
abbrev aB:=@Option.bind_eq_some_iff
abbrev aC:=@Option.map_eq_some_iff
abbrev aD:=@List.getElem?_eq_some_iff
abbrev aE:=@PySem.Heap.get?_push_of_some
abbrev aF:=@PySem.Heap.lt_size
abbrev aG:=@Nat.le_refl
abbrev aH:=@List.mem_of_getElem?
abbrev aI:=@Nat.lt_of_lt_of_le
abbrev aJ:=@List.getElem?_eq_getElem
abbrev aK:=@Nat.ne_of_lt
abbrev aL:=@PySem.PassesOwn.never
abbrev aM:=@PySem.Heap.get?_push_size
abbrev aN:=@List.mem_cons
abbrev aO:=@Bool.false_ne_true
abbrev aP:=@Nat.lt_of_le_of_lt
abbrev aQ:=@Nat.le_trans
abbrev aR:=@List.mem_map
abbrev aS:=@PySem.wpAny_holding
abbrev aT:=@PySem.wpAny_seqItems
abbrev aU:=@List.mem_cons_of_mem
abbrev aV:=@PySem.wpAny_field
abbrev aW:=@PySem.wpAny_call_entry
abbrev aX:=@PySem.wpAny_callSpecial?_slot
abbrev aY:=@List.mem_append_right
abbrev aZ:=@List.mem_cons_self
abbrev aa:=@PySem.F.plainAttrs_list
abbrev ab:=@PySem.Heap.SameBut.update
abbrev ae:=@Nat.not_lt_zero
abbrev af:=@PySem.wpAny_setField_rec
abbrev ag:=@PySem.boot_len
abbrev ah:=@PyProof.Rows.callWith_type1
abbrev ai:=@Nat.pow_le_pow_right
abbrev aj:=@Nat.ne_of_gt
abbrev ak:=@of_decide_eq_true
abbrev ao:=@PySem.wpAny_mono
abbrev aq:=@Nat.mul_le_mul_left
abbrev ar:=@Option.some.inj
abbrev au:=@List.all_eq_true
abbrev av:=@List.map_congr_left
abbrev aw:=@PySem.wpAny_newObj_type
abbrev ax:=@List.mem_range
abbrev ay:=@Nat.le_of_lt
abbrev az:=@PySem.F.slot_list_append
abbrev bA:=@PySem.F.type_list_append
abbrev bC:=@PyProof.Rows.boot_tuple
abbrev bD:=@PySem.F.slot_zip_next
abbrev bE:=@Nat.zero_le
abbrev bF:=@PyProof.Rows.boot_list
abbrev bG:=@List.eq_nil_of_length_eq_zero
abbrev bH:=@PySem.wpAny_setState_of
abbrev bI:=@List.mem_append
abbrev bJ:=@PySem.W.kia_one
abbrev bK:=@Nat.mul_le_mul_right
abbrev bL:=@congrArg
abbrev bM:=@PySem.Heap.get?_update_self
abbrev bN:=@Nat.lt_succ_self
abbrev bO:=@PySem.wpAny_onRaise
abbrev bP:=@PySem.wpAny_rule
abbrev bQ:=@Nat.lt_succ_of_lt
abbrev bR:=@decide_eq_false
abbrev bS:=@PySem.wpAny_specialOf
abbrev bT:=@List.length_map
abbrev bU:=@Int.fmod_nonneg_of_pos
abbrev bV:=@List.mem_iff_getElem?
abbrev bW:=@List.find?_eq_none
abbrev bX:=@List.mem_append_left
abbrev bY:=@PyProof.Rows.KeyOrd.kle_refl
abbrev bZ:=@Nat.lt_trans
abbrev ba:=@PySem.wpAny_truthy_bool
abbrev bc:=@decide_eq_true
abbrev bf:=@Nat.mul_le_mul
abbrev bg:=@of_decide_eq_false
abbrev bh:=@List.pairwise_cons
abbrev bj:=@PyProof.Rows.boot_sum
set_option maxHeartbeats 0
abbrev RW:=List PD->Option (List PD)
abbrev rq:=List PD
abbrev rz:=List VL
abbrev sC:=VL->SD->Prop
abbrev sD:=PySem.Str->Option VL
abbrev sE:=Option PD
abbrev sG:=Array Nat
abbrev sI:=List Int
abbrev sJ:=List PySem.Str
abbrev sL:=List PySem.Expr
abbrev sN:=Option Int
abbrev sO:=List Nat
abbrev sP:=List Rat
abbrev sS:=List AD
abbrev sT:=List PySem.Stmt
abbrev sU:=List PySem.Env
abbrev sW:=List (Option Nat)
namespace L2
open PySem PySem.Spec PyProof.Rows
abbrev Key:=Sum Int Str
def fT:Key->VL->Bool
 |.inl k,v=>Value.isInt k v
 |.inr x,v=>Value.isStrOf x v
def pq(w:World):Key->Int
 |.inl k=>hashInt k
 |.inr x=>hashStr w x
def Dz:∀ {k:Key} {v:VL},fT k v=true->(∃i t,k=Sum.inl i/\v=Value.int i t)\/(∃x t,k=Sum.inr x/\v=Value.str x t)
 |.inl i,v,h=>by
  obtain⟨t,e⟩:=Value.isInt_shape (k:=i) (v:=v) h;exact .inl ⟨i,t,rfl,e⟩
 |.inr x,v,h=>by
  obtain⟨t,e⟩:=Value.isStrOf_shape (x:=x) (v:=v) h;exact .inr ⟨x,t,rfl,e⟩
def lC(a b:Int):decide ((Sum.inl a:Key)=Sum.inl b)=(a==b):=by
 by_cases e:a=b
 .subst e;simp
 .have h:¬(Sum.inl a:Key)=Sum.inl b:=fun q=>e (Sum.inl.inj q);rw[decide_eq_false h];exact(beq_eq_false_iff_ne.mpr e).symm
def kK(a b:Str):decide ((Sum.inr a:Key)=Sum.inr b)=decide (a=b):=by
 by_cases e:a=b
 .subst e;simp
 .have h:¬(Sum.inr a:Key)=Sum.inr b:=fun q=>e (Sum.inr.inj q);rw[decide_eq_false h,decide_eq_false e]
def jc(a:Int)(b:Str):decide ((Sum.inl a:Key)=Sum.inr b)=false:=bR (fun q=>nomatch q)
def kD(a:Str)(b:Int):decide ((Sum.inr a:Key)=Sum.inl b)=false:=bR (fun q=>nomatch q)
def W2(prog:Program)(w:World):PySem.KeyKind prog w Key where
 is:=fT
 hash:=pq w
 inj:=fun v a b ha hb=>by
  rcases Dz ha with ⟨i,t,rfl,rfl⟩|⟨x,t,rfl,rfl⟩
  .rcases Dz hb with ⟨j,u,rfl,e⟩|⟨y,u,rfl,e⟩
   .injection e with e1 _;rw[e1]
   .exact nomatch e
  .rcases Dz hb with ⟨j,u,rfl,e⟩|⟨y,u,rfl,e⟩
   .exact nomatch e
   .injection e with e1 _;rw[e1]
 byValue:=fun k v h=>by
  rcases Dz h with ⟨i,t,rfl,rfl⟩|⟨x,t,rfl,rfl⟩<;>rfl
 pyHash:=fun hv h=>by
  rcases Dz hv with ⟨i,t,rfl,rfl⟩|⟨x,t,rfl,rfl⟩
  .exact wpAny_pyHash_int h
  .exact wpAny_pyHash_str h
 eqBool:=fun hu hv h=>by
  rcases Dz hu with ⟨i,t,rfl,rfl⟩|⟨x,t,rfl,rfl⟩
  .rcases Dz hv with ⟨j,u,rfl,rfl⟩|⟨y,u,rfl,rfl⟩
   .rw[lC]at h;exact wpAny_eqBool_int h
   .rw[jc]at h;exact SeqAt.EqAt.int_str i t y u _ _ _ _ h
  .rcases Dz hv with ⟨j,u,rfl,rfl⟩|⟨y,u,rfl,rfl⟩
   .rw[kD]at h;exact SeqAt.EqAt.str_int x t j u _ _ _ _ h
   .rw[kK]at h;exact wpAny_eqBool_str h
 «strs»:=fun k x t v h=>by
  rcases Dz h with ⟨i,u,rfl,e⟩|⟨y,u,rfl,e⟩
  .exact nomatch e
  .injection e with e1 _
   subst e1;cases v<;>rfl
inductive V where
 |B4|bl (b:Bool)|int (i:Int)|str (x:Str)|OH (b:Array UInt8)|Xo (b:UInt64)|ref (a:Addr)|ty (n:String)
 deriving DecidableEq
abbrev sQ:=List V
def RelV:V->VL->Prop
 |.B4,u=>u=Value.none
 |.bl b,u=>u=Value.bool b
 |.int i,u=>∃t,u=Value.int i t
 |.str x,u=>∃t,u=Value.str x t
 |.OH b,u=>∃t,u=Value.bytes b t
 |.Xo b,u=>∃t,u=Value.float b t
 |.ref a,u=>u=Value.ref a
 |.ty n,u=>u=Value.type n
abbrev Vals:List V->List VL->Prop:=Paired RelV
def Vals.length{xs:sQ}{us:rz}(r:Vals xs us):xs.length=us.length:=Paired.length r
def Vals.get:∀ {xs:List V} {us:List VL} {i:Nat} {x:V},Vals xs us->xs[i]? = some x->∃u,us[i]? = some u/\RelV x u
 |_,_,_,_,.nil,e=>by simp at e
 |_,_,0,_,.cons r _,e=>by simp at e;subst e;exact⟨_,rfl,r⟩
 |_,_,i+1,x,.cons _ t,e=>by
  obtain⟨u,B,g⟩:=Vals.get (i:=i) (x:=x) t (by simpa using e);exact⟨u,by simpa using B,g⟩
def Vals.set{x:V}{u:VL}(r:RelV x u):∀ {xs:List V} {us:List VL} (i:Nat),Vals xs us->Vals (xs.set i x) (us.set i u)
 |_,_,_,.nil=>.nil
 |_,_,0,.cons _ t=>.cons r t
 |_,_,i+1,.cons q t=>.cons q (Vals.set r i t)
def Vals.append:∀ {xs ys:List V} {us g:List VL},Vals xs us->Vals ys g->Vals (xs++ys) (us++g)
 |_,_,_,_,.nil,s=>s
 |_,_,_,_,.cons r t,s=>.cons r (Vals.append t s)
def Vals.take:∀ {xs:List V} {us:List VL} (n:Nat),Vals xs us->Vals (xs.take n) (us.take n)
 |_,_,0,_=>.nil
 |_,_,_+1,.nil=>.nil
 |_,_,n+1,.cons r t=>.cons r (Vals.take n t)
def Vals.drop:∀ {xs:List V} {us:List VL} (n:Nat),Vals xs us->Vals (xs.drop n) (us.drop n)
 |_,_,0,r=>r
 |_,_,_+1,.nil=>.nil
 |_,_,n+1,.cons _ t=>Vals.drop n t
def eD:Option V->Option VL->Prop
 |some v,some u=>RelV v u
 |none,none=>True
 |_,_=>False
def KV{g:Type}:List (g×V)->List (g×VL)->Prop:=Paired fun(p:g×V) (q:g×VL)=>p.1=q.1/\RelV p.2 q.2
def kV:Key->V
 |.inl i=>.int i
 |.inr x=>.str x
inductive HO where
 |lst (xs:List V)
 |tup (xs:List V)
 |dK (kvs:List (Key×V))|dT (kvs:List (List Key×V))
 |set (S:Int->Bool) (n:Nat)
 |ins (C dx:Addr) (fs:List (Str×V))
 |own (x:Addr)
 |xd (fs:List (Str×V))
 |met (f x:Addr)
 |jP (lo hi:Int)
 |Hf (o:Obj) (u:HO)
 |V9 (ps:Array Value)
 |ext (φ:Heap->Prop)
abbrev Hp:=AD->Option HO
def upd(H:Hp)(a:AD)(o:HO):Hp:=fun b=>if b=a then some o else H b
def AW{H:Hp}{a:AD}{o:HO}:upd H a o a=some o:=by unfold upd;rw[if_pos rfl]
def AJ{H:Hp}{a b:AD}{o:HO}(h:b≠a):upd H a o b=H b:=by unfold upd;rw[if_neg h]
def Y5{H:Hp}{a b:AD}{o u:HO}(h:H a=some o)(h':H b=some u)(d:o≠u):a≠b:=by
 intro e;subst e;rw[h]at h';exact d (ar h')
def AY{H:Hp}{a b:AD}{o:HO}(h:H a=some o)(h':H b=none):a≠b:=by
 intro e;subst e;rw[h]at h';cases h'
section
variable(P:Program)(w:World)
def Dj(H:Hp)(h:Heap)(a:AD):HO->Prop
 |.lst xs=>xs.length<=sizeLine/\∃(g:List VL) (n:Nat),Vals xs g/\h.get? a=some { cls:=.type "list",data:=.seq g.toArray n}
 |.tup xs=>xs.length<=sizeLine/\∃g:List VL,Vals xs g/\IsTup h a g.toArray
 |.dK kvs=>kvs.length<=sizeLine/\(a==sysModules)=false/\∃vs,KV kvs vs/\h.DictOf (W2 P w) a vs
 |.dT kvs=>kvs.length<=sizeLine/\(a==sysModules)=false/\∃xs:List (List Key×AD×VL),
   Paired (fun(p:List Key×V) (q:List Key×AD×VL)=>p.1=q.1/\H q.2.1=some (.tup (p.1.map kV))/\RelV p.2 q.2.2) kvs xs /\
   ∃o es ep,h.get? a=some o/\o.ExactDict/\o.data=.dict es ep/\es.toList=xs.map (entryOfKey (tupleKind (W2 P w)))/\(xs.map (·.1)).Nodup
 |.set S n=>h.SetOf (intKind P w) a S n
 |.ins C dx fs=>H dx=some (.own a)/\fs.length<=1000/\dx≠a/\h.get? a=some (PySem.W.instObj C dx) /\
   ∃mA,h.Ns1 dx mA/\(∀f,eD (fs.lookup f) (mA f))/\PySem.Within mA (fs.map (·.1))
 |.own _=>∃o,h.get? a=some o
 |.xd fs=>∃mA,h.Ns1 a mA/\∀f,eD (fs.lookup f) (mA f)
 |.jP lo hi=>∃t u v,h.get? a=some { cls:=.type "range",data:=.fields #[.int lo t,.int hi u,.int 1 v]}
 |.Hf o u=>h.get? a=some o/\Dj H h a u
 |.V9 ps=>h.get? a=some { cls:=.none,data:=.fields ps}
 |.met f x=>h.get? a=some (PySem.W.methodObj (.ref f) (.ref x))
 |.ext φ=>φ h/\(∃o,h.get? a=some o)/\∀T B:Heap,φ T->(∀o,T.get? a=some o->B.get? a=some o)->φ B
def Fq(H:Hp)(h:Heap):Prop:=∀a o,H a=some o->Dj P w H h a o
end
section
variable{P:Program}{w:World}{H H':Hp}{h h':Heap}{a:AD}{o:HO}
def Dj.lt(x:Dj P w H h a o):a<h.objs.size:=by
 cases o with
 |lst xs=>obtain⟨_,_,_,_,e⟩:=x;exact aF e
 |tup xs=>obtain⟨_,_,_,p⟩:=x;exact p.lt
 |dK kvs=>obtain⟨_,_,_,_,o,_,_,e,_⟩:=x;exact aF e
 |dT kvs=>obtain⟨_,_,_,_,o,_,_,e,_⟩:=x;exact aF e
 |set S n=>obtain⟨o,_,_,_,e,_⟩:=x;exact aF e
 |ins C dx fs=>obtain⟨_,_,_,e,_⟩:=x;exact aF e
 |own y=>obtain⟨_,e⟩:=x;exact aF e
 |xd fs=>obtain⟨_,⟨_,_,_,e,_⟩,_⟩:=x;exact aF e
 |jP lo hi=>obtain⟨_,_,_,e⟩:=x;exact aF e
 |Hf ob u=>obtain⟨e,_⟩:=x;exact aF e
 |V9 ps=>exact aF (show h.get? a=some _ from x)
 |met f y=>exact aF (show h.get? a=some _ from x)
 |ext φ=>obtain⟨_,⟨_,e⟩,_⟩:=x;exact aF e
def Paired.lq{α β:Type}{F G:α->β->Prop}:∀ {l₁:List α} {l₂:List β},Paired F l₁ l₂->(∀a b,F a b->G a b)->Paired G l₁ l₂
 |_,_,.nil,_=>.nil
 |_,_,.cons r t,f=>.cons (f _ _ r) (Paired.lq t f)
def Dj.JO(x:Dj P w H h a o)(k:∀b u,(b=a\/H b=some (.own a))->h.get? b=some u->h'.get? b=some u) (U:∀b,H b=some (.own a)->H' b=some (.own a))(T:∀b xs,H b=some (.tup xs)->H' b=some (.tup xs)):Dj P w H' h' a o:=by
 induction o with
 |lst xs=>obtain⟨z,g,n,r,e⟩:=x;exact⟨z,g,n,r,k _ _ (.inl rfl) e⟩
 |tup xs=>obtain⟨z,g,r,ob,e,c⟩:=x;exact⟨z,g,r,ob,k _ _ (.inl rfl) e,c⟩
 |dK kvs=>obtain⟨z,y,vs,r,ob,es,ep,e,c⟩:=x;exact⟨z,y,vs,r,ob,es,ep,k _ _ (.inl rfl) e,c⟩
 |dT kvs=>
  obtain⟨z,y,xs,r,ob,es,ep,e,c⟩:=x;exact⟨z,y,xs,Paired.lq r fun p q z=>⟨z.1,T _ _ z.2.1,z.2.2⟩,ob,es,ep,k _ _ (.inl rfl) e,c⟩
 |set S n=>obtain⟨ob,es,ep,t,e,c⟩:=x;exact⟨ob,es,ep,t,k _ _ (.inl rfl) e,c⟩
 |ins C dx fs=>
  obtain⟨d,z,ne,e,mA,⟨od,es,ep,Y,c⟩,r⟩:=x;exact⟨U _ d,z,ne,k _ _ (.inl rfl) e,mA,⟨od,es,ep,k _ _ (.inr d) Y,c⟩,r⟩
 |own y=>obtain⟨ob,e⟩:=x;exact⟨ob,k _ _ (.inl rfl) e⟩
 |xd fs=>obtain⟨mA,⟨od,es,ep,e,c⟩,r⟩:=x;exact⟨mA,⟨od,es,ep,k _ _ (.inl rfl) e,c⟩,r⟩
 |jP lo hi=>obtain⟨t,u,v,e⟩:=x;exact⟨t,u,v,k _ _ (.inl rfl) e⟩
 |Hf ob u B=>obtain⟨e,q⟩:=x;exact⟨k _ _ (.inl rfl) e,B q⟩
 |V9 ps=>
  have e:h.get? a=some { cls:=.none,data:=.fields ps}:=x;show h'.get? a=some { cls:=.none,data:=.fields ps};exact k a _ (.inl rfl) e
 |met f y=>
  have e:h.get? a=some (PySem.W.methodObj (.ref f) (.ref y)):=x;show h'.get? a=some (PySem.W.methodObj (.ref f) (.ref y));exact k a _ (.inl rfl) e
 |ext φ=>obtain⟨p,⟨o,e⟩,st⟩:=x;exact⟨st _ _ p fun o q=>k _ _ (.inl rfl) q,⟨o,k _ _ (.inl rfl) e⟩,st⟩
def Fq.lt(x:Fq P w H h)(e:H a=some o):a<h.objs.size:=(x a o e).lt
def Fq.fresh(x:Fq P w H h)(e:h.objs.size<=a):H a=none:=by
 cases q:H a with
 |none=>rfl
 |some u=>exact absurd (aI (x.lt q) e) (Nat.lt_irrefl _)
def Fq.kept(x:Fq P w H h)(k:∀b u,h.get? b=some u->h'.get? b=some u):Fq P w H h':=fun a o e=>
 (x a o e).JO (fun b u _ q=>k b u q) (fun _ q=>q) fun _ _ q=>q
def Fq.laid(x:Fq P w H h)(k:∀b u,h.get? b=some u->h'.get? b=some u)(B:h.objs.size<=a)(new:Dj P w (upd H a o) h' a o):Fq P w (upd H a o) h':=fun b u e=>by
 have hn:=x.fresh B;by_cases g:b=a
 .subst g;rw[AW]at e;cases e;exact new
 .rw[AJ g]at e;exact(x b u e).JO (fun c v _ q=>k c v q) (fun c q=>by rw[AJ (AY q hn)];exact q) fun c xs q=>by rw[AJ (AY q hn)];exact q
end
def Rd(H:Hp)(a:AD)(u:HO):Prop:=H a=some u\/∃o,H a=some (.Hf o u)
def Rd.ok{P:Program}{w:World}{H:Hp}{h:Heap}{a:AD}{u:HO}(r:Rd H a u)(x:Fq P w H h):Dj P w H h a u:=by
 rcases r with r|⟨o,r⟩
 .exact x a u r
 .obtain⟨_,q⟩:=x a _ r;exact q
def fZ:Option HO->Prop
 |some (.lst _)=>True
 |some (.dK _)=>True
 |some (.dT _)=>True
 |some (.set _ _)=>True
 |some (.ins _ _ _)=>True
 |some (.ext _)=>True
 |_=>False
section
variable{P:Program}{w:World}{H:Hp}{h h':Heap}{x e:AD}{o':HO}
def Fq.write(ok:Fq P w H h)(T:fZ (H x))(he:e=x\/H e=some (.own x))(k:∀b u,b≠e->h.get? b=some u->h'.get? b=some u)(Z:∃u,h'.get? e=some u) (new:Dj P w (upd H x o') h' x o'):Fq P w (upd H x o') h':=fun b u q=>by
 have B:∀c y,H c=some (.own y)->c≠x:=fun c y r z=>by subst z;rw[r]at T;exact T
 have WA:∀c xs,H c=some (.tup xs)->c≠x:=fun c xs r z=>by subst z;rw[r]at T;exact T
 by_cases Y:b=x
 .subst Y;rw[AW]at q;cases q;exact new
 .rw[AJ Y]at q;by_cases g:b=e
  .have q':H b=some (.own x):=by
    rcases he with z|z
    .exact absurd (g.trans z) Y
    .rw[g];exact z
   rw[q]at q';cases q';obtain⟨v,hv⟩:=Z;exact⟨v,by rw[g];exact hv⟩
  .refine(ok b u q).JO (fun c v U r=>k c v ?_ r) (fun c r=>by rw[AJ (B c b r)];exact r) fun c xs r=>by rw[AJ (WA c xs r)];exact r
   rcases U with rfl|U
   .exact g
   .rintro rfl;rcases he with z|z
    .exact B c b U z
    .rw[U]at z;cases z;exact Y rfl
end
structure Un(fs ex:List Addr)(H H':Hp)(h h':Heap):Prop where
 keep:∀b o,h.get? b=some o->H b=none->b ∉ fs->b ∉ ex->h'.get? b=some o
 slot:∀b o,h.get? b=some o->H b=none->b∈fs->b ∉ ex->∃sl,h'.get? b=some {o with slots:=sl}
 free:∀b o,h.get? b=some o->H b=none->b ∉ ex->H' b=none
 there:∀b o,h.get? b=some o->b ∉ ex->∃o',h'.get? b=some o'
 Bm:∀b xs,H b=some (.tup xs)->H' b=some (.tup xs)
 MH:∀b o u,H b=some (.Hf o u)->H' b=some (.Hf o u)
 NQ:∀b ps,H b=some (.V9 ps)->∃more,H' b=some (.V9 (ps++more))
section
variable{fs ex:sS}{H H1:Hp}{h h1 h':Heap}{a x e:AD}{o:HO}
def Un.any(u:Un fs ex H H1 h h1){b:AD}{ob:Obj}(q:h.get? b=some ob)(n:H b=none)(g:b ∉ ex):∃sl,h1.get? b=some {ob with slots:=sl}:=by
 by_cases B:b∈fs
 .exact u.slot b ob q n B g
 .exact⟨ob.slots,u.keep b ob q n B g⟩
def Un.kept(k:∀b u,h.get? b=some u->h'.get? b=some u):Un fs ex H H h h' :=
 ⟨fun b ob q _ _ _=>k b ob q,fun b ob q _ _ _=>⟨ob.slots,k b ob q⟩,fun _ _ _ n _=>n,fun b ob q _=>⟨ob,k b ob q⟩,fun _ _ q=>q,fun _ _ _ q=>q,fun _ ps q=>⟨#[],by rw[q];simp⟩⟩
def Un.refl:Un fs ex H H h h:=Un.kept fun _ _ q=>q
def Un.laid(k:∀b u,h.get? b=some u->h'.get? b=some u)(hp:h.objs.size<=a)(hn:H a=none):Un fs ex H (upd H a o) h h' where
 keep:=fun b u q _ _ _=>k b u q
 slot:=fun b u q _ _ _=>⟨u.slots,k b u q⟩
 free:=fun b u q n _=>by rw[AJ (aK (aI (aF q) hp))];exact n
 there:=fun b u q _=>⟨u,k b u q⟩
 Bm:=fun b xs q=>by rw[AJ (AY q hn)];exact q
 MH:=fun b u xs q=>by rw[AJ (AY q hn)];exact q
 NQ:=fun b ps q=>⟨#[],by rw[AJ (AY q hn),q];simp⟩
def Un.write(B:fZ (H x))(Z:e=x\/H e=some (.own x))(k:∀b u,b≠e->h.get? b=some u->h'.get? b=some u)(T:∃u,h'.get? e=some u):Un fs ex H (upd H x o) h h':=by
 have U:∀b,H b=none->b≠x:=fun b n z=>by subst z;rw[n]at B;exact B
 have Y:∀b,H b=none->b≠e:=fun b n z=>by
  subst z;rcases Z with r|r
  .exact U b n r
  .rw[n]at r;cases r
 have hm:∀b u,H b=some u->¬fZ (some u)->b≠x:=fun b u q nm z=>by subst z;rw[q]at B;exact nm B
 refine⟨fun b u q n _ _=>k b u (Y b n) q,fun b u q n _ _=>⟨u.slots,k b u (Y b n) q⟩,fun b u q n _=>by rw[AJ (U b n)];exact n,fun b u q _=>?_,
  fun b xs q=>by rw[AJ (hm b _ q fun z=>z)];exact q,fun b u xs q=>by rw[AJ (hm b _ q fun z=>z)];exact q,fun b ps q=>⟨#[],by rw[AJ (hm b _ q fun z=>z),q];simp⟩⟩
 by_cases g:b=e
 .subst g;exact T
 .exact⟨u,k b u g q⟩
end
def F9(h:Heap)(H:Hp):sS:=(List.range h.objs.size).filter fun a=>(H a).isSome
def ND(h:Heap)(H:Hp):Heap:=PySem.W.hideAll h (F9 h H)
def Zn(h:Heap)(H:Hp):(ND h H).objs.size=h.objs.size:=PySem.W.hideAll_size _ _
def eR{h:Heap}{H:Hp}{b:AD}{o:Obj}(e:h.get? b=some o)(n:H b=none):(ND h H).get? b=some o :=
 PySem.W.hideAll_get _ e fun hm=>by
  have q:(H b).isSome=true:=(List.mem_filter.mp hm).2;rw[n]at q;simp at q
def gZ{h:Heap}{H:Hp}{b:AD}{o:Obj}(e:(ND h H).get? b=some o):h.get? b=some o/\H b=none:=by
 have g:h.get? b=some o:=PySem.W.of_hideAll (F9 h H) e;refine⟨g,?_⟩;cases q:H b with
 |none=>rfl
 |some x=>
  have hm:b∈F9 h H:=List.mem_filter.mpr ⟨ax.mpr (aF g),by simp[q]⟩;have z:(ND h H).get? b=none:=PySem.W.hideAll_none (F9 h H) hm;rw[z]at e;cases e
structure Mod(K:Fg)(mg:Str->Option Value)(base:Heap):Prop where
 md:K.In base
 glob:base.Ns mainGlobals mg
 blt:∃mb,base.Ns builtinsNs mb/\∀x:Str,x ≠ "__name__" -> mb x=bootBuiltins x
 nolimit:base.NoLimit
structure Cx where
 prog:Program
 w:World
 K:Fg
 mg:Str->Option Value
 base:Heap
 A:Around
 N:List Str
 s₀:Shared
 H₀:Hp
 env:Env
 outer:List Env
 stack:List Env
 ex:List Addr
 fn:Str->Bool
 calm:Bool
 pn:List (Addr×Obj)
 xe:Value->Shared->Prop
def Ni(l:sU):sS:=l.filterMap (·.frame)
abbrev Cx.fs(X:Cx):List AD:=Ni X.outer
def nI(sc:Scope)(x:Str):Prop:=sc.names.lookup x=some .local\/sc.names.lookup x=some .cell\/sc.names.lookup x=some .free
def Loc(sc:Scope)(x:Str):Prop:=sc.names.lookup x=some .local\/sc.names.lookup x=some .cell
def Look(env:Env)(h:Heap)(m:sD)(x:Str)(u:VL):Prop :=
 (env.kindOf x=some .local/\m x=some u)\/((env.kindOf x=some .cell\/env.kindOf x=some .free)/\∃c,env.cells.lookup x=some c/\h.IsCell c (some u))
structure Cx.Ok(X:Cx):Prop where
 mod:Mod X.K X.mg X.base
 kind:X.env.scope.kind=.function
 glob:X.env.globals=mainGlobals
 blt:X.env.builtins=builtinsNs
 above:X.s₀.heap.objs.size<=X.env.locals
 inj:∀x y c,X.env.cells.lookup x=some c->X.env.cells.lookup y=some c->x=y
 has:∀x,(X.env.kindOf x=some .cell\/X.env.kindOf x=some .free)->∃c,X.env.cells.lookup x=some c
 Zi:∀x c,X.fn x=true->X.env.cells.lookup x=some c->X.s₀.heap.objs.size<=c
 hd:X.calm=true->X.A.handled=none
 frames:X.A.frames=some X.stack
 ei:X.stack=X.outer\/(X.stack=X.env::X.outer/\X.env.frame=some X.env.locals)
 pU:∀b∈X.ex,b≠X.env.locals/\∀x c,X.env.cells.lookup x=some c->c≠b
 bs:∀b o,X.base.get? b=some o->X.s₀.heap.get? b=some o/\X.H₀ b=none
 Tc:X.base.objs.size<=X.s₀.heap.objs.size
 U5:∀b o,X.base.get? b=some o->b ∉ X.ex
 Vo:∀b∈X.ex,b ∉ X.fs
 LL:X.s₀.heap.FunFrames X.base X.outer
 Xq:∀b∈X.fs,X.H₀ b=none
structure Inv(X:Cx)(pins:List (Addr×Obj))(σ:List (Option V))(H:Hp)(s:Shared):Prop where
 ok:X.Ok
 os:s.os=X.s₀.os
 bare:AllBare s.gens
 base:Un X.fs X.ex X.H₀ H X.s₀.heap s.heap
 loc:∃m,s.heap.Ns X.env.locals m/\∀(i:Nat) (x:Str) (v:V),X.N[i]? = some x->σ[i]? = some (some v)->nI X.env.scope x->∃u,RelV v u/\Look X.env s.heap m x u
 cell:∀x c,X.env.cells.lookup x=some c->∃v,s.heap.IsCell c v
 free:H X.env.locals=none
 Jd:∀x c,X.env.cells.lookup x=some c->H c=none
 pin:∀p∈X.pn++pins,s.heap.get? p.1=some p.2/\H p.1=none/\p.1≠X.env.locals/\p.1 ∉ X.fs/\∀v,p.2.data≠.cell v
 BA:Fq X.prog X.w H s.heap
 len:σ.length=X.N.length
section
variable{X:Cx}{pins:List (AD×Obj)}{σ:List (Option V)}{H H':Hp}{s:SD}{h':Heap}
def Cx.Ok.qH(ok:X.Ok){b:AD}{o:Obj}(e:X.base.get? b=some o):b ∉ X.fs:=fun g=>by
 have:=(ok.LL.mem g).1;rw[e]at this;cases this
def Inv.bs(I:Inv X pins σ H s):∀b o,X.base.get? b=some o->s.heap.get? b=some o/\H b=none:=fun b o e=>
 ⟨I.base.keep b o (I.ok.bs b o e).1 (I.ok.bs b o e).2 (I.ok.qH e) (I.ok.U5 b o e),I.base.free b o (I.ok.bs b o e).1 (I.ok.bs b o e).2 (I.ok.U5 b o e)⟩
def Inv.bk(I:Inv X pins σ H s):∀b o,X.base.get? b=some o->s.heap.get? b=some o:=fun b o e=>(I.bs b o e).1
def Inv.mod(I:Inv X pins σ H s):Mod X.K X.mg X.base:=I.ok.mod
def Inv.Jp(I:Inv X pins σ H s):X.K.In s.heap:=I.ok.mod.md.keeps I.bk
def Inv.lt(I:Inv X pins σ H s):X.env.locals<s.heap.objs.size:=let⟨_,hn,_⟩:=I.loc;hn.lt
def Inv.sz(I:Inv X pins σ H s):X.s₀.heap.objs.size<=s.heap.objs.size:=aQ I.ok.above (ay I.lt)
def Inv.qO(I:Inv X pins σ H s){a:AD}(h:s.heap.objs.size<=a):a ∉ X.fs:=fun B=>by
 obtain⟨_,o,g,_⟩:=I.ok.LL.mem B;exact absurd (aI (aF g) (aQ I.sz h)) (Nat.lt_irrefl _)
def Inv.Vp(I:Inv X pins σ H s):∀x c,X.env.cells.lookup x=some c->c≠X.env.locals:=fun x c e z=>by
 obtain⟨v,o,T,hd⟩:=I.cell x c e;obtain⟨m,⟨o',es,ep,g,B,_⟩,_⟩:=I.loc;rw[z,g]at T;cases T;rw[B]at hd;cases hd
def Inv.LL(I:Inv X pins σ H s):s.heap.FunFrames X.base X.outer:=by
 have all:∀(l:List Env),(∀b∈Ni l,b∈X.fs)->X.s₀.heap.FunFrames X.base l->s.heap.FunFrames X.base l:=by
  intro l
  induction l with
  |nil=>intro _ _;trivial
  |cons env r Y=>
   intro U hl;obtain⟨hk,⟨L,o,g,hn,ho,hd⟩,Z⟩:=hl;have T:L∈X.fs:=U L (by unfold Ni;rw[List.filterMap_cons,g];exact aZ);obtain⟨sl,e⟩:=I.base.slot L o ho (I.ok.Xq L T) T fun z=>I.ok.Vo L z T;exact⟨hk,⟨L,_,g,hn,e,hd⟩,Y (fun b B=>U b (by unfold Ni;rw[List.filterMap_cons,g];exact aU _ B)) Z⟩
 exact all X.outer (fun _ B=>B) I.ok.LL
def Inv.stack(I:Inv X pins σ H s):s.heap.FunFrames X.base X.stack:=by
 rcases I.ok.ei with e|⟨e,g⟩
 .rw[e];exact I.LL
 .rw[e];obtain⟨m,hn,_⟩:=I.loc;refine .cons (by rw[I.ok.kind];decide) g hn ?_ I.LL;exact Heap.get?_none_of_le (aQ I.ok.Tc I.ok.above)
def Inv.VV(I:Inv X pins σ H s):∀b∈Ni X.stack,b∈X.env.locals::X.fs:=fun b g=>by
 rcases I.ok.ei with e|⟨e,B⟩
 .rw[e]at g;exact aU _ g
 .rw[e]at g;unfold Ni at g;rw[List.filterMap_cons,B]at g;exact g
def Inv.XC(I:Inv X pins σ H s):∀b∈Ni X.stack,H b=none:=fun b g=>by
 rcases aN.mp (I.VV b g) with e|g
 .rw[e];exact I.free
 .obtain⟨_,o,B,_⟩:=I.ok.LL.mem g;exact I.base.free b o B (I.ok.Xq b g) fun z=>I.ok.Vo b z g
def Inv.step{g':Array GenState}{t':Nat}{d':Drawn}{ch:sS}(I:Inv X pins σ H s) (T:∀b∈ch,(b∈X.ex\/X.s₀.heap.objs.size<=b)/\b≠X.env.locals/\(∀x c,X.env.cells.lookup x=some c->c≠b)/\∀p∈X.pn++pins,p.1≠b) (keep:∀b o,b≠X.env.locals->b ∉ X.fs->b ∉ ch->s.heap.get? b=some o->H b=none->h'.get? b=some o) (slot:∀b o,b≠X.env.locals->b∈X.fs->b ∉ ch->s.heap.get? b=some o->H b=none->∃sl,h'.get? b=some {o with slots:=sl})(free:∀b o,b ∉ ch->s.heap.get? b=some o->H b=none->H' b=none) (there:∀b o,b ∉ ch->s.heap.get? b=some o->∃o',h'.get? b=some o') (Bm:∀b xs,H b=some (.tup xs)->H' b=some (.tup xs))(MH:∀b o u,H b=some (.Hf o u)->H' b=some (.Hf o u))(NQ:∀b ps,H b=some (.V9 ps)->∃more,H' b=some (.V9 (ps++more))) (ns:∀m,s.heap.Ns X.env.locals m->h'.Ns X.env.locals m)(BA:Fq X.prog X.w H' h')(hg:AllBare g'):Inv X pins σ H' {s with heap:=h',gens:=g',drawn:=d',toks:=t'}:=by
 have neL:∀b o,X.s₀.heap.get? b=some o->b≠X.env.locals:=fun b o e=>aK (aI (aF e) I.ok.above);have U:∀b o,X.s₀.heap.get? b=some o->b ∉ X.ex->b ∉ ch:=fun b o e g Z=>by
  rcases(T b Z).1 with z|z
  .exact g z
  .exact absurd (aI (aF e) z) (Nat.lt_irrefl _)
 have cellK:∀x c,X.env.cells.lookup x=some c->∀v,s.heap.IsCell c v->h'.IsCell c v:=fun x c e v ⟨o,ho,hd⟩=>by
  have B:c ∉ ch:=fun z=>(T c z).2.2.1 x c e rfl;by_cases hc:c∈X.fs
  .obtain⟨sl,q⟩:=slot c o (I.Vp x c e) hc B ho (I.Jd x c e);exact⟨_,q,hd⟩
  .exact⟨o,keep c o (I.Vp x c e) hc B ho (I.Jd x c e),hd⟩
 refine⟨I.ok,I.os,hg,⟨fun b o e n Z g=>?_,fun b o e n Z g=>?_,fun b o e n g=>?_,fun b o e g=>?_,fun b xs e=>Bm b xs (I.base.Bm b xs e),fun b o xs e=>MH b o xs (I.base.MH b o xs e),fun b ps e=>?_⟩,?_,fun x c e=>?_,?_,fun x c e=>?_,fun p hp=>?_,BA,I.len⟩
 .exact keep b o (neL b o e) Z (U b o e g) (I.base.keep b o e n Z g) (I.base.free b o e n g)
 .obtain⟨sl,Y⟩:=I.base.slot b o e n Z g;obtain⟨sl',e2⟩:=slot b _ (neL b o e) Z (U b o e g) Y (I.base.free b o e n g);exact⟨sl',e2⟩
 .obtain⟨o',Y⟩:=I.base.there b o e g;exact free b o' (U b o e g) Y (I.base.free b o e n g)
 .obtain⟨o',Y⟩:=I.base.there b o e g;exact there b o' (U b o e g) Y
 .obtain⟨m1,Y⟩:=I.base.NQ b ps e;obtain⟨m2,e2⟩:=NQ b _ Y;exact⟨m1++m2,by rw[e2,Array.append_assoc]⟩
 .obtain⟨m,hn,hl⟩:=I.loc;refine⟨m,ns m hn,fun i x v Y e2 e3=>?_⟩;obtain⟨u,r,l⟩:=hl i x v Y e2 e3;refine⟨u,r,?_⟩;rcases l with l|⟨k,c,e,z⟩
  .exact .inl l
  .exact .inr ⟨k,c,e,cellK x c e _ z⟩
 .obtain⟨v,z⟩:=I.cell x c e;exact⟨v,cellK x c e v z⟩
 .obtain⟨m,⟨o,_,_,ho,_⟩,_⟩:=I.loc;exact free _ o (fun z=>(T _ z).2.1 rfl) ho I.free
 .obtain⟨v,o,ho,hd⟩:=I.cell x c e;exact free c o (fun z=>(T c z).2.2.1 x c e rfl) ho (I.Jd x c e)
 .obtain⟨e,n,ne,nf,d⟩:=I.pin p hp;have B:p.1 ∉ ch:=fun z=>(T p.1 z).2.2.2 p hp rfl;exact⟨keep p.1 p.2 ne nf B e n,free p.1 p.2 B e n,ne,nf,d⟩
def Inv.un{t':Nat}(I:Inv X pins σ H s)(u:Un X.fs [] H H' s.heap h')(BA:Fq X.prog X.w H' h'):Inv X pins σ H' {s with heap:=h',toks:=t'}:=by
 obtain⟨m,⟨o,es,ep,Y,r⟩,_⟩:=id I.loc;obtain⟨sl,hL⟩:=u.any Y I.free (by simp);exact I.step (g':=s.gens) (d':=s.drawn) (ch:=[]) (fun _ z=>nomatch z) (fun b o _ B _ e n=>u.keep b o e n B (by simp)) (fun b o _ B _ e n=>u.slot b o e n B (by simp)) (fun b o _ e n=>u.free b o e n (by simp)) (fun b o _ e=>u.there b o e (by simp)) u.Bm u.MH u.NQ (fun m' hm=>by
  obtain⟨o',T,U,g,Z⟩:=hm;rw[Y]at g;cases g;exact⟨_,T,U,hL,Z⟩) BA I.bare
def Inv.call{g':Array GenState}{t':Nat}{d':Drawn}{ch:sS}(I:Inv X pins σ H s)(u:Un (Ni X.stack) ch H H' s.heap h')(BA:Fq X.prog X.w H' h')(hg:AllBare g') (T:∀b∈ch,(b∈X.ex\/X.s₀.heap.objs.size<=b)/\b≠X.env.locals/\(∀x c,X.env.cells.lookup x=some c->c≠b)/\∀p∈X.pn++pins,p.1≠b):Inv X pins σ H' {s with heap:=h',gens:=g',drawn:=d',toks:=t'}:=by
 obtain⟨m,⟨o,es,ep,ho,r⟩,_⟩:=id I.loc;obtain⟨sl,U⟩:=u.any ho I.free fun z=>(T _ z).2.1 rfl;exact I.step (ch:=ch) T (fun b o U hb g e n=>u.keep b o e n (fun z=>(aN.mp (I.VV b z)).elim U hb) g) (fun b o _ _ g e n=>u.any e n g) (fun b o g e n=>u.free b o e n g) (fun b o g e=>u.there b o e g) u.Bm u.MH u.NQ (fun m' hm=>by
  obtain⟨o',Y,Z,B,r'⟩:=hm;rw[ho]at B;cases B;exact⟨_,Y,Z,U,r'⟩) BA hg
def Inv.turned{t':Nat}{it:AD}(I:Inv X pins σ H s)(k:∀b o,b≠it->s.heap.get? b=some o->h'.get? b=some o)(hn:H it=none)(T:it≠X.env.locals) (h1:it∈X.ex\/X.s₀.heap.objs.size<=it)(h2:∀x c,X.env.cells.lookup x=some c->c≠it)(Z:∀p∈X.pn++pins,p.1≠it):Inv X pins σ H {s with heap:=h',toks:=t'}:=by
 have B:∀b u,H b=some u->b≠it:=fun b u e z=>by rw[z,hn]at e;cases e
 refine I.step (g':=s.gens) (d':=s.drawn) (ch:=[it]) (fun b Y=>?_) (fun b o _ _ g e _=>k b o (fun z=>g (by simp[z])) e) (fun b o _ _ g e _=>⟨o.slots,k b o (fun z=>g (by simp[z])) e⟩) (fun _ _ _ _ n=>n)
  (fun b o g e=>⟨o,k b o (fun z=>g (by simp[z])) e⟩) (fun _ _ e=>e) (fun _ _ _ e=>e) (fun b ps e=>⟨#[],by rw[e];simp⟩) (fun m hm=>?_) (fun b u e=>?_) I.bare
 .have e:b=it:=by simpa using Y
  subst e;exact⟨h1,T,h2,Z⟩
 .obtain⟨o,es,ep,U,r⟩:=hm;exact⟨o,es,ep,k _ o (Ne.symm T) U,r⟩
 .refine(I.BA b u e).JO (fun c v g q=>k c v ?_ q) (fun _ q=>q) fun _ _ q=>q;rcases g with z|z
  .rw[z];exact B b u e
  .exact B c _ z
def Inv.tok(I:Inv X pins σ H s)(t:Nat):Inv X pins σ H {s with toks:=t}:=I.un (h':=s.heap) (t':=t) Un.refl I.BA
def Inv.kept{t':Nat}(I:Inv X pins σ H s)(k:∀b u,s.heap.get? b=some u->h'.get? b=some u):Inv X pins σ H {s with heap:=h',toks:=t'}:=I.un (Un.kept k) (I.BA.kept k)
def Inv.laid{a:AD}{o:HO}{t':Nat}(I:Inv X pins σ H s)(k:∀b u,s.heap.get? b=some u->h'.get? b=some u)(g:s.heap.objs.size<=a)(new:Dj X.prog X.w (upd H a o) h' a o):Inv X pins σ (upd H a o) {s with heap:=h',toks:=t'}:=I.un (Un.laid k g (I.BA.fresh g)) (I.BA.laid k g new)
def Inv.write{x e:AD}{o:HO}{t':Nat}(I:Inv X pins σ H s)(B:fZ (H x))(T:e=x\/H e=some (.own x))(k:∀b u,b≠e->s.heap.get? b=some u->h'.get? b=some u)(g:∃u,h'.get? e=some u) (new:Dj X.prog X.w (upd H x o) h' x o):Inv X pins σ (upd H x o) {s with heap:=h',toks:=t'}:=I.un (Un.write B T k g) (I.BA.write B T k g new)
def Inv.Xn{g:List (AD×Obj)}(I:Inv X pins σ H s)(h:∀p∈g,s.heap.get? p.1=some p.2/\H p.1=none/\p.1≠X.env.locals/\p.1 ∉ X.fs/\∀v,p.2.data≠.cell v):Inv X g σ H s :=
 ⟨I.ok,I.os,I.bare,I.base,I.loc,I.cell,I.free,I.Jd,fun p B=>(bI.mp B).elim (fun z=>I.pin p (bX _ z)) (h p),I.BA,I.len⟩
def Ub{N:sJ}(g:N.Nodup){i j:Nat}{x:Str}(a:N[i]? = some x)(b:N[j]? = some x):i=j:=by
 obtain⟨Y,T⟩:=aD.mp a;obtain⟨U,B⟩:=aD.mp b;exact(List.getElem_inj g).mp (T.trans B.symm)
def N9{M:Model}{A:Around}{E:sC}{i:Nat}{x:Str}{v:V}{u:VL}{Q:Unit->SD->Prop}(I:Inv X pins σ H s)(hN:X.N.Nodup)(hi:X.N[i]? = some x)(U:Loc X.env.scope x)(r:RelV v u) (h:∀s',Inv X pins (σ.set i (some v)) H s'->(∃a,Heap.SameBut a s.heap s'.heap/\(a=X.env.locals\/X.env.cells.lookup x=some a))->Q () s')(hf:X.fn x=true\/X.env.scope.names.lookup x=some .local:=by first|exact .inl rfl|exact .inr rfl|assumption):wpAny M A (storeName X.env x u) Q E s:=by
 obtain⟨m,hn,hl⟩:=id I.loc;have hcls:(X.env.scope.kind==.class||(X.env.scope.kind==.module&&X.env.locals != X.env.globals))=false:=by rw[I.ok.kind];rfl
 have hiσ:i<σ.length:=by rw[I.len];exact(aD.mp hi).1
 have Vp:=I.Vp;have tracked:∀ {a:AD} {h':Heap},(∃o,s.heap.get? a=some o/\H a=none)->Heap.SameBut a s.heap h'->Fq X.prog X.w H h':=fun {a h'} ha g b ob e=>by
  obtain⟨_,_,Y⟩:=ha;refine(I.BA b ob e).JO (fun c w' T q=>(g.2 c ?_).trans q) (fun _ q=>q) fun _ _ q=>q;rintro rfl;rcases T with rfl|T
  .rw[Y]at e;cases e
  .rw[Y]at T;cases T
 rcases U with hk|hk
 .refine wpAny_storeName_local hk hn (fun h' hn' g=>?_) hcls;obtain⟨oL,_,_,hoL,_⟩:=id hn;refine h _ ⟨I.ok,I.os,I.bare,⟨fun b o e n hb U=>?_,fun b o e n hb U=>?_,I.base.free,fun b o e U=>?_,I.base.Bm,I.base.MH,I.base.NQ⟩,⟨_,hn',fun j y v' B Z e3=>?_⟩,fun y c e=>?_,I.free,I.Jd,fun p hp=>?_,tracked ⟨oL,hoL,I.free⟩ g,by simpa using I.len⟩ ⟨_,g,.inl rfl⟩
  .exact(g.2 b (aK (aI (aF e) I.ok.above))).trans (I.base.keep b o e n hb U)
  .obtain⟨sl,B⟩:=I.base.slot b o e n hb U;exact⟨sl,(g.2 b (aK (aI (aF e) I.ok.above))).trans B⟩
  .obtain⟨o',B⟩:=I.base.there b o e U;exact⟨o',(g.2 b (aK (aI (aF e) I.ok.above))).trans B⟩
  .by_cases hj:j=i
   .subst hj;rw[hi]at B;cases B;rw[List.getElem?_set_self hiσ]at Z;cases Z;exact⟨u,r,.inl ⟨hk,by simp⟩⟩
   .rw[List.getElem?_set_ne (Ne.symm hj)]at Z;obtain⟨u',r',q⟩:=hl j y v' B Z e3;refine⟨u',r',?_⟩;rcases q with ⟨k,e⟩|⟨k,c,e,z⟩
    .refine .inl ⟨k,?_⟩;have:y≠x:=fun e=>hj (Ub hN B (e ▸ hi));simp[this,e]
    .exact .inr ⟨k,c,e,z.sameBut g (Vp y c e)⟩
  .obtain⟨w',z⟩:=I.cell y c e;exact⟨w',z.sameBut g (Vp y c e)⟩
  .obtain⟨e,n,ne,nf,d⟩:=I.pin p hp;exact⟨(g.2 p.1 ne).trans e,n,ne,nf,d⟩
 .have hfn:X.fn x=true:=by
   rcases hf with z|z
   .exact z
   .rw[z]at hk;cases hk
  obtain⟨c,T⟩:=I.ok.has x (.inl hk);obtain⟨w',z⟩:=I.cell x c T;refine wpAny_storeName_cell I.ok.kind hk T z (fun h' hc' g=>?_);obtain⟨oc,hoc,hocd⟩:=id z;refine h {s with heap:=h'} ⟨I.ok,I.os,I.bare,⟨fun b o e n hb U=>?_,fun b o e n hb U=>?_,I.base.free,fun b o e U=>?_,I.base.Bm,I.base.MH,I.base.NQ⟩,⟨m,hn.sameBut g (Ne.symm (Vp x c T)),fun j y v' B Z e3=>?_⟩,fun y c' e=>?_,I.free,I.Jd,fun p hp=>?_,tracked ⟨oc,hoc,I.Jd x c T⟩ g,by simpa using I.len⟩ ⟨c,g,.inr T⟩
  .exact(g.2 b (aK (aI (aF e) (I.ok.Zi x c hfn T)))).trans (I.base.keep b o e n hb U)
  .obtain⟨sl,B⟩:=I.base.slot b o e n hb U;exact⟨sl,(g.2 b (aK (aI (aF e) (I.ok.Zi x c hfn T)))).trans B⟩
  .obtain⟨o',B⟩:=I.base.there b o e U;exact⟨o',(g.2 b (aK (aI (aF e) (I.ok.Zi x c hfn T)))).trans B⟩
  .by_cases hj:j=i
   .subst hj;rw[hi]at B;cases B;rw[List.getElem?_set_self hiσ]at Z;cases Z;exact⟨u,r,.inr ⟨.inl hk,c,T,hc'⟩⟩
   .rw[List.getElem?_set_ne (Ne.symm hj)]at Z;obtain⟨u',r',q⟩:=hl j y v' B Z e3;refine⟨u',r',?_⟩;rcases q with q|⟨k,c',e,z'⟩
    .exact .inl q
    .refine .inr ⟨k,c',e,z'.sameBut g ?_⟩;rintro rfl;exact hj (Ub hN B (I.ok.inj _ _ _ e T ▸ hi))
  .by_cases hcc:c'=c
   .subst hcc;exact⟨_,hc'⟩
   .obtain⟨w2,z2⟩:=I.cell y c' e;exact⟨w2,z2.sameBut g hcc⟩
  .obtain⟨e,n,ne,nf,d⟩:=I.pin p hp;refine⟨(g.2 p.1 ?_).trans e,n,ne,nf,d⟩;intro q;rw[q,hoc]at e;have q':oc=p.2:=ar e;exact d w' (by rw[<-q'];exact hocd)
def NM{M:Model}{A:Around}{E:sC}{i:Nat}{x:Str}{v:V}{u:VL}{Q:Unit->SD->Prop}(I:Inv X pins σ H s)(T:X.N.Nodup)(hi:X.N[i]? = some x)(g:Loc X.env.scope x)(r:RelV v u) (h:∀s',Inv X pins (σ.set i (some v)) H s'->Q () s')(B:X.fn x=true\/X.env.scope.names.lookup x=some .local:=by first|exact .inl rfl|exact .inr rfl|assumption):wpAny M A (storeName X.env x u) Q E s :=
 N9 I T hi g r (fun s' U _=>h s' U) B
def Inv.oG{s':SD}{ch:sS}(I:Inv X pins σ H s)(Y:s'.os=s.os)(u:Un (Ni X.stack) ch H H' s.heap s'.heap)(BA:Fq X.prog X.w H' s'.heap)(Z:AllBare s'.gens) (g:∀b∈ch,(b∈X.ex\/X.s₀.heap.objs.size<=b)/\b≠X.env.locals/\(∀x c,X.env.cells.lookup x=some c->c≠b)/\∀p∈X.pn++pins,p.1≠b):Inv X pins σ H' s':=by
 obtain⟨h',T,U,B,o'⟩:=s';have e:o'=s.os:=Y;subst e;exact I.call (g':=T) (t':=B) (d':=U) u BA Z g
end
abbrev XK:=VL->Option AD->Hp->Prop
abbrev St:=List (Option V)
abbrev VK:=V->Hp->Prop
abbrev TE:=St->Hp->VK->Prop
abbrev TT:=St->Hp->(Bool->Hp->Prop)->Prop
abbrev TA:=St->Hp->(List V->Hp->Prop)->Prop
structure Ends where
 nx:St->Hp->Prop
 rt:VK
 bk:St->Hp->Prop:=fun _ _=>False
 ct:St->Hp->Prop:=fun _ _=>False
abbrev TS:=Ends->St->Hp->Prop
def EP(X:Cx)(pins:List (AD×Obj))(σ:St)(Q:VK)(u:VL)(s':SD):Prop:=∃v H',Inv X pins σ H' s'/\RelV v u/\Q v H'
def TP(X:Cx)(pins:List (AD×Obj))(σ:St)(Q:Bool->Hp->Prop)(b:Bool)(s':SD):Prop:=∃H',Inv X pins σ H' s'/\Q b H'
def AP(X:Cx)(pins:List (AD×Obj))(σ:St)(Q:List V->Hp->Prop)(us:rz)(s':SD):Prop:=∃vs H',Inv X pins σ H' s'/\Vals vs us/\Q vs H'
def SP(X:Cx)(pins:List (AD×Obj))(D:Ends)(f:Flow)(s':SD):Prop :=
 match f with
 |.next=>∃g H',Inv X pins g H' s'/\D.nx g H'
 |.brk=>∃g H',Inv X pins g H' s'/\D.bk g H'
 |.cont=>∃g H',Inv X pins g H' s'/\D.ct g H'
 |.ret u=>∃v g H',Inv X pins g H' s'/\RelV v u/\D.rt v H'
def PE(X:Cx)(e:Expr)(t:TE):Prop :=
 ∀(pins:List (AD×Obj)) (s:SD) (σ:St) (H:Hp) (Q:VK),Inv X pins σ H s->t σ H Q->wpAny (model X.prog X.w) X.A (eval e X.env) (EP X pins σ Q) X.xe s
def PT(X:Cx)(e:Expr)(t:TT):Prop :=
 ∀(pins:List (AD×Obj)) (s:SD) (σ:St) (H:Hp) (Q:Bool->Hp->Prop),Inv X pins σ H s->t σ H Q->wpAny (model X.prog X.w) X.A (isTrue e X.env (eval e X.env)) (TP X pins σ Q) X.xe s
def PW(X:Cx)(e:Expr)(t:TT):Prop :=
 ∀(g:Sem VL) (pins:List (AD×Obj)) (s:SD) (σ:St) (H:Hp) (Q:Bool->Hp->Prop),Inv X pins σ H s->t σ H Q->wpAny (model X.prog X.w) X.A (isTrue e X.env g) (TP X pins σ Q) X.xe s
def PW.pt{X:Cx}{e:Expr}{t:TT}(h:PW X e t):PT X e t:=h _
def PA(X:Cx)(es:sL)(t:TA):Prop :=
 ∀(pos:Pos) (pins:List (AD×Obj)) (s:SD) (σ:St) (H:Hp) (Q:List V->Hp->Prop),Inv X pins σ H s->t σ H Q->wpAny (model X.prog X.w) X.A (spliced (backTo pos (starEach es X.env))) (AP X pins σ Q) X.xe s
def PS(X:Cx)(st:Stmt)(t:TS):Prop :=
 ∀(pins:List (AD×Obj)) (s:SD) (σ:St) (H:Hp) (D:Ends),Inv X pins σ H s->t D σ H->wpAny (model X.prog X.w) X.A (exec st X.env) (SP X pins D) X.xe s
def LC(X:Cx)(st:sT)(t:TS):Prop :=
 ∀(pins:List (AD×Obj)) (s:SD) (σ:St) (H:Hp) (D:Ends),Inv X pins σ H s->t D σ H->wpAny (model X.prog X.w) X.A (execs st X.env) (SP X pins D) X.xe s
def Bc{α:Type}{t:Sem α}{Q g:α->SD->Prop}{M:Model}{A:Around}{E:sC}{s:SD}(h:wpAny M A t Q E s)(B:∀a s,Q a s->g a s):wpAny M A t g E s:=ao h B fun _ _ x=>x
section
variable{X:Cx}
def Oz(i:Nat):TE:=fun σ H Q=>∃v,σ[i]? = some (some v)/\Q v H
def tC(v:V):TE:=fun _ H Q=>Q v H
def ly{i:Nat}{x:Str}{pos:Pos}(hN:X.N[i]? = some x)(Y:nI X.env.scope x)(hd:(x==("__debug__" : Str))=false:=by decide)(T:(x==("__classdict__" : Str))=false:=by decide):PE X (.Name x pos) (Oz i):=by
 intro pins s σ H Q I h;obtain⟨v,e,h⟩:=h;obtain⟨m,hn,Z⟩:=I.loc;obtain⟨u,r,l⟩:=Z i x v hN e Y;have fin:EP X pins σ Q u s:=⟨v,H,I,r,h⟩;rcases l with ⟨B,hm⟩|⟨B,c,U,g⟩
 .exact wpAny_Name (wpAny_loadName_local I.ok.kind B hn hm fin) hd
 .rcases B with B|B
  .exact wpAny_Name (wpAny_loadName_cell I.ok.kind B U g fin) hd
  .exact wpAny_Name (wpAny_loadName_free I.ok.kind B U g fin T) hd
def Aa{i j pos}:PE X (.Constant (.int i) j pos) (tC (.int i)):=fun _ _ _ H _ I h=>wpAny_Constant_int ⟨.int i,H,I.tok _,⟨_,rfl⟩,h⟩
def oS{b j pos}:PE X (.Constant (.bool b) j pos) (tC (.bl b)):=fun _ _ _ H _ I h=>Constant_bool ⟨.bl b,H,I,rfl,h⟩
def lj{j pos}:PE X (.Constant .none j pos) (tC .B4):=fun _ _ _ H _ I h=>Constant_none ⟨.B4,H,I,rfl,h⟩
def Gl(X:Cx)(x:Str):Prop:=X.env.kindOf x=some .globalImplicit
def Ww{E:sC}{pins:List (AD×Obj)}{s:SD}{σ:St}{H:Hp}{x:Str}{u:VL}{pos:Pos}{Q:sC}(I:Inv X pins σ H s)(g:Gl X x)(hm:X.mg x=some u)(h:Q u s) (hd:(x==("__debug__" : Str))=false:=by decide):wpAny (model X.prog X.w) X.A (eval (.Name x pos) X.env) Q E s :=
 Calls.Name_function_global I.ok.kind g (Calls.loadGlobal_global (by rw[I.ok.glob];exact I.mod.glob.keeps I.bk) hm h) hd
def GV{E:sC}{pins:List (AD×Obj)}{s:SD}{σ:St}{H:Hp}{x:Str}{u:VL}{pos:Pos}{Q:sC}(I:Inv X pins σ H s)(B:Gl X x)(hm:X.mg x=none)(g:bootBuiltins x=some u)(h:Q u s) (hn:x ≠ "__name__":=by decide)(hd:(x==("__debug__" : Str))=false:=by decide):wpAny (model X.prog X.w) X.A (eval (.Name x pos) X.env) Q E s:=by
 obtain⟨mb,U,T⟩:=I.mod.blt;exact Calls.Name_function_global I.ok.kind B (Calls.loadGlobal_builtin (by rw[I.ok.glob];exact I.mod.glob.keeps I.bk) hm (by rw[I.ok.blt];exact U.keeps I.bk) ((T x hn).trans g) h) hd
def iH{x:Str}{v:V}{u:VL}{pos:Pos}(g:Gl X x)(hm:X.mg x=some u)(r:RelV v u)(hd:(x==("__debug__" : Str))=false:=by decide):PE X (.Name x pos) (tC v) :=
 fun _ _ _ H _ I h=>Ww I g hm ⟨v,H,I,r,h⟩ hd
def iL{x:Str}{v:V}{u:VL}{pos:Pos}(B:Gl X x)(hm:X.mg x=none)(g:bootBuiltins x=some u)(r:RelV v u)(hn:x ≠ "__name__":=by decide)(hd:(x==("__debug__" : Str))=false:=by decide):PE X (.Name x pos) (tC v) :=
 fun _ _ _ H _ I h=>GV I B hm g ⟨v,H,I,r,h⟩ hn hd
variable{a b:Expr}{ta tb:TE}{pos:Pos}
def tB(t:TE):TT:=fun σ H Q=>t σ H fun x g=>∃c,x=.bl c/\Q c g
def lL{e : Expr}{t : TE}(h : PE X e t)(he : ∀ whole,isTrue e X.env whole = (do let v <- whole; standAt e.pos; holding [v] (truthy v)):=by intro _; rfl):PT X e (tB t):=by
  intro pins s σ H Q I hw
  refine isTrue_plain (Bc (h pins s σ H _ I hw) fun v s1 ⟨x,H1,I1,r1,q1⟩ => ?_) (he _)
  obtain ⟨d,rfl,q⟩:=q1
  cases r1
  exact ba ⟨H1,I1,q⟩
variable{tA tB':TT}{rest:sL}
def qi(t u:TT):TT:=fun σ H Q=>t σ H fun c g=>if c=true then u σ g Q else Q false g
def rG(t u:TT):TT:=fun σ H Q=>t σ H fun c g=>if c=true then Q true g else u σ g Q
def qM(t:TT):TT:=fun σ H Q=>t σ H fun c g=>Q (!c) g
def XB(ha:PT X a tA):PW X (.BoolOp .And [a] pos) tA:=by
 intro g pins s σ H Q I h;refine isTrue_and (Bc (ha pins s σ H Q I h) fun c s1 e=>?_);cases c with
 |true=>exact isTrue_and_nil e
 |false=>exact e
def jE(ha:PT X a tA):PW X (.BoolOp .Or [a] pos) tA:=by
 intro g pins s σ H Q I h;refine isTrue_or (Bc (ha pins s σ H Q I h) fun c s1 e=>?_);cases c with
 |false=>exact isTrue_or_nil e
 |true=>exact e
def Z4(ha:PT X a tA)(U:PW X (.BoolOp .And (b::rest) pos) tB'):PW X (.BoolOp .And (a::b::rest) pos) (qi tA tB'):=by
 intro T pins s σ H Q I h;refine isTrue_and (Bc (ha pins s σ H _ I h) fun c s1 ⟨B,g,q1⟩=>?_);cases c with
 |true=>exact U T pins s1 σ B Q g q1
 |false=>exact⟨B,g,q1⟩
def pC(ha:PT X a tA)(U:PW X (.BoolOp .Or (b::rest) pos) tB'):PW X (.BoolOp .Or (a::b::rest) pos) (rG tA tB'):=by
 intro T pins s σ H Q I h;refine isTrue_or (Bc (ha pins s σ H _ I h) fun c s1 ⟨B,g,q1⟩=>?_);cases c with
 |true=>exact⟨B,g,q1⟩
 |false=>exact U T pins s1 σ B Q g q1
def kP(ha:PT X a tA):PT X (.UnaryOp .Not a pos) (qM tA):=by
 intro pins s σ H Q I h;exact isTrue_not (ha pins s σ H (fun c g=>Q (!c) g) I h)
def oC(ta tb:TE):TE:=fun σ H Q=>ta σ H fun x g=>∃c,x=.bl c/\if c=true then tb σ g Q else Q (.bl false) g
def oq(ta:TE):TE:=fun σ H Q=>ta σ H fun x g=>∃c,x=.bl c/\Q (.bl (!c)) g
def kI{op}{t:TE}(h:PE X a t):PE X (.BoolOp op [a] pos) t:=fun pins s σ H Q I g=>BoolOp_one (h pins s σ H Q I g)
def mN(ha:PE X a ta)(U:PE X (.BoolOp .And (b::rest) pos) tb):PE X (.BoolOp .And (a::b::rest) pos) (oC ta tb):=by
 intro pins s σ H Q I h;refine BoolOp_and (Bc (ha pins s σ H _ I h) fun v s1 ⟨x,B,g,T,q1⟩=>?_);obtain⟨c,rfl,q1⟩:=q1;cases T;refine ba ?_;cases c with
 |true=>exact U pins s1 σ B Q g q1
 |false=>exact⟨.bl false,B,g,rfl,q1⟩
def mC(ha:PE X a ta):PE X (.UnaryOp .Not a pos) (oq ta):=by
 intro pins s σ H Q I h;refine UnaryOp_ (Bc (ha pins s σ H _ I h) fun v s1 ⟨x,T,B,g,q1⟩=>?_);obtain⟨c,rfl,q1⟩:=q1;cases g;exact not_of (ba ⟨.bl (!c),T,B,rfl,q1⟩)
end
def Aw(K:Fg)(H:Hp)(a:AD)(xs:sQ):Prop :=
 Rd H a (.lst xs) \/
  ∃(o:Obj) (g:Array VL) (n:Nat),K.lookup a=some o/\o.cls=.type "list" /\ o.dict=none/\o.data=.seq g n/\g.size<=sizeLine/\Vals xs g.toList
def BN(K:Fg)(H:Hp)(a:AD)(xs:sQ):Prop :=
 Rd H a (.tup xs) \/
  ∃(o:Obj) (g:Array VL) (n:Nat),K.lookup a=some o/\o.cls=.type "tuple" /\ o.data=.seq g n/\g.size<=sizeLine/\Vals xs g.toList
def pf:VL->Option V
 |.none=>some .B4
 |.bool b=>some (.bl b)
 |.int i _=>some (.int i)
 |.str x _=>some (.str x)
 |.bytes b _=>some (.OH b)
 |.float b _=>some (.Xo b)
 |.ref a=>some (.ref a)
 |.type n=>some (.ty n)
 |_=>none
def RelV.abs{x:V}{u:VL}(r:RelV x u):pf u=some x:=by
 cases x with
 |B4=>cases r;rfl
 |bl _=>cases r;rfl
 |int _=>obtain⟨t,rfl⟩:=r;rfl
 |str _=>obtain⟨t,rfl⟩:=r;rfl
 |OH _=>obtain⟨t,rfl⟩:=r;rfl
 |Xo _=>obtain⟨t,rfl⟩:=r;rfl
 |ref _=>cases r;rfl
 |ty _=>cases r;rfl
def RelV.inj{x y:V}{u:VL}(r:RelV x u)(q:RelV y u):x=y:=ar (r.abs.symm.trans q.abs)
def Vals.inj:∀ {xs ys:List V} {us:List VL},Vals xs us->Vals ys us->xs=ys
 |_,_,_,.nil,.nil=>rfl
 |_,_,_,.cons r t,.cons B g=>by rw[r.inj B,Vals.inj t g]
section
variable{X:Cx}{pins:List (AD×Obj)}{σ:St}{H:Hp}{s:SD}{a:AD}{xs ys:sQ}
def Aw.of{K:Fg}(h:H a=some (.lst xs)):Aw K H a xs:=.inl (.inl h)
def BN.of{K:Fg}(h:H a=some (.tup xs)):BN K H a xs:=.inl (.inl h)
def Inv.list(I:Inv X pins σ H s)(h:Aw X.K H a xs):∃g:rz,Vals xs g/\PlainL s.heap a g.toArray/\xs.length<=sizeLine:=by
 rcases h with h|⟨o,g,n,T,U,hd,B,Y,r⟩
 .obtain⟨z,g,n,r,e⟩:=h.ok I.BA;exact⟨g,r,⟨_,n,e,rfl,rfl,rfl⟩,z⟩
 .refine⟨g.toList,r,⟨o,n,I.Jp a o T,U,hd,by simpa using B⟩,?_⟩;have e:=r.length;simp only[Array.length_toList]at e
  lia
def Inv.tuple(I:Inv X pins σ H s)(h:BN X.K H a xs):∃g:rz,Vals xs g/\IsTup s.heap a g.toArray/\xs.length<=sizeLine:=by
 rcases h with h|⟨o,g,n,T,U,B,Y,r⟩
 .obtain⟨z,g,r,p⟩:=h.ok I.BA;exact⟨g,r,p,z⟩
 .refine⟨g.toList,r,⟨o,I.Jp a o T,U,n,by simpa using B⟩,?_⟩;have e:=r.length;simp only[Array.length_toList]at e
  lia
def Inv.WG(I:Inv X pins σ H s)(h:Aw X.K H a xs)(h':Aw X.K H a ys):xs=ys:=by
 obtain⟨B,r,⟨o,n,e,_,_,d⟩,_⟩:=I.list h;obtain⟨g,Y,⟨o',n',T,_,_,U⟩,_⟩:=I.list h';rw[e]at T;cases T;rw[d]at U
 injection U with Z _
 have:B=g:=by simpa using bL Array.toList Z
 subst this;exact r.inj Y
def Inv.TQ(I:Inv X pins σ H s)(h:BN X.K H a xs)(h':BN X.K H a ys):xs=ys:=by
 obtain⟨B,r,⟨o,e,_,n,d⟩,_⟩:=I.tuple h;obtain⟨g,Y,⟨o',T,_,n',U⟩,_⟩:=I.tuple h';rw[e]at T;cases T;rw[d]at U
 injection U with Z _
 have:B=g:=by simpa using bL Array.toList Z
 subst this;exact r.inj Y
end
abbrev Cx.MI(X:Cx)(E:VL->SD->Prop):Cx:={X with xe:=E}
abbrev Cx.TB(X:Cx):Cx:=X.MI fun _ _=>False
def Cx.Ok.MI{X:Cx}(ok:X.Ok)(E:sC):(X.MI E).Ok :=
 ⟨ok.mod,ok.kind,ok.glob,ok.blt,ok.above,ok.inj,ok.has,ok.Zi,ok.hd,ok.frames,ok.ei,ok.pU,ok.bs,ok.Tc,ok.U5,ok.Vo,ok.LL,ok.Xq⟩
def Cx.Ok.Jw{X:Cx}{E:sC}(ok:(X.MI E).Ok):X.Ok :=
 ⟨ok.mod,ok.kind,ok.glob,ok.blt,ok.above,ok.inj,ok.has,ok.Zi,ok.hd,ok.frames,ok.ei,ok.pU,ok.bs,ok.Tc,ok.U5,ok.Vo,ok.LL,ok.Xq⟩
section
variable{X:Cx}{pins:List (AD×Obj)}{σ:St}{H:Hp}{s:SD}{E:sC}
def Inv.MI(I:Inv X pins σ H s)(E:sC):Inv (X.MI E) pins σ H s:=⟨I.ok.MI E,I.os,I.bare,I.base,I.loc,I.cell,I.free,I.Jd,I.pin,I.BA,I.len⟩
def Inv.Jw(I:Inv (X.MI E) pins σ H s):Inv X pins σ H s:=⟨I.ok.Jw,I.os,I.bare,I.base,I.loc,I.cell,I.free,I.Jd,I.pin,I.BA,I.len⟩
def SP.Jw{D:Ends}{f:Flow}{s':SD}(h:SP (X.MI E) pins D f s'):SP X pins D f s':=by
 cases f with
 |next=>obtain⟨g,H',I,q⟩:=h;exact⟨g,H',I.Jw,q⟩
 |brk=>obtain⟨g,H',I,q⟩:=h;exact⟨g,H',I.Jw,q⟩
 |cont=>obtain⟨g,H',I,q⟩:=h;exact⟨g,H',I.Jw,q⟩
 |ret u=>obtain⟨v,g,H',I,r,q⟩:=h;exact⟨v,g,H',I.Jw,r,q⟩
def LC.TB{st:sT}{t:TS}(h:LC X.TB st t):LC X st t:=fun pins s σ H D I g=>
 ao (h pins s σ H D (I.MI _) g) (fun _ _ q=>q.Jw) fun _ _ z=>False.elim z
end
section
variable{X:Cx}{st:Stmt}{rest:sT}{t u:TS}{e:Expr}{te:TE}{pos:Pos}
def fX:TS:=fun D σ H=>D.nx σ H
def jQ(t u:TS):TS:=fun D σ H=>t {D with nx:=u D} σ H
def EL:LC X [] fX:=fun _ _ σ H _ I h=>wpAny_execs_nil ⟨σ,H,I,h⟩
def Ab(T:PS X st t)(B:LC X rest u):LC X (st::rest) (jQ t u):=by
 intro pins s σ H D I h;refine wpAny_execs_cons (Bc (T pins s σ H {D with nx:=u D} I h) fun f s1 q=>?_);cases f with
 |next=>
  obtain⟨g,H',U,q⟩:=q;exact B pins s1 g H' D U q
 |ret v=>exact q
 |brk=>exact q
 |cont=>exact q
def A2(g:PS X st t):LC X [st] t:=by
 intro pins s σ H D I h;refine wpAny_execs_cons (Bc (g pins s σ H D I h) fun f s1 q=>?_);cases f with
 |next=>exact wpAny_execs_nil q
 |ret v=>exact q
 |brk=>exact q
 |cont=>exact q
def Inv.quiet{pins:List (AD×Obj)}{σ:St}{H:Hp}{s:SD}(I:Inv X pins σ H s):interactive X.env=false:=by simp[interactive,I.ok.kind]
def ZD(te:TE):TS:=fun D σ H=>te σ H fun _ g=>D.nx σ g
def Ep(B:PE X e te)(g:swapsWith e none pos.line X.env=pure false:=by rfl):PS X (.Expr e pos) (ZD te):=by
 intro pins s σ H D I h;exact wpAny_Expr_any (Bc (B pins s σ H _ I h) fun v s1 ⟨x,U,T,Y,q1⟩=>⟨σ,U,T,q1⟩) I.quiet g
def qS(te:TE):TS:=fun D σ H=>te σ H D.rt
def CB(B:PE X e te):PS X (.Return (some e) pos) (qS te):=by
 intro pins s σ H D I h;exact wpAny_Return_some (Bc (B pins s σ H _ I h) fun v s1 ⟨x,U,T,g,q1⟩=>⟨x,σ,U,T,g,q1⟩)
def qw(c:TT)(t u:TS):TS:=fun D σ H=>c σ H fun b g=>if b=true then t D σ g else u D σ g
def Gq{c:Expr}{a b:sT}{g:TT}(U:PT X c g)(ha:LC X a t)(Y:LC X b u):PS X (.If c a b pos) (qw g t u):=by
 intro pins s σ H D I h;refine wpAny_If (Bc (U pins s σ H _ I h) fun d s1 ⟨T,B,q1⟩=>?_);cases d with
 |true=>exact ha pins s1 σ T D B q1
 |false=>exact Y pins s1 σ T D B q1
def nM:TS:=fun _ _ _=>False
def Vw:PS X st nM:=fun _ _ _ _ _ _ h=>h.elim
end
abbrev TG:=V->St->Hp->(St->Hp->Prop)->Prop
abbrev Uz:=List V->St->Hp->(St->Hp->Prop)->Prop
def PG(X:Cx)(target:Expr)(t:TG):Prop :=
 ∀(pins:List (AD×Obj)) (s:SD) (σ:St) (H:Hp) (v:V) (u:VL) (Q:St->Hp->Prop),Inv X pins σ H s->RelV v u->t v σ H Q ->
  wpAny (model X.prog X.w) X.A (assign target X.env u) (fun _ B=>∃g H',Inv X pins g H' B/\Q g H') X.xe s
def fI(X:Cx)(ts:sL)(t:Uz):Prop :=
 ∀(pins:List (AD×Obj)) (s:SD) (σ:St) (H:Hp) (vs:List V) (us:List VL) (Q:St->Hp->Prop),Inv X pins σ H s->Vals vs us->t vs σ H Q ->
  wpAny (model X.prog X.w) X.A (assignInOrder ((assignEach ts X.env).map (·.2)) us) (fun _ B=>∃g H',Inv X pins g H' B/\Q g H') X.xe s
abbrev YL:=V->V->V->Hp->(Hp->Prop)->Prop
def cV(X:Cx)(t:YL):Prop :=
 ∀(pins:List (AD×Obj)) (s:SD) (σ:St) (H:Hp) (o i v:V) (g B u:VL) (Q:Hp->Prop),Inv X pins σ H s->RelV o g->RelV i B->RelV v u->t o i v H Q ->
  wpAny (model X.prog X.w) X.A (setItem g B u) (fun _ T=>∃H',Inv X pins σ H' T/\Q H') X.xe s
section
variable{X:Cx}{pos:Pos}
def D6(i:Nat):TG:=fun v σ H Q=>Q (σ.set i (some v)) H
def Ax{i:Nat}{x:Str}(T:X.N.Nodup)(hi:X.N[i]? = some x)(g:Loc X.env.scope x)(B:X.fn x=true\/X.env.scope.names.lookup x=some .local:=by first|exact .inl rfl|exact .inr rfl|assumption):PG X (.Name x pos) (D6 i):=by
 intro pins s σ H v u Q I r h;exact wpAny_assign_Name (NM I T hi g r (fun Y U=>⟨_,H,U,h⟩) B)
def Yh:Uz:=fun vs σ H Q=>vs=[]/\Q σ H
def Ly(t:TG)(u:Uz):Uz:=fun vs σ H Q=>∃v r,vs=v::r/\t v σ H fun g H'=>u r g H' Q
def F4:fI X [] Yh:=by
 intro pins s σ H vs us Q I r h;obtain⟨e,h⟩:=h;subst e;cases r;exact assignInOrder_nil ⟨σ,H,I,h⟩
def Bo{e:Expr}{es:sL}{t:TG}{u:Uz}(Y:PG X e t)(U:fI X es u) (T:(assignEach (e::es) X.env).map (·.2)=assign e X.env::(assignEach es X.env).map (·.2):=by rfl):fI X (e::es) (Ly t u):=by
 intro pins s σ H vs us Q I r h;obtain⟨v,vr,Z,h⟩:=h;subst Z;cases r with
 |cons r B=>
  rw[T];refine assignInOrder_cons (Bc (Y pins s σ H _ _ _ I r h) fun _ s1 ⟨g,H1,I1,q1⟩=>?_);exact U pins s1 g H1 _ _ Q I1 B q1
def Yo(K:Fg)(n:Nat)(t:Uz):TG:=fun v σ H Q=>∃a xs,v=.ref a/\BN K H a xs/\xs.length=n/\t xs σ H Q
def HE{es:sL}{k:Nat}{t:Uz}{n:Nat}(hc:X.calm=true)(h:fI X es t) (hn:(assignEach es X.env).length=n:=by rfl)(B:(assignEach es X.env).findIdx? (·.1)=none:=by rfl):PG X (.Tuple es k pos) (Yo X.K n t):=by
 intro pins s σ H v u Q I r g;obtain⟨a,xs,e1,hq,hl,g⟩:=g;subst e1;cases r;obtain⟨U,T,Z,hz⟩:=I.tuple hq;refine assign_Tuple_tuple (I.ok.hd hc) Z (by simp[hn,<-hl,T.length]) B fun h' Y=>?_;have I1:Inv X pins σ H {s with heap:=h'}:=I.kept (t':=s.toks) fun b o e=>Y b o (aK (aF e)) e;exact h pins _ σ H xs _ Q I1 (by simpa using T) g
def qJ(g B:TE)(t:YL):TG:=fun v σ H Q=>g σ H fun o Y=>B σ Y fun i U=>t o i v U fun T=>Q σ T
def Q4{o i:Expr}{to ti:TE}{t:YL}(ho:PE X o to)(hi:PE X i ti)(hs:cV X t)
 (ha:∀v,assign (.Subscript o i pos) X.env v=(do
      let ov <-holding [v] (eval o X.env)
      let iv <-holding [v,ov] (eval i X.env)
      standAt pos
      holding [v,ov,iv] (setItem ov iv v)
      release [v,ov,iv] []):=by intro _;rfl):PG X (.Subscript o i pos) (qJ to ti t):=by
  intro pins s σ H v u Q I r h
  rw[ha]
  refine Wb (aS (Bc (ho pins s σ H _ I h) fun ov s1 ⟨x,H1,I1,r1,q1⟩=>?_))
  refine Wb (aS (Bc (hi pins s1 σ H1 _ I1 q1) fun iv s2 ⟨y,H2,I2,r2,q2⟩=>?_))
  refine Wb (wpAny_standAt (Wb (aS (Bc (hs pins s2 σ H2 x y v ov iv u _ I2 r1 r2 r q2) fun _ s3 ⟨H3,I3,q3⟩=>?_))))
  exact wpAny_release ⟨σ,H3,I3,q3⟩
def SN(B:TE)(g:TG):TS:=fun D σ H=>B σ H fun x T=>g x σ T D.nx
def Ro{tg e:Expr}{B:TE}{g:TG}(he:PE X e B)(Z:PG X tg g)(Y:swapsWithSole [tg] e pos.line X.env=pure false:=by rfl)(U:swappedStores [tg] e X.env=pure none:=by rfl) (h1:(assignEach [tg] X.env).map (·.2)=[assign tg X.env]:=by rfl):PS X (.Assign [tg] e pos) (SN B g):=by
 intro pins s σ H D I h;refine wpAny_Assign_stores (Bc (he pins s σ H _ I h) fun v s1 ⟨x,H1,I1,T,q1⟩=>?_) Y U;rw[h1];exact Bc (Z pins s1 σ H1 x v _ I1 T q1) fun _ s2 q=>q
def BB{i:Nat}{x:Str}{e:Expr}{B:TE}{g:Pos}(hN:X.N.Nodup)(hi:X.N[i]? = some x)(U:Loc X.env.scope x)(he:PE X e B)(Y:swapsWith e (some (.Name x g)) pos.line X.env=pure false:=by rfl)(Z:X.fn x=true\/X.env.scope.names.lookup x=some .local:=by first|exact .inl rfl|exact .inr rfl|assumption):PS X (.Assign [.Name x g] e pos) (SN B (D6 i)):=by
 intro pins s σ H D I h;refine wpAny_Assign_Name (Bc (he pins s σ H _ I h) fun v s1 ⟨y,H1,I1,T,q1⟩=>?_) Y;exact NM I1 hN hi U T (fun s2 I2=>⟨_,H1,I2,q1⟩) Z
def qb(i j:Nat)(g:TA):TS:=fun D σ H=>g σ H fun vs B=>∃v w,vs=[v,w]/\D.nx ((σ.set i (some v)).set j (some w)) B
def lY{i j:Nat}{x y:Str}{a b:Expr}{ta:TA}{px Z pt:Pos}{kt k2 B}(hc:X.calm=true)(hN:X.N.Nodup)(hi:X.N[i]? = some x)(hj:X.N[j]? = some y)(hij:i≠j) (hx:X.env.scope.names.lookup x=some .local)(hy:X.env.scope.names.lookup y=some .local)(ha:PA X [a,b] ta) (hw:swappedStores [.Tuple [.Name x px,.Name y Z] kt pt] (.Tuple [a,b] k2 B) X.env=pure (some [x,y])) (hs:swapsWithSole [.Tuple [.Name x px,.Name y Z] kt pt] (.Tuple [a,b] k2 B) pos.line X.env=pure false:=by rfl):PS X (.Assign [.Tuple [.Name x px,.Name y Z] kt pt] (.Tuple [a,b] k2 B) pos) (qb i j ta):=by
 intro pins s σ H D I h;rw[exec_Assign_arm];refine Wb (wpAny_standAt ?_);rw[hs];refine Wb (aA ?_);rw[if_neg (by decide)];refine Wb (Tuple_ (Bc (ha _ pins s σ H _ I h) fun us s1 ⟨vs,H1,I1,r1,q1⟩=>?_));obtain⟨v,w,e1,q1⟩:=q1;subst e1;obtain⟨U,T,rfl,rv,Y⟩:∃U T,us=[U,T]/\RelV v U/\RelV w T:=by
  cases r1 with
  |cons p q=>
   cases q with
   |cons p' q'=>
    cases q';exact⟨_,_,rfl,p,p'⟩
 refine aw ?_ (by show 2<=sizeLine;decide);have I2:Inv X pins σ H1 {s1 with heap:=s1.heap.push { cls:=.type "tuple",data:=.seq [U,T].toArray} }:=I1.kept (t':=s1.toks) fun b o e=>aE _ e;rw[hw];refine Wb (aA ?_);show wpAny (model X.prog X.w) X.A (do rule "assign.swapped-stores"; let g <-unpackItems (.ref s1.heap.objs.size) 2 none;assignInOrder [fun v=>bindName X.env y v,fun v=>bindName X.env x v] g.reverse;pure Flow.next) _ _ _;refine Wb (bP (Wb (unpackItems_tuple (items:=#[U,T]) (I.ok.hd hc) (IsTup.new s1.heap _) fun h' hx'=>?_)));have I3:=I2.kept (h':=h') (t':=s1.toks) fun b o e=>hx' b o (aK (aF e)) e;show wpAny _ _ (assignInOrder [fun v=>bindName X.env y v,fun v=>bindName X.env x v] [T,U]>>=fun _=>pure Flow.next) _ _ _;refine Wb (assignInOrder_cons (wpAny_bindName (NM I3 hN hj (.inl hy) Y (fun s2 I4=>?_) (.inr hy))));refine assignInOrder_cons (wpAny_bindName (NM I4 hN hi (.inl hx) rv (fun s3 I5=>assignInOrder_nil (aA ?_)) (.inr hx)));rw[List.set_comm _ _ (Ne.symm hij)]at I5;exact⟨_,H1,I5,q1⟩
end
section
variable{X:Cx}{pos:Pos}
def Zf(c:TT)(U:TS):TS:=fun D σ H=>∃W:Nat->St->Hp->Prop,(∃m,W m σ H)/\∀m σ H,W m σ H ->
 c σ H fun b T=>if b=true then ∃N:St->Hp->Prop,(∀g H',N g H'->∃B,B<m/\W B g H')/\U {D with nx:=N,ct:=N,bk:=D.nx} σ T else D.nx σ T
def M7{c:Expr}{T:sT}{tc:TT}{tb:TS}(hp:PassesOwn (model X.prog X.w) X.A X.env X.xe)(hc:PT X c tc)(hb:LC X T tb):PS X (.While c T [] pos) (Zf tc tb):=by
 intro pins s σ H D I h;obtain⟨W,⟨m0,w0⟩,turn⟩:=h;refine wpAny_While (codeAny_whileLoop (fun n s'=>∃U H',Inv X pins U H' s'/\W n U H') ?_ m0 ⟨σ,H,I,w0⟩);rintro n s1 ⟨B,H1,I1,w1⟩;refine wpAny_passesOwn hp (Bc (hc pins s1 B H1 _ I1 (turn n B H1 w1)) fun b s2 ⟨H2,I2,q2⟩=>?_);cases b with
 |true=>
  obtain⟨N,hN,q2⟩:=q2;rw[if_pos rfl];refine wpAny_passesOwn hp (Bc (hb pins s2 B H2 _ I2 q2) fun f s3 Z=>?_);cases f with
  |next=>
   obtain⟨g,Y,I3,n3⟩:=Z;obtain⟨m',hm,w3⟩:=hN g Y n3;exact⟨m',hm,g,Y,I3,w3⟩
  |cont=>
   obtain⟨g,Y,I3,n3⟩:=Z;obtain⟨m',hm,w3⟩:=hN g Y n3;exact⟨m',hm,g,Y,I3,w3⟩
  |brk=>exact Z
  |ret v=>exact Z
 |false=>
  rw[if_neg aO];exact wpAny_execs_nil ⟨B,H2,I2,q2⟩
end
structure It where
 go:Nat->Hp->Prop
 F8:Nat->Hp->V->Hp->Prop
 stop:Nat->Hp->Prop
def L5(X:Cx)(pins:List (AD×Obj))(H:Hp)(b:AD):Prop :=
 H b=none/\b≠X.env.locals/\b ∉ X.fs/\(b∈X.ex\/X.s₀.heap.objs.size<=b)/\(∀x c,X.env.cells.lookup x=some c->c≠b)/\∀p∈X.pn++pins,p.1≠b
def Inv.Qj{X:Cx}{pins:List (AD×Obj)}{σ:St}{H H':Hp}{s:SD}{b:AD}(I:Inv X pins σ H s)(g:s.heap.objs.size<=b)(hn:H' b=none):L5 X pins H' b:=by
 refine⟨hn,Nat.ne_of_gt (aI I.lt g),I.qO g,.inr (aQ I.sz g),fun x c e z=>?_,fun p B z=>?_⟩
 .obtain⟨v,q⟩:=I.cell x c e;exact absurd (aI q.lt (by rw[z];exact g)) (Nat.lt_irrefl _)
 .exact absurd (aI (aF (I.pin p B).1) (by rw[z];exact g)) (Nat.lt_irrefl _)
structure Turn(P:Program)(w:World)(K:Fg)(tg:Expr)(J:It)(fp:List Addr)(it:Addr)(tn:Nat->Heap->Prop):Prop where
 mem:it∈fp
 obj:∀i h,tn i h->∀b∈fp,∃o,h.get? b=some o/\∀v,o.data≠.cell v
 keep:∀i h h',tn i h->(∀b∈fp,∀o,h.get? b=some o->h'.get? b=some o)->tn i h'
 item:∀(X:Cx),X.prog=P->X.w=w->X.K=K->X.calm=true->∀(i:Nat) (pins:List (Addr×Obj)) (s:Shared) (σ:St) (H:Hp) (E:Value->Shared->Prop),Inv X pins σ H s->(∀b∈fp,L5 X pins H b)->tn i s.heap->J.go i H ->
  wpAny (model P w) X.A (pyNext (.ref it)) (fun r s1=>∃u,r=some u /\
   wpAny (model P w) X.A (letOwnedTupleGo tg (.ref it) u) (fun _ s2=>∃x H',Inv X pins σ H' s2/\RelV x u/\J.F8 i H x H'/\tn (i+1) s2.heap/\∀b∈fp,H' b=none) E s1) E s
 done:∀(X:Cx),X.prog=P->X.w=w->X.K=K->X.calm=true->∀(i:Nat) (pins:List (Addr×Obj)) (s:Shared) (σ:St) (H:Hp) (E:Value->Shared->Prop),Inv X pins σ H s->(∀b∈fp,L5 X pins H b)->tn i s.heap->J.stop i H ->
  wpAny (model P w) X.A (pyNext (.ref it)) (fun r s1=>r=none/\Inv X pins σ H s1) E s
 self:∀(A:Around) (i:Nat) (s:Shared) (Q:Value->Shared->Prop) (E:Value->Shared->Prop),tn i s.heap->Q (.ref it) s->wpAny (model P w) A (pyIter (.ref it)) Q E s
abbrev TI:=St->Hp->(It->Hp->Prop)->Prop
def pF(X:Cx)(pins:List (AD×Obj))(σ:St)(tg:Expr)(R:It->Hp->Prop)(g:VL)(s2:SD):Prop :=
 ∃(it:AD) (fp:List AD) (tn:Nat->Heap->Prop) (J:It) (H':Hp),g=.ref it/\Inv X pins σ H' s2/\Turn X.prog X.w X.K tg J fp it tn/\tn 0 s2.heap/\(∀b∈fp,L5 X pins H' b)/\R J H'
def PI(X:Cx)(tg iter:Expr)(g:TI):Prop :=
 ∀(pins:List (AD×Obj)) (s:SD) (σ:St) (H:Hp) (R:It->Hp->Prop),Inv X pins σ H s->g σ H R ->
  wpAny (model X.prog X.w) X.A (eval iter X.env) (fun v s1=>wpAny (model X.prog X.w) X.A (pyIter v) (pF X pins σ tg R) X.xe s1) X.xe s
def Y9{M:Model}{A:Around}{E:sC}{s:SD}{tg:Expr}{it:AD}{u:VL}{o:Obj}{n:String}{vs:Array VL}{Q:Unit->SD->Prop}(B:s.heap.get? it=some o)(T:o.cls=.type n)(hd:o.data=.fields vs) (hn:["enumerate","zip","dict_itemiterator","dict_reverseitemiterator","odict_iterator","itertools.zip_longest","itertools.pairwise"].contains n=false)(g:Q () s):wpAny M A (letOwnedTupleGo tg (.ref it) u) Q E s:=by
 unfold letOwnedTupleGo;cases tg<;>first
  |exact aA g
  |(cases u<;>first
    |exact aA g
    |(refine Wb (wpAny_load B ?_)
      rw[T,hd];show wpAny M A (if(["enumerate","zip","dict_itemiterator","dict_reverseitemiterator","odict_iterator","itertools.zip_longest","itertools.pairwise"].contains n&&vs[0]? == some (rawInt _))=true then _ else _) Q E s;rw[if_neg (by intro h;rw[hn,Bool.false_and]at h;cases h)];exact aA g))
def W6(K:Fg)(a:AD):It :=
 ⟨fun i H=>∃xs x,Aw K H a xs/\xs[i]? = some x,fun i H x H'=>H'=H/\∀xs,Aw K H a xs->xs[i]? = some x,fun i H=>∃xs,Aw K H a xs/\xs.length<=i⟩
def Xz(K:Fg)(a:AD):It :=
 ⟨fun i H=>∃xs x,BN K H a xs/\xs[i]? = some x,fun i H x H'=>H'=H/\∀xs,BN K H a xs->xs[i]? = some x,fun i H=>∃xs,BN K H a xs/\xs.length<=i⟩
def Tf(lo:Int)(n:Nat):It:=⟨fun i _=>i<n,fun i H x H'=>H'=H/\x=.int (lo+i),fun i _=>n<=i⟩
def bo{P:Program}{w:World}{K:Fg}{tg:Expr}(a it:AD):Turn P w K tg (W6 K a) [it] it (fun i h=>h.IsListIter it a i) where
 mem:=by simp
 obj:=fun i h st b hb=>by
  have e:b=it:=by simpa using hb
  subst e;obtain⟨o,e,c,d⟩:=st;exact⟨o,e,fun v z=>by rw[d]at z;cases z⟩
 keep:=fun i h h' st k=>st.at fun o e=>k it (by simp) o e
 item:=by
  intro X hP hw hK hc i pins s σ H E I hf st hg;subst hP hw hK;obtain⟨xs,x,hq,hx⟩:=hg;obtain⟨its,rv,p,hz⟩:=I.list hq;obtain⟨u,hu,ru⟩:=rv.get hx;obtain⟨f0,f1,f2,f3,f4,f5⟩:=hf it (by simp);refine wpAny_pyNext_list_item st p.isList (x:=u) (by simpa using hu) fun h' st' sb=>?_;have I1:Inv X pins σ H {s with heap:=h'}:=I.turned (t':=s.toks) (fun b o hb e=>(sb.2 b hb).trans e) f0 f1 f3 f4 f5;obtain⟨o,e,c,d⟩:=id st';exact⟨u,rfl,Y9 (s:={s with heap:=h'}) e c d (by decide) ⟨x,H,I1,ru,⟨rfl,fun ys hy=>by rw[I.WG hy hq];exact hx⟩,st',fun b hb=>(hf b hb).1⟩⟩
 done:=by
  intro X hP hw hK hc i pins s σ H E I hf st hg;subst hP hw hK;obtain⟨xs,hq,hx⟩:=hg;obtain⟨its,rv,p,hz⟩:=I.list hq;obtain⟨f0,f1,f2,f3,f4,f5⟩:=hf it (by simp);have hl:=rv.length;exact wpAny_pyNext_list_end (I.ok.hd hc) st p.isList (by simp;lia) fun h' eb=>⟨rfl,I.turned (t':=s.toks) (fun b o hb e=>eb b o hb e) f0 f1 f3 f4 f5⟩
 self:=fun _ _ _ _ _ st h=>wpAny_pyIter_listiter st h
def Yt{P:Program}{w:World}{K:Fg}{tg:Expr}(a it:AD):Turn P w K tg (Xz K a) [it] it (fun i h=>h.IsTupleIter it a i) where
 mem:=by simp
 obj:=fun i h st b hb=>by
  have e:b=it:=by simpa using hb
  subst e;obtain⟨o,e,c,d⟩:=st;exact⟨o,e,fun v z=>by rw[d]at z;cases z⟩
 keep:=fun i h h' st k=>st.at fun o e=>k it (by simp) o e
 item:=by
  intro X hP hw hK hc i pins s σ H E I hf st hg;subst hP hw hK;obtain⟨xs,x,hq,hx⟩:=hg;obtain⟨its,rv,p,hz⟩:=I.tuple hq;obtain⟨u,hu,ru⟩:=rv.get hx;obtain⟨f0,f1,f2,f3,f4,f5⟩:=hf it (by simp);refine wpAny_pyNext_tuple_item st (show s.heap.IsTuple a its.toArray from p) (x:=u) (by simpa using hu) fun h' st' sb=>?_;have I1:Inv X pins σ H {s with heap:=h'}:=I.turned (t':=s.toks) (fun b o hb e=>(sb.2 b hb).trans e) f0 f1 f3 f4 f5;obtain⟨o,e,c,d⟩:=id st';exact⟨u,rfl,Y9 (s:={s with heap:=h'}) e c d (by decide) ⟨x,H,I1,ru,⟨rfl,fun ys hy=>by rw[I.TQ hy hq];exact hx⟩,st',fun b hb=>(hf b hb).1⟩⟩
 done:=by
  intro X hP hw hK hc i pins s σ H E I hf st hg;subst hP hw hK;obtain⟨xs,hq,hx⟩:=hg;obtain⟨its,rv,p,hz⟩:=I.tuple hq;obtain⟨f0,f1,f2,f3,f4,f5⟩:=hf it (by simp);have hl:=rv.length;exact wpAny_pyNext_tuple_end (I.ok.hd hc) st (show s.heap.IsTuple a its.toArray from p) (by simp;lia) fun h' eb=>⟨rfl,I.turned (t':=s.toks) (fun b o hb e=>eb b o hb e) f0 f1 f3 f4 f5⟩
 self:=fun _ _ _ _ _ st h=>wpAny_pyIter_tupleiter st h
def Yg{P:Program}{w:World}{K:Fg}{tg:Expr}(it:AD)(lo:Int)(n:Nat):Turn P w K tg (Tf lo n) [it] it (fun i h=>IsRangeIter h it (lo+(i:Nat)*1) ((n:Int)-(i:Nat)) 1) where
 mem:=by simp
 obj:=fun i h st b hb=>by
  have e:b=it:=by simpa using hb
  subst e;exact⟨_,st,fun v z=>by
   have z':Data.fields _=Data.cell v:=z;cases z'⟩
 keep:=fun i h h' st k=>k it (by simp) _ st
 item:=by
  intro X hP hw hK hc i pins s σ H E I hf st hg;subst hP hw hK;obtain⟨f0,f1,f2,f3,f4,f5⟩:=hf it (by simp);have W:=Walks.range (prog:=X.prog) (w:=X.w) (I.ok.hd hc) it lo 1 n;refine W.item i s _ _ hg st fun v h' tk hv st' kk=>?_;obtain⟨t,rfl⟩:=hv;have I1:Inv X pins σ H {s with heap:=h',toks:=tk}:=I.turned (fun b o hb e=>kk b o (by simpa using hb) e) f0 f1 f3 f4 f5;refine⟨_,rfl,Y9 (s:={s with heap:=h',toks:=tk}) (n := "range_iterator") st' rfl rfl (by decide) ⟨.int (lo+i),H,I1,⟨t,?_⟩,⟨rfl,rfl⟩,st',fun b hb=>(hf b hb).1⟩⟩;rw[Int.mul_one]
 done:=by
  intro X hP hw hK hc i pins s σ H E I hf st hg;subst hP hw hK;obtain⟨f0,f1,f2,f3,f4,f5⟩:=hf it (by simp);exact wpAny_pyNext_range_end (I.ok.hd hc) st (by have:n<=i:=hg;lia) fun h' eb=>⟨rfl,I.turned (t':=s.toks) (fun b o hb e=>eb b o hb e) f0 f1 f3 f4 f5⟩
 self:=fun _ _ _ _ _ st h=>wpAny_pyIter_rangeiter st h
section
variable{X:Cx}{tg:Expr}
def om(K:Fg)(B:TE):TI:=fun σ H R=>B σ H fun x g=>∃a,x=.ref a/\(∃xs,Aw K g a xs)/\R (W6 K a) g
def qh(K:Fg)(B:TE):TI:=fun σ H R=>B σ H fun x g=>∃a,x=.ref a/\(∃xs,BN K g a xs)/\R (Xz K a) g
def FH{l:Expr}{B:TE}(Z:PE X l B):PI X tg l (om X.K B):=by
 intro pins s σ H R I h;refine Bc (Z pins s σ H _ I h) fun v s1 ⟨x,H1,g,T,q1⟩=>?_;obtain⟨a,e,⟨xs,Y⟩,q⟩:=q1;subst e;cases T;obtain⟨U,rv,p,hz⟩:=g.list Y;refine wpAny_pyIter_list p.isList ?_;refine⟨s1.heap.objs.size,[s1.heap.objs.size],_,_,H1,rfl,g.kept (t':=s1.toks) fun b o e=>aE _ e,bo a _,⟨_,Heap.get?_push_size _ rfl,rfl,rfl⟩,fun b hb=>?_,q⟩;have e:b=s1.heap.objs.size:=by simpa using hb
 subst e;exact g.Qj (aG _) (g.BA.fresh (aG _))
def Ud{l:Expr}{T:TE}(Z:PE X l T):PI X tg l (qh X.K T):=by
 intro pins s σ H R I h;refine Bc (Z pins s σ H _ I h) fun v s1 ⟨x,H1,g,U,q1⟩=>?_;obtain⟨a,e,⟨xs,Y⟩,q⟩:=q1;subst e;cases U;obtain⟨B,rv,p,hz⟩:=g.tuple Y;refine wpAny_pyIter_tuple (show s1.heap.IsTuple a B.toArray from p) ?_;refine⟨s1.heap.objs.size,[s1.heap.objs.size],_,_,H1,rfl,g.kept (t':=s1.toks) fun b o e=>aE _ e,Yt a _,⟨_,Heap.get?_push_size _ rfl,rfl,rfl⟩,fun b hb=>?_,q⟩;have e:b=s1.heap.objs.size:=by simpa using hb
 subst e;exact g.Qj (aG _) (g.BA.fresh (aG _))
def Vr{pins:List (AD×Obj)}{σ:St}{H:Hp}{s:SD}{R:It->Hp->Prop}{E:sC}{lo hi:Int}{t u v:Tok}{g:Nat}(I:Inv X pins σ H s)(h1:-(2^62)<=lo)(Z:lo<2^62)(Y:-(2^62)<=hi)(U:hi<2^62) (q:R (Tf lo (hi-lo).toNat) H):wpAny (model X.prog X.w) X.A (pyIter (.ref s.heap.objs.size)) (pF X pins σ tg R) E {s with heap:=s.heap.push { cls:=.type "range",data:=.fields #[.int lo t,.int hi u,.int 1 v]},toks:=g}:=by
 refine wpAny_pyIter_range (IsRange.new ..) (small_one h1 Z Y U) ?_;have B:Inv X pins σ H {s with heap:=s.heap.push { cls:=.type "range",data:=.fields #[.int lo t,.int hi u,.int 1 v]},toks:=g}:=I.kept fun b o e=>aE _ e;refine⟨(s.heap.push { cls:=.type "range",data:=.fields #[.int lo t,.int hi u,.int 1 v]}).objs.size,[(s.heap.push { cls:=.type "range",data:=.fields #[.int lo t,.int hi u,.int 1 v]}).objs.size],_,_,H,rfl,
  B.kept (t':=g) fun b o e=>aE _ e,Yg _ lo (hi-lo).toNat,?_,fun b T=>?_,q⟩
 .have e1:lo+((0:Nat):Int)*1=lo:=by simp
  have e2:(((hi-lo).toNat:Nat):Int)-((0:Nat):Int)=Builtin.Range.rangeSize lo hi 1:=by rw[rangeSize_one];split<;>lia
  show IsRangeIter _ _ (lo+((0:Nat):Int)*1) ((((hi-lo).toNat:Nat):Int)-((0:Nat):Int)) 1;rw[e1,e2];exact aM _ rfl
 .have e:b=(s.heap.push { cls:=.type "range",data:=.fields #[.int lo t,.int hi u,.int 1 v]}).objs.size:=by simpa using T
  subst e;exact B.Qj (aG _) (B.BA.fresh (aG _))
def oK(g:TA):TI:=fun σ H R=>g σ H fun vs B=>∃j:Int,vs=[.int j]/\-(2^62)<=j/\j<2^62/\R (Tf 0 j.toNat) B
def oz(g:TA):TI:=fun σ H R=>g σ H fun vs B=>∃i j:Int,vs=[.int i,.int j]/\(-(2^62)<=i/\i<2^62/\-(2^62)<=j/\j<2^62)/\R (Tf i (j-i).toNat) B
def Ji{a:Expr}{g:TA}{p pos:Pos}(Y:Gl X "range")(hm:X.mg "range" = none)(ha:PA X [a] g)(U:starEach [a] X.env=[(false,eval a X.env)]:=by rfl):PI X tg (.Call (.Name "range" p) [a] [] pos) (oK g):=by
 intro pins s σ H R I h;refine Call_ (GV I Y hm boot_range (ah (Bc (ha pos pins s σ H _ I h) fun us s1 ⟨vs,H1,Z,T,q1⟩=>?_) U rfl));obtain⟨j,e,q1,q2,q⟩:=q1;subst e;cases T with
 |cons r B=>
  cases B;obtain⟨t,rfl⟩:=r;exact call_range_1 (Vr Z (by lia) (by lia) q1 q2 (by simpa using q))
def Z0{a b:Expr}{T:TA}{p pos:Pos}(hg:Gl X "range")(hm:X.mg "range" = none)(ha:PA X [a,b] T)(hs:starEach [a,b] X.env=[(false,eval a X.env),(false,eval b X.env)]:=by rfl)(g:starEach [b] X.env=[(false,eval b X.env)]:=by rfl):PI X tg (.Call (.Name "range" p) [a,b] [] pos) (oz T):=by
 intro pins s σ H R I h;refine Call_ (GV I hg hm boot_range (ah (Bc (ha pos pins s σ H _ I h) fun us s1 ⟨vs,H1,I1,U,q1⟩=>?_) (by rw[hs,g]) (by rw[g];rfl)));obtain⟨i,j,e,⟨q1,q2,q3,Z⟩,q⟩:=q1;subst e;cases U with
 |cons r B=>
  cases B with
  |cons Y B=>
   cases B;obtain⟨t,rfl⟩:=r;obtain⟨t',rfl⟩:=Y;exact call_range_2 (Vr I1 q1 q2 q3 Z q)
def p8(Y:TI)(g:TG)(Z:TS):TS:=fun D σ H=>Y σ H fun J H1=>∃W:Nat->Nat->St->Hp->Prop,(∃m,W 0 m σ H1)/\∀i m σ H,W i m σ H ->
 (J.stop i H/\D.nx σ H)\/(J.go i H/\∃N:St->Hp->Prop,(∀B H',N B H'->∃U,U<m/\W (i+1) U B H')/\∀x H',J.F8 i H x H'->g x σ H' fun T H2=>Z {D with nx:=N,ct:=N,bk:=D.nx} T H2)
def OW(fp:sS)(h:Heap):List (AD×Obj):=fp.filterMap fun b=>(h.get? b).map fun o=>(b,o)
def KP{fp:sS}{h:Heap}{b:AD}{o:Obj}(g:b∈fp)(e:h.get? b=some o):(b,o)∈OW fp h:=List.mem_filterMap.mpr ⟨b,g,by rw[e];rfl⟩
def cQ{fp:sS}{h:Heap}{p:AD×Obj}(g:p∈OW fp h):p.1∈fp/\h.get? p.1=some p.2:=by
 obtain⟨b,B,e⟩:=List.mem_filterMap.mp g;cases q:h.get? b with
 |none=>rw[q]at e;cases e
 |some o=>
  rw[q]at e;have T:(b,o)=p:=ar e;subst T;exact⟨B,q⟩
def Inv.pinned{pins:List (AD×Obj)}{σ:St}{H:Hp}{s:SD}{fp:sS}(I:Inv X pins σ H s)(Y:∀b∈fp,L5 X pins H b)(U:∀b∈fp,∃o,s.heap.get? b=some o/\∀v,o.data≠.cell v):Inv X (pins++OW fp s.heap) σ H s :=
 I.Xn fun p T=>(bI.mp T).elim (fun z=>I.pin p (aY _ z)) fun z=>by
  obtain⟨g,e⟩:=cQ z;obtain⟨Z,f1,f2,_⟩:=Y p.1 g;obtain⟨o,B,d⟩:=U p.1 g;rw[e]at B;cases B;exact⟨e,Z,f1,f2,d⟩
def Inv.NN{pins g:List (AD×Obj)}{σ:St}{H:Hp}{s:SD}(I:Inv X (pins++g) σ H s):Inv X pins σ H s:=I.Xn fun p B=>I.pin p (aY _ (bX _ B))
def Jm{iter:Expr}{body:sT}{wi:TI}{g:TG}{tb:TS}{pos:Pos}(hp:PassesOwn (model X.prog X.w) X.A X.env X.xe)(hc:X.calm=true)(hi:PI X tg iter wi)(hg:PG X tg g)(hb:LC X body tb) (hs:∀x,foldedSetIterable iter X.env x=pure x:=by intro _;rfl):PS X (.For tg iter body [] pos) (p8 wi g tb):=by
 intro pins s σ H D I h;refine wpAny_For (Bc (hi pins s σ H _ I h) fun v s1 h1=>Bc h1 fun itv s2 h2=>?_) hs;obtain⟨it,fp,tn,J,H2,e,I2,T,st2,f2,W,⟨m0,w0⟩,turn⟩:=h2;subst e;have Z:∀ {H':Hp},(∀b∈fp,H' b=none)->∀b∈fp,L5 X pins H' b:=fun hn b hb=>⟨hn b hb,(f2 b hb).2⟩;refine codeAny_forLoop_any (fun n s'=>∃i Y H',Inv X pins Y H' s'/\tn i s'.heap/\(∀b∈fp,H' b=none)/\W i n Y H') ?_ m0 ⟨0,σ,H2,I2,st2,fun b hb=>(f2 b hb).1,w0⟩;rintro n s3 ⟨i,U,H3,I3,st3,fr3,w3⟩;rcases turn i n U H3 w3 with ⟨stop,qn⟩|⟨go,N,hN,step⟩
 .refine wpAny_passesOwn hp (Bc (T.done X rfl rfl rfl hc i pins s3 U H3 X.xe I3 (Z fr3) st3 stop) fun r s4 ⟨hr,I4⟩=>?_);subst hr;exact wpAny_execs_nil ⟨U,H3,I4,qn⟩
 .refine wpAny_passesOwn hp (Bc (T.item X rfl rfl rfl hc i pins s3 U H3 X.xe I3 (Z fr3) st3 go) fun r s4 ⟨u,hr,h4⟩=>?_);subst hr;refine wpAny_passesOwn hp (Bc h4 fun _ s5 ⟨x,H5,I5,r5,y5,st5,fr5⟩=>?_);have I5':=I5.pinned (Z fr5) (T.obj _ _ st5);refine wpAny_passesOwn hp (Bc (hg _ s5 U H5 x u _ I5' r5 (step x H5 y5)) fun _ s6 ⟨σ6,H6,I6,q6⟩=>?_);refine wpAny_passesOwn hp (Bc (hb _ s6 σ6 H6 _ I6 q6) fun f s7 q7=>?_);have again:∀ {B:St} {H7:Hp},Inv X (pins++OW fp s5.heap) B H7 s7->N B H7->∃m,m<n/\∃i Y H',Inv X pins Y H' s7/\tn i s7.heap/\(∀b∈fp,H' b=none)/\W i m Y H':=fun {B H7} I7 n7=>by
   obtain⟨m',hm,w7⟩:=hN B H7 n7;refine⟨m',hm,i+1,B,H7,I7.NN,T.keep _ _ _ st5 fun b hb o e=>(I7.pin (b,o) (aY _ (aY _ (KP hb e)))).1,fun b hb=>?_,w7⟩;obtain⟨o,e,d⟩:=T.obj _ _ st5 b hb;exact(I7.pin (b,o) (aY _ (aY _ (KP hb e)))).2.1
  cases f with
  |next=>obtain⟨B,H7,I7,n7⟩:=q7;exact again I7 n7
  |cont=>obtain⟨B,H7,I7,n7⟩:=q7;exact again I7 n7
  |brk=>obtain⟨B,H7,I7,q7⟩:=q7;exact⟨B,H7,I7.NN,q7⟩
  |ret v=>obtain⟨x7,B,H7,I7,r7,q7⟩:=q7;exact⟨x7,B,H7,I7.NN,r7,q7⟩
end
def NC{K:Fg}{a:AD}{xs:sQ}{g:TG}{Z:TS}{D:Ends}{σ:St}{H:Hp}(Pv:Nat->St->Hp->Prop)(h0:Pv 0 σ H)(hl:∀i σ H,i<=xs.length->Pv i σ H->Aw K H a xs) (hs:∀i x σ H,xs[i]? = some x->Pv i σ H->g x σ H fun B Y=>Z {D with nx:=Pv (i+1),ct:=Pv (i+1),bk:=D.nx} B Y)(hd:∀σ H,Pv xs.length σ H->D.nx σ H):∃W:Nat->Nat->St->Hp->Prop,(∃m,W 0 m σ H)/\∀i m σ H,W i m σ H ->((W6 K a).stop i H/\D.nx σ H)\/((W6 K a).go i H/\∃N:St->Hp->Prop,(∀T H',N T H'->∃m',m'<m/\W (i+1) m' T H')/\∀x H',(W6 K a).F8 i H x H'->g x σ H' fun B Y=>Z {D with nx:=N,ct:=N,bk:=D.nx} B Y):=by
 refine⟨fun i m σ H=>m=xs.length-i/\i<=xs.length/\Pv i σ H,⟨xs.length,by simp,Nat.zero_le _,h0⟩,?_⟩;rintro i m σ H ⟨rfl,hi,p⟩;have q:=hl i σ H hi p;by_cases U:i<xs.length
 .refine .inr ⟨⟨xs,xs[i],q,by simp[U]⟩,Pv (i+1),fun T H' p'=>⟨xs.length-(i+1),by lia,rfl,U,p'⟩,fun x H' y=>?_⟩;obtain⟨e,y⟩:=y;subst e;exact hs i x σ _ (y xs q) p
 .have e:i=xs.length:=by lia
  subst e;exact .inl ⟨⟨xs,q,Nat.le_refl _⟩,hd σ H p⟩
def gF{K:Fg}{a:AD}{xs:sQ}{g:TG}{Z:TS}{D:Ends}{σ:St}{H:Hp}(Pv:Nat->St->Hp->Prop)(h0:Pv 0 σ H)(hl:∀i σ H,i<=xs.length->Pv i σ H->BN K H a xs) (hs:∀i x σ H,xs[i]? = some x->Pv i σ H->g x σ H fun B Y=>Z {D with nx:=Pv (i+1),ct:=Pv (i+1),bk:=D.nx} B Y)(hd:∀σ H,Pv xs.length σ H->D.nx σ H):∃W:Nat->Nat->St->Hp->Prop,(∃m,W 0 m σ H)/\∀i m σ H,W i m σ H ->((Xz K a).stop i H/\D.nx σ H)\/((Xz K a).go i H/\∃N:St->Hp->Prop,(∀T H',N T H'->∃m',m'<m/\W (i+1) m' T H')/\∀x H',(Xz K a).F8 i H x H'->g x σ H' fun B Y=>Z {D with nx:=N,ct:=N,bk:=D.nx} B Y):=by
 refine⟨fun i m σ H=>m=xs.length-i/\i<=xs.length/\Pv i σ H,⟨xs.length,by simp,Nat.zero_le _,h0⟩,?_⟩;rintro i m σ H ⟨rfl,hi,p⟩;have q:=hl i σ H hi p;by_cases U:i<xs.length
 .refine .inr ⟨⟨xs,xs[i],q,by simp[U]⟩,Pv (i+1),fun T H' p'=>⟨xs.length-(i+1),by lia,rfl,U,p'⟩,fun x H' y=>?_⟩;obtain⟨e,y⟩:=y;subst e;exact hs i x σ _ (y xs q) p
 .have e:i=xs.length:=by lia
  subst e;exact .inl ⟨⟨xs,q,Nat.le_refl _⟩,hd σ H p⟩
def TJ{lo:Int}{n:Nat}{g:TG}{Z:TS}{D:Ends}{σ:St}{H:Hp}(Pv:Nat->St->Hp->Prop)(h0:Pv 0 σ H) (hs:∀i σ H,i<n->Pv i σ H->g (.int (lo+i)) σ H fun B Y=>Z {D with nx:=Pv (i+1),ct:=Pv (i+1),bk:=D.nx} B Y)(hd:∀σ H,Pv n σ H->D.nx σ H):∃W:Nat->Nat->St->Hp->Prop,(∃m,W 0 m σ H)/\∀i m σ H,W i m σ H ->((Tf lo n).stop i H/\D.nx σ H)\/((Tf lo n).go i H/\∃N:St->Hp->Prop,(∀T H',N T H'->∃m',m'<m/\W (i+1) m' T H')/\∀x H',(Tf lo n).F8 i H x H'->g x σ H' fun B Y=>Z {D with nx:=N,ct:=N,bk:=D.nx} B Y):=by
 refine⟨fun i m σ H=>m=n-i/\i<=n/\Pv i σ H,⟨n,by simp,Nat.zero_le _,h0⟩,?_⟩;rintro i m σ H ⟨rfl,hi,p⟩;by_cases U:i<n
 .refine .inr ⟨U,Pv (i+1),fun T H' p'=>⟨n-(i+1),by lia,rfl,U,p'⟩,fun x H' y=>?_⟩;obtain⟨e,y⟩:=y;subst e y;exact hs i σ _ U p
 .have e:i=n:=by lia
  subst e;exact .inl ⟨aG _,hd σ H p⟩
def QO{c:TT}{U:TS}{D:Ends}{σ:St}{H:Hp}(Pv:St->Hp->Prop)(T:St->Hp->Nat)(h0:Pv σ H) (hs:∀σ H,Pv σ H->c σ H fun b B=>if b=true then U {D with nx:=fun g H'=>Pv g H'/\T g H'<T σ H,ct:=fun g H'=>Pv g H'/\T g H'<T σ H,bk:=D.nx} σ B else D.nx σ B) (mono:∀σ H Q Y,(∀b B,Q b B->Y b B)->c σ H Q->c σ H Y):Zf c U D σ H:=by
 refine⟨fun m σ H=>m=T σ H/\Pv σ H,⟨_,rfl,h0⟩,?_⟩;rintro m σ H ⟨rfl,p⟩;refine mono σ H _ _ (fun b B q=>?_) (hs σ H p);cases b with
 |true=>exact⟨_,fun g H' ⟨Z,l⟩=>⟨_,l,rfl,Z⟩,q⟩
 |false=>exact q
abbrev R2:=V->V->Hp->VK->Prop
def DC(X:Cx)(f:VL->VL->Sem VL)(r:R2):Prop :=
 ∀(pins:List (AD×Obj)) (s:SD) (σ:St) (H:Hp) (x y:V) (v u:VL) (Q:VK),Inv X pins σ H s->RelV x v->RelV y u->r x y H Q ->
  wpAny (model X.prog X.w) X.A (f v u) (EP X pins σ Q) X.xe s
def my(X:Cx)(f:VL->Sem VL)(r:V->Hp->VK->Prop):Prop :=
 ∀(pins:List (AD×Obj)) (s:SD) (σ:St) (H:Hp) (x:V) (v:VL) (Q:VK),Inv X pins σ H s->RelV x v->r x H Q ->
  wpAny (model X.prog X.w) X.A (f v) (EP X pins σ Q) X.xe s
def Ey(X:Cx)(f:VL)(r:List V->Hp->VK->Prop):Prop :=
 ∀(pins:List (AD×Obj)) (s:SD) (σ:St) (H:Hp) (xs:List V) (us:List VL) (Q:VK),Inv X pins σ H s->Vals xs us->r xs H Q ->
  wpAny (model X.prog X.w) X.A (call f us) (EP X pins σ Q) X.xe s
def Zg(r:R2)(B g:TE):TE:=fun σ H Q=>B σ H fun x U=>g σ U fun y T=>r x y T Q
def rB(r:V->Hp->VK->Prop)(g:TE):TE:=fun σ H Q=>g σ H fun x B=>r x B Q
def rI(C:Int->Int->Prop)(g:Int->Int->V):R2:=fun x y H Q=>∃i j,x=.int i/\y=.int j/\C i j/\Q (g i j) H
def Tj(g:Int->Int->V):R2:=fun x y H Q=>∃i j,x=.int i/\y=.int j/\Q (g i j) H
def rU(g:Int->V):V->Hp->VK->Prop:=fun x H Q=>∃i,x=.int i/\Q (g i) H
section
variable{X:Cx}{a b:Expr}{ta tb:TE}{pos:Pos}
def cW(ha:PE X a ta)(hb:PE X b tb){pins:List (AD×Obj)}{s:SD}{σ:St}{H:Hp}{R:V->V->Hp->Prop}(I:Inv X pins σ H s) (h:ta σ H fun x U=>tb σ U fun y g=>R x y g){Q:sC}{f:VL->VL->Sem VL} (hf:∀v u s2 x y g,Inv X pins σ g s2->RelV x v->RelV y u->R x y g->wpAny (model X.prog X.w) X.A (f v u) Q X.xe s2):wpAny (model X.prog X.w) X.A (eval a X.env) (fun v T=>wpAny (model X.prog X.w) X.A (eval b X.env) (fun u B=>wpAny (model X.prog X.w) X.A (f v u) Q X.xe B) X.xe T) X.xe s:=by
 refine Bc (ha pins s σ H _ I h) fun v s1 ⟨x,U,I1,Z,q1⟩=>?_;refine Bc (hb pins s1 σ U _ I1 q1) fun u s2 ⟨y,g,I2,Y,q2⟩=>?_;exact hf v u s2 x y g I2 Z Y q2
def Ar{op:Operator}{r:R2}(T:DC X (binaryOp op) r)(ha:PE X a ta)(U:PE X b tb):PE X (.BinOp a op b pos) (Zg r ta tb):=by
 intro pins s σ H Q I h;exact wpAny_BinOp (cW ha U I h fun v u s2 x y Z Y B g q=>T pins s2 σ Z x y v u Q Y B g q)
def Y4{op:UnaryOp}{r:V->Hp->VK->Prop}(B:my X (unaryOp op) r)(ha:PE X a ta):PE X (.UnaryOp op a pos) (rB r ta):=by
 intro pins s σ H Q I h;exact UnaryOp_ (Bc (ha pins s σ H _ I h) fun v s1 ⟨x,U,T,g,q1⟩=>B pins s1 σ U x v Q T g q1)
def X2{f:VL->VL->Sem VL}{C:Int->Int->Prop}{g:Int->Int->Int} (rule:∀(i j:Int) (t u:Tok) (s:SD) (Q:sC) (E:sC),C i j->Q (.int (g i j) s.toks) {s with toks:=s.toks+1}->wpAny (model X.prog X.w) X.A (f (.int i t) (.int j u)) Q E s):DC X f (rI C fun i j=>.int (g i j)):=by
 intro pins s σ H x y v u Q I U T h;obtain⟨i,j,rfl,rfl,Y,q⟩:=h;obtain⟨t,rfl⟩:=U;obtain⟨B,rfl⟩:=T;exact rule i j t B s _ _ Y ⟨.int (g i j),H,I.tok _,⟨_,rfl⟩,q⟩
def jL{f:VL->VL->Sem VL}{g:Int->Int->Int} (rule:∀(i j:Int) (t u:Tok) (s:SD) (Q:sC) (E:sC),Q (.int (g i j) s.toks) {s with toks:=s.toks+1}->wpAny (model X.prog X.w) X.A (f (.int i t) (.int j u)) Q E s):DC X f (Tj fun i j=>.int (g i j)):=by
 intro pins s σ H x y v u Q I U T h;obtain⟨i,j,rfl,rfl,q⟩:=h;obtain⟨t,rfl⟩:=U;obtain⟨B,rfl⟩:=T;exact rule i j t B s _ _ ⟨.int (g i j),H,I.tok _,⟨_,rfl⟩,q⟩
def eU{f:VL->VL->Sem VL}{g:Int->Int->Bool} (rule:∀(i j:Int) (t u:Tok) (s:SD) (Q:sC) (E:sC),Q (.bool (g i j)) s->wpAny (model X.prog X.w) X.A (f (.int i t) (.int j u)) Q E s):DC X f (Tj fun i j=>.bl (g i j)):=by
 intro pins s σ H x y v u Q I U T h;obtain⟨i,j,rfl,rfl,q⟩:=h;obtain⟨t,rfl⟩:=U;obtain⟨B,rfl⟩:=T;exact rule i j t B s _ _ ⟨.bl (g i j),H,I,rfl,q⟩
def qD(i j:Int):Prop:=0<j/\j<1073741824
def qF(i j:Int):Prop:=0<=j/\j<=1000000/\i.natAbs<2^64
def Qn(i j:Int):Prop:=(-(2^64)<i/\i<2^64)\/(-(2^64)<j/\j<2^64)
def Qn.ok{i j:Int}(h:Qn i j):IntMulOk i j:=by
 rcases h with ⟨B,g⟩|⟨B,g⟩
 .exact .of_left (intBits_le_64 B g)
 .exact .of_right (intBits_le_64 B g)
def FY:DC X (binaryOp .Add) (Tj fun i j=>.int (i+j)):=jL fun _ _ _ _ _ _ _ q=>add_int q
def Q8:DC X (binaryOp .Sub) (Tj fun i j=>.int (i-j)):=jL fun _ _ _ _ _ _ _ q=>sub_int q
def JK:DC X (binaryOp .FloorDiv) (rI qD fun i j=>.int (i / j)):=X2 fun i j _ _ _ _ _ g q=>by
 have T:(0:Int)<j:=g.1;have B:j<1073741824:=g.2;exact floordiv_int (by lia) (by rw[Int.fdiv_eq_ediv_of_nonneg i (by lia)];exact q) (.inl (PyProof.noPylong_small (by lia)))
def Ii:DC X (binaryOp .Mod) (rI (fun _ j=>0<j) fun i j=>.int (i % j)):=X2 fun i j _ _ _ _ _ g q=>by
 have B:(0:Int)<j:=g;exact mod_int' (by lia) (by rw[Int.fmod_eq_emod_of_nonneg i (by lia)];exact q)
def Kf:DC X (binaryOp .Mod) (rI (fun _ j=>j≠0) fun i j=>.int (i.fmod j)):=X2 fun _ _ _ _ _ _ _ g q=>mod_int' g q
def Ux:DC X (binaryOp .Pow) (rI qF fun i j=>.int (i^j.toNat)):=X2 fun _ _ _ _ _ _ _ g q=>pow_int_small g.1 g.2.1 g.2.2 q
def q9{f:VL->Sem VL}{g:Int->Int} (rule:∀(i:Int) (t:Tok) (s:SD) (Q:sC) (E:sC),Q (.int (g i) s.toks) {s with toks:=s.toks+1}->wpAny (model X.prog X.w) X.A (f (.int i t)) Q E s):my X f (rU fun i=>.int (g i)):=by
 intro pins s σ H x v Q I B h;obtain⟨i,rfl,q⟩:=h;obtain⟨t,rfl⟩:=B;exact rule i t s _ _ ⟨.int (g i),H,I.tok _,⟨_,rfl⟩,q⟩
def VZ:my X (unaryOp .USub) (rU fun i=>.int (-i)):=q9 fun _ _ _ _ _ q=>neg_int q
end
def k9:V->V->Bool
 |.B4,.B4=>true|.B4,.int _=>true|.int _,.B4=>true|.B4,.bl _=>true|.bl _,.B4=>true|.B4,.str _=>true|.str _,.B4=>true
 |.int _,.int _=>true|.bl _,.bl _=>true|.str _,.str _=>true|.OH _,.OH _=>true
 |.int _,.str _=>true|.str _,.int _=>true|.bl _,.str _=>true|.str _,.bl _=>true
 |_,_=>false
def rJ:R2:=fun x y H Q=>k9 x y=true/\Q (.bl (decide (x=y))) H
def rA:R2:=fun x y H Q=>k9 x y=true/\Q (.bl (!decide (x=y))) H
def XQ{i j:Int}:decide (V.int i=V.int j)=(i==j):=by
 rw[Bool.eq_iff_iff];simp
def cI{i j:Bool}:decide (V.bl i=V.bl j)=(i==j):=by
 rw[Bool.eq_iff_iff];simp
def Xl{i j:Str}:decide (V.str i=V.str j)=(i==j):=by
 rw[Bool.eq_iff_iff];simp
def Xe{i j:Array UInt8}:decide (V.OH i=V.OH j)=(i.toList==j.toList):=by
 rw[Bool.eq_iff_iff];cases i;cases j;simp
section
variable{X:Cx}{a b c:Expr}{ta tb:TE}{pos:Pos}
def Bb{pins:List (AD×Obj)}{σ:St}{H:Hp}{s:SD}{Q:VK}{k g:Bool}(I:Inv X pins σ H s)(q:Q (.bl k) H)(e:k=g):EP X pins σ Q (.bool g) s:=by
 subst e;exact⟨.bl k,H,I,rfl,q⟩
def Qp:DC X (compareOp .Eq) rJ:=by
 intro pins s σ H x y v u Q I U g h;obtain⟨T,q⟩:=h;cases x with
 |B4=>
  cases U;cases y with
  |B4=>cases g;exact PySem.EqNone.eq_none_none (Bb I q (by simp))
  |bl j=>cases g;exact PySem.EqNone.eq_none_bool (Bb I q (by simp))
  |int j=>obtain⟨B,rfl⟩:=g;exact PySem.EqNone.eq_none_int (Bb I q (by simp))
  |str j=>obtain⟨B,rfl⟩:=g;exact PySem.EqNone.eq_none_str (Bb I q (by simp))
  |_=>exact absurd (show false=true from T) aO
 |bl i=>
  cases U;cases y with
  |B4=>cases g;exact PySem.EqNone.eq_bool_none (Bb I q (by simp))
  |bl j=>cases g;exact eq_bool (Bb I q cI)
  |str j=>obtain⟨B,rfl⟩:=g;exact PySem.EqMixed.eq_bool_str (Bb I q (by simp))
  |_=>exact absurd (show false=true from T) aO
 |int i=>
  obtain⟨t,rfl⟩:=U;cases y with
  |B4=>cases g;exact PySem.EqNone.eq_int_none (Bb I q (by simp))
  |int j=>obtain⟨B,rfl⟩:=g;exact eq_int (Bb I q XQ)
  |str j=>obtain⟨B,rfl⟩:=g;exact PySem.EqMixed.eq_int_str (Bb I q (by simp))
  |_=>exact absurd (show false=true from T) aO
 |str i=>
  obtain⟨t,rfl⟩:=U;cases y with
  |B4=>cases g;exact PySem.EqNone.eq_str_none (Bb I q (by simp))
  |bl j=>cases g;exact PySem.EqMixed.eq_str_bool (Bb I q (by simp))
  |int j=>obtain⟨B,rfl⟩:=g;exact PySem.EqMixed.eq_str_int (Bb I q (by simp))
  |str j=>obtain⟨B,rfl⟩:=g;exact eq_str (Bb I q Xl)
  |_=>exact absurd (show false=true from T) aO
 |OH i=>
  obtain⟨t,rfl⟩:=U;cases y with
  |OH j=>obtain⟨B,rfl⟩:=g;exact PySem.W.eq_bytes (Bb I q Xe)
  |_=>exact absurd (show false=true from T) aO
 |_=>cases y<;>exact absurd (show false=true from T) aO
def fR:DC X (compareOp .NotEq) rA:=by
 intro pins s σ H x y v u Q I U g h;obtain⟨T,q⟩:=h;cases x with
 |B4=>
  cases U;cases y with
  |B4=>cases g;exact PySem.EqNone.ne_none_none (Bb I q (by simp))
  |bl j=>cases g;exact PySem.EqNone.ne_none_bool (Bb I q (by simp))
  |int j=>obtain⟨B,rfl⟩:=g;exact PySem.EqNone.ne_none_int (Bb I q (by simp))
  |str j=>obtain⟨B,rfl⟩:=g;exact PySem.EqNone.ne_none_str (Bb I q (by simp))
  |_=>exact absurd (show false=true from T) aO
 |bl i=>
  cases U;cases y with
  |B4=>cases g;exact PySem.EqNone.ne_bool_none (Bb I q (by simp))
  |bl j=>cases g;exact ne_bool (Bb I q (bL not cI))
  |str j=>obtain⟨B,rfl⟩:=g;exact PySem.EqMixed.ne_bool_str (Bb I q (by simp))
  |_=>exact absurd (show false=true from T) aO
 |int i=>
  obtain⟨t,rfl⟩:=U;cases y with
  |B4=>cases g;exact PySem.EqNone.ne_int_none (Bb I q (by simp))
  |int j=>obtain⟨B,rfl⟩:=g;exact ne_int (Bb I q (bL not XQ))
  |str j=>obtain⟨B,rfl⟩:=g;exact PySem.EqMixed.ne_int_str (Bb I q (by simp))
  |_=>exact absurd (show false=true from T) aO
 |str i=>
  obtain⟨t,rfl⟩:=U;cases y with
  |B4=>cases g;exact PySem.EqNone.ne_str_none (Bb I q (by simp))
  |bl j=>cases g;exact PySem.EqMixed.ne_str_bool (Bb I q (by simp))
  |int j=>obtain⟨B,rfl⟩:=g;exact PySem.EqMixed.ne_str_int (Bb I q (by simp))
  |str j=>obtain⟨B,rfl⟩:=g;exact ne_str (Bb I q (bL not Xl))
  |_=>exact absurd (show false=true from T) aO
 |OH i=>
  obtain⟨t,rfl⟩:=U;cases y with
  |OH j=>obtain⟨B,rfl⟩:=g;exact PySem.W.ne_bytes (Bb I q (bL not Xe))
  |_=>exact absurd (show false=true from T) aO
 |_=>cases y<;>exact absurd (show false=true from T) aO
def UY:DC X (compareOp .Lt) (Tj fun i j=>.bl (decide (i<j))):=eU fun _ _ _ _ _ _ _ q=>lt_int q
def UT:DC X (compareOp .Gt) (Tj fun i j=>.bl (decide (j<i))):=eU fun _ _ _ _ _ _ _ q=>gt_int q
def fx:DC X (compareOp .GtE) (Tj fun i j=>.bl (decide (j<=i))):=eU fun _ _ _ _ _ _ _ q=>ge_int q
def jK:DC X (compareOp .Is) (fun x y H Q=>y=.B4/\Q (.bl (decide (x=.B4))) H):=by
 intro pins s σ H x y v u Q I g B h;obtain⟨rfl,q⟩:=h;cases B;refine is_none_gen (Bb I q ?_);cases x<;>first
  |(cases g;rfl)
  |(obtain⟨t,rfl⟩:=g;rfl)
def gR:DC X (compareOp .IsNot) (fun x y H Q=>y=.B4/\Q (.bl (!decide (x=.B4))) H):=by
 intro pins s σ H x y v u Q I g B h;obtain⟨rfl,q⟩:=h;cases B;refine isnot_none_gen (Bb I q ?_);cases x<;>first
  |(cases g;rfl)
  |(obtain⟨t,rfl⟩:=g;rfl)
def DC.or{f:VL->VL->Sem VL}{r T:R2}(h:DC X f r)(h':DC X f T):DC X f (fun x y H Q=>r x y H Q\/T x y H Q):=by
 intro pins s σ H x y v u Q I B g q;rcases q with q|q
 .exact h pins s σ H x y v u Q I B g q
 .exact h' pins s σ H x y v u Q I B g q
def Ak(b:Expr){op:CmpOp}(h:op≠.In:=by decide)(g:op≠.NotIn:=by decide):behindInMarks op b=false:=by
 have T:(op==CmpOp.In)=false:=by cases op<;>first|rfl|exact absurd rfl h
 have B:(op==CmpOp.NotIn)=false:=by cases op<;>first|rfl|exact absurd rfl g
 cases b<;>simp[behindInMarks,T,B]
def ib{op:CmpOp}{r:R2}(T:DC X (compareOp op) r)(ha:PE X a ta)(U:PE X b tb)(hm:behindInMarks op b=false):PE X (.Compare a [op] [b] pos) (Zg r ta tb):=by
 intro pins s σ H Q I h;exact wpAny_Compare1 (cW ha U I h fun v u s2 x y Z Y B g q=>T pins s2 σ Z x y v u Q Y B g q) hm
def oH(t:TE):TT:=fun σ H Q=>t σ H fun x H'=>∃k,x=.bl k/\Q k H'
def Dd{op:CmpOp}{r:R2}(Y:DC X (compareOp op) r)(ha:PE X a ta)(Z:PE X b tb)(hm:behindInMarks op b=false):PT X (.Compare a [op] [b] pos) (oH (Zg r ta tb)):=by
 intro pins s σ H Q I h;refine wpAny_isTrue_Compare1 (Bc (ha pins s σ H _ I h) fun v s1 ⟨x,H1,I1,T,q1⟩=>Bc (Z pins s1 σ H1 _ I1 q1) fun u s2 ⟨y,H2,I2,B,q2⟩=>
  Bc (Y pins s2 σ H2 x y v u _ I2 T B q2) fun c s3 ⟨z,H3,I3,g,k,e,U⟩=>?_) hm
 subst e;cases g;exact ba ⟨H3,I3,U⟩
def OC:(sizeLine:Nat)<2^63:=by rw[sizeLine_eq];decide
def YM:DC X (binaryOp .Add) (fun x y H Q=>∃i j,x=.str i/\y=.str j/\i.length+j.length<=sizeLine/\Q (.str (i++j)) H):=by
 intro pins s σ H x y v u Q I T B h;obtain⟨i,j,rfl,rfl,U,q⟩:=h;obtain⟨t,rfl⟩:=T;obtain⟨g,rfl⟩:=B;exact add_str (fun g Y=>⟨.str (i++j),H,I.tok _,⟨_,rfl⟩,q⟩) U
def vals1{x:V}{us:rz}(r:Vals [x] us):∃u,us=[u]/\RelV x u:=by
 cases r with
 |cons B g=>cases g;exact⟨_,rfl,B⟩
def QK:Ey X (.builtin "abs") (fun xs H Q=>∃i,xs=[.int i]/\Q (.int (if i<0 then -i else i)) H):=by
 intro pins s σ H xs us Q I r h;obtain⟨i,rfl,q⟩:=h;obtain⟨u,rfl,t,rfl⟩:=vals1 r;exact call_abs_int fun u g=>⟨.int (if i<0 then -i else i),H,I.tok _,⟨_,rfl⟩,q⟩
end
structure dH(h:Heap)(x dx C:Addr)(mA:Str->Option Value):Prop where
 obj:h.get? x=some (PySem.W.instObj C dx)
 ns:h.Ns1 dx mA
 ne:dx≠x
def Z6{h:Heap}{dx:AD}{mA:sD}(n:h.Ns1 dx mA):∃od,h.get? dx=some od/\∀name,PySem.W.lookIn name od=some (mA name):=by
 obtain⟨o,es,ep,T,hd,U,_,hm⟩:=n;refine⟨o,T,fun name=>?_⟩;have e:=hm name;unfold nsFind findBy at e;rw[<-Array.find?_toList]at e;unfold PySem.W.lookIn;rw[hd];dsimp only;split
 .rename_i y q;rw[q]at e;exact bL some e
 .rename_i q;rw[q]at e;have a:es.toList.any (·.refKey)=false:=by
   rw[List.any_eq_false];intro y B;obtain⟨z,t,g⟩:=U y (Array.mem_toList_iff.mp B);simp[DictEntry.refKey,g]
  have Y:¬es.toList.any (·.refKey)=true:=by rw[a];exact aO
  rw[if_neg Y];exact bL some e
def dH.look{h:Heap}{x dx C:AD}{mA:sD}(I:dH h x dx C mA):∃od,PySem.W.InstAt h x (PySem.W.instObj C dx) C (some od)/\∀name,PySem.W.lookIn name od=some (mA name) :=
 let⟨od,g,B⟩:=Z6 I.ns
 ⟨od,⟨I.obj,rfl,rfl,g⟩,B⟩
section
variable{P:Program}{w:World}{H:Hp}{h:Heap}{a C dx:AD}{fs:List (Str×V)}
def gq(BA:Fq P w H h)(e:H a=some (.ins C dx fs)):∃mA,dH h a dx C mA/\(∀f,eD (fs.lookup f) (mA f))/\PySem.Within mA (fs.map (·.1))/\fs.length<=1000/\H dx=some (.own a):=by
 obtain⟨d,z,ne,ob,mA,n,r,q⟩:=(show Dj P w H h a (.ins C dx fs) from BA a _ e);exact⟨mA,⟨ob,n,ne⟩,r,q,z,d⟩
end
structure jH(K:Fg)(C:Addr):Prop where
 pg:PySem.W.plainGet K C Str.empty=true
 hd:PySem.W.hasDictIn K C=true
 po:PySem.W.plainOver K C=true
 sa:PySem.W.findIn K (.ref C) "__setattr__" = some (some (.builtin "object.__setattr__"))
def jH.get{K:Fg}{C:AD}(c:jH K C)(f:Str):PySem.W.plainGet K C f=true:=c.pg
section
variable{X:Cx}{pins:List (AD×Obj)}{σ:St}{H:Hp}{s:SD}{A:Around}{E:sC}{Q:sC}{c:VL}{b:Bool}
inductive Il(K:Fg)(H:Hp):V->Value->Prop where
 |B4:Il K H .B4 (.type "NoneType")
 |bl (x:Bool):Il K H (.bl x) (.type "bool")
 |int (i:Int):Il K H (.int i) (.type "int")
 |str (x:Str):Il K H (.str x) (.type "str")
 |Xo (x:UInt64):Il K H (.Xo x) (.type "float")
 |lst {a:Addr} {xs:List V} (e:H a=some (.lst xs)):Il K H (.ref a) (.type "list")
 |Hf {a:Addr} {o:Obj} {xs:List V} (e:H a=some (.Hf o (.lst xs))):Il K H (.ref a) (.type "list")
 |tup {a:Addr} {xs:List V} (e:H a=some (.tup xs)):Il K H (.ref a) (.type "tuple")
 |dK {a:Addr} {kvs:List (Key×V)} (e:H a=some (.dK kvs)):Il K H (.ref a) (.type "dict")
 |dT {a:Addr} {kvs:List (List Key×V)} (e:H a=some (.dT kvs)):Il K H (.ref a) (.type "dict")
 |ins {a C dx:Addr} {fs:List (Str×V)} (e:H a=some (.ins C dx fs)) (cl:jH K C) (ha:PySem.W.findIn K (.ref C) "__class__" = some (some (.builtin "object.__class__")))
   (hn:PySem.W.specialIn K (.builtin "object.__class__") "__get__" = some (some (.builtin "getset_descriptor.__get__"))) (htk:PySem.W.takesIn K (.builtin "object.__class__")=some true)
   (hm:PySem.W.mroIn K C (.type "object")=some true):Il K H (.ref a) (.ref C)
def ZU{x:V}{u t:VL}(I:Inv X pins σ H s)(g:RelV x u)(ty:Il X.K H x t)(e:PySem.W.kitOne X.K t c=some b)(h:∀Y,Q (.bool b) {s with toks:=Y}):wpAny (model X.prog X.w) A (call (.builtin "isinstance") [u,c]) Q E s:=by
 cases ty with
 |B4=>cases (show u=Value.none from g);exact bJ PySem.W.kitx_none I.Jp True.intro e (fun z=>nomatch z) h
 |bl y=>cases (show u=Value.bool y from g);exact bJ PySem.W.kitx_bool I.Jp True.intro e (fun z=>nomatch z) h
 |int i=>obtain⟨t,q⟩:=(show ∃t,u=Value.int i t from g);cases q;exact bJ PySem.W.kitx_int I.Jp True.intro e (fun z=>nomatch z) h
 |str y=>obtain⟨t,q⟩:=(show ∃t,u=Value.str y t from g);cases q;exact bJ PySem.W.kitx_str I.Jp True.intro e (fun z=>nomatch z) h
 |Xo y=>obtain⟨t,q⟩:=(show ∃t,u=Value.float y t from g);cases q;exact bJ PySem.W.kitx_float I.Jp True.intro e (fun z=>nomatch z) h
 | @lst a xs B=>
  cases (show u=Value.ref a from g);obtain⟨_,_,n,_,T⟩:=(show Dj X.prog X.w H s.heap a (.lst xs) from I.BA a _ B);exact bJ PySem.W.kitx_list I.Jp ⟨_,T,rfl⟩ e (fun z=>nomatch z) h
 | @Hf a ob xs B=>
  cases (show u=Value.ref a from g);obtain⟨_,_,_,n,_,T⟩:=(show Dj X.prog X.w H s.heap a (.Hf ob (.lst xs)) from I.BA a _ B);exact bJ PySem.W.kitx_list I.Jp ⟨_,T,rfl⟩ e (fun z=>nomatch z) h
 | @tup a xs B=>
  cases (show u=Value.ref a from g);obtain⟨_,_,_,p⟩:=(show Dj X.prog X.w H s.heap a (.tup xs) from I.BA a _ B);obtain⟨o,T,U,_⟩:=p;exact bJ PySem.W.kitx_tuple I.Jp ⟨o,T,U⟩ e (fun z=>nomatch z) h
 | @dK a kvs B=>
  cases (show u=Value.ref a from g);obtain⟨_,_,vs,_,p⟩:=(show Dj X.prog X.w H s.heap a (.dK kvs) from I.BA a _ B);obtain⟨o,es,ep,T,U,_⟩:=p;exact bJ PySem.W.kitx_dict I.Jp ⟨o,T,U.1⟩ e (fun z=>nomatch z) h
 | @dT a kvs B=>
  cases (show u=Value.ref a from g);obtain⟨_,_,xs,_,o,es,ep,T,U,_⟩:=(show Dj X.prog X.w H s.heap a (.dT kvs) from I.BA a _ B);exact bJ PySem.W.kitx_dict I.Jp ⟨o,T,U.1⟩ e (fun z=>nomatch z) h
 | @ins a C dx fs B cl ha hn htk hm=>
  cases (show u=Value.ref a from g);obtain⟨mA,O,_⟩:=gq I.BA B;obtain⟨od,J,_⟩:=O.look;exact bJ (PySem.W.kitx_own (cl.get _) cl.hd ha hn htk hm) I.Jp J e (fun z=>nomatch z) h
end
structure EX(k:Nat)(A:Around):Prop where
 hd:A.handled=none
 dp:A.depth+3*k+5<recursionLimit
 un:A.units+16*k+200<cLine
def EX.mono{j k:Nat}{A:Around}(r:EX k A)(h:j<=k:=by decide):EX j A:=⟨r.hd,by have:=r.dp;lia,by have:=r.un;lia⟩
def EX.deeper{k:Nat}{A:Around}(r:EX (k+1) A)(env:Env):EX k (A.deeper env) :=
 ⟨r.hd,by have:=r.dp;show A.depth+1+3*k+5<_;lia,by have:=r.un;show A.units+3+16*k+200<_;lia⟩
def EX.depth{k:Nat}{A:Around}(r:EX k A):A.depth<recursionLimit:=by have:=r.dp;lia
def EX.units{k:Nat}{A:Around}(r:EX k A):A.units+64<cLine:=by have:=r.un;lia
def qe:TA:=fun _ H Q=>Q [] H
def oV(B:TE)(g:TA):TA:=fun σ H Q=>B σ H fun x U=>g σ U fun xs T=>Q (x::xs) T
section
variable{X:Cx}{e:Expr}{es:sL}{te:TE}{t:TA}{pos:Pos}
def Ah:PA X [] qe:=fun _ _ _ _ H Q I h=>Calls.spliced_nil ⟨[],H,I,.nil,h⟩
def AM(ha:PE X e te)(U:PA X es t)(T:starEach (e::es) X.env=(false,eval e X.env)::starEach es X.env:=by rfl):PA X (e::es) (oV te t):=by
 intro pos pins s σ H Q I h;rw[T];show wpAny _ _ (spliced ((false,eval e X.env)::backTo pos (starEach es X.env))) _ _ s;refine Calls.spliced_cons (Bc (ha pins s σ H _ I h) fun u s1 ⟨x,H1,Z,B,q1⟩=>?_);exact Bc (U pos pins s1 σ H1 _ Z q1) fun us s2 ⟨xs,H2,Y,g,q2⟩=>⟨x::xs,H2,Y,.cons B g,q2⟩
def pj(t:TA):TE:=fun σ H Q=>t σ H fun xs g=>xs.length<=sizeLine/\∀p,g p=none->Q (.ref p) (upd g p (.tup xs))
def qx(t:TA):TE:=fun σ H Q=>t σ H fun xs g=>xs.length<=sizeLine/\∀p,g p=none->Q (.ref p) (upd g p (.lst xs))
def N7{T}(h:PA X es t):PE X (.Tuple es T pos) (pj t):=by
 intro pins s σ H Q I U;refine wpAny_Tuple_spliced (Bc (h pos pins s σ H _ I U) fun us s1 ⟨xs,B,g,r,z,q⟩=>⟨by rw[<-r.length];exact z,?_⟩);have Y:B s1.heap.objs.size=none:=g.BA.fresh (aG _);refine⟨.ref s1.heap.objs.size,upd B s1.heap.objs.size (.tup xs),g.laid (t':=s1.toks) (fun b u e=>aE _ e) (aG _) ?_,rfl,q _ Y⟩;exact⟨z,us,r,⟨_,Heap.get?_push_size _ rfl,rfl,_,rfl⟩⟩
def IY(h:PA X es t):PE X (.List es pos) (qx t):=by
 intro pins s σ H Q I T;refine wpAny_List_spliced (Bc (h pos pins s σ H _ I T) fun us s1 ⟨xs,B,g,r,z,q⟩=>⟨by rw[<-r.length];exact z,?_⟩);have U:B s1.heap.objs.size=none:=g.BA.fresh (aG _);refine⟨.ref s1.heap.objs.size,upd B s1.heap.objs.size (.lst xs),g.laid (t':=s1.toks) (fun b u e=>aE _ e) (aG _) ?_,rfl,q _ U⟩;exact⟨z,us,0,r,Heap.get?_push_size _ rfl⟩
end
abbrev Sp:=List V->Hp->VK->XK->Prop
abbrev I0:=List Env->Hp->SD->XK->VL->SD->Prop
structure X7(P:Program)(w:World)(K:Fg)(mg:Str->Option Value)(base:Heap)(A:Around)(outer:List Env)(s:Shared)(H:Hp):Prop where
 frames:A.frames=some outer
 mod:Mod K mg base
 bs:∀b o,base.get? b=some o->s.heap.get? b=some o/\H b=none
 Tc:base.objs.size<=s.heap.objs.size
 LL:s.heap.FunFrames base outer
 Xq:∀b∈Ni outer,H b=none
 BA:Fq P w H s.heap
 bare:AllBare s.gens
def CE(outer:sU)(P:Program)(w:World)(H:Hp)(s:SD)(Q:VK)(u:VL)(s':SD):Prop :=
 ∃v H',s'.os=s.os/\AllBare s'.gens/\Un (Ni outer) [] H H' s.heap s'.heap/\Fq P w H' s'.heap/\RelV v u/\Q v H'
def CR(CX:I0)(outer:sU)(P:Program)(w:World)(H:Hp)(s:SD)(Q:VK)(E:XK)(r:Result)(s':SD):Prop :=
 match r with
 |.ok (.ret u)=>CE outer P w H s Q u s'
 |.ok _=>False
 |.error e=>CX outer H s E e s'
structure AK(P:Program)(w:World)(K:Fg)(mg:Str->Option Value)(base:Heap)(CX:I0)(k:Nat)(f:Addr)(fd:FuncData)(ps:List Str)(sp:Sp):Prop where
 len:∀vs H Q E,sp vs H Q E->vs.length=ps.length
 run:∀(A:Around) (outer:List Env) (s:Shared) (H:Hp) (args:Args) (us:List Value) (vs:List V) (Q:VK) (E:XK),EX k A->X7 P w K mg base A outer s H->BindsTo s fd args (ps.zip us)->Vals vs us->sp vs H Q E ->
  codeAny (model P w) A (.call (.ref f) args) (CR CX outer P w H s Q E) s
def AK.mono{P:Program}{w:World}{K:Fg}{mg:sD}{base:Heap}{CX:I0}{j k:Nat}{f:AD}{fd:FuncData}{ps:sJ}{sp:Sp}(F:AK P w K mg base CX j f fd ps sp)(h:j<=k:=by decide):AK P w K mg base CX k f fd ps sp:=⟨F.len,fun A outer s H args us vs Q E g=>F.run A outer s H args us vs Q E (g.mono h)⟩
def AK.imp{P:Program}{w:World}{K:Fg}{mg:sD}{base:Heap}{CX:I0}{k:Nat}{f:AD}{fd:FuncData}{ps:sJ}{sp g:Sp}(F:AK P w K mg base CX k f fd ps sp) (h:∀vs H Q E,g vs H Q E->sp vs H Q E):AK P w K mg base CX k f fd ps g :=
 ⟨fun vs H Q E q=>F.len vs H Q E (h _ _ _ _ q),fun A outer s H args us vs Q E U Y Z B T=>F.run A outer s H args us vs Q E U Y Z B (h _ _ _ _ T)⟩
section
variable{X:Cx}{pins:List (AD×Obj)}{σ:St}{H:Hp}{s s':SD}
def Inv.qQ(I:Inv X pins σ H s):X7 X.prog X.w X.K X.mg X.base X.A X.stack s H :=
 ⟨I.ok.frames,I.ok.mod,I.bs,Nat.le_trans I.ok.Tc I.sz,I.stack,I.XC,I.BA,I.bare⟩
def Inv.after{Q:VK}{u:VL}(I:Inv X pins σ H s)(h:CE X.stack X.prog X.w H s Q u s'):EP X pins σ Q u s':=by
 obtain⟨v,H',os,bare,un,BA,r,q⟩:=h;obtain⟨T,g,d,t,B⟩:=s';obtain rfl:B=s.os:=os;exact⟨v,H',I.call (h':=T) (g':=g) (d':=d) (t':=t) (ch:=[]) un BA bare (fun b z=>absurd z (by simp)),r,q⟩
end
def fB(sp:Sp)(g:sQ)(E:XK)(t:TA):TE:=fun σ H Q=>t σ H fun vs B=>sp (vs++g) B Q E
def Binds(K:Fg)(fd:FuncData)(ps:sJ)(ds:rz):Prop :=
 ∀(s:SD) (us:List VL),K.In s.heap->(us++ds).length=ps.length->BindsTo s fd ⟨us,[]⟩ (ps.zip (us++ds))
def Binds.all{K:Fg}{fd:FuncData}{ps:sJ}(h:∀us:rz,us.length=ps.length->bindArgs fd ⟨us,[]⟩=pure (ps.zip us)):Binds K fd ps []:=fun s us _ g=>by
 rw[List.append_nil]at g ⊢;exact .of_eq (h us g)
def Passes(CX:I0)(X:Cx)(E:XK):Prop:=∀(pins:List (AD×Obj)) (σ:St) (H:Hp) (s:SD) (e:VL) (g:SD),Inv X pins σ H s->CX X.stack H s E e g->X.xe e g
section
variable{X:Cx}{CX:I0}{k:Nat}{f:AD}{fd:FuncData}{ps:sJ}{sp:Sp}{dvs:sQ}{ds:rz}{E:XK}{x:Str}{p pos:Pos}{e:Expr}{es:sL}{t:TA}
def lK{pins:List (AD×Obj)}{σ:St}{H:Hp}{s:SD}{Q:VK}{us:rz}{vs:sQ}(F:AK X.prog X.w X.K X.mg X.base CX k f fd ps sp)(Y:EX k X.A)(hb:Binds X.K fd ps ds)(hd:Vals dvs ds)(U:Passes CX X E) (I:Inv X pins σ H s)(r:Vals vs us)(h:sp (vs++dvs) H Q E):wpAny (model X.prog X.w) X.A (call (.ref f) us) (EP X pins σ Q) X.xe s:=by
 have B:Vals (vs++dvs) (us++ds):=r.append hd;have Z:(us++ds).length=ps.length:=by rw[<-B.length];exact F.len _ _ _ _ h
 refine wpAny_call (codeAny_mono (F.run X.A X.stack s H ⟨us,[]⟩ (us++ds) (vs++dvs) Q E Y I.qQ (hb s us I.Jp Z) B h) fun r T g=>?_);cases r with
 |error e=>exact U pins σ H s e T I g
 |ok fl=>
  cases fl with
  |ret u=>exact I.after g
  |next=>exact False.elim g
  |brk=>exact False.elim g
  |cont=>exact False.elim g
def iA(F:AK X.prog X.w X.K X.mg X.base CX k f fd ps sp)(Y:EX k X.A)(hg:Gl X x)(hm:X.mg x=some (.ref f))(Z:PySem.W.keepIn X.K (.ref f)=true)(hb:Binds X.K fd ps ds)(hd:Vals dvs ds)(U:Passes CX X E) (ha:PA X (e::es) t)(B:(x==("__debug__" : Str))=false:=by decide)(he:starEach (e::es) X.env=(false,eval e X.env)::starEach es X.env:=by rfl)(g:(backTo pos (starEach es X.env)).any (·.1)=false:=by rfl):PE X (.Call (.Name x p) (e::es) [] pos) (fB sp dvs E t):=by
 intro pins s σ H Q I h;refine wpAny_Call_Name_kw (Ww I hg hm ?_ B);refine PySem.W.callWith_K (h₀:=X.base) I.ok.mod.md Z (Bc (ha pos pins s σ H _ I h) fun us s1 ⟨vs,H1,T,r,q⟩=>⟨T.Jp,?_⟩) he g;exact lK F Y hb hd U T r q
end
structure Af(N P:List Str)(sc:Scope):Prop where
 kind:sc.kind=.function
 co:sc.isCoroutine=false
 gen:sc.isGenerator=false
 nd:N.Nodup
 pre:N.take P.length=P
 par:∀x∈P,sc.names.lookup x=some .local\/sc.names.lookup x=some .cell
 mf:∀y∈sc.names,y.2≠.free
def B9{N P:sJ}{sc:Scope}(a:sc.kind=.function:=by rfl)(b:sc.isCoroutine=false:=by rfl)(c:sc.isGenerator=false:=by rfl)(d:N.Nodup:=by decide +kernel)(e:N.take P.length=P:=by rfl)(f:∀x ∈ P, sc.names.lookup x=some .local \/ sc.names.lookup x=some .cell:=by decide +kernel)(g:∀y ∈ sc.names, y.2 ≠ .free:=by decide +kernel):Af N P sc:=⟨a, b, c, d, e, f, g⟩
def Tn{kindOf:Str->Option NameKind}{x:Str}:∀ {binds:List (Str×VL)} {m:Str->Option VL},(∀v,(x,v) ∉ binds)->bindL kindOf binds m x=m x
 |[],_,_=>rfl
 |(n,v)::r,m,h=>by
  unfold bindL;rw[Tn fun w g=>h w (aU _ g)];split
  .have:x≠n:=by rintro rfl;exact h v aZ
   simp[this]
  .rfl
def Tp{kindOf:Str->Option NameKind}{x:Str}:∀ {binds:List (Str×VL)} {m:Str->Option VL},(∀v,(x,v) ∉ binds)->bindC kindOf binds m x=m x
 |[],_,_=>rfl
 |(n,v)::r,m,h=>by
  unfold bindC;rw[Tp fun w g=>h w (aU _ g)];split
  .rfl
  .have:x≠n:=by rintro rfl;exact h v aZ
   simp[this]
def TF{kindOf:Str->Option NameKind}{x:Str}{v:VL}:∀ {P:List Str} {vs:List VL} {i:Nat} {m:Str->Option VL},P.Nodup->P[i]? = some x->vs[i]? = some v->kindOf x=some .local ->
  bindL kindOf (P.zip vs) m x=some v
 |[],_,_,_,_,h,_,_=>by simp at h
 |_::_,[],_,_,_,_,h,_=>by simp at h
 |p::P,w::vs,0,m,nd,B,g,T=>by
  simp at B g;subst B;subst g;show bindL kindOf ((p,w)::P.zip vs) m p=_;unfold bindL;rw[Tn fun v U=>(List.nodup_cons.mp nd).1 (List.of_mem_zip U).1,if_pos T];simp
 |p::P,w::vs,i+1,m,nd,B,g,T=>by
  show bindL kindOf ((p,w)::P.zip vs) m x=_;unfold bindL;exact TF (i:=i) (List.nodup_cons.mp nd).2 (by simpa using B) (by simpa using g) T
def Tu{kindOf:Str->Option NameKind}{x:Str}{v:VL}:∀ {P:List Str} {vs:List VL} {i:Nat} {m:Str->Option VL},P.Nodup->P[i]? = some x->vs[i]? = some v->kindOf x≠some .local ->
  bindC kindOf (P.zip vs) m x=some v
 |[],_,_,_,_,h,_,_=>by simp at h
 |_::_,[],_,_,_,_,h,_=>by simp at h
 |p::P,w::vs,0,m,nd,B,g,T=>by
  simp at B g;subst B;subst g;show bindC kindOf ((p,w)::P.zip vs) m p=_;unfold bindC;rw[Tp fun v U=>(List.nodup_cons.mp nd).1 (List.of_mem_zip U).1,if_neg T];simp
 |p::P,w::vs,i+1,m,nd,B,g,T=>by
  show bindC kindOf ((p,w)::P.zip vs) m x=_;unfold bindC;exact Tu (i:=i) (List.nodup_cons.mp nd).2 (by simpa using B) (by simpa using g) T
def start(N:sJ)(vs:sQ):St:=vs.map some++List.replicate (N.length-vs.length) none
def MM(CX:I0)(P:Program)(w:World)(K:Fg)(mg:sD)(base:Heap)(N:sJ)(qual:Str)(scope:Scope)(f:AD)(cd:VL)(A:Around)(outer:sU)(s:SD)(H:Hp)(E:XK):Cx where
 prog:=P
 w:=w
 K:=K
 mg:=mg
 base:=base
 A:=A.deeper (envOfC qual scope s.heap.objs.size f cd)
 N:=N
 s₀:=s
 H₀:=H
 env:=envOfC qual scope s.heap.objs.size f cd
 outer:=outer
 stack:=envOfC qual scope s.heap.objs.size f cd::outer
 ex:=[]
 calm:=true
 fn:=fun _=>true
 pn:=[]
 xe:=fun e s'=>wpAny (model P w) (A.deeper (envOfC qual scope s.heap.objs.size f cd)) (leaving (envOfC qual scope s.heap.objs.size f cd) e) (fun _ s''=>CX outer H s E e s'') (fun e' s''=>CX outer H s E e' s'') s'
def WO{sc:Scope}{n:Nat}{x:Str}(h:sc.names.lookup x=some .cell):∃c,(cellsFrom n sc.names []).lookup x=some c:=by
 have q:=PySem.W.cellsFrom_some sc.names n [] (.inl h);exact Option.isSome_iff_exists.mp q
def Zp{CX:I0}{P:Program}{w:World}{K:Fg}{mg:sD}{base:Heap}{N ps:sJ}{qual:Str}{scope:Scope}{f:AD}{cd:VL}{A:Around}{outer:sU}{s s1:SD}{H:Hp}{E:XK}{us:rz}{vs:sQ} (S:Af N ps scope)(hd:A.handled=none)(B:X7 P w K mg base A outer s H)(hl:vs.length=ps.length)(r:Vals vs us) (x:InCallC s s.heap.objs.size (bindL (envOfC qual scope s.heap.objs.size f cd).kindOf (ps.zip us) fun _=>none) (cellsFrom (s.heap.objs.size+1) scope.names []) (bindC (envOfC qual scope s.heap.objs.size f cd).kindOf (ps.zip us) fun _=>none) s1):Inv (MM CX P w K mg base N qual scope f cd A outer s H E) [] (start N vs) H s1:=by
 have hpl:ps.length<=N.length:=by have:=bL List.length S.pre;rw[List.length_take]at this;lia
 obtain⟨h1,tk,rfl,hk⟩:=x.done;have T:∀b:AD,b ∉ (MM CX P w K mg base N qual scope f cd A outer s H E).ex:=fun b z=>absurd (show b∈([]:List AD) from z) (by simp);refine⟨⟨B.mod,S.kind,rfl,rfl,Nat.le_refl _,fun y z c h1 g=>?_,fun y U=>?_,fun y c _ h=>?_,fun _=>hd,Around.frames_deeper B.frames,.inr ⟨rfl,rfl⟩,fun b z=>absurd z (T b),B.bs,B.Tc,fun b _ _=>T b,fun b z=>absurd z (T b),B.LL,B.Xq⟩,
  rfl,B.bare,Un.kept hk,⟨_,x.toInCall.ns,fun i y v h1 g h3=>?_⟩,fun y c h=>⟨_,x.cell y c h⟩,B.BA.fresh (aG _),fun y c h=>?_,fun p Z=>absurd (show p∈([]:List (AD×Obj)) from Z) (by simp),B.BA.kept hk,?_⟩
 .exact name_of_addr x.apart (PySem.mem_of_lookup h1) (PySem.mem_of_lookup g)
 .have U:scope.names.lookup y=some .cell\/scope.names.lookup y=some .free:=U;rcases U with U|U
  .exact WO U
  .exact absurd rfl (S.mf _ (PySem.mem_of_lookup U))
 .exact ay (x.above y c (PySem.mem_of_lookup h))
 .have hi:i<vs.length:=by
   unfold start at g;by_cases hi:i<vs.length
   .exact hi
   .rw[List.getElem?_append_right (by simpa using hi)]at g;rw[List.getElem?_replicate]at g;split at g<;>cases g
  have ha:vs[i]? = some v:=by
   unfold start at g;rw[List.getElem?_append_left (by simpa using hi),List.getElem?_map]at g;cases e:vs[i]? with
   |none=>rw[e]at g;cases g
   |some a=>rw[e]at g;cases g;rfl
  obtain⟨u,hu,rv⟩:=r.get ha;have Z:ps[i]? = some y:=by
   rw[<-S.pre,List.getElem?_take_of_lt (by lia)];exact h1
  have Y:ps.Nodup:=by rw[<-S.pre];exact S.nd.sublist (List.take_sublist _ _)
  refine⟨u,rv,?_⟩;rcases S.par y (aH Z) with k|k
  .exact .inl ⟨k,TF Y Z hu k⟩
  .obtain⟨c,e⟩:=WO (n:=s.heap.objs.size+1) k;refine .inr ⟨.inl k,c,e,?_⟩;have q:=x.cell y c e;rw[Tu Y Z hu (by show scope.names.lookup y≠_;rw[k];decide)]at q;exact q
 .exact B.BA.fresh (ay (x.above y c (PySem.mem_of_lookup h)))
 .unfold start;show _=N.length;rw[List.length_append,List.length_map,List.length_replicate]
  lia
def oY{CX:I0}{P:Program}{w:World}{K:Fg}{mg:sD}{base:Heap}{k:Nat}{f:AD}{name qual:Str}{params:Arguments}{g:sT}{scope:Scope}{dV kV doc pm cdv ct oc:VL}{an od:Option AD} {osl:Array (Option VL)}{N ps:sJ}{sp:Sp}(lk:K.lookup f=some ⟨oc,od,.func (PySem.W.fnOf name qual params g scope dV kV doc pm an cdv ct),osl⟩)(hcd:PySem.W.codeIn K cdv qual=true)(S:Af N ps scope) (len:∀vs H Q E,sp vs H Q E->vs.length=ps.length) (U:∀(A:Around) (outer:sU) (s:SD) (H:Hp) (vs:sQ) (Q:VK) (E:XK),EX k (A.deeper (envOfC qual scope s.heap.objs.size f cdv))->sp vs H Q E ->∃t,LC (MM CX P w K mg base N qual scope f cdv A outer s H E) g t/\t { nx:=fun _ H'=>Q .B4 H',rt:=Q} (start N vs) H):AK P w K mg base CX (k+1) f (PySem.W.fnOf name qual params g scope dV kV doc pm an cdv ct) ps sp:=by
 refine⟨len,fun A outer s H args us vs Q E hr e0 hb r Z=>?_⟩;have hl:=len _ _ _ _ Z;have KX:K.In s.heap:=e0.mod.md.keeps fun b o e=>(e0.bs b o e).1;have lim:s.heap.NoLimit:=e0.mod.nolimit.keeps fun b o e=>(e0.bs b o e).1;have T:∀y∈ps.zip us,scope.names.lookup y.1=some .local\/(scope.names.lookup y.1=some .cell/\((cellsFrom (s.heap.objs.size+1) scope.names []).lookup y.1).isSome=true):=fun⟨n,v⟩ hy=>by
  rcases S.par n (List.of_mem_zip hy).1 with q|q
  .exact .inl q
  .exact .inr ⟨q,PySem.W.cellsFrom_some _ _ _ (.inl q)⟩
 refine codeAny_call_function hr.depth (KX _ _ lk) rfl S.co S.gen rfl (PySem.W.codeRec_of KX hcd) (hb _ _ _ _ ?_);refine wpAny_newFunctionEnv_cells S.kind T fun env he s1 x=>?_;subst he;refine⟨lim.keeps x.toInCall.keep,codeAny_func ?_⟩;obtain⟨t,ht,hq⟩:=U A outer s H vs Q E (hr.deeper _) Z;have I:Inv (MM CX P w K mg base N qual scope f cdv A outer s H E) [] (start N vs) H s1:=Zp S hr.hd e0 hl r x;refine ao (ht [] s1 (start N vs) H _ I hq) (fun fl s' Y=>?_) fun e s' Y=>Y;have fin:∀ {B:St} {H':Hp} {v:V} {u:VL},Inv (MM CX P w K mg base N qual scope f cdv A outer s H E) [] B H' s'->RelV v u->Q v H'->CE outer P w H s Q u s' :=
  fun {B H' v u} J rv q=>⟨v,H',J.os,J.bare,J.base,J.BA,rv,q⟩
 cases fl with
 |ret u=>
  obtain⟨v,B,H',J,rv,q⟩:=Y;exact fin J rv q
 |next=>
  obtain⟨B,H',J,q⟩:=Y;exact fin (v:=V.B4) (u:=Value.none) J rfl q
 |brk=>
  obtain⟨_,_,_,q⟩:=Y;exact False.elim q
 |cont=>
  obtain⟨_,_,_,q⟩:=Y;exact False.elim q
section
variable{X:Cx}{x:Str}{p pos:Pos}{e:Expr}{es:sL}{t:TA}{id T:String}{r:List V->Hp->VK->Prop}
def pW(r:List V->Hp->VK->Prop)(t:TA):TE:=fun σ H Q=>t σ H fun vs g=>r vs g Q
def Ds(hc:Ey X (.builtin id) r)(Z:Gl X x)(hm:X.mg x=none)(Y:bootBuiltins x=some (.builtin id))(ha:PA X (e::es) t)(hn:x ≠ "__name__":=by decide)(B:(x==("__debug__" : Str))=false:=by decide) (he:starEach (e::es) X.env=(false,eval e X.env)::starEach es X.env:=by rfl)(g:(backTo pos (starEach es X.env)).any (·.1)=false:=by rfl):PE X (.Call (.Name x p) (e::es) [] pos) (pW r t):=by
 intro pins s σ H Q I h;refine wpAny_Call_Name_kw (GV I Z hm Y ?_ hn B);exact PyProof.Rows.callWith_builtin1 (Bc (ha pos pins s σ H _ I h) fun us s1 ⟨vs,H1,I1,U,q1⟩=>hc pins s1 σ H1 vs us Q I1 U q1) he g
def T4(hc:Ey X (.type T) r)(Z:Gl X x)(hm:X.mg x=none)(Y:bootBuiltins x=some (.type T))(ha:PA X (e::es) t)(hn:x ≠ "__name__":=by decide)(B:(x==("__debug__" : Str))=false:=by decide) (he:starEach (e::es) X.env=(false,eval e X.env)::starEach es X.env:=by rfl)(g:(backTo pos (starEach es X.env)).any (·.1)=false:=by rfl):PE X (.Call (.Name x p) (e::es) [] pos) (pW r t):=by
 intro pins s σ H Q I h;refine wpAny_Call_Name_kw (GV I Z hm Y ?_ hn B);exact ah (Bc (ha pos pins s σ H _ I h) fun us s1 ⟨vs,H1,I1,U,q1⟩=>hc pins s1 σ H1 vs us Q I1 U q1) he g
end
end L2
namespace HT
open PySem PyProof.Rows
section
variable{prog:Program}{w:World}{A:Around}{E:sC}{s:SD}
def i4{t b:AD}{vs g:rz}{Q:sC}(ht:IsTup s.heap t vs.toArray)(hb:IsTup s.heap b g.toArray)(hv:vs≠[]) (h1:g=[]->Q (.ref t) s)(h2:g≠[]->Q (.ref s.heap.objs.size) {s with heap:=s.heap.push { cls:=.type "tuple",data:=.seq (vs++g).toArray} }) (hsz:vs.length+g.length<=sizeLine):wpAny (model prog w) A (binaryOp .Add (.ref t) (.ref b)) Q E s:=by
 obtain⟨⟨cls,dd,data,sl⟩,ho,hc,n,hd⟩:=id ht;obtain⟨⟨cls2,Z,data2,T⟩,B,Y,n2,U⟩:=id hb;simp only at hc hd Y U;subst hc hd Y U;have e:vs.toArray++g.toArray=(vs++g).toArray:=by simp
 by_cases hw:g=[]
 .exact concat_meets ⟨_,ho,rfl⟩ ⟨_,B,rfl⟩ noFill_tuple_add seq_tuple_add PySem.F.slot_tuple_add PySem.F.entry_tuple_add (PySem.F.args_tuple_add_2 _ _)
   (tuple_addW1 t b vs.toArray g.toArray n n2 dd Z sl T (by simpa using hv) (by simp[hw])) ⟨ho,B,h1 hw⟩
 .refine concat_meets ⟨_,ho,rfl⟩ ⟨_,B,rfl⟩ noFill_tuple_add seq_tuple_add PySem.F.slot_tuple_add PySem.F.entry_tuple_add (PySem.F.args_tuple_add_2 _ _)
   (tuple_addW2 t b vs.toArray g.toArray n n2 dd Z sl T (by simpa using hv) (by simpa using hw) (by rw[List.size_toArray,List.size_toArray];exact hsz)) ⟨ho,B,?_⟩
  rw[e];exact h2 hw
def B3(n d:Nat):Option Int->Nat
 |none=>d
 |some v=>if v<0 then(v+(n:Int)).toNat else min v.toNat n
def jO(n d:Nat)(hd:d<=n)(o:sN):B3 n d o<=n:=by
 cases o with
 |none=>exact hd
 |some v=>
  show(if v<0 then(v+(n:Int)).toNat else min v.toNat n)<=n;by_cases g:v<0
  .rw[if_pos g];lia
  .rw[if_neg g];exact Nat.min_le_right _ _
def Wx(v:Int)(n d:Nat):(if v<0 then max (v+(n:Int)) 0 else min v (n:Int))=((B3 n d (some v):Nat):Int):=by
 show(if v<0 then max (v+(n:Int)) 0 else min v (n:Int))=(((if v<0 then(v+(n:Int)).toNat else min v.toNat n):Nat):Int);by_cases g:v<0
 .simp only[if_pos g];lia
 .simp only[if_neg g];lia
def Yc(lo hi:sN)(n:Nat):Builtin.Slice.sliceAdjust lo hi 1 (n:Int)=(((B3 n 0 lo:Nat):Int),((B3 n n hi:Nat):Int)):=by
 have g:¬((1:Int)<0):=by lia
 unfold Builtin.Slice.sliceAdjust;simp only[g,if_false];refine Prod.ext ?_ ?_
 .cases lo with
  |none=>rfl
  |some v=>exact Wx v n 0
 .cases hi with
  |none=>rfl
  |some v=>exact Wx v n n
def Yj(i j:Nat):Builtin.Slice.slicePlaces (i:Int) (j:Int) 1=j-i:=by
 unfold Builtin.Slice.slicePlaces;have g:(1:Int) > 0:=by lia
 simp only[g,if_true,Int.ediv_one];split<;>lia
def RM{v:VL}{o:sN}{Q:Option Int->SD->Prop}(p:IsPart v o)(h:Q o s):wpAny (model prog w) A (Builtin.Slice.slicePartIndex v) Q E s:=by
 cases p with
 |none=>exact slicePart_none h
 |int i t=>exact slicePart_int h
def QS{sl:AD}{U T:VL}{lo hi:sN}{n:Nat}{Q:Int×Int×Nat->SD->Prop}(hs:s.heap.IsSliceOf sl U T .none)(Z:IsPart U lo)(Y:IsPart T hi) (h:Q (((B3 n 0 lo:Nat):Int),1,B3 n n hi-B3 n 0 lo) s):wpAny (model prog w) A (Builtin.Slice.sliceApplied (.ref sl) (pure (n:Int))) Q E s:=by
 obtain⟨os,g,hcs,B⟩:=id hs;unfold Builtin.Slice.sliceApplied Builtin.Slice.sliceFields;refine Wb (Wb (aV g B (x:=U) rfl (Wb (aV g B (x:=T) rfl (Wb (aV g B (x:=.none) rfl (aA ?_)))))));refine Wb (slicePart_none ?_);show wpAny _ _ (if((1:Int)==0)=true then _ else _) _ _ s;rw[if_neg (by decide)];refine Wb (RM Z (Wb (RM Y (Wb (aA ?_)))));show wpAny _ _ (match Builtin.Slice.sliceAdjust lo hi 1 (n:Int) with|(lo,hi)=>pure (lo,(1:Int),Builtin.Slice.slicePlaces lo hi 1)) _ _ s;rw[Yc lo hi n];show wpAny _ _ (pure (((B3 n 0 lo:Nat):Int),(1:Int),Builtin.Slice.slicePlaces ((B3 n 0 lo:Nat):Int) ((B3 n n hi:Nat):Int) 1)) _ _ s;rw[Yj];exact aA h
def eN(xs:Array VL)(i k:Nat):((List.range k).filterMap fun(m:Nat)=>xs[((i:Int)+(m:Int)*1).toNat]?).toArray=((xs.toList.drop i).take k).toArray:=by
 have e:(fun(m:Nat)=>xs[((i:Int)+(m:Int)*1).toNat]?)=fun m=>xs[i+m]? := by
  funext m
  have:((i:Int)+(m:Int)*1).toNat=i+m:=by lia
  rw[this]
 rw[e];have:=pick_run xs i k;rw[List.filterMap_map]at this;have g:((fun x=>xs[x]?) ∘ fun x=>i+x)=fun m=>xs[i+m]?:=rfl;rw[g]at this;rw[this]
def PV{t sl:AD}{items:Array VL}{vl vu:VL}{lo hi:sN}{Q:sC}(B:IsTup s.heap t items)(hs:s.heap.IsSliceOf sl vl vu .none)(pl:IsPart vl lo)(pu:IsPart vu hi) (hw:¬(B3 items.size 0 lo=0/\B3 items.size items.size hi=items.size)) (h:Q (.ref s.heap.objs.size) {s with heap:=s.heap.push { cls:=.type "tuple",data:=.seq ((items.toList.drop (B3 items.size 0 lo)).take (B3 items.size items.size hi-B3 items.size 0 lo)).toArray} }) (hsz:items.size<=sizeLine):wpAny (model prog w) A (getItem (.ref t) (.ref sl)) Q E s:=by
 have g:sizeOk (.seq ((items.toList.drop (B3 items.size 0 lo)).take (B3 items.size items.size hi-B3 items.size 0 lo)).toArray):=by
  show((items.toList.drop (B3 items.size 0 lo)).take (B3 items.size items.size hi-B3 items.size 0 lo)).toArray.size<=sizeLine;rw[List.size_toArray,List.length_take,List.length_drop,Array.length_toList]
  lia
 have hj:B3 items.size items.size hi<=items.size:=jO _ _ (aG _) hi;obtain⟨os,T,Y,hds⟩:=id hs;have Z:s.TypeIs (.ref sl) "slice" := ⟨os,T,Y⟩;unfold getItem
 try with_reducible refine aS ?_
 first|refine Wb (aA ?_)|skip
 refine Wb (wpAny_sequenceKey B.typeIs (by decide) ?_);refine Wb (aX (name:=Str.ofString "__getitem__") B.typeIs PyProof.Rows.slot_tuple_getitem
  (aW PyProof.Rows.slot_tuple_getitem B.typeIs entry_tuple_getitem ?_ (args_tuple_getitem _ _)))
 show wpAny _ _ (Builtin.Tuple.tupleItemsOf (.ref t)>>=_) _ _ s;refine Wb (tupleItemsOf_ B ?_);refine Wb (wpAny_typeOf Z ?_);rw[if_pos (by decide)];refine Wb (QS hs pl pu ?_);have U:¬((((B3 items.size 0 lo:Nat):Int)==0&&(1:Int)==1&&(B3 items.size items.size hi-B3 items.size 0 lo)==items.size)=true):=by
  intro q;rw[Bool.and_eq_true,Bool.and_eq_true]at q;have q1:((B3 items.size 0 lo:Nat):Int)=0:=eq_of_beq q.1.1;have q2:B3 items.size items.size hi-B3 items.size 0 lo=items.size:=eq_of_beq q.2;exact hw ⟨by lia,by lia⟩
 show wpAny _ _ (if(((B3 items.size 0 lo:Nat):Int)==0&&(1:Int)==1&&(B3 items.size items.size hi-B3 items.size 0 lo)==items.size)=true then _ else _) _ _ s;rw[if_neg U,eN]
 first
  |exact Wb (m:=Builtin.Tuple.tupleExact _) (aw (aA ⟨_,rfl,wpAny_pure h⟩) g)
  |exact Wb (m:=Builtin.Tuple.tupleExact _) (aw (Wb (aA (aA ⟨_,rfl,wpAny_pure h⟩))) g)
  |exact Wb (Wb (m:=Builtin.Tuple.tupleExact _) (aw (aA (aA ⟨_,rfl,wpAny_pure h⟩)) g))
  |exact Wb (Wb (m:=Builtin.Tuple.tupleExact _) (aw (aA ⟨_,rfl,wpAny_pure h⟩) g))
end
end HT
namespace L2
open PySem PySem.Spec PyProof.Rows
abbrev TO:=St->Hp->(Option Int->Hp->Prop)->Prop
def PO(X:Cx)(e:Option Expr)(t:TO):Prop :=
 ∀(pins:List (AD×Obj)) (s:SD) (σ:St) (H:Hp) (Q:Option Int->Hp->Prop),Inv X pins σ H s->t σ H Q ->
  wpAny (model X.prog X.w) X.A (evalPart e X.env) (fun u g=>∃o H',Inv X pins σ H' g/\IsPart u o/\Q o H') X.xe s
def iX:TO:=fun _ H Q=>Q none H
def oU(t:TE):TO:=fun σ H Q=>t σ H fun x g=>∃i,x=.int i/\Q (some i) g
def intsAre_of{ns:sI}:∀ {us:rz},Vals (ns.map V.int) us->IntsAre us ns:=by
 induction ns with
 |nil=>intro us r;rw[List.map_nil]at r;cases r;exact .nil
 |cons n ns T=>
  intro us r;rw[List.map_cons]at r;cases r with
  |cons B g=>
   obtain⟨t,e⟩:=B;subst e;exact .cons n t (T g)
section
variable{X:Cx}{e:Expr}{te:TE}{lo hi:Option Expr}{tl th:TO}{pos p2:Pos}
def gw:PO X none iX:=by
 intro pins s σ H Q I h;rw[evalPart_none];exact aA ⟨none,H,I,.none,h⟩
def ik(h:PE X e te):PO X (some e) (oU te):=by
 intro pins s σ H Q I B;rw[evalPart_some];refine Bc (h pins s σ H _ I B) fun u s1 ⟨x,U,T,g,q1⟩=>?_;obtain⟨i,rfl,q⟩:=q1;obtain⟨t,rfl⟩:=g;exact⟨some i,U,T,.int i t,q⟩
def WT(X:Cx)(r:V->Option Int->Option Int->Hp->VK->Prop):Prop :=
 ∀(pins:List (AD×Obj)) (s:SD) (σ:St) (H:Hp) (x:V) (v B g:VL) (lo hi:Option Int) (sl:AD) (Q:VK),Inv X pins σ H s->RelV x v->s.heap.IsSliceOf sl B g .none->IsPart B lo->IsPart g hi->r x lo hi H Q ->
  ∃T id,typeLookup (.type T) "__getitem__" = pure (some (.builtin id))/\s.TypeIs v T/\wpAny (model X.prog X.w) X.A (getItem v (.ref sl)) (EP X pins σ Q) X.xe s
def WT.or{r U:V->Option Int->Option Int->Hp->VK->Prop}(h:WT X r)(h':WT X U):WT X (fun x lo hi H Q=>r x lo hi H Q\/U x lo hi H Q):=by
 intro pins s σ H x v B g lo hi sl Q I T hs Z Y q;rcases q with q|q
 .exact h pins s σ H x v B g lo hi sl Q I T hs Z Y q
 .exact h' pins s σ H x v B g lo hi sl Q I T hs Z Y q
def rO(r:V->Option Int->Option Int->Hp->VK->Prop)(te:TE)(tl th:TO):TE:=fun σ H Q=>te σ H fun x T=>tl σ T fun l B=>th σ B fun u g=>r x l u g Q
def da{r:V->Option Int->Option Int->Hp->VK->Prop}(hr:WT X r)(he:PE X e te)(hl:PO X lo tl)(hu:PO X hi th):PE X (.Subscript e (.Slice lo hi none p2) pos) (rO r te tl th):=by
 intro pins s σ H Q I h;refine Subscript_ (Bc (he pins s σ H _ I h) fun v s1 ⟨x,H1,I1,Z,q1⟩=>?_);refine wpAny_Slice (Bc (hl pins s1 σ H1 _ I1 q1) fun U s2 ⟨l,H2,I2,pl,q2⟩=>Bc (hu pins s2 σ H2 _ I2 q2) fun B g ⟨u,Y,I3,pu,q3⟩=>?_);rw[evalPart_none];refine aA ?_;have I4:Inv X pins σ Y {g with heap:=g.heap.push { cls:=.type "slice",data:=.fields #[U,B,.none]} }:=I3.kept (t':=g.toks) fun b ob q=>aE _ q;obtain⟨T,id,hT,ht,hg⟩:=hr pins {g with heap:=g.heap.push { cls:=.type "slice",data:=.fields #[U,B,.none]} } σ Y x v U B l u g.heap.objs.size Q I4 Z (Heap.IsSliceOf.new ..) pl pu q3;show wpAny (model X.prog X.w) X.A (subscriptTail e (.Slice lo hi none p2) v (.ref g.heap.objs.size)) (EP X pins σ Q) X.xe {g with heap:=g.heap.push { cls:=.type "slice",data:=.fields #[U,B,.none]} };exact tail_any (ops:=[.ref g.heap.objs.size,v]) ht hT hg (by with_unfolding_all rfl)
def Oq(xs:sQ)(lo hi:sN):sQ:=(xs.drop (HT.B3 xs.length 0 lo)).take (HT.B3 xs.length xs.length hi-HT.B3 xs.length 0 lo)
def P0(xs:sQ)(lo hi:sN):(Oq xs lo hi).length<=xs.length:=by
 unfold Oq;rw[List.length_take,List.length_drop]
 lia
def qv(K:Fg):V->Option Int->Option Int->Hp->VK->Prop:=fun x lo hi H Q=>∃a xs,x=.ref a/\BN K H a xs /\
 ¬(HT.B3 xs.length 0 lo=0/\HT.B3 xs.length xs.length hi=xs.length)/\∀p,H p=none->Q (.ref p) (upd H p (.tup (Oq xs lo hi)))
def jf:WT X (qv X.K):=by
 intro pins s σ H x v vl vu lo hi sl Q I Y hs pl Z h;obtain⟨a,xs,rfl,hx,hw,q⟩:=h;cases Y;obtain⟨B,r,U,T⟩:=I.tuple hx;have g:B.toArray.size=xs.length:=by rw[List.size_toArray];exact r.length.symm
 refine⟨"tuple",_,PyProof.Rows.slot_tuple_getitem.lookup,U.typeIs,?_⟩;refine HT.PV U hs pl Z (by rw[g];exact hw) ?_ (by rw[g];exact T);rw[g];refine⟨.ref s.heap.objs.size,_,I.laid (t':=s.toks) (o:=.tup (Oq xs lo hi)) (fun b ob q=>aE _ q) (aG _) ?_,rfl,q _ (I.BA.fresh (aG _))⟩;exact⟨aQ (P0 xs lo hi) T,_,(r.drop (HT.B3 xs.length 0 lo)).take (HT.B3 xs.length xs.length hi-HT.B3 xs.length 0 lo),IsTup.new _ _⟩
def Vals.XE{xs:sQ}{us:rz}(r:Vals xs us):us=[] ↔ xs=[]:=by
 cases r with
 |nil=>simp
 |cons _ _=>simp
end
def Na(n:Nat)(i:Int):Option Nat:=if 0<=i then(if i<n then some i.toNat else none) else if -(n:Int)<=i then some (i+n).toNat else none
def GO{α:Type}(xs:List α)(i:Int):Option α:=(Na xs.length i).bind fun j=>xs[j]?
def Wy{n:Nat}{i:Int}{j:Nat}(h:Na n i=some j):seqIndex? i n=some j/\j<n/\-(n:Int)<=i/\i<n:=by
 unfold Na at h;by_cases h0:0<=i
 .rw[if_pos h0]at h;by_cases g:i<n
  .rw[if_pos g]at h;have e:i.toNat=j:=ar h;exact⟨by rw[seqIndex_of h0 g,e],by lia,by lia,g⟩
  .rw[if_neg g]at h;cases h
 .rw[if_neg h0]at h;by_cases g:-(n:Int)<=i
  .rw[if_pos g]at h;have e:(i+n).toNat=j:=ar h;exact⟨by rw[seqIndex_neg (by lia) g,e],by lia,g,by lia⟩
  .rw[if_neg g]at h;cases h
def R9{α:Type}{xs:List α}{i:Int}{v:α}(h:GO xs i=some v):∃j,seqIndex? i xs.length=some j/\xs[j]? = some v/\j<xs.length/\-(xs.length:Int)<=i/\i<xs.length:=by
 unfold GO at h;cases e:Na xs.length i with
 |none=>rw[e]at h;cases h
 |some j=>
  rw[e]at h;obtain⟨U,T,B,g⟩:=Wy e;exact⟨j,U,h,T,B,g⟩
def Kk{α:Type}{xs:List α}{j:Nat}{v:α}(h:xs[j]? = some v):GO xs (j:Int)=some v:=by
 have g:j<xs.length:=(aD.mp h).1;have e:Na xs.length (j:Int)=some j:=by
  unfold Na;rw[if_pos (by lia),if_pos (by lia)];simp
 unfold GO;rw[e];exact h
def eI{α:Type}(xs:List α)(v:α):GO (xs++[v]) (-1)=some v:=by
 have g:(xs++[v]).length=xs.length+1:=by simp
 have e:Na (xs++[v]).length (-1)=some xs.length:=by
  unfold Na;rw[g,if_neg (by decide),if_pos (by lia)]
  congr 1
  lia
 unfold GO;rw[e];show(xs++[v])[xs.length]? = some v;simp
def Se(b:Expr):Prop:=∀o i,subscripted b false o i=operate [o,i] (getItem o i)
def Pu(X:Cx)(r:R2):Prop :=
 ∀(value slice:Expr) (pins:List (AD×Obj)) (s:SD) (σ:St) (H:Hp) (x y:V) (v u:VL) (Q:VK),Inv X pins σ H s->RelV x v->RelV y u->r x y H Q ->
  subscripted slice false v u=operate [v,u] (getItem v u)->wpAny (model X.prog X.w) X.A (subscriptTail value slice v u) (EP X pins σ Q) X.xe s
def rT(X:Cx)(id:String)(r:V->List V->Hp->VK->Prop):Prop :=
 ∀(pins:List (AD×Obj)) (s:SD) (σ:St) (H:Hp) (x:V) (xs:List V) (v:VL) (us:List VL) (Q:VK),Inv X pins σ H s->RelV x v->Vals xs us->r x xs H Q ->
  wpAny (model X.prog X.w) X.A (call (.builtin id) (v::us)) (EP X pins σ Q) X.xe s
section
variable{X:Cx}{a b:Expr}{ta tb:TE}{pos:Pos}
def Pu.or{r T:R2}(h:Pu X r)(h':Pu X T):Pu X (fun x y H Q=>r x y H Q\/T x y H Q):=by
 intro value slice pins s σ H x y v u Q I B g q U;rcases q with q|q
 .exact h value slice pins s σ H x y v u Q I B g q U
 .exact h' value slice pins s σ H x y v u Q I B g q U
def Cv{r:R2}(U:Pu X r)(ha:PE X a ta)(Y:PE X b tb)(T:Se b):PE X (.Subscript a b pos) (Zg r ta tb):=by
 intro pins s σ H Q I h;exact Subscript_ (cW ha Y I h fun v u s2 x y H2 Z B g q=>U a b pins s2 σ H2 x y v u Q Z B g q (T _ _))
def kf(K:Fg):R2:=fun x y H Q=>∃p xs i v,x=.ref p/\y=.int i/\Aw K H p xs/\GO xs i=some v/\Q v H
def di(K:Fg):R2:=fun x y H Q=>∃p xs i v,x=.ref p/\y=.int i/\BN K H p xs/\GO xs i=some v/\Q v H
def ja:R2:=fun x y H Q=>∃z i c,x=.str z/\y=.int i/\z.length<=sizeLine/\GO z.cps.toList i=some c/\Q (.str ⟨#[c]⟩) H
def JV:Pu X (kf X.K):=by
 intro value slice pins s σ H x y v u Q I rx ry h Z;obtain⟨p,xs,i,z,rfl,rfl,hq,he,q⟩:=h;cases rx;obtain⟨t,rfl⟩:=ry;obtain⟨U,r,T,hz⟩:=I.list hq;obtain⟨j,g,h2,h3,h4,h5⟩:=R9 he;obtain⟨w,ew,B⟩:=r.get h2;have hl:=r.length;have hn:=OC;have fin:EP X pins σ Q w s:=⟨z,H,I,B,q⟩;by_cases h0:0<=i
 .have Y:i.toNat=j:=by
   rw[seqIndex_of h0 h5]at g;exact ar g
  exact item_listR T.isList h0 (by lia) (by rw[Y];simpa using ew) fin Z
 .have Y:(i+(U.toArray.size:Int)).toNat=j:=by
   rw[seqIndex_neg (by lia) h4]at g;rw[List.size_toArray,<-hl];exact ar g
  exact subscriptTail_builtinR (x:=w) T.isList.typeIs slot_list_getitem.lookup
   (wpAny_getItem_list_neg (Q:=fun r s'=>r=w/\EP X pins σ Q r s') T.isList (by lia) (by rw[List.size_toArray]<;>lia) (by lia) (by rw[Y];simpa using ew) ⟨rfl,fin⟩) Z
def Ff:Pu X (di X.K):=by
 intro value slice pins s σ H x y v u Q I Y U h hs;obtain⟨p,xs,i,z,rfl,rfl,hq,he,q⟩:=h;cases Y;obtain⟨t,rfl⟩:=U;obtain⟨Z,r,B,hz⟩:=I.tuple hq;obtain⟨j,h1,h2,h3,h4,h5⟩:=R9 he;obtain⟨w,ew,g⟩:=r.get h2;have hl:=r.length;have hn:=OC;have fin:EP X pins σ Q w s:=⟨z,H,I,g,q⟩;exact subscriptTail_builtinR (x:=w) B.typeIs slot_tuple_getitem.lookup
  (getItem_tuple (j:=j) (Q:=fun r T=>r=w/\EP X pins σ Q r T) B (by lia) (by lia) (by rw[List.size_toArray,<-hl];exact h1) (by simpa using ew) ⟨rfl,fin⟩) hs
def mS:Pu X ja:=by
 intro value slice pins s σ H x y v u Q I T B h U;obtain⟨z,i,c,rfl,rfl,hz,Z,q⟩:=h;obtain⟨t,rfl⟩:=T;obtain⟨t',rfl⟩:=B;obtain⟨j,g,h2,h3,h4,h5⟩:=R9 Z;have Y:z.cps.toList.length=z.length:=by simp[Str.length]
 rw[Y]at g h4 h5;have hn:=OC;exact tail_any (typeIs_str s z t) slot_str_getitem.lookup (getItem_str (c:=c) (by
  have e1:decide (i < -(2^63:Int))=false:=bR (by lia);have e2:decide (i >= 2^63)=false:=bR (by lia);rw[e1,e2,Bool.or_false]) (by rw[g];simpa using h2) ⟨.str ⟨#[c]⟩,H,I.tok _,⟨_,rfl⟩,q⟩) U
def rY(K:Fg):R2:=fun x y H Q=>kf K x y H Q\/di K x y H Q\/ja x y H Q
def mm:Pu X (rY X.K):=JV.or (Ff.or mS)
def YG(g:rz)(n j:Nat)(u:VL):Obj.mapSeq (·.setIfInBounds j u) { cls:=.type "list",data:=.seq g.toArray n}={ cls:=.type "list",data:=.seq (g.set j u).toArray n}:=by
 simp[Obj.mapSeq]
def Inv.lst{pins:List (AD×Obj)}{σ:St}{H:Hp}{s:SD}{p:AD}{xs:sQ}(I:Inv X pins σ H s)(h:H p=some (.lst xs)):∃(g:rz) (n:Nat),Vals xs g/\s.heap.get? p=some { cls:=.type "list",data:=.seq g.toArray n}/\xs.length<=sizeLine:=by
 obtain⟨z,g,n,r,e⟩:=I.BA p _ h;exact⟨g,n,r,e,z⟩
def Inv.mZ{pins:List (AD×Obj)}{σ:St}{H:Hp}{s:SD}{p:AD}{xs ys:sQ}{g its':rz}{n B:Nat}{f:Obj->Obj}(I:Inv X pins σ H s)(h:H p=some (.lst xs)) (U:s.heap.get? p=some { cls:=.type "list",data:=.seq g.toArray n})(T:f { cls:=.type "list",data:=.seq g.toArray n}={ cls:=.type "list",data:=.seq its'.toArray B})(r:Vals ys its')(hz:ys.length<=sizeLine)(t:Nat):Inv X pins σ (upd H p (.lst ys)) {s with heap:=s.heap.update p f,toks:=t}:=by
 have e:(s.heap.update p f).get? p=some { cls:=.type "list",data:=.seq its'.toArray B}:=by
  rw[Heap.get?_update_self f U (by rw[T]<;>rfl),T]
 refine I.write (x:=p) (e:=p) (by rw[h];trivial) (.inl rfl) (fun b u Y q=>(Heap.get?_update_other _ _ (Ne.symm Y)).trans q) ⟨_,e⟩ ?_;exact⟨hz,its',B,r,e⟩
def ox:V->V->V->Hp->(Hp->Prop)->Prop:=fun o i v H Q=>∃p xs k j,o=.ref p/\i=.int k/\H p=some (.lst xs)/\Na xs.length k=some j/\Q (upd H p (.lst (xs.set j v)))
def set_list:cV X ox:=by
 intro pins s σ H o i v ov iv u Q I ro ri rv h;obtain⟨p,xs,k,j,rfl,rfl,Z,hj,q⟩:=h;cases ro;obtain⟨t,rfl⟩:=ri;obtain⟨g,n,r,T,hz⟩:=I.lst Z;obtain⟨B,h2,h3,h4⟩:=Wy hj;have U:=r.length;have hn:=OC;have I':Inv X pins σ (upd H p (.lst (xs.set j v))) {s with heap:=s.heap.update p (Obj.mapSeq (·.setIfInBounds j u))} :=
  I.mZ Z T (YG g n j u) (r.set rv j) (by rw[List.length_set];exact hz) s.toks
 by_cases h0:0<=k
 .have Y:k.toNat=j:=by
   rw[seqIndex_of h0 h4]at B;exact ar B
  exact PySem.W.ki_setAt T h0 (by lia) (by rw[List.size_toArray,<-U];exact h4) (by rw[Y];exact⟨_,I',q⟩)
 .have Y:(k+(g.toArray.size:Int)).toNat=j:=by
   rw[seqIndex_neg (by lia) h3]at B;rw[List.size_toArray,<-U];exact ar B
  exact PySem.W.ki_setBack T (by lia) (by rw[List.size_toArray,<-U];exact h3) (by lia) (by rw[Y];exact⟨_,I',q⟩)
def Vx(lo hi:sN)(n:Nat):(sliceBounds lo hi none n).1=((HT.B3 n 0 lo:Nat):Int)/\(sliceBounds lo hi none n).2.1=((HT.B3 n n hi:Nat):Int)/\(sliceBounds lo hi none n).2.2=1:=by
 refine⟨?_,?_,rfl⟩
 .cases lo with
  |none=>simp[sliceBounds,HT.B3]
  |some i=>
   simp only[sliceBounds,HT.B3,Option.getD_none,show(1:Int) > 0 by decide,if_true];by_cases h:i<0
   .simp only[h,if_true]<;>lia
   .simp only[h,if_false]<;>lia
 .cases hi with
  |none=>simp[sliceBounds,HT.B3]
  |some i=>
   simp only[sliceBounds,HT.B3,Option.getD_none,show(1:Int) > 0 by decide,if_true];by_cases h:i<0
   .simp only[h,if_true]<;>lia
   .simp only[h,if_false]<;>lia
def UK(g:rz)(lo hi:sN):slicePick g.toArray lo hi none=((g.drop (HT.B3 g.length 0 lo)).take (HT.B3 g.length g.length hi-HT.B3 g.length 0 lo)).toArray:=by
 obtain⟨U,T,B⟩:=Vx lo hi g.toArray.size;unfold slicePick;rw[U,T,B];simp only[sliceRange_one,pick_run,List.size_toArray]<;>rfl
def qY(K:Fg):V->Option Int->Option Int->Hp->VK->Prop:=fun x lo hi H Q=>∃a xs,x=.ref a/\Aw K H a xs/\∀p,H p=none->Q (.ref p) (upd H p (.lst (Oq xs lo hi)))
def iO:WT X (qY X.K):=by
 intro pins s σ H x v vl vu lo hi sl Q I T hs Y U h;obtain⟨a,xs,rfl,hx,q⟩:=h;cases T;obtain⟨Z,r,B,hz⟩:=I.list hx;have g:=r.length;refine⟨"list",_,slot_list_getitem.lookup,B.isList.typeIs,?_⟩;refine wpAny_getItem_list_slice B.isList hs Y U .none (by simp) ?_ (by rw[List.size_toArray]<;>lia);rw[UK,<-g];refine⟨.ref s.heap.objs.size,_,I.laid (t':=s.toks) (o:=.lst (Oq xs lo hi)) (fun b ob q=>aE _ q) (aG _) ?_,rfl,q _ (I.BA.fresh (aG _))⟩;exact⟨aQ (P0 xs lo hi) hz,_,0,(r.drop (HT.B3 xs.length 0 lo)).take (HT.B3 xs.length xs.length hi-HT.B3 xs.length 0 lo),Heap.get?_push_size _ rfl⟩
def Gu:Ey X (.builtin "len") (fun xs H Q=>∃p ys,xs=[.ref p]/\(Aw X.K H p ys\/BN X.K H p ys)/\Q (.int ys.length) H):=by
 intro pins s σ H xs us Q I r h;obtain⟨p,ys,rfl,B,q⟩:=h;obtain⟨u,rfl,Z⟩:=vals1 r;cases Z;have hn:=OC;rcases B with B|B
 .obtain⟨Y,T,U,hz⟩:=I.list B;have g:=T.length;exact Calls.call_len_list U.isList (by simp only[List.size_toArray]<;>lia) ⟨.int ys.length,H,I.tok _,⟨s.toks+1,by rw[List.size_toArray,g]⟩,q⟩
 .obtain⟨Y,T,U,hz⟩:=I.tuple B;have g:=T.length;exact len_tuple U (by simp only[List.size_toArray]<;>lia) ⟨.int ys.length,H,I.tok _,⟨s.toks+1,by rw[List.size_toArray,g]⟩,q⟩
def Ey.or{f:VL}{r g:List V->Hp->VK->Prop}(h:Ey X f r)(h':Ey X f g):Ey X f (fun xs H Q=>r xs H Q\/g xs H Q):=by
 intro pins s σ H xs us Q I rs q;rcases q with q|q
 .exact h pins s σ H xs us Q I rs q
 .exact h' pins s σ H xs us Q I rs q
def VW:Ey X (.type "list") (fun xs H Q=>∃p ys,xs=[.ref p]/\(Aw X.K H p ys\/BN X.K H p ys)/\∀l,H l=none->Q (.ref l) (upd H l (.lst ys))):=by
 intro pins s σ H xs us Q I r h;obtain⟨p,ys,rfl,Y,q⟩:=h;obtain⟨u,rfl,rx⟩:=vals1 r;cases rx;have fin:∀(g:List VL),Vals ys g->ys.length<=sizeLine->∀(h':Heap) (T:Nat),(∀b o',s.heap.get? b=some o'->h'.get? b=some o') ->
   h'.get? s.heap.objs.size=some { cls:=.type "list",dict:=none,data:=.seq g.toArray T,slots:=#[]}->EP X pins σ Q (.ref s.heap.objs.size) {s with heap:=h'}:=fun g B U h' T kp e=>
  ⟨.ref s.heap.objs.size,_,I.laid (t':=s.toks) kp (aG _) (show Dj X.prog X.w _ h' _ (.lst ys) from⟨U,g,T,B,e⟩),rfl,q _ (I.BA.fresh (aG _))⟩
 rcases Y with Y|Y
 .obtain⟨g,B,pl,U⟩:=I.list Y;have Z:=B.length;obtain⟨o,ho,hc,n,hd⟩:=pl.isList;exact call_list_seq p (.inl rfl) ho hc hd (fun h' T kp e=>fin g B U h' T kp e) (by simp only[List.size_toArray]<;>lia)
 .obtain⟨g,B,pl,U⟩:=I.tuple Y;have Z:=B.length;obtain⟨o,ho,hc,n,hd⟩:=pl;exact call_list_seq p (.inr rfl) ho hc hd (fun h' T kp e=>fin g B U h' T kp e) (by simp only[List.size_toArray]<;>lia)
def UJ:Ey X (.type "tuple") (fun xs H Q=>∃p ys,xs=[.ref p]/\((Aw X.K H p ys/\∀l,H l=none->Q (.ref l) (upd H l (.tup ys)))\/(BN X.K H p ys/\Q (.ref p) H))):=by
 intro pins s σ H xs us Q I r h;obtain⟨p,ys,rfl,h⟩:=h;obtain⟨u,rfl,rx⟩:=vals1 r;cases rx;rcases h with ⟨U,q⟩|⟨U,q⟩
 .obtain⟨g,B,T,Y⟩:=I.list U;have Z:=B.length;refine call_tuple_list T.isList (fun h' kp=>?_) (by simp only[List.size_toArray]<;>lia);have I1:Inv X pins σ H {s with heap:=h'}:=I.kept (t':=s.toks) kp;have I2:Inv X pins σ (upd H h'.objs.size (.tup ys)) {s with heap:=h'.push { cls:=.type "tuple",data:=.seq g.toArray} } :=
   I1.laid (t':=s.toks) (fun b o e=>aE _ e) (aG _) (show Dj X.prog X.w _ _ _ (.tup ys) from⟨Y,g,B,IsTup.new _ _⟩)
  exact⟨.ref h'.objs.size,_,I2,rfl,q _ (I1.BA.fresh (aG _))⟩
 .obtain⟨g,B,T,Y⟩:=I.tuple U;exact call_tuple_same T ⟨.ref p,H,I,rfl,q⟩
def pH(K:Fg)(T:String)(x:V)(H:Hp):Prop:=match x with
 |.str _=>T = "str"
 |.int _=>T = "int"
 |.ref p=>(T = "list" /\ ∃xs,Aw K H p xs)\/(T = "tuple" /\ ∃o,K.lookup p=some o/\o.cls=.type "tuple" /\ o.dict=none) \/
   (T = "dict" /\((∃kvs,H p=some (.dK kvs))\/∃kvs,H p=some (.dT kvs)))\/(T = "set" /\ ∃S n,H p=some (.set S n))
 |_=>False
def mv{pins:List (AD×Obj)}{σ:St}{H:Hp}{s:SD}{T:String}{x:V}{v:VL}(I:Inv X pins σ H s)(r:RelV x v)(ty:pH X.K T x H):s.TypeIs v T/\∀a,v=.ref a->∃ob,s.heap.get? a=some ob/\ob.dict=none:=by
 cases x with
 |str z=>
  obtain⟨t,rfl⟩:=r;cases (show T = "str" from ty);exact⟨typeIs_str s z t,fun _ e=>nomatch e⟩
 |int i=>
  obtain⟨t,rfl⟩:=r;cases (show T = "int" from ty);exact⟨typeIs_int s i t,fun _ e=>nomatch e⟩
 |ref p=>
  cases r;rcases ty with ⟨rfl,xs,Z⟩|⟨rfl,o,g,hc,hd⟩|⟨rfl,g⟩|⟨rfl,S,n,g⟩
  .obtain⟨Y,_,U,_⟩:=I.list Z;refine⟨U.isList.typeIs,fun a e=>?_⟩;cases e;obtain⟨o,n,e,c,hd,_⟩:=U;exact⟨o,e,hd⟩
  .refine⟨⟨o,I.Jp p o g,hc⟩,fun a e=>?_⟩;cases e;exact⟨o,I.Jp _ o g,hd⟩
  .have z:∃o,s.heap.get? p=some o/\o.ExactDict:=by
    rcases g with ⟨kvs,g⟩|⟨kvs,g⟩
    .obtain⟨_,_,_,_,o,_,_,e,ex,_⟩:=I.BA p _ g;exact⟨o,e,ex⟩
    .obtain⟨_,_,_,_,o,_,_,e,ex,_⟩:=I.BA p _ g;exact⟨o,e,ex⟩
   obtain⟨o,e,ex⟩:=z;refine⟨⟨o,e,ex.1⟩,fun a B=>?_⟩;cases B;exact⟨o,e,ex.2.1⟩
  .obtain⟨o,_,_,_,e,ex,_⟩:=I.BA p _ g;refine⟨⟨o,e,ex.1⟩,fun a B=>?_⟩;cases B;exact⟨o,e,ex.2.1⟩
 |_=>exact False.elim ty
def mI(K:Fg)(T:String)(r:V->List V->Hp->VK->Prop)(B:TE)(t:TA):TE:=fun σ H Q=>B σ H fun x g=>pH K T x g/\t σ g fun xs U=>r x xs U Q
variable{o e:Expr}{es:sL}{to:TE}{t:TA}{name:Str}{apos cpos:Pos}{T id:String}{r:V->List V->Hp->VK->Prop}
def Hw(pa:PlainAttrs T)(slot:Slot T name id)(Z:typeOf (.builtin id)=pure (.type "method_descriptor"))(hm:rT X id r)(ho:PE X o to)(ha:PA X (e::es) t) (U:attributeBase o name X.env (eval o X.env)=eval o X.env:=by rfl) (Y:((backTo cpos (starEach (e::es) X.env)).all (fun x=>!x.1)&&(backToKw cpos (keywordEach [] X.env)).all (fun x=>x.1.isSome) && decide ((e::es).length+([]:List Keyword).length+(if([]:List Keyword).isEmpty then 0 else 1)<30))=true:=by rfl) (B:(apos.endLine==cpos.line)=true:=by rfl)(hs:starEach (e::es) X.env=(false,eval e X.env)::starEach es X.env:=by rfl)(g:(backTo cpos (starEach es X.env)).any (·.1)=false:=by rfl):PE X (.Call (.Attribute o name apos) (e::es) [] cpos) (mI X.K T r to t):=by
 intro pins s σ H Q I h;refine wpAny_Call_method_late U Y B rfl (Bc (ho pins s σ H _ I h) fun v s1 ⟨x,H1,I1,r1,ty,q1⟩=>?_);obtain⟨h1,h2⟩:=mv I1 r1 ty;refine⟨T,id,pa,slot,Z,h1,h2,?_⟩;have hA:=ha cpos pins s1 σ H1 _ I1 q1;rw[hs]at hA ⊢;refine Calls.callWith_builtin (by show(false||(backTo cpos (starEach es X.env)).any (·.1))=false;rw[g]<;>rfl) (Calls.evalArgs_plain ?_);exact Bc hA fun us s2 ⟨vs,H2,I2,r2,q2⟩=>hm pins s2 σ H2 x vs v us Q I2 r1 r2 q2
end
def pZ(X:Cx)(id:String)(r:V->List V->Hp->VK->Prop):Prop :=
 ∀(pins:List (AD×Obj)) (s:SD) (σ:St) (H:Hp) (x:V) (xs:List V) (v:VL) (us:List VL) (Q:VK),Inv X pins σ H s->RelV x v->Vals xs us->r x xs H Q ->
  wpAny (model X.prog X.w) X.A (call (.builtin id) (v::us)) (EP X pins σ Q) X.xe s
def Vals.one:∀ {x:V} {us:List VL},Vals [x] us->∃u,us=[u]/\RelV x u
 |_,_,.cons r .nil=>⟨_,rfl,r⟩
def Vals.two:∀ {x y:V} {us:List VL},Vals [x,y] us->∃u v,us=[u,v]/\RelV x u/\RelV y v
 |_,_,_,.cons r (.cons q .nil)=>⟨_,_,rfl,r,q⟩
def Vals.rep{xs:List V}{us:List VL}(h:Vals xs us):∀k:Nat,Vals (List.replicate k xs).flatten (List.replicate k us).flatten
 |0=>.nil
 |k+1=>by
  rw[List.replicate_succ,List.replicate_succ,List.flatten_cons,List.flatten_cons];exact Vals.append h (Vals.rep h k)
def foldl_rep(g:List VL):∀(k:Nat) (B:List VL),
  List.foldl (fun U T=>U++T) B.toArray (List.replicate k g.toArray)=(B++(List.replicate k g).flatten).toArray
 |0,B=>by simp
 |k+1,B=>by
  have e:B.toArray++g.toArray=(B++g).toArray:=by simp
  have Y:(B++g)++(List.replicate k g).flatten=B++(List.replicate (k+1) g).flatten:=by
   rw[List.replicate_succ,List.flatten_cons,List.append_assoc]
  rw[<-Y,<-foldl_rep g k (B++g),<-e,List.replicate_succ,List.foldl_cons]
section
variable{X:Cx}{pins:List (AD×Obj)}{σ:St}{H:Hp}{s:SD}{l:AD}{xs ys:sQ}
def Inv.jr{g its':rz}{n:Nat}{f:Array VL->Array VL}{t':Nat}(I:Inv X pins σ H s)(Z:H l=some (.lst xs)) (e:s.heap.get? l=some { cls:=.type "list",data:=.seq g.toArray n})(U:f g.toArray=its'.toArray)(B:Vals ys its')(hz:ys.length<=sizeLine):Inv X pins σ (upd H l (.lst ys)) {s with heap:=s.heap.update l (Obj.mapSeq f),toks:=t'}:=by
 have q:=PySem.IsL.update e f;rw[U]at q;refine I.write (x:=l) (e:=l) (by rw[Z];exact trivial) (.inl rfl) (fun b' u Y T=>(Heap.get?_update_other s.heap (Obj.mapSeq f) (Ne.symm Y)).trans T) ⟨_,q⟩ ?_;exact⟨hz,its',_,B,q⟩
def Inv.jW{g:rz}{t':Nat}(I:Inv X pins σ H s)(B:Vals ys g)(hz:ys.length<=sizeLine):Inv X pins σ (upd H s.heap.objs.size (.lst ys)) {s with heap:=s.heap.push { cls:=.type "list",data:=.seq g.toArray},toks:=t'} :=
 I.laid (fun _ _ q=>aE _ q) (aG _) ⟨hz,g,0,B,Heap.get?_push_size _ rfl⟩
def Inv.fresh(I:Inv X pins σ H s):H s.heap.objs.size=none:=I.BA.fresh (aG _)
def Inv.SU(I:Inv X pins σ H s)(B:H l=some (.lst xs)):xs.length<=sizeLine/\∃(g:rz) (n:Nat),Vals xs g/\xs.length=g.length/\s.heap.get? l=some { cls:=.type "list",data:=.seq g.toArray n}:=by
 obtain⟨z,g,n,r,e⟩:=I.BA l _ B;exact⟨z,g,n,r,r.length,e⟩
def VO{n:Nat}(h:n<=sizeLine):Builtin.List.listTooLong n=false:=by
 unfold Builtin.List.listTooLong;exact bR (by lia)
end
section
variable{X:Cx}
def Xi:V->List V->Hp->VK->Prop:=fun x vs H Q=>∃l xs y,x=.ref l/\vs=[y]/\H l=some (.lst xs)/\xs.length<sizeLine/\Q .B4 (upd H l (.lst (xs++[y])))
def FX:pZ X "list.append" Xi:=by
 intro pins s σ H x vs v us Q I U Y h;obtain⟨l,xs,y,rfl,rfl,T,hz,q⟩:=h;cases U;obtain⟨u,rfl,Z⟩:=Y.one;obtain⟨z,g,n,r,hl,e⟩:=I.SU T;refine call_meets F.slot_list_append ⟨_,e,rfl⟩ F.entry_list_append (F.args_list_append_2 _ _) (PySem.list_append l g.toArray n u (by rw[List.size_toArray];lia)) ⟨e,?_⟩;refine⟨.B4,_,I.jr (its':=g++[u]) T e (by simp) (r.append (.cons Z .nil)) ?_,rfl,q⟩;rw[List.length_append,List.length_singleton]
 lia
def Ws:V->List V->Hp->VK->Prop:=fun x vs H Q=>∃l b xs zs,x=.ref l/\vs=[.ref b]/\H l=some (.lst xs)/\H b=some (.lst zs)/\xs.length+zs.length<=sizeLine/\Q .B4 (upd H l (.lst (xs++zs)))
def Lh:pZ X "list.extend" Ws:=by
 intro pins s σ H x vs v us Q I rx rv h;obtain⟨l,b,xs,zs,rfl,rfl,Z,hB,hz,q⟩:=h;cases rx;obtain⟨u,rfl,ru⟩:=rv.one;cases ru;obtain⟨z,B,n,r,hl,e⟩:=I.SU Z;obtain⟨z2,g,n2,r2,hl2,e2⟩:=I.SU hB;have U:B.toArray.size+g.toArray.size<=sizeLine:=by rw[List.size_toArray,List.size_toArray];lia
 have T:¬(!B.toArray.isEmpty&&Builtin.List.listTooLong (B.toArray.size+g.toArray.size))=true:=by
  rw[VO U,Bool.and_false];exact aO
 refine call_meets F.slot_list_extend ⟨_,e,rfl⟩ F.entry_list_extend (F.args_list_extend_2 _ _)
  (AutoSeq1.list_extend_list_list_0 l B.toArray n b g.toArray n2 T (by rw[List.size_toArray];lia) (by lia)) ⟨e,e2,?_⟩
 refine⟨.B4,_,I.jr (its':=B++g) Z e (by simp) (r.append r2) ?_,rfl,q⟩;rw[List.length_append]
 lia
def ql:R2:=fun x y H Q=>∃l b xs zs,x=.ref l/\y=.ref b/\H l=some (.lst xs)/\H b=some (.lst zs)/\xs.length+zs.length<=sizeLine/\∀p,H p=none->Q (.ref p) (upd H p (.lst (xs++zs)))
def Zx:DC X (binaryOp .Add) ql:=by
 intro pins s σ H x y v u Q I U T h;obtain⟨l,b,xs,zs,rfl,rfl,hH,hB,hz,q⟩:=h;cases U;cases T;obtain⟨z,B,n,r,hl,e⟩:=I.SU hH;obtain⟨z2,g,n2,Y,Z,e2⟩:=I.SU hB;refine PySem.P.add_list e e2 ?_ (by rw[List.size_toArray,List.size_toArray];lia);have ea:B.toArray++g.toArray=(B++g).toArray:=by simp
 rw[ea];exact⟨.ref _,_,I.jW (t':=s.toks) (r.append Y) (by rw[List.length_append];lia),rfl,q _ I.fresh⟩
def qT:R2:=fun x y H Q=>∃l k xs,x=.ref l/\y=.int k/\H l=some (.lst xs)/\-(2^63)<=k/\k<2^63/\xs.length*k.toNat<=sizeLine /\
 ∀p,H p=none->Q (.ref p) (upd H p (.lst (List.replicate k.toNat xs).flatten))
def len_rep{α:Type}(xs:List α)(k:Nat):(List.replicate k xs).flatten.length=k*xs.length:=by
 induction k with
 |zero=>simp
 |succ k g=>rw[List.replicate_succ,List.flatten_cons,List.length_append,g,Nat.succ_mul,Nat.add_comm]
def cR:DC X (binaryOp .Mult) qT:=by
 intro pins s σ H x y v u Q I rx ry h;obtain⟨l,k,xs,rfl,rfl,hH,h1,h2,hz,q⟩:=h;cases rx;obtain⟨t,rfl⟩:=ry;obtain⟨z,g,n,r,hl,e⟩:=I.SU hH;have Z:g.toArray.size*k.toNat<=sizeLine:=by rw[List.size_toArray,<-hl];exact hz
 have hcap:¬g.toArray.size*k.toNat > (2^63-1) / 8:=by
  have:(sizeLine:Nat)<=(2^63-1) / 8:=by decide
  lia
 have hfit:¬(!Builtin.List.listFitsIndex k)=true:=by
  rw[fitsIndex_both h1 h2];exact aO
 have B:¬Builtin.List.listTooLong (g.toArray.size*k.toNat)=true:=by
  rw[VO Z];exact aO
 have Y:List.foldl (fun x1 x2=>x1++x2) #[] (List.replicate (if g.toArray.isEmpty=true then 0 else k.toNat) g.toArray)=(List.replicate k.toNat g).flatten.toArray:=by
  have f0:∀m:Nat,List.foldl (fun x1 x2=>x1++x2) #[] (List.replicate m g.toArray)=(List.replicate m g).flatten.toArray:=fun m=>by
   have:=foldl_rep g m [];rw[List.nil_append]at this;exact this
  rw[f0];cases g with
  |nil=>simp
  |cons a r'=>rw[if_neg (by simp)]
 refine wpAny_binaryOp_repeat_ref (T := "list") (U := "int") (by decide) ⟨_,e,rfl⟩ (fun s'=>typeIs_int s' k t) noFill_list_mul F.fills_int_mul F.slot_int_rmul repeat_list F.slot_int_index.lookup
  (call_meets F.slot_int_rmul (typeIs_int s k t) F.entry_int_rmul (F.args_int_rmul_2 _ _) (int___rmul___int_list k t l g.toArray n)
   ⟨e,rfl,⟨_,e,rfl⟩,call_meets F.slot_list_mul ⟨_,e,rfl⟩ F.entry_list_mul (F.args_list_mul_2 _ _) (AutoListH.list___mul___list_int_3 l g.toArray n k t hfit hcap B) ⟨e,?_⟩⟩)
 rw[Y];exact⟨.ref _,_,I.jW (t':=s.toks) (r.rep k.toNat) (by rw[len_rep,Nat.mul_comm];exact hz),rfl,q _ I.fresh⟩
end
end L2
namespace Att
open PySem PySem.W PySem.Calls PyProof.Rows
def RF{P:Params}{h:Heap}:∀(ns:sI) (vs:rz),WellAll P h vs (ns.map WData.int)->IntsAre vs ns:=by
 intro ns
 induction ns with
 |nil=>
  intro vs w;rw[List.map_nil]at w;cases w;exact .nil
 |cons n ns g=>
  intro vs w;rw[List.map_cons]at w;cases w with
  |cons a b=>
   cases a;exact .cons _ _ (g _ b)
def Zb{l:OpenLaw}{n:Nat}(hn:l.most=some n){P:Params}{h:Heap}{args:List WData}{vals:rz} (g:l.row.toRowW.claim.pre args=true)(Z:WellAll P h vals args):∃a vs ns,vals=[Value.ref a]/\args=[WData.list (ns.map WData.int)]/\h.get? a=some { cls:=.type "list",data:=.seq vs.toArray}/\IntsAre vs ns/\ns.length<=n:=by
 have hsh:WShape.hasAll [] args [.list .int]=true:=(pre_splitW g).1;have hc:l.pre.holds [] { args:=args}=true:=(pre_splitW g).2;obtain⟨d,r,rfl,h1,h2⟩:=hasAllW_cons hsh;obtain rfl:=hasAllW_nil h2;obtain⟨xs,rfl,h3⟩:=hasW_list h1;obtain⟨ns,rfl⟩:=items_int h3;have B:ns.length<=n:=by
  unfold OpenLaw.pre at hc;have Y:(WTm.not (.lt (.lit (.int (n:Int))) (.len (.arg 0)))).holds [] { args:=[.list (ns.map .int)]}=true:=by
   have Y:=(holds_andW hc).1;rw[hn]at Y;exact Y
  have U:=condW_of Y (w_not (w_lt w_lit (w_len_list (w_arg rfl))));rw[List.length_map]at U;refine Nat.le_of_not_lt fun q=>?_;have q':(n:Int)<((ns.length:Nat):Int):=by lia
  first
   |(rw[decide_eq_true q']at U;exact absurd U (by decide))
   |(simp at U;lia)
 cases Z with
 |cons w1 w2=>
  cases w2;cases w1 with
  |list ho T=>exact⟨_,_,ns,rfl,rfl,ho,RF ns _ T,B⟩
def bp(l:OpenLaw)(args:List WData):l.row.toRowW.claim.post args (.bool true) args=true :=
 postW_of (r:=l.row.toRowW) (X:=(true==true))
  (show WShape.has [] (.bool true) .bool=true by first|rfl|decide|simp[WShape.has,WShape.arms,WShape.armsAll])
  (show(WTm.eq .res (.lit (.bool true))).value [] { args:=args,res:=some (.bool true),after:=args}=some (.bool (true==true)) from w_eq_bool (w_res rfl) w_lit) rfl
def Wm{l:OpenLaw}{n:Nat}{q:Program}{loose:sJ}{XP:(sD)->Heap->Prop}{YP:World->Heap->Prop}{d:DefRec} (hn:l.most=some n)(hdf:d.params.defaults=[]) (call:∀(w:World) (s₀ g:SD) (mg mb:sD) (Z:AD) (o:Obj) (pm cd doc:VL) (a:AD) (vs:rz) (ns:sI),Ground q loose [] XP w s₀ mg mb g.heap->YP w g.heap ->g.heap.get? Z=some o->o.data=.func (docDef d.name d.params d.body d.scope pm cd doc)->g.heap.CodeRec cd d.name->mg d.name=some (.ref Z) ->g.heap.get? a=some { cls:=.type "list",data:=.seq vs.toArray}->IntsAre vs ns->ns.length<=n->g.gens=#[] ->codeAny (model l.prog w) callerA (.call (.ref Z) ⟨[.ref a],[]⟩) (fun r s'=>r=.ok (.ret (.bool true))/\OldK g.heap s'.heap/\s'.os=g.os/\AllBare s'.gens) g):WalkO q loose XP YP l.row.toRowW d [] (fun f vs=>PySem.call f vs):=by
 intro w s₀ g mg mb G Y Z o pm cd doc dV kV ho hd hcd hD hmg hg args vals as B hlay hrd hwl hlo;obtain rfl:dV=.none:=Dflts.none hD hdf;obtain rfl:kV=.none:=Dflts.noKw hD;obtain⟨a,vs,ns,rfl,rfl,T,hints,U⟩:=Zb hn B hwl;refine enter_call (codeAny_mono (call w s₀ g mg mb Z o pm cd doc a vs ns G Y ho (fd_plain hd) hcd hmg T hints U hg) fun r s' hq=>?_);obtain⟨rfl,h2,h3,h4⟩:=hq;exact⟨.inl ⟨.bool true,.bool true,[],rfl,fun _=>rfl,.bool true,bp l _,fun _=>⟨List.Pairwise.nil,fun _ hm=>(nomatch hm)⟩⟩,h2,h3,h4⟩
end Att
namespace L2
open PySem PySem.Spec PyProof.Rows
def TN:∀ {vs:List VL} {ns:List Int},IntsAre vs ns->Vals (ns.map V.int) vs
 |_,_,.nil=>.nil
 |_,_,.cons n t h=>.cons ⟨t,rfl⟩ (TN h)
def eE(H:Hp):Prop:=∀b,H b=none\/∃o xs,H b=some (.Hf o (.lst xs))
def dj{P:Program}{w:World}{K:Fg}{mg mb:sD}{CX:I0}{k:Nat}{fa a:AD}{fd:FuncData}{x:Str}{sp:Sp}{g:SD}{vs:rz}{ns:sI} (KX:K.In g.heap)(hns:g.heap.Ns mainGlobals mg)(B:g.heap.Ns builtinsNs mb)(hbb:∀x:Str,x ≠ "__name__" -> mb x=bootBuiltins x)(hlim:g.heap.NoLimit)(hg:g.gens=#[]) (ha:g.heap.get? a=some { cls:=.type "list",data:=.seq vs.toArray})(hi:IntsAre vs ns)(hl:ns.length<=sizeLine)(hr:EX k callerA) (F:∀base:Heap,K.In base->base.Ns mainGlobals mg->AK P w K mg base CX k fa fd [x] sp)(U:∀(s:SD) (u:VL),BindsTo s fd ⟨[u],[]⟩ [(x,u)]) (hsp:∀H:Hp,eE H->Aw K H a (ns.map V.int)->sp [.ref a] H (fun v _=>v=.bl true) fun _ _ _=>False) (hCX:∀H e s',CX [] H g (fun _ _ _=>False) e s'->False):codeAny (model P w) callerA (.call (.ref fa) ⟨[.ref a],[]⟩) (fun r s'=>r=.ok (.ret (.bool true))/\OldK g.heap s'.heap/\s'.os=g.os/\AllBare s'.gens) g:=by
 have rv:=TN hi;have Z:=hi.length;have core:∀H:Hp,eE H->Aw K H a (ns.map V.int)->Fq P w H g.heap->(∀b,H b≠none->b=a)->(H a≠none->K.lookup a=none) ->
   codeAny (model P w) callerA (.call (.ref fa) ⟨[.ref a],[]⟩) (fun r s'=>r=.ok (.ret (.bool true))/\OldK g.heap s'.heap/\s'.os=g.os/\AllBare s'.gens) g:=by
  intro H hO hS BA hA hK;have base_of:∀ {b:AD} {o:Obj},g.heap.get? b=some o->H b=none->(ND g.heap H).get? b=some o:=fun e n=>eR e n;have noA:∀ {b:AD} {o:Obj} {es:Array DictEntry} {ep:Nat},g.heap.get? b=some o->o.data=.dict es ep->H b=none:=fun {b o es ep} e d=>by
   cases q:H b with
   |none=>rfl
   |some u=>
    have e':b=a:=hA b (by rw[q];simp);subst e';rw[ha]at e;cases e;have d':Data.seq vs.toArray _=Data.dict es ep:=d;cases d'
  have T:∀ {b:AD} {m:Str->Option VL},g.heap.Ns b m->(ND g.heap H).Ns b m:=fun {b m} ⟨o,es,ep,e,d,r⟩=>⟨o,es,ep,base_of e (noA e d),d,r⟩;have hKb:K.In (ND g.heap H):=fun b o e=>base_of (KX b o e) (by
   cases q:H b with
   |none=>rfl
   |some u=>
    have e':b=a:=hA b (by rw[q];simp);subst e';rw[hK (by rw[q];simp)]at e;cases e)
  have hM:Mod K mg (ND g.heap H):=⟨hKb,T hns,⟨mb,T B,hbb⟩,let⟨mc,h1,h2⟩:=hlim;⟨mc,T h1,h2⟩⟩;have e0:X7 P w K mg (ND g.heap H) callerA [] g H:=⟨rfl,hM,fun b o e=>gZ e,Nat.le_of_eq (Zn _ _),trivial,fun b B=>absurd (show b∈([]:List AD) from B) (by simp),BA,.of_eq hg⟩;refine codeAny_mono ((F _ hKb (T hns)).run callerA [] g H ⟨[.ref a],[]⟩ [.ref a] [.ref a] _ _ hr e0 (U g (.ref a)) (.cons rfl .nil) (hsp H hO hS)) fun r s' h=>?_;cases r with
  |error e=>exact(hCX H e s' h).elim
  |ok fl=>
   cases fl with
   |next=>exact False.elim h
   |brk=>exact False.elim h
   |cont=>exact False.elim h
   |ret u=>
    obtain⟨v,H',os,bare,un,hok',r',q⟩:=h;have q':v=.bl true:=q;subst q';obtain rfl:u=Value.bool true:=r';refine⟨rfl,OldK.of_keep fun b o e=>?_,os,bare⟩;cases q:H b with
    |none=>exact un.keep b o e q (by intro z;exact absurd (show b∈([]:List AD) from z) (by simp)) (by simp)
    |some u=>
     rcases hO b with z|⟨ob,xs,z⟩
     .rw[q]at z;cases z
     .have z2:=un.MH b ob _ z;obtain⟨e1,_⟩:=BA b _ z;obtain⟨e2,_⟩:=hok' b _ z2;rw[e]at e1;cases e1;exact e2
 cases hk:K.lookup a with
 |some o=>
  have e:=KX a o hk;rw[ha]at e;cases e;refine core (fun _=>none) (fun _=>.inl rfl) (.inr ⟨_,vs.toArray,_,hk,rfl,rfl,rfl,by rw[List.size_toArray,Z];exact hl,by simpa using rv⟩) (fun b u z=>by have Y:(none:Option HO)=some u:=z;cases Y) (fun b z=>absurd rfl z) fun z=>absurd rfl z
 |none=>
  refine core (fun b=>if b=a then some (.Hf { cls:=.type "list",data:=.seq vs.toArray} (.lst (ns.map V.int))) else none) (fun b=>?_) (.inl (.inr ⟨{ cls:=.type "list",data:=.seq vs.toArray},if_pos rfl⟩)) (fun b u z=>?_) (fun b z=>?_) fun _=>hk
  .by_cases B:b=a
   .exact .inr ⟨_,_,if_pos B⟩
   .exact .inl (if_neg B)
  .by_cases B:b=a
   .have Y:=(if_pos B).symm.trans z;cases Y;subst B;exact⟨ha,by rw[List.length_map];exact hl,vs,_,rv,ha⟩
   .have Y:=(if_neg B).symm.trans z;cases Y
  .by_cases B:b=a
   .exact B
   .exact absurd (if_neg B) z
def iq{l:PySem.W.OpenLaw}{n k:Nat}{q:Program}{loose:sJ}{XP:(sD)->Heap->Prop}{YP:World->Heap->Prop}{d:DefRec}{K:Params->Fg}{CX:World->I0}{sp:World->Sp}{x:Str} (hn:l.most=some n)(hn2:n<=sizeLine)(hdf:d.params.defaults=[])(hr:EX k callerA) (hY:∀(w:World) (h:Heap),YP w h->(K w.params).In h) (F:∀(w:World) (mg:sD) (fa:AD) (h:Heap),(K w.params).In h->h.Ns mainGlobals mg->mg d.name=some (.ref fa) ->∃fd:FuncData,(∀(s:SD) (u:VL),BindsTo s fd ⟨[u],[]⟩ [(x,u)]) /\∀base:Heap,(K w.params).In base->base.Ns mainGlobals mg->AK l.prog w (K w.params) mg base (CX w) k fa fd [x] (sp w)) (hsp:∀(w:World) (H:Hp) (a:AD) (ns:sI),ns.length<=n->eE H->Aw (K w.params) H a (ns.map V.int)->sp w [.ref a] H (fun v _=>v=.bl true) fun _ _ _=>False) (hCX:∀(w:World) (H:Hp) (s:SD) (e:VL) (s':SD),CX w [] H s (fun _ _ _=>False) e s'->False):PySem.W.WalkO q loose XP YP l.row.toRowW d [] (fun f vs=>PySem.call f vs):=by
 refine Att.Wm hn hdf fun w s₀ U mg mb fa o pm cd doc a vs ns G Y ho hd hcd hmg Z hints B hg=>?_;have KX:=hY w _ Y;obtain⟨fd,hb,hF⟩:=F w mg fa _ KX G.T.g hmg;exact dj KX G.T.g G.T.b G.T.builtins G.T.nolimit hg Z hints (aQ B hn2) hr hF hb (fun H hO hS=>hsp w H a ns B hO hS) fun H e s'=>hCX w H U e s'
def HM(s:Stmt):Arguments:=match s with
 |.FunctionDef _ a _ _ _ _ _ _ _ _=>a
 |_=>{ posonlyargs:=[],args:=[],vararg:=none,kwonlyargs:=[],kw_defaults:=[],kwarg:=none,defaults:=[]}
def EO(s:Stmt):sT:=match s with
 |.FunctionDef _ _ b _ _ _ _ _ _ _=>b
 |_=>[]
def AO(s:Stmt):Scope:=match s with
 |.FunctionDef _ _ _ _ _ _ sc _ _ _=>sc
 |_=>{ kind:=.function,names:=[],isGenerator:=false,isCoroutine:=false}
abbrev AZ:I0:=fun _ _ _ _ _ _=>False
abbrev E0:XK:=fun _ _ _=>False
def oa{X:Cx}:Passes AZ X E0:=fun _ _ _ _ _ _ _ h=>h.elim
structure Xy(K:Fg)(x qual:Str)(st:Stmt)(f:Addr)(fd:FuncData):Prop where
 ex:∃(oc:Value) (od:Option Addr) (kV doc pm:Value) (an:Option Addr) (cdv ct:Value) (osl:Array (Option Value)),
  fd=PySem.W.fnOf x qual (HM st) (EO st) (AO st) .none kV doc pm an cdv ct/\K.lookup f=some ⟨oc,od,.func fd,osl⟩/\PySem.W.codeIn K cdv qual=true
 kp:PySem.W.keepIn K (.ref f)=true
section
variable{P:Program}{w:World}{K:Fg}{mg:sD}{base:Heap}
def Xy.ok{x qual:Str}{st:Stmt}{f:AD}{fd:FuncData}{N ps:sJ}{k:Nat}{sp:Sp}(F:Xy K x qual st f fd)(S:Af N ps (AO st))(len:∀vs H Q E,sp vs H Q E->vs.length=ps.length) (g:∀(cdv:VL) (A:Around) (outer:sU) (s:SD) (H:Hp) (vs:sQ) (Q:VK) (E:XK),EX k (A.deeper (envOfC qual (AO st) s.heap.objs.size f cdv))->sp vs H Q E ->∃t,LC (MM AZ P w K mg base N qual (AO st) f cdv A outer s H E).TB (EO st) t/\t { nx:=fun _ H'=>Q .B4 H',rt:=Q} (start N vs) H):AK P w K mg base AZ (k+1) f fd ps sp:=by
 obtain⟨oc,od,kV,doc,pm,an,cdv,ct,osl,rfl,U,T⟩:=F.ex;refine oY U T S len fun A outer s H vs Q E Y B=>?_;obtain⟨t,h,q⟩:=g cdv A outer s H vs Q E Y B;exact⟨t,h.TB,q⟩
def Xy.binds{x qual:Str}{st:Stmt}{f:AD}{fd:FuncData}{ps:sJ}(F:Xy K x qual st f fd) (h:∀(kV doc pm:VL) (an:Option AD) (cdv ct:VL) (us:rz),us.length=ps.length->bindArgs (PySem.W.fnOf x qual (HM st) (EO st) (AO st) .none kV doc pm an cdv ct) ⟨us,[]⟩=pure (ps.zip us)):Binds K fd ps []:=by
 obtain⟨oc,od,kV,doc,pm,an,cdv,ct,osl,rfl,B,g⟩:=F.ex;exact .all (h kV doc pm an cdv ct)
def Zj{x qual:Str}{st:Stmt}{f:AD}{oc:VL}{od an:Option AD}{osl:Array (Option VL)}{kV doc pm cdv ct:VL}(l:K.lookup f=some ⟨oc,od,.func (PySem.W.fnOf x qual (HM st) (EO st) (AO st) .none kV doc pm an cdv ct),osl⟩) (c:PySem.W.codeIn K cdv qual=true)(k:PySem.W.keepIn K (.ref f)=true):Xy K x qual st f (PySem.W.fnOf x qual (HM st) (EO st) (AO st) .none kV doc pm an cdv ct):=⟨⟨oc,od,kV,doc,pm,an,cdv,ct,osl,rfl,l,c⟩,k⟩
end
def Tx{n:Nat}(h:n<=1000):n<sizeLine:=aP h (by decide)
section
variable{X:Cx}
def pv(i:Nat){x:Str}{pos:Pos}(T:X.N[i]? = some x:=by rfl)(B:nI X.env.scope x:=by first|exact Or.inl rfl|exact Or.inr (Or.inl rfl)|exact Or.inr (Or.inr rfl))(hd:(x==("__debug__" : Str))=false:=by decide) (g:(x==("__classdict__" : Str))=false:=by decide):PE X (.Name x pos) (Oz i):=ly T B hd g
end
def p0{A B:Prop}(h:B):if false=true then A else B:=by
 rw[if_neg aO];exact h
def JW{A B:Prop}(h:A):if true=true then A else B:=by
 rw[if_pos rfl];exact h
def Ij{c A B:Prop}[Decidable c](T:c->A)(g:¬c->B):if c then A else B:=by
 by_cases h:c
 .rw[if_pos h];exact T h
 .rw[if_neg h];exact g h
def AL(H H':Hp):Prop:=∀b o,H b=some o->H' b=some o
def AL.refl(H:Hp):AL H H:=fun _ _ h=>h
def AL.trans{H B g:Hp}(a:AL H B)(b:AL B g):AL H g:=fun c o h=>b c o (a c o h)
def AL.seq{K:Fg}{H H':Hp}{a:AD}{xs:sQ}(e:AL H H')(h:Aw K H a xs):Aw K H' a xs:=by
 rcases h with (h|⟨o,h⟩)|h
 .exact .inl (.inl (e _ _ h))
 .exact .inl (.inr ⟨o,e _ _ h⟩)
 .exact .inr h
section
variable{X:Cx}
def NX(i j:Int):Prop:=∃m:Nat,m<=1000000/\i.natAbs<2^m/\j.natAbs<2^m
def NX.ok{i j:Int}(h:NX i j):IntMulOk i j:=by
 obtain⟨m,hm,B,g⟩:=h;exact IntMulOk.of_le (intBits_le_iff.mpr B) (intBits_le_iff.mpr g) (by lia)
def C9:DC X (binaryOp .Mult) (rI (fun i j=>Qn i j\/NX i j) fun i j=>.int (i*j)) :=
 X2 fun _ _ _ _ _ _ _ g q=>mul_int q (g.elim (fun z=>z.ok) fun z=>z.ok)
def nY(_i j:Int):Prop:=j≠0/\∃m:Nat,m<=9000/\j.natAbs<2^m
def GI:DC X (binaryOp .FloorDiv) (rI nY fun i j=>.int (i.fdiv j)):=X2 fun i j _ _ _ _ _ B q=>by
 obtain⟨h0,m,hm,T⟩:=B;refine floordiv_int h0 q (.inl (PyProof.noPylong_of_log2 ?_));have g:j.natAbs≠0:=by lia
 have:j.natAbs.log2<m:=(Nat.log2_lt g).mpr T
 lia
mutual
def Br(K:Fg)(H:Hp):PD->V->Prop
 |.none,v=>v=.B4
 |.bool b,v=>v=.bl b
 |.int i,v=>v=.int i
 |.str x,v=>v=.str x
 |.tuple g,v=>∃a xs,v=.ref a/\BN K H a xs/\HU K H g xs
 |.list g,v=>∃a xs,v=.ref a/\Aw K H a xs/\HU K H g xs
 |.dict _,_=>False
def HU(K:Fg)(H:Hp):List PD->List V->Prop
 |[],xs=>xs=[]
 |d::g,xs=>∃x r,xs=x::r/\Br K H d x/\HU K H g r
end
mutual
def Br.reads{pins:List (AD×Obj)}{σ:St}{H:Hp}{s:SD}(I:Inv X pins σ H s):∀ {d:PD} {v:V} {u:VL},Br X.K H d v->RelV v u->∃as,Reads s.heap u d as
 |.none,_,u,h,r=>by rw[Br]at h;subst h;cases r;exact⟨_,.none⟩
 |.bool b,_,u,h,r=>by rw[Br]at h;subst h;cases r;exact⟨_,.bool b⟩
 |.int i,_,u,h,r=>by rw[Br]at h;subst h;obtain⟨t,rfl⟩:=r;exact⟨_,.int i t⟩
 |.str x,_,u,h,r=>by rw[Br]at h;subst h;obtain⟨t,rfl⟩:=r;exact⟨_,.str x t⟩
 |.tuple ds,_,u,h,r=>by
  rw[Br]at h;obtain⟨a,xs,Z,Y,U⟩:=h;subst Z;cases r;obtain⟨T,g,⟨o,e,c,n,hd⟩,_⟩:=I.tuple Y;obtain⟨as,B⟩:=HU.reads I U g;exact⟨_,.tuple e c hd (by simpa using B)⟩
 |.list ds,_,u,h,r=>by
  rw[Br]at h;obtain⟨a,xs,Z,Y,U⟩:=h;subst Z;cases r;obtain⟨T,g,⟨o,n,e,c,_,hd⟩,_⟩:=I.list Y;obtain⟨as,B⟩:=HU.reads I U g;exact⟨_,.list e c hd (by simpa using B)⟩
 |.dict _,_,_,h,_=>by rw[Br]at h;exact h.elim
def HU.reads{pins:List (AD×Obj)}{σ:St}{H:Hp}{s:SD}(I:Inv X pins σ H s):∀ {ds:List PD} {xs:List V} {us:List VL},HU X.K H ds xs->Vals xs us->∃as,ReadsAll s.heap us ds as
 |[],_,us,h,r=>by rw[HU]at h;subst h;cases r;exact⟨_,.nil⟩
 |_::_,_,us,h,r=>by
  rw[HU]at h;obtain⟨x,q,e1,Z,Y⟩:=h;subst e1;cases r with
  |cons U T=>
   obtain⟨as,B⟩:=Br.reads I Z U;obtain⟨bs,g⟩:=HU.reads I Y T;exact⟨_,.cons B g⟩
end
def cz(K:Fg)(neg:Bool):R2:=fun x y H Q=>∃d e,Br K H d x/\Br K H e y/\SeqAt.shaped d=true/\SeqAt.shaped e=true/\Q (.bl (if neg then !PyData.eqv d e else PyData.eqv d e)) H
def kE(Y:X.A.units+64<cLine):DC X (compareOp .Eq) (cz X.K false):=by
 intro pins s σ H x y v u Q I B g h;obtain⟨d,e,h1,Z,s1,s2,q⟩:=h;obtain⟨as,U⟩:=Br.reads I h1 B;obtain⟨bs,T⟩:=Br.reads I Z g;exact eq_dataH U T s1 s2 Y ⟨.bl _,H,I,rfl,q⟩
def nB(Y:X.A.units+64<cLine):DC X (compareOp .NotEq) (cz X.K true):=by
 intro pins s σ H x y v u Q I B g h;obtain⟨d,e,h1,Z,s1,s2,q⟩:=h;obtain⟨as,U⟩:=Br.reads I h1 B;obtain⟨bs,T⟩:=Br.reads I Z g;exact ne_dataH U T s1 s2 Y ⟨.bl _,H,I,rfl,q⟩
end
end L2
namespace L2
open PySem PySem.Spec PyProof.Rows
def L3(X:Cx)(g:sL)(t:TT):Prop :=
 ∀(pins:List (AD×Obj)) (s:SD) (σ:St) (H:Hp) (Q:Bool->Hp->Prop),Inv X pins σ H s->t σ H Q ->
  wpAny (model X.prog X.w) X.A (forIn g true fun c r=>if r=true then do let ok <-isTrue c X.env (eval c X.env);pure (ForInStep.yield ok) else pure (ForInStep.yield r)) (TP X pins σ Q) X.xe s
def HR:TT:=fun _ H Q=>Q true H
def Er{X:Cx}:L3 X [] HR:=fun _ _ σ H _ I h=>wpAny_tests_nil ⟨H,I,h⟩
def ig{X:Cx}{c:Expr}{t:TT}(h:PT X c t):L3 X [c] t:=by
 intro pins s σ H Q I g;simp only[List.forIn_cons,List.forIn_nil,if_true];refine Wb (Wb (Bc (h pins s σ H Q I g) fun b s1 q=>?_));exact aA (aA q)
def F0(N B:List Str)(sc g:Scope):List (Option Nat)->Nat->Bool
 |[],_=>true
 |none::r,i=>F0 N B sc g r (i+1)
 |some j::r,i=>(match N[i]?,B[j]? with
   |some n,some m=>n==m&&sc.names.lookup n==some .free&&g.names.lookup n==some .cell
   |_,_=>false)&&F0 N B sc g r (i+1)
def Qf{N U:List Str}{sc g:Scope}:∀ {fr:List (Option Nat)} {k:Nat},F0 N U sc g fr k=true->∀ {i j:Nat},fr[i]? = some (some j) ->
  ∃n,N[k+i]? = some n/\U[j]? = some n/\sc.names.lookup n=some .free/\g.names.lookup n=some .cell
 |[],_,_,i,j,e=>by simp at e
 |none::r,k,h,0,j,e=>by simp at e
 |none::r,k,h,i+1,j,e=>by
  have q:=Qf (fr:=r) (k:=k+1) h (i:=i) (j:=j) (by simpa using e);have z:k+(i+1)=k+1+i:=by lia
  rw[z];exact q
 |some T::r,k,h,0,j,e=>by
  have e':T=j:=by simpa using e
  subst e';rw[F0,Bool.and_eq_true]at h;have B:=h.1;split at B
  .rename_i n m hn hm;simp only[Bool.and_eq_true,beq_iff_eq]at B;obtain⟨⟨rfl,Z⟩,Y⟩:=B;exact⟨n,by simpa using hn,hm,Z,Y⟩
  .cases B
 |some T::r,k,h,i+1,j,e=>by
  rw[F0,Bool.and_eq_true]at h;have q:=Qf (fr:=r) (k:=k+1) h.2 (i:=i) (j:=j) (by simpa using e);have z:k+(i+1)=k+1+i:=by lia
  rw[z];exact q
def carry(fr:sW)(σ:St):St:=fr.map fun o=>match o with
 |some j=>(σ[j]?).join
 |none=>none
def a6{fr:sW}{σ:St}{i:Nat}{v:V}(h:(carry fr σ)[i]? = some (some v)):∃j,fr[i]? = some (some j)/\σ[j]? = some (some v):=by
 unfold carry at h;rw[List.getElem?_map]at h;cases e:fr[i]? with
 |none=>rw[e]at h;cases h
 |some o=>
  rw[e]at h;cases o with
  |none=>simp at h
  |some j=>
   refine⟨j,rfl,?_⟩;simp only[Option.map_some,Option.some.injEq]at h;cases q:σ[j]? with
   |none=>rw[q]at h;cases h
   |some w=>rw[q]at h;simp at h;rw[h]
def HI{env:Env}:∀(names:List (Str×NameKind)) (cs:List (Str×AD)),(∀x∈names,x.2=NameKind.free->∃c,env.cells.lookup x.1=some c)->(∀x c,cs.lookup x=some c->env.cells.lookup x=some c) ->
  ∃cl,(forIn names cs (fun(x:Str×NameKind) (r:List (Str×AD))=>do if(x.2==NameKind.free)=true then do let a <-cellOf env x.1;pure (ForInStep.yield ((x.1,a)::r)) else pure (ForInStep.yield r)):Sem (List (Str×AD)))=pure cl /\
   (∀x c,cl.lookup x=some c->env.cells.lookup x=some c)/\(∀x,(∃c,cs.lookup x=some c)->∃c,cl.lookup x=some c)/\∀x∈names,x.2=NameKind.free->∃c,cl.lookup x.1=some c
 |[],cs,_,Z=>⟨cs,rfl,Z,fun _ q=>q,fun _ z=>(by cases z)⟩
 |(n,k)::r,cs,h1,Z=>by
  rw[List.forIn_cons];by_cases U:(k==NameKind.free)=true
  .obtain⟨c,hc⟩:=h1 (n,k) aZ (by simpa using U);have h2':∀x B,((n,c)::cs).lookup x=some B->env.cells.lookup x=some B:=fun x B e=>by
    rw[List.lookup_cons]at e;cases g:x==n with
    |true=>rw[g]at e;have:=beq_iff_eq.mp g;subst this;simp at e;rw[<-e];exact hc
    |false=>rw[g]at e;exact Z x B e
   obtain⟨cl,q1,q2,T,q4⟩:=HI r ((n,c)::cs) (fun x g=>h1 x (aU _ g)) h2';have hn:∃B,cl.lookup n=some B:=T n ⟨c,by rw[List.lookup_cons,beq_self_eq_true]⟩;refine⟨cl,?_,q2,fun x g=>?_,fun x g Y=>?_⟩
   .simp only[U,if_true];unfold cellOf;rw[hc];exact q1
   .refine T x ?_;rw[List.lookup_cons];cases hxn:x==n with
    |true=>exact⟨c,rfl⟩
    |false=>exact g
   .rcases aN.mp g with e|g
    .subst e;exact hn
    .exact q4 x g Y
  .obtain⟨cl,q1,q2,T,q4⟩:=HI r cs (fun x g=>h1 x (aU _ g)) Z;refine⟨cl,?_,q2,T,fun x g Y=>?_⟩
   .simp only[U];exact q1
   .rcases aN.mp g with e|g
    .subst e;exact absurd (by simpa using Y) U
    .exact q4 x g Y
def A9(X:Cx)(scope:Scope)(cl:List (Str×AD))(N:sJ)(C:AD)(s₀:SD)(H₀:Hp)(fp:sS):Cx where
 prog:=X.prog
 w:=X.w
 K:=X.K
 mg:=X.mg
 base:=X.base
 A:=X.A
 N:=N
 s₀:=s₀
 H₀:=H₀
 env:=compEnvC scope cl C X.env
 outer:=X.stack
 stack:=X.stack
 ex:=fp
 fn:=fun _=>false
 calm:=X.calm
 pn:=[]
 xe:=fun _ _=>False
def PJ(Z:TI)(fr:sW)(ix:Nat)(B:TT)(te:TE):TE:=fun σ H Q=>Z σ H fun J Y=>∀D,Y D=none->∃W:Nat->Nat->List V->Hp->Prop,(∃m,W 0 m [] (upd Y D (.lst []))) /\
 ∀i m ys H,W i m ys H->H D=some (.lst ys)/\((J.stop i H/\Q (.ref D) H)\/(J.go i H/\ys.length<sizeLine/\∀x H',J.F8 i H x H' ->
  B ((carry fr σ).set ix (some x)) H' fun b U=>if b=true then te ((carry fr σ).set ix (some x)) U fun y T=>T D=some (.lst ys)/\∃g,g<m/\W (i+1) g (ys++[y]) (upd T D (.lst (ys++[y])))
   else ∃g,g<m/\W (i+1) g ys U))
structure EH(scope:Scope)(N:List Str)(x:Str)(ix:Nat):Prop where
 kind:scope.kind=.function
 cell:∀y∈scope.names,y.2≠.cell
 names:∀y∈scope.names,y.2=.local->scope.names.lookup y.1=some .local
 free:∀y∈scope.names,y.2=.free->scope.names.lookup y.1=some .free
 loc:scope.names.lookup x=some .local
 nd:N.Nodup
 at_:N[ix]? = some x
def lookup_mem{names:List (Str×NameKind)}{n:Str}{k:NameKind}:names.lookup n=some k->(n,k)∈names:=by
 induction names with
 |nil=>intro h;cases h
 |cons y r g=>
  intro h;obtain⟨m,j⟩:=y;rw[List.lookup_cons]at h;cases e:n==m with
  |true=>rw[e]at h;have:=beq_iff_eq.mp e;subst this;simp at h;subst h;exact aZ
  |false=>rw[e]at h;exact aU _ (g h)
def V0{scope:Scope}{env:Env}(hc:∀y∈scope.names,y.2≠.cell){n:Str}(h:(relabel scope env).names.lookup n=some .cell\/(relabel scope env).names.lookup n=some .free):∃k,(n,k)∈scope.names/\k=NameKind.free:=by
 have key:∀B,(relabel scope env).names.lookup n=some B->(B=.cell\/B=.free)->∃k,(n,k)∈scope.names/\k=NameKind.free:=fun B h Z=>by
  have hm:=lookup_mem h;unfold relabel at hm;obtain⟨⟨m,k⟩,T,e⟩:=aR.mp hm;dsimp only at e;by_cases g:(k==NameKind.free&&env.scope.kind==.function&&env.kindOf m==some .cell)=true
  .rw[if_pos g]at e
   injection e with U Y
   subst U;refine⟨k,T,?_⟩;simp only[Bool.and_eq_true,beq_iff_eq]at g;exact g.1.1
  .rw[if_neg g]at e
   injection e with U Y
   subst U Y;rcases Z with rfl|rfl
   .exact absurd rfl (hc _ T)
   .exact⟨_,T,rfl⟩
 rcases h with h|h
 .exact key _ h (.inl rfl)
 .exact key _ h (.inr rfl)
section
variable{X:Cx}{elt iter:Expr}{x:Str}{px pos:Pos}{ifs:sL}{scope:Scope}{wi:TI}{fr:sW}{ix:Nat}{tif:TT}{te:TE}{N:sJ}
def LZ{prog:Program}{w:World}{A:Around}{R:Result->SD->Prop}{s:SD}{elt target iter:Expr}{ifs:sL}{scope:Scope}{pos:Pos}{it acc:VL}{env:Env}(I:Nat->SD->Prop)
 (turn:∀n s,I n s->wpAny (model prog w) A (pyNext it) (fun r g=>match r with
   |none=>R (.ok .next) g
   |some v=>wpAny (model prog w) A (letOwnedTupleGo target it v>>=fun _=>assign target env v) (fun _ Y=>
     wpAny (model prog w) A (forIn ifs true fun c r=>if r=true then do let ok <-isTrue c env (eval c env);pure (ForInStep.yield ok) else pure (ForInStep.yield r)) (fun ok B=>
      if ok=true then wpAny (model prog w) A (eval elt env) (fun x U=>
       wpAny (model prog w) A (call (.builtin "list.append") [acc,x]) (fun _ T=>∃m,m<n/\I m T) (notedBy (model prog w) A env fun e s'=>R (.error e) s') U) (notedBy (model prog w) A env fun e s'=>R (.error e) s') B
      else ∃m,m<n/\I m B) (notedBy (model prog w) A env fun e s'=>R (.error e) s') Y) (notedBy (model prog w) A env fun e s'=>R (.error e) s') g) (notedBy (model prog w) A env fun e s'=>R (.error e) s') s)
 (n:Nat)(h:I n s) :
  codeAny (model prog w) A (.compLoop (.ListComp elt [⟨target,iter,ifs,0⟩] scope pos) 0 it acc env) R s:=by
 refine codeAny_loop rfl I (fun n s hI=>?_) n h;show wpAny _ A ((compTurn (.ListComp elt [⟨target,iter,ifs,0⟩] scope pos) 0 it acc env).onRaise (fun x=>do noteFrame x env;theTreesLotGoes x)) _ _ s;refine wpAny_noted ?_;rw[compTurn_list];refine Wb (wpAny_standAt (Wb (ao (turn n s hI) (fun r g h₁=>?_) fun _ _ h'=>h')));cases r with
 |none=>exact aA h₁
 |some v=>
  show wpAny (model prog w) A (letOwnedTupleGo target it v>>=fun _=>assign target env v>>=_) _ _ g;rw[<-bind_assoc];refine Wb (ao h₁ (fun _ Y h₂=>Wb (ao h₂ (fun ok B Z=>?_) fun _ _ h'=>h')) fun _ _ h'=>h');cases ok with
  |false=>exact aA ⟨rfl,Z⟩
  |true=>
   exact Wb (Wb (ao Z (fun x U h₄=>Wb (ao h₄ (fun _ T h₅=>aA (aA ⟨rfl,h₅⟩)) fun _ _ h'=>h')) fun _ _ h'=>h'))
def Pq{pins:List (AD×Obj)}{σ:St}{Z:Hp}{s2:SD}{Q:VK}{it:AD}{fp:sS}{tn:Nat->Heap->Prop}{J:It}{cl:List (Str×AD)}{E:sC}{RR:VL->AD->Result->SD->Prop} (S:EH scope N x ix)(hcalm:X.calm=true){tgE:Expr}{g:TG}(Rv:St->Prop)(r0:Rv (carry fr σ))(hpg:∀C,PG (A9 X scope cl N C s2 Z fp) tgE g)(hfr:F0 N X.N scope X.env.scope fr 0=true)(hlen:fr.length=N.length) (hif:∀cl C s₀ H₀ fp,L3 (A9 X scope cl N C s₀ H₀ fp) ifs tif)(he:∀cl C s₀ H₀ fp,PE (A9 X scope cl N C s₀ H₀ fp) elt te) (Y:Inv X pins σ Z s2)(T:Turn X.prog X.w X.K tgE J fp it tn)(st2:tn 0 s2.heap)(f2:∀b∈fp,L5 X pins Z b) (c1:∀x c,cl.lookup x=some c->X.env.cells.lookup x=some c)(c2:∀x∈scope.names,x.2=NameKind.free->∃c,cl.lookup x.1=some c) (W:∀D,Z D=none->∃W:Nat->Nat->List V->Hp->Prop,(∃m,W 0 m [] (upd Z D (.lst []))) /\∀i m ys H,W i m ys H->H D=some (.lst ys)/\((J.stop i H/\Q (.ref D) H)\/(J.go i H/\ys.length<sizeLine/\∀x H',J.F8 i H x H'->∀σ',Rv σ'->g x σ' H' fun σ6 H6=>Rv σ6 /\tif σ6 H6 fun b Z=>if b=true then te σ6 Z fun y H3=>H3 D=some (.lst ys)/\∃m',m'<m/\W (i+1) m' (ys++[y]) (upd H3 D (.lst (ys++[y]))) else ∃m',m'<m/\W (i+1) m' ys Z))) (fin:∀(D C:AD) (s':SD) (H':Hp) m,s'.heap.Ns C m->Q (.ref D) H'->(∀h',Heap.SameBut C s'.heap h'->Inv X pins σ H' { s' with heap:=h'})->C≠D->(∀b o,s2.heap.get? b=some o->b≠C)->H' C=none->s2.heap.objs.size<=C->RR (.ref D) C (.ok .next) s'):wpAny (model X.prog X.w) X.A (newList []) (fun acc s₃=>wpAny (model X.prog X.w) X.A (newFunctionEnv scope X.env.globals cl [] X.env.qual none .none (some X.env)) (fun cenv s₄ => codeAny (model X.prog X.w) X.A (.compStart (.ListComp elt [⟨tgE,iter,ifs,0⟩] scope pos) 0 (.ref it) acc {cenv with scope:=relabel scope X.env}) (RR acc cenv.locals) s₄) E s₃) E s2:=by
 refine aw (wpAny_newFunctionEnv S.cell (by intro y hy;simp at hy) (fun h₁ hns₁ U=>?_) S.kind);dsimp only at hns₁ U ⊢;generalize hHp:s2.heap.push { cls:=.type "list",dict:=none,data:=.seq ([]:List VL).toArray}=Hq at hns₁ U ⊢;have hC:Hq.objs.size=s2.heap.objs.size+1:=by rw[<-hHp,Heap.size_push]
 have hDC:s2.heap.objs.size≠Hq.objs.size:=by rw[hC];exact aK (bN _)
 have below:∀b,b<s2.heap.objs.size->b≠Hq.objs.size/\b≠s2.heap.objs.size:=fun b B=>⟨by rw[hC];exact aK (bQ B),Nat.ne_of_lt B⟩;have old:∀b o,s2.heap.get? b=some o->h₁.get? b=some o:=fun b o e=>U.extBut b o (below b (aF e)).1 (aE _ (hHp ▸ aE _ e));have hacc:h₁.get? s2.heap.objs.size=some { cls:=.type "list",data:=.seq ([]:List VL).toArray}:=U.extBut _ _ hDC (aE _ (hHp ▸ aM _ rfl));have hD2:Z s2.heap.objs.size=none:=Y.BA.fresh (aG _);have hC2:Z Hq.objs.size=none:=Y.BA.fresh (by rw[hC];exact Nat.le_succ _);have fpo:∀b∈fp,b<s2.heap.objs.size:=fun b B=>by
  obtain⟨o,e,_⟩:=T.obj _ _ st2 b B;exact aF e
 obtain⟨W,⟨m0,w0⟩,turn⟩:=W s2.heap.objs.size hD2;have ok:(A9 X scope cl N Hq.objs.size s2 Z fp).Ok:=by
  refine⟨Y.ok.mod,S.kind,Y.ok.glob,Y.ok.blt,by show s2.heap.objs.size<=Hq.objs.size;rw[hC];exact Nat.le_succ _,?_,?_,?_,fun _=>Y.ok.hd hcalm,Y.ok.frames,.inl rfl,?_,Y.bs,Nat.le_trans Y.ok.Tc Y.sz,?_,?_,Y.stack,Y.XC⟩
  .exact fun a b c h1 h2=>Y.ok.inj a b c (c1 _ _ h1) (c1 _ _ h2)
  .intro y hy;obtain⟨k,hm,rfl⟩:=V0 S.cell hy;exact c2 _ hm rfl
  .intro y c hf;cases hf
  .intro b B;refine⟨(below b (fpo b B)).1,fun y c e=>?_⟩;obtain⟨_,_,_,_,f5,_⟩:=f2 b B;exact f5 y c (c1 _ _ e)
  .intro b o e B;obtain⟨_,_,_,f4,_,_⟩:=f2 b B;rcases f4 with z|z
   .exact Y.ok.U5 b o e z
   .exact absurd (aI (aF e) (aQ Y.ok.Tc z)) (Nat.lt_irrefl _)
  .intro b B hs;obtain⟨_,f1,f3,_⟩:=f2 b B;rcases aN.mp (Y.VV b hs) with z|z
   .exact f1 z
   .exact f3 z
 have I4:Inv (A9 X scope cl N Hq.objs.size s2 Z fp) [] (carry fr σ) (upd Z s2.heap.objs.size (.lst [])) {s2 with heap:=h₁,toks:=s2.toks+([]:List (Str×VL)).length}:=by
  refine⟨ok,rfl,Y.bare,Un.laid old (aG _) hD2,⟨_,hns₁,fun i y v h1 h2 h3=>?_⟩,fun y c e=>?_,?_,fun y c e=>?_,fun p hp=>(by cases hp),Y.BA.laid old (aG _) ⟨bE _,[],0,.nil,hacc⟩,?_⟩
  .obtain⟨j,e1,e2⟩:=a6 h2;obtain⟨n,n1,n2,n3,n4⟩:=Qf hfr e1;rw[Nat.zero_add]at n1;have:y=n:=by
    have h1':N[i]? = some y:=h1;rw[h1']at n1;exact ar n1
   subst this;obtain⟨m,hn,hl⟩:=Y.loc;obtain⟨u,ru,lk⟩:=hl j y v n2 e2 (.inr (.inl n4));refine⟨u,ru,?_⟩;obtain⟨c,hc⟩:=c2 _ (lookup_mem n3) rfl;rcases lk with ⟨k1,_⟩|⟨_,c',hc',hcell⟩
   .have k1':X.env.scope.names.lookup y=some .local:=k1;rw[n4]at k1';cases k1'
   .have:=c1 _ _ hc;rw[hc']at this;cases this;refine .inr ⟨?_,c,hc,hcell.keeps old⟩;rcases h3 with z|z|z
    .obtain⟨k,hm⟩:∃k,(y,k)∈scope.names/\k=NameKind.local:=by
      have hm:=lookup_mem z;have hm':(y,NameKind.local)∈(relabel scope X.env).names:=hm;unfold relabel at hm';obtain⟨⟨m',k⟩,hy,e⟩:=aR.mp hm';dsimp only at e;by_cases hcond:(k==NameKind.free&&X.env.scope.kind==.function&&X.env.kindOf m'==some .cell)=true
      .rw[if_pos hcond]at e;injection e with _ e2';cases e2'
      .rw[if_neg hcond]at e;injection e with e1' e2';subst e1' e2';exact⟨_,hy,rfl⟩
     obtain⟨hm,rfl⟩:=hm;have:=S.names _ hm rfl;rw[n3]at this;cases this
    .exact .inl z
    .exact .inr z
  .obtain⟨v,z⟩:=Y.cell y c (c1 _ _ e);exact⟨v,z.keeps old⟩
  .show upd Z s2.heap.objs.size _ Hq.objs.size=none;rw[AJ (Ne.symm hDC)];exact hC2
  .obtain⟨v,o,ho,_⟩:=Y.cell y c (c1 _ _ e);rw[AJ (below c (aF ho)).2];exact Y.Jd y c (c1 _ _ e)
  .show(carry fr σ).length=N.length;unfold carry;rw[List.length_map];exact hlen
 have fpX:∀(p:List (AD×Obj)) (H':Hp),(∀q∈p,q.1∈fp->False)->(∀b∈fp,H' b=none)->∀b∈fp,L5 (A9 X scope cl N Hq.objs.size s2 Z fp) p H' b:=fun p H' hp hn b B=>by
  obtain⟨_,f1,f3,f4,f5,_⟩:=f2 b B;refine⟨hn b B,(below b (fpo b B)).1,fun hs=>ok.Vo b B hs,.inl B,fun y c e=>f5 y c (c1 _ _ e),fun q hq e=>?_⟩;exact hp q hq (e ▸ B)
 have hxv:(relabel scope X.env).names.lookup x=some .local:=lookup_relabel_local S.loc;have loop:∀s₃:SD,s₃={s2 with heap:=h₁,toks:=s2.toks+([]:List (Str×VL)).length} ->
   codeAny (model X.prog X.w) X.A (.compLoop (.ListComp elt [⟨tgE,iter,ifs,0⟩] scope pos) 0 (.ref it) (.ref s2.heap.objs.size) (compEnvC scope cl Hq.objs.size X.env)) (RR (.ref s2.heap.objs.size) Hq.objs.size) s₃:=by
  rintro s₃ rfl;refine LZ (fun n s'=>∃i ys σ' H',Inv (A9 X scope cl N Hq.objs.size s2 Z fp) [] σ' H' s'/\Rv σ'/\tn i s'.heap/\(∀b∈fp,H' b=none)/\W i n ys H') ?_ m0
   ⟨0,[],carry fr σ,_,I4,r0,T.keep _ _ _ st2 fun b _ o e=>old b o e,fun b B=>by rw[AJ (below b (fpo b B)).2];exact(f2 b B).1,w0⟩
  rintro n s3 ⟨i,ys,σ3,H3,I3,hσ,st3,fr3,w3⟩;obtain⟨hD3,way⟩:=turn i n ys H3 w3;rcases way with ⟨stop,qn⟩|⟨go,hsz,step⟩
  .refine ao (T.done (A9 X scope cl N Hq.objs.size s2 Z fp) rfl rfl rfl hcalm i [] s3 σ3 H3 (fun _ _=>False) I3 (fpX [] H3 (fun _ z=>by cases z) fr3) st3 stop) (fun r s4 ⟨hr,I5⟩=>?_) fun _ _ z=>z.elim;subst hr;obtain⟨m,hn,_⟩:=id I5.loc;refine fin _ _ s4 H3 m hn qn (fun h' hs'=>?_) (Ne.symm hDC) (fun b o e=>(below b (aF e)).1) I5.free (by rw[hC];exact Nat.le_succ _);have nC:∀b u,H3 b=some u->b≠Hq.objs.size:=fun b u e z=>by
    have:=I5.free;rw[show(A9 X scope cl N Hq.objs.size s2 Z fp).env.locals=Hq.objs.size from rfl,<-z,e]at this;cases this
   have keepU:Un (Ni X.stack) fp Z H3 s2.heap h':=by
    have u:=I5.base;refine⟨fun b o e n B hx=>?_,fun b o e n B hx=>?_,fun b o e n hx=>u.free b o e n hx,fun b o e hx=>?_,u.Bm,u.MH,u.NQ⟩
    .exact(hs'.2 b (below b (aF e)).1).trans (u.keep b o e n B hx)
    .obtain⟨sl,e1⟩:=u.slot b o e n B hx;exact⟨sl,(hs'.2 b (below b (aF e)).1).trans e1⟩
    .obtain⟨o',e1⟩:=u.there b o e hx;exact⟨o',(hs'.2 b (below b (aF e)).1).trans e1⟩
   have hok':Fq X.prog X.w H3 h':=fun b u e=>(I5.BA b u e).JO (fun c v hc q=>(hs'.2 c (by
    rcases hc with rfl|hc
    .exact nC _ _ e
    .exact nC _ _ hc)).trans q) (fun _ q=>q) fun _ _ q=>q
   refine Y.oG (s':={s4 with heap:=h'}) (ch:=fp) I5.os keepU hok' I5.bare fun b B=>?_;obtain⟨_,f1,_,f4,f5,f6⟩:=f2 b B;exact⟨f4,f1,f5,f6⟩
  .refine ao (T.item (A9 X scope cl N Hq.objs.size s2 Z fp) rfl rfl rfl hcalm i [] s3 σ3 H3 (fun _ _=>False) I3 (fpX [] H3 (fun _ z=>by cases z) fr3) st3 go) (fun r s4 ⟨u,hr,h4⟩=>?_) fun _ _ z=>z.elim;subst hr;show wpAny (model X.prog X.w) X.A (letOwnedTupleGo tgE (.ref it) u>>=fun _=>assign tgE (compEnvC scope cl Hq.objs.size X.env) u) _ _ s4;refine Wb (ao h4 (fun _ s5 ⟨xv,H5,I5,r5,y5,st5,fr5⟩=>?_) fun _ _ z=>z.elim);have I5':=I5.pinned (fpX [] H5 (fun _ z=>by cases z) fr5) (T.obj _ _ st5);refine ao (hpg _ _ s5 σ3 H5 xv u _ I5' r5 (step xv H5 y5 σ3 hσ)) (fun _ s6 ⟨σ6,H6,I6,rv6,step5⟩=>?_) fun _ _ z=>z.elim;refine ao (hif _ _ _ _ _ _ s6 _ H6 _ I6 step5) (fun b s7 ⟨H7,I7,q7⟩=>?_) fun _ _ z=>z.elim;have again:∀ {s8:SD} {H8:Hp} {k:Nat} {zs:List V},Inv (A9 X scope cl N Hq.objs.size s2 Z fp) ([]++OW fp s5.heap) σ6 H8 s8->W (i+1) k zs H8->k<n ->
     ∃m,m<n/\∃i ys σ' H',Inv (A9 X scope cl N Hq.objs.size s2 Z fp) [] σ' H' s8/\Rv σ'/\tn i s8.heap/\(∀b∈fp,H' b=none)/\W i m ys H':=fun {s8 H8 k zs} I8 w8 hk=>by
    refine⟨k,hk,i+1,zs,_,H8,I8.NN,rv6,T.keep _ _ _ st5 fun b B o e=>(I8.pin (b,o) (aY _ (aY _ (KP B e)))).1,fun b B=>?_,w8⟩;obtain⟨o,e,d⟩:=T.obj _ _ st5 b B;exact(I8.pin (b,o) (aY _ (aY _ (KP B e)))).2.1
   cases b with
   |false=>
    rw[if_neg aO]at q7 ⊢;obtain⟨k,hk,w7⟩:=q7;exact again I7 w7 hk
   |true=>
    rw[if_pos rfl]at q7 ⊢;refine ao (he _ _ _ _ _ _ s7 _ H7 _ I7 q7) (fun yv s8 ⟨y,H8,I8,r8,hD8,k,hk,w8⟩=>?_) fun _ _ z=>z.elim;refine ao (FX (X:=A9 X scope cl N Hq.objs.size s2 Z fp) _ s8 _ H8 (.ref s2.heap.objs.size) [y] (.ref s2.heap.objs.size) [yv] (fun _ H9=>H9=upd H8 s2.heap.objs.size (.lst (ys++[y]))) I8 rfl (.cons r8 .nil) ⟨_,ys,y,rfl,rfl,hD8,hsz,rfl⟩) (fun _ s9 ⟨_,H9,I9,_,e9⟩=>?_) fun _ _ z=>z.elim;subst e9;exact again I9 w8 hk
 exact codeAny_compStart_list (loop _ rfl) (T.self X.A 0 _ _ _ (T.keep _ _ _ st2 fun b _ o e=>old b o e) (loop _ rfl))
def Qw{pins:List (AD×Obj)}{σ:St}{B:Hp}{s2:SD}{Q:VK}{it:AD}{fp:sS}{tn:Nat->Heap->Prop}{J:It}{cl:List (Str×AD)}{E:sC}{RR:VL->AD->Result->SD->Prop} (S:EH scope N x ix)(U:X.calm=true)(hfr:F0 N X.N scope X.env.scope fr 0=true)(hlen:fr.length=N.length) (hif:∀cl C s₀ H₀ fp,L3 (A9 X scope cl N C s₀ H₀ fp) ifs tif)(he:∀cl C s₀ H₀ fp,PE (A9 X scope cl N C s₀ H₀ fp) elt te) (I2:Inv X pins σ B s2)(T:Turn X.prog X.w X.K (.Name x px) J fp it tn)(st2:tn 0 s2.heap)(f2:∀b∈fp,L5 X pins B b) (c1:∀x c,cl.lookup x=some c->X.env.cells.lookup x=some c)(c2:∀x∈scope.names,x.2=NameKind.free->∃c,cl.lookup x.1=some c) (W:∀D,B D=none->∃W:Nat->Nat->List V->Hp->Prop,(∃m,W 0 m [] (upd B D (.lst []))) /\∀i m ys H,W i m ys H->H D=some (.lst ys)/\((J.stop i H/\Q (.ref D) H)\/(J.go i H/\ys.length<sizeLine/\∀x H',J.F8 i H x H' ->tif ((carry fr σ).set ix (some x)) H' fun b B=>if b=true then te ((carry fr σ).set ix (some x)) B fun y H3=>H3 D=some (.lst ys)/\∃m',m'<m/\W (i+1) m' (ys++[y]) (upd H3 D (.lst (ys++[y]))) else ∃m',m'<m/\W (i+1) m' ys B))) (fin:∀(D C:AD) (s':SD) (H':Hp) m,s'.heap.Ns C m->Q (.ref D) H'->(∀h',Heap.SameBut C s'.heap h'->Inv X pins σ H' { s' with heap:=h'})->C≠D->(∀b o,s2.heap.get? b=some o->b≠C)->H' C=none->s2.heap.objs.size<=C->RR (.ref D) C (.ok .next) s'):wpAny (model X.prog X.w) X.A (newList []) (fun acc s₃=>wpAny (model X.prog X.w) X.A (newFunctionEnv scope X.env.globals cl [] X.env.qual none .none (some X.env)) (fun g Z => codeAny (model X.prog X.w) X.A (.compStart (.ListComp elt [⟨.Name x px,iter,ifs,0⟩] scope pos) 0 (.ref it) acc {g with scope:=relabel scope X.env}) (RR acc g.locals) Z) E s₃) E s2:=by
 have hxv:(relabel scope X.env).names.lookup x=some .local:=lookup_relabel_local S.loc;refine Pq S U (fun Y=>∀v,Y.set ix v=(carry fr σ).set ix v) (fun _=>rfl) (fun C=>Ax (X:=A9 X scope cl N C s2 B fp) S.nd S.at_ (.inl hxv) (.inr hxv)) hfr hlen hif he I2 T st2 f2 c1 c2 (fun D hD=>?_) fin;obtain⟨W,w0,st⟩:=W D hD;refine⟨W,w0,fun i m ys H w=>?_⟩;obtain⟨h1,h2|⟨h2,h3,h4⟩⟩:=st i m ys H w
 .exact⟨h1,.inl h2⟩
 .refine⟨h1,.inr ⟨h2,h3,fun x H' hy Y hr=>?_⟩⟩;have:=h4 x H' hy;rw[<-hr]at this;exact⟨fun v=>by rw[List.set_set,hr],this⟩
def i5(S:EH scope N x ix)(Y:X.calm=true)(hfr:F0 N X.N scope X.env.scope fr 0=true)(Z:fr.length=N.length)(B:∀y∈scope.names,y.2=.free->X.env.scope.names.lookup y.1=some .cell\/X.env.scope.names.lookup y.1=some .free) (hi:PI X (.Name x px) iter wi)(hif:∀cl C s₀ H₀ fp,L3 (A9 X scope cl N C s₀ H₀ fp) ifs tif)(he:∀cl C s₀ H₀ fp,PE (A9 X scope cl N C s₀ H₀ fp) elt te) (hs:∀x,foldedSetIterable iter X.env x=pure x:=by intro _;rfl):PE X (.ListComp elt [⟨.Name x px,iter,ifs,0⟩] scope pos) (PJ wi fr ix tif te):=by
 intro pins s σ H Q I hw;obtain⟨cl,U,c1,_,c2⟩:=HI (env:=X.env) scope.names [] (fun y hy hf=>I.ok.has y.1 (B y hy hf)) (fun y c z=>by cases z);have g:closureFor scope X.env=pure cl:=by
  have e:closureFor scope X.env=((forIn scope.names [] (fun(x:Str×NameKind) (r:List (Str×AD))=>do if(x.2==NameKind.free)=true then do let a <-cellOf X.env x.1;pure (ForInStep.yield ((x.1,a)::r)) else pure (ForInStep.yield r)):Sem (List (Str×AD)))>>=fun cs=>pure cs):=rfl;rw[e,U]
  rfl
 rw[eval_ListComp];refine wpAny_comprehension_free (use:=none) rfl hs g S.kind S.names (Bc (hi pins s σ H _ I hw) fun v s1 h1=>Bc h1 fun itv s2 h2=>?_);obtain⟨it,fp,tn,J,H2,e,I2,T,st2,f2,W⟩:=h2;subst e;refine Qw (RR:=fun acc C=>compPost (model X.prog X.w) X.A X.xe none (EP X pins σ Q) acc C) S Y hfr Z hif he I2 T st2 f2 c1 c2 W ?_;intro D C s' H' m hn q hI _ _ _ _;exact⟨m,hn,fun h' hs'=>⟨.ref D,H',hI h' hs',rfl,q⟩⟩
def YC{i : Nat}{y : Str}{py spos : Pos}(hN : X.N.Nodup)(hy : X.N[i]? = some y)(hly : X.env.scope.names.lookup y = some .local)(S : EH scope N x ix)(hcalm : X.calm = true)(hfr : F0 N X.N scope X.env.scope fr 0 = true)(hlen : fr.length = N.length) (hfree : ∀ y∈scope.names,y.2 = .free->X.env.scope.names.lookup y.1 = some .cell\/X.env.scope.names.lookup y.1 = some .free) (hi : PI X (.Name x px) iter wi)(hif : ∀ cl C s₀ H₀ fp,L3 (A9 X scope cl N C s₀ H₀ fp) ifs tif)(he : ∀ cl C s₀ H₀ fp,PE (A9 X scope cl N C s₀ H₀ fp) elt te) (hsw : swapsWith (.ListComp elt [⟨.Name x px,iter,ifs,0⟩] scope pos) (some (.Name y py)) spos.line X.env = pure true:=by rfl) (hs : ∀ x,foldedSetIterable iter X.env x = pure x:=by intro _; rfl):PS X (.Assign [.Name y py] (.ListComp elt [⟨.Name x px,iter,ifs,0⟩] scope pos) spos) (SN (PJ wi fr ix tif te) (D6 i)):=by
  intro pins s σ H D I hw
  obtain ⟨cl,hclos,c1,_,c2⟩:=HI (env:=X.env) scope.names [] (fun y hy hf => I.ok.has y.1 (hfree y hy hf)) (fun y c z => by cases z)
  have hclos' : closureFor scope X.env = pure cl:=by
    have e : closureFor scope X.env = ((forIn scope.names [] (fun (x : Str×NameKind) (r : List (Str×AD)) => do if (x.2 == NameKind.free) = true then do let a <- cellOf X.env x.1; pure (ForInStep.yield ((x.1,a) :: r)) else pure (ForInStep.yield r)):Sem (List (Str×AD))) >>= fun cs => pure cs):=rfl
    rw [e,hclos]
    rfl
  rw [exec_Assign_Name_used _ _ _ _ hsw]
  refine Wb (wpAny_standAt (Wb ?_))
  show wpAny _ X.A (do let _ <- comprehension (.ListComp elt [⟨.Name x px,iter,ifs,0⟩] scope pos) scope X.env _ (newList []) false (eval iter X.env) (some (assign (.Name y py) X.env))) _ _ s
  refine Wb (ao (wpAny_comprehension_free (use:=some (assign (.Name y py) X.env)) (Q:=fun _ s' => SP X pins D .next s') rfl hs hclos' S.kind S.names
    (Bc (hi pins s σ H _ I hw) fun v s1 h1 => Bc h1 fun itv s2 h2 => ?_)) (fun _ s' hq => aA (aA hq)) fun _ _ e => e)
  obtain ⟨it,fp,tn,J,H2,e,I2,T,st2,f2,W⟩:=h2
  subst e
  refine Qw (Q:=fun x H1 => D6 i x σ H1 D.nx) (RR:=fun acc C => compPost (model X.prog X.w) X.A X.xe (some (assign (.Name y py) X.env)) (fun _ s' => SP X pins D .next s') acc C) S hcalm hfr hlen hif he I2 T st2 f2 c1 c2 W ?_
  intro D' C s' H' m hn q hI hCD hold hfreeC hsz
  have I5 : Inv X pins σ H' s':=hI s'.heap (Heap.SameBut.refl ..)
  refine wpAny_assign_Name (N9 I5 hN hy (.inl hly) (v:=.ref D') rfl (fun s'' I6 ⟨a,hsb,ha⟩ => ?_) (.inr hly))
  have hL : C≠X.env.locals:=fun z => by
    obtain ⟨_,⟨o,_,_,e,_⟩,_⟩:=I2.loc
    exact hold _ _ e z.symm
  have hcl : ∀ z c,X.env.cells.lookup z = some c->c≠C:=fun z c e => by
    obtain ⟨_,o,ho,_⟩:=I2.cell z c e
    exact hold _ _ ho
  have hCa : C≠a:=by
    rcases ha with z | z
    . rw [z]; exact hL
    . exact Ne.symm (hcl _ _ z)
  refine ⟨m,hn.sameBut hsb hCa,fun h' hs' => ⟨_,H',I6.turned (t':=s''.toks) (it:=C) (fun b o hb e => (hs'.2 b hb).trans e) hfreeC hL (.inr (aQ I2.sz hsz)) hcl fun p hp => ?_,q⟩⟩
  obtain ⟨e,_⟩:=I2.pin p hp
  exact hold _ _ e
end
end L2
namespace FM
def gi(a b:Int):Int:=(Int.gcd a b:Int)
def Vb(a b:Int):Int.gcd b (a.fmod b)=Int.gcd a b:=by
 have e:a.fmod b=a-b*a.fdiv b:=Int.fmod_def a b;rw[e,Int.gcd_comm a b];exact Int.gcd_sub_mul_left_right b a (a.fdiv b)
def Ta(a b:Int)(g:b≠0):(a.fmod b).natAbs<b.natAbs:=by
 rcases Int.lt_or_gt_of_ne g with h|h
 .have U:-(a.fmod b)=(-a).fmod (-b):=by
   rw[Int.fmod_def,Int.fmod_def,Int.neg_fdiv_neg];have:-b*a.fdiv b=-(b*a.fdiv b):=Int.neg_mul _ _
   lia
  have T:=bU (-a) (show 0 < -b by lia);have B:=Int.fmod_lt_of_pos (-a) (show 0 < -b by lia)
  lia
 .have T:=bU a h;have B:=Int.fmod_lt_of_pos a h
  lia
def MP{a b:Int}(g:b≠0):0<gi a b:=by
 have:0<Int.gcd a b:=Int.gcd_pos_of_ne_zero_right a g;unfold gi;lia
def Yq{a b:Int}(B:b≠0):(gi a b).natAbs<=b.natAbs:=by
 have h:Int.gcd a b ∣ b.natAbs:=by
  have:=Int.gcd_dvd_right a b;exact Int.natAbs_dvd_natAbs.mpr this
 have g:0<b.natAbs:=by lia
 have:=Nat.le_of_dvd g h;unfold gi;lia
def gs(t b:Int):Int:=if b<0 then -gi t b else gi t b
def ff{t b:Int}(g:b≠0):gs t b≠0:=by
 have:=MP (a:=t) g;unfold gs;split<;>lia
def fj{t b:Int}(g:b≠0):(gs t b).natAbs<=b.natAbs:=by
 have:=Yq (a:=t) g;unfold gs;split<;>lia
def HF{g x k:Int}(B:g≠0)(e:x=g*k):x.fdiv g=k:=by
 subst e;exact Int.mul_fdiv_cancel_left k B
def P7(a b:Int):gi a b ∣ a:=Int.gcd_dvd_left a b
def Ob(a b:Int):gi a b ∣ b:=Int.gcd_dvd_right a b
def Vf{t b:Int}(T:b≠0):t.fdiv (gs t b)=(Rat.divInt t b).num:=by
 have U:=MP (a:=t) T;obtain⟨k,B⟩:=P7 t b;rw[Rat.num_divInt,Int.gcd_comm b t];show t.fdiv (gs t b)=b.sign*t / gi t b;unfold gs;generalize gi t b=g at U B ⊢;rcases Int.lt_or_gt_of_ne T with h|h
 .rw[if_pos h,Int.sign_eq_neg_one_of_neg h,HF (k:=-k) (by lia) (by rw[B];simp[Int.mul_neg,Int.neg_mul])];have:-1*t=g*(-k):=by rw[B];simp[Int.mul_neg]
  rw[this,Int.mul_ediv_cancel_left _ (by lia)]
 .rw[if_neg (by lia),Int.sign_eq_one_of_pos h,HF (k:=k) (by lia) B,Int.one_mul,B,Int.mul_ediv_cancel_left _ (by lia)]
def Uv{t b:Int}(T:b≠0):b.fdiv (gs t b)=((Rat.divInt t b).den:Int):=by
 have U:=MP (a:=t) T;obtain⟨k,B⟩:=Ob t b;rw[Rat.den_divInt,if_neg T,Int.gcd_comm b t];have e:(((b.natAbs / Int.gcd t b:Nat)):Int)=(b.natAbs:Int) / gi t b:=by unfold gi;simp
 rw[e];unfold gs;generalize gi t b=g at U B ⊢;rcases Int.lt_or_gt_of_ne T with h|h
 .rw[if_pos h,HF (k:=-k) (by lia) (by rw[Int.neg_mul_neg];exact B)];have:(b.natAbs:Int)=g*(-k):=by rw[Int.mul_neg,<-B];lia
  rw[this,Int.mul_ediv_cancel_left _ (by lia)]
 .rw[if_neg (by lia),HF (k:=k) (by lia) B];have:(b.natAbs:Int)=g*k:=by rw[<-B];lia
  rw[this,Int.mul_ediv_cancel_left _ (by lia)]
def Fd(a b:Int):(a.fdiv b).natAbs<=a.natAbs:=by
 cases a with
 |ofNat n=>
  cases n with
  |zero=>
   have e:Int.fdiv (.ofNat 0) b=0:=Int.zero_fdiv b;rw[e];exact bE _
  |succ k=>
   cases b with
   |ofNat j=>exact Nat.div_le_self (k+1) j
   |negSucc j=>exact Nat.succ_le_succ (Nat.div_le_self k (j+1))
 |negSucc k=>
  cases b with
  |ofNat j=>
   cases j with
   |zero=>exact bE _
   |succ j=>exact Nat.succ_le_succ (Nat.div_le_self k (j+1))
  |negSucc j=>exact Nat.div_le_self (k+1) (j+1)
def kq{t b:Int}(g:b≠0):(Rat.divInt t b).num.natAbs<=t.natAbs:=by
 rw[<-Vf g];exact Fd _ _
def lU{t b:Int}(g:b≠0):(Rat.divInt t b).den<=b.natAbs:=by
 have h:=Fd b (gs t b);rw[Uv g]at h
 simpa using h
def Rl(p:Rat):(p.den:Int)≠0:=by
 have:=p.den_nz
 lia
def Ej(p:Rat):Rat.divInt p.num p.den=p:=Rat.num_divInt_den p
def jU(p q:Rat):Rat.divInt (p.num*q.den+q.num*p.den) (p.den*q.den)=p+q:=by
 rw[<-Rat.divInt_add_divInt _ _ (Rl p) (Rl q),Ej,Ej]
def Qg(p q:Rat):Rat.divInt (p.num*q.num) (p.den*q.den)=p*q:=by
 rw[<-Rat.divInt_mul_divInt,Ej,Ej]
def O6(p q:Rat):(p.den:Int)*q.den≠0:=Int.mul_ne_zero (Rl p) (Rl q)
def gA{p q:Rat}(g:p.num=q.num)(B:(p.den:Int)=(q.den:Int)):p=q:=Rat.ext g (by lia)
def Rz{x y:Int}{m n:Nat}(B:x.natAbs<2^m)(g:y.natAbs<2^n):(x*y).natAbs<2^(m+n):=by
 rw[Int.natAbs_mul,Nat.pow_add];exact Nat.mul_lt_mul'' B g
def O1{x:Nat}{m n:Nat}(g:x<2^m)(h:m<=n):x<2^n:=aI g (ai (by decide) h)
def Fits(p:Rat)(n:Nat):Prop:=p.num.natAbs<2^n/\p.den<2^n
def Fits.mono{p:Rat}{m n:Nat}(h:Fits p m)(l:m<=n:=by decide):Fits p n:=⟨O1 h.1 l,O1 h.2 l⟩
def Fits.d{p:Rat}{n:Nat}(h:Fits p n):((p.den:Int)).natAbs<2^n:=by simpa using h.2
def Fits.Zr{t b:Int}{n:Nat}(g:b≠0)(T:t.natAbs<2^n)(B:b.natAbs<2^n):Fits (Rat.divInt t b) n :=
 ⟨aP (kq g) T,Nat.lt_of_le_of_lt (lU g) B⟩
def dd{p q:Rat}{m n:Nat}(h:Fits p m)(k:Fits q n):((p.den:Int)*q.den).natAbs<2^(m+n):=Rz h.d k.d
def nn{p q:Rat}{m n:Nat}(h:Fits p m)(k:Fits q n):(p.num*q.num).natAbs<2^(m+n):=Rz h.1 k.1
def Fits.times{p q:Rat}{m n:Nat}(h:Fits p m)(k:Fits q n):Fits (p*q) (m+n):=by
 rw[<-Qg];exact .Zr (O6 p q) (nn h k) (dd h k)
end FM
namespace FM
def i6(a b:Int):Int.gcd (if a<0 then -a else a) (if b<0 then -b else b)=Int.gcd a b:=by
 split<;>split<;>simp[Int.gcd_neg,Int.neg_gcd]
def abs_nonneg(a:Int):0<=(if a<0 then -a else a):=by split<;>lia
def nH{g a b:Int}(h:Int.gcd g 0=Int.gcd a b)(h0:0<=g):g=gi a b:=by
 unfold gi;rw[<-h,Int.gcd_zero_right]
 lia
def gc{g a b:Int}(h:Int.gcd g 0=Int.gcd a b):(if g<0 then -g else g)=gi a b:=by
 unfold gi;rw[<-h,Int.gcd_zero_right];split<;>lia
def fmod_nonneg{g l:Int}(B:l≠0)(h:0<=l):0<=g.fmod l:=bU g (by lia)
end FM
namespace L2
open PySem PySem.Spec PyProof.Rows
structure Fn(K:Fg)(mg:Str->Option Value)(x:Str)(st:Stmt)(ps:List Str)(f:Addr)(fd:FuncData):Prop where
 F:Xy K x x st f fd
 b:Binds K fd ps []
 m:mg x=some (.ref f)
section
variable{X:Cx}{k:Nat}{f:AD}{fd:FuncData}{ps:sJ}{sp:Sp}{x:Str}{st:Stmt}{p pos:Pos}{e:Expr}{es:sL}{t:TA}
def B6(T:Fn X.K X.mg x st ps f fd)(G:AK X.prog X.w X.K X.mg X.base AZ k f fd ps sp)(U:EX k X.A)(Y:Gl X x)(ha:PA X (e::es) t) (B:(x==("__debug__" : Str))=false:=by decide)(Z:starEach (e::es) X.env=(false,eval e X.env)::starEach es X.env:=by rfl)(g:(backTo pos (starEach es X.env)).any (·.1)=false:=by rfl):PE X (.Call (.Name x p) (e::es) [] pos) (fB sp [] E0 t):=iA G U Y T.m T.F.kp T.b .nil oa ha B Z g
end
def JX{t u:TS}{D:Ends}{σ:St}{H:Hp}(P:St->Hp->Prop)(T:∀nx:St->Hp->Prop,(∀g H',P g H'->nx g H')->t {D with nx:=nx} σ H)(B:∀g H',P g H'->u D g H'):jQ t u D σ H:=T _ B
def Xm:2<=sizeLine:=by decide
def An{H:Hp}{p:AD}(h:H p=none)(o:HO):AL H (upd H p o):=fun b u q=>by rw[AJ (AY q h)];exact q
def SameBut(l:AD)(H H':Hp):Prop:=∀b o,b≠l->H b=some o->H' b=some o
def SameBut.of{l:AD}{H H':Hp}(h:AL H H'):SameBut l H H':=fun b o _ q=>h b o q
def SameBut.trans{l:AD}{H B g:Hp}(a:SameBut l H B)(b:SameBut l B g):SameBut l H g:=fun c o n h=>b c o n (a c o n h)
def SameBut.upd{l:AD}{H:Hp}{o:HO}:SameBut l H (upd H l o):=fun b u n q=>by rw[AJ n];exact q
def Hz(p:Rat):sQ:=[.int p.num,.int (p.den:Int)]
def Rt(K:Fg)(H:Hp)(p:Rat)(v:V):Prop:=∃a,v=.ref a/\BN K H a (Hz p)
def Rt.of{K:Fg}{H:Hp}{p:Rat}{a:AD}(h:H a=some (.tup (Hz p))):Rt K H p (.ref a):=⟨a,rfl,.of h⟩
def AU(p:Rat):PD:=.tuple [.int p.num,.int (p.den:Int)]
def OE{i j:Int}{m n:Nat}(B:i.natAbs<2^m)(g:j.natAbs<2^n)(h:m+n<=1000000):Qn i j\/NX i j :=
 .inr ⟨m+n,h,FM.O1 B (Nat.le_add_right _ _),FM.O1 g (Nat.le_add_left _ _)⟩
def qU(g:AD)(cls:VL):HO:=.ext fun h=>∃o vs,h.get? g=some o/\o.cls=cls/\o.data=.fields vs
open PySem PySem.Spec PyProof.Rows PySem.Builtin.ObjectAttr PySem.Builtin.Getset_descriptor
def Vq:V->VL
 |.ref C=>.ref C
 |.ty n=>.type n
 |_=>.none
def iR{c:V}{u:VL}(r:RelV c u)(h:Vq c≠.none):u=Vq c:=by
 cases c with
 |ref C=>exact r
 |ty n=>exact r
 |_=>exact absurd rfl h
section
variable{X:Cx}
def p7(K:Fg):List V->Hp->VK->Prop:=fun xs H Q=>∃x c t b,xs=[x,c]/\Vq c≠.none/\Il K H x t/\PySem.W.kitOne K t (Vq c)=some b/\Q (.bl b) H
def eM:Ey X (.builtin "isinstance") (p7 X.K):=by
 intro pins s σ H xs us Q I r h;obtain⟨x,c,t,b,rfl,U,ty,e,q⟩:=h;obtain⟨u,v,rfl,T,B⟩:=r.two;rw[iR B U];exact ZU I T ty e fun g=>⟨.bl b,H,I.tok g,rfl,q⟩
end
def nK(K:Fg):PySem.W.kitOne K (.type "tuple") (.type "tuple")=some true:=rfl
def kY(K:Fg):PySem.W.kitOne K (.type "int") (.type "int")=some true:=rfl
def mM(K:Fg):PySem.W.kitOne K (.type "bool") (.type "bool")=some true:=rfl
def mO(K:Fg):PySem.W.kitOne K (.type "int") (.type "bool")=some false:=by kernel_rfl
def jn(K:Fg):PySem.W.kitOne K (.type "bool") (.type "int")=some true:=by kernel_rfl
def lG(K:Fg):PySem.W.kitOne K (.type "list") (.type "tuple")=some false:=by kernel_rfl
def kB(K:Fg):PySem.W.kitOne K (.type "tuple") (.type "list")=some false:=by kernel_rfl
def lF(K:Fg):PySem.W.kitOne K (.type "list") (.type "list")=some true:=rfl
def mP(K:Fg):PySem.W.kitOne K (.type "int") (.type "tuple")=some false:=by kernel_rfl
def mB(K:Fg):PySem.W.kitOne K (.type "bool") (.type "tuple")=some false:=by kernel_rfl
def kM(K:Fg):PySem.W.kitOne K (.type "NoneType") (.type "tuple")=some false:=by kernel_rfl
def mh(K:Fg):PySem.W.kitOne K (.type "str") (.type "tuple")=some false:=by kernel_rfl
def jT(K:Fg):PySem.W.kitOne K (.type "tuple") (.type "int")=some false:=by kernel_rfl
def lE(K:Fg):PySem.W.kitOne K (.type "list") (.type "int")=some false:=by kernel_rfl
def mr(K:Fg):PySem.W.kitOne K (.type "NoneType") (.type "int")=some false:=by kernel_rfl
def mn(K:Fg):PySem.W.kitOne K (.type "str") (.type "int")=some false:=by kernel_rfl
def ma(K:Fg):PySem.W.kitOne K (.type "int") (.type "list")=some false:=by kernel_rfl
def kN(K:Fg):PySem.W.kitOne K (.type "bool") (.type "list")=some false:=by kernel_rfl
def lT(K:Fg):PySem.W.kitOne K (.type "NoneType") (.type "list")=some false:=by kernel_rfl
def jI(K:Fg):PySem.W.kitOne K (.type "str") (.type "list")=some false:=by kernel_rfl
def freeOk(g:Scope)(names:List (Str×NameKind)):Bool:=names.all fun y=>y.2 != .free||g.names.lookup y.1==some .cell||g.names.lookup y.1==some .free
def Lf{g:Scope}{names:List (Str×NameKind)}(h:freeOk g names=true):∀y∈names,y.2=.free->g.names.lookup y.1=some .cell\/g.names.lookup y.1=some .free:=fun y B T=>by
 have q:=au.mp h y B;rw[T]at q;simp only[bne_self_eq_false,Bool.false_or,Bool.or_eq_true,beq_iff_eq]at q;exact q
def CD(scope:Scope)(N:sJ)(x:Str)(ix:Nat):Bool :=
 scope.kind==.function&&(scope.names.all fun y=>y.2 != .cell&&(y.2 != .local||scope.names.lookup y.1==some .local)&&(y.2 != .free||scope.names.lookup y.1==some .free))&&scope.names.lookup x==some .local&&decide N.Nodup&&N[ix]? == some x
def F3{scope:Scope}{N:sJ}{x:Str}{ix:Nat}(h:CD scope N x ix=true):EH scope N x ix:=by
 unfold CD at h;simp only[Bool.and_eq_true,beq_iff_eq,decide_eq_true_eq,List.all_eq_true,bne_iff_ne,Bool.or_eq_true]at h;obtain⟨⟨⟨⟨h1,T⟩,Z⟩,Y⟩,U⟩:=h;exact⟨h1,fun y g=>(T y g).1.1,fun y g B=>(T y g).1.2.resolve_left fun z=>z B,fun y g B=>(T y g).2.resolve_left fun z=>z B,Z,Y,U⟩
section
variable{X:Cx}{elt iter:Expr}{x:Str}{px pos:Pos}{ifs:sL}{scope:Scope}{wi:TI}{tif:TT}{te:TE}
def Fl(N:sJ)(ix:Nat)(fr:sW)(hi:PI X (.Name x px) iter wi)(g:∀cl C s₀ H₀ fp,L3 (A9 X scope cl N C s₀ H₀ fp) ifs tif)(T:∀cl C s₀ H₀ fp,PE (A9 X scope cl N C s₀ H₀ fp) elt te) (h1:CD scope N x ix=true:=by decide +kernel)(h2:X.calm=true:=by rfl)(Z:F0 N X.N scope X.env.scope fr 0=true:=by rfl)(Y:fr.length=N.length:=by rfl)(U:freeOk X.env.scope scope.names=true:=by rfl) (B:∀x,foldedSetIterable iter X.env x=pure x:=by intro _;rfl):PE X (.ListComp elt [⟨.Name x px,iter,ifs,0⟩] scope pos) (PJ wi fr ix tif te) :=
 i5 (F3 h1) h2 Z Y (Lf U) hi g T B
def P5{i:Nat}{y:Str}{Y g:Pos}(N:sJ)(ix:Nat)(fr:sW)(hN:X.N.Nodup)(Z:X.N[i]? = some y)(T:X.env.scope.names.lookup y=some .local) (hi:PI X (.Name x px) iter wi)(U:∀cl C s₀ H₀ fp,L3 (A9 X scope cl N C s₀ H₀ fp) ifs tif)(he:∀cl C s₀ H₀ fp,PE (A9 X scope cl N C s₀ H₀ fp) elt te) (h1:CD scope N x ix=true:=by decide +kernel)(h2:X.calm=true:=by rfl)(h3:F0 N X.N scope X.env.scope fr 0=true:=by rfl)(h4:fr.length=N.length:=by rfl)(h5:freeOk X.env.scope scope.names=true:=by rfl) (B:swapsWith (.ListComp elt [⟨.Name x px,iter,ifs,0⟩] scope pos) (some (.Name y Y)) g.line X.env=pure true:=by rfl) (hs:∀x,foldedSetIterable iter X.env x=pure x:=by intro _;rfl):PS X (.Assign [.Name y Y] (.ListComp elt [⟨.Name x px,iter,ifs,0⟩] scope pos) g) (SN (PJ wi fr ix tif te) (D6 i)) :=
 YC hN Z T (F3 h1) h2 h3 h4 (Lf h5) hi U he B hs
end
end L2
inductive Tr where
 |nil
 |cons (b r:Tr)
 deriving DecidableEq
abbrev sR:=List Tr
namespace Tr
def bs:Tr->List Tr
 |.nil=>[]
 |.cons b r=>b::r.bs
def of:List Tr->Tr
 |[]=>.nil
 |b::r=>.cons b (of r)
def PK:∀t:Tr,of t.bs=t
 |.nil=>rfl
 |.cons b r=>by rw[bs,of,PK r]
def O5:∀l:List Tr,(of l).bs=l
 |[]=>rfl
 |b::r=>by rw[of,bs,O5 r]
def k7{t u:Tr}(h:t.bs=u.bs):t=u:=by rw[<-PK t,h,PK]
def len:Tr->Nat
 |.nil=>0
 |.cons _ r=>r.len+1
def Ik:∀t:Tr,t.bs.length=t.len
 |.nil=>rfl
 |.cons _ r=>by rw[bs,List.length_cons,Ik r,len]
def AI:Tr->Nat
 |.nil=>1
 |.cons b r=>b.AI+r.AI
def deep:Tr->Nat
 |.nil=>0
 |.cons b r=>max (b.deep+1) r.deep
def lt:Tr->Tr->Bool
 |.nil,.nil=>false
 |.nil,.cons _ _=>true
 |.cons _ _,.nil=>false
 |.cons b r,.cons c q=>if b=c then lt r q else lt b c
def lt_irrefl:∀t:Tr,lt t t=false
 |.nil=>rfl
 |.cons b r=>by rw[lt,if_pos rfl];exact lt_irrefl r
def lt_trans:∀a b c:Tr,lt a b=true->lt b c=true->lt a c=true
 |.nil,.nil,_,h,_=>by cases h
 |.nil,.cons _ _,.nil,_,h=>by cases h
 |.nil,.cons _ _,.cons _ _,_,_=>rfl
 |.cons _ _,.nil,_,h,_=>by cases h
 |.cons _ _,.cons _ _,.nil,_,h=>by cases h
 |.cons a r,.cons b s,.cons c t,B,g=>by
  rw[lt]at B g ⊢;by_cases Y:a=b
  .subst Y;rw[if_pos rfl]at B;by_cases T:a=c
   .subst T;rw[if_pos rfl]at g ⊢;exact lt_trans r s t B g
   .rw[if_neg T]at g ⊢;exact g
  .rw[if_neg Y]at B;by_cases T:b=c
   .subst T;rw[if_neg Y];exact B
   .rw[if_neg T]at g;have U:=lt_trans a b c B g;by_cases Z:a=c
    .subst Z;rw[lt_irrefl]at U;cases U
    .rw[if_neg Z];exact U
def Km:∀a b:Tr,lt a b=false->lt b a=false->a=b
 |.nil,.nil,_,_=>rfl
 |.nil,.cons _ _,h,_=>by cases h
 |.cons _ _,.nil,_,h=>by cases h
 |.cons a r,.cons b s,B,g=>by
  rw[lt]at B g;by_cases e:a=b
  .subst e;rw[if_pos rfl]at B g;rw[Km r s B g]
  .rw[if_neg e]at B;rw[if_neg (Ne.symm e)]at g;exact absurd (Km a b B g) e
def Pa(a b c:Tr)(h:lt a c=true):lt a b=true\/lt b c=true:=by
 cases B:lt a b with
 |true=>exact .inl rfl
 |false=>
  right
  cases g:lt b a with
  |true=>exact lt_trans b a c g h
  |false=>rw[<-Km a b B g];exact h
def lt_asymm{a b:Tr}(h:lt a b=true):lt b a=false:=by
 cases g:lt b a with
 |false=>rfl
 |true=>have:=lt_trans a b a h g;rw[lt_irrefl]at this;cases this
def eZ:Tr->Bool
 |.nil=>true
 |.cons b r=>b.eZ&&r.eZ&&(match r with
  |.nil=>true
  |.cons c _=>!lt b c)
def ins(x:Tr):List Tr->List Tr
 |[]=>[x]
 |y::r=>if lt x y=true then y::ins x r else x::y::r
def C5:List Tr->List Tr
 |[]=>[]
 |x::r=>ins x (C5 r)
end Tr
namespace TH
open PySem PyProof.Rows PySem.SeqAt
def Vs(h:Heap):Tr->List VL->Prop
 |.nil,us=>us=[]
 |.cons b r,us=>∃(a:AD) (g rest:List VL),us=.ref a::rest/\h.IsTuple a g.toArray/\Vs h b g/\Vs h r rest
def Vs.length{h:Heap}:∀ {t:Tr} {us:List VL},Vs h t us->us.length=t.len
 |.nil,us,e=>by rw[Vs]at e;rw[e];rfl
 |.cons b r,us,e=>by
  rw[Vs]at e;obtain⟨a,g,rest,rfl,_,_,q⟩:=e;rw[List.length_cons,Tr.len,Vs.length q]
def Im{h:Heap}{a:AD}{x y:Array VL}(U:h.IsTuple a x)(T:h.IsTuple a y):x=y:=by
 obtain⟨o,e,_,n,d⟩:=U;obtain⟨o',g,_,Y,B⟩:=T;rw[e]at g;cases g;rw[d]at B;cases B;rfl
def Vs.inj{h:Heap}:∀ {t u:Tr} {us:List VL},Vs h t us->Vs h u us->t=u
 |.nil,.nil,_,_,_=>rfl
 |.nil,.cons _ _,us,e,f=>by
  rw[Vs]at e;rw[Vs]at f;obtain⟨_,_,_,f,_⟩:=f;rw[e]at f;cases f
 |.cons _ _,.nil,us,e,f=>by
  rw[Vs]at e;rw[Vs]at f;obtain⟨_,_,_,e,_⟩:=e;rw[f]at e;cases e
 |.cons b r,.cons c q,us,e,f=>by
  rw[Vs]at e f;obtain⟨a,T,rest,rfl,h1,h2,h3⟩:=e;obtain⟨a',g,B,e',Z,Y,U⟩:=f;cases e';have:=Im h1 Z;have e2:T=g:=by simpa using this
  subst e2;rw[Vs.inj h2 Y,Vs.inj h3 U]
def Ye{s:SD}:∀(t u:Tr) (A:Around) (us vs:List VL),Vs s.heap t us->Vs s.heap u vs->A.units+t.deep<=cLine ->
  ∀j (Z:j<us.length) (Y:j<vs.length),EqAt A s us[j] vs[j] (decide (t.bs[j]? = u.bs[j]?))
 |.nil,u,A,us,vs,e,f,_,j,Z,Y=>by
  rw[Vs]at e;subst e;exact absurd Z (ae _)
 |.cons b r,.nil,A,us,vs,e,f,_,j,Z,Y=>by
  rw[Vs]at f;subst f;exact absurd Y (ae _)
 |.cons b r,.cons c q,A,us,vs,e,f,hu,j,Z,Y=>by
  rw[Vs]at e f;obtain⟨a,B,rest,rfl,k1,k2,k3⟩:=e;obtain⟨a',g,T,rfl,l1,l2,l3⟩:=f;have hd:(Tr.cons b r).deep=max (b.deep+1) r.deep:=rfl;cases j with
  |zero=>
   show EqAt A s (.ref a) (.ref a') (decide (some b=some c));by_cases ea:a=a'
   .subst ea;have:=Im k1 l1;have e2:B=g:=by simpa using this
    subst e2;rw[Vs.inj k2 l2,decide_eq_true rfl];exact EqAt.same _
   .refine EqAt.of_refs ea ?_;have key:=RcAt.tuples (s:=s) (A:=A) (e:=fun j=>decide (b.bs[j]? = c.bs[j]?)) k1 l1 (by lia) fun j x1 x2=>by
     have:=Ye b c A.in1 B g k2 l2 (by rw[show A.in1.units=A.units+1 from rfl];lia) j (by simpa using x1) (by simpa using x2)
     simpa using this
    have ev:((List.range (min B.toArray.size g.toArray.size)).all (fun j=>decide (b.bs[j]? = c.bs[j]?))&&B.toArray.size==g.toArray.size)=decide (some b=some c):=by
     have z1:B.toArray.size=b.bs.length:=by rw[Tr.Ik,<-Vs.length k2];simp
     have z2:g.toArray.size=c.bs.length:=by rw[Tr.Ik,<-Vs.length l2];simp
     rw[z1,z2];by_cases U:b=c
     .subst U;simp
     .rw[decide_eq_false (fun z=>U (ar z))];cases hl:b.bs.length==c.bs.length with
      |false=>rw[Bool.and_false]
      |true=>
       rw[Bool.and_true];have hl':b.bs.length=c.bs.length:=by simpa using hl
       refine Bool.eq_false_iff.mpr fun z=>U (Tr.k7 (List.ext_getElem? fun i=>?_));by_cases hi:i<b.bs.length
       .have:=au.mp z i (ax.mpr (by lia))
        simpa using this
       .rw[List.getElem?_eq_none (by lia),List.getElem?_eq_none (by lia)]
    rw[ev]at key;exact key
  |succ j=>
   exact Ye r q A rest T k3 l3 (by lia) j (by simpa using Z) (by simpa using Y)
def Qo{s:SD}{t u:Tr}{A:Around}{a b:AD}{g its':rz}(Y:s.heap.IsTuple a g.toArray)(T:Vs s.heap t g)(U:s.heap.IsTuple b its'.toArray)(B:Vs s.heap u its')(Z:A.units+t.deep<cLine):EqAt A s (.ref a) (.ref b) (decide (t=u)):=by
 have:=Ye (.cons t .nil) (.cons u .nil) A [.ref a] [.ref b] ⟨a,g,[],rfl,Y,T,by rw[Vs]⟩ ⟨b,its',[],rfl,U,B,by rw[Vs]⟩ (by show A.units+max (t.deep+1) 0<=cLine;lia) 0 (by simp) (by simp)
 simpa[Tr.bs]using this
section
open PySem.AutoSeq1 (wpAny_loadPart')
open PySem.MeetsSeq PySem.MeetsSeq2 PySem.MeetsSeq3
def Uh(n0:Nat)(ih:∀(t u:Tr) (A:Around) (s:SD) (a b:AD) (its its':rz),t.deep<n0->s.heap.IsTuple a its.toArray->Vs s.heap t its->s.heap.IsTuple b its'.toArray->Vs s.heap u its'->A.units+t.deep<cLine ->∀(prog:Program) (w:World) (E:sC) (Q:sC),Q (.bool (Tr.lt t u)) s->wpAny (model prog w) A (richCompare .Lt (.ref a) (.ref b)) Q E s) (l b:AD)(items B:Array VL)(n n2:Nat)(dd dd2:Option AD)(sl sl2:Array (Option VL))(t u:Tr)(ht:t.deep<=n0):Meets (Builtin.«tuple.__lt__» ⟨[.ref l,.ref b],[]⟩) (fun A R s=>s.heap.get? l=some { cls:=.type "tuple",dict:=dd,data:=.seq items n,slots:=sl}/\s.heap.get? b=some { cls:=.type "tuple",dict:=dd2,data:=.seq B n2,slots:=sl2} /\Vs s.heap t items.toList/\Vs s.heap u B.toList/\A.units+t.deep<cLine/\R (.ok (.ret (.bool (Tr.lt t u)))) s) :=
 .of_wp fun prog w A R s h=>by
  obtain⟨hp,g,d,tk,os⟩:=s;obtain⟨hl,hb,hi,hj,hun,h⟩:=h;have f2:=AutoSeq1.sub_tuple_tuple;have z1:items.size=t.len:=by rw[<-Vs.length hi];simp
  have z2:B.size=u.len:=by rw[<-Vs.length hj];simp
  wp_walk using wpAny_loadPart' hl,wpAny_loadPart' hb,wpAny_forIn_list _ (fun rest b s'=>b.1=none/\s'=⟨hp,g,d,tk,os⟩/\∃(vs ws:List VL) (t' Z:Tr),rest=vs.zip ws /\
   Vs hp t' vs/\Vs hp Z ws/\t'.deep<=t.deep/\t'.len+B.size=Z.len+items.size/\R (.ok (.ret (.bool (Tr.lt t' Z)))) ⟨hp,g,d,tk,os⟩) _
  case turn=>
   rintro⟨y,x⟩ rest b s' ⟨hb',rfl,vs,ws,t',Z,hz,Y,U,hdp,T,hR⟩;cases t' with
   |nil=>rw[Vs]at Y;subst Y;rw[List.zip_nil_left]at hz;cases hz
   |cons bt rt=>
    cases Z with
    |nil=>rw[Vs]at U;subst U;rw[List.zip_nil_right]at hz;cases hz
    |cons bu ru=>
     rw[Vs]at Y U;obtain⟨a1,i1,v1,rfl,p1,p2,p3⟩:=Y;obtain⟨a2,i2,v2,rfl,q1,q2,q3⟩:=U;rw[List.zip_cons_cons]at hz
     injection hz with hyx hrest
     injection hyx with hy hx
     subst hy hx;have hdd:(Tr.cons bt rt).deep=max (bt.deep+1) rt.deep:=rfl;rw[Tr.lt]at hR;simp only[Tr.len]at T;have he:=Qo (s:=⟨hp,g,d,tk,os⟩) (A:=A.in1) p1 p2 q1 q2 (by rw[show A.in1.units=A.units+1 from rfl];lia);refine Wb (he prog w _ _ ?_);cases hc:decide (bt=bu) with
     |true=>
      rw[if_pos (ak hc)]at hR
      wp_walk
      exact⟨rfl,rfl,_,_,_,_,hrest,p3,q3,by lia,by lia,hR⟩
     |false=>
      rw[if_neg (bg hc)]at hR;have hri:=ih bt bu A.in1 ⟨hp,g,d,tk,os⟩ a1 a2 i1 i2 (by lia) p1 p2 q1 q2 (by rw[show A.in1.units=A.units+1 from rfl];lia) prog w
      wp_walk using hri
      exact⟨_,rfl,by simpa using hR⟩
  case fin=>
   rintro⟨b1,b2⟩ s' ⟨hb',rfl,vs,ws,t',Z,hz,Y,U,hdp,T,hR⟩;simp only at hb';subst hb';have hv:Tr.lt t' Z=decide (items.size<B.size):=by
    cases t' with
    |nil=>
     cases Z with
     |nil=>
      simp only[Tr.len]at T;exact(bR (by lia)).symm
     |cons c q=>
      simp only[Tr.len]at T;exact(bc (by lia)).symm
    |cons bt rt=>
     cases Z with
     |nil=>
      simp only[Tr.len]at T;exact(bR (by lia)).symm
     |cons c q=>
      rw[Vs]at Y U;obtain⟨_,_,_,rfl,_⟩:=Y;obtain⟨_,_,_,rfl,_⟩:=U;rw[List.zip_cons_cons]at hz;cases hz
   rw[hv]at hR
   wp_walk
   exact⟨_,rfl,by simpa[Builtin.Tuple.tupleCompareSizes]using hR⟩
  case h=>
   exact⟨rfl,rfl,items.toList,B.toList,t,u,rfl,hi,hj,Nat.le_refl _,by lia,h⟩
def X8:∀(Z:Nat) (t u:Tr) (A:Around) (s:SD) (a b:AD) (g its':List VL),t.deep<Z->s.heap.IsTuple a g.toArray->Vs s.heap t g->s.heap.IsTuple b its'.toArray->Vs s.heap u its'->A.units+t.deep<cLine ->
   ∀(prog:Program) (w:World) (E:VL->SD->Prop) (Q:VL->SD->Prop),Q (.bool (Tr.lt t u)) s->wpAny (model prog w) A (richCompare .Lt (.ref a) (.ref b)) Q E s
 |0,_,_,_,_,_,_,_,_,h,_,_,_,_,_=>absurd h (ae _)
 |Z+1,t,u,A,s,a,b,g,its',hd,hl,ht,hb,hu',hun=>fun prog w E Q h=>by
  obtain⟨⟨cls,dd,data,sl⟩,ho,hc,n,U⟩:=id hl;obtain⟨⟨cls2,dd2,data2,sl2⟩,T,Y,n2,B⟩:=id hb;simp only at hc U Y B;subst hc U Y B;exact richCompare_meets_room (op:=.Lt) ⟨_,ho,rfl⟩ ⟨_,T,rfl⟩ PySem.F.slot_tuple_lt PySem.F.entry_tuple_lt (PySem.F.args_tuple_lt_2 _ _) (Uh Z (X8 Z) a b g.toArray its'.toArray n n2 dd dd2 sl sl2 t u (by lia))
   ⟨ho,T,by simpa using ht,by simpa using hu',hun,show Value.bool (Tr.lt t u)≠Value.notImplemented/\Q (.bool (Tr.lt t u)) s from⟨(fun x=>nomatch x),h⟩⟩ (by lia)
end
end TH
namespace SM
open PySem.W PyProof.Rows
def Wp{α:Type}(lt:Nat->Nat->Bool)(n:Nat):KasT α->(α->Prop)->Prop
 |.ret a,Q=>Q a
 |.ask i j k,Q=>i<n/\j<n/\Wp lt n (k (lt i j)) Q
def Wp.mono{α:Type}{lt:Nat->Nat->Bool}{n:Nat}{Q B:α->Prop}(g:∀a,Q a->B a):∀t:KasT α,Wp lt n t Q->Wp lt n t B
 |.ret a,h=>g a h
 |.ask i j k,h=>⟨h.1,h.2.1,Wp.mono g (k (lt i j)) h.2.2⟩
def Wp.bind{α β:Type}{lt:Nat->Nat->Bool}{n:Nat}{f:α->KasT β}{Q:β->Prop}:∀t:KasT α,Wp lt n t (fun a=>Wp lt n (f a) Q)->Wp lt n (t.bind f) Q
 |.ret _,h=>h
 |.ask i j k,h=>⟨h.1,h.2.1,Wp.bind (k (lt i j)) h.2.2⟩
def LD{p:sG}{i j:Nat}(g:j<=p.size)(k:Nat):(kas_rev p i j).getD k 0=if i<=k/\k<j then p.getD (i+j-1-k) 0 else p.getD k 0:=by
 have e:=getElem?_mirror_all (i:=i) g k;unfold kas_rev;rw[Array.getD_eq_getD_getElem?,Array.getD_eq_getD_getElem?,Array.getD_eq_getD_getElem?,e];split<;>rfl
def Wi{p:sG}{src d:Nat}(g:src<p.size)(hd:d<=src)(k:Nat):(bubble p src d).getD k 0=if k=src-d then p.getD src 0 else if src-d<k/\k<=src then p.getD (k-1) 0 else p.getD k 0:=by
 have e:=getElem?_bubble g d hd k;simp only[Array.getD_eq_getD_getElem?,e];split
 .rfl
 .split<;>rfl
section
variable{O:KeyOrd}{key:Nat->O.α}{n:Nat}
def Key(key:Nat->O.α)(p:sG)(i:Nat):O.α:=key (p.getD i 0)
def Up(key:Nat->O.α)(p:sG)(m:Nat):Prop:=∀i j,i<=j->j<m->O.kle (Key key p i) (Key key p j)
def Dn(key:Nat->O.α)(p:sG)(m:Nat):Prop:=∀i j,i<=j->j<m->O.kle (Key key p j) (Key key p i)
structure Pm(n:Nat)(p:Array Nat):Prop where
 perm:p.Perm (List.toArray (List.range n))
 pos:0<n
def Pm.size{p:sG}(h:Pm n p):p.size=n:=by rw[h.perm.size_eq];simp
def Pm.lt{p:sG}(h:Pm n p)(i:Nat):p.getD i 0<n:=by
 rw[Array.getD_eq_getD_getElem?];by_cases hi:i<p.size
 .rw[Array.getElem?_eq_getElem hi];have hm:p[i]∈p:=Array.getElem_mem hi;have:=(h.perm.mem_iff).mp hm
  simpa using this
 .rw[Array.getElem?_eq_none (by lia)];exact h.pos
def Pm.rev{p:sG}(h:Pm n p)(i j:Nat):Pm n (kas_rev p i j):=⟨(mirror_perm _ _ _ _).trans h.perm,h.pos⟩
def Pm.bubble{p:sG}(h:Pm n p)(i j:Nat):Pm n (bubble p i j):=⟨(bubble_perm _ _ _).trans h.perm,h.pos⟩
abbrev IA(key:Nat->O.α):Nat->Nat->Bool:=fun i j=>O.blt (key i) (key j)
def Up.one{p:sG}:Up key p 1:=fun i j B g=>by
 have:i=j:=by lia
 subst this;exact bY _
def Up.more{p:sG}{m:Nat}(h:Up key p m)(Y:1<=m)(B:O.kle (Key key p (m-1)) (Key key p m)):Up key p (m+1):=fun i j g U=>by
 by_cases e:j=m
 .subst e;by_cases T:i=j
  .subst T;exact bY _
  .exact KeyOrd.kle_trans (h i (j-1) (by lia) (by lia)) B
 .exact h i j g (by lia)
def Dn.more{p:sG}{m:Nat}(h:Dn key p m)(Y:1<=m)(B:O.kle (Key key p m) (Key key p (m-1))):Dn key p (m+1):=fun i j g U=>by
 by_cases e:j=m
 .subst e;by_cases T:i=j
  .subst T;exact bY _
  .exact KeyOrd.kle_trans B (h i (j-1) (by lia) (by lia))
 .exact h i j g (by lia)
def asc{p:Array Nat}(g:Pm n p):∀(f m:Nat),1<=m->Up key p m->Wp (IA key) n (kas_asc p f m) fun r=>m<=r/\r<=m+f/\Up key p r/\(r=m+f\/O.klt (Key key p r) (Key key p (r-1)))
 |0,m,_,h=>⟨aG _,Nat.le_refl _,h,.inl rfl⟩
 |f+1,m,T,h=>by
  refine⟨g.lt _,g.lt _,?_⟩;cases c:IA key (p.getD m 0) (p.getD (m-1) 0) with
  |true=>exact⟨aG _,by lia,h,.inr c⟩
  |false=>
   simp only[Bool.false_eq_true,if_false];refine Wp.mono (fun r B=>?_) _ (asc g f (m+1) (by lia) (h.more T c));exact⟨by lia,by lia,B.2.2.1,B.2.2.2.elim (fun z=>.inl (by lia)) .inr⟩
def Eq(key:Nat->O.α)(p:sG)(m q:Nat):Prop:=q<m/\∀k,m-(q+1)<=k->k<m->Key key p k=Key key p (m-1)
def rev_eq{p:sG}{m q:Nat}(h:Eq key p m q)(hm:m<=p.size)(k:Nat):Key key (kas_rev p (m-(q+1)) m) k=Key key p k:=by
 unfold Key;rw[LD hm];split
 .have a:=h.2 (m-(q+1)+m-1-k) (by have:=h.1;lia) (by have:=h.1;lia);have b:=h.2 k (by lia) (by lia);exact a.trans b.symm
 .rfl
def desc:∀(f:Nat) (p:Array Nat) (m q:Nat),Pm n p->1<=m->m+f<=n->Dn key p m->Eq key p m q->Wp (IA key) n (kas_desc f p m q) fun r=>Pm n r.1/\m<=r.2.1/\r.2.1<=m+f/\Dn key r.1 r.2.1/\Eq key r.1 r.2.1 r.2.2
 |0,p,m,q,g,_,_,h,e=>⟨g,Nat.le_refl _,Nat.le_refl _,h,e⟩
 |f+1,p,m,q,g,Z,hf,h,e=>by
  refine⟨g.lt _,g.lt _,?_⟩;have hm:m<=p.size:=by rw[g.size];lia
  cases c:IA key (p.getD m 0) (p.getD (m-1) 0) with
  |true=>
   have ck:O.klt (Key key p m) (Key key p (m-1)):=c;simp only[if_true];have fin:∀B:Array Nat,Pm n B->(∀k,Key key B k=Key key p k)->Wp (IA key) n (kas_desc f B (m+1) 0) fun r=>Pm n r.1/\m<=r.2.1/\r.2.1<=m+(f+1)/\Dn key r.1 r.2.1/\Eq key r.1 r.2.1 r.2.2:=fun B U hk=>by
    have hd:Dn key B (m+1):=fun i j Y hj=>by rw[hk,hk];exact h.more Z (KeyOrd.kle_of_klt ck) i j Y hj
    have he:Eq key B (m+1) 0:=⟨by lia,fun k Z h2=>by rw[show k=m+1-1 by lia]⟩;exact Wp.mono (fun r T=>⟨T.1,by lia,by lia,T.2.2.2.1,T.2.2.2.2⟩) _ (desc f B (m+1) 0 U (by lia) (by lia) hd he)
   split
   .exact fin _ (g.rev _ _) (rev_eq e hm)
   .exact fin _ g fun _=>rfl
  |false=>
   simp only[Bool.false_eq_true,if_false];refine⟨g.lt _,g.lt _,?_⟩;cases d:IA key (p.getD (m-1) 0) (p.getD m 0) with
   |true=>
    simp only[if_true];exact⟨g,Nat.le_refl _,Nat.le_add_right _ _,h,e⟩
   |false=>
    simp only[Bool.false_eq_true,if_false];have ek:Key key p m=Key key p (m-1):=KeyOrd.kle_antisymm (show O.kle (Key key p m) (Key key p (m-1)) from d) (show O.kle (Key key p (m-1)) (Key key p m) from c);refine Wp.mono (fun r T=>⟨T.1,by lia,by lia,T.2.2.2.1,T.2.2.2.2⟩) _ (desc f p (m+1) (q+1) g (by lia) (by lia) (h.more Z (by rw[ek];exact bY _)) ⟨by have:=e.1;lia,fun k h2 h3=>?_⟩);rw[show m+1-1=m by lia,ek];by_cases z:k=m
    .rw[z,ek]
    .exact e.2 k (by lia) (by lia)
def kZ{p:sG}{m:Nat}(h:Dn key p m)(hm:m<=p.size):Up key (kas_rev p 0 m) m:=fun i j g B=>by
 unfold Key;rw[LD hm,LD hm,if_pos ⟨bE _,by lia⟩,if_pos ⟨bE _,by lia⟩];exact h (0+m-1-j) (0+m-1-i) (by lia) (by lia)
def tail3{p:sG}{m:Nat}(g:Pm n p)(T:1<=m)(hm:m<=n)(h:Dn key p m):Wp (IA key) n (kas_tail3 m n p) fun r=>Pm n r.2/\1<=r.1/\r.1<=n/\Up key r.2 r.1:=by
 unfold kas_tail3;refine Wp.bind _ (Wp.mono (fun r B=>?_) _ (asc (g.rev 0 m) (n-m) m T (kZ h (by rw[g.size];exact hm))));exact⟨g.rev 0 m,by lia,by lia,B.2.2.1⟩
def descPart{p:sG}{m:Nat}(U:Pm n p)(Z:1<=m)(hm:m+1<=n)(h:Dn key p (m+1)):Wp (IA key) n (kas_descPart m n p) fun r=>Pm n r.2/\1<=r.1/\r.1<=n/\Up key r.2 r.1:=by
 unfold kas_descPart;refine Wp.bind _ (Wp.mono (fun r T=>?_) _ (desc (n-(m+1)) p (m+1) 0 U (by lia) (by lia) h ⟨by lia,fun k Z h2=>by rw[show k=m+1-1 by lia]⟩));obtain⟨a,b,c,d,e⟩:=T;have B:r.2.1<=r.1.size:=by rw[a.size];lia
 split
 .refine tail3 (a.rev _ _) (by lia) (by lia) fun i j g Y=>?_;rw[rev_eq e B,rev_eq e B];exact d i j g Y
 .exact tail3 a (by lia) (by lia) d
def count{p:sG}(g:Pm n p):Wp (IA key) n (kas_count n p) fun r=>Pm n r.2/\1<=r.1/\r.1<=n/\Up key r.2 r.1:=by
 have hn:=g.pos;unfold kas_count;refine Wp.bind _ (Wp.mono (fun m hm=>?_) _ (asc g (n-1) 1 (aG _) Up.one));obtain⟨Y,h2,U,h4⟩:=hm;split
 .exact⟨g,Y,by lia,U⟩
 .rename_i Z;have T:m≠n:=by simpa using Z
  have hk:O.klt (Key key p m) (Key key p (m-1)):=by
   rcases h4 with z|z
   .exact absurd (by lia) T
   .exact z
  have hz:m<=p.size:=by rw[g.size];lia
  split
  .refine⟨g.lt _,g.lt _,?_⟩;cases c:IA key (p.getD 0 0) (p.getD (m-1) 0) with
   |true=>simp only[if_true];exact⟨g,Y,by lia,U⟩
   |false=>
    simp only[Bool.false_eq_true,if_false];have all:∀k,k<m->Key key p k=Key key p (m-1):=fun k B=>KeyOrd.kle_antisymm (U k (m-1) (by lia) (by lia)) (KeyOrd.kle_trans (show O.kle (Key key p (m-1)) (Key key p 0) from c) (U 0 k (by lia) B));have ek:∀k,Key key (kas_rev p 0 m) k=Key key p k:=fun k=>by
     by_cases B:k<m
     .have:Key key (kas_rev p 0 m) k=Key key p (0+m-1-k):=by
       unfold Key;rw[LD hz,if_pos ⟨bE _,B⟩]
      rw[this,all _ (by lia),all k B]
     .unfold Key;rw[LD hz,if_neg (by lia)]
    refine descPart (g.rev _ _) Y (by lia) fun i j hij hj=>?_;rw[ek,ek];by_cases e:j=m
    .subst e;by_cases e2:i=j
     .subst e2;exact bY _
     .rw[all i (by lia)];exact KeyOrd.kle_of_klt hk
    .rw[all i (by lia),all j (by lia)];exact bY _
  .have:m=1:=by lia
   subst this;refine descPart g Y (by lia) fun i j hij hj=>?_;by_cases e:i=j
   .subst e;exact bY _
   .rw[show i=0 by lia,show j=1 by lia];exact KeyOrd.kle_of_klt hk
def place{p:Array Nat}{k:Nat}(B:Pm n p)(g:Up key p k):∀(f l r:Nat),l<=r->r<=k->r-l<=f->(∀i,i<l->O.kle (Key key p i) (Key key p k))->(∀i,r<=i->i<k->O.klt (Key key p k) (Key key p i)) ->
  Wp (IA key) n (kas_place p k f l r) fun x=>x<=k/\(∀i,i<x->O.kle (Key key p i) (Key key p k))/\∀i,x<=i->i<k->O.klt (Key key p k) (Key key p i)
 |0,l,r,h1,T,Z,a,b=>by
  have:l=r:=by lia
  subst this;exact⟨T,a,b⟩
 |f+1,l,r,h1,T,Z,a,b=>by
  unfold kas_place;split
  .have:l=r:=by lia
   subst this;exact⟨T,a,b⟩
  .refine⟨B.lt _,B.lt _,?_⟩;cases c:IA key (p.getD k 0) (p.getD ((l+r) / 2) 0) with
   |true=>
    simp only[if_true];exact place B g f l ((l+r) / 2) (by lia) (by lia) (by lia) a fun i U Y=>KeyOrd.klt_of_klt_of_kle (show O.klt (Key key p k) (Key key p ((l+r) / 2)) from c) (g _ _ U Y)
   |false=>
    simp only[Bool.false_eq_true,if_false];exact place B g f ((l+r) / 2+1) r (by lia) T (by lia) (fun i U=>KeyOrd.kle_trans (g i ((l+r) / 2) (by lia) (by lia)) (show O.kle (Key key p ((l+r) / 2)) (Key key p k) from c)) b
def bin:∀(f:Nat) (p:Array Nat) (k:Nat),Pm n p->1<=k->k+f=n->Up key p k->Wp (IA key) n (kas_bin f p k) fun r=>Pm n r/\Up key r n
 |0,p,k,g,_,hk,h=>by
  have:k=n:=by lia
  subst this;exact⟨g,h⟩
 |f+1,p,k,g,h1,hk,h=>by
  have T:k<p.size:=by rw[g.size];lia
  refine Wp.bind _ (Wp.mono (fun l hl=>?_) _ (place g h k 0 k (bE _) (aG _) (by lia) (fun i z=>absurd z (by lia)) fun i Z z2=>absurd Z (by lia)));obtain⟨hlk,B,U⟩:=hl;refine bin f _ (k+1) (g.bubble _ _) (by lia) (by lia) fun i j hij hj=>?_;have Y:∀x,Key key (PyProof.Rows.bubble p k (k-l)) x=if x=l then Key key p k else if l<x/\x<=k then Key key p (x-1) else Key key p x:=fun x=>by
   unfold Key;rw[Wi T (by lia),show k-(k-l)=l by lia];split
   .rfl
   .split<;>rfl
  rw[Y,Y]
  repeat' split
  all_goals first
   |(exfalso;lia)
   |exact bY _
   |exact B _ (by lia)
   |exact KeyOrd.kle_of_klt (U _ (by lia) (by lia))
   |exact h _ _ (by lia) (by lia)
def sort(hn:0<n):Wp (IA key) n (kas_sort n) fun p=>Pm n p/\Up key p n:=by
 have B:Pm n (List.toArray (List.range n)):=⟨Array.Perm.refl _,hn⟩;unfold kas_sort;refine Wp.bind _ (Wp.mono (fun r g=>?_) _ (count B));obtain⟨a,b,c,d⟩:=g;split
 .rw[show max r.1 1=r.1 by lia];exact bin _ _ _ a b (by lia) d
 .have:r.1=n:=by lia
  rw[this]at d;exact⟨a,d⟩
end
end SM
namespace Tr
def QN(x:Tr):∀l:List Tr,(ins x l).Perm (x::l)
 |[]=>.refl _
 |y::r=>by
  rw[ins];split
  .exact((QN x r).cons y).trans (.swap x y r)
  .exact .refl _
def LI:∀l:List Tr,(C5 l).Perm l
 |[]=>.refl _
 |x::r=>by
  rw[C5];exact(QN x (C5 r)).trans ((LI r).cons x)
abbrev SE(l:List Tr):Prop:=l.Pairwise fun a b=>lt a b=false
def VJ(x:Tr):∀l:List Tr,SE l->SE (ins x l)
 |[],_=>List.pairwise_singleton _ _
 |y::r,h=>by
  obtain⟨B,U⟩:=bh.mp h;rw[ins];split
  .rename_i c;refine bh.mpr ⟨fun z g=>?_,VJ x r U⟩;rcases aN.mp ((QN x r).mem_iff.mp g) with rfl|g
   .exact lt_asymm c
   .exact B z g
  .rename_i c;have T:lt x y=false:=by simpa using c
   refine bh.mpr ⟨fun z g=>?_,h⟩;rcases aN.mp g with rfl|g
   .exact T
   .cases e:lt x z with
    |false=>rfl
    |true=>
     rcases Pa x y z e with q|q
     .rw[T]at q;cases q
     .rw[B z g]at q;cases q
def LY:∀l:List Tr,SE (C5 l)
 |[]=>List.Pairwise.nil
 |x::r=>by rw[C5];exact VJ x _ (LY r)
def L7:∀ {l m:List Tr},SE l->SE m->l.Perm m->l=m
 |[],m,_,_,p=>(List.nil_perm.mp p).symm
 |x::r,[],_,_,p=>absurd p.length_eq (by simp)
 |x::r,y::q,U,T,p=>by
  obtain⟨a1,a2⟩:=bh.mp U;obtain⟨b1,b2⟩:=bh.mp T;have B:x∈y::q:=p.mem_iff.mp aZ;have g:y∈x::r:=p.mem_iff.mpr aZ;have e:x=y:=by
   rcases aN.mp B with e|B
   .exact e
   .rcases aN.mp g with e|g
    .exact e.symm
    .exact Km x y (a1 y g) (b1 x B)
  subst e;rw[L7 a2 b2 (List.Perm.cons_inv p)]
def cM{l m:sR}(h:SE m)(p:m.Perm l):m=C5 l:=L7 h (LY l) (p.trans (LI l).symm)
def YF{l m:sR}(h:m.Pairwise fun a b=>lt b a=false)(p:m.Perm l):m=(C5 l).reverse:=by
 have:m.reverse=C5 l:=cM (List.pairwise_reverse.mpr h) ((List.reverse_perm m).trans p);rw[<-this,List.reverse_reverse]
def O2(n:Nat):∀l:List Tr,(of l).deep<=n ↔ ∀c∈l,c.deep+1<=n
 |[]=>by simp[of,deep]
 |b::r=>by
  rw[of,deep,List.forall_mem_cons,<-O2 n r]
  lia
def ZP{l m:sR}(p:l.Perm m):(of l).deep<=(of m).deep:=(O2 _ l).mpr fun c g=>(O2 _ m).mp (aG _) c (p.mem_iff.mp g)
def cT(t:Tr):(of t.bs.reverse).deep<=t.deep:=by
 have:=ZP (List.reverse_perm t.bs)
 rwa [PK]at this
def ord:PyProof.Rows.KeyOrd where
 α:=Tr
 blt:=lt
 irrefl:=lt_irrefl
 trans:=lt_trans
 negTrans:=Pa
 total:=Km
end Tr
namespace TH
open PySem PySem.W PyProof.Rows PySem.SeqAt
def Vs.at{h:Heap}:∀ {t:Tr} {us:List VL} {i:Nat},Vs h t us->i<us.length->∃(a:AD) (g:List VL) (c:Tr),us.getD i Value.none=.ref a/\h.IsTuple a g.toArray/\Vs h c g/\t.bs[i]? = some c/\c.deep<t.deep
 |.nil,us,i,e,hi=>by rw[Vs]at e;subst e;exact absurd hi (ae _)
 |.cons b r,us,i,e,hi=>by
  rw[Vs]at e;obtain⟨a,g,rest,rfl,h1,Z,Y⟩:=e;have hd:(Tr.cons b r).deep=max (b.deep+1) r.deep:=rfl;cases i with
  |zero=>exact⟨a,g,b,rfl,h1,Z,rfl,by lia⟩
  |succ i=>
   obtain⟨a',B,c,q1,q2,U,T,q5⟩:=Vs.at (i:=i) Y (by simpa using hi);exact⟨a',B,c,by simpa using q1,q2,U,by simpa[Tr.bs]using T,by lia⟩
def Vs.LO{h:Heap}:∀(ts:List Tr) (us:List VL),us.length=ts.length->(∀i,i<ts.length->∃(a:AD) (g:List VL) (c:Tr),us[i]? = some (.ref a)/\h.IsTuple a g.toArray/\Vs h c g/\ts[i]? = some c)->Vs h (Tr.of ts) us
 |[],us,T,_=>by
  rw[Tr.of,Vs];exact bG (by simpa using T)
 |t::ts,[],T,_=>by simp at T
 |t::ts,u::us,T,h=>by
  rw[Tr.of,Vs];obtain⟨a,g,c,Y,e2,e3,U⟩:=h 0 (by simp);simp at Y U;subst Y U;refine⟨a,g,us,rfl,e2,e3,Vs.LO ts us (by simpa using T) fun i hi=>?_⟩;obtain⟨a',B,c',q1,q2,q3,Z⟩:=h (i+1) (by simpa using hi);exact⟨a',B,c',by simpa using q1,q2,q3,by simpa using Z⟩
def Vs.all{h:Heap}{t:Tr}{us:rz}(e:Vs h t us):∀i,i<t.bs.length->∃(a:AD) (g:rz) (c:Tr),us[i]? = some (.ref a)/\h.IsTuple a g.toArray/\Vs h c g/\t.bs[i]? = some c:=fun i hi=>by
 have B:i<us.length:=by rw[Vs.length e,<-Tr.Ik];exact hi
 obtain⟨a,g,c,q1,q2,U,T,_⟩:=e.at B;refine⟨a,g,c,?_,q2,U,T⟩;rw[List.getD_eq_getElem?_getD,List.getElem?_eq_getElem B]at q1;rw[List.getElem?_eq_getElem B]
 simpa using q1
section
variable{prog:Program}{w:World}{A:Around}{E:sC}{s:SD}{t u:Tr}{a b:AD}{its its':rz}{Q:Bool->SD->Prop}
def Xf(Y:s.heap.IsTuple a its.toArray)(B:Vs s.heap t its)(U:s.heap.IsTuple b its'.toArray)(g:Vs s.heap u its')(T:A.units+t.deep<cLine)(h:Q (Tr.lt t u) s):wpAny (model prog w) A (oneLt' false (.ref a) (.ref b)) Q E s:=by
 rw[oneLt'_eq];simp only[Bool.false_eq_true,if_false];exact Wb (X8 (t.deep+1) t u A s a b its its' (bN _) Y B U g T prog w E _ (ba h))
def jA(h1:s.heap.IsTuple a its.toArray)(k1:Vs s.heap t its)(h2:s.heap.IsTuple b its'.toArray)(k2:Vs s.heap u its')(hu:A.units+t.deep<cLine)(h:Q (Tr.lt t u) s):wpAny (model prog w) A (oneLt' true (.ref a) (.ref b)) Q E s:=by
 rw[oneLt'_eq];simp only[if_true];refine Wb (wpAny_cRoomFor (by lia) ?_);obtain⟨⟨cls,dd,data,sl⟩,ho,hc,n,B⟩:=id h1;obtain⟨⟨cls2,dd2,data2,Y⟩,Z,U,n2,g⟩:=id h2;simp only at hc B U g;subst hc B U g;refine Wb (wpAny_callSpecialIfBound?_slot (T := "tuple") ⟨_,ho,rfl⟩ PySem.F.slot_tuple_lt (call_meets PySem.F.slot_tuple_lt ⟨_,ho,rfl⟩ PySem.F.entry_tuple_lt (PySem.F.args_tuple_lt_2 _ _)
  (Uh t.deep (X8 t.deep) a b its.toArray its'.toArray n n2 dd dd2 sl Y t u (aG _)) ⟨ho,Z,by simpa using k1,by simpa using k2,hu,?_⟩))
 exact ba h
def X1:∀(t u:Tr) (us vs:List VL) (i:Nat),Vs s.heap t us->Vs s.heap u vs->A.units+t.deep<=cLine->Q (Tr.lt t u) s->KatLex prog w A false (decide (t.len<u.len)) Q (us.zip vs) i s
 |.nil,.nil,us,vs,i,e,f,_,h=>by
  rw[Vs]at e;subst e;rw[List.zip_nil_left];exact kat_nil h
 |.nil,.cons c q,us,vs,i,e,f,_,h=>by
  rw[Vs]at e;subst e;rw[List.zip_nil_left];refine kat_nil ?_;rw[show decide (Tr.nil.len<(Tr.cons c q).len)=true from bc (Nat.zero_lt_succ _)];exact h
 |.cons b r,.nil,us,vs,i,e,f,_,h=>by
  rw[Vs]at f;subst f;rw[List.zip_nil_right];refine kat_nil ?_;rw[show decide ((Tr.cons b r).len<Tr.nil.len)=false from bR (ae _)];exact h
 |.cons b r,.cons c q,us,vs,i,e,f,hu,h=>by
  rw[Vs]at e f;obtain⟨a,its,rest,rfl,Z,Y,k3⟩:=e;obtain⟨a',its',B,rfl,U,T,l3⟩:=f;have hd:(Tr.cons b r).deep=max (b.deep+1) r.deep:=rfl;rw[List.zip_cons_cons,show decide ((Tr.cons b r).len<(Tr.cons c q).len)=decide (r.len<q.len) from by simp[Tr.len]];rw[Tr.lt]at h;refine kat_cons (Qo Z Y U T (by lia) prog w _ _ ?_);by_cases g:b=c
  .rw[decide_eq_true g];rw[if_pos g]at h;exact kat_yes (X1 r q rest B (i+1) k3 l3 (by lia) h)
  .rw[decide_eq_false g];rw[if_neg g]at h;exact kat_no (by rw[Bool.false_and];exact Xf Z Y U T (by lia) h)
def iP(h1:s.heap.IsTuple a its.toArray)(U:Vs s.heap t its)(h2:s.heap.IsTuple b its'.toArray)(T:Vs s.heap u its')(hu:A.units+t.deep<cLine)(h:Q (Tr.lt t u) s):wpAny (model prog w) A (keyLt' (tuples' false) (.ref a) (.ref b)) Q E s:=by
 obtain⟨o,ho,hc,n,hd⟩:=id h1;obtain⟨o2,g,hc2,n2,B⟩:=id h2;refine kat_lt ho hd g B ?_;have Z:its.toArray.size=t.len:=by rw[<-Vs.length U];simp
 have Y:its'.toArray.size=u.len:=by rw[<-Vs.length T];simp
 rw[Z,Y];exact X1 t u its its' 0 U T (by lia) h
def WH(g:SortKind):Prop:=g=general'\/g=oneType'\/g=tuples' false
def ia{κ:SortKind}(T:WH κ)(Z:s.heap.IsTuple a its.toArray)(B:Vs s.heap t its)(Y:s.heap.IsTuple b its'.toArray)(g:Vs s.heap u its')(U:A.units+t.deep<cLine)(h:Q (Tr.lt t u) s):wpAny (model prog w) A (keyLt' κ (.ref a) (.ref b)) Q E s:=by
 rcases T with rfl|rfl|rfl
 .exact Xf Z B Y g U h
 .rw[keyLt'_oneType];exact jA Z B Y g U h
 .exact iP Z B Y g U h
def PX{M:Model}{h:Heap}{a:AD}{x:Array VL}(T:h.IsTuple a x):Looks M h (typeOf (.ref a)) (.type "tuple"):=by
 obtain⟨o,g,B,_⟩:=T;exact B ▸ (Looks.ld g).andThen .now
def TK{M:Model}:∀(t:Tr) (us:List VL) {Q:List (Option VL)->SD->Prop},Vs s.heap t us->(∀fs:List (Option VL),(∀v,some v∈fs->Looks M s.heap (typeOf v) (.type "tuple"))->Q fs s)->wpAny M A (us.mapM firstOfTuple') Q E s
 |.nil,us,Q,e,h=>by
  rw[Vs]at e;subst e;rw[List.mapM_nil];exact aA (h [] fun _ z=>by cases z)
 |.cons b r,us,Q,e,h=>by
  rw[Vs]at e;obtain⟨a,its,rest,rfl,h1,g,h3⟩:=e;obtain⟨o,U,hc,n,hd⟩:=id h1;rw[List.mapM_cons];refine Wb ?_;rw[kas_first_eq];refine Wb (Looks.here (show Looks M s.heap (typeOf (.ref a)) o.cls from(Looks.ld U).andThen .now) ?_);rw[hc,if_neg (by first|decide|simp)];refine Wb (listItems_at U hd (aA ?_));refine Wb (TK r rest (Q:=fun bs Y=>wpAny M A (pure (its.toArray[0]? :: bs)) Q E Y) h3 fun fs T=>aA (h _ fun v hv=>?_));rcases aN.mp hv with z|z
  .cases b with
   |nil=>rw[Vs]at g;subst g;simp at z
   |cons c q=>
    rw[Vs]at g;obtain⟨a',its',B,rfl,Z,_⟩:=g;simp at z;subst z;exact PX Z
  .exact T v z
def Wz{M:Model}{vs:rz}{Q:Option VL->SD->Prop}(U:∀v∈vs,Looks M s.heap (typeOf v) (.type "tuple"))(h0:vs=[]->Q none s)(Y:Q (some (.type "tuple")) s):wpAny M A (oneTypeOnly' vs.toArray) Q E s:=by
 rw[oneTypeOnly'_eq,List.mapM_toArray,map_eq_pure_bind];refine Wb (Wb (kas_mapM (r:=Value.type "tuple") _ (fun v B Q' T=>(U v B).here T) (aA ?_)));cases vs with
 |nil=>exact aA (h0 rfl)
 |cons f r=>
  have g:((List.map (fun _=>Value.type "tuple") (f::r)).toArray.all fun x=>x==Value.type "tuple")=true:=by
   simp only[List.all_toArray,List.all_map,List.all_eq_true];intro _ _
   rfl
  have Z:(List.map (fun _=>Value.type "tuple") (f::r)).toArray[0]? = some (Value.type "tuple"):=by simp
  rw[Z];simp only[g,if_true];exact aA Y
def gg{M:Model}{t:Tr}{us:rz}{Q:SortKind->SD->Prop}(e:Vs s.heap t us)(h:∀U,WH U->Q U s):wpAny M A (keyKind' us.toArray) Q E s:=by
 rw[kat_kind_eq,List.mapM_toArray,map_eq_pure_bind];refine Wb (Wb (TK t us e fun fs T=>aA ?_));split
 .refine Wb (bP ?_);have Y:fs.toArray.filterMap id=(fs.filterMap id).toArray:=by simp
  rw[Y];have B:∀v∈fs.filterMap id,Looks M s.heap (typeOf v) (.type "tuple"):=fun v g=>T v (by simpa using g);refine Wb (Wz B (fun _=>?_) ?_)
  .exact aA (h _ (.inr (.inr rfl)))
  .exact aA (h _ (.inr (.inr rfl)))
 .split
  .exact aA (h _ (.inl rfl))
  .have B:∀v∈us,Looks M s.heap (typeOf v) (.type "tuple"):=fun v g=>by
    obtain⟨i,hi,rfl⟩:=List.getElem_of_mem g;obtain⟨a,its,c,q1,q2,_⟩:=e.at hi;rw[List.getD_eq_getElem?_getD,List.getElem?_eq_getElem hi]at q1;simp at q1;rw[q1];exact PX q2
   refine Wb (Wz B (fun _=>?_) ?_)
   .exact aA (h _ (.inl rfl))
   .exact aA (h _ (.inr (.inl rfl)))
def VF{α:Type}{cmp:Nat->Nat->(Bool->SD->Prop)->SD->Prop}{lt:Nat->Nat->Bool}{n:Nat}{B:α->Prop}(g:∀i j C,i<n->j<n->C (lt i j) s->cmp i j C s):∀T:KasT α,SM.Wp lt n T B->T.kasWp cmp (fun a s'=>s'=s/\B a) s
 |.ret a,h=>⟨rfl,h⟩
 |.ask i j k,h=>g i j _ h.1 h.2.1 (VF g (k (lt i j)) h.2.2)
end
end TH
namespace TH
open PySem PySem.W PyProof.Rows PySem.SeqAt
def Vs.keeps{h h':Heap}(k:∀b o,h.get? b=some o->o.cls=.type "tuple" -> h'.get? b=some o):∀ {t:Tr} {us:List VL},Vs h t us->Vs h' t us
 |.nil,us,e=>by rw[Vs]at e ⊢;exact e
 |.cons b r,us,e=>by
  rw[Vs]at e ⊢;obtain⟨a,g,rest,rfl,⟨o,T,B,hd⟩,Y,U⟩:=e;exact⟨a,g,rest,rfl,⟨o,k _ _ T B,B,hd⟩,Y.keeps k,U.keeps k⟩
def map_getD{α:Type}(d:α)(l:List α):(List.range l.length).map (fun i=>l.getD i d)=l:=by
 refine List.ext_getElem (by simp) fun i B g=>?_;simp[g]
def Vs.rev{h:Heap}{t:Tr}{us:rz}(e:Vs h t us):Vs h (Tr.of t.bs.reverse) us.reverse:=by
 have B:us.length=t.bs.length:=by rw[e.length,Tr.Ik]
 refine Vs.LO _ _ (by simp[B]) fun i hi=>?_;rw[List.length_reverse]at hi;obtain⟨a,g,c,q1,q2,U,T⟩:=e.all (t.bs.length-1-i) (by lia);exact⟨a,g,c,by rw[List.getElem?_reverse (by lia),B];exact q1,q2,U,by rw[List.getElem?_reverse hi];exact T⟩
section
variable{prog:Program}{w:World}{A:Around}{E:sC}{s:SD}
def dG{κ:SortKind}{t:Tr}{g:rz}(Z:WH κ)(e:Vs s.heap t g)(h2:2<=g.length)(h64:g.length<64)(hu:A.units+t.deep<=cLine):wpAny (model prog w) A ((sortRuns').run (SortSt.mk' κ (g.toArray.zip g.toArray) #[] 7 none)) (fun r s'=>s'=s/\failedOf r.2=none/\∃ix:sO,ix.length=g.length/\(∀i∈ix,i<g.length) /\(arrOf r.2).map (·.2)=(ix.map fun i=>g.getD i Value.none).toArray/\(ix.map fun i=>t.bs.getD i .nil)=(Tr.C5 t.bs).reverse) E s:=by
 have hl:g.length=t.bs.length:=by rw[e.length,Tr.Ik]
 have key:∀i,i<g.length->∃(a:AD) (B:List VL),g.getD i Value.none=.ref a/\s.heap.IsTuple a B.toArray/\Vs s.heap (t.bs.getD i .nil) B/\(t.bs.getD i .nil).deep<t.deep:=fun i hi=>by
  obtain⟨a,B,c,q1,q2,Y,q4,q5⟩:=e.at hi;have:t.bs.getD i .nil=c:=by rw[List.getD_eq_getElem?_getD,q4];rfl
  rw[this];exact⟨a,B,q1,q2,Y,q5⟩
 refine kat_run (Q:=fun T s'=>s'=s/\failedOf T=none/\∃ix:List Nat,ix.length=g.length/\(∀i∈ix,i<g.length)/\(arrOf T).map (·.2)=(ix.map fun i=>g.getD i Value.none).toArray/\(ix.map fun i=>t.bs.getD i .nil)=(Tr.C5 t.bs).reverse)
  (G:=fun p s'=>s'=s/\SM.Pm g.length p/\SM.Up (O:=Tr.ord) (fun i=>t.bs.getD i .nil) p g.length) rfl h2 h64 (fun p T s' hp har hf hG=>?_)
  (VF (lt:=SM.IA (O:=Tr.ord) fun i=>t.bs.getD i .nil) (n:=g.length) (fun i j C hi U hC=>?_) _ (SM.sort (by lia)))
 .obtain⟨rfl,hpm,hup⟩:=hG;have h1:p.toList.Perm (List.range g.length):=by simpa using Array.perm_iff_toList_perm.mp hpm.perm
  refine⟨rfl,hf,p.toList,by rw[Array.length_toList,hp],fun i hi=>ax.mp (h1.mem_iff.mp hi),kat_snds rfl har,?_⟩;have perm:(p.toList.map fun i=>t.bs.getD i .nil).Perm t.bs:=by
   have h3:=h1.map fun i=>t.bs.getD i Tr.nil
   rwa [hl,map_getD]at h3
  refine Tr.YF (List.pairwise_iff_getElem.mpr fun i j hi U hij=>?_) perm;rw[List.length_map,Array.length_toList,hp]at hi U;have:=hup i j (by lia) U;have e1:∀k,k<g.length->∀hk,(p.toList.map fun i=>t.bs.getD i Tr.nil)[k]'hk=t.bs.getD (p.getD k 0) .nil:=fun k hk hk'=>by
   rw[List.getElem_map,Array.getElem_toList,Array.getD,dif_pos (by lia)]
   rfl
  rw[e1 i hi,e1 j U];exact this
 .obtain⟨a,B,q1,q2,Y,q4⟩:=key i hi;obtain⟨a',its',r1,r2,r3,r4⟩:=key j U;unfold kas_ask;rw[q1,r1];exact ia Z q2 Y r2 r3 (by lia) hC
def a9(b:Bool)(us:rz)(hz:us.length<2):(if b=true then((if b=true then(us.toArray.zip us.toArray).reverse else us.toArray.zip us.toArray).map (·.2)).reverse else(if b=true then(us.toArray.zip us.toArray).reverse else us.toArray.zip us.toArray).map (·.2))=us.toArray:=by
 match us,hz with
 |[],_=>cases b<;>simp
 |[x],_=>cases b<;>simp
def Ov{a : AD}{us : rz}{t : Tr}{n : Nat}{b : Bool}{P : PySem.Fin->SD->Prop}(ho : s.heap.get? a = some (seqObj "list" us.toArray n))(e : Vs s.heap t us)(h64 : us.length < 64)(hu : A.units + t.deep<=cLine) (h : ∀ ix : sO,ix.length = us.length->(∀ i∈ix,i < us.length)->(ix.map fun i => t.bs.getD i .nil) = (if b then Tr.C5 t.bs else (Tr.C5 t.bs).reverse)->P (.done (.ret .none)) { s with heap:=sortedHeap s.heap a us (ix.map fun i => us.getD i Value.none).toArray }):wpAny (model prog w) A (Builtin.«list.sort» ⟨[.ref a],[(Str.ofString "reverse",.bool b)]⟩) P E s:=by
  rw [list_sort_rev]
  have ha : a < s.heap.objs.size:=aF ho
  refine Wb (listItems_at ho rfl ?_)
  refine Wb (listUpdate_at ho rfl ?_ (by rw [List.size_toArray,sizeLine_eq]; lia) (bE _))
  obtain ⟨e1,ho1⟩ : ∃ e1,(s.heap.update a (Obj.mapSeq fun _ => #[])).get? a = some (seqObj "list" #[] e1):=⟨_,get?_update_seq ho (fun _ => #[])⟩
  refine Wb (seqEpoch_at ho1 rfl ?_)
  refine Wb (wpAny_newTuple ?_ (by show us.length<=_; rw [sizeLine_eq]; lia))
  refine Wb (wpAny_newList ?_ (bE _))
  refine aS ?_
  have ho6 : (((s.heap.update a (Obj.mapSeq fun _ => #[])).push (seqObj "tuple" us.toArray 0)).push (seqObj "list" #[] 0)).get? a = some (seqObj "list" #[] e1):=by
    rw [Heap.get?_push_ne _ _ _ (by rw [size_push',Heap.size_update]; exact aK (bQ ha)),Heap.get?_push_ne _ _ _ (by rw [Heap.size_update]; exact aK ha)]
    exact ho1
  have keep : ∀ c o,s.heap.get? c = some o->o.cls = .type "tuple" -> (((s.heap.update a (Obj.mapSeq fun _ => #[])).push (seqObj "tuple" us.toArray 0)).push (seqObj "list" #[] 0)).get? c = some o:=fun c o hc hcl => by
    have hne : c≠a:=fun z => by
      rw [z,ho] at hc
      cases hc
      exact absurd (show Value.type "list" = Value.type "tuple" from hcl) (by decide)
    refine aE _ (aE _ ?_)
    rw [Heap.get?_update_ne _ _ _ _ hne]
    exact hc
  show wpAny (model prog w) A _ P E { s with heap:=((s.heap.update a (Obj.mapSeq fun _ => #[])).push (seqObj "tuple" us.toArray 0)).push (seqObj "list" #[] 0) }
  have e6:=e.keeps keep
  dsimp only
  have step : ∀ T : Sem PySem.Fin,wpAny (model prog w) A T P E { s with heap:=((s.heap.update a (Obj.mapSeq fun _ => #[])).push (seqObj "tuple" us.toArray 0)).push (seqObj "list" #[] 0) } ->
      wpAny (model prog w) A (if b = true then (do let _ <- rule "list.sort.reverse"; T) else T) P E { s with heap:=((s.heap.update a (Obj.mapSeq fun _ => #[])).push (seqObj "tuple" us.toArray 0)).push (seqObj "list" #[] 0) }:=by
    intro T hT
    split
    . exact Wb (bP hT)
    . exact hT
  refine step _ ?_
  by_cases h2 : us.toArray.size < 2
  . rw [if_pos h2,if_pos h2]
    refine Wb (aA ?_)
    rw [StateT.run_pure]
    refine Wb (aA ?_)
    dsimp only
    have hz : us.length < 2:=by simpa using h2
    have hout:=a9 b us hz
    refine Wb (seqEpoch_at ho6 rfl ?_)
    refine Wb (listUpdate_at ho6 rfl ?_ (bE _) (by
      refine aQ (Nat.le_of_eq (bL Array.size hout)) ?_
      rw [List.size_toArray,sizeLine_eq]; lia))
    simp only [bne_self_eq_false,Bool.false_eq_true,if_false]
    have hl : us.length = t.bs.length:=by rw [e.length,Tr.Ik]
    have fin:=h (List.range us.length) (by simp) (fun i hi => ax.mp hi) (by
      rw [hl,map_getD]
      match hbs : t.bs,(show t.bs.length < 2 by lia) with
      | [],_ => cases b <;> rfl
      | [_],_ => cases b <;> rfl)
    rw [map_getD] at fin
    rw [<- hout] at fin
    exact aA fin
  . rw [if_neg h2,if_neg h2]
    have hz : 2<=us.length:=by simpa using h2
    refine Wb (gg (s:={ s with heap:=((s.heap.update a (Obj.mapSeq fun _ => #[])).push (seqObj "tuple" us.toArray 0)).push (seqObj "list" #[] 0) }) e6 fun κ hκ => ?_)
    have hl : us.length = t.bs.length:=by rw [e.length,Tr.Ik]
    obtain ⟨ws,tw,ew,hwl,hws,hdp,pick⟩ : ∃ (ws : List VL) (tw : Tr),Vs (((s.heap.update a (Obj.mapSeq fun _ => #[])).push (seqObj "tuple" us.toArray 0)).push (seqObj "list" #[] 0)) tw ws/\ws.length = us.length /\
        (if b = true then (us.toArray.zip us.toArray).reverse else us.toArray.zip us.toArray) = ws.toArray.zip ws.toArray/\tw.deep<=t.deep /\
        ∀ (_b : Bool) (ix : List Nat),ix.length = ws.length->(∀ i∈ix,i < ws.length)->(ix.map fun i => tw.bs.getD i .nil) = (Tr.C5 tw.bs).reverse->∃ iy : List Nat,iy.length = us.length/\(∀ i∈iy,i < us.length)/\(iy.map fun i => t.bs.getD i .nil) = (if b then Tr.C5 t.bs else (Tr.C5 t.bs).reverse) /\
          (if b = true then ((ix.map fun i => ws.getD i Value.none).toArray).reverse else (ix.map fun i => ws.getD i Value.none).toArray) = (iy.map fun i => us.getD i Value.none).toArray:=by
      cases b with
      | false => exact ⟨us,t,e6,rfl,rfl,Nat.le_refl _,fun _ ix h1 h2 h3 => ⟨ix,h1,h2,h3,rfl⟩⟩
      | true=>
        have hsrt : Tr.C5 t.bs.reverse = Tr.C5 t.bs:=Tr.cM (Tr.LY _) ((Tr.LI _).trans (List.reverse_perm _))
        refine ⟨us.reverse,Tr.of t.bs.reverse,e6.rev,by simp,kat_pairs (ks:=us) (vs:=us) true rfl,Tr.cT t,fun _ ix h1 h2 h3 => ⟨(ix.map fun i => us.length - 1 - i).reverse,by simpa using h1,fun i hi => ?_,?_,?_⟩⟩
        . rw [List.mem_reverse,List.mem_map] at hi
          obtain ⟨k,hk,rfl⟩:=hi
          have:=h2 k hk
          rw [List.length_reverse] at this
          lia
        . rw [Tr.O5,hsrt] at h3
          rw [List.map_reverse,List.map_map]
          have : (ix.map ((fun i => t.bs.getD i Tr.nil) ∘ fun i => us.length - 1 - i)) = ix.map fun i => t.bs.reverse.getD i .nil:=av fun i hi => by
            have:=h2 i hi
            rw [List.length_reverse] at this
            show t.bs.getD (us.length - 1 - i) Tr.nil = _
            rw [List.getD_eq_getElem?_getD,List.getD_eq_getElem?_getD,List.getElem?_reverse (by lia),hl]
          rw [this,h3,List.reverse_reverse]
          rfl
        . rw [if_pos rfl,List.map_reverse,List.map_map,List.reverse_toArray]
          congr 2
          exact av fun i hi => by
            have:=h2 i hi
            rw [List.length_reverse] at this
            show us.reverse.getD i Value.none = us.getD (us.length - 1 - i) Value.none
            rw [List.getD_eq_getElem?_getD,List.getD_eq_getElem?_getD,List.getElem?_reverse (by lia)]
    rw [hws]
    refine Wb (ao (dG (s:={ s with heap:=((s.heap.update a (Obj.mapSeq fun _ => #[])).push (seqObj "tuple" us.toArray 0)).push (seqObj "list" #[] 0) }) hκ ew (by lia) (by lia) (by lia)) ?_ fun _ _ z => z)
    rintro ⟨⟨⟩,st'⟩ s' ⟨rfl,hf,ix,hil,hix,hout,hst⟩
    dsimp only
    refine Wb (seqEpoch_at ho6 rfl ?_)
    obtain ⟨iy,y1,y2,y3,hfin⟩ : ∃ iy : List Nat,iy.length = us.length/\(∀ i∈iy,i < us.length)/\(iy.map fun i => t.bs.getD i .nil) = (if b then Tr.C5 t.bs else (Tr.C5 t.bs).reverse) /\
        (if b = true then ((arrOf st').map (·.2)).reverse else (arrOf st').map (·.2)) = (iy.map fun i => us.getD i Value.none).toArray:=by
      rw [show (arrOf st').map (·.2) = _ from hout]
      exact pick b ix hil hix hst
    refine Wb (listUpdate_at ho6 rfl ?_ (bE _) (by
      refine aQ (Nat.le_of_eq (bL Array.size hfin)) ?_
      rw [List.size_toArray,List.length_map,y1,sizeLine_eq]; lia))
    rw [show failedOf st' = none from hf]
    simp only [bne_self_eq_false,Bool.false_eq_true,if_false]
    have fin:=h iy y1 y2 y3
    rw [<- hfin] at fin
    exact aA fin
end
end TH
namespace ET
open PySem
section
variable{prog:Program}{w:World}{A:Around}{E:sC}{s:SD}
def next_item{it t:AD}{i:Nat}{items}{x:VL}{Q:sC}(hit:s.heap.IsTupleIter it t i)(Y:s.heap.IsTuple t items)(U:items[i]? = some x) (hQ:∀h',h'.IsTupleIter it t (i+1)->Heap.SameBut it s.heap h'->Q x {s with heap:=h'}):wpAny (model prog w) A (Builtin.SmallTypes.nextOf (.ref it)) Q E s:=by
 obtain⟨o,g,Z,hd⟩:=id hit;obtain⟨ol,B,_,nl,T⟩:=Y;unfold Builtin.SmallTypes.nextOf;refine Wb (aX (name:=Str.ofString "__next__") hit.typeIs F.slot_tuple_iterator_next
  (aW F.slot_tuple_iterator_next hit.typeIs F.entry_tuple_iterator_next ?_ (F.args_tuple_iterator_next_1 _)))
 show wpAny _ _ (field (.ref it) 0>>=_) _ _ s;refine Wb (aV g hd (x:=.ref t) rfl ?_);show wpAny _ _ (if(Value.ref t==Value.none)=true then _ else _) _ _ s;rw[if_neg (show ¬((Value.ref t==Value.none)=true) from aO)];show wpAny _ _ (field (.ref it) 1>>=_) _ _ s;refine Wb (aV g hd (x:=.int i 0) rfl ?_);show wpAny _ _ (seqItems? (.ref t)>>=_) _ _ s;refine Wb (aT B T ?_);simp only[Int.toNat_natCast,U];refine Wb (wpAny_setField g hd (by simp) (aA ⟨x,rfl,wpAny_pure (hQ _ ?_ (ab ..))⟩));exact⟨_,Heap.get?_update_self _ g (Obj.isFreed_of_fields (Obj.data_mapFields hd _)),(Obj.cls_mapFields ..).trans Z,by
  rw[Obj.data_mapFields hd];simp[rawInt]⟩
def next_end{it t:AD}{i:Nat}{items}{Q:sC}(U:A.handled=none)(hit:s.heap.IsTupleIter it t i)(Z:s.heap.IsTuple t items)(Y:items[i]? = none) (hE:∀h' e,Heap.ExtBut it s.heap h'->(∃o,h'.get? e=some o/\o.cls=.type "StopIteration")->E (.ref e) {s with heap:=h'}):wpAny (model prog w) A (Builtin.SmallTypes.nextOf (.ref it)) Q E s:=by
 obtain⟨o,B,hc,hd⟩:=id hit;obtain⟨ol,g,_,nl,T⟩:=Z;unfold Builtin.SmallTypes.nextOf;refine Wb (aX (name:=Str.ofString "__next__") hit.typeIs F.slot_tuple_iterator_next
  (aW F.slot_tuple_iterator_next hit.typeIs F.entry_tuple_iterator_next ?_ (F.args_tuple_iterator_next_1 _)))
 show wpAny _ _ (field (.ref it) 0>>=_) _ _ s;refine Wb (aV B hd (x:=.ref t) rfl ?_);show wpAny _ _ (if(Value.ref t==Value.none)=true then _ else _) _ _ s;rw[if_neg (show ¬((Value.ref t==Value.none)=true) from aO)];show wpAny _ _ (field (.ref it) 1>>=_) _ _ s;refine Wb (aV B hd (x:=.int i 0) rfl ?_);show wpAny _ _ (seqItems? (.ref t)>>=_) _ _ s;refine Wb (aT g T ?_);simp only[Int.toNat_natCast,Y];refine Wb (bP (Wb (wpAny_setField B hd (by simp) ?_)));show wpAny _ _ (newExc (.type "StopIteration") []>>=_) _ _ _;refine Wb ?_;simp only[newExc,newTuple];refine Wb (aw ?_ (by size_fits));refine Wb (m:=firstArgMember _ _) (wpAny_of_eq (a:=Value.none) (by first|rfl|(simp only[firstArgMember];rfl)) ?_);refine aw ?_ (by size_fits);simp only[raiseNew];refine Wb (wpAny_handled ?_)
 first|rw[show A.in1.handled=none from U]|rw[U]
 refine Wb (aA (wpAny_throw ?_));exact hE _ _ (((ab ..).extBut.push _).push _) ⟨_,Heap.get?_push_size _ rfl,rfl⟩
end
section
open AutoSeq1 (wpAny_loadPart')
def Zw(l:AD)(items:Array VL)(n:Nat)(U:Option AD)(sl:Array (Option VL)):Meets (Builtin.«enumerate.__new__» ⟨[.type "enumerate",.ref l],[]⟩) (fun _ R s=>s.heap.get? l=some { cls:=.type "tuple",dict:=U,data:=.seq items n,slots:=sl} /\R (.ok (.ret (.ref (s.heap.push { cls:=.type "tuple_iterator",data:=.fields #[.ref l,.int 0 0]}).objs.size))) {s with heap:=(s.heap.push { cls:=.type "tuple_iterator",data:=.fields #[.ref l,.int 0 0]}).push { cls:=.type "enumerate",data:=.fields #[.none,.bool false,.ref s.heap.objs.size,rawInt 0,.none,.none]} }) :=
 .of_wp fun prog w A R s h=>by
  obtain⟨hp,g,d,Z,os⟩:=s;obtain⟨B,h⟩:=h;have Y:=sub_enumerate;have T:Heap.IsTuple (Shared.heap ⟨hp,g,d,Z,os⟩) l items:=⟨_,B,rfl,n,rfl⟩
  wp_walk using wpAny_loadPart' B
  refine wpAny_stack_any fun st=>aA ?_;split
  .rename_i c _ _ _ _ _;cases (c==Value.type "enumerate")
   .wp_walk using wpAny_loadPart' B,wpAny_pyIter_tuple T
    exact⟨_,rfl,h⟩
   .wp_walk using wpAny_loadPart' B,wpAny_pyIter_tuple T
    exact⟨_,rfl,h⟩
  .wp_walk using wpAny_loadPart' B,wpAny_pyIter_tuple T
   exact⟨_,rfl,h⟩
def ZM{prog:Program}{w:World}{A:Around}{E:sC}{s:SD}{l:AD}{items:Array VL}{Q:sC}(Z:s.heap.IsTuple l items) (h:∀h',IsEnum h' (s.heap.objs.size+1) s.heap.objs.size 0 .none->h'.IsTupleIter s.heap.objs.size l 0->h'.objs.size=s.heap.objs.size+2 ->(∀b o,s.heap.get? b=some o->h'.get? b=some o)->Q (.ref (s.heap.objs.size+1)) {s with heap:=h'}):wpAny (model prog w) A (call (.type "enumerate") [.ref l]) Q E s:=by
 obtain⟨⟨c,T,dt,sl⟩,Y,B,n,hd⟩:=Z
 replace B:c=.type "tuple" := B
 replace hd:dt=.seq items n:=hd
 subst B hd;refine callType_new F.called_enumerate (by decide) (F.typeCall_enumerate_1 _) (F.newCall_enumerate_1 _) (fun obj=>F.args_object_init_2 obj _) F.entry_enumerate_new
  (Zw l items n T sl) ⟨Y,?_⟩
 have g:(s.heap.push { cls:=.type "tuple_iterator",data:=.fields #[.ref l,.int 0 0]}).objs.size=s.heap.objs.size+1:=Heap.size_push ..;show _/\_;rw[g];have U:IsEnum ((s.heap.push { cls:=.type "tuple_iterator",data:=.fields #[.ref l,.int 0 0]}).push
   { cls:=.type "enumerate",data:=.fields #[.none,.bool false,.ref s.heap.objs.size,rawInt 0,.none,.none]}) (s.heap.objs.size+1) s.heap.objs.size 0 .none:=by
  have:=aM (s.heap.push { cls:=.type "tuple_iterator",data:=.fields #[.ref l,.int 0 0]})
   (o:={ cls:=.type "enumerate",data:=.fields #[.none,.bool false,.ref s.heap.objs.size,rawInt 0,.none,.none]}) rfl
  rw[g]at this;exact this
 refine⟨⟨_,U,rfl⟩,h _ U ⟨_,Heap.get?_push_of_some _ (aM _ rfl),rfl,rfl⟩ (by rw[Heap.size_push,g]) fun b o x=>aE _ (aE _ x)⟩
end
def draws{prog:Program}{w:World}{A:Around}(hh:A.handled=none)(it a:AD)(its:rz)(hne:a≠it) :
  Draws prog w A it [it,a] its.length (fun i x=>its[i]? = some x) (fun i h=>h.IsTupleIter it a i/\h.IsTuple a its.toArray) where
 live:=fun i h st=>let⟨o,e,_⟩:=st.1;⟨o,e⟩
 frame:=fun i h h' st k=>by
  obtain⟨⟨o,e,r⟩,o2,e2,r2⟩:=st;exact⟨⟨o,k it (by simp) o e,r⟩,o2,k a (by simp) o2 e2,r2⟩
 item:=fun i s Q E hi st hQ=>next_item st.1 st.2 (x:=its[i]) (by simp[hi]) fun h' st' sb=>
  hQ _ h' s.toks (by simp[hi]) ⟨st',let⟨o,e,r⟩:=st.2;⟨o,(sb.2 a hne).trans e,r⟩⟩ sb
 done:=fun s Q E st hE=>next_end hh st.1 st.2 (by simp) hE
end ET
namespace L2
open PySem PySem.Spec PyProof.Rows
def Ts(H:Hp):Tr->List V->Prop
 |.nil,xs=>xs=[]
 |.cons b r,xs=>∃(a:AD) (ys zs:List V),xs=.ref a::zs/\H a=some (.tup ys)/\Ts H b ys/\Ts H r zs
def Tv(H:Hp)(t:Tr)(v:V):Prop:=∃(a:AD) (ys:List V),v=.ref a/\H a=some (.tup ys)/\Ts H t ys
def Ts.same{H H':Hp}(e:AL H H'):∀ {t:Tr} {xs:List V},Ts H t xs->Ts H' t xs
 |.nil,xs,h=>by rw[Ts]at h ⊢;exact h
 |.cons b r,xs,h=>by
  rw[Ts]at h ⊢;obtain⟨a,ys,zs,U,T,B,g⟩:=h;exact⟨a,ys,zs,U,e _ _ T,B.same e,g.same e⟩
def Tv.same{H H':Hp}{t:Tr}{v:V}(h:Tv H t v)(e:AL H H'):Tv H' t v:=let⟨a,ys,T,B,g⟩:=h;⟨a,ys,T,e _ _ B,g.same e⟩
def MA(H H':Hp):Prop:=∀b xs,H b=some (.tup xs)->H' b=some (.tup xs)
def MA.of{H H':Hp}(e:AL H H'):MA H H':=fun b xs h=>e b _ h
def MA.upd{H:Hp}{l:AD}{ys:sQ}{o:HO}(g:H l=some (.lst ys)):MA H (upd H l o):=fun b xs h=>by
 rw[AJ (Y5 h g (by intro z;cases z))];exact h
def Ts.Bm{H H':Hp}(e:MA H H'):∀ {t:Tr} {xs:List V},Ts H t xs->Ts H' t xs
 |.nil,xs,h=>by rw[Ts]at h ⊢;exact h
 |.cons b r,xs,h=>by
  rw[Ts]at h ⊢;obtain⟨a,ys,zs,U,T,B,g⟩:=h;exact⟨a,ys,zs,U,e _ _ T,B.Bm e,g.Bm e⟩
def Tv.Bm{H H':Hp}{t:Tr}{v:V}(h:Tv H t v)(e:MA H H'):Tv H' t v:=let⟨a,ys,T,B,g⟩:=h;⟨a,ys,T,e _ _ B,g.Bm e⟩
def Ts.length{H:Hp}:∀ {t:Tr} {xs:List V},Ts H t xs->xs.length=t.len
 |.nil,xs,h=>by rw[Ts]at h;rw[h];rfl
 |.cons b r,xs,h=>by
  rw[Ts]at h;obtain⟨a,ys,zs,rfl,_,_,g⟩:=h;rw[List.length_cons,Tr.len,g.length]
def Ts.len{H:Hp}{t:Tr}{xs:sQ}(h:Ts H t xs):xs.length=t.bs.length:=by rw[h.length,Tr.Ik]
def Ts.get{H:Hp}:∀ {t:Tr} {xs:List V} {i:Nat} {v:V},Ts H t xs->xs[i]? = some v->∃c,t.bs[i]? = some c/\Tv H c v
 |.nil,xs,i,v,h,e=>by rw[Ts]at h;subst h;simp at e
 |.cons b r,xs,i,v,h,e=>by
  rw[Ts]at h;obtain⟨a,ys,zs,rfl,T,B,g⟩:=h;cases i with
  |zero=>simp at e;subst e;exact⟨b,rfl,a,ys,rfl,T,B⟩
  |succ i=>
   obtain⟨c,q1,q2⟩:=g.get (i:=i) (v:=v) (by simpa using e);exact⟨c,by simpa[Tr.bs]using q1,q2⟩
def Ts.LO{H:Hp}:∀(ts:List Tr) (xs:List V),xs.length=ts.length->(∀(i:Nat) (v:V),xs[i]? = some v->∃c,ts[i]? = some c/\Tv H c v)->Ts H (Tr.of ts) xs
 |[],xs,g,_=>by
  rw[Tr.of,Ts];exact bG (by simpa using g)
 |t::ts,[],g,_=>by simp at g
 |t::ts,x::xs,g,h=>by
  rw[Tr.of,Ts];obtain⟨c,B,a,ys,rfl,U,T⟩:=h 0 x rfl;simp at B;subst B;exact⟨a,ys,xs,rfl,U,T,Ts.LO ts xs (by simpa using g) fun i v e=>by
   obtain⟨c,q1,q2⟩:=h (i+1) v (by simpa using e);exact⟨c,by simpa using q1,q2⟩⟩
def Ts.pick{H:Hp}{t:Tr}{xs:sQ}(h:Ts H t xs)(ix:sO)(hi:∀i∈ix,i<xs.length):Ts H (Tr.of (ix.map fun i=>t.bs.getD i .nil)) (ix.map fun i=>xs.getD i .B4):=by
 refine Ts.LO _ _ (by simp) fun i v e=>?_;rw[List.getElem?_map]at e ⊢;cases q:ix[i]? with
 |none=>rw[q]at e;cases e
 |some k=>
  rw[q]at e;have g:k<xs.length:=hi k (aH q);simp only[Option.map_some,Option.some.injEq]at e;obtain⟨c,q1,q2⟩:=h.get (i:=k) (v:=v) (by rw[<-e,List.getD_eq_getElem?_getD,List.getElem?_eq_getElem g];rfl);refine⟨c,?_,q2⟩;simp only[Option.map_some,List.getD_eq_getElem?_getD,q1]
  rfl
section
variable{X:Cx}{pins:List (AD×Obj)}{σ:St}{H:Hp}{s:SD}
def Ts.vs(I:Inv X pins σ H s):∀ {t:Tr} {xs:List V} {us:List VL},Ts H t xs->Vals xs us->TH.Vs s.heap t us
 |.nil,xs,us,h,r=>by
  rw[Ts]at h;subst h;cases r;rw[TH.Vs]
 |.cons b rr,xs,us,h,r=>by
  rw[Ts]at h;obtain⟨a,ys,zs,rfl,h1,Z,Y⟩:=h;cases r with
  |cons U T=>
   cases U;obtain⟨g,B,p,_⟩:=I.tuple (BN.of (K:=X.K) h1);rw[TH.Vs];exact⟨a,g,_,rfl,p,Ts.vs I Z B,Ts.vs I Y T⟩
def Tv.at(I:Inv X pins σ H s){t:Tr}{v:V}{u:VL}(h:Tv H t v)(r:RelV v u):∃(a:AD) (g:rz),u=.ref a/\s.heap.IsTuple a g.toArray/\TH.Vs s.heap t g:=by
 obtain⟨a,ys,rfl,U,T⟩:=h;cases r;obtain⟨g,B,p,_⟩:=I.tuple (BN.of (K:=X.K) U);exact⟨a,g,rfl,p,Ts.vs I T B⟩
end
def lh(K:Fg)(a:AD):It :=
 ⟨fun i H=>∃xs x,BN K H a xs/\xs[i]? = some x,fun i H v H'=>∃p x,v=.ref p/\H p=none/\H'=upd H p (.tup [.int i,x])/\∀xs,BN K H a xs->xs[i]? = some x,fun i H=>∃xs,BN K H a xs/\xs.length=i⟩
def Zq{P:Program}{w:World}{K:Fg}{elts:sL}{x1}{pos:Pos}(a e it:AD)(hne:e≠it) :
  Turn P w K (.Tuple elts x1 pos) (lh K a) [e,it] e (fun i h=>(∃old,IsEnum h e it (i:Nat) old)/\h.IsTupleIter it a i) where
 mem:=by simp
 obj:=fun i h st b hb=>by
  rcases aN.mp hb with rfl|hb
  .obtain⟨⟨old,q⟩,_⟩:=st;exact⟨_,q,fun v z=>by cases z⟩
  .have e2:b=it:=by simpa using hb
   subst e2;obtain⟨_,o,q,c,d⟩:=st;exact⟨o,q,fun v z=>by rw[d]at z;cases z⟩
 keep:=fun i h h' st k=>by
  obtain⟨⟨old,q⟩,o,q2,r⟩:=st;exact⟨⟨old,k e (by simp) _ q⟩,o,k it (by simp) _ q2,r⟩
 item:=by
  intro X hP hw hK hc i pins s σ H E I hf st hg;subst hP hw hK;obtain⟨xs,x,hq,hx⟩:=hg;obtain⟨its,rv,p,hz⟩:=I.tuple hq;obtain⟨u,hu,ru⟩:=rv.get hx;obtain⟨⟨old,he⟩,hit⟩:=st;have hai:a≠it:=fun z=>by
   obtain⟨o,e1,c1,_⟩:=p;obtain⟨o2,e2,c2,_⟩:=hit;rw[z,e2]at e1;cases e1;rw[c1]at c2;exact absurd c2 (by decide)
  have hae:a≠e:=fun z=>by
   obtain⟨o,e1,c1,_⟩:=p;rw[z,he]at e1;cases e1;exact absurd (show Value.type "enumerate" = Value.type "tuple" from c1) (by decide)
  have hlt:i<its.length:=(aD.mp hu).1;have hE0:=hf e (by simp);have hI0:=hf it (by simp);refine wpAny_pyNext_enum_itemD (ET.draws (prog:=X.prog) (w:=X.w) (A:=X.A.in1) (I.ok.hd hc) it a its hai) he ⟨hit,p⟩ hlt hne (by simp[hne,Ne.symm hae]) fun y h' tk hy ho hs' hT hsz hk=>⟨_,rfl,wpAny_letOwnedTupleGo_enum (s:={s with heap:=h',toks:=tk+1}) ho fun h'' he'' sb=>?_⟩;have hyu:y=u:=by rw[hu]at hy;exact(ar hy).symm
  subst hyu;have keep:∀b o,b≠e->b≠it->s.heap.get? b=some o->h''.get? b=some o:=fun b o h1 h2 q=>(sb.2 b h1).trans (hk b o h1 h2 q);have hTe:s.heap.objs.size≠e:=aj (aF he);have hTi:s.heap.objs.size≠it:=let⟨_,q,_⟩:=hit;aj (aF q);have hT'':h''.get? s.heap.objs.size=some { cls:=.type "tuple",data:=.seq #[.int i tk,y]}:=(sb.2 _ hTe).trans hT;have hTn:H s.heap.objs.size=none:=I.BA.fresh (aG _);have neT:∀b o,s.heap.get? b=some o->b≠s.heap.objs.size:=fun b o q=>aK (aF q);have F9:∀b o,H b=some o->b≠e/\b≠it:=fun b o q=>⟨(fun z=>by rw[z,hE0.1]at q;cases q),(fun z=>by rw[z,hI0.1]at q;cases q)⟩;refine⟨.ref s.heap.objs.size,upd H s.heap.objs.size (.tup [.int i,x]),?_,rfl,⟨_,x,rfl,hTn,rfl,fun ys hy=>by rw[I.TQ hy hq];exact hx⟩,⟨⟨_,by simpa using he''⟩,?_⟩,fun b hb=>?_⟩
  .show Inv X pins σ _ {s with heap:=h'',gens:=s.gens,drawn:=s.drawn,toks:=tk+1};refine I.step (h':=h'') (g':=s.gens) (d':=s.drawn) (t':=tk+1) (ch:=[e,it]) (fun b hb=>?_) (fun b o _ _ hc q _=>keep b o (fun z=>hc (by simp[z])) (fun z=>hc (by simp[z])) q) (fun b o _ _ hc q _=>⟨o.slots,keep b o (fun z=>hc (by simp[z])) (fun z=>hc (by simp[z])) q⟩)
    (fun b o _ q n=>by rw[AJ (neT b o q)];exact n) (fun b o hc q=>⟨o,keep b o (fun z=>hc (by simp[z])) (fun z=>hc (by simp[z])) q⟩) (fun b ys q=>by rw[AJ (AY q hTn)];exact q) (fun b o u q=>by rw[AJ (AY q hTn)];exact q)
    (fun b ps q=>⟨#[],by rw[AJ (AY q hTn),q];simp⟩) (fun m hm=>?_) (fun b o q=>?_) I.bare
   .rcases aN.mp hb with rfl|hb
    .exact⟨hE0.2.2.2.1,hE0.2.1,hE0.2.2.2.2.1,hE0.2.2.2.2.2⟩
    .have e2:b=it:=by simpa using hb
     subst e2;exact⟨hI0.2.2.2.1,hI0.2.1,hI0.2.2.2.2.1,hI0.2.2.2.2.2⟩
   .obtain⟨o,es,ep,ho,r⟩:=hm;exact⟨o,es,ep,keep _ o (Ne.symm hE0.2.1) (Ne.symm hI0.2.1) ho,r⟩
   .by_cases hb:b=s.heap.objs.size
    .subst hb;rw[AW]at q;cases q;exact⟨Xm,[.int i tk,y],.cons ⟨tk,rfl⟩ (.cons ru .nil),_,hT'',rfl,_,rfl⟩
    .rw[AJ hb]at q;refine(I.BA b o q).JO (fun c v hc r=>keep c v ?_ ?_ r) (fun c r=>by rw[AJ (AY r hTn)];exact r) fun c ys r=>by rw[AJ (AY r hTn)];exact r
     .rcases hc with rfl|hc
      .exact(F9 _ _ q).1
      .exact(F9 _ _ hc).1
     .rcases hc with rfl|hc
      .exact(F9 _ _ q).2
      .exact(F9 _ _ hc).2
  .obtain⟨⟨o,q,r⟩,_⟩:=hs';exact⟨o,(sb.2 it (Ne.symm hne)).trans q,r⟩
  .rcases aN.mp hb with rfl|hb
   .rw[AJ (Ne.symm hTe)];exact hE0.1
   .have e2:b=it:=by simpa using hb
    subst e2;rw[AJ (Ne.symm hTi)];exact hI0.1
 done:=by
  intro X hP hw hK hc i pins s σ H E I hf st hg;subst hP hw hK;obtain⟨xs,hq,hx⟩:=hg;obtain⟨its,rv,p,hz⟩:=I.tuple hq;obtain⟨⟨old,he⟩,hit⟩:=st;have hai:a≠it:=fun z=>by
   obtain⟨o,e1,c1,_⟩:=p;obtain⟨o2,e2,c2,_⟩:=hit;rw[z,e2]at e1;cases e1;rw[c1]at c2;exact absurd c2 (by decide)
  have hl:its.length=i:=by rw[<-rv.length];exact hx
  subst hl;obtain⟨f0,f1,f2,f3,f4,f5⟩:=hf it (by simp);exact wpAny_pyNext_enum_endD (ET.draws (prog:=X.prog) (w:=X.w) (A:=X.A.in1) (I.ok.hd hc) it a its hai) he ⟨hit,p⟩ fun h' eb=>⟨rfl,I.turned (t':=s.toks) (fun b o hb q=>eb b o hb q) f0 f1 f3 f4 f5⟩
 self:=fun _ _ _ _ _ st h=>by
  obtain⟨⟨old,he⟩,_⟩:=st;exact wpAny_pyIter_enum he h
def oX(K:Fg)(B:TA):TI:=fun σ H R=>B σ H fun vs g=>∃a,vs=[.ref a]/\(∃xs,BN K g a xs)/\R (lh K a) g
def gO{X:Cx}{elts:sL}{x1}{g:Pos}{a:Expr}{Z:TA}{p pos:Pos}(hg:Gl X "enumerate")(hm:X.mg "enumerate" = none)(ha:PA X [a] Z)(hs:starEach [a] X.env=[(false,eval a X.env)]:=by rfl):PI X (.Tuple elts x1 g) (.Call (.Name "enumerate" p) [a] [] pos) (oX X.K Z):=by
 intro pins s σ H R I h;refine Call_ (GV I hg hm boot_enumerate (ah (Bc (ha pos pins s σ H _ I h) fun us s1 ⟨vs,H1,T,r1,q1⟩=>?_) hs rfl));obtain⟨t,e,⟨xs,hq⟩,q⟩:=q1;subst e;cases r1 with
 |cons r rr=>
  cases rr;cases r;obtain⟨U,rv,p',hz⟩:=T.tuple hq;refine ET.ZM (show s1.heap.IsTuple t U.toArray from p') fun h' he hit hsz hk=>wpAny_pyIter_enum he ?_;have I2:Inv X pins σ H1 {s1 with heap:=h'}:=T.kept (t':=s1.toks) hk;have hn:s1.heap.objs.size+1≠s1.heap.objs.size:=by lia
  refine⟨s1.heap.objs.size+1,[s1.heap.objs.size+1,s1.heap.objs.size],_,_,H1,rfl,I2,Zq t _ _ hn,⟨⟨_,he⟩,hit⟩,fun b hb=>?_,q⟩;have B:s1.heap.objs.size<=b:=by
   have Y:b=s1.heap.objs.size+1\/b=s1.heap.objs.size:=by simpa using hb
   rcases Y with z|z
   .rw[z];exact Nat.le_succ _
   .rw[z];exact aG _
  exact T.Qj B (T.BA.fresh B)
end L2
namespace TH
open PySem PySem.W PyProof.Rows PySem.SeqAt
section
variable{prog:Program}{w:World}{A:Around}{E:sC}{s:SD}
def SJ(a:AD):Builtin.«list.sort» ⟨[.ref a],[]⟩=Builtin.«list.sort» ⟨[.ref a],[(Str.ofString "reverse",.bool false)]⟩:=by
 rw[list_sort_rev,list_sort_plain]
 rfl
def NY{a:AD}{us:rz}{t:Tr}{n:Nat}{P:PySem.Fin->SD->Prop}(T:s.heap.get? a=some (seqObj "list" us.toArray n))(e:Vs s.heap t us)(g:us.length<64)(B:A.units+t.deep<=cLine) (h:∀ix:sO,ix.length=us.length->(∀i∈ix,i<us.length)->(ix.map fun i=>t.bs.getD i .nil)=(Tr.C5 t.bs).reverse->P (.done (.ret .none)) {s with heap:=sortedHeap s.heap a us (ix.map fun i=>us.getD i Value.none).toArray}):wpAny (model prog w) A (Builtin.«list.sort» ⟨[.ref a],[]⟩) P E s:=by
 rw[SJ];exact Ov (b:=false) T e g B h
def Wa{l:AD}{vs:rz}{Q:List VL->SD->Prop}(hl:s.heap.IsTuple l vs.toArray) (h:Q vs {s with heap:=(s.heap.push (seqObj "list" #[] 0)).update s.heap.objs.size (Obj.mapSeq (· ++ vs.toArray))})(hsz:vs.length<=sizeLine):wpAny (model prog w) A (collect (.ref l)) Q E s:=by
  obtain⟨o,ho,hc,n,hd⟩:=id hl
  unfold collect
  refine Wb (wpAny_runValue (codeAny_builtin entry_proto_collect' ?_))
  show wpAny _ _ (do again (.builtin "list.__iadd__" ⟨[<-newList [],.ref l],[]⟩)) _ _ s
  refine Wb (wpAny_newList (aA ⟨Code.quiet_builtin _ (by decide +kernel),codeAny_builtin entry_list_iadd' ?_⟩))
  show wpAny _ _ (Builtin.List.listExtendWith (.ref s.heap.objs.size) (.ref l) (.ref s.heap.objs.size)) _ _ {s with heap:=s.heap.push (seqObj "list" #[] 0)}
  unfold Builtin.List.listExtendWith
  have ho':(s.heap.push (seqObj "list" #[] 0)).get? l=some o:=aE _ ho
  refine Wb (wpAny_typeOf (T := "tuple") ⟨o,ho',hc⟩ ?_)
  have ht:(Value.type "tuple" == Value.type "tuple")=true:=by rfl
  rw[if_pos (by rw[ht];simp)]
  refine Wb (listItems_at ho' hd ?_)
  refine Wb (listItems_at (xs:=#[]) (n:=0) (aM _ rfl) rfl ?_)
  rw[if_neg (by simp)]
  refine Wb (listUpdate_at (xs:=#[]) (n:=0) (aM _ rfl) rfl ?_ (bE _) (by show(#[]++vs.toArray).size<=sizeLine+1;simp only[Array.size_append,List.size_toArray,List.length_nil];lia))
  refine aA ?_
  show wpAny (model prog w) A (do
      let o <-load s.heap.objs.size
      match o.data with
      |.seq xs _=>pure xs.toList
      |_=>unsupported "internal:collect") Q E {s with heap:=(s.heap.push (seqObj "list" #[] 0)).update s.heap.objs.size (Obj.mapSeq (· ++ vs.toArray))}
  refine Wb (wpAny_load (get?_update_seq (aM _ rfl) _) ?_)
  show wpAny _ _ (pure ((#[]:Array VL)++vs.toArray).toList) Q E _
  rw[show((#[]:Array VL)++vs.toArray).toList=vs by simp]
  exact aA h
def Pl{l:AD}{vs:rz}{Q:List VL->SD->Prop}(g:s.heap.IsList l vs.toArray\/s.heap.IsTuple l vs.toArray) (h:Q vs {s with heap:=(s.heap.push (seqObj "list" #[] 0)).update s.heap.objs.size (Obj.mapSeq (· ++ vs.toArray))})(hsz:vs.length<=sizeLine):wpAny (model prog w) A (collect (.ref l)) Q E s:=g.elim (fun z=>collect_list z h hsz) fun z=>Wa z h hsz
def Pt{l:AD}{us:rz}{t:Tr}{Q:sC}(hl:s.heap.IsList l us.toArray\/s.heap.IsTuple l us.toArray)(e:Vs s.heap t us)(Y:us.length<64)(hu:A.units+2+t.deep<=cLine) (h:∀(h':Heap) (ix:sO) (Z:Nat),ix.length=us.length->(∀i∈ix,i<us.length)->(ix.map fun i=>t.bs.getD i .nil)=(Tr.C5 t.bs).reverse->(∀c o,s.heap.get? c=some o->h'.get? c=some o) ->h'.get? (s.heap.objs.size+1)=some (seqObj "list" (ix.map fun i=>us.getD i Value.none).toArray Z)->Q (.ref (s.heap.objs.size+1)) {s with heap:=h'}):wpAny (model prog w) A (call (.builtin "sorted") [.ref l]) Q E s:=by
 refine Calls.call_function_entry kind_sorted plain_sorted entry_sorted (args_sorted1 _) ?_;unfold Builtin.«sorted»;refine Wb (m:=checkCount "sorted" 1 1 _) (aA ?_);refine Wb (Pl hl ?_ (by rw[sizeLine_eq];lia));refine Wb (wpAny_newList ?_ (by rw[sizeLine_eq];lia));have g:((s.heap.push (seqObj "list" #[] 0)).update s.heap.objs.size (Obj.mapSeq (· ++ us.toArray))).objs.size=s.heap.objs.size+1:=by
  rw[Heap.size_update,size_push']
 have T:(((s.heap.push (seqObj "list" #[] 0)).update s.heap.objs.size (Obj.mapSeq (· ++ us.toArray))).push (seqObj "list" us.toArray 0)).get? (s.heap.objs.size+1)=some (seqObj "list" us.toArray 0):=by
  rw[<-g];exact aM _ rfl
 have keep:∀b o,s.heap.get? b=some o->o.cls=.type "tuple" ->(((s.heap.push (seqObj "list" #[] 0)).update s.heap.objs.size (Obj.mapSeq (· ++ us.toArray))).push (seqObj "list" us.toArray 0)).get? b=some o:=fun b o q _=>by
  have B:b<s.heap.objs.size:=aF q;rw[Heap.get?_push_ne _ _ _ (by rw[g];exact aK (bQ B)),Heap.get?_update_ne _ _ _ _ (aK B),Heap.get?_push_ne _ _ _ (aK B)];exact q
 show wpAny _ _ _ _ _ {s with heap:=((s.heap.push (seqObj "list" #[] 0)).update s.heap.objs.size (Obj.mapSeq (· ++ us.toArray))).push (seqObj "list" us.toArray 0)};rw[g];refine Wb (aS (aW slot_list_sort ⟨_,T,rfl⟩ entry_list_sort (NY (s:={s with heap:=((s.heap.push (seqObj "list" #[] 0)).update s.heap.objs.size (Obj.mapSeq (· ++ us.toArray))).push (seqObj "list" us.toArray 0)}) T (e.keeps keep) Y (by
  rw[show A.in1.in1.units=A.units+2 from rfl];lia) fun ix a1 a2 a3=>⟨_,rfl,?_⟩) (args_list_sort _)))
 obtain⟨Z,U⟩:=sortedAll_at s.heap us (ix.map fun i=>us.getD i Value.none).toArray;exact aA ⟨_,rfl,h _ ix Z a1 a2 a3 (fun _ _=>sortedAll_old) U⟩
def Og{l:AD}{us:rz}{t:Tr}{b:Bool}{Q:sC}(hl:s.heap.IsList l us.toArray\/s.heap.IsTuple l us.toArray)(e:Vs s.heap t us)(Y:us.length<64)(hu:A.units+2+t.deep<=cLine) (h:∀(h':Heap) (ix:sO) (Z:Nat),ix.length=us.length->(∀i∈ix,i<us.length)->(ix.map fun i=>t.bs.getD i .nil)=(if b then Tr.C5 t.bs else(Tr.C5 t.bs).reverse)->(∀c o,s.heap.get? c=some o->h'.get? c=some o) ->h'.get? (s.heap.objs.size+1)=some (seqObj "list" (ix.map fun i=>us.getD i Value.none).toArray Z)->Q (.ref (s.heap.objs.size+1)) {s with heap:=h'}):wpAny (model prog w) A (call (.builtin "sorted") [.ref l] [(Str.ofString "reverse",.bool b)]) Q E s:=by
 refine call_function_entry_kw kind_sorted plain_sorted entry_sorted (args_sorted_rev _ _) ?_;unfold Builtin.«sorted»;refine Wb (m:=checkCount "sorted" 1 1 _) (aA ?_);refine Wb (Pl hl ?_ (by rw[sizeLine_eq];lia));refine Wb (wpAny_newList ?_ (by rw[sizeLine_eq];lia));have g:((s.heap.push (seqObj "list" #[] 0)).update s.heap.objs.size (Obj.mapSeq (· ++ us.toArray))).objs.size=s.heap.objs.size+1:=by
  rw[Heap.size_update,size_push']
 have T:(((s.heap.push (seqObj "list" #[] 0)).update s.heap.objs.size (Obj.mapSeq (· ++ us.toArray))).push (seqObj "list" us.toArray 0)).get? (s.heap.objs.size+1)=some (seqObj "list" us.toArray 0):=by
  rw[<-g];exact aM _ rfl
 have keep:∀b o,s.heap.get? b=some o->o.cls=.type "tuple" ->(((s.heap.push (seqObj "list" #[] 0)).update s.heap.objs.size (Obj.mapSeq (· ++ us.toArray))).push (seqObj "list" us.toArray 0)).get? b=some o:=fun b o q _=>by
  have B:b<s.heap.objs.size:=aF q;rw[Heap.get?_push_ne _ _ _ (by rw[g];exact aK (bQ B)),Heap.get?_update_ne _ _ _ _ (aK B),Heap.get?_push_ne _ _ _ (aK B)];exact q
 show wpAny _ _ _ _ _ {s with heap:=((s.heap.push (seqObj "list" #[] 0)).update s.heap.objs.size (Obj.mapSeq (· ++ us.toArray))).push (seqObj "list" us.toArray 0)};rw[g];refine Wb (aS (wpAny_call_entry_kw slot_list_sort ⟨_,T,rfl⟩ entry_list_sort (Ov (b:=b) (s:={s with heap:=((s.heap.push (seqObj "list" #[] 0)).update s.heap.objs.size (Obj.mapSeq (· ++ us.toArray))).push (seqObj "list" us.toArray 0)}) T (e.keeps keep) Y (by
  rw[show A.in1.in1.units=A.units+2 from rfl];lia) fun ix a1 a2 a3=>⟨_,rfl,?_⟩) (args_list_sort_rev _ _)))
 obtain⟨Z,U⟩:=sortedAll_at s.heap us (ix.map fun i=>us.getD i Value.none).toArray;exact aA ⟨_,rfl,h _ ix Z a1 a2 a3 (fun _ _=>sortedAll_old) U⟩
end
end TH
namespace L2
open PySem PySem.Spec PyProof.Rows
def Vals.pick{xs:List V}{us:List VL}(r:Vals xs us):∀ix:List Nat,(∀i∈ix,i<xs.length)->Vals (ix.map fun i=>xs.getD i .B4) (ix.map fun i=>us.getD i Value.none)
 |[],_=>.nil
 |i::ix,h=>by
  refine .cons ?_ (Vals.pick r ix fun k g=>h k (aU _ g));have hi:=h i aZ;obtain⟨u,T,B⟩:=r.get (i:=i) (x:=xs[i]) (by simp[hi]);show RelV (xs.getD i .B4) (us.getD i Value.none);rw[List.getD_eq_getElem?_getD,List.getD_eq_getElem?_getD,T,List.getElem?_eq_getElem hi];exact B
section
variable{X:Cx}
def nW(K:Fg):List V->Hp->VK->Prop:=fun xs H Q=>∃(p:AD) (ys:List V) (t:Tr),xs=[.ref p]/\(Aw K H p ys\/BN K H p ys)/\Ts H t ys/\ys.length<64/\t.deep<=60 /\
 ∀(l:AD) (zs:List V),H l=none->Ts H (Tr.of (Tr.C5 t.bs).reverse) zs->Q (.ref l) (upd H l (.lst zs))
def cF(K:Fg):List V->Hp->VK->Prop:=fun xs H Q=>∃(p:AD) (ys:List V) (t:Tr),xs=[.ref p]/\(Aw K H p ys\/BN K H p ys)/\Ts H t ys/\ys.length<64/\t.deep<=60 /\
 ∀(l:AD) (zs:List V),H l=none->Ts H (Tr.of (Tr.C5 t.bs)) zs->Q (.ref l) (upd H l (.lst zs))
def NV{pins:List (AD×Obj)}{σ:St}{H:Hp}{s:SD}{Q:VK}{t:Tr}{ts:sR}{ys:sQ}{g:rz}{h':Heap}{ix:sO}{Z:Nat}(I:Inv X pins σ H s)(ht:Ts H t ys)(U:Vals ys g)(T:ys.length<64) (a1:ix.length=g.length)(a2:∀i∈ix,i<g.length)(a3:(ix.map fun i=>t.bs.getD i .nil)=ts)(keep:∀c o,s.heap.get? c=some o->h'.get? c=some o) (hD:h'.get? (s.heap.objs.size+1)=some (seqObj "list" (ix.map fun i=>g.getD i Value.none).toArray Z))(q:∀(l:AD) (zs:sQ),H l=none->Ts H (Tr.of ts) zs->Q (.ref l) (upd H l (.lst zs))):EP X pins σ Q (.ref (s.heap.objs.size+1)) {s with heap:=h'}:=by
 have Y:=U.length;have B:∀i∈ix,i<ys.length:=fun i hi=>by rw[Y];exact a2 i hi
 refine⟨.ref (s.heap.objs.size+1),upd H (s.heap.objs.size+1) (.lst (ix.map fun i=>ys.getD i .B4)),I.laid (t':=s.toks) keep (Nat.le_succ _) ⟨?_,_,Z,U.pick ix B,hD⟩,rfl,q _ _ (I.BA.fresh (Nat.le_succ _)) ?_⟩
 .rw[List.length_map,a1,<-Y];exact ay (aI T (by rw[sizeLine_eq];decide))
 .rw[<-a3];exact ht.pick ix B
def Za(hu:X.A.units+64<cLine):Ey X (.builtin "sorted") (nW X.K):=by
 intro pins s σ H xs us Q I r h;obtain⟨p,ys,t,rfl,T,Y,U,hd,q⟩:=h;obtain⟨u,rfl,r1⟩:=r.one;cases r1;rcases T with T|T
 .obtain⟨B,g,Z,hz⟩:=I.list T;have hl:=g.length;exact TH.Pt (.inl Z.isList) (Y.vs I g) (by lia) (by lia) fun h' ix e1 a1 a2 a3 keep hD=>NV I Y g U a1 a2 a3 keep hD q
 .obtain⟨B,g,Z,hz⟩:=I.tuple T;have hl:=g.length;exact TH.Pt (.inr (show s.heap.IsTuple p B.toArray from Z)) (Y.vs I g) (by lia) (by lia) fun h' ix e1 a1 a2 a3 keep hD=>NV I Y g U a1 a2 a3 keep hD q
def d8{e:Expr}{t:TA}{p pos kp kp2:Pos}{j}(hu:X.A.units+64<cLine)(hg:Gl X "sorted")(hm:X.mg "sorted" = none)(ha:PA X [e] t) (he:backTo pos (starEach [e] X.env)=(false,eval e X.env)::backTo pos (starEach [] X.env):=by rfl)(g:(backTo pos (starEach [e] X.env)).any (·.1)=false:=by rfl):PE X (.Call (.Name "sorted" p) [e] [⟨some "reverse",.Constant (.bool true) j kp2,kp⟩] pos) (fun σ H Q=>t σ H fun vs H1=>cF X.K vs H1 Q):=by
 intro pins s σ H Q I h;refine wpAny_Call_Name_kw (GV I hg hm boot_sorted ?_ (by decide) (by decide));refine callWith_kw (Bc (ha pos pins s σ H _ I h) fun us s1 ⟨vs,H1,T,r1,q1⟩=>kws_cons (Constant_bool (kws_nil ?_))) he g;obtain⟨p,ys,t,rfl,Y,ht,Z,hd,q⟩:=q1;obtain⟨u,rfl,r2⟩:=r1.one;cases r2;rcases Y with Y|Y
 .obtain⟨U,B,pl,hz⟩:=T.list Y;have hl:=B.length;exact TH.Og (b:=true) (.inl pl.isList) (ht.vs T B) (by lia) (by lia) fun h' ix e1 a1 a2 a3 keep hD=>NV T ht B Z a1 a2 a3 keep hD q
 .obtain⟨U,B,pl,hz⟩:=T.tuple Y;have hl:=B.length;exact TH.Og (b:=true) (.inr (show s1.heap.IsTuple p U.toArray from pl)) (ht.vs T B) (by lia) (by lia) fun h' ix e1 a1 a2 a3 keep hD=>NV T ht B Z a1 a2 a3 keep hD q
end
def CW(Pv:Nat->List V->Hp->Prop)(n:Nat)(D:AD):Nat->Nat->List V->Hp->Prop:=fun i m ys H=>m=n-i/\i<=n/\H D=some (.lst ys)/\Pv i ys H
def ER{Pv:Nat->List V->Hp->Prop}{n i:Nat}{D:AD}{ys:sQ}{y:V}{H:Hp}(hi:i<n)(p:Pv (i+1) (ys++[y]) (upd H D (.lst (ys++[y])))):∃g,g<n-i/\CW Pv n D (i+1) g (ys++[y]) (upd H D (.lst (ys++[y]))) :=
 ⟨n-(i+1),by lia,rfl,hi,AW,p⟩
def W8{Pv:Nat->List V->Hp->Prop}{n i:Nat}{D:AD}{ys:sQ}{H:Hp}(hi:i<n)(B:H D=some (.lst ys))(p:Pv (i+1) ys H):∃g,g<n-i/\CW Pv n D (i+1) g ys H:=⟨n-(i+1),by lia,rfl,hi,B,p⟩
def Fz{J:It}{n:Nat}{D:AD}{H1:Hp}{fr:sW}{σ:St}{ix:Nat}{T:TT}{te:TE}{G:Hp->Prop}(Pv:Nat->List V->Hp->Prop)(h0:Pv 0 [] (upd H1 D (.lst []))) (hgo:∀i ys H,i<n->Pv i ys H->H D=some (.lst ys)->J.go i H/\ys.length<sizeLine/\∀x H',J.F8 i H x H' ->T ((carry fr σ).set ix (some x)) H' fun b Y=>if b=true then te ((carry fr σ).set ix (some x)) Y fun y U=>U D=some (.lst ys)/\∃g,g<n-i/\CW Pv n D (i+1) g (ys++[y]) (upd U D (.lst (ys++[y]))) else ∃g,g<n-i/\CW Pv n D (i+1) g ys Y) (B:∀ys H,Pv n ys H->H D=some (.lst ys)->J.stop n H/\G H):∃W:Nat->Nat->List V->Hp->Prop,(∃m,W 0 m [] (upd H1 D (.lst []))) /\∀i m ys H,W i m ys H->H D=some (.lst ys)/\((J.stop i H/\G H)\/(J.go i H/\ys.length<sizeLine/\∀x H',J.F8 i H x H' ->T ((carry fr σ).set ix (some x)) H' fun b Y=>if b=true then te ((carry fr σ).set ix (some x)) Y fun y U=>U D=some (.lst ys)/\∃g,g<m/\W (i+1) g (ys++[y]) (upd U D (.lst (ys++[y]))) else ∃g,g<m/\W (i+1) g ys Y)):=by
 refine⟨CW Pv n D,⟨n,by simp,Nat.zero_le _,AW,h0⟩,?_⟩;rintro i m ys H ⟨rfl,hi,hH,p⟩;refine⟨hH,?_⟩;by_cases Z:i<n
 .exact .inr (hgo i ys H Z p hH)
 .have e:i=n:=by lia
  subst e;exact .inl (B ys H p hH)
section
variable{X:Cx}
def cb(hc:X.calm=true):Ey X (.builtin "all") (fun xs H Q=>∃(p:AD) (bs:List Bool),xs=[.ref p]/\Aw X.K H p (bs.map V.bl)/\Q (.bl (bs.all id)) H):=by
 intro pins s σ H xs us Q I r h;obtain⟨p,bs,rfl,hq,q⟩:=h;obtain⟨u,rfl,r1⟩:=r.one;cases r1;obtain⟨g,Y,pl,hz⟩:=I.list hq;have U:s.heap.IsList p g.toArray:=pl.isList;have T:p<s.heap.objs.size:=by obtain⟨_,e,_⟩:=U;exact aF e
 have B:g.length=bs.length:=by rw[<-Y.length,List.length_map]
 refine call_all_walk (wpAny_pyIter_list U ?_);refine⟨s.heap.objs.size,[s.heap.objs.size,p],[s.heap.objs.size],g.toArray.size,_,_,fun i=>(bs[i]?).getD true,rfl,Walks.list (A:=X.A.in1) (I.ok.hd hc) _ p (aK T) g.toArray,
  ⟨⟨_,Heap.get?_push_size _ rfl,rfl,rfl⟩,U.push _⟩,fun i v s' Q' E' hP hQ=>?_,fun h' tk hk=>?_⟩
 .have Z:g[i]? = some v:=by simpa using hP
  have hi:i<bs.length:=by rw[<-B];exact(aD.mp Z).1
  obtain⟨u,h1,h2⟩:=Y.get (i:=i) (x:=.bl bs[i]) (by rw[List.getElem?_map,List.getElem?_eq_getElem hi];rfl);rw[Z]at h1;cases h1;cases h2;simp only[List.getElem?_eq_getElem hi,Option.getD_some]at hQ;exact ba hQ
 .have e:((List.range g.toArray.size).all fun i=>(bs[i]?).getD true)=bs.all id:=by
   rw[List.size_toArray,B];exact PyProof.Rows.LSm.range_all bs
  rw[e];exact⟨.bl _,H,I.kept (t':=tk) (PyProof.Rows.LSm.kept_iter hk),rfl,q⟩
def NF(hc:X.calm=true):Ey X (.builtin "sum") (fun xs H Q=>∃(p:AD) (ns:sI),xs=[.ref p]/\Aw X.K H p (ns.map V.int)/\Q (.int ns.sum) H):=by
 intro pins s σ H xs us Q I r h;obtain⟨p,ns,rfl,hq,q⟩:=h;obtain⟨u,rfl,r1⟩:=r.one;cases r1;obtain⟨g,Z,pl,hz⟩:=I.list hq;have hi:=intsAre_of Z;obtain⟨xs,U⟩:=hi.allInts.items;have B:s.heap.IsList p (intItems xs):=U ▸ pl.isList
 refine sum_intListG (I.ok.hd hc) B fun h' Y T hk=>?_;have e1:ns=xs.toList.map (·.1):=by
  rw[<-nums_intItems,<-U];exact(show numsOf g.toArray.toList=ns from hi.numsOf).symm
 have e2:preSum (numAt xs) xs.size=ns.sum:=by
  rw[preSum_eq,List.take_of_length_le (by simp),e1]
 rw[e2];exact⟨.int _,H,I.kept (t':=Y) hk,⟨T,rfl⟩,q⟩
end
section
variable{X:Cx}{scope:Scope}{cl:List (Str×AD)}{N:sJ}{C:AD}{s₀:SD}{H₀:Hp}{fp:sS}
def JL:Pu (A9 X scope cl N C s₀ H₀ fp) (di X.K):=Ff
end
mutual
def Dt(l:AD)(H:Hp):PD->V->Prop
 |.none,v=>v=.B4
 |.bool b,v=>v=.bl b
 |.int i,v=>v=.int i
 |.str x,v=>v=.str x
 |.tuple g,v=>∃(a:AD) (xs:List V),v=.ref a/\a≠l/\H a=some (.tup xs)/\BC l H g xs
 |.list g,v=>∃(a:AD) (xs:List V),v=.ref a/\a≠l/\H a=some (.lst xs)/\BC l H g xs
 |.dict _,_=>False
def BC(l:AD)(H:Hp):List PD->List V->Prop
 |[],xs=>xs=[]
 |d::g,xs=>∃x r,xs=x::r/\Dt l H d x/\BC l H g r
end
mutual
def Dt.but{l:AD}{H H':Hp}(e:SameBut l H H'):∀ {d:PD} {v:V},Dt l H d v->Dt l H' d v
 |.none,_,h=>by rw[Dt]at h ⊢;exact h
 |.bool _,_,h=>by rw[Dt]at h ⊢;exact h
 |.int _,_,h=>by rw[Dt]at h ⊢;exact h
 |.str _,_,h=>by rw[Dt]at h ⊢;exact h
 |.tuple _,_,h=>by
  rw[Dt]at h ⊢;obtain⟨a,xs,T,n,B,g⟩:=h;exact⟨a,xs,T,n,e _ _ n B,BC.but e g⟩
 |.list _,_,h=>by
  rw[Dt]at h ⊢;obtain⟨a,xs,T,n,B,g⟩:=h;exact⟨a,xs,T,n,e _ _ n B,BC.but e g⟩
 |.dict _,_,h=>by rw[Dt]at h;exact h.elim
def BC.but{l:AD}{H H':Hp}(e:SameBut l H H'):∀ {ds:List PD} {xs:List V},BC l H ds xs->BC l H' ds xs
 |[],_,h=>by rw[BC]at h ⊢;exact h
 |_::_,_,h=>by
  rw[BC]at h ⊢;obtain⟨x,r,T,B,g⟩:=h;exact⟨x,r,T,Dt.but e B,BC.but e g⟩
end
def Dt.same{l:AD}{H H':Hp}{d:PD}{v:V}(h:Dt l H d v)(e:AL H H'):Dt l H' d v:=Dt.but (.of e) h
def BC.same{l:AD}{H H':Hp}{d:rq}{v:sQ}(h:BC l H d v)(e:AL H H'):BC l H' d v:=BC.but (.of e) h
def BC.len{l:AD}{H:Hp}:∀ {ds:List PD} {xs:List V},BC l H ds xs->xs.length=ds.length
 |[],_,h=>by rw[BC]at h;rw[h];rfl
 |_::_,_,h=>by
  rw[BC]at h;obtain⟨x,r,rfl,_,g⟩:=h;rw[List.length_cons,List.length_cons,BC.len g]
def BC.get{l:AD}{H:Hp}:∀ {ds:List PD} {xs:List V} {i:Nat} {v:V},BC l H ds xs->xs[i]? = some v->∃d,ds[i]? = some d/\Dt l H d v
 |[],_,i,v,h,e=>by rw[BC]at h;subst h;simp at e
 |d::ds,_,i,v,h,e=>by
  rw[BC]at h;obtain⟨x,r,rfl,B,g⟩:=h;cases i with
  |zero=>simp at e;subst e;exact⟨d,rfl,B⟩
  |succ i=>
   obtain⟨c,q1,q2⟩:=g.get (i:=i) (v:=v) (by simpa using e);exact⟨c,by simpa using q1,q2⟩
def BC.nil{l:AD}{H:Hp}:BC l H [] []:=by rw[BC]
def BC.cons{l:AD}{H:Hp}{d:PD}{ds:rq}{x:V}{xs:sQ}(h:Dt l H d x)(k:BC l H ds xs):BC l H (d::ds) (x::xs):=by
 rw[BC];exact⟨x,xs,rfl,h,k⟩
def BC.app{l:AD}{H:Hp}:∀ {ds es:List PD} {xs ys:List V},BC l H ds xs->BC l H es ys->BC l H (ds++es) (xs++ys)
 |[],_,_,_,h,k=>by rw[BC]at h;subst h;exact k
 |d::ds,es,_,ys,h,k=>by
  rw[BC]at h;obtain⟨x,r,rfl,B,g⟩:=h;exact .cons B (g.app k)
def Dt.int{l:AD}{H:Hp}{i:Int}:Dt l H (.int i) (.int i):=by rw[Dt]
def Dt.bool{l:AD}{H:Hp}{b:Bool}:Dt l H (.bool b) (.bl b):=by rw[Dt]
def Dt.B4{l:AD}{H:Hp}:Dt l H .none .B4:=by rw[Dt]
def Dt.str{l:AD}{H:Hp}{x:Str}:Dt l H (.str x) (.str x):=by rw[Dt]
def Dt.tup{l a:AD}{H:Hp}{ds:rq}{xs:sQ}(n:a≠l)(h:H a=some (.tup xs))(k:BC l H ds xs):Dt l H (.tuple ds) (.ref a):=by rw[Dt];exact⟨a,xs,rfl,n,h,k⟩
def Dt.lst{l a:AD}{H:Hp}{ds:rq}{xs:sQ}(n:a≠l)(h:H a=some (.lst xs))(k:BC l H ds xs):Dt l H (.list ds) (.ref a):=by rw[Dt];exact⟨a,xs,rfl,n,h,k⟩
def Ok(n:Nat)(d:PD):Prop:=d.canLay0=true/\d.depth<=n
def Yi(n:Nat)(ds:rq):Prop:=PyData.canLayAll0 ds=true/\PyData.depthAll ds<=n
def Ok.shaped{n:Nat}{d:PD}(h:Ok n d)(hn:n<=64):SeqAt.shaped d=true:=by
 unfold SeqAt.shaped;rw[h.1,Bool.true_and];exact bc (aQ h.2 hn)
def Ok.tup{n:Nat}{ds:rq}(h:Yi n ds):Ok (n+1) (.tuple ds):=⟨by simp only[PyData.canLay0];exact h.1,by simp only[PyData.depth];exact Nat.succ_le_succ h.2⟩
def Ok.lst{n:Nat}{ds:rq}(h:Yi n ds):Ok (n+1) (.list ds):=⟨by simp only[PyData.canLay0];exact h.1,by simp only[PyData.depth];exact Nat.succ_le_succ h.2⟩
def Ok.int{n:Nat}{i:Int}:Ok n (.int i):=⟨by simp[PyData.canLay0],by simp[PyData.depth]⟩
def Ok.mono{m n:Nat}{d:PD}(h:Ok m d)(l:m<=n:=by decide):Ok n d:=⟨h.1,Nat.le_trans h.2 l⟩
mutual
def NI:∀d:PD,d.canLay0=true->PyData.eqv d d=true
 |.none,_=>by simp[PyData.eqv]
 |.bool _,_=>by simp[PyData.eqv]
 |.int _,_=>by simp[PyData.eqv]
 |.str _,_=>by simp[PyData.eqv]
 |.tuple g,h=>by simp only[PyData.eqv];exact MB g (by simpa only[PyData.canLay0]using h)
 |.list g,h=>by simp only[PyData.eqv];exact MB g (by simpa only[PyData.canLay0]using h)
 |.dict _,h=>by simp[PyData.canLay0]at h
def MB:∀ds:List PD,PyData.canLayAll0 ds=true->PyData.eqvAll ds ds=true
 |[],_=>by simp[PyData.eqvAll]
 |d::ds,h=>by
  simp only[PyData.canLayAll0,Bool.and_eq_true]at h;simp only[PyData.eqvAll,NI d h.1,MB ds h.2,Bool.and_self]
end
def S9:PD->String
 |.none => "NoneType"
 |.bool _ => "bool"
 |.int _ => "int"
 |.str _ => "str"
 |.tuple _ => "tuple"
 |.list _ => "list"
 |.dict _ => "dict"
def Jx:PD->Bool
 |.tuple _=>true
 |_=>false
def LG:PD->Bool
 |.list _=>true
 |_=>false
def WQ:PD->Bool
 |.int _=>true
 |.bool _=>true
 |_=>false
def Sy:PD->Bool
 |.bool _=>true
 |_=>false
def ID(K:Fg):∀d:PD,(∀g,d≠.dict g)->PySem.W.kitOne K (.type (S9 d)) (.type "tuple")=some (Jx d)
 |.none,_=>kM K
 |.bool _,_=>mB K
 |.int _,_=>mP K
 |.str _,_=>mh K
 |.tuple _,_=>nK K
 |.list _,_=>lG K
 |.dict g,h=>absurd rfl (h g)
def JN(K:Fg):∀d:PD,(∀g,d≠.dict g)->PySem.W.kitOne K (.type (S9 d)) (.type "list")=some (LG d)
 |.none,_=>lT K
 |.bool _,_=>kN K
 |.int _,_=>ma K
 |.str _,_=>jI K
 |.tuple _,_=>kB K
 |.list _,_=>lF K
 |.dict g,h=>absurd rfl (h g)
def lR(K:Fg):PySem.W.kitOne K (.type "NoneType") (.type "bool")=some false:=by kernel_rfl
def mz(K:Fg):PySem.W.kitOne K (.type "str") (.type "bool")=some false:=by kernel_rfl
def kL(K:Fg):PySem.W.kitOne K (.type "tuple") (.type "bool")=some false:=by kernel_rfl
def mq(K:Fg):PySem.W.kitOne K (.type "list") (.type "bool")=some false:=by kernel_rfl
def Vn(K:Fg):∀d:PD,(∀g,d≠.dict g)->PySem.W.kitOne K (.type (S9 d)) (.type "int")=some (WQ d)
 |.none,_=>mr K
 |.bool _,_=>jn K
 |.int _,_=>kY K
 |.str _,_=>mn K
 |.tuple _,_=>jT K
 |.list _,_=>lE K
 |.dict g,h=>absurd rfl (h g)
def Tz(K:Fg):∀d:PD,(∀g,d≠.dict g)->PySem.W.kitOne K (.type (S9 d)) (.type "bool")=some (Sy d)
 |.none,_=>lR K
 |.bool _,_=>mM K
 |.int _,_=>mO K
 |.str _,_=>mz K
 |.tuple _,_=>kL K
 |.list _,_=>mq K
 |.dict g,h=>absurd rfl (h g)
end L2
namespace Tr
def M3{t c:Tr}(h:c∈t.bs):c.deep<t.deep:=by
 induction t with
 |nil=>cases h
 |cons b r _ g=>
  rw[bs]at h;have hd:(cons b r).deep=max (b.deep+1) r.deep:=rfl;rcases aN.mp h with rfl|h
  .lia
  .have:=g h;lia
def EC:∀t:Tr,0<t.AI
 |.nil=>Nat.one_pos
 |.cons b r=>by rw[AI];have:=EC b;lia
def Jo{t c:Tr}(h:c∈t.bs):c.AI<t.AI:=by
 induction t with
 |nil=>cases h
 |cons b r _ g=>
  rw[bs]at h;have B:(cons b r).AI=b.AI+r.AI:=rfl;have U:=EC b;have T:=EC r;rcases aN.mp h with rfl|h
  .lia
  .have:=g h;lia
def Tq:∀t:Tr,1+(t.bs.map fun c=>(c.AI:Int)).sum=(t.AI:Int)
 |.nil=>rfl
 |.cons b r=>by
  rw[bs,List.map_cons,List.sum_cons,AI];have:=Tq r
  lia
def Ot:∀t:Tr,t.bs.length<t.AI
 |.nil=>Nat.one_pos
 |.cons b r=>by
  rw[bs,List.length_cons,AI];have:=Ot r;have:=EC b
  lia
end Tr
namespace L2
open PySem PySem.Spec PyProof.Rows
mutual
def Gh:PD->Option Tr
 |.tuple g=>E9 g
 |_=>none
def E9:List PD->Option Tr
 |[]=>some .nil
 |d::g=>(Gh d).bind fun b=>(E9 g).map fun r=>.cons b r
end
section
variable{X:Cx}
def oZ:R2:=fun x y H Q=>∃a b xs ys,x=.ref a/\y=.ref b/\H a=some (.tup xs)/\H b=some (.tup ys)/\xs.length+ys.length<=sizeLine/\∀p H',AL H H'->H' p=some (.tup (xs++ys))->Q (.ref p) H'
def iu:DC X (binaryOp .Add) oZ:=by
 intro pins s σ H x y v u Q I rx ry h;obtain⟨a,b,xs,ys,rfl,rfl,ha,hb,hz,q⟩:=h;cases rx;cases ry;obtain⟨its,Z,p1,_⟩:=I.tuple (BN.of (K:=X.K) ha);obtain⟨its2,Y,p2,_⟩:=I.tuple (BN.of (K:=X.K) hb);by_cases hv:its=[]
 .have hx:=Z.XE.mp hv;subst hv hx;obtain⟨⟨cls,dd,data,sl⟩,ho,hc,n,hd⟩:=id p1;obtain⟨⟨cls2,dd2,data2,U⟩,g,T,n2,B⟩:=id p2;simp only at hc hd T B;subst hc hd T B;exact concat_meets ⟨_,ho,rfl⟩ ⟨_,g,rfl⟩ noFill_tuple_add seq_tuple_add PySem.F.slot_tuple_add PySem.F.entry_tuple_add (PySem.F.args_tuple_add_2 _ _)
   (tuple_addW0 a b _ _ n n2 dd dd2 sl U (by simp)) ⟨ho,g,⟨.ref b,H,I,rfl,q b H (.refl H) (by simpa using hb)⟩⟩
 .refine HT.i4 p1 p2 hv (fun z=>?_) (fun z=>?_) (by rw[<-Z.length,<-Y.length];exact hz)
  .have hy:=Y.XE.mp z;subst hy;exact⟨.ref a,H,I,rfl,q a H (.refl H) (by simpa using ha)⟩
  .refine⟨.ref s.heap.objs.size,_,I.laid (t':=s.toks) (o:=.tup (xs++ys)) (fun b ob q=>aE _ q) (aG _) ?_,rfl,q _ _ (An (I.BA.fresh (aG _)) _) AW⟩;exact⟨by rw[List.length_append];exact hz,_,Z.append Y,IsTup.new _ _⟩
end
end L2
namespace Tim
open PySem PyProof.Rows
section pure
end pure
section
section pure
end pure
section pure
end pure
end
end Tim
namespace L2
open PySem PySem.Spec PyProof.Rows
abbrev Px(x y:Str)(U T:Pos)(B:Nat)(g:Pos):Expr:=.Tuple [.Name x U,.Name y T] B g
def iE{ix g:Nat}(h:ix≠g)(σ:St)(a b c d:Option V):((((σ.set ix a).set g b).set ix c).set g d)=(σ.set ix c).set g d:=by
 rw[List.set_comm _ _ h.symm,List.set_set,List.set_set]
def Mn(K:Fg)(wi:TI)(fr:sW)(ix Y:Nat)(U:TT)(te:TE):TE:=fun σ H Q=>wi σ H fun J H1=>∀D,H1 D=none->∃W:Nat->Nat->List V->Hp->Prop,(∃m,W 0 m [] (upd H1 D (.lst []))) /\
 ∀i m ys H,W i m ys H->H D=some (.lst ys)/\((J.stop i H/\Q (.ref D) H)\/(J.go i H/\ys.length<sizeLine/\∀x H',J.F8 i H x H'->∃a T B,x=.ref a/\BN K H' a [T,B] /\
  U (((carry fr σ).set ix (some T)).set Y (some B)) H' fun b H2=>if b=true then te (((carry fr σ).set ix (some T)).set Y (some B)) H2 fun y Z=>Z D=some (.lst ys)/\∃g,g<m/\W (i+1) g (ys++[y]) (upd Z D (.lst (ys++[y])))
   else ∃g,g<m/\W (i+1) g ys H2))
section
variable{X:Cx}{elt iter:Expr}{x y:Str}{px py tp pos:Pos}{tk:Nat}{ifs:sL}{scope:Scope}{wi:TI}{fr:sW}{ix iy:Nat}{tif:TT}{te:TE}{N:sJ}
def Pe{pins:List (AD×Obj)}{σ:St}{U:Hp}{s2:SD}{Q:VK}{it:AD}{fp:sS}{tn:Nat->Heap->Prop}{J:It}{cl:List (Str×AD)}{E:sC}{RR:VL->AD->Result->SD->Prop} (S:EH scope N x ix)(S2:EH scope N y iy)(hxy:ix≠iy)(B:X.calm=true)(hfr:F0 N X.N scope X.env.scope fr 0=true)(hlen:fr.length=N.length) (hif:∀cl C s₀ H₀ fp,L3 (A9 X scope cl N C s₀ H₀ fp) ifs tif)(he:∀cl C s₀ H₀ fp,PE (A9 X scope cl N C s₀ H₀ fp) elt te) (I2:Inv X pins σ U s2)(T:Turn X.prog X.w X.K (Px x y px py tk tp) J fp it tn)(st2:tn 0 s2.heap)(f2:∀b∈fp,L5 X pins U b) (c1:∀x c,cl.lookup x=some c->X.env.cells.lookup x=some c)(c2:∀x∈scope.names,x.2=NameKind.free->∃c,cl.lookup x.1=some c) (W:∀D,U D=none->∃W:Nat->Nat->List V->Hp->Prop,(∃m,W 0 m [] (upd U D (.lst []))) /\∀i m ys H,W i m ys H->H D=some (.lst ys)/\((J.stop i H/\Q (.ref D) H)\/(J.go i H/\ys.length<sizeLine/\∀x H',J.F8 i H x H'->∃a v1 Z,x=.ref a/\BN X.K H' a [v1,Z] /\tif (((carry fr σ).set ix (some v1)).set iy (some Z)) H' fun b U=>if b=true then te (((carry fr σ).set ix (some v1)).set iy (some Z)) U fun y H3=>H3 D=some (.lst ys)/\∃m',m'<m/\W (i+1) m' (ys++[y]) (upd H3 D (.lst (ys++[y]))) else ∃m',m'<m/\W (i+1) m' ys U))) (fin:∀(D C:AD) (s':SD) (H':Hp) m,s'.heap.Ns C m->Q (.ref D) H'->(∀h',Heap.SameBut C s'.heap h'->Inv X pins σ H' { s' with heap:=h'})->C≠D->(∀b o,s2.heap.get? b=some o->b≠C)->H' C=none->s2.heap.objs.size<=C->RR (.ref D) C (.ok .next) s'):wpAny (model X.prog X.w) X.A (newList []) (fun acc s₃=>wpAny (model X.prog X.w) X.A (newFunctionEnv scope X.env.globals cl [] X.env.qual none .none (some X.env)) (fun Y s₄ => codeAny (model X.prog X.w) X.A (.compStart (.ListComp elt [⟨Px x y px py tk tp,iter,ifs,0⟩] scope pos) 0 (.ref it) acc {Y with scope:=relabel scope X.env}) (RR acc Y.locals) s₄) E s₃) E s2:=by
 have hxv:(relabel scope X.env).names.lookup x=some .local:=lookup_relabel_local S.loc;have hyv:(relabel scope X.env).names.lookup y=some .local:=lookup_relabel_local S2.loc;refine Pq (g:=Yo X.K 2 (Ly (D6 ix) (Ly (D6 iy) Yh))) S B (fun σ'=>∀v w,(σ'.set ix v).set iy w=((carry fr σ).set ix v).set iy w) (fun _ _=>rfl) (fun C=>HE (X:=A9 X scope cl N C s2 U fp) B (Bo (Ax (X:=A9 X scope cl N C s2 U fp) S.nd S.at_ (.inl hxv) (.inr hxv)) (Bo (Ax (X:=A9 X scope cl N C s2 U fp) S2.nd S2.at_ (.inl hyv) (.inr hyv)) F4))) hfr hlen hif he I2 T st2 f2 c1 c2 (fun D hD=>?_) fin;obtain⟨W,w0,st⟩:=W D hD;refine⟨W,w0,fun i m ys H w=>?_⟩;obtain⟨h1,h2|⟨h2,h3,h4⟩⟩:=st i m ys H w
 .exact⟨h1,.inl h2⟩
 .refine⟨h1,.inr ⟨h2,h3,fun x H' hy σ' hr=>?_⟩⟩;obtain⟨a,v1,Z,rfl,hs,q⟩:=h4 x H' hy;rw[<-hr]at q;exact⟨a,[v1,Z],rfl,hs,rfl,v1,[Z],rfl,Z,[],rfl,rfl,fun v w=>by rw[iE hxy,hr],q⟩
def eF(S:EH scope N x ix)(S2:EH scope N y iy)(hxy:ix≠iy)(Y:X.calm=true)(hfr:F0 N X.N scope X.env.scope fr 0=true)(Z:fr.length=N.length)(B:∀y∈scope.names,y.2=.free->X.env.scope.names.lookup y.1=some .cell\/X.env.scope.names.lookup y.1=some .free) (hi:PI X (Px x y px py tk tp) iter wi)(hif:∀cl C s₀ H₀ fp,L3 (A9 X scope cl N C s₀ H₀ fp) ifs tif)(he:∀cl C s₀ H₀ fp,PE (A9 X scope cl N C s₀ H₀ fp) elt te) (hs:∀x,foldedSetIterable iter X.env x=pure x:=by intro _;rfl):PE X (.ListComp elt [⟨Px x y px py tk tp,iter,ifs,0⟩] scope pos) (Mn X.K wi fr ix iy tif te):=by
 intro pins s σ H Q I hw;obtain⟨cl,U,c1,_,c2⟩:=HI (env:=X.env) scope.names [] (fun y hy hf=>I.ok.has y.1 (B y hy hf)) (fun y c z=>by cases z);have g:closureFor scope X.env=pure cl:=by
  have e:closureFor scope X.env=((forIn scope.names [] (fun(x:Str×NameKind) (r:List (Str×AD))=>do if(x.2==NameKind.free)=true then do let a <-cellOf X.env x.1;pure (ForInStep.yield ((x.1,a)::r)) else pure (ForInStep.yield r)):Sem (List (Str×AD)))>>=fun cs=>pure cs):=rfl;rw[e,U]
  rfl
 rw[eval_ListComp];refine wpAny_comprehension_free (use:=none) rfl hs g S.kind S.names (Bc (hi pins s σ H _ I hw) fun v s1 h1=>Bc h1 fun itv s2 h2=>?_);obtain⟨it,fp,tn,J,H2,e,I2,T,st2,f2,W⟩:=h2;subst e;refine Pe (RR:=fun acc C=>compPost (model X.prog X.w) X.A X.xe none (EP X pins σ Q) acc C) S S2 hxy Y hfr Z hif he I2 T st2 f2 c1 c2 W ?_;intro D C s' H' m hn q hI _ _ _ _;exact⟨m,hn,fun h' hs'=>⟨.ref D,H',hI h' hs',rfl,q⟩⟩
def Wj{i : Nat}{z : Str}{pz spos : Pos}(hN : X.N.Nodup)(hy : X.N[i]? = some z)(hly : X.env.scope.names.lookup z = some .local)(S : EH scope N x ix)(S2 : EH scope N y iy)(hxy : ix≠iy)(hcalm : X.calm = true)(hfr : F0 N X.N scope X.env.scope fr 0 = true)(hlen : fr.length = N.length) (hfree : ∀ y∈scope.names,y.2 = .free->X.env.scope.names.lookup y.1 = some .cell\/X.env.scope.names.lookup y.1 = some .free) (hi : PI X (Px x y px py tk tp) iter wi)(hif : ∀ cl C s₀ H₀ fp,L3 (A9 X scope cl N C s₀ H₀ fp) ifs tif)(he : ∀ cl C s₀ H₀ fp,PE (A9 X scope cl N C s₀ H₀ fp) elt te) (hsw : swapsWith (.ListComp elt [⟨Px x y px py tk tp,iter,ifs,0⟩] scope pos) (some (.Name z pz)) spos.line X.env = pure true:=by rfl) (hs : ∀ x,foldedSetIterable iter X.env x = pure x:=by intro _; rfl):PS X (.Assign [.Name z pz] (.ListComp elt [⟨Px x y px py tk tp,iter,ifs,0⟩] scope pos) spos) (SN (Mn X.K wi fr ix iy tif te) (D6 i)):=by
  intro pins s σ H D I hw
  obtain ⟨cl,hclos,c1,_,c2⟩:=HI (env:=X.env) scope.names [] (fun y hy hf => I.ok.has y.1 (hfree y hy hf)) (fun y c z => by cases z)
  have hclos' : closureFor scope X.env = pure cl:=by
    have e : closureFor scope X.env = ((forIn scope.names [] (fun (x : Str×NameKind) (r : List (Str×AD)) => do if (x.2 == NameKind.free) = true then do let a <- cellOf X.env x.1; pure (ForInStep.yield ((x.1,a) :: r)) else pure (ForInStep.yield r)):Sem (List (Str×AD))) >>= fun cs => pure cs):=rfl
    rw [e,hclos]
    rfl
  rw [exec_Assign_Name_used _ _ _ _ hsw]
  refine Wb (wpAny_standAt (Wb ?_))
  show wpAny _ X.A (do let _ <- comprehension (.ListComp elt [⟨Px x y px py tk tp,iter,ifs,0⟩] scope pos) scope X.env _ (newList []) false (eval iter X.env) (some (assign (.Name z pz) X.env))) _ _ s
  refine Wb (ao (wpAny_comprehension_free (use:=some (assign (.Name z pz) X.env)) (Q:=fun _ s' => SP X pins D .next s') rfl hs hclos' S.kind S.names
    (Bc (hi pins s σ H _ I hw) fun v s1 h1 => Bc h1 fun itv s2 h2 => ?_)) (fun _ s' hq => aA (aA hq)) fun _ _ e => e)
  obtain ⟨it,fp,tn,J,H2,e,I2,T,st2,f2,W⟩:=h2
  subst e
  refine Pe (Q:=fun x H1 => D6 i x σ H1 D.nx) (RR:=fun acc C => compPost (model X.prog X.w) X.A X.xe (some (assign (.Name z pz) X.env)) (fun _ s' => SP X pins D .next s') acc C) S S2 hxy hcalm hfr hlen hif he I2 T st2 f2 c1 c2 W ?_
  intro D' C s' H' m hn q hI hCD hold hfreeC hsz
  have I5 : Inv X pins σ H' s':=hI s'.heap (Heap.SameBut.refl ..)
  refine wpAny_assign_Name (N9 I5 hN hy (.inl hly) (v:=.ref D') rfl (fun s'' I6 ⟨a,hsb,ha⟩ => ?_) (.inr hly))
  have hL : C≠X.env.locals:=fun z => by
    obtain ⟨_,⟨o,_,_,e,_⟩,_⟩:=I2.loc
    exact hold _ _ e z.symm
  have hcl : ∀ z c,X.env.cells.lookup z = some c->c≠C:=fun z c e => by
    obtain ⟨_,o,ho,_⟩:=I2.cell z c e
    exact hold _ _ ho
  have hCa : C≠a:=by
    rcases ha with z | z
    . rw [z]; exact hL
    . exact Ne.symm (hcl _ _ z)
  refine ⟨m,hn.sameBut hsb hCa,fun h' hs' => ⟨_,H',I6.turned (t':=s''.toks) (it:=C) (fun b o hb e => (hs'.2 b hb).trans e) hfreeC hL (.inr (aQ I2.sz hsz)) hcl fun p hp => ?_,q⟩⟩
  obtain ⟨e,_⟩:=I2.pin p hp
  exact hold _ _ e
end
section
variable{X:Cx}{elt iter:Expr}{x y:Str}{px py tp pos:Pos}{tk:Nat}{ifs:sL}{scope:Scope}{wi:TI}{tif:TT}{te:TE}
def OD(N:sJ)(ix g:Nat)(fr:sW)(hi:PI X (Px x y px py tk tp) iter wi)(T:∀cl C s₀ H₀ fp,L3 (A9 X scope cl N C s₀ H₀ fp) ifs tif)(Z:∀cl C s₀ H₀ fp,PE (A9 X scope cl N C s₀ H₀ fp) elt te) (h1:CD scope N x ix=true:=by decide +kernel)(U:CD scope N y g=true:=by decide +kernel)(B:ix≠g:=by decide)(h2:X.calm=true:=by rfl)(h3:F0 N X.N scope X.env.scope fr 0=true:=by rfl)(h4:fr.length=N.length:=by rfl)(h5:freeOk X.env.scope scope.names=true:=by rfl) (Y:∀x,foldedSetIterable iter X.env x=pure x:=by intro _;rfl):PE X (.ListComp elt [⟨.Tuple [.Name x px,.Name y py] tk tp,iter,ifs,0⟩] scope pos) (Mn X.K wi fr ix g tif te) :=
 eF (F3 h1) (F3 U) B h2 h3 h4 (Lf h5) hi T Z Y
def VA{i:Nat}{z:Str}{pz g:Pos}(N:sJ)(ix B:Nat)(fr:sW)(hN:X.N.Nodup)(hy:X.N[i]? = some z)(Y:X.env.scope.names.lookup z=some .local) (hi:PI X (Px x y px py tk tp) iter wi)(Z:∀cl C s₀ H₀ fp,L3 (A9 X scope cl N C s₀ H₀ fp) ifs tif)(he:∀cl C s₀ H₀ fp,PE (A9 X scope cl N C s₀ H₀ fp) elt te) (h1:CD scope N x ix=true:=by decide +kernel)(h1':CD scope N y B=true:=by decide +kernel)(T:ix≠B:=by decide)(h2:X.calm=true:=by rfl)(h3:F0 N X.N scope X.env.scope fr 0=true:=by rfl)(h4:fr.length=N.length:=by rfl)(h5:freeOk X.env.scope scope.names=true:=by rfl) (U:swapsWith (.ListComp elt [⟨.Tuple [.Name x px,.Name y py] tk tp,iter,ifs,0⟩] scope pos) (some (.Name z pz)) g.line X.env=pure true:=by rfl) (hs:∀x,foldedSetIterable iter X.env x=pure x:=by intro _;rfl):PS X (.Assign [.Name z pz] (.ListComp elt [⟨.Tuple [.Name x px,.Name y py] tk tp,iter,ifs,0⟩] scope pos) g) (SN (Mn X.K wi fr ix B tif te) (D6 i)) :=
 Wj hN hy Y (F3 h1) (F3 h1') T h2 h3 h4 (Lf h5) hi Z he U hs
end
def Ql{K:Fg}{J:It}{n:Nat}{D:AD}{H1:Hp}{fr:sW}{σ:St}{ix iy:Nat}{Y:TT}{te:TE}{G:Hp->Prop}(Pv:Nat->List V->Hp->Prop)(h0:Pv 0 [] (upd H1 D (.lst []))) (hgo:∀i ys H,i<n->Pv i ys H->H D=some (.lst ys)->J.go i H/\ys.length<sizeLine/\∀x H',J.F8 i H x H'->∃a T B,x=.ref a/\BN K H' a [T,B] /\Y (((carry fr σ).set ix (some T)).set iy (some B)) H' fun b H2=>if b=true then te (((carry fr σ).set ix (some T)).set iy (some B)) H2 fun y Z=>Z D=some (.lst ys)/\∃g,g<n-i/\CW Pv n D (i+1) g (ys++[y]) (upd Z D (.lst (ys++[y]))) else ∃g,g<n-i/\CW Pv n D (i+1) g ys H2) (U:∀ys H,Pv n ys H->H D=some (.lst ys)->J.stop n H/\G H):∃W:Nat->Nat->List V->Hp->Prop,(∃m,W 0 m [] (upd H1 D (.lst []))) /\∀i m ys H,W i m ys H->H D=some (.lst ys)/\((J.stop i H/\G H)\/(J.go i H/\ys.length<sizeLine/\∀x H',J.F8 i H x H'->∃a T B,x=.ref a/\BN K H' a [T,B] /\Y (((carry fr σ).set ix (some T)).set iy (some B)) H' fun b H2=>if b=true then te (((carry fr σ).set ix (some T)).set iy (some B)) H2 fun y Z=>Z D=some (.lst ys)/\∃g,g<m/\W (i+1) g (ys++[y]) (upd Z D (.lst (ys++[y]))) else ∃g,g<m/\W (i+1) g ys H2)):=by
 refine⟨CW Pv n D,⟨n,by simp,Nat.zero_le _,AW,h0⟩,?_⟩;rintro i m ys H ⟨rfl,hi,hH,p⟩;refine⟨hH,?_⟩;by_cases hlt:i<n
 .exact .inr (hgo i ys H hlt p hH)
 .have:i=n:=by lia
  subst this;exact .inl (U ys H p hH)
end L2
namespace ZT
open PySem PyProof.Rows
structure Apart(z TI TO i1 i2:Addr)(f1 f2:List Addr):Prop where
 a1:TI≠z/\TI≠TO/\TI≠i1/\TI≠i2
 a2:TO≠z/\TO≠i1/\TO≠i2
 a3:i1≠z/\i2≠z/\i1≠i2
 b1:z ∉ f1/\TO ∉ f1/\i2 ∉ f1
 b2:z ∉ f2/\TO ∉ f2/\i1 ∉ f2
section
variable{prog:Program}{w:World}{A:Around}{E:sC}{s:SD}{z TI TO i1 i2:AD}{f1 f2:sS}{n1 n2 k:Nat}{P1 P2:Nat->VL->Prop}{S1 S2:Nat->Heap->Prop}{a b:VL}
def Aq{f:sS}{x:AD}{h h':Heap}(g:x ∉ f)(e:Heap.SameBut x h h'):∀c∈f,∀o,h.get? c=some o->h'.get? c=some o:=fun c B o q=>(e.2 c fun y=>g (y ▸ B)).trans q
def item{Q:sC}(D1:Draws prog w A i1 f1 n1 P1 S1)(Z:Draws prog w A i2 f2 n2 P2 S2)(ap:Apart z TI TO i1 i2 f1 f2)(hz:IsZip s.heap z TI TO .none)(hI:IsPair s.heap TI (.ref i1) (.ref i2))(hO:IsPair s.heap TO a b) (t1:S1 k s.heap)(t2:S2 k s.heap)(l1:k<n1)(l2:k<n2) (q:∀x y h' tk,P1 k x->P2 k y->IsZip h' z TI TO (rawInt s.heap.objs.size)->IsPair h' TO x y->S1 (k+1) h'->S2 (k+1) h'->IsPair h' s.heap.objs.size x y->h'.objs.size=s.heap.objs.size+1 ->(∀c o,c≠z->c≠TO->c≠i1->c≠i2->s.heap.get? c=some o->h'.get? c=some o)->Q (.ref s.heap.objs.size) {s with heap:=h',toks:=tk}):wpAny (model prog w) A (Builtin.«zip.__next__» ⟨[.ref z],[]⟩) (fun fin s'=>∃v,fin=.done (.ret v)/\Q v s') E s:=by
 obtain⟨⟨c1,c2,c3,c4⟩,⟨c5,c6,c7⟩,⟨c8,c9,c10⟩,⟨d1,d2,d3⟩,d4,d5,d6⟩:=ap;show wpAny _ _ (field (.ref z) 2>>=_) _ _ _;refine Wb (aV hz rfl (x:=.bool false) rfl ?_);show wpAny _ _ (field (.ref z) 3>>=_) _ _ _;refine Wb (aV hz rfl (x:=.ref TI) rfl (Wb (aT hI rfl ?_)));show wpAny _ _ (Builtin.SmallTypes.ownedTupleIsFree (.ref z)>>=_) _ _ _;unfold Builtin.SmallTypes.ownedTupleIsFree;refine Wb (Wb (aV hz rfl (x:=.none) rfl (aA ?_)));simp only[if_true];refine Wb (bP (Wb (aV hz rfl (x:=.ref TO) rfl (Wb (af hz (by simp) fun g1 z1 U=>Wb ?_)))));have U:Heap.SameBut z s.heap g1:=U;have z1:IsZip g1 z TI TO .ellipsis:=z1;simp only[List.zipIdx_cons,List.zipIdx_nil,List.forIn_cons,List.forIn_nil];refine Wb (Wb (bO ?_));show wpAny _ _ (Builtin.SmallTypes.nextOf (.ref i1)>>=_) _ _ _;refine Wb (D1.item k _ _ _ l1 (D1.frame _ _ _ t1 (Aq d1 U)) fun x g2 tk2 p1 u1 T=>aA ?_);have o2:IsPair g2 TO a b:=(T.2 _ c6).trans ((U.2 _ c5).trans hO);refine Wb (aT o2 rfl (Wb (wpAny_updateSeq_pair o2 fun g3 o3 B=>Wb (wpAny_letGo (aA ?_)))));have o3:IsPair g3 TO x b:=o3;have t2':S2 k g3:=Z.frame _ _ _ (Z.frame _ _ _ (Z.frame _ _ _ t2 (Aq d4 U)) (Aq d6 T)) (Aq d5 B);refine Wb (Wb (bO ?_));show wpAny _ _ (Builtin.SmallTypes.nextOf (.ref i2)>>=_) _ _ _;refine Wb (Z.item k _ _ _ l2 t2' fun y g4 tk4 p2 u2 m4=>aA ?_);have B:Heap.SameBut TO g2 g3:=B;have m4:Heap.SameBut i2 g3 g4:=m4;have o4:IsPair g4 TO x b:=(m4.2 _ c7).trans o3;refine Wb (aT o4 rfl (Wb (wpAny_updateSeq_pair o4 fun g o5 m5=>Wb (wpAny_letGo (aA (aA ?_))))));have m5:Heap.SameBut TO g4 g:=m5;have o5:IsPair g TO x y:=o5;refine Wb (aT o5 rfl (Wb (wpAny_newTuple ?_)));have T:Heap.SameBut i1 g1 g2:=T;have sz:g.objs.size=s.heap.objs.size:=by rw[m5.1,m4.1,B.1,T.1,U.1]
 have z5:IsZip g z TI TO .ellipsis:=(m5.2 _ c5.symm).trans ((m4.2 _ c9.symm).trans ((B.2 _ c5.symm).trans ((T.2 _ c8.symm).trans z1)));have kp:∀c o,c≠z->c≠TO->c≠i1->c≠i2->s.heap.get? c=some o->g.get? c=some o:=fun c o Y e2 e3 e4 e=>(m5.2 _ e2).trans ((m4.2 _ e4).trans ((B.2 _ e2).trans ((T.2 _ e3).trans ((U.2 _ Y).trans e))));have v1:S1 (k+1) g:=D1.frame _ _ _ (D1.frame _ _ _ (D1.frame _ _ _ u1 (Aq d2 B)) (Aq d3 m4)) (Aq d2 m5);have v2:S2 (k+1) g:=Z.frame _ _ _ u2 (Aq d5 m5);show wpAny _ _ (Builtin.SmallTypes.ownedTupleHandOut (.ref z) (.ref g.objs.size)>>=_) _ _ _;unfold Builtin.SmallTypes.ownedTupleHandOut;have z6:IsZip (g.push { cls:=.type "tuple",data:=.seq #[x,y]}) z TI TO .ellipsis:=aE _ z5;refine Wb (Wb (af z6 (by simp) fun g7 z7 m7=>af (show IsZip g7 z TI TO (rawInt g.objs.size) from z7) (by simp) fun g8 z8 m8=>?_));have z8:IsZip g8 z TI TO (rawInt g.objs.size):=z8;have up:∀c o,c≠z->(g.push { cls:=.type "tuple",data:=.seq #[x,y]}).get? c=some o->g8.get? c=some o:=fun c o Y e=>(m8.2 _ Y).trans ((m7.2 _ Y).trans e);have zl:z<g.objs.size:=aF z5;refine aA ⟨_,rfl,?_⟩;show Q (.ref g.objs.size) _;have fin:=q x y g8 tk4 p1 p2 (by rw[<-sz];exact z8) (up _ _ c5 (aE _ o5)) (D1.frame _ _ _ v1 fun c hc o e=>up c o (fun y=>d1 (y ▸ hc)) (aE _ e)) (Z.frame _ _ _ v2 fun c hc o e=>up c o (fun y=>d4 (y ▸ hc)) (aE _ e))
  (by rw[<-sz];exact up _ _ (aj zl) (aM _ rfl)) (by rw[<-sz,m8.1,m7.1,Heap.size_push]) fun c o Y e2 e3 e4 e=>up c o Y (aE _ (kp c o Y e2 e3 e4 e))
 rw[sz];exact fin
def ended{Q:Fin->SD->Prop}(D1:Draws prog w A i1 f1 n1 P1 S1)(D2:Draws prog w A i2 f2 n2 P2 S2)(ap:Apart z TI TO i1 i2 f1 f2)(hz:IsZip s.heap z TI TO .none)(hI:IsPair s.heap TI (.ref i1) (.ref i2))(hO:IsPair s.heap TO a b) (t1:S1 k s.heap)(t2:S2 k s.heap)(he:k=n1\/(k<n1/\k=n2)) (q:∀h' e tk,(∀c o,c≠z->c≠TO->c≠i1->c≠i2->s.heap.get? c=some o->h'.get? c=some o)->(∃o,h'.get? e=some o/\o.cls=.type "StopIteration")->E (.ref e) {s with heap:=h',toks:=tk}):wpAny (model prog w) A (Builtin.«zip.__next__» ⟨[.ref z],[]⟩) Q E s:=by
 obtain⟨⟨c1,c2,c3,c4⟩,⟨c5,c6,c7⟩,⟨c8,c9,c10⟩,⟨d1,d2,d3⟩,d4,d5,d6⟩:=ap;show wpAny _ _ (field (.ref z) 2>>=_) _ _ _;refine Wb (aV hz rfl (x:=.bool false) rfl ?_);show wpAny _ _ (field (.ref z) 3>>=_) _ _ _;refine Wb (aV hz rfl (x:=.ref TI) rfl (Wb (aT hI rfl ?_)));show wpAny _ _ (Builtin.SmallTypes.ownedTupleIsFree (.ref z)>>=_) _ _ _;unfold Builtin.SmallTypes.ownedTupleIsFree;refine Wb (Wb (aV hz rfl (x:=.none) rfl (aA ?_)));simp only[if_true];refine Wb (bP (Wb (aV hz rfl (x:=.ref TO) rfl (Wb (af hz (by simp) fun g1 z1 Y=>Wb ?_)))));have Y:Heap.SameBut z s.heap g1:=Y;have z1:IsZip g1 z TI TO .ellipsis:=z1;simp only[List.zipIdx_cons,List.zipIdx_nil,List.forIn_cons,List.forIn_nil];refine Wb (Wb (bO ?_));show wpAny _ _ (Builtin.SmallTypes.nextOf (.ref i1)>>=_) _ _ _;have U:=D1.frame _ _ _ t1 (Aq d1 Y);rcases he with he|⟨he1,he2⟩
 .rw[he]at U;refine Wb (D1.done _ _ _ U fun g2 e B g=>?_);obtain⟨o,g,hc⟩:=g;have z2:IsZip g2 z TI TO .ellipsis:=B _ _ c8.symm z1;have ez:e≠z:=fun y=>by subst y;rw[z2]at g;cases g;simp at hc
  exact af z2 (by simp) fun g3 _ T=>q g3 e _ (fun c o e1 e2 e3 e4 y=>(T.2 _ e1).trans (B _ _ e3 ((Y.2 _ e1).trans y))) ⟨o,(T.2 _ ez).trans g,hc⟩
 .refine Wb (D1.item k _ _ _ he1 U fun x g2 tk2 p1 u1 B=>aA ?_);have o2:IsPair g2 TO a b:=(B.2 _ c6).trans ((Y.2 _ c5).trans hO);refine Wb (aT o2 rfl (Wb (wpAny_updateSeq_pair o2 fun g3 o3 T=>Wb (wpAny_letGo (aA ?_)))));have Z:S2 k g3:=D2.frame _ _ _ (D2.frame _ _ _ (D2.frame _ _ _ t2 (Aq d4 Y)) (Aq d6 B)) (Aq d5 T);rw[he2]at Z;have B:Heap.SameBut i1 g1 g2:=B;have T:Heap.SameBut TO g2 g3:=T;refine Wb (Wb (bO ?_));show wpAny _ _ (Builtin.SmallTypes.nextOf (.ref i2)>>=_) _ _ _;refine Wb (D2.done _ _ _ Z fun g4 e m4 g=>?_);obtain⟨o,g,hc⟩:=g;have z4:IsZip g4 z TI TO .ellipsis:=m4 _ _ c9.symm ((T.2 _ c5.symm).trans ((B.2 _ c8.symm).trans z1));have ez:e≠z:=fun y=>by subst y;rw[z4]at g;cases g;simp at hc
  exact af z4 (by simp) fun g5 _ m5=>q g5 e _ (fun c o e1 e2 e3 e4 y=>(m5.2 _ e1).trans (m4 _ _ e4 ((T.2 _ e2).trans ((B.2 _ e3).trans ((Y.2 _ e1).trans y))))) ⟨o,(m5.2 _ ez).trans g,hc⟩
def next_item{Q:Option VL->SD->Prop}(D1:Draws prog w A.in1 i1 f1 n1 P1 S1)(D2:Draws prog w A.in1 i2 f2 n2 P2 S2)(ap:Apart z TI TO i1 i2 f1 f2)(hz:IsZip s.heap z TI TO .none)(hI:IsPair s.heap TI (.ref i1) (.ref i2))(hO:IsPair s.heap TO a b) (t1:S1 k s.heap)(T:S2 k s.heap)(l1:k<n1)(l2:k<n2) (q:∀x y h' g,P1 k x->P2 k y->IsZip h' z TI TO (rawInt s.heap.objs.size)->IsPair h' TO x y->S1 (k+1) h'->S2 (k+1) h'->IsPair h' s.heap.objs.size x y->h'.objs.size=s.heap.objs.size+1 ->(∀c o,c≠z->c≠TO->c≠i1->c≠i2->s.heap.get? c=some o->h'.get? c=some o)->Q (some (.ref s.heap.objs.size)) {s with heap:=h',toks:=g}):wpAny (model prog w) A (pyNext (.ref z)) Q E s:=by
 have B:s.TypeIs (.ref z) "zip" := ⟨_,hz,rfl⟩;unfold pyNext;exact Wb (wpAny_attempt (aX (name:=Str.ofString "__next__") B bD
  (aW bD B F.entry_zip_next (item D1 D2 ap hz hI hO t1 T l1 l2 fun x y h' g r1 r2 r3 r4 r5 r6 Z Y U=>aA (q x y h' g r1 r2 r3 r4 r5 r6 Z Y U)) (F.args_zip_next_1 _))))
def next_end{Q:Option VL->SD->Prop}(D1:Draws prog w A.in1 i1 f1 n1 P1 S1)(D2:Draws prog w A.in1 i2 f2 n2 P2 S2)(ap:Apart z TI TO i1 i2 f1 f2)(hz:IsZip s.heap z TI TO .none)(hI:IsPair s.heap TI (.ref i1) (.ref i2))(hO:IsPair s.heap TO a b) (t1:S1 k s.heap)(Y:S2 k s.heap)(Z:k=n1\/(k<n1/\k=n2)) (q:∀h' B,(∀c o,c≠z->c≠TO->c≠i1->c≠i2->s.heap.get? c=some o->h'.get? c=some o)->Q none {s with heap:=h',toks:=B}):wpAny (model prog w) A (pyNext (.ref z)) Q E s:=by
 have U:s.TypeIs (.ref z) "zip" := ⟨_,hz,rfl⟩;unfold pyNext;refine Wb (wpAny_attempt (aX (name:=Str.ofString "__next__") U bD
  (aW bD U F.entry_zip_next (ended D1 D2 ap hz hI hO t1 Y Z fun h' e B kp g=>?_) (F.args_zip_next_1 _))))
 obtain⟨o,g,hc⟩:=g;exact Wb (wpAny_isInstance (T := "StopIteration") (b:=true) ⟨o,g,hc⟩ isSubtype_stop (aA (q _ _ kp)))
end
end ZT
namespace ZT
open PySem PyProof.Rows
def Sq(b:Bool)(h:Heap)(l:AD)(xs:rz):Prop:=if b then h.IsTuple l xs.toArray else h.IsList l xs.toArray
def BX(b:Bool)(l:AD):Obj:=if b then { cls:=.type "tuple_iterator",data:=.fields #[.ref l,.int 0 0]} else { cls:=.type "list_iterator",data:=.fields #[.ref l,.int 0 0]}
def Iq(b:Bool)(h:Heap)(it l:AD)(k:Nat):Prop:=if b then h.IsTupleIter it l k else h.IsListIter it l k
def Sq.push{b:Bool}{h:Heap}{l:AD}{xs:rz}(o:Obj)(x:Sq b h l xs):Sq b (h.push o) l xs:=by
 cases b with
 |true=>obtain⟨u,e,r⟩:=(show h.IsTuple l xs.toArray from x);exact(show(h.push o).IsTuple l xs.toArray from⟨u,Heap.get?_push_of_some _ e,r⟩)
 |false=>obtain⟨u,e,r⟩:=(show h.IsList l xs.toArray from x);exact(show(h.push o).IsList l xs.toArray from⟨u,Heap.get?_push_of_some _ e,r⟩)
def Sq.keep{b:Bool}{h h':Heap}{l:AD}{xs:rz}(x:Sq b h l xs)(k:∀o,h.get? l=some o->h'.get? l=some o):Sq b h' l xs:=by
 cases b with
 |true=>obtain⟨u,e,r⟩:=(show h.IsTuple l xs.toArray from x);exact(show h'.IsTuple l xs.toArray from⟨u,k _ e,r⟩)
 |false=>obtain⟨u,e,r⟩:=(show h.IsList l xs.toArray from x);exact(show h'.IsList l xs.toArray from⟨u,k _ e,r⟩)
def Sq.lt{b:Bool}{h:Heap}{l:AD}{xs:rz}(x:Sq b h l xs):l<h.objs.size:=by
 cases b with
 |true=>obtain⟨u,e,r⟩:=(show h.IsTuple l xs.toArray from x);exact aF e
 |false=>obtain⟨u,e,r⟩:=(show h.IsList l xs.toArray from x);exact aF e
section
variable{prog:Program}{w:World}{A:Around}{E:sC}{s:SD}
def Mg{b:Bool}{l:AD}{xs:rz}{Q:sC}(x:Sq b s.heap l xs)(h:Q (.ref s.heap.objs.size) {s with heap:=s.heap.push (BX b l)}):wpAny (model prog w) A (pyIter (.ref l)) Q E s:=by
 cases b with
 |true=>exact wpAny_pyIter_tuple x h
 |false=>exact wpAny_pyIter_list x h
def EW(B:A.handled=none)(b:Bool)(it l:AD)(xs:rz)(g:l≠it):Draws prog w A it [it,l] xs.length (fun i v=>xs[i]? = some v) (fun i h=>Iq b h it l i/\Sq b h l xs):=by
 cases b with
 |true=>exact ET.draws B it l xs g
 |false=>
  have:=Draws.list (prog:=prog) (w:=w) B it l g xs.toArray
  simpa[Iq,Sq]using this
def zh(b1 b2:Bool)(h:Heap)(g B:AD):Heap :=
 ((((h.push (BX b1 g)).push (BX b2 B)).push { cls:=.type "tuple",data:=.seq #[.ref h.objs.size,.ref (h.push (BX b1 g)).objs.size]}).push { cls:=.type "tuple",data:=.seq #[.none,.none]}).push
  { cls:=.type "zip",data:=.fields #[.none,.bool false,.bool false,.ref ((h.push (BX b1 g)).push (BX b2 B)).objs.size,.ref (((h.push (BX b1 g)).push (BX b2 B)).push { cls:=.type "tuple",data:=.seq #[.ref h.objs.size,.ref (h.push (BX b1 g)).objs.size]}).objs.size]}
def gz(b1 b2:Bool)(B Y:AD)(xs ys:rz):Meets (Builtin.«zip.__new__» ⟨[.type "zip",.ref B,.ref Y],[]⟩) (fun _ R s=>Sq b1 s.heap B xs/\Sq b2 s.heap Y ys /\R (.ok (.ret (.ref ((((s.heap.push (BX b1 B)).push (BX b2 Y)).push { cls:=.type "tuple",data:=.seq #[.ref s.heap.objs.size,.ref (s.heap.push (BX b1 B)).objs.size]}).push { cls:=.type "tuple",data:=.seq #[.none,.none]}).objs.size)) ) {s with heap:=zh b1 b2 s.heap B Y}) :=
 .of_wp fun prog w A R s h=>by
  obtain⟨T,g,d,U,os⟩:=s;obtain⟨h1,h2,h⟩:=h;have Z:=sub_zip;have i1:∀(A:Around) (E:VL->SD->Prop) (Q:VL->SD->Prop),Q (.ref T.objs.size) ⟨T.push (BX b1 B),g,d,U,os⟩->wpAny (model prog w) A (pyIter (.ref B)) Q E ⟨T,g,d,U,os⟩:=fun A E Q q=>Mg (s:=⟨T,g,d,U,os⟩) h1 q;have i2:∀(A:Around) (E:VL->SD->Prop) (Q:VL->SD->Prop),Q (.ref (T.push (BX b1 B)).objs.size) ⟨(T.push (BX b1 B)).push (BX b2 Y),g,d,U,os⟩->wpAny (model prog w) A (pyIter (.ref Y)) Q E ⟨T.push (BX b1 B),g,d,U,os⟩:=fun A E Q q=>Mg (s:=⟨T.push (BX b1 B),g,d,U,os⟩) (h2.push _) q
  wp_walk using i1,i2
  exact⟨_,rfl,h⟩
def VE{b1 b2:Bool}{T B:AD}{xs ys:rz}{Q:sC}(h1:Sq b1 s.heap T xs)(h2:Sq b2 s.heap B ys) (h:∀h',IsZip h' (s.heap.objs.size+4) (s.heap.objs.size+2) (s.heap.objs.size+3) .none->IsPair h' (s.heap.objs.size+2) (.ref s.heap.objs.size) (.ref (s.heap.objs.size+1))->IsPair h' (s.heap.objs.size+3) .none .none ->Iq b1 h' s.heap.objs.size T 0->Iq b2 h' (s.heap.objs.size+1) B 0->(∀c o,s.heap.get? c=some o->h'.get? c=some o)->Q (.ref (s.heap.objs.size+4)) {s with heap:=h'}):wpAny (model prog w) A (call (.type "zip") [.ref T,.ref B]) Q E s:=by
 refine callType_new F.called_zip (by decide) (F.typeCall_zip_2 _ _) (F.newCall_zip_2 _ _) (fun obj=>F.args_object_init_3 obj _ _) F.entry_zip_new (gz b1 b2 T B xs ys) ⟨h1,h2,?_⟩;have Z:(s.heap.push (BX b1 T)).objs.size=s.heap.objs.size+1:=Heap.size_push ..;have up:∀(g:Heap) (o:Obj) (c:AD) (u:Obj),g.get? c=some u->(g.push o).get? c=some u:=fun g o c u e=>aE _ e;have a0:(s.heap.push (BX b1 T)).get? s.heap.objs.size=some (BX b1 T):=aM _ (by cases b1<;>rfl);generalize hg1:s.heap.push (BX b1 T)=g1 at Z a0;have k1:∀c o,s.heap.get? c=some o->g1.get? c=some o:=fun c o e=>by rw[<-hg1];exact up _ _ _ _ e
 have n2:(g1.push (BX b2 B)).objs.size=s.heap.objs.size+2:=by rw[Heap.size_push,Z]
 have a1:(g1.push (BX b2 B)).get? (s.heap.objs.size+1)=some (BX b2 B):=by rw[<-Z];exact aM _ (by cases b2<;>rfl)
 generalize hg2:g1.push (BX b2 B)=g2 at n2 a1;have k2:∀c o,g1.get? c=some o->g2.get? c=some o:=fun c o e=>by rw[<-hg2];exact up _ _ _ _ e
 have n3:(g2.push { cls:=.type "tuple",data:=.seq #[.ref s.heap.objs.size,.ref (s.heap.objs.size+1)]}).objs.size=s.heap.objs.size+3:=by rw[Heap.size_push,n2]
 have a2:IsPair (g2.push { cls:=.type "tuple",data:=.seq #[.ref s.heap.objs.size,.ref (s.heap.objs.size+1)]}) (s.heap.objs.size+2) (.ref s.heap.objs.size) (.ref (s.heap.objs.size+1)):=by rw[<-n2];exact aM _ rfl
 generalize Y:g2.push { cls:=.type "tuple",data:=.seq #[.ref s.heap.objs.size,.ref (s.heap.objs.size+1)]}=g3 at n3 a2;have k3:∀c o,g2.get? c=some o->g3.get? c=some o:=fun c o e=>by rw[<-Y];exact up _ _ _ _ e
 have n4:(g3.push { cls:=.type "tuple",data:=.seq #[.none,.none]}).objs.size=s.heap.objs.size+4:=by rw[Heap.size_push,n3]
 have a3:IsPair (g3.push { cls:=.type "tuple",data:=.seq #[.none,.none]}) (s.heap.objs.size+3) .none .none:=by rw[<-n3];exact aM _ rfl
 generalize U:g3.push { cls:=.type "tuple",data:=.seq #[.none,.none]}=g4 at n4 a3;have k4:∀c o,g3.get? c=some o->g4.get? c=some o:=fun c o e=>by rw[<-U];exact up _ _ _ _ e
 have ez:zh b1 b2 s.heap T B=g4.push { cls:=.type "zip",data:=.fields #[.none,.bool false,.bool false,.ref (s.heap.objs.size+2),.ref (s.heap.objs.size+3)]}:=by
  unfold zh;rw[hg1,hg2,Z,Y,U,n2,n3]
 have a4:IsZip (g4.push { cls:=.type "zip",data:=.fields #[.none,.bool false,.bool false,.ref (s.heap.objs.size+2),.ref (s.heap.objs.size+3)]}) (s.heap.objs.size+4) (s.heap.objs.size+2) (s.heap.objs.size+3) .none:=by rw[<-n4];exact aM _ rfl
 rw[Z,Y,U,n4,ez];show _/\_;have k5:∀c o,g4.get? c=some o->(g4.push { cls:=.type "zip",data:=.fields #[.none,.bool false,.bool false,.ref (s.heap.objs.size+2),.ref (s.heap.objs.size+3)]}).get? c=some o:=fun c o e=>up _ _ _ _ e;refine⟨⟨_,a4,rfl⟩,h _ a4 (k5 _ _ (k4 _ _ a2)) (k5 _ _ a3) ?_ ?_ fun c o e=>k5 _ _ (k4 _ _ (k3 _ _ (k2 _ _ (k1 _ _ e))))⟩
 .have:=k5 _ _ (k4 _ _ (k3 _ _ (k2 _ _ a0)));cases b1 with
  |true=>exact⟨_,this,rfl,rfl⟩
  |false=>exact⟨_,this,rfl,rfl⟩
 .have:=k5 _ _ (k4 _ _ (k3 _ _ a1));cases b2 with
  |true=>exact⟨_,this,rfl,rfl⟩
  |false=>exact⟨_,this,rfl,rfl⟩
end
end ZT
namespace L2
open PySem PySem.Spec PyProof.Rows
def CK(b:Bool)(H:Hp)(a:AD)(xs:sQ):Prop:=if b then H a=some (.tup xs) else H a=some (.lst xs)
def CK.inj{b:Bool}{H:Hp}{a:AD}{xs ys:sQ}(h:CK b H a xs)(k:CK b H a ys):xs=ys:=by
 cases b with
 |true=>have h:H a=some (.tup xs):=h;have k:H a=some (.tup ys):=k;rw[h]at k;cases k;rfl
 |false=>have h:H a=some (.lst xs):=h;have k:H a=some (.lst ys):=k;rw[h]at k;cases k;rfl
def CK.none{b:Bool}{H:Hp}{a c:AD}{xs:sQ}(h:CK b H a xs)(k:H c=none):a≠c:=fun z=>by
 subst z;cases b with
 |true=>have h:H a=some (.tup xs):=h;rw[k]at h;cases h
 |false=>have h:H a=some (.lst xs):=h;rw[k]at h;cases h
def CK.raw{X:Cx}{pins:List (AD×Obj)}{σ:St}{H:Hp}{s:SD}(I:Inv X pins σ H s){b:Bool}{a:AD}{xs:sQ}(h:CK b H a xs):∃g,Vals xs g/\ZT.Sq b s.heap a g:=by
 cases b with
 |true=>
  obtain⟨g,B,p,_⟩:=I.tuple (BN.of (K:=X.K) (show H a=some (.tup xs) from h));exact⟨g,B,p⟩
 |false=>
  obtain⟨g,B,p,_⟩:=I.list (Aw.of (K:=X.K) (show H a=some (.lst xs) from h));exact⟨g,B,p.isList⟩
def kF(b1 b2:Bool)(a1 a2:AD):It :=
 ⟨fun i H=>∃xs x ys y,CK b1 H a1 xs/\CK b2 H a2 ys/\xs[i]? = some x/\ys[i]? = some y,
  fun i H v H'=>∃p x y,v=.ref p/\H p=none/\H'=upd H p (.tup [x,y])/\(∀xs,CK b1 H a1 xs->xs[i]? = some x)/\∀ys,CK b2 H a2 ys->ys[i]? = some y,
  fun i H=>∃xs ys,CK b1 H a1 xs/\CK b2 H a2 ys/\(i=xs.length\/(i<xs.length/\i=ys.length))⟩
def rZ(b1 b2:Bool)(a1 a2 z TI TO i1 i2:AD):Nat->Heap->Prop:=fun i h=>IsZip h z TI TO .none/\IsPair h TI (.ref i1) (.ref i2)/\(∃a b,IsPair h TO a b)/\ZT.Iq b1 h i1 a1 i/\ZT.Iq b2 h i2 a2 i
def Gg{b:Bool}{h:Heap}{it l:AD}{k:Nat}(x:ZT.Iq b h it l k):∃o,h.get? it=some o/\∀v,o.data≠.cell v:=by
 cases b with
 |true=>obtain⟨o,e,_,d⟩:=(show h.IsTupleIter it l k from x);exact⟨o,e,fun v z=>by rw[d]at z;cases z⟩
 |false=>obtain⟨o,e,_,d⟩:=(show h.IsListIter it l k from x);exact⟨o,e,fun v z=>by rw[d]at z;cases z⟩
def Fi{b:Bool}{h h':Heap}{it l:AD}{k:Nat}(x:ZT.Iq b h it l k)(e:∀o,h.get? it=some o->h'.get? it=some o):ZT.Iq b h' it l k:=by
 cases b with
 |true=>obtain⟨o,q,r⟩:=(show h.IsTupleIter it l k from x);exact(show h'.IsTupleIter it l k from⟨o,e _ q,r⟩)
 |false=>obtain⟨o,q,r⟩:=(show h.IsListIter it l k from x);exact(show h'.IsListIter it l k from⟨o,e _ q,r⟩)
def dF{P:Program}{w:World}{K:Fg}{elts:sL}{x1}{pos:Pos}{b1 b2:Bool}{a1 a2 z TI TO i1 i2:AD}(ne:[z,TI,TO,i1,i2].Nodup) :
  Turn P w K (.Tuple elts x1 pos) (kF b1 b2 a1 a2) [z,TI,TO,i1,i2] z (rZ b1 b2 a1 a2 z TI TO i1 i2) where
 mem:=by simp
 obj:=fun i h st b hb=>by
  obtain⟨h1,h2,⟨u,v,h3⟩,h4,h5⟩:=st;have hb:b=z\/b=TI\/b=TO\/b=i1\/b=i2:=by simpa using hb
  rcases hb with rfl|rfl|rfl|rfl|rfl
  .exact⟨_,h1,fun v y=>by cases y⟩
  .exact⟨_,h2,fun v y=>by cases y⟩
  .exact⟨_,h3,fun v y=>by cases y⟩
  .exact Gg h4
  .exact Gg h5
 keep:=fun i h h' st k=>by
  obtain⟨h1,h2,⟨u,v,h3⟩,h4,h5⟩:=st;exact⟨k z (by simp) _ h1,k TI (by simp) _ h2,⟨u,v,k TO (by simp) _ h3⟩,Fi h4 fun o e=>k i1 (by simp) o e,Fi h5 fun o e=>k i2 (by simp) o e⟩
 item:=by
  intro X hP hw hK hc i pins s σ H E I hf st hg;subst hP hw hK;obtain⟨xs,x,ys,y,q1,q2,hx,hy⟩:=hg;obtain⟨us,rv1,p1⟩:=q1.raw I;obtain⟨vs,rv2,p2⟩:=q2.raw I;obtain⟨u,hu,ru⟩:=rv1.get hx;obtain⟨v,hv,rv⟩:=rv2.get hy;obtain⟨t1,t2,⟨ta,tb,t3⟩,t4,t5⟩:=st;have e1:∀b∈[z,TI,TO,i1,i2],a1≠b:=fun b hb=>q1.none (hf b hb).1;have e2:∀b∈[z,TI,TO,i1,i2],a2≠b:=fun b hb=>q2.none (hf b hb).1;simp only[List.nodup_cons,List.mem_cons,List.not_mem_nil,or_false,not_or]at ne;obtain⟨⟨n1,n2,n3,n4⟩,⟨n5,n6,n7⟩,⟨n8,n9⟩,n10,_⟩:=ne;have ap:ZT.Apart z TI TO i1 i2 [i1,a1] [i2,a2]:=⟨⟨Ne.symm n1,n5,n6,n7⟩,⟨Ne.symm n2,n8,n9⟩,⟨Ne.symm n3,Ne.symm n4,n10⟩,
   ⟨by simp[n3,Ne.symm (e1 z (by simp))],by simp[n8,Ne.symm (e1 TO (by simp))],by simp[Ne.symm n10,Ne.symm (e1 i2 (by simp))]⟩,⟨by simp[n4,Ne.symm (e2 z (by simp))],by simp[n9,Ne.symm (e2 TO (by simp))],by simp[n10,Ne.symm (e2 i1 (by simp))]⟩⟩
  refine ZT.next_item (ZT.EW (prog:=X.prog) (w:=X.w) (A:=X.A.in1) (I.ok.hd hc) b1 i1 a1 us (e1 i1 (by simp))) (ZT.EW (prog:=X.prog) (w:=X.w) (A:=X.A.in1) (I.ok.hd hc) b2 i2 a2 vs (e2 i2 (by simp))) ap t1 t2 t3 ⟨t4,p1⟩ ⟨t5,p2⟩ (aD.mp hu).1 (aD.mp hv).1
   fun u' v' h' tk r1 r2 r3 r4 r5 r6 r7 r8 r9=>⟨_,rfl,wpAny_letOwnedTupleGo_zip (s:={s with heap:=h',toks:=tk}) r3 fun h'' z'' sb=>?_⟩
  rw[hu]at r1;rw[hv]at r2;cases r1;cases r2;have keep:∀b o,b ∉ [z,TI,TO,i1,i2]->s.heap.get? b=some o->h''.get? b=some o:=fun b o hb q=>by
   simp only[List.mem_cons,List.not_mem_nil,or_false,not_or]at hb;exact(sb.2 b hb.1).trans (r9 b o hb.1 hb.2.2.1 hb.2.2.2.1 hb.2.2.2.2 q)
  have lt:∀b∈[z,TI,TO,i1,i2],b<s.heap.objs.size:=fun b hb=>by
   have hb:b=z\/b=TI\/b=TO\/b=i1\/b=i2:=by simpa using hb
   rcases hb with rfl|rfl|rfl|rfl|rfl
   .exact aF t1
   .exact aF t2
   .exact aF t3
   .obtain⟨o,e,_⟩:=Gg t4;exact aF e
   .obtain⟨o,e,_⟩:=Gg t5;exact aF e
  have hTn:H s.heap.objs.size=none:=I.BA.fresh (aG _);have hT'':h''.get? s.heap.objs.size=some { cls:=.type "tuple",data:=.seq #[u,v]}:=(sb.2 _ (aj (lt z (by simp)))).trans r7;have neT:∀b o,s.heap.get? b=some o->b≠s.heap.objs.size:=fun b o q=>aK (aF q);have F9:∀b o,H b=some o->b ∉ [z,TI,TO,i1,i2]:=fun b o q hb=>by rw[(hf b hb).1]at q;cases q
  refine⟨.ref s.heap.objs.size,upd H s.heap.objs.size (.tup [x,y]),?_,rfl,⟨_,x,y,rfl,hTn,rfl,fun zs hz=>by rw[hz.inj q1];exact hx,fun zs hz=>by rw[hz.inj q2];exact hy⟩,⟨z'',?_,⟨u,v,?_⟩,?_,?_⟩,fun b hb=>?_⟩
  .show Inv X pins σ _ {s with heap:=h'',gens:=s.gens,drawn:=s.drawn,toks:=tk};refine I.step (h':=h'') (g':=s.gens) (d':=s.drawn) (t':=tk) (ch:=[z,TI,TO,i1,i2]) (fun b hb=>?_) (fun b o _ _ hc q _=>keep b o hc q) (fun b o _ _ hc q _=>⟨o.slots,keep b o hc q⟩)
    (fun b o _ q n=>by rw[AJ (neT b o q)];exact n) (fun b o hc q=>⟨o,keep b o hc q⟩) (fun b ys q=>by rw[AJ (AY q hTn)];exact q) (fun b o u q=>by rw[AJ (AY q hTn)];exact q)
    (fun b ps q=>⟨#[],by rw[AJ (AY q hTn),q];simp⟩) (fun m hm=>?_) (fun b o q=>?_) I.bare
   .obtain⟨_,f1,_,f3,f4,f5⟩:=hf b hb;exact⟨f3,f1,f4,f5⟩
   .obtain⟨o,es,ep,ho,r⟩:=hm;exact⟨o,es,ep,keep _ o (fun hb=>(hf _ hb).2.1 rfl) ho,r⟩
   .by_cases hb:b=s.heap.objs.size
    .subst hb;rw[AW]at q;cases q;exact⟨Xm,[u,v],.cons ru (.cons rv .nil),_,hT'',rfl,_,rfl⟩
    .rw[AJ hb]at q;refine(I.BA b o q).JO (fun c w hc r=>keep c w ?_ r) (fun c r=>by rw[AJ (AY r hTn)];exact r) fun c ys r=>by rw[AJ (AY r hTn)];exact r
     rcases hc with rfl|hc
     .exact F9 _ _ q
     .exact F9 _ _ hc
  .exact(sb.2 _ (Ne.symm n1)).trans (r9 _ _ (Ne.symm n1) n5 n6 n7 t2)
  .exact(sb.2 _ (Ne.symm n2)).trans r4
  .exact Fi r5.1 fun o e=>(sb.2 _ (Ne.symm n3)).trans e
  .exact Fi r6.1 fun o e=>(sb.2 _ (Ne.symm n4)).trans e
  .rw[AJ (aK (lt b hb))];exact(hf b hb).1
 done:=by
  intro X hP hw hK hc i pins s σ H E I hf st hg;subst hP hw hK;obtain⟨xs,ys,q1,q2,he⟩:=hg;obtain⟨us,rv1,p1⟩:=q1.raw I;obtain⟨vs,rv2,p2⟩:=q2.raw I;obtain⟨t1,t2,⟨ta,tb,t3⟩,t4,t5⟩:=st;have e1:∀b∈[z,TI,TO,i1,i2],a1≠b:=fun b hb=>q1.none (hf b hb).1;have e2:∀b∈[z,TI,TO,i1,i2],a2≠b:=fun b hb=>q2.none (hf b hb).1;simp only[List.nodup_cons,List.mem_cons,List.not_mem_nil,or_false,not_or]at ne;obtain⟨⟨n1,n2,n3,n4⟩,⟨n5,n6,n7⟩,⟨n8,n9⟩,n10,_⟩:=ne;have ap:ZT.Apart z TI TO i1 i2 [i1,a1] [i2,a2]:=⟨⟨Ne.symm n1,n5,n6,n7⟩,⟨Ne.symm n2,n8,n9⟩,⟨Ne.symm n3,Ne.symm n4,n10⟩,
   ⟨by simp[n3,Ne.symm (e1 z (by simp))],by simp[n8,Ne.symm (e1 TO (by simp))],by simp[Ne.symm n10,Ne.symm (e1 i2 (by simp))]⟩,⟨by simp[n4,Ne.symm (e2 z (by simp))],by simp[n9,Ne.symm (e2 TO (by simp))],by simp[n10,Ne.symm (e2 i1 (by simp))]⟩⟩
  have he':i=us.length\/(i<us.length/\i=vs.length):=by rw[<-rv1.length,<-rv2.length];exact he
  refine ZT.next_end (ZT.EW (prog:=X.prog) (w:=X.w) (A:=X.A.in1) (I.ok.hd hc) b1 i1 a1 us (e1 i1 (by simp))) (ZT.EW (prog:=X.prog) (w:=X.w) (A:=X.A.in1) (I.ok.hd hc) b2 i2 a2 vs (e2 i2 (by simp))) ap t1 t2 t3 ⟨t4,p1⟩ ⟨t5,p2⟩ he' fun h' tk kp=>⟨rfl,?_⟩;have keep:∀b o,b ∉ [z,TI,TO,i1,i2]->s.heap.get? b=some o->h'.get? b=some o:=fun b o hb q=>by
   simp only[List.mem_cons,List.not_mem_nil,or_false,not_or]at hb;exact kp b o hb.1 hb.2.2.1 hb.2.2.2.1 hb.2.2.2.2 q
  have F9:∀b o,H b=some o->b ∉ [z,TI,TO,i1,i2]:=fun b o q hb=>by rw[(hf b hb).1]at q;cases q
  show Inv X pins σ _ {s with heap:=h',gens:=s.gens,drawn:=s.drawn,toks:=tk};refine I.step (h':=h') (g':=s.gens) (d':=s.drawn) (t':=tk) (ch:=[z,TI,TO,i1,i2]) (fun b hb=>?_) (fun b o _ _ hc q _=>keep b o hc q) (fun b o _ _ hc q _=>⟨o.slots,keep b o hc q⟩)
    (fun b o _ q n=>n) (fun b o hc q=>⟨o,keep b o hc q⟩) (fun b ys q=>q) (fun b o u q=>q)
    (fun b ps q=>⟨#[],by rw[q];simp⟩) (fun m hm=>?_) (fun b o q=>?_) I.bare
  .obtain⟨_,f1,_,f3,f4,f5⟩:=hf b hb;exact⟨f3,f1,f4,f5⟩
  .obtain⟨o,es,ep,ho,r⟩:=hm;exact⟨o,es,ep,keep _ o (fun hb=>(hf _ hb).2.1 rfl) ho,r⟩
  .refine(I.BA b o q).JO (fun c w hc r=>keep c w ?_ r) (fun c r=>r) fun c ys r=>r;rcases hc with rfl|hc
   .exact F9 _ _ q
   .exact F9 _ _ hc
 self:=fun _ _ _ _ _ st h=>wpAny_pyIter_zip st.1 h
def qR(B:TA):TI:=fun σ H R=>B σ H fun vs g=>∃(b1 b2:Bool) (a1 a2:AD),vs=[.ref a1,.ref a2]/\(∃xs,CK b1 g a1 xs)/\(∃ys,CK b2 g a2 ys)/\R (kF b1 b2 a1 a2) g
def VC{X:Cx}{elts:sL}{x1}{g:Pos}{a b:Expr}{ta:TA}{p pos:Pos}(hg:Gl X "zip")(hm:X.mg "zip" = none)(ha:PA X [a,b] ta)(hs:starEach [a,b] X.env=[(false,eval a X.env),(false,eval b X.env)]:=by rfl)(B:starEach [b] X.env=[(false,eval b X.env)]:=by rfl):PI X (.Tuple elts x1 g) (.Call (.Name "zip" p) [a,b] [] pos) (qR ta):=by
 intro pins s σ H R I h;refine Call_ (GV I hg hm boot_zip (ah (Bc (ha pos pins s σ H _ I h) fun us s1 ⟨vs,H1,U,r1,q1⟩=>?_) (by rw[hs,B]) (by rw[B];rfl)));obtain⟨b1,b2,l1,l2,e,⟨xs,h1⟩,⟨ys,h2⟩,q⟩:=q1;subst e;cases r1 with
 |cons r Y=>
  cases Y with
  |cons r' Y=>
   cases Y;cases r;cases r';obtain⟨us,_,p1⟩:=h1.raw U;obtain⟨vs,_,p2⟩:=h2.raw U;refine ZT.VE p1 p2 fun h' z1 z2 z3 z4 z5 hk=>wpAny_pyIter_zip z1 ?_;have I2:Inv X pins σ H1 {s1 with heap:=h'}:=U.kept (t':=s1.toks) hk;refine⟨_,[s1.heap.objs.size+4,s1.heap.objs.size+2,s1.heap.objs.size+3,s1.heap.objs.size,s1.heap.objs.size+1],_,_,H1,rfl,I2,dF ?_,⟨z1,z2,⟨_,_,z3⟩,z4,z5⟩,fun b hb=>?_,q⟩
   .simp
   have T:s1.heap.objs.size<=b:=by
    have Z:b=s1.heap.objs.size+4\/b=s1.heap.objs.size+2\/b=s1.heap.objs.size+3\/b=s1.heap.objs.size\/b=s1.heap.objs.size+1:=by simpa using hb
    rcases Z with h|h|h|h|h<;>rw[h]<;>first|exact aG _|exact Nat.le_add_right _ _
   exact U.Qj T (U.BA.fresh T)
section
variable{X:Cx}
def mX:DC X (compareOp .Is) (fun x y H Q=>∃b c,x=.bl b/\y=.bl c/\Q (.bl (b==c)) H):=by
 intro pins s σ H x y v u Q I B g h;obtain⟨b,c,rfl,rfl,q⟩:=h;cases B;cases g;exact aA (Bb I q (by cases b<;>cases c<;>rfl))
def jC:DC X (compareOp .IsNot) (fun x y H Q=>∃b c,x=.bl b/\y=.bl c/\Q (.bl (!(b==c))) H):=by
 intro pins s σ H x y v u Q I B g h;obtain⟨b,c,rfl,rfl,q⟩:=h;cases B;cases g;exact aA (Bb I q (by cases b<;>cases c<;>rfl))
end
def mJ(K:Fg)(a:AD):It :=
 ⟨fun i H=>∃xs x,Aw K H a xs/\xs[i]? = some x,fun i H v H'=>∃p x,v=.ref p/\H p=none/\H'=upd H p (.tup [.int i,x])/\∀xs,Aw K H a xs->xs[i]? = some x,fun i H=>∃xs,Aw K H a xs/\xs.length=i⟩
def Yx{P:Program}{w:World}{K:Fg}{elts:sL}{x1}{pos:Pos}(a e it:AD)(hne:e≠it) :
  Turn P w K (.Tuple elts x1 pos) (mJ K a) [e,it] e (fun i h=>(∃old,IsEnum h e it (i:Nat) old)/\h.IsListIter it a i) where
 mem:=by simp
 obj:=fun i h st b hb=>by
  rcases aN.mp hb with rfl|hb
  .obtain⟨⟨old,q⟩,_⟩:=st;exact⟨_,q,fun v z=>by cases z⟩
  .have e2:b=it:=by simpa using hb
   subst e2;obtain⟨_,o,q,c,d⟩:=st;exact⟨o,q,fun v z=>by rw[d]at z;cases z⟩
 keep:=fun i h h' st k=>by
  obtain⟨⟨old,q⟩,o,q2,r⟩:=st;exact⟨⟨old,k e (by simp) _ q⟩,o,k it (by simp) _ q2,r⟩
 item:=by
  intro X hP hw hK hc i pins s σ H E I hf st hg;subst hP hw hK;obtain⟨xs,x,hq,hx⟩:=hg;obtain⟨its,rv,pL,hz⟩:=I.list hq;have p:=pL.isList;obtain⟨u,hu,ru⟩:=rv.get hx;obtain⟨⟨old,he⟩,hit⟩:=st;have hai:a≠it:=fun z=>by
   obtain⟨o,e1,c1,_⟩:=p;obtain⟨o2,e2,c2,_⟩:=hit;rw[z,e2]at e1;cases e1;rw[c1]at c2;exact absurd c2 (by decide)
  have hae:a≠e:=fun z=>by
   obtain⟨o,e1,c1,_⟩:=p;rw[z,he]at e1;cases e1;exact absurd (show Value.type "enumerate" = Value.type "list" from c1) (by decide)
  have hlt:i<its.length:=(aD.mp hu).1;have hE0:=hf e (by simp);have hI0:=hf it (by simp);refine wpAny_pyNext_enum_itemD (Draws.list (prog:=X.prog) (w:=X.w) (A:=X.A.in1) (I.ok.hd hc) it a hai its.toArray) he ⟨hit,p⟩ (by simpa using hlt) hne (by simp[hne,Ne.symm hae]) fun y h' tk hy ho hs' hT hsz hk=>⟨_,rfl,wpAny_letOwnedTupleGo_enum (s:={s with heap:=h',toks:=tk+1}) ho fun h'' he'' sb=>?_⟩;have hyu:y=u:=by
   have hy:its[i]? = some y:=by simpa using hy
   rw[hu]at hy;exact(ar hy).symm
  subst hyu;have keep:∀b o,b≠e->b≠it->s.heap.get? b=some o->h''.get? b=some o:=fun b o h1 h2 q=>(sb.2 b h1).trans (hk b o h1 h2 q);have hTe:s.heap.objs.size≠e:=aj (aF he);have hTi:s.heap.objs.size≠it:=let⟨_,q,_⟩:=hit;aj (aF q);have hT'':h''.get? s.heap.objs.size=some { cls:=.type "tuple",data:=.seq #[.int i tk,y]}:=(sb.2 _ hTe).trans hT;have hTn:H s.heap.objs.size=none:=I.BA.fresh (aG _);have neT:∀b o,s.heap.get? b=some o->b≠s.heap.objs.size:=fun b o q=>aK (aF q);have F9:∀b o,H b=some o->b≠e/\b≠it:=fun b o q=>⟨(fun z=>by rw[z,hE0.1]at q;cases q),(fun z=>by rw[z,hI0.1]at q;cases q)⟩;refine⟨.ref s.heap.objs.size,upd H s.heap.objs.size (.tup [.int i,x]),?_,rfl,⟨_,x,rfl,hTn,rfl,fun ys hy=>by rw[I.WG hy hq];exact hx⟩,⟨⟨_,by simpa using he''⟩,?_⟩,fun b hb=>?_⟩
  .show Inv X pins σ _ {s with heap:=h'',gens:=s.gens,drawn:=s.drawn,toks:=tk+1};refine I.step (h':=h'') (g':=s.gens) (d':=s.drawn) (t':=tk+1) (ch:=[e,it]) (fun b hb=>?_) (fun b o _ _ hc q _=>keep b o (fun z=>hc (by simp[z])) (fun z=>hc (by simp[z])) q) (fun b o _ _ hc q _=>⟨o.slots,keep b o (fun z=>hc (by simp[z])) (fun z=>hc (by simp[z])) q⟩)
    (fun b o _ q n=>by rw[AJ (neT b o q)];exact n) (fun b o hc q=>⟨o,keep b o (fun z=>hc (by simp[z])) (fun z=>hc (by simp[z])) q⟩) (fun b ys q=>by rw[AJ (AY q hTn)];exact q) (fun b o u q=>by rw[AJ (AY q hTn)];exact q)
    (fun b ps q=>⟨#[],by rw[AJ (AY q hTn),q];simp⟩) (fun m hm=>?_) (fun b o q=>?_) I.bare
   .rcases aN.mp hb with rfl|hb
    .exact⟨hE0.2.2.2.1,hE0.2.1,hE0.2.2.2.2.1,hE0.2.2.2.2.2⟩
    .have e2:b=it:=by simpa using hb
     subst e2;exact⟨hI0.2.2.2.1,hI0.2.1,hI0.2.2.2.2.1,hI0.2.2.2.2.2⟩
   .obtain⟨o,es,ep,ho,r⟩:=hm;exact⟨o,es,ep,keep _ o (Ne.symm hE0.2.1) (Ne.symm hI0.2.1) ho,r⟩
   .by_cases hb:b=s.heap.objs.size
    .subst hb;rw[AW]at q;cases q;exact⟨Xm,[.int i tk,y],.cons ⟨tk,rfl⟩ (.cons ru .nil),_,hT'',rfl,_,rfl⟩
    .rw[AJ hb]at q;refine(I.BA b o q).JO (fun c v hc r=>keep c v ?_ ?_ r) (fun c r=>by rw[AJ (AY r hTn)];exact r) fun c ys r=>by rw[AJ (AY r hTn)];exact r
     .rcases hc with rfl|hc
      .exact(F9 _ _ q).1
      .exact(F9 _ _ hc).1
     .rcases hc with rfl|hc
      .exact(F9 _ _ q).2
      .exact(F9 _ _ hc).2
  .obtain⟨⟨o,q,r⟩,_⟩:=hs';exact⟨o,(sb.2 it (Ne.symm hne)).trans q,r⟩
  .rcases aN.mp hb with rfl|hb
   .rw[AJ (Ne.symm hTe)];exact hE0.1
   .have e2:b=it:=by simpa using hb
    subst e2;rw[AJ (Ne.symm hTi)];exact hI0.1
 done:=by
  intro X hP hw hK hc i pins s σ H E I hf st hg;subst hP hw hK;obtain⟨xs,hq,hx⟩:=hg;obtain⟨its,rv,pL,hz⟩:=I.list hq;have p:=pL.isList;obtain⟨⟨old,he⟩,hit⟩:=st;have hai:a≠it:=fun z=>by
   obtain⟨o,e1,c1,_⟩:=p;obtain⟨o2,e2,c2,_⟩:=hit;rw[z,e2]at e1;cases e1;rw[c1]at c2;exact absurd c2 (by decide)
  have hl:its.length=i:=by rw[<-rv.length];exact hx
  subst hl;obtain⟨f0,f1,f2,f3,f4,f5⟩:=hf it (by simp);exact wpAny_pyNext_enum_endD (Draws.list (prog:=X.prog) (w:=X.w) (A:=X.A.in1) (I.ok.hd hc) it a hai its.toArray) he ⟨hit,p⟩ fun h' eb=>⟨rfl,I.turned (t':=s.toks) (fun b o hb q=>eb b o hb q) f0 f1 f3 f4 f5⟩
 self:=fun _ _ _ _ _ st h=>by
  obtain⟨⟨old,he⟩,_⟩:=st;exact wpAny_pyIter_enum he h
def nE(K:Fg)(B:TA):TI:=fun σ H R=>B σ H fun vs g=>∃a,vs=[.ref a]/\(∃xs,Aw K g a xs)/\R (mJ K a) g
def eO{X:Cx}{elts:sL}{x1}{g:Pos}{a:Expr}{Z:TA}{p pos:Pos}(hg:Gl X "enumerate")(hm:X.mg "enumerate" = none)(ha:PA X [a] Z)(hs:starEach [a] X.env=[(false,eval a X.env)]:=by rfl):PI X (.Tuple elts x1 g) (.Call (.Name "enumerate" p) [a] [] pos) (nE X.K Z):=by
 intro pins s σ H R I h;refine Call_ (GV I hg hm boot_enumerate (ah (Bc (ha pos pins s σ H _ I h) fun us s1 ⟨vs,H1,T,r1,q1⟩=>?_) hs rfl));obtain⟨t,e,⟨xs,hq⟩,q⟩:=q1;subst e;cases r1 with
 |cons r rr=>
  cases rr;cases r;obtain⟨U,rv,p',hz⟩:=T.list hq;refine call_enumerate_list (show s1.heap.IsList t U.toArray from p'.isList) fun h' he hit hsz hk=>wpAny_pyIter_enum he ?_;have I2:Inv X pins σ H1 {s1 with heap:=h'}:=T.kept (t':=s1.toks) hk;have hn:s1.heap.objs.size+1≠s1.heap.objs.size:=by lia
  refine⟨s1.heap.objs.size+1,[s1.heap.objs.size+1,s1.heap.objs.size],_,_,H1,rfl,I2,Yx t _ _ hn,⟨⟨_,he⟩,hit⟩,fun b hb=>?_,q⟩;have B:s1.heap.objs.size<=b:=by
   have Y:b=s1.heap.objs.size+1\/b=s1.heap.objs.size:=by simpa using hb
   rcases Y with z|z
   .rw[z];exact Nat.le_succ _
   .rw[z];exact aG _
  exact T.Qj B (T.BA.fresh B)
def jx(i:Expr):Prop:=∀g B,subscripted i false g B=operate [g,B] (getItem g B)
def ij{prog:Program}{w:World}{A:Around}{E:sC}{s:SD}{env:Env}{value slice:Expr}{pos:Pos}{T id:String}{Q:sC} (hl:typeLookup (.type T) "__getitem__" = pure (some (.builtin id)))(hs:jx slice) (h:wpAny (model prog w) A (eval value env) (fun o Y=>wpAny (model prog w) A (eval slice env) (fun i g=>g.TypeIs o T/\wpAny (model prog w) A (getItem o i) Q E g) E Y) E s):wpAny (model prog w) A (eval (.Subscript value slice pos) env) Q E s:=by
 refine Subscript_ (ao h (fun o Y h₁=>ao h₁ (fun i g B=>?_) fun _ _ x=>x) fun _ _ x=>x);obtain⟨hT,B⟩:=B;unfold subscriptTail;refine Wb ?_;rw[getitemInPython_of_ne hT.not_modules];refine Wb (bS hT hl ?_);have fin:wpAny (model prog w) A (subscripted slice false o i) (fun r U=>wpAny (model prog w) A (letTemporaryGo value o r>>=fun _=>pure r) Q E U) E g:=by
  rw[hs o i];exact wpAny_operating (ao B (fun r U Z=>Wb (wpAny_letTemporaryGo (aA Z))) fun _ _ x=>x)
 first
  |exact aA (Wb fin)
  |exact Wb (aA (Wb fin))
  |exact Wb fin
end L2
namespace L2
open PySem PySem.Spec PyProof.Rows
def Inv.many{X:Cx}{pins:List (AD×Obj)}{σ:St}{H H':Hp}{s:SD}{h':Heap}{t':Nat}(I:Inv X pins σ H s)(k:∀b u,s.heap.get? b=some u->h'.get? b=some u)(g:∀b,b<s.heap.objs.size->H' b=H b)(BA:Fq X.prog X.w H' h'):Inv X pins σ H' {s with heap:=h',toks:=t'}:=by
 have lt:∀b o,H b=some o->b<s.heap.objs.size:=fun b o e=>(I.BA b o e).lt;have up:∀b o,H b=some o->H' b=some o:=fun b o e=>by rw[g b (lt b o e)];exact e
 show Inv X pins σ H' {s with heap:=h',gens:=s.gens,drawn:=s.drawn,toks:=t'};refine I.step (h':=h') (ch:=[]) (fun b T=>nomatch T) (fun b o _ _ _ e _=>k b o e) (fun b o _ _ _ e _=>⟨o.slots,k b o e⟩) (fun b o _ e n=>by rw[g b (aF e)];exact n) (fun b o _ e=>⟨o,k b o e⟩)
  (fun b xs e=>up b _ e) (fun b o u e=>up b _ e) (fun b ps e=>⟨#[],by rw[up b _ e];simp⟩) (fun m hm=>?_) BA I.bare
 obtain⟨o,es,ep,B,r⟩:=hm;exact⟨o,es,ep,k _ o B,r⟩
def Tt:∀as:List AD,Vals (as.map V.ref) (as.map Value.ref)
 |[]=>.nil
 |a::as=>.cons rfl (Tt as)
end L2
namespace TH
open PySem PyProof.Rows PySem.SeqAt
def KZ:Tr->List Int
 |.nil=>[]
 |.cons b r=>reduceHash (Builtin.Tuple.tupleHashOf (KZ b))::KZ r
def Ba(t:Tr):Int:=reduceHash (Builtin.Tuple.tupleHashOf (KZ t))
section
variable{prog:Program}{w:World}{E:sC}
def IsTuple.ty{h:Heap}{a:AD}{x:Array VL}{s:SD}(e:s.heap=h)(k:h.IsTuple a x):s.TypeIs (.ref a) "tuple" := by
 subst e;obtain⟨o,g,B,_⟩:=k;exact⟨o,g,B⟩
def Xk(prog:Program)(w:World)(E:sC)(t:Tr):Prop:=∀(us:List VL) (A:Around) (s:SD) (b:Array Int) (Q:Array Int->SD->Prop),Vs s.heap t us->A.units+t.deep<=cLine ->
 (∀B g,g.toList=b.toList++KZ t->Q g {s with toks:=B})->wpAny (model prog w) A (forIn us b fun x r=>do let h <-pyHash x;pure PUnit.unit;pure (ForInStep.yield (r.push h))) Q E s
def QB{t:Tr}(row:Xk prog w E t){a:AD}{g:rz}{A:Around}{s:SD}{Q:Int->SD->Prop}(U:s.heap.IsTuple a g.toArray)(h2:Vs s.heap t g)(hu:A.units+t.deep<cLine) (h:∀B,Q (Ba t) {s with toks:=B}):wpAny (model prog w) A (pyHash (.ref a)) Q E s:=by
 have hT:=IsTuple.ty rfl U;obtain⟨o,Y,hc,n,hd⟩:=id U;refine PySem.W.pyHash_slot (T := "tuple") hT F.slot_tuple_hash F.entry_tuple_hash (F.args_tuple_hash_1 _) (beq_builtin_none _) (.inr (by lia)) ?_;show wpAny _ _ (Builtin.Tuple.tupleItemsOf (.ref a)>>=_) _ _ s;refine Wb (wpAny_tupleItemsOf Y hd ?_);refine Wb ?_;rw[<-Array.forIn_toList];refine row g A.in1 s #[] _ h2 (by rw[Around.in1_units];lia) fun B b Z=>?_;show wpAny _ _ (retInt (Builtin.Tuple.tupleHashOf b.toList)) _ _ _;rw[Z];exact Wb (wpAny_mkInt (aA ⟨_,_,rfl,h _⟩))
def QD:∀t:Tr,Xk prog w E t
 |.nil=>fun us A s b Q e _ h=>by rw[Vs]at e;subst e;exact aA (h s.toks b (by simp[KZ]))
 |.cons c r=>fun us A s b Q e hu h=>by
  rw[Vs]at e;obtain⟨a,B,rest,rfl,Z,Y,U⟩:=e;have hd:(Tr.cons c r).deep=max (c.deep+1) r.deep:=rfl;rw[List.forIn_cons];refine Wb (Wb (QB (QD c) Z Y (by lia) fun tk=>?_));refine Wb (aA (aA ?_));exact QD r rest A _ _ Q U (by lia) fun g b' T=>h g b' (by simp[T,KZ,Ba])
def gL{t:Tr}{a:AD}{g:rz}{A:Around}{s:SD}{Q:Int->SD->Prop}(Y:s.heap.IsTuple a g.toArray)(U:Vs s.heap t g)(T:A.units+t.deep<cLine) (h:∀B,Q (Ba t) {s with toks:=B}):wpAny (model prog w) A (pyHash (.ref a)) Q E s:=QB (QD t) Y U T h
def Good(h:Heap)(n:Nat)(v:VL):Prop:=∃a g t,v=.ref a/\h.IsTuple a g.toArray/\Vs h t g/\t.deep<n
def NR{h:Heap}:∀ {t:Tr} {us:List VL} {n:Nat},Vs h t us->t.deep<=n->∀v∈us,Good h n v
 |.nil,us,n,e,_,v,g=>by rw[Vs]at e;subst e;cases g
 |.cons c r,us,n,e,hd,v,g=>by
  rw[Vs]at e;obtain⟨a,B,rest,rfl,Y,U,T⟩:=e;rw[Tr.deep]at hd;rcases aN.mp g with rfl|g
  .exact⟨a,B,c,rfl,Y,U,by lia⟩
  .exact NR T (by lia) v g
def Us:∀(n:Nat) {v:VL} {A:Around} {s:SD} {Q:Bool->SD->Prop},Good s.heap n v->Q true s->wpAny (model prog w) A (hashByValue n v) Q E s
 |0,v,A,s,Q,⟨_,_,_,_,_,_,z⟩,_=>absurd z (ae _)
 |n+1,v,A,s,Q,⟨a,T,t,e,h1,h2,hd⟩,h=>by
  subst e;have hT:=IsTuple.ty rfl h1;obtain⟨o,ho,hc,k,Z⟩:=id h1;unfold hashByValue;refine Wb (bS hT F.slot_tuple_hash.lookup ?_);refine Wb (aT ho Z ?_);refine Wb ?_;show wpAny _ _ (forIn T.toArray _ _) _ _ s;rw[<-Array.forIn_toList];refine wpAny_forIn_list _ (fun rest r B=>r.1=none/\B=s/\∀v∈rest,Good s.heap n v) _ ?_ ?_ _ _ ⟨rfl,rfl,NR h2 (by lia)⟩
  .rintro v rest r B ⟨Y,rfl,g⟩;refine Wb (Us n (g v aZ) ?_);simp only[Bool.not_true,Bool.false_eq_true,if_false];exact aA ⟨rfl,rfl,fun u U=>g u (aU _ U)⟩
  .rintro⟨r1,r2⟩ B ⟨Y,rfl,_⟩;simp only at Y;subst Y;exact aA h
def quiet:∀(n:Nat) {v:VL} {A:Around} {s:SD} {Q:Bool->SD->Prop},Good s.heap n v->Q true s->wpAny (model prog w) A (eqIsQuiet n v) Q E s
 |0,v,A,s,Q,⟨_,_,_,_,_,_,z⟩,_=>absurd z (ae _)
 |n+1,v,A,s,Q,⟨a,T,t,e,h1,h2,hd⟩,h=>by
  subst e;have hT:=IsTuple.ty rfl h1;obtain⟨o,ho,hc,k,Z⟩:=id h1;unfold eqIsQuiet;refine Wb (bS hT F.slot_tuple_eq.lookup ?_);show wpAny _ _ (isInstance (.ref a) (.type "tuple")>>=_) _ _ s;refine Wb (wpAny_isInstance hT isSubtype_tuple_tuple ?_);simp only[Bool.not_true,Bool.false_eq_true,if_false];refine Wb (aT ho Z ?_);refine Wb ?_;show wpAny _ _ (forIn T.toArray _ _) _ _ s;rw[<-Array.forIn_toList];refine wpAny_forIn_list _ (fun rest r B=>r.1=none/\B=s/\∀v∈rest,Good s.heap n v) _ ?_ ?_ _ _ ⟨rfl,rfl,NR h2 (by lia)⟩
  .rintro v rest r B ⟨Y,rfl,g⟩;refine Wb (quiet n (g v aZ) ?_);simp only[Bool.not_true,Bool.false_eq_true,if_false];exact aA ⟨rfl,rfl,fun u U=>g u (aU _ U)⟩
  .rintro⟨r1,r2⟩ B ⟨Y,rfl,_⟩;simp only at Y;subst Y;exact aA h
def Qb:∀(n:Nat) {v:VL} {A:Around} {s:SD} {Q:Bool->SD->Prop},Good s.heap n v->Q false s->wpAny (model prog w) A (ofAClassStatement n v) Q E s
 |0,v,A,s,Q,⟨_,_,_,_,_,_,z⟩,_=>absurd z (ae _)
 |n+1,v,A,s,Q,⟨a,its,t,e,Z,h2,hd⟩,h=>by
  subst e;have hT:=IsTuple.ty rfl Z;obtain⟨o,ho,hc,k,Y⟩:=id Z;unfold ofAClassStatement;refine Wb (wpAny_typeOf hT ?_);have ht:("tuple" == "tuple")=true:=by rfl
  dsimp only;rw[if_pos ht];refine Wb (aA ?_);simp only[Bool.not_true,Bool.false_eq_true,if_false];refine Wb (aT ho Y ?_);refine Wb ?_;rw[<-Array.forIn_toList];refine wpAny_forIn_list _ (fun rest r B=>r.1=none/\B=s/\∀v∈rest,Good s.heap n v) _ ?_ ?_ _ _ ⟨rfl,rfl,NR h2 (by lia)⟩
  .rintro v rest r B ⟨U,rfl,g⟩;refine Wb (Qb n (g v aZ) ?_);simp only[Bool.false_eq_true,if_false];exact aA ⟨rfl,rfl,fun u T=>g u (aU _ T)⟩
  .rintro⟨r1,r2⟩ B ⟨U,rfl,_⟩;simp only at U;subst U;exact aA h
def dW{x:VL}{l:rz}{A:Around}{s:SD}{Q:Bool->SD->Prop}(hx:Good s.heap 8 x)(hl:∀y∈l,Good s.heap 8 y)(h:Q false s):wpAny (model prog w) A (searchCouldBeSeen x l) Q E s:=by
  unfold searchCouldBeSeen
  refine Wb ?_
  refine wpAny_forIn_list _ (fun rest r s'=>r.1=none/\s'=s/\∀v∈rest,Good s.heap 8 v) _ ?_ ?_ _ _ ⟨rfl,rfl,hl⟩
  . rintro v rest r s' ⟨hr,rfl,hall⟩
    have go:∀b:Bool,wpAny (model prog w) A (if b=true then pure (ForInStep.yield (none,())) else do
        let q <-eqIsQuiet 8 x
        if(!q)=true then pure (ForInStep.done (some true,())) else do
          let q <-eqIsQuiet 8 v
          if(!q)=true then pure (ForInStep.done (some true,())) else do
            let q <-ofAClassStatement 8 x
            if q=true then pure (ForInStep.done (some true,())) else do
              let q <-ofAClassStatement 8 v
              if q=true then pure (ForInStep.done (some true,())) else pure (ForInStep.yield (none,())))
        (fun st s''=>match st with
          |ForInStep.yield r=>r.1=none/\s''=s'/\∀v∈rest,Good s'.heap 8 v
          |ForInStep.done r=>False) E s':=fun b=>by
      cases b with
      |true=>rw[if_pos rfl];exact aA ⟨rfl,rfl,fun u hu'=>hall u (aU _ hu')⟩
      |false=>
        rw[if_neg aO]
        refine Wb (quiet 8 hx ?_)
        simp only[Bool.not_true,Bool.false_eq_true,if_false]
        refine Wb (quiet 8 (hall v aZ) ?_)
        simp only[Bool.not_true,Bool.false_eq_true,if_false]
        refine Wb (Qb 8 hx ?_)
        simp only[Bool.false_eq_true,if_false]
        refine Wb (Qb 8 (hall v aZ) ?_)
        simp only[Bool.false_eq_true,if_false]
        exact aA ⟨rfl,rfl,fun u hu'=>hall u (aU _ hu')⟩
    refine ao (go _) (fun st s'' z=>?_) fun _ _ z=>z
    cases st with
    |yield r=>exact z
    |done r=>exact z.elim
  . rintro⟨r1,r2⟩ s' ⟨hr,rfl,_⟩
    simp only at hr
    subst hr
    exact aA h
end
end TH
namespace TH
open PySem PyProof.Rows PySem.SeqAt
abbrev ES:=Array (Int×Tr)
def Pc(g:ES)(i:Nat):Int:=(g[i]?.map (·.1)).getD 0
def Y6(g:ES)(t:SetTable)(x:Tr)(h:Int):Option (Option Nat) :=
 if t.gaveWay then none else
 match t.probe (Pc g) h (t.probeStart h) with
 |some (.empty j none)=>some (some j)
 |some (.candidate _ i _)=>match g[i]? with
  |some (_,y)=>if y=x then some none else none
  |none=>none
 |_=>none
def IZ(st:ES×SetTable)(x:Tr):Option (ES×SetTable) :=
 if(st.2.fits st.1.size&&decide (st.1.size<=1000)&&st.2.plain)=false then none else
 match Y6 st.1 st.2 x (Ba x) with
 |none=>none
 |some none=>some st
 |some (some slot)=>
  if(st.2.put slot).1.tooFull=false then some (SetTable.insertAt st.1 (st.2.put slot).2 (Ba x,x),(st.2.put slot).1) else
  if((st.2.put slot).1.fits (SetTable.insertAt st.1 (st.2.put slot).2 (Ba x,x)).size&&decide (SetTable.sizeAbove (SetTable.grown (st.1.size+1))<=100000))=false then none else
  match (st.2.put slot).1.relaid ((SetTable.insertAt st.1 (st.2.put slot).2 (Ba x,x)).map (·.1)) (SetTable.grown (st.1.size+1)) with
  |none=>none
  |some (g,order)=>
   if(order.filterMap ((SetTable.insertAt st.1 (st.2.put slot).2 (Ba x,x))[·]?)).size=(SetTable.insertAt st.1 (st.2.put slot).2 (Ba x,x)).size then
    some (order.filterMap ((SetTable.insertAt st.1 (st.2.put slot).2 (Ba x,x))[·]?),g) else none
def QE(G:VL->Tr->Prop)(h:Heap)(p:Int×VL)(q:Int×Tr):Prop:=p.1=q.1/\q.2.deep<8/\G p.2 q.2/\∃a g,p.2=.ref a/\h.IsTuple a g.toArray/\Vs h q.2 g
abbrev Ed(G:VL->Tr->Prop)(h:Heap)(ev:Array (Int×VL))(g:ES):Prop:=Paired (QE G h) ev.toList g.toList
variable{G:VL->Tr->Prop}
section
variable{α β:Type}{F:α->β->Prop}
def Paired.get:∀ {l:List α} {m:List β},Paired F l m->∀ {i:Nat} {y:β},m[i]? = some y->∃x,l[i]? = some x/\F x y
 |_,_,.nil,i,y,h=>by simp at h
 |_,_,.cons g r,0,y,h=>by simp at h;subst h;exact⟨_,rfl,g⟩
 |_,_,.cons g r,i+1,y,h=>Paired.get r (by simpa using h)
def Paired.none:∀ {l:List α} {m:List β},Paired F l m->∀ {i:Nat},m[i]? = Option.none->l[i]? = Option.none:=fun {l m} r i h=>by
 have:=r.length;rw[List.getElem?_eq_none_iff]at h ⊢
 lia
def Paired.app{B:List α}{g:List β}(k:Paired F B g):∀ {l:List α} {m:List β},Paired F l m->Paired F (l++B) (m++g)
 |_,_,.nil=>k
 |_,_,.cons h r=>.cons h (Paired.app k r)
def Paired.take:∀ {l:List α} {m:List β} (n:Nat),Paired F l m->Paired F (l.take n) (m.take n)
 |_,_,0,_=>by simpa using Paired.nil
 |_,_,n+1,.nil=>by simpa using Paired.nil
 |_,_,n+1,.cons h r=>.cons h (Paired.take n r)
def Paired.drop:∀ {l:List α} {m:List β} (n:Nat),Paired F l m->Paired F (l.drop n) (m.drop n)
 |_,_,0,h=>h
 |_,_,n+1,.nil=>by simpa using Paired.nil
 |_,_,n+1,.cons h r=>Paired.drop n r
def Paired.pick{l:List α}{m:List β}(r:Paired F l m):∀(o:List Nat),Paired F (o.filterMap (l[·]?)) (o.filterMap (m[·]?))
 |[]=>.nil
 |i::o=>by
  rw[List.filterMap_cons,List.filterMap_cons];cases e:m[i]? with
  |none=>rw[Paired.none r e];exact Paired.pick r o
  |some y=>
   obtain⟨x,g,h⟩:=Paired.get r e;rw[g];exact .cons h (Paired.pick r o)
def Paired.imp{G:α->β->Prop}(h:∀a b,F a b->G a b):∀ {l:List α} {m:List β},Paired F l m->Paired G l m
 |_,_,.nil=>.nil
 |_,_,.cons k r=>.cons (h _ _ k) (Paired.imp h r)
end
def J8{α:Type}(xs:Array α)(p:Nat)(x:α):(SetTable.insertAt xs p x).toList=xs.toList.take p++x::xs.toList.drop p:=by
 unfold SetTable.insertAt;simp[List.extract];rw[List.take_of_length_le (by simp)]
def Ed.fst{h:Heap}{ev:Array (Int×VL)}{g:ES}(r:Ed G h ev g):ev.map (·.1)=g.map (·.1):=by
 have key:∀ {l:List (Int×VL)} {m:List (Int×Tr)},Paired (QE G h) l m->l.map (·.1)=m.map (·.1):=fun r=>by
  induction r with
  |nil=>rfl
  |cons k _ B=>rw[List.map_cons,List.map_cons,B,k.1]
 apply Array.toList_inj.mp
 simpa using key r
def Ed.size{h:Heap}{ev:Array (Int×VL)}{g:ES}(r:Ed G h ev g):ev.size=g.size:=by simpa using Paired.length r
def Ed.Pc{h:Heap}{ev:Array (Int×VL)}{g:ES}(r:Ed G h ev g)(i:Nat):(ev[i]?.map (·.1)).getD 0=Pc g i:=by
 have:=bL (fun a:Array Int=>a[i]?) r.fst;simp only[Array.getElem?_map]at this;rw[TH.Pc,this]
def Ed.good{h:Heap}{ev:Array (Int×VL)}{Z:ES}(r:Ed G h ev Z):∀p∈ev.toList,Good h 8 p.2:=by
 have key:∀ {l:List (Int×VL)} {m:List (Int×Tr)},Paired (QE G h) l m->∀p∈l,Good h 8 p.2:=fun r=>by
  induction r with
  |nil=>intro p g;cases g
  |cons k _ T=>
   intro p g;rcases aN.mp g with rfl|g
   .obtain⟨_,hd,_,a,B,e,Y,U⟩:=k;exact⟨a,B,_,e,Y,U,hd⟩
   .exact T p g
 exact key r
def Ed.at{h:Heap}{ev:Array (Int×VL)}{U:ES}(r:Ed G h ev U){i:Nat}{z:Int}{y:Tr}(e:U[i]? = some (z,y)):∃a g,ev[i]? = some (z,.ref a)/\h.IsTuple a g.toArray/\Vs h y g/\y.deep<8:=by
 obtain⟨⟨Y,v⟩,h1,B,hd,_,a,g,T,h3,Z⟩:=Paired.get r (by simpa using e);have B:Y=z:=B;have T:v=.ref a:=T;subst B T;exact⟨a,g,by simpa using h1,h3,Z,hd⟩
def Ed.keeps{h h':Heap}{ev:Array (Int×VL)}{U:ES}(k:∀b o,h.get? b=some o->o.cls=.type "tuple" -> h'.get? b=some o)(r:Ed G h ev U):Ed G h' ev U :=
 Paired.imp (fun p q ⟨e,hd,Z,a,g,e2,h1,h2⟩=>⟨e,hd,Z,a,g,e2,(by obtain⟨o,Y,T,n,B⟩:=h1;exact⟨o,k _ _ Y T,T,n,B⟩),h2.keeps k⟩) r
section
variable{prog:Program}{w:World}{E:sC}{A:Around}{s:SD}{a xa:AD}{o:Obj}{ev:Array (Int×VL)}{et:ES}{ep:Nat}{t:SetTable}{x:Tr}{its:rz}{h:Int}
def ZJ{r:Option Nat}{Q:SetFound->SD->Prop}(ho:s.heap.get? a=some o)(hd:o.data=.set ev ep t)(hf:t.fits et.size=true)(R:Ed G s.heap ev et)(T:s.heap.IsTuple xa its.toArray)(B:Vs s.heap x its)(hxd:x.deep<8) (hu:A.units+8<cLine)(g:Y6 et t x h=some r)(h0:r=none->Q (.there none) s)(h1:∀j,r=some j->Q (.free j false) s):wpAny (model prog w) A (setSearch a (.ref xa) h true) Q E s:=by
 have U:t.fits ev.size=true:=by rw[R.size];exact hf
 unfold Y6 at g;by_cases hg:t.gaveWay=true
 .rw[if_pos hg]at g;cases g
 rw[if_neg hg]at g;unfold setSearch;rw[show(100000:Nat)=99999+1 from rfl,setSearchFrom];refine Wb (bH ho hd U ?_);dsimp only;rw[if_neg hg];have hpr:∀f:Nat->Int,(∀i,f i=Pc et i)->t.probe f h ((none:Option SetTable.Probe).getD (t.probeStart h))=t.probe (Pc et) h (t.probeStart h):=fun f hf=>by
  rw[show f=Pc et from funext hf];rfl
 generalize Y:t.probe _ h ((none:Option SetTable.Probe).getD (t.probeStart h))=pr;have Z:pr=t.probe (Pc et) h (t.probeStart h):=Y.symm.trans (hpr _ fun i=>R.Pc i);clear Y hpr;subst Z;cases hp:t.probe (Pc et) h (t.probeStart h) with
 |none=>rw[hp]at g;cases g
 |some met=>
  rw[hp]at g;cases met with
  |empty j dummy=>
   cases dummy with
   |none=>cases g;exact aA (h1 j rfl)
   |some d=>cases g
  |candidate j i next=>
   cases he:et[i]? with
   |none=>simp only[he]at g;cases g
   |some zy=>
    obtain⟨z,y⟩:=zy;simp only[he]at g;by_cases hy:y=x
    .rw[if_pos hy]at g;cases g;subst hy;obtain⟨b,its2,e1,e2,e3,e4⟩:=R.at he;cases hl:t.led with
     |true=>
      simp only[Bool.not_true,Bool.false_eq_true,if_false];rw[e1];refine Wb (aS (Qo e2 e3 T B (by lia) prog w E _ ?_));rw[decide_eq_true rfl];refine Wb (bH ho hd U ?_);exact aA (h0 rfl)
     |false=>
      simp only[Bool.not_false,if_true];refine Wb (dW ⟨xa,its,_,rfl,T,B,hxd⟩ (fun v hv=>?_) ?_)
      .obtain⟨p,hp1,rfl⟩:=aR.mp hv;exact R.good p (Array.mem_toList_iff.mpr (Array.mem_filter.mp (Array.mem_toList_iff.mp hp1)).1)
      simp only[Bool.false_eq_true,if_false];rw[e1];refine Wb (aS (Qo e2 e3 T B (by lia) prog w E _ ?_));rw[decide_eq_true rfl];refine Wb (bH ho hd U ?_);exact aA (h0 rfl)
    .rw[if_neg hy]at g;cases g
def IT{n:Nat}(h:n<=100000):n<=sizeLine:=aQ h (by rw[sizeLine_eq];decide)
def Xg{B:Heap}(T:B.get? a=some o)(hd:o.data=.set ev ep t)(g:Array (Int×VL))(t':SetTable):(B.update a (Obj.putSet g t')).get? a=some {o with data:=.set g (ep+1) t'}:=by
 have:=bM (Obj.putSet g t') T (by rw[putSet_of g t' hd];rfl);rw[putSet_of g t' hd]at this;exact this
def U7{B:Heap}(U:B.get? a=some o)(Y:o.cls=.type "set")(g:Obj->Obj):∀b u,B.get? b=some u->u.cls=.type "tuple" ->(B.update a g).get? b=some u:=fun b u q T=>by
 have:a≠b:=fun z=>by
  subst z;rw[U]at q;cases q;rw[Y]at T
  injection T with z
  exact absurd z (by decide)
 rw[Heap.get?_update_other _ _ this];exact q
def lH{et' : ES}{t' : SetTable}{Q : Bool->SD->Prop}(ho : s.heap.get? a = some o)(hc : o.cls = .type "set")(hd : o.data = .set ev ep t)(R : Ed G s.heap ev et)(hx1 : s.heap.IsTuple xa its.toArray)(hx2 : Vs s.heap x its)(hxd : x.deep < 8)(hxg : G (.ref xa) x) (hu : A.units + 8 < cLine)(hs : IZ (et,t) x = some (et',t')) (k : ∀ (b : Bool) (h' : Heap) (tk : Nat) (ev' : Array (Int×VL)) (ep' : Nat),Heap.SameBut a s.heap h'->h'.get? a = some { o with data:=.set ev' ep' t' }->Ed G h' ev' et'->Q b { s with heap:=h',toks:=tk }):wpAny (model prog w) A (setAdd a (.ref xa)) Q E s:=by
  unfold setAdd
  refine aS (Wb (gL hx1 hx2 (by lia) fun tk => ?_))
  unfold setAddHashed
  refine aS ?_
  unfold IZ at hs
  by_cases h1 : (t.fits et.size && decide (et.size<=1000) && t.plain) = false
  . rw [if_pos h1] at hs; cases hs
  rw [if_neg h1] at hs
  simp only [Bool.not_eq_false,Bool.and_eq_true,decide_eq_true_eq] at h1
  obtain ⟨⟨hf,hz⟩,hpl⟩:=h1
  have hf' : t.fits ev.size = true:=by rw [R.size]; exact hf
  cases hsr : Y6 et t x (Ba x) with
  | none => simp only [hsr] at hs; cases hs
  | some r=>
    simp only [hsr] at hs
    rw [show (100000 : Nat) = 99999 + 1 from rfl,setAddHashedIn]
    refine Wb (bH (s:={ s with toks:=tk }) ho hd hf' ?_)
    dsimp only
    have hbs : byScan (.ref xa) ev = false:=rfl
    rw [hbs,if_neg aO]
    refine Wb (ZJ (s:={ s with toks:=tk }) ho hd hf R hx1 hx2 hxd hu hsr (fun hr => ?_) fun j hr => ?_)
    . subst hr
      cases hs
      exact aA (k _ s.heap tk ev ep (Heap.SameBut.refl ..) (by rw [ho,<- hd]) R)
    . subst hr
      dsimp only at hs ⊢
      refine Wb (bH (s:={ s with toks:=tk }) ho hd hf' ?_)
      dsimp only
      have hpl2 : (t.put j).1.plain = true:=hpl
      rw [if_pos hpl2]
      refine Wb (Us 8 (s:={ s with toks:=tk }) ⟨xa,its,x,rfl,hx1,hx2,hxd⟩ ?_)
      simp only [if_true]
      have R1 : Ed G s.heap (SetTable.insertAt ev (t.put j).2 (Ba x,.ref xa)) (SetTable.insertAt et (t.put j).2 (Ba x,x)):=by
        unfold Ed
        rw [J8,J8]
        exact Paired.app (.cons ⟨rfl,hxd,hxg,xa,its,rfl,hx1,hx2⟩ (Paired.drop _ R)) (Paired.take _ R)
      have hz1 : (SetTable.insertAt ev (t.put j).2 (Ba x,Value.ref xa)).size<=1001:=by
        have h2:=bL List.length (J8 ev (t.put j).2 (Ba x,Value.ref xa))
        simp only [Array.length_toList,List.length_append,List.length_take,List.length_cons,List.length_drop] at h2
        have:=R.size
        lia
      have hz2 : (SetTable.insertAt et (t.put j).2 (Ba x,x)).size = (SetTable.insertAt ev (t.put j).2 (Ba x,Value.ref xa)).size:=R1.size.symm
      refine Wb (wpAny_storeSet_of (s:={ s with toks:=tk }) ho hd ?_ (IT (by lia)))
      have g1:=Xg ho hd (SetTable.insertAt ev (t.put j).2 (Ba x,.ref xa)) (t.put j).1
      have k1:=U7 ho hc (Obj.putSet (SetTable.insertAt ev (t.put j).2 (Ba x,.ref xa)) (t.put j).1)
      have sb1:=ab s.heap a (Obj.putSet (SetTable.insertAt ev (t.put j).2 (Ba x,.ref xa)) (t.put j).1)
      by_cases hfull : (t.put j).1.tooFull = false
      . rw [if_pos hfull] at hs
        cases hs
        rw [hfull]
        simp only [Bool.and_false,Bool.false_eq_true,if_false]
        exact aA (k _ _ tk _ _ sb1 g1 (R1.keeps k1))
      . rw [if_neg hfull] at hs
        have hfull : (t.put j).1.tooFull = true:=by simpa using hfull
        rw [hfull]
        simp only [Bool.not_false,Bool.and_true,if_true]
        by_cases h2 : ((t.put j).1.fits (SetTable.insertAt et (t.put j).2 (Ba x,x)).size && decide (SetTable.sizeAbove (SetTable.grown (et.size + 1))<=100000)) = false
        . rw [if_pos h2] at hs; cases hs
        rw [if_neg h2] at hs
        simp only [Bool.not_eq_false,Bool.and_eq_true,decide_eq_true_eq] at h2
        obtain ⟨hfit,hsa⟩:=h2
        cases hrl : (t.put j).1.relaid ((SetTable.insertAt et (t.put j).2 (Ba x,x)).map (·.1)) (SetTable.grown (et.size + 1)) with
        | none => simp only [hrl] at hs; cases hs
        | some to=>
          obtain ⟨t2,order⟩:=to
          simp only [hrl] at hs
          by_cases h3 : (order.filterMap ((SetTable.insertAt et (t.put j).2 (Ba x,x))[·]?)).size = (SetTable.insertAt et (t.put j).2 (Ba x,x)).size
          . rw [if_pos h3] at hs
            cases hs
            have R2 : Ed G s.heap (order.filterMap ((SetTable.insertAt ev (t.put j).2 (Ba x,Value.ref xa))[·]?)) (order.filterMap ((SetTable.insertAt et (t.put j).2 (Ba x,x))[·]?)):=by
              unfold Ed
              have:=Paired.pick R1 order.toList
              simpa using this
            have g2:=Xg g1 rfl (order.filterMap ((SetTable.insertAt ev (t.put j).2 (Ba x,Value.ref xa))[·]?)) t'
            have k2:=U7 g1 hc (Obj.putSet (order.filterMap ((SetTable.insertAt ev (t.put j).2 (Ba x,Value.ref xa))[·]?)) t')
            have sb2:=ab (s.heap.update a (Obj.putSet (SetTable.insertAt ev (t.put j).2 (Ba x,.ref xa)) (t.put j).1)) a (Obj.putSet (order.filterMap ((SetTable.insertAt ev (t.put j).2 (Ba x,Value.ref xa))[·]?)) t')
            refine Wb ?_
            unfold setRelay
            refine Wb (bH g1 rfl (by rw [<- hz2]; exact hfit) ?_)
            dsimp only
            rw [R.size,if_neg (Nat.not_lt.mpr (IT hsa))]
            refine Wb ?_
            rw [R1.fst,hrl]
            have hsz : (order.filterMap ((SetTable.insertAt ev (t.put j).2 (Ba x,Value.ref xa))[·]?)).size = (SetTable.insertAt ev (t.put j).2 (Ba x,Value.ref xa)).size:=by rw [R2.size,h3,hz2]
            have hne : ¬ ((order.filterMap ((SetTable.insertAt ev (t.put j).2 (Ba x,Value.ref xa))[·]?)).size != (SetTable.insertAt ev (t.put j).2 (Ba x,Value.ref xa)).size) = true:=by simp [hsz]
            show wpAny _ _ (do if (order.filterMap ((SetTable.insertAt ev (t.put j).2 (Ba x,Value.ref xa))[·]?)).size != (SetTable.insertAt ev (t.put j).2 (Ba x,Value.ref xa)).size then unsupported "internal:set-table-lost-an-element"
                               pure (order.filterMap ((SetTable.insertAt ev (t.put j).2 (Ba x,Value.ref xa))[·]?),t')) _ _ _
            rw [if_neg hne]
            refine aA ?_
            refine wpAny_storeSet_of g1 rfl ?_ (IT (by rw [hsz]; lia))
            exact aA (k _ _ tk _ _ (sb1.trans sb2) g2 ((R2.keeps k1).keeps k2))
          . rw [if_neg h3] at hs; cases hs
end
end TH
namespace TH
open PySem
def grow:List Tr->Tr->List Tr
 |_,.nil=>[]
 |pre,.cons b r=>((Tr.of (Tr.C5 (b.bs++[.nil]))::grow [] b).map fun g=>Tr.of (Tr.C5 (pre++g::r.bs)))++grow (pre++[b]) r
def qz(t:Tr):sR:=Tr.of (Tr.C5 (t.bs++[.nil]))::grow [] t
def ups(l:sR):sR:=l.flatMap qz
def Ox(st:ES×SetTable):List Tr->Option (ES×SetTable)
 |[]=>some st
 |x::r=>(IZ st x).bind fun g=>Ox g r
def Me(led:Bool):ES×SetTable:=(#[],.fresh 0 0 led)
def RY(st:ES×SetTable):sR:=st.1.toList.map (·.2)
def tz:Nat->List Tr
 |0=>[.nil]
 |n+1=>(Tr.C5 ((ups (tz n)).eraseDups)).reverse
end TH
namespace TH
open PySem PyProof.Rows PySem.SeqAt
def UR(G:VL->Tr->Prop)(h:Heap)(v:VL)(x:Tr):Prop:=x.deep<8/\G v x/\∃a g,v=.ref a/\h.IsTuple a g.toArray/\Vs h x g
abbrev Kh(G:VL->Tr->Prop)(h:Heap)(vs:List VL)(xs:List Tr):Prop:=Paired (UR G h) vs xs
variable{G:VL->Tr->Prop}
def UR.keeps{h h':Heap}(k:∀b o,h.get? b=some o->o.cls=.type "tuple" -> h'.get? b=some o){v:VL}{x:Tr}(r:UR G h v x):UR G h' v x:=by
 obtain⟨hd,Y,a,g,e,h1,Z⟩:=r;exact⟨hd,Y,a,g,e,(by obtain⟨o,U,T,n,B⟩:=h1;exact⟨o,k _ _ U T,T,n,B⟩),Z.keeps k⟩
def Kh.keeps{h h':Heap}(k:∀b o,h.get? b=some o->o.cls=.type "tuple" -> h'.get? b=some o){vs:rz}{xs:sR}(r:Kh G h vs xs):Kh G h' vs xs:=Paired.imp (fun _ _ z=>z.keeps k) r
def M9(G:VL->Tr->Prop)(h:Heap)(S:AD)(st:ES×SetTable):Prop:=∃o ev ep,h.get? S=some o/\o.ExactSet/\o.data=.set ev ep st.2/\Ed G h ev st.1
def M9.keeps{h h':Heap}{S:AD}{st:ES×SetTable}(x:M9 G h S st)(g:∀o,h.get? S=some o->h'.get? S=some o)(k:∀b o,h.get? b=some o->o.cls=.type "tuple" -> h'.get? b=some o):M9 G h' S st:=by
 obtain⟨o,ev,ep,Y,U,T,B⟩:=x;exact⟨o,ev,ep,g _ Y,U,T,B.keeps k⟩
section
variable{prog:Program}{w:World}{A:Around}{R:Result->SD->Prop}{I S:AD}{fp wr:sS}{St:Nat->Heap->Prop}{items:Array VL}{xs:sR}{st':ES×SetTable}
def iB(W:Walks prog w A.in1 I fp wr items.size (fun i v=>items[i]? = some v) St)(hSf:S ∉ fp)(hcl:∀i h b o,St i h->b∈wr->h.get? b=some o->o.cls≠.type "tuple")(hu:A.units+10<cLine):∀(k i:Nat) (s:SD) (st:ES×SetTable),items.size-i=k->i<=items.size->St i s.heap->M9 G s.heap S st->Kh G s.heap items.toList xs->Ox st (xs.drop i)=some st' ->(∀(h':Heap) (tk:Nat),(∀b o,b≠S->b ∉ wr->s.heap.get? b=some o->h'.get? b=some o)->(∀b o,s.heap.get? b=some o->o.cls=.type "tuple" -> h'.get? b=some o)->M9 G h' S st'->R (.ok (.ret .none)) {s with heap:=h',toks:=tk}) ->codeAny (model prog w) A (.builtin "set.update.loop" ⟨[.ref S,.ref I],[]⟩) R s:=by
 have hSw:S ∉ wr:=fun h=>hSf (W.sub _ h);intro k
 induction k with
 |zero=>
  intro i s st hk hi T hS hT g hR;have hin:i=items.size:=by lia
  subst hin;have U:=Paired.length hT;rw[List.drop_of_length_le (by rw[<-U];simp)]at g;cases g;refine codeAny_builtin F.entry_set_update_loop ?_;rw[Around.under_plainId F.plain_set_update_loop _];show wpAny _ A.in1 (pyNext (.ref I)>>=_) _ _ s;refine Wb (W.done s _ _ T fun h' tk hm=>?_);show wpAny _ A.in1 (ret Value.none) _ _ _;have kt:∀b o,s.heap.get? b=some o->o.cls=.type "tuple" -> h'.get? b=some o:=fun b o e B=>hm b o (fun Z=>hcl _ _ b o T Z e B) e;exact aA (hR h' tk (fun b o _ Z e=>hm b o Z e) kt (hS.keeps (fun o e=>hm S o hSw e) kt))
 |succ k ih=>
  intro i s st hk hi T hS hT g hR;have hlt:i<items.size:=by lia
  refine codeAny_builtin F.entry_set_update_loop ?_;rw[Around.under_plainId F.plain_set_update_loop _];show wpAny _ A.in1 (pyNext (.ref I)>>=_) _ _ s;refine Wb (W.item i s _ _ hlt T fun v h1 tk hP hst' hm=>?_);have kt:∀b o,s.heap.get? b=some o->o.cls=.type "tuple" -> h1.get? b=some o:=fun b o e B=>hm b o (fun Z=>hcl _ _ b o T Z e B) e;have hS1:=hS.keeps (fun o e=>hm S o hSw e) kt;have hT1:=hT.keeps kt;have U:=Paired.length hT;have hxi:i<xs.length:=by rw[<-U];simpa using hlt
  have hx:xs[i]? = some xs[i]:=aJ hxi;obtain⟨v',hv',hxd,hxg,xa,its,e1,e2,e3⟩:=Paired.get hT1 hx;have hvv:v'=v:=by
   have h2:items.toList[i]? = some v:=by simpa using hP
   rw[h2]at hv';exact(ar hv').symm
  subst hvv;subst e1;rw[List.drop_eq_getElem_cons hxi,Ox]at g;cases Y:IZ st xs[i]with
  |none=>rw[Y]at g;cases g
  |some st1=>
   rw[Y]at g;obtain⟨o,ev,ep,g1,g2,g3,g4⟩:=hS1;obtain⟨et,t⟩:=st;obtain⟨et1,t1⟩:=st1;show wpAny _ A.in1 (holding [Value.ref xa] (setAdd S (.ref xa))>>=_) _ _ _;refine Wb (aS (lH (s:={s with heap:=h1,toks:=tk}) g1 g2.1 g3 g4 e2 e3 hxd hxg (by rw[Around.in1_units];lia) Y fun b h2 tk2 ev2 ep2 sb gS R2=>?_));have kt2:∀b o,h1.get? b=some o->o.cls=.type "tuple" -> h2.get? b=some o:=fun b o' e B=>by
    rw[sb.2 b fun z=>?_]
    .exact e
    .subst z;rw[g1]at e;cases e;rw[g2.1]at B
     injection B with B
     exact absurd B (by decide)
   refine aA ⟨plainId_quiet F.plain_set_update_loop _,ih (i+1) {s with heap:=h2,toks:=tk2} (et1,t1) (by lia) hlt (W.frame _ _ _ hst' fun b Z o' e=>?_) ⟨_,ev2,ep2,gS,g2,rfl,R2⟩ (hT1.keeps kt2) g fun h3 tk3 m3 kt3 S3=>?_⟩
   .rw[sb.2 b fun z=>hSf (z ▸ Z)];exact e
   .refine hR h3 tk3 (fun b o' hbS Z e=>?_) (fun b o' e B=>kt3 b o' (kt2 b o' (kt b o' e B) B) B) S3;refine m3 b o' hbS Z ?_;show h2.get? b=some o';rw[sb.2 b hbS];exact hm b o' Z e
end
end TH
namespace TH
open PySem PyProof.Rows PySem.SeqAt
section
variable{G:VL->Tr->Prop}{prog:Program}{w:World}{A:Around}{E:sC}{s:SD}{l:AD}{us:rz}{xs:sR}
abbrev HL(led:Bool):Obj:={ cls:=.type "set",dict:=none,data:=.set #[] 0 (.fresh 0 0 led)}
def Yb(v:VL){Q1:sC}(k:Q1 (.ref s.heap.objs.size) {s with heap:=s.heap.push (HL (!w.params.followText "set-order"))}):codeAny (model prog w) A (.call (.builtin "set.__new__") ⟨[.type "set",v],[]⟩) (wants Q1 E) s:=by
 refine codeAny_of_tree (show wpAny _ A.in1 (checkBuiltinCall "set.__new__" ⟨[.type "set",v],[]⟩>>=fun _=>again (.builtin "set.__new__" ⟨[.type "set",v],[]⟩)) _ _ s from ?_);refine Wb (wpAny_of_eq (F.newCall_set_1 v) (aA ⟨plainId_quiet F.plain_set_new _,codeAny_builtin F.entry_set_new ?_⟩));rw[Around.under_plainId F.plain_set_new _];unfold Builtin.«set.__new__»;unfold Builtin.Frozenset.newClass;have q:=sub_set_self;obtain⟨h0,g,B,t0,o0⟩:=s;dsimp only
 wp_walk
 refine wpAny_askSetting (aA ?_);dsimp only;simp only[newObj];exact Wb (wpAny_alloc (aA (aA k)))
def Wh{Q:sC}(hA:A.handled=none)(hL:s.heap.IsList l us.toArray)(hT:Kh G s.heap us xs)(hu:A.units+20<cLine){st:ES×SetTable}(Z:Ox (Me (!w.params.followText "set-order")) xs=some st) (k:∀(B:Heap) (T:Nat),M9 G B s.heap.objs.size st->(∀b u,s.heap.get? b=some u->B.get? b=some u)->Q (.ref s.heap.objs.size) {s with heap:=B,toks:=T}):wpAny (model prog w) A (call (.type "set") [.ref l]) Q E s:=by
 obtain⟨mc,mt,hmro⟩:=F.called_set.mro;have q1:=F.called_set.made;have q2:=F.called_set.sub;have q3:=F.called_set.notType;have q4:=F.called_set.canCreate;have q5:=F.typeCall_set_1 (.ref l);refine wpAny_call (codeAny_of_tree (show wpAny _ _ (callAny (.type "set") _) _ _ _ from ?_));refine aA ⟨Code.quiet_builtin _ (by decide +kernel),codeAny_builtin F.entry_type_call ?_⟩;rw[Around.under_plain (weight_type_call_type "set" [.ref l] []) rfl]
 repeat (any_goals (first|assumption|wp_step))
 have hnew:=Yb (prog:=prog) (w:=w) (s:=s) (A:=A.in1) (E:=E) (.ref l) (Q1:=fun v s1=>v=.ref s.heap.objs.size/\s1={s with heap:=s.heap.push (HL (!w.params.followText "set-order"))}) ⟨rfl,rfl⟩;refine codeAny_mono hnew fun r s1 hr=>?_;cases r with
 |error e=>exact hr
 |ok fl=>
  cases fl with
  |next=>exact hr.elim
  |brk=>exact hr.elim
  |cont=>exact hr.elim
  |ret obj=>
   obtain⟨rfl,rfl⟩:=hr;generalize (!w.params.followText "set-order")=led at Z;have gS:(s.heap.push (HL led)).get? s.heap.objs.size=some (HL led):=aM _ rfl;have tS:Shared.TypeIs {s with heap:=s.heap.push (HL led)} (.ref s.heap.objs.size) "set" := ⟨_,gS,rfl⟩;have q6:=F.called_set.init.lookup;have q7:=F.called_set.init.bind (.ref s.heap.objs.size)
   repeat (any_goals (first|assumption|wp_step))
   have U:codeAny (model prog w) A.in1 (.call (.builtin "set.__init__") ⟨[.ref s.heap.objs.size,.ref l],[]⟩)
     (wants (fun v s2=>v=.none/\∃B T,s2={s with heap:=B,toks:=T}/\M9 G B s.heap.objs.size st/\∀b u,s.heap.get? b=some u->B.get? b=some u) E) {s with heap:=s.heap.push (HL led)}:=by
    refine codeAny_call_builtin F.called_set.init.plain F.entry_set_init (check_set_init_1 tS ?_);obtain⟨⟨c0,d0,dt0,sl0⟩,gl,c1,n0,dt1⟩:=id hL;simp only at c1 dt1;subst c1 dt1;have gl1:(s.heap.push (HL led)).get? l=some ⟨.type "list",d0,.seq us.toArray n0,sl0⟩:=aE _ gl;have Y:(s.heap.push (HL led)).IsList l us.toArray:=⟨_,gl1,rfl,n0,rfl⟩;have s1:=F.sub_list_set;have s2:=F.sub_list_frozenset;have s3:(Value.type "list" == Value.type "dict")=false:=by decide
    unfold Builtin.«set.__init__» noKeywords Builtin.Frozenset.updateFrom;generalize ePI:pyIter=PI
    wp_walk
    subst ePI;refine wpAny_pyIter_list Y (Wb (wpAny_runValue ?_));have ll:l<s.heap.objs.size:=aF gl;have zI:(s.heap.push (HL led)).objs.size=s.heap.objs.size+1:=Heap.size_push ..;have neI:l≠(s.heap.push (HL led)).objs.size:=by rw[zI];exact aK (bQ ll)
    have nfp:s.heap.objs.size ∉ [(s.heap.push (HL led)).objs.size,l]:=by
     simp only[List.mem_cons,List.not_mem_nil,or_false,not_or];exact⟨by rw[zI];exact aK (bN _),Nat.ne_of_gt ll⟩
    have hA3:A.in1.in1.in1.handled=none:=by simp[hA]
    refine iB (G:=G) (xs:=xs) (st':=st) (Walks.list hA3 _ l neI us.toArray) nfp (fun i h b o hit hb e hc=>?_) (by simp only[Around.in1_units];lia) _ 0 _ (Me led) rfl (bE _) ⟨⟨_,Heap.get?_push_size _ rfl,rfl,rfl⟩,Y.push _⟩ ?_ ?_ Z fun B T m2 kt2 S2=>?_
    .obtain⟨⟨oi,gi,ci,_⟩,_⟩:=hit;have:b=(s.heap.push (HL led)).objs.size:=by simpa using hb
     subst this;rw[gi]at e;cases e;rw[ci]at hc
     injection hc with hc
     exact absurd hc (by decide)
    .exact⟨HL led,#[],0,Heap.get?_push_of_some _ gS,⟨rfl,rfl,rfl⟩,rfl,.nil⟩
    .exact hT.keeps fun b o e _=>aE _ (aE _ e)
    .refine aA ?_;show wpAny _ _ (ret Value.none) _ _ _;refine aA ⟨rfl,B,T,rfl,S2,fun b u e=>?_⟩;have lb:b<s.heap.objs.size:=aF e;refine m2 b u (aK lb) ?_ (aE _ (aE _ e));simp only[List.mem_cons,List.not_mem_nil,or_false];rw[zI];exact aK (bQ lb)
   refine codeAny_mono U fun r2 s2 g=>?_;cases r2 with
   |error e=>exact g
   |ok f2=>
    cases f2 with
    |next=>exact g.elim
    |brk=>exact g.elim
    |cont=>exact g.elim
    |ret v2=>
     obtain⟨rfl,B,T,rfl,S2,k2⟩:=g
     repeat (any_goals (first|assumption|wp_step))
     exact k B T S2 k2
end
end TH
namespace TH
open PySem PyProof.Rows PySem.SeqAt
def R6:entryFor table "set.__iter__" = some Builtin.«frozenset.__iter__» :=
 entryFor_alias (id' := "frozenset.__iter__") (by kernel_rfl) rfl (by decide +kernel) (by kernel_rfl)
def FG:Slot "set_iterator" "__next__" "set_iterator.__next__" :=
 .of (owner := "set_iterator") (n := "__next__") (by rw[typeLookup_type,builtinLookup_eq_fast];kernel_rfl) (by decide +kernel)
  (by decide +kernel) (by decide +kernel) (by first|exact .inl (by decide +kernel)|exact .inr (by decide +kernel)) (by rw[isSubtype_type];kernel_rfl)
def Mk:entryFor table "set_iterator.__next__" = some Builtin.«set_iterator.__next__»:=entryFor_of_fast (by kernel_rfl)
def Nk(a:VL):argsOk "set_iterator.__next__" ⟨[a],[]⟩:=by unfold argsOk;kernel_rfl
def Nu:Slot "set_iterator" "__iter__" "set_iterator.__iter__" :=
 .of (owner := "set_iterator") (n := "__iter__") (by rw[typeLookup_type,builtinLookup_eq_fast];kernel_rfl) (by decide +kernel)
  (by decide +kernel) (by decide +kernel) (by first|exact .inl (by decide +kernel)|exact .inr (by decide +kernel)) (by rw[isSubtype_type];kernel_rfl)
def Sn:entryFor table "set_iterator.__iter__" = some Builtin.«dict_keyiterator.__iter__» :=
 entryFor_alias (id' := "dict_keyiterator.__iter__") (by kernel_rfl) rfl (by decide +kernel) (by kernel_rfl)
def UI(a:VL):argsOk "set_iterator.__iter__" ⟨[a],[]⟩:=by unfold argsOk;kernel_rfl
section
variable{α:Type}{next:Nat->Nat}
def XS:∀(n k:Nat) (left:List α) (out:Array α),left.length=n->(pickOrder.go next n k left out).toList.Perm (out.toList++left)
 |0,k,left,out,h=>by
  have:left=[]:=bG h;subst this;rw[pickOrder.go];simp
 |n+1,k,left,out,h=>by
  rw[pickOrder.go];have g:next k % left.length<left.length:=Nat.mod_lt _ (by lia);rw[List.getElem?_eq_getElem g];refine(XS n (k+1) _ _ (by rw[List.length_eraseIdx_of_lt g];lia)).trans ?_;rw[Array.toList_push,List.append_assoc];refine List.Perm.append_left _ ?_;rw[List.eraseIdx_eq_take_drop_succ];have e:left.take (next k % left.length)++left[next k % left.length]::left.drop (next k % left.length+1)=left:=by rw[<-List.drop_eq_getElem_cons g,List.take_append_drop]
  have p:=List.perm_middle (a:=left[next k % left.length]) (l₁:=left.take (next k % left.length)) (l₂:=left.drop (next k % left.length+1));rw[e]at p;exact p.symm
def ZW(xs:Array α):(pickOrder next xs).toList.Perm xs.toList:=by
 unfold pickOrder
 simpa using XS xs.size 0 xs.toList #[] (by simp)
end
end TH
namespace TH
open PySem PyProof.Rows PySem.SeqAt
def HB(w:World)(S:AD)(ep:Nat)(ev:Array (Int×VL)):Array (Int×VL):=if w.params.followText "set-order" = true then pickOrder (w.params.setOrder S ep) ev else ev
def TZ(w:World)(S:AD)(ep:Nat)(ev:Array (Int×VL)):(HB w S ep ev).toList.Perm ev.toList:=by
 unfold HB;split
 .exact ZW ev
 .exact .refl _
def Le(w:World)(S:AD)(ep:Nat)(ev:Array (Int×VL)):(HB w S ep ev).size=ev.size:=by simpa using (TZ w S ep ev).length_eq
def Jn(t:SetTable):Nat->Nat
 |0=>0
 |i+1=>t.place.getD i 0+1
def FN(w:World)(t:SetTable)(i:Nat):Nat:=if w.params.followText "set-order" = true then 0 else Jn t i
def OX(t:SetTable)(n:Nat):Bool:=(List.range (n+1)).all fun i=>decide (SetTable.below t.place (Jn t i)=i)
abbrev Lw(w:World)(S:AD)(t:SetTable)(ep n i:Nat):Obj:={ cls:=.type "set_iterator",data:=.fields #[rawInt ((FN w t i:Nat):Int),rawInt (i:Int),.ref S,rawInt (n:Int),rawInt (ep:Int)]}
structure GQ(w:World)(o:Obj)(ev:Array (Int×Value))(ep:Nat)(t:SetTable):Prop where
 ex:o.ExactSet
 dat:o.data=.set ev ep t
 fit:t.fits ev.size=true
 plain:t.plain=true
 led:t.led=!w.params.followText "set-order"
 walk:OX t ev.size=true
section
variable{prog:Program}{w:World}{A:Around}{E:sC}{s:SD}{S I:AD}{o:Obj}{ev:Array (Int×VL)}{ep i:Nat}{t:SetTable}
def SW{Q:Bool->SD->Prop}(h:Q (w.params.followText "set-order") s):wpAny (model prog w) A setsByText Q E s:=by
 unfold setsByText;exact Wb (wpAny_askSetting (aA h))
def GQ.ZK(W:GQ w o ev ep t):(!t.plain&&decide (ev.size > 1))=false:=by rw[W.plain];rfl
def GQ.place(W:GQ w o ev ep t):t.place.size=ev.size:=by
 have:=W.fit;unfold SetTable.fits at this;simp only[Bool.and_eq_true,beq_iff_eq]at this;exact this.1
def Vg{Q:Option (VL×Nat)->SD->Prop}(W:GQ w o ev ep t)(ho:s.heap.get? S=some o)(hi:i<=ev.size)(h:Q ((HB w S ep ev)[i]?.map fun e=>(e.2,FN w t (i+1))) s):wpAny (model prog w) A (setNext S (FN w t i) i ep) Q E s:=by
 unfold setNext;refine Wb (bH ho W.dat W.fit ?_);refine Wb (SW ?_);cases g:w.params.followText "set-order" with
 |true=>
  rw[if_pos rfl];have U:¬(ep != ep)=true:=by simp
  rw[if_neg U];unfold setWalk;refine Wb (Wb (bH ho W.dat W.fit ?_));refine Wb (SW ?_);rw[if_pos g];refine Wb (wpAny_askSetting (aA ?_));refine aA ?_;have e:HB w S ep ev=pickOrder (w.params.setOrder S ep) ev:=by unfold HB;rw[if_pos g]
  rw[e]at h;have Y:FN w t i=FN w t (i+1):=by unfold FN;rw[if_pos g,if_pos g]
  rw[Y];exact h
 |false=>
  rw[if_neg aO];refine wpAny_ite_split (fun hd=>?_) fun _=>?_
  .have:(!t.plain&&decide (ev.size > 1))=true:=hd;rw[W.ZK]at this;cases this
  .refine Wb ?_;have hl:t.led=true:=by rw[W.led,g];rfl
   have hn:¬(!t.led && !ev.isEmpty)=true:=by rw[hl];simp
   show wpAny _ _ (if(!t.led && !ev.isEmpty)=true then unsupported "set:maker-not-led" else pure ()) _ _ _;rw[if_neg hn];refine aA (aA ?_);have B:=W.walk;unfold OX at B;have B:=au.mp B i (ax.mpr (by lia));have B:SetTable.below t.place (Jn t i)=i:=by simpa using B
   have e1:FN w t i=Jn t i:=by unfold FN;rw[g];rfl
   have Y:FN w t (i+1)=Jn t (i+1):=by unfold FN;rw[g];rfl
   have e3:HB w S ep ev=ev:=by unfold HB;rw[g];rfl
   rw[Y,e3]at h;rw[e1,B];by_cases T:i<ev.size
   .have Z:i<t.place.size:=by rw[W.place];exact T
    rw[Array.getElem?_eq_getElem T]at h ⊢;rw[Array.getElem?_eq_getElem Z];have e4:Jn t (i+1)=t.place[i]+1:=by
     rw[Jn,Array.getD_eq_getD_getElem?,Array.getElem?_eq_getElem Z]
     rfl
    rw[e4]at h;exact h
   .rw[Array.getElem?_eq_none (by lia)]at h ⊢;exact h
def eY{Q:Option VL->SD->Prop}{z:Int}{v:VL}(W:GQ w o ev ep t)(U:s.heap.get? S=some o)(g:s.heap.get? I=some (Lw w S t ep ev.size i))(T:(HB w S ep ev)[i]? = some (z,v)) (h:∀h',h'.get? I=some (Lw w S t ep ev.size (i+1))->Heap.SameBut I s.heap h'->Q (some v) {s with heap:=h'}):wpAny (model prog w) A (pyNext (.ref I)) Q E s:=by
 have Y:s.TypeIs (.ref I) "set_iterator" := ⟨_,g,rfl⟩;have hlt:i<ev.size:=by
  have:=(Array.getElem?_eq_some_iff.mp T).1;rw[Le]at this;exact this
 unfold pyNext;refine Wb (wpAny_attempt (aX (name:=Str.ofString "__next__") Y FG (aW FG Y Mk ?_ (Nk _))));unfold Builtin.«set_iterator.__next__»;refine Wb (wpAny_of_eq (a:=(Value.ref I,[])) rfl ?_);refine Wb (wpAny_fieldsOf g rfl ?_);show wpAny _ _ (setEntries S>>=_) _ _ s;refine Wb (wpAny_setEntries_of U W.dat W.fit ?_);have B:¬((ev.size:Int) != (ev.size:Int))=true:=by simp
 dsimp only;rw[if_neg B];refine Wb ?_;show wpAny _ _ (setNext S (FN w t i) i ep) _ _ _;refine Vg W U (by lia) ?_;rw[T];show wpAny _ _ (setField (.ref I) 0 (rawInt ((FN w t (i+1):Nat):Int))>>=_) _ _ _;refine Wb (wpAny_setField g rfl (by simp) ?_);have Z:(s.heap.update I (Obj.mapFields (·.setIfInBounds 0 (rawInt ((FN w t (i+1):Nat):Int))))).get? I=some { cls:=.type "set_iterator",data:=.fields #[rawInt ((FN w t (i+1):Nat):Int),rawInt (i:Int),.ref S,rawInt (ev.size:Int),rawInt (ep:Int)]} :=
  bM _ g rfl
 refine Wb (wpAny_setField Z rfl (by simp) ?_);refine aA ⟨_,rfl,wpAny_pure (h _ ?_ ((ab ..).trans (ab ..)))⟩;exact bM _ Z rfl
def eH{Q:Option VL->SD->Prop}(hh:A.handled=none)(W:GQ w o ev ep t)(Y:s.heap.get? S=some o)(U:s.heap.get? I=some (Lw w S t ep ev.size ev.size)) (h:∀h',Heap.ExtBut I s.heap h'->Q none {s with heap:=h'}):wpAny (model prog w) A (pyNext (.ref I)) Q E s:=by
 have Z:s.TypeIs (.ref I) "set_iterator" := ⟨_,U,rfl⟩;unfold pyNext;refine Wb (wpAny_attempt (aX (name:=Str.ofString "__next__") Z FG (aW FG Z Mk ?_ (Nk _))));unfold Builtin.«set_iterator.__next__»;refine Wb (wpAny_of_eq (a:=(Value.ref I,[])) rfl ?_);refine Wb (wpAny_fieldsOf U rfl ?_);show wpAny _ _ (setEntries S>>=_) _ _ s;refine Wb (wpAny_setEntries_of Y W.dat W.fit ?_);have g:¬((ev.size:Int) != (ev.size:Int))=true:=by simp
 dsimp only;rw[if_neg g];refine Wb ?_;show wpAny _ _ (setNext S (FN w t ev.size) ev.size ep) _ _ _;refine Vg W Y (aG _) ?_;rw[Array.getElem?_eq_none (by rw[Le];exact aG _)];show wpAny _ _ (setField (.ref I) 2 Value.none>>=_) _ _ _;refine Wb (wpAny_setField U rfl (by simp) ?_);refine Wb ?_;simp only[newExc,newTuple];refine Wb (aw ?_ (by size_fits));refine Wb (m:=firstArgMember _ _) (wpAny_of_eq (a:=Value.none) (by first|rfl|(simp only[firstArgMember];rfl)) (aw ?_ (by size_fits)));simp only[raiseNew];refine Wb (wpAny_handled ?_);have B:A.in1.handled=none:=hh;rw[B];refine Wb (aA (wpAny_throw ?_));refine Wb (wpAny_isInstance (b:=true) (T := "StopIteration") ⟨_,Heap.get?_push_size _ rfl,rfl⟩ isSubtype_stop ?_);exact aA (h _ (((ab ..).extBut.push _).push _))
def dS{Q:sC}(B:s.heap.get? I=some (Lw w S t ep ev.size i))(h:Q (.ref I) s):wpAny (model prog w) A (pyIter (.ref I)) Q E s:=by
 have g:s.TypeIs (.ref I) "set_iterator" := ⟨_,B,rfl⟩;refine wpAny_pyIter_slot g Nu (aW Nu g Sn ?_ (UI _));show wpAny _ _ (ret (.ref I)) _ _ s;exact aA ⟨_,rfl, "set_iterator",_,g,FG.lookup,h⟩
def a7(hh:A.handled=none)(hne:S≠I)(W:GQ w o ev ep t) :
  Walks prog w A I [I,S] [I] ev.size (fun i v=>∃z,(HB w S ep ev)[i]? = some (z,v)) (fun i h=>h.get? I=some (Lw w S t ep ev.size i)/\h.get? S=some o) where
 sub:=fun b hb=>by simp at hb;simp[hb]
 frame:=fun _ _ _ x k=>⟨k I (by simp) _ x.1,k S (by simp) _ x.2⟩
 item:=fun i s Q E hi x hQ=>by
  have hi':i<(HB w S ep ev).size:=by rw[Le];exact hi
  obtain⟨z,v,hx⟩:∃z v,(HB w S ep ev)[i]? = some (z,v):=⟨(HB w S ep ev)[i].1,(HB w S ep ev)[i].2,by rw[Array.getElem?_eq_getElem hi']⟩;refine eY W x.2 x.1 hx fun h' g sb=>hQ v h' s.toks ⟨z,hx⟩ ⟨g,(sb.2 S hne).trans x.2⟩ fun b u hb e=>?_;rw[sb.2 b fun q=>hb (by simp[q])];exact e
 done:=fun s Q E x hQ=>eH hh W x.2 x.1 fun h' eb=>hQ h' s.toks fun b u hb e=>eb b u (fun q=>hb (by simp[q])) e
 self:=fun _ _ _ _ x hQ=>dS x.1 hQ
def cn{Q:Bool->SD->Prop}(U:s.TypeIs (.ref S) "set")(h:Q false s):wpAny (model prog w) A (Builtin.List.listLengthHint (.ref S)) Q E s:=by
 unfold Builtin.List.listLengthHint;refine Wb (bS U PySem.F.slot_set_len.lookup ?_);generalize g:("set.__len__" : String)=B
 wp_delta
 rw[show splitId B=some ("set","__len__") from by subst g;decide +kernel];subst g;refine Wb (wpAny_isInstance (b:=true) (T := "set") U (by rw[isSubtype_type];kernel_rfl) ?_);refine wpAny_ite_split (fun z=>absurd z (by decide)) fun _=>?_;refine wpAny_ite_split (fun _=>?_) fun z=>absurd (by decide +kernel) z;exact Wb (wpAny_typeOf U (aA h))
def d9{Q:sC}(W:GQ w o ev ep t)(g:s.heap.get? S=some o)(h:Q (.ref s.heap.objs.size) {s with heap:=s.heap.push (Lw w S t ep ev.size 0)}):wpAny (model prog w) A (pyIter (.ref S)) Q E s:=by
 have B:s.TypeIs (.ref S) "set" := ⟨o,g,W.ex.1⟩;refine wpAny_pyIter_slot B PySem.F.slot_set_iter (aW PySem.F.slot_set_iter B R6 ?_ (PySem.F.args_set_iter_1 _));unfold Builtin.«frozenset.__iter__»;refine Wb (wpAny_of_eq (a:=S) rfl ?_);unfold Builtin.Frozenset.sizeOf;refine Wb (Wb (wpAny_setEntries_of g W.dat W.fit (aA ?_)));unfold setDrawn;refine Wb (Wb (bH g W.dat W.fit (Wb (SW (aA ?_)))));have hd:(!w.params.followText "set-order" && (!t.plain&&decide (ev.size > 1)))=false:=by rw[W.ZK];simp
 refine wpAny_ite_split (fun z=>?_) fun _=>?_
 .have:(!w.params.followText "set-order" && (!t.plain&&decide (ev.size > 1)))=true:=z;rw[hd]at this;cases this
 refine Wb (aA ?_);unfold setEpoch;refine Wb (Wb (bH g W.dat W.fit (aA ?_)));have T:FN w t 0=0:=by unfold FN Jn;split<;>rfl
 refine Wb (aw (aA ⟨_,rfl, "set_iterator",_,⟨_,Heap.get?_push_size _ rfl,rfl⟩,FG.lookup,?_⟩));unfold Lw at h;rw[T]at h;exact h
def gE(W:GQ w o ev ep t):PySem.W.KdlSrc prog w "set" S S ev.size (fun i v=>∃z,(HB w S ep ev)[i]? = some (z,v)) (fun h=>h.get? S=some o) where
 type:=fun _ ho=>⟨o,ho,W.ex.1⟩
 there:=fun _ ho=>⟨aF ho,Heap.lt_size ho⟩
 keep:=fun _ _ ho k=>k S (.inl rfl) _ ho
 notList:=by decide
 notTuple:=by decide
 hint:=fun _ _ s _ ho h=>cn ⟨o,ho,W.ex.1⟩ h
 iter:=fun A s hh ho=>⟨Lw w S t ep ev.size 0,_,(fun E Q h=>d9 W ho h),a7 hh (aK (aF ho)) W,⟨aM _ rfl,Heap.get?_push_of_some _ ho⟩⟩
end
end TH
namespace TH
open PySem PyProof.Rows PySem.SeqAt
def Paired.perm{α β:Type}{F:α->β->Prop}{l Z:List α}(p:Z.Perm l):∀ {m:List β},Paired F l m->∃g,g.Perm m/\Paired F Z g:=by
 induction p with
 |nil=>intro m r;exact⟨m,.refl _,r⟩
 |cons x _ ih=>
  intro m r;cases r with
  |cons h T=>
   obtain⟨g,p',q⟩:=ih T;exact⟨_::g,p'.cons _,.cons h q⟩
 |swap x y l=>
  intro m r;cases r with
  |cons h T=>
   cases T with
   |cons h' B=>exact⟨_::_::_,List.Perm.swap ..,.cons h' (.cons h B)⟩
 |trans _ _ Y U=>
  intro m r;obtain⟨m1,p1,q1⟩:=U r;obtain⟨m2,p2,q2⟩:=Y q1;exact⟨m2,p2.trans p1,q2⟩
variable{G:VL->Tr->Prop}
def Xr{h:Heap}:∀ {l:List (Int×VL)} {m:List (Int×Tr)},Paired (QE G h) l m->Vs h (Tr.of (m.map (·.2))) (l.map (·.2))
 |_,_,.nil=>by rw[List.map_nil,List.map_nil,Tr.of,Vs]
 |_,_,.cons (a:=(z,v)) ⟨_,_,_,a,g,e,T,B⟩ r=>by
  have e:v=.ref a:=e;subst e;rw[List.map_cons,List.map_cons,Tr.of,Vs];exact⟨a,g,_,rfl,T,B,Xr r⟩
def T3{h:Heap}:∀ {l:List (Int×VL)} {m:List (Int×Tr)},Paired (QE G h) l m->∀c∈m.map (·.2),c.deep<8
 |_,_,.nil,c,g=>by cases g
 |_,_,.cons ⟨_,hd,_⟩ r,c,g=>by
  rw[List.map_cons]at g;rcases aN.mp g with rfl|g
  .exact hd
  .exact T3 r c g
def cE{h:Heap}:∀ {l:List (Int×VL)} {m:List (Int×Tr)},Paired (QE G h) l m->Paired G (l.map (·.2)) (m.map (·.2))
 |_,_,.nil=>.nil
 |_,_,.cons ⟨_,_,g,_⟩ r=>.cons g (cE r)
def Paired.eg{α β:Type}{F:α->β->Prop}{l:List α}{m:List β}(r:Paired F l m)(d:α)(e:β):∀(ix:List Nat),(∀i∈ix,i<l.length)->Paired F (ix.map fun i=>l.getD i d) (ix.map fun i=>m.getD i e)
 |[],_=>.nil
 |i::ix,h=>by
  have U:=r.length;have hi:=h i aZ;have hm:m[i]? = some m[i]:=aJ (by lia);obtain⟨x,T,B⟩:=Paired.get r hm;rw[List.map_cons,List.map_cons];refine .cons ?_ (Paired.eg r d e ix fun j g=>h j (aU _ g));rw[List.getD_eq_getElem?_getD,List.getD_eq_getElem?_getD,T,hm];exact B
def cx{l m:sR}(p:l.Perm m):Tr.C5 l=Tr.C5 m:=Tr.L7 (Tr.LY l) (Tr.LY m) ((Tr.LI l).trans (p.trans (Tr.LI m).symm))
section
variable{prog:Program}{w:World}{A:Around}{E:sC}{s:SD}
def gather{T:String}{r d:AD}{n:Nat}{P:Nat->VL->Prop}{OK:Heap->Prop}{R:List VL->SD->Prop}(K:PySem.W.KdlSrc prog w T r d n P OK)(hA:A.handled=none)(BA:OK s.heap)(hn:n<=sizeLine) (k:∀(B:Heap) (U:Nat) (g:Array VL),s.heap.objs.size<B.objs.size->(∀b u,s.heap.get? b=some u->B.get? b=some u)->ItemsOf P g n->R g.toList {s with heap:=B,toks:=U}):wpAny (model prog w) A (collect (.ref r)) R E s:=by
 obtain⟨lr,ld⟩:=K.there _ BA;unfold collect;refine Wb (wpAny_runValue (codeAny_builtin entry_proto_collect' ?_));rw[Around.under_plainId PySem.F.plain_proto_collect _];show wpAny _ A.in1 (newList []>>=fun v=>again (.builtin "list.__iadd__" ⟨[v,.ref r],[]⟩)) _ _ s;refine Wb (aw (aA ⟨plainId_quiet PySem.F.plain_list_iadd _,codeAny_builtin entry_list_iadd' ?_⟩));rw[Around.under_plainId PySem.F.plain_list_iadd _];have g0:(s.heap.push { cls:=.type "list",data:=.seq ([]:List VL).toArray}).get? s.heap.objs.size=some { cls:=.type "list",data:=.seq #[]}:=aM _ rfl;have main:=PySem.W.kdl_extend (A:=A) (s:={s with heap:=s.heap.push { cls:=.type "list",data:=.seq ([]:List VL).toArray} }) K hA
  (K.keep _ _ BA fun _ _ _ e=>aE _ e) s.heap.objs.size (aj lr) (aj ld) (.ref s.heap.objs.size) 0 g0
  (R:=fun q s1=>∃B U g c,q=.ok (.ret (.ref s.heap.objs.size))/\s1={s with heap:=B,toks:=U}/\(∀b u,s.heap.get? b=some u->B.get? b=some u)/\B.get? s.heap.objs.size=some { cls:=.type "list",dict:=none,data:=.seq g c,slots:=#[]}/\ItemsOf P g n)
  (fun B U g c Z Y ha=>⟨B,U,g,c,rfl,rfl,fun b u e=>Z b u (aK (aF e)) (aE _ e),Y,ha⟩) hn
 refine ao main (fun fin s1 x=>?_) fun e s1 x=>?_
 .cases fin with
  |done f=>
   obtain⟨B,U,g,c,e,rfl,Z,Y,ha⟩:=x;cases e;show wpAny _ A (load s.heap.objs.size>>=_) _ _ _;exact Wb (wpAny_load Y (aA (k B U g (aF Y) Z ha)))
  |again c1=>
   refine⟨x.1,codeAny_mono x.2 fun q s2 y=>?_⟩;obtain⟨B,U,g,c,rfl,rfl,Z,Y,ha⟩:=y;show wpAny _ A (load s.heap.objs.size>>=_) _ _ _;exact Wb (wpAny_load Y (aA (k B U g (aF Y) Z ha)))
 .obtain⟨_,_,_,_,z,_⟩:=x;cases z
end
section
variable{prog:Program}{w:World}{A:Around}{E:sC}{s:SD}{S:AD}{o:Obj}{ev:Array (Int×VL)}{et:ES}{ep:Nat}{t:SetTable}
def YR{Q:sC}(hA:A.handled=none)(W:GQ w o ev ep t)(ho:s.heap.get? S=some o)(R:Ed G s.heap ev et)(h64:et.size<64)(hu:A.units+20<cLine) (h:∀(h':Heap) (D tk Y:Nat) (us:rz),s.heap.objs.size<=D->(∀b u,s.heap.get? b=some u->h'.get? b=some u)->h'.get? D=some (seqObj "list" us.toArray Y)->Paired G us (Tr.C5 (et.toList.map (·.2))).reverse->us.length<64 ->Q (.ref D) {s with heap:=h',toks:=tk}):wpAny (model prog w) A (call (.builtin "sorted") [.ref S]) Q E s:=by
 have hsz:=R.size;refine Calls.call_function_entry kind_sorted plain_sorted entry_sorted (args_sorted1 _) ?_;unfold Builtin.«sorted»;refine Wb (m:=checkCount "sorted" 1 1 _) (aA ?_);refine Wb (gather (A:=A.in1) (gE W) hA ho (IT (by lia)) fun U tk g z1 k1 B=>?_);have hal:g.toList=(HB w S ep ev).toList.map (·.2):=by
  apply List.ext_getElem?;intro j;rw[List.getElem?_map];by_cases hj:j<g.size
  .have Y:g[j]? = some g[j]:=Array.getElem?_eq_getElem hj;obtain⟨z,e2⟩:=B.2 j _ Y;rw[Array.getElem?_toList,Y,Array.getElem?_toList,e2]
   rfl
  .have hj2:¬j<(HB w S ep ev).size:=by rw[Le,<-B.1];exact hj
   rw[List.getElem?_eq_none (by simpa using hj),List.getElem?_eq_none (by simpa using hj2)]
   rfl
 obtain⟨m,pm,rm⟩:=Paired.perm (TZ w S ep ev) R;have Z:=Xr rm;rw[<-hal]at Z;have hd:(Tr.of (m.map (·.2))).deep<=8:=(Tr.O2 8 _).mpr fun c hc=>by have:=T3 rm c hc;lia
 have T:g.toList.length<64:=by rw[Array.length_toList,B.1,hsz];exact h64
 refine Wb (wpAny_newList ?_ (IT (by lia)));have g1:(U.push (seqObj "list" g.toList.toArray 0)).get? U.objs.size=some (seqObj "list" g.toList.toArray 0):=aM _ rfl;have k2:∀b u,s.heap.get? b=some u->(U.push (seqObj "list" g.toList.toArray 0)).get? b=some u:=fun b u e=>aE _ (k1 b u e);refine Wb (aS (aW slot_list_sort ⟨_,g1,rfl⟩ entry_list_sort (NY (s:={s with heap:=U.push (seqObj "list" g.toList.toArray 0),toks:=tk}) g1 (Z.keeps fun b u e _=>k2 b u e) T
  (by rw[show A.in1.in1.units=A.units+2 from rfl];lia) fun ix a1 a2 a3=>⟨_,rfl,?_⟩) (args_list_sort _)))
 obtain⟨Y,he1⟩:=sortedHeap_at (vs:=g.toList) (out:=(ix.map fun i=>g.toList.getD i Value.none).toArray) g1;refine aA ⟨_,rfl,h _ U.objs.size tk Y (ix.map fun i=>g.toList.getD i Value.none) ?_ (fun b u e=>?_) he1 ?_ (by rw[List.length_map,a1];exact T)⟩
 .exact ay z1
 .have lb:b<U.objs.size:=aF (k1 b u e);rw[sortedHeap_old (aK lb) (by rw[Heap.size_push];exact bQ lb)];exact k2 b u e
 .have hg:=cE rm;rw[<-hal]at hg;have:=Paired.eg hg Value.none Tr.nil ix a2;rw[Tr.O5]at a3;rw[a3,cx (pm.map (·.2))]at this;exact this
end
end TH
namespace TH
open PySem PyProof.Rows PySem.SeqAt
section
variable{prog:Program}{w:World}{E:sC}
def WN(prog:Program)(w:World)(E:sC)(t:Tr):Prop:=∀(us:List VL) (A:Around) (s:SD) (b:Array Int) (Q:Array Int->SD->Prop),Vs s.heap t us->A.units+t.deep<=cLine ->
 (∀g,g.toList=b.toList++KZ t->Q g {s with toks:=s.toks+(t.AI-1)})->wpAny (model prog w) A (forIn us b fun x r=>do let h <-pyHash x;pure PUnit.unit;pure (ForInStep.yield (r.push h))) Q E s
def OI{t:Tr}(row:WN prog w E t){a:AD}{g:rz}{A:Around}{s:SD}{Q:Int->SD->Prop}(B:s.heap.IsTuple a g.toArray)(h2:Vs s.heap t g)(hu:A.units+t.deep<cLine) (h:Q (Ba t) {s with toks:=s.toks+t.AI}):wpAny (model prog w) A (pyHash (.ref a)) Q E s:=by
 have hT:=IsTuple.ty rfl B;obtain⟨o,U,hc,n,hd⟩:=id B;refine PySem.W.pyHash_slot (T := "tuple") hT F.slot_tuple_hash F.entry_tuple_hash (F.args_tuple_hash_1 _) (beq_builtin_none _) (.inr (by lia)) ?_;show wpAny _ _ (Builtin.Tuple.tupleItemsOf (.ref a)>>=_) _ _ s;refine Wb (wpAny_tupleItemsOf U hd ?_);refine Wb ?_;rw[<-Array.forIn_toList];refine row g A.in1 s #[] _ h2 (by rw[Around.in1_units];lia) fun b Z=>?_;show wpAny _ _ (retInt (Builtin.Tuple.tupleHashOf b.toList)) _ _ _;rw[Z];have Y:s.toks+(t.AI-1)+1=s.toks+t.AI:=by have:=Tr.EC t;lia
 refine Wb (wpAny_mkInt (aA ⟨_,_,rfl,?_⟩));rw[Y];exact h
def OZ:∀t:Tr,WN prog w E t
 |.nil=>fun us A s b Q e _ h=>by rw[Vs]at e;subst e;exact aA (h b (by simp[KZ]))
 |.cons c r=>fun us A s b Q e hu h=>by
  rw[Vs]at e;obtain⟨a,g,rest,rfl,Z,Y,U⟩:=e;have hd:(Tr.cons c r).deep=max (c.deep+1) r.deep:=rfl;have hk:(Tr.cons c r).AI=c.AI+r.AI:=rfl;have hr:=Tr.EC r;rw[List.forIn_cons];refine Wb (Wb (OI (OZ c) Z Y (by lia) ?_));refine Wb (aA (aA ?_));refine OZ r rest A _ _ Q U (by lia) fun b' T=>?_;have B:s.toks+c.AI+(r.AI-1)=s.toks+((Tr.cons c r).AI-1):=by lia
  have:=h b' (by simp[T,KZ,Ba]);rw[<-B]at this;exact this
def Kt(prog:Program)(w:World):HeapKind prog w Tr where
 is:=fun h t a=>t.deep<8/\∃its,h.IsTuple a its.toArray/\Vs h t its
 hash:=Ba
 draws:=Tr.AI
 room:=fun A=>A.units+8<cLine
 inj:=fun⟨_,i1,a1,a2⟩ ⟨_,i2,b1,b2⟩=>by
  have:=Im a1 b1;have e:i1=i2:=by simpa using this
  subst e;exact Vs.inj a2 b2
 keeps:=fun {h h' k a d o es ep} ⟨hd,its,h1,h2⟩ ho hdt sb=>by
  have kt:∀b u,h.get? b=some u->u.cls=.type "tuple" ->(∃x n,u.data=.seq x n)->h'.get? b=some u:=fun b u e _ ⟨x,n,hx⟩=>by
   rw[sb.2 b fun z=>?_]
   .exact e
   .subst z;rw[ho]at e;cases e;rw[hdt]at hx;cases hx
  have kv:∀ {t:Tr} {us:List VL},Vs h t us->Vs h' t us:=fun {t}=>by
   induction t with
   |nil=>intro us e;rw[Vs]at e ⊢;exact e
   |cons b r ih1 ih2=>
    intro us e;rw[Vs]at e ⊢;obtain⟨a,its,rest,e1,⟨u,hu,hc,n,hx⟩,e3,e4⟩:=e;exact⟨a,its,rest,e1,⟨u,kt _ _ hu hc ⟨_,n,hx⟩,hc,n,hx⟩,ih1 e3,ih2 e4⟩
  obtain⟨u,hu,hc,n,hx⟩:=h1;exact⟨hd,its,⟨u,kt _ _ hu hc ⟨_,n,hx⟩,hc,n,hx⟩,kv h2⟩
 pyHash:=fun hr ⟨hd,its,h1,h2⟩ h=>OI (OZ _) h1 h2 (by lia) h
 eqBool:=fun {A E s x y a b Q} hr ⟨hd,its,h1,h2⟩ ⟨_,its2,k1,k2⟩ h=>Qo h1 h2 k1 k2 (by lia) prog w E Q h
 quiet:=fun⟨hd,its,h1,h2⟩ h=>quiet 8 ⟨_,its,_,rfl,h1,h2,hd⟩ h
end
end TH
namespace TH
open PySem PyProof.Rows
def CG:Option Tr->Int
 |none=>4238894112
 |some t=>Ba t
def Fp:Option Tr->Nat
 |none=>1
 |some t=>t.AI
def KD(h:Heap):Option Tr->VL->Prop
 |none,v=>v=.none
 |some t,v=>∃a,v=.ref a/\t.deep<8/\∃g,h.IsTuple a g.toArray/\Vs h t g
abbrev KE:=Option Tr×VL×VL
def Ef(x:KE):DictEntry:=⟨CG x.1,x.2.1,x.2.2⟩
def Qt{p:Nat->Bool}{j:Nat}:∀ {n:Nat},j<n->p j=true->(∀i,i<n->p i=true->i=j)->(List.range n).filter p=[j]
 |0,h,_,_=>absurd h (ae _)
 |n+1,h,T,g=>by
  rw[List.range_succ,List.filter_append];by_cases e:j=n
  .subst e;have:(List.range j).filter p=[]:=List.filter_eq_nil_iff.mpr fun i hi B=>by
    have:=ax.mp hi;have:=g i (by lia) B
    lia
   rw[this];simp[T]
  .have hn:p n=false:=by
    cases q:p n with
    |false=>rfl
    |true=>exact absurd (g n (by lia) q).symm e
   rw[Qt (show j<n by lia) T fun i hi=>g i (by lia)];simp[hn]
section
variable{prog:Program}{w:World}{A:Around}{E:sC}{s:SD}{d:AD}{o:Obj}{es:Array DictEntry}{ep:Nat}{xs:List KE}{k:Option Tr}{kv:VL}
def Ml(g:es.toList=xs.map Ef)(j:Nat):es[j]? = (xs[j]?).map Ef:=by rw[<-Array.getElem?_toList,g,List.getElem?_map]
def U4(g:es.toList=xs.map Ef):es.size=xs.length:=by rw[<-Array.length_toList,g,List.length_map]
def Tg(Y:es.toList=xs.map Ef)(T:∀x∈xs,CG x.1=CG k->x.1=k)(B:∀x∈xs,x.1≠k):placesWithHash es.size (fun i=>es[i]?.map (·.hash)) (CG k)=[]:=by
 unfold placesWithHash;refine List.filter_eq_nil_iff.mpr fun i hi g=>?_;dsimp only at g;rw[Ml Y]at g;cases q:xs[i]? with
 |none=>rw[q]at g;simp at g
 |some x=>
  rw[q]at g;have U:=aH q;have:CG x.1=CG k:=by simpa[Ef]using g
  exact B x U (T x U this)
def Qz(T:es.toList=xs.map Ef)(U:∀x∈xs,CG x.1=CG k->x.1=k)(hn:(xs.map (·.1)).Nodup){j:Nat}{x:KE}(B:xs[j]? = some x)(Y:x.1=k):placesWithHash es.size (fun i=>es[i]?.map (·.hash)) (CG k)=[j]:=by
 unfold placesWithHash;have hl:j<xs.length:=(aD.mp B).1;refine Qt (by rw[U4 T];exact hl) (by dsimp only;rw[Ml T,B,<-Y];simp[Ef]) fun i hi g=>?_;dsimp only at g;rw[Ml T]at g;cases q:xs[i]? with
 |none=>rw[q]at g;simp at g
 |some y=>
  rw[q]at g;have hy:=U y (aH q) (by simpa[Ef]using g);have Z:(xs.map (·.1))[i]? = some k:=by rw[List.getElem?_map,q];show some y.1=_;rw[hy]
  have h2:(xs.map (·.1))[j]? = some k:=by rw[List.getElem?_map,B];show some x.1=_;rw[Y]
  exact(List.getElem?_inj (aD.mp Z).1 hn).mp (Z.trans h2.symm)
def gW{Q:Bool->SD->Prop}(h:Q true s):wpAny (model prog w) A (eqBool .none .none) Q E s:=by
 unfold eqBool;rw[if_pos (by rfl)];exact Wb (bP (aA h))
def KD.inj{h:Heap}{x y:Option Tr}{v:VL}(a:KD h x v)(b:KD h y v):x=y:=by
 cases x with
 |none=>
  cases y with
  |none=>rfl
  |some t=>
   obtain⟨_,e,_⟩:=b;rw[show v=.none from a]at e;cases e
 |some u=>
  cases y with
  |none=>
   obtain⟨_,e,_⟩:=a;rw[show v=.none from b]at e;cases e
  |some t=>
   obtain⟨a1,U,T⟩:=a;obtain⟨a2,g,B⟩:=b;rw[U]at g;cases g;obtain⟨_,i1,b1,b2⟩:=T;obtain⟨_,i2,Z,Y⟩:=B;have:i1=i2:=by simpa using Im b1 Z
   subst this;rw[Vs.inj b2 Y]
def b7{Q:Option Nat->SD->Prop}(hu:A.units+8<cLine)(hk:KD s.heap k kv)(ho:s.heap.get? d=some o)(hd:o.data=.dict es ep)(he:es.toList=xs.map Ef)(his:∀x∈xs,KD s.heap x.1 x.2.1)(hn:(xs.map (·.1)).Nodup)(U:∀x∈xs,CG x.1=CG k->x.1=k) (hno:(∀x∈xs,x.1≠k)->Q none s)(Y:∀(j:Nat) (x:KE),xs[j]? = some x->x.1=k->Q (some j) s):wpAny (model prog w) A (dictFind d kv (CG k)) Q E s:=by
 unfold dictFind
 try with_reducible refine aS ?_
 refine Wb (wpAny_dictEntries ho hd ?_);cases k with
 |none=>
  have hk:kv=.none:=hk;subst hk;dsimp only;by_cases g:∃x∈xs,x.1=none
  .obtain⟨x,hm,g⟩:=g;obtain⟨j,hj⟩:=bV.mp hm;have hp:=Qz (k:=none) he U hn hj g;have B:es[j]? = some ⟨CG none,.none,x.2.2⟩:=by
    rw[Ml he,hj];have h1:=his x hm;rw[g]at h1;show some (Ef x)=_;unfold Ef;rw[g,show x.2.1=Value.none from h1]
   rw[hp];rw[if_pos (by simp[B,carriedByValue])];unfold dictWalkPlain;simp only[List.forIn_cons,List.forIn_nil,B];refine Wb (Wb ?_);rw[if_pos (by simp)];refine Wb (wpAny_dictEpoch ho hd (Wb (gW (Wb (wpAny_dictEpoch ho hd ?_)))));rw[if_neg (by simp),if_pos rfl];exact Wb (bP (aA (aA (aA (Y j x hj g)))))
  .have hp:=Tg (k:=none) he U fun x hm z=>g ⟨x,hm,z⟩;rw[hp,if_pos (by simp[carriedByValue])];unfold dictWalkPlain;simp only[List.forIn_nil];exact Wb (aA (aA (hno fun x hm z=>g ⟨x,hm,z⟩)))
 |some t=>
  obtain⟨a,rfl,T⟩:=hk;dsimp only;have hany:¬(es.any fun e=>e.key==Value.ref a&&e.hash != CG (some t))=true:=by
   intro z;rw[<-Array.any_toList,he,List.any_eq_true]at z;obtain⟨e,hm,z⟩:=z;obtain⟨x,g,rfl⟩:=aR.mp hm;rw[Bool.and_eq_true]at z;have h1:x.2.1=.ref a:=by simpa[Ef]using z.1
   have h2:=his x g;rw[h1]at h2;have h3:=h2.inj (show KD s.heap (some t) (.ref a) from⟨a,rfl,T⟩);have h4:=z.2;rw[Ef,h3]at h4;simp at h4
  by_cases g:∃x∈xs,x.1=some t
  .obtain⟨x,hm,g⟩:=g;obtain⟨j,hj⟩:=bV.mp hm;have hp:=Qz (k:=some t) he U hn hj g;have h1:=his x hm;rw[g]at h1;obtain⟨b,hb,htb⟩:=h1;have B:es[j]? = some ⟨CG (some t),.ref b,x.2.2⟩:=by
    rw[Ml he,hj];show some (Ef x)=_;unfold Ef;rw[g,hb]
   have hst:([j].filterMap fun i=>es[i]?.map (·.key))=[.ref b]:=by simp[B]
   rw[hp,hst,if_neg (by simp[carriedByValue]),if_neg hany];by_cases Z:(([Value.ref b]:List VL)==[Value.ref a])=true<;>(first|rw[if_pos Z]|rw[if_neg Z])<;>(first|refine Wb (aA ?_)|refine Wb (wpAny_tableMayTell_quiet (knd:=Kt prog w) T (fun v hv=>⟨t,b,List.mem_singleton.mp hv,htb⟩) ?_))<;>(
    rw[if_neg (by simp)];simp only[List.forIn_cons,List.forIn_nil,B];refine Wb (Wb ?_);rw[if_pos (by simp)];refine Wb (wpAny_dictEpoch ho hd (Wb ((Kt prog w).eqBool (x:=t) (y:=t) hu htb T (Wb (wpAny_dictEpoch ho hd ?_)))));rw[if_neg (by simp),if_pos (by simp),if_neg (by simp)];refine Wb (bP ?_);rw[if_pos (by simp)];exact aA (aA (aA (Y j x hj g))))
  .have hp:=Tg (k:=some t) he U fun x hm z=>g ⟨x,hm,z⟩;rw[hp,if_neg (by simp[carriedByValue]),if_neg hany];rw[if_neg (by simp)];refine Wb (wpAny_tableMayTell_quiet (knd:=Kt prog w) T (fun v hv=>by cases hv) ?_);rw[if_neg (by simp)];simp only[List.forIn_nil];exact Wb (aA (aA (hno fun x hm z=>g ⟨x,hm,z⟩)))
def Z2{Q:Int->SD->Prop}(Y:A.units+8<cLine)(B:KD s.heap k kv)(h:Q (CG k) {s with toks:=s.toks+Fp k}):wpAny (model prog w) A (pyHash kv) Q E s:=by
 cases k with
 |some t=>
  obtain⟨a,rfl,T⟩:=B;exact(Kt prog w).pyHash Y T h
 |none=>
  have B:kv=.none:=B;subst B;have g:s.TypeIs .none "NoneType" := rfl;unfold pyHash pyHashByItsType;have U:[Value.none].any Value.onHeap=false:=rfl;refine Wb ?_;rw[cRoomFor,if_neg (by rw[U];exact aO)];refine aA ?_;refine Wb (bS g F.slot_NoneType_hash.lookup ?_);show wpAny _ _ (if(some (Value.builtin "NoneType.__hash__")==some Value.none)=true then _ else _) Q E s;rw[if_neg (by rw[beq_builtin_none];exact aO)];refine Wb (bS g F.slot_NoneType_hash.lookup ?_);show wpAny _ _ (callSpecialIfBoundUnlessNone? .none "__hash__" _>>=_) Q E s;refine Wb (wpAny_callSpecialIfBoundUnlessNone?_slot g F.slot_NoneType_hash
   (aW F.slot_NoneType_hash g F.entry_NoneType_hash
    (show wpAny _ _ (do ret (<-mkInt 4238894112)) _ _ s from wpAny_ret_mkInt ?_) (F.args_NoneType_hash_1 _)))
  show wpAny _ _ (if(decide (-(2:Int)^63<=4238894112)&&decide ((4238894112:Int)<2^63))=true then _ else _) Q E _;rw[if_pos (by decide)];exact aA h
def Gr(xs:List KE)(k:Option Tr):Option KE:=xs.find? fun x=>decide (x.1=k)
def Qx(hn:(xs.map (·.1)).Nodup){j:Nat}{x:KE}(g:xs[j]? = some x)(B:x.1=k):Gr xs k=some x:=by
 unfold Gr;cases q:xs.find? (fun x=>decide (x.1=k)) with
 |none=>exact absurd (bc B) (bW.mp q x (aH g))
 |some y=>
  have U:y.1=k:=by simpa using List.find?_some q
  obtain⟨i,hi⟩:=bV.mp (List.mem_of_find?_eq_some q);have T:(xs.map (·.1))[i]? = some k:=by rw[List.getElem?_map,hi];show some y.1=_;rw[U]
  have Y:(xs.map (·.1))[j]? = some k:=by rw[List.getElem?_map,g];show some x.1=_;rw[B]
  have:=(List.getElem?_inj (aD.mp T).1 hn).mp (T.trans Y.symm);subst this;rw[hi]at g;exact g
def Qv(h:∀x∈xs,x.1≠k):Gr xs k=none:=bW.mpr fun x g=>by simpa using h x g
structure Kc(h:Heap)(d:Addr)(xs:List KE):Prop where
 ob:∃o es ep,h.get? d=some o/\o.ExactDict/\o.data=.dict es ep/\es.toList=xs.map Ef
 ks:∀x∈xs,KD h x.1 x.2.1
 nd:(xs.map (·.1)).Nodup
def Kc.ty(hm:Kc s.heap d xs):s.TypeIs (.ref d) "dict" := let⟨o,_,_,g,B,_⟩:=hm.ob;⟨o,g,B.1⟩
def f9{Q:Option VL->SD->Prop}(T:A.units+8<cLine)(Y:KD s.heap k kv)(hm:Kc s.heap d xs)(B:∀x∈xs,CG x.1=CG k->x.1=k)(h:Q ((Gr xs k).map (·.2.2)) {s with toks:=s.toks+Fp k}):wpAny (model prog w) A (dictGet d kv) Q E s:=by
 obtain⟨o,es,ep,U,_,hd,he⟩:=hm.ob;unfold dictGet
 try with_reducible refine aS ?_
 refine Wb (Z2 T Y (Wb (b7 (s:={s with toks:=s.toks+Fp k}) T Y U hd he hm.ks hm.nd B (fun g=>?_) fun j x Z hx=>?_)))
 .rw[Qv g]at h;exact aA h
 .rw[Qx hm.nd Z hx]at h;refine Wb (wpAny_dictEntries (s:={s with toks:=s.toks+Fp k}) U hd ?_);rw[Ml he j,Z];exact aA h
def mK{x:KE}{Q:sC}(T:A.in1.units+8<cLine)(U:KD s.heap k kv)(hm:Kc s.heap d xs)(g:∀x∈xs,CG x.1=CG k->x.1=k)(B:Gr xs k=some x)(h:Q x.2.2 {s with toks:=s.toks+Fp k}):wpAny (model prog w) A (getItem (.ref d) kv) Q E s:=by
 unfold getItem
 try with_reducible refine aS ?_
 refine Wb (wpAny_sequenceKey hm.ty (by decide) ?_);refine Wb (aX (name:=Str.ofString "__getitem__") hm.ty slot_dict_getitem (aW slot_dict_getitem hm.ty entry_dict_getitem ?_ (args_dict_getitem _ _)));show wpAny _ _ (dictGet d kv>>=_) _ _ s;refine Wb (f9 T U hm g ?_);rw[B];exact aA ⟨x.2.2,rfl,wpAny_pure h⟩
def p6{Q:sC}(T:A.in1.units+8<cLine)(U:KD s.heap k kv)(hd:(d==sysModules)=false)(hm:Kc s.heap d xs)(g:∀x∈xs,CG x.1=CG k->x.1=k)(neg:Bool) (h:Q (.bool (if neg then !(Gr xs k).isSome else(Gr xs k).isSome)) {s with toks:=s.toks+Fp k}):wpAny (model prog w) A (compareOp (if neg then .NotIn else .In) kv (.ref d)) Q E s:=by
 have key:∀ {Q:Bool->SD->Prop},Q (Gr xs k).isSome {s with toks:=s.toks+Fp k}->wpAny (model prog w) A (contains (.ref d) kv) Q E s:=fun {Q} h=>by
  unfold contains
  try with_reducible refine aS ?_
  refine Wb (bS hm.ty slot_dict_contains.lookup ?_);show wpAny _ _ (if(some (Value.builtin "dict.__contains__")==some Value.none)=true then _ else _) _ E s;rw[if_neg (by rw[beq_builtin_none];exact aO)];refine Wb (wpAny_callSpecialUnlessNone?_slot (name:=Str.ofString "__contains__") hm.ty slot_dict_contains (aW slot_dict_contains hm.ty entry_dict_contains ?_ (args_dict_contains _ _)));show wpAny _ _ (dictGet d kv>>=_) _ _ s;refine Wb (f9 T U hm g ?_);cases B:Gr xs k with
  |some p=>
   rw[B]at h;show wpAny _ _ (ret (.bool true)) _ _ _;exact aA ⟨_,rfl,wpAny_truthy_bool h⟩
  |none=>
   rw[B]at h;show wpAny _ _ (Builtin.Dict.pendingKey? d kv>>=_) _ _ _;exact Wb (wpAny_pendingKey_other hd (aA ⟨_,rfl,wpAny_truthy_bool h⟩))
 cases neg with
 |false=>
  show wpAny _ _ (do return .bool (<-contains (.ref d) kv)) Q E s;exact Wb (key (aA h))
 |true=>
  show wpAny _ _ (do return .bool (!(<-contains (.ref d) kv))) Q E s;exact Wb (key (aA h))
def putN(k:Option Tr)(v:VL)(x:KE):KE:=if x.1=k then(x.1,x.2.1,v) else x
def IL(xs:List KE)(k:Option Tr)(kv v:VL):List KE:=if(Gr xs k).isSome then xs.map (putN k v) else xs++[(k,kv,v)]
def VB(v:VL):∀xs:List KE,(xs.map (putN k v)).map (·.1)=xs.map (·.1)
 |[]=>rfl
 |x::xs=>by
  rw[List.map_cons,List.map_cons,List.map_cons,VB v xs]
  congr 1
  unfold putN;split<;>rfl
def Q3{v:VL}:∀ {xs:List KE} {j:Nat} {x:KE},(xs.map (·.1)).Nodup->xs[j]? = some x->x.1=k->(xs.map Ef).modify j (fun e=>{e with val:=v})=(xs.map (putN k v)).map Ef
 |[],_,_,_,h,_=>by simp at h
 |y::ys,0,x,hn,h,g=>by
  have:y=x:=by simpa using h
  subst this;rw[List.map_cons,List.nodup_cons]at hn;rw[List.map_cons,List.map_cons,List.map_cons];have B:ys.map (putN k v)=ys:=by
   refine(av fun z T=>?_).trans (List.map_id _);unfold putN;rw[if_neg fun e=>hn.1 (by rw[g,<-e];exact List.mem_map_of_mem T)]
   rfl
  rw[B];show { Ef y with val:=v}::ys.map Ef=_
  congr 1
  unfold putN;rw[if_pos g]
  rfl
 |y::ys,j+1,x,hn,h,g=>by
  have h':ys[j]? = some x:=by simpa using h
  rw[List.map_cons,List.nodup_cons]at hn;rw[List.map_cons,List.map_cons,List.map_cons];have U:putN k v y=y:=by
   unfold putN;rw[if_neg fun e=>hn.1 (by rw[e,<-g];exact List.mem_map_of_mem (aH h'))]
  rw[U];show Ef y::(ys.map Ef).modify j _=_;rw[Q3 hn.2 h' g]
def KD.keep{h h':Heap}{k:Option Tr}{v:VL}{o:Obj}{es ep}(a:KD h k v)(prog:Program)(w:World)(T:h.get? d=some o)(hd:o.data=.dict es ep)(g:Heap.SameBut d h h'):KD h' k v:=by
 cases k with
 |none=>exact a
 |some t=>
  obtain⟨a1,U,B⟩:=a;exact⟨a1,U,(Kt prog w).keeps B T hd g⟩
def o9{v:VL}{Q:Unit->SD->Prop}(hu:A.in1.units+8<cLine)(hk:KD s.heap k kv)(hm:Kc s.heap d xs)(hap:∀x∈xs,CG x.1=CG k->x.1=k)(hz:xs.length<=sizeLine) (hQ:∀h',Kc h' d (IL xs k kv v)->Heap.SameBut d s.heap h'->Q () {s with heap:=h',toks:=s.toks+Fp k}):wpAny (model prog w) A (setItem (.ref d) kv v) Q E s:=by
 unfold setItem
 try with_reducible refine aS ?_
 refine Wb (wpAny_sequenceKey hm.ty (by decide) ?_);refine Wb (aX (name:=Str.ofString "__setitem__") hm.ty slot_dict_setitem (aW slot_dict_setitem hm.ty entry_dict_setitem ?_ (args_dict_setitem _ _ _)));show wpAny _ _ (Builtin.Dict.notOrdered "__setitem__" ⟨[.ref d,kv,v],[]⟩>>=_) _ _ s;refine Wb (wpAny_notOrdered_dict hm.ty ?_);show wpAny _ _ (dictSet d kv v>>=_) _ _ s;refine Wb ?_;have fin:∀h',Kc h' d (IL xs k kv v)->Heap.SameBut d s.heap h'->wpAny (model prog w) A.in1 (ret .none) (fun fin s'=>∃v,fin=.done (.ret v)/\wpAny (model prog w) A (pure ()) Q E s') E {s with heap:=h',toks:=s.toks+Fp k}:=fun h' h1 h2=>aA ⟨.none,rfl,wpAny_pure (hQ h' h1 h2)⟩;obtain⟨o,es,ep,g,hc,hd,Y⟩:=hm.ob;unfold dictSet
 try with_reducible refine aS ?_
 refine Wb (Z2 hu hk ?_);unfold dictSetHashed
 try with_reducible refine aS ?_
 refine Wb (b7 (s:={s with toks:=s.toks+Fp k}) hu hk g hd Y hm.ks hm.nd hap (fun U=>?_) fun j x hj hx=>?_)
 .have B:IL xs k kv v=xs++[(k,kv,v)]:=by unfold IL;rw[Qv U];rfl
  rw[B]at fin;refine Wb (bP (wpAny_updateDictKeys (hz:=by rw[U4 Y];exact hz) (s:={s with toks:=s.toks+Fp k}) g hd (fin _ ⟨⟨_,_,ep+1,Heap.get?_update_self _ g (Obj.isFreed_of_dict (Obj.data_mapDictKeys hd _)),hc.mapDictKeys _,Obj.data_mapDictKeys hd _,?_⟩,fun y T=>?_,?_⟩ (ab ..))))
  .simp[Y,Ef]
  .rcases bI.mp T with h|h
   .exact(hm.ks y h).keep prog w g hd (ab ..)
   .rw[List.mem_singleton.mp h];exact hk.keep prog w g hd (ab ..)
  .rw[List.map_append,List.nodup_append];refine⟨hm.nd,by simp,fun a ha b hb=>?_⟩;have:b=k:=by simpa using hb
   subst this;obtain⟨y,T,rfl⟩:=aR.mp ha;exact U y T
 .have B:IL xs k kv v=xs.map (putN k v):=by unfold IL;rw[Qx hm.nd hj hx];rfl
  rw[B]at fin;refine Wb (bP (Wb (wpAny_updateDict (s:={s with toks:=s.toks+Fp k}) g hd (wpAny_point (fin _ ⟨⟨_,_,ep,Heap.get?_update_self _ g (Obj.isFreed_of_dict (Obj.data_mapDict hd _)),hc.mapDict _,Obj.data_mapDict hd _,?_⟩,fun y T=>?_,?_⟩ (ab ..))))))
  .have:=Q3 (v:=v) hm.nd hj hx;rw[<-Y]at this;obtain⟨l⟩:=es
   simpa using this
  .obtain⟨z,Z,rfl⟩:=aR.mp T;unfold putN;split<;>exact(hm.ks z Z).keep prog w g hd (ab ..)
  .rw[VB];exact hm.nd
end
end TH
namespace L2
open PySem PySem.Spec PyProof.Rows
abbrev KR:=Option Tr×V×V
def Sg(q:KR)(x:TH.KE):Prop:=x.1=q.1/\RelV q.2.1 x.2.1/\RelV q.2.2 x.2.2
def dN(d:AD)(r:List KR):HO:=.ext fun h=>(d==sysModules)=false/\∃o es ep xs,h.get? d=some o/\o.ExactDict/\o.data=.dict es ep/\es.toList=xs.map TH.Ef/\PySem.Paired Sg r xs
def J7(H:Hp):Option Tr->V->Prop
 |none,v=>v=.B4
 |some t,v=>t.deep<8/\Tv H t v
def J7.same{H H':Hp}{k:Option Tr}{v:V}(h:J7 H k v)(e:AL H H'):J7 H' k v:=by
 cases k with
 |none=>exact h
 |some t=>exact⟨h.1,h.2.same e⟩
structure VM(H:Hp)(d:Addr)(r:List KR)(k:Option Tr):Prop where
 at_:H d=some (dN d r)
 ks:∀q∈r,J7 H q.1 q.2.1
 nd:(r.map (·.1)).Nodup
 ap:∀q∈r,TH.CG q.1=TH.CG k->q.1=k
def RO{α β:Type}{R:α->β->Prop}{l:List α}{m:List β}(h:PySem.Paired R l m):∀x∈m,∃q∈l,R q x:=by
 induction h with
 |nil=>intro x g;cases g
 |cons a _ B=>
  intro x g;rcases aN.mp g with rfl|g
  .exact⟨_,.head _,a⟩
  .obtain⟨q,U,T⟩:=B x g;exact⟨q,.tail _ U,T⟩
def T5{r:List KR}{xs:List TH.KE}(h:PySem.Paired Sg r xs):xs.map (·.1)=r.map (·.1):=by
 induction h with
 |nil=>rfl
 |cons a _ g=>rw[List.map_cons,List.map_cons,g,a.1]
section
variable{X:Cx}{pins:List (AD×Obj)}{σ:St}{H:Hp}{s:SD}{pos:Pos}
def J7.raw(I:Inv X pins σ H s){k:Option Tr}{v:V}{u:VL}(h:J7 H k v)(r:RelV v u):TH.KD s.heap k u:=by
 cases k with
 |none=>
  have h:v=.B4:=h;subst h;exact r
 |some t=>
  obtain⟨Y,a,ys,rfl,U,T⟩:=h;obtain⟨g,B,p,_⟩:=I.tuple (BN.of (K:=X.K) U);exact⟨a,r,Y,g,p,T.vs I B⟩
def U1(I:Inv X pins σ H s){d:AD}{r:List KR}{k:Option Tr}(h:VM H d r k):(d==sysModules)=false/\∃xs,TH.Kc s.heap d xs/\PySem.Paired Sg r xs/\∀x∈xs,TH.CG x.1=TH.CG k->x.1=k:=by
 obtain⟨Y,o,es,ep,xs,g1,g2,g3,g4,g⟩:=(show Dj X.prog X.w H s.heap d (dN d r) from I.BA d _ h.at_).1;refine⟨Y,xs,⟨⟨o,es,ep,g1,g2,g3,g4⟩,fun x B=>?_,by rw[T5 g];exact h.nd⟩,g,fun x B=>?_⟩
 .obtain⟨q,U,T,Z,_⟩:=RO g x B;rw[T];exact(h.ks q U).raw I Z
 .obtain⟨q,U,T,_⟩:=RO g x B;rw[T];exact h.ap q U
def Qd{r:List KR}{xs:List TH.KE}(h:PySem.Paired Sg r xs)(k:Option Tr):match r.find? (fun q=>decide (q.1=k)) with
  |some q=>∃x,TH.Gr xs k=some x/\RelV q.2.2 x.2.2
  |none=>TH.Gr xs k=none:=by
 induction h with
 |nil=>exact rfl
 | @cons q x l m a _ g=>
  unfold TH.Gr at g ⊢;rw[List.find?_cons,List.find?_cons,a.1];by_cases z:q.1=k
  .simp only[decide_eq_true z];exact⟨x,rfl,a.2.2⟩
  .simp only[decide_eq_false z];exact g
def qc:R2:=fun x y H Q=>∃d r k q,x=.ref d/\J7 H k y/\VM H d r k/\r.find? (fun q=>decide (q.1=k))=some q/\Q q.2.2 H
def jg{o i:Expr}{T ty:TE}(hu:X.A.units+64<cLine)(ho:PE X o T)(hi:PE X i ty)(hs:jx i):PE X (.Subscript o i pos) (Zg qc T ty):=by
 intro pins s σ H Q I h;refine ij PySem.F.slot_dict_getitem.lookup hs (Bc (ho pins s σ H _ I h) fun u s1 ⟨x,H1,I1,Z,q1⟩=>Bc (hi pins s1 σ H1 _ I1 q1) fun iv s2 ⟨y,H2,B,Y,q2⟩=>?_);obtain⟨d,r,k,q,rfl,hk,hD,hf,q3⟩:=q2;obtain rfl:u=Value.ref d:=Z;obtain⟨hsm,xs,hm,hp,g⟩:=U1 B hD;have U:=Qd hp k;rw[hf]at U;obtain⟨x,h1,h2⟩:=U;exact⟨hm.ty,TH.mK (by show X.A.in1.units+8<cLine;rw[Around.in1_units];lia) (hk.raw B Y) hm g h1 ⟨q.2.2,H2,B.tok _,h2,q3⟩⟩
def qg(neg:Bool):R2:=fun x y H Q=>∃d r k,y=.ref d/\J7 H k x/\VM H d r k/\Q (.bl (if neg then !(r.find? (fun q=>decide (q.1=k))).isSome else(r.find? (fun q=>decide (q.1=k))).isSome)) H
def kd(hu:X.A.units+64<cLine)(neg:Bool):DC X (compareOp (if neg then .NotIn else .In)) (qg neg):=by
 intro pins s σ H x y v u Q I Y U h;obtain⟨d,r,k,rfl,hk,hD,q⟩:=h;obtain rfl:u=Value.ref d:=U;obtain⟨g,xs,hm,Z,T⟩:=U1 I hD;have B:=Qd Z k;have e:(TH.Gr xs k).isSome=(r.find? (fun q=>decide (q.1=k))).isSome:=by
  split at B
  .rename_i q e;obtain⟨x,h1,_⟩:=B;rw[h1,e];rfl
  .rename_i e;rw[B,e];rfl
 refine TH.p6 (by show X.A.in1.units+8<cLine;rw[Around.in1_units];lia) (hk.raw I Y) g hm T neg ?_;rw[e];exact⟨.bl _,H,I.tok _,rfl,q⟩
def G6(r:List KR)(k:Option Tr)(g v:V):List KR:=if(r.find? (fun q=>decide (q.1=k))).isSome then r.map (fun q=>if q.1=k then(q.1,q.2.1,v) else q) else r++[(k,g,v)]
def gJ{r:List KR}{xs:List TH.KE}{k:Option Tr}{B v:V}{T u:VL}(h:PySem.Paired Sg r xs)(Y:RelV B T)(U:RelV v u):PySem.Paired Sg (G6 r k B v) (TH.IL xs k T u):=by
 have g:=Qd h k;unfold G6 TH.IL;split at g
 .rename_i q e;obtain⟨x,Z,_⟩:=g;rw[Z,e];simp only[Option.isSome_some,if_true];clear e Z Y
  induction h with
  |nil=>exact .nil
  | @cons q x l m a _ ih=>
   rw[List.map_cons,List.map_cons];refine .cons ?_ ih;unfold TH.putN;rw[a.1];by_cases z:q.1=k
   .rw[if_pos z,if_pos z];exact⟨rfl,a.2.1,U⟩
   .rw[if_neg z,if_neg z];exact a
 .rename_i e;rw[g,e];exact h.snoc ⟨rfl,Y,U⟩
def nO:YL:=fun o i v H Q=>∃d r k,o=.ref d/\J7 H k i/\VM H d r k/\r.length<=1000/\Q (upd H d (dN d (G6 r k i v)))
def jY(hu:X.A.units+64<cLine):cV X nO:=by
 intro pins s σ H o i v ov iv u Q I ro Y rv h;obtain⟨d,r,k,rfl,hk,hD,hl,q⟩:=h;obtain rfl:ov=Value.ref d:=ro;obtain⟨g,xs,hm,Z,T⟩:=U1 I hD;have hle:xs.length=r.length:=by have:=bL List.length (T5 Z);simpa using this
 refine TH.o9 (by show X.A.in1.units+8<cLine;rw[Around.in1_units];lia) (hk.raw I Y) hm T (aQ (by lia:xs.length<=1000) (by rw[sizeLine_eq];decide)) fun h' B sb=>?_;obtain⟨o',es,ep,U,g2,g3,g4⟩:=B.ob;refine⟨_,I.write (x:=d) (e:=d) (o:=dN d (G6 r k i v)) (t':=s.toks+TH.Fp k) (by rw[hD.at_];exact trivial) (.inl rfl) (fun b w' hb e=>(sb.2 b hb).trans e) ⟨o',U⟩ ?_,q⟩;exact⟨⟨g,o',es,ep,_,U,g2,g3,g4,gJ Z Y rv⟩,⟨o',U⟩,fun h1 h2 ⟨a,o,es,ep,xs,q,r⟩ k=>⟨a,o,es,ep,xs,k _ q,r⟩⟩
def mw:TE:=fun _ H Q=>∀p,H p=none->Q (.ref p) (upd H p (dN p []))
def cU:PE X (.Dict [] [] pos) mw:=fun pins s σ H Q I h=>by
 refine wpAny_Dict_empty ⟨.ref s.heap.objs.size,_,I.laid (a:=s.heap.objs.size) (o:=dN s.heap.objs.size []) (t':=s.toks) (fun _ _ q=>aE _ q) (aG _) ?_,rfl,h _ (I.BA.fresh (aG _))⟩;have g:sysModules<s.heap.objs.size:=bZ (by decide) (I.mod.glob.keeps I.bk).lt;have hn:(s.heap.objs.size==sysModules)=false:=beq_eq_false_iff_ne.mpr (Ne.symm (aK g));exact⟨⟨hn,_,#[],0,[],Heap.get?_push_size _ rfl,⟨rfl,rfl,rfl⟩,rfl,rfl,.nil⟩,⟨_,Heap.get?_push_size _ rfl⟩,fun U T ⟨a,o,es,ep,xs,q,r⟩ k=>⟨a,o,es,ep,xs,k _ q,r⟩⟩
def find_key{r:List KR}{k:Option Tr}{q:KR}(h:r.find? (fun q=>decide (q.1=k))=some q):q∈r/\q.1=k:=⟨List.mem_of_find?_eq_some h,by simpa using List.find?_some h⟩
end
section
variable{X:Cx}
def cP(hc:X.calm=true):Ey X (.builtin "sum") (fun xs H Q=>∃(p:AD) (ns:sI),xs=[.ref p]/\BN X.K H p (ns.map V.int)/\Q (.int ns.sum) H):=by
 intro pins s σ H xs us Q I r h;obtain⟨p,ns,rfl,hq,q⟩:=h;obtain⟨u,rfl,r1⟩:=r.one;cases r1;obtain⟨U,rv,pl,hz⟩:=I.tuple hq;have hi:=intsAre_of rv;obtain⟨xs,Z⟩:=hi.allInts.items;have g:s.heap.IsTuple p (intItems xs):=Z ▸ pl
 have T:p<s.heap.objs.size:=by obtain⟨_,e,_⟩:=g;exact aF e
 have e1:ns=xs.toList.map (·.1):=by
  rw[<-nums_intItems,<-Z];exact(show numsOf U.toArray.toList=ns from hi.numsOf).symm
 have e2:preSum (numAt xs) xs.size=ns.sum:=by
  rw[preSum_eq,List.take_of_length_le (by simp),e1]
 refine call_sum_walkG (wpAny_pyIter_tuple g ?_);refine⟨_,[_,p],[_],_,_,_,numAt xs,rfl,Walks.tuple (A:=X.A.in1) (I.ok.hd hc) _ p (aK T) (intItems xs),
  ⟨⟨_,Heap.get?_push_size _ rfl,rfl,rfl⟩,g.push _⟩,fun c B=>?_,(fun _ _=>intItems_at),fun h' tk Y hk=>?_⟩
 .show c<(s.heap.push _).objs.size;rw[Heap.size_push];rcases aN.mp B with rfl|B
  .exact bN _
  .rw[List.mem_singleton.mp B];exact bQ T
 .have e3:preSum (numAt xs) (intItems xs).size=ns.sum:=by
   rw[<-e2];simp[intItems]
  rw[e3];exact⟨.int _,H,I.kept (t':=tk) (PyProof.Rows.LSm.kept_iter hk),⟨Y,rfl⟩,q⟩
end
end L2
namespace L2
open PySem PySem.Spec PyProof.Rows
def Rd.same{H H':Hp}{a:AD}{u:HO}(e:AL H H')(h:Rd H a u):Rd H' a u:=by
 rcases h with h|⟨o,h⟩
 .exact .inl (e _ _ h)
 .exact .inr ⟨o,e _ _ h⟩
def Bk:Tr->List PD
 |.nil=>[]
 |.cons b r=>.tuple (Bk b)::Bk r
def k8:Option Tr->PD
 |none=>.none
 |some t=>.tuple (Bk t)
mutual
def Du(H:Hp):PD->V->Prop
 |.none,v=>v=.B4
 |.bool b,v=>v=.bl b
 |.int i,v=>v=.int i
 |.str x,v=>v=.str x
 |.tuple T,v=>∃a xs,v=.ref a/\H a=some (.tup xs)/\Av H T xs
 |.list T,v=>∃a xs,v=.ref a/\H a=some (.lst xs)/\Av H T xs
 |.dict g,v=>(∃B C:AD,g=[(.int (C:Nat),.none)]/\v=.ref B/\H B=some (qU B (.ref C)))\/(∃(a:AD) (ns:List Int),g=[(.none,.list (ns.map .int))]/\v=.ref a/\Rd H a (.lst (ns.map V.int)))\/Mq H g v
def Av(H:Hp):List PD->List V->Prop
 |[],xs=>xs=[]
 |d::g,xs=>∃x r,xs=x::r/\Du H d x/\Av H g r
def Mq(H:Hp):List (PD×PD)->V->Prop
 |[],_=>False
 |(g,B)::t,v=>g=.bool true/\B=.none/\∃a r,v=.ref a/\H a=some (dN a r)/\(r.map (·.1)).Nodup/\Mc H t r
def Mc(H:Hp):List (PD×PD)->List KR->Prop
 |[],r=>r=[]
 |(k,d)::t,r=>∃q g,r=q::g/\k=k8 q.1/\J7 H q.1 q.2.1/\Du H d q.2.2/\Mc H t g
end
mutual
def Du.same{H H':Hp}(e:AL H H'):∀ {d:PD} {v:V},Du H d v->Du H' d v
 |.none,_,h=>by rw[Du]at h ⊢;exact h
 |.bool _,_,h=>by rw[Du]at h ⊢;exact h
 |.int _,_,h=>by rw[Du]at h ⊢;exact h
 |.str _,_,h=>by rw[Du]at h ⊢;exact h
 |.tuple _,_,h=>by
  rw[Du]at h ⊢;obtain⟨a,xs,B,g,T⟩:=h;exact⟨a,xs,B,e _ _ g,Av.same e T⟩
 |.list _,_,h=>by
  rw[Du]at h ⊢;obtain⟨a,xs,B,g,T⟩:=h;exact⟨a,xs,B,e _ _ g,Av.same e T⟩
 |.dict _,_,h=>by
  rw[Du]at h ⊢;rcases h with ⟨Y,C,B,U,g⟩|⟨a,ns,B,U,g⟩|h
  .exact .inl ⟨Y,C,B,U,e _ _ g⟩
  .exact .inr (.inl ⟨a,ns,B,U,g.same e⟩)
  .exact .inr (.inr (Mq.same e h))
def Av.same{H H':Hp}(e:AL H H'):∀ {ds:List PD} {xs:List V},Av H ds xs->Av H' ds xs
 |[],_,h=>by rw[Av]at h ⊢;exact h
 |_::_,_,h=>by
  rw[Av]at h ⊢;obtain⟨x,r,T,B,g⟩:=h;exact⟨x,r,T,Du.same e B,Av.same e g⟩
def Mq.same{H H':Hp}(e:AL H H'):∀ {g:List (PD×PD)} {v:V},Mq H g v->Mq H' g v
 |[],_,h=>by rw[Mq]at h;exact h.elim
 |(_,_)::_,_,h=>by
  rw[Mq]at h ⊢;obtain⟨h1,Z,a,r,Y,U,T,B⟩:=h;exact⟨h1,Z,a,r,Y,e _ _ U,T,Mc.same e B⟩
def Mc.same{H H':Hp}(e:AL H H'):∀ {g:List (PD×PD)} {r:List KR},Mc H g r->Mc H' g r
 |[],_,h=>by rw[Mc]at h ⊢;exact h
 |(_,_)::_,_,h=>by
  rw[Mc]at h ⊢;obtain⟨q,B,h1,Z,Y,U,T⟩:=h;exact⟨q,B,h1,Z,Y.same e,Du.same e U,Mc.same e T⟩
end
mutual
def Du.br{K:Fg}{H:Hp}:∀ {d:PD} {v:V},d.canLay0=true->Du H d v->Br K H d v
 |.none,_,_,h=>by rw[Du]at h;rw[Br];exact h
 |.bool _,_,_,h=>by rw[Du]at h;rw[Br];exact h
 |.int _,_,_,h=>by rw[Du]at h;rw[Br];exact h
 |.str _,_,_,h=>by rw[Du]at h;rw[Br];exact h
 |.tuple _,_,c,h=>by
  rw[Du]at h;rw[Br];obtain⟨a,xs,T,B,g⟩:=h;exact⟨a,xs,T,BN.of B,Av.br (by simp only[PyData.canLay0,Bool.and_eq_true]at c;first|exact c|exact c.2|exact c.1) g⟩
 |.list _,_,c,h=>by
  rw[Du]at h;rw[Br];obtain⟨a,xs,T,B,g⟩:=h;exact⟨a,xs,T,Aw.of B,Av.br (by simp only[PyData.canLay0,Bool.and_eq_true]at c;first|exact c|exact c.2|exact c.1) g⟩
 |.dict _,_,c,h=>by simp[PyData.canLay0]at c
def Av.br{K:Fg}{H:Hp}:∀ {ds:List PD} {xs:List V},PyData.canLayAll0 ds=true->Av H ds xs->HU K H ds xs
 |[],_,_,h=>by rw[Av]at h;rw[HU];exact h
 |_::_,_,c,h=>by
  rw[Av]at h;rw[HU];obtain⟨x,r,T,B,g⟩:=h;simp only[PyData.canLayAll0,Bool.and_eq_true]at c;exact⟨x,r,T,Du.br c.1 B,Av.br c.2 g⟩
end
def Av.nil{H:Hp}:Av H [] []:=by rw[Av]
def Av.cons{H:Hp}{d:PD}{ds:rq}{x:V}{xs:sQ}(h:Du H d x)(k:Av H ds xs):Av H (d::ds) (x::xs):=by rw[Av];exact⟨x,xs,rfl,h,k⟩
def Av.un{H:Hp}{d:PD}{ds:rq}{xs:sQ}(h:Av H (d::ds) xs):∃x r,xs=x::r/\Du H d x/\Av H ds r:=by rw[Av]at h;exact h
def Av.nil_eq{H:Hp}{xs:sQ}(h:Av H [] xs):xs=[]:=by rw[Av]at h;exact h
def Av.len{H:Hp}:∀ {ds:List PD} {xs:List V},Av H ds xs->xs.length=ds.length
 |[],_,h=>by rw[h.nil_eq];rfl
 |_::_,_,h=>by obtain⟨x,r,rfl,_,g⟩:=h.un;simp[g.len]
def Av.get{H:Hp}:∀ {ds:List PD} {xs:List V} {i:Nat} {d:PD},Av H ds xs->ds[i]? = some d->∃v,xs[i]? = some v/\Du H d v
 |[],_,i,_,_,e=>by simp at e
 |_::_,_,0,_,h,e=>by
  obtain⟨x,r,rfl,U,_⟩:=h.un;simp at e;subst e;exact⟨x,rfl,U⟩
 |_::_,_,i+1,_,h,e=>by
  obtain⟨x,r,rfl,_,T⟩:=h.un;obtain⟨v,B,g⟩:=T.get (i:=i) (by simpa using e);exact⟨v,by simpa using B,g⟩
def Av.back{H:Hp}{ds:rq}{xs:sQ}{i:Nat}{v:V}(h:Av H ds xs)(e:xs[i]? = some v):∃d,ds[i]? = some d/\Du H d v:=by
 have T:=h.len;have hi:i<ds.length:=by rw[<-T];exact(aD.mp e).1
 have hd:ds[i]? = some ds[i]:=by simp[hi]
 obtain⟨w,g,B⟩:=h.get hd;rw[e]at g;cases g;exact⟨_,hd,B⟩
def Av.app{H:Hp}:∀ {ds es:List PD} {xs ys:List V},Av H ds xs->Av H es ys->Av H (ds++es) (xs++ys)
 |[],_,_,_,h,k=>by rw[h.nil_eq];exact k
 |_::_,_,_,_,h,k=>by obtain⟨x,r,rfl,B,g⟩:=h.un;exact .cons B (g.app k)
def Av.take{H:Hp}:∀ {ds:List PD} {xs:List V} (i:Nat),Av H ds xs->Av H (ds.take i) (xs.take i)
 |_,_,0,_=>by rw[List.take_zero,List.take_zero];exact .nil
 |[],_,i+1,h=>by rw[h.nil_eq];exact .nil
 |_::_,_,i+1,h=>by obtain⟨x,r,rfl,B,g⟩:=h.un;exact .cons B (g.take i)
def Av.drop{H:Hp}:∀ {ds:List PD} {xs:List V} (i:Nat),Av H ds xs->Av H (ds.drop i) (xs.drop i)
 |_,_,0,h=>h
 |[],_,i+1,h=>by rw[h.nil_eq];exact .nil
 |_::_,_,i+1,h=>by obtain⟨x,r,rfl,B,g⟩:=h.un;exact g.drop i
inductive Oc where
 |lst (xs:List PyData)|ZO (kvs:List (List Key×PyData))|WM (kvs:List (Option Tr×PyData))
inductive L where
 |no|d (x:PyData)|own (c:Oc)
abbrev Dv:=List L
abbrev rj:=Dv->Option (List PD)
abbrev rk:=Dv->Option PD
abbrev rp:=Dv->Option Bool
def Sh(G:Hp):List (List Key×PD)->List (List Key×V)->Prop
 |[],r=>r=[]
 |q::t,r=>∃v g,r=(q.1,v)::g/\Du G q.2 v/\Sh G t g
def Sh.same{G g:Hp}(e:AL G g):∀ {t:List (List Key×PD)} {r:List (List Key×V)},Sh G t r->Sh g t r
 |[],r,h=>h
 |q::t,r,h=>by
  obtain⟨v,B,rfl,U,T⟩:=h;exact⟨v,B,rfl,U.same e,Sh.same e T⟩
abbrev fz(kvs:List (Option Tr×PD)):List (PD×PD):=kvs.map fun q=>(k8 q.1,q.2)
abbrev UP(kvs:List (Option Tr×PD)):PD:=.dict ((.bool true,.none)::fz kvs)
def J5(G:Hp)(a:AD):Oc->HO->Prop
 |.lst xs,o=>∃ys,o=.lst ys/\Av G xs ys
 |.ZO kvs,o=>∃r,o=.dT r/\Sh G kvs r
 |.WM kvs,o=>∃r,o=dN a r/\(r.map (·.1)).Nodup/\Mc G (fz kvs) r
def J5.same{G T:Hp}{a:AD}{c:Oc}{o:HO}(h:J5 G a c o)(e:AL G T):J5 T a c o:=by
 cases c with
 |WM kvs=>obtain⟨r,B,g,U⟩:=h;exact⟨r,B,g,Mc.same e U⟩
 |lst xs=>obtain⟨ys,B,g⟩:=h;exact⟨ys,B,g.same e⟩
 |ZO kvs=>obtain⟨ys,B,g⟩:=h;exact⟨ys,B,g.same e⟩
def J5.WA{G:Hp}{a:AD}{c:Oc}{xs:sQ}(h:J5 G a c (.tup xs)):False:=by
 cases c with
 |WM kvs=>obtain⟨r,g,B,T⟩:=h;unfold dN at g;cases g
 |lst xs=>obtain⟨ys,g,B⟩:=h;cases g
 |ZO kvs=>obtain⟨ys,g,B⟩:=h;cases g
def Nw(G0 H0 G:Hp):Prop:=∀a o,G a=some o->G0 a=some o\/H0 a=none\/∃xs,o=HO.tup xs
structure Rw(G0 H0 G H:Hp)(σ:St)(δ:Dv)(ts:List (PyData×V)):Prop where
 ext:AL G0 G
 new:Nw G0 H0 G
 ins:AL G H
 keep:AL H0 H
 len:σ.length=δ.length
 dat:∀(i:Nat) (x:PyData),δ[i]? = some (L.d x)->∃v,σ[i]? = some (some v)/\Du G x v
 own:∀(i:Nat) (xs:Oc),δ[i]? = some (L.own xs)->∃(a:Addr) (ys:HO),σ[i]? = some (some (V.ref a))/\G a=none/\H0 a=none/\H a=some ys/\J5 G a xs ys
 apart:∀(i j:Nat) (xs ys:Oc),i≠j->δ[i]? = some (L.own xs)->δ[j]? = some (L.own ys)->σ[i]?≠σ[j]?
 CN:∀p∈ts,Du G p.1 p.2
def DE(X:Cx)(e:Expr)(f:rk):Prop:=∃t,PE X e t/\∀δ x,f δ=some x->∀G0 H0 G H σ ts (Q:VK),Rw G0 H0 G H σ δ ts->(∀v g H',Rw G0 H0 g H' σ δ ((x,v)::ts)->Q v H')->t σ H Q
def DA(X:Cx)(es:sL)(f:rj):Prop:=∃t,PA X es t/\∀δ xs,f δ=some xs->∀G0 H0 G H σ ts (Q:List V->Hp->Prop),Rw G0 H0 G H σ δ ts->(∀vs g H',Rw G0 H0 g H' σ δ (xs.zip vs++ts)->vs.length=xs.length->Q vs H')->t σ H Q
def DT(X:Cx)(e:Expr)(f:rp):Prop:=∃t,PT X e t/\∀δ b,f δ=some b->∀G0 H0 G H σ ts (Q:Bool->Hp->Prop),Rw G0 H0 G H σ δ ts->(∀g H',Rw G0 H0 g H' σ δ ts->Q b H')->t σ H Q
section
variable{G0 H0 G H:Hp}{σ:St}{δ:Dv}{ts:List (PD×V)}
def Rw.drop{p:PD×V}(r:Rw G0 H0 G H σ δ (p::ts)):Rw G0 H0 G H σ δ ts:={r with CN:=fun q g=>r.CN q (.tail _ g)}
def Rw.less{us:List (PD×V)}(r:Rw G0 H0 G H σ δ ts)(h:∀p∈us,p∈ts):Rw G0 H0 G H σ δ us:={r with CN:=fun q g=>r.CN q (h q g)}
def Rw.put{x:PD}{v:V}(r:Rw G0 H0 G H σ δ ts)(h:Du G x v):Rw G0 H0 G H σ δ ((x,v)::ts):={r with CN:=fun q g=>by rcases aN.mp g with rfl|g;exact h;exact r.CN q g}
def Rw.newObj{p:AD}{o:HO}(r:Rw G0 H0 G H σ δ ts)(g:H p=none):Rw G0 H0 (upd G p o) (upd H p o) σ δ ts:=by
 have hG:G p=none:=by
  cases q:G p with
  |none=>rfl
  |some u=>rw[r.ins _ _ q]at g;cases g
 have h0:H0 p=none:=by
  cases q:H0 p with
  |none=>rfl
  |some u=>rw[r.keep _ _ q]at g;cases g
 have e:AL G (upd G p o):=An hG o;refine⟨r.ext.trans e,fun a u h=>?_,fun a u h=>?_,r.keep.trans (An g o),r.len,fun i x h=>?_,fun i xs h=>?_,r.apart,fun q Z=>(r.CN q Z).same e⟩
 .by_cases ha:a=p
  .subst ha;exact .inr (.inl h0)
  .rw[AJ ha]at h;exact r.new _ _ h
 .by_cases ha:a=p
  .subst ha;rw[AW]at h ⊢;exact h
  .rw[AJ ha]at h ⊢;exact r.ins _ _ h
 .obtain⟨v,T,B⟩:=r.dat i x h;exact⟨v,T,B.same e⟩
 .obtain⟨a,ys,T,B,Y,U,k5⟩:=r.own i xs h;have ha:a≠p:=fun z=>by subst z;rw[U]at g;cases g
  exact⟨a,ys,T,by rw[AJ ha];exact B,Y,by rw[AJ ha];exact U,k5.same e⟩
def Rw.kJ{p:AD}{xs:sQ}{H':Hp}(r:Rw G0 H0 G H σ δ ts)(e:AL H H')(g:H' p=some (.tup xs)):Rw G0 H0 (upd G p (.tup xs)) H' σ δ ts:=by
 have B:AL G (upd G p (.tup xs)):=fun a o h=>by
  by_cases ha:a=p
  .subst ha;have:=e _ _ (r.ins _ _ h);rw[g]at this;rw[AW];exact this
  .rw[AJ ha];exact h
 refine⟨r.ext.trans B,fun a u h=>?_,fun a u h=>?_,r.keep.trans e,r.len,fun i x h=>?_,fun i xs h=>?_,r.apart,fun q hq=>(r.CN q hq).same B⟩
 .by_cases ha:a=p
  .subst ha;rw[AW]at h;cases h;exact .inr (.inr ⟨_,rfl⟩)
  .rw[AJ ha]at h;exact r.new _ _ h
 .by_cases ha:a=p
  .subst ha;rw[AW]at h;rw[g];exact h
  .rw[AJ ha]at h;exact e _ _ (r.ins _ _ h)
 .obtain⟨v,U,T⟩:=r.dat i x h;exact⟨v,U,T.same B⟩
 .obtain⟨a,ys,U,T,Z,Y,k5⟩:=r.own i xs h;have ha:a≠p:=fun z=>by subst z;rw[e _ _ Y]at g;cases g;exact k5.WA
  exact⟨a,ys,U,by rw[AJ ha];exact T,Z,e _ _ Y,k5.same B⟩
def Rw.lift{g H':Hp}(r:Rw G0 H0 G H σ δ ts)(B:AL G g)(h2:Nw G H g)(h3:AL g H')(Z:AL H H'):Rw G0 H0 g H' σ δ ts:=by
 refine⟨r.ext.trans B,fun a o h=>?_,h3,r.keep.trans Z,r.len,fun i x h=>?_,fun i xs h=>?_,r.apart,fun q hq=>(r.CN q hq).same B⟩
 .rcases h2 a o h with k|k|k
  .exact r.new a o k
  .right;left
   cases q:H0 a with
   |none=>rfl
   |some u=>rw[r.keep _ _ q]at k;cases k
  .exact .inr (.inr k)
 .obtain⟨v,Y,U⟩:=r.dat i x h;exact⟨v,Y,U.same B⟩
 .obtain⟨a,ys,Y,U,k3,T,k5⟩:=r.own i xs h;refine⟨a,ys,Y,?_,k3,Z _ _ T,k5.same B⟩;cases q:g a with
  |none=>rfl
  |some u=>
   rcases h2 a u q with z|z|⟨xs',z⟩
   .rw[U]at z;cases z
   .rw[T]at z;cases z
   .have:=h3 _ _ q;rw[Z _ _ T,z]at this;cases this;exact k5.WA.elim
end
section
variable{X:Cx}{a b e:Expr}{f g h:rk}{pos:Pos}
def AH{i j pos}:DE X (.Constant (.int i) j pos) (fun _=>some (.int i)):=⟨_,Aa,fun δ x h G0 H0 G H σ ts Q r k=>by cases h;exact k _ _ _ (r.put (by rw[Du]))⟩
def DQ{i j pos}:DE X (.Constant (.bool i) j pos) (fun _=>some (.bool i)):=⟨_,oS,fun δ x h G0 H0 G H σ ts Q r k=>by cases h;exact k _ _ _ (r.put (by rw[Du]))⟩
def Hl{j pos}:DE X (.Constant .none j pos) (fun _=>some .none):=⟨_,lj,fun δ x h G0 H0 G H σ ts Q r k=>by cases h;exact k _ _ _ (r.put (by rw[Du]))⟩
def nm(i:Nat)(δ:Dv):sE:=match δ[i]? with|some (.d x)=>some x|_=>none
def pD{i:Nat}{δ:Dv}{x:PD}(h:nm i δ=some x):δ[i]? = some (.d x):=by
 unfold nm at h;split at h
 .rename_i y e;cases h;exact e
 .cases h
def AE{i:Nat}{x:Str}(h:PE X (.Name x pos) (Oz i)):DE X (.Name x pos) (nm i):=⟨_,h,fun δ y B G0 H0 G H σ ts Q r k=>by
 obtain⟨v,U,T⟩:=r.dat _ _ (pD B);exact⟨v,U,k _ _ _ (r.put T)⟩⟩
def Ap(o:PD->PD->Option PD)(f g:rk)(δ:Dv):sE:=(f δ).bind fun x=>(g δ).bind fun y=>o x y
def FD(X:Cx)(m:VL->VL->Sem VL)(o:PD->PD->Option PD):Prop:=∃r:R2,DC X m r/\∀x y z,o x y=some z->∀G0 H0 G H σ δ ts u v (Q:VK),Rw G0 H0 G H σ δ ts->Du G x u->Du G y v->(∀w B H',Rw G0 H0 B H' σ δ ((z,w)::ts)->Q w H')->r u v H Q
def two{x y:PD}{f g:rk}{δ:Dv}{o:PD->PD->Option PD}{z:PD}(h:Ap o f g δ=some z):∃x y,f δ=some x/\g δ=some y/\o x y=some z:=by
 unfold Ap at h;obtain⟨x,Y,U⟩:=aB.mp h;obtain⟨y,T,B⟩:=aB.mp U;exact⟨x,y,Y,T,B⟩
def CL{op:Operator}{o:PD->PD->Option PD}(ho:FD X (binaryOp op) o)(ha:DE X a f)(hb:DE X b g):DE X (.BinOp a op b pos) (Ap o f g):=by
 obtain⟨r,hr,U⟩:=ho;obtain⟨ta,T,Z⟩:=ha;obtain⟨tb,B,Y⟩:=hb;refine⟨_,Ar hr T B,fun δ z hz G0 H0 G H σ ts Q R0 k=>?_⟩;obtain⟨x,y,h1,h2,h3⟩:=two (x:=.none) (y:=.none) hz;refine Z δ x h1 G0 H0 G H σ ts _ R0 fun u G1 H1 R1=>?_;refine Y δ y h2 G0 H0 G1 H1 σ _ _ R1 fun v G2 H2 R2=>?_;exact U x y z h3 G0 H0 G2 H2 σ δ ts u v Q (R2.drop.drop) (R2.CN (x,u) (.tail _ (.head _))) (R2.CN (y,v) (.head _)) k
def Ir{op:CmpOp}{o:PD->PD->Option PD}(ho:FD X (compareOp op) o)(ha:DE X a f)(hb:DE X b g)(hm:behindInMarks op b=false):DE X (.Compare a [op] [b] pos) (Ap o f g):=by
 obtain⟨r,hr,U⟩:=ho;obtain⟨ta,T,Z⟩:=ha;obtain⟨tb,B,Y⟩:=hb;refine⟨_,ib hr T B hm,fun δ z hz G0 H0 G H σ ts Q R0 k=>?_⟩;obtain⟨x,y,h1,h2,h3⟩:=two (x:=.none) (y:=.none) hz;refine Z δ x h1 G0 H0 G H σ ts _ R0 fun u G1 H1 R1=>?_;refine Y δ y h2 G0 H0 G1 H1 σ _ _ R1 fun v G2 H2 R2=>?_;exact U x y z h3 G0 H0 G2 H2 σ δ ts u v Q (R2.drop.drop) (R2.CN (x,u) (.tail _ (.head _))) (R2.CN (y,v) (.head _)) k
end
section
variable{X:Cx}
def Pp(o o':PD->PD->Option PD)(x y:PD):sE:=match o x y with|some z=>some z|none=>o' x y
def FD.or{m:VL->VL->Sem VL}{o o':PD->PD->Option PD}(h:FD X m o)(h':FD X m o'):FD X m (Pp o o'):=by
 obtain⟨r,hr,Z⟩:=h;obtain⟨r',T,B⟩:=h';refine⟨_,DC.or hr T,fun x y z g G0 H0 G H σ δ ts u v Q Y du U k=>?_⟩;unfold Pp at g;split at g
 .rename_i z' e;cases g;exact .inl (Z x y z e G0 H0 G H σ δ ts u v Q Y du U k)
 .exact .inr (B x y z g G0 H0 G H σ δ ts u v Q Y du U k)
def gj{m:VL->VL->Sem VL}{C:Int->Int->Prop}{B:Int->Int->V}{o:Int->Int->Option PD}(U:DC X m (rI C B))(Y:∀i j z,o i j=some z->C i j/\∀H,Du H z (B i j)) :
  FD X m (fun x y=>match x,y with|.int i,.int j=>o i j|_,_=>none):=by
 refine⟨_,U,fun x y z g G0 H0 G H σ δ ts u v Q R0 du T k=>?_⟩;dsimp only at g;split at g
 .rename_i i j;rw[Du]at du T;obtain⟨h1,Z⟩:=Y i j z g;exact⟨i,j,du,T,h1,k _ _ _ (R0.put (Z _))⟩
 .cases g
def Kn{m:VL->VL->Sem VL}{B:Int->Int->V}{o:Int->Int->PD}(U:DC X m (Tj B))(Y:∀i j H,Du H (o i j) (B i j)) :
  FD X m (fun x y=>match x,y with|.int i,.int j=>some (o i j)|_,_=>none):=by
 refine⟨_,U,fun x y z g G0 H0 G H σ δ ts u v Q Z du T k=>?_⟩;dsimp only at g;split at g
 .rename_i i j;cases g;rw[Du]at du T;exact⟨i,j,du,T,k _ _ _ (Z.put (Y _ _ _))⟩
 .cases g
def Cc:Nat:=1000
def SY{n:Nat}(h:n<=Cc):n<sizeLine:=Tx h
def HQ{n:Nat}(h:n<=Cc):n<=sizeLine:=ay (Tx h)
def jM:PD->PD->Option PD:=fun x y=>match x,y with|.int i,.int j=>some (.int (i+j))|_,_=>none
def dA:PD->PD->Option PD:=fun x y=>match x,y with|.int i,.int j=>some (.int (i-j))|_,_=>none
def S8(n:Nat)(i:Int):Bool:=decide (i.natAbs<2^n)
def RQ(i j:Int):Bool:=S8 64 i||S8 64 j||(S8 9000 i&&S8 9000 j)
def YY:PD->PD->Option PD:=fun x y=>match x,y with|.int i,.int j=>(if RQ i j=true then some (.int (i*j)) else none)|_,_=>none
def i8:FD X (binaryOp .Add) jM:=Kn FY fun _ _ _=>by rw[Du]
def Xd:FD X (binaryOp .Sub) dA:=Kn Q8 fun _ _ _=>by rw[Du]
def fM{i:Int}(h:S8 64 i=true):-(2^64)<i/\i<2^64:=by
 have:=ak h
 lia
def iG:FD X (binaryOp .Mult) YY:=gj (o:=fun i j=>if RQ i j=true then some (.int (i*j)) else none) C9 fun i j z h=>by
 split at h
 .rename_i q;cases h;refine⟨?_,fun _=>by rw[Du]⟩;unfold RQ at q;rw[Bool.or_eq_true,Bool.or_eq_true,Bool.and_eq_true]at q;rcases q with (q|q)|q
  .exact .inl (.inl (fM q))
  .exact .inl (.inr (fM q))
  .exact .inr ⟨9000,by decide,of_decide_eq_true q.1,of_decide_eq_true q.2⟩
 .cases h
def IH(p:Int->Int->Bool):PD->PD->Option PD:=fun x y=>match x,y with|.int i,.int j=>some (.bool (p i j))|_,_=>none
def PH:FD X (compareOp .Lt) (IH fun i j=>decide (i<j)):=Kn (o:=fun i j=>.bool (decide (i<j))) UY fun _ _ _=>by rw[Du]
def RH:FD X (compareOp .Gt) (IH fun i j=>decide (j<i)):=Kn (o:=fun i j=>.bool (decide (j<i))) UT fun _ _ _=>by rw[Du]
def oQ:FD X (compareOp .GtE) (IH fun i j=>decide (j<=i)):=Kn (o:=fun i j=>.bool (decide (j<=i))) fx fun _ _ _=>by rw[Du]
def V6:PD->PD->Option PD:=fun x y=>match x,y with|.list a,.list b=>(if a.length+b.length<=Cc then some (.list (a++b)) else none)|_,_=>none
def jB:FD X (binaryOp .Add) V6:=by
 refine⟨_,Zx,fun x y z g G0 H0 G H σ δ ts u v Q T du Z k=>?_⟩;unfold V6 at g;split at g
 .rename_i a b;split at g
  .rename_i hl;cases g;rw[Du]at du Z;obtain⟨p,xs,rfl,h1,Y⟩:=du;obtain⟨q,ys,rfl,h3,U⟩:=Z;refine⟨p,q,xs,ys,rfl,rfl,T.ins _ _ h1,T.ins _ _ h3,HQ (by rw[Y.len,U.len];exact hl),fun l B=>?_⟩;have R1:=T.newObj (o:=.lst (xs++ys)) B;refine k _ _ _ (R1.put ?_);rw[Du];have e:AL G (upd G l (.lst (xs++ys))):=fun a o h=>by
    have:=T.ins _ _ h;rw[AJ (AY this B)];exact h
   exact⟨l,xs++ys,rfl,AW,(Y.same e).app (U.same e)⟩
  .cases g
 .cases g
def RB:PD->PD->Option PD:=fun x y=>match x,y with|.tuple a,.tuple b=>(if a.length+b.length<=Cc then some (.tuple (a++b)) else none)|_,_=>none
def iY:FD X (binaryOp .Add) RB:=by
 refine⟨_,iu,fun x y z g G0 H0 G H σ δ ts u v Q B du dv k=>?_⟩;unfold RB at g;split at g
 .rename_i a b;split at g
  .rename_i hl;cases g;rw[Du]at du dv;obtain⟨p,xs,rfl,h1,Y⟩:=du;obtain⟨q,ys,rfl,h3,U⟩:=dv;refine⟨p,q,xs,ys,rfl,rfl,B.ins _ _ h1,B.ins _ _ h3,HQ (by rw[Y.len,U.len];exact hl),fun l H' e T=>?_⟩;have R1:=B.kJ e T;refine k _ _ _ (R1.put ?_);rw[Du];have Z:AL G (upd G l (.tup (xs++ys))):=fun a o h=>by
    by_cases ha:a=l
    .subst ha;have:=e _ _ (B.ins _ _ h);rw[T]at this;rw[AW];exact this
    .rw[AJ ha];exact h
   exact⟨l,xs++ys,rfl,AW,(Y.same Z).app (U.same Z)⟩
  .cases g
 .cases g
def Yk:PD->PD->Option PD:=fun x y=>match x,y with|.str a,.str b=>(if a.length+b.length<=Cc then some (.str (a++b)) else none)|_,_=>none
def hU:FD X (binaryOp .Add) Yk:=by
 refine⟨_,YM,fun x y z g G0 H0 G H σ δ ts u v Q U du B k=>?_⟩;unfold Yk at g;split at g
 .rename_i a b;split at g
  .rename_i T;cases g;rw[Du]at du B;exact⟨a,b,du,B,HQ T,k _ _ _ (U.put (by rw[Du]))⟩
  .cases g
 .cases g
def Cu:PD->PD->Option PD:=Pp jM (Pp V6 (Pp RB Yk))
def Cq:FD X (binaryOp .Add) Cu:=i8.or (jB.or (iY.or hU))
def YO:PD->PD->Option PD:=fun x y=>match x,y with|.list a,.int k=>(if a.length*k.toNat<=Cc/\-1000000<=k/\k<=1000000 then some (.list (List.replicate k.toNat a).flatten) else none)|_,_=>none
def Av.rep{H:Hp}{ds:List PD}{xs:List V}(h:Av H ds xs):∀n,Av H (List.replicate n ds).flatten (List.replicate n xs).flatten
 |0=>.nil
 |n+1=>by rw[List.replicate_succ,List.replicate_succ,List.flatten_cons,List.flatten_cons];exact h.app (h.rep n)
def gH:FD X (binaryOp .Mult) YO:=by
 refine⟨_,cR,fun x y z g G0 H0 G H σ δ ts u v Q T du Y k=>?_⟩;unfold YO at g;split at g
 .rename_i a n;split at g
  .rename_i Z;cases g;rw[Du]at du;rw[Du]at Y;obtain⟨p,xs,rfl,h1,U⟩:=du;subst Y;refine⟨p,n,xs,rfl,rfl,T.ins _ _ h1,by lia,by lia,HQ (by rw[U.len];exact Z.1),fun l B=>?_⟩;have R1:=T.newObj (o:=.lst (List.replicate n.toNat xs).flatten) B;refine k _ _ _ (R1.put ?_);rw[Du];have e:AL G (upd G l (.lst (List.replicate n.toNat xs).flatten)):=fun a o h=>by
    have:=T.ins _ _ h;rw[AJ (AY this B)];exact h
   exact⟨l,_,rfl,AW,(U.same e).rep _⟩
  .cases g
 .cases g
def MN:PD->PD->Option PD:=Pp YY YO
def LQ:FD X (binaryOp .Mult) MN:=iG.or gH
def TR{d:PD}(h:SeqAt.shaped d=true):d.canLay0=true:=by unfold SeqAt.shaped at h;rw[Bool.and_eq_true]at h;exact h.1
def Cs(neg:Bool):PD->PD->Option PD:=fun x y=>if SeqAt.shaped x=true/\SeqAt.shaped y=true then some (.bool (if neg then !PyData.eqv x y else PyData.eqv x y)) else none
def cL{m:VL->VL->Sem VL}{neg:Bool}(U:DC X m (cz X.K neg)):FD X m (Cs neg):=by
 refine⟨_,U,fun x y z g G0 H0 G H σ δ ts u v Q T du Y k=>?_⟩;unfold Cs at g;split at g
 .rename_i B;cases g;exact⟨x,y,(du.same T.ins).br (TR B.1),(Y.same T.ins).br (TR B.2),B.1,B.2,k _ _ _ (T.put (by rw[Du]))⟩
 .cases g
def HS(g:X.A.units+64<cLine):FD X (compareOp .Eq) (Cs false):=cL (kE g)
def GB(g:X.A.units+64<cLine):FD X (compareOp .NotEq) (Cs true):=cL (nB g)
def PyData.cg:PD->Bool
 |.none=>true
 |_=>false
def ZF{H:Hp}:∀ {x:PD} {u:V},Du H x u->decide (u=.B4)=PyData.cg x
 |.none,u,h=>by rw[Du]at h;subst h;rfl
 |.bool _,u,h=>by rw[Du]at h;subst h;rfl
 |.int _,u,h=>by rw[Du]at h;subst h;rfl
 |.str _,u,h=>by rw[Du]at h;subst h;rfl
 |.tuple _,u,h=>by rw[Du]at h;obtain⟨a,xs,rfl,_⟩:=h;rfl
 |.list _,u,h=>by rw[Du]at h;obtain⟨a,xs,rfl,_⟩:=h;rfl
 |.dict [],u,h=>by rw[Du,Mq]at h;rcases h with ⟨g,C,_,rfl,_⟩|⟨a,ns,_,rfl,_⟩|h;rfl;rfl;exact h.elim
 |.dict ((_,_)::_),u,h=>by rw[Du,Mq]at h;rcases h with ⟨g,C,_,rfl,_⟩|⟨a,ns,_,rfl,_⟩|⟨_,_,a,r,rfl,_⟩<;>rfl
def Oe(neg:Bool):PD->PD->Option PD:=fun x y=>match y with
 |.none=>some (.bool (if neg then !PyData.cg x else PyData.cg x))
 |_=>none
def UZ:FD X (compareOp .Is) (Oe false):=by
 refine⟨_,jK,fun x y z g G0 H0 G H σ δ ts u v Q T du B k=>?_⟩;unfold Oe at g;split at g
 .cases g;rw[Du]at B;refine⟨B,?_⟩;rw[ZF du];exact k _ _ _ (T.put (by rw[Du];rfl))
 .cases g
def Vy:FD X (compareOp .IsNot) (Oe true):=by
 refine⟨_,gR,fun x y z g G0 H0 G H σ δ ts u v Q T du B k=>?_⟩;unfold Oe at g;split at g
 .cases g;rw[Du]at B;refine⟨B,?_⟩;rw[ZF du];exact k _ _ _ (T.put (by rw[Du];rfl))
 .cases g
end
section
variable{X:Cx}{a b c e:Expr}{es:sL}{f g h:rk}{pos p:Pos}
def Nd:PD->Option Bool
 |.bool b=>some b
 |_=>none
def TC:PD->Option Int
 |.int b=>some b
 |_=>none
def Rr{x:PD}{b:Bool}(h:Nd x=some b):x=.bool b:=by
 unfold Nd at h;split at h
 .cases h;rfl
 .cases h
def U8{x:PD}{b:Int}(h:TC x=some b):x=.int b:=by
 unfold TC at h;split at h
 .cases h;rfl
 .cases h
def bx(ha:DE X a f):DE X (.UnaryOp .USub a pos) (fun δ=>(f δ).bind fun x=>(TC x).map fun i=>.int (-i)):=by
 obtain⟨ta,T,U⟩:=ha;refine⟨_,Y4 VZ T,fun δ z Y G0 H0 G H σ ts Q R0 k=>?_⟩;obtain⟨x,h1,h2⟩:=aB.mp Y;obtain⟨i,Z,rfl⟩:=aC.mp h2;have:=U8 Z;subst this;refine U δ _ h1 G0 H0 G H σ ts _ R0 fun u G1 H1 B=>?_;have:=B.CN _ (.head _);rw[Du]at this;exact⟨i,this,k _ _ _ (B.drop.put (by rw[Du]))⟩
def bq(ha:DE X a f):DE X (.UnaryOp .Not a pos) (fun δ=>(f δ).bind fun x=>(Nd x).map fun i=>.bool (!i)):=by
 obtain⟨ta,T,U⟩:=ha;refine⟨_,mC T,fun δ z Y G0 H0 G H σ ts Q R0 k=>?_⟩;obtain⟨x,h1,h2⟩:=aB.mp Y;obtain⟨i,Z,rfl⟩:=aC.mp h2;have:=Rr Z;subst this;refine U δ _ h1 G0 H0 G H σ ts _ R0 fun u G1 H1 B=>?_;have:=B.CN _ (.head _);rw[Du]at this;exact⟨i,this,k _ _ _ (B.drop.put (by rw[Du]))⟩
def Kp{op}(ha:DE X a f):DE X (.BoolOp op [a] pos) f:=by
 obtain⟨U,B,T⟩:=ha;exact⟨_,kI B,T⟩
def Iw{rest:sL}(ha:DE X a f)(hb:DE X (.BoolOp .And (b::rest) pos) g):DE X (.BoolOp .And (a::b::rest) pos) (fun δ=>(f δ).bind fun x=>(Nd x).bind fun c=>if c=true then g δ else some (.bool false)):=by
 obtain⟨ta,pa,ka⟩:=ha;obtain⟨tb,Z,kb⟩:=hb;refine⟨_,mN pa Z,fun δ z hz G0 H0 G H σ ts Q R0 k=>?_⟩;obtain⟨x,h1,h2⟩:=aB.mp hz;obtain⟨i,h3,B⟩:=aB.mp h2;have:=Rr h3;subst this;refine ka δ _ h1 G0 H0 G H σ ts _ R0 fun u G1 H1 U=>?_;have Y:=U.CN _ (.head _);rw[Du]at Y;refine⟨i,Y,?_⟩;split
 .rename_i T;rw[if_pos T]at B;exact kb δ z B G0 H0 G1 H1 σ ts Q U.drop k
 .rename_i T;rw[if_neg T]at B;cases B;exact k _ _ _ (U.drop.put (by rw[Du]))
variable{fa fb:rp}
def DW(X:Cx)(e:Expr)(f:rp):Prop:=∃t,PW X e t/\∀δ b,f δ=some b->∀G0 H0 G H σ ts (Q:Bool->Hp->Prop),Rw G0 H0 G H σ δ ts->(∀B H',Rw G0 H0 B H' σ δ ts->Q b H')->t σ H Q
def DW.dt(h:DW X e fa):DT X e fa:=let⟨t,p,k⟩:=h;⟨t,p.pt,k⟩
def BL{op:CmpOp}{o:PD->PD->Option PD}(ho:FD X (compareOp op) o)(ha:DE X a f)(hb:DE X b g)(hm:behindInMarks op b=false):DT X (.Compare a [op] [b] pos) (fun δ=>(Ap o f g δ).bind Nd):=by
 obtain⟨r,hr,Z⟩:=ho;obtain⟨ta,Y,ka⟩:=ha;obtain⟨tb,U,kb⟩:=hb;refine⟨_,Dd hr Y U hm,fun δ z hz G0 H0 G H σ ts Q R0 k=>?_⟩;obtain⟨q,h0,h4⟩:=aB.mp hz;have:=Rr h4;subst this;obtain⟨x,y,h1,h2,h3⟩:=two (x:=.none) (y:=.none) h0;refine ka δ x h1 G0 H0 G H σ ts _ R0 fun u G1 H1 R1=>?_;refine kb δ y h2 G0 H0 G1 H1 σ _ _ R1 fun v G2 H2 R2=>?_;refine Z x y _ h3 G0 H0 G2 H2 σ δ ts u v _ (R2.drop.drop) (R2.CN (x,u) (.tail _ (.head _))) (R2.CN (y,v) (.head _)) fun w G3 H3 T=>?_;have B:=T.CN _ (.head _);rw[Du]at B;exact⟨z,B,k _ _ T.drop⟩
def DX(ha : DE X e f)(he : ∀ whole,isTrue e X.env whole = (do let v <- whole; standAt e.pos; holding [v] (truthy v)):=by intro _; rfl):DT X e (fun δ => (f δ).bind Nd):=by
  obtain ⟨ta,pa,ka⟩:=ha
  refine ⟨_,lL pa he,fun δ z hz G0 H0 G H σ ts Q R0 k => ?_⟩
  obtain ⟨q,h0,h4⟩:=aB.mp hz
  have:=Rr h4; subst this
  refine ka δ _ h0 G0 H0 G H σ ts _ R0 fun u G1 H1 R1 => ?_
  have hu:=R1.CN _ (.head _)
  rw [Du] at hu
  exact ⟨z,hu,k _ _ R1.drop⟩
def EB(ha:DT X a fa):DT X (.UnaryOp .Not a pos) (fun δ=>(fa δ).map fun c=>!c):=by
 obtain⟨ta,B,T⟩:=ha;refine⟨_,kP B,fun δ z U G0 H0 G H σ ts Q R0 k=>?_⟩;obtain⟨i,Y,rfl⟩:=aC.mp U;exact T δ _ Y G0 H0 G H σ ts _ R0 fun G1 H1 Z=>k _ _ Z
def Dp{op:BoolOp}(ha:DT X a fa):DW X (.BoolOp op [a] pos) fa:=by
 obtain⟨U,B,T⟩:=ha;cases op
 .exact⟨_,XB B,T⟩
 .exact⟨_,jE B,T⟩
def lV{rest:sL}(ha:DT X a fa)(hb:DW X (.BoolOp .And (b::rest) pos) fb):DW X (.BoolOp .And (a::b::rest) pos) (fun δ=>(fa δ).bind fun c=>if c=true then fb δ else some false):=by
 obtain⟨ta,Z,ka⟩:=ha;obtain⟨tb,Y,kb⟩:=hb;refine⟨_,Z4 Z Y,fun δ z hz G0 H0 G H σ ts Q R0 k=>?_⟩;obtain⟨i,h3,B⟩:=aB.mp hz;refine ka δ _ h3 G0 H0 G H σ ts _ R0 fun G1 H1 U=>?_;split
 .rename_i T;rw[if_pos T]at B;exact kb δ z B G0 H0 G1 H1 σ ts Q U k
 .rename_i T;rw[if_neg T]at B;cases B;exact k _ _ U
def D0{rest:sL}(ha:DT X a fa)(hb:DW X (.BoolOp .Or (b::rest) pos) fb):DW X (.BoolOp .Or (a::b::rest) pos) (fun δ=>(fa δ).bind fun c=>if c=true then some true else fb δ):=by
 obtain⟨ta,Z,ka⟩:=ha;obtain⟨tb,Y,kb⟩:=hb;refine⟨_,pC Z Y,fun δ z hz G0 H0 G H σ ts Q R0 k=>?_⟩;obtain⟨i,h3,B⟩:=aB.mp hz;refine ka δ _ h3 G0 H0 G H σ ts _ R0 fun G1 H1 U=>?_;split
 .rename_i T;rw[if_pos T]at B;cases B;exact k _ _ U
 .rename_i T;rw[if_neg T]at B;exact kb δ z B G0 H0 G1 H1 σ ts Q U k
variable{fs:rj}
def AF:DA X [] (fun _=>some []):=⟨_,Ah,fun δ xs h G0 H0 G H σ ts Q B k=>by cases h;exact k [] G H (by simpa using B) rfl⟩
def AA(ha:DE X e f)(hr:DA X es fs)(hs:starEach (e::es) X.env=(false,eval e X.env)::starEach es X.env:=by rfl):DA X (e::es) (fun δ=>(f δ).bind fun x=>(fs δ).map fun xs=>x::xs):=by
 obtain⟨ta,T,Y⟩:=ha;obtain⟨tr,pr,U⟩:=hr;refine⟨_,AM T pr hs,fun δ z Z G0 H0 G H σ ts Q R0 k=>?_⟩;obtain⟨x,h1,h2⟩:=aB.mp Z;obtain⟨xs,h3,rfl⟩:=aC.mp h2;refine Y δ x h1 G0 H0 G H σ ts _ R0 fun u G1 H1 R1=>?_;refine U δ xs h3 G0 H0 G1 H1 σ _ _ R1 fun vs G2 H2 R2 hl=>?_;refine k (u::vs) G2 H2 (R2.less fun q B=>?_) (by simp[hl]);simp only[List.zip_cons_cons,List.cons_append,List.mem_cons,List.mem_append]at B ⊢;rcases B with h|h|h
 .exact .inr (.inl h)
 .exact .inl h
 .exact .inr (.inr h)
def cN{G:Hp}:∀ {xs:List PD} {vs:List V},vs.length=xs.length->(∀q∈xs.zip vs,Du G q.1 q.2)->Av G xs vs
 |[],vs,B,_=>by rw[List.eq_nil_of_length_eq_zero B];exact .nil
 |x::xs,[],B,_=>by simp at B
 |x::xs,v::vs,B,h=>.cons (h (x,v) (by simp)) (cN (by simpa using B) fun q T=>h q (by simp[T]))
def Rw.args{G0 H0 G H:Hp}{σ:St}{δ:Dv}{ts:List (PD×V)}{xs:rq}{vs:sQ}(r:Rw G0 H0 G H σ δ (xs.zip vs++ts))(T:vs.length=xs.length):Av G xs vs/\Rw G0 H0 G H σ δ ts :=
 ⟨cN T fun q B=>r.CN q (bX _ B),r.less fun q B=>aY _ B⟩
def Rw.SH{G0 H0 G H:Hp}{σ:St}{δ:Dv}{ts:List (PD×V)}{xs:rq}{vs:sQ}{p:AD}(r:Rw G0 H0 G H σ δ ts)(d:Av G xs vs)(B:H p=none):Rw G0 H0 (upd G p (.lst vs)) (upd H p (.lst vs)) σ δ ((.list xs,.ref p)::ts):=by
 refine(r.newObj B).put ?_;have e:AL G (upd G p (.lst vs)):=fun a o h=>by rw[AJ (AY (r.ins _ _ h) B)];exact h
 rw[Du];exact⟨p,vs,rfl,AW,d.same e⟩
def Rw.YA{G0 H0 G H:Hp}{σ:St}{δ:Dv}{ts:List (PD×V)}{xs:rq}{vs:sQ}{p:AD}(r:Rw G0 H0 G H σ δ ts)(d:Av G xs vs)(B:H p=none):Rw G0 H0 (upd G p (.tup vs)) (upd H p (.tup vs)) σ δ ((.tuple xs,.ref p)::ts):=by
 refine(r.newObj B).put ?_;have e:AL G (upd G p (.tup vs)):=fun a o h=>by rw[AJ (AY (r.ins _ _ h) B)];exact h
 rw[Du];exact⟨p,vs,rfl,AW,d.same e⟩
def Lz(xs:rq):Option rq:=if xs.length<=Cc then some xs else none
def OU{xs ys:rq}(h:Lz xs=some ys):xs=ys/\xs.length<=Cc:=by
 unfold Lz at h;split at h
 .rename_i q;cases h;exact⟨rfl,q⟩
 .cases h
def Aj{T}(ha:DA X es fs):DE X (.Tuple es T pos) (fun δ=>((fs δ).bind Lz).map .tuple):=by
 obtain⟨ta,U,Y⟩:=ha;refine⟨_,N7 U,fun δ z Z G0 H0 G H σ ts Q R0 k=>?_⟩;obtain⟨ys,h1,rfl⟩:=aC.mp Z;obtain⟨xs,h2,h3⟩:=aB.mp h1;obtain⟨rfl,hl⟩:=OU h3;refine Y δ _ h2 G0 H0 G H σ ts _ R0 fun vs G1 H1 R1 B=>?_;obtain⟨d,R2⟩:=R1.args B;exact⟨HQ (by rw[B];exact hl),fun q hq=>k _ _ _ (R2.YA d hq)⟩
def BU(ha:DA X es fs):DE X (.List es pos) (fun δ=>((fs δ).bind Lz).map .list):=by
 obtain⟨ta,T,U⟩:=ha;refine⟨_,IY T,fun δ z Y G0 H0 G H σ ts Q R0 k=>?_⟩;obtain⟨ys,h1,rfl⟩:=aC.mp Y;obtain⟨xs,h2,h3⟩:=aB.mp h1;obtain⟨rfl,hl⟩:=OU h3;refine U δ _ h2 G0 H0 G H σ ts _ R0 fun vs G1 H1 R1 B=>?_;obtain⟨d,R2⟩:=R1.args B;exact⟨HQ (by rw[B];exact hl),fun q Z=>k _ _ _ (R2.SH d Z)⟩
def Av.GO{H:Hp}{ds:rq}{xs:sQ}{i:Int}{d:PD}(h:Av H ds xs)(e:GO ds i=some d):∃v,GO xs i=some v/\Du H d v:=by
 unfold L2.GO at e ⊢;rw[h.len];obtain⟨j,Y,U⟩:=aB.mp e;obtain⟨v,T,B⟩:=h.get U;exact⟨v,by rw[Y];exact T,B⟩
def TV{G:Hp}:∀ns:List Int,Av G (ns.map .int) (ns.map V.int)
 |[]=>.nil
 |n::ns=>.cons (by rw[Du]) (TV ns)
def Bi:PD->PD->Option PD:=fun x y=>match x,y with
 |.list xs,.int i=>GO xs i
 |.tuple xs,.int i=>GO xs i
 |.dict [(.none,.list xs)],.int i=>GO xs i
 |.str z,.int i=>if z.length<=Cc then(GO z.cps.toList i).map fun c=>.str ⟨#[c]⟩ else none
 |_,_=>none
def BE(ha:DE X a f)(hb:DE X b g)(hs:Se b):DE X (.Subscript a b pos) (Ap Bi f g):=by
 obtain⟨ta,pa,ka⟩:=ha;obtain⟨tb,pb,kb⟩:=hb;refine⟨_,Cv mm pa pb hs,fun δ z hz G0 H0 G H σ ts Q R0 k=>?_⟩;obtain⟨x,y,h1,h2,B⟩:=two (x:=.none) (y:=.none) hz;refine ka δ x h1 G0 H0 G H σ ts _ R0 fun u G1 H1 R1=>?_;refine kb δ y h2 G0 H0 G1 H1 σ _ _ R1 fun v G2 H2 R2=>?_;have du:=R2.CN (x,u) (.tail _ (.head _));have T:=R2.CN (y,v) (.head _);unfold Bi at B;split at B
 .rw[Du]at du;rw[Du]at T;obtain⟨p,xs,rfl,Z,h5⟩:=du;obtain⟨w,U,Y⟩:=h5.GO B;exact .inl ⟨p,xs,_,w,rfl,T,Aw.of (R2.ins _ _ Z),U,k _ _ _ (R2.drop.drop.put Y)⟩
 .rw[Du]at du;rw[Du]at T;obtain⟨p,xs,rfl,Z,h5⟩:=du;obtain⟨w,U,Y⟩:=h5.GO B;exact .inr (.inl ⟨p,xs,_,w,rfl,T,BN.of (R2.ins _ _ Z),U,k _ _ _ (R2.drop.drop.put Y)⟩)
 .rw[Du]at du;rw[Du]at T;rcases du with ⟨ea,C,e1,_⟩|⟨p,ns,e1,rfl,Z⟩|z
  rotate_left 2
  .rw[Mq]at z;cases z.1
  .simp at e1
  .obtain rfl:_=ns.map PyData.int:=by simpa using e1
   obtain⟨w,U,Y⟩:=(TV (G:=_) ns).GO B;exact .inl ⟨p,_,_,w,rfl,T,.inl (Z.same R2.ins),U,k _ _ _ (R2.drop.drop.put Y)⟩
 .rw[Du]at du;rw[Du]at T;split at B
  .rename_i hl;obtain⟨ch,U,rfl⟩:=aC.mp B;exact .inr (.inr ⟨_,_,ch,du,T,HQ hl,U,k _ _ _ (R2.drop.drop.put (by rw[Du]))⟩)
  .cases B
 .cases B
end
def A0(g:MD):Sp:=fun vs H Q _=>∃T x G,g T=some x/\Av G T vs/\AL G H/\∀v B H',AL G B->Nw G H B->AL B H'->AL H H'->Du B x v->Q v H'
section
variable{X:Cx}{a e:Expr}{es:sL}{f h:rk}{fs:rj}{pos p:Pos}
def AX{k:Nat}{U:AD}{fd:FuncData}{ps:sJ}{m:MD}{x:Str}{st:Stmt}(T:Fn X.K X.mg x st ps U fd)(F:AK X.prog X.w X.K X.mg X.base AZ k U fd ps (A0 m))(hr:EX k X.A)(hg:Gl X x)(ha:DA X (e::es) fs) (B:(x==("__debug__" : Str))=false:=by decide)(he:starEach (e::es) X.env=(false,eval e X.env)::starEach es X.env:=by rfl)(g:(backTo pos (starEach es X.env)).any (·.1)=false:=by rfl):DE X (.Call (.Name x p) (e::es) [] pos) (fun δ=>(fs δ).bind m):=by
 obtain⟨ta,Y,Z⟩:=ha;refine⟨_,B6 T F hr hg Y B he g,fun δ z hz G0 H0 G H σ ts Q R0 k=>?_⟩;obtain⟨xs,h1,h2⟩:=aB.mp hz;refine Z δ _ h1 G0 H0 G H σ ts _ R0 fun vs G1 H1 R1 hv=>?_;obtain⟨d,R2⟩:=R1.args hv;refine⟨xs,z,G1,h2,by rw[List.append_nil];exact d,R2.ins,fun v G' H' h3 h4 h5 h6 h7=>?_⟩;exact k _ _ _ ((R2.lift h3 h4 h5 h6).put h7)
def Lv(X:Cx)(v:VL)(o:MD):Prop:=∃r,Ey X v r/\∀xs z,o xs=some z->∀G0 H0 G H σ δ ts us (Q:VK),Rw G0 H0 G H σ δ ts->Av G xs us->(∀w g H',Rw G0 H0 g H' σ δ ((z,w)::ts)->Q w H')->r us H Q
def Ca{x:Str}{id:String}{o:MD}(hc:Lv X (.builtin id) o)(hg:Gl X x)(hm:X.mg x=none)(g:bootBuiltins x=some (.builtin id))(ha:DA X (e::es) fs)(hn:x ≠ "__name__":=by decide)(T:(x==("__debug__" : Str))=false:=by decide) (he:starEach (e::es) X.env=(false,eval e X.env)::starEach es X.env:=by rfl)(B:(backTo pos (starEach es X.env)).any (·.1)=false:=by rfl):DE X (.Call (.Name x p) (e::es) [] pos) (fun δ=>(fs δ).bind o):=by
 obtain⟨r,hr,Y⟩:=hc;obtain⟨ta,U,Z⟩:=ha;refine⟨_,Ds hr hg hm g U hn T he B,fun δ z hz G0 H0 G H σ ts Q R0 k=>?_⟩;obtain⟨xs,h1,h2⟩:=aB.mp hz;refine Z δ _ h1 G0 H0 G H σ ts _ R0 fun vs G1 H1 R1 g=>?_;obtain⟨d,R2⟩:=R1.args g;exact Y xs z h2 G0 H0 G1 H1 σ δ ts vs Q R2 d k
def OA{x:Str}{T:String}{o:MD}(hc:Lv X (.type T) o)(hg:Gl X x)(hm:X.mg x=none)(g:bootBuiltins x=some (.type T))(ha:DA X (e::es) fs)(hn:x ≠ "__name__":=by decide)(U:(x==("__debug__" : Str))=false:=by decide) (he:starEach (e::es) X.env=(false,eval e X.env)::starEach es X.env:=by rfl)(B:(backTo pos (starEach es X.env)).any (·.1)=false:=by rfl):DE X (.Call (.Name x p) (e::es) [] pos) (fun δ=>(fs δ).bind o):=by
 obtain⟨r,hr,Z⟩:=hc;obtain⟨ta,Y,ka⟩:=ha;refine⟨_,T4 hr hg hm g Y hn U he B,fun δ z hz G0 H0 G H σ ts Q R0 k=>?_⟩;obtain⟨xs,h1,h2⟩:=aB.mp hz;refine ka δ _ h1 G0 H0 G H σ ts _ R0 fun vs G1 H1 R1 g=>?_;obtain⟨d,R2⟩:=R1.args g;exact Z xs z h2 G0 H0 G1 H1 σ δ ts vs Q R2 d k
def Av.Io{H:Hp}{d:PD}{xs:sQ}(h:Av H [d] xs):∃x,xs=[x]/\Du H d x:=by
 obtain⟨x,r,rfl,B,g⟩:=h.un;rw[g.nil_eq];exact⟨x,rfl,B⟩
def Av.Md{H:Hp}{d e:PD}{xs:sQ}(h:Av H [d,e] xs):∃x y,xs=[x,y]/\Du H d x/\Du H e y:=by
 obtain⟨x,r,rfl,T,B⟩:=h.un;obtain⟨y,rfl,g⟩:=B.Io;exact⟨x,y,rfl,T,g⟩
def GG:MD
 |[.list xs]=>some (.int xs.length)
 |[.tuple xs]=>some (.int xs.length)
 |[.dict [(.none,.list xs)]]=>some (.int xs.length)
 |_=>none
def FU:Lv X (.builtin "len") GG:=by
 refine⟨_,Gu,fun xs z g G0 H0 G H σ δ ts us Q B d k=>?_⟩;unfold GG at g;split at g
 .cases g;obtain⟨u,rfl,du⟩:=d.Io;rw[Du]at du;obtain⟨p,ys,rfl,T,U⟩:=du;refine⟨p,ys,rfl,.inl (Aw.of (B.ins _ _ T)),?_⟩;rw[U.len];exact k _ _ _ (B.put (by rw[Du]))
 .cases g;obtain⟨u,rfl,du⟩:=d.Io;rw[Du]at du;obtain⟨p,ys,rfl,T,U⟩:=du;refine⟨p,ys,rfl,.inr (BN.of (B.ins _ _ T)),?_⟩;rw[U.len];exact k _ _ _ (B.put (by rw[Du]))
 .cases g;obtain⟨u,rfl,du⟩:=d.Io;rw[Du]at du;rcases du with ⟨Z,C,Y,_⟩|⟨p,ns,Y,rfl,T⟩|z
  rotate_left 2
  .rw[Mq]at z;cases z.1
  .simp at Y
  .obtain rfl:_=ns.map PyData.int:=by simpa using Y
   refine⟨p,_,rfl,.inl (.inl (T.same B.ins)),?_⟩;rw[List.length_map]at k ⊢;exact k _ _ _ (B.put (by rw[Du]))
 .cases g
def QM:MD
 |[.list xs]=>some (.tuple xs)
 |[.tuple xs]=>some (.tuple xs)
 |_=>none
def cw:Lv X (.type "tuple") QM:=by
 refine⟨_,UJ,fun xs z g G0 H0 G H σ δ ts us Q B d k=>?_⟩;unfold QM at g;split at g
 .cases g;obtain⟨u,rfl,du⟩:=d.Io;rw[Du]at du;obtain⟨p,ys,rfl,T,Y⟩:=du;exact⟨p,ys,rfl,.inl ⟨Aw.of (B.ins _ _ T),fun l Z=>k _ _ _ (B.YA Y Z)⟩⟩
 .cases g;obtain⟨u,rfl,du⟩:=d.Io;have U:=du;rw[Du]at du;obtain⟨p,ys,rfl,T,Y⟩:=du;exact⟨p,ys,rfl,.inr ⟨BN.of (B.ins _ _ T),k _ _ _ (B.put U)⟩⟩
 .cases g
def O4:MD
 |[.list xs]=>some (.list xs)
 |[.tuple xs]=>some (.list xs)
 |_=>none
def Wo:Lv X (.type "list") O4:=by
 refine⟨_,VW,fun xs z g G0 H0 G H σ δ ts us Q B d k=>?_⟩;unfold O4 at g;split at g
 .cases g;obtain⟨u,rfl,du⟩:=d.Io;rw[Du]at du;obtain⟨p,ys,rfl,Y,U⟩:=du;exact⟨p,ys,rfl,.inl (Aw.of (B.ins _ _ Y)),fun l T=>k _ _ _ (B.SH U T)⟩
 .cases g;obtain⟨u,rfl,du⟩:=d.Io;rw[Du]at du;obtain⟨p,ys,rfl,Y,U⟩:=du;exact⟨p,ys,rfl,.inr (BN.of (B.ins _ _ Y)),fun l T=>k _ _ _ (B.SH U T)⟩
 .cases g
def Du.ty{K:Fg}{H:Hp}:∀ {d:PD} {v:V},(∀g,d≠.dict g)->Du H d v->Il K H v (.type (S9 d))/\∀g,d≠.dict g
 |.none,_,_,h=>by rw[Du]at h;subst h;exact⟨.B4,by simp⟩
 |.bool _,_,_,h=>by rw[Du]at h;subst h;exact⟨.bl _,by simp⟩
 |.int _,_,_,h=>by rw[Du]at h;subst h;exact⟨.int _,by simp⟩
 |.str _,_,_,h=>by rw[Du]at h;subst h;exact⟨.str _,by simp⟩
 |.tuple _,_,_,h=>by rw[Du]at h;obtain⟨a,xs,rfl,B,_⟩:=h;exact⟨.tup B,by simp⟩
 |.list _,_,_,h=>by rw[Du]at h;obtain⟨a,xs,rfl,B,_⟩:=h;exact⟨.lst B,by simp⟩
 |.dict _,_,n,h=>absurd rfl (n _)
def Yp(q:PD->Bool):PD->Option PD
 |.dict _=>none
 |x=>some (.bool (q x))
def gC{q:PD->Bool}{x z:PD}(h:Yp q x=some z):(∀g,x≠.dict g)/\z=.bool (q x):=by
 unfold Yp at h;split at h
 .cases h
 .rename_i n;cases h;exact⟨fun g e=>n g e,rfl⟩
def EA{T:String}{q:PD->Bool}{xT:Str}{p1 g:Pos}(hk:∀d:PD,(∀kv,d≠.dict kv)->PySem.W.kitOne X.K (.type (S9 d)) (.type T)=some (q d))(hg:Gl X "isinstance")(hm:X.mg "isinstance" = none)(hgT:Gl X xT)(hmT:X.mg xT=none)(U:bootBuiltins xT=some (.type T))(ha:DE X a f) (Z:xT ≠ "__name__":=by decide)(hdT:(xT==("__debug__" : Str))=false:=by decide)(B:starEach [a,.Name xT g] X.env=(false,eval a X.env)::starEach [.Name xT g] X.env:=by rfl)(Y:(backTo pos (starEach [.Name xT g] X.env)).any (·.1)=false:=by rfl):DE X (.Call (.Name "isinstance" p1) [a,.Name xT g] [] pos) (fun δ=>(f δ).bind (Yp q)):=by
 obtain⟨ta,pa,ka⟩:=ha;have pT:PE X (.Name xT g) (tC (.ty T)):=iL hgT hmT U rfl Z hdT;refine⟨_,Ds eM hg hm PyProof.Rows.boot_isinstance (AM pa (AM pT Ah) B) (by decide) (by decide) B Y,fun δ z hz G0 H0 G H σ ts Q R0 k=>?_⟩;obtain⟨x,h1,h2⟩:=aB.mp hz;obtain⟨n1,rfl⟩:=gC h2;refine ka δ _ h1 G0 H0 G H σ ts _ R0 fun u G1 H1 R1=>?_;have du:=R1.CN _ (.head _);obtain⟨t1,t2⟩:=(du.same R1.ins).ty (K:=X.K) n1;exact⟨u,.ty T,_,q x,rfl,by simp[Vq],t1,hk x t2,k _ _ _ (R1.drop.put (by rw[Du]))⟩
end
inductive Ou where
 |nx (δ:Dv)|rt (x:PyData)|bk (δ:Dv)|ct (δ:Dv)|rn (xs:List PyData)
def Fin(G0 H0:Hp)(D:Ends):Ou->Prop
 |.nx δ=>∀σ G H,Rw G0 H0 G H σ δ []->D.nx σ H
 |.rt x=>∀v G H,AL G0 G->Nw G0 H0 G->AL G H->AL H0 H->Du G x v->D.rt v H
 |.bk δ=>∀σ G H,Rw G0 H0 G H σ δ []->D.bk σ H
 |.ct δ=>∀σ G H,Rw G0 H0 G H σ δ []->D.ct σ H
 |.rn xs=>∀a ys G H,AL G0 G->Nw G0 H0 G->AL G H->AL H0 H->H0 a=none->G a=none->H a=some (.lst ys)->Av G xs ys->D.rt (.ref a) H
abbrev DF:=Dv->Option Ou
def DS(X:Cx)(st:Stmt)(F:DF):Prop:=∃t,PS X st t/\∀δ r,F δ=some r->∀G0 H0 G H σ D,Rw G0 H0 G H σ δ []->Fin G0 H0 D r->t D σ H
def Kr(X:Cx)(st:sT)(F:DF):Prop:=∃t,LC X st t/\∀δ r,F δ=some r->∀G0 H0 G H σ D,Rw G0 H0 G H σ δ []->Fin G0 H0 D r->t D σ H
def Al(B F2:DF)(δ:Dv):Option Ou:=match B δ with
 |some (.nx g)=>F2 g
 |o=>o
section
variable{X:Cx}{c e:Expr}{f h:rk}{fa:rp}{pos p:Pos}{st:Stmt}{sts sts':sT}{F1 F2:DF}
def BR:Kr X [] (fun δ=>some (.nx δ)):=⟨_,EL,fun δ r h G0 H0 G H σ D R k=>by cases h;exact k _ _ _ R⟩
def AR(h1:DS X st F1)(h2:Kr X sts F2):Kr X (st::sts) (Al F1 F2):=by
 obtain⟨t1,Z,U⟩:=h1;obtain⟨t2,Y,k2⟩:=h2;refine⟨_,Ab Z Y,fun δ r h G0 H0 G H σ D R k=>?_⟩;unfold Al at h;split at h
 .rename_i g e1;exact U δ _ e1 G0 H0 G H σ _ R fun B G' H' R'=>k2 g r h G0 H0 G' H' B D R' k
 .rename_i T;refine U δ r h G0 H0 G H σ _ R ?_;cases r with
  |nx g=>exact absurd h (T g)
  |rt x=>exact k
  |bk g=>exact k
  |ct g=>exact k
  |rn xs=>exact k
def AN(T:DS X st F1):Kr X [st] F1:=by
 obtain⟨t1,g,B⟩:=T;exact⟨_,A2 g,B⟩
def M6:DS X st (fun _=>none):=⟨_,Vw,fun _ _ h=>by cases h⟩
def Au(B:DE X e f):DS X (.Return (some e) pos) (fun δ=>(f δ).map .rt):=by
 obtain⟨t,p,k⟩:=B;refine⟨_,CB p,fun δ r h G0 H0 G H σ D R q=>?_⟩;obtain⟨x,T,rfl⟩:=aC.mp h;exact k δ x T G0 H0 G H σ [] _ R fun v U H' g=>q v U H' g.ext g.new g.ins g.keep (g.CN _ (.head _))
def O9(B:DE X e f)(g:swapsWith e none pos.line X.env=pure false:=by rfl):DS X (.Expr e pos) (fun δ=>(f δ).map fun _=>.nx δ):=by
 obtain⟨t,p,k⟩:=B;refine⟨_,Ep p g,fun δ r h G0 H0 G H σ D R q=>?_⟩;obtain⟨x,T,rfl⟩:=aC.mp h;exact k δ x T G0 H0 G H σ [] _ R fun v Y H' U=>q _ _ _ U.drop
def B8(g:DT X c fa)(h1:Kr X sts F1)(h2:Kr X sts' F2):DS X (.If c sts sts' pos) (fun δ=>(fa δ).bind fun c=>if c=true then F1 δ else F2 δ):=by
 obtain⟨tc,pc,kc⟩:=g;obtain⟨t1,Z,k1⟩:=h1;obtain⟨t2,Y,k2⟩:=h2;refine⟨_,Gq pc Z Y,fun δ r h G0 H0 G H σ D R q=>?_⟩;obtain⟨i,h3,B⟩:=aB.mp h;refine kc δ i h3 G0 H0 G H σ [] _ R fun U H' T=>?_;split
 .rename_i g;rw[if_pos g]at B;exact k1 δ r B G0 H0 U H' σ D T q
 .rename_i g;rw[if_neg g]at B;exact k2 δ r B G0 H0 U H' σ D T q
end
section
variable{G0 H0 G H:Hp}{σ:St}{δ:Dv}{ts:List (PD×V)}
def Rw.IB{i:Nat}{x:PD}{v:V}(r:Rw G0 H0 G H σ δ ((x,v)::ts)):Rw G0 H0 G H (σ.set i (some v)) (δ.set i (.d x)) ts:=by
 have hl:=r.len;refine⟨r.ext,r.new,r.ins,r.keep,by simp[hl],fun j y h=>?_,fun j ys h=>?_,fun j l ys zs Z T B=>?_,fun q hq=>r.CN q (.tail _ hq)⟩
 .by_cases g:i=j
  .subst g;by_cases hi:i<δ.length
   .rw[List.getElem?_set_self hi]at h;cases h;exact⟨v,by rw[List.getElem?_set_self (by lia)],r.CN _ (.head _)⟩
   .rw[List.getElem?_eq_none (by simp;lia)]at h;cases h
  .rw[List.getElem?_set_ne g]at h;obtain⟨w,Y,U⟩:=r.dat j y h;exact⟨w,by rw[List.getElem?_set_ne g];exact Y,U⟩
 .by_cases g:i=j
  .subst g;by_cases hi:i<δ.length
   .rw[List.getElem?_set_self hi]at h;cases h
   .rw[List.getElem?_eq_none (by simp;lia)]at h;cases h
  .rw[List.getElem?_set_ne g]at h;obtain⟨w,Y,U,k3⟩:=r.own j ys h;exact⟨w,Y,by rw[List.getElem?_set_ne g];exact U,k3⟩
 .have nj:i≠j:=fun z=>by
   subst z;by_cases hi:i<δ.length
   .rw[List.getElem?_set_self hi]at T;cases T
   .rw[List.getElem?_eq_none (by simp;lia)]at T;cases T
  have nl:i≠l:=fun z=>by
   subst z;by_cases hi:i<δ.length
   .rw[List.getElem?_set_self hi]at B;cases B
   .rw[List.getElem?_eq_none (by simp;lia)]at B;cases B
  rw[List.getElem?_set_ne nj]at T ⊢;rw[List.getElem?_set_ne nl]at B ⊢;exact r.apart j l ys zs Z T B
end
section
variable{X:Cx}{e:Expr}{f:rk}{pos p:Pos}
def Bt{i:Nat}{x:Str}{g:Pos}(Z:X.N.Nodup)(hi:X.N[i]? = some x)(B:Loc X.env.scope x)(Y:DE X e f)(T:swapsWith e (some (.Name x g)) pos.line X.env=pure false:=by rfl)(U:X.fn x=true\/X.env.scope.names.lookup x=some .local:=by first|exact .inl rfl|exact .inr rfl|assumption):DS X (.Assign [.Name x g] e pos) (fun δ=>(f δ).map fun y=>.nx (δ.set i (.d y))):=by
 obtain⟨t,p,k⟩:=Y;refine⟨_,BB Z hi B p T U,fun δ r h G0 H0 G H σ D R q=>?_⟩;obtain⟨y,h1,rfl⟩:=aC.mp h;exact k δ y h1 G0 H0 G H σ [] _ R fun v G' H' R'=>q _ _ _ R'.IB
end
section
variable{G0 H0 G H:Hp}{σ:St}{δ:Dv}{ts:List (PD×V)}
def Rw.base(r:Rw G0 H0 G H σ δ ts):Rw G H0 G H σ δ ts:={r with ext:=AL.refl G,new:=fun _ _ h=>.inl h}
def Nw.trans{B g:Hp}(a:Nw G0 H0 B)(b:Nw B H0 g):Nw G0 H0 g:=fun c o h=>by
 rcases b c o h with z|z|z
 .exact a c o z
 .exact .inr (.inl z)
 .exact .inr (.inr z)
def Rw.Va{T H':Hp}{g:St}{δ':Dv}{B:List (PD×V)}(r:Rw G0 H0 G H σ δ ts)(q:Rw G H0 T H' g δ' B):Rw G0 H0 T H' g δ' B:={q with ext:=r.ext.trans q.ext,new:=r.new.trans q.new}
def Hf(i:Nat)(δ:Dv):Dv:=match δ[i]? with
 |some (.own (.lst xs))=>δ.set i (.d (.list xs))
 |some (.own (.WM kvs))=>δ.set i (.d (UP kvs))
 |_=>δ
def Rw.letGo{i:Nat}{c:Oc}{x:PD}(r:Rw G0 H0 G H σ δ ts)(hi:δ[i]? = some (.own c))(hx:∀a o,G a=none->J5 G a c o->Du (upd G a o) x (.ref a)):∃a o,σ[i]? = some (some (.ref a))/\G a=none/\H0 a=none/\H a=some o/\J5 G a c o/\Rw G0 H0 (upd G a o) H σ (δ.set i (.d x)) ts:=by
 obtain⟨a,o,k1,k2,k3,k4,k5⟩:=r.own i _ hi;have e:AL G (upd G a o):=An k2 _;have g:i<δ.length:=(aD.mp hi).1;refine⟨a,o,k1,k2,k3,k4,k5,r.ext.trans e,fun b o' h=>?_,fun b o' h=>?_,r.keep,by simp[r.len],fun j y h=>?_,fun j zs h=>?_,fun j l us ws hjl Z Y=>?_,fun q hq=>(r.CN q hq).same e⟩
 .by_cases T:b=a
  .subst T;exact .inr (.inl k3)
  .rw[AJ T]at h;exact r.new _ _ h
 .by_cases T:b=a
  .subst T;rw[AW]at h;rw[k4];exact h
  .rw[AJ T]at h;exact r.ins _ _ h
 .by_cases B:i=j
  .subst B;rw[List.getElem?_set_self g]at h;cases h;exact⟨.ref a,k1,hx a o k2 k5⟩
  .rw[List.getElem?_set_ne B]at h;obtain⟨w,U,m2⟩:=r.dat j y h;exact⟨w,U,m2.same e⟩
 .by_cases B:i=j
  .subst B;rw[List.getElem?_set_self g]at h;cases h
  .rw[List.getElem?_set_ne B]at h;obtain⟨b,us,U,m2,m3,m4,m5⟩:=r.own j zs h;have nb:b≠a:=fun z=>by subst z;exact r.apart i j _ zs B hi h (by rw[k1,U])
   exact⟨b,us,U,by rw[AJ nb];exact m2,m3,m4,m5.same e⟩
 .have nj:i≠j:=fun z=>by subst z;rw[List.getElem?_set_self g]at Z;cases Z
  have nl:i≠l:=fun z=>by subst z;rw[List.getElem?_set_self g]at Y;cases Y
  rw[List.getElem?_set_ne nj]at Z;rw[List.getElem?_set_ne nl]at Y;exact r.apart j l us ws hjl Z Y
def ju{a:AD}{o:HO}{xs:rq}(g:G a=none)(h:J5 G a (.lst xs) o):Du (upd G a o) (.list xs) (.ref a):=by
 obtain⟨ys,rfl,k5⟩:=h;rw[Du];exact⟨a,ys,rfl,AW,k5.same (An g _)⟩
def nF{a:AD}{o:HO}{kvs:List (Option Tr×PD)}(g:G a=none)(h:J5 G a (.WM kvs) o):Du (upd G a o) (UP kvs) (.ref a):=by
 obtain⟨r,rfl,n,k5⟩:=h;rw[Du,Mq];exact .inr (.inr ⟨rfl,rfl,a,r,rfl,AW,n,Mc.same (An g _) k5⟩)
def Rw.Hf(i:Nat)(r:Rw G0 H0 G H σ δ ts):∃g,Rw G0 H0 g H σ (L2.Hf i δ) ts:=by
 unfold L2.Hf;split
 .rename_i xs hi;obtain⟨a,o,_,_,_,_,_,R⟩:=r.letGo (x:=.list xs) hi fun a o h=>ju h;exact⟨_,R⟩
 .rename_i kvs hi;obtain⟨a,o,_,_,_,_,_,R⟩:=r.letGo (x:=UP kvs) hi fun a o h=>nF h;exact⟨_,R⟩
 .exact⟨G,r⟩
def Rw.jR{i:Nat}{xs:Oc}{ys:HO}{a:AD}(r:Rw G0 H0 G H σ δ ts)(d:J5 G a xs ys)(ha:H a=none):Rw G0 H0 G (upd H a ys) (σ.set i (some (.ref a))) (δ.set i (.own xs)) ts:=by
 have hG:G a=none:=by
  cases q:G a with
  |none=>rfl
  |some u=>rw[r.ins _ _ q]at ha;cases ha
 have h0:H0 a=none:=by
  cases q:H0 a with
  |none=>rfl
  |some u=>rw[r.keep _ _ q]at ha;cases ha
 have e:AL H (upd H a ys):=An ha _;have hl:=r.len;have other:∀(j:Nat) (zs:Oc),i≠j->(δ.set i (.own xs))[j]? = some (L.own zs)->δ[j]? = some (L.own zs):=fun j zs g h=>by rw[List.getElem?_set_ne g]at h;exact h
 have B:∀(j:Nat) (zs:Oc),δ[j]? = some (L.own zs)->σ[j]?≠some (some (V.ref a)):=fun j zs h z=>by
  obtain⟨b,us,U,m2,m3,m4,m5⟩:=r.own j zs h;rw[z]at U;cases U;rw[m4]at ha;cases ha
 refine⟨r.ext,r.new,r.ins.trans e,r.keep.trans e,by simp[hl],fun j y h=>?_,fun j zs h=>?_,fun j l us ws hjl Y T=>?_,r.CN⟩
 .by_cases g:i=j
  .subst g;by_cases hi:i<δ.length
   .rw[List.getElem?_set_self hi]at h;cases h
   .rw[List.getElem?_eq_none (by simp;lia)]at h;cases h
  .rw[List.getElem?_set_ne g]at h;obtain⟨w,U,m2⟩:=r.dat j y h;exact⟨w,by rw[List.getElem?_set_ne g];exact U,m2⟩
 .by_cases g:i=j
  .subst g;by_cases hi:i<δ.length
   .rw[List.getElem?_set_self hi]at h;cases h;exact⟨a,ys,by rw[List.getElem?_set_self (by lia)],hG,h0,AW,d⟩
   .rw[List.getElem?_eq_none (by simp;lia)]at h;cases h
  .have h:=other j zs g h;obtain⟨b,us,U,m2,m3,m4,m5⟩:=r.own j zs h;exact⟨b,us,by rw[List.getElem?_set_ne g];exact U,m2,m3,e _ _ m4,m5⟩
 .by_cases g:i=j
  .subst g;have Z:i≠l:=hjl;have T:=other l ws Z T;by_cases hi:i<δ.length
   .rw[List.getElem?_set_self (by lia),List.getElem?_set_ne Z];exact fun z=>B l ws T z.symm
   .rw[List.getElem?_eq_none (by simp;lia)]at Y;cases Y
  .have Y:=other j us g Y;by_cases hk:i=l
   .subst hk;by_cases hi:i<δ.length
    .rw[List.getElem?_set_self (by lia),List.getElem?_set_ne g];exact fun z=>B j us Y z
    .rw[List.getElem?_eq_none (by simp;lia)]at T;cases T
   .have T:=other l ws hk T;rw[List.getElem?_set_ne g,List.getElem?_set_ne hk];exact r.apart j l us ws hjl Y T
def Rw.f7{i:Nat}{xs B:Oc}{ys:HO}{a:AD}(r:Rw G0 H0 G H σ δ ts)(hi:δ[i]? = some (.own xs))(ha:σ[i]? = some (some (.ref a)))(d:J5 G a B ys):Rw G0 H0 G (upd H a ys) σ (δ.set i (.own B)) ts:=by
 obtain⟨a',ys0,k1,k2,k3,k4,k5⟩:=r.own i xs hi;rw[ha]at k1;cases k1;have U:i<δ.length:=(aD.mp hi).1;have hl:=r.len;refine⟨r.ext,r.new,fun b o h=>?_,fun b o h=>?_,by simp[hl],fun j y h=>?_,fun j zs h=>?_,fun j l us ws Z h1 h2=>?_,r.CN⟩
 .rw[AJ (fun z=>by subst z;rw[k2]at h;cases h)];exact r.ins _ _ h
 .rw[AJ (fun z=>by subst z;rw[k3]at h;cases h)];exact r.keep _ _ h
 .by_cases g:i=j
  .subst g;rw[List.getElem?_set_self U]at h;cases h
  .rw[List.getElem?_set_ne g]at h;exact r.dat j y h
 .by_cases g:i=j
  .subst g;rw[List.getElem?_set_self U]at h;cases h;exact⟨a,ys,ha,k2,k3,AW,d⟩
  .rw[List.getElem?_set_ne g]at h;obtain⟨b,us,m1,m2,m3,m4,m5⟩:=r.own j zs h;have nb:b≠a:=fun z=>by subst z;exact r.apart i j xs zs g hi h (by rw[ha,m1])
   exact⟨b,us,m1,m2,m3,by rw[AJ nb];exact m4,m5⟩
 .have f:∀(j:Nat) (us:Oc),(δ.set i (.own B))[j]? = some (L.own us)->∃T,δ[j]? = some (L.own T):=fun j us h=>by
   by_cases g:i=j
   .subst g;exact⟨xs,hi⟩
   .rw[List.getElem?_set_ne g]at h;exact⟨us,h⟩
  obtain⟨T,h1⟩:=f j us h1;obtain⟨Y,h2⟩:=f l ws h2;exact r.apart j l T Y Z h1 h2
end
section
variable{X:Cx}{a b e:Expr}{es:sL}{f g h:rk}{fs:rj}{pos p:Pos}{st:Stmt}{F:DF}
def RX(i:Nat)(B:DS X st F):DS X st (fun δ=>F (Hf i δ)):=by
 obtain⟨t,p,k⟩:=B;refine⟨t,p,fun δ r h G0 H0 G H σ D R q=>?_⟩;obtain⟨U,T⟩:=R.Hf i;exact k _ r h G0 H0 U H σ D T q
def LB{i:Nat}{x:Str}{B U:Pos}(hN:X.N.Nodup)(hi:X.N[i]? = some x)(Z:Loc X.env.scope x)(ha:DA X es fs)(hs:swapsWith (.List es U) (some (.Name x B)) pos.line X.env=pure false:=by rfl)(hf:X.fn x=true\/X.env.scope.names.lookup x=some .local:=by first|exact .inl rfl|exact .inr rfl|assumption):DS X (.Assign [.Name x B] (.List es U) pos) (fun δ=>((fs δ).bind Lz).map fun ys=>.nx (δ.set i (.own (.lst ys)))):=by
 obtain⟨t,p,k⟩:=ha;refine⟨_,BB hN hi Z (IY p) hs hf,fun δ r h G0 H0 G H σ D R q=>?_⟩;obtain⟨y,h1,rfl⟩:=aC.mp h;obtain⟨xs,h2,h3⟩:=aB.mp h1;obtain⟨rfl,hl⟩:=OU h3;refine k δ _ h2 G0 H0 G H σ [] _ R fun vs G1 H1 R1 Y=>?_;obtain⟨d,R2⟩:=R1.args Y;exact⟨HQ (by rw[Y];exact hl),fun l T=>q _ _ _ (R2.jR ⟨_,rfl,d⟩ T)⟩
def ow(i:Nat)(δ:Dv):Option rq:=match δ[i]? with
 |some (.own (.lst xs))=>some xs
 |_=>none
def O3{i:Nat}{δ:Dv}{xs:rq}(h:ow i δ=some xs):δ[i]? = some (.own (.lst xs)):=by
 unfold ow at h;split at h
 .rename_i y e;cases h;exact e
 .cases h
def Ju{i:Nat}{x:Str}{np ap cp:Pos}(hv:PE X (.Name x np) (Oz i))(he:DE X e f) (hP:∀ {Z:TE} {t:TA},PE X (.Name x np) Z->PA X [e] t->PS X (.Expr (.Call (.Attribute (.Name x np) "append" ap) [e] [] cp) pos) (ZD (mI X.K "list" Xi Z t)))(T:starEach [e] X.env=(false,eval e X.env)::starEach [] X.env:=by rfl):DS X (.Expr (.Call (.Attribute (.Name x np) "append" ap) [e] [] cp) pos) (fun δ=>(f δ).bind fun y=>(ow i δ).bind fun xs=>if xs.length<Cc then some (.nx (δ.set i (.own (.lst (xs++[y]))))) else none):=by
 obtain⟨t,p,k⟩:=he;refine⟨_,hP hv (AM p Ah T),fun δ r h G0 H0 G H σ D R q=>?_⟩;obtain⟨y,h1,h2⟩:=aB.mp h;obtain⟨xs,h3,U⟩:=aB.mp h2;split at U
 .rename_i hl;cases U;have hi:=O3 h3;obtain⟨a,_,B,k2,k3,k4,⟨ys,rfl,k5⟩⟩:=R.own i _ hi;refine⟨.ref a,B,.inl ⟨rfl,ys,Aw.of k4⟩,?_⟩;refine k δ y h1 G0 H0 G H σ [] _ R fun u G1 H1 Y=>?_;obtain⟨a',_,m1,m2,m3,m4,⟨zs,rfl,m5⟩⟩:=Y.own i _ hi;rw[B]at m1;cases m1;refine⟨a,zs,u,rfl,rfl,m4,SY (by rw[m5.len];lia),?_⟩;exact q _ _ _ (Y.drop.f7 hi B ⟨_,rfl,m5.app (.cons (Y.CN _ (.head _)) .nil)⟩)
 .cases U
def OT{i:Nat}{x:Str}{np ap cp:Pos}(hv:PE X (.Name x np) (Oz i))(he:DE X e f)
 (hP:∀ {Z:TE} {t:TA},PE X (.Name x np) Z->PA X [e] t->PS X (.Expr (.Call (.Attribute (.Name x np) "extend" ap) [e] [] cp) pos) (ZD (mI X.K "list" Ws Z t)))(Y:starEach [e] X.env=(false,eval e X.env)::starEach [] X.env:=by rfl) :
  DS X (.Expr (.Call (.Attribute (.Name x np) "extend" ap) [e] [] cp) pos) (fun δ=>(f δ).bind fun y=>(ow i δ).bind fun xs=>match y with|.list zs=>(if xs.length+zs.length<=Cc then some (.nx (δ.set i (.own (.lst (xs++zs))))) else none)|_=>none):=by
 obtain⟨t,p,k⟩:=he;refine⟨_,hP hv (AM p Ah Y),fun δ r h G0 H0 G H σ D R q=>?_⟩;obtain⟨y,h1,h2⟩:=aB.mp h;obtain⟨xs,h3,B⟩:=aB.mp h2;split at B
 .rename_i zs;split at B
  .rename_i hl;cases B;have hi:=O3 h3;obtain⟨a,_,U,k2,k3,k4,⟨ys,rfl,k5⟩⟩:=R.own i _ hi;refine⟨.ref a,U,.inl ⟨rfl,ys,Aw.of k4⟩,?_⟩;refine k δ _ h1 G0 H0 G H σ [] _ R fun u G1 H1 T=>?_;obtain⟨a',_,m1,m2,m3,m4,⟨us,rfl,m5⟩⟩:=T.own i _ hi;rw[U]at m1;cases m1;have du:=T.CN _ (.head _);rw[Du]at du;obtain⟨b,ws,rfl,n1,n2⟩:=du;refine⟨a,b,us,ws,rfl,rfl,m4,T.ins _ _ n1,HQ (by rw[m5.len,n2.len];exact hl),?_⟩;exact q _ _ _ (T.drop.f7 hi U ⟨_,rfl,m5.app n2⟩)
  .cases B
 .cases B
def cJ{i:Nat}{x:Str}{np:Pos}(hv:PE X (.Name x np) (Oz i))(hg:Gl X "len")(hm:X.mg "len" = none)(B:starEach [.Name x np] X.env=(false,eval (.Name x np) X.env)::starEach [] X.env:=by rfl)(T:(backTo pos (starEach [] X.env)).any (·.1)=false:=by rfl):DE X (.Call (.Name "len" p) [.Name x np] [] pos) (fun δ=>(ow i δ).map fun xs=>.int xs.length):=by
 refine⟨_,Ds Gu hg hm ag (AM hv Ah B) (by decide) (by decide) B T,fun δ z hz G0 H0 G H σ ts Q U k=>?_⟩;obtain⟨xs,h1,rfl⟩:=aC.mp hz;obtain⟨a,_,Z,k2,k3,Y,⟨ys,rfl,k5⟩⟩:=U.own i _ (O3 h1);refine⟨.ref a,Z,a,ys,rfl,.inl (Aw.of Y),?_⟩;rw[k5.len];exact k _ _ _ (U.put (by rw[Du]))
def de{i:Nat}{x:Str}{np:Pos}(hv:PE X (.Name x np) (Oz i))(hb:DE X b g)(hs:Se b):DE X (.Subscript (.Name x np) b pos) (fun δ=>(g δ).bind fun y=>(ow i δ).bind fun xs=>(TC y).bind fun k=>GO xs k):=by
 obtain⟨tb,pb,kb⟩:=hb;refine⟨_,Cv JV hv pb hs,fun δ z hz G0 H0 G H σ ts Q R0 k=>?_⟩;obtain⟨y,h1,h2⟩:=aB.mp hz;obtain⟨xs,Y,h4⟩:=aB.mp h2;obtain⟨j,h5,h6⟩:=aB.mp h4;have:=U8 h5;subst this;obtain⟨a,_,U,k2,k3,k4,⟨ys,rfl,k5⟩⟩:=R0.own i _ (O3 Y);refine⟨.ref a,U,?_⟩;refine kb δ _ h1 G0 H0 G H σ ts _ R0 fun v G1 H1 B=>?_;have Z:=B.CN _ (.head _);rw[Du]at Z;obtain⟨a',_,T,m2,m3,m4,⟨us,rfl,m5⟩⟩:=B.own i _ (O3 Y);rw[U]at T;cases T;obtain⟨w,h7,h8⟩:=m5.GO h6;exact⟨a,us,j,w,rfl,Z,Aw.of m4,h7,k _ _ _ (B.drop.put h8)⟩
end
structure J6(J:It)(xs:List PyData)(G:Hp):Prop where
 stop:∀H,AL G H->J.stop xs.length H
 go:∀(i:Nat) (d:PyData) H,xs[i]? = some d->AL G H->J.go i H
 F8:∀(i:Nat) (d:PyData) H x H',xs[i]? = some d->AL G H->J.F8 i H x H'->∀Gc,AL G Gc->AL Gc H->∃Gc',AL Gc Gc'/\Nw Gc H Gc'/\AL Gc' H'/\AL H H'/\Du Gc' d x
def Nw.refl{G H:Hp}:Nw G H G:=fun _ _ h=>.inl h
def gk{K:Fg}{G:Hp}{a:AD}{ys:sQ}{xs:rq}(ha:G a=some (.lst ys))(d:Av G xs ys):J6 (W6 K a) xs G where
 stop:=fun H e=>⟨ys,Aw.of (e _ _ ha),by rw[d.len];exact aG _⟩
 go:=fun i x H hx e=>by
  obtain⟨v,h1,_⟩:=d.get hx;exact⟨ys,v,Aw.of (e _ _ ha),h1⟩
 F8:=fun i x H v H' hx e y Gc e1 e2=>by
  obtain⟨rfl,y⟩:=y;have h1:=y ys (Aw.of (e _ _ ha));obtain⟨x',h2,h3⟩:=d.back h1;rw[hx]at h2;cases h2;exact⟨Gc,AL.refl _,Nw.refl,e2,AL.refl _,h3.same e1⟩
def lX{K:Fg}{G:Hp}{a:AD}{ys:sQ}{xs:rq}(ha:G a=some (.tup ys))(d:Av G xs ys):J6 (Xz K a) xs G where
 stop:=fun H e=>⟨ys,BN.of (e _ _ ha),by rw[d.len];exact aG _⟩
 go:=fun i x H hx e=>by
  obtain⟨v,h1,_⟩:=d.get hx;exact⟨ys,v,BN.of (e _ _ ha),h1⟩
 F8:=fun i x H v H' hx e y Gc e1 e2=>by
  obtain⟨rfl,y⟩:=y;have h1:=y ys (BN.of (e _ _ ha));obtain⟨x',h2,h3⟩:=d.back h1;rw[hx]at h2;cases h2;exact⟨Gc,AL.refl _,Nw.refl,e2,AL.refl _,h3.same e1⟩
def J3(lo:Int)(n:Nat):rq:=(List.range n).map fun k=>.int (lo+(k:Nat))
def b9{G:Hp}{lo:Int}{n:Nat}:J6 (Tf lo n) (J3 lo n) G where
 stop:=fun H e=>by show n<=_;simp[J3]
 go:=fun i x H hx e=>by
  have:=(aD.mp hx).1;show i<n
  simpa[J3]using this
 F8:=fun i x H v H' hx e y Gc e1 e2=>by
  obtain⟨rfl,rfl⟩:=y;unfold J3 at hx;rw[List.getElem?_map]at hx;obtain⟨k,h1,rfl⟩:=aC.mp hx;have hk:k=i:=by
   have:=(aD.mp h1).1;rw[List.getElem?_range (by simpa using this)]at h1;cases h1;rfl
  subst hk;exact⟨Gc,AL.refl _,Nw.refl,e2,AL.refl _,by rw[Du]⟩
def QH{Gc H:Hp}{p:AD}{Z Y:PD}{B g:V}(U:AL Gc H)(T:H p=none)(h1:Du Gc Z B)(h2:Du Gc Y g):∃Gc',AL Gc Gc'/\Nw Gc H Gc'/\AL Gc' (upd H p (.tup [B,g]))/\AL H (upd H p (.tup [B,g]))/\Du Gc' (.tuple [Z,Y]) (.ref p):=by
 have hG:Gc p=none:=by
  cases q:Gc p with
  |none=>rfl
  |some u=>rw[U _ _ q]at T;cases T
 have e:AL Gc (upd Gc p (.tup [B,g])):=An hG _;refine⟨upd Gc p (.tup [B,g]),e,fun a o h=>?_,fun a o h=>?_,An T _,?_⟩
 .by_cases ha:a=p
  .subst ha;exact .inr (.inl T)
  .rw[AJ ha]at h;exact .inl h
 .by_cases ha:a=p
  .subst ha;rw[AW]at h ⊢;exact h
  .rw[AJ ha]at h ⊢;exact U _ _ h
 .rw[Du];exact⟨p,[B,g],rfl,AW,.cons (h1.same e) (.cons (h2.same e) .nil)⟩
def EK(xs:rq):rq:=xs.zipIdx.map fun q=>.tuple [.int (q.2:Nat),q.1]
def F7{xs:rq}{i:Nat}{d:PD}(h:(EK xs)[i]? = some d):∃x,xs[i]? = some x/\d=.tuple [.int (i:Nat),x]:=by
 unfold EK at h;rw[List.getElem?_map]at h;obtain⟨q,g,rfl⟩:=aC.mp h;rw[List.getElem?_zipIdx]at g;obtain⟨x,B,rfl⟩:=aC.mp g;exact⟨x,B,by simp⟩
def eV{K:Fg}{G:Hp}{a:AD}{ys:sQ}{xs:rq}(ha:G a=some (.tup ys))(d:Av G xs ys):J6 (lh K a) (EK xs) G where
 stop:=fun H e=>⟨ys,BN.of (e _ _ ha),by rw[d.len];simp[EK]⟩
 go:=fun i x H hx e=>by
  obtain⟨x',h0,rfl⟩:=F7 hx;obtain⟨v,h1,_⟩:=d.get h0;exact⟨ys,v,BN.of (e _ _ ha),h1⟩
 F8:=fun i x H v H' hx e y Gc e1 e2=>by
  obtain⟨x',h0,rfl⟩:=F7 hx;obtain⟨p,u,rfl,hp,rfl,y⟩:=y;have h1:=y ys (BN.of (e _ _ ha));obtain⟨x2,h2,h3⟩:=d.back h1;rw[h0]at h2;cases h2;exact QH e2 hp (by rw[Du]) (h3.same e1)
def dy{K:Fg}{G:Hp}{a:AD}{ys:sQ}{xs:rq}(ha:G a=some (.lst ys))(d:Av G xs ys):J6 (mJ K a) (EK xs) G where
 stop:=fun H e=>⟨ys,Aw.of (e _ _ ha),by rw[d.len];simp[EK]⟩
 go:=fun i x H hx e=>by
  obtain⟨x',h0,rfl⟩:=F7 hx;obtain⟨v,h1,_⟩:=d.get h0;exact⟨ys,v,Aw.of (e _ _ ha),h1⟩
 F8:=fun i x H v H' hx e y Gc e1 e2=>by
  obtain⟨x',h0,rfl⟩:=F7 hx;obtain⟨p,u,rfl,hp,rfl,y⟩:=y;have h1:=y ys (Aw.of (e _ _ ha));obtain⟨x2,h2,h3⟩:=d.back h1;rw[h0]at h2;cases h2;exact QH e2 hp (by rw[Du]) (h3.same e1)
def IJ(xs ys:rq):rq:=(xs.zip ys).map fun q=>.tuple [q.1,q.2]
def U3{xs ys:rq}{i:Nat}{d:PD}(h:(IJ xs ys)[i]? = some d):∃x y,xs[i]? = some x/\ys[i]? = some y/\d=.tuple [x,y]:=by
 unfold IJ at h;rw[List.getElem?_map]at h;obtain⟨q,T,rfl⟩:=aC.mp h;obtain⟨B,g⟩:=List.getElem?_zip_eq_some.mp T;exact⟨q.1,q.2,B,g,rfl⟩
def mG{G:Hp}{b1 b2:Bool}{a1 a2:AD}{us vs:sQ}{xs ys:rq}(h1:G a1=some (if b1 then .tup us else .lst us))(h2:G a2=some (if b2 then .tup vs else .lst vs))(d1:Av G xs us)(d2:Av G ys vs):J6 (kF b1 b2 a1 a2) (IJ xs ys) G where
 stop:=fun H e=>by
  have k1:=e _ _ h1;have k2:=e _ _ h2;refine⟨us,vs,?_,?_,?_⟩
  .cases b1<;>simpa[CK]using k1
  .cases b2<;>simpa[CK]using k2
  .rw[d1.len,d2.len];simp[IJ];lia
 go:=fun i x H hx e=>by
  obtain⟨x1,x2,k1,k2,rfl⟩:=U3 hx;obtain⟨v1,k3,_⟩:=d1.get k1;obtain⟨v2,k4,_⟩:=d2.get k2;have m1:=e _ _ h1;have m2:=e _ _ h2;refine⟨us,v1,vs,v2,?_,?_,k3,k4⟩
  .cases b1<;>simpa[CK]using m1
  .cases b2<;>simpa[CK]using m2
 F8:=fun i x H v H' hx e y Gc e1 e2=>by
  obtain⟨x1,x2,k1,k2,rfl⟩:=U3 hx;obtain⟨p,v1,v2,rfl,hp,rfl,y1,y2⟩:=y;have m1:=e _ _ h1;have m2:=e _ _ h2;have z1:=y1 us (by cases b1<;>simpa[CK]using m1);have z2:=y2 vs (by cases b2<;>simpa[CK]using m2);obtain⟨w1,n1,n2⟩:=d1.back z1;obtain⟨w2,n3,n4⟩:=d2.back z2;rw[k1]at n1;cases n1;rw[k2]at n3;cases n3;exact QH e2 hp (n2.same e1) (n4.same e1)
def DI(X:Cx)(tg iter:Expr)(f:rj):Prop:=∃g,PI X tg iter g/\∀δ xs,f δ=some xs->∀G0 H0 G H σ ts (R:It->Hp->Prop),Rw G0 H0 G H σ δ ts->(∀J B H',Rw G0 H0 B H' σ δ ts->J6 J xs B->R J H')->g σ H R
section
variable{X:Cx}{tg a b e:Expr}{f g h:rk}{fs:rj}{pos p:Pos}{sts:sT}{F:DF}
def PI.or{T B:TI}(h:PI X tg e T)(h':PI X tg e B):PI X tg e (fun σ H R=>T σ H R\/B σ H R):=fun pins s σ H R I q=>by
 rcases q with q|q
 .exact h pins s σ H R I q
 .exact h' pins s σ H R I q
def D7:PD->Option (List PD)
 |.list xs=>some xs
 |.tuple xs=>some xs
 |_=>none
def Cr(he:DE X e f):DI X tg e (fun δ=>(f δ).bind D7):=by
 obtain⟨t,p,k⟩:=he;refine⟨_,(FH p).or (Ud p),fun δ xs h G0 H0 G H σ ts R R0 q=>?_⟩;obtain⟨x,Z,U⟩:=aB.mp h;unfold D7 at U;split at U
 .cases U
  left
  refine k δ _ Z G0 H0 G H σ ts _ R0 fun v G' H' B=>?_;have du:=B.CN _ (.head _);rw[Du]at du;obtain⟨a,ys,rfl,T,Y⟩:=du;exact⟨a,rfl,⟨ys,Aw.of (B.ins _ _ T)⟩,q _ _ _ B.drop (gk T Y)⟩
 .cases U
  right
  refine k δ _ Z G0 H0 G H σ ts _ R0 fun v G' H' B=>?_;have du:=B.CN _ (.head _);rw[Du]at du;obtain⟨a,ys,rfl,T,Y⟩:=du;exact⟨a,rfl,⟨ys,BN.of (B.ins _ _ T)⟩,q _ _ _ B.drop (lX T Y)⟩
 .cases U
def V5:List PD->Option (List PD)
 |[.int j]=>if -1000000<=j/\j<=1000000 then some (J3 0 j.toNat) else none
 |_=>none
def S5:List PD->Option (List PD)
 |[.int i,.int j]=>if -1000000<=i/\i<=1000000/\-1000000<=j/\j<=1000000 then some (J3 i (j-i).toNat) else none
 |_=>none
def TY(Y:Gl X "range")(hm:X.mg "range" = none)(ha:DA X [a] fs)(U:starEach [a] X.env=[(false,eval a X.env)]:=by rfl):DI X tg (.Call (.Name "range" p) [a] [] pos) (fun δ=>(fs δ).bind V5):=by
 obtain⟨t,p,k⟩:=ha;refine⟨_,Ji Y hm p U,fun δ xs h G0 H0 G H σ ts R R0 q=>?_⟩;obtain⟨x,Z,B⟩:=aB.mp h;refine k δ _ Z G0 H0 G H σ ts _ R0 fun vs G' H' R' T=>?_;obtain⟨d,R2⟩:=R'.args T;unfold V5 at B;split at B
 .split at B
  .cases B;obtain⟨u,rfl,du⟩:=d.Io;rw[Du]at du;subst du;exact⟨_,rfl,by lia,by lia,q _ _ _ R2 b9⟩
  .cases B
 .cases B
def Li(hg:Gl X "range")(hm:X.mg "range" = none)(ha:DA X [a,b] fs)(Z:starEach [a,b] X.env=[(false,eval a X.env),(false,eval b X.env)]:=by rfl)(T:starEach [b] X.env=[(false,eval b X.env)]:=by rfl):DI X tg (.Call (.Name "range" p) [a,b] [] pos) (fun δ=>(fs δ).bind S5):=by
 obtain⟨t,p,k⟩:=ha;refine⟨_,Z0 hg hm p Z T,fun δ xs h G0 H0 G H σ ts R R0 q=>?_⟩;obtain⟨x,h1,B⟩:=aB.mp h;refine k δ _ h1 G0 H0 G H σ ts _ R0 fun vs G' H' R' Y=>?_;obtain⟨d,R2⟩:=R'.args Y;unfold S5 at B;split at B
 .split at B
  .cases B;obtain⟨u,v,rfl,du,U⟩:=d.Md;rw[Du]at du U;subst du U;exact⟨_,_,rfl,⟨by lia,by lia,by lia,by lia⟩,q _ _ _ R2 b9⟩
  .cases B
 .cases B
def Hs:List PD->Option (List PD)
 |[.list xs]=>some (EK xs)
 |[.tuple xs]=>some (EK xs)
 |_=>none
def Ki{elts:sL}{x1}{B:Pos}(hg:Gl X "enumerate")(hm:X.mg "enumerate" = none)(ha:DA X [a] fs)(hs:starEach [a] X.env=[(false,eval a X.env)]:=by rfl):DI X (.Tuple elts x1 B) (.Call (.Name "enumerate" p) [a] [] pos) (fun δ=>(fs δ).bind Hs):=by
 obtain⟨t,p,k⟩:=ha;refine⟨_,(eO hg hm p hs).or (gO hg hm p hs),fun δ xs h G0 H0 G H σ ts R R0 q=>?_⟩;obtain⟨x,h1,U⟩:=aB.mp h;unfold Hs at U;split at U
 .cases U
  left
  refine k δ _ h1 G0 H0 G H σ ts _ R0 fun vs G' H' R' Z=>?_;obtain⟨d,R2⟩:=R'.args Z;obtain⟨u,rfl,du⟩:=d.Io;rw[Du]at du;obtain⟨a,ys,rfl,T,Y⟩:=du;exact⟨a,rfl,⟨ys,Aw.of (R2.ins _ _ T)⟩,q _ _ _ R2 (dy T Y)⟩
 .cases U
  right
  refine k δ _ h1 G0 H0 G H σ ts _ R0 fun vs G' H' R' Z=>?_;obtain⟨d,R2⟩:=R'.args Z;obtain⟨u,rfl,du⟩:=d.Io;rw[Du]at du;obtain⟨a,ys,rfl,T,Y⟩:=du;exact⟨a,rfl,⟨ys,BN.of (R2.ins _ _ T)⟩,q _ _ _ R2 (eV T Y)⟩
 .cases U
def zip2:List PD->Option (List PD)
 |[x,y]=>(D7 x).bind fun xs=>(D7 y).map fun ys=>IJ xs ys
 |_=>none
def G9{G:Hp}{x:PD}{v:V}{xs:rq}(h:Du G x v)(e:D7 x=some xs):∃(b:Bool) (a:AD) (ys:sQ),v=.ref a/\G a=some (if b then .tup ys else .lst ys)/\Av G xs ys:=by
 unfold D7 at e;split at e
 .cases e;rw[Du]at h;obtain⟨a,ys,rfl,T,B⟩:=h;exact⟨false,a,ys,rfl,T,B⟩
 .cases e;rw[Du]at h;obtain⟨a,ys,rfl,T,B⟩:=h;exact⟨true,a,ys,rfl,T,B⟩
 .cases e
def ZE{elts:sL}{x1}{B:Pos}(hg:Gl X "zip")(hm:X.mg "zip" = none)(ha:DA X [a,b] fs)(hs:starEach [a,b] X.env=[(false,eval a X.env),(false,eval b X.env)]:=by rfl)(U:starEach [b] X.env=[(false,eval b X.env)]:=by rfl):DI X (.Tuple elts x1 B) (.Call (.Name "zip" p) [a,b] [] pos) (fun δ=>(fs δ).bind zip2):=by
 obtain⟨t,p,k⟩:=ha;refine⟨_,VC hg hm p hs U,fun δ xs h G0 H0 G H σ ts R R0 q=>?_⟩;obtain⟨x,h1,T⟩:=aB.mp h;refine k δ _ h1 G0 H0 G H σ ts _ R0 fun vs G' H' R' hv=>?_;obtain⟨d,R2⟩:=R'.args hv;unfold zip2 at T;split at T
 .obtain⟨xs1,h3,h4⟩:=aB.mp T;obtain⟨ys1,h5,rfl⟩:=aC.mp h4;obtain⟨u,v,rfl,du,dv⟩:=d.Md;obtain⟨b1,a1,us,rfl,Y,n2⟩:=G9 du h3;obtain⟨b2,a2,ws,rfl,Z,m2⟩:=G9 dv h5;have s1:=R2.ins _ _ Y;have s2:=R2.ins _ _ Z;exact⟨b1,b2,a1,a2,rfl,⟨us,by cases b1<;>simpa[CK]using s1⟩,⟨ws,by cases b2<;>simpa[CK]using s2⟩,q _ _ _ R2 (mG Y Z n2 m2)⟩
 .cases T
def DG(X:Cx)(tg:Expr)(set:PD->Dv->Option Dv):Prop:=∃g,PG X tg g/\∀δ x T,set x δ=some T->∀G0 H0 G H σ v (Q:St->Hp->Prop),Rw G0 H0 G H σ δ [(x,v)]->(∀B U H',Rw G0 H0 U H' B T []->Q B H')->g v σ H Q
def Dw{i:Nat}{x:Str}(h:PG X (.Name x pos) (D6 i)):DG X (.Name x pos) (fun y δ=>some (δ.set i (.d y))) :=
 ⟨_,h,fun δ y B e G0 H0 G H σ v Q R k=>by cases e;exact k _ _ _ R.IB⟩
def DH(i j:Nat)(y:PD)(δ:Dv):Option Dv:=match y with
 |.tuple [u,v]=>some ((δ.set i (.d u)).set j (.d v))
 |_=>none
def Ie{x y:Str}{i j:Nat}{Y U:Pos}{Z}(h:PG X (.Tuple [.Name x Y,.Name y U] Z pos) (Yo X.K 2 (Ly (D6 i) (Ly (D6 j) Yh)))):DG X (.Tuple [.Name x Y,.Name y U] Z pos) (DH i j):=by
 refine⟨_,h,fun δ z δ' e G0 H0 G H σ v Q R k=>?_⟩;unfold DH at e;split at e
 .cases e;have du:=R.CN _ (.head _);rw[Du]at du;obtain⟨a,ys,rfl,n1,n2⟩:=du;obtain⟨T,B,rfl,m1,m2⟩:=n2.Md;refine⟨a,[T,B],rfl,BN.of (R.ins _ _ n1),rfl,T,[B],rfl,B,[],rfl,rfl,?_⟩;exact k _ _ _ (((R.drop.put m2).put m1).IB.IB)
 .cases e
def FF(set:PD->Dv->Option Dv)(T:DF):List PD->Dv->Option Ou
 |[],δ=>some (.nx δ)
 |x::xs,δ=>match (set x δ).bind T with
  |some (.nx B)=>FF set T xs B
  |some (.ct B)=>FF set T xs B
  |some (.bk B)=>some (.nx B)
  |some (.rt v)=>some (.rt v)
  |some (.rn v)=>some (.rn v)
  |none=>none
def CO{set:PD->Dv->Option Dv}(hp:PassesOwn (model X.prog X.w) X.A X.env X.xe)(hc:X.calm=true)(hi:DI X tg e fs)(hg:DG X tg set)(hb:Kr X sts F)(hs:∀x,foldedSetIterable e X.env x=pure x:=by intro _;rfl):DS X (.For tg e sts [] pos) (fun δ=>(fs δ).bind fun xs=>FF set F xs δ):=by
 obtain⟨wi,pi,ki⟩:=hi;obtain⟨g,pg,kg⟩:=hg;obtain⟨tb,pb,kb⟩:=hb;refine⟨_,Jm hp hc pi pg pb hs,fun δ r h G0 H0 G H σ D R q=>?_⟩;obtain⟨xs,h1,h2⟩:=aB.mp h;refine ki δ xs h1 G0 H0 G H σ [] _ R fun J Ga Ha Ra it=>?_;refine⟨fun i m T H'=>m=xs.length-i/\i<=xs.length/\∃B G',FF set F (xs.drop i) B=some r/\Rw G0 H0 G' H' T B []/\AL Ga G',⟨xs.length,by simp,Nat.zero_le _,δ,Ga,by simpa using h2,Ra,AL.refl _⟩,?_⟩;rintro i m σ1 H1 ⟨rfl,hi,δ1,G1,f1,R1,s1⟩;have sH:AL Ga H1:=s1.trans R1.ins;by_cases Y:i<xs.length
 .right
  have hx:xs[i]? = some xs[i]:=by simp[Y]
  refine⟨it.go i _ H1 hx sH,fun T H'=>i+1<=xs.length/\∃B G',FF set F (xs.drop (i+1)) B=some r/\Rw G0 H0 G' H' T B []/\AL Ga G',fun T H' n=>⟨xs.length-(i+1),by lia,rfl,n⟩,fun x H' y=>?_⟩;obtain⟨G2,e1,e2,e3,e4,e5⟩:=it.F8 i _ H1 x H' hx sH y G1 s1 R1.ins;have R2:=(R1.lift e1 e2 e3 e4).put e5;have s2:=s1.trans e1;rw[List.drop_eq_getElem_cons Y]at f1;unfold FF at f1;cases hb2:(set xs[i] δ1).bind F with
  |none=>rw[hb2]at f1;cases f1
  |some o=>
   obtain⟨δ2,k1,k2⟩:=aB.mp hb2;rw[hb2]at f1;have R2b:=R2.base;refine kg δ1 _ δ2 k1 G2 H0 G2 H' σ1 x _ R2b fun σ3 G3 H3 R3=>?_;refine kb δ2 o k2 G2 H0 G3 H3 σ3 _ R3 ?_;cases o with
   |nx U=>exact fun σ4 Z H4 R4=>⟨Y,U,Z,f1,R2.drop.Va R4,s2.trans R4.ext⟩
   |ct U=>exact fun σ4 Z H4 R4=>⟨Y,U,Z,f1,R2.drop.Va R4,s2.trans R4.ext⟩
   |bk U=>cases f1;exact fun σ4 Z H4 R4=>q σ4 Z H4 (R2.drop.Va R4)
   |rt v=>cases f1;exact fun w Z H4 h1 h2 h3 h4 h5=>q w Z H4 (R2.ext.trans h1) (R2.new.trans h2) h3 h4 h5
   |rn v=>cases f1;exact fun w ys Z H4 h1 h2=>q w ys Z H4 (R2.ext.trans h1) (R2.new.trans h2)
 .left
  have e:i=xs.length:=by lia
  subst e;refine⟨it.stop H1 sH,?_⟩;rw[List.drop_length]at f1;unfold FF at f1;cases f1;exact q _ _ _ R1
end
def tD(f:rk):TE:=fun σ H Q=>∃δ x G0 H0 G ts,f δ=some x/\Rw G0 H0 G H σ δ ts/\∀v g H',Rw G0 H0 g H' σ δ ((x,v)::ts)->Q v H'
def Xp(f:rp):TT:=fun σ H Q=>∃δ x G0 H0 G ts,f δ=some x/\Rw G0 H0 G H σ δ ts/\∀g H',Rw G0 H0 g H' σ δ ts->Q x H'
def DE.pe{X:Cx}{e:Expr}{f:rk}(h:DE X e f):PE X e (tD f):=by
 obtain⟨t,p,k⟩:=h;intro pins s σ H Q I q;obtain⟨δ,x,G0,H0,G,ts,T,B,g⟩:=q;exact p pins s σ H Q I (k δ x T G0 H0 G H σ ts Q B g)
def DT.pt{X:Cx}{e:Expr}{f:rp}(h:DT X e f):PT X e (Xp f):=by
 obtain⟨t,p,k⟩:=h;intro pins s σ H Q I q;obtain⟨δ,x,G0,H0,G,ts,T,B,g⟩:=q;exact p pins s σ H Q I (k δ x T G0 H0 G H σ ts Q B g)
def Xh(X:Cx)(g:sL)(f:rp):Prop:=L3 X g (Xp f)
def Gb{X:Cx}:Xh X [] (fun _=>some true):=by
 intro pins s σ H Q I q;obtain⟨δ,x,G0,H0,G,ts,T,B,g⟩:=q;cases T;exact Er pins s σ H Q I (g _ _ B)
def W9{X:Cx}{c:Expr}{f:rp}(h:DT X c f):Xh X [c] f:=ig h.pt
def Dq(fr:sW)(δ:Dv):Dv:=fr.map fun o=>match o with
 |some j=>(match δ[j]? with|some (.d x)=>.d x|_=>.no)
 |none=>.no
def Rw.inner{G0 H0 G H:Hp}{σ:St}{δ:Dv}{ts:List (PD×V)}(fr:sW)(r:Rw G0 H0 G H σ δ ts):Rw G H G H (carry fr σ) (Dq fr δ) ts:=by
 have key:∀(i:Nat) (l:L),(Dq fr δ)[i]? = some l->∃o,fr[i]? = some o/\l=(match o with|some j=>(match δ[j]? with|some (.d x)=>.d x|_=>.no)|none=>.no):=fun i l h=>by
  unfold Dq at h;rw[List.getElem?_map]at h;obtain⟨o,T,rfl⟩:=aC.mp h;exact⟨o,T,rfl⟩
 have g:∀(i:Nat) (xs:Oc),(Dq fr δ)[i]?≠some (L.own xs):=fun i xs h=>by
  obtain⟨o,_,B⟩:=key i _ h;split at B
  .split at B<;>cases B
  .cases B
 refine⟨AL.refl _,Nw.refl,r.ins,AL.refl _,by simp[carry,Dq],fun i x h=>?_,fun i xs h=>absurd h (g i xs),fun i j xs ys _ h=>absurd h (g i xs),r.CN⟩;obtain⟨o,T,B⟩:=key i _ h;split at B
 .rename_i j;split at B
  .rename_i y Z;cases B;obtain⟨v,Y,U⟩:=r.dat j _ Z;refine⟨v,?_,U⟩;unfold carry;rw[List.getElem?_map,T];simp[Y]
  .cases B
 .cases B
def Rw.other{G0 H0 G H:Hp}{σ:St}{δ:Dv}{ts:List (PD×V)}{D:AD}{o:HO}(r:Rw G0 H0 G H σ δ ts)(Z:G D=none)(h0:H0 D=none)(Y:∀(i:Nat) (xs:Oc),δ[i]? = some (L.own xs)->σ[i]?≠some (some (V.ref D))):Rw G0 H0 G (upd H D o) σ δ ts:=by
 refine⟨r.ext,r.new,fun a u h=>?_,fun a u h=>?_,r.len,r.dat,fun i xs h=>?_,r.apart,r.CN⟩
 .rw[AJ (fun z=>by subst z;rw[Z]at h;cases h)];exact r.ins _ _ h
 .rw[AJ (fun z=>by subst z;rw[h0]at h;cases h)];exact r.keep _ _ h
 .obtain⟨a,ys,g,U,T,B,k5⟩:=r.own i xs h;exact⟨a,ys,g,U,T,by rw[AJ (fun z=>by subst z;exact Y i xs h g)];exact B,k5⟩
def Rw.adopt{G0 H0 G H:Hp}{σ:St}{δ:Dv}{ts:List (PD×V)}{D:AD}{ys:sQ}(r:Rw G0 H0 G H σ δ ts)(hD:H D=some (.lst ys))(hG:G D=none)(h0:H0 D=none)(Z:∀(i:Nat) (xs:Oc),δ[i]? = some (L.own xs)->σ[i]?≠some (some (V.ref D))):Rw G0 H0 (upd G D (.lst ys)) H σ δ ts:=by
 have e:AL G (upd G D (.lst ys)):=An hG _;refine⟨r.ext.trans e,fun a u h=>?_,fun a u h=>?_,r.keep,r.len,fun i x h=>?_,fun i xs h=>?_,r.apart,fun q Y=>(r.CN q Y).same e⟩
 .by_cases ha:a=D
  .subst ha;exact .inr (.inl h0)
  .rw[AJ ha]at h;exact r.new _ _ h
 .by_cases ha:a=D
  .subst ha;rw[AW]at h;rw[hD];exact h
  .rw[AJ ha]at h;exact r.ins _ _ h
 .obtain⟨v,g,B⟩:=r.dat i x h;exact⟨v,g,B.same e⟩
 .obtain⟨a,zs,g,B,U,T,k5⟩:=r.own i xs h;have ha:a≠D:=fun z=>by subst z;exact Z i xs h g
  exact⟨a,zs,g,by rw[AJ ha];exact B,U,T,k5.same e⟩
def K2(set:PD->Dv->Option Dv)(B:rp)(f:rk)(δ:Dv)(x:PD):Option sE :=
 (set x δ).bind fun g=>(B g).bind fun b=>if b=true then(f g).map some else some none
def collect(one:PD->Option (Option PD)):List PD->Option (List PD)
 |[]=>some []
 |x::xs=>(one x).bind fun o=>(collect one xs).map fun r=>o.toList++r
def GA(set:PD->Dv->Option Dv)(g:rp)(f:rk)(fr:sW)(fs:rj)(δ:Dv):Option rq :=
 (fs δ).bind fun xs=>(collect (K2 set g f (Dq fr δ)) xs).bind Lz
def Di(set:PD->Dv->Option Dv)(g:rp)(f:rk)(fr:sW)(fs:rj)(δ:Dv):sE :=
 (GA set g f fr fs δ).map .list
structure XI(G0 H0 Ga:Hp)(σ:St)(δ:Dv)(ts:List (PyData×V))(one:PyData->Option (Option PyData))(xs full:List PyData)(D:Addr)(i:Nat)(ys:List V)(H:Hp):Prop where
 ex:∃G done rest,Rw G0 H0 G H σ δ ts/\AL Ga G/\G D=none/\collect one (xs.drop i)=some rest/\done++rest=full/\Av G done ys
 h0:H0 D=none
 ap:∀(j:Nat) (us:Oc),δ[j]? = some (L.own us)->σ[j]?≠some (some (V.ref D))
def S4{G0 H0 G H:Hp}{D:AD}{ys:sQ}(B:G0 D=none)(g:H0 D=some (.lst ys))(n:Nw G0 H0 G)(e:AL G H)(k:AL H0 H):G D=none:=by
 cases q:G D with
 |none=>rfl
 |some o=>
  rcases n _ _ q with z|z|⟨us,z⟩
  .rw[B]at z;cases z
  .rw[g]at z;cases z
  .have:=e _ _ q;rw[k _ _ g,z]at this;cases this
section
variable{X:Cx}{elt iter:Expr}{x y:Str}{px pos:Pos}{ifs:sL}{scope:Scope}{fs:rj}{tif:rp}{f:rk}
def Fx(i:Nat)(y:PD)(δ:Dv):Option Dv:=some (δ.set i (.d y))
def Qu{wi:TI}{ix:Nat}{fr:sW}(ki:∀(δ:Dv) (xs:rq),fs δ=some xs->∀(G0 H0 G H:Hp) (σ:St) (ts:List (PD×V)) (R:It->Hp->Prop),Rw G0 H0 G H σ δ ts->(∀J G' H',Rw G0 H0 G' H' σ δ ts->J6 J xs G'->R J H')->wi σ H R){δ:Dv}{zs:rq}(hz:GA (Fx ix) tif f fr fs δ=some zs){G0 H0 G H:Hp}{σ:St}{ts:List (PD×V)}{Q:VK}(R0:Rw G0 H0 G H σ δ ts)(k:∀D ys G' H',Rw G0 H0 G' H' σ δ ts->H' D=some (.lst ys)->G' D=none->H0 D=none->(∀(j:Nat) (us:Oc),δ[j]? = some (L.own us)->σ[j]?≠some (some (V.ref D)))->Av G' zs ys->Q (.ref D) H'):PJ wi fr ix (Xp tif) (tD f) σ H Q:=by
 unfold GA at hz;obtain⟨xs,m2,m3⟩:=aB.mp hz;obtain⟨full,m4,m5⟩:=aB.mp m3;obtain⟨rfl,hfew⟩:=OU m5;refine ki δ xs m2 G0 H0 G H σ ts _ R0 fun J Ga Ha Ra it D hD=>?_;have hGD:Ga D=none:=by
  cases q:Ga D with
  |none=>rfl
  |some u=>rw[Ra.ins _ _ q]at hD;cases hD
 have B:H0 D=none:=by
  cases q:H0 D with
  |none=>rfl
  |some u=>rw[Ra.keep _ _ q]at hD;cases hD
 have g:∀(j:Nat) (us:Oc),δ[j]? = some (L.own us)->σ[j]?≠some (some (V.ref D)):=fun j us h z=>by
  obtain⟨a,ys,k1,k2,k3,k4,k5⟩:=Ra.own j us h;rw[z]at k1;cases k1;rw[k4]at hD;cases hD
 refine Fz (n:=xs.length) (XI G0 H0 Ga σ δ ts (K2 (Fx ix) tif f (Dq fr δ)) xs full D) ⟨⟨Ga,[],full,Ra.other hGD B g,AL.refl _,hGD,by simpa using m4,rfl,.nil⟩,B,g⟩ ?_ ?_
 .rintro i ys H1 Z ⟨⟨G1,done,rest,R1,s1,g1,c1,e1,d1⟩,_,_⟩ hD1;have hx:xs[i]? = some xs[i]:=by simp[Z]
  have sH:=s1.trans R1.ins;have hyl:ys.length<sizeLine:=SY (by
   rw[d1.len];have:done.length<=full.length:=by rw[<-e1];simp
   lia)
  refine⟨it.go i _ H1 hx sH,hyl,fun v H' y=>?_⟩;obtain⟨G2,n1,n2,n3,n4,n5⟩:=it.F8 i _ H1 v H' hx sH y G1 s1 R1.ins;have R2:=R1.lift n1 n2 n3 n4;have hD2:=n4 _ _ hD1;have g2:G2 D=none:=S4 g1 hD1 n2 n3 n4;rw[List.drop_eq_getElem_cons Z]at c1;unfold collect at c1;obtain⟨o,c2,c3⟩:=aB.mp c1;obtain⟨T,c4,rfl⟩:=aC.mp c3;unfold K2 Fx at c2;simp only[Option.bind_some]at c2;obtain⟨b,c5,c6⟩:=aB.mp c2;have Ri:=((R2.inner fr).put n5).IB (i:=ix);have Ri0:Rw G2 H' G2 H' ((carry fr σ).set ix (some v)) ((Dq fr δ).set ix (.d xs[i])) []:=Ri.less fun q hq=>by cases hq
  refine⟨_,b,G2,H',G2,[],c5,Ri0,fun G3 H3 Y=>?_⟩;have R3o:=R2.lift Y.ext Y.new Y.ins Y.keep;have hD3:=Y.keep _ _ hD2;have g3:G3 D=none:=S4 g2 hD2 Y.new Y.ins Y.keep;dsimp only;split
  .rename_i hb;rw[if_pos hb]at c6;obtain⟨w,c7,rfl⟩:=aC.mp c6;refine⟨_,w,G2,H',G3,[],c7,Y,fun u G4 H4 U=>?_⟩;have R4o:=R2.lift U.ext U.new U.ins U.keep;have hD4:=U.keep _ _ hD2;have g4:G4 D=none:=S4 g2 hD2 U.new U.ins U.keep;refine⟨hD4,ER Z ⟨⟨G4,done++[w],T,R4o.other g4 B g,s1.trans (n1.trans U.ext),g4,c4,by simpa using e1,(d1.same (n1.trans U.ext)).app (.cons (U.CN _ (.head _)) .nil)⟩,B,g⟩⟩
  .rename_i hb;rw[if_neg hb]at c6;cases c6;exact W8 Z hD3 ⟨⟨G3,done,T,R3o,s1.trans (n1.trans Y.ext),g3,c4,by simpa using e1,d1.same (n1.trans Y.ext)⟩,B,g⟩
 .rintro ys H1 ⟨⟨G1,done,rest,R1,s1,g1,c1,e1,d1⟩,_,_⟩ hD1;refine⟨it.stop H1 (s1.trans R1.ins),?_⟩;rw[List.drop_length]at c1;cases c1;rw[List.append_nil]at e1;subst e1;exact k _ _ _ _ R1 hD1 g1 B g d1
def Zm{Y:TI}{ix:Nat}{fr:sW}(ki:∀(δ:Dv) (xs:rq),fs δ=some xs->∀(G0 H0 G H:Hp) (σ:St) (ts:List (PD×V)) (R:It->Hp->Prop),Rw G0 H0 G H σ δ ts->(∀J g H',Rw G0 H0 g H' σ δ ts->J6 J xs g->R J H')->Y σ H R){δ:Dv}{z:PD}(hz:Di (Fx ix) tif f fr fs δ=some z){G0 H0 G H:Hp}{σ:St}{ts:List (PD×V)}{Q:VK}(R0:Rw G0 H0 G H σ δ ts)(k:∀v g H',Rw G0 H0 g H' σ δ ((z,v)::ts)->Q v H'):PJ Y fr ix (Xp tif) (tD f) σ H Q:=by
 unfold Di at hz;obtain⟨full,m1,rfl⟩:=aC.mp hz;refine Qu ki m1 R0 fun D ys G1 H1 R1 U Z T B d1=>?_;have e:AL G1 (upd G1 D (.lst ys)):=An Z _;have R2:=R1.adopt U Z T B;refine k _ _ _ (R2.put ?_);rw[Du];exact⟨D,ys,rfl,AW,d1.same e⟩
def Kj(N:sJ)(ix:Nat)(fr:sW)(hi:DI X (.Name x px) iter fs)(g:∀cl C s₀ H₀ fp,Xh (A9 X scope cl N C s₀ H₀ fp) ifs tif)(Y:∀cl C s₀ H₀ fp,DE (A9 X scope cl N C s₀ H₀ fp) elt f) (h1:CD scope N x ix=true:=by decide +kernel)(h2:X.calm=true:=by rfl)(h3:F0 N X.N scope X.env.scope fr 0=true:=by rfl)(h4:fr.length=N.length:=by rfl)(Z:freeOk X.env.scope scope.names=true:=by rfl) (U:∀x,foldedSetIterable iter X.env x=pure x:=by intro _;rfl):DE X (.ListComp elt [⟨.Name x px,iter,ifs,0⟩] scope pos) (Di (Fx ix) tif f fr fs):=by
 obtain⟨wi,pi,B⟩:=hi;exact⟨_,Fl N ix fr pi g (fun cl C s₀ H₀ fp=>(Y cl C s₀ H₀ fp).pe) h1 h2 h3 h4 Z U,fun δ z T G0 H0 G H σ ts Q R0 k=>Zm B T R0 k⟩
end
section
variable{X:Cx}{elt iter:Expr}{x y:Str}{px py tp pos:Pos}{tk:Nat}{ifs:sL}{scope:Scope}{fs:rj}{tif:rp}{f:rk}
def WV{wi:TI}{ix iy:Nat}{fr:sW}(ki:∀(δ:Dv) (xs:rq),fs δ=some xs->∀(G0 H0 G H:Hp) (σ:St) (ts:List (PD×V)) (R:It->Hp->Prop),Rw G0 H0 G H σ δ ts->(∀J G' H',Rw G0 H0 G' H' σ δ ts->J6 J xs G'->R J H')->wi σ H R){δ:Dv}{zs:rq}(hz:GA (DH ix iy) tif f fr fs δ=some zs){G0 H0 G H:Hp}{σ:St}{ts:List (PD×V)}{Q:VK}(R0:Rw G0 H0 G H σ δ ts)(k:∀D ys G' H',Rw G0 H0 G' H' σ δ ts->H' D=some (.lst ys)->G' D=none->H0 D=none->(∀(j:Nat) (us:Oc),δ[j]? = some (L.own us)->σ[j]?≠some (some (V.ref D)))->Av G' zs ys->Q (.ref D) H'):Mn X.K wi fr ix iy (Xp tif) (tD f) σ H Q:=by
 unfold GA at hz;obtain⟨xs,m2,m3⟩:=aB.mp hz;obtain⟨full,m4,m5⟩:=aB.mp m3;obtain⟨rfl,hfew⟩:=OU m5;refine ki δ xs m2 G0 H0 G H σ ts _ R0 fun J Ga Ha Ra it D hD=>?_;have hGD:Ga D=none:=by
  cases q:Ga D with
  |none=>rfl
  |some u=>rw[Ra.ins _ _ q]at hD;cases hD
 have B:H0 D=none:=by
  cases q:H0 D with
  |none=>rfl
  |some u=>rw[Ra.keep _ _ q]at hD;cases hD
 have g:∀(j:Nat) (us:Oc),δ[j]? = some (L.own us)->σ[j]?≠some (some (V.ref D)):=fun j us h z=>by
  obtain⟨a,ys,k1,k2,k3,k4,k5⟩:=Ra.own j us h;rw[z]at k1;cases k1;rw[k4]at hD;cases hD
 refine Ql (n:=xs.length) (XI G0 H0 Ga σ δ ts (K2 (DH ix iy) tif f (Dq fr δ)) xs full D) ⟨⟨Ga,[],full,Ra.other hGD B g,AL.refl _,hGD,by simpa using m4,rfl,.nil⟩,B,g⟩ ?_ ?_
 .rintro i ys H1 Z ⟨⟨G1,done,rest,R1,s1,g1,c1,e1,d1⟩,_,_⟩ hD1;have hx:xs[i]? = some xs[i]:=by simp[Z]
  have sH:=s1.trans R1.ins;have hyl:ys.length<sizeLine:=SY (by
   rw[d1.len];have:done.length<=full.length:=by rw[<-e1];simp
   lia)
  refine⟨it.go i _ H1 hx sH,hyl,fun v H' y=>?_⟩;obtain⟨G2,n1,n2,n3,n4,n5⟩:=it.F8 i _ H1 v H' hx sH y G1 s1 R1.ins;have R2:=R1.lift n1 n2 n3 n4;have hD2:=n4 _ _ hD1;have g2:G2 D=none:=S4 g1 hD1 n2 n3 n4;rw[List.drop_eq_getElem_cons Z]at c1;unfold collect at c1;obtain⟨o,c2,c3⟩:=aB.mp c1;obtain⟨T,c4,rfl⟩:=aC.mp c3;unfold K2 at c2;obtain⟨δ1,c8,c9⟩:=aB.mp c2;obtain⟨b,c5,c6⟩:=aB.mp c9;unfold DH at c8;split at c8
  .rename_i u1 u2 hu;cases c8;rw[hu,Du]at n5;obtain⟨pa,ps,rfl,q1,q2⟩:=n5;obtain⟨w1,w2,rfl,q3,q4⟩:=q2.Md;have Ri:=(((R2.inner fr).put q4).put q3).IB (i:=ix) |>.IB (i:=iy)
   have Ri0:Rw G2 H' G2 H' (((carry fr σ).set ix (some w1)).set iy (some w2)) (((Dq fr δ).set ix (.d u1)).set iy (.d u2)) []:=Ri.less fun q hq=>by cases hq
   refine⟨pa,w1,w2,rfl,BN.of (n3 _ _ q1),?_⟩;refine⟨_,b,G2,H',G2,[],c5,Ri0,fun G3 H3 Y=>?_⟩;have R3o:=R2.lift Y.ext Y.new Y.ins Y.keep;have hD3:=Y.keep _ _ hD2;have g3:G3 D=none:=S4 g2 hD2 Y.new Y.ins Y.keep;dsimp only;split
   .rename_i hb;rw[if_pos hb]at c6;obtain⟨w,c7,rfl⟩:=aC.mp c6;refine⟨_,w,G2,H',G3,[],c7,Y,fun u G4 H4 U=>?_⟩;have R4o:=R2.lift U.ext U.new U.ins U.keep;have hD4:=U.keep _ _ hD2;have g4:G4 D=none:=S4 g2 hD2 U.new U.ins U.keep;refine⟨hD4,ER Z ⟨⟨G4,done++[w],T,R4o.other g4 B g,s1.trans (n1.trans U.ext),g4,c4,by simpa using e1,(d1.same (n1.trans U.ext)).app (.cons (U.CN _ (.head _)) .nil)⟩,B,g⟩⟩
   .rename_i hb;rw[if_neg hb]at c6;cases c6;exact W8 Z hD3 ⟨⟨G3,done,T,R3o,s1.trans (n1.trans Y.ext),g3,c4,by simpa using e1,d1.same (n1.trans Y.ext)⟩,B,g⟩
  .cases c8
 .rintro ys H1 ⟨⟨G1,done,rest,R1,s1,g1,c1,e1,d1⟩,_,_⟩ hD1;refine⟨it.stop H1 (s1.trans R1.ins),?_⟩;rw[List.drop_length]at c1;cases c1;rw[List.append_nil]at e1;subst e1;exact k _ _ _ _ R1 hD1 g1 B g d1
def Q2{Y:TI}{ix Z:Nat}{fr:sW}(ki:∀(δ:Dv) (xs:rq),fs δ=some xs->∀(G0 H0 G H:Hp) (σ:St) (ts:List (PD×V)) (R:It->Hp->Prop),Rw G0 H0 G H σ δ ts->(∀J g H',Rw G0 H0 g H' σ δ ts->J6 J xs g->R J H')->Y σ H R){δ:Dv}{z:PD}(hz:Di (DH ix Z) tif f fr fs δ=some z){G0 H0 G H:Hp}{σ:St}{ts:List (PD×V)}{Q:VK}(R0:Rw G0 H0 G H σ δ ts)(k:∀v g H',Rw G0 H0 g H' σ δ ((z,v)::ts)->Q v H'):Mn X.K Y fr ix Z (Xp tif) (tD f) σ H Q:=by
 unfold Di at hz;obtain⟨full,m1,rfl⟩:=aC.mp hz;refine WV ki m1 R0 fun D ys G1 H1 R1 U g1 T B d1=>?_;have e:AL G1 (upd G1 D (.lst ys)):=An g1 _;have R2:=R1.adopt U g1 T B;refine k _ _ _ (R2.put ?_);rw[Du];exact⟨D,ys,rfl,AW,d1.same e⟩
def QW(N:sJ)(ix g:Nat)(fr:sW)(hi:DI X (.Tuple [.Name x px,.Name y py] tk tp) iter fs)(T:∀cl C s₀ H₀ fp,Xh (A9 X scope cl N C s₀ H₀ fp) ifs tif)(he:∀cl C s₀ H₀ fp,DE (A9 X scope cl N C s₀ H₀ fp) elt f) (h1:CD scope N x ix=true:=by decide +kernel)(U:CD scope N y g=true:=by decide +kernel)(B:ix≠g:=by decide)(h2:X.calm=true:=by rfl)(h3:F0 N X.N scope X.env.scope fr 0=true:=by rfl)(h4:fr.length=N.length:=by rfl)(h5:freeOk X.env.scope scope.names=true:=by rfl) (hs:∀x,foldedSetIterable iter X.env x=pure x:=by intro _;rfl):DE X (.ListComp elt [⟨.Tuple [.Name x px,.Name y py] tk tp,iter,ifs,0⟩] scope pos) (Di (DH ix g) tif f fr fs):=by
 obtain⟨wi,pi,Y⟩:=hi;exact⟨_,OD N ix g fr pi T (fun cl C s₀ H₀ fp=>(he cl C s₀ H₀ fp).pe) h1 U B h2 h3 h4 h5 hs,fun δ z Z G0 H0 G H σ ts Q R0 k=>Q2 Y Z R0 k⟩
def Pk{i:Nat}{z:Str}{pz g:Pos}(N:sJ)(ix B:Nat)(fr:sW)(hN:X.N.Nodup)(T:X.N[i]? = some z)(Z:X.env.scope.names.lookup z=some .local)(hi:DI X (.Tuple [.Name x px,.Name y py] tk tp) iter fs)(hif:∀cl C s₀ H₀ fp,Xh (A9 X scope cl N C s₀ H₀ fp) ifs tif)(he:∀cl C s₀ H₀ fp,DE (A9 X scope cl N C s₀ H₀ fp) elt f) (h1:CD scope N x ix=true:=by decide +kernel)(h1':CD scope N y B=true:=by decide +kernel)(U:ix≠B:=by decide)(h2:X.calm=true:=by rfl)(h3:F0 N X.N scope X.env.scope fr 0=true:=by rfl)(h4:fr.length=N.length:=by rfl)(h5:freeOk X.env.scope scope.names=true:=by rfl) (Y:swapsWith (.ListComp elt [⟨.Tuple [.Name x px,.Name y py] tk tp,iter,ifs,0⟩] scope pos) (some (.Name z pz)) g.line X.env=pure true:=by rfl) (hs:∀x,foldedSetIterable iter X.env x=pure x:=by intro _;rfl):DS X (.Assign [.Name z pz] (.ListComp elt [⟨.Tuple [.Name x px,.Name y py] tk tp,iter,ifs,0⟩] scope pos) g) (fun δ=>(Di (DH ix B) tif f fr fs δ).map fun y=>.nx (δ.set i (.d y))):=by
 obtain⟨wi,pi,ki⟩:=hi;refine⟨_,VA N ix B fr hN T Z pi hif (fun cl C s₀ H₀ fp=>(he cl C s₀ H₀ fp).pe) h1 h1' U h2 h3 h4 h5 Y hs,fun δ r h G0 H0 G H σ D R q=>?_⟩;obtain⟨y2,m1,rfl⟩:=aC.mp h;exact Q2 ki m1 R fun v G' H' R'=>q _ _ _ R'.IB
def HY(N:sJ)(ds:rq):Dv:=ds.map .d++List.replicate (N.length-ds.length) .no
def Bz(ps N:sJ)(F:DF)(ds:rq):sE:=if ds.length=ps.length then(match F (HY N ds) with
 |some (.rt x)=>some x
 |some (.nx _)=>some .none
 |some (.rn xs)=>some (.list xs)
 |_=>none) else none
def Rw.start{N:sJ}{ds:rq}{vs:sQ}{G H:Hp}(d:Av G ds vs)(e:AL G H):Rw G H G H (start N vs) (HY N ds) []:=by
 have U:=d.len;refine⟨AL.refl _,Nw.refl,e,AL.refl _,by simp[L2.start,HY,U],fun i x h=>?_,fun i xs h=>?_,fun i j xs ys _ h=>?_,fun q T=>by cases T⟩
 .unfold HY at h;by_cases hi:i<ds.length
  .rw[List.getElem?_append_left (by simpa using hi),List.getElem?_map]at h;obtain⟨y,B,g⟩:=aC.mp h;cases g;obtain⟨v,Z,Y⟩:=d.get B;refine⟨v,?_,Y⟩;unfold L2.start;rw[List.getElem?_append_left (by simp;lia),List.getElem?_map,Z];rfl
  .rw[List.getElem?_append_right (by simpa using hi),List.getElem?_replicate]at h;split at h<;>cases h
 .unfold HY at h;by_cases hi:i<ds.length
  .rw[List.getElem?_append_left (by simpa using hi),List.getElem?_map]at h;obtain⟨y,B,g⟩:=aC.mp h;cases g
  .rw[List.getElem?_append_right (by simpa using hi),List.getElem?_replicate]at h;split at h<;>cases h
 .unfold HY at h;by_cases hi:i<ds.length
  .rw[List.getElem?_append_left (by simpa using hi),List.getElem?_map]at h;obtain⟨y,B,g⟩:=aC.mp h;cases g
  .rw[List.getElem?_append_right (by simpa using hi),List.getElem?_replicate]at h;split at h<;>cases h
def fh{G H g H':Hp}{a:AD}{ys:sQ}{xs:rq}(m1:AL G g)(m2:Nw G H g)(Z:AL g H')(m5:H a=none)(T:g a=none)(Y:H' a=some (.lst ys))(U:Av g xs ys):AL G (upd g a (.lst ys))/\Nw G H (upd g a (.lst ys))/\AL (upd g a (.lst ys)) H'/\Du (upd g a (.lst ys)) (.list xs) (.ref a):=by
 refine⟨m1.trans (An T _),fun b o B=>?_,fun b o B=>?_,?_⟩
 .by_cases z:b=a
  .subst z;exact .inr (.inl m5)
  .rw[AJ z]at B;exact m2 _ _ B
 .by_cases z:b=a
  .subst z;rw[AW]at B;rw[Y];exact B
  .rw[AJ z]at B;exact Z _ _ B
 .rw[Du];exact⟨a,ys,rfl,AW,U.same (An T _)⟩
def EJ{P:Program}{w:World}{K:Fg}{mg:sD}{base:Heap}{x:Str}{st:Stmt}{Y:AD}{fd:FuncData}{N ps:sJ}{k:Nat}{F:DF}(T:Fn K mg x st ps Y fd)(S:Af N ps (AO st)) (hb:∀(cdv:VL) (A:Around) (outer:sU) (s:SD) (H:Hp) (E:XK),EX k (A.deeper (envOfC x (AO st) s.heap.objs.size Y cdv))->Kr (MM AZ P w K mg base N x (AO st) Y cdv A outer s H E).TB (EO st) F):AK P w K mg base AZ (k+1) Y fd ps (A0 (Bz ps N F)):=by
 refine T.F.ok S (fun vs H Q E h=>?_) fun cdv A outer s H vs Q E hr h=>?_
 .obtain⟨ds,y,G,g,B,_⟩:=h;unfold Bz at g;split at g
  .rename_i hl;rw[B.len];exact hl
  .cases g
 .obtain⟨ds,y,G,g,B,h3,h4⟩:=h;obtain⟨t,p,kk⟩:=hb cdv A outer s H E hr;refine⟨t,p,?_⟩;unfold Bz at g;split at g
  .split at g
   .rename_i z U;cases g;exact kk _ _ U G H G H _ _ (Rw.start B h3) fun v Z H' m1 m2 m3 m4 m5=>h4 v Z H' m1 m2 m3 m4 m5
   .rename_i δ U;cases g;exact kk _ _ U G H G H _ _ (Rw.start B h3) fun σ' Z H' R=>h4 .B4 Z H' R.ext R.new R.ins R.keep (by rw[Du])
   .rename_i xs U;cases g;exact kk _ _ U G H G H _ _ (Rw.start B h3) fun a ys Z H' m1 m2 m3 m4 m5 m6 m7 m8=>let⟨n1,n2,n3,n4⟩:=fh m1 m2 m3 m5 m6 m7 m8;h4 _ _ H' n1 n2 n3 m4 n4
   .cases g
  .cases g
end
section
variable{X:Cx}{a b c e:Expr}{f h:rk}{fa:rp}{pos p p2:Pos}{sts:sT}{F:DF}
def Gs{x:Str}{i:Int}{g:Tok}(B:Gl X x)(hm:X.mg x=some (.int i g))(hd:(x==("__debug__" : Str))=false:=by decide):DE X (.Name x pos) (fun _=>some (.int i)) :=
 ⟨_,iH (v:=.int i) B hm ⟨g,rfl⟩ hd,fun δ x h G0 H0 G H σ ts Q r k=>by cases h;exact k _ _ _ (r.put (by rw[Du]))⟩
def K8(fa:Dv->Option Bool)(F:DF):Nat->Dv->Option Ou
 |0,_=>none
 |n+1,δ=>(fa δ).bind fun b=>if b=true then(match F δ with
  |some (.nx g)=>K8 fa F n g
  |some (.ct g)=>K8 fa F n g
  |some (.bk g)=>some (.nx g)
  |some (.rt v)=>some (.rt v)
  |some (.rn v)=>some (.rn v)
  |none=>none) else some (.nx δ)
def dM(n:Nat)(hp:PassesOwn (model X.prog X.w) X.A X.env X.xe)(hc:DT X c fa)(hb:Kr X sts F):DS X (.While c sts [] pos) (K8 fa F n):=by
 obtain⟨tc,pc,kc⟩:=hc;obtain⟨tb,pb,kb⟩:=hb;refine⟨_,M7 hp pc pb,fun δ r h G0 H0 G H σ D R q=>?_⟩;refine⟨fun m T H'=>∃g G',K8 fa F m g=some r/\Rw G0 H0 G' H' T g [],⟨n,δ,G,h,R⟩,?_⟩;rintro m Z H1 ⟨Y,G1,f1,R1⟩;cases m with
 |zero=>cases f1
 |succ m=>
  unfold K8 at f1;obtain⟨b,h1,B⟩:=aB.mp f1;refine kc Y b h1 G0 H0 G1 H1 Z [] _ R1 fun G2 H2 R2=>?_;dsimp only;split
  .rename_i hb;rw[if_pos hb]at B;refine⟨fun T H'=>∃g G',K8 fa F m g=some r/\Rw G0 H0 G' H' T g [],fun T H' z=>⟨m,Nat.lt_succ_self m,z⟩,?_⟩;cases e:F Y with
   |none=>rw[e]at B;cases B
   |some o=>
    rw[e]at B;refine kb Y o e G0 H0 G2 H2 Z _ R2 ?_;cases o with
    |nx U=>exact fun σ4 G4 H4 R4=>⟨U,G4,B,R4⟩
    |ct U=>exact fun σ4 G4 H4 R4=>⟨U,G4,B,R4⟩
    |bk U=>cases B;exact q
    |rt v=>cases B;exact q
    |rn v=>cases B;exact q
  .rename_i hb;rw[if_neg hb]at B;cases B;exact q _ _ _ R2
def DO(X:Cx)(o:Option Expr)(f:Dv->Option sN):Prop:=∃t,PO X o t/\∀δ x,f δ=some x->∀G0 H0 G H σ ts (Q:Option Int->Hp->Prop),Rw G0 H0 G H σ δ ts->(∀g H',Rw G0 H0 g H' σ δ ts->Q x H')->t σ H Q
variable{fo fu:Dv->Option sN}{lo hi:Option Expr}
def W3:DO X none (fun _=>some none):=⟨_,gw,fun δ x h G0 H0 G H σ ts Q r k=>by cases h;exact k _ _ r⟩
def W0(T:DE X e f):DO X (some e) (fun δ=>(f δ).bind fun x=>(TC x).map some):=by
 obtain⟨t,p,k⟩:=T;refine⟨_,ik p,fun δ z h G0 H0 G H σ ts Q r q=>?_⟩;obtain⟨x,Z,Y⟩:=aB.mp h;obtain⟨i,U,rfl⟩:=aC.mp Y;have:=U8 U;subst this;refine k δ _ Z G0 H0 G H σ ts _ r fun v G' H' B=>?_;have g:=B.CN _ (.head _);rw[Du]at g;exact⟨i,g,q _ _ B.drop⟩
def cutD(xs:rq)(lo hi:sN):rq:=(xs.drop (HT.B3 xs.length 0 lo)).take (HT.B3 xs.length xs.length hi-HT.B3 xs.length 0 lo)
def Av.cut{H:Hp}{ds:rq}{xs:sQ}(h:Av H ds xs)(lo hi:sN):Av H (cutD ds lo hi) (Oq xs lo hi):=by
 unfold cutD Oq;rw[h.len];exact(h.drop _).take _
def eJ(x:PD)(lo hi:sN):sE:=match x with
 |.list xs=>some (.list (cutD xs lo hi))
 |.tuple xs=>if ¬(HT.B3 xs.length 0 lo=0/\HT.B3 xs.length xs.length hi=xs.length) then some (.tuple (cutD xs lo hi)) else none
 |_=>none
def V7(he:DE X e f)(hl:DO X lo fo)(hh:DO X hi fu):DE X (.Subscript e (.Slice lo hi none p2) pos) (fun δ=>(f δ).bind fun x=>(fo δ).bind fun l=>(fu δ).bind fun u=>eJ x l u):=by
 obtain⟨te,pe,ke⟩:=he;obtain⟨tl,Z,kl⟩:=hl;obtain⟨th,ph,kh⟩:=hh;refine⟨_,da (iO.or jf) pe Z ph,fun δ z hz G0 H0 G H σ ts Q R0 k=>?_⟩;obtain⟨x,h1,h2⟩:=aB.mp hz;obtain⟨l,h3,h4⟩:=aB.mp h2;obtain⟨u,h5,g⟩:=aB.mp h4;refine ke δ x h1 G0 H0 G H σ ts _ R0 fun v G1 H1 R1=>?_;refine kl δ l h3 G0 H0 G1 H1 σ _ _ R1 fun G2 H2 R2=>?_;refine kh δ u h5 G0 H0 G2 H2 σ _ _ R2 fun G3 H3 B=>?_;have du:=B.CN _ (.head _);unfold eJ at g;split at g
 .cases g;rw[Du]at du;obtain⟨a,ys,rfl,U,T⟩:=du;exact .inl ⟨a,ys,rfl,Aw.of (B.ins _ _ U),fun q Y=>k _ _ _ (B.drop.SH (T.cut l u) Y)⟩
 .split at g
  .rename_i hc;cases g;rw[Du]at du;obtain⟨a,ys,rfl,U,T⟩:=du;exact .inr ⟨a,ys,rfl,BN.of (B.ins _ _ U),by rw[T.len];exact hc,fun q Y=>k _ _ _ (B.drop.YA (T.cut l u) Y)⟩
  .cases g
 .cases g
def Ua:List PD->Option (List Int)
 |[]=>some []
 |.int i::r=>(Ua r).map fun l=>i::l
 |_::_=>none
def Av.ints{H:Hp}:∀ {ds:List PD} {xs:List V} {ns:List Int},Av H ds xs->Ua ds=some ns->xs=ns.map V.int
 |[],xs,ns,h,e=>by cases e;rw[h.nil_eq];rfl
 |.int i::r,xs,ns,h,e=>by
  unfold Ua at e;obtain⟨l,T,rfl⟩:=aC.mp e;obtain⟨x,q,rfl,g,B⟩:=h.un;rw[Du]at g;subst g;rw[List.map_cons,B.ints T]
 |.none::_,_,_,_,e=>by cases e
 |.bool _::_,_,_,_,e=>by cases e
 |.str _::_,_,_,_,e=>by cases e
 |.tuple _::_,_,_,_,e=>by cases e
 |.list _::_,_,_,_,e=>by cases e
 |.dict _::_,_,_,_,e=>by cases e
def X5:MD
 |[.list xs]=>(Ua xs).map fun ns=>.int ns.sum
 |[.tuple xs]=>(Ua xs).map fun ns=>.int ns.sum
 |_=>none
def cA(Z:X.calm=true):Lv X (.builtin "sum") X5:=by
 refine⟨_,(NF Z).or (cP Z),fun xs z g G0 H0 G H σ δ ts us Q B d k=>?_⟩;unfold X5 at g;split at g
 .obtain⟨ns,Y,rfl⟩:=aC.mp g;obtain⟨u,rfl,du⟩:=d.Io;rw[Du]at du;obtain⟨q,ys,rfl,U,T⟩:=du;refine .inl ⟨q,ns,rfl,by rw[<-T.ints Y];exact Aw.of (B.ins _ _ U),k _ _ _ (B.put (by rw[Du]))⟩
 .obtain⟨ns,Y,rfl⟩:=aC.mp g;obtain⟨u,rfl,du⟩:=d.Io;rw[Du]at du;obtain⟨q,ys,rfl,U,T⟩:=du;refine .inr ⟨q,ns,rfl,by rw[<-T.ints Y];exact BN.of (B.ins _ _ U),k _ _ _ (B.put (by rw[Du]))⟩
 .cases g
end
open PySem
abbrev fC(x:PD):Dv->Option PD:=fun _=>some x
abbrev kj(f:Dv->Option PD):Dv->Option PD:=fun δ=>(f δ).bind fun x=>(TC x).map fun i=>.int (-i)
abbrev jJ(f:Dv->Option PD):Dv->Option PD:=fun δ=>(f δ).bind fun x=>(Nd x).map fun i=>.bool (!i)
abbrev MG(f g:Dv->Option PD):Dv->Option PD:=fun δ=>(f δ).bind fun x=>(Nd x).bind fun c=>if c=true then g δ else some (.bool false)
abbrev AG:Dv->Option (List PD):=fun _=>some []
abbrev AB(f:Dv->Option PD)(fs:Dv->Option (List PD)):Dv->Option (List PD):=fun δ=>(f δ).bind fun x=>(fs δ).map fun xs=>x::xs
abbrev A6(fs:Dv->Option (List PD)):Dv->Option PD:=fun δ=>((fs δ).bind Lz).map .tuple
abbrev CY(fs:Dv->Option (List PD)):Dv->Option PD:=fun δ=>((fs δ).bind Lz).map .list
abbrev AQ(m:MD)(fs:Dv->Option (List PD)):Dv->Option PD:=fun δ=>(fs δ).bind m
abbrev Gx(q:PD->Bool)(f:Dv->Option PD):Dv->Option PD:=fun δ=>(f δ).bind (Yp q)
abbrev iU(i:Nat):Dv->Option PD:=fun δ=>(ow i δ).map fun xs=>.int xs.length
abbrev lg(i:Nat)(g:Dv->Option PD):Dv->Option PD:=fun δ=>(g δ).bind fun y=>(ow i δ).bind fun xs=>(TC y).bind fun k=>GO xs k
abbrev eo:Dv->Option (Option Int):=fun _=>some none
abbrev fD(f:Dv->Option PD):Dv->Option (Option Int):=fun δ=>(f δ).bind fun x=>(TC x).map some
abbrev ko(f:Dv->Option PD)(B g:Dv->Option (Option Int)):Dv->Option PD:=fun δ=>(f δ).bind fun x=>(B δ).bind fun l=>(g δ).bind fun u=>eJ x l u
abbrev Ft(f:Dv->Option PD):Dv->Option Bool:=fun δ=>(f δ).bind Nd
abbrev Bj(o:PD->PD->Option PD)(f g:Dv->Option PD):Dv->Option Bool:=fun δ=>(Ap o f g δ).bind Nd
abbrev Gk(f:Dv->Option Bool):Dv->Option Bool:=fun δ=>(f δ).map fun c=>!c
abbrev qA(f g:Dv->Option Bool):Dv->Option Bool:=fun δ=>(f δ).bind fun c=>if c=true then g δ else some false
abbrev HW(f g:Dv->Option Bool):Dv->Option Bool:=fun δ=>(f δ).bind fun c=>if c=true then some true else g δ
abbrev DR(f:Dv->Option PD):Dv->Option (List PD):=fun δ=>(f δ).bind D7
abbrev Dk(m:List PD->Option (List PD))(fs:Dv->Option (List PD)):Dv->Option (List PD):=fun δ=>(fs δ).bind m
abbrev F5:Dv->Option Bool:=fun _=>some true
abbrev HC(i:Nat):PD->Dv->Option Dv:=fun y δ=>some (δ.set i (.d y))
abbrev Bq:DF:=fun δ=>some (.nx δ)
abbrev BK(f:Dv->Option PD):DF:=fun δ=>(f δ).map .rt
abbrev Ru(f:Dv->Option PD):DF:=fun δ=>(f δ).map fun _=>.nx δ
abbrev DM(c:Dv->Option Bool)(F G:DF):DF:=fun δ=>(c δ).bind fun c=>if c=true then F δ else G δ
abbrev Cd(i:Nat)(f:Dv->Option PD):DF:=fun δ=>(f δ).map fun y=>.nx (δ.set i (.d y))
abbrev Qc(i:Nat)(fs:Dv->Option (List PD)):DF:=fun δ=>((fs δ).bind Lz).map fun ys=>.nx (δ.set i (.own (.lst ys)))
abbrev QY(i:Nat)(f:Dv->Option PD):DF:=fun δ=>(f δ).bind fun y=>(ow i δ).bind fun xs=>if xs.length<Cc then some (.nx (δ.set i (.own (.lst (xs++[y]))))) else none
abbrev dm(i:Nat)(f:Dv->Option PD):DF:=fun δ=>(f δ).bind fun y=>(ow i δ).bind fun xs=>match y with|.list zs=>(if xs.length+zs.length<=Cc then some (.nx (δ.set i (.own (.lst (xs++zs))))) else none)|_=>none
abbrev CP(fs:Dv->Option (List PD))(set:PD->Dv->Option Dv)(F:DF):DF:=fun δ=>(fs δ).bind fun xs=>FF set F xs δ
abbrev Yr(i:Nat)(F:DF):DF:=fun δ=>F (Hf i δ)
abbrev RG:DF:=fun _=>none
def FQ{P:Program}{w:World}{K:Fg}{mg:sD}{base:Heap}{CX:I0}{k:Nat}{f:AD}{fd:FuncData}{ps:sJ}{sp:Sp}(h:∀vs H Q E,¬sp vs H Q E):AK P w K mg base CX k f fd ps sp :=
 ⟨fun _ _ _ _ z=>(h _ _ _ _ z).elim,fun _ _ _ _ _ _ _ _ _ _ _ _ _ z=>(h _ _ _ _ z).elim⟩
def Mv{P:Program}{w:World}{K:Fg}{mg:sD}{base:Heap}{CX:I0}{k:Nat}{f:AD}{fd:FuncData}{ps:sJ}{sp:Sp}{m:MD}(F:AK P w K mg base CX k f fd ps sp) (h:∀ds x,m ds=some x->∀(G H:Hp) (vs:sQ) (Q:VK) (E:XK),Av G ds vs->AL G H->(∀v g H',AL G g->Nw G H g->AL g H'->AL H H'->Du g x v->Q v H')->sp vs H Q E):AK P w K mg base CX k f fd ps (A0 m) :=
 F.imp fun vs H Q E z=>by
  obtain⟨ds,x,G,Y,U,T,B⟩:=z;exact h ds x Y G H vs Q E U T B
def Bm(G H:Hp):Hp:=fun a=>match H a with
 |some (.tup xs)=>some (.tup xs)
 |_=>G a
def dI{G H:Hp}{a:AD}{xs:sQ}(h:H a=some (.tup xs)):Bm G H a=some (.tup xs):=by unfold Bm;rw[h]
section
variable{G0 H0 G H:Hp}{σ:St}{δ:Dv}{ts:List (PD×V)}
def Rw.Bm(r:Rw G0 H0 G H σ δ ts):Rw G0 H0 (L2.Bm G H) H σ δ ts:=by
 have e:AL G (L2.Bm G H):=fun a o h=>by
  unfold L2.Bm;split
  .rename_i xs g;rw[r.ins _ _ h]at g;exact g.symm ▸ rfl
  .exact h
 refine⟨r.ext.trans e,fun a o h=>?_,fun a o h=>?_,r.keep,r.len,fun i x h=>?_,fun i xs h=>?_,r.apart,fun q Z=>(r.CN q Z).same e⟩
 .unfold L2.Bm at h;split at h
  .cases h;exact .inr (.inr ⟨_,rfl⟩)
  .exact r.new _ _ h
 .unfold L2.Bm at h;split at h
  .rename_i xs g;rw[g];exact h
  .exact r.ins _ _ h
 .obtain⟨v,T,B⟩:=r.dat i x h;exact⟨v,T,B.same e⟩
 .obtain⟨a,ys,T,B,Y,U,k5⟩:=r.own i xs h;refine⟨a,ys,T,?_,Y,U,k5.same e⟩;unfold L2.Bm;rw[U];split
  .rename_i q;cases q;exact k5.WA.elim
  .exact B
end
def LW{G:Hp}:∀ {t:Tr} {xs:List V},Av G (Bk t) xs->Ts G t xs
 |.nil,xs,h=>by rw[Bk]at h;rw[Ts];exact h.nil_eq
 |.cons b r,xs,h=>by
  rw[Bk]at h;obtain⟨x,q,rfl,g,U⟩:=h.un;rw[Du]at g;obtain⟨a,ys,rfl,T,B⟩:=g;rw[Ts];exact⟨a,ys,q,rfl,T,LW B,LW U⟩
def Qs{G H:Hp}:∀ {t:Tr} {xs:List V},Ts H t xs->Av (Bm G H) (Bk t) xs
 |.nil,xs,h=>by rw[Ts]at h;rw[Bk,h];exact .nil
 |.cons b r,xs,h=>by
  rw[Ts]at h;obtain⟨a,ys,zs,rfl,T,B,g⟩:=h;rw[Bk];refine .cons ?_ (Qs g);rw[Du];exact⟨a,ys,rfl,dI T,Qs B⟩
mutual
def Mh:∀ {ds:List PD} {t:Tr},E9 ds=some t->ds=Bk t
 |[],t,h=>by rw[E9]at h;cases h;rw[Bk]
 |d::ds,t,h=>by
  rw[E9]at h;obtain⟨b,T,B⟩:=aB.mp h;obtain⟨r,g,rfl⟩:=aC.mp B;rw[Bk,<-gG T,<-Mh g]
def gG:∀ {d:PD} {t:Tr},Gh d=some t->d=.tuple (Bk t)
 |.tuple g,t,h=>by rw[Gh]at h;rw[Mh h]
 |.none,_,h=>by simp[Gh]at h
 |.bool _,_,h=>by simp[Gh]at h
 |.int _,_,h=>by simp[Gh]at h
 |.str _,_,h=>by simp[Gh]at h
 |.list _,_,h=>by simp[Gh]at h
 |.dict _,_,h=>by simp[Gh]at h
end
def ml(rev:Bool)(t:Tr):sE:=if t.bs.length<64/\t.deep<=60 then some (.list (Bk (Tr.of (if rev then Tr.C5 t.bs else(Tr.C5 t.bs).reverse)))) else none
def MT(rev:Bool):MD
 |[x]=>(D7 x).bind fun g=>(E9 g).bind (ml rev)
 |_=>none
section
variable{X:Cx}{a e:Expr}{fs:rj}{pos p:Pos}
def Xu{rev:Bool}{G0 H0 G H:Hp}{σ:St}{δ:Dv}{ts:List (PD×V)}{x z:PD}{u:V}{Q:VK}(Y:Rw G0 H0 G H σ δ ts)(du:Du G x u)(hz:MT rev [x]=some z)(k:∀w G' H',Rw G0 H0 G' H' σ δ ((z,w)::ts)->Q w H'):∃(p:AD) (ys:sQ) (t:Tr),[u]=[.ref p]/\(Aw X.K H p ys\/BN X.K H p ys)/\Ts H t ys/\ys.length<64/\t.deep<=60/\∀(l:AD) (zs:sQ),H l=none->Ts H (Tr.of (if rev then Tr.C5 t.bs else(Tr.C5 t.bs).reverse)) zs->Q (.ref l) (upd H l (.lst zs)):=by
 unfold MT at hz;obtain⟨ds,h1,h2⟩:=aB.mp hz;obtain⟨t,h3,g⟩:=aB.mp h2;unfold ml at g;split at g
 .rename_i hc;cases g;have U:=Mh h3;obtain⟨bb,a,ys,rfl,n1,Z⟩:=G9 du h1;rw[U]at Z;have ht:=(LW Z).same Y.ins;have hl:ys.length=t.bs.length:=by rw[ht.len]
  refine⟨a,ys,t,rfl,?_,ht,by lia,hc.2,fun l zs T B=>?_⟩
  .have:=Y.ins _ _ n1;cases bb
   .exact .inl (Aw.of (by simpa using this))
   .exact .inr (BN.of (by simpa using this))
  .have R1:=Y.Bm;exact k _ _ _ (R1.SH (Qs B) T)
 .cases g
def iJ(B:X.A.units+64<cLine):Lv X (.builtin "sorted") (MT false):=by
 refine⟨_,Za B,fun xs z g G0 H0 G H σ δ ts us Q T d k=>?_⟩;cases xs with
 |nil=>cases g
 |cons x r=>
  cases r with
  |cons y q=>cases g
  |nil=>
   obtain⟨u,rfl,du⟩:=d.Io;exact Xu T du g k
def cq{e:Expr}{p pos kp g:Pos}{j}(hu:X.A.units+64<cLine)(hg:Gl X "sorted")(hm:X.mg "sorted" = none)(ha:DA X [e] fs) (Z:∀ {t:TA},PA X [e] t->PE X (.Call (.Name "sorted" p) [e] [⟨some "reverse",.Constant (.bool true) j g,kp⟩] pos) (fun σ H Q=>t σ H fun vs T=>cF X.K vs T Q)):DE X (.Call (.Name "sorted" p) [e] [⟨some "reverse",.Constant (.bool true) j g,kp⟩] pos) (AQ (MT true) fs):=by
 obtain⟨t,p,k⟩:=ha;refine⟨_,Z p,fun δ z U G0 H0 G H σ ts Q R0 q=>?_⟩;obtain⟨xs,h1,B⟩:=aB.mp U;refine k δ _ h1 G0 H0 G H σ ts _ R0 fun vs G1 T R1 Y=>?_;obtain⟨d,R2⟩:=R1.args Y;cases xs with
 |nil=>cases B
 |cons x r=>
  cases r with
  |cons y q=>cases B
  |nil=>
   obtain⟨u,rfl,du⟩:=d.Io;exact Xu (rev:=true) R2 du B q
end
def eG:L->L
 |.own (.lst xs)=>.d (.list xs)
 |.own (.WM kvs)=>.d (UP kvs)
 |.own _=>.no
 |l=>l
def FV(δ:Dv):Dv:=δ.map eG
section
variable{G0 H0 G H:Hp}{σ:St}{δ:Dv}{ts:List (PD×V)}
def Rw.FV(r:Rw G0 H0 G H σ δ ts):Rw H H H H σ (L2.FV δ) ts:=by
 refine⟨AL.refl _,fun _ _ h=>.inl h,AL.refl _,AL.refl _,by rw[L2.FV,List.length_map];exact r.len,fun i x h=>?_,fun i xs h=>?_,fun i j xs ys _ h=>?_,fun q hq=>(r.CN q hq).same r.ins⟩
 .unfold L2.FV at h;rw[List.getElem?_map]at h;obtain⟨l,T,g⟩:=aC.mp h;unfold eG at g;split at g
  .rename_i xs;cases g;obtain⟨a,_,B,Y,k3,U,⟨ys,rfl,k5⟩⟩:=r.own i _ T;refine⟨.ref a,B,?_⟩;rw[Du];exact⟨a,ys,rfl,U,k5.same r.ins⟩
  .rename_i kvs;cases g;obtain⟨a,_,B,Y,k3,U,⟨Z,rfl,k5,k6⟩⟩:=r.own i _ T;refine⟨.ref a,B,?_⟩;rw[Du,Mq];exact .inr (.inr ⟨rfl,rfl,a,Z,rfl,U,k5,Mc.same r.ins k6⟩)
  .cases g
  .subst g;obtain⟨v,B,Y⟩:=r.dat i x T;exact⟨v,B,Y.same r.ins⟩
 all_goals
  unfold L2.FV at h;rw[List.getElem?_map]at h;obtain⟨l,T,g⟩:=aC.mp h;unfold eG at g;split at g
  .cases g
  .cases g
  .cases g
  .rename_i n1 n3 n2;subst g;cases xs with
   |lst zs=>exact(n1 zs rfl).elim
   |WM zs=>exact(n3 zs rfl).elim
   |ZO zs=>exact(n2 (.ZO zs) rfl).elim
def Rw.on{H':Hp}(r:Rw G0 H0 G H σ δ ts)(e:AL H H'):Rw G0 H0 G H' σ δ ts:=r.lift (AL.refl _) Nw.refl (r.ins.trans e) e
end
def eu(g:RW):Sp:=fun vs H Q _=>∃T xs G,g T=some xs/\Av G T vs/\AL G H/\∀a ys B H',AL G B->Nw G H B->AL B H'->AL H H'->H a=none->B a=none->H' a=some (.lst ys)->Av B xs ys->Q (.ref a) H'
section
variable{F F1 F2:DF}{δ δ':Dv}{r:Option Ou}{c:rp}{f g:rk}{fs:rj}
def Am(h:F1 δ=some (.nx δ'))(k:F2 δ'=r):Al F1 F2 δ=r:=by unfold Al;rw[h];exact k
def Gd{x:PD}(h:F1 δ=some (.rt x)):Al F1 F2 δ=some (.rt x):=by unfold Al;rw[h]
def Ig(h:c δ=some true)(k:F1 δ=r):DM c F1 F2 δ=r:=by show(c δ).bind _=r;rw[h];exact k
def Bh(h:c δ=some false)(k:F2 δ=r):DM c F1 F2 δ=r:=by show(c δ).bind _=r;rw[h];exact k
def DB{i:Nat}{y:PD}(h:f δ=some y):Cd i f δ=some (.nx (δ.set i (.d y))):=by show(f δ).map _=_;rw[h];rfl
def EN{y:PD}(h:f δ=some y):BK f δ=some (.rt y):=by show(f δ).map _=_;rw[h];rfl
def C3{o:PD->PD->Option PD}{x y:PD}{z:sE}(U:f δ=some x)(T:g δ=some y)(B:o x y=z):Ap o f g δ=z:=by unfold Ap;rw[U,T];exact B
def AV{m:MD}{xs:rq}{z:sE}(T:fs δ=some xs)(B:m xs=z):AQ m fs δ=z:=by show(fs δ).bind m=z;rw[T];exact B
def Ag{x:PD}{xs:rq}(T:f δ=some x)(B:fs δ=some xs):AB f fs δ=some (x::xs):=by show(f δ).bind _=_;rw[T];show(fs δ).map _=_;rw[B];rfl
def Gf{xs:rq}(h:fs δ=some xs)(B:xs.length<=Cc):A6 fs δ=some (.tuple xs):=by show((fs δ).bind Lz).map _=_;rw[h];show(Lz xs).map _=_;unfold Lz;rw[if_pos B];rfl
def Bs{o:PD->PD->Option PD}{x y:PD}{b:Bool}(U:f δ=some x)(T:g δ=some y)(B:o x y=some (.bool b)):Bj o f g δ=some b:=by show(Ap o f g δ).bind Nd=_;rw[C3 U T B];rfl
def E2{a b:rp}{q:Option Bool}(h:a δ=some false)(k:b δ=q):HW a b δ=q:=by show(a δ).bind _=q;rw[h];exact k
def GZ{a:rp}{b:Bool}(h:a δ=some b):Gk a δ=some (!b):=by show(a δ).map _=_;rw[h];rfl
def Ge{b:Bool}(h:f δ=some (.bool b)):Ft f δ=some b:=by show(f δ).bind Nd=_;rw[h];rfl
def WS{set:PD->Dv->Option Dv}(U:Nat->Dv->Prop):∀(xs:List PD) (δ:Dv) (n:Nat),U n δ->(∀(i:Nat) (x:PD) (δ:Dv),xs[i]? = some x->U (n+i) δ->∃T B,set x δ=some T/\F T=some (.nx B)/\U (n+i+1) B) ->
  ∃δ',FF set F xs δ=some (.nx δ')/\U (n+xs.length) δ'
 |[],δ,n,h,_=>⟨δ,rfl,h⟩
 |x::xs,δ,n,h,k=>by
  obtain⟨T,B,h1,h2,h3⟩:=k 0 x δ rfl h;obtain⟨δ',h4,h5⟩:=WS U xs B (n+1) h3 fun i y δ Y Z=>by
   have:=k (i+1) y δ (by simpa using Y) (by rw[show n+(i+1)=n+1+i by lia];exact Z);rw[show n+(i+1)+1=n+1+i+1 by lia]at this;exact this
  refine⟨δ',?_,by rw[List.length_cons,show n+(xs.length+1)=n+1+xs.length by lia];exact h5⟩;unfold FF;rw[h1,Option.bind_some,h2];exact h4
def eC{set:PD->Dv->Option Dv}{xs:rq}(U:Nat->Dv->Prop)(Y:fs δ=some xs)(h0:U 0 δ)(hs:∀(i:Nat) (x:PD) (δ:Dv),xs[i]? = some x->U i δ->∃T B,set x δ=some T/\F T=some (.nx B)/\U (i+1) B):∃δ',CP fs set F δ=some (.nx δ')/\U xs.length δ':=by
 obtain⟨δ',h1,h2⟩:=WS (F:=F) (set:=set) U xs δ 0 h0 fun i x δ Y Z=>by
  have:=hs i x δ Y (by simpa using Z)
  simpa using this
 refine⟨δ',?_,by simpa using h2⟩;show(fs δ).bind _=_;rw[Y];exact h1
end
def Bv{ps N:sJ}{F:DF}{ds:rq}{x:PD}(g:ds.length=ps.length)(h:F (HY N ds)=some (.rt x)):Bz ps N F ds=some x:=by unfold Bz;rw[if_pos g,h]
def XT{lo:Int}{n i:Nat}{x:PD}(h:(J3 lo n)[i]? = some x):x=.int (lo+(i:Nat))/\i<n:=by
 unfold J3 at h;rw[List.getElem?_map]at h;obtain⟨j,g,rfl⟩:=aC.mp h;have B:=(aD.mp g).1;rw[List.getElem?_range (by simpa using B)]at g;cases g;exact⟨rfl,by simpa using B⟩
def Zv{n:Nat}{i:Int}(h:i.natAbs<2^n):S8 n i=true:=bc h
def l9{i j:Int}(h:RQ i j=true):MN (.int i) (.int j)=some (.int (i*j)):=by
 show Pp YY YO (.int i) (.int j)=_;unfold Pp;rw[show YY (.int i) (.int j)=some (.int (i*j)) from if_pos h]
def VI(ns:sI):PD:=.dict [(.none,.list (ns.map .int))]
def mY{H:Hp}{a:AD}{ns:sI}(h:Rd H a (.lst (ns.map V.int))):Du H (VI ns) (.ref a):=by unfold VI;rw[Du];exact .inr (.inl ⟨a,ns,rfl,rfl,h⟩)
def UM(K:Fg):Bool:=K.all fun p=>match p.2.cls with|.type n=>n != "list" |_=>true
def Py{a:AD}{o:Obj}:∀ {K:Fg},K.lookup a=some o->(a,o)∈K
 |[],h=>by cases h
 |(b,u)::K,h=>by
  rw[List.lookup_cons]at h;split at h
  .rename_i e;cases h;rw[show a=b from by simpa using e];exact .head _
  .exact .tail _ (Py h)
def kz{K:Fg}{H:Hp}{a:AD}{xs:sQ}(g:UM K=true)(h:Aw K H a xs):Rd H a (.lst xs):=by
 rcases h with h|⟨o,B,n,U,T,_⟩
 .exact h
 .unfold UM at g;rw[List.all_eq_true]at g;have:=g _ (Py U);rw[T]at this;exact absurd this (by decide)
def Rw.nU{G0 H0 G H:Hp}{σ:St}{δ:Dv}{ts:List (PD×V)}(k:Nat)(o:Option V)(r:Rw G0 H0 G H σ δ ts):Rw G0 H0 G H (σ.set k o) (δ.set k .no) ts:=by
 have ne:∀(j:Nat) (l:L),l≠.no->(δ.set k .no)[j]? = some l->k≠j/\δ[j]? = some l:=fun j l hl h=>by
  by_cases U:k=j
  .subst U;by_cases hi:k<δ.length
   .rw[List.getElem?_set_self hi]at h;cases h;exact absurd rfl hl
   .rw[List.getElem?_eq_none (by simp;lia)]at h;cases h
  .rw[List.getElem?_set_ne U]at h;exact⟨U,h⟩
 refine⟨r.ext,r.new,r.ins,r.keep,by simp[r.len],fun j y h=>?_,fun j zs h=>?_,fun j l us ws T Z Y=>?_,r.CN⟩
 .obtain⟨n,h⟩:=ne j _ (by simp) h;obtain⟨w,B,g⟩:=r.dat j y h;exact⟨w,by rw[List.getElem?_set_ne n];exact B,g⟩
 .obtain⟨n,h⟩:=ne j _ (by simp) h;obtain⟨b,us,B,g⟩:=r.own j zs h;exact⟨b,us,by rw[List.getElem?_set_ne n];exact B,g⟩
 .obtain⟨n1,Z⟩:=ne j _ (by simp) Z;obtain⟨n2,Y⟩:=ne l _ (by simp) Y;rw[List.getElem?_set_ne n1,List.getElem?_set_ne n2];exact r.apart j l us ws T Z Y
abbrev X4(fs:Dv->Option (List PD)):DF:=fun δ=>(fs δ).map .rn
abbrev Qr(i:Nat):DF:=fun δ=>(ow i δ).map .rn
section
variable{X:Cx}{a:Expr}{h:rk}{pos:Pos}
def PB{i:Nat}{x:Str}{np:Pos}(Y:PE X (.Name x np) (Oz i)):DS X (.Return (some (.Name x np)) pos) (Qr i):=by
 refine⟨_,CB Y,fun δ r h G0 H0 G H σ D R q=>?_⟩;obtain⟨xs,Z,rfl⟩:=aC.mp h;obtain⟨a,_,U,T,B,g,⟨ys,rfl,k5⟩⟩:=R.own i _ (O3 Z);exact⟨.ref a,U,q a ys G H R.ext R.new R.ins R.keep B T g k5⟩
end
section
variable{X:Cx}{elt iter:Expr}{x:Str}{px pos spos:Pos}{ifs:sL}{scope:Scope}{fs:rj}{tif:rp}{f:rk}
def gb(N:sJ)(ix:Nat)(fr:sW)(hi:DI X (.Name x px) iter fs)(B:∀cl C s₀ H₀ fp,Xh (A9 X scope cl N C s₀ H₀ fp) ifs tif)(he:∀cl C s₀ H₀ fp,DE (A9 X scope cl N C s₀ H₀ fp) elt f) (h1:CD scope N x ix=true:=by decide +kernel)(h2:X.calm=true:=by rfl)(h3:F0 N X.N scope X.env.scope fr 0=true:=by rfl)(h4:fr.length=N.length:=by rfl)(h5:freeOk X.env.scope scope.names=true:=by rfl) (hs:∀x,foldedSetIterable iter X.env x=pure x:=by intro _;rfl):DS X (.Return (some (.ListComp elt [⟨.Name x px,iter,ifs,0⟩] scope pos)) spos) (X4 (GA (Fx ix) tif f fr fs)):=by
 obtain⟨wi,pi,ki⟩:=hi;refine⟨_,CB (Fl N ix fr pi B (fun cl C s₀ H₀ fp=>(he cl C s₀ H₀ fp).pe) h1 h2 h3 h4 h5 hs),fun δ r h G0 H0 G H σ D R q=>?_⟩;obtain⟨zs,m1,rfl⟩:=aC.mp h;exact Qu ki m1 R fun D' ys G' H' g Z Y U n4 T=>q _ _ _ _ g.ext g.new g.ins g.keep U Y Z T
end
def Sr(ps N:sJ)(F:DF)(ds:rq):Option rq:=if ds.length=ps.length then(match F (HY N ds) with
 |some (.rn xs)=>some xs
 |_=>none) else none
section
variable{P:Program}{w:World}{K:Fg}{mg:sD}{base:Heap}{x:Str}{st:Stmt}{fA:AD}{fd:FuncData}{N ps:sJ}{k:Nat}
def okN{F:DF}(T:Fn K mg x st ps fA fd)(S:Af N ps (AO st)) (hb:∀(cdv:VL) (A:Around) (outer:sU) (s:SD) (H:Hp) (E:XK),EX k (A.deeper (envOfC x (AO st) s.heap.objs.size fA cdv))->Kr (MM AZ P w K mg base N x (AO st) fA cdv A outer s H E).TB (EO st) F):AK P w K mg base AZ (k+1) fA fd ps (eu (Sr ps N F)):=by
 refine T.F.ok S (fun vs H Q E h=>?_) fun cdv A outer s H vs Q E Y h=>?_
 .obtain⟨ds,y,G,g,B,_⟩:=h;unfold Sr at g;split at g
  .rename_i Z;rw[B.len];exact Z
  .cases g
 .obtain⟨ds,y,G,g,B,h3,h4⟩:=h;obtain⟨t,p,U⟩:=hb cdv A outer s H E Y;refine⟨t,p,?_⟩;unfold Sr at g;split at g
  .split at g
   .rename_i z e1;cases g;exact U _ _ e1 G H G H _ _ (Rw.start B h3) h4
   .cases g
  .cases g
def gn{F:DF}{ds xs:rq}(g:ds.length=ps.length)(h:F (HY N ds)=some (.rn xs)):Bz ps N F ds=some (.list xs):=by unfold Bz;rw[if_pos g,h]
end
section
variable{F F1 F2:DF}{δ δ':Dv}{fs:rj}{xs:rq}{set:PD->Dv->Option Dv}{r:Option Ou}
def RU{Q:Dv->Prop}(h:F1 δ=some (.nx δ'))(k:∃g,F2 δ'=some (.nx g)/\Q g):∃g,Al F1 F2 δ=some (.nx g)/\Q g:=let⟨g,a,b⟩:=k;⟨g,Am h a,b⟩
def ZY(U:Nat->Dv->Prop)(Y:fs δ=some xs)(h0:U 0 δ)(Z:∀(i:Nat) (x:PD) (δ:Dv),xs[i]? = some x->U i δ->∃T,set x δ=some T/\∃B,F T=some (.nx B)/\U (i+1) B):∃δ',CP fs set F δ=some (.nx δ')/\U xs.length δ':=eC U Y h0 fun i x δ a b=>let⟨T,c,B,e,g⟩:=Z i x δ a b;⟨T,B,c,e,g⟩
def JY(T:Nat->Dv->Prop)(U:fs δ=some xs)(h0:T 0 δ)(Y:∀(i:Nat) (x:PD) (δ:Dv),xs[i]? = some x->T i δ->∃B,set x δ=some B/\∃g,F B=some (.nx g)/\T (i+1) g) (k:∀δ',T xs.length δ'->F2 δ'=r):Al (CP fs set F) F2 δ=r:=by
 obtain⟨δ',h1,Z⟩:=ZY T U h0 Y;exact Am h1 (k δ' Z)
def O7{Q:Dv->Prop}(T:Nat->Dv->Prop)(U:fs δ=some xs)(h0:T 0 δ)(Y:∀(i:Nat) (x:PD) (δ:Dv),xs[i]? = some x->T i δ->∃B,set x δ=some B/\∃g,F B=some (.nx g)/\T (i+1) g)(Z:∀δ,T xs.length δ->Q δ):∃δ',CP fs set F δ=some (.nx δ')/\Q δ':=let⟨δ',a,b⟩:=ZY T U h0 Y;⟨δ',a,Z _ b⟩
def XR{f:rk}{x:PD}(h:f δ=some x)(k:D7 x=some xs):DR f δ=some xs:=by show(f δ).bind D7=_;rw[h];exact k
end
end L2
namespace L2
open PySem PySem.Spec PyProof.Rows
def GT(H:Hp)(v:VL)(x:Tr):Prop:=∃a ys,v=.ref a/\H a=some (.tup ys)/\Ts H x ys
def Y8(S:AD)(ev:Array (Int×VL))(ep:Nat)(t:SetTable):HO:=.ext fun h=>∃o,h.get? S=some o/\o.ExactSet/\o.data=.set ev ep t
abbrev mQ(H:Hp)(p:Int×VL)(q:Int×Tr):Prop:=p.1=q.1/\q.2.deep<8/\GT H p.2 q.2
def eS(H:Hp)(S:AD)(st:TH.ES×SetTable):Prop:=∃ev ep,H S=some (Y8 S ev ep st.2)/\PySem.Paired (mQ H) ev.toList st.1.toList
def GT.same{H H':Hp}{v:VL}{x:Tr}(h:GT H v x)(e:AL H H'):GT H' v x:=let⟨a,ys,T,B,g⟩:=h;⟨a,ys,T,e _ _ B,g.same e⟩
structure fY(w:World)(st:TH.ES×SetTable):Prop where
 fit:st.2.fits st.1.size=true
 plain:st.2.plain=true
 led:st.2.led=!w.params.followText "set-order"
 walk:TH.OX st.2 st.1.size=true
 small:st.1.size<64
section
variable{X:Cx}{pins:List (AD×Obj)}{σ:St}{H:Hp}{s:SD}
def bz(I:Inv X pins σ H s){v:VL}{x:Tr}(g:GT H v x):∃a B,v=.ref a/\s.heap.IsTuple a B.toArray/\TH.Vs s.heap x B:=by
 obtain⟨a,ys,rfl,U,T⟩:=g;obtain⟨B,r,p,_⟩:=I.tuple (BN.of (K:=X.K) U);exact⟨a,B,rfl,p,T.vs I r⟩
def WK(I:Inv X pins σ H s):∀ {t:Tr} {ys:List V} {us:List VL},Ts H t ys->Vals ys us->t.deep<=8->TH.Kh (GT H) s.heap us t.bs
 |.nil,ys,us,h,r,_=>by
  rw[Ts]at h;subst h;cases r;exact .nil
 |.cons b q,ys,us,h,r,hd=>by
  rw[Ts]at h;obtain⟨a,zs,rest,rfl,Z,Y,U⟩:=h;rw[Tr.deep]at hd;cases r with
  |cons T B=>
   cases T;have g:GT H (.ref a) b:=⟨a,zs,rfl,Z,Y⟩;exact .cons ⟨by lia,g,bz I g⟩ (WK I U B (by lia))
def df(I:Inv X pins σ H s){l:List (Int×VL)}{m:List (Int×Tr)}(h:PySem.Paired (mQ H) l m):PySem.Paired (TH.QE (GT H) s.heap) l m :=
 TH.Paired.imp (fun _ _ ⟨a,b,c⟩=>⟨a,b,c,bz I c⟩) h
def mj:∀ {us:List VL} {ts:List Tr},PySem.Paired (GT H) us ts->∃zs,Vals zs us/\Ts H (Tr.of ts) zs
 |_,_,.nil=>⟨[],.nil,by rw[Tr.of,Ts]⟩
 |_,_,.cons ⟨a,ys,e,U,T⟩ r=>by
  obtain⟨zs,B,g⟩:=mj r;subst e;exact⟨.ref a::zs,.cons rfl B,by rw[Tr.of,Ts];exact⟨a,ys,zs,rfl,U,T,g⟩⟩
def ng(w:World)(K:Fg):List V->Hp->VK->Prop:=fun xs H Q=>∃p ys t st,xs=[.ref p]/\Aw K H p ys/\Ts H t ys/\t.deep<=8/\TH.Ox (TH.Me (!w.params.followText "set-order")) t.bs=some st /\
 ∀S H',AL H H'->eS H' S st->Q (.ref S) H'
def cS(hc:X.calm=true)(hu:X.A.units+64<cLine):Ey X (.type "set") (ng X.w X.K):=by
 intro pins s σ H xs us Q I r h;obtain⟨p,ys,t,st,rfl,hq,ht,hd,g,q⟩:=h;obtain⟨u,rfl,Y⟩:=r.one;cases Y;obtain⟨its,U,Z,hz⟩:=I.list hq;refine TH.Wh (G:=GT H) (I.ok.hd hc) Z.isList (WK I ht U hd) (by lia) g fun h2 T S2 k2=>?_;obtain⟨o,ev,ep,B,g2,g3,g4⟩:=S2;have hf:=I.BA.fresh (aG s.heap.objs.size);have es:=An hf (Y8 s.heap.objs.size ev ep st.2);refine⟨.ref s.heap.objs.size,upd H s.heap.objs.size (Y8 s.heap.objs.size ev ep st.2),I.laid (t':=T) k2 (aG _) ?_,rfl,q _ _ es ⟨ev,ep,AW,TH.Paired.imp (fun _ _ ⟨a,b,c,_⟩=>⟨a,b,c.same es⟩) g4⟩⟩;exact⟨⟨o,B,g2,g3⟩,⟨o,B⟩,fun h1 h2 ⟨o,q1,q2⟩ k=>⟨o,k _ q1,q2⟩⟩
def iZ(I:Inv X pins σ H s){S:AD}{st:TH.ES×SetTable}(h:eS H S st)(ok:fY X.w st):∃o ev ep,s.heap.get? S=some o/\TH.GQ X.w o ev ep st.2/\TH.Ed (GT H) s.heap ev st.1:=by
 obtain⟨ev,ep,T,B⟩:=h;obtain⟨⟨o,Z,Y,U⟩,_,_⟩:=(show Dj X.prog X.w H s.heap S (Y8 S ev ep st.2) from I.BA S _ T);have R:=df I B;have g:ev.size=st.1.size:=TH.Ed.size R;exact⟨o,ev,ep,Z,⟨Y,U,by rw[g];exact ok.fit,ok.plain,ok.led,by rw[g];exact ok.walk⟩,R⟩
def lM(w:World):List V->Hp->VK->Prop:=fun xs H Q=>∃S st,xs=[.ref S]/\eS H S st/\fY w st/\∀(l:AD) (zs:List V),H l=none->zs.length<64->Ts H (Tr.of (Tr.C5 (TH.RY st)).reverse) zs->Q (.ref l) (upd H l (.lst zs))
def YT(hc:X.calm=true)(hu:X.A.units+64<cLine):Ey X (.builtin "sorted") (lM X.w):=by
 intro pins s σ H xs us Q I r h;obtain⟨S,st,rfl,hS,ok,q⟩:=h;obtain⟨u,rfl,g⟩:=r.one;cases g;obtain⟨o,ev,ep,g1,W,R⟩:=iZ I hS ok;refine TH.YR (I.ok.hd hc) W g1 R ok.small (by lia) fun h' D U e1 us T Z gD hp hl=>?_;obtain⟨zs,g,Y⟩:=mj hp;have B:zs.length<64:=by rw[g.length];exact hl
 refine⟨.ref D,upd H D (.lst zs),I.laid (t':=U) Z T ⟨ay (aI B (by rw[sizeLine_eq];decide)),us,e1,g,gD⟩,rfl,q D zs (I.BA.fresh T) B Y⟩
end
open PySem PyProof.Rows
end L2
namespace L2
open PySem PySem.Spec PyProof.Rows
def Rh(led:Bool)(l z:sR):Bool:=match TH.Ox (TH.Me led) l with
 |some st=>decide ((Tr.C5 (TH.RY st)).reverse=z)&&st.2.fits st.1.size&&st.2.plain&&decide (st.2.led=led)&&TH.OX st.2 st.1.size&&decide (st.1.size<64)
 |none=>false
def cY{led:Bool}{l z:sR}(h:Rh led l z=true):∃st,TH.Ox (TH.Me led) l=some st/\(Tr.C5 (TH.RY st)).reverse=z/\st.2.fits st.1.size=true/\st.2.plain=true/\st.2.led=led/\TH.OX st.2 st.1.size=true/\st.1.size<64:=by
 unfold Rh at h;split at h
 .rename_i st e;simp only[Bool.and_eq_true,decide_eq_true_eq]at h;obtain⟨⟨⟨⟨⟨Z,Y⟩,U⟩,T⟩,B⟩,g⟩:=h;exact⟨st,e,Z,Y,U,T,B,g⟩
 .cases h
def YS(l:sR):sR:=match TH.Ox (TH.Me true) l with
 |some st=>(Tr.C5 (TH.RY st)).reverse
 |none=>[]
def IB(t:Tr):sE:=if t.deep<=8/\Rh true t.bs (YS t.bs)=true/\Rh false t.bs (YS t.bs)=true then some (.list (Bk (Tr.of (YS t.bs)))) else none
def QR:PD->Option PD
 |.list g=>(E9 g).bind IB
 |_=>none
section
variable{X:Cx}{e:Expr}{f:rk}{pos p p2 pos2:Pos}
def Yz(hc:X.calm=true)(hu:X.A.units+64<cLine)(hg:Gl X "sorted")(hm:X.mg "sorted" = none)(hg2:Gl X "set")(hm2:X.mg "set" = none)(ha:DE X e f) (U:starEach [e] X.env=(false,eval e X.env)::starEach [] X.env:=by rfl)(T:starEach [.Call (.Name "set" p2) [e] [] pos2] X.env=(false,eval (.Call (.Name "set" p2) [e] [] pos2) X.env)::starEach [] X.env:=by rfl) (hq1:(backTo pos2 (starEach [] X.env)).any (·.1)=false:=by rfl)(hq2:(backTo pos (starEach [] X.env)).any (·.1)=false:=by rfl):DE X (.Call (.Name "sorted" p) [.Call (.Name "set" p2) [e] [] pos2] [] pos) (fun δ=>(f δ).bind QR):=by
 obtain⟨ta,pa,ka⟩:=ha;refine⟨_,Ds (YT hc hu) hg hm PyProof.Rows.boot_sorted (AM (T4 (cS hc hu) hg2 hm2 PyProof.Rows.boot_set (AM pa Ah U) (by decide) (by decide) U hq1) Ah T) (by decide) (by decide) T hq2,fun δ z hz G0 H0 G H σ ts Q R0 k=>?_⟩;obtain⟨y,h1,h2⟩:=aB.mp hz;refine ka δ y h1 G0 H0 G H σ ts _ R0 fun u G1 H1 R1=>?_;unfold QR at h2;split at h2
 .rename_i ds;obtain⟨t,h3,Z⟩:=aB.mp h2;unfold IB at Z;split at Z
  .rename_i hh;cases Z;have hds:=Mh h3;have du:=R1.CN (_,u) (.head _);obtain⟨bb,a,ys,rfl,g,n2⟩:=G9 du (show D7 (.list ds)=some ds from rfl);have n1':H1 a=some (.lst ys):=by
    have:=R1.ins _ _ g;cases bb
    .simpa using this
    .exact absurd g (by
      have Y:=du;intro g;rw[Du]at Y;obtain⟨a',ys',e1,e2,_⟩:=Y;cases e1;rw[e2]at g;cases g)
   rw[hds]at n2;have ht:=(LW n2).same R1.ins;have both:∀led,Rh led t.bs (YS t.bs)=true:=fun led=>by cases led;exact hh.2.2;exact hh.2.1
   obtain⟨st,r1,r2,r3,r4,r5,r6,r7⟩:=cY (both (!X.w.params.followText "set-order"));refine⟨a,ys,t,st,rfl,Aw.of n1',ht,hh.1,r1,fun S H' e1 hS=>⟨S,st,rfl,hS,⟨r3,r4,r5,r6,r7⟩,fun l zs hl hz B=>?_⟩⟩;rw[r2]at B;have R2:=(R1.drop.on e1).Bm;exact k _ _ _ (R2.SH (Qs B) hl)
  .cases Z
 .cases h2
end
end L2
namespace ZT
open PySem PyProof.Rows
abbrev Fb(h:Heap)(T:AD)(a b c:VL):Prop:=h.get? T=some { cls:=.type "tuple",data:=.seq #[a,b,c]}
section
variable{prog:Program}{w:World}{A:Around}{E:sC}{s:SD}{z TI TO i1 i2 i3:AD}{f1 f2 f3:sS}{n1 n2 n3 k:Nat}{P1 P2 P3:Nat->VL->Prop}{S1 S2 S3:Nat->Heap->Prop}{a b c:VL}
def put3{T:AD}{x:VL}{k:Nat}{Q:Unit->SD->Prop}(g:Fb s.heap T a b c) (h:∀h',h'.get? T=some { cls:=.type "tuple",data:=.seq ((#[a,b,c]:Array VL).setIfInBounds k x)}->Heap.SameBut T s.heap h'->Q () {s with heap:=h'}):wpAny (model prog w) A (updateSeq T (·.setIfInBounds k x)) Q E s:=by
 refine wpAny_updateSeq g rfl (h _ ?_ (ab ..));rw[Heap.get?_update_self _ g rfl];simp[Obj.mapSeq]
structure Oi(z TI TO i1 i2 i3:Addr)(f1 f2 f3:List Addr):Prop where
 a1:TO≠z/\TO≠i1/\TO≠i2/\TO≠i3
 a2:i1≠z/\i2≠z/\i3≠z
 b1:z ∉ f1/\TO ∉ f1/\i2 ∉ f1/\i3 ∉ f1
 b2:z ∉ f2/\TO ∉ f2/\i1 ∉ f2/\i3 ∉ f2
 b3:z ∉ f3/\TO ∉ f3/\i1 ∉ f3/\i2 ∉ f3
def nz{Q:sC}(D1:Draws prog w A i1 f1 n1 P1 S1)(D2:Draws prog w A i2 f2 n2 P2 S2)(D3:Draws prog w A i3 f3 n3 P3 S3)(ap:Oi z TI TO i1 i2 i3 f1 f2 f3)(hz:IsZip s.heap z TI TO .none)(hI:Fb s.heap TI (.ref i1) (.ref i2) (.ref i3))(hO:Fb s.heap TO a b c) (t1:S1 k s.heap)(t2:S2 k s.heap)(t3:S3 k s.heap)(l1:k<n1)(l2:k<n2)(l3:k<n3) (q:∀x y u h' tk,P1 k x->P2 k y->P3 k u->IsZip h' z TI TO (rawInt s.heap.objs.size)->Fb h' TO x y u->S1 (k+1) h'->S2 (k+1) h'->S3 (k+1) h'->Fb h' s.heap.objs.size x y u->h'.objs.size=s.heap.objs.size+1 ->(∀c o,c≠z->c≠TO->c≠i1->c≠i2->c≠i3->s.heap.get? c=some o->h'.get? c=some o)->Q (.ref s.heap.objs.size) {s with heap:=h',toks:=tk}):wpAny (model prog w) A (Builtin.«zip.__next__» ⟨[.ref z],[]⟩) (fun fin s'=>∃v,fin=.done (.ret v)/\Q v s') E s:=by
 obtain⟨⟨c5,c6,c7,c7'⟩,⟨c8,c9,c9'⟩,⟨d1,d2,d3,d3'⟩,⟨d4,d5,d6,d6'⟩,e4,e5,e6,e6'⟩:=ap;show wpAny _ _ (field (.ref z) 2>>=_) _ _ _;refine Wb (aV hz rfl (x:=.bool false) rfl ?_);show wpAny _ _ (field (.ref z) 3>>=_) _ _ _;refine Wb (aV hz rfl (x:=.ref TI) rfl (Wb (aT hI rfl ?_)));show wpAny _ _ (Builtin.SmallTypes.ownedTupleIsFree (.ref z)>>=_) _ _ _;unfold Builtin.SmallTypes.ownedTupleIsFree;refine Wb (Wb (aV hz rfl (x:=.none) rfl (aA ?_)));simp only[if_true];refine Wb (bP (Wb (aV hz rfl (x:=.ref TO) rfl (Wb (af hz (by simp) fun g1 z1 Z=>Wb ?_)))));have Z:Heap.SameBut z s.heap g1:=Z;have z1:IsZip g1 z TI TO .ellipsis:=z1;simp only[List.zipIdx_cons,List.zipIdx_nil,List.forIn_cons,List.forIn_nil];refine Wb (Wb (bO ?_));show wpAny _ _ (Builtin.SmallTypes.nextOf (.ref i1)>>=_) _ _ _;refine Wb (D1.item k _ _ _ l1 (D1.frame _ _ _ t1 (Aq d1 Z)) fun x g2 tk2 p1 u1 Y=>aA ?_);have Y:Heap.SameBut i1 g1 g2:=Y;have o2:Fb g2 TO a b c:=(Y.2 _ c6).trans ((Z.2 _ c5).trans hO);refine Wb (aT o2 rfl (Wb (put3 o2 fun g3 o3 U=>Wb (wpAny_letGo (aA ?_)))));have o3:Fb g3 TO x b c:=o3;have U:Heap.SameBut TO g2 g3:=U;refine Wb (Wb (bO ?_));show wpAny _ _ (Builtin.SmallTypes.nextOf (.ref i2)>>=_) _ _ _;have t2':S2 k g3:=D2.frame _ _ _ (D2.frame _ _ _ (D2.frame _ _ _ t2 (Aq d4 Z)) (Aq d6 Y)) (Aq d5 U);refine Wb (D2.item k _ _ _ l2 t2' fun y g4 tk4 p2 u2 m4=>aA ?_);have m4:Heap.SameBut i2 g3 g4:=m4;have o4:Fb g4 TO x b c:=(m4.2 _ c7).trans o3;refine Wb (aT o4 rfl (Wb (put3 o4 fun g5 o5 m5=>Wb (wpAny_letGo (aA ?_)))));have m5:Heap.SameBut TO g4 g5:=m5;have o5:Fb g5 TO x y c:=o5;refine Wb (Wb (bO ?_));show wpAny _ _ (Builtin.SmallTypes.nextOf (.ref i3)>>=_) _ _ _;have t3':S3 k g5:=D3.frame _ _ _ (D3.frame _ _ _ (D3.frame _ _ _ (D3.frame _ _ _ (D3.frame _ _ _ t3 (Aq e4 Z)) (Aq e6 Y)) (Aq e5 U)) (Aq e6' m4)) (Aq e5 m5);refine Wb (D3.item k _ _ _ l3 t3' fun u g6 tk6 p3 u3 T=>aA ?_);have T:Heap.SameBut i3 g5 g6:=T;have o6:Fb g6 TO x y c:=(T.2 _ c7').trans o5;refine Wb (aT o6 rfl (Wb (put3 o6 fun g o7 B=>Wb (wpAny_letGo (aA (aA ?_))))));have B:Heap.SameBut TO g6 g:=B;have o7:Fb g TO x y u:=o7;refine Wb (aT o7 rfl (Wb (wpAny_newTuple ?_)));have sz:g.objs.size=s.heap.objs.size:=by rw[B.1,T.1,m5.1,m4.1,U.1,Y.1,Z.1]
 have z7:IsZip g z TI TO .ellipsis:=(B.2 _ c5.symm).trans ((T.2 _ c9'.symm).trans ((m5.2 _ c5.symm).trans ((m4.2 _ c9.symm).trans ((U.2 _ c5.symm).trans ((Y.2 _ c8.symm).trans z1)))));have kp:∀c o,c≠z->c≠TO->c≠i1->c≠i2->c≠i3->s.heap.get? c=some o->g.get? c=some o:=fun c o e1 e2 e3 e4 e5 e=>(B.2 _ e2).trans ((T.2 _ e5).trans ((m5.2 _ e2).trans ((m4.2 _ e4).trans ((U.2 _ e2).trans ((Y.2 _ e3).trans ((Z.2 _ e1).trans e))))));have v1:S1 (k+1) g:=D1.frame _ _ _ (D1.frame _ _ _ (D1.frame _ _ _ (D1.frame _ _ _ (D1.frame _ _ _ u1 (Aq d2 U)) (Aq d3 m4)) (Aq d2 m5)) (Aq d3' T)) (Aq d2 B);have v2:S2 (k+1) g:=D2.frame _ _ _ (D2.frame _ _ _ (D2.frame _ _ _ u2 (Aq d5 m5)) (Aq d6' T)) (Aq d5 B);have v3:S3 (k+1) g:=D3.frame _ _ _ u3 (Aq e5 B);show wpAny _ _ (Builtin.SmallTypes.ownedTupleHandOut (.ref z) (.ref g.objs.size)>>=_) _ _ _;unfold Builtin.SmallTypes.ownedTupleHandOut;have z8:IsZip (g.push { cls:=.type "tuple",data:=.seq #[x,y,u]}) z TI TO .ellipsis:=aE _ z7;refine Wb (Wb (af z8 (by simp) fun g8 w8 m8=>af (show IsZip g8 z TI TO (rawInt g.objs.size) from w8) (by simp) fun g9 w9 m9=>?_));have w9:IsZip g9 z TI TO (rawInt g.objs.size):=w9;have up:∀c o,c≠z->(g.push { cls:=.type "tuple",data:=.seq #[x,y,u]}).get? c=some o->g9.get? c=some o:=fun c o e1 e=>(m9.2 _ e1).trans ((m8.2 _ e1).trans e);have zl:z<g.objs.size:=aF z7;refine aA ⟨_,rfl,?_⟩;show Q (.ref g.objs.size) _;have fin:=q x y u g9 tk6 p1 p2 p3 (by rw[<-sz];exact w9) (up _ _ c5 (aE _ o7)) (D1.frame _ _ _ v1 fun c hc o e=>up c o (fun y=>d1 (y ▸ hc)) (aE _ e)) (D2.frame _ _ _ v2 fun c hc o e=>up c o (fun y=>d4 (y ▸ hc)) (aE _ e)) (D3.frame _ _ _ v3 fun c hc o e=>up c o (fun y=>e4 (y ▸ hc)) (aE _ e))
  (by rw[<-sz];exact up _ _ (aj zl) (aM _ rfl)) (by rw[<-sz,m9.1,m8.1,Heap.size_push]) fun c o e1 e2 e3 e4 e5 e=>up c o e1 (aE _ (kp c o e1 e2 e3 e4 e5 e))
 rw[sz];exact fin
def kC{Q:Fin->SD->Prop}(D1:Draws prog w A i1 f1 n1 P1 S1)(D2:Draws prog w A i2 f2 n2 P2 S2)(D3:Draws prog w A i3 f3 n3 P3 S3)(ap:Oi z TI TO i1 i2 i3 f1 f2 f3)(hz:IsZip s.heap z TI TO .none)(hI:Fb s.heap TI (.ref i1) (.ref i2) (.ref i3))(hO:Fb s.heap TO a b c) (t1:S1 k s.heap)(t2:S2 k s.heap)(t3:S3 k s.heap)(he:k=n1\/(k<n1/\k=n2)\/(k<n1/\k<n2/\k=n3)) (q:∀h' e tk,(∀c o,c≠z->c≠TO->c≠i1->c≠i2->c≠i3->s.heap.get? c=some o->h'.get? c=some o)->(∃o,h'.get? e=some o/\o.cls=.type "StopIteration")->E (.ref e) {s with heap:=h',toks:=tk}):wpAny (model prog w) A (Builtin.«zip.__next__» ⟨[.ref z],[]⟩) Q E s:=by
 obtain⟨⟨c5,c6,c7,c7'⟩,⟨c8,c9,c9'⟩,⟨d1,d2,d3,d3'⟩,⟨d4,d5,d6,d6'⟩,e4,e5,e6,e6'⟩:=ap;show wpAny _ _ (field (.ref z) 2>>=_) _ _ _;refine Wb (aV hz rfl (x:=.bool false) rfl ?_);show wpAny _ _ (field (.ref z) 3>>=_) _ _ _;refine Wb (aV hz rfl (x:=.ref TI) rfl (Wb (aT hI rfl ?_)));show wpAny _ _ (Builtin.SmallTypes.ownedTupleIsFree (.ref z)>>=_) _ _ _;unfold Builtin.SmallTypes.ownedTupleIsFree;refine Wb (Wb (aV hz rfl (x:=.none) rfl (aA ?_)));simp only[if_true];refine Wb (bP (Wb (aV hz rfl (x:=.ref TO) rfl (Wb (af hz (by simp) fun g1 z1 U=>Wb ?_)))));have U:Heap.SameBut z s.heap g1:=U;have z1:IsZip g1 z TI TO .ellipsis:=z1;simp only[List.zipIdx_cons,List.zipIdx_nil,List.forIn_cons,List.forIn_nil];refine Wb (Wb (bO ?_));show wpAny _ _ (Builtin.SmallTypes.nextOf (.ref i1)>>=_) _ _ _;have Z:=D1.frame _ _ _ t1 (Aq d1 U);rcases he with he|⟨he1,he2⟩|⟨he1,he2,he3⟩
 .rw[he]at Z;refine Wb (D1.done _ _ _ Z fun g2 e g B=>?_);obtain⟨o,B,hc⟩:=B;have z2:IsZip g2 z TI TO .ellipsis:=g _ _ c8.symm z1;have ez:e≠z:=fun y=>by subst y;rw[z2]at B;cases B;simp at hc
  exact af z2 (by simp) fun g3 _ T=>q g3 e _ (fun c o e1 e2 e3 e4 e5 y=>(T.2 _ e1).trans (g _ _ e3 ((U.2 _ e1).trans y))) ⟨o,(T.2 _ ez).trans B,hc⟩
 .refine Wb (D1.item k _ _ _ he1 Z fun x g2 tk2 p1 u1 g=>aA ?_);have g:Heap.SameBut i1 g1 g2:=g;have o2:Fb g2 TO a b c:=(g.2 _ c6).trans ((U.2 _ c5).trans hO);refine Wb (aT o2 rfl (Wb (put3 o2 fun g3 o3 T=>Wb (wpAny_letGo (aA ?_)))));have T:Heap.SameBut TO g2 g3:=T;have Y:S2 k g3:=D2.frame _ _ _ (D2.frame _ _ _ (D2.frame _ _ _ t2 (Aq d4 U)) (Aq d6 g)) (Aq d5 T);rw[he2]at Y;refine Wb (Wb (bO ?_));show wpAny _ _ (Builtin.SmallTypes.nextOf (.ref i2)>>=_) _ _ _;refine Wb (D2.done _ _ _ Y fun g4 e m4 B=>?_);obtain⟨o,B,hc⟩:=B;have z4:IsZip g4 z TI TO .ellipsis:=m4 _ _ c9.symm ((T.2 _ c5.symm).trans ((g.2 _ c8.symm).trans z1));have ez:e≠z:=fun y=>by subst y;rw[z4]at B;cases B;simp at hc
  exact af z4 (by simp) fun g5 _ m5=>q g5 e _ (fun c o e1 e2 e3 e4 e5 y=>(m5.2 _ e1).trans (m4 _ _ e4 ((T.2 _ e2).trans ((g.2 _ e3).trans ((U.2 _ e1).trans y))))) ⟨o,(m5.2 _ ez).trans B,hc⟩
 .refine Wb (D1.item k _ _ _ he1 Z fun x g2 tk2 p1 u1 g=>aA ?_);have g:Heap.SameBut i1 g1 g2:=g;have o2:Fb g2 TO a b c:=(g.2 _ c6).trans ((U.2 _ c5).trans hO);refine Wb (aT o2 rfl (Wb (put3 o2 fun g3 o3 T=>Wb (wpAny_letGo (aA ?_)))));have T:Heap.SameBut TO g2 g3:=T;have o3:Fb g3 TO x b c:=o3;have Y:S2 k g3:=D2.frame _ _ _ (D2.frame _ _ _ (D2.frame _ _ _ t2 (Aq d4 U)) (Aq d6 g)) (Aq d5 T);refine Wb (Wb (bO ?_));show wpAny _ _ (Builtin.SmallTypes.nextOf (.ref i2)>>=_) _ _ _;refine Wb (D2.item k _ _ _ he2 Y fun y g4 tk4 p2 u2 m4=>aA ?_);have m4:Heap.SameBut i2 g3 g4:=m4;have o4:Fb g4 TO x b c:=(m4.2 _ c7).trans o3;refine Wb (aT o4 rfl (Wb (put3 o4 fun g5 o5 m5=>Wb (wpAny_letGo (aA ?_)))));have m5:Heap.SameBut TO g4 g5:=m5;have t3':S3 k g5:=D3.frame _ _ _ (D3.frame _ _ _ (D3.frame _ _ _ (D3.frame _ _ _ (D3.frame _ _ _ t3 (Aq e4 U)) (Aq e6 g)) (Aq e5 T)) (Aq e6' m4)) (Aq e5 m5);rw[he3]at t3';refine Wb (Wb (bO ?_));show wpAny _ _ (Builtin.SmallTypes.nextOf (.ref i3)>>=_) _ _ _;refine Wb (D3.done _ _ _ t3' fun g6 e m6 B=>?_);obtain⟨o,B,hc⟩:=B;have z6:IsZip g6 z TI TO .ellipsis:=m6 _ _ c9'.symm ((m5.2 _ c5.symm).trans ((m4.2 _ c9.symm).trans ((T.2 _ c5.symm).trans ((g.2 _ c8.symm).trans z1))));have ez:e≠z:=fun y=>by subst y;rw[z6]at B;cases B;simp at hc
  exact af z6 (by simp) fun g7 _ m7=>q g7 e _ (fun c o e1 e2 e3 e4 e5 y=>(m7.2 _ e1).trans (m6 _ _ e5 ((m5.2 _ e2).trans ((m4.2 _ e4).trans ((T.2 _ e2).trans ((g.2 _ e3).trans ((U.2 _ e1).trans y))))))) ⟨o,(m7.2 _ ez).trans B,hc⟩
def YV{Q:Option VL->SD->Prop}(D1:Draws prog w A.in1 i1 f1 n1 P1 S1)(D2:Draws prog w A.in1 i2 f2 n2 P2 S2)(D3:Draws prog w A.in1 i3 f3 n3 P3 S3)(ap:Oi z TI TO i1 i2 i3 f1 f2 f3)(hz:IsZip s.heap z TI TO .none)(hI:Fb s.heap TI (.ref i1) (.ref i2) (.ref i3))(hO:Fb s.heap TO a b c) (t1:S1 k s.heap)(Y:S2 k s.heap)(t3:S3 k s.heap)(l1:k<n1)(l2:k<n2)(l3:k<n3) (q:∀x y u h' g,P1 k x->P2 k y->P3 k u->IsZip h' z TI TO (rawInt s.heap.objs.size)->Fb h' TO x y u->S1 (k+1) h'->S2 (k+1) h'->S3 (k+1) h'->Fb h' s.heap.objs.size x y u->h'.objs.size=s.heap.objs.size+1 ->(∀c o,c≠z->c≠TO->c≠i1->c≠i2->c≠i3->s.heap.get? c=some o->h'.get? c=some o)->Q (some (.ref s.heap.objs.size)) {s with heap:=h',toks:=g}):wpAny (model prog w) A (pyNext (.ref z)) Q E s:=by
 have U:s.TypeIs (.ref z) "zip" := ⟨_,hz,rfl⟩;unfold pyNext;exact Wb (wpAny_attempt (aX (name:=Str.ofString "__next__") U bD
  (aW bD U F.entry_zip_next (nz D1 D2 D3 ap hz hI hO t1 Y t3 l1 l2 l3 fun x y u h' g r1 r2 r3 r4 r5 r6 r7 r8 Z T B=>aA (q x y u h' g r1 r2 r3 r4 r5 r6 r7 r8 Z T B)) (F.args_zip_next_1 _))))
def ZN{Q:Option VL->SD->Prop}(D1:Draws prog w A.in1 i1 f1 n1 P1 S1)(D2:Draws prog w A.in1 i2 f2 n2 P2 S2)(D3:Draws prog w A.in1 i3 f3 n3 P3 S3)(ap:Oi z TI TO i1 i2 i3 f1 f2 f3)(hz:IsZip s.heap z TI TO .none)(hI:Fb s.heap TI (.ref i1) (.ref i2) (.ref i3))(hO:Fb s.heap TO a b c) (t1:S1 k s.heap)(Y:S2 k s.heap)(t3:S3 k s.heap)(Z:k=n1\/(k<n1/\k=n2)\/(k<n1/\k<n2/\k=n3)) (q:∀h' B,(∀c o,c≠z->c≠TO->c≠i1->c≠i2->c≠i3->s.heap.get? c=some o->h'.get? c=some o)->Q none {s with heap:=h',toks:=B}):wpAny (model prog w) A (pyNext (.ref z)) Q E s:=by
 have U:s.TypeIs (.ref z) "zip" := ⟨_,hz,rfl⟩;unfold pyNext;refine Wb (wpAny_attempt (aX (name:=Str.ofString "__next__") U bD
  (aW bD U F.entry_zip_next (kC D1 D2 D3 ap hz hI hO t1 Y t3 Z fun h' e B kp g=>?_) (F.args_zip_next_1 _))))
 obtain⟨o,g,hc⟩:=g;exact Wb (wpAny_isInstance (T := "StopIteration") (b:=true) ⟨o,g,hc⟩ isSubtype_stop (aA (q _ _ kp)))
abbrev N5(a b c:VL):Obj:={ cls:=.type "tuple",data:=.seq #[a,b,c]}
def lu(b1 b2 b3:Bool)(h:Heap)(g B T:AD):Heap :=
 (((((h.push (BX b1 g)).push (BX b2 B)).push (BX b3 T)).push (N5 (.ref h.objs.size) (.ref (h.push (BX b1 g)).objs.size) (.ref ((h.push (BX b1 g)).push (BX b2 B)).objs.size))).push (N5 .none .none .none)).push
  { cls:=.type "zip",data:=.fields #[.none,.bool false,.bool false,.ref (((h.push (BX b1 g)).push (BX b2 B)).push (BX b3 T)).objs.size,.ref ((((h.push (BX b1 g)).push (BX b2 B)).push (BX b3 T)).push (N5 (.ref h.objs.size) (.ref (h.push (BX b1 g)).objs.size) (.ref ((h.push (BX b1 g)).push (BX b2 B)).objs.size))).objs.size]}
def eA(b1 b2 b3:Bool)(B U Z:AD)(xs ys zs:rz):Meets (Builtin.«zip.__new__» ⟨[.type "zip",.ref B,.ref U,.ref Z],[]⟩) (fun _ R s=>Sq b1 s.heap B xs/\Sq b2 s.heap U ys/\Sq b3 s.heap Z zs /\R (.ok (.ret (.ref (((((s.heap.push (BX b1 B)).push (BX b2 U)).push (BX b3 Z)).push (N5 (.ref s.heap.objs.size) (.ref (s.heap.push (BX b1 B)).objs.size) (.ref ((s.heap.push (BX b1 B)).push (BX b2 U)).objs.size))).push (N5 .none .none .none)).objs.size))) {s with heap:=lu b1 b2 b3 s.heap B U Z}) :=
 .of_wp fun prog w A R s h=>by
  obtain⟨T,g,d,Y,os⟩:=s;obtain⟨h1,h2,h3,h⟩:=h;have hsub:=sub_zip;have i1:∀(A:Around) (E:VL->SD->Prop) (Q:VL->SD->Prop),Q (.ref T.objs.size) ⟨T.push (BX b1 B),g,d,Y,os⟩->wpAny (model prog w) A (pyIter (.ref B)) Q E ⟨T,g,d,Y,os⟩:=fun A E Q q=>Mg (s:=⟨T,g,d,Y,os⟩) h1 q;have i2:∀(A:Around) (E:VL->SD->Prop) (Q:VL->SD->Prop),Q (.ref (T.push (BX b1 B)).objs.size) ⟨(T.push (BX b1 B)).push (BX b2 U),g,d,Y,os⟩->wpAny (model prog w) A (pyIter (.ref U)) Q E ⟨T.push (BX b1 B),g,d,Y,os⟩:=fun A E Q q=>Mg (s:=⟨T.push (BX b1 B),g,d,Y,os⟩) (h2.push _) q;have i3:∀(A:Around) (E:VL->SD->Prop) (Q:VL->SD->Prop),Q (.ref ((T.push (BX b1 B)).push (BX b2 U)).objs.size) ⟨((T.push (BX b1 B)).push (BX b2 U)).push (BX b3 Z),g,d,Y,os⟩->wpAny (model prog w) A (pyIter (.ref Z)) Q E ⟨(T.push (BX b1 B)).push (BX b2 U),g,d,Y,os⟩:=fun A E Q q=>Mg (s:=⟨(T.push (BX b1 B)).push (BX b2 U),g,d,Y,os⟩) ((h3.push _).push _) q
  wp_walk using i1,i2,i3
  exact⟨_,rfl,h⟩
def hV(a b c:VL):checkTypeCall "zip" ⟨[a,b,c],[]⟩=pure ():=by kernel_rfl
def gU(a b c:VL):checkBuiltinCall "zip.__new__" ⟨[.type "zip",a,b,c],[]⟩=pure ():=by kernel_rfl
def il(a b c d:VL):argsOk "object.__init__" ⟨[a,b,c,d],[]⟩:=by
 unfold argsOk;rw[signature?_of (n:=['_','_','t','i','n','i','_','_']) (o:=['t','c','e','j','b','o']) (by kernel_rfl) F.owner_object]
 kernel_rfl
def Z8{b1 b2 b3:Bool}{U T B:AD}{xs ys zs:rz}{Q:sC}(h1:Sq b1 s.heap U xs)(h2:Sq b2 s.heap T ys)(h3:Sq b3 s.heap B zs) (h:∀h',IsZip h' (s.heap.objs.size+5) (s.heap.objs.size+3) (s.heap.objs.size+4) .none->Fb h' (s.heap.objs.size+3) (.ref s.heap.objs.size) (.ref (s.heap.objs.size+1)) (.ref (s.heap.objs.size+2))->Fb h' (s.heap.objs.size+4) .none .none .none ->Iq b1 h' s.heap.objs.size U 0->Iq b2 h' (s.heap.objs.size+1) T 0->Iq b3 h' (s.heap.objs.size+2) B 0->(∀c o,s.heap.get? c=some o->h'.get? c=some o)->Q (.ref (s.heap.objs.size+5)) {s with heap:=h'}):wpAny (model prog w) A (call (.type "zip") [.ref U,.ref T,.ref B]) Q E s:=by
 refine callType_new F.called_zip (by decide) (hV _ _ _) (gU _ _ _) (fun obj=>il obj _ _ _) F.entry_zip_new (eA b1 b2 b3 U T B xs ys zs) ⟨h1,h2,h3,?_⟩;have up:∀(g:Heap) (o:Obj) (c:AD) (u:Obj),g.get? c=some u->(g.push o).get? c=some u:=fun g o c u e=>aE _ e;have n1:(s.heap.push (BX b1 U)).objs.size=s.heap.objs.size+1:=Heap.size_push ..;have a0:(s.heap.push (BX b1 U)).get? s.heap.objs.size=some (BX b1 U):=aM _ (by cases b1<;>rfl);generalize hg1:s.heap.push (BX b1 U)=g1 at n1 a0;have k1:∀c o,s.heap.get? c=some o->g1.get? c=some o:=fun c o e=>by rw[<-hg1];exact up _ _ _ _ e
 have n2:(g1.push (BX b2 T)).objs.size=s.heap.objs.size+2:=by rw[Heap.size_push,n1]
 have a1:(g1.push (BX b2 T)).get? (s.heap.objs.size+1)=some (BX b2 T):=by rw[<-n1];exact aM _ (by cases b2<;>rfl)
 generalize hg2:g1.push (BX b2 T)=g2 at n2 a1;have k2:∀c o,g1.get? c=some o->g2.get? c=some o:=fun c o e=>by rw[<-hg2];exact up _ _ _ _ e
 have n3:(g2.push (BX b3 B)).objs.size=s.heap.objs.size+3:=by rw[Heap.size_push,n2]
 have a2:(g2.push (BX b3 B)).get? (s.heap.objs.size+2)=some (BX b3 B):=by rw[<-n2];exact aM _ (by cases b3<;>rfl)
 generalize hg3:g2.push (BX b3 B)=g3 at n3 a2;have k3:∀c o,g2.get? c=some o->g3.get? c=some o:=fun c o e=>by rw[<-hg3];exact up _ _ _ _ e
 have n4:(g3.push (N5 (.ref s.heap.objs.size) (.ref (s.heap.objs.size+1)) (.ref (s.heap.objs.size+2)))).objs.size=s.heap.objs.size+4:=by rw[Heap.size_push,n3]
 have a3:Fb (g3.push (N5 (.ref s.heap.objs.size) (.ref (s.heap.objs.size+1)) (.ref (s.heap.objs.size+2)))) (s.heap.objs.size+3) (.ref s.heap.objs.size) (.ref (s.heap.objs.size+1)) (.ref (s.heap.objs.size+2)):=by rw[<-n3];exact aM _ rfl
 generalize Z:g3.push (N5 (.ref s.heap.objs.size) (.ref (s.heap.objs.size+1)) (.ref (s.heap.objs.size+2)))=g4 at n4 a3;have k4:∀c o,g3.get? c=some o->g4.get? c=some o:=fun c o e=>by rw[<-Z];exact up _ _ _ _ e
 have n5:(g4.push (N5 .none .none .none)).objs.size=s.heap.objs.size+5:=by rw[Heap.size_push,n4]
 have a4:Fb (g4.push (N5 .none .none .none)) (s.heap.objs.size+4) .none .none .none:=by rw[<-n4];exact aM _ rfl
 generalize Y:g4.push (N5 .none .none .none)=g5 at n5 a4;have k5:∀c o,g4.get? c=some o->g5.get? c=some o:=fun c o e=>by rw[<-Y];exact up _ _ _ _ e
 have ez:lu b1 b2 b3 s.heap U T B=g5.push { cls:=.type "zip",data:=.fields #[.none,.bool false,.bool false,.ref (s.heap.objs.size+3),.ref (s.heap.objs.size+4)]}:=by
  unfold lu;rw[hg1,hg2,hg3,n1,n2,Z,Y,n3,n4]
 have a5:IsZip (g5.push { cls:=.type "zip",data:=.fields #[.none,.bool false,.bool false,.ref (s.heap.objs.size+3),.ref (s.heap.objs.size+4)]}) (s.heap.objs.size+5) (s.heap.objs.size+3) (s.heap.objs.size+4) .none:=by rw[<-n5];exact aM _ rfl
 rw[n1,n2,Z,Y,n5,ez];show _/\_;have k6:∀c o,g5.get? c=some o->(g5.push { cls:=.type "zip",data:=.fields #[.none,.bool false,.bool false,.ref (s.heap.objs.size+3),.ref (s.heap.objs.size+4)]}).get? c=some o:=fun c o e=>up _ _ _ _ e;refine⟨⟨_,a5,rfl⟩,h _ a5 (k6 _ _ (k5 _ _ a3)) (k6 _ _ a4) ?_ ?_ ?_ fun c o e=>k6 _ _ (k5 _ _ (k4 _ _ (k3 _ _ (k2 _ _ (k1 _ _ e)))))⟩
 .have:=k6 _ _ (k5 _ _ (k4 _ _ (k3 _ _ (k2 _ _ a0))));cases b1 with
  |true=>exact⟨_,this,rfl,rfl⟩
  |false=>exact⟨_,this,rfl,rfl⟩
 .have:=k6 _ _ (k5 _ _ (k4 _ _ (k3 _ _ a1)));cases b2 with
  |true=>exact⟨_,this,rfl,rfl⟩
  |false=>exact⟨_,this,rfl,rfl⟩
 .have:=k6 _ _ (k5 _ _ (k4 _ _ a2));cases b3 with
  |true=>exact⟨_,this,rfl,rfl⟩
  |false=>exact⟨_,this,rfl,rfl⟩
end
end ZT
namespace L2
open PySem PySem.Spec PyProof.Rows
def eQ(b1 b2 b3:Bool)(a1 a2 a3:AD):It :=
 ⟨fun i H=>∃xs x ys y zs u,CK b1 H a1 xs/\CK b2 H a2 ys/\CK b3 H a3 zs/\xs[i]? = some x/\ys[i]? = some y/\zs[i]? = some u,
  fun i H v H'=>∃p x y u,v=.ref p/\H p=none/\H'=upd H p (.tup [x,y,u])/\(∀xs,CK b1 H a1 xs->xs[i]? = some x)/\(∀ys,CK b2 H a2 ys->ys[i]? = some y)/\∀zs,CK b3 H a3 zs->zs[i]? = some u,
  fun i H=>∃xs ys zs,CK b1 H a1 xs/\CK b2 H a2 ys/\CK b3 H a3 zs/\(i=xs.length\/(i<xs.length/\i=ys.length)\/(i<xs.length/\i<ys.length/\i=zs.length))⟩
def qf(b1 b2 b3:Bool)(a1 a2 a3 z TI TO i1 i2 i3:AD):Nat->Heap->Prop:=fun i h=>IsZip h z TI TO .none/\ZT.Fb h TI (.ref i1) (.ref i2) (.ref i3)/\(∃a b c,ZT.Fb h TO a b c)/\ZT.Iq b1 h i1 a1 i/\ZT.Iq b2 h i2 a2 i/\ZT.Iq b3 h i3 a3 i
def Zy{z TI TO i1 i2 i3 a1 a2 a3:AD}(ne:[z,TI,TO,i1,i2,i3].Nodup)(e1:∀b∈[z,TI,TO,i1,i2,i3],a1≠b)(e2:∀b∈[z,TI,TO,i1,i2,i3],a2≠b)(e3:∀b∈[z,TI,TO,i1,i2,i3],a3≠b):ZT.Oi z TI TO i1 i2 i3 [i1,a1] [i2,a2] [i3,a3]:=by
 simp only[List.nodup_cons,List.mem_cons,List.not_mem_nil,or_false,not_or]at ne;obtain⟨⟨n1,n2,n3,n4,B⟩,⟨n5,n6,n7,n7'⟩,⟨n8,Z,g⟩,⟨Y,U⟩,T,_⟩:=ne;have x:∀ {a:AD},(∀b∈[z,TI,TO,i1,i2,i3],a≠b)->z≠a/\TO≠a/\i1≠a/\i2≠a/\i3≠a:=fun h=>⟨Ne.symm (h z (by simp)),Ne.symm (h TO (by simp)),Ne.symm (h i1 (by simp)),Ne.symm (h i2 (by simp)),Ne.symm (h i3 (by simp))⟩;have m:∀ {b i a:AD},b≠i->b≠a->b ∉ [i,a]:=fun h1 h2=>by simp[h1,h2]
 obtain⟨x1,x2,x3,x4,x5⟩:=x e1;obtain⟨y1,y2,y3,y4,y5⟩:=x e2;obtain⟨w1,w2,w3,w4,w5⟩:=x e3;exact⟨⟨Ne.symm n2,n8,Z,g⟩,⟨Ne.symm n3,Ne.symm n4,Ne.symm B⟩,⟨m n3 x1,m n8 x2,m (Ne.symm Y) x4,m (Ne.symm U) x5⟩,⟨m n4 y1,m Z y2,m Y y3,m (Ne.symm T) y5⟩,⟨m B w1,m g w2,m U w3,m T w4⟩⟩
def Z5{P:Program}{w:World}{K:Fg}{elts:sL}{x1}{pos:Pos}{b1 b2 b3:Bool}{a1 a2 a3 z TI TO i1 i2 i3:AD}(ne:[z,TI,TO,i1,i2,i3].Nodup) :
  Turn P w K (.Tuple elts x1 pos) (eQ b1 b2 b3 a1 a2 a3) [z,TI,TO,i1,i2,i3] z (qf b1 b2 b3 a1 a2 a3 z TI TO i1 i2 i3) where
 mem:=by simp
 obj:=fun i h st b hb=>by
  obtain⟨h1,h2,⟨u,v,w,h3⟩,h4,h5,h6⟩:=st;have hb:b=z\/b=TI\/b=TO\/b=i1\/b=i2\/b=i3:=by simpa using hb
  rcases hb with rfl|rfl|rfl|rfl|rfl|rfl
  .exact⟨_,h1,fun v y=>by cases y⟩
  .exact⟨_,h2,fun v y=>by cases y⟩
  .exact⟨_,h3,fun v y=>by cases y⟩
  .exact Gg h4
  .exact Gg h5
  .exact Gg h6
 keep:=fun i h h' st k=>by
  obtain⟨h1,h2,⟨u,v,w,h3⟩,h4,h5,h6⟩:=st;exact⟨k z (by simp) _ h1,k TI (by simp) _ h2,⟨u,v,w,k TO (by simp) _ h3⟩,Fi h4 fun o e=>k i1 (by simp) o e,Fi h5 fun o e=>k i2 (by simp) o e,Fi h6 fun o e=>k i3 (by simp) o e⟩
 item:=by
  intro X hP hw hK hc i pins s σ H E I hf st hg;subst hP hw hK;obtain⟨xs,x,ys,y,zs,t,q1,q2,q3,hx,hy,ht⟩:=hg;obtain⟨us,rv1,p1⟩:=q1.raw I;obtain⟨vs,rv2,p2⟩:=q2.raw I;obtain⟨ws,rv3,p3⟩:=q3.raw I;obtain⟨u,hu,ru⟩:=rv1.get hx;obtain⟨v,hv,rv⟩:=rv2.get hy;obtain⟨o3,hw,rw'⟩:=rv3.get ht;obtain⟨t1,t2,⟨ta,tb,tc,t3⟩,t4,t5,t6⟩:=st;have e1:∀b∈[z,TI,TO,i1,i2,i3],a1≠b:=fun b hb=>q1.none (hf b hb).1;have e2:∀b∈[z,TI,TO,i1,i2,i3],a2≠b:=fun b hb=>q2.none (hf b hb).1;have e3:∀b∈[z,TI,TO,i1,i2,i3],a3≠b:=fun b hb=>q3.none (hf b hb).1;refine ZT.YV (ZT.EW (prog:=X.prog) (w:=X.w) (A:=X.A.in1) (I.ok.hd hc) b1 i1 a1 us (e1 i1 (by simp))) (ZT.EW (prog:=X.prog) (w:=X.w) (A:=X.A.in1) (I.ok.hd hc) b2 i2 a2 vs (e2 i2 (by simp))) (ZT.EW (prog:=X.prog) (w:=X.w) (A:=X.A.in1) (I.ok.hd hc) b3 i3 a3 ws (e3 i3 (by simp))) (Zy ne e1 e2 e3) t1 t2 t3 ⟨t4,p1⟩ ⟨t5,p2⟩ ⟨t6,p3⟩ (aD.mp hu).1 (aD.mp hv).1 (aD.mp hw).1
   fun u' v' w' h' tk r1 r2 r2' r3 r4 r5 r6 r6' r7 r8 r9=>⟨_,rfl,wpAny_letOwnedTupleGo_zip (s:={s with heap:=h',toks:=tk}) r3 fun h'' z'' sb=>?_⟩
  rw[hu]at r1;rw[hv]at r2;rw[hw]at r2';cases r1;cases r2;cases r2';have ne':=ne;simp only[List.nodup_cons,List.mem_cons,List.not_mem_nil,or_false,not_or]at ne';obtain⟨⟨n1,n2,n3,n4,n4'⟩,⟨n5,n6,n7,n7'⟩,⟨n8,n9,n9'⟩,⟨n10,n11⟩,n12,_⟩:=ne';have keep:∀b o,b ∉ [z,TI,TO,i1,i2,i3]->s.heap.get? b=some o->h''.get? b=some o:=fun b o hb q=>by
   simp only[List.mem_cons,List.not_mem_nil,or_false,not_or]at hb;exact(sb.2 b hb.1).trans (r9 b o hb.1 hb.2.2.1 hb.2.2.2.1 hb.2.2.2.2.1 hb.2.2.2.2.2 q)
  have lt:∀b∈[z,TI,TO,i1,i2,i3],b<s.heap.objs.size:=fun b hb=>by
   have hb:b=z\/b=TI\/b=TO\/b=i1\/b=i2\/b=i3:=by simpa using hb
   rcases hb with rfl|rfl|rfl|rfl|rfl|rfl
   .exact aF t1
   .exact aF t2
   .exact aF t3
   .obtain⟨o,e,_⟩:=Gg t4;exact aF e
   .obtain⟨o,e,_⟩:=Gg t5;exact aF e
   .obtain⟨o,e,_⟩:=Gg t6;exact aF e
  have hTn:H s.heap.objs.size=none:=I.BA.fresh (aG _);have hT'':h''.get? s.heap.objs.size=some { cls:=.type "tuple",data:=.seq #[u,v,o3]}:=(sb.2 _ (aj (lt z (by simp)))).trans r7;have neT:∀b o,s.heap.get? b=some o->b≠s.heap.objs.size:=fun b o q=>aK (aF q);have F9:∀b o,H b=some o->b ∉ [z,TI,TO,i1,i2,i3]:=fun b o q hb=>by rw[(hf b hb).1]at q;cases q
  refine⟨.ref s.heap.objs.size,upd H s.heap.objs.size (.tup [x,y,t]),?_,rfl,⟨_,x,y,t,rfl,hTn,rfl,fun zs hz=>by rw[hz.inj q1];exact hx,fun zs hz=>by rw[hz.inj q2];exact hy,fun zs hz=>by rw[hz.inj q3];exact ht⟩,⟨z'',?_,⟨u,v,o3,?_⟩,?_,?_,?_⟩,fun b hb=>?_⟩
  .show Inv X pins σ _ {s with heap:=h'',gens:=s.gens,drawn:=s.drawn,toks:=tk};refine I.step (h':=h'') (g':=s.gens) (d':=s.drawn) (t':=tk) (ch:=[z,TI,TO,i1,i2,i3]) (fun b hb=>?_) (fun b o _ _ hc q _=>keep b o hc q) (fun b o _ _ hc q _=>⟨o.slots,keep b o hc q⟩)
    (fun b o _ q n=>by rw[AJ (neT b o q)];exact n) (fun b o hc q=>⟨o,keep b o hc q⟩) (fun b ys q=>by rw[AJ (AY q hTn)];exact q) (fun b o u q=>by rw[AJ (AY q hTn)];exact q)
    (fun b ps q=>⟨#[],by rw[AJ (AY q hTn),q];simp⟩) (fun m hm=>?_) (fun b o q=>?_) I.bare
   .obtain⟨_,f1,_,f3,f4,f5⟩:=hf b hb;exact⟨f3,f1,f4,f5⟩
   .obtain⟨o,es,ep,ho,r⟩:=hm;exact⟨o,es,ep,keep _ o (fun hb=>(hf _ hb).2.1 rfl) ho,r⟩
   .by_cases hb:b=s.heap.objs.size
    .subst hb;rw[AW]at q;cases q;exact⟨show 3<=sizeLine by decide,[u,v,o3],.cons ru (.cons rv (.cons rw' .nil)),_,hT'',rfl,_,rfl⟩
    .rw[AJ hb]at q;refine(I.BA b o q).JO (fun c w hc r=>keep c w ?_ r) (fun c r=>by rw[AJ (AY r hTn)];exact r) fun c ys r=>by rw[AJ (AY r hTn)];exact r
     rcases hc with rfl|hc
     .exact F9 _ _ q
     .exact F9 _ _ hc
  .exact(sb.2 _ (Ne.symm n1)).trans (r9 _ _ (Ne.symm n1) n5 n6 n7 n7' t2)
  .exact(sb.2 _ (Ne.symm n2)).trans r4
  .exact Fi r5.1 fun o e=>(sb.2 _ (Ne.symm n3)).trans e
  .exact Fi r6.1 fun o e=>(sb.2 _ (Ne.symm n4)).trans e
  .exact Fi r6'.1 fun o e=>(sb.2 _ (Ne.symm n4')).trans e
  .rw[AJ (aK (lt b hb))];exact(hf b hb).1
 done:=by
  intro X hP hw hK hc i pins s σ H E I hf st hg;subst hP hw hK;obtain⟨xs,ys,zs,q1,q2,q3,he⟩:=hg;obtain⟨us,rv1,p1⟩:=q1.raw I;obtain⟨vs,rv2,p2⟩:=q2.raw I;obtain⟨ws,rv3,p3⟩:=q3.raw I;obtain⟨t1,t2,⟨ta,tb,tc,t3⟩,t4,t5,t6⟩:=st;have e1:∀b∈[z,TI,TO,i1,i2,i3],a1≠b:=fun b hb=>q1.none (hf b hb).1;have e2:∀b∈[z,TI,TO,i1,i2,i3],a2≠b:=fun b hb=>q2.none (hf b hb).1;have e3:∀b∈[z,TI,TO,i1,i2,i3],a3≠b:=fun b hb=>q3.none (hf b hb).1;have he':i=us.length\/(i<us.length/\i=vs.length)\/(i<us.length/\i<vs.length/\i=ws.length):=by rw[<-rv1.length,<-rv2.length,<-rv3.length];exact he
  refine ZT.ZN (ZT.EW (prog:=X.prog) (w:=X.w) (A:=X.A.in1) (I.ok.hd hc) b1 i1 a1 us (e1 i1 (by simp))) (ZT.EW (prog:=X.prog) (w:=X.w) (A:=X.A.in1) (I.ok.hd hc) b2 i2 a2 vs (e2 i2 (by simp))) (ZT.EW (prog:=X.prog) (w:=X.w) (A:=X.A.in1) (I.ok.hd hc) b3 i3 a3 ws (e3 i3 (by simp))) (Zy ne e1 e2 e3) t1 t2 t3 ⟨t4,p1⟩ ⟨t5,p2⟩ ⟨t6,p3⟩ he' fun h' tk kp=>⟨rfl,?_⟩;have keep:∀b o,b ∉ [z,TI,TO,i1,i2,i3]->s.heap.get? b=some o->h'.get? b=some o:=fun b o hb q=>by
   simp only[List.mem_cons,List.not_mem_nil,or_false,not_or]at hb;exact kp b o hb.1 hb.2.2.1 hb.2.2.2.1 hb.2.2.2.2.1 hb.2.2.2.2.2 q
  have F9:∀b o,H b=some o->b ∉ [z,TI,TO,i1,i2,i3]:=fun b o q hb=>by rw[(hf b hb).1]at q;cases q
  show Inv X pins σ _ {s with heap:=h',gens:=s.gens,drawn:=s.drawn,toks:=tk};refine I.step (h':=h') (g':=s.gens) (d':=s.drawn) (t':=tk) (ch:=[z,TI,TO,i1,i2,i3]) (fun b hb=>?_) (fun b o _ _ hc q _=>keep b o hc q) (fun b o _ _ hc q _=>⟨o.slots,keep b o hc q⟩)
    (fun b o _ q n=>n) (fun b o hc q=>⟨o,keep b o hc q⟩) (fun b ys q=>q) (fun b o u q=>q)
    (fun b ps q=>⟨#[],by rw[q];simp⟩) (fun m hm=>?_) (fun b o q=>?_) I.bare
  .obtain⟨_,f1,_,f3,f4,f5⟩:=hf b hb;exact⟨f3,f1,f4,f5⟩
  .obtain⟨o,es,ep,ho,r⟩:=hm;exact⟨o,es,ep,keep _ o (fun hb=>(hf _ hb).2.1 rfl) ho,r⟩
  .refine(I.BA b o q).JO (fun c w hc r=>keep c w ?_ r) (fun c r=>r) fun c ys r=>r;rcases hc with rfl|hc
   .exact F9 _ _ q
   .exact F9 _ _ hc
 self:=fun _ _ _ _ _ st h=>wpAny_pyIter_zip st.1 h
def oB(B:TA):TI:=fun σ H R=>B σ H fun vs g=>∃(b1 b2 b3:Bool) (a1 a2 a3:AD),vs=[.ref a1,.ref a2,.ref a3]/\(∃xs,CK b1 g a1 xs)/\(∃ys,CK b2 g a2 ys)/\(∃zs,CK b3 g a3 zs)/\R (eQ b1 b2 b3 a1 a2 a3) g
def gy{X:Cx}{elts:sL}{x1}{B:Pos}{a b c:Expr}{ta:TA}{p pos:Pos}(hg:Gl X "zip")(hm:X.mg "zip" = none)(ha:PA X [a,b,c] ta)(hs:starEach [a,b,c] X.env=[(false,eval a X.env),(false,eval b X.env),(false,eval c X.env)]:=by rfl)(U:starEach [b,c] X.env=[(false,eval b X.env),(false,eval c X.env)]:=by rfl):PI X (.Tuple elts x1 B) (.Call (.Name "zip" p) [a,b,c] [] pos) (oB ta):=by
 intro pins s σ H R I h;refine Call_ (GV I hg hm boot_zip (ah (Bc (ha pos pins s σ H _ I h) fun us s1 ⟨vs,H1,g,r1,q1⟩=>?_) (by rw[hs,U]) (by rw[U];rfl)));obtain⟨b1,b2,b3,l1,l2,l3,e,⟨xs,h1⟩,⟨ys,h2⟩,⟨zs,h3⟩,q⟩:=q1;subst e;cases r1 with
 |cons r T=>
  cases T with
  |cons r' T=>
   cases T with
   |cons Z T=>
    cases T;cases r;cases r';cases Z;obtain⟨us,_,p1⟩:=h1.raw g;obtain⟨vs,_,p2⟩:=h2.raw g;obtain⟨ws,_,p3⟩:=h3.raw g;refine ZT.Z8 p1 p2 p3 fun h' z1 z2 z3 z4 z5 z6 hk=>wpAny_pyIter_zip z1 ?_;have I2:Inv X pins σ H1 {s1 with heap:=h'}:=g.kept (t':=s1.toks) hk;refine⟨_,[s1.heap.objs.size+5,s1.heap.objs.size+3,s1.heap.objs.size+4,s1.heap.objs.size,s1.heap.objs.size+1,s1.heap.objs.size+2],_,_,H1,rfl,I2,Z5 ?_,⟨z1,z2,⟨_,_,_,z3⟩,z4,z5,z6⟩,fun b hb=>?_,q⟩
    .simp
    have Y:s1.heap.objs.size<=b:=by
     have hb2:b=s1.heap.objs.size+5\/b=s1.heap.objs.size+3\/b=s1.heap.objs.size+4\/b=s1.heap.objs.size\/b=s1.heap.objs.size+1\/b=s1.heap.objs.size+2:=by simpa using hb
     rcases hb2 with h|h|h|h|h|h<;>rw[h]<;>first|exact aG _|exact Nat.le_add_right _ _
    exact g.Qj Y (g.BA.fresh Y)
def La(xs ys zs:rq):rq:=(xs.zip (ys.zip zs)).map fun q=>.tuple [q.1,q.2.1,q.2.2]
def T2{xs ys zs:rq}{i:Nat}{d:PD}(h:(La xs ys zs)[i]? = some d):∃x y z,xs[i]? = some x/\ys[i]? = some y/\zs[i]? = some z/\d=.tuple [x,y,z]:=by
 unfold La at h;rw[List.getElem?_map]at h;obtain⟨q,Y,rfl⟩:=aC.mp h;obtain⟨U,T⟩:=List.getElem?_zip_eq_some.mp Y;obtain⟨B,g⟩:=List.getElem?_zip_eq_some.mp T;exact⟨q.1,q.2.1,q.2.2,U,B,g,rfl⟩
def iz{Gc H:Hp}{p:AD}{x y z:PD}{u v w:V}(T:AL Gc H)(B:H p=none)(d1:Du Gc x u)(Z:Du Gc y v)(Y:Du Gc z w):∃Gc',AL Gc Gc'/\Nw Gc H Gc'/\AL Gc' (upd H p (.tup [u,v,w]))/\AL H (upd H p (.tup [u,v,w]))/\Du Gc' (.tuple [x,y,z]) (.ref p):=by
 have U:Gc p=none:=by
  cases q:Gc p with
  |none=>rfl
  |some o=>rw[T _ _ q]at B;cases B
 have e:AL Gc (upd Gc p (.tup [u,v,w])):=An U _;refine⟨upd Gc p (.tup [u,v,w]),e,fun b o h=>?_,fun b o h=>?_,An B _,?_⟩
 .by_cases g:b=p
  .subst g;exact .inr (.inl B)
  .rw[AJ g]at h;exact .inl h
 .by_cases g:b=p
  .subst g;rw[AW]at h ⊢;exact h
  .rw[AJ g]at h ⊢;exact T _ _ h
 .rw[Du];exact⟨p,_,rfl,AW,.cons (d1.same e) (.cons (Z.same e) (.cons (Y.same e) .nil))⟩
def iw{G:Hp}{b1 b2 b3:Bool}{a1 a2 a3:AD}{us vs ws:sQ}{xs ys zs:rq}(h1:G a1=some (if b1 then .tup us else .lst us))(h2:G a2=some (if b2 then .tup vs else .lst vs))(h3:G a3=some (if b3 then .tup ws else .lst ws))(d1:Av G xs us)(d2:Av G ys vs)(d3:Av G zs ws):J6 (eQ b1 b2 b3 a1 a2 a3) (La xs ys zs) G where
 stop:=fun H e=>by
  have k1:=e _ _ h1;have k2:=e _ _ h2;have k3:=e _ _ h3;refine⟨us,vs,ws,?_,?_,?_,?_⟩
  .cases b1<;>simpa[CK]using k1
  .cases b2<;>simpa[CK]using k2
  .cases b3<;>simpa[CK]using k3
  .rw[d1.len,d2.len,d3.len];simp[La];lia
 go:=fun i x H hx e=>by
  obtain⟨x1,x2,x3,k1,k2,k3,rfl⟩:=T2 hx;obtain⟨v1,j1,_⟩:=d1.get k1;obtain⟨v2,j2,_⟩:=d2.get k2;obtain⟨v3,j3,_⟩:=d3.get k3;have m1:=e _ _ h1;have m2:=e _ _ h2;have m3:=e _ _ h3;refine⟨us,v1,vs,v2,ws,v3,?_,?_,?_,j1,j2,j3⟩
  .cases b1<;>simpa[CK]using m1
  .cases b2<;>simpa[CK]using m2
  .cases b3<;>simpa[CK]using m3
 F8:=fun i x H v H' hx e y Gc e1 e2=>by
  obtain⟨x1,x2,x3,k1,k2,k3,rfl⟩:=T2 hx;obtain⟨p,v1,v2,v3,rfl,hp,rfl,y1,y2,y3⟩:=y;have m1:=e _ _ h1;have m2:=e _ _ h2;have m3:=e _ _ h3;have z1:=y1 us (by cases b1<;>simpa[CK]using m1);have z2:=y2 vs (by cases b2<;>simpa[CK]using m2);have z3:=y3 ws (by cases b3<;>simpa[CK]using m3);obtain⟨w1,n1,n2⟩:=d1.back z1;obtain⟨w2,n3,n4⟩:=d2.back z2;obtain⟨w3,n5,n6⟩:=d3.back z3;rw[k1]at n1;cases n1;rw[k2]at n3;cases n3;rw[k3]at n5;cases n5;exact iz e2 hp (n2.same e1) (n4.same e1) (n6.same e1)
def SA:List PD->Option (List PD)
 |[x,y,z]=>(D7 x).bind fun xs=>(D7 y).bind fun ys=>(D7 z).map fun zs=>La xs ys zs
 |_=>none
section
variable{X:Cx}{a b c:Expr}{fs:rj}{pos p:Pos}
def gr{elts:sL}{x1}{g:Pos}(hg:Gl X "zip")(hm:X.mg "zip" = none)(ha:DA X [a,b,c] fs)(hs:starEach [a,b,c] X.env=[(false,eval a X.env),(false,eval b X.env),(false,eval c X.env)]:=by rfl)(T:starEach [b,c] X.env=[(false,eval b X.env),(false,eval c X.env)]:=by rfl):DI X (.Tuple elts x1 g) (.Call (.Name "zip" p) [a,b,c] [] pos) (fun δ=>(fs δ).bind SA):=by
 obtain⟨t,p,k⟩:=ha;refine⟨_,gy hg hm p hs T,fun δ xs h G0 H0 G H σ ts R R0 q=>?_⟩;obtain⟨x,h1,B⟩:=aB.mp h;refine k δ _ h1 G0 H0 G H σ ts _ R0 fun vs G' H' R' hv=>?_;obtain⟨d,R2⟩:=R'.args hv;unfold SA at B;split at B
 .obtain⟨xs1,h3,h4⟩:=aB.mp B;obtain⟨ys1,h5,h6⟩:=aB.mp h4;obtain⟨zs1,h7,rfl⟩:=aC.mp h6;obtain⟨v1,r1,rfl,du,d⟩:=d.un;obtain⟨v2,r2,rfl,dv,d⟩:=d.un;obtain⟨w,rfl,dw⟩:=d.Io;obtain⟨b1,a1,us,rfl,Y,n2⟩:=G9 du h3;obtain⟨b2,a2,vs,rfl,Z,m2⟩:=G9 dv h5;obtain⟨b3,a3,ws,rfl,U,o2⟩:=G9 dw h7;have s1:=R2.ins _ _ Y;have s2:=R2.ins _ _ Z;have s3:=R2.ins _ _ U;exact⟨b1,b2,b3,a1,a2,a3,rfl,⟨us,by cases b1<;>simpa[CK]using s1⟩,⟨vs,by cases b2<;>simpa[CK]using s2⟩,⟨ws,by cases b3<;>simpa[CK]using s3⟩,q _ _ _ R2 (iw Y Z U n2 m2 o2)⟩
 .cases B
def Vv(i j l:Nat)(y:PD)(δ:Dv):Option Dv:=match y with
 |.tuple [u,v,w]=>some (((δ.set i (.d u)).set j (.d v)).set l (.d w))
 |_=>none
def dU{x y z:Str}{i j l:Nat}{px Z Y:Pos}{k1}(h:PG X (.Tuple [.Name x px,.Name y Z,.Name z Y] k1 pos) (Yo X.K 3 (Ly (D6 i) (Ly (D6 j) (Ly (D6 l) Yh))))):DG X (.Tuple [.Name x px,.Name y Z,.Name z Y] k1 pos) (Vv i j l):=by
 refine⟨_,h,fun δ z δ' e G0 H0 G H σ v Q R k=>?_⟩;unfold Vv at e;split at e
 .cases e;have du:=R.CN _ (.head _);rw[Du]at du;obtain⟨a,ys,rfl,n1,g⟩:=du;obtain⟨U,r1,rfl,m1,g⟩:=g.un;obtain⟨T,r2,rfl,m2,g⟩:=g.un;obtain⟨B,rfl,m3⟩:=g.Io;refine⟨a,[U,T,B],rfl,BN.of (R.ins _ _ n1),rfl,U,[T,B],rfl,T,[B],rfl,B,[],rfl,rfl,?_⟩;exact k _ _ _ ((((R.drop.put m3).put m2).put m1).IB.IB.IB)
 .cases e
end
end L2
namespace L2
open PySem PySem.Spec PyProof.Rows
section
variable{X:Cx}
def cC{pins:List (AD×Obj)}{σ:St}{H:Hp}{s:SD}(I:Inv X pins σ H s){t:Tr}{v:V}{u:VL}(h:Tv H t v)(r:RelV v u):∃a g,u=.ref a/\s.heap.IsTuple a g.toArray/\TH.Vs s.heap t g:=by
 obtain⟨a,ys,rfl,U,T⟩:=h;obtain⟨g,B,p,_⟩:=I.tuple (BN.of (K:=X.K) U);exact⟨a,g,r,p,T.vs I B⟩
open Classical in
end
end L2
namespace ZT
open PySem PyProof.Rows
def NJ(h:Heap)(z TI TO T:AD)(b:Bool):Prop:=h.get? z=some { cls:=.type "zip",data:=.fields #[rawInt T,.bool b,.bool false,.ref TI,.ref TO]}/\∃o,h.get? T=some o
section
variable{prog:Program}{w:World}{A:Around}{E:sC}{s:SD}{z TI TO T i1 i2:AD}{f1 f2:sS}{n1 n2 k:Nat}{P1 P2:Nat->VL->Prop}{S1 S2:Nat->Heap->Prop}{b:Bool}
def Wq{Q:Bool->SD->Prop}(hz:NJ s.heap z TI TO T b)(Y:T≠z)(q:∀h',NJ h' z TI TO T true->Heap.SameBut z s.heap h'->Q false {s with heap:=h'}):wpAny (model prog w) A (Builtin.SmallTypes.ownedTupleIsFree (.ref z)) Q E s:=by
 obtain⟨hz,o,g⟩:=hz;unfold Builtin.SmallTypes.ownedTupleIsFree;refine Wb (aV hz rfl (x:=rawInt T) rfl ?_);show wpAny _ _ (loadIfAlive (Int.toNat (T:Int))>>=_) _ _ _;rw[Int.toNat_natCast];refine Wb (PySem.W.kdx_alive g ?_);show wpAny _ _ (field (.ref z) 1>>=_) _ _ _;refine Wb (aV hz rfl (x:=.bool b) rfl ?_);cases b with
 |true=>exact Wb (aA (aA (q _ ⟨hz,o,g⟩ (Heap.SameBut.refl ..))))
 |false=>
  show wpAny _ _ (setField (.ref z) 1 (.bool true)>>=_) _ _ _;refine Wb (af hz (by simp) fun Z U B=>aA (q Z ⟨U,o,(B.2 _ Y).trans g⟩ B))
def Z3{Q:sC}(Z:Draws prog w A i1 f1 n1 P1 S1)(Y:Draws prog w A i2 f2 n2 P2 S2)(ap:Apart z TI TO i1 i2 f1 f2)(hz:NJ s.heap z TI TO T b)(hI:IsPair s.heap TI (.ref i1) (.ref i2)) (hT:T≠z/\T≠i1/\T≠i2)(t1:S1 k s.heap)(t2:S2 k s.heap)(l1:k<n1)(l2:k<n2) (q:∀x y h' tk,P1 k x->P2 k y->NJ h' z TI TO T true->S1 (k+1) h'->S2 (k+1) h'->IsPair h' s.heap.objs.size x y->h'.objs.size=s.heap.objs.size+1 ->(∀c o,c≠z->c≠i1->c≠i2->s.heap.get? c=some o->h'.get? c=some o)->Q (.ref s.heap.objs.size) {s with heap:=h',toks:=tk}):wpAny (model prog w) A (Builtin.«zip.__next__» ⟨[.ref z],[]⟩) (fun fin s'=>∃v,fin=.done (.ret v)/\Q v s') E s:=by
 obtain⟨⟨c1,c2,c3,c4⟩,⟨c5,c6,c7⟩,⟨c8,c9,c10⟩,⟨d1,d2,d3⟩,d4,d5,d6⟩:=ap;show wpAny _ _ (field (.ref z) 2>>=_) _ _ _;refine Wb (aV hz.1 rfl (x:=.bool false) rfl ?_);show wpAny _ _ (field (.ref z) 3>>=_) _ _ _;refine Wb (aV hz.1 rfl (x:=.ref TI) rfl (Wb (aT hI rfl ?_)));show wpAny _ _ (Builtin.SmallTypes.ownedTupleIsFree (.ref z)>>=_) _ _ _;refine Wb (Wq hz hT.1 fun g1 z1 g=>?_);simp only[Bool.false_eq_true,if_false];have g:Heap.SameBut z s.heap g1:=g;rw[<-Array.forIn_toList];simp only[List.forIn_cons,List.forIn_nil];refine Wb (Wb (Wb (aS ?_)));show wpAny _ _ (Builtin.SmallTypes.nextOf (.ref i1)>>=_) _ _ _;refine Wb (Z.item k _ _ _ l1 (Z.frame _ _ _ t1 (Aq d1 g)) fun x g2 tk2 p1 u1 B=>aA (aA ?_));have B:Heap.SameBut i1 g1 g2:=B;have t2':S2 k g2:=Y.frame _ _ _ (Y.frame _ _ _ t2 (Aq d4 g)) (Aq d6 B);refine Wb (Wb (aS ?_));show wpAny _ _ (Builtin.SmallTypes.nextOf (.ref i2)>>=_) _ _ _;refine Wb (Y.item k _ _ _ l2 t2' fun y U tk4 p2 u2 m4=>aA (aA (aA ?_)));have m4:Heap.SameBut i2 g2 U:=m4;show wpAny _ _ (newTuple [x,y]>>=_) _ _ _;refine Wb (wpAny_newTuple (hsz:=by rw[sizeLine_eq];show(2:Nat)<=_;decide) ?_);have sz:U.objs.size=s.heap.objs.size:=by rw[m4.1,B.1,g.1]
 have kp:∀c o,c≠i1->c≠i2->g1.get? c=some o->(U.push { cls:=.type "tuple",data:=.seq #[x,y]}).get? c=some o:=fun c o e3 e4 e=>aE _ ((m4.2 _ e4).trans ((B.2 _ e3).trans e));obtain⟨z1,o,ho⟩:=z1;have fin:=q x y (U.push { cls:=.type "tuple",data:=.seq #[x,y]}) tk4 p1 p2 ⟨kp _ _ c8.symm c9.symm z1,o,kp _ _ hT.2.1 hT.2.2 ho⟩ (Z.frame _ _ _ (Z.frame _ _ _ u1 (Aq d3 m4)) fun c hc o e=>aE _ e) (Y.frame _ _ _ u2 fun c hc o e=>aE _ e)
  (by rw[<-sz];exact aM _ rfl) (by rw[<-sz,Heap.size_push]) fun c o e1 e3 e4 e=>kp c o e3 e4 ((g.2 _ e1).trans e)
 rw[<-sz]at fin;exact aA ⟨_,rfl,fin⟩
def dJ{Q:Fin->SD->Prop}(D1:Draws prog w A i1 f1 n1 P1 S1)(D2:Draws prog w A i2 f2 n2 P2 S2)(ap:Apart z TI TO i1 i2 f1 f2)(hz:NJ s.heap z TI TO T b)(hI:IsPair s.heap TI (.ref i1) (.ref i2)) (hT:T≠z)(t1:S1 k s.heap)(t2:S2 k s.heap)(he:k=n1\/(k<n1/\k=n2)) (q:∀h' e tk,(∀c o,c≠z->c≠i1->c≠i2->s.heap.get? c=some o->h'.get? c=some o)->(∃o,h'.get? e=some o/\o.cls=.type "StopIteration")->E (.ref e) {s with heap:=h',toks:=tk}):wpAny (model prog w) A (Builtin.«zip.__next__» ⟨[.ref z],[]⟩) Q E s:=by
 obtain⟨⟨c1,c2,c3,c4⟩,⟨c5,c6,c7⟩,⟨c8,c9,c10⟩,⟨d1,d2,d3⟩,d4,d5,d6⟩:=ap;show wpAny _ _ (field (.ref z) 2>>=_) _ _ _;refine Wb (aV hz.1 rfl (x:=.bool false) rfl ?_);show wpAny _ _ (field (.ref z) 3>>=_) _ _ _;refine Wb (aV hz.1 rfl (x:=.ref TI) rfl (Wb (aT hI rfl ?_)));show wpAny _ _ (Builtin.SmallTypes.ownedTupleIsFree (.ref z)>>=_) _ _ _;refine Wb (Wq hz hT fun g1 z1 U=>?_);simp only[Bool.false_eq_true,if_false];have U:Heap.SameBut z s.heap g1:=U;rw[<-Array.forIn_toList];simp only[List.forIn_cons,List.forIn_nil];refine Wb (Wb (Wb (aS ?_)));show wpAny _ _ (Builtin.SmallTypes.nextOf (.ref i1)>>=_) _ _ _;have g:=D1.frame _ _ _ t1 (Aq d1 U);rcases he with he|⟨he1,he2⟩
 .rw[he]at g;refine Wb (D1.done _ _ _ g fun Z e B ho=>?_);exact q Z e _ (fun c o e1 e3 e4 y=>B _ _ e3 ((U.2 _ e1).trans y)) ho
 .refine Wb (D1.item k _ _ _ he1 g fun x Z tk2 p1 u1 B=>aA (aA ?_));have B:Heap.SameBut i1 g1 Z:=B;have Y:S2 k Z:=D2.frame _ _ _ (D2.frame _ _ _ t2 (Aq d4 U)) (Aq d6 B);rw[he2]at Y;refine Wb (Wb (aS ?_));show wpAny _ _ (Builtin.SmallTypes.nextOf (.ref i2)>>=_) _ _ _;refine Wb (D2.done _ _ _ Y fun g4 e m4 ho=>?_);exact q g4 e _ (fun c o e1 e3 e4 y=>m4 _ _ e4 ((B.2 _ e3).trans ((U.2 _ e1).trans y))) ho
def Zz{Q:Option VL->SD->Prop}(D1:Draws prog w A.in1 i1 f1 n1 P1 S1)(D2:Draws prog w A.in1 i2 f2 n2 P2 S2)(ap:Apart z TI TO i1 i2 f1 f2)(hz:NJ s.heap z TI TO T b)(hI:IsPair s.heap TI (.ref i1) (.ref i2)) (hT:T≠z/\T≠i1/\T≠i2)(t1:S1 k s.heap)(U:S2 k s.heap)(l1:k<n1)(l2:k<n2) (q:∀x y h' B,P1 k x->P2 k y->NJ h' z TI TO T true->S1 (k+1) h'->S2 (k+1) h'->IsPair h' s.heap.objs.size x y->h'.objs.size=s.heap.objs.size+1 ->(∀c o,c≠z->c≠i1->c≠i2->s.heap.get? c=some o->h'.get? c=some o)->Q (some (.ref s.heap.objs.size)) {s with heap:=h',toks:=B}):wpAny (model prog w) A (pyNext (.ref z)) Q E s:=by
 have g:s.TypeIs (.ref z) "zip" := ⟨_,hz.1,rfl⟩;unfold pyNext;exact Wb (wpAny_attempt (aX (name:=Str.ofString "__next__") g bD
  (aW bD g F.entry_zip_next (Z3 D1 D2 ap hz hI hT t1 U l1 l2 fun x y h' B r1 r2 r3 r4 r5 r6 Z Y=>aA (q x y h' B r1 r2 r3 r4 r5 r6 Z Y)) (F.args_zip_next_1 _))))
def UA{Q:Option VL->SD->Prop}(D1:Draws prog w A.in1 i1 f1 n1 P1 S1)(D2:Draws prog w A.in1 i2 f2 n2 P2 S2)(ap:Apart z TI TO i1 i2 f1 f2)(hz:NJ s.heap z TI TO T b)(hI:IsPair s.heap TI (.ref i1) (.ref i2)) (hT:T≠z)(t1:S1 k s.heap)(Y:S2 k s.heap)(Z:k=n1\/(k<n1/\k=n2)) (q:∀h' U,(∀c o,c≠z->c≠i1->c≠i2->s.heap.get? c=some o->h'.get? c=some o)->Q none {s with heap:=h',toks:=U}):wpAny (model prog w) A (pyNext (.ref z)) Q E s:=by
 have g:s.TypeIs (.ref z) "zip" := ⟨_,hz.1,rfl⟩;unfold pyNext;refine Wb (wpAny_attempt (aX (name:=Str.ofString "__next__") g bD
  (aW bD g F.entry_zip_next (dJ D1 D2 ap hz hI hT t1 Y Z fun h' e U kp B=>?_) (F.args_zip_next_1 _))))
 obtain⟨o,B,hc⟩:=B;exact Wb (wpAny_isInstance (T := "StopIteration") (b:=true) ⟨o,B,hc⟩ isSubtype_stop (aA (q _ _ kp)))
end
end ZT
namespace TH
open PySem PyProof.Rows
section
variable{prog:Program}{w:World}{A:Around}{E:sC}{s:SD}{z TI TO i1 i2 d:AD}{f1 f2:sS}{P1 P2:Nat->VL->Prop}{S1 S2:Nat->Heap->Prop}
def VT(h:Heap)(z TI TO d:AD):Prop:=(IsZip h z TI TO .none/\∃a b,IsPair h TO a b)\/∃T b,ZT.NJ h z TI TO T b/\d<T
def VT.keep{h h':Heap}(st:VT h z TI TO d)(hz:z<d)(Y:TO<d)(e:Heap.SameBut d h h'):VT h' z TI TO d:=by
 rcases st with ⟨B,a,b,g⟩|⟨T,b,⟨B,o,g⟩,U⟩
 .exact .inl ⟨(e.2 _ (aK hz)).trans B,a,b,(e.2 _ (aK Y)).trans g⟩
 .exact .inr ⟨T,b,⟨(e.2 _ (aK hz)).trans B,o,(e.2 _ (aj U)).trans g⟩,U⟩
structure fc(z TI TO i1 i2 d:Addr):Prop where
 z:z<d
 I:TI<d
 O:TO<d
 a:i1<d
 b:i2<d
def oM{n1 n2 k:Nat}{Q:Option VL->SD->Prop}(lw:fc z TI TO i1 i2 d)(hd:d<s.heap.objs.size)(D1:Draws prog w A.in1 i1 f1 n1 P1 S1)(D2:Draws prog w A.in1 i2 f2 n2 P2 S2)(ap:ZT.Apart z TI TO i1 i2 f1 f2)(st:VT s.heap z TI TO d)(hI:IsPair s.heap TI (.ref i1) (.ref i2)) (t1:S1 k s.heap)(t2:S2 k s.heap)(l1:k<n1)(l2:k<n2) (q:∀x y h' g,P1 k x->P2 k y->VT h' z TI TO d->S1 (k+1) h'->S2 (k+1) h'->IsPair h' s.heap.objs.size x y->h'.objs.size=s.heap.objs.size+1 ->(∀c o,c≠z->c≠TO->c≠i1->c≠i2->s.heap.get? c=some o->h'.get? c=some o)->Q (some (.ref s.heap.objs.size)) {s with heap:=h',toks:=g}):wpAny (model prog w) A (pyNext (.ref z)) Q E s:=by
 rcases st with ⟨h1,a,b,h2⟩|⟨T,b,h1,U⟩
 .exact ZT.next_item D1 D2 ap h1 hI h2 t1 t2 l1 l2 fun x y h' g r1 r2 r3 r4 r5 r6 B Z Y=>q x y h' g r1 r2 (.inr ⟨_,false,⟨r3,_,B⟩,hd⟩) r5 r6 B Z Y
 .exact ZT.Zz D1 D2 ap h1 hI ⟨aj (bZ lw.z U),Nat.ne_of_gt (bZ lw.a U),Nat.ne_of_gt (bZ lw.b U)⟩ t1 t2 l1 l2 fun x y h' g r1 r2 r3 r5 r6 B Z Y=>q x y h' g r1 r2 (.inr ⟨T,true,r3,U⟩) r5 r6 B Z fun c o e1 e2 e3 e4 e=>Y c o e1 e3 e4 e
def cH{B Z k:Nat}{Q:Option VL->SD->Prop}(lw:fc z TI TO i1 i2 d)(D1:Draws prog w A.in1 i1 f1 B P1 S1)(D2:Draws prog w A.in1 i2 f2 Z P2 S2)(ap:ZT.Apart z TI TO i1 i2 f1 f2)(st:VT s.heap z TI TO d)(hI:IsPair s.heap TI (.ref i1) (.ref i2)) (t1:S1 k s.heap)(Y:S2 k s.heap)(he:k=B\/(k<B/\k=Z)) (q:∀h' g,(∀c o,c≠z->c≠TO->c≠i1->c≠i2->s.heap.get? c=some o->h'.get? c=some o)->Q none {s with heap:=h',toks:=g}):wpAny (model prog w) A (pyNext (.ref z)) Q E s:=by
 rcases st with ⟨U,a,b,h2⟩|⟨T,b,U,h3⟩
 .exact ZT.next_end D1 D2 ap U hI h2 t1 Y he q
 .exact ZT.UA D1 D2 ap U hI (aj (bZ lw.z h3)) t1 Y he fun h' g kp=>q h' g fun c o e1 e2 e3 e4 e=>kp c o e1 e3 e4 e
end
end TH
namespace L2
open PySem PySem.Spec PyProof.Rows
def ZC{G:Hp}{x:PD}{t:Tr}{v:V}(h:Gh x=some t)(d:Du G x v):Tv G t v:=by
 cases x with
 |tuple T=>
  rw[Gh]at h;have:=Mh h;subst this;rw[Du]at d;obtain⟨a,xs,rfl,B,g⟩:=d;exact⟨a,xs,rfl,B,LW g⟩
 |_=>simp[Gh]at h
end L2
namespace TH
open PySem PyProof.Rows
def Vc:typeLookup (.type "zip") "__len__" = pure none:=by rw[typeLookup_type,builtinLookup_eq_fast];kernel_rfl
def UG:typeLookup (.type "zip") "__length_hint__" = pure none:=by rw[typeLookup_type,builtinLookup_eq_fast];kernel_rfl
section
variable{prog:Program}{w:World}{A:Around}{E:sC}{s:SD}{z TI TO i1 i2 S n:AD}
def eW{Q:Bool->SD->Prop}(g:s.TypeIs (.ref z) "zip")(h:Q true s):wpAny (model prog w) A (Builtin.List.listLengthHint (.ref z)) Q E s:=by
 unfold Builtin.List.listLengthHint;refine Wb (bS g Vc ?_);exact Wb (bS g UG (aA h))
def Yd(us vs:rz)(lo:AD)(h:Heap)(as:sS):Prop:=∀(j:Nat) (a:AD),as[j]? = some a->lo<a/\∃x y,us[j]? = some x/\vs[j]? = some y/\IsPair h a x y
def oP{R:Result->SD->Prop}{b1 b2:Bool}{l1 l2:AD}{us vs:rz}{h0:Heap}(hh:A.handled=none)(lw:fc z TI TO i1 i2 S)(hn:n<=z/\n<=TI/\n<=TO/\n<=i1/\n<=i2)(ap:ZT.Apart z TI TO i1 i2 [i1,l1] [i2,l2]) (n1:l1≠i1)(n2:l2≠i2)(m1:l1<n)(m2:l2<n)(e2:vs.length=us.length)(hs:us.length<=sizeLine)(res:VL) (hR:∀h' Z B c as,(∀c o,c<n->h0.get? c=some o->h'.get? c=some o)->h'.get? S=some { cls:=.type "list",dict:=none,data:=.seq B c,slots:=#[]}->as.length=us.length->Yd us vs S h' as->as.Nodup->B.toList=as.map Value.ref->R (.ok (.ret res)) {s with heap:=h',toks:=Z}):∀(m i:Nat) (h:Heap) (Z c:Nat) (B:Array VL) (as:sS),us.length-i=m->i<=us.length->VT h z TI TO S->IsPair h TI (.ref i1) (.ref i2)->ZT.Iq b1 h i1 l1 i/\ZT.Sq b1 h l1 us->ZT.Iq b2 h i2 l2 i/\ZT.Sq b2 h l2 vs->(∀c o,c<n->h0.get? c=some o->h.get? c=some o) ->h.get? S=some { cls:=.type "list",dict:=none,data:=.seq B c,slots:=#[]}->B.toList=as.map Value.ref->as.length=i->Yd us vs S h as->as.Nodup ->codeAny (model prog w) A (.builtin "list.extend.loop" ⟨[.ref S,.ref z,res],[]⟩) R {s with heap:=h,toks:=Z}:=by
 have D1:=ZT.EW (prog:=prog) (w:=w) (A:=A.in1.in1) hh b1 i1 l1 us n1;have D2:=ZT.EW (prog:=prog) (w:=w) (A:=A.in1.in1) hh b2 i2 l2 vs n2;have low:∀c:AD,c<n->c≠z/\c≠TO/\c≠i1/\c≠i2:=fun c g=>⟨aK (aI g hn.1),Nat.ne_of_lt (aI g hn.2.2.1),Nat.ne_of_lt (aI g hn.2.2.2.1),Nat.ne_of_lt (aI g hn.2.2.2.2)⟩;have U:∀c:AD,S<=c->c≠z/\c≠TO/\c≠i1/\c≠i2:=fun c g=>⟨aj (aI lw.z g),Nat.ne_of_gt (aI lw.O g),Nat.ne_of_gt (aI lw.a g),Nat.ne_of_gt (aI lw.b g)⟩;intro m
 induction m with
 |zero=>
  intro i h Z c B as hm hi st hI t1 t2 kp hS ha hl hG nda;have hin:i=us.length:=by lia
  subst hin;refine codeAny_builtin PySem.F.entry_extend_loop ?_;rw[Around.under_plainId PySem.F.plain_extend_loop _];show wpAny _ A.in1 (pyNext (.ref z)>>=_) _ _ _;refine Wb (cH (s:={s with heap:=h,toks:=Z}) (A:=A.in1) lw D1 D2 ap st hI t1 t2 (.inl rfl) fun h' Y kp'=>?_);have up:∀c o,c≠z/\c≠TO/\c≠i1/\c≠i2->h.get? c=some o->h'.get? c=some o:=fun c o q e=>kp' c o q.1 q.2.1 q.2.2.1 q.2.2.2 e;refine aA (hR h' Y B c as (fun c o g e=>up c o (low c g) (kp c o g e)) (up S _ (U S (aG _)) hS) hl (fun j a T=>?_) nda ha);obtain⟨r1,x,y,r2,r3,r4⟩:=hG j a T;exact⟨r1,x,y,r2,r3,up a _ (U a (ay r1)) r4⟩
 |succ m ih=>
  intro i h Z c B as hm hi st hI t1 t2 kp hS ha hl hG nda;have hlt:i<us.length:=by lia
  have hsz:B.size=i:=by rw[<-Array.length_toList,ha,List.length_map,hl]
  have hSl:S<h.objs.size:=aF hS;refine codeAny_builtin PySem.F.entry_extend_loop ?_;rw[Around.under_plainId PySem.F.plain_extend_loop _];show wpAny _ A.in1 (pyNext (.ref z)>>=_) _ _ _;refine Wb (oM (s:={s with heap:=h,toks:=Z}) (A:=A.in1) lw hSl D1 D2 ap st hI t1 t2 hlt (by lia) fun x y h' Y r1 r2 r3 r4 r5 r6 r7 r8=>?_);dsimp only at r6 r7 r8 ⊢;have kp1:∀c o,c≠z/\c≠TO/\c≠i1/\c≠i2->h.get? c=some o->h'.get? c=some o:=fun c o q e=>r8 c o q.1 q.2.1 q.2.2.1 q.2.2.2 e;have hS':=kp1 S _ (U S (aG _)) hS;have sb:Heap.SameBut S h' (h'.update S (Obj.mapSeq (·.push (Value.ref h.objs.size)))):=ab ..;have up:∀b o,b≠S->h'.get? b=some o->(h'.update S (Obj.mapSeq (·.push (Value.ref h.objs.size)))).get? b=some o:=fun b o hb e=>(sb.2 b hb).trans e;have hT:=up _ _ (aj hSl) r6;have nS:n<S:=aP hn.1 lw.z;show wpAny _ A.in1 (updateSeq S (·.push (Value.ref h.objs.size))>>=_) _ _ _;refine Wb (wpAny_updateSeq hS' rfl (aA ⟨plainId_quiet PySem.F.plain_extend_loop _,?_⟩) (by rw[hsz];lia) (by show(B.push (Value.ref h.objs.size)).size<=sizeLine+1;rw[Array.size_push,hsz];lia));refine ih (i+1) _ Y _ (B.push (Value.ref h.objs.size)) (as++[h.objs.size]) (by lia) hlt (r3.keep lw.z lw.O sb) (up _ _ (aK lw.I) (r8 _ _ ap.a1.1 ap.a1.2.1 ap.a1.2.2.1 ap.a1.2.2.2 hI))
   (D1.frame _ _ _ r4 fun c g o e=>up c o ?_ e) (D2.frame _ _ _ r5 fun c g o e=>up c o ?_ e) (fun c o g e=>up c o (aK (bZ g nS)) (kp1 c o (low c g) (kp c o g e)))
   (bM _ hS' rfl) (by rw[Array.toList_push,ha,List.map_append];rfl) (by rw[List.length_append,hl];rfl) (fun j b T=>?_) ?_
  .rcases aN.mp g with rfl|g
   .exact aK lw.a
   .rw[List.mem_singleton.mp g];exact aK (bZ m1 nS)
  .rcases aN.mp g with rfl|g
   .exact aK lw.b
   .rw[List.mem_singleton.mp g];exact aK (bZ m2 nS)
  .by_cases hj1:j<as.length
   .rw[List.getElem?_append_left hj1]at T;obtain⟨q1,x',y',q2,q3,q4⟩:=hG j b T;exact⟨q1,x',y',q2,q3,up b _ (aj q1) (kp1 b _ (U b (ay q1)) q4)⟩
   .rw[List.getElem?_append_right (by lia)]at T;have hj0:j-as.length=0:=by
     have:=(aD.mp T).1;simp at this
     lia
    rw[hj0]at T;have hb:h.objs.size=b:=by simpa using T
    subst hb;have hji:j=i:=by lia
    subst hji;exact⟨hSl,x,y,r1,r2,hT⟩
  .refine List.nodup_append.mpr ⟨nda,by simp,fun a ha b hb=>?_⟩;rw[List.mem_singleton.mp hb];obtain⟨j,T⟩:=bV.mp ha;obtain⟨_,_,_,_,_,q⟩:=hG j a T;exact aK (aF q)
def ie{b1 b2 : Bool}{l1 l2 : AD}{us vs : rz}{Q : VL->SD->Prop}(hh : A.handled = none)(lw : fc z TI TO i1 i2 s.heap.objs.size)(hn : n<=z/\n<=TI/\n<=TO/\n<=i1/\n<=i2)(ap : ZT.Apart z TI TO i1 i2 [i1,l1] [i2,l2]) (n1 : l1≠i1)(n2 : l2≠i2)(m1 : l1 < n)(m2 : l2 < n)(e2 : vs.length = us.length)(hs : us.length<=sizeLine) (hz : IsZip s.heap z TI TO .none)(hI : IsPair s.heap TI (.ref i1) (.ref i2))(hO : IsPair s.heap TO .none .none)(t1 : ZT.Iq b1 s.heap i1 l1 0)(p1 : ZT.Sq b1 s.heap l1 us)(t2 : ZT.Iq b2 s.heap i2 l2 0)(p2 : ZT.Sq b2 s.heap l2 vs) (q : ∀ h' tk acc c as,(∀ c o,c < n->s.heap.get? c = some o->h'.get? c = some o)->h'.get? s.heap.objs.size = some { cls:=.type "list",dict:=none,data:=.seq acc c,slots:=#[] }->as.length = us.length->Yd us vs s.heap.objs.size h' as->as.Nodup->acc.toList = as.map Value.ref->Q (.ref s.heap.objs.size) { s with heap:=h',toks:=tk }):wpAny (model prog w) A (call (.type "list") [.ref z]) Q E s:=by
  refine callType_codes (Q₁:=fun obj s₁ => obj = .ref s.heap.objs.size/\s₁ = { s with heap:=s.heap.push { cls:=.type "list",data:=.seq #[] } }) PySem.F.called_list (PySem.F.typeCall_list_1 _) PySem.F.entry_list_init
    (code_list_new _ ⟨rfl,rfl⟩) fun obj s₁ h₁ => ?_
  obtain ⟨rfl,rfl⟩:=h₁
  have hS : (s.heap.push { cls:=.type "list",data:=.seq #[] }).get? s.heap.objs.size = some { cls:=.type "list",data:=.seq #[] }:=aM _ rfl
  refine ⟨⟨_,hS,rfl⟩,PySem.F.args_list_init_2 _ _,?_⟩
  show wpAny _ _ (do let old <- Builtin.List.listItems (.ref s.heap.objs.size); Builtin.List.listUpdate (.ref s.heap.objs.size) (fun _ => #[]); letGo old.toList.reverse; Builtin.List.listExtendWith (.ref s.heap.objs.size) (.ref z) .none) _ _ _
  refine Wb ?_
  unfold Builtin.List.listItems
  refine Wb (aT hS rfl (aA ?_))
  show wpAny _ _ (updateSeq s.heap.objs.size (fun _ => #[]) >>= fun _ => letGo (#[] : Array VL).toList.reverse >>= fun _ => Builtin.List.listExtendWith (.ref s.heap.objs.size) (.ref z) .none) _ _ _
  refine Wb (wpAny_updateSeq hS rfl ?_)
  have hS2:=bM (Obj.mapSeq (fun _ => (#[] : Array VL))) hS rfl
  have oth : ∀ b o,b < s.heap.objs.size->s.heap.get? b = some o->((s.heap.push { cls:=.type "list",data:=.seq #[] }).update s.heap.objs.size (Obj.mapSeq (fun _ => (#[] : Array VL)))).get? b = some o :=
    fun b o hb e => (Heap.get?_update_other _ _ (aj hb)).trans (aE _ e)
  generalize (s.heap.push { cls:=.type "list",data:=.seq #[] }).update s.heap.objs.size (Obj.mapSeq (fun _ => (#[] : Array VL))) = h2 at hS2 oth
  have oth' : ∀ b o,s.heap.get? b = some o->h2.get? b = some o:=fun b o e => oth b o (aF e) e
  refine Wb (wpAny_letGo ?_)
  unfold Builtin.List.listExtendWith
  refine Wb (wpAny_typeOf (T := "zip") ⟨_,oth' _ _ hz,rfl⟩ ?_)
  have k1 : Builtin.List.listSameRef (.ref s.heap.objs.size) (.ref z) = false:=by simp [Builtin.List.listSameRef,Nat.ne_of_gt lw.z]
  have k2 : (Value.type "zip" == Value.type "list") = false:=by decide
  have k3 : (Value.type "zip" == Value.type "tuple") = false:=by decide
  simp only [k1,k2,k3,Bool.or_false,Bool.false_eq_true,if_false]
  refine Wb (wpAny_pyIter_zip (oth' _ _ hz) ?_)
  refine Wb (aS (eW ⟨_,oth' _ _ hz,rfl⟩ ?_))
  refine wpAny_ite_split (fun _ => ?_) (fun hab => absurd (by simp) hab)
  refine Wb (bP ?_)
  refine Wb ?_
  show wpAny _ _ (updateSeq s.heap.objs.size (·.push .none) >>= fun _ => updateSeq s.heap.objs.size (·.pop)) _ _ _
  refine Wb (wpAny_updateSeq hS2 rfl ?_)
  have hS3:=bM (Obj.mapSeq (·.push Value.none)) hS2 rfl
  refine wpAny_updateSeq (hz:=by seq_fits) hS3 rfl ?_
  have hS4:=bM (Obj.mapSeq (·.pop)) hS3 rfl
  have oth2 : ∀ b o,s.heap.get? b = some o->((h2.update s.heap.objs.size (Obj.mapSeq (·.push Value.none))).update s.heap.objs.size (Obj.mapSeq (·.pop))).get? b = some o:=fun b o e => (Heap.get?_update_other _ _ (aj (aF e))).trans ((Heap.get?_update_other _ _ (aj (aF e))).trans (oth' b o e))
  generalize (h2.update s.heap.objs.size (Obj.mapSeq (·.push Value.none))).update s.heap.objs.size (Obj.mapSeq (·.pop)) = h3 at hS4 oth2
  refine aA ⟨plainId_quiet PySem.F.plain_extend_loop _,?_⟩
  have:=oP (s:=s) (A:=A.in1) (prog:=prog) (w:=w) (h0:=s.heap) (b1 := b1) (b2 := b2) (S:=s.heap.objs.size) (R:=wants (fun r s₂ => r = .none/\Q (.ref s.heap.objs.size) s₂) E) hh lw hn ap n1 n2 m1 m2 e2 hs .none (fun h' tk acc c as r1 r2 r3 r4 r5 r6 => ⟨rfl,q h' tk acc c as r1 r2 r3 r4 r5 r6⟩) _ 0 h3 s.toks _ #[] [] rfl (bE _)
    (.inl ⟨oth2 _ _ hz,_,_,oth2 _ _ hO⟩) (oth2 _ _ hI) ⟨?_,?_⟩ ⟨?_,?_⟩ (fun c o _ e => oth2 c o e) hS4 rfl rfl (fun j a hj => by simp at hj) List.nodup_nil
  . exact this
  . cases b1 with
    | true => obtain ⟨o,q,r⟩:=(show s.heap.IsTupleIter i1 l1 0 from t1); exact (show h3.IsTupleIter i1 l1 0 from ⟨o,oth2 _ _ q,r⟩)
    | false => obtain ⟨o,q,r⟩:=(show s.heap.IsListIter i1 l1 0 from t1); exact (show h3.IsListIter i1 l1 0 from ⟨o,oth2 _ _ q,r⟩)
  . exact p1.keep fun o e => oth2 _ _ e
  . cases b2 with
    | true => obtain ⟨o,q,r⟩:=(show s.heap.IsTupleIter i2 l2 0 from t2); exact (show h3.IsTupleIter i2 l2 0 from ⟨o,oth2 _ _ q,r⟩)
    | false => obtain ⟨o,q,r⟩:=(show s.heap.IsListIter i2 l2 0 from t2); exact (show h3.IsListIter i2 l2 0 from ⟨o,oth2 _ _ q,r⟩)
  . exact p2.keep fun o e => oth2 _ _ e
end
end TH
namespace L2
open PySem PySem.Spec PyProof.Rows
def rH(T:TA):TE:=fun σ H Q=>T σ H fun vs g=>∃(b1 b2:Bool) (a1 a2:AD) (xs ys:List V),vs=[.ref a1,.ref a2]/\CK b1 g a1 xs/\CK b2 g a2 ys/\ys.length=xs.length/\xs.length<=1000 /\
 ∀(S:AD) (B:Hp) (as:List AD),AL g B->g S=none->B S=some (.lst (as.map V.ref))->as.length=xs.length->(∀(j:Nat) a x y,as[j]? = some a->xs[j]? = some x->ys[j]? = some y->g a=none/\B a=some (.tup [x,y]))->Q (.ref S) B
def ed{X:Cx}{a b:Expr}{ta:TA}{p p2 pos g:Pos}(hc:X.calm=true)(hgd:Gl X "list")(hmd:X.mg "list" = none)(hg:Gl X "zip")(hm:X.mg "zip" = none)(ha:PA X [a,b] ta) (he:starEach [.Call (.Name "zip" p2) [a,b] [] g] X.env=(false,eval (.Call (.Name "zip" p2) [a,b] [] g) X.env)::starEach [] X.env:=by rfl)(hpl:(backTo pos (starEach [] X.env)).any (·.1)=false:=by rfl) (hs:starEach [a,b] X.env=[(false,eval a X.env),(false,eval b X.env)]:=by rfl)(hs2:starEach [b] X.env=[(false,eval b X.env)]:=by rfl):PE X (.Call (.Name "list" p) [.Call (.Name "zip" p2) [a,b] [] g] [] pos) (rH ta):=by
 intro pins s σ H Q I h;refine wpAny_Call_Name_kw (GV I hgd hmd boot_list ?_ (by decide) (by decide));refine ah ?_ he hpl;rw[he];show wpAny _ _ (spliced ((false,eval (.Call (.Name "zip" p2) [a,b] [] g) X.env)::backTo pos (starEach [] X.env))) _ _ s;refine Calls.spliced_cons ?_;refine Call_ (GV I hg hm boot_zip (ah (Bc (ha g pins s σ H _ I h) fun us s1 ⟨vs,H1,I1,r1,q1⟩=>?_) (by rw[hs,hs2]) (by rw[hs2];rfl)));obtain⟨b1,b2,l1,l2,xs,ys,e,h1,h2,e2,e3,q⟩:=q1;subst e;cases r1 with
 |cons r rr=>
  cases rr with
  |cons r' rr=>
   cases rr;cases r;cases r';obtain⟨us,rv1,p1⟩:=h1.raw I1;obtain⟨vs,rv2,p2⟩:=h2.raw I1;have Y:=p1.lt;have U:=p2.lt;refine ZT.VE p1 p2 fun h' z1 z2 z3 z4 z5 hkp=>?_;refine Calls.spliced_nil ?_;have s4:s1.heap.objs.size+4<h'.objs.size:=aF z1;have g1:∀m,m<=4->s1.heap.objs.size+m<h'.objs.size:=fun m hm=>aP (Nat.add_le_add_left hm _) s4;have ne:∀(x:AD) m,x<s1.heap.objs.size->x≠s1.heap.objs.size+m:=fun x m hx=>aK (aI hx (Nat.le_add_right _ _));have ap:ZT.Apart (s1.heap.objs.size+4) (s1.heap.objs.size+2) (s1.heap.objs.size+3) s1.heap.objs.size (s1.heap.objs.size+1) [s1.heap.objs.size,l1] [s1.heap.objs.size+1,l2]:=by
    refine⟨⟨by simp,by simp,by simp,by simp⟩,⟨by simp,by simp,by simp⟩,⟨by simp,by simp,by simp⟩,⟨?_,?_,?_⟩,?_,?_,?_⟩
    .simp[Ne.symm (ne l1 4 Y)]
    .simp[Ne.symm (ne l1 3 Y)]
    .simp[Ne.symm (ne l1 1 Y)]
    .simp[Ne.symm (ne l2 4 U)]
    .simp[Ne.symm (ne l2 3 U)]
    .simp only[List.mem_cons,List.not_mem_nil,or_false,not_or];exact⟨aK (bN _),Nat.ne_of_gt U⟩
   have ll:us.length=xs.length:=rv1.length.symm;have ll2:vs.length=ys.length:=rv2.length.symm;have sl:us.length<=sizeLine:=by rw[ll];exact aQ e3 (by rw[sizeLine_eq];decide)
   refine TH.ie (s:={s1 with heap:=h'}) (n:=s1.heap.objs.size) (z:=s1.heap.objs.size+4) (TI:=s1.heap.objs.size+2) (TO:=s1.heap.objs.size+3) (i1:=s1.heap.objs.size) (i2:=s1.heap.objs.size+1) (b1:=b1) (b2:=b2) (us:=us) (vs:=vs) (I1.ok.hd hc)
    ⟨s4,g1 2 (by decide),g1 3 (by decide),g1 0 (by decide),g1 1 (by decide)⟩ ⟨Nat.le_add_right _ _,Nat.le_add_right _ _,Nat.le_add_right _ _,Nat.le_refl _,Nat.le_add_right _ _⟩ ap (aK Y) (ne l2 1 U) Y U (by lia) sl
    z1 z2 z3 z4 (p1.keep fun o e=>hkp _ _ e) z5 (p2.keep fun o e=>hkp _ _ e) fun h2 tk acc c as kp hS hal hG nda hacc=>?_
   have le:s1.heap.objs.size<=h'.objs.size:=ay (g1 0 (by decide));have keep:∀b o,s1.heap.get? b=some o->h2.get? b=some o:=fun b o e=>kp b o (aF e) (hkp b o e);have at_:∀(j:Nat) B,as[j]? = some B->∃x y u v,xs[j]? = some x/\ys[j]? = some y/\RelV x u/\RelV y v/\h2.get? B=some { cls:=.type "tuple",data:=.seq #[u,v]}/\h'.objs.size<B:=fun j B T=>by
    obtain⟨k1,u,v,k2,k3,k4⟩:=hG j B T;have hj1:j<xs.length:=by rw[<-ll];exact(aD.mp k2).1
    have hj2:j<ys.length:=by rw[<-ll2];exact(aD.mp k3).1
    obtain⟨u',m1,m2⟩:=rv1.get (aJ hj1);obtain⟨v',m3,m4⟩:=rv2.get (aJ hj2);rw[k2]at m1;cases m1;rw[k3]at m3;cases m3;exact⟨_,_,u,v,List.getElem?_eq_getElem hj1,List.getElem?_eq_getElem hj2,m2,m4,k4,k1⟩
   let prs:Nat->Option HO:=fun j=>match xs[j]?,ys[j]? with|some x,some y=>some (.tup [x,y])|_,_=>none
   let H':Hp:=fun y=>if y=h'.objs.size then some (.lst (as.map V.ref)) else if y∈as then prs (as.idxOf y) else H1 y
   have hHD:H' h'.objs.size=some (.lst (as.map V.ref)):=if_pos rfl;have hHa:∀(j:Nat) B x y,as[j]? = some B->xs[j]? = some x->ys[j]? = some y->H' B=some (.tup [x,y]):=fun j B x y T hx hy=>by
    obtain⟨_,_,_,_,_,_,_,_,_,Z⟩:=at_ j B T;show(if B=_ then _ else _)=_;rw[if_neg (aj Z),if_pos (aH T)];have hi:as.idxOf B=j:=by
     have hm:=aH T;have hli:=List.idxOf_lt_length_iff.mpr hm;have e2:as[as.idxOf B]? = some B:=by rw[List.getElem?_eq_getElem hli,List.getElem_idxOf hli]
     exact(List.getElem?_inj hli nda).mp (e2.trans T.symm)
    rw[hi];show(match xs[j]?,ys[j]? with|some x,some y=>some (HO.tup [x,y])|_,_=>none)=_;rw[hx,hy]
   have hHo:∀y,y<s1.heap.objs.size->H' y=H1 y:=fun y hy=>by
    show(if y=_ then _ else _)=_;rw[if_neg (aK (aI hy le))];refine if_neg fun hm=>?_;obtain⟨j,T⟩:=List.getElem?_of_mem hm;obtain⟨_,_,_,_,_,_,_,_,_,Z⟩:=at_ j y T;exact absurd (aI hy le) (Nat.not_lt_of_gt Z)
   have up:∀b o,H1 b=some o->H' b=some o:=fun b o e=>by
    rw[hHo b (I1.BA b o e).lt];exact e
   have BA:Fq X.prog X.w H' h2:=fun y u e=>by
    by_cases hyD:y=h'.objs.size
    .subst hyD;rw[hHD]at e;cases e;refine⟨by rw[List.length_map,hal];exact sl,as.map Value.ref,c,Tt as,?_⟩;rw[<-hacc,Array.toArray_toList];exact hS
    .by_cases hm:y∈as
     .obtain⟨j,T⟩:=List.getElem?_of_mem hm;obtain⟨x,y',u',v',k1,k2,k3,k4,k5,_⟩:=at_ j y T;rw[hHa j y x y' T k1 k2]at e;cases e;exact⟨Xm,[u',v'],.cons k3 (.cons k4 .nil),_,k5,rfl,_,rfl⟩
     .have e':H1 y=some u:=by
       have:H' y=H1 y:=by
        show(if y=_ then _ else _)=_;rw[if_neg hyD,if_neg hm]
       rw[this]at e;exact e
      exact(I1.BA y u e').JO (fun b o _ z=>keep b o z) (fun b z=>up _ _ z) fun b xs z=>up _ _ z
   have I3:Inv X pins σ H' {s1 with heap:=h2,toks:=tk}:=I1.many keep hHo BA;refine⟨.ref h'.objs.size,H',I3,rfl,q h'.objs.size H' as up (I1.BA.fresh le) hHD (by rw[hal,ll]) fun j B x y T hx hy=>⟨?_,hHa j B x y T hx hy⟩⟩;obtain⟨_,_,_,_,_,_,_,_,_,Z⟩:=at_ j B T;exact I1.BA.fresh (ay (aP le Z))
end L2
namespace TH
open PySem PyProof.Rows PySem.SeqAt
section
open PySem.AutoSeq1 (wpAny_loadPart')
open PySem.MeetsSeq PySem.MeetsSeq2 PySem.MeetsSeq3
def dk(n0:Nat)(ih:∀(t u:Tr) (A:Around) (s:SD) (a b:AD) (its its':rz),t.deep<n0->s.heap.IsTuple a its.toArray->Vs s.heap t its->s.heap.IsTuple b its'.toArray->Vs s.heap u its'->A.units+t.deep<cLine ->∀(prog:Program) (w:World) (E:sC) (Q:sC),Q (.bool (!Tr.lt u t)) s->wpAny (model prog w) A (richCompare .LtE (.ref a) (.ref b)) Q E s) (l b:AD)(items B:Array VL)(n n2:Nat)(dd dd2:Option AD)(sl sl2:Array (Option VL))(t u:Tr)(ht:t.deep<=n0):Meets (Builtin.«tuple.__le__» ⟨[.ref l,.ref b],[]⟩) (fun A R s=>s.heap.get? l=some { cls:=.type "tuple",dict:=dd,data:=.seq items n,slots:=sl}/\s.heap.get? b=some { cls:=.type "tuple",dict:=dd2,data:=.seq B n2,slots:=sl2} /\Vs s.heap t items.toList/\Vs s.heap u B.toList/\A.units+t.deep<cLine/\R (.ok (.ret (.bool (!Tr.lt u t)))) s) :=
 .of_wp fun prog w A R s h=>by
  obtain⟨hp,g,d,tk,os⟩:=s;obtain⟨hl,hb,hi,hj,hun,h⟩:=h;have f2:=AutoSeq1.sub_tuple_tuple;have z1:items.size=t.len:=by rw[<-Vs.length hi];simp
  have z2:B.size=u.len:=by rw[<-Vs.length hj];simp
  wp_walk using wpAny_loadPart' hl,wpAny_loadPart' hb,wpAny_forIn_list _ (fun rest b s'=>b.1=none/\s'=⟨hp,g,d,tk,os⟩/\∃(vs ws:List VL) (t' Z:Tr),rest=vs.zip ws /\
   Vs hp t' vs/\Vs hp Z ws/\t'.deep<=t.deep/\t'.len+B.size=Z.len+items.size/\R (.ok (.ret (.bool (!Tr.lt Z t')))) ⟨hp,g,d,tk,os⟩) _
  case turn=>
   rintro⟨y,x⟩ rest b s' ⟨hb',rfl,vs,ws,t',Z,hz,Y,U,hdp,T,hR⟩;cases t' with
   |nil=>rw[Vs]at Y;subst Y;rw[List.zip_nil_left]at hz;cases hz
   |cons bt rt=>
    cases Z with
    |nil=>rw[Vs]at U;subst U;rw[List.zip_nil_right]at hz;cases hz
    |cons bu ru=>
     rw[Vs]at Y U;obtain⟨a1,i1,v1,rfl,p1,p2,p3⟩:=Y;obtain⟨a2,i2,v2,rfl,q1,q2,q3⟩:=U;rw[List.zip_cons_cons]at hz
     injection hz with hyx hrest
     injection hyx with hy hx
     subst hy hx;have hdd:(Tr.cons bt rt).deep=max (bt.deep+1) rt.deep:=rfl;rw[Tr.lt]at hR;simp only[Tr.len]at T;have he:=Qo (s:=⟨hp,g,d,tk,os⟩) (A:=A.in1) p1 p2 q1 q2 (by rw[show A.in1.units=A.units+1 from rfl];lia);refine Wb (he prog w _ _ ?_);cases hc:decide (bt=bu) with
     |true=>
      rw[if_pos (ak hc).symm]at hR
      wp_walk
      exact⟨rfl,rfl,_,_,_,_,hrest,p3,q3,by lia,by lia,hR⟩
     |false=>
      rw[if_neg (fun z=>bg hc z.symm)]at hR;have hri:=ih bt bu A.in1 ⟨hp,g,d,tk,os⟩ a1 a2 i1 i2 (by lia) p1 p2 q1 q2 (by rw[show A.in1.units=A.units+1 from rfl];lia) prog w
      wp_walk using hri
      exact⟨_,rfl,by simpa using hR⟩
  case fin=>
   rintro⟨b1,b2⟩ s' ⟨hb',rfl,vs,ws,t',Z,hz,Y,U,hdp,T,hR⟩;simp only at hb';subst hb';have hv:(!Tr.lt Z t')=decide (items.size<=B.size):=by
    cases t' with
    |nil=>
     cases Z with
     |nil=>
      simp only[Tr.len]at T;exact(bc (by lia)).symm
     |cons c q=>
      simp only[Tr.len]at T;exact(bc (by lia)).symm
    |cons bt rt=>
     cases Z with
     |nil=>
      simp only[Tr.len]at T;exact(bR (by lia)).symm
     |cons c q=>
      rw[Vs]at Y U;obtain⟨_,_,_,rfl,_⟩:=Y;obtain⟨_,_,_,rfl,_⟩:=U;rw[List.zip_cons_cons]at hz;cases hz
   rw[hv]at hR
   wp_walk
   exact⟨_,rfl,by simpa[Builtin.Tuple.tupleCompareSizes]using hR⟩
  case h=>
   exact⟨rfl,rfl,items.toList,B.toList,t,u,rfl,hi,hj,Nat.le_refl _,by lia,h⟩
def fy:∀(Z:Nat) (t u:Tr) (A:Around) (s:SD) (a b:AD) (g its':List VL),t.deep<Z->s.heap.IsTuple a g.toArray->Vs s.heap t g->s.heap.IsTuple b its'.toArray->Vs s.heap u its'->A.units+t.deep<cLine ->
   ∀(prog:Program) (w:World) (E:VL->SD->Prop) (Q:VL->SD->Prop),Q (.bool (!Tr.lt u t)) s->wpAny (model prog w) A (richCompare .LtE (.ref a) (.ref b)) Q E s
 |0,_,_,_,_,_,_,_,_,h,_,_,_,_,_=>absurd h (ae _)
 |Z+1,t,u,A,s,a,b,g,its',hd,hl,ht,hb,hu',hun=>fun prog w E Q h=>by
  obtain⟨⟨cls,dd,data,sl⟩,ho,hc,n,U⟩:=id hl;obtain⟨⟨cls2,dd2,data2,sl2⟩,T,Y,n2,B⟩:=id hb;simp only at hc U Y B;subst hc U Y B;exact richCompare_meets_room (op:=.LtE) ⟨_,ho,rfl⟩ ⟨_,T,rfl⟩ PySem.F.slot_tuple_le PySem.F.entry_tuple_le (PySem.F.args_tuple_le_2 _ _) (dk Z (fy Z) a b g.toArray its'.toArray n n2 dd dd2 sl sl2 t u (by lia))
   ⟨ho,T,by simpa using ht,by simpa using hu',hun,show Value.bool (!Tr.lt u t)≠Value.notImplemented/\Q (.bool (!Tr.lt u t)) s from⟨(fun x=>nomatch x),h⟩⟩ (by lia)
end
end TH
namespace L2
open PySem PySem.Spec PyProof.Rows
section
variable{X:Cx}{a b:Expr}{fs:rj}{p p2 pos pos2:Pos}
def oD:R2:=fun x y H Q=>∃t u,Tv H t x/\Tv H u y/\t.deep<=60/\Q (.bl (!Tr.lt u t)) H
def gK(hu:X.A.units+64<cLine):DC X (compareOp .LtE) oD:=by
 intro pins s σ H x y v u' Q I U T h;obtain⟨t,u,h1,h2,hd,q⟩:=h;obtain⟨a,B,rfl,Y,k1⟩:=h1.at I U;obtain⟨b,g,rfl,p2,Z⟩:=h2.at I T;exact TH.fy (t.deep+1) t u X.A s a b B g (bN _) Y k1 p2 Z (by lia) X.prog X.w X.xe _ ⟨.bl _,H,I,rfl,q⟩
def fe:PD->PD->Option PD:=fun x y=>(Gh x).bind fun t=>(Gh y).bind fun u=>if t.deep<=60 then some (.bool (!Tr.lt u t)) else none
def gf(T:X.A.units+64<cLine):FD X (compareOp .LtE) fe:=by
 refine⟨_,gK T,fun x y z g G0 H0 G H σ δ ts u v Q R du Z k=>?_⟩;obtain⟨t,Y,g⟩:=aB.mp g;obtain⟨B,U,g⟩:=aB.mp g;split at g
 .rename_i hd;cases g;exact⟨t,B,(ZC Y du).same R.ins,(ZC U Z).same R.ins,hd,k _ _ _ (R.put (by rw[Du]))⟩
 .cases g
def bools:List PD->Option (List Bool)
 |[]=>some []
 |.bool b::g=>(bools g).map (b :: ·)
 |_=>none
def U9{G:Hp}:∀ {ds:List PD} {bs:List Bool} {vs:List V},bools ds=some bs->Av G ds vs->vs=bs.map V.bl
 |[],bs,vs,h,d=>by cases h;rw[Av]at d;exact d
 |d::ds,bs,vs,h,k=>by
  cases d with
  |bool b=>
   rw[bools]at h;obtain⟨r,T,rfl⟩:=aC.mp h;rw[Av]at k;obtain⟨x,ys,rfl,g,B⟩:=k;rw[Du]at g;subst g;rw[U9 T B];rfl
  |_=>simp[bools]at h
def Vi:MD
 |[.list g]=>(bools g).map fun bs=>.bool (bs.all id)
 |_=>none
def mW(T:X.calm=true):Lv X (.builtin "all") Vi:=by
 refine⟨_,cb T,fun xs z g G0 H0 G H σ δ ts us Q B d k=>?_⟩;unfold Vi at g;split at g
 .obtain⟨bs,Z,rfl⟩:=aC.mp g;obtain⟨u,rfl,du⟩:=d.Io;rw[Du]at du;obtain⟨p,ys,rfl,Y,U⟩:=du;have:=U9 Z U;subst this;exact⟨p,bs,rfl,Aw.of (B.ins _ _ Y),k _ _ _ (B.put (by rw[Du]))⟩
 .cases g
def MZ(G H H':Hp):Hp:=fun b=>if H b=none then H' b else G b
def b8{G H H':Hp}(g:AL G H)(e:AL H H'):AL G (MZ G H H')/\Nw G H (MZ G H H')/\AL (MZ G H H') H':=by
 refine⟨fun b o h=>?_,fun b o h=>?_,fun b o h=>?_⟩
 .unfold MZ;rw[if_neg (by rw[g _ _ h];simp)];exact h
 .unfold MZ at h;split at h
  .rename_i z;exact .inr (.inl z)
  .exact .inl h
 .unfold MZ at h;split at h
  .exact h
  .exact e _ _ (g _ _ h)
def Uj{G Y:Hp}(e:AL G Y):∀ {xs ys:List PD} {us vs:List V} {as:List AD},Av G xs us->Av G ys vs->ys.length=xs.length->as.length=xs.length->(∀(j:Nat) a x y,as[j]? = some a->us[j]? = some x->vs[j]? = some y->Y a=some (.tup [x,y]))->Av Y (IJ xs ys) (as.map V.ref)
 |[],ys,us,vs,as,U,T,B,g,h=>by
  have:as=[]:=bG (by simpa using g);subst this;unfold IJ;rw[List.zip_nil_left,List.map_nil,Av];rfl
 |x::xs,[],us,vs,as,U,T,B,g,h=>by simp at B
 |x::xs,y::ys,us,vs,[],U,T,B,g,h=>by simp at g
 |x::xs,y::ys,us,vs,a::as,U,T,B,g,h=>by
  rw[Av]at U T;obtain⟨u,us',rfl,k1,k2⟩:=U;obtain⟨v,vs',rfl,m1,m2⟩:=T;have ih:=Uj e k2 m2 (by simpa using B) (by simpa using g) fun j a' x' Z h1 h2 h3=>h (j+1) a' x' Z (by simpa using h1) (by simpa using h2) (by simpa using h3);show Av Y (.tuple [x,y]::IJ xs ys) (.ref a::as.map V.ref);rw[Av];refine⟨_,_,rfl,?_,ih⟩;rw[Du];refine⟨a,_,rfl,h 0 a u v rfl rfl rfl,?_⟩;rw[Av];refine⟨_,_,rfl,k1.same e,?_⟩;rw[Av];refine⟨_,_,rfl,m1.same e,?_⟩;rw[Av]
def Y0:MD
 |[x,y]=>(D7 x).bind fun xs=>(D7 y).bind fun ys=>if ys.length=xs.length/\xs.length<=1000 then some (.list (IJ xs ys)) else none
 |_=>none
def nV(hc:X.calm=true)(hgd:Gl X "list")(Y:X.mg "list" = none)(hg:Gl X "zip")(hm:X.mg "zip" = none)(ha:DA X [a,b] fs) (he:starEach [.Call (.Name "zip" p2) [a,b] [] pos2] X.env=(false,eval (.Call (.Name "zip" p2) [a,b] [] pos2) X.env)::starEach [] X.env:=by rfl)(U:(backTo pos (starEach [] X.env)).any (·.1)=false:=by rfl) (hs:starEach [a,b] X.env=[(false,eval a X.env),(false,eval b X.env)]:=by rfl)(T:starEach [b] X.env=[(false,eval b X.env)]:=by rfl):DE X (.Call (.Name "list" p) [.Call (.Name "zip" p2) [a,b] [] pos2] [] pos) (fun δ=>(fs δ).bind Y0):=by
 obtain⟨t,pt,k⟩:=ha;refine⟨_,ed hc hgd Y hg hm pt he U hs T,fun δ z hz G0 H0 G H σ ts Q R0 q=>?_⟩;obtain⟨x,h1,B⟩:=aB.mp hz;refine k δ _ h1 G0 H0 G H σ ts _ R0 fun vs G' H' R' hv=>?_;obtain⟨d,R2⟩:=R'.args hv;unfold Y0 at B;split at B
 .obtain⟨xs1,h3,h4⟩:=aB.mp B;obtain⟨ys1,h5,h6⟩:=aB.mp h4;split at h6
  .rename_i Z;cases h6;obtain⟨u,v,rfl,du,dv⟩:=d.Md;obtain⟨b1,a1,us,rfl,n1,g⟩:=G9 du h3;obtain⟨b2,a2,ws,rfl,m1,m2⟩:=G9 dv h5;have s1:=R2.ins _ _ n1;have s2:=R2.ins _ _ m1;refine⟨b1,b2,a1,a2,us,ws,rfl,by cases b1<;>simpa[CK]using s1,by cases b2<;>simpa[CK]using s2,by rw[g.len,m2.len];exact Z.1,by rw[g.len];exact Z.2,fun S H2 as e hS hS2 hal hp=>?_⟩;obtain⟨g1,g2,g3⟩:=b8 R2.ins e;refine q _ _ _ ((R2.lift g1 g2 g3 e).put ?_);rw[Du];refine⟨S,_,rfl,?_,Uj g1 g m2 Z.1 (by rw[hal,g.len]) fun j a' x' y' q1 q2 q3=>?_⟩
   .unfold MZ;rw[if_pos hS];exact hS2
   .obtain⟨z1,z2⟩:=hp j a' x' y' q1 q2 q3;unfold MZ;rw[if_pos z1];exact z2
  .cases h6
 .cases B
end
end L2
namespace L2
open PySem PySem.Spec PyProof.Rows
section
variable{X:Cx}
def oT:R2:=fun x y H Q=>∃(p:AD) (ys:List V) (row t:Tr),y=.ref p/\H p=some (.lst ys)/\Ts H row ys/\row.deep<=60/\Tv H t x/\Q (.bl (decide (t∈row.bs))) H
open Classical in
def gh(hu:X.A.units+64<cLine):DC X (compareOp .In) oT:=by
 intro pins s σ H x y v u Q I rx ry h;obtain⟨p,ys,row,t,rfl,hp,ht,hd,tv,q⟩:=h;obtain rfl:u=Value.ref p:=ry;obtain⟨g,r,pl,hz⟩:=I.list (Aw.of (K:=X.K) hp);obtain⟨b,js,rfl,hb,vb⟩:=cC I tv rx;have hl:=r.length;have htl:=ht.len;have at_:∀(i:Nat) (y:VL),g[i]? = some y->∃c a zs,row.bs[i]? = some c/\y=.ref a/\s.heap.IsTuple a zs.toArray/\TH.Vs s.heap c zs:=fun i y U=>by
  have hi:i<g.length:=(aD.mp U).1;have B:ys[i]? = some (ys[i]'(by lia)):=aJ _;obtain⟨w,T,h2⟩:=r.get B;rw[U]at T;cases T;obtain⟨c,hc,tc⟩:=ht.get B;obtain⟨a,zs,e,Z,Y⟩:=cC I tc h2;exact⟨c,a,zs,hc,e,Z,Y⟩
 have key:∀(i:Nat) (y:VL) (c:Tr),g[i]? = some y->row.bs[i]? = some c->decide (∃a zs,y=Value.ref a/\s.heap.IsTuple a zs.toArray/\TH.Vs s.heap t zs)=decide (c=t):=fun i y c U hc=>by
  obtain⟨c',a,zs,T,rfl,Z,Y⟩:=at_ i y U;rw[hc]at T;cases T;refine decide_eq_decide.mpr ⟨fun⟨a',zs',e,k1,k2⟩=>?_,fun e=>⟨a,zs,rfl,Z,e ▸ Y⟩⟩;cases e;have:zs=zs':=by simpa using TH.Im Z k1
  subst this;exact TH.Vs.inj Y k2
 refine SeqAt.in_listAt (fun y=>decide (∃a zs,y=Value.ref a/\s.heap.IsTuple a zs.toArray/\TH.Vs s.heap t zs)) pl.isList (fun y U=>?_) ⟨.bl _,H,I,rfl,?_⟩
 .obtain⟨i,hi,rfl⟩:=Array.getElem_of_mem U;have hi':i<g.length:=by simpa using hi
  have B:g[i]? = some (g.toArray[i]):=by simp[hi']
  obtain⟨c,a,zs,T,h2,Z,Y⟩:=at_ i _ B;have hcd:=Tr.M3 (aH T);show SeqAt.EqAt _ _ _ _ (decide _);rw[key i _ c B T,h2];exact TH.Qo Z Y hb vb (by first|lia|(rw[Around.in1_units];lia))
 .have e:g.toArray.any (fun y=>decide (∃a zs,y=Value.ref a/\s.heap.IsTuple a zs.toArray/\TH.Vs s.heap t zs))=decide (t∈row.bs):=by
   rw[show g.toArray.any (fun y=>decide (∃a zs,y=Value.ref a/\s.heap.IsTuple a zs.toArray/\TH.Vs s.heap t zs))=g.any (fun y=>decide (∃a zs,y=Value.ref a/\s.heap.IsTuple a zs.toArray/\TH.Vs s.heap t zs)) by simp];rw[Bool.eq_iff_iff,List.any_eq_true,decide_eq_true_eq];constructor
   .rintro⟨y,U,h⟩;obtain⟨i,hi⟩:=bV.mp U;obtain⟨c,_,_,T,_⟩:=at_ i y hi;rw[key i y c hi T]at h;rw[<-of_decide_eq_true h];exact aH T
   .intro hm;obtain⟨i,hi⟩:=bV.mp hm;have hil:i<g.length:=by have:=(aD.mp hi).1;lia
    refine⟨g[i],List.getElem_mem hil,?_⟩;rw[key i _ t (aJ hil) hi];simp
  rw[e];exact q
def YU:PD->PD->Option PD:=fun x y=>(Gh x).bind fun t=>match y with
 |.list g=>(E9 g).bind fun row=>if row.deep<=60 then some (.bool (decide (t∈row.bs))) else none
 |_=>none
def jb(T:X.A.units+64<cLine):FD X (compareOp .In) YU:=by
 refine⟨_,gh T,fun x y z g G0 H0 G H σ δ ts u v Q R du B k=>?_⟩;obtain⟨t,h1,g⟩:=aB.mp g;split at g
 .rename_i ds;obtain⟨row,h2,g⟩:=aB.mp g;split at g
  .rename_i hd;cases g;rw[Du]at B;obtain⟨p,ys,rfl,Z,Y⟩:=B;have U:=Mh h2;subst U;exact⟨p,ys,row,t,rfl,R.ins _ _ Z,(LW Y).same R.ins,hd,(ZC h1 du).same R.ins,k _ _ _ (R.put (by rw[Du]))⟩
  .cases g
 .cases g
end
end L2
namespace L2
open PySem PySem.Spec PyProof.Rows
def Yl:List PD->Option (List PD)
 |[x,y]=>(D7 x).bind fun xs=>(D7 y).bind fun ys=>if ys.length=xs.length/\xs.length<=1000 then some (IJ xs ys) else none
 |_=>none
def p5(G0 H0:Hp)(D:Ends)(x:PD):Prop:=∀v G H,AL G0 G->Nw G0 H0 G->AL G H->AL H0 H->Du G x v->(∃a u l z,v=.ref a/\G a=some (.tup [u,.ref l,z])/\H0 l=none)->D.rt v H
def DP(X:Cx)(st:sT)(F:rk):Prop:=∃t,LC X st t/\∀δ x,F δ=some x->∀G0 H0 G H σ D,Rw G0 H0 G H σ δ []->p5 G0 H0 D x->t D σ H
def OS(B:DF)(F2:rk)(δ:Dv):sE:=match B δ with
 |some (.nx g)=>F2 g
 |_=>none
def fP(f1:rk)(m:RW)(fs:rj)(f3:rk):rk:=fun δ=>(f1 δ).bind fun a=>((fs δ).bind m).bind fun xs=>(f3 δ).map fun c=>.tuple [a,.list xs,c]
def S6(ps N:sJ)(F:rk)(ds:rq):sE:=if ds.length=ps.length then F (HY N ds) else none
def XY(g:MD):Sp:=fun vs H Q _=>∃T x G,g T=some x/\Av G T vs/\AL G H/\∀v B H',AL G B->Nw G H B->AL B H'->AL H H'->Du B x v->(∃a u l z,v=.ref a/\B a=some (.tup [u,.ref l,z])/\H l=none)->Q v H'
def pA{P:Program}{w:World}{K:Fg}{mg:sD}{base:Heap}{CX:I0}{k:Nat}{f:AD}{fd:FuncData}{ps:sJ}{m:MD}(F:AK P w K mg base CX k f fd ps (XY m)):AK P w K mg base CX k f fd ps (A0 m) :=
 F.imp fun vs H Q E z=>by
  obtain⟨ds,x,G,h1,Z,Y,U⟩:=z;exact⟨ds,x,G,h1,Z,Y,fun v G' H' T B g m4 m5 _=>U v G' H' T B g m4 m5⟩
def q8{P:Program}{w:World}{K:Fg}{mg:sD}{base:Heap}{x:Str}{st:Stmt}{B:AD}{fd:FuncData}{N ps:sJ}{k:Nat}{F:rk}(T:Fn K mg x st ps B fd)(S:Af N ps (AO st)) (hb:∀(cdv:VL) (A:Around) (outer:sU) (s:SD) (H:Hp) (E:XK),EX k (A.deeper (envOfC x (AO st) s.heap.objs.size B cdv))->DP (MM AZ P w K mg base N x (AO st) B cdv A outer s H E).TB (EO st) F):AK P w K mg base AZ (k+1) B fd ps (XY (S6 ps N F)):=by
 refine T.F.ok S (fun vs H Q E h=>?_) fun cdv A outer s H vs Q E Z h=>?_
 .obtain⟨ds,y,G,g,U,_⟩:=h;unfold S6 at g;split at g
  .rename_i hl;rw[U.len];exact hl
  .cases g
 .obtain⟨ds,y,G,g,U,h3,h4⟩:=h;obtain⟨t,p,Y⟩:=hb cdv A outer s H E Z;refine⟨t,p,?_⟩;unfold S6 at g;split at g
  .exact Y _ _ g G H G H _ _ (Rw.start U h3) h4
  .cases g
def RD(y:PD):Bool:=match y with
 |.tuple [_,.list e,_]=>decide (e.length<1000)
 |_=>false
def PF(i:Nat)(m:MD)(fs:rj)(B g:rp):DF:=fun δ=>(fs δ).bind fun T=>if i<δ.length then(m T).bind fun y=>(B ((FV δ).set i (.d y))).bind fun c=>if c=true then none else(g ((FV δ).set i (.d y))).bind fun d=>if d=true then none else if RD y=true then some (.nx (δ.set i .no)) else none else none
def oA(X:Cx)(i:Nat)(st:Stmt):Prop:=∃t,PS X st t/\∀(σ:St) (H:Hp) (D:Ends) (a l:AD) (B g:V) (xs:List V),σ[i]? = some (some (.ref a))->H a=some (.tup [B,.ref l,g])->H l=some (.lst xs)->xs.length<sizeLine ->
 (∀H',(∀b o,b≠l->H b=some o->H' b=some o)->D.nx σ H')->t D σ H
section
variable{X:Cx}{a b e e1 e3 c c':Expr}{es:sL}{fs:rj}{fa fb:rp}{f1 f3:rk}{st s4:Stmt}{sts sts' rest:sT}{F1 F1' Fr:DF}{F2:rk}{pos pos1 pos2 pos3 p p2 pos' np:Pos}
def cu(hc:X.calm=true)(hgd:Gl X "list")(hmd:X.mg "list" = none)(hg:Gl X "zip")(hm:X.mg "zip" = none)(ha:DA X [a,b] fs) (he:starEach [.Call (.Name "zip" p2) [a,b] [] pos2] X.env=(false,eval (.Call (.Name "zip" p2) [a,b] [] pos2) X.env)::starEach [] X.env:=by rfl)(hpl:(backTo pos (starEach [] X.env)).any (·.1)=false:=by rfl) (hs:starEach [a,b] X.env=[(false,eval a X.env),(false,eval b X.env)]:=by rfl)(hs2:starEach [b] X.env=[(false,eval b X.env)]:=by rfl):DS X (.Return (some (.Call (.Name "list" p) [.Call (.Name "zip" p2) [a,b] [] pos2] [] pos)) pos3) (fun δ=>((fs δ).bind Yl).map .rn):=by
 obtain⟨t,pt,k⟩:=ha;refine⟨_,CB (ed hc hgd hmd hg hm pt he hpl hs hs2),fun δ r hz G0 H0 G H σ D R0 q=>?_⟩;obtain⟨zs,hy,rfl⟩:=aC.mp hz;obtain⟨x,h1,Z⟩:=aB.mp hy;refine k δ _ h1 G0 H0 G H σ [] _ R0 fun vs g H' R' hv=>?_;obtain⟨d,R2⟩:=R'.args hv;unfold Yl at Z;split at Z
 .obtain⟨xs1,h3,h4⟩:=aB.mp Z;obtain⟨ys1,h5,h6⟩:=aB.mp h4;split at h6
  .rename_i hl;cases h6;obtain⟨u,v,rfl,du,dv⟩:=d.Md;obtain⟨b1,a1,us,rfl,n1,U⟩:=G9 du h3;obtain⟨b2,a2,ws,rfl,m1,m2⟩:=G9 dv h5;have s1:=R2.ins _ _ n1;have s2:=R2.ins _ _ m1;refine⟨b1,b2,a1,a2,us,ws,rfl,by cases b1<;>simpa[CK]using s1,by cases b2<;>simpa[CK]using s2,by rw[U.len,m2.len];exact hl.1,by rw[U.len];exact hl.2,fun S T as e Y B hal hp=>?_⟩;obtain⟨g1,g2,g3⟩:=b8 R2.ins e;have R3:=R2.lift g1 g2 g3 e;have hGS:∀b o,g b=some o->b≠S:=fun b o h z=>by rw[z]at h;rw[R2.ins _ _ h]at Y;cases Y
   have un:∀b o,(if b=S then none else MZ g H' T b)=some o->MZ g H' T b=some o:=fun b o h=>by
    split at h
    .cases h
    .exact h
   have e1:AL g (fun b=>if b=S then none else MZ g H' T b):=fun b o h=>by
    show(if b=S then none else _)=_;rw[if_neg (hGS b o h)];exact g1 _ _ h
   refine q S _ _ T (R2.ext.trans e1) (fun b o h=>R3.new b o (un b o h)) (fun b o h=>R3.ins b o (un b o h)) R3.keep ?_ (if_pos rfl) B (Uj e1 U m2 hl.1 (by rw[hal,U.len]) fun j a' x' y' q1 q2 q3=>?_)
   .cases z:H0 S with
    |none=>rfl
    |some u=>rw[R2.keep _ _ z]at Y;cases Y
   .obtain⟨z1,z2⟩:=hp j a' x' y' q1 q2 q3;show(if a'=S then none else MZ g H' T a')=_;rw[if_neg (fun z=>by rw[z,B]at z2;cases z2)];unfold MZ;rw[if_pos z1];exact z2
  .cases h6
 .cases Z
def O8(h1:DS X st F1)(Z:DP X sts F2):DP X (st::sts) (OS F1 F2):=by
 obtain⟨t1,T,Y⟩:=h1;obtain⟨t2,p2,U⟩:=Z;refine⟨_,Ab T p2,fun δ r h G0 H0 G H σ D R k=>?_⟩;unfold OS at h;split at h
 .rename_i B e1;exact Y δ _ e1 G0 H0 G H σ _ R fun g G' H' R'=>U B r h G0 H0 G' H' g D R' k
 .cases h
def nA{k:Nat}{fA:AD}{fd:FuncData}{ps:sJ}{m:RW}{x:Str}{st:Stmt}{x1}(T:Fn X.K X.mg x st ps fA fd)(F:AK X.prog X.w X.K X.mg X.base AZ k fA fd ps (eu m))(hr:EX k X.A)(hg:Gl X x)(h1:DE X e1 f1)(ha:DA X (e::es) fs)(h3:DE X e3 f3) (hdb:(x==("__debug__" : Str))=false:=by decide)(he:starEach (e::es) X.env=(false,eval e X.env)::starEach es X.env:=by rfl)(hpl:(backTo pos (starEach es X.env)).any (·.1)=false:=by rfl) (hs1:starEach [e1,.Call (.Name x p) (e::es) [] pos,e3] X.env=(false,eval e1 X.env)::starEach [.Call (.Name x p) (e::es) [] pos,e3] X.env:=by rfl)(hs2:starEach [.Call (.Name x p) (e::es) [] pos,e3] X.env=(false,eval (.Call (.Name x p) (e::es) [] pos) X.env)::starEach [e3] X.env:=by rfl)(hs3:starEach [e3] X.env=(false,eval e3 X.env)::starEach [] X.env:=by rfl):DP X [.Return (some (.Tuple [e1,.Call (.Name x p) (e::es) [] pos,e3] x1 pos1)) pos2] (fP f1 m fs f3):=by
 obtain⟨t1,p1,k1⟩:=h1;obtain⟨ta,pa,ka⟩:=ha;obtain⟨t3,p3,k3⟩:=h3;refine⟨_,A2 (CB (N7 (AM p1 (AM (B6 T F hr hg pa hdb he hpl) (AM p3 Ah hs3) hs2) hs1))),fun δ r g G0 H0 G H σ D R q=>?_⟩;obtain⟨y1,z1,g⟩:=aB.mp g;obtain⟨xs,z2,g⟩:=aB.mp g;obtain⟨y3,z3,rfl⟩:=aC.mp g;obtain⟨ds,z4,z5⟩:=aB.mp z2;refine k1 δ _ z1 G0 H0 G H σ [] _ R fun Z G1 H1 R1=>?_;refine ka δ _ z4 G0 H0 G1 H1 σ _ _ R1 fun vs G2 H2 R2 hv=>?_;obtain⟨d,R3⟩:=R2.args hv;refine⟨ds,xs,G2,z5,by rw[List.append_nil];exact d,R3.ins,fun l ys G' H' m1 m2 m3 m4 m5 m6 m7 m8=>?_⟩;obtain⟨n1,n2,n3,n4⟩:=fh m1 m2 m3 m5 m6 m7 m8;refine k3 δ _ z3 G0 H0 _ H' σ _ _ ((R3.lift n1 n2 n3 m4).put n4) fun Y G4 H4 U=>?_;refine⟨by show 3<=sizeLine;decide,fun o ho=>?_⟩;have dd:Av G4 [y1,.list xs,y3] [Z,.ref l,Y]:=.cons (U.CN (y1,Z) (.tail _ (.tail _ (.head _)))) (.cons (U.CN (.list xs,.ref l) (.tail _ (.head _))) (.cons (U.CN (y3,Y) (.head _)) .nil));have B:=U.YA dd ho;refine q _ _ _ B.ext B.new B.ins B.keep (B.CN _ (.head _)) ⟨o,Z,l,Y,rfl,AW,?_⟩;cases z:H0 l with
 |none=>rfl
 |some u=>rw[R3.keep _ _ z]at m5;cases m5
def dD{k i:Nat}{fA:AD}{fd:FuncData}{ps:sJ}{m:MD}{x y:Str}{st:Stmt}(T:Fn X.K X.mg x st ps fA fd)(F:AK X.prog X.w X.K X.mg X.base AZ k fA fd ps (XY m))(hr:EX k X.A)(hg:Gl X x)(ha:DA X (e::es) fs) (hN:X.N.Nodup)(hi:X.N[i]? = some y)(hx:Loc X.env.scope y)(hc:DT X c fa)(h1:Kr X sts F1)(hc':DT X c' fb)(h1':Kr X sts' F1')(h4:oA X i s4)(Y:Kr X rest Fr) (hdb:(x==("__debug__" : Str))=false:=by decide)(he:starEach (e::es) X.env=(false,eval e X.env)::starEach es X.env:=by rfl)(hpl:(backTo pos (starEach es X.env)).any (·.1)=false:=by rfl) (hs:swapsWith (.Call (.Name x p) (e::es) [] pos) (some (.Name y np)) pos'.line X.env=pure false:=by rfl)(hf:X.fn y=true\/X.env.scope.names.lookup y=some .local:=by first|exact .inl rfl|exact .inr rfl|assumption):Kr X (.Assign [.Name y np] (.Call (.Name x p) (e::es) [] pos) pos' :: .If c sts [] pos2 :: .If c' sts' [] pos3::s4::rest) (Al (PF i m fs fa fb) Fr):=by
 obtain⟨ta,pa,ka⟩:=ha;obtain⟨tc,pc,kc⟩:=hc;obtain⟨t1,q1,_⟩:=h1;obtain⟨tc',pc',kc'⟩:=hc';obtain⟨t1',q1',_⟩:=h1';obtain⟨t4,p4,k4⟩:=h4;obtain⟨tr,pr,kr⟩:=Y;refine⟨_,Ab (BB hN hi hx (B6 T F hr hg pa hdb he hpl) hs hf) (Ab (Gq pc q1 EL) (Ab (Gq pc' q1' EL) (Ab p4 pr))),fun δ r hz G0 H0 G H σ D R q=>?_⟩;have mid:∀o,PF i m fs fa fb δ=some o->∃B g,fs δ=some B/\i<δ.length/\m B=some g/\fa ((FV δ).set i (.d g))=some false/\fb ((FV δ).set i (.d g))=some false/\RD g=true/\o=.nx (δ.set i .no):=fun o hm=>by
  obtain⟨B,g1,hm⟩:=aB.mp hm;split at hm
  .rename_i g2;obtain⟨g,g3,hm⟩:=aB.mp hm;obtain⟨b,g4,hm⟩:=aB.mp hm;split at hm
   .cases hm
   .rename_i g5;obtain⟨b',g6,hm⟩:=aB.mp hm;split at hm
    .cases hm
    .rename_i g7;split at hm
     .rename_i g8;cases hm;cases b with
      |true=>exact absurd rfl g5
      |false=>
       cases b' with
       |true=>exact absurd rfl g7
       |false=>exact⟨B,g,g1,g2,g3,g4,g6,g8,rfl⟩
     .cases hm
  .cases hm
 obtain⟨B,g,e1,e2,e3,e4,e5,e6,e7⟩:∃B g,fs δ=some B/\i<δ.length/\m B=some g/\fa ((FV δ).set i (.d g))=some false/\fb ((FV δ).set i (.d g))=some false/\RD g=true/\Fr (δ.set i .no)=some r:=by
  unfold Al at hz;cases hq:PF i m fs fa fb δ with
  |none=>rw[hq]at hz;cases hz
  |some o=>
   obtain⟨B,g,g1,g2,g3,g4,g5,g6,rfl⟩:=mid o hq;rw[hq]at hz;exact⟨B,g,g1,g2,g3,g4,g5,g6,hz⟩
 refine ka δ B e1 G0 H0 G H σ [] _ R fun vs G1 H1 R1 hv=>?_;obtain⟨d,R2⟩:=R1.args hv;refine⟨B,g,G1,e3,by rw[List.append_nil];exact d,R2.ins,fun v G' Z j1 j2 j3 j4 j5 ⟨a,u,l,z,hva,ga,nl⟩=>?_⟩;have R3:=((R2.on j4).FV.put (j5.same j3)).IB (i:=i);refine kc _ _ e4 Z Z Z Z _ [] _ R3 fun G3 H3 R4=>?_;rw[if_neg (by decide)];show tc' _ _ _;refine kc' _ _ e5 Z Z G3 H3 _ [] _ R4 fun G4 H4 R5=>?_;rw[if_neg (by decide)];have U:AL Z H4:=R5.keep;subst hva;have hv5:(σ.set i (some (.ref a)))[i]? = some (some (.ref a)):=by
  have:i<σ.length:=by
   have h1:=R2.len
   lia
  rw[List.getElem?_set_self this]
 unfold RD at e6;split at e6
 case h_2=>cases e6
 rename_i y1 e0 y3;have hl:=ak e6;rw[Du]at j5;obtain⟨a',xs,hh,ga',j5⟩:=j5;cases hh;rw[ga]at ga';cases ga';rw[Av]at j5;obtain⟨w1,ws,hw,j6,j7⟩:=j5;cases hw;rw[Av]at j7;obtain⟨w2,ws',hw,j7,j8⟩:=j7;cases hw;rw[Du]at j7;obtain⟨l',us,hh,gl,jl⟩:=j7;cases hh;refine k4 _ H4 _ a l u z us hv5 (U _ _ (j3 _ _ ga)) (U _ _ (j3 _ _ gl)) (by rw[jl.len,sizeLine_eq];lia) fun H5 b5=>?_;have s15:AL H1 H5:=fun b o h=>b5 _ _ (fun z=>by rw[z,nl]at h;cases h) (U _ _ (j4 _ _ h));exact kr _ _ e7 G0 H0 G1 H5 _ D ((R2.on s15).nU i (some (.ref a))) q
def SO(neg:Bool):PD->PD->Option PD
 |.bool b,.bool c=>some (.bool (if neg then !(b==c) else b==c))
 |_,_=>none
def jF:FD X (compareOp .Is) (SO false):=by
 refine⟨_,mX,fun x y z g G0 H0 G H σ δ ts u v Q T du B k=>?_⟩;unfold SO at g;split at g
 .cases g;rw[Du]at du B;exact⟨_,_,du,B,k _ _ _ (T.put (by rw[Du];rfl))⟩
 .cases g
def ZH:FD X (compareOp .IsNot) (SO true):=by
 refine⟨_,jC,fun x y z g G0 H0 G H σ δ ts u v Q T du B k=>?_⟩;unfold SO at g;split at g
 .cases g;rw[Du]at du B;exact⟨_,_,du,B,k _ _ _ (T.put (by rw[Du];rfl))⟩
 .cases g
end
end L2
namespace Opn
open PySem PySem.W PyProof.Rows PySem.Calls
noncomputable def q0:Pos:=⟨0,0,0,0⟩
noncomputable def pV:Obj:={ cls:=.type "tuple",data:=.seq #[]}
noncomputable def pI:Obj:={ cls:=.none,data:=.fields #[]}
noncomputable def pE:Obj:={ cls:=.type "code",data:=.fields #[.str (Str.ofString "<module>") 182,.str (Str.ofString "<module>") 183,.str (Str.ofString "/claim/cut.py") 184,.int 1 0,.int 0 0,.int 0 0,.int 0 0,.int 0 0,.ref 11,.bool false,.int 181 0,.ref 12,.none,.none,.none,.none,.int 185 0,.int 1 0,.str (Str.ofString "/claim/cut.py") 186]}
noncomputable def pR:Obj:={ cls:=.type "frame",slots:=#[some (.ref 13),some (.ref 3),some (.ref 3),none,some (.str (Str.ofString "__main__") 164),none,some (.ref 0)]}
noncomputable def nq(P:Params):List Obj:=(boot_heap P).objs.toList++[pV,pI,pE,pR]
noncomputable def nN(P:Params)(o:Params->Obj)(l r:BT):BT:=.node (o P) l r
noncomputable def lN(P:Params)(o:Params->Obj):BT:=.node (o P) .nil .nil
noncomputable def nh(P:Params):BT :=
 nN P boot_o_0 (nN P boot_o_1 (nN P boot_o_3 (lN P boot_o_7) (.node pV .nil .nil)) (nN P boot_o_5 (lN P boot_o_9) (.node pE .nil .nil)))
  (nN P boot_o_2 (nN P boot_o_4 (lN P boot_o_8) (.node pI .nil .nil)) (nN P boot_o_6 (lN P boot_o_10) (.node pR .nil .nil)))
noncomputable def fm:Life:=Life.mk [] [] [] 0 [] [] false #[] [] 0 false false false 0 [2000,10,10] false 0 true [] [] 0 false
noncomputable def sA(w:World)(os:OsState):SD:=⟨⟨⟨nq w.params⟩,fm⟩,#[],boot_drawn,187,os⟩
noncomputable def sB(w:World)(os:OsState):SharedT:=⟨nh w.params,15,fm,#[],boot_drawn,187,os⟩
noncomputable def Qi(p:Program):Env:={ scope:=p.main.scope,locals:=mainNs,globals:=mainNs,cells:=[],code:=.ref 13,frame:=some 14}
noncomputable def cB(p:Program):Code:=.body (behindTheImports p) (Qi p)
noncomputable abbrev J1:Option VL:=some (.ref 6)
noncomputable abbrev bB:List Frame:=[topFrame q0]
noncomputable def YB(p:Program)(M:Nat)(w:World)(os:OsState):Option (Flow×SharedT×Code×Pos) :=
 PySem.W.Fast.tw10110043849684766642 PySem.W.Fast.tw14364793385576792824 p w 11 J1 1 M (sB w os) (piecesOf (behindTheImports p) (Qi p) (cB p) q0 bB)
noncomputable def YK(p:Program)(M:Nat)(w:World)(os:OsState):SharedT:=match YB p M w os with|some (_,s,_)=>s|none=>sB w os
def gu{p:Program}{M:Nat}{w:World}{os:OsState}{r:Option (Flow×SharedT×Code×Pos)}(h:YB p M w os=r):segRunT treeTable p w 11 J1 1 M (sB w os) (piecesOf (behindTheImports p) (Qi p) (cB p) q0 bB)=r:=by
 have e:segRunT treeTable=PySem.W.Fast.tw10110043849684766642 PySem.W.Fast.tw14364793385576792824:=congr PySem.W.Fast.te10110043849684766642 PySem.W.Fast.te14364793385576792824;rw[e];exact h
def kW{p:Program}{M T:Nat}{g:Pos}{w:World}{os:OsState} (pre:topGo treeTable p w 11 J1 12 ⟨boot_heap w.params,#[],boot_drawn,boot_toks,os⟩ (topStub p)=some (sA w os,⟨denote treeTable (cB p),cB p,q0,bB⟩)) (B:segRun treeTable p w 11 J1 1 1 (sA w os) (blockOf (behindTheImports p) (Qi p) (cB p) q0 bB)=some (.next,(sB w os).abs,cB p,q0)) (seg:YB p M w os=some (.next,YK p M w os,cB p,g)) (fin:∀s,topRun treeTable p w 11 J1 2 s (restOf [] (Qi p) (cB p) g bB)=some s)(U:T=12+(1+(M+2))):topRun treeTable p w 11 J1 T ⟨boot_heap w.params,#[],boot_drawn,boot_toks,os⟩ (topStub p)=some (YK p M w os).abs:=by
 subst U;refine go_top pre (piece_block B ?_);have h:=piece_app (rest:=[]) (segRun_of (gu seg)) (fin _);rw[List.append_nil]at h;exact h
def gI{p q:Program}{loose:sJ}{Xt:SD->Bool}{α:Type}{Yf:SD->α}{Ya:World->α}{N M:Nat}{S:World->OsState->SD} (g:∀w:World,(fencedOpening treeTable p w N).map (fun s=>(s.heap,s.gens,s.drawn,s.toks))=some (boot_heap w.params,#[],boot_drawn,boot_toks)) (size:∀w:World,((boot_heap w.params).isNs mainGlobals&&(#[]:Array GenState).size==0,(boot_heap w.params).objs.size,(boot_heap w.params).nsMap mainGlobals "__annotations__")=(true,11,J1)) (run:∀w os,topRun treeTable p w 11 J1 M ⟨boot_heap w.params,#[],boot_drawn,boot_toks,os⟩ (topStub p)=some (S w os))(le:Nat.ble M N=true) (ok:∀w os,(staticsOk (importedModules p.main.body) (boot_heap w.params) (S w os).heap&&namesBound p (S w os).heap&&gensDone (S w os)&&laidKept (boot_heap w.params) (S w os).heap)=true) (seen:∀w os,openSeen q loose (importedModules p.main.body) Xt true (S w os)=openGood q loose) (Z:∀w os,Yf (S w os)=Ya w):LeftO p q loose Xt Yf Ya N:=fun w=>by
 obtain⟨⟨h,gs,d,k,os⟩,e,e'⟩:=aC.mp (g w);obtain⟨rfl,rfl,rfl,rfl⟩:h=boot_heap w.params/\gs=#[]/\d=boot_drawn/\k=boot_toks:=by simpa using e'
 obtain⟨U,T,B⟩:_/\_/\_:=by simpa only[Prod.mk.injEq]using size w
 have Y:=ok w os;have r:=topRun_mono (N-M) _ _ _ _ (run w os);rw[show M+(N-M)=N by have:=Nat.le_of_ble_eq_true le;lia]at r;have t:topFrom treeTable p w N ⟨boot_heap w.params,#[],boot_drawn,boot_toks,os⟩=some (S w os):=by
  unfold topFrom;dsimp only;rw[U,T,B,r];show(match staticsOk (importedModules p.main.body) (boot_heap w.params) (S w os).heap&&namesBound p (S w os).heap&&gensDone (S w os)&&laidKept (boot_heap w.params) (S w os).heap with|true=>_|false=>_)=_;rw[Y]
 unfold openEnds;rw[e];show(topFrom treeTable p w N _).map _=_;rw[t];exact bL some (Prod.ext (seen w os) (Z w os))
def o8(w:World):((boot_heap w.params).isNs mainGlobals&&(#[]:Array GenState).size==0,(boot_heap w.params).objs.size,(boot_heap w.params).nsMap mainGlobals "__annotations__")=(true,11,J1):=by kernel_rfl
end Opn
namespace Q54
open PySem L2
def top(i:Nat):Stmt:=PySem.Challenge.pw_stepgrove_k54_papers_of_tables.main.body.getD i (.Pass ⟨0,0,0,0⟩)
abbrev GY:Stmt:=top 6
abbrev LK:Stmt:=top 7
abbrev Hx:Stmt:=top 8
abbrev Gn:Stmt:=top 9
abbrev KU:Stmt:=top 10
abbrev C6:Stmt:=top 11
abbrev FT:Stmt:=top 12
abbrev K3:Stmt:=top 13
abbrev NT:Stmt:=top 14
abbrev NO:Stmt:=top 17
abbrev Fm:Stmt:=top 18
abbrev NS:Stmt:=top 19
abbrev Ia:Stmt:=top 22
abbrev Ka:Stmt:=top 23
abbrev G7:Stmt:=top 24
abbrev Es:Stmt:=top 25
abbrev Et:Stmt:=top 26
abbrev II:Stmt:=top 27
abbrev HA:Stmt:=top 28
abbrev L9:Stmt:=top 30
abbrev JS:Stmt:=top 31
abbrev JP:Stmt:=top 33
abbrev FR:Stmt:=top 34
abbrev M8:Stmt:=top 35
abbrev OV:Stmt:=top 36
abbrev GR:Stmt:=top 39
abbrev JU:Stmt:=top 40
abbrev Hr:Stmt:=top 43
abbrev Hv:Stmt:=top 44
abbrev E8:Stmt:=top 45
abbrev Kb:Stmt:=top 46
abbrev IK:Stmt:=top 47
abbrev K9:Stmt:=top 48
abbrev Lc:Stmt:=top 49
abbrev Gp:Stmt:=top 50
abbrev Jb:Stmt:=top 52
abbrev ME:Stmt:=top 53
abbrev J4:Stmt:=top 54
abbrev Hj:Stmt:=top 55
abbrev Jf:Stmt:=top 56
abbrev Lo:Stmt:=top 57
abbrev JZ:Stmt:=top 58
abbrev K6:Stmt:=top 59
abbrev LA:Stmt:=top 60
abbrev J0:Stmt:=top 61
abbrev LF:Stmt:=top 62
abbrev LS:Stmt:=top 63
abbrev JR:Stmt:=top 64
abbrev MF:Stmt:=top 65
abbrev J2:Stmt:=top 66
abbrev L8:Stmt:=top 67
abbrev Jg:Stmt:=top 68
abbrev KS:Stmt:=top 69
abbrev RC:Stmt:=top 70
def mulC{i j:Int}(B:-18446744073709551616<j)(g:j<18446744073709551616):Qn i j\/NX i j:=.inl (.inr ⟨B,g⟩)
def mulL{i j:Int}(B:-18446744073709551616<i)(g:i<18446744073709551616):Qn i j\/NX i j:=.inl (.inl ⟨B,g⟩)
def Qm:Sp:=fun vs H Q _=>∃a b,vs=[.int a,.int b]/\Q (.int (FM.gi a b)) H
def QV:Sp:=fun vs H Q _=>∃t b m,vs=[.int t,.int b]/\b≠0/\m<=9000/\b.natAbs<2^m/\∀l H',AL H H'->H' l=some (.tup (Hz (Rat.divInt t b)))->Q (.ref l) H'
def ky(K:Fg)(op:Rat->Rat->Rat)(ok:Rat->Prop):Sp:=fun vs H Q _=>∃v w p q n,vs=[v,w]/\Rt K H p v/\Rt K H q w/\FM.Fits p n/\FM.Fits q n/\n<=4000/\ok q /\
 ∀l H',AL H H'->H' l=some (.tup (Hz (op p q)))->Q (.ref l) H'
section
variable{P:Program}{w:World}{K:Fg}{mg:sD}{base:Heap}{f g:AD}{fd gd:FuncData}
def N3:Af ["one","other","greater","lesser","rest"] ["one","other"] (AO C6):=B9
def rV(σ:St):Nat:=match σ[3]? with|some (some (V.int l))=>l.natAbs|_=>0
def N1(F:Fn K mg "greatest_divisor" C6 ["one","other"] f fd)(Y:mg "abs" = none):AK P w K mg base AZ 1 f fd ["one","other"] Qm:=by
 have sc:=N3;refine F.F.ok (k:=0) sc (fun vs H Q E h=>?_) (fun cdv A outer s H vs Q E hr h=>?_)
 .obtain⟨a,b,rfl,_⟩:=h
  rfl
 obtain⟨a,b,rfl,q⟩:=h;refine⟨_,(Ab (BB (i:=2) sc.nd rfl (Or.inl rfl) (Ds QK rfl Y PyProof.Rows.boot_abs (AM (pv 0) Ah)))
 (Ab (BB (i:=3) sc.nd rfl (Or.inl rfl) (Ds QK rfl Y PyProof.Rows.boot_abs (AM (pv 1) Ah)))
 (Ab (M7 aL (Dd fR (pv 3) Aa (Ak _))
  (Ab (BB (i:=4) sc.nd rfl (Or.inl rfl) (Ar Kf (pv 2) (pv 3)))
  (Ab (BB (i:=2) sc.nd rfl (Or.inl rfl) (pv 3))
  (A2 (BB (i:=3) sc.nd rfl (Or.inl rfl) (pv 4))))))
 (A2 (CB (pv 2)))))),?_⟩
 refine⟨_,rfl,_,rfl,_,rfl,_,rfl,?_⟩;refine QO (fun σ H'=>∃g l r,σ=[some (.int a),some (.int b),some (.int g),some (.int l),r]/\H=H'/\Int.gcd g l=Int.gcd a b/\0<=g/\0<=l) (fun σ _=>rV σ) ?_ ?_ ?_
 .exact⟨_,_,_,rfl,rfl,FM.i6 a b,FM.abs_nonneg a,FM.abs_nonneg b⟩
 .rintro σ H' ⟨g,l,r,rfl,rfl,T,h0,U⟩;refine⟨_,rfl,rfl,_,rfl,Ij (fun c=>?_) (fun c=>?_)⟩
  .have B:l≠0:=fun z=>by subst z;simp at c
   refine⟨_,rfl,_,rfl,_,_,rfl,rfl,B,_,rfl,_,rfl,⟨_,_,_,rfl,rfl,?_,U,FM.fmod_nonneg B U⟩,?_⟩
   .rw[FM.Vb];exact T
   .exact FM.Ta g l B
  .have B:l=0:=by simpa using c
   subst B;refine⟨_,rfl,?_⟩;rw[FM.nH T h0];exact q
 .exact fun σ H Q Q' Z ⟨v,e,s,k,e2,q⟩=>⟨v,e,s,k,e2,Z _ _ q⟩
def SS:Af ["top","bottom","shared"] ["top","bottom"] (AO GY):=B9
def Sz(F:Fn K mg "fraction_of" GY ["top","bottom"] f fd)(BI:Fn K mg "greatest_divisor" C6 ["one","other"] g gd) (Bx:AK P w K mg base AZ 1 g gd ["one","other"] Qm):AK P w K mg base AZ 2 f fd ["top","bottom"] QV:=by
 have sc:=SS;refine F.F.ok (k:=1) sc (fun vs H Q E h=>?_) (fun cdv A outer s H vs Q E hr h=>?_)
 .obtain⟨t,b,m,rfl,_⟩:=h
  rfl
 obtain⟨t,b,m,rfl,T,hm,Z,q⟩:=h;refine⟨_,(Ab (Gq (Dd Qp (pv 1) Aa (Ak _))
  (A2 Vw)
  EL)
 (Ab (BB (i:=2) sc.nd rfl (Or.inl rfl) (B6 BI Bx hr rfl (AM (pv 0) (AM (pv 1) Ah))))
 (Ab (Gq (Dd UY (pv 1) Aa (Ak _))
  (A2 (BB (i:=2) sc.nd rfl (Or.inl rfl) (Y4 VZ (pv 2))))
  EL)
 (A2 (CB (N7 (AM (Ar GI (pv 0) (pv 2)) (AM (Ar GI (pv 1) (pv 2)) Ah)))))))),?_⟩
 refine⟨_,rfl,rfl,_,rfl,Ij (fun c=>absurd c (by simpa using T)) (fun _=>?_)⟩;refine⟨_,rfl,_,rfl,t,b,rfl,?_⟩
 try dsimp only[D6]
 refine JX (fun B H'=>B=[some (.int t),some (.int b),some (.int (FM.gs t b))]/\H=H') (fun nx hn=>?_) ?_
 .refine⟨_,rfl,_,_,rfl,rfl,_,rfl,Ij (fun c=>?_) (fun c=>?_)⟩
  .have U:b<0:=ak c;refine⟨_,rfl,_,rfl,hn _ _ ⟨?_,rfl⟩⟩;unfold FM.gs;rw[if_pos U]
   rfl
  .have U:¬b<0:=bg (Bool.eq_false_iff.mpr c);refine hn _ _ ⟨?_,rfl⟩;unfold FM.gs;rw[if_neg U]
   rfl
 .rintro B H' ⟨rfl,rfl⟩;have h0:FM.gs t b≠0:=FM.ff T;have Y:(FM.gs t b).natAbs<2^m:=aP (FM.fj T) Z;refine⟨_,rfl,_,rfl,_,_,rfl,rfl,⟨h0,m,hm,Y⟩,_,rfl,_,rfl,_,_,rfl,rfl,⟨h0,m,hm,Y⟩,Xm,fun p hp=>?_⟩;refine q p _ (An hp _) ?_;rw[AW];show some (HO.tup [V.int (t.fdiv (FM.gs t b)),V.int (b.fdiv (FM.gs t b))])=_;rw[FM.Vf T,FM.Uv T]
  rfl
def T8:Af ["one","other"] ["one","other"] (AO LK):=B9
def UD(F:Fn K mg "frac_times" LK ["one","other"] f fd)(Cm:Fn K mg "fraction_of" GY ["top","bottom"] g gd) (GN:AK P w K mg base AZ 2 g gd ["top","bottom"] QV):AK P w K mg base AZ 3 f fd ["one","other"] (ky K (fun p q=>p*q) (fun _=>True)):=by
 have sc:=T8;refine F.F.ok (k:=2) sc (fun vs H Q E h=>?_) (fun cdv A outer s H vs Q E Z h=>?_)
 .obtain⟨v,w,p,q,n,rfl,_⟩:=h
  rfl
 obtain⟨v,w,p,q,n,rfl,⟨a,rfl,sp⟩,⟨b,rfl,U⟩,T,B,hn,BA,k⟩:=h;refine⟨_,(A2 (CB (B6 Cm GN Z rfl (AM (Ar C9 (Cv Ff (pv 0) Aa (fun _ _=>rfl)) (Cv Ff (pv 1) Aa (fun _ _=>rfl))) (AM (Ar C9 (Cv Ff (pv 0) Aa (fun _ _=>rfl)) (Cv Ff (pv 1) Aa (fun _ _=>rfl))) Ah))))),?_⟩;refine⟨_,rfl,_,_,_,_,rfl,rfl,sp,rfl,_,rfl,_,_,_,_,rfl,rfl,U,rfl,_,_,rfl,rfl,OE T.1 B.1 (by lia),_,rfl,_,_,_,_,rfl,rfl,sp,rfl,_,rfl,_,_,_,_,rfl,rfl,U,rfl,_,_,rfl,rfl,OE T.d B.d (by lia),_,_,n+n,rfl,FM.O6 p q,by lia,FM.dd T B,fun l H' e1 Y=>?_⟩;exact k l H' e1 (by rw[FM.Qg p q]at Y;exact Y)
end
def fK:Sp:=fun vs H Q _=>∃(a:AD) (bs:List Int) (k:Nat),vs=[.ref a]/\H a=some (.lst (bs.map V.int))/\(∀b∈bs,1<=b/\b.natAbs<2^k)/\k*bs.length<=4000 /\
 ∀c:Int,1<=c->c.natAbs<2^(k*bs.length+1)->(∀b∈bs,b ∣ c)->Q (.int c) H
def Qa{c b:Int}(Y:1<=c)(Z:1<=b):1<=c.fdiv (FM.gi c b)*b/\c ∣ c.fdiv (FM.gi c b)*b/\b ∣ c.fdiv (FM.gi c b)*b/\(c.fdiv (FM.gi c b)).natAbs<=c.natAbs:=by
 have U:0<FM.gi c b:=FM.MP (by lia);obtain⟨q,T⟩:=FM.P7 c b;obtain⟨r,g⟩:=FM.Ob c b;have e:=FM.HF (Int.ne_of_gt U) T;refine⟨?_,?_,Int.dvd_mul_left _ _,FM.Fd _ _⟩
 .rw[e];have B:0<q:=by
   rcases Int.lt_or_le 0 q with h|h
   .exact h
   .have:=Int.mul_nonpos_of_nonneg_of_nonpos (Int.le_of_lt U) h
    lia
  exact Int.mul_pos B (by lia)
 .rw[e];refine⟨r,?_⟩;rw[g]
  conv=>rhs;rw[T]
  rw[<-g,Int.mul_comm (FM.gi c b) q,Int.mul_assoc,Int.mul_comm (FM.gi c b) r]
  conv=>lhs;rw[g]
  rw[Int.mul_comm (FM.gi c b) r]
def fV:Sp:=fun vs H Q _=>∃(a:AD) (xs:List V) (ps:List (Int×Int)) (k:Nat),vs=[.ref a]/\H a=some (.lst xs)/\xs.length=ps.length/\ps.length<=1000/\(∀(j:Nat) x p,xs[j]? = some x->ps[j]? = some p->∃c,x=.ref c/\H c=some (.tup [.int p.1,.int p.2])) /\
 (∀p∈ps,1<=p.2/\p.1.natAbs<2^k/\p.2.natAbs<2^k)/\k*ps.length<=4000/\∀l H',AL H H'->H' l=some (.tup (Hz (ps.map fun p=>Rat.divInt p.1 p.2).sum))->Q (.ref l) H'
def div_add(x y:Int){c:Int}(g:c≠0):Rat.divInt (x+y) c=Rat.divInt x c+Rat.divInt y c:=by
 rw[Rat.divInt_add_divInt _ _ g g,<-Int.add_mul,Rat.divInt_mul_right g]
def div_one{t b c:Int}(B:b≠0)(g:c≠0)(h:b ∣ c):Rat.divInt (t*c.fdiv b) c=Rat.divInt t b:=by
 obtain⟨q,rfl⟩:=h;rw[FM.HF B rfl,Rat.divInt_mul_right (fun z=>g (by rw[z,Int.mul_zero]))]
def X0{c:Int}(g:c≠0):∀ {ps:List (Int×Int)},(∀p∈ps,p.2≠0/\p.2 ∣ c)->Rat.divInt (ps.map fun p=>p.1*c.fdiv p.2).sum c=(ps.map fun p=>Rat.divInt p.1 p.2).sum
 |[],_=>by simp
 |p::ps,h=>by
  obtain⟨U,T⟩:=h p aZ;rw[List.map_cons,List.sum_cons,List.map_cons,List.sum_cons,div_add _ _ g,div_one U g T,X0 g fun q B=>h q (aU _ B)]
def fW:Sp:=fun vs H Q _=>∃(b:Int) (p k:Nat),vs=[.int b,.int p]/\b.natAbs<2^k/\k*p<=4000/\Q (.int (b^p)) H
def RJ{b:Int}{k e p:Nat}(T:b.natAbs<2^k)(B:e<=p):(b^e).natAbs<2^(k*p+1):=by
 rw[Int.natAbs_pow];have g:b.natAbs^e<=(2^k)^e:=Nat.pow_le_pow_left (ay T) e;rw[<-Nat.pow_mul]at g;exact aP g (Nat.pow_lt_pow_right (by decide) (Nat.lt_succ_of_le (aq k B)))
def rM(σ:St):Nat:=match σ[4]? with|some (some (V.int l))=>l.natAbs|_=>0
section
variable{P:Program}{w:World}{K:Fg}{mg:sD}{base:Heap}{f g g1 g2:AD}{fd gd gd1 gd2:FuncData}
def K4:Af ["bottoms","common","bottom"] ["bottoms"] (AO FT):=B9
def QL(F:Fn K mg "common_bottom" FT ["bottoms"] f fd)(BI:Fn K mg "greatest_divisor" C6 ["one","other"] g gd) (Bx:AK P w K mg base AZ 1 g gd ["one","other"] Qm):AK P w K mg base AZ 2 f fd ["bottoms"] fK:=by
 have sc:=K4;refine F.F.ok (k:=1) sc (fun vs H Q E h=>?_) (fun cdv A outer s H vs Q E hr h=>?_)
 .obtain⟨a,bs,k,rfl,_⟩:=h
  rfl
 obtain⟨a,bs,k,rfl,ha,hb,hk,q⟩:=h;refine⟨_,(Ab (BB (i:=1) sc.nd rfl (Or.inl rfl) Aa)
 (Ab (Jm aL rfl (FH (pv 0)) (Ax (i:=2) sc.nd rfl (Or.inl rfl))
  (A2 (BB (i:=1) sc.nd rfl (Or.inl rfl) (Ar C9 (Ar GI (pv 1) (B6 BI Bx hr rfl (AM (pv 1) (AM (pv 2) Ah)))) (pv 2)))))
 (A2 (CB (pv 1))))),?_⟩
 refine⟨_,rfl,a,rfl,⟨_,Aw.of ha⟩,NC (xs:=bs.map V.int) (fun i σ H'=>∃(c:Int) (r:Option V),σ=[some (.ref a),some (.int c),r]/\H=H'/\1<=c/\c.natAbs<2^(k*i+1)/\∀j b,j<i->bs[j]? = some b->b ∣ c) ?_ ?_ ?_ ?_⟩
 .exact⟨1,_,rfl,rfl,by decide,by simp,fun j b h=>absurd h (ae _)⟩
 .rintro i σ H' _ ⟨c,r,rfl,rfl,_⟩;exact Aw.of ha
 .rintro i x σ H' Y ⟨c,r,rfl,rfl,c1,U,T⟩;have hi:i<bs.length:=by have:=(aD.mp Y).1;simpa using this
  rw[List.getElem?_map,List.getElem?_eq_getElem hi]at Y;cases Y;obtain⟨b1,b2⟩:=hb _ (List.getElem_mem hi);obtain⟨s1,s2,s3,s4⟩:=Qa c1 b1;have hg:FM.gi c bs[i]≠0:=Int.ne_of_gt (FM.MP (by lia));have hki:k*i+k<=4000:=by
   have:k*(i+1)<=k*bs.length:=aq k hi;rw[Nat.mul_succ]at this
   lia
  have n1:(c.fdiv (FM.gi c bs[i])).natAbs<2^(k*i+1):=aP s4 U;refine⟨_,rfl,_,rfl,_,rfl,c,bs[i],rfl,_,_,rfl,rfl,⟨hg,k,by have:k*1<=k*bs.length:=aq k (by lia);lia,Nat.lt_of_le_of_lt (FM.Yq (by lia)) b2⟩,_,rfl,_,_,rfl,rfl,OE n1 b2 (by lia),_,_,rfl,rfl,s1,?_,fun j b Z B=>?_⟩
  .have:=FM.Rz n1 b2;rw[Nat.mul_succ,show k*i+k+1=k*i+1+k by lia];exact this
  .by_cases z:j=i
   .subst z;rw[List.getElem?_eq_getElem hi]at B;cases B;exact s3
   .exact Int.dvd_trans (T j b (by lia) B) s2
 .rintro σ H' ⟨c,r,rfl,rfl,c1,U,T⟩;rw[List.length_map]at U T;refine⟨_,rfl,q c c1 U fun b hb=>?_⟩;obtain⟨j,Z⟩:=List.getElem?_of_mem hb;exact T j b (aD.mp Z).1 Z
def UE:Af ["some","bottom"] ["some"] (AO K3):=B9
def UL(F:Fn K mg "frac_total" K3 ["some"] f fd)(Cy:Fn K mg "common_bottom" FT ["bottoms"] g1 gd1)(Cm:Fn K mg "fraction_of" GY ["top","bottom"] g2 gd2) (Iz:AK P w K mg base AZ 2 g1 gd1 ["bottoms"] fK)(GN:AK P w K mg base AZ 2 g2 gd2 ["top","bottom"] QV)(FA:mg "sum" = none):AK P w K mg base AZ 3 f fd ["some"] fV:=by
 have sc:=UE;refine F.F.ok (k:=2) sc (fun vs H Q E h=>?_) (fun cdv A outer s H vs Q E hr h=>?_)
 .obtain⟨a,xs,ps,k,rfl,_⟩:=h
  rfl
 obtain⟨a,xs,ps,k,rfl,ha,hl,h1000,hx,hp,hk,q⟩:=h;have hk1:ps≠[]->k<=4000:=fun hne=>by
  have:k*1<=k*ps.length:=aq k (List.length_pos_iff.mpr hne)
  lia
 have at_:∀(i:Nat) (hi:i<xs.length),∃(p:Int×Int) (c:AD),ps[i]? = some p/\xs[i]=.ref c/\H c=some (.tup [.int p.1,.int p.2]):=fun i hi=>by
  have hpi:ps[i]? = some (ps[i]'(by lia)):=aJ _;obtain⟨c,h1,h2⟩:=hx i xs[i] _ (aJ hi) hpi;exact⟨_,c,hpi,h1,h2⟩
 refine⟨_,(Ab (BB (i:=1) sc.nd rfl (Or.inr rfl) (B6 Cy Iz hr rfl (AM (Fl [".0","part"] 1 [none,none] (FH (pv 0)) (fun _ _ _ _ _=>Er) (fun _ _ _ _ _=>(Cv JL (pv 1) Aa (fun _ _=>rfl)))) Ah)))
 (A2 (CB (B6 Cm GN hr rfl (AM (Ds (NF rfl) rfl FA bj (AM (Fl [".0","part","bottom"] 1 [none,none,some 1] (FH (pv 0)) (fun _ _ _ _ _=>Er) (fun _ _ _ _ _=>(Ar C9 (Cv JL (pv 1) Aa (fun _ _=>rfl)) (Ar GI (pv 2) (Cv JL (pv 1) Aa (fun _ _=>rfl)))))) Ah)) (AM (pv 1) Ah)))))),?_⟩
 refine⟨_,rfl,a,rfl,⟨_,Aw.of ha⟩,fun D hD=>Fz (n:=xs.length) (fun i ys H'=>AL H H'/\ys=((ps.take i).map (·.2)).map V.int) ?_ ?_ ?_⟩
 .exact⟨An hD _,rfl⟩
 .rintro i ys H0 hi ⟨U,rfl⟩ Z;obtain⟨p,c,h1,h2,h3⟩:=at_ i hi;refine⟨⟨xs,xs[i],Aw.of (U _ _ ha),by simp[hi]⟩,?_,fun x H' y=>?_⟩
  .rw[List.length_map,List.length_map,List.length_take];exact aP (Nat.min_le_left _ _) (aI (show i<1000 by lia) (by rw[sizeLine_eq];decide))
  .obtain⟨rfl,y⟩:=y;have B:=y xs (Aw.of (U _ _ ha));rw[List.getElem?_eq_getElem hi,h2]at B;cases B;unfold HR;refine JW ⟨_,rfl,_,_,_,_,rfl,rfl,BN.of (U _ _ h3),rfl,Z,ER hi ⟨fun b o z=>?_,?_⟩⟩
   .rw[AJ (AY z hD)];exact U _ _ z
   .rw[List.take_succ,h1];simp
 rintro ys H0 ⟨U,rfl⟩ Z;refine⟨⟨xs,Aw.of (U _ _ ha),Nat.le_refl _⟩,?_⟩;rw[hl,List.take_length]at Z;refine⟨D,ps.map (·.2),k,rfl,Z,fun b hb=>?_,by rw[List.length_map];exact hk,fun c c1 c2 c3=>?_⟩
 .obtain⟨p,T,rfl⟩:=aR.mp hb;exact⟨(hp p T).1,(hp p T).2.2⟩
 rw[List.length_map]at c2;refine⟨_,rfl,a,rfl,⟨_,Aw.of (U _ _ ha)⟩,fun D2 hD2=>Fz (n:=xs.length) (fun i ys H'=>AL H0 H'/\ys=((ps.take i).map fun p=>p.1*c.fdiv p.2).map V.int) ?_ ?_ ?_⟩
 .exact⟨An hD2 _,rfl⟩
 .rintro i ys H1 hi ⟨e1,rfl⟩ Y;have E1:=U.trans e1;obtain⟨p,d,h1,h2,h3⟩:=at_ i hi;have hpm:=aH h1;have hkk:=hk1 (List.ne_nil_of_mem hpm);obtain⟨p1,p2,p3⟩:=hp p hpm;refine⟨⟨xs,xs[i],Aw.of (E1 _ _ ha),by simp[hi]⟩,?_,fun x H' y=>?_⟩
  .rw[List.length_map,List.length_map,List.length_take];exact aP (Nat.min_le_left _ _) (aI (show i<1000 by lia) (by rw[sizeLine_eq];decide))
  .obtain⟨rfl,y⟩:=y;have B:=y xs (Aw.of (E1 _ _ ha));rw[List.getElem?_eq_getElem hi,h2]at B;cases B;unfold HR;refine JW ⟨_,rfl,_,_,_,_,rfl,rfl,BN.of (E1 _ _ h3),rfl,_,rfl,_,rfl,_,_,_,_,rfl,rfl,BN.of (E1 _ _ h3),rfl,_,_,rfl,rfl,⟨by lia,k,by lia,p3⟩,_,_,rfl,rfl,OE p2 (aP (FM.Fd c p.2) c2) (by lia),Y,ER hi ⟨fun b o z=>?_,?_⟩⟩
   .rw[AJ (AY z hD2)];exact e1 _ _ z
   .rw[List.take_succ,h1];simp
 rintro ys H1 ⟨e1,rfl⟩ Y;refine⟨⟨xs,Aw.of ((U.trans e1) _ _ ha),Nat.le_refl _⟩,?_⟩;rw[hl,List.take_length]at Y;refine⟨D2,_,rfl,Aw.of Y,_,rfl,_,c,k*ps.length+1,rfl,by lia,by lia,c2,fun l H' e2 hl'=>?_⟩;refine q l H' (U.trans (e1.trans e2)) ?_;rw[X0 (by lia) fun p T=>⟨by have:=(hp p T).1;lia,c3 _ (List.mem_map_of_mem T)⟩]at hl';exact hl'
def WY:Af ["base","power","product","square","left"] ["base","power"] (AO NT):=B9
def WU(F:Fn K mg "power_of" NT ["base","power"] f fd):AK P w K mg base AZ 1 f fd ["base","power"] fW:=by
 have sc:=WY;refine F.F.ok (k:=0) sc (fun vs H Q E h=>?_) (fun cdv A outer s H vs Q E hr h=>?_)
 .obtain⟨b,p,k,rfl,_⟩:=h
  rfl
 obtain⟨b,p,k,rfl,hb,hk,q⟩:=h;refine⟨_,(Ab (BB (i:=2) sc.nd rfl (Or.inl rfl) Aa)
 (Ab (BB (i:=3) sc.nd rfl (Or.inl rfl) (pv 0))
 (Ab (BB (i:=4) sc.nd rfl (Or.inl rfl) (pv 1))
 (Ab (M7 aL (Dd UT (pv 4) Aa (Ak _))
  (Ab (Gq (Dd Qp (Ar Ii (pv 4) Aa) Aa (Ak _))
   (A2 (BB (i:=2) sc.nd rfl (Or.inl rfl) (Ar C9 (pv 2) (pv 3))))
   EL)
  (Ab (BB (i:=4) sc.nd rfl (Or.inl rfl) (Ar JK (pv 4) Aa))
  (A2 (Gq (Dd UT (pv 4) Aa (Ak _))
   (A2 (BB (i:=3) sc.nd rfl (Or.inl rfl) (Ar C9 (pv 3) (pv 3))))
   EL)))))
 (A2 (CB (pv 2))))))),?_⟩
 refine⟨_,rfl,_,rfl,?_⟩;refine QO (fun σ H'=>∃e f l:Nat,σ=[some (.int b),some (.int p),some (.int (b^e)),some (.int (b^f)),some (.int l)]/\H=H'/\e+f*l=p) (fun σ _=>rM σ) ?_ ?_ ?_
 .refine⟨0,1,p,?_,rfl,by lia⟩;rw[Int.pow_zero,Int.pow_succ,Int.pow_zero,Int.one_mul]
  rfl
 .rintro σ H' ⟨e,f,l,rfl,rfl,he⟩;refine⟨_,rfl,_,_,rfl,rfl,_,rfl,Ij (fun c=>?_) (fun c=>?_)⟩
  .have hl:0<l:=by have:=ak c;lia
   have B:f<=p:=by
    have:f*1<=f*l:=aq f hl
    lia
   try dsimp only[D6]
   refine JX (fun Y H'=>∃U:Nat,Y=[some (.int b),some (.int p),some (.int (b^U)),some (.int (b^f)),some (.int l)]/\H=H'/\U+f*(2*(l / 2))=p) (fun nx Z=>?_) ?_
   .refine⟨_,rfl,_,_,rfl,rfl,(by show(0:Int)<2;decide),rfl,_,rfl,Ij (fun c=>?_) (fun c=>?_)⟩
    .have hodd:l % 2=1:=by
      have:((l:Int) % 2)=1:=by simpa using c
      lia
     refine⟨_,rfl,_,rfl,_,_,rfl,rfl,OE (RJ hb (show e<=p by lia)) (RJ hb B) (by lia),Z _ _ ⟨e+f,?_,rfl,?_⟩⟩
     .show [some (V.int b),some (V.int p),some (V.int (b^e*b^f)),some (V.int (b^f)),some (V.int l)]=_;rw[<-Int.pow_add]
     .have:l=2*(l / 2)+1:=by lia
      rw[<-he]
      conv=>rhs;rw[this,Nat.mul_add,Nat.mul_one]
      lia
    .have hev:l % 2=0:=by
      have:¬((l:Int) % 2)=1:=by simpa using c
      lia
     refine Z _ _ ⟨e,rfl,rfl,?_⟩;rw[show 2*(l / 2)=l by lia];exact he
   .rintro Y _ ⟨U,rfl,rfl,T⟩;refine⟨_,rfl,_,_,rfl,rfl,⟨by decide,by decide⟩,?_⟩;have el:((l:Int) / 2)=((l / 2:Nat):Int):=by lia
    refine⟨_,rfl,_,_,rfl,rfl,_,rfl,Ij (fun c=>?_) (fun c=>?_)⟩
    .refine⟨_,rfl,_,rfl,_,_,rfl,rfl,OE (RJ hb B) (RJ hb B) (by lia),⟨U,f+f,l / 2,?_,rfl,?_⟩,?_⟩
     .show [some (V.int b),some (V.int p),some (V.int (b^U)),some (V.int (b^f*b^f)),some (V.int ((l:Int) / 2))]=_;rw[el,<-Int.pow_add]
     .rw[<-T,<-Nat.two_mul,Nat.mul_assoc,Nat.mul_left_comm]
     .show((l:Int) / 2).natAbs<((l:Nat):Int).natAbs
      lia
    .refine⟨⟨U,f,l / 2,?_,rfl,?_⟩,?_⟩
     .show [some (V.int b),some (V.int p),some (V.int (b^U)),some (V.int (b^f)),some (V.int ((l:Int) / 2))]=_;rw[el]
     .have:l / 2=0:=by have:=bg (Bool.eq_false_iff.mpr c);lia
      rw[this]at T ⊢
      simpa using T
     .show((l:Int) / 2).natAbs<((l:Nat):Int).natAbs
      lia
  .have hl:l=0:=by have:=bg (Bool.eq_false_iff.mpr c);lia
   subst hl;rw[Nat.mul_zero,Nat.add_zero]at he;subst he;exact⟨_,rfl,q⟩
 .exact fun σ H Q Q' hq ⟨v,e,s,k,e2,e3,e4,q1,q2⟩=>⟨v,e,s,k,e2,e3,e4,q1,hq _ _ q2⟩
end
def DU(H:Hp)(d:PD)(v:V):Prop:=∃N:Nat,∀l,N<=l->Dt l H d v
def B2(H:Hp)(ds:rq)(xs:sQ):Prop:=∃N:Nat,∀l,N<=l->BC l H ds xs
def DU.same{H H':Hp}{d:PD}{v:V}(h:DU H d v)(e:AL H H'):DU H' d v:=let⟨N,k⟩:=h;⟨N,fun l g=>(k l g).same e⟩
def B2.same{H H':Hp}{d:rq}{v:sQ}(h:B2 H d v)(e:AL H H'):B2 H' d v:=let⟨N,k⟩:=h;⟨N,fun l g=>(k l g).same e⟩
def DU.int{H:Hp}{i:Int}:DU H (.int i) (.int i):=⟨0,fun _ _=>.int⟩
def DU.bool{H:Hp}{i:Bool}:DU H (.bool i) (.bl i):=⟨0,fun _ _=>.bool⟩
def DU.B4{H:Hp}:DU H .none .B4:=⟨0,fun _ _=>.B4⟩
def DU.str{H:Hp}{x:Str}:DU H (.str x) (.str x):=⟨0,fun _ _=>.str⟩
def B2.nil{H:Hp}:B2 H [] []:=⟨0,fun _ _=>.nil⟩
def B2.cons{H:Hp}{d:PD}{ds:rq}{x:V}{xs:sQ}(h:DU H d x)(k:B2 H ds xs):B2 H (d::ds) (x::xs) :=
 let⟨N,a⟩:=h;let⟨M,b⟩:=k;⟨max N M,fun l g=>.cons (a l (by lia)) (b l (by lia))⟩
def B2.app{H:Hp}{ds es:rq}{xs ys:sQ}(h:B2 H ds xs)(k:B2 H es ys):B2 H (ds++es) (xs++ys) :=
 let⟨N,a⟩:=h;let⟨M,b⟩:=k;⟨max N M,fun l g=>(a l (by lia)).app (b l (by lia))⟩
def B2.len{H:Hp}{ds:rq}{xs:sQ}(h:B2 H ds xs):xs.length=ds.length:=let⟨N,a⟩:=h;(a N (aG _)).len
def B2.get{H:Hp}{ds:rq}{xs:sQ}{i:Nat}{d:PD}(h:B2 H ds xs)(e:ds[i]? = some d):∃v,xs[i]? = some v/\DU H d v:=by
 have g:=h.len;have hi:i<xs.length:=by rw[g];exact(aD.mp e).1
 have B:xs[i]? = some xs[i]:=by simp[hi]
 obtain⟨N,a⟩:=h;refine⟨xs[i],B,N,fun l g=>?_⟩;obtain⟨Y,T,U⟩:=(a l g).get B;rw[e]at T;cases T;exact U
def DU.lst{H:Hp}{a:AD}{ds:rq}{xs:sQ}(h:H a=some (.lst xs))(k:B2 H ds xs):DU H (.list ds) (.ref a) :=
 let⟨N,b⟩:=k;⟨max N (a+1),fun l g=>.lst (aK (show a<l from aI (bN a) (aQ (Nat.le_max_right _ _) g))) h (b l (by lia))⟩
def DU.tup{H:Hp}{a:AD}{ds:rq}{xs:sQ}(h:H a=some (.tup xs))(k:B2 H ds xs):DU H (.tuple ds) (.ref a) :=
 let⟨N,b⟩:=k;⟨max N (a+1),fun l g=>.tup (aK (show a<l from aI (bN a) (aQ (Nat.le_max_right _ _) g))) h (b l (by lia))⟩
def DU.kU{H:Hp}{ds:rq}{v:V}(h:DU H (.list ds) v):∃a xs,v=.ref a/\H a=some (.lst xs)/\B2 H ds xs:=by
 obtain⟨N,b⟩:=h;have h0:=b N (aG _);rw[Dt]at h0;obtain⟨a,xs,rfl,_,ha,_⟩:=h0;refine⟨a,xs,rfl,ha,N,fun l Y=>?_⟩;have T:=b l Y;rw[Dt]at T;obtain⟨Z,U,e,_,g,B⟩:=T;cases e;rw[ha]at g;cases g;exact B
def DU.pX{H:Hp}{ds:rq}{v:V}(h:DU H (.tuple ds) v):∃a xs,v=.ref a/\H a=some (.tup xs)/\B2 H ds xs:=by
 obtain⟨N,b⟩:=h;have h0:=b N (aG _);rw[Dt]at h0;obtain⟨a,xs,rfl,_,ha,_⟩:=h0;refine⟨a,xs,rfl,ha,N,fun l Y=>?_⟩;have T:=b l Y;rw[Dt]at T;obtain⟨Z,U,e,_,g,B⟩:=T;cases e;rw[ha]at g;cases g;exact B
def B2.Md{H:Hp}{d e:PD}{xs:sQ}(h:B2 H [d,e] xs):∃x y,xs=[x,y]/\DU H d x/\DU H e y:=by
 obtain⟨x,B,U⟩:=h.get (i:=0) rfl;obtain⟨y,g,T⟩:=h.get (i:=1) rfl;have:=h.len
 match xs,this with
 |[a,b],_=>
  simp at B g;subst B g;exact⟨a,b,rfl,U,T⟩
mutual
def nc{c:AD}{H:Hp}:∀ {d:PD} {v:V},Dt c H d v->DU H d v
 |.none,_,h=>by rw[Dt]at h;subst h;exact .B4
 |.bool _,_,h=>by rw[Dt]at h;subst h;exact .bool
 |.int _,_,h=>by rw[Dt]at h;subst h;exact .int
 |.str _,_,h=>by rw[Dt]at h;subst h;exact .str
 |.tuple _,_,h=>by
  rw[Dt]at h;obtain⟨a,xs,rfl,n,B,g⟩:=h;exact .tup B (Ky g)
 |.list _,_,h=>by
  rw[Dt]at h;obtain⟨a,xs,rfl,n,B,g⟩:=h;exact .lst B (Ky g)
 |.dict _,_,h=>by rw[Dt]at h;exact h.elim
def Ky{c:AD}{H:Hp}:∀ {ds:List PD} {xs:List V},BC c H ds xs->B2 H ds xs
 |[],_,h=>by rw[BC]at h;subst h;exact .nil
 |_::_,_,h=>by
  rw[BC]at h;obtain⟨x,r,rfl,B,g⟩:=h;exact .cons (nc B) (Ky g)
end
def DU.ints{H:Hp}{ps:sI}{v:V}(h:DU H (.tuple (ps.map .int)) v):∃a,v=.ref a/\H a=some (.tup (ps.map V.int)):=by
 obtain⟨a,xs,rfl,ha,T⟩:=h.pX;refine⟨a,rfl,?_⟩;rw[ha]
 congr 2
 obtain⟨N,b⟩:=T;have:=b N (aG _);clear b ha h
 induction ps generalizing xs with
 |nil=>rw[List.map_nil,BC]at this;exact this
 |cons p ps B=>
  rw[List.map_cons,BC]at this;obtain⟨x,r,rfl,g,U⟩:=this;rw[Dt]at g;subst g;rw[List.map_cons,B r U]
def QU{i n:Nat}(h:i<n)(hn:n<=60):i<sizeLine:=aI (show i<60 by lia) (by rw[sizeLine_eq];decide)
def RP{n:Nat}(hn:n<=60):n<=sizeLine:=aQ hn (by rw[sizeLine_eq];decide)
structure Tb where
 rs:List (List Rat)
 ls:List Rat
def Ao(r:sP):rq:=r.map AU
def Bk(r:sP):PD:=.list (Ao r)
def BW(rs:List sP):rq:=rs.map Bk
def Ai(t:Tb):PD:=.tuple [.list (BW t.rs),.list (Ao t.ls)]
structure Tb.Ok(m:Nat)(t:Tb):Prop where
 one:1<=t.rs.length
 most:t.rs.length<=m
 last:t.ls.length=t.rs.length
 row:∀(i:Nat) r,t.rs[i]? = some r->r.length=i
def Gv(r:sP):(Ao r).length=r.length:=bT _
def IG(r:List sP):(BW r).length=r.length:=bT _
def B2.kx{H:Hp}{d:PD}{ds:rq}{xs:sQ}(h:B2 H (d::ds) xs):∃x r,xs=x::r/\DU H d x/\B2 H ds r:=by
 obtain⟨N,b⟩:=h;have h0:=b N (aG _);rw[BC]at h0;obtain⟨x,r,rfl,_,_⟩:=h0;refine⟨x,r,rfl,⟨N,fun l g=>?_⟩,⟨N,fun l g=>?_⟩⟩
 .have:=b l g;rw[BC]at this;obtain⟨_,_,e,B,_⟩:=this;cases e;exact B
 .have:=b l g;rw[BC]at this;obtain⟨_,_,e,_,B⟩:=this;cases e;exact B
def DU.rat{H:Hp}{q:Rat}{v:V}(h:DU H (AU q) v):∃p,v=.ref p/\H p=some (.tup (Hz q)):=h.ints (ps:=[q.num,(q.den:Int)])
def Ry{H:Hp}{q:Rat}{p:AD}(h:H p=some (.tup (Hz q))):DU H (AU q) (.ref p):=.tup h (.cons .int (.cons .int .nil))
def QJ{c:AD}{zs:List V}{H:Hp}(B:H c=some (.lst zs)):∀ {g:List Rat} {xs:List V},B2 H (Ao g) xs->BC c H (Ao g) xs
 |[],xs,h=>by
  have:=h.len;rw[show Ao []=[] from rfl,List.length_nil]at this;rw[List.eq_nil_of_length_eq_zero this];exact .nil
 |q::g,xs,h=>by
  obtain⟨x,r,rfl,Y,U⟩:=B2.kx h;obtain⟨p,rfl,T⟩:=Y.rat;exact .cons (.tup (fun z=>by subst z;rw[T]at B;cases B) T (.cons .int (.cons .int .nil))) (QJ B U)
def Gz{c:AD}{zs:sQ}{H H':Hp}(B:H c=some (.lst zs))(e:SameBut c H H'){g:sP}{xs:sQ}(h:B2 H (Ao g) xs):B2 H' (Ao g) xs:=Ky (.but e (QJ B h))
def lJ{c a:AD}{zs xs:sQ}{H:Hp}{g:sP}(B:H c=some (.lst zs))(n:a≠c)(ha:H a=some (.lst xs))(h:B2 H (Ao g) xs):Dt c H (Bk g) (.ref a):=.lst n ha (QJ B h)
def B2.set{H:Hp}{d:PD}{v:V}(g:DU H d v):∀ {ds:List PD} {xs:List V} {j:Nat},B2 H ds xs->B2 H (ds.set j d) (xs.set j v)
 |[],xs,j,h=>by
  have:=h.len;rw[List.length_nil]at this;rw[List.eq_nil_of_length_eq_zero this];exact .nil
 |e::es,xs,j,h=>by
  obtain⟨x,r,rfl,T,B⟩:=h.kx;cases j with
  |zero=>exact .cons g B
  |succ j=>exact .cons T (B2.set (j:=j) g B)
def DU.tab{H:Hp}{t:Tb}{v:V}(h:DU H (Ai t) v):∃p R L xs ys,v=.ref p/\H p=some (.tup [.ref R,.ref L])/\H R=some (.lst xs)/\B2 H (BW t.rs) xs/\H L=some (.lst ys)/\B2 H (Ao t.ls) ys:=by
 obtain⟨p,zs,rfl,g,h1⟩:=h.pX;obtain⟨x,y,rfl,h2,Z⟩:=h1.Md;obtain⟨R,xs,rfl,B,Y⟩:=h2.kU;obtain⟨L,ys,rfl,T,U⟩:=Z.kU;exact⟨p,R,L,xs,ys,rfl,g,B,Y,T,U⟩
def bw{H:Hp}{t:Tb}{p R L:AD}{xs ys:sQ}(g:H p=some (.tup [.ref R,.ref L]))(B:H R=some (.lst xs))(Y:B2 H (BW t.rs) xs)(T:H L=some (.lst ys))(U:B2 H (Ao t.ls) ys):DU H (Ai t) (.ref p) :=
 .tup g (.cons (.lst B Y) (.cons (.lst T U) .nil))
def QZ{H:Hp}{rs:List sP}{xs:sQ}{i:Nat}{r:sP}(h:B2 H (BW rs) xs)(g:rs[i]? = some r):∃a ys,xs[i]? = some (.ref a)/\H a=some (.lst ys)/\B2 H (Ao r) ys:=by
 obtain⟨v,Y,U⟩:=h.get (i:=i) (d:=Bk r) (by rw[BW,List.getElem?_map,g];rfl);obtain⟨a,ys,rfl,T,B⟩:=U.kU;exact⟨a,ys,Y,T,B⟩
def cK(a b:sP):Ao (a++b)=Ao a++Ao b:=List.map_append
def IP(c b:Int):Int:=c.fdiv (FM.gi c b)*b
def IQ(bs:sI):Int:=bs.foldl IP 1
def Vl{k:Nat}:∀(bs:List Int) (c:Int) (n:Nat),1<=c->c.natAbs<2^n->(∀b∈bs,1<=b/\b.natAbs<2^k) ->
  1<=bs.foldl IP c/\(bs.foldl IP c).natAbs<2^(n+k*bs.length)/\c ∣ bs.foldl IP c/\∀b∈bs,b ∣ bs.foldl IP c
 |[],c,n,T,B,_=>⟨T,by simpa using B,Int.dvd_refl _,fun _ z=>(List.not_mem_nil z).elim⟩
 |b::bs,c,n,T,B,h=>by
  obtain⟨b1,b2⟩:=h b aZ;obtain⟨s1,s2,Z,Y⟩:=Qa T b1;have n1:(IP c b).natAbs<2^(n+k):=FM.Rz (aP Y B) b2;obtain⟨r1,r2,U,r4⟩:=Vl bs (IP c b) (n+k) s1 n1 fun y g=>h y (aU _ g);refine⟨r1,?_,Int.dvd_trans s2 U,fun y g=>?_⟩
  .rw[List.length_cons,Nat.mul_succ,show n+(k*bs.length+k)=n+k+k*bs.length by lia];exact r2
  .rcases aN.mp g with rfl|g
   .exact Int.dvd_trans Z U
   .exact r4 y g
def XD{k:Nat}{bs:sI}(h:∀b∈bs,1<=b/\b.natAbs<2^k):1<=IQ bs/\(IQ bs).natAbs<2^(1+k*bs.length)/\∀b∈bs,b ∣ IQ bs:=by
 obtain⟨a,b,_,d⟩:=Vl bs 1 1 (by decide) (by decide) h;exact⟨a,b,d⟩
def ZX(bs:sI)(b:Int):IQ (bs++[b])=IP (IQ bs) b:=by
 unfold IQ;rw[List.foldl_append]
 rfl
def Zl:Sp:=fun vs H Q _=>∃(a:AD) (bs:List Int) (k:Nat),vs=[.ref a]/\H a=some (.lst (bs.map V.int))/\(∀b∈bs,1<=b/\b.natAbs<2^k)/\k*bs.length<=4000/\Q (.int (IQ bs)) H
def Gm(rs:sP)(B:Int):sI:=rs.map fun r=>r.num*B.fdiv (r.den:Int)
def Zo:Sp:=fun vs H Q _=>∃(a:AD) (xs:List V) (rs:List Rat) (B:Int) (n m:Nat),vs=[.ref a,.int B]/\H a=some (.lst xs)/\B2 H (Ao rs) xs/\rs.length<=50/\(∀r∈rs,FM.Fits r n)/\B.natAbs<2^m/\n+m<=4000 /\
 ∀D H',AL H H'->H D=none->H' D=some (.lst ((Gm rs B).map V.int))->Q (.ref D) H'
def KY{H:Hp}{g:sP}{xs:sQ}{i:Nat}{q:Rat}(h:B2 H (Ao g) xs)(B:g[i]? = some q):∃p,xs[i]? = some (.ref p)/\H p=some (.tup (Hz q)):=by
 obtain⟨v,Y,U⟩:=h.get (i:=i) (d:=AU q) (by rw[Ao,List.getElem?_map,B];rfl);obtain⟨p,rfl,T⟩:=U.rat;exact⟨p,Y,T⟩
def Xj{rs:sP}{n:Nat}(h:∀r∈rs,FM.Fits r n):∀b∈rs.map (fun r=>(r.den:Int)),1<=b/\b.natAbs<2^n:=fun b B=>by
 obtain⟨r,g,rfl⟩:=aR.mp B;have:=r.den_nz;exact⟨by lia,(h r g).d⟩
section
variable{P:Program}{w:World}{K:Fg}{mg:sD}{base:Heap}{f g:AD}{fd gd:FuncData}
def PQ(F:Fn K mg "common_bottom" FT ["bottoms"] f fd)(BI:Fn K mg "greatest_divisor" C6 ["one","other"] g gd) (Bx:AK P w K mg base AZ 1 g gd ["one","other"] Qm):AK P w K mg base AZ 2 f fd ["bottoms"] Zl:=by
 have sc:=K4;refine F.F.ok (k:=1) sc (fun vs H Q E h=>?_) (fun cdv A outer s H vs Q E hr h=>?_)
 .obtain⟨a,bs,k,rfl,_⟩:=h
  rfl
 obtain⟨a,bs,k,rfl,ha,T,hk,q⟩:=h;refine⟨_,(Ab (BB (i:=1) sc.nd rfl (Or.inl rfl) Aa)
 (Ab (Jm aL rfl (FH (pv 0)) (Ax (i:=2) sc.nd rfl (Or.inl rfl))
  (A2 (BB (i:=1) sc.nd rfl (Or.inl rfl) (Ar C9 (Ar GI (pv 1) (B6 BI Bx hr rfl (AM (pv 1) (AM (pv 2) Ah)))) (pv 2)))))
 (A2 (CB (pv 1))))),?_⟩
 refine⟨_,rfl,a,rfl,⟨_,Aw.of ha⟩,NC (xs:=bs.map V.int) (fun i σ H'=>∃(r:Option V),σ=[some (.ref a),some (.int (IQ (bs.take i))),r]/\H=H') ?_ ?_ ?_ ?_⟩
 .exact⟨_,rfl,rfl⟩
 .rintro i σ H' _ ⟨r,rfl,rfl⟩;exact Aw.of ha
 .rintro i x σ H' B ⟨r,rfl,rfl⟩;have hi:i<bs.length:=by have:=(aD.mp B).1;simpa using this
  rw[List.getElem?_map,List.getElem?_eq_getElem hi]at B;cases B;obtain⟨b1,b2⟩:=T _ (List.getElem_mem hi);obtain⟨c1,U,_⟩:=XD (k:=k) (bs:=bs.take i) fun y hy=>T y (List.mem_of_mem_take hy);rw[List.length_take,Nat.min_eq_left (by lia)]at U;obtain⟨s1,s2,s3,Y⟩:=Qa c1 b1;have hg:FM.gi (IQ (bs.take i)) bs[i]≠0:=Int.ne_of_gt (FM.MP (by lia));have hki:k*i+k<=4000:=by
   have:k*(i+1)<=k*bs.length:=aq k hi;rw[Nat.mul_succ]at this
   lia
  have Z:((IQ (bs.take i)).fdiv (FM.gi (IQ (bs.take i)) bs[i])).natAbs<2^(1+k*i):=aP Y U;refine⟨_,rfl,_,rfl,_,rfl,IQ (bs.take i),bs[i],rfl,_,_,rfl,rfl,⟨hg,k,by have:k*1<=k*bs.length:=aq k (by lia);lia,Nat.lt_of_le_of_lt (FM.Yq (by lia)) b2⟩,_,rfl,_,_,rfl,rfl,OE Z b2 (by lia),some (.int bs[i]),?_,rfl⟩;rw[List.take_add_one,List.getElem?_eq_getElem hi];show _=[some (V.ref a),some (V.int (IQ (bs.take i++[bs[i]]))),some (V.int bs[i])];rw[ZX]
  rfl
 .rintro σ H' ⟨r,rfl,rfl⟩;rw[List.length_map,List.take_length];exact⟨_,rfl,q⟩
def Vz:Af ["some","bottom"] ["some","bottom"] (AO L9):=B9
def Uu(F:Fn K mg "tops_over" L9 ["some","bottom"] f fd):AK P w K mg base AZ 1 f fd ["some","bottom"] Zo:=by
 have sc:=Vz;refine F.F.ok (k:=0) sc (fun vs H Q E h=>?_) (fun cdv A outer s H vs Q E Z h=>?_)
 .obtain⟨a,xs,rs,B,n,m,rfl,_⟩:=h
  rfl
 obtain⟨a,xs,rs,B,n,m,rfl,ha,dx,hl,hf,hB,hnm,q⟩:=h;have hxl:xs.length=rs.length:=by rw[dx.len,Gv]
 refine⟨_,(A2 (CB (Fl [".0","part","bottom"] 1 [none,none,some 1] (FH (pv 0)) (fun _ _ _ _ _=>Er) (fun _ _ _ _ _=>(Ar C9 (Cv JL (pv 1) Aa (fun _ _=>rfl)) (Ar GI (pv 2) (Cv JL (pv 1) Aa (fun _ _=>rfl)))))))),?_⟩;refine⟨_,rfl,a,rfl,⟨_,Aw.of ha⟩,fun D hD=>Fz (n:=xs.length) (fun i ys H'=>AL H H'/\ys=(Gm (rs.take i) B).map V.int) ⟨An hD _,rfl⟩ ?_ ?_⟩
 .rintro i ys H1 hi ⟨U,rfl⟩ T;have Z:rs[i]? = some (rs[i]'(by lia)):=aJ _;obtain⟨p,hp1,Y⟩:=KY dx Z;have ft:=hf _ (aH Z);generalize rs[i]'(by lia)=r at Z Y ft;have hd:=r.den_nz;refine⟨⟨xs,.ref p,Aw.of (U _ _ ha),hp1⟩,QU (n:=60) (by unfold Gm;simp;lia) (by decide),fun x H' y=>?_⟩;obtain⟨rfl,y⟩:=y;have hx:=y xs (Aw.of (U _ _ ha));rw[hp1]at hx;cases hx;unfold HR;have n2:(B.fdiv (r.den:Int)).natAbs<2^m:=aP (FM.Fd _ _) hB;refine JW ⟨_,rfl,_,_,_,_,rfl,rfl,BN.of (U _ _ Y),rfl,_,rfl,_,rfl,_,_,_,_,rfl,rfl,BN.of (U _ _ Y),rfl,_,_,rfl,rfl,⟨by lia,n,by lia,ft.d⟩,_,_,rfl,rfl,OE ft.1 n2 (by lia),T,ER hi ⟨fun b o z=>?_,?_⟩⟩
  .rw[AJ (AY z hD)];exact U _ _ z
  .rw[List.take_add_one,Z,Gm,Gm,List.map_append,List.map_append]
   rfl
 .rintro ys H1 ⟨U,rfl⟩ T;rw[hxl,List.take_length]at T;exact⟨⟨xs,Aw.of (U _ _ ha),Nat.le_refl _⟩,q D H1 U hD T⟩
end
def Dr(a b:sI):sI:=List.zipWith (· * ·) a b
def WE(a b:sI):Int:=(Dr a b).sum
def Fo(n:Nat):sI:=List.replicate n 1
def KL(rows:List (List Int)):Tr->List Int->List Int
 |.nil,g=>g
 |.cons b r,g=>KL rows r (Dr g (rows.map fun row=>WE row (KL rows b (Fo rows.length))))
def Fe(rows:List sI)(t:Tr):sI:=rows.map fun row=>WE row (KL rows t (Fo rows.length))
def RV(rows:List (List Int)):∀(t:Tr) (g:List Int),KL rows t g=t.bs.foldl (fun a b=>Dr a (Fe rows b)) g
 |.nil,g=>rfl
 |.cons b r,g=>by
  rw[KL,Tr.bs,List.foldl_cons,RV rows r]
  rfl
def Mf(rows:List sI)(t:Tr):(Fe rows t).length=rows.length:=bT _
def cc{a b:sI}(h:a.length=b.length):(Dr a b).length=a.length:=by unfold Dr;rw[List.length_zipWith,h,Nat.min_self]
def D4(n:Nat)(xs:sI):Prop:=∀x∈xs,x.natAbs<=n
def D4.mul{m n:Nat}:∀ {a b:List Int},D4 m a->D4 n b->D4 (m*n) (Dr a b)
 |[],_,_,_=>fun x h=>by cases h
 |_::_,[],_,_=>fun x h=>by cases h
 |x::a,y::b,ha,g=>fun z h=>by
  have h:z∈x*y::Dr a b:=h;rcases aN.mp h with rfl|h
  .rw[Int.natAbs_mul];exact bf (ha x (.head _)) (g y (.head _))
  .exact D4.mul (fun x h=>ha x (.tail _ h)) (fun x h=>g x (.tail _ h)) z h
def ZZ{n:Nat}:∀ {a:List Int},D4 n a->a.sum.natAbs<=a.length*n
 |[],_=>bE _
 |x::a,h=>by
  have B:=h x (.head _);have g:=ZZ (a:=a) fun x h'=>h x (.tail _ h');rw[List.sum_cons,List.length_cons,Nat.succ_mul];have:=Int.natAbs_add_le x a.sum
  lia
def jy{m n:Nat}{a b:sI}(ha:D4 m a)(B:D4 n b):(WE a b).natAbs<=a.length*m*n:=by
 have h:=ZZ (ha.mul B);have g:(Dr a b).length<=a.length:=by unfold Dr;rw[List.length_zipWith];exact Nat.min_le_left _ _
 refine aQ h ?_;rw[Nat.mul_assoc];exact bK _ g
structure LN(rows:List (List Int))(c:Nat):Prop where
 len:rows.length<=1000
 one:∀row∈rows,row.length<=rows.length
 big:∃M,(∀row∈rows,D4 M row)/\M<=2^c/\∀row∈rows,row.length*M<=2^c
def D4.mono{m n:Nat}{xs:sI}(h:D4 m xs)(e:m<=n:=by decide):D4 n xs:=fun x g=>aQ (h x g) e
def Sw(n k:Nat):D4 (2^k) (Fo n):=fun x h=>by
 unfold Fo at h;rw[List.eq_of_mem_replicate h];exact Nat.one_le_two_pow
def fv{rows:List sI}{c:Nat}(h:LN rows c){t:Tr}{k:Nat}(T:D4 (2^(c*k)) (KL rows t (Fo rows.length))):D4 (2^(c*(k+1))) (Fe rows t):=fun x g=>by
 unfold Fe at g;obtain⟨row,B,rfl⟩:=aR.mp g;obtain⟨M,Y,_,U⟩:=h.big;have:=jy (Y row B) T;refine aQ this ?_;rw[Nat.mul_add,Nat.mul_one,Nat.add_comm,Nat.pow_add];exact bK _ (U row B)
def Qy{rows:List (List Int)}{c:Nat}(h:LN rows c):∀(t:Tr) (g:List Int) (j:Nat),g.length=rows.length->D4 (2^(c*j)) g->(KL rows t g).length=rows.length/\D4 (2^(c*(j+(t.AI-1)))) (KL rows t g)
 |.nil,g,j,B,ha=>⟨B,ha⟩
 |.cons b r,g,j,B,ha=>by
  have T:=Qy h b (Fo rows.length) 0 (List.length_replicate ..) (Sw _ _);have kb:1<=b.AI:=Tr.EC b;have kr:1<=r.AI:=Tr.EC r;rw[Nat.zero_add]at T;have Z:=fv h T.2;rw[show b.AI-1+1=b.AI by lia]at Z;have Y:=ha.mul Z;rw[<-Nat.pow_add,<-Nat.mul_add]at Y;have U:=Qy h r (Dr g (Fe rows b)) (j+b.AI) (by rw[cc (by rw[B,Mf])];exact B) Y;rw[KL,Tr.AI];refine⟨U.1,?_⟩;rw[show j+(b.AI+r.AI-1)=j+b.AI+(r.AI-1) by lia];exact U.2
def iT{rows:List sI}{c:Nat}(h:LN rows c)(t:Tr):D4 (2^(c*t.AI)) (Fe rows t):=by
 have B:=(Qy h t (Fo rows.length) 0 (List.length_replicate ..) (Sw _ _)).2;have T:1<=t.AI:=Tr.EC t;rw[Nat.zero_add]at B;have g:=fv h B;rw[show t.AI-1+1=t.AI by lia]at g;exact g
def W7{m:Nat}(hm:m+1<=1000000){x y:Int}(B:x.natAbs<=2^m)(g:y.natAbs<=2^m):Qn x y\/NX x y:=by
 have:2^m<2^(m+1):=Nat.pow_lt_pow_of_lt (by decide) (bN m);exact .inr ⟨m+1,hm,Nat.lt_of_le_of_lt B this,Nat.lt_of_le_of_lt g this⟩
def LH{n:Nat}(h:n<=1000):n<sizeLine:=aP h (by rw[sizeLine_eq];decide)
def UN{H H':Hp}{p:AD}(e:AL H H')(h:H' p=none):H p=none:=by
 cases z:H p with
 |none=>rfl
 |some o=>rw[e _ _ z]at h;cases h
def ints_get{ps:sI}{i:Nat}{x:Int}(h:ps[i]? = some x):(ps.map V.int)[i]? = some (.int x):=by rw[List.getElem?_map,h];rfl
def Tw{xs ys:sI}{i:Nat}{x y:Int}(B:xs[i]? = some x)(g:ys[i]? = some y):(Dr xs ys).take (i+1)=(Dr xs ys).take i++[x*y]:=by
 have h:(Dr xs ys)[i]? = some (x*y):=by unfold Dr;rw[List.getElem?_zipWith,B,g]
 rw[List.take_add_one,h];rfl
def mE:Sp:=fun vs H Q _=>∃a b xs ys m,vs=[.ref a,.ref b]/\H a=some (.lst (xs.map V.int))/\H b=some (.lst (ys.map V.int))/\xs.length<=ys.length/\xs.length<=1000/\m+1<=1000000/\D4 (2^m) xs/\D4 (2^m) ys/\∀H',AL H H'->Q (.int (WE xs ys)) H'
section
variable{P:Program}{w:World}{K:Fg}{mg:sD}{base:Heap}{f:AD}{fd:FuncData}
def Ym:Af ["row","shares"] ["row","shares"] (AO OV):=B9
def Y2(F:Fn K mg "read_by" OV ["row","shares"] f fd)(FA:mg "sum" = none)(DV:mg "zip" = none):AK P w K mg base AZ 1 f fd ["row","shares"] mE:=by
 have sc:=Ym;refine F.F.ok (k:=0) sc (fun vs H Q E h=>?_) (fun cdv A outer s H vs Q E hr h=>?_)
 .obtain⟨a,b,ps,qs,m,rfl,_⟩:=h
  rfl
 obtain⟨a,b,ps,qs,m,rfl,ha,hb,hl,h60,hm,sx,sy,q⟩:=h;refine⟨_,(A2 (CB (Ds (NF rfl) rfl FA bj (AM (OD [".0","part","share"] 1 2 [none,none,none] (VC rfl DV (AM (pv 0) (AM (pv 1) Ah))) (fun _ _ _ _ _=>Er) (fun _ _ _ _ _=>(Ar C9 (pv 1) (pv 2)))) Ah)))),?_⟩;refine⟨_,rfl,_,rfl,false,false,a,b,rfl,⟨_,ha⟩,⟨_,hb⟩,fun D hD=>Ql (n:=ps.length) (fun i us H'=>AL H H'/\us=((Dr ps qs).take i).map V.int) ?_ ?_ ?_⟩
 .exact⟨An hD _,by rw[List.take_zero];rfl⟩
 .rintro i us H1 hi ⟨B,rfl⟩ g;have hx:=aJ hi;have hy:=aJ (l:=qs) (i:=i) (by lia);have Z:=B _ _ ha;have Y:=B _ _ hb;refine⟨⟨_,_,_,_,Z,Y,ints_get hx,ints_get hy⟩,LH (by rw[List.length_map,List.length_take];lia),fun v H' y=>?_⟩;obtain⟨p,x,z,rfl,np,rfl,k1,k2⟩:=y;have U:=k1 _ Z;have T:=k2 _ Y;rw[ints_get hx]at U;rw[ints_get hy]at T;cases U;cases T;have sp:=An np (.tup [.int ps[i],.int qs[i]]);refine⟨p,_,_,rfl,BN.of AW,?_⟩;unfold HR;refine JW ⟨_,rfl,_,rfl,_,_,rfl,rfl,W7 hm (sx _ (List.getElem_mem _)) (sy _ (List.getElem_mem _)),sp _ _ g,ER hi ⟨fun c o z=>?_,?_⟩⟩
  .rw[AJ (AY z hD)];exact sp _ _ (B _ _ z)
  .rw[Tw hx hy,List.map_append]
   rfl
 .rintro us H1 ⟨B,rfl⟩ g;refine⟨⟨_,_,B _ _ ha,B _ _ hb,.inl (by rw[List.length_map])⟩,D,_,rfl,Aw.of g,?_⟩;rw[List.take_of_length_le (by unfold Dr;rw[List.length_zipWith];lia)];exact q _ B
end
def KJ(d:AD)(H H':Hp):Prop:=∀a o,a≠d->H a=some o->H' a=some o
def KJ.of{d:AD}{H H':Hp}(e:AL H H'):KJ d H H':=fun a o _ h=>e a o h
def KJ.trans{d:AD}{H B g:Hp}(e:KJ d H B)(T:KJ d B g):KJ d H g:=fun a o n h=>T a o n (e a o n h)
def mL{d:AD}{r:List KR}{xs:sQ}:dN d r≠.lst xs:=by unfold dN;intro z;cases z
def j9{d:AD}{r:List KR}{xs:sQ}:dN d r≠.tup xs:=by unfold dN;intro z;cases z
def KJ.lst{d:AD}{H H':Hp}(e:KJ d H H'){r:List KR}(hd:H d=some (dN d r)){l:AD}{xs:sQ}(h:H l=some (.lst xs)):H' l=some (.lst xs):=e l _ (Y5 h hd fun z=>mL z.symm) h
def KJ.Bm{d:AD}{H H':Hp}(e:KJ d H H'){r:List KR}(hd:H d=some (dN d r)):MA H H':=fun b xs h=>e b _ (Y5 h hd fun z=>j9 z.symm) h
def TU(H:Hp)(vs:sQ)(rows:List sI):Prop:=vs.length=rows.length/\∀(i:Nat) (row:List Int),rows[i]? = some row->∃a:AD,vs[i]? = some (.ref a)/\H a=some (.lst (row.map V.int))
def TU.same{H H':Hp}{vs:sQ}{rows:List sI}(h:TU H vs rows)(e:AL H H'):TU H' vs rows:=⟨h.1,fun i row hi=>let⟨a,B,g⟩:=h.2 i row hi;⟨a,B,e _ _ g⟩⟩
def TU.but{d:AD}{H H':Hp}{vs:sQ}{rows:List sI}(h:TU H vs rows)(e:KJ d H H'){r:List KR}(hd:H d=some (dN d r)):TU H' vs rows:=⟨h.1,fun i row hi=>let⟨a,B,g⟩:=h.2 i row hi;⟨a,B,e.lst hd g⟩⟩
structure ZA(Dm:List Tr)(c:Nat):Prop where
 len:Dm.length<=1000
 inj:∀a∈Dm,∀b∈Dm,TH.CG (some a)=TH.CG (some b)->a=b
 bs:∀t∈Dm,∀b∈t.bs,b∈Dm
 deep:∀t∈Dm,t.deep<8
 size:∀t∈Dm,c*t.AI+1<=1000000
structure Memo(Dm:List Tr)(rows:List (List Int))(W:Addr)(H:Hp)(d:Addr)(r:List KR):Prop where
 at_:H d=some (dN d r)
 nd:(r.map (·.1)).Nodup
 all:∀q∈r,∃(t:Tr) (l:Addr),q.1=some t/\t∈Dm/\Tv H t q.2.1/\q.2.2=.ref l/\H l=some (.lst ((Fe rows t).map V.int))/\l≠W
def Memo.same{Dm:sR}{rows:List sI}{W:AD}{H H':Hp}{d:AD}{r:List KR}(h:Memo Dm rows W H d r)(e:AL H H'):Memo Dm rows W H' d r:=⟨e _ _ h.at_,h.nd,fun q g=>let⟨t,l,h1,Z,Y,U,T,B⟩:=h.all q g;⟨t,l,h1,Z,Y.same e,U,e _ _ T,B⟩⟩
def Memo.ok{Dm:sR}{c:Nat}{rows:List sI}{W:AD}{H:Hp}{d:AD}{r:List KR}(h:Memo Dm rows W H d r)(D:ZA Dm c){t:Tr}(Y:t∈Dm):VM H d r (some t):=by
 refine⟨h.at_,fun q g=>?_,h.nd,fun q g U=>?_⟩
 .obtain⟨u,l,T,B,Z,_⟩:=h.all q g;rw[T];exact⟨D.deep u B,Z⟩
 .obtain⟨u,l,T,B,_⟩:=h.all q g;rw[T]at U ⊢;rw[D.inj u B t Y U]
def Td{α:Type}[DecidableEq α]:∀ {a b:List α},a.Nodup->(∀x∈a,x∈b)->a.length<=b.length
 |[],_,_,_=>bE _
 |x::a,b,hn,h=>by
  have B:=h x (.head _);obtain⟨U,T⟩:=List.nodup_cons.mp hn;have:=Td (a:=a) (b:=b.erase x) T fun y g=>(List.mem_erase_of_ne (show y≠x from fun e=>U (by rw[<-e];exact g))).mpr (h y (.tail _ g));rw[List.length_erase_of_mem B]at this;have:=List.length_pos_of_mem B;rw[List.length_cons]
  lia
def Memo.len{Dm:sR}{rows:List sI}{W:AD}{H:Hp}{d:AD}{r:List KR}(h:Memo Dm rows W H d r):r.length<=Dm.length:=by
 have:=Td (b:=Dm.map some) h.nd fun x g=>by
  obtain⟨q,B,rfl⟩:=aR.mp g;obtain⟨u,l,U,T,_⟩:=h.all q B;rw[U];exact List.mem_map_of_mem T
 simpa using this
def Memo.put{Dm:sR}{rows:List sI}{W:AD}{H H':Hp}{d:AD}{r:List KR}(h:Memo Dm rows W H d r){t:Tr}{v:V}{l:AD}(ht:t∈Dm)(tv:Tv H t v)(hl:H l=some (.lst ((Fe rows t).map V.int)))(hlW:l≠W) (e:H'=upd H d (dN d (G6 r (some t) v (.ref l)))):KJ d H H'/\Memo Dm rows W H' d (G6 r (some t) v (.ref l))/\H' l=some (.lst ((Fe rows t).map V.int)):=by
 subst e;have hb:KJ d H (upd H d (dN d (G6 r (some t) v (.ref l)))):=fun a o n h=>by rw[AJ n];exact h
 have Y:=hb.lst h.at_ hl;have old:∀q∈r,∃(t':Tr) (l':AD),q.1=some t'/\t'∈Dm/\Tv (upd H d (dN d (G6 r (some t) v (.ref l)))) t' q.2.1/\q.2.2=.ref l'/\upd H d (dN d (G6 r (some t) v (.ref l))) l'=some (.lst ((Fe rows t').map V.int))/\l'≠W:=fun q g=>by
  obtain⟨u,l',h1,B,h3,h4,h5,h6⟩:=h.all q g;exact⟨u,l',h1,B,h3.Bm (hb.Bm h.at_),h4,hb.lst h.at_ h5,h6⟩
 refine⟨hb,⟨AW,?_,fun q g=>?_⟩,Y⟩
 .unfold G6;split
  .rw[List.map_map];rw[show((fun x:KR=>x.1) ∘ fun q:KR=>if q.1=some t then(q.1,q.2.1,V.ref l) else q)=fun x=>x.1 from funext fun q=>by
    show(if q.1=some t then(q.1,q.2.1,V.ref l) else q).1=q.1;split<;>rfl]
   exact h.nd
  .rename_i hn;rw[List.map_append];refine List.nodup_append.mpr ⟨h.nd,by simp,fun a ha b Z=>?_⟩;obtain⟨q,g,rfl⟩:=aR.mp ha;have Z:b=some t:=by simpa using Z
   subst Z;have hn:r.find? (fun q=>decide (q.1=some t))=none:=by
    cases z:r.find? (fun q=>decide (q.1=some t)) with
    |none=>rfl
    |some x=>rw[z]at hn;exact absurd rfl hn
   have:=bW.mp hn q g
   simpa using this
 .have U:q∈r\/(∃T∈r,T.1=some t/\q=(T.1,T.2.1,.ref l))\/q=(some t,v,.ref l):=by
   unfold G6 at g;split at g
   .obtain⟨T,h1,B⟩:=aR.mp g;split at B
    .rename_i z;exact .inr (.inl ⟨T,h1,z,B.symm⟩)
    .subst B;exact .inl h1
   .rcases bI.mp g with g|g
    .exact .inl g
    .exact .inr (.inr (by simpa using g))
  rcases U with U|⟨T,h1,B,rfl⟩|rfl
  .exact old q U
  .obtain⟨u,l',k1,k2,k3,_⟩:=old T h1;rw[B]at k1;cases k1;exact⟨t,l,B,k2,k3,rfl,Y,hlW⟩
  .exact⟨t,l,rfl,ht,tv.Bm (hb.Bm h.at_),rfl,Y,hlW⟩
def Jo:∀ {t b:Tr},b∈t.bs->b.AI<=t.AI
 |.nil,b,h=>by cases h
 |.cons c r,b,h=>by
  rw[Tr.bs]at h;rw[Tr.AI];rcases aN.mp h with rfl|h
  .exact Nat.le_add_right _ _
  .exact aQ (Jo h) (Nat.le_add_left _ _)
def cX(r:List KR)(k:Option Tr)(B v:V):∃q,(G6 r k B v).find? (fun q=>decide (q.1=k))=some q:=by
 have:∃q∈G6 r k B v,q.1=k:=by
  unfold G6;split
  .rename_i h;obtain⟨q,Y⟩:=Option.isSome_iff_exists.mp h;obtain⟨T,g⟩:=find_key Y;exact⟨_,List.mem_map_of_mem T,by rw[if_pos g];exact g⟩
  .exact⟨_,List.mem_append_right _ (.head _),rfl⟩
 obtain⟨q,T,g⟩:=this;cases z:(G6 r k B v).find? (fun q=>decide (q.1=k)) with
 |some U=>exact⟨U,rfl⟩
 |none=>exact absurd g (by simpa using bW.mp z q T)
def NW:∀(t:Tr) (i:Nat),(Tr.of (t.bs.take i)).AI<=t.AI
 |.nil,i=>by rw[Tr.bs,List.take_nil];exact aG _
 |.cons b r,0=>by
  have:=Tr.EC (.cons b r);exact this
 |.cons b r,i+1=>by
  rw[Tr.bs,List.take_succ_cons,Tr.of,Tr.AI,Tr.AI];exact Nat.add_le_add_left (NW r i) _
def ZG(Dm:sR)(c n:Nat):Sp:=fun vs H Q _=>∃R g rows v t d r W,vs=[.ref R,v,.ref d]/\H R=some (.lst g)/\TU H g rows/\LN rows c/\Tv H t v/\t∈Dm/\t.deep<n/\(∃o,H W=some o)/\Memo Dm rows W H d r/\∀H' B l,KJ d H H'->Memo Dm rows W H' d B->H' l=some (.lst ((Fe rows t).map V.int))->Q (.ref l) H'
section
variable{P:Program}{w:World}{K:Fg}{mg:sD}{base:Heap}{f g1:AD}{fd gd1:FuncData}
def Wg:Af ["rows","tree","known","shares","bough"] ["rows","tree","known"] (AO M8):=B9
def P6{Dm:List Tr}{c:Nat}(DO:ZA Dm c)(FP:Fn K mg "readings" M8 ["rows","tree","known"] f fd)(Js:Fn K mg "read_by" OV ["row","shares"] g1 gd1)(Rm:AK P w K mg base AZ 1 g1 gd1 ["row","shares"] mE)(BS:mg "len" = none)(DV:mg "zip" = none) :
  ∀n,AK P w K mg base AZ (n+1) f fd ["rows","tree","known"] (ZG Dm c n)
 |0=>FQ fun _ _ _ _ ⟨_,_,_,_,_,_,_,_,_,_,_,_,_,_,h,_⟩=>absurd h (ae _)
 |n+1=>by
  have sc:=Wg;have NK:=P6 DO FP Js Rm BS DV n;have Z7:=Rm.mono (show 1<=n+1 by lia);refine FP.F.ok (k:=n+1) sc (fun vs H Q E h=>?_) (fun cdv A outer s H vs Q E hr h=>?_)
  .obtain⟨R,rvs,rows,v,t,d,r,W,rfl,_⟩:=h
   rfl
  obtain⟨R,rvs,rows,v,t,d,r,W,rfl,hR,T,ro,tv,ht,hdp,⟨oW,hW⟩,U,q⟩:=h;have hWs:∀ {H':Hp} {ρ:List KR},KJ d H H'->Memo Dm rows W H' d ρ->∃o,H' W=some o:=fun {H' ρ} e m=>by
   by_cases z:W=d
   .exact⟨_,by rw[z];exact m.at_⟩
   .exact⟨_,e _ _ z hW⟩
  refine⟨_,(Ab (Gq (Dd (kd (by have:=hr.units;exact this) true) (pv 1) (pv 2) rfl)
  (Ab (BB (i:=3) sc.nd rfl (Or.inr rfl) (Ar cR (IY (AM Aa Ah)) (Ds Gu rfl BS ag (AM (pv 0) Ah))))
  (Ab (Jm aL rfl (Ud (pv 1)) (Ax (i:=4) sc.nd rfl (Or.inl rfl))
   (A2 (BB (i:=3) sc.nd rfl (Or.inr rfl) (OD [".0","share","read"] 1 2 [none,none,none] (VC rfl DV (AM (pv 3) (AM (B6 FP NK hr rfl (AM (pv 0) (AM (pv 4) (AM (pv 2) Ah)))) Ah))) (fun _ _ _ _ _=>Er) (fun _ _ _ _ _=>(Ar C9 (pv 1) (pv 2)))))))
  (A2 (Ro (Fl [".0","row","shares"] 1 [none,none,some 3] (FH (pv 0)) (fun _ _ _ _ _=>Er) (fun _ _ _ _ _=>(B6 Js Z7 hr rfl (AM (pv 1) (AM (pv 2) Ah))))) (Q4 (pv 2) (pv 1) (jY (by have:=hr.units;exact this)))))))
  EL)
 (A2 (CB (jg (by have:=hr.units;exact this) (pv 2) (pv 1) (fun _ _=>rfl))))),?_⟩
  have key:J7 H (some t) v:=⟨DO.deep t ht,tv⟩;cases hz:r.find? (fun q=>decide (q.1=some t)) with
  |some q'=>
   refine⟨_,rfl,_,rfl,d,r,some t,rfl,key,U.ok DO ht,false,by rw[hz];rfl,p0 ?_⟩;obtain⟨hm,hk⟩:=find_key hz;obtain⟨u,l,h1,h2,h3,h4,h5,_⟩:=U.all q' hm;rw[hk]at h1;cases h1;refine⟨_,rfl,_,rfl,d,r,some t,q',rfl,key,U.ok DO ht,hz,?_⟩;rw[h4];exact q H r l (fun a o _ h=>h) U h5
  |none=>
   refine⟨_,rfl,_,rfl,d,r,some t,rfl,key,U.ok DO ht,true,by rw[hz];rfl,JW ?_⟩;refine⟨by show 1<=sizeLine;decide,fun p hp=>⟨_,rfl,_,_,rfl,.inl (Aw.of (An hp _ _ _ hR)),p,_,_,rfl,rfl,AW,by lia,?_,?_,fun S hS=>?_⟩⟩
   .have:=T.1;have:=ro.len;lia
   .have:=T.1;have:=ro.len;refine ay (LH ?_);simp
    lia
   rw[List.flatten_replicate_singleton,show((rvs.length:Nat):Int).toNat=rows.length by rw[T.1];rfl];have e0:AL H (upd (upd H p (.lst [V.int 1])) S (.lst (List.replicate rows.length (V.int 1)))):=(An hp _).trans (An hS _);have hS0:upd (upd H p (.lst [V.int 1])) S (.lst (List.replicate rows.length (V.int 1))) S=some (.lst (((t.bs.take 0).foldl (fun a b=>Dr a (Fe rows b)) (Fo rows.length)).map V.int)):=by
    rw[AW,List.take_zero,List.foldl_nil];unfold Fo;rw[List.map_replicate]
   generalize upd (upd H p (.lst [V.int 1])) S (.lst (List.replicate rows.length (V.int 1)))=H0 at e0 hS0;obtain⟨a,ys,rfl,ha,hts⟩:=tv;have hyl:=hts.len;have sizes:∀i,((t.bs.take i).foldl (fun a b=>Dr a (Fe rows b)) (Fo rows.length)).length=rows.length/\D4 (2^(c*t.AI)) ((t.bs.take i).foldl (fun a b=>Dr a (Fe rows b)) (Fo rows.length)):=fun i=>by
    have h:=Qy ro (Tr.of (t.bs.take i)) (Fo rows.length) 0 (List.length_replicate ..) (Sw _ _);rw[RV,Tr.O5]at h;refine⟨h.1,h.2.mono (ai (by decide) (aq _ ?_))⟩;have:=NW t i
    lia
   refine⟨_,rfl,a,rfl,⟨_,BN.of (e0 _ _ ha)⟩,gF (xs:=ys) (fun i σ H'=>∃(r4:Option V) (S:AD) (ρ:List KR),σ=[some (.ref R),some (.ref a),some (.ref d),some (.ref S),r4]/\KJ d H H'/\Memo Dm rows W H' d ρ/\H' S=some (.lst (((t.bs.take i).foldl (fun a b=>Dr a (Fe rows b)) (Fo rows.length)).map V.int))) ?_ ?_ ?_ ?_⟩
   .exact⟨_,S,r,rfl,.of e0,U.same e0,hS0⟩
   .rintro i σ H' _ ⟨r4,S',ρ,rfl,e,_⟩;exact BN.of (e.Bm U.at_ _ _ ha)
   .rintro i x σ H1 hx ⟨r4,S1,ρ,rfl,e1,Z,hS1⟩;obtain⟨b,hb,tb⟩:=hts.get hx;have hbm:b∈t.bs:=aH hb;have hbd:=Tr.M3 hbm;refine⟨_,rfl,_,rfl,_,rfl,_,rfl,R,rvs,rows,x,b,d,ρ,W,rfl,e1.lst U.at_ hR,T.but e1 U.at_,ro,tb.Bm (e1.Bm U.at_),DO.bs t ht b hbm,by lia,hWs e1 Z,Z,fun H2 r2 l e2 me2 hl2=>?_⟩;have hS2:=e2.lst Z.at_ hS1;have e02:=e1.trans e2;obtain⟨sl,sb⟩:=sizes i;generalize hsh:(t.bs.take i).foldl (fun a b=>Dr a (Fe rows b)) (Fo rows.length)=sh at sl sb hS2;have hnext:(t.bs.take (i+1)).foldl (fun a b=>Dr a (Fe rows b)) (Fo rows.length)=Dr sh (Fe rows b):=by
     rw[List.take_add_one,hb,List.foldl_append,hsh];rfl
    have rl:=Mf rows b;have rb:=iT ro b;have kb:b.AI<=t.AI:=Jo hbm;have rb':=rb.mono (ai (by decide) (aq c kb));refine⟨false,false,S1,l,rfl,⟨_,hS2⟩,⟨_,hl2⟩,fun D hD=>Ql (n:=sh.length) (fun j us H'=>AL H2 H'/\us=((Dr sh (Fe rows b)).take j).map V.int) ?_ ?_ ?_⟩
    .exact⟨An hD _,by rw[List.take_zero];rfl⟩
    .rintro j us H3 hj ⟨g,rfl⟩ B;have hx:=aJ hj;have hy:=aJ (l:=Fe rows b) (i:=j) (by lia);have e3a:=g _ _ hS2;have e3b:=g _ _ hl2;refine⟨⟨_,_,_,_,e3a,e3b,ints_get hx,ints_get hy⟩,LH (by have:=ro.len;rw[List.length_map,List.length_take];lia),fun v H' y=>?_⟩;obtain⟨p,x,z,rfl,np,rfl,k1,k2⟩:=y;have hx':=k1 _ e3a;have hy':=k2 _ e3b;rw[ints_get hx]at hx';rw[ints_get hy]at hy';cases hx';cases hy';have sp:=An np (.tup [.int sh[j],.int (Fe rows b)[j]]);refine⟨p,_,_,rfl,BN.of AW,?_⟩;unfold HR;refine JW ⟨_,rfl,_,rfl,_,_,rfl,rfl,W7 (DO.size t ht) (sb _ (List.getElem_mem _)) (rb' _ (List.getElem_mem _)),sp _ _ B,ER hj ⟨fun c o z=>?_,?_⟩⟩
     .rw[AJ (AY z hD)];exact sp _ _ (g _ _ z)
     .rw[Tw hx hy,List.map_append]
      rfl
    .rintro us H3 ⟨g,rfl⟩ B;refine⟨⟨_,_,g _ _ hS2,g _ _ hl2,.inl (by rw[List.length_map])⟩,?_⟩;refine⟨_,D,r2,rfl,e02.trans (.of g),me2.same g,?_⟩;rw[B,hnext,List.take_of_length_le (by unfold Dr;rw[List.length_zipWith];lia)]
   .rintro σ H1 ⟨r4,S1,ρ,rfl,e1,Z,hS1⟩;rw[hyl,List.take_length,<-RV]at hS1;obtain⟨sl,sb⟩:=sizes t.bs.length;rw[List.take_length,<-RV]at sl sb;have hR1:=e1.lst U.at_ hR;have hrw1:=T.but e1 U.at_;refine⟨_,rfl,R,rfl,⟨_,Aw.of hR1⟩,fun D hD=>Fz (n:=rvs.length) (fun j us H'=>AL H1 H'/\us=((Fe rows t).take j).map V.int) ?_ ?_ ?_⟩
    .exact⟨An hD _,by rw[List.take_zero];rfl⟩
    .rintro j us H3 hj ⟨g,rfl⟩ B;have hj':j<rows.length:=by rw[<-T.1];exact hj
     have Y:=aJ hj';generalize rows[j]=row at Y;have hrm:=aH Y;obtain⟨pr,g1,g2⟩:=hrw1.2 j row Y;have hR3:=g _ _ hR1;refine⟨⟨_,_,Aw.of hR3,g1⟩,LH (by have:=ro.len;rw[List.length_map,List.length_take,Mf];lia),fun x H' y=>?_⟩;obtain⟨rfl,y⟩:=y;have hx:=y _ (Aw.of hR3);rw[g1]at hx;cases hx;unfold HR;obtain⟨M,b1,b2,_⟩:=ro.big;refine JW ⟨_,rfl,_,rfl,pr,S1,row,_,c*t.AI,rfl,g _ _ g2,g _ _ hS1,?_,?_,DO.size t ht,?_,sb,fun H4 e4=>?_⟩
     .rw[sl];exact ro.one row hrm
     .have:=ro.one row hrm;have:=ro.len;lia
     .refine(b1 row hrm).mono (aQ b2 (ai (by decide) ?_));have:=Tr.EC t;exact Nat.le_mul_of_pos_right c this
     .refine⟨e4 _ _ B,ER hj ⟨fun c o z=>?_,?_⟩⟩
      .rw[AJ (AY z hD)];exact e4 _ _ (g _ _ z)
      .have:(Fe rows t)[j]? = some (WE row (KL rows t (Fo rows.length))):=by unfold Fe;rw[List.getElem?_map,Y];rfl
       rw[List.take_add_one,this,List.map_append]
       rfl
    .rintro us H3 ⟨g,rfl⟩ B;rw[List.take_of_length_le (by rw[Mf,T.1];exact aG _)]at B;have me3:=Z.same g;have hDW:D≠W:=fun z=>by
      obtain⟨o,hw⟩:=hWs e1 Z;rw[<-z,hD]at hw;cases hw
     have tv3:Tv H3 t (.ref a):=⟨a,ys,rfl,g _ _ (e1.Bm U.at_ _ _ ha),(hts.Bm (e1.Bm U.at_)).same g⟩;refine⟨⟨_,Aw.of (g _ _ hR1),Nat.le_refl _⟩,_,rfl,_,rfl,d,ρ,some t,rfl,⟨DO.deep t ht,tv3⟩,me3.ok DO ht,Nat.le_trans me3.len DO.len,?_⟩;generalize h4:upd H3 d (dN d (G6 ρ (some t) (.ref a) (.ref D)))=H4;obtain⟨b4,me4,l4⟩:=me3.put ht tv3 B hDW h4.symm;have tv4:=tv3.Bm (b4.Bm me3.at_);have key4:J7 H4 (some t) (.ref a):=⟨DO.deep t ht,tv4⟩;obtain⟨q',hq',hv⟩:∃q',(G6 ρ (some t) (.ref a) (.ref D)).find? (fun q=>decide (q.1=some t))=some q'/\∃l,q'.2.2=.ref l/\H4 l=some (.lst ((Fe rows t).map V.int)):=by
      obtain⟨q',hq'⟩:=cX ρ (some t) (.ref a) (.ref D);obtain⟨hm,hk⟩:=find_key hq';obtain⟨u,l,h1,h2,h3,h4,h5,_⟩:=me4.all q' hm;rw[hk]at h1;cases h1;exact⟨q',hq',l,h4,h5⟩
     obtain⟨l,hv,hl⟩:=hv;refine⟨_,rfl,_,rfl,d,_,some t,q',rfl,key4,me4.ok DO ht,hq',?_⟩;rw[hv];exact q H4 _ l ((e1.trans (.of g)).trans b4) me4 hl
end
def GH(r:sP):sI:=r.map fun q=>(q.den:Int)
def Ib(t:Tb)(i:Nat):sI:=GH t.ls++((t.rs.take i).map GH).flatten
def Fj(t:Tb):Int:=IQ (Ib t t.rs.length)
def Tb.Fits(t:Tb)(n:Nat):Prop:=(∀r∈t.rs,∀q∈r,FM.Fits q n)/\∀q∈t.ls,FM.Fits q n
def RA{t:Tb}{i:Nat}{r:sP}(h:t.rs[i]? = some r):Ib t (i+1)=Ib t i++GH r:=by
 unfold Ib;rw[List.take_add_one,h,List.map_append,List.flatten_append,List.append_assoc];simp
def Ll{t:Tb}{m:Nat}(o:t.Ok m):∀i,i<=t.rs.length->(Ib t i).length<=t.rs.length+t.rs.length*i
 |0,_=>by unfold Ib GH;simp[o.last]
 |i+1,h=>by
  have g:=aJ (l:=t.rs) (i:=i) (by lia);have:=Ll o i (by lia);rw[RA g,List.length_append,show(GH t.rs[i]).length=t.rs[i].length from bT _,o.row i _ g,Nat.mul_succ]
  lia
def TX{t:Tb}{n:Nat}(h:t.Fits n)(i:Nat):∀b∈Ib t i,1<=b/\b.natAbs<2^n:=fun b g=>by
 unfold Ib at g;rcases bI.mp g with g|g
 .exact Xj h.2 b g
 .obtain⟨l,T,g⟩:=List.mem_flatten.mp g;obtain⟨r,B,rfl⟩:=aR.mp T;exact Xj (h.1 r (List.mem_of_mem_take B)) b g
def lW:Sp:=fun vs H Q _=>∃(v:V) (t:Tb) (m n:Nat),vs=[v]/\DU H (Ai t) v/\t.Ok m/\m<=40/\t.Fits n/\n*(m+m*m)<=4000/\∀H',AL H H'->Q (.int (Fj t)) H'
section
variable{P:Program}{w:World}{K:Fg}{mg:sD}{base:Heap}{f g1 g2:AD}{fd gd1:FuncData}
def Q0:Af ["table","bottoms","row"] ["table"] (AO JS):=B9
def Rf(F:Fn K mg "table_bottom" JS ["table"] f fd)(Cy:Fn K mg "common_bottom" FT ["bottoms"] g1 gd1) (Iz:AK P w K mg base AZ 2 g1 gd1 ["bottoms"] Zl):AK P w K mg base AZ 3 f fd ["table"] lW:=by
 have sc:=Q0;refine F.F.ok (k:=2) sc (fun vs H Q E h=>?_) (fun cdv A outer s H vs Q E g h=>?_)
 .obtain⟨v,t,m,n,rfl,_⟩:=h
  rfl
 obtain⟨v,t,m,n,rfl,dt,ot,hm,ft,hnm,q⟩:=h;obtain⟨p,R,L,xs,ys,rfl,hp,hR,dR,hL,dL⟩:=dt.tab;have hyl:ys.length=t.ls.length:=by rw[dL.len,Gv]
 have hxl:xs.length=t.rs.length:=by rw[dR.len,IG]
 have h1:=ot.most;have h2:=ot.last;refine⟨_,(Ab (P5 (i:=1) [".0","part"] 1 [none,none] sc.nd rfl rfl (FH (Cv Ff (pv 0) Aa (fun _ _=>rfl))) (fun _ _ _ _ _=>Er) (fun _ _ _ _ _=>(Cv JL (pv 1) Aa (fun _ _=>rfl))))
 (Ab (Jm aL rfl (FH (Cv Ff (pv 0) Aa (fun _ _=>rfl))) (Ax (i:=2) sc.nd rfl (Or.inl rfl))
  (A2 (Ep (Hw aa PySem.F.slot_list_extend PySem.F.type_list_extend Lh (pv 1) (AM (Fl [".0","part"] 1 [none,none] (FH (pv 2)) (fun _ _ _ _ _=>Er) (fun _ _ _ _ _=>(Cv JL (pv 1) Aa (fun _ _=>rfl)))) Ah)))))
 (A2 (CB (B6 Cy Iz g rfl (AM (pv 1) Ah)))))),?_⟩
 refine⟨_,rfl,_,_,_,_,rfl,rfl,BN.of hp,rfl,L,rfl,⟨_,Aw.of hL⟩,fun Z hZ=>Fz (n:=ys.length) (fun i us H'=>AL H H'/\us=(GH (t.ls.take i)).map V.int) ⟨An hZ _,rfl⟩ ?_ ?_⟩
 .rintro i us H1 hi ⟨e1,rfl⟩ hD1;have g:t.ls[i]? = some (t.ls[i]'(by lia)):=aJ _;obtain⟨p,T,B⟩:=KY dL g;generalize t.ls[i]'(by lia)=r at g B;refine⟨⟨ys,.ref p,Aw.of (e1 _ _ hL),T⟩,QU (n:=60) (by unfold GH;simp;lia) (by decide),fun x H' y=>?_⟩;obtain⟨rfl,y⟩:=y;have hx:=y ys (Aw.of (e1 _ _ hL));rw[T]at hx;cases hx;unfold HR;refine JW ⟨_,rfl,_,_,_,_,rfl,rfl,BN.of (e1 _ _ B),rfl,hD1,ER hi ⟨fun b o z=>?_,?_⟩⟩
  .rw[AJ (AY z hZ)];exact e1 _ _ z
  .rw[List.take_add_one,g,GH,GH,List.map_append,List.map_append]
   rfl
 rintro us H1 ⟨e1,rfl⟩ hZ1;rw[hyl,List.take_length]at hZ1;refine⟨⟨ys,Aw.of (e1 _ _ hL),Nat.le_refl _⟩,?_⟩;refine⟨_,rfl,_,_,_,_,rfl,rfl,BN.of (e1 _ _ hp),rfl,R,rfl,⟨_,Aw.of (e1 _ _ hR)⟩,NC (xs:=xs) (fun i σ H'=>∃r2,σ=[some (.ref p),some (.ref Z),r2]/\AL H H'/\H' Z=some (.lst ((Ib t i).map V.int))) ?_ ?_ ?_ ?_⟩
 .exact⟨_,rfl,e1,by rw[hZ1];unfold Ib;simp⟩
 .rintro i σ H' _ ⟨r2,rfl,e,_⟩;exact Aw.of (e _ _ hR)
 .rintro i x σ H2 hx ⟨r2,rfl,e2,U⟩;have hi:i<t.rs.length:=by rw[<-hxl];exact(aD.mp hx).1
  have g:t.rs[i]? = some t.rs[i]:=aJ hi;have hrl:=ot.row _ _ g;obtain⟨a,zs,g1,g2,dz⟩:=QZ dR g;generalize t.rs[i]=row at g dz hrl;rw[hx]at g1;cases g1;have hzl:zs.length=row.length:=by rw[dz.len,Gv]
  refine⟨_,rfl,.inl ⟨rfl,_,Aw.of U⟩,_,rfl,a,rfl,⟨_,Aw.of (e2 _ _ g2)⟩,fun D hD=>Fz (n:=zs.length) (fun j ys H'=>AL H2 H'/\ys=(GH (row.take j)).map V.int) ⟨An hD _,rfl⟩ ?_ ?_⟩
  .rintro j us H3 hj ⟨e3,rfl⟩ Y;have E3:=e2.trans e3;have g:row[j]? = some (row[j]'(by lia)):=aJ _;obtain⟨p,T,B⟩:=KY dz g;generalize row[j]'(by lia)=r at g B;refine⟨⟨zs,.ref p,Aw.of (E3 _ _ g2),T⟩,QU (n:=60) (by unfold GH;simp;lia) (by decide),fun x H' y=>?_⟩;obtain⟨rfl,y⟩:=y;have hx:=y zs (Aw.of (E3 _ _ g2));rw[T]at hx;cases hx;unfold HR;refine JW ⟨_,rfl,_,_,_,_,rfl,rfl,BN.of (E3 _ _ B),rfl,Y,ER hj ⟨fun b o z=>?_,?_⟩⟩
   .rw[AJ (AY z hD)];exact e3 _ _ z
   .rw[List.take_add_one,g,GH,GH,List.map_append,List.map_append]
    rfl
  .rintro us H3 ⟨e3,rfl⟩ Y;have E3:=e2.trans e3;rw[hzl,List.take_length]at Y;refine⟨⟨zs,Aw.of (E3 _ _ g2),Nat.le_refl _⟩,Z,D,_,_,rfl,rfl,e3 _ _ U,Y,?_,_,rfl,fun b o z=>?_,?_⟩
   .have:=Ll ot i (by lia);rw[List.length_map,List.length_map,show(GH row).length=row.length from bT _];have h40:t.rs.length*i<=40*40:=bf (by lia) (by lia);exact aQ (show _<=2000 by lia) (by rw[sizeLine_eq];decide)
   .rw[AJ (AY z hZ)];exact e3 _ _ (e2 _ _ z)
   .rw[AW,RA g,List.map_append]
 .rintro σ H2 ⟨r2,rfl,e2,U⟩;rw[hxl]at U;refine⟨_,rfl,Z,_,n,rfl,U,TX ft _,?_,q H2 e2⟩;have:=Ll ot _ (aG _);have h3:t.rs.length*t.rs.length<=m*m:=bf h1 h1;exact aQ (aq n (by lia)) hnm
end
def GK(t:Tb):List sI:=(t.rs++[t.ls]).map fun r=>Gm r (Fj t)
def Cf(t:Tb)(u:Tr):Rat:=Rat.divInt ((Fe (GK t) u).getLast?.getD 0) (Fj t^u.AI)
def jG:Sp:=fun vs H Q _=>∃v u,vs=[v]/\Tv H u v/\u.deep<8/\u.AI<=8/\∀H',AL H H'->Q (.int (u.AI:Nat)) H'
def jt(Dm:sR)(c:Nat):Sp:=fun vs H Q _=>∃(v:V) (t:Tb) (L:AD) (g:List V) (ts:List Tr) (m n k:Nat),vs=[v,.ref L]/\DU H (Ai t) v/\t.Ok m/\m<=40/\t.Fits n/\n*(m+m*m)<=4000/\LN (GK t) c/\(Fj t).natAbs<2^k/\n+k<=4000/\1<=Fj t /\
 H L=some (.lst g)/\g.length=ts.length/\ts.length<=1000/\(∀(i:Nat) (x:V),g[i]? = some x->∃u,ts[i]? = some u/\Tv H u x/\u∈Dm/\u.AI<=8/\k*u.AI<=4000) /\
 ∀D H' zs,AL H H'->H D=none->H' D=some (.lst zs)->B2 H' (Ao (ts.map (Cf t))) zs->Q (.ref D) H'
def Pf(H:Hp)(zs:sQ)(g:sP):Prop:=zs.length=g.length/\∀(i:Nat) (q:Rat),g[i]? = some q->∃p:AD,zs[i]? = some (.ref p)/\H p=some (.tup (Hz q))
def Pf.Bm{H H':Hp}{zs:sQ}{g:sP}(h:Pf H zs g)(e:MA H H'):Pf H' zs g:=⟨h.1,fun i q hi=>let⟨p,T,B⟩:=h.2 i q hi;⟨p,T,e _ _ B⟩⟩
def Pf.snoc{H:Hp}{zs:sQ}{g:sP}(h:Pf H zs g){p:AD}{q:Rat}(B:H p=some (.tup (Hz q))):Pf H (zs++[.ref p]) (g++[q]):=by
 refine⟨by rw[List.length_append,List.length_append,h.1];rfl,fun i r hi=>?_⟩;by_cases z:i<g.length
 .rw[List.getElem?_append_left z]at hi;rw[List.getElem?_append_left (by rw[h.1];exact z)];exact h.2 i r hi
 .rw[List.getElem?_append_right (by lia)]at hi;rw[List.getElem?_append_right (by rw[h.1];lia),h.1];have:i-g.length=0:=by
   have:=(aD.mp hi).1;simp at this
   lia
  rw[this]at hi ⊢;cases hi;exact⟨p,rfl,B⟩
def Pf.pY{H:Hp}:∀ {g:List Rat} {zs:List V},Pf H zs g->B2 H (Ao g) zs
 |[],[],_=>.nil
 |[],_::_,h=>by cases h.1
 |_::_,[],h=>by cases h.1
 |q::g,z::zs,h=>by
  obtain⟨p,T,B⟩:=h.2 0 q rfl;cases T;refine .cons (Ry B) (Pf.pY ⟨by simpa using h.1,fun i r hi=>?_⟩);exact h.2 (i+1) r hi
def i9{xs:sI}(h:1<=xs.length):GO (xs.map V.int) (-1)=some (V.int (xs.getLast?.getD 0)):=by
 have g:xs≠[]:=fun z=>by rw[z]at h;exact absurd h (by decide)
 have e:=List.dropLast_concat_getLast g;rw[<-e,List.map_append,List.getLast?_append];exact eI _ _
def lO{b:Int}(h:1<=b)(k:Nat):b^k≠0:=Int.ne_of_gt (Int.pow_pos h)
def dZ{b:Int}{k p:Nat}(h:b.natAbs<2^k)(g:k*p<=4000):∃m,m<=9000/\(b^p).natAbs<2^m:=by
 refine⟨k*p+1,by lia,?_⟩;rw[Int.natAbs_pow];refine aP (Nat.pow_le_pow_left (ay h) p) ?_;rw[<-Nat.pow_mul];exact Nat.pow_lt_pow_of_lt (by decide) (by lia)
section
variable{P:Program}{w:World}{K:Fg}{mg:sD}{base:Heap}{f g1 g2 g3 g4 g5 g6:AD}{fd gd1 gd2 gd3 gd4 gd5 gd6:FuncData}
def QQ:Af ["table","trees","bottom","rows","known","weights","tree"] ["table","trees"] (AO FR):=B9
def Qk{Dm:sR}{c:Nat}(DO:ZA Dm c)(F:Fn K mg "weights_under" FR ["table","trees"] f fd)(HH:Fn K mg "table_bottom" JS ["table"] g1 gd1)(Jh:Fn K mg "tops_over" L9 ["some","bottom"] g2 gd2) (FP:Fn K mg "readings" M8 ["rows","tree","known"] g3 gd3)(KW:Fn K mg "power_of" NT ["base","power"] g4 gd4)(BJ:Fn K mg "knots_within" Es ["tree"] g5 gd5)(Cm:Fn K mg "fraction_of" GY ["top","bottom"] g6 gd6) (SI:AK P w K mg base AZ 11 g1 gd1 ["table"] lW)(Wc:AK P w K mg base AZ 11 g2 gd2 ["some","bottom"] Zo)(NK:AK P w K mg base AZ 11 g3 gd3 ["rows","tree","known"] (ZG Dm c 8))(Ys:AK P w K mg base AZ 11 g4 gd4 ["base","power"] fW) (Bw:AK P w K mg base AZ 11 g5 gd5 ["tree"] jG)(GN:AK P w K mg base AZ 11 g6 gd6 ["top","bottom"] QV):AK P w K mg base AZ 12 f fd ["table","trees"] (jt Dm c):=by
 have sc:=QQ;refine F.F.ok (k:=11) sc (fun vs H Q E h=>?_) (fun cdv A outer s H vs Q E hr h=>?_)
 .obtain⟨v,t,L,tvs,ts,m,n,k,rfl,_⟩:=h
  rfl
 obtain⟨v,t,L,tvs,ts,m,n,k,rfl,dt,ot,hm,ft,hnm,ro,hB,hnk,hB1,hL,htl,hts,hall,q⟩:=h;have o1:=ot.most;have o2:=ot.last;have o3:=ot.one;refine⟨_,(Ab (BB (i:=2) sc.nd rfl (Or.inr rfl) (B6 HH SI hr rfl (AM (pv 0) Ah)))
 (Ab (P5 (i:=3) [".0","row","bottom"] 1 [none,none,some 2] sc.nd rfl rfl (FH (Ar Zx (Cv Ff (pv 0) Aa (fun _ _=>rfl)) (IY (AM (Cv Ff (pv 0) Aa (fun _ _=>rfl)) Ah)))) (fun _ _ _ _ _=>Er) (fun _ _ _ _ _=>(B6 Jh Wc hr rfl (AM (pv 1) (AM (pv 2) Ah)))))
 (Ab (BB (i:=4) sc.nd rfl (Or.inl rfl) cU)
 (Ab (BB (i:=5) sc.nd rfl (Or.inl rfl) (IY Ah))
 (Ab (Jm aL rfl (FH (pv 1)) (Ax (i:=6) sc.nd rfl (Or.inl rfl))
  (A2 (Ep (Hw aa az bA FX (pv 5) (AM (B6 Cm GN hr rfl (AM (Cv JV (B6 FP NK hr rfl (AM (pv 3) (AM (pv 6) (AM (pv 4) Ah)))) (Y4 VZ Aa) (fun _ _=>rfl)) (AM (B6 KW Ys hr rfl (AM (pv 2) (AM (B6 BJ Bw hr rfl (AM (pv 6) Ah)) Ah))) Ah))) Ah)))))
 (A2 (CB (pv 5)))))))),?_⟩
 refine⟨_,rfl,v,t,m,n,rfl,dt,ot,hm,ft,hnm,fun H1 e1=>?_⟩;obtain⟨p,R,B,xs,ys,rfl,hp,hR,dR,hL',dL⟩:=(dt.same e1).tab;have hxl:xs.length=t.rs.length:=by rw[dR.len,IG]
 refine⟨_,rfl,_,_,_,_,rfl,rfl,BN.of hp,rfl,_,rfl,_,_,_,_,rfl,rfl,BN.of hp,rfl,(by show 1<=sizeLine;decide),fun q1 hq1=>?_⟩;have e2:=An hq1 (.lst [V.ref B]);have h2:upd H1 q1 (.lst [V.ref B]) q1=some (.lst [V.ref B]):=AW;generalize upd H1 q1 (.lst [V.ref B])=H2 at e2 h2;refine⟨R,q1,_,_,rfl,rfl,e2 _ _ hR,h2,RP (by simp;lia),fun C0 hC0=>?_⟩;have e3:=An hC0 (.lst (xs++[V.ref B]));have h3:upd H2 C0 (.lst (xs++[V.ref B])) C0=some (.lst (xs++[V.ref B])):=AW;generalize upd H2 C0 (.lst (xs++[V.ref B]))=H3 at e3 h3;have E3:=(e1.trans e2).trans e3;have E13:=e2.trans e3;have get:∀(i:Nat) (row:List Rat),(t.rs++[t.ls])[i]? = some row->∃(a:AD) (zs:List V),(xs++[V.ref B])[i]? = some (.ref a)/\H3 a=some (.lst zs)/\B2 H3 (Ao row) zs/\row.length<=50/\∀q∈row,FM.Fits q n:=fun i row hi=>by
  by_cases z:i<t.rs.length
  .rw[List.getElem?_append_left z]at hi;rw[List.getElem?_append_left (by lia)];obtain⟨a,zs,g1,g2,g3⟩:=QZ dR hi;exact⟨a,zs,g1,E13 _ _ g2,g3.same E13,by rw[ot.row i row hi];lia,ft.1 row (aH hi)⟩
  .rw[List.getElem?_append_right (by lia)]at hi;have:i-t.rs.length=0:=by
    have:=(aD.mp hi).1;simp at this
    lia
   rw[this]at hi;cases hi;rw[List.getElem?_append_right (by lia),hxl,this];exact⟨B,ys,rfl,E13 _ _ hL',dL.same E13,by lia,ft.2⟩
 have hal:(t.rs++[t.ls]).length=(xs++[V.ref B]).length:=by rw[List.length_append,List.length_append,hxl];rfl
 have hal60:(xs++[V.ref B]).length<60:=by rw[List.length_append,hxl];simp;lia
 refine⟨C0,rfl,⟨_,Aw.of h3⟩,fun D hD=>Fz (n:=(xs++[V.ref B]).length) (fun i us H'=>AL H3 H'/\us.length=i/\∀(j:Nat) (row:List Rat),j<i->(t.rs++[t.ls])[j]? = some row->∃a:AD,us[j]? = some (.ref a)/\H' a=some (.lst ((Gm row (Fj t)).map V.int))/\a≠D) ?_ ?_ ?_⟩
 .exact⟨An hD _,rfl,fun j row hj=>absurd hj (ae _)⟩
 .rintro i us H4 hi ⟨e4,hul,hus⟩ hD4;have hr:(t.rs++[t.ls])[i]? = some ((t.rs++[t.ls])[i]'(by lia)):=aJ _;generalize (t.rs++[t.ls])[i]'(by lia)=row at hr;obtain⟨a,zs,g1,g2,g3,g4,g5⟩:=get i row hr;refine⟨⟨_,.ref a,Aw.of (e4 _ _ h3),g1⟩,QU (n:=60) (by lia) (by decide),fun x H' y=>?_⟩;obtain⟨rfl,y⟩:=y;have hx:=y _ (Aw.of (e4 _ _ h3));rw[g1]at hx;cases hx;unfold HR;refine JW ⟨_,rfl,_,rfl,a,zs,row,Fj t,n,k,rfl,e4 _ _ g2,g3.same e4,g4,g5,hB,hnk,fun D5 H5 e5 n5 h5=>⟨e5 _ _ hD4,ER hi ⟨fun b o z=>?_,by simp[hul],fun j T hj hr'=>?_⟩⟩⟩
  .rw[AJ (AY z hD)];exact e5 _ _ (e4 _ _ z)
  .by_cases z:j<i
   .obtain⟨b,k1,k2,k3⟩:=hus j T z hr';exact⟨b,by rw[List.getElem?_append_left (by lia)];exact k1,by rw[AJ k3];exact e5 _ _ k2,k3⟩
   .have:j=i:=by lia
    subst this;rw[hr]at hr';cases hr';have nD:D5≠D:=fun z=>by rw[z,hD4]at n5;cases n5
    exact⟨D5,by rw[List.getElem?_append_right (by lia),hul,Nat.sub_self];rfl,by rw[AJ nD];exact h5,nD⟩
 rintro rvs H4 ⟨e4,hul,hus⟩ hD4;refine⟨⟨_,Aw.of (e4 _ _ h3),Nat.le_refl _⟩,?_⟩;have E4:=E3.trans e4;have hrw:TU H4 rvs (GK t):=by
  refine⟨by rw[hul,<-hal];exact(bT _).symm,fun j row hj=>?_⟩;unfold GK at hj;rw[List.getElem?_map]at hj;cases hj':(t.rs++[t.ls])[j]? with
  |none=>rw[hj']at hj;cases hj
  |some T=>
   rw[hj']at hj;cases hj;obtain⟨a,k1,k2,_⟩:=hus j T (by rw[<-hal];exact(aD.mp hj').1) hj';exact⟨a,k1,k2⟩
 have hDn:H D=none:=UN E3 hD;refine fun d hd=>?_;have e5:=An hd (dN d []);have h5:upd H4 d (dN d []) d=some (dN d []):=AW;generalize upd H4 d (dN d [])=H5 at e5 h5;refine⟨(by show 0<=sizeLine;decide),fun W hW=>?_⟩;have e6:=An hW (.lst []);have h6:upd H5 W (.lst []) W=some (.lst []):=AW;generalize upd H5 W (.lst [])=H6 at e6 h6;have hdn:=UN E4 hd;have E5:=E4.trans e5;have hWn:=UN E5 hW;have E6:=E5.trans e6;have hdW:d≠W:=fun z=>by rw[<-z,h5]at hW;cases hW
 have W4:H4 W=none:=UN e5 hW;refine⟨_,rfl,L,rfl,⟨_,Aw.of (E6 _ _ hL)⟩,NC (xs:=tvs) (fun i σ H'=>∃(r6:Option V) (ρ:List KR) (zs:List V),σ=[some (.ref p),some (.ref L),some (.int (Fj t)),some (.ref D),some (.ref d),some (.ref W),r6]/\AL H4 H'/\Memo Dm (GK t) W H' d ρ/\H' W=some (.lst zs)/\Pf H' zs ((ts.take i).map (Cf t))) ?_ ?_ ?_ ?_⟩
 .refine⟨_,[],[],rfl,e5.trans e6,⟨e6 _ _ h5,.nil,fun q hq=>by cases hq⟩,h6,rfl,fun i q hi=>by cases hi⟩
 .rintro i σ H' _ ⟨r6,ρ,zs,rfl,e,_⟩;exact Aw.of (e _ _ (E4 _ _ hL))
 .rintro i x σ H7 hx ⟨r6,ρ,zs,rfl,e7,U,Y,Z⟩;obtain⟨u,hu,tu,hD,h8,hk⟩:=hall i x hx;have E7:=E4.trans e7;refine⟨_,rfl,.inl ⟨rfl,_,Aw.of Y⟩,_,rfl,_,rfl,_,rfl,D,rvs,GK t,x,u,d,ρ,W,rfl,e7 _ _ hD4,hrw.same e7,ro,tu.same E7,hD,DO.deep u hD,⟨_,Y⟩,U,fun H8 ρ8 l e8 me8 hl8=>?_⟩;have tu8:=(tu.same E7).Bm (e8.Bm U.at_);have hW8:=e8.lst U.at_ Y;have fl8:=Z.Bm (e8.Bm U.at_);have hne:(Fe (GK t) u).length=(t.rs++[t.ls]).length:=(Mf _ _).trans (bT _);have hE8:AL H4 H8:=fun b o z=>e8 _ _ (fun y=>by rw[y,hd]at z;cases z) (e7 _ _ z);refine⟨_,rfl,_,_,_,_,rfl,rfl,Aw.of hl8,i9 (by rw[hne,List.length_append];simp),?_⟩;refine⟨_,rfl,_,rfl,x,u,rfl,tu8,DO.deep u hD,h8,fun H9 e9=>?_⟩;refine⟨Fj t,u.AI,k,rfl,hB,hk,?_⟩;obtain⟨mb,hmb,hpb⟩:=dZ hB hk;refine⟨_,_,mb,rfl,lO hB1 _,hmb,hpb,fun l' H10 e10 hl10=>?_⟩;have g:=e9.trans e10;refine⟨W,zs,.ref l',rfl,rfl,g _ _ hW8,LH ?_,?_⟩
  .rw[Z.1,List.length_map,List.length_take];lia
  .refine⟨_,ρ8,_,rfl,fun b o z=>?_,⟨?_,me8.nd,fun q' hq'=>?_⟩,AW,?_⟩
   .rw[AJ (AY z W4)];exact g _ _ (hE8 _ _ z)
   .rw[AJ hdW];exact g _ _ me8.at_
   .obtain⟨u',l2,k1,k2,k3,k4,k5,k6⟩:=me8.all q' hq';exact⟨u',l2,k1,k2,(k3.same g).Bm (MA.upd (g _ _ hW8)),k4,by rw[AJ k6];exact g _ _ k5,k6⟩
   .rw[List.take_add_one,hu,List.map_append];refine((fl8.Bm (.of g)).snoc (q:=Cf t u) hl10).Bm (MA.upd (g _ _ hW8))
 .rintro σ H7 ⟨r6,ρ,zs,rfl,e7,U,Y,Z⟩;rw[htl,List.take_length]at Z;exact⟨_,rfl,q W H7 zs (E4.trans e7) hWn Y Z.pY⟩
end
section
variable{P:Program}{w:World}{K:Fg}{mg:sD}{base:Heap}{f:AD}{fd:FuncData}
def Rn:Af ["tree"] ["tree"] (AO Es):=B9
def Mu(BD:MD):DF :=
 (BK (Ap Cu (fC (.int 1)) (AQ X5 (AB (Di (Fx 1) F5 (AQ BD (AB (nm 1) AG)) [none,none] (DR (nm 0))) AG))))
def BD:Nat->MD
 |0=>fun _=>none
 |n+1=>Bz ["tree"] ["tree"] (Mu (BD n))
def L4{k:Nat}(g:Fn K mg "knots_within" Es ["tree"] f fd)(B:mg "sum" = none):∀n,
  AK P w K mg base AZ (k+n+1) f fd ["tree"] (A0 (BD n))
 |0=>FQ fun _ _ _ _ ⟨_,_,_,h,_⟩=>by cases h
 |n+1=>by
  have sc:=Rn;have U:=L4 (k:=k) g B n;refine EJ (k:=k+n+1) (F:=Mu (BD n)) g sc fun cdv A outer s H E T=>?_;exact(AN (Au (CL Cq AH (Ca (cA rfl) rfl B bj (AA (Kj [".0","bough"] 1 [none,none] (Cr (AE (pv 0))) (fun _ _ _ _ _=>Gb) (fun _ _ _ _ _=>(AX g U T rfl (AA (AE (pv 1)) AF)))) AF)))))
def PR:Af ["tree","density","bough"] ["tree"] (AO Et):=B9
def Ku(BD:MD)(Ad:MD):DF :=
 (Al (Cd 1 (AQ BD (AB (nm 0) AG)))
 (Al (CP (DR (nm 0)) (HC 2)
  (Cd 1 (Ap MN (nm 1) (AQ Ad (AB (nm 2) AG)))))
 (BK (nm 1))))
def Ad(BD:MD):Nat->MD
 |0=>fun _=>none
 |n+1=>Bz ["tree"] ["tree","density","bough"] (Ku BD (Ad BD n))
def KN{k:Nat}{BD:MD}(B:Fn K mg "density_within" Et ["tree"] f fd)
 {U:AD}{Y:FuncData}(Z:Fn K mg "knots_within" Es ["tree"] U Y)(g:AK P w K mg base AZ k U Y ["tree"] (A0 BD)):∀n,
  AK P w K mg base AZ (k+n+1) f fd ["tree"] (A0 (Ad BD n))
 |0=>FQ fun _ _ _ _ ⟨_,_,_,h,_⟩=>by cases h
 |n+1=>by
  have sc:=PR;have Bp:=KN (k:=k) (BD:=BD) B Z g n;have g:=g.mono (show k<=k+n+1 by lia);refine EJ (k:=k+n+1) (F:=Ku BD (Ad BD n)) B sc fun cdv A outer s H E T=>?_;exact(AR (Bt (i:=1) sc.nd rfl (Or.inl rfl) (AX Z g T rfl (AA (AE (pv 0)) AF)))
 (AR (CO aL rfl (Cr (AE (pv 0))) (Dw (Ax (i:=2) sc.nd rfl (Or.inl rfl)))
  (AN (Bt (i:=1) sc.nd rfl (Or.inl rfl) (CL LQ (AE (pv 1)) (AX B Bp T rfl (AA (AE (pv 2)) AF))))))
 (AN (Au (AE (pv 1))))))
def JI:Af ["boughs"] ["boughs"] (AO G7):=B9
def OQ:DF :=
 (BK (AQ QM (AB (AQ (MT true) (AB (nm 0) AG)) AG)))
def A8:MD:=Bz ["boughs"] ["boughs"] (OQ)
def N2{k:Nat}(F:Fn K mg "in_falling_order" G7 ["boughs"] f fd)(B:mg "sorted" = none)(T:mg "tuple" = none):AK P w K mg base AZ (k+1) f fd ["boughs"] (A0 (A8)):=EJ F JI fun cdv A outer s H E g=>by
 have sc:=JI;exact(AN (Au (OA cw rfl T bC (AA (cq (by have:=g.units;exact this) rfl B (AA (AE (pv 0)) AF) (fun h=>d8 (by have:=g.units;exact this) rfl B h)) AF))))
def N0:Af ["tree","larger","k","bough","grown"] ["tree"] (AO HA):=B9
def Jt(A8:MD)(BM:MD):DF :=
 (Al (Qc 1 (AB (AQ A8 (AB (Ap Cu (nm 0) (A6 (AB (A6 AG) AG))) AG)) AG))
 (Al (CP (Dk Hs (AB (nm 0) AG)) (DH 2 3)
  (CP (DR (AQ BM (AB (nm 3) AG))) (HC 4)
   (QY 1 (AQ A8 (AB (Ap Cu (Ap Cu (ko (nm 0) eo (fD (nm 2))) (A6 (AB (nm 4) AG))) (ko (nm 0) (fD (Ap Cu (nm 2) (fC (.int 1)))) eo)) AG)))))
 (Qr 1)))
def BM(A8:MD):Nat->MD
 |0=>fun _=>none
 |n+1=>Bz ["tree"] ["tree","larger","k","bough","grown"] (Jt A8 (BM A8 n))
def JG{k:Nat}{A8:MD}(T:Fn K mg "trees_one_larger" HA ["tree"] f fd)
 {Y:AD}{Z:FuncData}(U:Fn K mg "in_falling_order" G7 ["boughs"] Y Z)(g:AK P w K mg base AZ k Y Z ["boughs"] (A0 A8))(Be:mg "enumerate" = none):∀n,
  AK P w K mg base AZ (k+n+1) f fd ["tree"] (A0 (BM A8 n))
 |0=>FQ fun _ _ _ _ ⟨_,_,_,h,_⟩=>by cases h
 |n+1=>by
  have sc:=N0;have EG:=JG (k:=k) (A8:=A8) T U g Be n;have g:=g.mono (show k<=k+n+1 by lia);refine EJ (k:=k+n+1) (F:=Jt A8 (BM A8 n)) T sc fun cdv A outer s H E B=>?_;exact(AR (LB (i:=1) sc.nd rfl (Or.inl rfl) (AA (AX U g B rfl (AA (CL Cq (AE (pv 0)) (Aj (AA (Aj AF) AF))) AF)) AF))
 (AR (CO aL rfl (Ki rfl Be (AA (AE (pv 0)) AF)) (Ie (HE rfl (Bo (Ax (i:=2) sc.nd rfl (Or.inl rfl)) (Bo (Ax (i:=3) sc.nd rfl (Or.inl rfl)) F4))))
  (AN (CO aL rfl (Cr (AX T EG B rfl (AA (AE (pv 3)) AF))) (Dw (Ax (i:=4) sc.nd rfl (Or.inl rfl)))
   (AN (Ju (pv 1) (AX U g B rfl (AA (CL Cq (CL Cq (V7 (AE (pv 0)) W3 (W0 (AE (pv 2)))) (Aj (AA (AE (pv 4)) AF))) (V7 (AE (pv 0)) (W0 (CL Cq (AE (pv 2)) AH)) W3)) AF)) (fun ho ha=>Ep (Hw aa az bA FX ho ha)))))))
 (AN (PB (pv 1)))))
def Pg:Af ["many","trees","knots","larger","tree"] ["many"] (AO Ia):=B9
def Yu(BM:MD):DF :=
 (Al (DM (HW (Bj (IH fun i j=>decide (i<j)) (nm 0) (fC (.int 1))) (Bj (IH fun i j=>decide (j<i)) (nm 0) (fC (.int 7))))
  RG
  Bq)
 (Al (Cd 1 (CY (AB (A6 AG) AG)))
 (Al (CP (Dk S5 (AB (fC (.int 1)) (AB (nm 0) AG))) (HC 2)
  (Al (Qc 3 AG)
  (Al (CP (DR (nm 1)) (HC 4)
   (dm 3 (AQ BM (AB (nm 4) AG))))
  (Yr 3 (Cd 1 (fun δ=>((nm 3) δ).bind QR))))))
 (BK (nm 1)))))
def BP(BM:MD):MD:=Bz ["many"] ["many","trees","knots","larger","tree"] (Yu BM)
def Wf{k:Nat}{BM:MD}(F:Fn K mg "trees_of" Ia ["many"] f fd) {T:AD}{U:FuncData}(CJ:Fn K mg "trees_one_larger" HA ["tree"] T U)(EG:AK P w K mg base AZ k T U ["tree"] (A0 BM))(B1:mg "range" = none)(Z:mg "set" = none)(Fh:mg "sorted" = none){g:Tok}(Fs:mg "MOST_KNOTS" = some (.int 7 g)):AK P w K mg base AZ (k+1) f fd ["many"] (A0 (BP BM)):=EJ F Pg fun cdv A outer s H E B=>by
 have sc:=Pg;exact(AR (B8 (DW.dt (D0 (BL PH (AE (pv 0)) AH (Ak _)) (Dp (BL RH (AE (pv 0)) (Gs rfl Fs) (Ak _)))))
  (AN M6)
  BR)
 (AR (Bt (i:=1) sc.nd rfl (Or.inl rfl) (BU (AA (Aj AF) AF)))
 (AR (CO aL rfl (Li rfl B1 (AA AH (AA (AE (pv 0)) AF))) (Dw (Ax (i:=2) sc.nd rfl (Or.inl rfl)))
  (AR (LB (i:=3) sc.nd rfl (Or.inl rfl) AF)
  (AR (CO aL rfl (Cr (AE (pv 1))) (Dw (Ax (i:=4) sc.nd rfl (Or.inl rfl)))
   (AN (OT (pv 3) (AX CJ EG B rfl (AA (AE (pv 4)) AF)) (fun Y ha=>Ep (Hw aa PySem.F.slot_list_extend PySem.F.type_list_extend Lh Y ha)))))
  (AN (RX 3 (Bt (i:=1) sc.nd rfl (Or.inl rfl) (Yz rfl (by have:=B.units;exact this) rfl Fh rfl Z (AE (pv 3)))))))))
 (AN (Au (AE (pv 1)))))))
def Pj:Af ["most","trees","many"] ["most"] (AO Ka):=B9
def Yv(BP:MD):DF :=
 (Al (DM (HW (Bj (IH fun i j=>decide (i<j)) (nm 0) (fC (.int 0))) (Bj (IH fun i j=>decide (j<i)) (nm 0) (fC (.int 7))))
  RG
  Bq)
 (Al (Qc 1 AG)
 (Al (CP (Dk S5 (AB (fC (.int 1)) (AB (Ap Cu (nm 0) (fC (.int 1))) AG))) (HC 2)
  (dm 1 (AQ BP (AB (nm 2) AG))))
 (Qr 1))))
def B7(BP:MD):MD:=Bz ["most"] ["most","trees","many"] (Yv BP)
def Wn{k:Nat}{BP:MD}(F:Fn K mg "trees_to" Ka ["most"] f fd) {B:AD}{T:FuncData}(Dy:Fn K mg "trees_of" Ia ["many"] B T)(Eb:AK P w K mg base AZ k B T ["many"] (A0 BP))(B1:mg "range" = none){g:Tok}(Z:mg "MOST_KNOTS" = some (.int 7 g)):AK P w K mg base AZ (k+1) f fd ["most"] (A0 (B7 BP)):=EJ F Pj fun cdv A outer s H E U=>by
 have sc:=Pj;exact(AR (B8 (DW.dt (D0 (BL PH (AE (pv 0)) AH (Ak _)) (Dp (BL RH (AE (pv 0)) (Gs rfl Z) (Ak _)))))
  (AN M6)
  BR)
 (AR (LB (i:=1) sc.nd rfl (Or.inl rfl) AF)
 (AR (CO aL rfl (Li rfl B1 (AA AH (AA (CL Cq (AE (pv 0)) AH) AF))) (Dw (Ax (i:=2) sc.nd rfl (Or.inl rfl)))
  (AN (OT (pv 1) (AX Dy Eb U rfl (AA (AE (pv 2)) AF)) (fun Y ha=>Ep (Hw aa PySem.F.slot_list_extend PySem.F.type_list_extend Lh Y ha)))))
 (AN (PB (pv 1))))))
def P4:Af ["thing"] ["thing"] (AO KU):=B9
def YN:DF :=
 (BK (MG (Gx WQ (nm 0)) (jJ (Gx Sy (nm 0)))))
def Bd:MD:=Bz ["thing"] ["thing"] (YN)
def Wl{k:Nat}(F:Fn K mg "is_whole" KU ["thing"] f fd)(T:mg "bool" = none)(B:mg "int" = none)(g:mg "isinstance" = none):AK P w K mg base AZ (k+1) f fd ["thing"] (A0 (Bd)):=EJ F P4 fun cdv A outer s H E U=>by
 have sc:=P4;exact(AN (Au (Iw (EA (Vn _) rfl g rfl B PyProof.Rows.boot_int (AE (pv 0))) (Kp (bq (EA (Tz _) rfl g rfl T PyProof.Rows.boot_bool (AE (pv 0))))))))
def MW:Af ["thing"] ["thing"] (AO Hx):=B9
def Nm(g:MD)(Bd:MD):DF :=
 (Al (DM (HW (Gk (Ft (Gx Jx (nm 0)))) (Bj (Cs true) (AQ GG (AB (nm 0) AG)) (fC (.int 2))))
  (BK (fC (.bool false)))
  Bq)
 (Al (DM (HW (Gk (Ft (AQ Bd (AB (Ap Bi (nm 0) (fC (.int 0))) AG)))) (Gk (Ft (AQ Bd (AB (Ap Bi (nm 0) (fC (.int 1))) AG)))))
  (BK (fC (.bool false)))
  Bq)
 (BK (MG (Ap (IH fun i j=>decide (j<=i)) (Ap Bi (nm 0) (fC (.int 1))) (fC (.int 1))) (Ap (Cs false) (AQ g (AB (Ap Bi (nm 0) (fC (.int 0))) (AB (Ap Bi (nm 0) (fC (.int 1))) AG))) (fC (.int 1)))))))
def BZ(g:MD)(Bd:MD):MD:=Bz ["thing"] ["thing"] (Nm g Bd)
def Sk{k:Nat}{DD:MD}{Bd:MD}(F:Fn K mg "is_fraction" Hx ["thing"] f fd) {B:AD}{T:FuncData}(BI:Fn K mg "greatest_divisor" C6 ["one","other"] B T)(Bx:AK P w K mg base AZ k B T ["one","other"] (A0 DD)) {U:AD}{Y:FuncData}(Fc:Fn K mg "is_whole" KU ["thing"] U Y)(Z:AK P w K mg base AZ k U Y ["thing"] (A0 Bd))(Ae:mg "isinstance" = none)(BS:mg "len" = none)(CT:mg "tuple" = none):AK P w K mg base AZ (k+1) f fd ["thing"] (A0 (BZ DD Bd)):=EJ F MW fun cdv A outer s H E g=>by
 have sc:=MW;exact(AR (B8 (DW.dt (D0 (EB (DX (EA (ID _) rfl Ae rfl CT bC (AE (pv 0))))) (Dp (BL (GB (by have:=g.units;exact this)) (Ca FU rfl BS ag (AA (AE (pv 0)) AF)) AH (Ak _)))))
  (AN (Au DQ))
  BR)
 (AR (B8 (DW.dt (D0 (EB (DX (AX Fc Z g rfl (AA (BE (AE (pv 0)) AH (fun _ _=>rfl)) AF)))) (Dp (EB (DX (AX Fc Z g rfl (AA (BE (AE (pv 0)) AH (fun _ _=>rfl)) AF)))))))
  (AN (Au DQ))
  BR)
 (AN (Au (Iw (Ir oQ (BE (AE (pv 0)) AH (fun _ _=>rfl)) AH (Ak _)) (Kp (Ir (HS (by have:=g.units;exact this)) (AX BI Bx g rfl (AA (BE (AE (pv 0)) AH (fun _ _=>rfl)) (AA (BE (AE (pv 0)) AH (fun _ _=>rfl)) AF))) AH (Ak _))))))))
def Kv:Af ["thing","part"] ["thing"] (AO Gn):=B9
def Lb(BZ:MD):DF :=
 (Al (DM (Gk (Ft (Gx LG (nm 0))))
  (BK (fC (.bool false)))
  Bq)
 (Al (CP (DR (nm 0)) (HC 1)
  (DM (Gk (Ft (AQ BZ (AB (nm 1) AG))))
   (BK (fC (.bool false)))
   Bq))
 (BK (fC (.bool true)))))
def BG(BZ:MD):MD:=Bz ["thing"] ["thing","part"] (Lb BZ)
def Qh{k:Nat}{BZ:MD}(F:Fn K mg "are_fractions" Gn ["thing"] f fd) {g:AD}{B:FuncData}(Y:Fn K mg "is_fraction" Hx ["thing"] g B)(U:AK P w K mg base AZ k g B ["thing"] (A0 BZ))(Ae:mg "isinstance" = none)(Z:mg "list" = none):AK P w K mg base AZ (k+1) f fd ["thing"] (A0 (BG BZ)):=EJ F Kv fun cdv A outer s H E T=>by
 have sc:=Kv;exact(AR (B8 (EB (DX (EA (JN _) rfl Ae rfl Z bF (AE (pv 0)))))
  (AN (Au DQ))
  BR)
 (AR (CO aL rfl (Cr (AE (pv 0))) (Dw (Ax (i:=1) sc.nd rfl (Or.inl rfl)))
  (AN (B8 (EB (DX (AX Y U T rfl (AA (AE (pv 1)) AF))))
   (AN (Au DQ))
   BR)))
 (AN (Au DQ))))
def P9:Af ["thing","k","row"] ["thing"] (AO NS):=B9
def RT(BG:MD):DF :=
 (Al (DM (HW (Gk (Ft (Gx LG (nm 0)))) (HW (Bj (IH fun i j=>decide (i<j)) (AQ GG (AB (nm 0) AG)) (fC (.int 1))) (Bj (IH fun i j=>decide (j<i)) (AQ GG (AB (nm 0) AG)) (fC (.int 40)))))
  (BK (fC (.bool false)))
  Bq)
 (Al (CP (Dk Hs (AB (nm 0) AG)) (DH 1 2)
  (DM (HW (Gk (Ft (AQ BG (AB (nm 2) AG)))) (Bj (Cs true) (AQ GG (AB (nm 2) AG)) (nm 1)))
   (BK (fC (.bool false)))
   Bq))
 (BK (fC (.bool true)))))
def Eh(BG:MD):MD:=Bz ["thing"] ["thing","k","row"] (RT BG)
def Wk{k:Nat}{BG:MD}(F:Fn K mg "are_rows" NS ["thing"] f fd) {U:AD}{Y:FuncData}(Dc:Fn K mg "are_fractions" Gn ["thing"] U Y)(EU:AK P w K mg base AZ k U Y ["thing"] (A0 BG))(Be:mg "enumerate" = none)(Ae:mg "isinstance" = none)(B:mg "len" = none)(CC:mg "list" = none){g:Tok}(Z:mg "MOST_ROWS" = some (.int 40 g)):AK P w K mg base AZ (k+1) f fd ["thing"] (A0 (Eh BG)):=EJ F P9 fun cdv A outer s H E T=>by
 have sc:=P9;exact(AR (B8 (DW.dt (D0 (EB (DX (EA (JN _) rfl Ae rfl CC bF (AE (pv 0))))) (D0 (BL PH (Ca FU rfl B ag (AA (AE (pv 0)) AF)) AH (Ak _)) (Dp (BL RH (Ca FU rfl B ag (AA (AE (pv 0)) AF)) (Gs rfl Z) (Ak _))))))
  (AN (Au DQ))
  BR)
 (AR (CO aL rfl (Ki rfl Be (AA (AE (pv 0)) AF)) (Ie (HE rfl (Bo (Ax (i:=1) sc.nd rfl (Or.inl rfl)) (Bo (Ax (i:=2) sc.nd rfl (Or.inl rfl)) F4))))
  (AN (B8 (DW.dt (D0 (EB (DX (AX Dc EU T rfl (AA (AE (pv 2)) AF)))) (Dp (BL (GB (by have:=T.units;exact this)) (Ca FU rfl B ag (AA (AE (pv 2)) AF)) (AE (pv 1)) (Ak _)))))
   (AN (Au DQ))
   BR)))
 (AN (Au DQ))))
def Pz:Af ["thing"] ["thing"] (AO NO):=B9
def RS(BG:MD)(Eh:MD):DF :=
 (Al (DM (HW (Gk (Ft (Gx Jx (nm 0)))) (Bj (Cs true) (AQ GG (AB (nm 0) AG)) (fC (.int 2))))
  (BK (fC (.bool false)))
  Bq)
 (BK (MG (AQ Eh (AB (Ap Bi (nm 0) (fC (.int 0))) AG)) (MG (AQ BG (AB (Ap Bi (nm 0) (fC (.int 1))) AG)) (Ap (Cs false) (AQ GG (AB (Ap Bi (nm 0) (fC (.int 1))) AG)) (AQ GG (AB (Ap Bi (nm 0) (fC (.int 0))) AG)))))))
def Ec(BG:MD)(Eh:MD):MD:=Bz ["thing"] ["thing"] (RS BG Eh)
def Wd{k:Nat}{BG:MD}{Eh:MD}(F:Fn K mg "is_table" NO ["thing"] f fd) {Y:AD}{Z:FuncData}(Dc:Fn K mg "are_fractions" Gn ["thing"] Y Z)(EU:AK P w K mg base AZ k Y Z ["thing"] (A0 BG)) {T:AD}{U:FuncData}(KO:Fn K mg "are_rows" NS ["thing"] T U)(NH:AK P w K mg base AZ k T U ["thing"] (A0 Eh))(Ae:mg "isinstance" = none)(B:mg "len" = none)(CT:mg "tuple" = none):AK P w K mg base AZ (k+1) f fd ["thing"] (A0 (Ec BG Eh)):=EJ F Pz fun cdv A outer s H E g=>by
 have sc:=Pz;exact(AR (B8 (DW.dt (D0 (EB (DX (EA (ID _) rfl Ae rfl CT bC (AE (pv 0))))) (Dp (BL (GB (by have:=g.units;exact this)) (Ca FU rfl B ag (AA (AE (pv 0)) AF)) AH (Ak _)))))
  (AN (Au DQ))
  BR)
 (AN (Au (Iw (AX KO NH g rfl (AA (BE (AE (pv 0)) AH (fun _ _=>rfl)) AF)) (Iw (AX Dc EU g rfl (AA (BE (AE (pv 0)) AH (fun _ _=>rfl)) AF)) (Kp (Ir (HS (by have:=g.units;exact this)) (Ca FU rfl B ag (AA (BE (AE (pv 0)) AH (fun _ _=>rfl)) AF)) (Ca FU rfl B ag (AA (BE (AE (pv 0)) AH (fun _ _=>rfl)) AF)) (Ak _))))))))
def Jl:Af ["thing"] ["thing"] (AO Fm):=B9
def Hc(Ec:MD):DF :=
 (DM (Gk (Ft (AQ Ec (AB (nm 0) AG))))
  RG
  Bq)
def A7(Ec:MD):MD:=Bz ["thing"] ["thing"] (Hc Ec)
def OO{k:Nat}{Ec:MD}(F:Fn K mg "refuse_no_table" Fm ["thing"] f fd) {g:AD}{B:FuncData}(Y:Fn K mg "is_table" NO ["thing"] g B)(U:AK P w K mg base AZ k g B ["thing"] (A0 Ec)):AK P w K mg base AZ (k+1) f fd ["thing"] (A0 (A7 Ec)):=EJ F Jl fun cdv A outer s H E T=>by
 have sc:=Jl;exact(AN (B8 (EB (DX (AX Y U T rfl (AA (AE (pv 0)) AF))))
  (AN M6)
  BR))
def Iy:Af ["table"] ["table"] (AO E8):=B9
def Gj(A7:MD):DF :=
 (Al (Ru (AQ A7 (AB (nm 0) AG)))
 (DM (Bj (IH fun i j=>decide (j<i)) (AQ GG (AB (Ap Bi (nm 0) (fC (.int 0))) AG)) (fC (.int 5)))
  RG
  Bq))
def Ay(A7:MD):MD:=Bz ["table"] ["table"] (Gj A7)
def NU{k:Nat}{A7:MD}(F:Fn K mg "refuse_no_judging" E8 ["table"] f fd) {B:AD}{T:FuncData}(Ct:Fn K mg "refuse_no_table" Fm ["thing"] B T)(Z:AK P w K mg base AZ k B T ["thing"] (A0 A7))(BS:mg "len" = none){g:Tok}(Y:mg "MOST_JUDGED_ROWS" = some (.int 5 g)):AK P w K mg base AZ (k+1) f fd ["table"] (A0 (Ay A7)):=EJ F Iy fun cdv A outer s H E U=>by
 have sc:=Iy;exact(AR (O9 (AX Ct Z U rfl (AA (AE (pv 0)) AF)))
 (AN (B8 (BL RH (Ca FU rfl BS ag (AA (BE (AE (pv 0)) AH (fun _ _=>rfl)) AF)) (Gs rfl Y) (Ak _))
  (AN M6)
  BR)))
def Ls:Af ["trees"] ["trees"] (AO JP):=B9
def Mt(Ad:MD):DF :=
 (X4 (GA (Fx 1) F5 (A6 (AB (fC (.int 1)) (AB (AQ Ad (AB (nm 1) AG)) AG))) [none,none] (DR (nm 0))))
def Cp(Ad:MD):MD:=Bz ["trees"] ["trees"] (Mt Ad)
def Qq{k:Nat}{Ad:MD}(F:Fn K mg "true_weights" JP ["trees"] f fd) {g:AD}{B:FuncData}(Y:Fn K mg "density_within" Et ["tree"] g B)(U:AK P w K mg base AZ k g B ["tree"] (A0 Ad)):AK P w K mg base AZ (k+1) f fd ["trees"] (A0 (Cp Ad)):=EJ F Ls fun cdv A outer s H E T=>by
 have sc:=Ls;exact(AN (gb [".0","tree"] 1 [none,none] (Cr (AE (pv 0))) (fun _ _ _ _ _=>Gb) (fun _ _ _ _ _=>(Aj (AA AH (AA (AX Y U T rfl (AA (AE (pv 1)) AF)) AF))))))
def Lg:Af ["trees","one","other","tree","weight","due"] ["trees","one","other"] (AO JU):=B9
def MR:DF :=
 (Al (CP (Dk SA (AB (nm 0) (AB (nm 1) (AB (nm 2) AG)))) (Vv 3 4 5)
  (DM (Bj (Cs true) (nm 4) (nm 5))
   (BK (nm 3))
   Bq))
 (BK (fC .none)))
def Bu:MD:=Bz ["trees","one","other"] ["trees","one","other","tree","weight","due"] (MR)
def Rp{k:Nat}(F:Fn K mg "first_unlike" JU ["trees","one","other"] f fd)(B:mg "zip" = none):AK P w K mg base AZ (k+1) f fd ["trees","one","other"] (A0 (Bu)):=EJ F Lg fun cdv A outer s H E g=>by
 have sc:=Lg;exact(AR (CO aL rfl (gr rfl B (AA (AE (pv 0)) (AA (AE (pv 1)) (AA (AE (pv 2)) AF)))) (dU (HE rfl (Bo (Ax (i:=3) sc.nd rfl (Or.inl rfl)) (Bo (Ax (i:=4) sc.nd rfl (Or.inl rfl)) (Bo (Ax (i:=5) sc.nd rfl (Or.inl rfl)) F4)))))
  (AN (B8 (BL (GB (by have:=g.units;exact this)) (AE (pv 4)) (AE (pv 5)) (Ak _))
   (AN (Au (AE (pv 3))))
   BR)))
 (AN (Au Hl)))
def MX:Af ["table","order","trees","tree"] ["table"] (AO GR):=B9
def NZ(Bu:MD)(A7:MD)(BP:MD)(Cp:MD)(g:MD):DF :=
 (Al (Ru (AQ A7 (AB (nm 0) AG)))
 (Al (CP (Dk V5 (AB (fC (.int 6)) AG)) (HC 1)
  (Al (Cd 2 (AQ BP (AB (Ap Cu (nm 1) (fC (.int 1))) AG)))
  (Al (Cd 3 (AQ Bu (AB (nm 2) (AB (AQ g (AB (nm 0) (AB (nm 2) AG))) (AB (AQ Cp (AB (nm 2) AG)) AG)))))
  (DM (Bj (Oe true) (nm 3) (fC .none))
   (BK (A6 (AB (nm 1) (AB (nm 3) AG))))
   Bq))))
 (BK (A6 (AB (fC (.int 6)) (AB (fC .none) AG))))))
def Bn(Bu:MD)(A7:MD)(BP:MD)(Cp:MD)(g:MD):MD:=Bz ["table"] ["table","order","trees","tree"] (NZ Bu A7 BP Cp g)
def Sv{k:Nat}{Bu:MD}{A7:MD}{BP:MD}{Cp:MD}{Az:MD}(F:Fn K mg "table_order" GR ["table"] f fd) {T:AD}{Y:FuncData}(HG:Fn K mg "first_unlike" JU ["trees","one","other"] T Y)(JT:AK P w K mg base AZ k T Y ["trees","one","other"] (A0 Bu)) {Ea:AD}{EI:FuncData}(Ct:Fn K mg "refuse_no_table" Fm ["thing"] Ea EI)(De:AK P w K mg base AZ k Ea EI ["thing"] (A0 A7)) {FZ:AD}{En:FuncData}(Dy:Fn K mg "trees_of" Ia ["many"] FZ En)(Eb:AK P w K mg base AZ k FZ En ["many"] (A0 BP)) {U:AD}{Z:FuncData}(HV:Fn K mg "true_weights" JP ["trees"] U Z)(JQ:AK P w K mg base AZ k U Z ["trees"] (A0 Cp)) {Cw:AD}{Cg:FuncData}(CI:Fn K mg "weights_under" FR ["table","trees"] Cw Cg)(Cb:AK P w K mg base AZ k Cw Cg ["table","trees"] (A0 Az))(B1:mg "range" = none){g:Tok}(C1:mg "MOST_ORDER" = some (.int 6 g)):AK P w K mg base AZ (k+1) f fd ["table"] (A0 (Bn Bu A7 BP Cp Az)):=EJ F MX fun cdv A outer s H E B=>by
 have sc:=MX;exact(AR (O9 (AX Ct De B rfl (AA (AE (pv 0)) AF)))
 (AR (CO aL rfl (TY rfl B1 (AA (Gs rfl C1) AF)) (Dw (Ax (i:=1) sc.nd rfl (Or.inl rfl)))
  (AR (Bt (i:=2) sc.nd rfl (Or.inl rfl) (AX Dy Eb B rfl (AA (CL Cq (AE (pv 1)) AH) AF)))
  (AR (Bt (i:=3) sc.nd rfl (Or.inl rfl) (AX HG JT B rfl (AA (AE (pv 2)) (AA (AX CI Cb B rfl (AA (AE (pv 0)) (AA (AE (pv 2)) AF))) (AA (AX HV JQ B rfl (AA (AE (pv 2)) AF)) AF)))))
  (AN (B8 (BL Vy (AE (pv 3)) Hl (Ak _))
   (AN (Au (Aj (AA (AE (pv 1)) (AA (AE (pv 3)) AF)))))
   BR)))))
 (AN (Au (Aj (AA (Gs rfl C1) (AA Hl AF)))))))
def Je:Af ["table","trees"] ["table","trees"] (AO Kb):=B9
def Q7(g:MD):DF :=
 (BK (fun δ=>((AB (nm 1) (AB (AQ g (AB (nm 0) (AB (nm 1) AG))) AG)) δ).bind Y0))
def Ee(g:MD):MD:=Bz ["table","trees"] ["table","trees"] (Q7 g)
def We{k:Nat}{T:MD}(F:Fn K mg "lines_of" Kb ["table","trees"] f fd) {g:AD}{B:FuncData}(CI:Fn K mg "weights_under" FR ["table","trees"] g B)(Z:AK P w K mg base AZ k g B ["table","trees"] (A0 T))(CC:mg "list" = none)(Y:mg "zip" = none):AK P w K mg base AZ (k+1) f fd ["table","trees"] (A0 (Ee T)):=EJ F Je fun cdv A outer s H E U=>by
 have sc:=Je;exact(AN (Au (nV rfl rfl CC rfl Y (AA (AE (pv 1)) (AA (AX CI Z U rfl (AA (AE (pv 0)) (AA (AE (pv 1)) AF))) AF)))))
def PU:Af ["tree","parents","bough","number"] ["tree"] (AO II):=B9
def K0(BF:MD):DF :=
 (Al (Qc 1 AG)
 (Al (CP (DR (nm 0)) (HC 2)
  (Al (Cd 3 (Ap Cu (iU 1) (fC (.int 1))))
  (Al (QY 1 (fC (.int 0)))
  (dm 1 (Di (Fx 1) F5 (Ap Cu (nm 2) (nm 1)) [none,none,some 3] (DR (AQ BF (AB (nm 2) AG))))))))
 (Qr 1)))
def BF:Nat->MD
 |0=>fun _=>none
 |n+1=>Bz ["tree"] ["tree","parents","bough","number"] (K0 (BF n))
def KH{k:Nat}(B:Fn K mg "parents_within" II ["tree"] f fd)(T:mg "len" = none):∀n,
  AK P w K mg base AZ (k+n+1) f fd ["tree"] (A0 (BF n))
 |0=>FQ fun _ _ _ _ ⟨_,_,_,h,_⟩=>by cases h
 |n+1=>by
  have sc:=PU;have Y:=KH (k:=k) B T n;refine EJ (k:=k+n+1) (F:=K0 (BF n)) B sc fun cdv A outer s H E U=>?_;exact(AR (LB (i:=1) sc.nd rfl (Or.inl rfl) AF)
 (AR (CO aL rfl (Cr (AE (pv 0))) (Dw (Ax (i:=2) sc.nd rfl (Or.inl rfl)))
  (AR (Bt (i:=3) sc.nd rfl (Or.inr rfl) (CL Cq (cJ (pv 1) rfl T) AH))
  (AR (Ju (pv 1) AH (fun g ha=>Ep (Hw aa az bA FX g ha)))
  (AN (OT (pv 1) (Kj [".0","parent","number"] 1 [none,none,some 3] (Cr (AX B Y U rfl (AA (AE (pv 2)) AF))) (fun _ _ _ _ _=>Gb) (fun _ _ _ _ _=>(CL Cq (AE (pv 2)) (AE (pv 1))))) (fun g ha=>Ep (Hw aa PySem.F.slot_list_extend PySem.F.type_list_extend Lh g ha)))))))
 (AN (PB (pv 1)))))
def LV:Af ["table","tree","ways","parent","longer","way","share","k","part"] ["table","tree"] (AO Gp):=B9
def Ln(g:MD)(B:MD)(BF:MD):DF :=
 (Al (Cd 2 (Di (DH 1 2) F5 (A6 (AB (A6 (AB (nm 1) AG)) (AB (nm 2) AG))) [none,none,none] (Dk Hs (AB (Ap Bi (nm 0) (fC (.int 1))) AG))))
 (Al (CP (DR (AQ BF (AB (nm 1) AG))) (HC 3)
  (Al (Qc 4 AG)
  (Al (CP (DR (nm 2)) (DH 5 6)
   (CP (Dk Hs (AB (Ap Bi (Ap Bi (nm 0) (fC (.int 0))) (Ap Bi (nm 5) (nm 3))) AG)) (DH 7 8)
    (QY 4 (A6 (AB (Ap Cu (nm 5) (A6 (AB (nm 7) AG))) (AB (AQ g (AB (nm 6) (AB (nm 8) AG))) AG))))))
  (Yr 4 (Cd 2 (nm 4))))))
 (BK (AQ B (AB (Di (DH 1 2) F5 (nm 2) [none,none,none] (DR (nm 2))) AG)))))
def BH(g:MD)(B:MD)(BF:MD):MD:=Bz ["table","tree"] ["table","tree","ways","parent","longer","way","share","k","part"] (Ln g B BF)
def QF{k:Nat}{Fw:MD}{Fu:MD}{BF:MD}(F:Fn K mg "walked_weight" Gp ["table","tree"] f fd) {B:AD}{U:FuncData}(IU:Fn K mg "frac_times" LK ["one","other"] B U)(LJ:AK P w K mg base AZ k B U ["one","other"] (A0 Fw)) {Y:AD}{T:FuncData}(Iu:Fn K mg "frac_total" K3 ["some"] Y T)(LR:AK P w K mg base AZ k Y T ["some"] (A0 Fu)) {Z:AD}{KA:FuncData}(Cj:Fn K mg "parents_within" II ["tree"] Z KA)(Ew:AK P w K mg base AZ k Z KA ["tree"] (A0 BF))(Be:mg "enumerate" = none):AK P w K mg base AZ (k+1) f fd ["table","tree"] (A0 (BH Fw Fu BF)):=EJ F LV fun cdv A outer s H E g=>by
 have sc:=LV;exact(AR (Pk (i:=2) [".0","k","part"] 1 2 [none,none,none] sc.nd rfl rfl (Ki rfl Be (AA (BE (AE (pv 0)) AH (fun _ _=>rfl)) AF)) (fun _ _ _ _ _=>Gb) (fun _ _ _ _ _=>(Aj (AA (Aj (AA (AE (pv 1)) AF)) (AA (AE (pv 2)) AF)))))
 (AR (CO aL rfl (Cr (AX Cj Ew g rfl (AA (AE (pv 1)) AF))) (Dw (Ax (i:=3) sc.nd rfl (Or.inl rfl)))
  (AR (LB (i:=4) sc.nd rfl (Or.inl rfl) AF)
  (AR (CO aL rfl (Cr (AE (pv 2))) (Ie (HE rfl (Bo (Ax (i:=5) sc.nd rfl (Or.inl rfl)) (Bo (Ax (i:=6) sc.nd rfl (Or.inl rfl)) F4))))
   (AN (CO aL rfl (Ki rfl Be (AA (BE (BE (AE (pv 0)) AH (fun _ _=>rfl)) (BE (AE (pv 5)) (AE (pv 3)) (fun _ _=>rfl)) (fun _ _=>rfl)) AF)) (Ie (HE rfl (Bo (Ax (i:=7) sc.nd rfl (Or.inl rfl)) (Bo (Ax (i:=8) sc.nd rfl (Or.inl rfl)) F4))))
    (AN (Ju (pv 4) (Aj (AA (CL Cq (AE (pv 5)) (Aj (AA (AE (pv 7)) AF))) (AA (AX IU LJ g rfl (AA (AE (pv 6)) (AA (AE (pv 8)) AF))) AF))) (fun ho ha=>Ep (Hw aa az bA FX ho ha)))))))
  (AN (RX 4 (Bt (i:=2) sc.nd rfl (Or.inl rfl) (AE (pv 4))))))))
 (AN (Au (AX Iu LR g rfl (AA (QW [".0","way","share"] 1 2 [none,none,none] (Cr (AE (pv 2))) (fun _ _ _ _ _=>Gb) (fun _ _ _ _ _=>(AE (pv 2)))) AF))))))
def Rc:Af ["thing","trees"] ["thing","trees"] (AO Lc):=B9
def Th(BZ:MD):DF :=
 (Al (DM (HW (Gk (Ft (Gx Jx (nm 0)))) (Bj (Cs true) (AQ GG (AB (nm 0) AG)) (fC (.int 2))))
  (BK (fC (.bool false)))
  Bq)
 (BK (MG (Ap YU (Ap Bi (nm 0) (fC (.int 0))) (nm 1)) (AQ BZ (AB (Ap Bi (nm 0) (fC (.int 1))) AG)))))
def CV(BZ:MD):MD:=Bz ["thing","trees"] ["thing","trees"] (Th BZ)
def YW{k:Nat}{BZ:MD}(F:Fn K mg "is_line" Lc ["thing","trees"] f fd) {B:AD}{T:FuncData}(Y:Fn K mg "is_fraction" Hx ["thing"] B T)(U:AK P w K mg base AZ k B T ["thing"] (A0 BZ))(Ae:mg "isinstance" = none)(BS:mg "len" = none)(Z:mg "tuple" = none):AK P w K mg base AZ (k+1) f fd ["thing","trees"] (A0 (CV BZ)):=EJ F Rc fun cdv A outer s H E g=>by
 have sc:=Rc;exact(AR (B8 (DW.dt (D0 (EB (DX (EA (ID _) rfl Ae rfl Z bC (AE (pv 0))))) (Dp (BL (GB (by have:=g.units;exact this)) (Ca FU rfl BS ag (AA (AE (pv 0)) AF)) AH (Ak _)))))
  (AN (Au DQ))
  BR)
 (AN (Au (Iw (Ir (jb (by have:=g.units;exact this)) (BE (AE (pv 0)) AH (fun _ _=>rfl)) (AE (pv 1)) rfl) (Kp (AX Y U g rfl (AA (BE (AE (pv 0)) AH (fun _ _=>rfl)) AF)))))))
def KG:Af ["table","trees","lines","tree","line"] ["table","trees","lines"] (AO IK):=B9
def Kl(Ad:MD)(CV:MD)(BH:MD):DF :=
 (Al (DM (HW (Gk (Ft (Gx LG (nm 2)))) (Bj (Cs true) (AQ GG (AB (nm 2) AG)) (AQ GG (AB (nm 1) AG))))
  (BK (fC (.bool false)))
  Bq)
 (Al (CP (Dk zip2 (AB (nm 1) (AB (nm 2) AG))) (DH 3 4)
  (DM (HW (Gk (Ft (AQ CV (AB (nm 4) (AB (CY (AB (nm 3) AG)) AG))))) (HW (Bj (Cs true) (Ap Bi (nm 4) (fC (.int 1))) (A6 (AB (fC (.int 1)) (AB (AQ Ad (AB (nm 3) AG)) AG)))) (Bj (Cs true) (Ap Bi (nm 4) (fC (.int 1))) (AQ BH (AB (nm 0) (AB (nm 3) AG))))))
   (BK (fC (.bool false)))
   Bq))
 (BK (fC (.bool true)))))
def CM(Ad:MD)(CV:MD)(BH:MD):MD:=Bz ["table","trees","lines"] ["table","trees","lines","tree","line"] (Kl Ad CV BH)
def PN{k:Nat}{Ad:MD}{CV:MD}{BH:MD}(F:Fn K mg "are_true_lines" IK ["table","trees","lines"] f fd) {Z:AD}{CU:FuncData}(BQ:Fn K mg "density_within" Et ["tree"] Z CU)(Bp:AK P w K mg base AZ k Z CU ["tree"] (A0 Ad)) {B:AD}{T:FuncData}(G5:Fn K mg "is_line" Lc ["thing","trees"] B T)(IM:AK P w K mg base AZ k B T ["thing","trees"] (A0 CV)) {U:AD}{Y:FuncData}(DZ:Fn K mg "walked_weight" Gp ["table","tree"] U Y)(EM:AK P w K mg base AZ k U Y ["table","tree"] (A0 BH))(Ae:mg "isinstance" = none)(BS:mg "len" = none)(CC:mg "list" = none)(DV:mg "zip" = none):AK P w K mg base AZ (k+1) f fd ["table","trees","lines"] (A0 (CM Ad CV BH)):=EJ F KG fun cdv A outer s H E g=>by
 have sc:=KG;exact(AR (B8 (DW.dt (D0 (EB (DX (EA (JN _) rfl Ae rfl CC bF (AE (pv 2))))) (Dp (BL (GB (by have:=g.units;exact this)) (Ca FU rfl BS ag (AA (AE (pv 2)) AF)) (Ca FU rfl BS ag (AA (AE (pv 1)) AF)) (Ak _)))))
  (AN (Au DQ))
  BR)
 (AR (CO aL rfl (ZE rfl DV (AA (AE (pv 1)) (AA (AE (pv 2)) AF))) (Ie (HE rfl (Bo (Ax (i:=3) sc.nd rfl (Or.inl rfl)) (Bo (Ax (i:=4) sc.nd rfl (Or.inl rfl)) F4))))
  (AN (B8 (DW.dt (D0 (EB (DX (AX G5 IM g rfl (AA (AE (pv 4)) (AA (BU (AA (AE (pv 3)) AF)) AF))))) (D0 (BL (GB (by have:=g.units;exact this)) (BE (AE (pv 4)) AH (fun _ _=>rfl)) (Aj (AA AH (AA (AX BQ Bp g rfl (AA (AE (pv 3)) AF)) AF))) (Ak _)) (Dp (BL (GB (by have:=g.units;exact this)) (BE (AE (pv 4)) AH (fun _ _=>rfl)) (AX DZ EM g rfl (AA (AE (pv 0)) (AA (AE (pv 3)) AF))) (Ak _))))))
   (AN (Au DQ))
   BR)))
 (AN (Au DQ))))
def Nq:Af ["table","order","odd"] ["table","order","odd"] (AO K9):=B9
def Oj(Ad:MD)(CV:MD)(BP:MD)(BH:MD):DF :=
 (Al (DM (Bj (Cs false) (nm 1) (fC (.int 6)))
  (BK (Ap (Oe false) (nm 2) (fC .none)))
  Bq)
 (Al (DM (HW (Gk (Ft (AQ CV (AB (nm 2) (AB (AQ BP (AB (Ap Cu (nm 1) (fC (.int 1))) AG)) AG))))) (Bj (Cs false) (Ap Bi (nm 2) (fC (.int 1))) (A6 (AB (fC (.int 1)) (AB (AQ Ad (AB (Ap Bi (nm 2) (fC (.int 0))) AG)) AG)))))
  (BK (fC (.bool false)))
  Bq)
 (BK (Ap (Cs false) (Ap Bi (nm 2) (fC (.int 1))) (AQ BH (AB (nm 0) (AB (Ap Bi (nm 2) (fC (.int 0))) AG)))))))
def DN(Ad:MD)(CV:MD)(BP:MD)(BH:MD):MD:=Bz ["table","order","odd"] ["table","order","odd"] (Oj Ad CV BP BH)
def UH{k:Nat}{Ad:MD}{CV:MD}{BP:MD}{BH:MD}(F:Fn K mg "is_due_odd" K9 ["table","order","odd"] f fd) {Ci:AD}{CU:FuncData}(BQ:Fn K mg "density_within" Et ["tree"] Ci CU)(Bp:AK P w K mg base AZ k Ci CU ["tree"] (A0 Ad)) {T:AD}{U:FuncData}(G5:Fn K mg "is_line" Lc ["thing","trees"] T U)(IM:AK P w K mg base AZ k T U ["thing","trees"] (A0 CV)) {Y:AD}{En:FuncData}(Dy:Fn K mg "trees_of" Ia ["many"] Y En)(Eb:AK P w K mg base AZ k Y En ["many"] (A0 BP)) {Z:AD}{Eu:FuncData}(DZ:Fn K mg "walked_weight" Gp ["table","tree"] Z Eu)(EM:AK P w K mg base AZ k Z Eu ["table","tree"] (A0 BH)){g:Tok}(C1:mg "MOST_ORDER" = some (.int 6 g)):AK P w K mg base AZ (k+1) f fd ["table","order","odd"] (A0 (DN Ad CV BP BH)):=EJ F Nq fun cdv A outer s H E B=>by
 have sc:=Nq;exact(AR (B8 (BL (HS (by have:=B.units;exact this)) (AE (pv 1)) (Gs rfl C1) (Ak _))
  (AN (Au (Ir UZ (AE (pv 2)) Hl (Ak _))))
  BR)
 (AR (B8 (DW.dt (D0 (EB (DX (AX G5 IM B rfl (AA (AE (pv 2)) (AA (AX Dy Eb B rfl (AA (CL Cq (AE (pv 1)) AH) AF)) AF))))) (Dp (BL (HS (by have:=B.units;exact this)) (BE (AE (pv 2)) AH (fun _ _=>rfl)) (Aj (AA AH (AA (AX BQ Bp B rfl (AA (BE (AE (pv 2)) AH (fun _ _=>rfl)) AF)) AF))) (Ak _)))))
  (AN (Au DQ))
  BR)
 (AN (Au (Ir (HS (by have:=B.units;exact this)) (BE (AE (pv 2)) AH (fun _ _=>rfl)) (AX DZ EM B rfl (AA (AE (pv 0)) (AA (BE (AE (pv 2)) AH (fun _ _=>rfl)) AF))) (Ak _))))))
def MV:Af ["table","paper","order"] ["table","paper"] (AO Hv):=B9
def Nr(CM:MD)(DN:MD)(Bd:MD)(Ay:MD)(B7:MD):DF :=
 (Al (Ru (AQ Ay (AB (nm 0) AG)))
 (Al (DM (HW (Gk (Ft (Gx Jx (nm 1)))) (Bj (Cs true) (AQ GG (AB (nm 1) AG)) (fC (.int 3))))
  (BK (fC (.bool false)))
  Bq)
 (Al (Cd 2 (Ap Bi (nm 1) (fC (.int 0))))
 (Al (DM (HW (Gk (Ft (AQ Bd (AB (nm 2) AG)))) (HW (Bj (IH fun i j=>decide (i<j)) (nm 2) (fC (.int 0))) (Bj (IH fun i j=>decide (j<i)) (nm 2) (fC (.int 6)))))
  (BK (fC (.bool false)))
  Bq)
 (BK (MG (AQ CM (AB (nm 0) (AB (AQ B7 (AB (nm 2) AG)) (AB (Ap Bi (nm 1) (fC (.int 1))) AG)))) (AQ DN (AB (nm 0) (AB (nm 2) (AB (Ap Bi (nm 1) (fC (.int 2))) AG))))))))))
def Df(CM:MD)(DN:MD)(Bd:MD)(Ay:MD)(B7:MD):MD:=Bz ["table","paper"] ["table","paper","order"] (Nr CM DN Bd Ay B7)
def SR{k:Nat}{CM:MD}{DN:MD}{Bd:MD}{Ay:MD}{B7:MD}(F:Fn K mg "judge_paper" Hv ["table","paper"] f fd) {Z:AD}{Y:FuncData}(GC:Fn K mg "are_true_lines" IK ["table","trees","lines"] Z Y)(IE:AK P w K mg base AZ k Z Y ["table","trees","lines"] (A0 CM)) {T:AD}{U:FuncData}(JA:Fn K mg "is_due_odd" K9 ["table","order","odd"] T U)(LU:AK P w K mg base AZ k T U ["table","order","odd"] (A0 DN)) {JB:AD}{Hm:FuncData}(Fc:Fn K mg "is_whole" KU ["thing"] JB Hm)(GJ:AK P w K mg base AZ k JB Hm ["thing"] (A0 Bd)) {Dl:AD}{DL:FuncData}(CZ:Fn K mg "refuse_no_judging" E8 ["table"] Dl DL)(Cz:AK P w K mg base AZ k Dl DL ["table"] (A0 Ay)) {JD:AD}{He:FuncData}(GF:Fn K mg "trees_to" Ka ["most"] JD He)(HK:AK P w K mg base AZ k JD He ["most"] (A0 B7))(Ae:mg "isinstance" = none)(BS:mg "len" = none)(CT:mg "tuple" = none){g:Tok}(C1:mg "MOST_ORDER" = some (.int 6 g)):AK P w K mg base AZ (k+1) f fd ["table","paper"] (A0 (Df CM DN Bd Ay B7)):=EJ F MV fun cdv A outer s H E B=>by
 have sc:=MV;exact(AR (O9 (AX CZ Cz B rfl (AA (AE (pv 0)) AF)))
 (AR (B8 (DW.dt (D0 (EB (DX (EA (ID _) rfl Ae rfl CT bC (AE (pv 1))))) (Dp (BL (GB (by have:=B.units;exact this)) (Ca FU rfl BS ag (AA (AE (pv 1)) AF)) AH (Ak _)))))
  (AN (Au DQ))
  BR)
 (AR (Bt (i:=2) sc.nd rfl (Or.inl rfl) (BE (AE (pv 1)) AH (fun _ _=>rfl)))
 (AR (B8 (DW.dt (D0 (EB (DX (AX Fc GJ B rfl (AA (AE (pv 2)) AF)))) (D0 (BL PH (AE (pv 2)) AH (Ak _)) (Dp (BL RH (AE (pv 2)) (Gs rfl C1) (Ak _))))))
  (AN (Au DQ))
  BR)
 (AN (Au (Iw (AX GC IE B rfl (AA (AE (pv 0)) (AA (AX GF HK B rfl (AA (AE (pv 2)) AF)) (AA (BE (AE (pv 1)) AH (fun _ _=>rfl)) AF)))) (Kp (AX JA LU B rfl (AA (AE (pv 0)) (AA (AE (pv 2)) (AA (BE (AE (pv 1)) AH (fun _ _=>rfl)) AF))))))))))))
def Ms:Af ["table","told","odd"] ["table"] (AO Hr):=B9
def N4:Af ["_law_one","_law_other"] ["_law_one","_law_other"] (AO Jf):=B9
def QA(g:MD):DF :=
 (BK (AQ g (AB (Ap Cu (Ap MN (Ap Bi (nm 0) (fC (.int 0))) (Ap Bi (nm 1) (fC (.int 1)))) (Ap MN (Ap Bi (nm 1) (fC (.int 0))) (Ap Bi (nm 0) (fC (.int 1))))) (AB (Ap MN (Ap Bi (nm 0) (fC (.int 1))) (Ap Bi (nm 1) (fC (.int 1)))) AG))))
def BO(g:MD):MD:=Bz ["_law_one","_law_other"] ["_law_one","_law_other"] (QA g)
def Uk{k:Nat}{T:MD}(F:Fn K mg "_law_plus" Jf ["_law_one","_law_other"] f fd) {g:AD}{B:FuncData}(Z:Fn K mg "_law_frac" Hj ["_law_top","_law_bottom"] g B)(Y:AK P w K mg base AZ k g B ["_law_top","_law_bottom"] (A0 T)):AK P w K mg base AZ (k+1) f fd ["_law_one","_law_other"] (A0 (BO T)):=EJ F N4 fun cdv A outer s H E U=>by
 have sc:=N4;exact(AN (Au (AX Z Y U rfl (AA (CL Cq (CL LQ (BE (AE (pv 0)) AH (fun _ _=>rfl)) (BE (AE (pv 1)) AH (fun _ _=>rfl))) (CL LQ (BE (AE (pv 1)) AH (fun _ _=>rfl)) (BE (AE (pv 0)) AH (fun _ _=>rfl)))) (AA (CL LQ (BE (AE (pv 0)) AH (fun _ _=>rfl)) (BE (AE (pv 1)) AH (fun _ _=>rfl))) AF)))))
def RL:Af ["_law_one","_law_other"] ["_law_one","_law_other"] (AO Lo):=B9
def Ti(g:MD):DF :=
 (BK (AQ g (AB (Ap MN (Ap Bi (nm 0) (fC (.int 0))) (Ap Bi (nm 1) (fC (.int 0)))) (AB (Ap MN (Ap Bi (nm 0) (fC (.int 1))) (Ap Bi (nm 1) (fC (.int 1)))) AG))))
def Bf(g:MD):MD:=Bz ["_law_one","_law_other"] ["_law_one","_law_other"] (Ti g)
def YX{k:Nat}{T:MD}(F:Fn K mg "_law_by" Lo ["_law_one","_law_other"] f fd) {g:AD}{B:FuncData}(Z:Fn K mg "_law_frac" Hj ["_law_top","_law_bottom"] g B)(Y:AK P w K mg base AZ k g B ["_law_top","_law_bottom"] (A0 T)):AK P w K mg base AZ (k+1) f fd ["_law_one","_law_other"] (A0 (Bf T)):=EJ F RL fun cdv A outer s H E U=>by
 have sc:=RL;exact(AN (Au (AX Z Y U rfl (AA (CL LQ (BE (AE (pv 0)) AH (fun _ _=>rfl)) (BE (AE (pv 1)) AH (fun _ _=>rfl))) (AA (CL LQ (BE (AE (pv 0)) AH (fun _ _=>rfl)) (BE (AE (pv 1)) AH (fun _ _=>rfl))) AF)))))
def Np:Af ["_law_which"] ["_law_which"] (AO LA):=B9
def Uc:DF :=
 (Al (DM (Bj (Cs false) (nm 0) (fC (.int 0)))
  (BK (A6 (AB (CY (AB (CY AG) AG)) (AB (CY (AB (A6 (AB (fC (.int 1)) (AB (fC (.int 1)) AG))) AG)) AG))))
  Bq)
 (Al (DM (Bj (Cs false) (nm 0) (fC (.int 1)))
  (BK (A6 (AB (CY (AB (CY AG) (AB (CY (AB (A6 (AB (fC (.int 1)) (AB (fC (.int 2)) AG))) AG)) AG))) (AB (CY (AB (A6 (AB (fC (.int 0)) (AB (fC (.int 1)) AG))) (AB (A6 (AB (fC (.int 1)) (AB (fC (.int 1)) AG))) AG))) AG))))
  Bq)
 (Al (DM (Bj (Cs false) (nm 0) (fC (.int 2)))
  (BK (A6 (AB (CY (AB (CY AG) (AB (CY (AB (A6 (AB (fC (.int 1)) (AB (fC (.int 1)) AG))) AG)) AG))) (AB (CY (AB (A6 (AB (fC (.int 1)) (AB (fC (.int 2)) AG))) (AB (A6 (AB (fC (.int 1)) (AB (fC (.int 2)) AG))) AG))) AG))))
  Bq)
 (Al (DM (Bj (Cs false) (nm 0) (fC (.int 3)))
  (BK (A6 (AB (CY (AB (CY AG) (AB (CY (AB (A6 (AB (fC (.int 1)) (AB (fC (.int 3)) AG))) AG)) (AB (CY (AB (A6 (AB (fC (.int 0)) (AB (fC (.int 1)) AG))) (AB (A6 (AB (fC (.int 2)) (AB (fC (.int 3)) AG))) AG))) AG)))) (AB (CY (AB (A6 (AB (fC (.int 1)) (AB (fC (.int 4)) AG))) (AB (A6 (AB (fC (.int 0)) (AB (fC (.int 1)) AG))) (AB (A6 (AB (fC (.int 3)) (AB (fC (.int 4)) AG))) AG)))) AG))))
  Bq)
 (Al (DM (Bj (Cs false) (nm 0) (fC (.int 4)))
  (BK (A6 (AB (CY (AB (CY AG) (AB (CY (AB (A6 (AB (fC (.int 1)) (AB (fC (.int 2)) AG))) AG)) (AB (CY (AB (A6 (AB (fC (.int 0)) (AB (fC (.int 1)) AG))) (AB (A6 (AB (fC (.int 1)) (AB (fC (.int 2)) AG))) AG))) (AB (CY (AB (A6 (AB (fC (.int 0)) (AB (fC (.int 1)) AG))) (AB (A6 (AB (fC (.int 0)) (AB (fC (.int 1)) AG))) (AB (A6 (AB (fC (.int 1)) (AB (fC (.int 1)) AG))) AG)))) AG))))) (AB (CY (AB (A6 (AB (fC (.int 1)) (AB (fC (.int 6)) AG))) (AB (A6 (AB (fC (.int 1)) (AB (fC (.int 3)) AG))) (AB (A6 (AB (fC (.int 1)) (AB (fC (.int 3)) AG))) (AB (A6 (AB (fC (.int 1)) (AB (fC (.int 6)) AG))) AG))))) AG))))
  Bq)
 (BK (A6 (AB (CY (AB (CY AG) (AB (CY (AB (A6 (AB (fC (.int 1)) (AB (fC (.int 2)) AG))) AG)) (AB (CY (AB (A6 (AB (kj (fC (.int 1))) (AB (fC (.int 1)) AG))) (AB (A6 (AB (fC (.int 2)) (AB (fC (.int 1)) AG))) AG))) AG)))) (AB (CY (AB (A6 (AB (fC (.int 1)) (AB (fC (.int 6)) AG))) (AB (A6 (AB (fC (.int 2)) (AB (fC (.int 3)) AG))) (AB (A6 (AB (fC (.int 1)) (AB (fC (.int 6)) AG))) AG)))) AG)))))))))
def LX:MD:=Bz ["_law_which"] ["_law_which"] (Uc)
def T7{k:Nat}(F:Fn K mg "_law_known" LA ["_law_which"] f fd):AK P w K mg base AZ (k+1) f fd ["_law_which"] (A0 (LX)):=EJ F Np fun cdv A outer s H E g=>by
 have sc:=Np;exact(AR (B8 (BL (HS (by have:=g.units;exact this)) (AE (pv 0)) AH (Ak _))
  (AN (Au (Aj (AA (BU (AA (BU AF) AF)) (AA (BU (AA (Aj (AA AH (AA AH AF))) AF)) AF)))))
  BR)
 (AR (B8 (BL (HS (by have:=g.units;exact this)) (AE (pv 0)) AH (Ak _))
  (AN (Au (Aj (AA (BU (AA (BU AF) (AA (BU (AA (Aj (AA AH (AA AH AF))) AF)) AF))) (AA (BU (AA (Aj (AA AH (AA AH AF))) (AA (Aj (AA AH (AA AH AF))) AF))) AF)))))
  BR)
 (AR (B8 (BL (HS (by have:=g.units;exact this)) (AE (pv 0)) AH (Ak _))
  (AN (Au (Aj (AA (BU (AA (BU AF) (AA (BU (AA (Aj (AA AH (AA AH AF))) AF)) AF))) (AA (BU (AA (Aj (AA AH (AA AH AF))) (AA (Aj (AA AH (AA AH AF))) AF))) AF)))))
  BR)
 (AR (B8 (BL (HS (by have:=g.units;exact this)) (AE (pv 0)) AH (Ak _))
  (AN (Au (Aj (AA (BU (AA (BU AF) (AA (BU (AA (Aj (AA AH (AA AH AF))) AF)) (AA (BU (AA (Aj (AA AH (AA AH AF))) (AA (Aj (AA AH (AA AH AF))) AF))) AF)))) (AA (BU (AA (Aj (AA AH (AA AH AF))) (AA (Aj (AA AH (AA AH AF))) (AA (Aj (AA AH (AA AH AF))) AF)))) AF)))))
  BR)
 (AR (B8 (BL (HS (by have:=g.units;exact this)) (AE (pv 0)) AH (Ak _))
  (AN (Au (Aj (AA (BU (AA (BU AF) (AA (BU (AA (Aj (AA AH (AA AH AF))) AF)) (AA (BU (AA (Aj (AA AH (AA AH AF))) (AA (Aj (AA AH (AA AH AF))) AF))) (AA (BU (AA (Aj (AA AH (AA AH AF))) (AA (Aj (AA AH (AA AH AF))) (AA (Aj (AA AH (AA AH AF))) AF)))) AF))))) (AA (BU (AA (Aj (AA AH (AA AH AF))) (AA (Aj (AA AH (AA AH AF))) (AA (Aj (AA AH (AA AH AF))) (AA (Aj (AA AH (AA AH AF))) AF))))) AF)))))
  BR)
 (AN (Au (Aj (AA (BU (AA (BU AF) (AA (BU (AA (Aj (AA AH (AA AH AF))) AF)) (AA (BU (AA (Aj (AA (bx AH) (AA AH AF))) (AA (Aj (AA AH (AA AH AF))) AF))) AF)))) (AA (BU (AA (Aj (AA AH (AA AH AF))) (AA (Aj (AA AH (AA AH AF))) (AA (Aj (AA AH (AA AH AF))) AF)))) AF))))))))))
def Ng:Af ["_law_most","_law_found","_law_many","_law_pool","_law_smaller","_law_rows","_law_done","_law_longer","_law_size","_law_boughs","_law_more","_law_tree"] ["_law_most"] (AO LF):=B9
def U2:DF :=
 (Al (Qc 1 (AB (CY AG) (AB (CY (AB (A6 AG) AG)) AG)))
 (Al (CP (Dk S5 (AB (fC (.int 2)) (AB (Ap Cu (nm 0) (fC (.int 1))) AG))) (HC 2)
  (Al (Cd 3 (CY AG))
  (Al (CP (Dk S5 (AB (fC (.int 1)) (AB (nm 2) AG))) (HC 4)
   (Cd 3 (Ap Cu (nm 3) (Di (Fx 1) F5 (A6 (AB (nm 2) (AB (nm 1) AG))) [none,none,some 4] (DR (lg 1 (nm 4)))))))
  (Al (Cd 5 (CY (AB (A6 (AB (fC (.int 0)) (AB (A6 AG) AG))) AG)))
  (Al (Cd 6 (CY AG))
  (Al (K8 (Bj (Cs true) (nm 5) (CY AG))
   (Al (Qc 7 AG)
   (Al (CP (DR (nm 5)) (DH 8 9)
    (CP (DR (nm 3)) (DH 10 11)
     (DM (qA (Bj (IH fun i j=>decide (i<j)) (Ap Cu (nm 8) (nm 10)) (nm 2)) (HW (Bj (Cs false) (nm 9) (A6 AG)) (Bj fe (nm 11) (Ap Bi (nm 9) (kj (fC (.int 1)))))))
      (QY 7 (A6 (AB (Ap Cu (nm 8) (nm 10)) (AB (Ap Cu (nm 9) (A6 (AB (nm 11) AG))) AG))))
      Bq)))
   (Al (Yr 7 (Cd 6 (Ap Cu (nm 6) (Di (DH 1 2) (Bj (Cs false) (nm 1) (Ap dA (nm 3) (fC (.int 1)))) (nm 2) [none,none,none,some 2] (DR (nm 7))))))
   (Yr 7 (Cd 5 (Di (DH 1 2) (Bj (IH fun i j=>decide (i<j)) (nm 1) (Ap dA (nm 3) (fC (.int 1)))) (A6 (AB (nm 1) (AB (nm 2) AG))) [none,none,none,some 2] (DR (nm 7)))))))) 8)
  (QY 1 (AQ (MT false) (AB (nm 6) AG)))))))))
 (Qr 1)))
def C2:MD:=Bz ["_law_most"] ["_law_most","_law_found","_law_many","_law_pool","_law_smaller","_law_rows","_law_done","_law_longer","_law_size","_law_boughs","_law_more","_law_tree"] (U2)
def UC{k:Nat}(F:Fn K mg "_law_trees" LF ["_law_most"] f fd)(T:mg "range" = none)(U:mg "sorted" = none):AK P w K mg base AZ (k+1) f fd ["_law_most"] (A0 (C2)):=EJ F Ng fun cdv A outer s H E g=>by
 have sc:=Ng;exact(AR (LB (i:=1) sc.nd rfl (Or.inl rfl) (AA (BU AF) (AA (BU (AA (Aj AF) AF)) AF)))
 (AR (CO aL rfl (Li rfl T (AA AH (AA (CL Cq (AE (pv 0)) AH) AF))) (Dw (Ax (i:=2) sc.nd rfl (Or.inr rfl)))
  (AR (Bt (i:=3) sc.nd rfl (Or.inl rfl) (BU AF))
  (AR (CO aL rfl (Li rfl T (AA AH (AA (AE (pv 2)) AF))) (Dw (Ax (i:=4) sc.nd rfl (Or.inr rfl)))
   (AN (Bt (i:=3) sc.nd rfl (Or.inl rfl) (CL Cq (AE (pv 3)) (Kj [".0","_law_tree","_law_smaller"] 1 [none,none,some 4] (Cr (de (pv 1) (AE (pv 4)) (fun _ _=>rfl))) (fun _ _ _ _ _=>Gb) (fun _ _ _ _ _=>(Aj (AA (AE (pv 2)) (AA (AE (pv 1)) AF)))))))))
  (AR (Bt (i:=5) sc.nd rfl (Or.inl rfl) (BU (AA (Aj (AA AH (AA (Aj AF) AF))) AF)))
  (AR (Bt (i:=6) sc.nd rfl (Or.inl rfl) (BU AF))
  (AR (dM 8 aL (BL (GB (by have:=g.units;exact this)) (AE (pv 5)) (BU AF) (Ak _))
   (AR (LB (i:=7) sc.nd rfl (Or.inl rfl) AF)
   (AR (CO aL rfl (Cr (AE (pv 5))) (Ie (HE rfl (Bo (Ax (i:=8) sc.nd rfl (Or.inl rfl)) (Bo (Ax (i:=9) sc.nd rfl (Or.inl rfl)) F4))))
    (AN (CO aL rfl (Cr (AE (pv 3))) (Ie (HE rfl (Bo (Ax (i:=10) sc.nd rfl (Or.inl rfl)) (Bo (Ax (i:=11) sc.nd rfl (Or.inl rfl)) F4))))
     (AN (B8 (DW.dt (lV (BL PH (CL Cq (AE (pv 8)) (AE (pv 10))) (AE (pv 2)) (Ak _)) (Dp (DW.dt (D0 (BL (HS (by have:=g.units;exact this)) (AE (pv 9)) (Aj AF) (Ak _)) (Dp (BL (gf (by have:=g.units;exact this)) (AE (pv 11)) (BE (AE (pv 9)) (bx AH) (fun _ _=>rfl)) (Ak _))))))))
      (AN (Ju (pv 7) (Aj (AA (CL Cq (AE (pv 8)) (AE (pv 10))) (AA (CL Cq (AE (pv 9)) (Aj (AA (AE (pv 11)) AF))) AF))) (fun B ha=>Ep (Hw aa az bA FX B ha))))
      BR)))))
   (AR (RX 7 (Bt (i:=6) sc.nd rfl (Or.inl rfl) (CL Cq (AE (pv 6)) (QW [".0","_law_size","_law_boughs","_law_many"] 1 2 [none,none,none,some 2] (Cr (AE (pv 7))) (fun _ _ _ _ _=>(W9 (BL (HS (by have:=g.units;exact this)) (AE (pv 1)) (CL Xd (AE (pv 3)) AH) (Ak _)))) (fun _ _ _ _ _=>(AE (pv 2)))))))
   (AN (RX 7 (Pk (i:=5) [".0","_law_size","_law_boughs","_law_many"] 1 2 [none,none,none,some 2] sc.nd rfl rfl (Cr (AE (pv 7))) (fun _ _ _ _ _=>(W9 (BL PH (AE (pv 1)) (CL Xd (AE (pv 3)) AH) (Ak _)))) (fun _ _ _ _ _=>(Aj (AA (AE (pv 1)) (AA (AE (pv 2)) AF)))))))))))
  (AN (Ju (pv 1) (Ca (iJ (by have:=g.units;exact this)) rfl U PyProof.Rows.boot_sorted (AA (AE (pv 6)) AF)) (fun B ha=>Ep (Hw aa az bA FX B ha))))))))))
 (AN (PB (pv 1)))))
def T9:Af ["_law_tree"] ["_law_tree"] (AO LS):=B9
def Oo(BV:MD):DF :=
 (BK (Ap Cu (fC (.int 1)) (AQ X5 (AB (Di (Fx 1) F5 (AQ BV (AB (nm 1) AG)) [none,none] (DR (nm 0))) AG))))
def BV:Nat->MD
 |0=>fun _=>none
 |n+1=>Bz ["_law_tree"] ["_law_tree"] (Oo (BV n))
def Nh{k:Nat}(g:Fn K mg "_law_knots" LS ["_law_tree"] f fd)(B:mg "sum" = none):∀n,
  AK P w K mg base AZ (k+n+1) f fd ["_law_tree"] (A0 (BV n))
 |0=>FQ fun _ _ _ _ ⟨_,_,_,h,_⟩=>by cases h
 |n+1=>by
  have sc:=T9;have U:=Nh (k:=k) g B n;refine EJ (k:=k+n+1) (F:=Oo (BV n)) g sc fun cdv A outer s H E T=>?_;exact(AN (Au (CL Cq AH (Ca (cA rfl) rfl B bj (AA (Kj [".0","_law_bough"] 1 [none,none] (Cr (AE (pv 0))) (fun _ _ _ _ _=>Gb) (fun _ _ _ _ _=>(AX g U T rfl (AA (AE (pv 1)) AF)))) AF)))))
def Rb:Af ["_law_tree","_law_found","_law_bough"] ["_law_tree"] (AO JR):=B9
def Mr(BV:MD)(Bl:MD):DF :=
 (Al (Cd 1 (AQ BV (AB (nm 0) AG)))
 (Al (CP (DR (nm 0)) (HC 2)
  (Cd 1 (Ap MN (nm 1) (AQ Bl (AB (nm 2) AG)))))
 (BK (nm 1))))
def Bl(BV:MD):Nat->MD
 |0=>fun _=>none
 |n+1=>Bz ["_law_tree"] ["_law_tree","_law_found","_law_bough"] (Mr BV (Bl BV n))
def Lu{k:Nat}{BV:MD}(B:Fn K mg "_law_density" JR ["_law_tree"] f fd)
 {Y:AD}{U:FuncData}(Z:Fn K mg "_law_knots" LS ["_law_tree"] Y U)(g:AK P w K mg base AZ k Y U ["_law_tree"] (A0 BV)):∀n,
  AK P w K mg base AZ (k+n+1) f fd ["_law_tree"] (A0 (Bl BV n))
 |0=>FQ fun _ _ _ _ ⟨_,_,_,h,_⟩=>by cases h
 |n+1=>by
  have sc:=Rb;have F6:=Lu (k:=k) (BV:=BV) B Z g n;have g:=g.mono (show k<=k+n+1 by lia);refine EJ (k:=k+n+1) (F:=Mr BV (Bl BV n)) B sc fun cdv A outer s H E T=>?_;exact(AR (Bt (i:=1) sc.nd rfl (Or.inl rfl) (AX Z g T rfl (AA (AE (pv 0)) AF)))
 (AR (CO aL rfl (Cr (AE (pv 0))) (Dw (Ax (i:=2) sc.nd rfl (Or.inl rfl)))
  (AN (Bt (i:=1) sc.nd rfl (Or.inl rfl) (CL LQ (AE (pv 1)) (AX B F6 T rfl (AA (AE (pv 2)) AF))))))
 (AN (Au (AE (pv 1))))))
def Uo:Af ["_law_rows","_law_tree","_law_row","_law_found","_law_bough","_law_total","_law_other","_law_part_here"] ["_law_rows","_law_tree","_law_row"] (AO MF):=B9
def MK(Bf:MD)(BO:MD)(CQ:MD):DF :=
 (Al (Cd 3 (A6 (AB (fC (.int 1)) (AB (fC (.int 1)) AG))))
 (Al (CP (DR (nm 1)) (HC 4)
  (Al (Cd 5 (A6 (AB (fC (.int 0)) (AB (fC (.int 1)) AG))))
  (Al (CP (Dk Hs (AB (Ap Bi (nm 0) (nm 2)) AG)) (DH 6 7)
   (Cd 5 (AQ BO (AB (nm 5) (AB (AQ Bf (AB (nm 7) (AB (AQ CQ (AB (nm 0) (AB (nm 4) (AB (nm 6) AG)))) AG))) AG)))))
  (Cd 3 (AQ Bf (AB (nm 3) (AB (nm 5) AG)))))))
 (BK (nm 3))))
def CQ(Bf:MD)(BO:MD):Nat->MD
 |0=>fun _=>none
 |n+1=>Bz ["_law_rows","_law_tree","_law_row"] ["_law_rows","_law_tree","_law_row","_law_found","_law_bough","_law_total","_law_other","_law_part_here"] (MK Bf BO (CQ Bf BO n))
def OP{k:Nat}{Bf:MD}{BO:MD}(Y:Fn K mg "_law_seen" MF ["_law_rows","_law_tree","_law_row"] f fd)
 {Z:AD}{IX:FuncData}(U:Fn K mg "_law_by" Lo ["_law_one","_law_other"] Z IX)(g:AK P w K mg base AZ k Z IX ["_law_one","_law_other"] (A0 Bf))
 {Hg:AD}{Gy:FuncData}(Ei:Fn K mg "_law_plus" Jf ["_law_one","_law_other"] Hg Gy)(T:AK P w K mg base AZ k Hg Gy ["_law_one","_law_other"] (A0 BO))(Be:mg "enumerate" = none):∀n,
  AK P w K mg base AZ (k+n+1) f fd ["_law_rows","_law_tree","_law_row"] (A0 (CQ Bf BO n))
 |0=>FQ fun _ _ _ _ ⟨_,_,_,h,_⟩=>by cases h
 |n+1=>by
  have sc:=Uo;have Hi:=OP (k:=k) (Bf:=Bf) (BO:=BO) Y U g Ei T Be n;have g:=g.mono (show k<=k+n+1 by lia);have T:=T.mono (show k<=k+n+1 by lia);refine EJ (k:=k+n+1) (F:=MK Bf BO (CQ Bf BO n)) Y sc fun cdv A outer s H E B=>?_;exact(AR (Bt (i:=3) sc.nd rfl (Or.inl rfl) (Aj (AA AH (AA AH AF))))
 (AR (CO aL rfl (Cr (AE (pv 1))) (Dw (Ax (i:=4) sc.nd rfl (Or.inl rfl)))
  (AR (Bt (i:=5) sc.nd rfl (Or.inl rfl) (Aj (AA AH (AA AH AF))))
  (AR (CO aL rfl (Ki rfl Be (AA (BE (AE (pv 0)) (AE (pv 2)) (fun _ _=>rfl)) AF)) (Ie (HE rfl (Bo (Ax (i:=6) sc.nd rfl (Or.inl rfl)) (Bo (Ax (i:=7) sc.nd rfl (Or.inl rfl)) F4))))
   (AN (Bt (i:=5) sc.nd rfl (Or.inl rfl) (AX Ei T B rfl (AA (AE (pv 5)) (AA (AX U g B rfl (AA (AE (pv 7)) (AA (AX Y Hi B rfl (AA (AE (pv 0)) (AA (AE (pv 4)) (AA (AE (pv 6)) AF)))) AF))) AF))))))
  (AN (Bt (i:=3) sc.nd rfl (Or.inl rfl) (AX U g B rfl (AA (AE (pv 3)) (AA (AE (pv 5)) AF))))))))
 (AN (Au (AE (pv 3))))))
def MY:Af ["_law_table_here","_law_tree","_law_total","_law_row","_law_part_here"] ["_law_table_here","_law_tree"] (AO J2):=B9
def Ny(Bf:MD)(BO:MD)(CQ:MD):DF :=
 (Al (Cd 2 (A6 (AB (fC (.int 0)) (AB (fC (.int 1)) AG))))
 (Al (CP (Dk Hs (AB (Ap Bi (nm 0) (fC (.int 1))) AG)) (DH 3 4)
  (Cd 2 (AQ BO (AB (nm 2) (AB (AQ Bf (AB (nm 4) (AB (AQ CQ (AB (Ap Bi (nm 0) (fC (.int 0))) (AB (nm 1) (AB (nm 3) AG)))) AG))) AG)))))
 (BK (nm 2))))
def Cn(Bf:MD)(BO:MD)(CQ:MD):MD:=Bz ["_law_table_here","_law_tree"] ["_law_table_here","_law_tree","_law_total","_law_row","_law_part_here"] (Ny Bf BO CQ)
def Sa{k:Nat}{Bf:MD}{BO:MD}{CQ:MD}(F:Fn K mg "_law_weight" J2 ["_law_table_here","_law_tree"] f fd) {U:AD}{Y:FuncData}(FW:Fn K mg "_law_by" Lo ["_law_one","_law_other"] U Y)(El:AK P w K mg base AZ k U Y ["_law_one","_law_other"] (A0 Bf)) {Z:AD}{Gy:FuncData}(Ei:Fn K mg "_law_plus" Jf ["_law_one","_law_other"] Z Gy)(D9:AK P w K mg base AZ k Z Gy ["_law_one","_law_other"] (A0 BO)) {B:AD}{T:FuncData}(Eo:Fn K mg "_law_seen" MF ["_law_rows","_law_tree","_law_row"] B T)(Hi:AK P w K mg base AZ k B T ["_law_rows","_law_tree","_law_row"] (A0 CQ))(Be:mg "enumerate" = none):AK P w K mg base AZ (k+1) f fd ["_law_table_here","_law_tree"] (A0 (Cn Bf BO CQ)):=EJ F MY fun cdv A outer s H E g=>by
 have sc:=MY;exact(AR (Bt (i:=2) sc.nd rfl (Or.inl rfl) (Aj (AA AH (AA AH AF))))
 (AR (CO aL rfl (Ki rfl Be (AA (BE (AE (pv 0)) AH (fun _ _=>rfl)) AF)) (Ie (HE rfl (Bo (Ax (i:=3) sc.nd rfl (Or.inl rfl)) (Bo (Ax (i:=4) sc.nd rfl (Or.inl rfl)) F4))))
  (AN (Bt (i:=2) sc.nd rfl (Or.inl rfl) (AX Ei D9 g rfl (AA (AE (pv 2)) (AA (AX FW El g rfl (AA (AE (pv 4)) (AA (AX Eo Hi g rfl (AA (BE (AE (pv 0)) AH (fun _ _=>rfl)) (AA (AE (pv 1)) (AA (AE (pv 3)) AF)))) AF))) AF))))))
 (AN (Au (AE (pv 2))))))
def Ow:Af ["_law_tree"] ["_law_tree"] (AO L8):=B9
def PZ(Bl:MD):DF :=
 (BK (A6 (AB (fC (.int 1)) (AB (AQ Bl (AB (nm 0) AG)) AG))))
def DJ(Bl:MD):MD:=Bz ["_law_tree"] ["_law_tree"] (PZ Bl)
def VR{k:Nat}{Bl:MD}(F:Fn K mg "_law_true" L8 ["_law_tree"] f fd) {g:AD}{B:FuncData}(Y:Fn K mg "_law_density" JR ["_law_tree"] g B)(U:AK P w K mg base AZ k g B ["_law_tree"] (A0 Bl)):AK P w K mg base AZ (k+1) f fd ["_law_tree"] (A0 (DJ Bl)):=EJ F Ow fun cdv A outer s H E T=>by
 have sc:=Ow;exact(AN (Au (Aj (AA AH (AA (AX Y U T rfl (AA (AE (pv 0)) AF)) AF)))))
def Uy:Af ["_law_found","_law_due_here"] ["_law_found","_law_due_here"] (AO Jg):=B9
def MC(B0:MD):DF :=
 (Al (DM (HW (Ft (Gx LG (nm 1))) (Ft (Gx Jx (nm 1))))
  (Al (DM (HW (Bj (Cs true) (Gx LG (nm 0)) (Gx LG (nm 1))) (Bj (Cs true) (Gx Jx (nm 0)) (Gx Jx (nm 1))))
   (BK (fC (.bool false)))
   Bq)
  (Al (DM (Bj (Cs true) (AQ GG (AB (nm 0) AG)) (AQ GG (AB (nm 1) AG)))
   (BK (fC (.bool false)))
   Bq)
  (BK (AQ Vi (AB (Di (DH 1 2) F5 (AQ B0 (AB (nm 1) (AB (nm 2) AG))) [none,none,none] (Dk zip2 (AB (nm 0) (AB (nm 1) AG)))) AG)))))
  Bq)
 (Al (DM (Bj (Oe false) (nm 1) (fC .none))
  (BK (Ap (Oe false) (nm 0) (fC .none)))
  Bq)
 (BK (MG (Gx WQ (nm 0)) (MG (jJ (Gx Sy (nm 0))) (Ap (Cs false) (nm 0) (nm 1)))))))
def B0:Nat->MD
 |0=>fun _=>none
 |n+1=>Bz ["_law_found","_law_due_here"] ["_law_found","_law_due_here"] (MC (B0 n))
def Oh{k:Nat}(Y:Fn K mg "_law_same" Jg ["_law_found","_law_due_here"] f fd)(UU:mg "all" = none)(Kw:mg "bool" = none)(NB:mg "int" = none)(g:mg "isinstance" = none)(Z:mg "len" = none)(U:mg "list" = none)(T:mg "tuple" = none)(DV:mg "zip" = none):∀n,
  AK P w K mg base AZ (k+n+1) f fd ["_law_found","_law_due_here"] (A0 (B0 n))
 |0=>FQ fun _ _ _ _ ⟨_,_,_,h,_⟩=>by cases h
 |n+1=>by
  have sc:=Uy;have D8:=Oh (k:=k) Y UU Kw NB g Z U T DV n;refine EJ (k:=k+n+1) (F:=MC (B0 n)) Y sc fun cdv A outer s H E B=>?_;exact(AR (B8 (DW.dt (D0 (DX (EA (JN _) rfl g rfl U bF (AE (pv 1)))) (Dp (DX (EA (ID _) rfl g rfl T bC (AE (pv 1)))))))
  (AR (B8 (DW.dt (D0 (BL (GB (by have:=B.units;exact this)) (EA (JN _) rfl g rfl U bF (AE (pv 0))) (EA (JN _) rfl g rfl U bF (AE (pv 1))) (Ak _)) (Dp (BL (GB (by have:=B.units;exact this)) (EA (ID _) rfl g rfl T bC (AE (pv 0))) (EA (ID _) rfl g rfl T bC (AE (pv 1))) (Ak _)))))
   (AN (Au DQ))
   BR)
  (AR (B8 (BL (GB (by have:=B.units;exact this)) (Ca FU rfl Z ag (AA (AE (pv 0)) AF)) (Ca FU rfl Z ag (AA (AE (pv 1)) AF)) (Ak _))
   (AN (Au DQ))
   BR)
  (AN (Au (Ca (mW rfl) rfl UU PyProof.Rows.boot_all (AA (QW [".0","_law_one","_law_other"] 1 2 [none,none,none] (ZE rfl DV (AA (AE (pv 0)) (AA (AE (pv 1)) AF))) (fun _ _ _ _ _=>Gb) (fun _ _ _ _ _=>(AX Y D8 B rfl (AA (AE (pv 1)) (AA (AE (pv 2)) AF))))) AF))))))
  BR)
 (AR (B8 (BL UZ (AE (pv 1)) Hl (Ak _))
  (AN (Au (Ir UZ (AE (pv 0)) Hl (Ak _))))
  BR)
 (AN (Au (Iw (EA (Vn _) rfl g rfl NB PyProof.Rows.boot_int (AE (pv 0))) (Iw (bq (EA (Tz _) rfl g rfl Kw PyProof.Rows.boot_bool (AE (pv 0)))) (Kp (Ir (HS (by have:=B.units;exact this)) (AE (pv 0)) (AE (pv 1)) (Ak _)))))))))
def PY:Af ["_law_table_here","_law_lines","_law_trees_here","_law_order","_law_tree"] ["_law_table_here"] (AO KS):=B9
def RK(C2:MD)(DJ:MD)(Cn:MD):DF :=
 (Al (Cd 1 (CY AG))
 (Al (Cd 2 (AQ C2 (AB (fC (.int 5)) AG)))
 (Al (CP (Dk V5 (AB (fC (.int 5)) AG)) (HC 3)
  (Al (CP (DR (Ap Bi (nm 2) (Ap Cu (nm 3) (fC (.int 1))))) (HC 4)
   (DM (Bj (Cs true) (AQ Cn (AB (nm 0) (AB (nm 4) AG))) (AQ DJ (AB (nm 4) AG)))
    (BK (A6 (AB (nm 3) (AB (nm 1) (AB (A6 (AB (nm 4) (AB (AQ Cn (AB (nm 0) (AB (nm 4) AG))) AG))) AG)))))
    Bq))
  (Cd 1 (Ap Cu (nm 1) (Di (Fx 1) F5 (A6 (AB (nm 1) (AB (AQ DJ (AB (nm 1) AG)) AG))) [none,none] (DR (Ap Bi (nm 2) (Ap Cu (nm 3) (fC (.int 1))))))))))
 (BK (fC .none)))))
def GD(C2:MD)(DJ:MD)(Cn:MD):MD:=Bz ["_law_table_here"] ["_law_table_here","_law_lines","_law_trees_here","_law_order","_law_tree"] (RK C2 DJ Cn)
def WZ{k:Nat}{C2:MD}{DJ:MD}{Cn:MD}(F:Fn K mg "_law_due" KS ["_law_table_here"] f fd) {T:AD}{Y:FuncData}(Ip:Fn K mg "_law_trees" LF ["_law_most"] T Y)(Kq:AK P w K mg base AZ k T Y ["_law_most"] (A0 C2)) {B:AD}{U:FuncData}(Hn:Fn K mg "_law_true" L8 ["_law_tree"] B U)(Jc:AK P w K mg base AZ k B U ["_law_tree"] (A0 DJ)) {Z:AD}{Mw:FuncData}(GL:Fn K mg "_law_weight" J2 ["_law_table_here","_law_tree"] Z Mw)(Hu:AK P w K mg base AZ k Z Mw ["_law_table_here","_law_tree"] (A0 Cn))(B1:mg "range" = none):AK P w K mg base AZ (k+1) f fd ["_law_table_here"] (A0 (GD C2 DJ Cn)):=EJ F PY fun cdv A outer s H E g=>by
 have sc:=PY;exact(AR (Bt (i:=1) sc.nd rfl (Or.inl rfl) (BU AF))
 (AR (Bt (i:=2) sc.nd rfl (Or.inl rfl) (AX Ip Kq g rfl (AA AH AF)))
 (AR (CO aL rfl (TY rfl B1 (AA AH AF)) (Dw (Ax (i:=3) sc.nd rfl (Or.inl rfl)))
  (AR (CO aL rfl (Cr (BE (AE (pv 2)) (CL Cq (AE (pv 3)) AH) (fun _ _=>rfl))) (Dw (Ax (i:=4) sc.nd rfl (Or.inl rfl)))
   (AN (B8 (BL (GB (by have:=g.units;exact this)) (AX GL Hu g rfl (AA (AE (pv 0)) (AA (AE (pv 4)) AF))) (AX Hn Jc g rfl (AA (AE (pv 4)) AF)) (Ak _))
    (AN (Au (Aj (AA (AE (pv 3)) (AA (AE (pv 1)) (AA (Aj (AA (AE (pv 4)) (AA (AX GL Hu g rfl (AA (AE (pv 0)) (AA (AE (pv 4)) AF))) AF))) AF))))))
    BR)))
  (AN (Bt (i:=1) sc.nd rfl (Or.inl rfl) (CL Cq (AE (pv 1)) (Kj [".0","_law_tree"] 1 [none,none] (Cr (BE (AE (pv 2)) (CL Cq (AE (pv 3)) AH) (fun _ _=>rfl))) (fun _ _ _ _ _=>Gb) (fun _ _ _ _ _=>(Aj (AA (AE (pv 1)) (AA (AX Hn Jc g rfl (AA (AE (pv 1)) AF)) AF))))))))))
 (AN (Au Hl)))))
end
def Zt:Sp:=fun vs H Q _=>∃(l:AD) (x n:Int),vs=[.ref l,.int n]/\H l=some (.lst [.int x])/\0<n/\n<2^64/\∀r y:Int,0<=r->r<n->Q (.int r) (upd H l (.lst [.int y]))
def Sf(K:Fg):Sp:=fun vs H Q _=>∃(a:AD) (ns:List Int) (k:Int),vs=[.ref a,.int k]/\Aw K H a (ns.map V.int)/\0<=k/\k<1000/\∀x:Int,Q (.int x) H
def S0:Sp:=fun vs H Q _=>∃(l:AD) (x:Int),vs=[.ref l]/\H l=some (.lst [.int x])/\∀(p:AD) (r:Rat) (y:Int) (H':Hp),AL (upd H l (.lst [.int y])) H'->H' p=some (.tup (Hz r))->r.num.natAbs<=6->r.den<=6->Q (.ref p) H'
def cD:∀i,i<13->∀j,j<6->(Rat.divInt ((i:Nat)-6:Int) (1+(j:Nat):Int)).num.natAbs<=6/\(Rat.divInt ((i:Nat)-6:Int) (1+(j:Nat):Int)).den<=6:=by decide +kernel
def WX{i j:Int}(B:0<=i)(U:i<13)(g:0<=j)(T:j<6):(Rat.divInt (i-6) (1+j)).num.natAbs<=6/\(Rat.divInt (i-6) (1+j)).den<=6:=by
 have:=cD i.toNat (by lia) j.toNat (by lia)
 rwa [Int.toNat_of_nonneg B,Int.toNat_of_nonneg g]at this
section
variable{P:Program}{w:World}{K:Fg}{mg:sD}{base:Heap}{f g g1 g2:AD}{fd gd gd1 gd2:FuncData}
def VH:Af ["_law_pile","_law_size","_law_digit"] ["_law_pile","_law_size"] (AO ME):=B9
def V3(F:Fn K mg "_law_take" ME ["_law_pile","_law_size"] f fd):AK P w K mg base AZ 1 f fd ["_law_pile","_law_size"] Zt:=by
 have sc:=VH;refine F.F.ok (k:=0) sc (fun vs H Q E h=>?_) (fun cdv A outer s H vs Q E T h=>?_)
 .obtain⟨l,x,n,rfl,_⟩:=h
  rfl
 obtain⟨l,x,n,rfl,B,h0,U,q⟩:=h;refine⟨_,(Ab (BB (i:=2) sc.nd rfl (Or.inl rfl) (Ar Kf (Cv JV (pv 0) Aa (fun _ _=>rfl)) (pv 1)))
 (Ab (Ro (Ar GI (Cv JV (pv 0) Aa (fun _ _=>rfl)) (pv 1)) (Q4 (pv 0) Aa set_list))
 (A2 (CB (pv 2))))),?_⟩
 refine⟨_,rfl,_,_,_,_,rfl,rfl,Aw.of B,rfl,_,rfl,_,_,rfl,rfl,(by show n≠0;lia),?_⟩;refine⟨_,rfl,_,_,_,_,rfl,rfl,Aw.of B,rfl,_,rfl,_,_,rfl,rfl,⟨by lia,64,by decide,by lia⟩,_,rfl,l,_,_,0,rfl,rfl,B,rfl,_,rfl,?_⟩;exact q _ _ (bU x h0) (Int.fmod_lt_of_pos x h0)
def Sj:Af ["_law_one","_law_other"] ["_law_one","_law_other"] (AO J4):=B9
def rd(σ:St):Nat:=match σ[1]? with|some (some (V.int l))=>l.natAbs|_=>0
def SF(F:Fn K mg "_law_shared" J4 ["_law_one","_law_other"] f fd)(Z:mg "abs" = none):AK P w K mg base AZ 1 f fd ["_law_one","_law_other"] Qm:=by
 have sc:=Sj;refine F.F.ok (k:=0) sc (fun vs H Q E h=>?_) (fun cdv A outer s H vs Q E hr h=>?_)
 .obtain⟨a,b,rfl,_⟩:=h
  rfl
 obtain⟨a,b,rfl,q⟩:=h;refine⟨_,(Ab (M7 aL (Dd fR (pv 1) Aa (Ak _))
  (A2 (lY (i:=0) (j:=1) rfl sc.nd rfl rfl (by decide) rfl rfl (AM (pv 1) (AM (Ar Kf (pv 0) (pv 1)) Ah)) rfl)))
 (A2 (CB (Ds QK rfl Z PyProof.Rows.boot_abs (AM (pv 0) Ah))))),?_⟩
 refine QO (fun σ H'=>∃g l,σ=[some (.int g),some (.int l)]/\H=H'/\Int.gcd g l=Int.gcd a b) (fun σ _=>rd σ) ⟨_,_,rfl,rfl,rfl⟩ ?_ ?_
 .rintro σ H' ⟨g,l,rfl,rfl,T⟩;refine⟨_,rfl,rfl,_,rfl,Ij (fun c=>?_) (fun c=>?_)⟩
  .have B:l≠0:=fun z=>by subst z;simp at c
   refine⟨_,rfl,_,rfl,_,rfl,_,_,rfl,rfl,B,_,_,rfl,⟨_,_,rfl,rfl,?_⟩,?_⟩
   .rw[FM.Vb];exact T
   .exact FM.Ta g l B
  .have B:l=0:=by simpa using c
   subst B;refine⟨_,rfl,_,rfl,?_⟩;rw[FM.gc T];exact q
 .exact fun σ H Q Q' U ⟨v,e,s,k,Y,q⟩=>⟨v,e,s,k,Y,U _ _ q⟩
def Uw:Af ["_law_top","_law_bottom","_law_by_here"] ["_law_top","_law_bottom"] (AO Hj):=B9
def VN(F:Fn K mg "_law_frac" Hj ["_law_top","_law_bottom"] f fd)(Ho:Fn K mg "_law_shared" J4 ["_law_one","_law_other"] g gd) (UB:AK P w K mg base AZ 1 g gd ["_law_one","_law_other"] Qm):AK P w K mg base AZ 2 f fd ["_law_top","_law_bottom"] QV:=by
 have sc:=Uw;refine F.F.ok (k:=1) sc (fun vs H Q E h=>?_) (fun cdv A outer s H vs Q E hr h=>?_)
 .obtain⟨t,b,m,rfl,_⟩:=h
  rfl
 obtain⟨t,b,m,rfl,T,hm,Z,q⟩:=h;refine⟨_,(Ab (BB (i:=2) sc.nd rfl (Or.inl rfl) (B6 Ho UB hr rfl (AM (pv 0) (AM (pv 1) Ah))))
 (Ab (Gq (Dd UY (pv 1) Aa (Ak _))
  (A2 (BB (i:=2) sc.nd rfl (Or.inl rfl) (Ar Q8 Aa (pv 2))))
  EL)
 (A2 (CB (N7 (AM (Ar GI (pv 0) (pv 2)) (AM (Ar GI (pv 1) (pv 2)) Ah))))))),?_⟩
 refine⟨_,rfl,_,rfl,t,b,rfl,?_⟩
 try dsimp only[D6]
 refine JX (fun B H'=>B=[some (.int t),some (.int b),some (.int (FM.gs t b))]/\H=H') (fun nx hn=>?_) ?_
 .refine⟨_,rfl,_,_,rfl,rfl,_,rfl,Ij (fun c=>?_) (fun c=>?_)⟩
  .have U:b<0:=ak c;refine⟨_,rfl,_,_,rfl,rfl,hn _ _ ⟨?_,rfl⟩⟩;show [some (V.int t),some (V.int b),some (V.int (0-FM.gi t b))]=_;unfold FM.gs;rw[if_pos U,Int.zero_sub]
  .have U:¬b<0:=bg (Bool.eq_false_iff.mpr c);refine hn _ _ ⟨?_,rfl⟩;unfold FM.gs;rw[if_neg U]
   rfl
 .rintro B H' ⟨rfl,rfl⟩;have h0:FM.gs t b≠0:=FM.ff T;have Y:(FM.gs t b).natAbs<2^m:=aP (FM.fj T) Z;refine⟨_,rfl,_,rfl,_,_,rfl,rfl,⟨h0,m,hm,Y⟩,_,rfl,_,rfl,_,_,rfl,rfl,⟨h0,m,hm,Y⟩,Xm,fun p hp=>?_⟩;refine q p _ (An hp _) ?_;rw[AW];show some (HO.tup [V.int (t.fdiv (FM.gs t b)),V.int (b.fdiv (FM.gs t b))])=_;rw[FM.Vf T,FM.Uv T]
  rfl
def Vu:Af ["_law_script","_law_k","_law_cell_here","_law_number","_law_found","_law_turn"] ["_law_script","_law_k"] (AO Jb):=B9
def Vd(F:Fn K mg "_law_cell" Jb ["_law_script","_law_k"] f fd)(BS:mg "len" = none)(B1:mg "range" = none):AK P w K mg base AZ 1 f fd ["_law_script","_law_k"] (Sf K):=by
 have sc:=Vu;refine F.F.ok (k:=0) sc (fun vs H Q E h=>?_) (fun cdv A outer s H vs Q E hr h=>?_)
 .obtain⟨a,ns,k,rfl,_⟩:=h
  rfl
 obtain⟨a,ns,k,rfl,hS,h0,Z,q⟩:=h;refine⟨_,(Ab (BB (i:=2) sc.nd rfl (Or.inl rfl) Aa)
 (Ab (Gq (Dd UY (pv 1) (Ds Gu rfl BS ag (AM (pv 0) Ah)) (Ak _))
  (A2 (BB (i:=2) sc.nd rfl (Or.inl rfl) (Cv JV (pv 0) (pv 1) (fun _ _=>rfl))))
  EL)
 (Ab (Gq (Dd fx (pv 2) (Ar Ux Aa Aa) (Ak _))
  (A2 (CB (Ar Ii (Ar Q8 (pv 2) (Ar Ux Aa Aa)) (Ar Ux Aa Aa))))
  EL)
 (Ab (BB (i:=3) sc.nd rfl (Or.inl rfl) (Ar Ii (Ar FY (Ar FY (Ar C9 (pv 2) Aa) (Ar C9 (pv 1) Aa)) Aa) Aa))
 (Ab (BB (i:=4) sc.nd rfl (Or.inl rfl) Aa)
 (Ab (Jm aL rfl (Ji rfl B1 (AM Aa Ah)) (Ax (i:=5) sc.nd rfl (Or.inl rfl))
  (Ab (BB (i:=3) sc.nd rfl (Or.inl rfl) (Ar Ii (Ar FY (Ar FY (Ar C9 (pv 3) (pv 3)) (Ar C9 Aa (pv 5))) Aa) Aa))
  (A2 (BB (i:=4) sc.nd rfl (Or.inl rfl) (Ar FY (Ar C9 (pv 4) Aa) (Ar Ii (Ar C9 (pv 3) (pv 3)) Aa))))))
 (A2 (CB (pv 4))))))))),?_⟩
 try dsimp only[D6]
 refine JX (fun B H'=>∃c:Int,B=[some (.ref a),some (.int k),some (.int c),none,none,none]/\H=H') (fun nx hn=>?_) ?_
 .exact hn _ _ ⟨0,rfl,rfl⟩
 rintro _ _ ⟨_,rfl,rfl⟩
 try dsimp only[D6]
 refine JX (fun B H'=>∃c:Int,B=[some (.ref a),some (.int k),some (.int c),none,none,none]/\H=H') (fun nx hn=>?_) ?_
 .refine⟨_,rfl,_,rfl,a,_,rfl,.inl hS,_,_,rfl,rfl,_,rfl,Ij (fun c=>?_) (fun c=>?_)⟩
  .have c':k<(((ns.map V.int).length:Nat):Int):=ak c;rw[List.length_map]at c';have Z:k.toNat<ns.length:=by lia
   have U:GO (ns.map V.int) k=some (.int ns[k.toNat]):=by
    have z:=Kk (xs:=ns.map V.int) (j:=k.toNat) (v:=.int ns[k.toNat]) (by rw[List.getElem?_map,List.getElem?_eq_getElem Z];rfl)
    rwa [show((k.toNat:Nat):Int)=k by lia]at z
   exact⟨_,rfl,_,rfl,a,_,_,_,rfl,rfl,hS,U,hn _ _ ⟨_,rfl,rfl⟩⟩
  .exact hn _ _ ⟨_,rfl,rfl⟩
 rintro _ _ ⟨c,rfl,rfl⟩;refine⟨_,rfl,_,_,rfl,rfl,⟨by decide,by decide,by decide⟩,_,_,rfl,rfl,_,rfl,Ij (fun _=>?_) (fun _=>?_)⟩
 .exact⟨_,rfl,_,_,rfl,rfl,⟨by decide,by decide,by decide⟩,_,_,rfl,rfl,_,_,rfl,rfl,⟨by decide,by decide,by decide⟩,_,_,rfl,rfl,(by show(0:Int)<10^60;decide),q _⟩
 .refine⟨_,rfl,_,_,rfl,rfl,mulC (by decide) (by decide),_,rfl,_,_,rfl,rfl,mulC (by decide) (by decide),_,_,rfl,rfl,_,_,rfl,rfl,_,_,rfl,rfl,(by show(0:Int)<2147483629;decide),?_⟩;have z0:0<=(c*48271+k*69621+11) % 2147483629:=Int.emod_nonneg _ (by decide);have z1:(c*48271+k*69621+11) % 2147483629<2147483629:=Int.emod_lt_of_pos _ (by decide);refine⟨8,rfl,by decide,by decide,TJ (n:=8) (fun _ σ H'=>∃(m Y:Int) (T:Option V),σ=[some (.ref a),some (.int k),some (.int c),some (.int m),some (.int Y),T]/\0<=m/\m<2147483629/\H=H') ⟨(c*48271+k*69621+11) % 2147483629,0,none,rfl,z0,z1,rfl⟩ ?_ ?_⟩
  .rintro i σ H' hi ⟨m,Y,T,rfl,m0,m1,rfl⟩;refine⟨_,rfl,_,rfl,_,_,rfl,rfl,mulC (by lia) (by lia),_,rfl,_,_,rfl,rfl,mulL (by decide) (by decide),_,_,rfl,rfl,_,_,rfl,rfl,_,_,rfl,rfl,(by show(0:Int)<2147483587;decide),?_⟩;have y0:0<=(m*m+69621*(0+(i:Nat))+7) % 2147483587:=Int.emod_nonneg _ (by decide);have y1:(m*m+69621*(0+(i:Nat))+7) % 2147483587<2147483587:=Int.emod_lt_of_pos _ (by decide);exact⟨_,rfl,_,_,rfl,rfl,mulC (by decide) (by decide),_,rfl,_,rfl,((m*m+69621*(0+(i:Nat))+7) % 2147483587:Int),((m*m+69621*(0+(i:Nat))+7) % 2147483587:Int),rfl,rfl,mulC (by lia) (by lia),_,_,rfl,rfl,(by show(0:Int)<2147483563;decide),_,_,rfl,rfl,_,_,_,rfl,y0,by lia,rfl⟩
  .rintro σ H' ⟨m,Y,T,rfl,m0,m1,rfl⟩;exact⟨_,rfl,q _⟩
def Ue:Af ["_law_pile","_law_top"] ["_law_pile"] (AO JZ):=B9
def VU(F:Fn K mg "_law_part" JZ ["_law_pile"] f fd)(Z:Fn K mg "_law_take" ME ["_law_pile","_law_size"] g1 gd1)(DK:Fn K mg "_law_frac" Hj ["_law_top","_law_bottom"] g2 gd2) (Y:AK P w K mg base AZ 2 g1 gd1 ["_law_pile","_law_size"] Zt)(Em:AK P w K mg base AZ 2 g2 gd2 ["_law_top","_law_bottom"] QV):AK P w K mg base AZ 3 f fd ["_law_pile"] S0:=by
 have sc:=Ue;refine F.F.ok (k:=2) sc (fun vs H Q E h=>?_) (fun cdv A outer s H vs Q E U h=>?_)
 .obtain⟨l,x,rfl,_⟩:=h
  rfl
 obtain⟨l,x,rfl,hl,q⟩:=h;refine⟨_,(Ab (BB (i:=1) sc.nd rfl (Or.inl rfl) (Ar Q8 (B6 Z Y U rfl (AM (pv 0) (AM Aa Ah))) Aa))
 (A2 (CB (B6 DK Em U rfl (AM (pv 1) (AM (Ar FY Aa (B6 Z Y U rfl (AM (pv 0) (AM Aa Ah)))) Ah)))))),?_⟩
 refine⟨_,rfl,l,x,13,rfl,hl,by decide,by decide,fun i y i0 i1=>⟨_,_,rfl,rfl,?_⟩⟩;refine⟨_,rfl,_,rfl,l,y,6,rfl,AW,by decide,by decide,fun j z j0 j1=>⟨_,_,rfl,rfl,?_⟩⟩;have hd:=WX i0 i1 j0 j1;refine⟨i-6,1+j,8,rfl,by lia,by decide,by lia,fun p H' e hp=>?_⟩;refine q p _ z H' (fun b o T=>e _ _ ?_) hp hd.1 hd.2;by_cases B:b=l
 .subst B;rw[AW]at T ⊢;exact T
 .rw[AJ B]at T;rw[AJ B,AJ B];exact T
end
mutual
def RZ{H:Hp}:∀ {d:PD} {v:V},d.canLay0=true->Du H d v->DU H d v
 |.none,_,_,h=>by rw[Du]at h;subst h;exact .B4
 |.bool _,_,_,h=>by rw[Du]at h;subst h;exact .bool
 |.int _,_,_,h=>by rw[Du]at h;subst h;exact .int
 |.str _,_,_,h=>by rw[Du]at h;subst h;exact .str
 |.tuple _,_,c,h=>by
  rw[Du]at h;obtain⟨a,xs,rfl,B,g⟩:=h;exact .tup B (Sd (by simpa only[PyData.canLay0]using c) g)
 |.list _,_,c,h=>by
  rw[Du]at h;obtain⟨a,xs,rfl,B,g⟩:=h;exact .lst B (Sd (by simpa only[PyData.canLay0]using c) g)
 |.dict _,_,c,h=>by simp[PyData.canLay0]at c
def Sd{H:Hp}:∀ {ds:List PD} {xs:List V},PyData.canLayAll0 ds=true->Av H ds xs->B2 H ds xs
 |[],_,_,h=>by rw[h.nil_eq];exact .nil
 |_::_,_,c,h=>by
  obtain⟨x,r,rfl,B,g⟩:=h.un;simp only[PyData.canLayAll0,Bool.and_eq_true]at c;exact .cons (RZ c.1 B) (Sd c.2 g)
end
mutual
def fU{l:AD}{H:Hp}:∀ {d:PD} {v:V},Dt l H d v->Du H d v
 |.none,_,h=>by rw[Dt]at h;rw[Du];exact h
 |.bool _,_,h=>by rw[Dt]at h;rw[Du];exact h
 |.int _,_,h=>by rw[Dt]at h;rw[Du];exact h
 |.str _,_,h=>by rw[Dt]at h;rw[Du];exact h
 |.tuple _,_,h=>by
  rw[Dt]at h;rw[Du];obtain⟨a,xs,rfl,n,B,g⟩:=h;exact⟨a,xs,rfl,B,Su g⟩
 |.list _,_,h=>by
  rw[Dt]at h;rw[Du];obtain⟨a,xs,rfl,n,B,g⟩:=h;exact⟨a,xs,rfl,B,Su g⟩
 |.dict _,_,h=>by rw[Dt]at h;exact h.elim
def Su{l:AD}{H:Hp}:∀ {ds:List PD} {xs:List V},BC l H ds xs->Av H ds xs
 |[],_,h=>by rw[BC]at h;subst h;exact .nil
 |_::_,_,h=>by
  rw[BC]at h;obtain⟨x,r,rfl,B,g⟩:=h;exact .cons (fU B) (Su g)
end
def DU.du{H:Hp}{d:PD}{v:V}(h:DU H d v):Du H d v:=let⟨N,k⟩:=h;fU (k N (aG _))
def YD{G H H':Hp}{l:AD}{vs:sQ}{ds:rq}(U:AL G H)(e:AL H H')(B:H' l=some (.tup vs))(d:Av G ds vs):∃g,AL G g/\Nw G H g/\AL g H'/\Du g (.tuple ds) (.ref l):=by
 have T:AL G (upd G l (.tup vs)):=fun a o h=>by
  by_cases ha:a=l
  .subst ha;have:=e _ _ (U _ _ h);rw[B]at this;rw[AW];exact this
  .rw[AJ ha];exact h
 refine⟨upd G l (.tup vs),T,fun a u h=>?_,fun a u h=>?_,?_⟩
 .by_cases ha:a=l
  .subst ha;rw[AW]at h;cases h;exact .inr (.inr ⟨_,rfl⟩)
  .rw[AJ ha]at h;exact .inl h
 .by_cases ha:a=l
  .subst ha;rw[AW]at h;rw[B];exact h
  .rw[AJ ha]at h;exact e _ _ (U _ _ h)
 .rw[Du];exact⟨l,vs,rfl,AW,d.same T⟩
def Kz{G:Hp}:∀ps:List Int,Av G (ps.map .int) (ps.map V.int)
 |[]=>.nil
 |p::ps=>.cons (by rw[Du]) (Kz ps)
def Ul:∀ps:List Int,PyData.canLayAll0 (ps.map .int)=true
 |[]=>by simp[PyData.canLayAll0]
 |p::ps=>by rw[List.map_cons];simp only[PyData.canLayAll0,PyData.canLay0];rw[Ul ps];rfl
def Lp:PD->Rat
 |.tuple [.int a,.int b]=>Rat.divInt a b
 |_=>0
def K5(r:Rat):Lp (AU r)=r:=FM.Ej r
def Ss(r:Rat):(AU r).canLay0=true:=by unfold AU;simp only[PyData.canLay0];exact Ul [r.num,(r.den:Int)]
section
variable{P:Program}{w:World}{K:Fg}{mg:sD}{base:Heap}{CX:I0}{k:Nat}{f:AD}{fd:FuncData}{ps:sJ}
def ZV(ds:rq):sE:=match ds with
 |[.int t,.int b]=>if b≠0/\b.natAbs<2^400 then some (AU (Rat.divInt t b)) else none
 |_=>none
def qt(F:AK P w K mg base CX k f fd ps QV):AK P w K mg base CX k f fd ps (A0 ZV) :=
 Mv F fun ds x hm G H vs Q E d e kk=>by
  unfold ZV at hm;split at hm
  .split at hm
   .rename_i B;cases hm;obtain⟨v1,v2,rfl,Y,U⟩:=d.Md;rw[Du]at Y U;subst Y U;refine⟨_,_,400,rfl,B.1,by decide,B.2,fun l H' T g=>?_⟩;obtain⟨G',n1,n2,n3,Z⟩:=YD e T g (Kz [(Rat.divInt _ _).num,((Rat.divInt _ _).den:Int)]);exact kk _ G' H' n1 n2 n3 T Z
   .cases hm
  .cases hm
end
def Vt{n:Nat}{ds:rq}(h:∀d∈ds,Ok n d):Yi n ds:=by
 induction ds with
 |nil=>exact⟨by simp[PyData.canLayAll0],by simp[PyData.depthAll]⟩
 |cons d ds g=>
  obtain⟨a,b⟩:=h d (.head _);obtain⟨T,U⟩:=g fun e B=>h e (.tail _ B);exact⟨by simp only[PyData.canLayAll0];rw[a,T];rfl,by simp only[PyData.depthAll];lia⟩
def dn{n:Nat}{ds:rq}(h:∀d∈ds,Ok n d):Ok (n+1) (.list ds):=.lst (Vt h)
def jo{n:Nat}{ds:rq}(h:∀d∈ds,Ok n d):Ok (n+1) (.tuple ds):=.tup (Vt h)
def My(r:Rat):Ok 1 (AU r):=jo (n:=0) fun d hd=>by
 rcases aN.mp hd with rfl|hd
 .exact .int
 .rw[List.mem_singleton.mp hd];exact .int
def ne_self{x:PD}{n:Nat}(h:Ok n x)(hn:n<=64):Cs true x x=some (.bool false):=by
 refine(if_pos ⟨h.shaped hn,h.shaped hn⟩).trans ?_;rw[NI x h.1];rfl
def eX{x:PD}{n:Nat}(h:Ok n x)(hn:n<=64):Cs false x x=some (.bool true):=by
 refine(if_pos ⟨h.shaped hn,h.shaped hn⟩).trans ?_;rw[NI x h.1];rfl
def Xa(x y:Int):Cs false (.int x) (.int y)=some (.bool (decide (x=y))):=by
 have h:SeqAt.shaped (.int x)=true/\SeqAt.shaped (.int y)=true:=⟨(Ok.int (n:=0)).shaped (by decide),(Ok.int (n:=0)).shaped (by decide)⟩;refine(if_pos h).trans ?_;simp[PyData.eqv];exact Bool.eq_iff_iff.mpr (by simp)
def V1{i j:Int}{n:Nat}(B:i.natAbs<2^n)(g:j.natAbs<2^n)(hn:n<=9000):MN (.int i) (.int j)=some (.int (i*j)):=l9 (by
 unfold RQ;rw[Zv (n:=9000) (aI B (ai (by decide) hn)),Zv (n:=9000) (aI g (ai (by decide) hn))];simp)
def ZI{t b:Int}(h:b≠0)(g:b.natAbs<2^400):ZV [.int t,.int b]=some (AU (Rat.divInt t b)):=if_pos ⟨h,g⟩
def HJ:∀ts:List Tr,L2.Bk (Tr.of ts)=ts.map fun t=>.tuple (L2.Bk t)
 |[]=>rfl
 |t::ts=>by rw[List.map_cons,<-HJ ts];rfl
abbrev tD(t:Tr):PD:=.tuple (L2.Bk t)
def Y1(n:Nat):((60:Int)^n)≠0:=Int.pow_ne_zero (by decide)
def FO(m:Int)(c:Nat)(q:Rat):Prop:=∃a:Int,q=Rat.divInt a m/\a.natAbs<=c
def FO.mono{m:Int}{c d:Nat}{q:Rat}(h:FO m c q)(l:c<=d:=by decide):FO m d q:=let⟨a,e,k⟩:=h;⟨a,e,Nat.le_trans k l⟩
def FO.add{m:Int}{c d:Nat}{p q:Rat}(hm:m≠0)(h:FO m c p)(k:FO m d q):FO m (c+d) (p+q):=by
 obtain⟨a,rfl,B⟩:=h;obtain⟨b,rfl,g⟩:=k;exact⟨a+b,by rw[Rat.divInt_add_divInt _ _ hm hm,<-Int.add_mul,Rat.divInt_mul_right hm],by lia⟩
def FO.mul{m n:Int}{c d:Nat}{p q:Rat}(h:FO m c p)(k:FO n d q):FO (m*n) (c*d) (p*q):=by
 obtain⟨a,rfl,B⟩:=h;obtain⟨b,rfl,g⟩:=k;exact⟨a*b,by rw[Rat.divInt_mul_divInt],by rw[Int.natAbs_mul];exact bf B g⟩
def FO.zero{m:Int}{c:Nat}:FO m c 0:=⟨0,by rw[Rat.zero_divInt],by simp⟩
def FO.fits{m:Int}{c n:Nat}{q:Rat}(hm:m≠0)(h:FO m c q)(T:c<2^n)(B:m.natAbs<2^n):FM.Fits q n:=by
 obtain⟨a,rfl,g⟩:=h;exact .Zr hm (aP g T) B
def Mm(r:Rat):Prop:=FM.Fits r 3/\r.den<=6
def OY(l:AD)(g:Hp)(i:Nat)(ys:sQ)(H':Hp):Prop:=SameBut l g H'/\(∃y,H' l=some (.lst [.int y]))/\ys.length=i/\∃rs:List Rat,rs.length=i/\(∀r∈rs,Mm r)/\B2 H' (Ao rs) ys
def Um{l D:AD}{g:Hp}{y:Int}(T:g l=some (.lst [.int y]))(B:g D=none):OY l g 0 [] (upd g D (.lst [])):=⟨.of (An B _),⟨y,An B _ _ _ T⟩,rfl,[],rfl,fun _ z=>(List.not_mem_nil z).elim,.nil⟩
def Ph{l D p:AD}{Y Z B:Hp}{yb y2:Int}{i:Nat}{ys:sQ}{r:Rat}(hl:Y l=some (.lst [.int yb]))(hD:Y D=none)(d:OY l Y i ys Z)(hD1:Z D=some (.lst ys))(e2:AL (upd Z l (.lst [.int y2])) B)(hp:B p=some (.tup (Hz r)))(h6:r.num.natAbs<=6)(h7:r.den<=6):B D=some (.lst ys)/\OY l Y (i+1) (ys++[.ref p]) (upd B D (.lst (ys++[.ref p]))):=by
 obtain⟨e1,⟨y1,hl1⟩,hyl,rs,hrl,hrs,dr⟩:=d;have nl:l≠D:=AY hl hD;have hl2:B l=some (.lst [.int y2]):=e2 _ _ AW;have g:SameBut l Z B:=SameBut.upd.trans (.of e2);have U:=g _ _ nl.symm hD1;have d2:B2 B (Ao (rs++[r])) (ys++[.ref p]):=by
  rw[cK];exact(Gz hl1 g dr).app (.cons (Ry hp) .nil)
 refine⟨U,fun b o nb z=>?_,⟨y2,by rw[AJ nl];exact hl2⟩,by simp[hyl],rs++[r],by simp[hrl],fun x T=>?_,Gz U .upd d2⟩
 .rw[AJ (AY z hD)];exact g _ _ nb (e1 _ _ nb z)
 .rcases bI.mp T with T|T
  .exact hrs x T
  .rw[List.mem_singleton.mp T];exact⟨⟨aP h6 (by decide),Nat.lt_of_le_of_lt h7 (by decide)⟩,h7⟩
def VS(K:Fg):Sp:=fun vs H Q _=>∃(a:AD) (ns:List Int),vs=[.ref a,.int 1,.int 4]/\Aw K H a (ns.map V.int)/\∀v H' t,AL H H'->DU H' (Ai t) v->t.Ok 4->(∀r∈t.rs,∀q∈r,Mm q)->(∀q∈t.ls,Mm q)->Q v H'
section
variable{P:Program}{w:World}{K:Fg}{mg:sD}{base:Heap}{f g1 g2:AD}{fd gd1 gd2:FuncData}
def T6:Af ["_law_script","_law_start","_law_most","_law_size","_law_rows","_law_k","_law_pile"] ["_law_script","_law_start","_law_most"] (AO K6):=B9
def SG(F:Fn K mg "_law_table" K6 ["_law_script","_law_start","_law_most"] f fd)(Dx:Fn K mg "_law_cell" Jb ["_law_script","_law_k"] g1 gd1)(Ek:Fn K mg "_law_part" JZ ["_law_pile"] g2 gd2) (Hk:AK P w K mg base AZ 3 g1 gd1 ["_law_script","_law_k"] (Sf K))(Ja:AK P w K mg base AZ 3 g2 gd2 ["_law_pile"] S0)(B1:mg "range" = none):AK P w K mg base AZ 4 f fd ["_law_script","_law_start","_law_most"] (VS K):=by
 have sc:=T6;refine F.F.ok (k:=3) sc (fun vs H Q E h=>?_) (fun cdv A outer s H vs Q E g h=>?_)
 .obtain⟨a,ns,rfl,_⟩:=h
  rfl
 obtain⟨a,ns,rfl,hS,q⟩:=h;refine⟨_,(Ab (BB (i:=3) sc.nd rfl (Or.inl rfl) (Ar FY Aa (Ar Kf (B6 Dx Hk g rfl (AM (pv 0) (AM (pv 1) Ah))) (pv 2))))
 (Ab (BB (i:=4) sc.nd rfl (Or.inl rfl) (IY Ah))
 (Ab (Jm aL rfl (Ji rfl B1 (AM (pv 3) Ah)) (Ax (i:=5) sc.nd rfl (Or.inl rfl))
  (Ab (BB (i:=6) sc.nd rfl (Or.inr rfl) (IY (AM (B6 Dx Hk g rfl (AM (pv 0) (AM (Ar FY (Ar FY (pv 1) Aa) (pv 5)) Ah))) Ah)))
  (A2 (Ep (Hw aa az bA FX (pv 4) (AM (Fl [".0","_law_j","_law_pile"] 1 [none,none,some 6] (Ji rfl B1 (AM (pv 5) Ah)) (fun _ _ _ _ _=>Er) (fun _ _ _ _ _=>(B6 Ek Ja g rfl (AM (pv 2) Ah)))) Ah))))))
 (Ab (BB (i:=6) sc.nd rfl (Or.inr rfl) (IY (AM (B6 Dx Hk g rfl (AM (pv 0) (AM (Ar FY (Ar FY (pv 1) Aa) (pv 2)) Ah))) Ah)))
 (A2 (CB (N7 (AM (pv 4) (AM (Fl [".0","_law_j","_law_pile"] 1 [none,none,some 6] (Ji rfl B1 (AM (pv 3) Ah)) (fun _ _ _ _ _=>Er) (fun _ _ _ _ _=>(B6 Ek Ja g rfl (AM (pv 2) Ah)))) Ah))))))))),?_⟩
 refine⟨_,rfl,_,rfl,a,ns,1,rfl,hS,by decide,by decide,fun x0=>⟨_,rfl,_,_,rfl,rfl,(by decide:(4:Int)≠0),_,_,rfl,rfl,?_⟩⟩;obtain⟨size,hs1,hs4,es⟩:∃size:Nat,1<=size/\size<=4/\1+x0.fmod 4=(size:Int):=by
  have e:=Int.fmod_eq_emod_of_nonneg x0 (show(0:Int)<=4 by decide);exact⟨(1+x0.fmod 4).toNat,by lia,by lia,by lia⟩
 rw[show((fun i j:Int=>V.int (i+j)) 1 (x0.fmod 4))=V.int (size:Int) from bL V.int es];refine⟨RP (show 0<=60 by decide),fun R hR=>?_⟩;have e1:=An hR (.lst []);have hR1:upd H R (.lst []) R=some (.lst []):=AW;generalize upd H R (.lst [])=H1 at e1 hR1;refine⟨_,rfl,(size:Int),rfl,by lia,by lia,TJ (n:=(size:Int).toNat) (fun i σ H'=>∃(r5 r6:Option V) (rs:List (List Rat)) (xs:List V),σ=[some (.ref a),some (.int 1),some (.int 4),some (.int (size:Int)),some (.ref R),r5,r6]/\AL H H'/\H' R=some (.lst xs)/\BC R H' (BW rs) xs/\rs.length=i/\(∀(j:Nat) r,rs[j]? = some r->r.length=j)/\∀r∈rs,∀q∈r,Mm q) ?_ ?_ ?_⟩
 .exact⟨_,_,[],[],rfl,e1,hR1,.nil,rfl,fun j r z=>by simp at z,fun _ z=>(List.not_mem_nil z).elim⟩
 .rintro i σ H2 hi ⟨r5,r6,rs,xs,rfl,e2,U,dx,hrl,hrj,hrf⟩;refine⟨_,rfl,_,rfl,_,_,rfl,rfl,_,rfl,_,_,rfl,rfl,a,ns,_,rfl,e2.seq hS,by lia,by lia,fun cell=>⟨RP (show 1<=60 by decide),fun l hl=>?_⟩⟩;have e3:=An hl (.lst [.int cell]);have B:upd H2 l (.lst [.int cell]) l=some (.lst [.int cell]):=AW;generalize upd H2 l (.lst [.int cell])=H3 at e3 B;have hxl:xs.length=i:=by rw[dx.len,IG,hrl]
  refine⟨_,rfl,.inl ⟨rfl,_,Aw.of (e3 _ _ U)⟩,_,rfl,0+(i:Int),rfl,by lia,by lia,fun D hD=>Fz (n:=(0+(i:Int)).toNat) (OY l H3) (Um B hD) ?_ ?_⟩
  .rintro j ys Z hj d T;refine⟨hj,QU (n:=60) (by rw[d.2.2.1];lia) (by decide),fun x H' y=>?_⟩;obtain⟨rfl,rfl⟩:=y;obtain⟨y1,hl1⟩:=d.2.1;unfold HR;refine JW ⟨_,rfl,l,y1,rfl,hl1,fun p r y2 H5 Y hp r6 r7=>?_⟩;obtain⟨k1,k2⟩:=Ph B hD d T Y hp r6 r7;exact⟨k1,ER hj k2⟩
  .rintro ys Z ⟨e4,_,hyl,qs,hql,hqs,dq⟩ T;have E4:AL H2 Z:=fun b o z=>e4 _ _ (AY z hl) (e3 _ _ z);have hR4:=E4 _ _ U;have nD:D≠R:=fun z=>by subst z;rw[e3 _ _ U]at hD;cases hD
   refine⟨aG _,R,xs,_,rfl,rfl,hR4,QU (n:=60) (by lia) (by decide),?_⟩;have u:SameBut R Z (upd Z R (.lst (xs++[.ref D]))):=.upd;refine⟨_,_,rs++[qs],xs++[.ref D],rfl,fun b o z=>?_,AW,?_,by simp[hrl],fun j r g=>?_,fun r g=>?_⟩
   .rw[AJ (AY z hR)];exact E4 _ _ (e2 _ _ z)
   .rw[BW,List.map_append];exact .but u ((dx.same E4).app (.cons (lJ hR4 nD T dq) .nil))
   .by_cases z:j<rs.length
    .rw[List.getElem?_append_left z]at g;exact hrj j r g
    .rw[List.getElem?_append_right (by lia)]at g;have:=(aD.mp g).1;rw[List.length_singleton]at this;rw[show j-rs.length=0 by lia]at g;cases g
     lia
   .rcases bI.mp g with g|g
    .exact hrf r g
    .rw[List.mem_singleton.mp g];exact hqs
 .rintro σ H2 ⟨r5,r6,rs,xs,rfl,e2,U,dx,hrl,hrj,hrf⟩;refine⟨_,rfl,_,rfl,_,_,rfl,rfl,_,rfl,_,_,rfl,rfl,a,ns,_,rfl,e2.seq hS,by decide,by decide,fun cell=>⟨RP (show 1<=60 by decide),fun l hl=>?_⟩⟩;have e3:=An hl (.lst [.int cell]);have B:upd H2 l (.lst [.int cell]) l=some (.lst [.int cell]):=AW;generalize upd H2 l (.lst [.int cell])=H3 at e3 B;refine⟨_,rfl,_,rfl,(size:Int),rfl,by lia,by lia,fun D hD=>Fz (n:=(size:Int).toNat) (OY l H3) (Um B hD) ?_ ?_⟩
  .rintro j ys Z hj d T;refine⟨hj,QU (n:=60) (by rw[d.2.2.1];lia) (by decide),fun x H' y=>?_⟩;obtain⟨rfl,rfl⟩:=y;obtain⟨y1,hl1⟩:=d.2.1;unfold HR;refine JW ⟨_,rfl,l,y1,rfl,hl1,fun p r y2 H5 Y hp r6 r7=>?_⟩;obtain⟨k1,k2⟩:=Ph B hD d T Y hp r6 r7;exact⟨k1,ER hj k2⟩
  .rintro ys Z ⟨e4,_,hyl,qs,hql,hqs,dq⟩ T;have E4:AL H2 Z:=fun b o z=>e4 _ _ (AY z hl) (e3 _ _ z);refine⟨aG _,RP (show 2<=60 by decide),fun t0 ht=>?_⟩;have Y:=An ht (.tup [V.ref R,V.ref D]);have h5:upd Z t0 (.tup [V.ref R,V.ref D]) t0=some (.tup [V.ref R,V.ref D]):=AW;generalize upd Z t0 (.tup [V.ref R,V.ref D])=H5 at Y h5;exact q _ H5 ⟨rs,qs⟩ (e2.trans (E4.trans Y)) (bw h5 (Y _ _ (E4 _ _ U)) ((Ky dx).same (E4.trans Y)) (Y _ _ T) (dq.same Y)) ⟨by show 1<=rs.length;lia,by show rs.length<=4;lia,by show qs.length=rs.length;lia,hrj⟩ hrf hqs
end
def Tb.Sm(t:Tb):Prop:=(∀r∈t.rs,∀q∈r,Mm q)/\∀q∈t.ls,Mm q
def la(H H':Hp)(v:V):Prop:=∃(p R L:AD) (xs:List V),v=.ref p/\H' p=some (.tup [.ref R,.ref L])/\H' R=some (.lst xs)/\H R=none/\H L=none/\∀b,V.ref b∈xs->H b=none
def q0:Rat:=⟨0,1,by decide,by decide⟩
def q1:Rat:=⟨1,1,by decide,by decide⟩
def XM:Rat:=⟨1,2,by decide,by decide⟩
def jd:Rat:=⟨1,3,by decide,by decide⟩
def pG:Rat:=⟨2,3,by decide,by decide⟩
def rL:Rat:=⟨1,4,by decide,by decide⟩
def rN:Rat:=⟨3,4,by decide,by decide⟩
def fg:Rat:=⟨1,6,by decide,by decide⟩
def rf:Tb:=⟨[[]],[q1]⟩
def rR:Tb:=⟨[[],[XM]],[q0,q1]⟩
def rD:Tb:=⟨[[],[q1]],[XM,XM]⟩
def rK:Tb:=⟨[[],[jd],[q0,pG]],[rL,q0,rN]⟩
def rX:Tb:=⟨[[],[XM],[q0,XM],[q0,q0,q1]],[fg,jd,jd,fg]⟩
instance (r:Rat):Decidable (Mm r):=inferInstanceAs (Decidable ((r.num.natAbs<2^3/\r.den<2^3)/\r.den<=6))
def eK(t:Tb):Bool:=decide (1<=t.rs.length)&&decide (t.rs.length<=4)&&decide (t.ls.length=t.rs.length)&&(List.range 4).all (fun i=>match t.rs[i]? with|some r=>decide (r.length=i)|none=>true)&&t.rs.all (fun r=>r.all fun q=>decide (Mm q))&&t.ls.all fun q=>decide (Mm q)
def gX{t:Tb}(h:eK t=true):t.Ok 4/\t.Sm:=by
 unfold eK at h;simp only[Bool.and_eq_true,decide_eq_true_eq,List.all_eq_true,List.mem_range]at h;obtain⟨⟨⟨⟨⟨h1,Z⟩,Y⟩,U⟩,T⟩,B⟩:=h;refine⟨⟨h1,Z,Y,fun i r g=>?_⟩,T,B⟩;have:=U i (by have:=(aD.mp g).1;lia);rw[g]at this
 simpa using this
def XU(t:Tb):(Ai t).canLay0=true:=by
 have f:∀r:List Rat,PyData.canLayAll0 (Ao r)=true:=fun r=>by
  induction r with
  |nil=>rfl
  |cons q r B=>show PyData.canLayAll0 (AU q::Ao r)=true;simp[PyData.canLayAll0,B,AU,PyData.canLay0]
 have g:∀rs:List (List Rat),PyData.canLayAll0 (BW rs)=true:=fun rs=>by
  induction rs with
  |nil=>rfl
  |cons r rs B=>show PyData.canLayAll0 (Bk r::BW rs)=true;simp[PyData.canLayAll0,B,Bk,PyData.canLay0,f]
 simp[Ai,PyData.canLay0,PyData.canLayAll0,f,g]
def VG{G H:Hp}(n:∀a xs,G a=some (.lst xs)->H a=none):∀ {rs:List (List Rat)} {xs:List V},Av G (BW rs) xs->∀b,V.ref b∈xs->H b=none
 |[],xs,h,b,g=>by
  have:=h.len;have e:xs=[]:=bG (by simpa[BW]using this);rw[e]at g;cases g
 |r::rs,xs,h,b,g=>by
  obtain⟨x,t,rfl,B,U⟩:=Av.un (d:=Bk r) (ds:=BW rs) h;rw[Bk,Du]at B;obtain⟨a,ys,rfl,T,_⟩:=B;rcases aN.mp g with e|g
  .cases e;exact n _ _ T
  .exact VG n U b g
def Ks(G H H':Hp):Hp:=fun b=>match H' b with
 |some (.tup xs)=>some (.tup xs)
 |some o=>if H b=none then some o else G b
 |none=>none
def jN{G H H':Hp}{a:AD}{xs:sQ}(h:H' a=some (.tup xs)):Ks G H H' a=some (.tup xs):=by unfold Ks;rw[h]
def kT{G H H':Hp}{a:AD}{xs:sQ}(h:H' a=some (.lst xs))(h0:H a=none):Ks G H H' a=some (.lst xs):=by unfold Ks;rw[h];exact if_pos h0
def iK{G H H':Hp}(B:AL G H)(e:AL H H'):AL G (Ks G H H')/\Nw G H (Ks G H H')/\AL (Ks G H H') H':=by
 refine⟨fun a o h=>?_,fun a o h=>?_,fun a o h=>?_⟩
 .have g:=B _ _ h;have T:=e _ _ g;unfold Ks;rw[T];cases o with
  |tup xs=>rfl
  |_=>simp only[g];exact h
 .unfold Ks at h;split at h
  .cases h;exact .inr (.inr ⟨_,rfl⟩)
  .split at h
   .rename_i z;exact .inr (.inl z)
   .exact .inl h
  .cases h
 .unfold Ks at h;cases z:H' a with
  |none=>rw[z]at h;cases h
  |some u=>
   rw[z]at h;cases u with
   |tup xs=>exact h
   |_=>
    simp only at h;split at h
    .exact h
    .rw[<-z];exact e _ _ (B _ _ h)
def Q5{G H H':Hp}:∀ {g:List Rat} {xs:List V},B2 H' (Ao g) xs->Av (Ks G H H') (Ao g) xs
 |[],xs,h=>by
  have:=h.len;have e:xs=[]:=bG (by simpa[Ao]using this);rw[e];exact .nil
 |q::g,xs,h=>by
  obtain⟨x,r,rfl,U,T⟩:=B2.kx (d:=AU q) (ds:=Ao g) h;obtain⟨p,rfl,B⟩:=U.rat;refine .cons ?_ (Q5 T);unfold AU;rw[Du];exact⟨p,_,rfl,jN B,Kz [q.num,(q.den:Int)]⟩
structure HD(H:Hp)(t:Tb)(R L:Addr)(xs ys:List V):Prop where
 R:H R=some (.lst xs)
 L:H L=some (.lst ys)
 lx:xs.length=t.rs.length
 row:∀(i:Nat) r,t.rs[i]? = some r->∃a zs,xs[i]? = some (.ref a)/\H a=some (.lst zs)/\B2 H (Ao r) zs
 ls:B2 H (Ao t.ls) ys
def HD.same{H H':Hp}{t:Tb}{R L:AD}{xs ys:sQ}(h:HD H t R L xs ys)(e:AL H H'):HD H' t R L xs ys :=
 ⟨e _ _ h.R,e _ _ h.L,h.lx,fun i r hi=>let⟨a,zs,T,B,g⟩:=h.row i r hi;⟨a,zs,T,e _ _ B,g.same e⟩,h.ls.same e⟩
def TM{H:Hp}:∀ {rs:List (List Rat)} {xs:List V},xs.length=rs.length->(∀(i:Nat) (r:List Rat),rs[i]? = some r->∃(a:AD) (zs:List V),xs[i]? = some (.ref a)/\H a=some (.lst zs)/\B2 H (Ao r) zs)->B2 H (BW rs) xs
 |[],[],_,_=>.nil
 |[],_::_,h,_=>by cases h
 |_::_,[],h,_=>by cases h
 |r::rs,x::xs,h,g=>by
  obtain⟨a,zs,U,T,B⟩:=g 0 r rfl;cases U;exact .cons (.lst T B) (TM (by simpa using h) fun i r hi=>g (i+1) r hi)
def HD.du{H:Hp}{t:Tb}{p R L:AD}{xs ys:sQ}(h:HD H t R L xs ys)(g:H p=some (.tup [.ref R,.ref L])):DU H (Ai t) (.ref p):=bw g h.R (TM h.lx h.row) h.L h.ls
def HD.rl{H:Hp}{t:Tb}{R L:AD}{xs ys:sQ}(h:HD H t R L xs ys)(o:t.Ok 4){i:Nat}{a:AD}{zs:sQ}(hi:xs[i]? = some (.ref a))(hz:H a=some (.lst zs)):zs.length=i/\i<t.rs.length:=by
 have g:i<t.rs.length:=by rw[<-h.lx];exact(aD.mp hi).1
 obtain⟨Z,U,T,B,Y⟩:=h.row i _ (aJ g);rw[hi]at T;cases T;rw[hz]at B;cases B;have:=Y.len;rw[Gv,o.row i _ (aJ g)]at this;exact⟨this,g⟩
def HD.yl{H:Hp}{t:Tb}{R L:AD}{xs ys:sQ}(h:HD H t R L xs ys)(o:t.Ok 4):ys.length=t.rs.length:=by
 rw[h.ls.len,Gv,o.last]
def HD.iC{H:Hp}{t:Tb}{R L l:AD}{xs ys:sQ}{q:Rat}{j:Nat}(h:HD H t R L xs ys)(o:t.Ok 4)(hl:H l=some (.tup (Hz q))):HD (upd H L (.lst (ys.set j (.ref l)))) ⟨t.rs,t.ls.set j q⟩ R L xs (ys.set j (.ref l)):=by
 have o1:=o.one;have u:SameBut L H (upd H L (.lst (ys.set j (.ref l)))):=.upd;have B:R≠L:=fun z=>by
  have e:=h.R;rw[z,h.L]at e;cases e;obtain⟨a,zs,Z,Y,_⟩:=h.row 0 _ (aJ (show 0<t.rs.length by lia));obtain⟨p',T,k5⟩:=KY h.ls (aJ (show 0<t.ls.length by rw[o.last];lia));rw[Z]at T;cases T;rw[Y]at k5;cases k5
 refine⟨by rw[AJ B];exact h.R,AW,h.lx,fun i r hi=>?_,?_⟩
 .obtain⟨a,zs,U,g,h3⟩:=h.row i r hi;have hr:=h.rl o U g;have na:a≠L:=fun z=>by
   rw[z,h.L]at g;cases g;have:=h.yl o
   lia
  exact⟨a,zs,U,by rw[AJ na];exact g,Gz h.L u h3⟩
 .refine Gz h.L u ?_;show B2 H (Ao (t.ls.set j q)) _;rw[Ao,List.map_set];exact .set (Ry hl) h.ls
def HD.kO{H:Hp}{t:Tb}{R L l a:AD}{xs ys zs:sQ}{q:Rat}{j k:Nat}{r:sP}(h:HD H t R L xs ys)(o:t.Ok 4)(hr:t.rs[k]? = some r)(ha:xs[k]? = some (.ref a))(hz:H a=some (.lst zs))(hl:H l=some (.tup (Hz q))):HD (upd H a (.lst (zs.set j (.ref l)))) ⟨t.rs.set k (r.set j q),t.ls⟩ R L xs ys:=by
 have u:SameBut a H (upd H a (.lst (zs.set j (.ref l)))):=.upd;obtain⟨lz,lk⟩:=h.rl o ha hz;have nR:R≠a:=fun z=>by
  rw[<-z,h.R]at hz;cases hz;have:=h.lx
  lia
 have nL:L≠a:=fun z=>by
  rw[<-z,h.L]at hz;cases hz;have:=h.yl o
  lia
 refine⟨by rw[AJ nR];exact h.R,by rw[AJ nL];exact h.L,by rw[List.length_set];exact h.lx,fun i r' hi=>?_,Gz hz u h.ls⟩;by_cases U:i=k
 .subst U;rw[List.getElem?_set_self lk]at hi;cases hi;refine⟨a,_,ha,AW,Gz hz u ?_⟩;obtain⟨Z,B,T,g,Y⟩:=h.row i r hr;rw[ha]at T;cases T;rw[hz]at g;cases g;rw[Ao,List.map_set];exact .set (Ry hl) Y
 .rw[List.getElem?_set_ne (fun z=>U z.symm)]at hi;obtain⟨Z,B,T,g,Y⟩:=h.row i r' hi;have na:Z≠a:=fun z=>by
   rw[z,hz]at g;cases g;have:=(h.rl o T (by rw[z];exact hz)).1
   lia
  exact⟨Z,B,T,by rw[AJ na];exact g,Gz hz u Y⟩
def ip{t:Tb}(o:t.Ok 4)(s:t.Sm){j:Nat}{q:Rat}(B:Mm q):(Tb.mk t.rs (t.ls.set j q)).Ok 4/\(Tb.mk t.rs (t.ls.set j q)).Sm :=
 ⟨⟨o.one,o.most,by show(t.ls.set j q).length=_;rw[List.length_set];exact o.last,o.row⟩,s.1,fun x g=>by
  rcases List.mem_or_eq_of_mem_set g with h|h
  .exact s.2 x h
  .rw[h];exact B⟩
def jw{t:Tb}(o:t.Ok 4)(s:t.Sm){k j:Nat}{r:sP}{q:Rat}(U:t.rs[k]? = some r)(Z:Mm q):(Tb.mk (t.rs.set k (r.set j q)) t.ls).Ok 4/\(Tb.mk (t.rs.set k (r.set j q)) t.ls).Sm:=by
 have hk:=(aD.mp U).1;refine⟨⟨by show 1<=(t.rs.set k (r.set j q)).length;rw[List.length_set];exact o.one,by show(t.rs.set k (r.set j q)).length<=4;rw[List.length_set];exact o.most,by show _=(t.rs.set k (r.set j q)).length;rw[List.length_set];exact o.last,fun i g hi=>?_⟩,fun g T=>?_,s.2⟩
 .by_cases B:i=k
  .subst B;have hi:(t.rs.set i (r.set j q))[i]? = some g:=hi;rw[List.getElem?_set_self hk]at hi;cases hi;rw[List.length_set];exact o.row i r U
  .have hi:(t.rs.set k (r.set j q))[i]? = some g:=hi;rw[List.getElem?_set_ne (fun z=>B z.symm)]at hi;exact o.row i g hi
 .rcases List.mem_or_eq_of_mem_set (show g∈t.rs.set k (r.set j q) from T) with h|h
  .exact s.1 g h
  .intro x Y;rw[h]at Y;rcases List.mem_or_eq_of_mem_set Y with h'|h'
   .exact s.1 r (aH U) x h'
   .rw[h'];exact Z
def rC:Rat:=⟨-1,1,by decide,by decide⟩
def q2:Rat:=⟨2,1,by decide,by decide⟩
def rg:Tb:=⟨[[],[XM],[rC,q2]],[fg,pG,fg]⟩
def U6(n:Int):Tb:=if n=0 then rf else if n=1 then rR else if n=2 then rD else if n=3 then rK else if n=4 then rX else rg
def dP(n:Int):LX [.int n]=some (Ai (U6 n)):=by
 have c:∀(k:Int) (b:Bool),decide (n=k)=b->Bj (Cs false) (nm 0) (fC (.int k)) [.d (.int n)]=some b:=fun k b h=>Bs (x:=.int n) (y:=.int k) rfl rfl (by rw[Xa,h]);unfold U6;by_cases h0:n=0
 .rw[if_pos h0];exact Bv rfl (Gd (Ig (c 0 true (by simp[h0])) rfl))
 rw[if_neg h0];by_cases g:n=1
 .rw[if_pos g];exact Bv rfl (Am (Bh (c 0 false (by simp[h0])) rfl) (Gd (Ig (c 1 true (by simp[g])) rfl)))
 rw[if_neg g];by_cases B:n=2
 .rw[if_pos B];exact Bv rfl (Am (Bh (c 0 false (by simp[h0])) rfl) (Am (Bh (c 1 false (by simp[g])) rfl) (Gd (Ig (c 2 true (by simp[B])) rfl))))
 rw[if_neg B];by_cases T:n=3
 .rw[if_pos T];exact Bv rfl (Am (Bh (c 0 false (by simp[h0])) rfl) (Am (Bh (c 1 false (by simp[g])) rfl) (Am (Bh (c 2 false (by simp[B])) rfl) (Gd (Ig (c 3 true (by simp[T])) rfl)))))
 rw[if_neg T];by_cases U:n=4
 .rw[if_pos U];exact Bv rfl (Am (Bh (c 0 false (by simp[h0])) rfl) (Am (Bh (c 1 false (by simp[g])) rfl) (Am (Bh (c 2 false (by simp[B])) rfl) (Am (Bh (c 3 false (by simp[T])) rfl) (Gd (Ig (c 4 true (by simp[U])) rfl))))))
 .rw[if_neg U];exact Bv rfl (Am (Bh (c 0 false (by simp[h0])) rfl) (Am (Bh (c 1 false (by simp[g])) rfl) (Am (Bh (c 2 false (by simp[B])) rfl) (Am (Bh (c 3 false (by simp[T])) rfl) (Am (Bh (c 4 false (by simp[U])) rfl) rfl)))))
def mU(n:Int):eK (U6 n)=true:=by
 unfold U6
 repeat' split
 all_goals decide +kernel
def en:Sp:=fun vs H Q _=>∃(n:Int),vs=[.int n]/\∀v H',AL H H'->DU H' (Ai (U6 n)) v->la H H' v->Q v H'
def cZ{P:Program}{w:World}{K:Fg}{mg:sD}{base:Heap}{f:AD}{fd:FuncData}{k:Nat}{ps:sJ}(F:AK P w K mg base AZ k f fd ps (A0 LX)):AK P w K mg base AZ k f fd ps en :=
 F.imp fun vs H Q E z=>by
  obtain⟨n,rfl,q⟩:=z;refine⟨[.int n],Ai (U6 n),fun _=>none,dP n,.cons (by rw[Du]) .nil,fun a o h=>(by cases h),fun v G' H' _ nw B e2 T=>?_⟩;refine q v H' e2 (RZ (XU _) (T.same B)) ?_;have g:∀a xs,G' a=some (.lst xs)->H a=none:=fun a xs h=>by
   rcases nw _ _ h with h|h|⟨ys,h⟩
   .cases h
   .exact h
   .cases h
  rw[Ai,Du]at T;obtain⟨a,xs,rfl,g1,g2⟩:=T;obtain⟨x,r,rfl,Z,g3⟩:=g2.un;obtain⟨y,r,rfl,Y,g6⟩:=g3.un;rw[g6.nil_eq]at g1;rw[Du]at Z Y;obtain⟨R,xs,rfl,U,dR⟩:=Z;obtain⟨L,ys,rfl,hL,_⟩:=Y;exact⟨a,R,L,xs,rfl,B _ _ g1,B _ _ U,g _ _ U,g _ _ hL,VG g dR⟩
def a8(K:Fg):Sp:=fun vs H Q _=>∃(a:AD) (ns:List Int),vs=[.ref a,.int 0]/\Aw K H a (ns.map V.int)/\∀v H' t,AL H H'->DU H' (Ai t) v->t.Ok 4->t.Sm->Q v H'
section
variable{P:Program}{w:World}{K:Fg}{mg:sD}{base:Heap}{f g1 g2 g3 g4:AD}{fd gd1 gd2 gd3 gd4:FuncData}
def R8:Af ["_law_script","_law_start","_law_cell_here","_law_table_here","_law_place","_law_part_here"] ["_law_script","_law_start"] (AO J0):=B9
def Si(F:Fn K mg "_law_tables" J0 ["_law_script","_law_start"] f fd)(Dx:Fn K mg "_law_cell" Jb ["_law_script","_law_k"] g1 gd1)(JC:Fn K mg "_law_known" LA ["_law_which"] g2 gd2)(Ek:Fn K mg "_law_part" JZ ["_law_pile"] g3 gd3)(JE:Fn K mg "_law_table" K6 ["_law_script","_law_start","_law_most"] g4 gd4) (Hk:AK P w K mg base AZ 4 g1 gd1 ["_law_script","_law_k"] (Sf K))(Kx:AK P w K mg base AZ 4 g2 gd2 ["_law_which"] en)(Ja:AK P w K mg base AZ 4 g3 gd3 ["_law_pile"] S0)(WD:AK P w K mg base AZ 4 g4 gd4 ["_law_script","_law_start","_law_most"] (VS K))(BS:mg "len" = none):AK P w K mg base AZ 5 f fd ["_law_script","_law_start"] (a8 K):=by
 have sc:=R8;refine F.F.ok (k:=4) sc (fun vs H Q E h=>?_) (fun cdv A outer s H vs Q E hr h=>?_)
 .obtain⟨a,ns,rfl,_⟩:=h
  rfl
 obtain⟨a,ns,rfl,hS,q⟩:=h;refine⟨_,(Ab (BB (i:=2) sc.nd rfl (Or.inl rfl) (B6 Dx Hk hr rfl (AM (pv 0) (AM (pv 1) Ah))))
 (Ab (BB (i:=3) sc.nd rfl (Or.inl rfl) (B6 JC Kx hr rfl (AM (Ar Ii (pv 2) Aa) Ah)))
 (Ab (Gq (Dd Qp (Ar Ii (Ar JK (pv 2) Aa) Aa) Aa (Ak _))
  (A2 (CB (B6 JE WD hr rfl (AM (pv 0) (AM (Ar FY (pv 1) Aa) (AM Aa Ah))))))
  EL)
 (Ab (Gq (Dd Qp (Ar Ii (Ar JK (pv 2) Aa) Aa) Aa (Ak _))
  (Ab (BB (i:=4) sc.nd rfl (Or.inl rfl) (Ar Kf (Ar JK (pv 2) Aa) (Ds Gu rfl BS ag (AM (Cv Ff (pv 3) Aa (fun _ _=>rfl)) Ah))))
  (Ab (BB (i:=5) sc.nd rfl (Or.inl rfl) (B6 Ek Ja hr rfl (AM (IY (AM (Ar JK (pv 2) Aa) Ah)) Ah)))
  (Ab (Ro (pv 5) (Q4 (Cv Ff (pv 3) Aa (fun _ _=>rfl)) (pv 4) set_list))
  (A2 (Gq (PW.pt (Z4 (Dd Qp (Ar Ii (Ar JK (pv 2) Aa) Aa) Aa (Ak _)) (XB (Dd UT (pv 4) Aa (Ak _)))))
   (A2 (Ro (pv 5) (Q4 (Cv JV (Cv Ff (pv 3) Aa (fun _ _=>rfl)) (pv 4) (fun _ _=>rfl)) (Ar Kf (Ar JK (pv 2) Aa) (pv 4)) set_list)))
   EL)))))
  EL)
 (A2 (CB (pv 3))))))),?_⟩
 refine⟨_,rfl,_,rfl,a,ns,0,rfl,hS,by decide,by decide,fun x=>?_⟩;refine⟨_,rfl,_,_,rfl,rfl,(by show(0:Int)<6;decide),x % 6,rfl,fun v H1 e1 dt nt=>?_⟩;refine⟨_,rfl,_,_,rfl,rfl,⟨by decide,by decide⟩,_,_,rfl,rfl,(by show(0:Int)<3;decide),rfl,_,rfl,Ij (fun c=>?_) (fun c=>?_)⟩
 .refine⟨_,rfl,_,rfl,_,_,rfl,rfl,a,ns,rfl,e1.seq hS,fun v H2 t e2 d2 o2 s2 s3=>?_⟩;exact q v H2 t (e1.trans e2) d2 o2 ⟨s2,s3⟩
 obtain⟨o,sm⟩:=gX (mU (x % 6));generalize U6 (x % 6)=t at dt o sm;obtain⟨p,R,L,xs,ys,rfl,hp,hR,dR,hL,dL⟩:=dt.tab;obtain⟨p',R',L',xs',e',n1,n2,n3,n4,n5⟩:=nt;cases e';rw[hp]at n1;cases n1;rw[hR]at n2;cases n2;have A1:HD H1 t R L xs ys:=⟨hR,hL,by rw[dR.len,IG],fun i r hi=>QZ dR hi,dL⟩;unfold fX;dsimp only;refine JX (fun σ' H'=>∃(r4 r5:Option V) (t':Tb) (ys':List V),σ'=[some (.ref a),some (.int 0),some (.int x),some (.ref p),r4,r5]/\AL H H'/\H' p=some (.tup [.ref R,.ref L])/\HD H' t' R L xs ys'/\t'.Ok 4/\t'.Sm) (fun nx hn=>?_) ?_
 .refine⟨_,rfl,_,_,rfl,rfl,⟨by decide,by decide⟩,_,_,rfl,rfl,(by show(0:Int)<3;decide),rfl,_,rfl,Ij (fun c2=>?_) (fun c2=>?_)⟩
  .have hyl:=A1.yl o;have o1:=o.one;have hyp:(0:Int)<((ys.length:Nat):Int):=by lia
   refine⟨_,rfl,_,_,rfl,rfl,⟨by decide,by decide⟩,_,rfl,_,_,_,_,rfl,rfl,BN.of hp,rfl,_,_,rfl,.inl (Aw.of hL),_,_,rfl,rfl,(by show((ys.length:Nat):Int)≠0;lia),?_⟩;have i1:0<=(x / 18).fmod ((ys.length:Nat):Int):=bU _ hyp;have i2:(x / 18).fmod ((ys.length:Nat):Int)<((ys.length:Nat):Int):=Int.fmod_lt_of_pos _ hyp;obtain⟨j,ej,hj⟩:∃j:Nat,(x / 18).fmod ((ys.length:Nat):Int)=(j:Int)/\j<ys.length:=⟨((x / 18).fmod ((ys.length:Nat):Int)).toNat,by lia,by lia⟩;simp only[ej];refine⟨_,rfl,_,_,rfl,rfl,⟨by decide,by decide⟩,(by show 1<=sizeLine;decide),fun pl hpl=>?_⟩;have f1:=An hpl (.lst [.int (x / 90)]);have g1:upd H1 pl (.lst [.int (x / 90)]) pl=some (.lst [.int (x / 90)]):=AW;generalize upd H1 pl (.lst [.int (x / 90)])=H2 at f1 g1;refine⟨pl,x / 90,rfl,g1,fun l r y H3 e3 T r6 r7=>?_⟩;have f3:AL H1 H3:=fun b o U=>e3 _ _ (by rw[AJ (AY U hpl)];exact f1 _ _ U);have hq:Mm r:=⟨⟨aP r6 (by decide),Nat.lt_of_le_of_lt r7 (by decide)⟩,r7⟩;have A3:=A1.same f3;have B:=f3 _ _ hp;refine⟨_,rfl,_,rfl,_,_,_,_,rfl,rfl,BN.of B,rfl,_,rfl,L,ys,_,j,rfl,rfl,A3.L,(by unfold Na;rw[if_pos (by lia),if_pos (by lia)];simp),?_⟩;have Y:=A3.iC (j:=j) o T;obtain⟨o4,s4⟩:=ip (j:=j) o sm hq;have E4:AL H (upd H3 L (.lst (ys.set j (.ref l)))):=fun b o U=>by
    rw[AJ (AY U n4)];exact f3 _ _ (e1 _ _ U)
   have g:upd H3 L (.lst (ys.set j (.ref l))) p=some (.tup [.ref R,.ref L]):=by
    rw[AJ (fun z=>by rw[z,A3.L]at B;cases B)];exact B
   have hl4:upd H3 L (.lst (ys.set j (.ref l))) l=some (.tup (Hz r)):=by
    rw[AJ (fun z=>by rw[z,A3.L]at T;cases T)];exact T
   generalize upd H3 L (.lst (ys.set j (.ref l)))=H4 at Y E4 g hl4;generalize (Tb.mk t.rs (t.ls.set j r))=t4 at Y o4 s4;have lx4:=Y.lx;have Z:j<t4.rs.length:=by have:=A1.lx;lia
   have done:∀(r5:Option V),nx [some (.ref a),some (.int 0),some (.int x),some (.ref p),some (.int (j:Int)),r5] H4:=fun r5=>hn _ _ ⟨_,_,t4,_,rfl,E4,g,Y,o4,s4⟩;refine⟨_,rfl,_,_,rfl,rfl,⟨by decide,by decide⟩,_,_,rfl,rfl,(by show(0:Int)<2;decide),rfl,_,rfl,Ij (fun c3=>?_) (fun c3=>?_)⟩
   .refine⟨_,rfl,_,_,rfl,rfl,_,rfl,Ij (fun c4=>?_) (fun c4=>?_)⟩
    .have hj0:0<j:=by have:(0:Int)<(j:Int):=ak c4;lia
     have hjp:(0:Int)<(j:Int):=by lia
     have k1:0<=(x / 180).fmod (j:Int):=bU _ hjp;have k2:(x / 180).fmod (j:Int)<(j:Int):=Int.fmod_lt_of_pos _ hjp;obtain⟨m,em,hm⟩:∃m:Nat,(x / 180).fmod (j:Int)=(m:Int)/\m<j:=⟨((x / 180).fmod (j:Int)).toNat,by lia,by lia⟩;obtain⟨ra,zs,z1,z2,z3⟩:=Y.row j _ (aJ Z);have zl:=(Y.rl o4 z1 z2).1;refine⟨_,rfl,_,rfl,_,_,_,_,rfl,rfl,BN.of g,rfl,_,rfl,_,_,_,_,rfl,rfl,Aw.of Y.R,Kk z1,_,rfl,_,_,rfl,rfl,⟨by decide,by decide⟩,_,rfl,_,_,rfl,rfl,(by show(j:Int)≠0;lia),ra,zs,_,m,rfl,rfl,z2,(by show Na _ ((x / 180).fmod (j:Int))=_;rw[em];unfold Na;rw[if_pos (by lia),if_pos (by lia)];simp),?_⟩;have A5:=Y.kO (j:=m) o4 (aJ Z) z1 z2 hl4;obtain⟨o5,s5⟩:=jw (j:=m) o4 s4 (aJ Z) hq;refine hn _ _ ⟨_,_,_,_,rfl,fun b o U=>?_,?_,A5,o5,s5⟩
     .rw[AJ (AY U (n5 ra (aH z1)))];exact E4 _ _ U
     .rw[AJ (fun z=>by rw[z,z2]at g;cases g)];exact g
    .exact done _
   .exact done _
  .exact hn _ _ ⟨_,_,t,ys,rfl,e1,hp,A1,o,sm⟩
 .rintro σ' H' ⟨r4,r5,t',ys',rfl,e',hp',A',o',s'⟩;exact⟨_,rfl,q _ H' t' e' (A'.du hp') o' s'⟩
end
def Ac:Nat->List Tr
 |0=>[]
 |n+1=>Ac n++TH.tz n
def nZ:Nat->Nat
 |0=>0|1=>1|2=>2|3=>4|4=>8|5=>17|6=>37|_=>85
def Zd:∀n,n<=5->(Ac n).length=nZ n/\∀t∈Ac n,t.deep<=8/\t.AI<=5/\1<=t.AI:=by decide +kernel
def gP:C2 [.int 5]=some (.list [.list [],.list (L2.Bk (Tr.of (TH.tz 0))),.list (L2.Bk (Tr.of (TH.tz 1))),.list (L2.Bk (Tr.of (TH.tz 2))),.list (L2.Bk (Tr.of (TH.tz 3))),.list (L2.Bk (Tr.of (TH.tz 4)))]):=by kernel_rfl
abbrev FC(ns:List Nat):List PD:=ns.map fun(n:Nat)=>PyData.int (n:Int)
def QX{p:Rat->Prop}(h0:p 0){l:sP}(h:∀q∈l,p q)(i:Nat):p (l.getD i 0):=by
 rw[List.getD_eq_getElem?_getD];cases e:l[i]? with
 |none=>exact h0
 |some q=>exact h q (aH e)
def WR(p q:Rat):PyData.eqv (AU p) (AU q)=decide (p=q):=by
 by_cases h:p=q
 .subst h;rw[decide_eq_true rfl];exact NI _ (Ss p)
 .rw[decide_eq_false h];refine Bool.eq_false_iff.mpr fun z=>h ?_;unfold AU at z;simp[PyData.eqv,PyData.eqvAll]at z;exact FM.gA z.1 (by lia)
def MQ(p q:Rat):Cs true (AU p) (AU q)=some (.bool (!decide (p=q))):=by
 refine(if_pos ⟨(My p).shaped (by decide),(My q).shaped (by decide)⟩).trans ?_;rw[WR];rfl
def nG{i:Nat}{f:rk}{δ:Dv}{y:PD}{xs:rq}(h:f δ=some y)(o:ow i δ=some xs)(g:xs.length<Cc):QY i f δ=some (.nx (δ.set i (.own (.lst (xs++[y]))))):=by
 show(f δ).bind _=_;rw[h];show(ow i δ).bind _=_;rw[o];exact if_pos g
abbrev Mon:=List Nat
abbrev FE:=List (Mon×Int)
def ED(x:Nat->Rat):Mon->Rat
 |[]=>1
 |i::m=>x i*ED x m
def CH(x:Nat->Rat):FE->Rat
 |[]=>0
 |t::p=>(t.2:Rat)*ED x t.1+CH x p
def So(a:Nat):Mon->Mon
 |[]=>[a]
 |b::m=>if a<=b then a::b::m else b::So a m
def W5(x:Nat->Rat)(a:Nat):∀m:Mon,ED x (So a m)=x a*ED x m
 |[]=>rfl
 |b::m=>by
  unfold So;split
  .rfl
  .show x b*ED x (So a m)=x a*(x b*ED x m);rw[W5 x a m,<-Rat.mul_assoc,<-Rat.mul_assoc,Rat.mul_comm (x b)]
def mulM:Mon->Mon->Mon
 |[],n=>n
 |a::m,n=>So a (mulM m n)
def Xv(x:Nat->Rat):∀m n:Mon,ED x (mulM m n)=ED x m*ED x n
 |[],n=>by show ED x n=1*ED x n;rw[Rat.one_mul]
 |a::m,n=>by
  show ED x (So a (mulM m n))=x a*ED x m*ED x n;rw[W5,Xv x m n,Rat.mul_assoc]
def NL(m:Mon)(c:Int):FE->FE
 |[]=>if c=0 then [] else [(m,c)]
 |(n,d)::p=>if m=n then(if c+d=0 then p else(n,c+d)::p) else(n,d)::NL m c p
def VD:((0:Int):Rat)=0:=rfl
def iD(a b:Int):((a+b:Int):Rat)=(a:Rat)+(b:Rat):=Rat.intCast_add a b
def iQ(a b:Int):((a*b:Int):Rat)=(a:Rat)*(b:Rat):=Rat.intCast_mul a b
def QP(x:Nat->Rat)(m:Mon)(c:Int):∀p:FE,CH x (NL m c p)=(c:Rat)*ED x m+CH x p
 |[]=>by
  unfold NL;split
  .rename_i e;subst e;show(0:Rat)=((0:Int):Rat)*_+0;rw[VD,Rat.zero_mul,Rat.add_zero]
  .rfl
 |(n,d)::p=>by
  unfold NL;split
  .rename_i e;subst e;have h:(c:Rat)*ED x m+CH x ((m,d)::p)=((c+d:Int):Rat)*ED x m+CH x p:=by
    show(c:Rat)*ED x m+((d:Rat)*ED x m+CH x p)=_;rw[<-Rat.add_assoc,<-Rat.add_mul,iD]
   rw[h];split
   .rename_i e;rw[e,VD,Rat.zero_mul,Rat.zero_add]
   .rfl
  .show(d:Rat)*ED x n+CH x (NL m c p)=_;rw[QP x m c p];show _=(c:Rat)*ED x m+((d:Rat)*ED x n+CH x p);rw[<-Rat.add_assoc,<-Rat.add_assoc,Rat.add_comm (_*_) (_*_)]
def IZ:FE->FE->FE
 |[],q=>q
 |t::p,q=>NL t.1 t.2 (IZ p q)
def Mo(x:Nat->Rat):∀p q:FE,CH x (IZ p q)=CH x p+CH x q
 |[],q=>by show CH x q=0+_;rw[Rat.zero_add]
 |t::p,q=>by
  show CH x (NL t.1 t.2 (IZ p q))=(t.2:Rat)*ED x t.1+CH x p+CH x q;rw[QP,Mo x p q,Rat.add_assoc]
def SQ(m:Mon)(c:Int):FE->FE
 |[]=>[]
 |t::p=>NL (mulM m t.1) (c*t.2) (SQ m c p)
def Sb(x:Nat->Rat)(m:Mon)(c:Int):∀p:FE,CH x (SQ m c p)=(c:Rat)*ED x m*CH x p
 |[]=>by show(0:Rat)=_*0;rw[Rat.mul_zero]
 |t::p=>by
  show CH x (NL (mulM m t.1) (c*t.2) (SQ m c p))=_;rw[QP,Sb x m c p,Xv,iQ];show _=(c:Rat)*ED x m*((t.2:Rat)*ED x t.1+CH x p);rw[Rat.mul_add]
  congr 1
  rw[Rat.mul_assoc,Rat.mul_assoc,<-Rat.mul_assoc (t.2:Rat),Rat.mul_comm (t.2:Rat) (ED x m),Rat.mul_assoc]
def Lx:FE->FE->FE
 |[],_=>[]
 |t::p,q=>IZ (SQ t.1 t.2 q) (Lx p q)
def SV(x:Nat->Rat):∀p q:FE,CH x (Lx p q)=CH x p*CH x q
 |[],q=>by show(0:Rat)=0*_;rw[Rat.zero_mul]
 |t::p,q=>by
  show CH x (IZ (SQ t.1 t.2 q) (Lx p q))=((t.2:Rat)*ED x t.1+CH x p)*CH x q;rw[Mo,Sb,SV x p q,Rat.add_mul]
def YI(p:FE):FE:=SQ [] (-1) p
def gQ(x:Nat->Rat)(p:FE):CH x (YI p)=- CH x p:=by
 unfold YI;rw[Sb];show((-1:Int):Rat)*1*CH x p=_;rw[Rat.mul_one,show((-1:Int):Rat)=-1 from rfl,Rat.neg_mul,Rat.one_mul]
def YH:List FE->FE
 |[]=>[]
 |p::l=>IZ p (YH l)
def XX(x:Nat->Rat):∀l:List FE,CH x (YH l)=(l.map (CH x)).sum
 |[]=>rfl
 |p::l=>by
  show CH x (IZ p (YH l))=_;rw[Mo,XX x l,List.map_cons,List.sum_cons]
structure Rg(α:Type) where
 add:α->α->α
 mul:α->α->α
 z:α
 o:α
def K7{α:Type}(R:Rg α)(a b:List α):α:=(List.zipWith R.mul a b).foldr R.add R.z
def HZ{α:Type}(R:Rg α)(rows:List (List α)):Tr->List α->List α
 |.nil,g=>g
 |.cons b r,g=>HZ R rows r (List.zipWith R.mul g (rows.map fun row=>K7 R row (HZ R rows b (List.replicate rows.length R.o))))
def Lk{α:Type}(R:Rg α)(rows:List (List α))(ls:List α)(u:Tr):α:=K7 R ls (HZ R rows u (List.replicate rows.length R.o))
structure KC{α β:Type}(R:Rg α)(S:Rg β)(φ:α->β):Prop where
 add:∀a b,φ (R.add a b)=S.add (φ a) (φ b)
 mul:∀a b,φ (R.mul a b)=S.mul (φ a) (φ b)
 z:φ R.z=S.z
 o:φ R.o=S.o
section
variable{α β:Type}{R:Rg α}{S:Rg β}{φ:α->β}
def KC.zip(h:KC R S φ):∀a b:List α,(List.zipWith R.mul a b).map φ=List.zipWith S.mul (a.map φ) (b.map φ)
 |[],_=>rfl
 |_::_,[]=>rfl
 |x::a,y::b=>by
  show φ (R.mul x y)::(List.zipWith R.mul a b).map φ=S.mul (φ x) (φ y)::List.zipWith S.mul (a.map φ) (b.map φ);rw[h.mul,KC.zip h a b]
def KC.fold(h:KC R S φ):∀a:List α,φ (a.foldr R.add R.z)=(a.map φ).foldr S.add S.z
 |[]=>h.z
 |x::a=>by
  show φ (R.add x (a.foldr R.add R.z))=S.add (φ x) ((a.map φ).foldr S.add S.z);rw[h.add,KC.fold h a]
def KC.dot(h:KC R S φ)(a b:List α):φ (K7 R a b)=K7 S (a.map φ) (b.map φ):=by
 unfold K7;rw[h.fold,h.zip]
def KC.KL(h:KC R S φ)(rows:List (List α)):∀(t:Tr) (g:List α),(HZ R rows t g).map φ=HZ S (rows.map (List.map φ)) t (g.map φ)
 |.nil,g=>rfl
 |.cons b r,g=>by
  rw[HZ,HZ,KC.KL h rows r,h.zip,List.map_map,List.map_map]
  congr 2
  refine av fun row _=>?_;show φ (K7 R row _)=K7 S (row.map φ) _;rw[h.dot,KC.KL h rows b,List.map_replicate,h.o,List.length_map]
def KC.last(h:KC R S φ)(rows:List (List α))(ls:List α)(u:Tr):φ (Lk R rows ls u)=Lk S (rows.map (List.map φ)) (ls.map φ) u:=by
 unfold Lk;rw[h.dot,h.KL,List.map_replicate,h.o,List.length_map]
end
def rI:Rg Int:=⟨fun a b=>a+b,fun a b=>a*b,0,1⟩
def rQ:Rg Rat:=⟨fun a b=>a+b,fun a b=>a*b,0,1⟩
def rP:Rg FE:=⟨IZ,Lx,[],[([],1)]⟩
def ji:KC rI rQ (fun n:Int=>(n:Rat)):=⟨Rat.intCast_add,Rat.intCast_mul,rfl,rfl⟩
def ZL(x:Nat->Rat):KC rP rQ (CH x):=⟨Mo x,SV x,rfl,by show((1:Int):Rat)*1+0=1;rw[Rat.mul_one,Rat.add_zero];rfl⟩
def Yn(rows:List (List Int)):∀(t:Tr) (g:List Int),KL rows t g=HZ rI rows t g
 |.nil,g=>rfl
 |.cons b r,g=>by
  rw[KL,HZ,Yn rows r];show HZ rI rows r (Dr g _)=HZ rI rows r (Dr g _)
  congr 2
  refine av fun row _=>?_;rw[Yn rows b]
  rfl
def jX(rows:List sI)(ls:sI)(u:Tr):(Fe (rows++[ls]) u).getLast?.getD 0=Lk rI (rows++[ls]) ls u:=by
 unfold Fe;rw[List.map_append,List.map_singleton,List.getLast?_concat,Option.getD_some,Yn]
 rfl
def RN(m:Nat):List (List FE):=(List.range m).map fun i=>(List.range i).map fun j=>[([5*i+j],1)]
def PC(m:Nat)(u:Tr):FE:=Lk rP (RN (m+1)) ((List.range m).map fun j=>[([5*m+j],1)]) u
def XG(x:Nat->Rat)(b:Rat):∀m:Mon,ED (fun n=>x n*b) m=ED x m*b^m.length
 |[]=>by show(1:Rat)=1*b^0;rw[Rat.one_mul,Rat.pow_zero]
 |i::m=>by
  show x i*b*ED (fun n=>x n*b) m=x i*ED x m*b^(m.length+1);rw[XG x b m,Rat.pow_succ];rw[Rat.mul_assoc,Rat.mul_assoc,<-Rat.mul_assoc b,Rat.mul_comm b (ED x m),Rat.mul_assoc,Rat.mul_comm b]
def XJ(x:Nat->Rat)(b:Rat)(k:Nat):∀p:FE,(∀t∈p,t.1.length=k)->CH (fun n=>x n*b) p=CH x p*b^k
 |[],_=>by show(0:Rat)=0*_;rw[Rat.zero_mul]
 |t::p,h=>by
  show(t.2:Rat)*ED (fun n=>x n*b) t.1+CH (fun n=>x n*b) p=((t.2:Rat)*ED x t.1+CH x p)*b^k;rw[XG,XJ x b k p fun u g=>h u (.tail _ g),h t (.head _),Rat.add_mul,Rat.mul_assoc]
def Bg(t:Tb):List sP:=t.rs++[t.ls]
def xT(t:Tb)(n:Nat):Rat:=((Bg t).getD (n / 5) []).getD (n % 5) 0
def Vh(x:Nat->Rat)(n:Nat):CH x [([n],1)]=x n:=by
 show((1:Int):Rat)*(x n*1)+0=x n;rw[Rat.add_zero,Rat.mul_one,show((1:Int):Rat)=1 from rfl,Rat.one_mul]
def X9(t:Tb){i j:Nat}(g:j<5):xT t (5*i+j)=((Bg t).getD i []).getD j 0:=by
 unfold xT;rw[show(5*i+j) / 5=i by lia,show(5*i+j) % 5=j by lia]
def dc{t:Tb}{i:Nat}(h:i<t.rs.length):(Bg t).getD i []=t.rs.getD i []:=by
 unfold Bg;rw[List.getD_eq_getElem?_getD,List.getD_eq_getElem?_getD,List.getElem?_append_left h]
def Kd(t:Tb):(Bg t)[t.rs.length]? = some t.ls:=by
 unfold Bg;rw[List.getElem?_append_right (aG _),Nat.sub_self];rfl
def TL{t:Tb}{m:Nat}(h:t.Ok m){i:Nat}{row:sP}(e:(Bg t)[i]? = some row):row.length=i/\i<=t.rs.length:=by
 by_cases z:i<t.rs.length
 .unfold Bg at e;rw[List.getElem?_append_left z]at e;exact⟨h.row i row e,by lia⟩
 .have g:=(aD.mp e).1;unfold Bg at g;rw[List.length_append,List.length_singleton]at g;have:i=t.rs.length:=by lia
  subst this;rw[Kd]at e;cases e;exact⟨h.last,Nat.le_refl _⟩
def Vm{t:Tb}(h:t.Ok 4)(b:Rat){i:Nat}{row:sP}(e:(Bg t)[i]? = some row):((List.range i).map fun j=>[([5*i+j],(1:Int))]).map (CH fun n=>xT t n*b)=row.map (· * b):=by
 obtain⟨g,hi⟩:=TL h e;have B:=h.most;refine List.ext_getElem? fun j=>?_;rw[List.getElem?_map,List.getElem?_map,List.getElem?_map];by_cases z:j<i
 .rw[List.getElem?_range z,List.getElem?_eq_getElem (show j<row.length by lia),Option.map_some,Option.map_some,Option.map_some,Vh];rw[X9 t (by lia),List.getD_eq_getElem?_getD (l:=Bg t),e,Option.getD_some,List.getD_eq_getElem?_getD,List.getElem?_eq_getElem (show j<row.length by lia)]
  rfl
 .rw[List.getElem?_eq_none (by rw[List.length_range];lia),List.getElem?_eq_none (show row.length<=j by lia)]
  rfl
def Xs{t:Tb}(h:t.Ok 4)(b:Rat):(RN (t.rs.length+1)).map (List.map (CH fun n=>xT t n*b))=(Bg t).map (List.map (· * b)):=by
 have g:(Bg t).length=t.rs.length+1:=by unfold Bg;rw[List.length_append];rfl
 refine List.ext_getElem? fun i=>?_;unfold RN;rw[List.getElem?_map,List.getElem?_map,List.getElem?_map];by_cases z:i<t.rs.length+1
 .have e:=aJ (l:=Bg t) (i:=i) (by lia);rw[List.getElem?_range z,e,Option.map_some,Option.map_some,Option.map_some,Vm h b e]
 .rw[List.getElem?_eq_none (by rw[List.length_range];lia),List.getElem?_eq_none (show(Bg t).length<=i by lia)]
  rfl
def gp(q:Rat):q*(((q.den:Nat):Int):Rat)=(q.num:Rat):=by
 have h:=FM.Ej q;have hd:(((q.den:Nat):Int):Rat)≠0:=fun e=>q.den_nz (by have:=Rat.intCast_eq_zero_iff.mp e;lia);rw[Rat.divInt_eq_div]at h;have e:=Rat.div_mul_cancel (a:=(q.num:Rat)) hd;rw[h]at e;exact e
def cy{q:Rat}{B:Int}(h:(q.den:Int) ∣ B):((q.num*B.fdiv (q.den:Int):Int):Rat)=q*(B:Rat):=by
 obtain⟨c,rfl⟩:=h;have hd:(q.den:Int)≠0:=by have:=q.den_nz;lia
 rw[Int.mul_fdiv_cancel_left _ hd,Rat.intCast_mul,Rat.intCast_mul,<-Rat.mul_assoc,gp]
def Om{r:sP}{B:Int}(h:∀q∈r,(q.den:Int) ∣ B):(Gm r B).map (fun n:Int=>(n:Rat))=r.map (· * (B:Rat)):=by
 unfold Gm;rw[List.map_map];exact av fun q g=>cy (h q g)
def Xw{t:Tb}{n:Nat}(h:t.Fits n){m:Nat}(o:t.Ok m):1<=Fj t/\(Fj t).natAbs<2^(1+n*(m+m*m))/\∀r∈Bg t,∀q∈r,(q.den:Int) ∣ Fj t:=by
 obtain⟨Z,Y,U⟩:=XD (TX h t.rs.length);have T:=Ll o t.rs.length (aG _);have hm:=o.most;refine⟨Z,Nat.lt_of_lt_of_le Y (ai (by decide) ?_),fun r g q B=>U _ ?_⟩
 .have:t.rs.length+t.rs.length*t.rs.length<=m+m*m:=Nat.add_le_add hm (bf hm hm);have:=aq n (aQ T this)
  lia
 .unfold Ib;rw[List.take_length];rcases bI.mp g with g|g
  .exact aY _ (List.mem_flatten.mpr ⟨GH r,List.mem_map.mpr ⟨r,g,rfl⟩,List.mem_map.mpr ⟨q,B,rfl⟩⟩)
  .rw[List.mem_singleton.mp g]at B;exact bX _ (aR.mpr ⟨q,B,rfl⟩)
def gx:([1,2,3,4].all fun m=>(Ac 5).all fun u=>(PC m u).all fun t=>decide (t.1.length=u.AI))=true:=by decide +kernel
def jh{m:Nat}(U:1<=m)(T:m<=4){u:Tr}(g:u∈Ac 5):∀t∈PC m u,t.1.length=u.AI:=by
 have hm:m∈[1,2,3,4]:=by
  match m,U,T with
  |1,_,_=>exact .head _
  |2,_,_=>exact .tail _ (.head _)
  |3,_,_=>exact .tail _ (.tail _ (.head _))
  |4,_,_=>exact .tail _ (.tail _ (.tail _ (.head _)))
 exact fun t B=>ak (au.mp (au.mp (au.mp gx m hm) u g) t B)
def YZ{t:Tb}(h:t.Ok 4){n:Nat}(Y:t.Fits n){u:Tr}(T:u∈Ac 5):Cf t u=CH (xT t) (PC t.rs.length u):=by
 obtain⟨b1,_,b3⟩:=Xw Y h;have e2:=jh h.one h.most T;unfold Cf GK;generalize Fj t=B at b1 b3;rw[List.map_append,List.map_singleton,jX];have z:((Lk rI (t.rs.map (fun r=>Gm r B)++[Gm t.ls B]) (Gm t.ls B) u:Int):Rat)=CH (xT t) (PC t.rs.length u)*(B:Rat)^u.AI:=by
  rw[<-XJ (xT t) (B:Rat) u.AI _ e2];refine(ji.last _ _ u).trans ?_;refine Eq.trans ?_ ((ZL (fun n=>xT t n*(B:Rat))).last (RN (t.rs.length+1)) ((List.range t.rs.length).map fun j=>[([5*t.rs.length+j],1)]) u).symm;rw[Xs h,Vm h (B:Rat) (Kd t),Om fun q g=>b3 t.ls (aY _ (List.mem_singleton.mpr rfl)) q g]
  congr 1
  unfold Bg;rw[List.map_append,List.map_append,List.map_map]
  congr 1
  .exact av fun r U=>Om fun q g=>b3 r (bX _ U) q g
  .exact bL (fun x=>[x]) (Om fun q g=>b3 t.ls (aY _ (List.mem_singleton.mpr rfl)) q g)
 have Z:((B^u.AI:Int):Rat)≠0:=fun e=>Int.pow_ne_zero (by lia:B≠0) (Rat.intCast_eq_zero_iff.mp e);rw[Rat.divInt_eq_div,z,<-Rat.intCast_pow];exact Rat.mul_div_cancel Z
def map_one(l:sP):l.map (· * 1)=l:=by
 induction l with
 |nil=>rfl
 |cons x l g=>rw[List.map_cons,g,Rat.mul_one]
def nu{t:Tb}(h:t.Ok 4){n:Nat}(B:t.Fits n){u:Tr}(g:u∈Ac 5):Cf t u=Lk rQ (Bg t) t.ls u:=by
 rw[YZ h B g];have e:(fun n=>xT t n*(1:Rat))=xT t:=funext fun n=>Rat.mul_one _;have r:=Xs h 1;have l:=Vm h 1 (Kd t);rw[e]at r l;refine((ZL (xT t)).last (RN (t.rs.length+1)) ((List.range t.rs.length).map fun j=>[([5*t.rs.length+j],1)]) u).trans ?_;rw[r,l,map_one]
 congr 1
 exact List.map_id'' (fun x=>map_one x) (Bg t)
def mV(ds:rq):sE:=match ds with
 |[.int a,.int b]=>some (.int (FM.gi a b))
 |_=>none
def qK{P:Program}{w:World}{K:Fg}{mg:sD}{base:Heap}{f:AD}{fd:FuncData}{k:Nat}{ps:sJ}(F:AK P w K mg base AZ k f fd ps Qm):AK P w K mg base AZ k f fd ps (A0 mV) :=
 Mv F fun Z x hm G H vs Q E d e T=>by
  unfold mV at hm;split at hm
  .cases hm;obtain⟨Y,U,rfl,B,g⟩:=d.Md;rw[Du]at B g;subst B g;exact⟨_,_,rfl,T _ G H (.refl _) Nw.refl e (.refl _) (by rw[Du])⟩
  .cases hm
abbrev mH:MD:=BZ mV Bd
abbrev lD:MD:=BG mH
abbrev pS:MD:=Eh lD
abbrev dh:MD:=Ec lD pS
def Jr{f g:rk}{δ:Dv}{r:sE}(h:f δ=some (.bool true))(k:g δ=r):MG f g δ=r:=by
 show(f δ).bind _=_;rw[h];exact k
def LM(z:Int):Cs true (.int z) (.int z)=some (.bool false):=ne_self (Ok.int (n:=0)) (by decide)
def WJ(z:Int):Cs false (.int z) (.int z)=some (.bool true):=eX (Ok.int (n:=0)) (by decide)
def fw(q:Rat):mH [AU q]=some (.bool true):=by
 refine Bv rfl ?_;unfold Nm;have hd:=q.den_nz;have B:FM.gi q.num (q.den:Int)=1:=by
  have k:=q.reduced;unfold FM.gi;unfold Nat.Coprime at k;rw[show q.num.gcd (q.den:Int)=1 from k]
  rfl
 have g:∀z:Int,Bd [.int z]=some (.bool true):=fun _=>rfl;refine Am (Bh (E2 rfl (Bs (x:=.int 2) (y:=.int 2) rfl rfl (LM 2))) rfl) (Am (Bh (E2 (GZ (Ge (AV (xs:=[.int q.num]) rfl (g _)))) (GZ (Ge (AV (xs:=[.int (q.den:Int)]) rfl (g _))))) rfl) (EN (Jr (C3 (x:=.int (q.den:Int)) (y:=.int 1) rfl rfl ?_) (C3 (x:=.int 1) (y:=.int 1) (AV (xs:=[.int q.num,.int (q.den:Int)]) rfl ?_) rfl (WJ 1)))))
 .show some (PyData.bool (decide ((1:Int)<=(q.den:Int))))=_;rw[decide_eq_true (by lia)]
 .show some (PyData.int (FM.gi q.num (q.den:Int)))=_;rw[B]
def ey(g:sP):lD [.list (g.map AU)]=some (.bool true):=by
 refine Bv rfl ?_;unfold Lb;refine Am (δ':=[.d (.list (g.map AU)),.no]) (Bh rfl rfl) ?_;refine JY (xs:=g.map AU) (fun i δ=>∃l:L,δ=[.d (.list (g.map AU)),l]) rfl ⟨_,rfl⟩ ?_ ?_
 .rintro i x δ T ⟨l,rfl⟩;obtain⟨q,_,rfl⟩:=aR.mp (aH T);exact⟨_,rfl,_,Bh (GZ (Ge (AV (xs:=[AU q]) rfl (fw q)))) rfl,_,rfl⟩
 .rintro δ ⟨l,rfl⟩
  rfl
def oe{t:Tb}{m:Nat}(o:t.Ok m)(hm:m<=40):pS [.list (BW t.rs)]=some (.bool true):=by
 have h1:=o.one;have h2:=o.most;have hl:=IG t.rs;refine Bv rfl ?_;unfold RT;refine Am (δ':=[.d (.list (BW t.rs)),.no,.no]) (Bh (E2 rfl (E2 (Bs (x:=.int ((BW t.rs).length:Nat)) (y:=.int 1) rfl rfl ?_) (Bs (x:=.int ((BW t.rs).length:Nat)) (y:=.int 40) rfl rfl ?_))) rfl) ?_
 .show some (PyData.bool (decide (((BW t.rs).length:Int)<1)))=_;rw[decide_eq_false (by lia)]
 .show some (PyData.bool (decide ((40:Int)<((BW t.rs).length:Int))))=_;rw[decide_eq_false (by lia)]
 refine JY (xs:=EK (BW t.rs)) (fun i δ=>∃l g:L,δ=[.d (.list (BW t.rs)),l,g]) rfl ⟨_,_,rfl⟩ ?_ ?_
 .rintro i x δ Y ⟨l,g,rfl⟩;obtain⟨y,B,rfl⟩:=F7 Y;unfold BW at B;rw[List.getElem?_map]at B;obtain⟨r,Z,rfl⟩:=aC.mp B;have T:=o.row i r Z;refine⟨[.d (.list (BW t.rs)),.d (.int (i:Nat)),.d (.list (Ao r))],rfl,_,Bh (E2 (GZ (Ge (AV (xs:=[.list (r.map AU)]) rfl (ey r)))) (Bs (x:=.int (i:Nat)) (y:=.int (i:Nat)) ?_ rfl (LM _))) rfl,_,_,rfl⟩;show some (PyData.int ((Ao r).length:Nat))=_;rw[Gv,T]
 .rintro δ ⟨l,g,rfl⟩
  rfl
def jV{t:Tb}{m:Nat}(o:t.Ok m)(hm:m<=40):dh [Ai t]=some (.bool true):=by
 refine Bv rfl ?_;unfold RS;refine Am (Bh (E2 rfl (Bs (x:=.int 2) (y:=.int 2) rfl rfl (LM 2))) rfl) (EN (Jr (AV (xs:=[.list (BW t.rs)]) rfl (oe o hm)) (Jr (AV (xs:=[.list (t.ls.map AU)]) rfl (ey t.ls)) (C3 (x:=.int (t.rs.length:Nat)) (y:=.int (t.rs.length:Nat)) ?_ ?_ (WJ _)))))
 .show some (PyData.int ((Ao t.ls).length:Nat))=_;rw[Gv,o.last]
 .show some (PyData.int ((BW t.rs).length:Nat))=_;rw[IG]
def fE:Option Tr->PD
 |none=>.none
 |some t=>tD t
def Rx:List Tr->List Rat->List Rat->Option Tr
 |t::ts,w::g,v::vs=>if w=v then Rx ts g vs else some t
 |_,_,_=>none
abbrev MU:DF:=DM (Bj (Cs true) (nm 4) (nm 5)) (BK (nm 3)) Bq
abbrev Xx(ts:List Tr)(g vs:List Rat)(δ:Dv):Option Ou:=FF (Vv 3 4 5) MU (La (ts.map tD) (g.map AU) (vs.map AU)) δ
def Uq{t:Tr}{ts:sR}{w v:Rat}{B vs:sP}(a b c d e f:L)(h:w=v):Xx (t::ts) (w::B) (v::vs) [a,b,c,d,e,f]=Xx ts B vs [a,b,c,.d (tD t),.d (AU w),.d (AU v)]:=by
 have T:MU [a,b,c,.d (tD t),.d (AU w),.d (AU v)]=some (.nx [a,b,c,.d (tD t),.d (AU w),.d (AU v)]):=Bh (Bs (x:=AU w) (y:=AU v) rfl rfl ((MQ w v).trans (by rw[decide_eq_true h];rfl))) rfl;show(match MU [a,b,c,.d (tD t),.d (AU w),.d (AU v)]with|some (.nx g)=>_|some (.ct g)=>_|some (.bk g)=>_|some (.rt x)=>_|some (.rn x)=>_|none=>_)=_;rw[T];rfl
def Z1{t:Tr}{ts:sR}{w v:Rat}{B vs:sP}(a b c d e f:L)(h:w≠v):Xx (t::ts) (w::B) (v::vs) [a,b,c,d,e,f]=some (.rt (tD t)):=by
 have T:MU [a,b,c,.d (tD t),.d (AU w),.d (AU v)]=some (.rt (tD t)):=Ig (Bs (x:=AU w) (y:=AU v) rfl rfl ((MQ w v).trans (by rw[decide_eq_false h];rfl))) rfl;show(match MU [a,b,c,.d (tD t),.d (AU w),.d (AU v)]with|some (.nx g)=>_|some (.ct g)=>_|some (.bk g)=>_|some (.rt x)=>_|some (.rn x)=>_|none=>_)=_;rw[T]
def X3:∀ {ts:List Tr} {g vs:List Rat} {t:Tr} (a b c d e f:L),Rx ts g vs=some t->Xx ts g vs [a,b,c,d,e,f]=some (.rt (tD t))
 |[],_,_,_,_,_,_,_,_,_,h=>by cases h
 |_::_,[],[],_,_,_,_,_,_,_,h=>by cases h
 |_::_,[],_::_,_,_,_,_,_,_,_,h=>by cases h
 |_::_,_::_,[],_,_,_,_,_,_,_,h=>by cases h
 |s::ts,w::g,v::vs,t,a,b,c,d,e,f,h=>by
  unfold Rx at h;split at h
  .rename_i z;rw[Uq a b c d e f z];exact X3 a b c _ _ _ h
  .rename_i z;cases h;exact Z1 a b c d e f z
def XO:∀ {ts:List Tr} {g vs:List Rat} (a b c d e f:L),Rx ts g vs=none->∃δ',Xx ts g vs [a,b,c,d,e,f]=some (.nx δ')
 |[],_,_,_,_,_,_,_,_,_=>⟨_,rfl⟩
 |_::_,[],[],_,_,_,_,_,_,_=>⟨_,rfl⟩
 |_::_,[],_::_,_,_,_,_,_,_,_=>⟨_,rfl⟩
 |_::_,_::_,[],_,_,_,_,_,_,_=>⟨_,rfl⟩
 |s::ts,w::g,v::vs,a,b,c,d,e,f,h=>by
  unfold Rx at h;split at h
  .rename_i z;rw[Uq a b c d e f z];exact XO a b c _ _ _ h
  .cases h
abbrev IW(g:List Rat):PD:=.list (g.map AU)
abbrev Co(ts:List Tr):PD:=.list (L2.Bk (Tr.of ts))
def first_is(ts:sR)(g vs:sP):Bu [Co ts,IW g,IW vs]=some (fE (Rx ts g vs)):=by
 refine Bv rfl ?_;unfold MR;have U:Dk SA (AB (nm 0) (AB (nm 1) (AB (nm 2) AG))) [.d (Co ts),.d (IW g),.d (IW vs),.no,.no,.no]=some (La (ts.map tD) (g.map AU) (vs.map AU)):=by
  show some (La (L2.Bk (Tr.of ts)) (g.map AU) (vs.map AU))=_;rw[HJ]
 have B:CP (Dk SA (AB (nm 0) (AB (nm 1) (AB (nm 2) AG)))) (Vv 3 4 5) MU [.d (Co ts),.d (IW g),.d (IW vs),.no,.no,.no]=Xx ts g vs [.d (Co ts),.d (IW g),.d (IW vs),.no,.no,.no]:=by
  show(Dk SA _ _).bind _=_;rw[U];rfl
 cases h:Rx ts g vs with
 |some t=>exact Gd (B.trans (X3 _ _ _ _ _ _ h))
 |none=>
  obtain⟨T,k⟩:=XO (.d (Co ts)) (.d (IW g)) (.d (IW vs)) .no .no .no h;exact Am (B.trans k) rfl
def OL{α:Type}{i:Nat}{f:rk}{fs:rj}{δ:Dv}{fr:sW}{zs:List α}{a g:α->PD}(U:fs δ=some (zs.map a))(Y:zs.length<=Cc) (h:∀z∈zs,f ((Dq fr δ).set i (.d (a z)))=some (g z)):GA (Fx i) F5 f fr fs δ=some (zs.map g):=by
 unfold GA;rw[U,Option.bind_some];have:∀zs:List α,(∀z∈zs,f ((Dq fr δ).set i (.d (a z)))=some (g z))->L2.collect (K2 (Fx i) F5 f (Dq fr δ)) (zs.map a)=some (zs.map g):=fun zs=>by
  induction zs with
  |nil=>intro _;rfl
  |cons z zs B=>
   intro h;rw[List.map_cons,List.map_cons];unfold L2.collect;rw[B fun y T=>h y (.tail _ T)];have e:K2 (Fx i) F5 f (Dq fr δ) (a z)=some (some (g z)):=by
    unfold K2 Fx;rw[Option.bind_some];show(some true).bind _=_;rw[Option.bind_some,if_pos rfl,h z (.head _)]
    rfl
   rw[e];rfl
 rw[this zs h,Option.bind_some,Lz,if_pos (by rw[List.length_map];exact Y)]
def T1{set:PD->Dv->Option Dv}{F:DF}(U:Dv->Prop)(g:PD->Option PD):∀(xs:List PD) (δ:Dv),U δ->(∀x∈xs,∀δ,U δ->∃T,set x δ=some T/\((∃r,g x=some r/\F T=some (.rt r))\/(g x=none/\∃B,F T=some (.nx B)/\U B))) ->
  (∃r,xs.findSome? g=some r/\FF set F xs δ=some (.rt r))\/(xs.findSome? g=none/\∃δ',FF set F xs δ=some (.nx δ')/\U δ')
 |[],δ,h,_=>.inr ⟨rfl,δ,rfl,h⟩
 |x::xs,δ,h,k=>by
  obtain⟨T,h1,h2⟩:=k x (.head _) δ h;rcases h2 with ⟨r,Z,Y⟩|⟨Z,B,Y,h5⟩
  .refine .inl ⟨r,by rw[List.findSome?_cons,Z],?_⟩;unfold FF;rw[h1,Option.bind_some,Y]
  .have e:(x::xs).findSome? g=xs.findSome? g:=by rw[List.findSome?_cons,Z]
   have e2:FF set F (x::xs) δ=FF set F xs B:=by
    rw[FF,h1,Option.bind_some,Y]
   rw[e,e2];exact T1 U g xs B h5 fun y hy=>k y (.tail _ hy)
def Ze{set:PD->Dv->Option Dv}{F F2:DF}{fs:rj}{δ:Dv}{xs:rq}{z:PD}(U:Dv->Prop)(g:PD->Option PD)(hx:fs δ=some xs)(h0:U δ)(hs:∀x∈xs,∀δ,U δ->∃B,set x δ=some B/\((∃r,g x=some r/\F B=some (.rt r))\/(g x=none/\∃T,F B=some (.nx T)/\U T))) (k:∀δ',U δ'->F2 δ'=some (.rt z)):Al (CP fs set F) F2 δ=some (.rt ((xs.findSome? g).getD z)):=by
 have e:CP fs set F δ=FF set F xs δ:=by show(fs δ).bind _=_;rw[hx];rfl
 rcases T1 (F:=F) U g xs δ h0 hs with ⟨r,Z,Y⟩|⟨Z,δ',Y,h3⟩
 .rw[Z];exact Gd (e.trans Y)
 .rw[Z];exact Am (e.trans Y) (k δ' h3)
def Ma:∀t:Tr,E9 (L2.Bk t)=some t
 |.nil=>by rw[L2.Bk,E9]
 |.cons b r=>by rw[L2.Bk,E9,Gh,Ma b,Ma r];rfl
def JM:PD->List Rat
 |.list xs=>xs.map Lp
 |_=>[]
def RI(r:sP):JM (.list (Ao r))=r:=by
 unfold JM Ao;show List.map Lp (r.map AU)=r;rw[List.map_map];exact List.map_id'' (fun q=>K5 q) r
def tabOf:PD->Tb
 |.tuple [.list rs,d]=>⟨rs.map JM,JM d⟩
 |_=>⟨[],[]⟩
def QG(t:Tb):tabOf (Ai t)=t:=by
 unfold Ai tabOf;have e:(BW t.rs).map JM=t.rs:=by
  unfold BW;rw[List.map_map];exact List.map_id'' (fun r=>RI r) t.rs
 show Tb.mk ((BW t.rs).map JM) (JM (.list (Ao t.ls)))=t;rw[e,RI]
def ZQ:((Ac 6).all fun t=>(Ac 6).all fun u=>decide (TH.CG (some u)≠TH.CG (some t))||decide (u=t))=true:=by decide +kernel
def fJ:∀u∈Ac 6,u.eZ=true/\u.deep<8/\u.AI<=6/\∀b∈u.bs,b∈Ac 6:=by decide +kernel
def pP:ZA (Ac 6) 1000:=⟨by decide +kernel,fun a ha b B e=>by
 have:=au.mp (au.mp ZQ b B) a ha;rw[Bool.or_eq_true]at this;rcases this with h|h
 .exact absurd e (ak h)
 .exact ak h,fun t g=>(fJ t g).2.2.2,fun t g=>(fJ t g).2.1,fun t g=>by have:=(fJ t g).2.2.1;lia⟩
def Tb.Wu(t:Tb):Prop:=∃m n k:Nat,t.Ok m/\m<=40/\t.Fits n/\n*(m+m*m)<=4000/\LN (GK t) 1000/\(Fj t).natAbs<2^k/\n+k<=4000/\1<=Fj t/\k*6<=4000
def dQ{t:Tb}{m n k:Nat}(o:t.Ok m)(hm:m<=40)(h:t.Fits n)(b1:1<=Fj t)(b2:(Fj t).natAbs<2^k)(b3:∀r∈Bg t,∀q∈r,(q.den:Int) ∣ Fj t)(Y:n+k+6<=1000):LN (GK t) 1000:=by
 have h4:=o.most;have hl:(GK t).length=t.rs.length+1:=by unfold GK;rw[List.length_map,List.length_append];rfl
 have one:∀row∈GK t,row.length<=40/\row.length<=t.rs.length:=fun row g=>by
  unfold GK at g;obtain⟨r,B,rfl⟩:=aR.mp g;have e:(Gm r (Fj t)).length=r.length:=bT _;rw[e];obtain⟨i,hi⟩:=List.getElem?_of_mem B;have:=TL o (show(Bg t)[i]? = some r from hi)
  lia
 refine⟨by lia,fun row g=>by have:=one row g;lia,2^(n+k),fun row g x Z=>?_,Nat.pow_le_pow_right (by decide) (by lia),fun row g=>aQ (bK _ (aQ (one row g).1 (show 40<=2^6 by decide))) ?_⟩
 .unfold GK at g;obtain⟨r,B,rfl⟩:=aR.mp g;unfold Gm at Z;obtain⟨q,T,rfl⟩:=aR.mp Z;have f:FM.Fits q n:=by
   rcases bI.mp B with g|g
   .exact h.1 r g q T
   .rw[List.mem_singleton.mp g]at T;exact h.2 q T
  obtain⟨c,Y⟩:=b3 r B q T;have hd:(q.den:Int)≠0:=by have:=q.den_nz;lia
  have e:(Fj t).fdiv (q.den:Int)=c:=by rw[Y,Int.mul_fdiv_cancel_left _ hd]
  have U:c.natAbs<=(Fj t).natAbs:=by
   rw[Y,Int.natAbs_mul];exact Nat.le_mul_of_pos_left _ (by have:=q.den_nz;lia)
  rw[e,Int.natAbs_mul,Nat.pow_add];exact bf (ay f.1) (aQ U (ay b2))
 .rw[<-Nat.pow_add];exact ai (by decide) (by lia)
def ny{t:Tb}{m n:Nat}(o:t.Ok m)(hm:m<=40)(h:t.Fits n)(g:n*(m+m*m)<=600)(hn:n<=300):t.Wu:=by
 obtain⟨b1,b2,b3⟩:=Xw h o;exact⟨m,n,1+n*(m+m*m),o,hm,h,by lia,dQ o hm h b1 b2 b3 (by lia),b2,by lia,b1,by lia⟩
open Classical in
noncomputable def Nv(ds:rq):sE:=match ds with
 |[x,.list ys]=>if x=Ai (tabOf x)/\(tabOf x).Wu/\ys=L2.Bk ((E9 ys).getD .nil)/\(∀u∈((E9 ys).getD .nil).bs,u∈Ac 6)/\ys.length<=1000 then some (IW (((E9 ys).getD .nil).bs.map (Cf (tabOf x)))) else none
 |_=>none
def Ug{t:Tb}(h:t.Wu){ts:sR}(B:∀u∈ts,u∈Ac 6)(T:ts.length<=1000):Nv [Ai t,Co ts]=some (IW (ts.map (Cf t))):=by
 unfold Nv;have e:(E9 (L2.Bk (Tr.of ts))).getD .nil=Tr.of ts:=by rw[Ma];rfl
 refine(if_pos ⟨by rw[QG],by rw[QG];exact h,by rw[e],fun u g=>B u (by rw[e,Tr.O5]at g;exact g),by rw[HJ,List.length_map];exact T⟩).trans ?_;rw[QG,e,Tr.O5]
def qd{P:Program}{w:World}{K:Fg}{mg:sD}{base:Heap}{f:AD}{fd:FuncData}{k:Nat}{ps:sJ}(F:AK P w K mg base AZ k f fd ps (jt (Ac 6) 1000)):AK P w K mg base AZ k f fd ps (A0 Nv) :=
 Mv F fun ds x hm G H vs Q E d e Y=>by
  unfold Nv at hm;split at hm
  .rename_i tx ys;split at hm
   .rename_i hc;obtain⟨c1,⟨m,n,kb,w1,w2,w3,w4,w5,w6,w7,w8,w9⟩,c3,c4,c5⟩:=hc;cases hm;generalize tabOf tx=t at c1 w1 w3 w5 w6 w8 Y;subst c1;generalize (E9 ys).getD .nil=T at c3 c4 Y;subst c3;obtain⟨v1,v2,rfl,d1,d2⟩:=d.Md;rw[Du]at d2;obtain⟨L,B,rfl,hL,U⟩:=d2;have ts:=(LW U).same e;have g:B.length=T.bs.length:=ts.len;have Z:T.bs.length<=1000:=by
     rw[<-g,U.len];exact c5
    refine⟨v1,t,L,B,T.bs,m,n,kb,rfl,RZ (XU t) (d1.same e),w1,w2,w3,w4,w5,w6,w7,w8,e _ _ hL,g,Z,fun i x hx=>?_,fun D H' zs e' hD hD' dz=>?_⟩
    .obtain⟨u,hu,tu⟩:=ts.get hx;have hm:=c4 u (aH hu);have h6:=(fJ u hm).2.2.1;exact⟨u,hu,tu,hm,by lia,Nat.le_trans (aq _ h6) w9⟩
    .obtain⟨n1,n2,n3⟩:=iK e e';refine Y (.ref D) _ H' n1 n2 n3 e' ?_;rw[Du];exact⟨D,zs,rfl,kT hD' hD,Q5 dz⟩
   .cases hm
  .cases hm
abbrev qL:MD:=BM A8 9
abbrev V2:MD:=BP qL
def LO:(List.range 6).map (fun k=>V2 [.int ((k+1:Nat):Int)])=(List.range 6).map fun k=>some (Co (TH.tz k)):=by kernel_rfl
def of_is{k:Nat}(h:k<6):V2 [.int ((k+1:Nat):Int)]=some (Co (TH.tz k)):=List.map_inj_left.mp LO k (ax.mpr h)
def jz:Tr->Nat
 |.nil=>1
 |.cons b r=>b.AI*jz b*jz r
def Pr(u:Tr):Nat:=u.AI*jz u
abbrev NA:MD:=Ad (BD 9) 9
def dg:(Ac 6).map (fun u=>NA [tD u])=(Ac 6).map fun u=>some (.int ((Pr u:Nat):Int)):=by kernel_rfl
def SK{u:Tr}(h:u∈Ac 6):NA [tD u]=some (.int ((Pr u:Nat):Int)):=List.map_inj_left.mp dg u h
def GP(u:Tr):Rat:=Rat.divInt 1 (Pr u:Nat)
def iI:(Ac 6).map (fun u=>AU (GP u))=(Ac 6).map fun u=>PyData.tuple [.int 1,.int ((Pr u:Nat):Int)]:=by kernel_rfl
def UO{u:Tr}(h:u∈Ac 6):AU (GP u)=.tuple [.int 1,.int ((Pr u:Nat):Int)]:=List.map_inj_left.mp iI u h
abbrev UX:MD:=Cp NA
def gm{ts:sR}(T:∀u∈ts,u∈Ac 6)(U:ts.length<=1000):UX [Co ts]=some (IW (ts.map GP)):=by
 refine gn rfl ?_;unfold Mt;have e:GA (Fx 1) F5 (A6 (AB (fC (.int 1)) (AB (AQ NA (AB (nm 1) AG)) AG))) [none,none] (DR (nm 0)) [.d (Co ts)]=some (ts.map fun u=>AU (GP u)):=by
  refine OL (zs:=ts) (a:=tD) (g:=fun u=>AU (GP u)) ?_ (aQ U (by unfold Cc;lia)) fun u B=>?_
  .show some (L2.Bk (Tr.of ts))=_;rw[HJ]
  .rw[UO (T u B)];exact Gf (xs:=[.int 1,.int ((Pr u:Nat):Int)]) (Ag rfl (Ag (AV (xs:=[tD u]) rfl (SK (T u B))) rfl)) (by show(2:Nat)<=Cc;decide)
 have:X4 (GA (Fx 1) F5 (A6 (AB (fC (.int 1)) (AB (AQ NA (AB (nm 1) AG)) AG))) [none,none] (DR (nm 0))) [.d (Co ts)]=some (.rn (ts.map fun u=>AU (GP u))):=by
  show(GA _ _ _ _ _ _).map _=_;rw[e];rfl
 rw[show(ts.map GP).map AU=ts.map fun u=>AU (GP u) by rw[List.map_map];rfl];exact this
def EE(t:Tb)(u:Tr):Bool:=!decide (Cf t u=GP u)
def Ve(f g:Tr->Rat):∀ts:List Tr,Rx ts (ts.map f) (ts.map g)=ts.find? fun u=>!decide (f u=g u)
 |[]=>rfl
 |u::ts=>by
  show(if f u=g u then Rx ts (ts.map f) (ts.map g) else some u)=_;rw[List.find?_cons,Ve f g ts];by_cases h:f u=g u
  .rw[if_pos h,decide_eq_true h];rfl
  .rw[if_neg h,decide_eq_false h];rfl
def VY(u:Tr):PD:=.tuple [.int ((u.AI-1:Nat):Int),tD u]
def eL(t:Tb):PD:=(((Ac 6).find? (EE t)).map VY).getD (.tuple [.int 6,.none])
abbrev Zs:MD:=A7 dh
noncomputable abbrev Yw:MD:=Bn Bu Zs V2 UX Nv
def Xb{ps N:sJ}{F:DF}{ds:rq}{δ:Dv}(g:ds.length=ps.length)(h:F (HY N ds)=some (.nx δ)):Bz ps N F ds=some .none:=by unfold Bz;rw[if_pos g,h]
def Zh{t:Tb}{m:Nat}(o:t.Ok m)(hm:m<=40):Zs [Ai t]=some .none:=by
 have f:Hc dh (HY ["thing"] [Ai t])=some (.nx [.d (Ai t)]):=by
  unfold Hc;exact Bh (GZ (Ge (AV (xs:=[Ai t]) rfl (jV o hm)))) rfl
 exact Xb rfl f
def J9(t:Tb)(k:Nat):sE:=((TH.tz k).find? (EE t)).map fun u=>.tuple [.int (k:Nat),tD u]
def ZR:∀k,k<6->(TH.tz k).length<=100/\∀u∈TH.tz k,u∈Ac 6/\u.AI=k+1:=by decide +kernel
def ir{k:Nat}(B:k<6)(t:Tb):J9 t k=((TH.tz k).find? (EE t)).map VY:=by
 unfold J9;cases h:(TH.tz k).find? (EE t) with
 |none=>rfl
 |some u=>
  have g:=List.mem_of_find?_eq_some h;have:=((ZR k B).2 u g).2;show some (PyData.tuple [.int (k:Nat),tD u])=some (VY u);unfold VY;rw[show u.AI-1=k by lia]
def V8(t:Tb):∀n,n<=6->(List.range n).findSome? (J9 t)=((Ac n).find? (EE t)).map VY
 |0,_=>rfl
 |n+1,h=>by
  rw[List.range_succ,List.findSome?_append,V8 t n (by lia),Ac,List.find?_append];rw[show([n]:List Nat).findSome? (J9 t)=J9 t n by rw[List.findSome?_cons];cases J9 t n<;>rfl,ir (by lia)];cases (Ac n).find? (EE t)<;>rfl
def Ur{t:Tb}(h:t.Wu):Yw [Ai t]=some (eL t):=by
 obtain⟨m,n,k,o,hm,_⟩:=id h;refine Bv rfl ?_;unfold NZ;refine Am (δ':=[.d (Ai t),.no,.no,.no]) ?_ ?_
 .show(AQ Zs (AB (nm 0) AG) _).map _=_;rw[AV (xs:=[Ai t]) rfl (Zh o hm)];rfl
 have e:=Ze (F2:=BK (A6 (AB (fC (.int 6)) (AB (fC .none) AG)))) (set:=HC 1) (F:=(Al (Cd 2 (AQ V2 (AB (Ap Cu (nm 1) (fC (.int 1))) AG)))
  (Al (Cd 3 (AQ Bu (AB (nm 2) (AB (AQ Nv (AB (nm 0) (AB (nm 2) AG))) (AB (AQ UX (AB (nm 2) AG)) AG)))))
  (DM (Bj (Oe true) (nm 3) (fC .none))
   (BK (A6 (AB (nm 1) (AB (nm 3) AG))))
   Bq)))) (fs:=Dk V5 (AB (fC (.int 6)) AG)) (δ:=[.d (Ai t),.no,.no,.no]) (xs:=J3 0 6) (z:=.tuple [.int 6,.none]) (fun δ=>∃U T g:L,δ=[.d (Ai t),U,T,g]) (fun x=>match x with|.int i=>J9 t i.toNat|_=>none) rfl ⟨_,_,_,rfl⟩ ?_ ?_
 .refine e.trans ?_;have e2:(J3 0 6).findSome? (fun x=>match x with|.int i=>J9 t i.toNat|_=>none)=(List.range 6).findSome? (J9 t):=rfl;rw[e2,V8 t 6 (aG _)]
  rfl
 .rintro x hx δ ⟨U,T,g,rfl⟩;obtain⟨i,hi⟩:=List.getElem?_of_mem hx;obtain⟨rfl,B⟩:=XT hi;rw[Int.zero_add];obtain⟨tl,ts⟩:=ZR i B;refine⟨_,rfl,?_⟩;have b1:AQ V2 (AB (Ap Cu (nm 1) (fC (.int 1))) AG) [.d (Ai t),.d (.int (i:Nat)),T,g]=some (Co (TH.tz i)):=AV (xs:=[.int ((i+1:Nat):Int)]) rfl (of_is B);have b2:AQ Bu (AB (nm 2) (AB (AQ Nv (AB (nm 0) (AB (nm 2) AG))) (AB (AQ UX (AB (nm 2) AG)) AG))) [.d (Ai t),.d (.int (i:Nat)),.d (Co (TH.tz i)),g]=some (fE ((TH.tz i).find? (EE t))):=by
   refine AV (xs:=[Co (TH.tz i),IW ((TH.tz i).map (Cf t)),IW ((TH.tz i).map GP)]) (Ag rfl (Ag (AV (xs:=[Ai t,Co (TH.tz i)]) rfl (Ug h (fun u Y=>(ts u Y).1) (by lia))) (Ag (AV (xs:=[Co (TH.tz i)]) rfl (gm (fun u Y=>(ts u Y).1) (by lia))) rfl))) ?_;rw[first_is,Ve]
   rfl
  show(∃r,J9 t i=some r/\_)\/(J9 t i=none/\_);unfold J9;cases Z:(TH.tz i).find? (EE t) with
  |some u=>
   rw[Z]at b2;refine .inl ⟨_,rfl,Am (DB b1) (Am (DB b2) (Ig ?_ rfl))⟩
   rfl
  |none=>
   rw[Z]at b2;refine .inr ⟨rfl,_,Am (DB b1) (Am (DB b2) (Bh ?_ rfl)),_,_,_,rfl⟩
   rfl
 .rintro δ ⟨U,T,g,rfl⟩
  rfl
abbrev UQ:MD:=BO ZV
abbrev fG:MD:=Bf ZV
def Y3{p q:Rat}(B:FM.Fits p 190)(g:FM.Fits q 190):fG [AU p,AU q]=some (AU (p*q)):=by
 refine Bv rfl ?_;unfold Ti;refine EN (AV (xs:=[.int (p.num*q.num),.int ((p.den:Int)*q.den)]) (Ag (C3 (x:=.int p.num) (y:=.int q.num) rfl rfl (V1 B.1 g.1 (by decide))) (Ag (C3 (x:=.int (p.den:Int)) (y:=.int (q.den:Int)) rfl rfl (V1 B.d g.d (by decide))) rfl)) ?_);refine(ZI (FM.O6 p q) (aI (FM.dd B g) (ai (by decide) (by decide)))).trans ?_;rw[FM.Qg]
def Xc{p q:Rat}(B:FM.Fits p 190)(g:FM.Fits q 190):UQ [AU p,AU q]=some (AU (p+q)):=by
 refine Bv rfl ?_;unfold QA;refine EN (AV (xs:=[.int (p.num*q.den+q.num*p.den),.int ((p.den:Int)*q.den)]) (Ag (C3 (x:=.int (p.num*q.den)) (y:=.int (q.num*p.den)) (C3 (x:=.int p.num) (y:=.int (q.den:Int)) rfl rfl (V1 B.1 g.d (by decide))) (C3 (x:=.int q.num) (y:=.int (p.den:Int)) rfl rfl (V1 g.1 B.d (by decide))) rfl) (Ag (C3 (x:=.int (p.den:Int)) (y:=.int (q.den:Int)) rfl rfl (V1 B.d g.d (by decide))) rfl)) ?_);refine(ZI (FM.O6 p q) (aI (FM.dd B g) (ai (by decide) (by decide)))).trans ?_;rw[FM.jU]
def Gi(row:List Rat)(f:Nat->Rat):Nat->Rat
 |0=>0
 |i+1=>Gi row f i+row.getD i 0*f i
def CA(t:Tb)(k:Nat):sP:=t.rs.getD k []
def seenQ(t:Tb):Tr->Nat->Rat
 |.nil,_=>1
 |.cons b r,k=>Gi (CA t k) (seenQ t b) (CA t k).length*seenQ t r k
abbrev Nj(t:Tb)(b:Tr)(k:Nat):Rat:=Gi (CA t k) (seenQ t b) (CA t k).length
def Te(t:Tb)(k:Nat)(b:Tr):∀xs:List Tr,seenQ t (Tr.of (xs++[b])) k=seenQ t (Tr.of xs) k*Nj t b k
 |[]=>by
  show Nj t b k*1=1*Nj t b k;rw[Rat.mul_one,Rat.one_mul]
 |x::xs=>by
  show Nj t x k*seenQ t (Tr.of (xs++[b])) k=Nj t x k*seenQ t (Tr.of xs) k*Nj t b k;rw[Te t k b xs,Rat.mul_assoc]
def Tb.S7(t:Tb):Prop:=(∀r∈t.rs,∀q∈r,FO 60 420 q)/\∀q∈t.ls,FO 60 420 q
def fL{q:Rat}(h:Mm q):FO 60 420 q:=by
 obtain⟨⟨Z,_⟩,Y⟩:=h;have hd:q.den=1\/q.den=2\/q.den=3\/q.den=4\/q.den=5\/q.den=6:=by have:=q.den_nz;lia
 have go:∀(b c:Int),c≠0->(q.den:Int)=b->b*c=60->c.natAbs<=60->FO 60 420 q:=fun b c g U T B=>⟨q.num*c,by
  rw[<-T,Rat.divInt_mul_right g,<-U];exact(FM.Ej q).symm,by
  rw[Int.natAbs_mul];exact aQ (bf (show q.num.natAbs<=7 by lia) B) (by decide)⟩
 rcases hd with h|h|h|h|h|h
 .exact go 1 60 (by decide) (by rw[h];rfl) (by decide) (by decide)
 .exact go 2 30 (by decide) (by rw[h];rfl) (by decide) (by decide)
 .exact go 3 20 (by decide) (by rw[h];rfl) (by decide) (by decide)
 .exact go 4 15 (by decide) (by rw[h];rfl) (by decide) (by decide)
 .exact go 5 12 (by decide) (by rw[h];rfl) (by decide) (by decide)
 .exact go 6 10 (by decide) (by rw[h];rfl) (by decide) (by decide)
def oh{t:Tb}(s:t.Sm):t.S7:=⟨fun r B q g=>fL (s.1 r B q g),fun q g=>fL (s.2 q g)⟩
def Ui{row:List Rat}{f:Nat->Rat}{m:Int}{c:Nat}(hm:m≠0)(B:∀q∈row,FO 60 420 q)(T:∀i,FO m c (f i)):∀i,FO (60*m) (i*(420*c)) (Gi row f i)
 |0=>.zero
 |i+1=>by
  have g:(60*m)≠0:=Int.mul_ne_zero (by decide) hm;have e:FO 60 420 (row.getD i 0):=QX .zero B i;have:=(Ui hm B T i).add g (e.mul (T i));exact this.mono (Nat.le_of_eq (Nat.succ_mul i (420*c)).symm)
def M4{t:Tb}(o:t.Ok 4)(k:Nat):(CA t k).length<=3/\(k<t.rs.length->(CA t k).length=k):=by
 unfold CA;rw[List.getD_eq_getElem?_getD];cases h:t.rs[k]? with
 |none=>
  refine⟨by decide,fun z=>?_⟩;rw[List.getElem?_eq_none_iff]at h
  lia
 |some r=>
  have g:=o.row k r h;have T:=(aD.mp h).1;have B:=o.most;show r.length<=3/\(k<t.rs.length->r.length=k);exact⟨by lia,fun _=>g⟩
def Q6{t:Tb}(s:t.S7)(k:Nat):∀q∈CA t k,FO 60 420 q:=by
 unfold CA;rw[List.getD_eq_getElem?_getD];cases h:t.rs[k]? with
 |none=>exact fun q g=>nomatch g
 |some r=>exact s.1 r (aH h)
def IV:∀u:Tr,1<=u.AI
 |.nil=>by simp[Tr.AI]
 |.cons b r=>by have:=IV r;simp[Tr.AI];lia
def Mi{t:Tb}(o:t.Ok 4)(s:t.S7):∀(u:Tr) (k:Nat),FO (60^(u.AI-1)) (1680^(u.AI-1)) (seenQ t u k)
 |.nil,k=>⟨1,by kernel_rfl,by decide⟩
 |.cons b r,k=>by
  have Z:=IV b;have Y:=IV r;have g:=Ui (Y1 (b.AI-1)) (Q6 s k) (Mi o s b) (CA t k).length;have U:=Mi o s r k;have T:FO (60^b.AI) (1680^b.AI) (Nj t b k):=by
   rw[<-Int.pow_succ',show b.AI-1+1=b.AI by lia]at g;refine g.mono ?_;have B:=(M4 o k).1
   calc (CA t k).length*(420*1680^(b.AI-1))<=3*(420*1680^(b.AI-1)):=bK _ B
    _<=1680*1680^(b.AI-1):=by rw[<-Nat.mul_assoc];exact bK _ (by decide)
    _=1680^b.AI:=by rw[<-Nat.pow_succ',show(b.AI-1).succ=b.AI by lia]
  have:=T.mul U;rw[<-Int.pow_add,<-Nat.pow_add,show b.AI+(r.AI-1)=(Tr.cons b r).AI-1 by show _=b.AI+r.AI-1;lia]at this;exact this
def UW{k c:Nat}(g:k<=6)(B:c<=2^20){q:Rat}(h:FO (60^k) (c*1680^k) q):FM.Fits q 190:=by
 refine h.fits (Y1 _) ?_ ?_
 .refine aP (bf B (ai (by decide) g)) (by decide)
 .rw[Int.natAbs_pow];exact aP (ai (by decide) g) (by decide)
def Wt{q:Rat}(h:FO 60 420 q):FM.Fits q 190:=h.fits (by decide) (by decide) (by decide)
def Ut{t:Tb}(o:t.Ok 4)(s:t.S7){u:Tr}(g:u.AI<=6)(k:Nat):FM.Fits (seenQ t u k) 190:=UW (k:=u.AI-1) (c:=1) (by lia) (by decide) (by rw[Nat.one_mul];exact Mi o s u k)
def WB{t:Tb}(o:t.Ok 4)(s:t.S7){b:Tr}(T:b.AI<=5)(row:sP)(B:∀q∈row,FO 60 420 q){i:Nat}(hi:i<=4):FM.Fits (Gi row (seenQ t b) i) 190:=by
 have g:=Ui (Y1 (b.AI-1)) B (Mi o s b) i;rw[<-Int.pow_succ',show b.AI-1+1=b.AI by have:=IV b;lia]at g;refine UW (k:=b.AI) (c:=1) (by lia) (by decide) (g.mono ?_);rw[Nat.one_mul]
 calc i*(420*1680^(b.AI-1))<=4*(420*1680^(b.AI-1)):=bK _ hi
  _=1680*1680^(b.AI-1):=by rw[<-Nat.mul_assoc]
  _=1680^b.AI:=by rw[<-Nat.pow_succ',show(b.AI-1).succ=b.AI by have:=IV b;lia]
abbrev X6:Nat->MD:=CQ fG UQ
def XF{t:Tb}(o:t.Ok 4)(s:t.S7):∀(n:Nat) (u:Tr),u.deep<n->u.AI<=5->∀k,k<t.rs.length->X6 n [.list (BW t.rs),tD u,.int (k:Nat)]=some (AU (seenQ t u k))
 |0,_,h,_,_,_=>absurd h (ae _)
 |n+1,u,hd,hu,k,hk=>by
  have U:t.rs[k]? = some (CA t k):=by unfold CA;rw[List.getD_eq_getElem?_getD,List.getElem?_eq_getElem hk];rfl
  have hlen:=(M4 o k).2 hk;have h4:=o.most;refine Bv rfl ?_;unfold MK;refine Am (DB (y:=AU 1) rfl) ?_;refine JY (xs:=u.bs.map tD) (fun i δ=>∃l4 l5 B g:L,δ=[.d (.list (BW t.rs)),.d (tD u),.d (.int (k:Nat)),.d (AU (seenQ t (Tr.of (u.bs.take i)) k)),l4,l5,B,g]) ?_ ⟨_,_,_,_,rfl⟩ ?_ ?_
  .show some (L2.Bk u)=_;have:=HJ u.bs;rw[Tr.PK]at this;rw[this]
  .rintro i x δ Z ⟨l4,l5,B,g,rfl⟩;rw[List.getElem?_map]at Z;obtain⟨b,hb,rfl⟩:=aC.mp Z;have hm:=aH hb;have hbd:=Tr.M3 hm;have hbk:=Tr.Jo hm;refine⟨_,rfl,RU (DB (y:=AU 0) rfl) ?_⟩;have inner:∃T,CP (Dk Hs (AB (Ap Bi (nm 0) (nm 2)) AG)) (DH 6 7) (Cd 5 (AQ UQ (AB (nm 5) (AB (AQ fG (AB (nm 7) (AB (AQ (X6 n) (AB (nm 0) (AB (nm 4) (AB (nm 6) AG)))) AG))) AG)))) [.d (.list (BW t.rs)),.d (tD u),.d (.int (k:Nat)),.d (AU (seenQ t (Tr.of (u.bs.take i)) k)),.d (tD b),.d (AU 0),B,g]=some (.nx T)/\∃B g:L,T=[.d (.list (BW t.rs)),.d (tD u),.d (.int (k:Nat)),.d (AU (seenQ t (Tr.of (u.bs.take i)) k)),.d (tD b),.d (AU (Nj t b k)),B,g]:=by
    refine O7 (xs:=EK (Ao (CA t k))) (fun j δ=>∃B g:L,δ=[.d (.list (BW t.rs)),.d (tD u),.d (.int (k:Nat)),.d (AU (seenQ t (Tr.of (u.bs.take i)) k)),.d (tD b),.d (AU (Gi (CA t k) (seenQ t b) j)),B,g]) ?_ ⟨_,_,rfl⟩ ?_ ?_
    .have e:Ap Bi (nm 0) (nm 2) [.d (.list (BW t.rs)),.d (tD u),.d (.int (k:Nat)),.d (AU (seenQ t (Tr.of (u.bs.take i)) k)),.d (tD b),.d (AU 0),B,g]=some (.list (Ao (CA t k))):=C3 (x:=.list (BW t.rs)) (y:=.int (k:Nat)) rfl rfl (Kk (by unfold BW;rw[List.getElem?_map,U];rfl));show(AB _ AG _).bind Hs=_;rw[Ag e rfl]
     rfl
    .rintro j x δ Z ⟨B,g,rfl⟩;obtain⟨y,hy,rfl⟩:=F7 Z;unfold Ao at hy;rw[List.getElem?_map]at hy;obtain⟨q,hq,rfl⟩:=aC.mp hy;have hjl:j<(CA t k).length:=(aD.mp hq).1;have hqg:(CA t k).getD j 0=q:=by rw[List.getD_eq_getElem?_getD,hq];rfl
     have Y:=Q6 s k q (aH hq);refine⟨_,rfl,_,DB (y:=AU (Gi (CA t k) (seenQ t b) (j+1))) ?_,_,_,rfl⟩;show _=some (AU (Gi (CA t k) (seenQ t b) j+(CA t k).getD j 0*seenQ t b j));rw[hqg];have ih:=XF o s n b (by lia) (by lia) j (by lia);refine AV (xs:=[AU (Gi (CA t k) (seenQ t b) j),AU (q*seenQ t b j)]) (Ag rfl (Ag (AV (xs:=[AU q,AU (seenQ t b j)]) (Ag rfl (Ag (AV (xs:=[.list (BW t.rs),tD b,.int (j:Nat)]) rfl ih) rfl)) (Y3 (Wt Y) (Ut o s (by lia) j))) rfl)) (Xc (WB o s (by lia) _ (Q6 s k) (by lia)) ?_);have e1:=Y.mul (Mi o s b j);rw[<-Int.pow_succ',show b.AI-1+1=b.AI by have:=IV b;lia]at e1;refine UW (k:=b.AI) (c:=1) (by lia) (by decide) (e1.mono ?_);rw[Nat.one_mul]
     calc 420*1680^(b.AI-1)<=1680*1680^(b.AI-1):=bK _ (by decide)
      _=1680^b.AI:=by rw[<-Nat.pow_succ',show(b.AI-1).succ=b.AI by have:=IV b;lia]
    .rintro δ ⟨B,g,rfl⟩;refine⟨B,g,?_⟩;have:(EK (Ao (CA t k))).length=(CA t k).length:=by unfold EK;simp[Ao]
     rw[this]
   obtain⟨T,f1,l6',l7',rfl⟩:=inner;refine RU f1 ⟨_,DB (y:=AU (seenQ t (Tr.of (u.bs.take (i+1))) k)) ?_,_,_,_,_,rfl⟩;have et:u.bs.take (i+1)=u.bs.take i++[b]:=by rw[List.take_succ,hb];rfl
   rw[et,Te];have hkt:(Tr.of (u.bs.take i)).AI<=u.AI:=NW u i;exact AV (xs:=[AU (seenQ t (Tr.of (u.bs.take i)) k),AU (Nj t b k)]) rfl (Y3 (Ut o s (by lia) k) (WB o s (by lia) _ (Q6 s k) (by lia)))
  .rintro δ ⟨l4,l5,B,g,rfl⟩;rw[List.length_map,List.take_length,Tr.PK]
   rfl
def fsum:List Rat->(Nat->Rat)->Nat->Rat
 |[],_,_=>0
 |q::row,f,j=>q*f j+fsum row f (j+1)
def b0(row:List Rat)(f:Nat->Rat):∀i,i<=row.length->Gi row f i+fsum (row.drop i) f i=fsum row f 0
 |0,_=>by rw[Gi,List.drop_zero,Rat.zero_add]
 |i+1,h=>by
  rw[<-b0 row f i (by lia),Gi,List.drop_eq_getElem_cons (show i<row.length by lia),fsum,List.getD_eq_getElem?_getD,List.getElem?_eq_getElem (show i<row.length by lia),Rat.add_assoc]
  rfl
def U0(row:sP)(f:Nat->Rat):Gi row f row.length=fsum row f 0:=by
 have:=b0 row f row.length (aG _)
 rwa [List.drop_length,fsum,Rat.add_zero]at this
def YJ:∀(row L:List Rat) (f:Nat->Rat) (j:Nat),(∀i,i<row.length->L[i]? = some (f (j+i)))->K7 rQ row L=fsum row f j
 |[],L,f,j,_=>rfl
 |q::row,[],f,j,h=>by have:=h 0 (by simp);simp at this
 |q::row,x::L,f,j,h=>by
  have h0:=h 0 (by simp);simp at h0;subst h0;show q*f j+K7 rQ row L=q*f j+fsum row f (j+1);rw[YJ row L f (j+1) fun i hi=>by have:=h (i+1) (by simpa using hi);rw[show j+1+i=j+(i+1) by lia];simpa using this]
def eB{t:Tb}{k:Nat}(g:k<t.rs.length):(Bg t)[k]? = some (CA t k):=by
 unfold Bg CA;rw[List.getElem?_append_left g,List.getD_eq_getElem?_getD,List.getElem?_eq_getElem g];rfl
def QI{t:Tb}(o:t.Ok 4):∀(u:Tr) (g:List Rat),g.length=t.rs.length+1->∀(k:Nat) (q:Rat),k<t.rs.length->g[k]? = some q->(HZ rQ (Bg t) u g)[k]? = some (q*seenQ t u k)
 |.nil,g,Y,k,q,B,h=>by
  show g[k]? = some (q*1);rw[Rat.mul_one];exact h
 |.cons b r,g,Y,k,q,B,h=>by
  have T:(Bg t).length=t.rs.length+1:=by unfold Bg;rw[List.length_append];rfl
  have ones:∀j,j<t.rs.length->(HZ rQ (Bg t) b (List.replicate (Bg t).length rQ.o))[j]? = some (seenQ t b j):=fun j hj=>by
   have:=QI o b (List.replicate (Bg t).length rQ.o) (by rw[List.length_replicate,T]) j 1 hj (by rw[List.getElem?_replicate,if_pos (by lia)];rfl)
   rwa [Rat.one_mul]at this
  have U:=(M4 o k).2 B;have e:K7 rQ (CA t k) (HZ rQ (Bg t) b (List.replicate (Bg t).length rQ.o))=Nj t b k:=by
   rw[YJ (CA t k) _ (seenQ t b) 0 fun i hi=>by rw[Nat.zero_add];exact ones i (by lia)];exact(U0 _ _).symm
  have Z:(List.zipWith rQ.mul g ((Bg t).map fun row=>K7 rQ row (HZ rQ (Bg t) b (List.replicate (Bg t).length rQ.o))))[k]? = some (q*Nj t b k):=by
   rw[List.getElem?_zipWith,h,List.getElem?_map,eB B,Option.map_some,e]
   rfl
  have:=QI o r _ (by rw[List.length_zipWith,List.length_map,Y,T,Nat.min_self]) k _ B Z;show(HZ rQ (Bg t) r _)[k]? = some (q*(Nj t b k*seenQ t r k));rw[this,Rat.mul_assoc]
def dY(t:Tb)(u:Tr):Rat:=Gi t.ls (seenQ t u) t.ls.length
def ic{t:Tb}(o:t.Ok 4){n:Nat}(T:t.Fits n){u:Tr}(B:u∈Ac 5):dY t u=Cf t u:=by
 have g:(Bg t).length=t.rs.length+1:=by unfold Bg;rw[List.length_append];rfl
 rw[nu o T B];unfold dY Lk;rw[U0,YJ t.ls _ (seenQ t u) 0 fun i hi=>?_];have U:=o.last;have:=QI o u (List.replicate (Bg t).length rQ.o) (by rw[List.length_replicate,g]) i 1 (by lia) (by rw[List.getElem?_replicate,if_pos (by lia)];rfl);rw[Rat.one_mul]at this;rw[Nat.zero_add];exact this
abbrev Wv:MD:=Cn fG UQ (X6 9)
def oJ{t:Tb}(o:t.Ok 4)(s:t.S7){u:Tr}(hd:u.deep<9)(hu:u.AI<=5):Wv [Ai t,tD u]=some (AU (dY t u)):=by
 have h4:=o.most;have hl:=o.last;refine Bv rfl ?_;unfold Ny;refine Am (DB (y:=AU 0) rfl) ?_;refine JY (xs:=EK (Ao t.ls)) (fun j δ=>∃T B:L,δ=[.d (Ai t),.d (tD u),.d (AU (Gi t.ls (seenQ t u) j)),T,B]) rfl ⟨_,_,rfl⟩ ?_ ?_
 .rintro j x δ hx ⟨T,B,rfl⟩;obtain⟨y,U,rfl⟩:=F7 hx;unfold Ao at U;rw[List.getElem?_map]at U;obtain⟨q,Z,rfl⟩:=aC.mp U;have hjl:j<t.ls.length:=(aD.mp Z).1;have Y:t.ls.getD j 0=q:=by rw[List.getD_eq_getElem?_getD,Z];rfl
  have g:=s.2 q (aH Z);refine⟨_,rfl,_,DB (y:=AU (Gi t.ls (seenQ t u) (j+1))) ?_,_,_,rfl⟩;show _=some (AU (Gi t.ls (seenQ t u) j+t.ls.getD j 0*seenQ t u j));rw[Y];refine AV (xs:=[AU (Gi t.ls (seenQ t u) j),AU (q*seenQ t u j)]) (Ag rfl (Ag (AV (xs:=[AU q,AU (seenQ t u j)]) (Ag rfl (Ag (AV (xs:=[.list (BW t.rs),tD u,.int (j:Nat)]) rfl (XF o s 9 u hd hu j (by lia))) rfl)) (Y3 (Wt g) (Ut o s (by lia) j))) rfl)) (Xc (WB o s hu _ s.2 (by lia)) ?_);have e1:=g.mul (Mi o s u j);rw[<-Int.pow_succ',show u.AI-1+1=u.AI by have:=IV u;lia]at e1;refine UW (k:=u.AI) (c:=1) (by lia) (by decide) (e1.mono ?_);rw[Nat.one_mul]
  calc 420*1680^(u.AI-1)<=1680*1680^(u.AI-1):=bK _ (by decide)
   _=1680^u.AI:=by rw[<-Nat.pow_succ',show(u.AI-1).succ=u.AI by have:=IV u;lia]
 .rintro δ ⟨T,B,rfl⟩;have:(EK (Ao t.ls)).length=t.ls.length:=by unfold EK;simp[Ao]
  rw[this]
  rfl
def Lj{α:Type}(mul:α->α->α)(row:Nat->Nat->α)(g:List (sO×α))(p:Nat):List (sO×α):=g.flatMap fun w=>(List.range (w.1.getD p 0)).map fun k=>(w.1++[k],mul w.2 (row (w.1.getD p 0) k))
def Ke{α:Type}(mul:α->α->α)(row:Nat->Nat->α)(ls:Nat->α)(m:Nat)(ps:sO):List (sO×α):=ps.foldl (Lj mul row) ((List.range m).map fun k=>([k],ls k))
def d7:Tr->List Nat->List Nat
 |.nil,g=>g
 |.cons b r,g=>d7 r (g++[0]++(d7 b []).map (g.length+1 + ·))
def Dh(u:Tr):sO:=d7 u []
def gM:(Ac 5).map (fun u=>BF 9 [tD u])=(Ac 5).map fun u=>some (PyData.list (FC (Dh u))):=by kernel_rfl
def US(m:Nat)(ps:sO):List (sO×FE):=Ke Lx (fun r k=>[([5*r+k],1)]) (fun k=>[([5*m+k],1)]) m ps
def YQ(p q:FE):Bool:=(IZ (YI q) p).isEmpty
def eP{p q:FE}(h:YQ p q=true)(x:Nat->Rat):CH x p=CH x q:=by
 have e:=Mo x (YI q) p;unfold YQ at h;rw[List.isEmpty_iff.mp h,gQ]at e;have e:(0:Rat)=-CH x q+CH x p:=e
 grind
def cv:([1,2,3,4].all fun m=>(Ac 5).all fun u=>YQ (YH ((US m (Dh u)).map (·.2))) (PC m u))=true:=by decide +kernel
def gB:([1,2,3,4].all fun m=>(Ac 5).all fun u=>(List.range 6).all fun i=>decide ((US m ((Dh u).take i)).length<=100))=true:=by decide +kernel
def i7:∀u∈Ac 5,(Dh u).length+1=u.AI/\∀i,i<5->∀p,(Dh u)[i]? = some p->p<=i:=by decide +kernel
def Ez(t:Tb)(ps:sO):List (sO×Rat):=Ke (· * ·) (fun r k=>(CA t r).getD k 0) (fun k=>t.ls.getD k 0) t.rs.length ps
def Ld(m:Nat){α:Type}(g:List (sO×α)):Prop:=∀w∈g,∀e∈w.1,e<m
def b6{α:Type}(mul:α->α->α)(row:Nat->Nat->α)(ls:Nat->α)(m:Nat)(ps:sO)(p:Nat):Ke mul row ls m (ps++[p])=Lj mul row (Ke mul row ls m ps) p:=by
 unfold Ke;rw[List.foldl_append];rfl
def fN{α:Type}{mul:α->α->α}{row:Nat->Nat->α}{m:Nat}{T:List (sO×α)}(h:Ld m T)(p:Nat):Ld m (Lj mul row T p):=fun w U e Z=>by
 unfold Lj at U;obtain⟨v,Y,B⟩:=List.mem_flatMap.mp U;obtain⟨k,g,rfl⟩:=aR.mp B;rcases bI.mp Z with z|z
 .exact h v Y e z
 .rw[List.mem_singleton.mp z];have g:=ax.mp g;rw[List.getD_eq_getElem?_getD]at g;cases q:v.1[p]? with
  |none=>rw[q]at g;exact absurd g (ae _)
  |some r=>
   rw[q]at g;have:=h v Y r (aH q);exact bZ g this
def h9{α:Type}(mul:α->α->α)(row:Nat->Nat->α)(ls:Nat->α)(m:Nat):∀ps:sO,Ld m (Ke mul row ls m ps):=by
 have go:∀(ps:List Nat) (g:List (List Nat×α)),Ld m g->Ld m (ps.foldl (Lj mul row) g):=fun ps=>by
  induction ps with
  |nil=>intro g h;exact h
  |cons p ps B=>intro g h;exact B _ (fN h p)
 intro ps;refine go ps _ fun w T e Y=>?_;obtain⟨k,U,rfl⟩:=aR.mp T;rw[List.mem_singleton.mp Y];exact ax.mp U
def VQ{α β:Type}{f g:α->List β}:∀ {l:List α},(∀a∈l,f a=g a)->l.flatMap f=l.flatMap g
 |[],_=>rfl
 |a::l,h=>by rw[List.flatMap_cons,List.flatMap_cons,h a (.head _),VQ fun b B=>h b (.tail _ B)]
def Vk{t:Tb}(o:t.Ok 4):∀ps:sO,(US t.rs.length ps).map (fun w=>(w.1,CH (xT t) w.2))=Ez t ps:=by
 have h4:=o.most;have st:∀(g:List (List Nat×FE)) (p:Nat),Ld t.rs.length g->(Lj Lx (fun r k=>[([5*r+k],1)]) g p).map (fun w=>(w.1,CH (xT t) w.2))=Lj (· * ·) (fun r k=>(CA t r).getD k 0) (g.map fun w=>(w.1,CH (xT t) w.2)) p:=fun g p T=>by
  unfold Lj;rw[List.map_flatMap,List.flatMap_map];refine VQ fun w hm=>?_;rw[List.map_map];refine av fun k B=>?_;have B:=ax.mp B;show(w.1++[k],CH (xT t) (Lx w.2 [([5*w.1.getD p 0+k],1)]))=(w.1++[k],CH (xT t) w.2*(CA t (w.1.getD p 0)).getD k 0);have Y:w.1.getD p 0<t.rs.length:=by
   rw[List.getD_eq_getElem?_getD]at B ⊢;cases q:w.1[p]? with
   |none=>rw[q]at B;exact absurd B (ae _)
   |some r=>exact T w hm r (aH q)
  rw[SV,Vh,X9 t (by lia),dc Y]
  rfl
 have go:∀(ps:List Nat) (g:List (List Nat×FE)),Ld t.rs.length g->(ps.foldl (Lj Lx (fun r k=>[([5*r+k],1)])) g).map (fun w=>(w.1,CH (xT t) w.2))=ps.foldl (Lj (· * ·) (fun r k=>(CA t r).getD k 0)) (g.map fun w=>(w.1,CH (xT t) w.2)):=fun ps=>by
  induction ps with
  |nil=>intro g _;rfl
  |cons p ps U=>intro g h;rw[List.foldl_cons,List.foldl_cons,<-st g p h];exact U _ (fN h p)
 intro ps;unfold US Ez Ke;rw[go ps _ fun w T e Z=>by
  obtain⟨k,B,rfl⟩:=aR.mp T;rw[List.mem_singleton.mp Z];exact ax.mp B]
 congr 1
 rw[List.map_map];refine av fun k B=>?_;have B:=ax.mp B;show([k],CH (xT t) [([5*t.rs.length+k],1)])=([k],t.ls.getD k 0);rw[Vh,X9 t (by lia),List.getD_eq_getElem?_getD (l:=Bg t),Kd]
 rfl
def m4{m:Nat}(B:1<=m)(g:m<=4):m∈[1,2,3,4]:=by
 match m,B,g with
 |1,_,_=>exact .head _
 |2,_,_=>exact .tail _ (.head _)
 |3,_,_=>exact .tail _ (.tail _ (.head _))
 |4,_,_=>exact .tail _ (.tail _ (.tail _ (.head _)))
def dB{t:Tb}(o:t.Ok 4){n:Nat}(B:t.Fits n){u:Tr}(g:u∈Ac 5):((Ez t (Dh u)).map (·.2)).sum=Cf t u:=by
 rw[YZ o B g,<-eP (au.mp (au.mp cv _ (m4 o.one o.most)) u g) (xT t),XX,<-Vk o,List.map_map,List.map_map]
 rfl
def WC{t:Tb}(o:t.Ok 4){u:Tr}(g:u∈Ac 5){i:Nat}(hi:i<6):(Ez t ((Dh u).take i)).length<=100:=by
 rw[<-Vk o,List.length_map];exact ak (au.mp (au.mp (au.mp gB _ (m4 o.one o.most)) u g) i (ax.mpr hi))
open Classical in
noncomputable def mT(ds:rq):sE:=match ds with
 |[x,y]=>if ∃p q,x=AU p/\y=AU q/\FM.Fits p 400/\FM.Fits q 400 then some (AU (Lp x*Lp y)) else none
 |_=>none
def og{p q:Rat}(B:FM.Fits p 400)(g:FM.Fits q 400):mT [AU p,AU q]=some (AU (p*q)):=by
 unfold mT;refine(if_pos ⟨p,q,rfl,rfl,B,g⟩).trans ?_;rw[K5,K5]
section
variable{P:Program}{w:World}{K:Fg}{mg:sD}{base:Heap}{CX:I0}{k:Nat}{f:AD}{fd:FuncData}{ps:sJ}
def toT(F:AK P w K mg base CX k f fd ps (ky K (fun p q=>p*q) fun _=>True)):AK P w K mg base CX k f fd ps (A0 mT) :=
 Mv F fun ds x hm G H vs Q E d e B=>by
  unfold mT at hm;split at hm
  .split at hm
   .rename_i hh;obtain⟨p,q,rfl,rfl,hp,hq⟩:=hh;cases hm;rw[K5,K5]at B;obtain⟨v1,v2,rfl,d1,d2⟩:=d.Md;obtain⟨a,rfl,ha⟩:=(RZ (Ss p) (d1.same e)).rat;obtain⟨b,rfl,hb⟩:=(RZ (Ss q) (d2.same e)).rat;refine⟨_,_,p,q,400,rfl,.of ha,.of hb,hp,hq,by decide,trivial,fun l H' T g=>?_⟩;obtain⟨G',n1,Z,Y,U⟩:=YD e T g (Kz [(p*q).num,((p*q).den:Int)]);exact B _ G' H' n1 Z Y T U
   .cases hm
  .cases hm
end
abbrev pairD(p:Int×Int):PD:=.tuple [.int p.1,.int p.2]
def fS:PD->Rat
 |.list g=>(g.map Lp).sum
 |_=>0
open Classical in
noncomputable def WI(ds:rq):sE:=match ds with
 |[x]=>if ∃ps:List (Int×Int),x=.list (ps.map pairD)/\ps.length<=100/\∀p∈ps,1<=p.2/\p.1.natAbs<2^20/\p.2.natAbs<2^20 then some (AU (fS x)) else none
 |_=>none
def hJ{ps:List (Int×Int)}(B:ps.length<=100)(g:∀p∈ps,1<=p.2/\p.1.natAbs<2^20/\p.2.natAbs<2^20):WI [.list (ps.map pairD)]=some (AU (ps.map fun p=>Rat.divInt p.1 p.2).sum):=by
 unfold WI;refine(if_pos ⟨ps,rfl,B,g⟩).trans ?_;show some (AU ((ps.map pairD).map Lp).sum)=_;rw[List.map_map]
 rfl
def nX{G:Hp}{p:Int×Int}{v:V}(h:Du G (pairD p) v):∃c,v=.ref c/\G c=some (.tup [.int p.1,.int p.2]):=by
 rw[Du]at h;obtain⟨c,xs,rfl,U,T⟩:=h;obtain⟨x,y,rfl,B,g⟩:=T.Md;rw[Du]at B g;subst B g;exact⟨c,rfl,U⟩
def nk{P:Program}{w:World}{K:Fg}{mg:sD}{base:Heap}{CX:I0}{k:Nat}{f:AD}{fd:FuncData}{ps:sJ}(F:AK P w K mg base CX k f fd ps fV):AK P w K mg base CX k f fd ps (A0 WI) :=
 Mv F fun ds x hm G H vs Q E d e U=>by
  unfold WI at hm;split at hm
  .split at hm
   .rename_i hh;obtain⟨g,rfl,h1,h2⟩:=hh;cases hm;obtain⟨v,rfl,d1⟩:=d.Io;rw[Du]at d1;obtain⟨a,xs,rfl,n1,T⟩:=d1;have Z:=T.len;rw[List.length_map]at Z;have ht:fS (.list (g.map pairD))=(g.map fun p=>Rat.divInt p.1 p.2).sum:=by
     show((g.map pairD).map Lp).sum=_;rw[List.map_map];rfl
    rw[ht]at U;refine⟨a,xs,g,20,rfl,e _ _ n1,Z,by lia,fun j x p hx hp=>?_,h2,by lia,fun l H' e' B=>?_⟩
    .obtain⟨v,Y,k2⟩:=T.get (i:=j) (d:=pairD p) (by rw[List.getElem?_map,hp];rfl);rw[hx]at Y;cases Y;obtain⟨c,r1,r2⟩:=nX k2;exact⟨c,r1,e _ _ r2⟩
    .obtain⟨G',m1,m2,m3,m4⟩:=YD e e' B (Kz [((g.map fun p=>Rat.divInt p.1 p.2).sum).num,(((g.map fun p=>Rat.divInt p.1 p.2).sum).den:Int)]);exact U _ G' H' m1 m2 m3 e' m4
   .cases hm
  .cases hm
def Eg(w:sO×Rat):PD:=.tuple [.tuple (FC w.1),AU w.2]
def iV(row:sP):EK (Ao row)=(List.range row.length).map fun(k:Nat)=>PyData.tuple [.int (k:Int),AU (row.getD k 0)]:=by
 refine List.ext_getElem? fun i=>?_;unfold EK Ao;rw[List.getElem?_map,List.getElem?_zipIdx,List.getElem?_map,List.getElem?_map];by_cases h:i<row.length
 .rw[List.getElem?_range h,List.getElem?_eq_getElem h];simp[List.getD_eq_getElem?_getD,h]
 .rw[List.getElem?_eq_none (by lia),List.getElem?_eq_none (by rw[List.length_range];lia)]
  rfl
def O0{α:Type}{i j:Nat}{f:rk}{fs:rj}{δ:Dv}{fr:sW}{zs:List α}{a b g:α->PD}(U:fs δ=some (zs.map fun z=>.tuple [a z,b z]))(Y:zs.length<=Cc) (h:∀z∈zs,f (((Dq fr δ).set i (.d (a z))).set j (.d (b z)))=some (g z)):Di (DH i j) F5 f fr fs δ=some (.list (zs.map g)):=by
 unfold Di GA;rw[U,Option.bind_some];have:∀zs:List α,(∀z∈zs,f (((Dq fr δ).set i (.d (a z))).set j (.d (b z)))=some (g z))->L2.collect (K2 (DH i j) F5 f (Dq fr δ)) (zs.map fun z=>.tuple [a z,b z])=some (zs.map g):=fun zs=>by
  induction zs with
  |nil=>intro _;rfl
  |cons z zs B=>
   intro h;rw[List.map_cons];unfold L2.collect;rw[B fun y T=>h y (.tail _ T)];have e:K2 (DH i j) F5 f (Dq fr δ) (.tuple [a z,b z])=some (some (g z)):=by
    unfold K2 DH;rw[Option.bind_some];show(some true).bind _=_;rw[Option.bind_some,if_pos rfl,h z (.head _)]
    rfl
   rw[e];rfl
 rw[this zs h,Option.bind_some,Lz,if_pos (by rw[List.length_map];exact Y)]
 rfl
def iM{α:Type}(mul:α->α->α)(row:Nat->Nat->α)(ls:Nat->α)(m:Nat):∀(ps:sO),∀w∈Ke mul row ls m ps,w.1.length=ps.length+1:=by
 have go:∀(ps:List Nat) (n:Nat) (B:List (List Nat×α)),(∀w∈B,w.1.length=n)->∀w∈ps.foldl (Lj mul row) B,w.1.length=ps.length+n:=fun ps=>by
  induction ps with
  |nil=>intro n B h w g;rw[List.length_nil,Nat.zero_add];exact h w g
  |cons p ps Y=>
   intro n B h w g;rw[List.length_cons,show ps.length+1+n=ps.length+(n+1) by lia];refine Y (n+1) _ (fun v T=>?_) w g;unfold Lj at T;obtain⟨z,Z,U⟩:=List.mem_flatMap.mp T;obtain⟨k,_,rfl⟩:=aR.mp U;rw[List.length_append,h z Z];rfl
 intro ps w g;refine go ps 1 _ (fun v T=>?_) w g;obtain⟨k,_,rfl⟩:=aR.mp T
 rfl
def dC(n:Nat):FM.Fits 0 (n+1):=⟨Nat.pow_pos (by decide),Nat.one_lt_two_pow (by lia)⟩
def WL{t:Tb}(s:t.Sm):∀(ps:sO),∀w∈Ez t ps,FM.Fits w.2 (3*(ps.length+1)):=by
 have B:∀r k,FM.Fits ((CA t r).getD k 0) 3:=fun r k=>by
  unfold CA;rw[List.getD_eq_getElem?_getD (l:=t.rs)];cases h:t.rs[r]? with
  |none=>exact dC 2
  |some row=>exact QX (p:=fun q=>FM.Fits q 3) (dC 2) (fun q Z=>(s.1 row (aH h) q Z).1) k
 have go:∀(ps:List Nat) (n:Nat) (T:List (List Nat×Rat)),(∀w∈T,FM.Fits w.2 (3*n))->∀w∈ps.foldl (Lj (· * ·) (fun r k=>(CA t r).getD k 0)) T,FM.Fits w.2 (3*(ps.length+n)):=fun ps=>by
  induction ps with
  |nil=>intro n T h w g;rw[List.length_nil,Nat.zero_add];exact h w g
  |cons p ps ih=>
   intro n T h w g;rw[List.length_cons,show ps.length+1+n=ps.length+(n+1) by lia];refine ih (n+1) _ (fun v U=>?_) w g;unfold Lj at U;obtain⟨z,hz,Y⟩:=List.mem_flatMap.mp U;obtain⟨k,_,rfl⟩:=aR.mp Y;rw[Nat.mul_succ];exact(h z hz).times (B _ _)
 intro ps w g;refine go ps 1 _ (fun v U=>?_) w g;obtain⟨k,_,rfl⟩:=aR.mp U;exact QX (p:=fun q=>FM.Fits q 3) (dC 2) (fun q Z=>(s.2 q Z).1) k
def cat_t{xs ys:rq}(h:xs.length+ys.length<=500):Cu (.tuple xs) (.tuple ys)=some (.tuple (xs++ys)):=by
 have e:RB (.tuple xs) (.tuple ys)=some (.tuple (xs++ys)):=if_pos (by unfold Cc;lia);unfold Cu Pp;show(match RB (.tuple xs) (.tuple ys) with|some z=>some z|none=>Yk (.tuple xs) (.tuple ys))=_;rw[e]
noncomputable abbrev kA:MD:=BH mT WI (BF 9)
abbrev Mz(t:Tb)(p:Nat)(w:List Nat×Rat):List (List Nat×Rat):=(List.range (w.1.getD p 0)).map fun k=>(w.1++[k],w.2*(CA t (w.1.getD p 0)).getD k 0)
def ef{t:Tb}(o:t.Ok 4)(s:t.Sm){n:Nat}(hf:t.Fits n){u:Tr}(hu:u∈Ac 5):kA [Ai t,tD u]=some (AU (Cf t u)):=by
 have h4:=o.most;have hl:=o.last;obtain⟨pl,pp⟩:=i7 u hu;have hk5:=((Zd 5 (by decide)).2 u hu).2.1;have hpar:BF 9 [tD u]=some (PyData.list (FC (Dh u))):=List.map_inj_left.mp gM u hu;have w0:(List.range t.ls.length).map (fun k=>Eg ([k],t.ls.getD k 0))=(Ez t []).map Eg:=by
  unfold Ez Ke;rw[List.foldl_nil,List.map_map,hl]
  rfl
 refine Bv rfl ?_;unfold Ln;refine Am (DB (y:=.list ((Ez t []).map Eg)) ?_) ?_
 .rw[<-w0];refine O0 (zs:=List.range t.ls.length) (a:=fun(k:Nat)=>.int (k:Int)) (b:=fun k=>AU (t.ls.getD k 0)) ?_ (by rw[List.length_range];unfold Cc;lia) fun k _=>rfl;rw[<-iV]
  rfl
 refine JY (xs:=FC (Dh u)) (fun i δ=>∃l3 l4 l5 Z T B:L,δ=[.d (Ai t),.d (tD u),.d (.list ((Ez t ((Dh u).take i)).map Eg)),l3,l4,l5,Z,T,B]) ?_ ⟨_,_,_,_,_,_,rfl⟩ ?_ ?_
 .exact XR (x:=.list (FC (Dh u))) (AV (xs:=[tD u]) rfl hpar) rfl
 .rintro i x δ hx ⟨l3,l4,l5,Z,T,B,rfl⟩;unfold FC at hx;rw[List.getElem?_map]at hx;obtain⟨p,hp,rfl⟩:=aC.mp hx;have hi:i<(Dh u).length:=(aD.mp hp).1;have hpi:=pp i (by lia) p hp;have et:(Dh u).take (i+1)=(Dh u).take i++[p]:=by rw[List.take_succ,hp];rfl
  have wl:∀w∈Ez t ((Dh u).take i),w.1.length=i+1:=fun w hw=>by
   have:=iM _ _ _ _ _ w hw;rw[List.length_take,Nat.min_eq_left (by lia)]at this;exact this
  have wf:∀w∈Ez t ((Dh u).take i),FM.Fits w.2 (3*(i+1)):=fun w hw=>by
   have:=WL s _ w hw;rw[List.length_take,Nat.min_eq_left (by lia)]at this;exact this
  have wo:Ld t.rs.length (Ez t ((Dh u).take i)):=h9 _ _ _ _ _;have l1:=WC o hu (i:=i+1) (by lia);have enext:Ez t ((Dh u).take (i+1))=(Ez t ((Dh u).take i)).flatMap (Mz t p):=by
   rw[et];exact b6 _ _ _ _ _ p
  rw[enext]at l1;have enx:∀g:List (List Nat×Rat),Ez t ((Dh u).take (i+1))=g.flatMap (Mz t p)->True:=fun _ _=>trivial;rw[enext];generalize Ez t ((Dh u).take i)=g at wl wf wo l1;have l2:∀j,((g.take j).flatMap (Mz t p)).length<=100:=fun j=>by
   have:g.flatMap (Mz t p)=(g.take j).flatMap (Mz t p)++(g.drop j).flatMap (Mz t p):=by rw[<-List.flatMap_append,List.take_append_drop]
   rw[this,List.length_append]at l1
   lia
  refine⟨_,rfl,RU (δ':=[.d (Ai t),.d (tD u),.d (.list (g.map Eg)),.d (.int (p:Int)),.own (.lst []),l5,Z,T,B]) rfl ?_⟩;have mid:∃δ',CP (DR (nm 2)) (DH 5 6) (CP (Dk Hs (AB (Ap Bi (Ap Bi (nm 0) (fC (.int 0))) (Ap Bi (nm 5) (nm 3))) AG)) (DH 7 8) (QY 4 (A6 (AB (Ap Cu (nm 5) (A6 (AB (nm 7) AG))) (AB (AQ mT (AB (nm 6) (AB (nm 8) AG))) AG))))) [.d (Ai t),.d (tD u),.d (.list (g.map Eg)),.d (.int (p:Int)),.own (.lst []),l5,Z,T,B]=some (.nx δ')/\∃l5 Z T B:L,δ'=[.d (Ai t),.d (tD u),.d (.list (g.map Eg)),.d (.int (p:Int)),.own (.lst ((g.flatMap (Mz t p)).map Eg)),l5,Z,T,B]:=by
   refine O7 (xs:=g.map Eg) (fun j δ=>∃l5 Z T B:L,δ=[.d (Ai t),.d (tD u),.d (.list (g.map Eg)),.d (.int (p:Int)),.own (.lst (((g.take j).flatMap (Mz t p)).map Eg)),l5,Z,T,B]) rfl ⟨_,_,_,_,rfl⟩ ?_ ?_
   .rintro j x δ hx ⟨l5,Z,T,B,rfl⟩;rw[List.getElem?_map]at hx;obtain⟨w,hw,rfl⟩:=aC.mp hx;have hm:=aH hw;have hwl:=wl w hm;have hwf:=wf w hm;have hpw:w.1[p]? = some (w.1.getD p 0):=by rw[List.getD_eq_getElem?_getD,List.getElem?_eq_getElem (show p<w.1.length by lia)];rfl
    have hrk:=wo w hm _ (aH hpw);have Y:=l2 (j+1);have etj:g.take (j+1)=g.take j++[w]:=by rw[List.take_succ,hw];rfl
    have efl:(g.take (j+1)).flatMap (Mz t p)=(g.take j).flatMap (Mz t p)++Mz t p w:=by rw[etj,List.flatMap_append,List.flatMap_cons,List.flatMap_nil,List.append_nil]
    rw[efl]at Y ⊢;have hst:Mz t p w=(List.range (w.1.getD p 0)).map fun k=>(w.1++[k],w.2*(CA t (w.1.getD p 0)).getD k 0):=rfl;rw[hst]at Y ⊢;have U:t.rs[w.1.getD p 0]? = some (CA t (w.1.getD p 0)):=by unfold CA;rw[List.getD_eq_getElem?_getD (l:=t.rs),List.getElem?_eq_getElem hrk];rfl
    have hrl:=(M4 o (w.1.getD p 0)).2 hrk;have hrs:∀q∈CA t (w.1.getD p 0),FM.Fits q 3:=fun q hq=>(s.1 _ (aH U) q hq).1;generalize w.1.getD p 0=r at hpw U hrl hrs Y hrk;generalize CA t r=row at U hrl hrs Y;generalize (g.take j).flatMap (Mz t p)=pre at Y;rw[List.length_append,List.length_map,List.length_range]at Y;refine⟨[.d (Ai t),.d (tD u),.d (.list (g.map Eg)),.d (.int (p:Int)),.own (.lst (pre.map Eg)),.d (.tuple (FC w.1)),.d (AU w.2),T,B],rfl,?_⟩;refine O7 (xs:=EK (Ao row)) (fun k δ=>∃T B:L,δ=[.d (Ai t),.d (tD u),.d (.list (g.map Eg)),.d (.int (p:Int)),.own (.lst ((pre++(List.range k).map fun k=>(w.1++[k],w.2*row.getD k 0)).map Eg)),.d (.tuple (FC w.1)),.d (AU w.2),T,B]) ?_ ⟨_,_,by rw[List.range_zero,List.map_nil,List.append_nil]⟩ ?_ ?_
    .have e1:Ap Bi (nm 5) (nm 3) [.d (Ai t),.d (tD u),.d (.list (g.map Eg)),.d (.int (p:Int)),.own (.lst (pre.map Eg)),.d (.tuple (FC w.1)),.d (AU w.2),T,B]=some (.int (r:Int)):=C3 (x:=.tuple (FC w.1)) (y:=.int (p:Int)) rfl rfl (Kk (by unfold FC;rw[List.getElem?_map,hpw];rfl));have e2:Ap Bi (Ap Bi (nm 0) (fC (.int 0))) (Ap Bi (nm 5) (nm 3)) [.d (Ai t),.d (tD u),.d (.list (g.map Eg)),.d (.int (p:Int)),.own (.lst (pre.map Eg)),.d (.tuple (FC w.1)),.d (AU w.2),T,B]=some (.list (Ao row)):=C3 (x:=.list (BW t.rs)) (y:=.int (r:Int)) rfl e1 (Kk (by unfold BW;rw[List.getElem?_map,U];rfl));show(AB _ AG _).bind Hs=_;rw[Ag e2 rfl]
     rfl
    .rintro k x δ hx ⟨T,B,rfl⟩;obtain⟨y,hy,rfl⟩:=F7 hx;unfold Ao at hy;rw[List.getElem?_map]at hy;obtain⟨q,hq,rfl⟩:=aC.mp hy;have hkl:k<row.length:=(aD.mp hq).1;have hqg:row.getD k 0=q:=by rw[List.getD_eq_getElem?_getD,hq];rfl
     have hqf:=hrs q (aH hq);refine⟨_,rfl,_,nG (y:=Eg (w.1++[k],w.2*row.getD k 0)) (xs:=(pre++(List.range k).map fun k=>(w.1++[k],w.2*row.getD k 0)).map Eg) ?_ rfl ?_,.d (.int (k:Int)),.d (AU q),?_⟩
     .rw[hqg];refine Gf (xs:=[.tuple (FC (w.1++[k])),AU (w.2*q)]) (Ag (C3 (x:=.tuple (FC w.1)) (y:=.tuple [.int (k:Int)]) rfl rfl ?_) (Ag (AV (xs:=[AU w.2,AU q]) rfl (og (hwf.mono (by lia)) (hqf.mono))) rfl)) (by show(2:Nat)<=Cc;decide);rw[cat_t (by unfold FC;rw[List.length_map];simp;lia)];unfold FC;rw[List.map_append]
      rfl
     .rw[List.length_map,List.length_append,List.length_map,List.length_range];unfold Cc
      lia
     .have er:(pre++(List.range (k+1)).map fun k=>(w.1++[k],w.2*row.getD k 0)).map Eg=(pre++(List.range k).map fun k=>(w.1++[k],w.2*row.getD k 0)).map Eg++[Eg (w.1++[k],w.2*row.getD k 0)]:=by
       simp only[List.range_succ,List.map_append,List.append_assoc,List.map_cons,List.map_nil]
      rw[er]
      rfl
    .rintro δ ⟨T,B,rfl⟩;have:(EK (Ao row)).length=r:=by unfold EK;simp[Ao,hrl]
     rw[this];exact⟨_,_,_,_,rfl⟩
   .rintro δ ⟨l5,Z,T,B,rfl⟩;rw[List.length_map,List.take_length];exact⟨_,_,_,_,rfl⟩
  obtain⟨δ',f1,l5',l6',l7',l8',rfl⟩:=mid;exact RU f1 ⟨_,rfl,_,_,_,_,_,_,rfl⟩
 .rintro δ ⟨l3,l4,l5,Z,T,B,rfl⟩;have hn:(FC (Dh u)).length=(Dh u).length:=bT _;rw[hn,List.take_length];have hlen:(Ez t (Dh u)).length<=100:=by
   have:=WC o hu (i:=(Dh u).length) (by lia)
   rwa [List.take_length]at this
  have hfit:=WL s (Dh u);have hsum:=dB o hf hu;generalize Ez t (Dh u)=g at hlen hfit hsum;refine EN (AV (xs:=[.list ((g.map fun w=>(w.2.num,(w.2.den:Int))).map pairD)]) (Ag ?_ rfl) ?_)
  .rw[List.map_map];exact O0 (zs:=g) (a:=fun w=>.tuple (FC w.1)) (b:=fun w=>AU w.2) rfl (by unfold Cc;lia) fun w _=>rfl
  .refine(hJ (by rw[List.length_map];exact hlen) fun p hp=>?_).trans ?_
   .obtain⟨w,hw,rfl⟩:=aR.mp hp;have hfw:=(hfit w hw).mono (show 3*((Dh u).length+1)<=20 by lia);exact⟨by have:=w.2.den_nz;show(1:Int)<=(w.2.den:Int);lia,hfw.1,hfw.d⟩
   .rw[List.map_map,<-hsum]
    congr 3
    exact av fun w _=>FM.Ej w.2
def Z9(n:Nat):∀k,∃us,Ac (n+k)=Ac n++us
 |0=>⟨[],by rw[List.append_nil];rfl⟩
 |k+1=>by
  obtain⟨us,h⟩:=Z9 n k;exact⟨us++TH.tz (n+k),by rw[<-List.append_assoc,<-h];rfl⟩
def QT{u:Tr}(h:u∈Ac 5):u∈Ac 6:=bX _ h
def V4:Nat->Tr
 |0=>.nil
 |n+1=>.cons (V4 n) .nil
def mR:∀m,m<=4->1<=m->V4 m∈Ac (m+1)/\V4 m∈Ac 5/\PC m (V4 m)=[]/\GP (V4 m)≠0:=by decide +kernel
def fits_of{t:Tb}(s:t.Sm):t.Fits 3:=⟨fun r B q g=>(s.1 r B q g).1,fun q g=>(s.2 q g).1⟩
def fk{t:Tb}(o:t.Ok 4)(s:t.Sm):t.Wu:=ny o (by decide) (fits_of s) (by decide) (by decide)
def Zk{t:Tb}(o:t.Ok 4)(s:t.Sm):∃u,u∈Ac 5/\(Ac 5).find? (EE t)=some u/\(Ac 6).find? (EE t)=some u:=by
 have Y:=o.one;have U:=o.most;obtain⟨c1,B,c3,Z⟩:=mR t.rs.length U Y;have T:EE t (V4 t.rs.length)=true:=by
  unfold EE;rw[YZ o (fits_of s) B,c3];have:¬(CH (xT t) []=GP (V4 t.rs.length)):=fun z=>Z z.symm;rw[decide_eq_false this]
  rfl
 cases g:(Ac 5).find? (EE t) with
 |none=>exact absurd T (by simpa using bW.mp g _ B)
 |some u=>exact⟨u,List.mem_of_find?_eq_some g,rfl,by rw[Ac,List.find?_append,g];rfl⟩
def pN:((Ac 5).Pairwise fun u v=>u.AI<=v.AI)/\∀u∈Ac 5,u∈TH.tz (u.AI-1)/\1<=u.AI/\u.AI<=5:=by decide +kernel
def OB:∀k,k<6->(∀v∈Ac k,v.AI<=k/\(k<5->v∈Ac 5))/\(k<5->∀v∈TH.tz k,v∈Ac 5/\v.AI=k+1)/\(Ac k).length<=17/\(k<5->(TH.tz k).length<=9):=by decide +kernel
structure ML(t:Tb)(k:Nat)(u:Tr):Prop where
 k5:k<5
 z:u∈TH.tz k
 m5:u∈Ac 5
 kn:u.AI=k+1
 good:∀v∈Ac 5,v.AI<=k->Cf t v=GP v
 find:(TH.tz k).find? (EE t)=some u
 bad:Cf t u≠GP u
 f6:(Ac 6).find? (EE t)=some u
def nJ{t:Tb}{u:Tr}(h:EE t u=false):Cf t u=GP u:=by
 unfold EE at h
 simpa using h
def je{t:Tb}{u:Tr}(h:EE t u=true):Cf t u≠GP u:=by
 unfold EE at h
 simpa using h
def lP{t:Tb}(o:t.Ok 4)(s:t.Sm):∃k u,ML t k u:=by
 obtain⟨u,Y,B,f6⟩:=Zk o s;obtain⟨T,z2,z3⟩:=pN.2 u Y;obtain⟨b,as,bs,e,ha⟩:=List.find?_eq_some_iff_append.mp B;have good:∀v∈Ac 5,v.AI<u.AI->EE t v=false:=fun v g hlt=>by
  have U:=pN.1;rw[e]at g U;rcases bI.mp g with q|q
  .simpa using ha v q
  .rcases aN.mp q with rfl|q
   .lia
   .have:=(bh.mp (List.pairwise_append.mp U).2.1).1 v q
    lia
 refine⟨u.AI-1,u,by lia,T,Y,by lia,fun v g hl=>nJ (good v g (by lia)),?_,je b,f6⟩;obtain⟨us,h5⟩:=Z9 (u.AI-1+1) (5-(u.AI-1+1));have e1:Ac (u.AI-1+1)=Ac (u.AI-1)++TH.tz (u.AI-1):=rfl;rw[show u.AI-1+1+(5-(u.AI-1+1))=5 by lia,e1]at h5;rw[h5,List.append_assoc,List.find?_append,List.find?_append]at B;have n1:(Ac (u.AI-1)).find? (EE t)=none:=bW.mpr fun v g=>by
  have:=(OB (u.AI-1) (by lia)).1 v g;rw[good v (this.2 (by lia)) (by lia)]
  decide
 rw[n1,Option.none_or]at B;cases Z:(TH.tz (u.AI-1)).find? (EE t) with
 |none=>exact absurd b (by simpa using bW.mp Z _ T)
 |some w=>rw[Z,Option.some_or]at B;exact B
def Wr{set:PD->Dv->Option Dv}{F:DF}{r:PD}(T:Nat->Dv->Prop):∀(xs:List PD) (n m:Nat) (δ:Dv),T m δ->(∀i x δ,i<n->xs[i]? = some x->T (m+i) δ->∃g,set x δ=some g/\∃B,F g=some (.nx B)/\T (m+i+1) B) ->
  (∃x,xs[n]? = some x/\∀δ,T (m+n) δ->∃g,set x δ=some g/\F g=some (.rt r))->FF set F xs δ=some (.rt r)
 |[],n,m,δ,_,_,⟨x,hx,_⟩=>by simp at hx
 |x::xs,0,m,δ,h0,_,⟨y,U,hn⟩=>by
  have:y=x:=by simpa using U.symm
  subst this;obtain⟨g,a,b⟩:=hn δ h0;rw[FF,a,Option.bind_some,b]
 |x::xs,n+1,m,δ,h0,Z,⟨y,U,hn⟩=>by
  obtain⟨g,a,B,b,c⟩:=Z 0 x δ (by lia) rfl h0;rw[FF,a,Option.bind_some,b];refine Wr T xs n (m+1) B c (fun i z δ hi hz Y=>?_) ⟨y,by simpa using U,fun δ Y=>hn δ (by rw[show m+(n+1)=m+1+n by lia];exact Y)⟩;have:=Z (i+1) z δ (by lia) (by simpa using hz) (by rw[show m+(i+1)=m+1+i by lia];exact Y);rw[show m+(i+1)+1=m+1+i+1 by lia]at this;exact this
def VX{set:PD->Dv->Option Dv}{F F2:DF}{fs:rj}{δ:Dv}{xs:rq}{r:PD}(T:Nat->Dv->Prop)(n:Nat)(U:fs δ=some xs)(h0:T 0 δ)(Z:∀i x δ,i<n->xs[i]? = some x->T i δ->∃g,set x δ=some g/\∃B,F g=some (.nx B)/\T (i+1) B) (hn:∃x,xs[n]? = some x/\∀δ,T n δ->∃g,set x δ=some g/\F g=some (.rt r)):Al (CP fs set F) F2 δ=some (.rt r):=by
 have e:CP fs set F δ=FF set F xs δ:=by show(fs δ).bind _=_;rw[U];rfl
 refine Gd (e.trans (Wr T xs n 0 δ h0 (fun i x δ hi U Y=>?_) ?_))
 .rw[Nat.zero_add]at Y ⊢;exact Z i x δ hi U Y
 .rw[Nat.zero_add];exact hn
def CF(v:Tr):PD:=.tuple [tD v,AU (GP v)]
def HX(t:Tb)(k:Nat)(u:Tr):PD:=.tuple [.int (k:Int),.list ((Ac k).map CF),.tuple [tD u,AU (Cf t u)]]
abbrev pd:MD:=BV 9
abbrev lS:MD:=Bl pd 9
def gY:(Ac 5).map (fun u=>lS [tD u])=(Ac 5).map fun u=>some (.int ((Pr u:Nat):Int)):=by kernel_rfl
abbrev Zc:MD:=DJ lS
def fF{v:Tr}(g:v∈Ac 5):Zc [tD v]=some (AU (GP v)):=by
 refine Bv rfl ?_;unfold PZ;rw[UO (QT g)];exact EN (Gf (xs:=[.int 1,.int ((Pr v:Nat):Int)]) (Ag rfl (Ag (AV (xs:=[tD v]) rfl (List.map_inj_left.mp gY v g)) rfl)) (by show(2:Nat)<=Cc;decide))
abbrev IC:List PD:=[.list [],Co (TH.tz 0),Co (TH.tz 1),Co (TH.tz 2),Co (TH.tz 3),Co (TH.tz 4)]
def kR{i:Nat}(h:i<5):IC[i+1]? = some (Co (TH.tz i)):=by
 match i,h with
 |0,_=>rfl
 |1,_=>rfl
 |2,_=>rfl
 |3,_=>rfl
 |4,_=>rfl
def oE{xs ys:rq}(h:xs.length+ys.length<=500):Cu (.list xs) (.list ys)=some (.list (xs++ys)):=by
 have e:V6 (.list xs) (.list ys)=some (.list (xs++ys)):=if_pos (by unfold Cc;lia);unfold Cu Pp;show(match V6 (.list xs) (.list ys) with|some z=>some z|none=>_)=_;rw[e]
abbrev eT:MD:=GD C2 Zc Wv
def l0{t:Tb}(o:t.Ok 4)(s:t.Sm){k:Nat}{u:Tr}(h:ML t k u):eT [Ai t]=some (HX t k u):=by
 have s7:=oh s;have hk5:=h.k5;have wgt:∀v∈Ac 5,Wv [Ai t,tD v]=some (AU (Cf t v)):=fun v T=>by
  have z:=(Zd 5 (by decide)).2 v T;rw[oJ o s7 (by lia) (by lia),ic o (fits_of s) T]
 have Z:∀(v:Tr) (T:v∈Ac 5) (l1 l2 l3:L),Bj (Cs true) (AQ Wv (AB (nm 0) (AB (nm 4) AG))) (AQ Zc (AB (nm 4) AG)) [.d (Ai t),l1,l2,l3,.d (tD v)]=some (EE t v):=fun v T l1 l2 l3=>Bs (x:=AU (Cf t v)) (y:=AU (GP v)) (AV (xs:=[Ai t,tD v]) rfl (wgt v T)) (AV (xs:=[tD v]) rfl (fF T)) (MQ _ _);refine Bv rfl ?_;unfold RK;refine Am rfl (Am (DB (y:=.list IC) (AV (xs:=[.int 5]) rfl gP)) ?_);have ixs:∀(i:Nat) (hi:i<5) (l1 B:L),DR (Ap Bi (nm 2) (Ap Cu (nm 3) (fC (.int 1)))) [.d (Ai t),l1,.d (.list IC),.d (.int (i:Int)),B]=some ((TH.tz i).map tD):=fun i hi l1 B=>by
  refine XR (x:=Co (TH.tz i)) (C3 (x:=.list IC) (y:=.int ((i+1:Nat):Int)) rfl rfl (Kk (kR hi))) ?_;show some (L2.Bk (Tr.of (TH.tz i)))=_;rw[HJ]
 refine VX (xs:=J3 0 5) (fun i δ=>∃l3 B:L,δ=[.d (Ai t),.d (.list ((Ac i).map CF)),.d (.list IC),l3,B]) k rfl ⟨_,_,rfl⟩ ?_ ?_
 .rintro i x δ hi hx ⟨l3,B,rfl⟩;obtain⟨rfl,U⟩:=XT hx;rw[Int.zero_add];obtain⟨a1,a2,a3,a4⟩:=OB i (by lia);refine⟨[.d (Ai t),.d (.list ((Ac i).map CF)),.d (.list IC),.d (.int (i:Int)),B],rfl,?_⟩;have inner:∃Y,CP (DR (Ap Bi (nm 2) (Ap Cu (nm 3) (fC (.int 1))))) (HC 4) (DM (Bj (Cs true) (AQ Wv (AB (nm 0) (AB (nm 4) AG))) (AQ Zc (AB (nm 4) AG))) (BK (A6 (AB (nm 3) (AB (nm 1) (AB (A6 (AB (nm 4) (AB (AQ Wv (AB (nm 0) (AB (nm 4) AG))) AG))) AG))))) Bq) [.d (Ai t),.d (.list ((Ac i).map CF)),.d (.list IC),.d (.int (i:Int)),B]=some (.nx Y)/\∃B:L,Y=[.d (Ai t),.d (.list ((Ac i).map CF)),.d (.list IC),.d (.int (i:Int)),B]:=by
   refine O7 (xs:=(TH.tz i).map tD) (fun j δ=>∃B:L,δ=[.d (Ai t),.d (.list ((Ac i).map CF)),.d (.list IC),.d (.int (i:Int)),B]) (ixs i U _ _) ⟨_,rfl⟩ ?_ fun δ z=>z;rintro j x δ hx ⟨B,rfl⟩;rw[List.getElem?_map]at hx;obtain⟨v,T,rfl⟩:=aC.mp hx;obtain⟨v5,vk⟩:=a2 U v (aH T);have hb:EE t v=false:=by unfold EE;rw[h.good v v5 (by lia)];simp
   have tt:=Z v v5 (.d (.list ((Ac i).map CF))) (.d (.list IC)) (.d (.int (i:Int)));rw[hb]at tt;exact⟨_,rfl,_,Bh tt rfl,_,rfl⟩
  obtain⟨Y,f1,l4',rfl⟩:=inner;refine RU f1 ⟨_,DB (y:=.list ((Ac (i+1)).map CF)) ?_,_,_,rfl⟩;have hc:Di (Fx 1) F5 (A6 (AB (nm 1) (AB (AQ Zc (AB (nm 1) AG)) AG))) [none,none] (DR (Ap Bi (nm 2) (Ap Cu (nm 3) (fC (.int 1))))) [.d (Ai t),.d (.list ((Ac i).map CF)),.d (.list IC),.d (.int (i:Int)),l4']=some (.list ((TH.tz i).map CF)):=by
   show(GA _ _ _ _ _ _).map PyData.list=_;rw[OL (zs:=TH.tz i) (a:=tD) (g:=CF) (ixs i U _ _) (by have:=a4 U;unfold Cc;lia) fun v T=>?_]
   .rfl
   .exact Gf (xs:=[tD v,AU (GP v)]) (Ag rfl (Ag (AV (xs:=[tD v]) rfl (fF (a2 U v T).1)) rfl)) (by show(2:Nat)<=Cc;decide)
  refine C3 (x:=.list ((Ac i).map CF)) (y:=.list ((TH.tz i).map CF)) rfl hc ?_;rw[oE (by rw[List.length_map,List.length_map];have:=a4 U;lia),Ac,List.map_append]
 .refine⟨.int (0+(k:Int)),?_,?_⟩
  .unfold J3;rw[List.getElem?_map,List.getElem?_range hk5]
   rfl
  rintro δ ⟨l3,B,rfl⟩;rw[Int.zero_add];refine⟨[.d (Ai t),.d (.list ((Ac k).map CF)),.d (.list IC),.d (.int (k:Int)),B],rfl,?_⟩;obtain⟨b,as,bs,e,ha⟩:=List.find?_eq_some_iff_append.mp h.find;have mem:∀v∈TH.tz k,v∈Ac 5:=fun v T=>((OB k (by lia)).2.1 hk5 v T).1;refine VX (xs:=(TH.tz k).map tD) (fun j δ=>∃B:L,δ=[.d (Ai t),.d (.list ((Ac k).map CF)),.d (.list IC),.d (.int (k:Int)),B]) as.length (ixs k hk5 _ _) ⟨_,rfl⟩ ?_ ?_
  .rintro j x δ hj hx ⟨B,rfl⟩;rw[List.getElem?_map]at hx;obtain⟨v,T,rfl⟩:=aC.mp hx;have v5:=mem v (aH T);rw[e,List.getElem?_append_left hj]at T;have hb:EE t v=false:=by simpa using ha v (aH T)
   have tt:=Z v v5 (.d (.list ((Ac k).map CF))) (.d (.list IC)) (.d (.int (k:Int)));rw[hb]at tt;exact⟨_,rfl,_,Bh tt rfl,_,rfl⟩
  .refine⟨tD u,by rw[List.getElem?_map,e,List.getElem?_append_right (aG _),Nat.sub_self];rfl,?_⟩;rintro δ ⟨B,rfl⟩;have tt:=Z u h.m5 (.d (.list ((Ac k).map CF))) (.d (.list IC)) (.d (.int (k:Int)));rw[b]at tt;refine⟨_,rfl,Ig tt (EN ?_)⟩;exact Gf (xs:=[.int (k:Int),.list ((Ac k).map CF),.tuple [tD u,AU (Cf t u)]]) (Ag rfl (Ag rfl (Ag (Gf (xs:=[tD u,AU (Cf t u)]) (Ag rfl (Ag (AV (xs:=[Ai t,tD u]) rfl (wgt u h.m5)) rfl)) (by show(2:Nat)<=Cc;decide)) rfl))) (by show(3:Nat)<=Cc;decide)
def OJ(t:Tb)(v:Tr):PD:=.tuple [tD v,AU (Cf t v)]
noncomputable abbrev pO:MD:=Ee Nv
def LP{α:Type}(f g:α->PD):∀zs:List α,IJ (zs.map f) (zs.map g)=zs.map fun z=>.tuple [f z,g z]
 |[]=>rfl
 |z::zs=>bL (PyData.tuple [f z,g z] :: ·) (LP f g zs)
def pB{t:Tb}(h:t.Wu){ts:sR}(B:∀u∈ts,u∈Ac 6)(g:ts.length<=1000):pO [Ai t,Co ts]=some (.list (ts.map (OJ t))):=by
 refine Bv rfl ?_;unfold Q7;refine EN ?_;show(AB (nm 1) (AB (AQ Nv (AB (nm 0) (AB (nm 1) AG))) AG) _).bind Y0=_;rw[Ag (x:=Co ts) (xs:=[IW (ts.map (Cf t))]) rfl (Ag (AV (xs:=[Ai t,Co ts]) rfl (Ug h B g)) rfl),Option.bind_some];have e:L2.Bk (Tr.of ts)=ts.map tD:=HJ ts;have T:(ts.map (Cf t)).map AU=ts.map fun u=>AU (Cf t u):=by rw[List.map_map];rfl
 unfold Co IW;rw[e,T];show(if _/\_ then some (PyData.list (IJ (ts.map tD) (ts.map fun u=>AU (Cf t u)))) else none)=_;rw[if_pos ⟨by rw[List.length_map,List.length_map],by rw[List.length_map];exact g⟩,LP]
 rfl
abbrev fH:MD:=B7 V2
def jv:(List.range 5).map (fun k=>fH [.int ((k:Nat):Int)])=(List.range 5).map fun k=>some (Co (Ac k)):=by kernel_rfl
def ee{k:Nat}(h:k<5):fH [.int ((k:Nat):Int)]=some (Co (Ac k)):=List.map_inj_left.mp jv k (ax.mpr h)
abbrev mF:MD:=Ay Zs
def Qe{f:rk}{δ:Dv}{x:PD}(h:f δ=some x):Ru f δ=some (.nx δ):=by show(f δ).map _=_;rw[h];rfl
def fQ{t:Tb}(o:t.Ok 4):mF [Ai t]=some .none:=by
 have B:=o.most;have f:Gj Zs (HY ["table"] [Ai t])=some (.nx [.d (Ai t)]):=by
  unfold Gj;refine Am (Qe (AV (xs:=[Ai t]) rfl (Zh o (by decide)))) (Bh (Bs (x:=.int ((BW t.rs).length:Nat)) (y:=.int 5) rfl rfl ?_) rfl);show some (PyData.bool (decide ((5:Int)<((BW t.rs).length:Int))))=_;have g:=IG t.rs;rw[decide_eq_false (by lia)]
 exact Xb rfl f
def fq{t:Tb}{k:Nat}{u:Tr}(h:ML t k u):eL t=.tuple [.int (k:Int),tD u]:=by
 unfold eL;rw[h.f6];show VY u=_;unfold VY;have:=h.kn;rw[show u.AI-1=k by lia]
def mD{t:Tb}{k:Nat}{u:Tr}(h:ML t k u):(Ac k).map (OJ t)=(Ac k).map CF:=av fun v g=>by
 have a:=(OB k (by have:=h.k5;lia)).1 v g;show PyData.tuple [tD v,AU (Cf t v)]=_;rw[h.good v (a.2 h.k5) a.1]
 rfl
abbrev kX:MD:=CV mH
def jq{ts:sR}(hd:(Tr.of ts).deep<=60){v:Tr}(g:v∈(Tr.of ts).bs):YU (tD v) (Co ts)=some (.bool true):=by
 have T:Gh (tD v)=some v:=by rw[Gh,Ma]
 have B:E9 (L2.Bk (Tr.of ts))=some (Tr.of ts):=Ma _;unfold YU;rw[T,Option.bind_some];show(E9 (L2.Bk (Tr.of ts))).bind _=_;rw[B,Option.bind_some,if_pos hd,decide_eq_true g]
def fi{ts:sR}(hd:(Tr.of ts).deep<=60){v:Tr}(g:v∈(Tr.of ts).bs)(q:Rat):kX [.tuple [tD v,AU q],Co ts]=some (.bool true):=by
 refine Bv rfl ?_;unfold Th;exact Am (Bh (E2 rfl (Bs (x:=.int 2) (y:=.int 2) rfl rfl (LM 2))) rfl) (EN (Jr (C3 (x:=tD v) (y:=Co ts) rfl rfl (jq hd g)) (AV (xs:=[AU q]) rfl (fw q))))
def jS:∀v∈Ac 5,(Tr.of [v]).deep<=60/\v∈(Tr.of [v]).bs:=by decide +kernel
def qm:∀k,k<5->(Tr.of (TH.tz k)).deep<=60/\∀v∈TH.tz k,v∈(Tr.of (TH.tz k)).bs:=by decide +kernel
def XW(p q:Rat):Cs false (AU p) (AU q)=some (.bool (decide (p=q))):=by
 refine(if_pos ⟨(My p).shaped (by decide),(My q).shaped (by decide)⟩).trans ?_;rw[WR];rfl
noncomputable abbrev pK:MD:=CM NA kX kA
def ni{t:Tb}(o:t.Ok 4)(s:t.Sm){k:Nat}{u:Tr}(h:ML t k u):pK [Ai t,Co (Ac k),.list ((Ac k).map CF)]=some (.bool true):=by
 have hk:=h.k5;have a:=OB k (by lia);have U:L2.Bk (Tr.of (Ac k))=(Ac k).map tD:=HJ _;refine Bv rfl ?_;unfold Kl;refine Am (δ':=[.d (Ai t),.d (Co (Ac k)),.d (.list ((Ac k).map CF)),.no,.no]) (Bh (E2 rfl (Bs (x:=.int (((Ac k).map CF).length:Nat)) (y:=.int (((Ac k).map CF).length:Nat)) rfl ?_ (LM _))) rfl) ?_
 .show some (PyData.int ((L2.Bk (Tr.of (Ac k))).length:Nat))=_;rw[U,List.length_map,List.length_map]
 refine JY (xs:=(Ac k).map fun v=>.tuple [tD v,CF v]) (fun i δ=>∃l B:L,δ=[.d (Ai t),.d (Co (Ac k)),.d (.list ((Ac k).map CF)),l,B]) ?_ ⟨_,_,rfl⟩ ?_ ?_
 .show some (IJ (L2.Bk (Tr.of (Ac k))) ((Ac k).map CF))=_;rw[U,LP]
 .rintro i x δ T ⟨l,B,rfl⟩;rw[List.getElem?_map]at T;obtain⟨v,Z,rfl⟩:=aC.mp T;have hm:=aH Z;have g:=(a.1 v hm).2 hk;have hg:=h.good v g (a.1 v hm).1;refine⟨[.d (Ai t),.d (Co (Ac k)),.d (.list ((Ac k).map CF)),.d (tD v),.d (CF v)],rfl,_,Bh (E2 (GZ (Ge (AV (xs:=[CF v,Co [v]]) rfl (fi (jS v g).1 (jS v g).2 _)))) (E2 (Bs (x:=AU (GP v)) (y:=AU (GP v)) rfl ?_ ((MQ _ _).trans (by rw[decide_eq_true rfl];rfl))) (Bs (x:=AU (GP v)) (y:=AU (GP v)) rfl (AV (xs:=[Ai t,tD v]) rfl ?_) ((MQ _ _).trans (by rw[decide_eq_true rfl];rfl))))) rfl,_,_,rfl⟩
  .rw[UO (QT g)];exact Gf (xs:=[.int 1,.int ((Pr v:Nat):Int)]) (Ag rfl (Ag (AV (xs:=[tD v]) rfl (SK (QT g))) rfl)) (by show(2:Nat)<=Cc;decide)
  .rw[ef o s (fits_of s) g,hg]
 .rintro δ ⟨l,B,rfl⟩
  rfl
noncomputable abbrev pM:MD:=DN NA kX V2 kA
def lZ{t:Tb}(o:t.Ok 4)(s:t.Sm){k:Nat}{u:Tr}(h:ML t k u):pM [Ai t,.int (k:Int),OJ t u]=some (.bool true):=by
 have B:=h.k5;have z:=qm k B;refine Bv rfl ?_;unfold Oj;refine Am (δ':=[.d (Ai t),.d (.int (k:Int)),.d (OJ t u)]) (Bh (Bs (x:=.int (k:Int)) (y:=.int 6) rfl rfl ((Xa _ _).trans (by rw[decide_eq_false (by lia)]))) rfl) (Am (Bh (E2 (GZ (Ge (AV (xs:=[OJ t u,Co (TH.tz k)]) (Ag rfl (Ag (AV (xs:=[.int ((k+1:Nat):Int)]) rfl (of_is (by lia))) rfl)) (fi z.1 (z.2 u h.z) _)))) (Bs (x:=AU (Cf t u)) (y:=AU (GP u)) rfl ?_ ((XW _ _).trans (by rw[decide_eq_false h.bad])))) rfl) (EN (C3 (x:=AU (Cf t u)) (y:=AU (Cf t u)) rfl (AV (xs:=[Ai t,tD u]) rfl (ef o s (fits_of s) h.m5)) ((XW _ _).trans (by rw[decide_eq_true rfl])))));rw[UO (QT h.m5)];exact Gf (xs:=[.int 1,.int ((Pr u:Nat):Int)]) (Ag rfl (Ag (AV (xs:=[tD u]) rfl (SK (QT h.m5))) rfl)) (by show(2:Nat)<=Cc;decide)
noncomputable abbrev lA:MD:=Df pK pM Bd mF fH
def oI{t:Tb}(o:t.Ok 4)(s:t.Sm){k:Nat}{u:Tr}(h:ML t k u):lA [Ai t,HX t k u]=some (.bool true):=by
 have T:=h.k5;refine Bv rfl ?_;unfold Nr;have B:Bd [.int (k:Int)]=some (.bool true):=rfl;refine Am (Qe (AV (xs:=[Ai t]) rfl (fQ o))) (Am (δ':=[.d (Ai t),.d (HX t k u),.no]) (Bh (E2 rfl (Bs (x:=.int 3) (y:=.int 3) rfl rfl (LM 3))) rfl) (Am (δ':=[.d (Ai t),.d (HX t k u),.d (.int (k:Int))]) rfl (Am (Bh (E2 (GZ (Ge (AV (xs:=[.int (k:Int)]) rfl B))) (E2 (Bs (x:=.int (k:Int)) (y:=.int 0) rfl rfl ?_) (Bs (x:=.int (k:Int)) (y:=.int 6) rfl rfl ?_))) rfl) (EN (Jr (AV (xs:=[Ai t,Co (Ac k),.list ((Ac k).map CF)]) (Ag rfl (Ag (AV (xs:=[.int (k:Int)]) rfl (ee T)) rfl)) (ni o s h)) (AV (xs:=[Ai t,.int (k:Int),OJ t u]) rfl (lZ o s h)))))))
 .show some (PyData.bool (decide ((k:Int)<0)))=_;rw[decide_eq_false (by lia)]
 .show some (PyData.bool (decide ((6:Int)<(k:Int))))=_;rw[decide_eq_false (by lia)]
def Sx:Nat->PD->Prop
 |0,_=>False
 |_+1,.int _=>True
 |_+1,.none=>True
 |n+1,.list xs=>xs.length<=500/\∀x∈xs,Sx n x
 |n+1,.tuple xs=>xs.length<=500/\∀x∈xs,Sx n x
 |_,_=>False
def XA{α:Type}:∀zs:List α,bools (zs.map fun _=>PyData.bool true)=some (zs.map fun _=>true)
 |[]=>rfl
 |z::zs=>by rw[List.map_cons,bools,XA zs];rfl
def oj{α:Type}(zs:List α):Vi [.list (zs.map fun _=>PyData.bool true)]=some (.bool true):=by
 show(bools _).map _=_;rw[XA];show some (PyData.bool ((zs.map fun _=>true).all id))=_;rw[List.all_eq_true.mpr (fun b g=>by obtain⟨_,_,rfl⟩:=aR.mp g;rfl)]
def Sl:∀(n:Nat) (x:PD),Sx n x->B0 n [x,x]=some (.bool true)
 |0,_,h=>h.elim
 |n+1,x,h=>by
  have bn:∀b:Bool,Cs true (.bool b) (.bool b)=some (.bool false):=fun b=>by
   cases b
   .exact(if_pos ⟨by decide +kernel,by decide +kernel⟩).trans rfl
   .exact(if_pos ⟨by decide +kernel,by decide +kernel⟩).trans rfl
  refine Bv rfl ?_;unfold MC;have row:∀(xs:List PD) (y:PD),D7 y=some xs->GG [y]=some (.int (xs.length:Nat))->(xs.length<=500/\∀x∈xs,Sx n x)->Al (DM (Bj (Cs true) (AQ GG (AB (nm 0) AG)) (AQ GG (AB (nm 1) AG))) (BK (fC (.bool false))) Bq) (BK (AQ Vi (AB (Di (DH 1 2) F5 (AQ (B0 n) (AB (nm 1) (AB (nm 2) AG))) [none,none,none] (Dk zip2 (AB (nm 0) (AB (nm 1) AG)))) AG))) [.d y,.d y]=some (.rt (.bool true)):=fun xs y Y T Z=>by
   refine Am (Bh (Bs (AV (xs:=[y]) rfl T) (AV (xs:=[y]) rfl T) (LM _)) rfl) (EN (AV (Ag (O0 (zs:=xs) (a:=id) (b:=id) (g:=fun _=>.bool true) ?_ (by unfold Cc;lia) fun z U=>?_) rfl) (oj xs)))
   .show(D7 y).bind (fun us=>(D7 y).map fun vs=>IJ us vs)=_;rw[Y];have:=LP id id xs;rw[List.map_id]at this;exact bL some this
   .exact AV (xs:=[z,z]) rfl (Sl n z (Z.2 z U))
  cases x with
  |int i=>exact Am (δ':=[.d (.int i),.d (.int i)]) rfl (Am (δ':=[.d (.int i),.d (.int i)]) rfl (EN (Jr rfl (Jr rfl (C3 (x:=.int i) (y:=.int i) rfl rfl (WJ i))))))
  |none=>rfl
  |list xs=>exact Gd (Ig rfl (Am (δ':=[.d (.list xs),.d (.list xs)]) (Bh (E2 (Bs (x:=.bool true) (y:=.bool true) rfl rfl (bn true)) (Bs (x:=.bool false) (y:=.bool false) rfl rfl (bn false))) rfl) (row xs (.list xs) rfl rfl h)))
  |tuple xs=>exact Gd (Ig rfl (Am (δ':=[.d (.tuple xs),.d (.tuple xs)]) (Bh (E2 (Bs (x:=.bool false) (y:=.bool false) rfl rfl (bn false)) (Bs (x:=.bool true) (y:=.bool true) rfl rfl (bn true))) rfl) (row xs (.tuple xs) rfl rfl h)))
  |_=>exact h.elim
def ZS(q:Rat)(n:Nat):Sx (n+2) (AU q):=⟨by show(2:Nat)<=500;decide,fun x g=>by
 rcases aN.mp g with rfl|g
 .trivial
 .rw[List.mem_singleton.mp g];trivial⟩
def VP:Nat->PD->Bool
 |0,_=>false
 |n+1,.tuple xs=>decide (xs.length<=500)&&xs.all (VP n)
 |_,_=>false
def PL:∀(n:Nat) (x:PD),VP n x=true->Sx n x
 |0,_,h=>by cases h
 |n+1,x,h=>by
  cases x with
  |tuple xs=>
   rw[VP,Bool.and_eq_true]at h;exact⟨ak h.1,fun y g=>PL n y (au.mp h.2 y g)⟩
  |_=>cases h
def pJ:∀v∈Ac 5,VP 6 (tD v)=true:=by decide +kernel
def qG:∀v∈Ac 5,VP 7 (tD v)=true:=by decide +kernel
def gV{v:Tr}(B:v∈Ac 5)(q:Rat):Sx 7 (.tuple [tD v,AU q]):=⟨by show(2:Nat)<=500;decide,fun x g=>by
 rcases aN.mp g with rfl|g
 .exact PL 6 _ (pJ v B)
 .rw[List.mem_singleton.mp g];exact ZS q 4⟩
def jk{t:Tb}{k:Nat}{u:Tr}(h:ML t k u):Sx 9 (HX t k u):=⟨by show(3:Nat)<=500;decide,fun x B=>by
 have U:=h.k5;have a:=OB k (by lia);rcases aN.mp B with rfl|B
 .trivial
 rcases aN.mp B with rfl|B
 .refine⟨by rw[List.length_map];have:=a.2.2.1;lia,fun y g=>?_⟩;obtain⟨v,T,rfl⟩:=aR.mp g;exact gV ((a.1 v T).2 U) _
 .rw[List.mem_singleton.mp B];exact⟨by show(2:Nat)<=500;decide,fun y g=>by
   rcases aN.mp g with rfl|g
   .exact PL 7 _ (qG u h.m5)
   .rw[List.mem_singleton.mp g];exact ZS _ 5⟩⟩
def kG{t:Tb}{k:Nat}{u:Tr}(h:ML t k u):Sx 7 (.tuple [.int (k:Int),tD u]):=⟨by show(2:Nat)<=500;decide,fun y g=>by
 rcases aN.mp g with rfl|g
 .trivial
 .rw[List.mem_singleton.mp g];exact PL 6 _ (pJ u h.m5)⟩
section
variable{P:Program}{w:World}{K:Fg}{mg:sD}{base:Heap}{f:AD}{fd:FuncData}
def Vj(g:MD):DF:=fun δ=>((AB (nm 1) (AB (AQ g (AB (nm 0) (AB (nm 1) AG))) AG) δ).bind Yl).map .rn
def RE(g:MD):RW:=Sr ["table","trees"] ["table","trees"] (Vj g)
def WW{k:Nat}{T:MD}(F:Fn K mg "lines_of" Kb ["table","trees"] f fd) {g:AD}{B:FuncData}(CI:Fn K mg "weights_under" FR ["table","trees"] g B)(Z:AK P w K mg base AZ k g B ["table","trees"] (A0 T))(CC:mg "list" = none)(Y:mg "zip" = none):AK P w K mg base AZ (k+1) f fd ["table","trees"] (eu (RE T)):=okN F Je fun cdv A outer s H E U=>by
 have sc:=Je;exact AN (cu rfl rfl CC rfl Y (AA (AE (pv 1)) (AA (AX CI Z U rfl (AA (AE (pv 0)) (AA (AE (pv 1)) AF))) AF)))
def XH(Ee:MD)(g:RW)(Ay:MD)(Bn:MD)(B7:MD):rk :=
 (OS (Ru (AQ Ay (AB (nm 0) AG)))
 (OS (Cd 1 (AQ Bn (AB (nm 0) AG)))
 (OS (Cd 2 (fC .none))
 (OS (DM (Bj (Oe true) (Ap Bi (nm 1) (fC (.int 1))) (fC .none))
  (Cd 2 (Ap Bi (AQ Ee (AB (nm 0) (AB (CY (AB (Ap Bi (nm 1) (fC (.int 1))) AG)) AG))) (fC (.int 0))))
  Bq)
 (fP (Ap Bi (nm 1) (fC (.int 0))) g (AB (nm 0) (AB (AQ B7 (AB (Ap Bi (nm 1) (fC (.int 0))) AG)) AG)) (nm 2))))))
def XZ(Ee:MD)(g:RW)(Ay:MD)(Bn:MD)(B7:MD):MD:=S6 ["table"] ["table","told","odd"] (XH Ee g Ay Bn B7)
def SX{k:Nat}{Ee:MD}{Y:RW}{Ay:MD}{Bn:MD}{B7:MD}(F:Fn K mg "order_paper" Hr ["table"] f fd) {T:AD}{U:FuncData}(HN:Fn K mg "lines_of" Kb ["table","trees"] T U)(NP:AK P w K mg base AZ k T U ["table","trees"] (A0 Ee))(g:AK P w K mg base AZ k T U ["table","trees"] (eu Y)) {Dl:AD}{DL:FuncData}(CZ:Fn K mg "refuse_no_judging" E8 ["table"] Dl DL)(Cz:AK P w K mg base AZ k Dl DL ["table"] (A0 Ay)) {GW:AD}{Fv:FuncData}(C4:Fn K mg "table_order" GR ["table"] GW Fv)(Dg:AK P w K mg base AZ k GW Fv ["table"] (A0 Bn)) {Z:AD}{He:FuncData}(GF:Fn K mg "trees_to" Ka ["most"] Z He)(HK:AK P w K mg base AZ k Z He ["most"] (A0 B7)):AK P w K mg base AZ (k+1) f fd ["table"] (XY (XZ Ee Y Ay Bn B7)):=q8 F Ms fun cdv A outer s H E B=>by
 have sc:=Ms;exact(O8 (O9 (AX CZ Cz B rfl (AA (AE (pv 0)) AF)))
 (O8 (Bt (i:=1) sc.nd rfl (Or.inl rfl) (AX C4 Dg B rfl (AA (AE (pv 0)) AF)))
 (O8 (Bt (i:=2) sc.nd rfl (Or.inl rfl) Hl)
 (O8 (B8 (BL Vy (BE (AE (pv 1)) AH (fun _ _=>rfl)) Hl (Ak _))
  (AN (Bt (i:=2) sc.nd rfl (Or.inl rfl) (BE (AX HN NP B rfl (AA (AE (pv 0)) (AA (BU (AA (BE (AE (pv 1)) AH (fun _ _=>rfl)) AF)) AF))) AH (fun _ _=>rfl))))
  BR)
 (nA HN g B rfl (BE (AE (pv 1)) AH (fun _ _=>rfl)) (AA (AE (pv 0)) (AA (AX GF HK B rfl (AA (BE (AE (pv 1)) AH (fun _ _=>rfl)) AF)) AF)) (AE (pv 2)))))))
def cG:Af ["_law_script","_law_table_here","_law_due_here","_law_handed","_law_found"] ["_law_script"] (AO RC):=B9
def R7(GD:MD)(B0:MD)(Df:MD)(g:MD)(Bn:MD):DF :=
 (Al (Cd 2 (AQ GD (AB (nm 1) AG)))
 (Al (DM (Bj (Oe false) (nm 2) (fC .none))
  (BK (fC (.bool false)))
  Bq)
 (Al (Cd 3 (A6 (AB (Di (Fx 1) F5 (AQ O4 (AB (nm 1) AG)) [none,none] (DR (Ap Bi (nm 1) (fC (.int 0))))) (AB (AQ O4 (AB (Ap Bi (nm 1) (fC (.int 1))) AG)) AG))))
 (Al (PF 4 g (AB (nm 3) AG) (HW (Gk (Ft (AQ B0 (AB (nm 4) (AB (nm 2) AG))))) (HW (Bj (Cs true) (nm 3) (nm 1)) (Bj (SO true) (AQ Df (AB (nm 3) (AB (nm 4) AG))) (fC (.bool true))))) (Gk (Ft (AQ B0 (AB (AQ Bn (AB (nm 3) AG)) (AB (A6 (AB (Ap Bi (nm 2) (fC (.int 0))) (AB (Ap Bi (Ap Bi (nm 2) (fC (.int 2))) (fC (.int 0))) AG))) AG))))))
 (BK (MG (AQ B0 (AB (AQ g (AB (nm 3) AG)) (AB (nm 2) AG))) (Ap (SO false) (AQ Df (AB (nm 3) (AB (nm 2) AG))) (fC (.bool true)))))))))
def cm{k:Nat}{GD:MD}{B0:MD}{Df:MD}{GS:MD}{Bn:MD} {Z:AD}{QC:FuncData}(HP:Fn K mg "_law_due" KS ["_law_table_here"] Z QC)(Ic:AK P w K mg base AZ k Z QC ["_law_table_here"] (A0 GD)) {Pb:AD}{Od:FuncData}(U:Fn K mg "_law_same" Jg ["_law_found","_law_due_here"] Pb Od)(T:AK P w K mg base AZ k Pb Od ["_law_found","_law_due_here"] (A0 B0)) {Nz:AD}{Mp:FuncData}(EY:Fn K mg "judge_paper" Hv ["table","paper"] Nz Mp)(FJ:AK P w K mg base AZ k Nz Mp ["table","paper"] (A0 Df)) {Nf:AD}{MS:FuncData}(EV:Fn K mg "order_paper" Hr ["table"] Nf MS)(Ht:AK P w K mg base AZ k Nf MS ["table"] (XY GS)) {GW:AD}{Fv:FuncData}(C4:Fn K mg "table_order" GR ["table"] GW Fv)(Dg:AK P w K mg base AZ k GW Fv ["table"] (A0 Bn))(CC:mg "list" = none)(cdv:VL)(A:Around)(outer:sU)(s:SD)(H:Hp)(E:XK)(g:EX k (A.deeper (PyProof.Rows.envOfC "law" (AO RC) s.heap.objs.size f cdv))):Kr (MM AZ P w K mg base ["_law_script","_law_table_here","_law_due_here","_law_handed","_law_found"] "law" (AO RC) f cdv A outer s H E).TB ((EO RC).drop 1) (R7 GD B0 Df GS Bn):=by
 have sc:=cG;exact(AR (Bt (i:=2) sc.nd rfl (Or.inl rfl) (AX HP Ic g rfl (AA (AE (pv 1)) AF)))
 (AR (B8 (BL UZ (AE (pv 2)) Hl (Ak _))
  (AN (Au DQ))
  BR)
 (AR (Bt (i:=3) sc.nd rfl (Or.inl rfl) (Aj (AA (Kj [".0","_law_row"] 1 [none,none] (Cr (BE (AE (pv 1)) AH (fun _ _=>rfl))) (fun _ _ _ _ _=>Gb) (fun _ _ _ _ _=>(OA Wo rfl CC bF (AA (AE (pv 1)) AF)))) (AA (OA Wo rfl CC bF (AA (BE (AE (pv 1)) AH (fun _ _=>rfl)) AF)) AF))))
 (by exact dD (i:=4) EV Ht g rfl (AA (AE (pv 3)) AF) sc.nd rfl (Or.inl rfl) (DW.dt (D0 (EB (DX (AX U T g rfl (AA (AE (pv 4)) (AA (AE (pv 2)) AF))))) (D0 (BL (GB (by have:=g.units;exact this)) (AE (pv 3)) (AE (pv 1)) (Ak _)) (Dp (BL ZH (AX EY FJ g rfl (AA (AE (pv 3)) (AA (AE (pv 4)) AF))) DQ (Ak _)))))) (AN (Au DQ)) (EB (DX (AX U T g rfl (AA (AX C4 Dg g rfl (AA (AE (pv 3)) AF)) (AA (Aj (AA (BE (AE (pv 2)) AH (fun _ _=>rfl)) (AA (BE (BE (AE (pv 2)) AH (fun _ _=>rfl)) AH (fun _ _=>rfl)) AF))) AF))))) (AN (Au DQ)) (by refine⟨_,(Ep (Hw aa az bA FX (Cv Ff (pv 4) Aa (fun _ _=>rfl)) (AM Aa Ah))),fun σ H D a l v1 v2 xs B ha Y hs kk=>?_⟩;refine⟨_,B,a,_,1,_,rfl,rfl,BN.of ha,rfl,.inl ⟨rfl,_,Aw.of Y⟩,l,xs,_,rfl,rfl,Y,hs,kk _ fun b o n h=>?_⟩;rw[AJ n];exact h) (AN (Au (Iw (AX U T g rfl (AA (AX EV (pA Ht) g rfl (AA (AE (pv 3)) AF)) (AA (AE (pv 2)) AF))) (Kp (Ir jF (AX EY FJ g rfl (AA (AE (pv 3)) (AA (AE (pv 2)) AF))) DQ (Ak _))))))))))
end
def gN{ps N:sJ}{F:DF}{ds xs:rq}(g:ds.length=ps.length)(h:F (HY N ds)=some (.rn xs)):Sr ps N F ds=some xs:=by unfold Sr;rw[if_pos g,h]
def iW{ps N:sJ}{F:rk}{ds:rq}{x:PD}(g:ds.length=ps.length)(h:F (HY N ds)=some x):S6 ps N F ds=some x:=by unfold S6;rw[if_pos g,h]
noncomputable abbrev pQ:List PD->Option (List PD):=RE Nv
def jm{t:Tb}(h:t.Wu){ts:sR}(B:∀u∈ts,u∈Ac 6)(g:ts.length<=1000):pQ [Ai t,Co ts]=some (ts.map (OJ t)):=by
 have f:Vj Nv (HY ["table","trees"] [Ai t,Co ts])=some (.rn (ts.map (OJ t))):=by
  show((AB (nm 1) (AB (AQ Nv (AB (nm 0) (AB (nm 1) AG))) AG) _).bind Yl).map _=_;rw[Ag (x:=Co ts) (xs:=[IW (ts.map (Cf t))]) rfl (Ag (AV (xs:=[Ai t,Co ts]) rfl (Ug h B g)) rfl),Option.bind_some];have e:L2.Bk (Tr.of ts)=ts.map tD:=HJ ts;have T:(ts.map (Cf t)).map AU=ts.map fun u=>AU (Cf t u):=by rw[List.map_map];rfl
  unfold Co IW;rw[e,T];show(if _/\_ then some (IJ (ts.map tD) (ts.map fun u=>AU (Cf t u))) else none).map _=_;rw[if_pos ⟨by rw[List.length_map,List.length_map],by rw[List.length_map];exact g⟩,LP]
  rfl
 exact gN rfl f
def PM{g:DF}{F2:rk}{δ δ':Dv}{r:sE}(h:g δ=some (.nx δ'))(k:F2 δ'=r):OS g F2 δ=r:=by unfold OS;rw[h];exact k
def oO{f1 f3:rk}{m:RW}{fs:rj}{δ:Dv}{a c:PD}{ds xs:rq}(U:f1 δ=some a)(T:fs δ=some ds)(B:m ds=some xs)(g:f3 δ=some c):fP f1 m fs f3 δ=some (.tuple [a,.list xs,c]):=by
 unfold fP;rw[U,Option.bind_some,T,Option.bind_some,B,Option.bind_some,g]
 rfl
noncomputable abbrev km:MD:=XZ pO pQ mF Yw fH
def ec{t:Tb}(o:t.Ok 4)(s:t.Sm){k:Nat}{u:Tr}(h:ML t k u):km [Ai t]=some (HX t k u):=by
 have w:=fk o s;have B:=h.k5;have a:=OB k (by lia);refine iW rfl ?_;unfold XH;refine PM (Qe (AV (xs:=[Ai t]) rfl (fQ o))) (PM (DB (y:=.tuple [.int (k:Int),tD u]) (AV (xs:=[Ai t]) rfl ((Ur w).trans (by rw[fq h])))) (PM rfl (PM (Ig (δ:=[.d (Ai t),.d (.tuple [.int (k:Int),tD u]),.d .none]) rfl (DB (y:=OJ t u) (C3 (x:=.list [OJ t u]) (y:=.int 0) ?_ rfl rfl))) (oO (a:=.int (k:Int)) (c:=OJ t u) (ds:=[Ai t,Co (Ac k)]) (xs:=(Ac k).map CF) rfl (Ag rfl (Ag (AV (xs:=[.int (k:Int)]) rfl (ee B)) rfl)) ?_ rfl))))
 .refine AV (xs:=[Ai t,Co [u]]) rfl (pB w (fun v g=>?_) (by show(1:Nat)<=1000;decide));rw[List.mem_singleton.mp g];exact QT h.m5
 .rw[jm w (fun v g=>QT ((a.1 v g).2 B)) (by have:=a.2.2.1;lia),mD h]
def Sx.up:∀(n:Nat) (x:PD),Sx n x->Sx (n+1) x
 |0,_,h=>h.elim
 |n+1,x,h=>by
  cases x with
  |int i=>trivial
  |none=>trivial
  |list xs=>exact⟨h.1,fun y g=>Sx.up n y (h.2 y g)⟩
  |tuple xs=>exact⟨h.1,fun y g=>Sx.up n y (h.2 y g)⟩
  |_=>exact h.elim
def gT(t:Tb):Ok 4 (Ai t):=jo (n:=3) fun d hd=>by
 rcases aN.mp hd with rfl|hd
 .refine dn (n:=2) fun d hd=>?_;obtain⟨r,_,rfl⟩:=aR.mp hd;refine dn (n:=1) fun d hd=>?_;obtain⟨q,_,rfl⟩:=aR.mp hd;exact My q
 .rw[List.mem_singleton.mp hd];refine Ok.mono (dn (n:=1) fun d hd=>?_) (by decide);obtain⟨q,_,rfl⟩:=aR.mp hd;exact My q
def jD{i:Nat}{m:MD}{fs:rj}{B g:rp}{δ:Dv}{ds:rq}{y:PD}(h1:fs δ=some ds)(h3:i<δ.length)(Z:m ds=some y)(Y:B ((FV δ).set i (.d y))=some false)(U:g ((FV δ).set i (.d y))=some false)(T:RD y=true):PF i m fs B g δ=some (.nx (δ.set i .no)):=by
 unfold PF;rw[h1,Option.bind_some,if_pos h3,Z,Option.bind_some,Y,Option.bind_some,if_neg (by decide),U,Option.bind_some,if_neg (by decide),if_pos T]
noncomputable abbrev eh:MD:=B0 9
def mx(ns:sI){t:Tb}(o:t.Ok 4)(s:t.Sm):R7 eT eh lA km Yw [.d (VI ns),.d (Ai t),.no,.no,.no]=some (.rt (.bool true)):=by
 obtain⟨k,u,h⟩:=lP o s;have w:=fk o s;have Z:=h.k5;have h4:=o.most;have Y:=o.last;have b:=OB k (by lia);have B:=Sl 9 _ (jk h);have U:=Sl 9 _ (Sx.up _ _ (Sx.up _ _ (kG h)));have jp:=oI o s h;unfold R7;refine Am (DB (y:=HX t k u) (AV (xs:=[Ai t]) rfl (l0 o s h))) (Am (δ':=[.d (VI ns),.d (Ai t),.d (HX t k u),.no,.no]) (Bh rfl rfl) (Am (DB (y:=Ai t) ?_) (Am (jD (δ:=[.d (VI ns),.d (Ai t),.d (HX t k u),.d (Ai t),.no]) (ds:=[Ai t]) (y:=HX t k u) rfl (by show(4:Nat)<5;decide) (ec o s h) ?_ ?_ ?_) ?_)))
 .refine Gf (xs:=[.list (BW t.rs),.list (Ao t.ls)]) (Ag ?_ (Ag rfl rfl)) (by show(2:Nat)<=Cc;decide);show(GA _ _ _ _ _ _).map PyData.list=_;rw[OL (zs:=t.rs) (a:=fun r=>.list (Ao r)) (g:=fun r=>.list (Ao r)) rfl (by unfold Cc;lia) fun r _=>rfl]
  rfl
 .exact E2 (GZ (Ge (AV (xs:=[HX t k u,HX t k u]) rfl B))) (E2 (Bs (x:=Ai t) (y:=Ai t) rfl rfl (ne_self (gT t) (by decide))) (Bs (x:=.bool true) (y:=.bool true) (AV (xs:=[Ai t,HX t k u]) rfl jp) rfl rfl))
 .exact GZ (Ge (AV (xs:=[.tuple [.int (k:Int),tD u],.tuple [.int (k:Int),tD u]]) (Ag (AV (xs:=[Ai t]) rfl ((Ur w).trans (by rw[fq h]))) (Ag (Gf (xs:=[.int (k:Int),tD u]) (Ag rfl (Ag rfl rfl)) (by show(2:Nat)<=Cc;decide)) rfl)) U))
 .show decide (((Ac k).map CF).length<1000)=true;rw[List.length_map];exact bc (by have:=b.2.2.1;lia)
 .exact EN (Jr (AV (xs:=[HX t k u,HX t k u]) (Ag (AV (xs:=[Ai t]) rfl (ec o s h)) rfl) B) (C3 (x:=.bool true) (y:=.bool true) (AV (xs:=[Ai t,HX t k u]) rfl jp) rfl rfl))
def Y7(K:Fg):Sp:=fun vs H Q _=>∃(a:AD) (ns:List Int),vs=[.ref a]/\Aw K H a (ns.map V.int)/\ns.length<=63/\∀H',Q (.bl true) H'
section
variable{P:Program}{w:World}{K:Fg}{mg:sD}{base:Heap}{f g1 g2 g3 g4 g5 g6:AD}{fd gd1 gd2 gd3 gd4 gd5 gd6:FuncData}
def mi{k:Nat}(hK:UM K=true)(F:Fn K mg "law" RC ["_law_script"] f fd)(Hy:Fn K mg "_law_tables" J0 ["_law_script","_law_start"] g1 gd1)(HP:Fn K mg "_law_due" KS ["_law_table_here"] g2 gd2)(Ck:Fn K mg "_law_same" Jg ["_law_found","_law_due_here"] g3 gd3)(EY:Fn K mg "judge_paper" Hv ["table","paper"] g4 gd4)(EV:Fn K mg "order_paper" Hr ["table"] g5 gd5)(C4:Fn K mg "table_order" GR ["table"] g6 gd6) (Jz:AK P w K mg base AZ k g1 gd1 ["_law_script","_law_start"] (a8 K))(Ic:AK P w K mg base AZ k g2 gd2 ["_law_table_here"] (A0 eT))(D8:AK P w K mg base AZ k g3 gd3 ["_law_found","_law_due_here"] (A0 eh))(FJ:AK P w K mg base AZ k g4 gd4 ["table","paper"] (A0 lA))(Ht:AK P w K mg base AZ k g5 gd5 ["table"] (XY km))(Dg:AK P w K mg base AZ k g6 gd6 ["table"] (A0 Yw)) (CC:mg "list" = none):AK P w K mg base AZ (k+1) f fd ["_law_script"] (Y7 K):=by
 have sc:=cG;refine F.F.ok (k:=k) sc (fun vs H Q E h=>?_) (fun cdv A outer s H vs Q E T h=>?_)
 .obtain⟨a,ns,rfl,_⟩:=h
  rfl
 obtain⟨a,ns,rfl,U,h63,q⟩:=h;obtain⟨t,pt,Y⟩:=cm HP Ic Ck D8 EY FJ EV Ht C4 Dg CC cdv A outer s H E T;refine⟨_,(Ab (BB (i:=1) sc.nd rfl (Or.inl rfl) (B6 Hy Jz T rfl (AM (pv 0) (AM Aa Ah)))) pt),?_⟩;refine⟨_,rfl,a,ns,rfl,U,fun v B tb e1 g ho Z=>?_⟩;refine Y _ _ (mx ns ho Z) B B B B _ _ ⟨.refl _,Nw.refl,.refl _,.refl _,rfl,fun i x h=>?_,fun i xs h=>?_,fun i j xs ys _ h=>?_,fun q hq=>by cases hq⟩ fun v G' H' _ _ _ _ g=>?_
 .rcases i with _|_|_|_|_|i
  .cases h;exact⟨_,rfl,mY ((kz hK U).same e1)⟩
  .cases h;exact⟨_,rfl,g.du⟩
  all_goals first|(cases h;done)|(simp at h)
 .rcases i with _|_|_|_|_|i
  all_goals first|(cases h;done)|(simp at h)
 .rcases i with _|_|_|_|_|i
  all_goals first|(cases h;done)|(simp at h)
 .rw[Du]at g;subst g;exact q H'
end
def Zu(n:Nat)(g:Tr->Nat):Sp:=fun vs H Q _=>∃v t,vs=[v]/\Tv H t v/\t.deep<n/\n<=60/\t.AI<=8/\∀H',AL H H'->Q (.int (g t)) H'
def cf{P:Program}{w:World}{K:Fg}{mg:sD}{base:Heap}{CX:I0}{k:Nat}{f:AD}{fd:FuncData}{ps:sJ}{sp:Sp}(h:∀vs H Q E,¬sp vs H Q E):AK P w K mg base CX k f fd ps sp :=
 ⟨fun _ _ _ _ z=>(h _ _ _ _ z).elim,fun _ _ _ _ _ _ _ _ _ _ _ _ _ z=>(h _ _ _ _ z).elim⟩
section
variable{P:Program}{w:World}{K:Fg}{mg:sD}{base:Heap}{f:AD}{fd:FuncData}
def Rq:Af ["tree"] ["tree"] (AO Es):=B9
def L1(Z:Fn K mg "knots_within" Es ["tree"] f fd)(FA:mg "sum" = none):∀n,AK P w K mg base AZ n f fd ["tree"] (Zu n Tr.AI)
 |0=>cf fun _ _ _ _ ⟨_,_,_,_,h,_⟩=>absurd h (ae _)
 |n+1=>by
  have sc:=Rq;have Bw:=L1 Z FA n;refine Z.F.ok (k:=n) sc (fun vs H Q E h=>?_) (fun cdv A outer s H vs Q E hr h=>?_)
  .obtain⟨v,t,rfl,_⟩:=h
   rfl
  obtain⟨v,t,rfl,⟨a,xs,rfl,ha,ht⟩,hd,hn,hk,q⟩:=h;refine⟨_,(A2 (CB (Ar FY Aa (Ds (NF rfl) rfl FA bj (AM (Fl [".0","bough"] 1 [none,none] (Ud (pv 0)) (fun _ _ _ _ _=>Er) (fun _ _ _ _ _=>(B6 Z Bw hr rfl (AM (pv 1) Ah)))) Ah))))),?_⟩;have g:=ht.len;have Y:xs.length<8:=by rw[g];have:=Tr.Ot t;lia
  refine⟨_,rfl,a,rfl,⟨_,BN.of ha⟩,fun D hD=>Fz (n:=xs.length) (fun i ys H'=>AL H H'/\ys=(t.bs.take i).map fun c=>V.int (c.AI:Nat)) ?_ ?_ ?_⟩
  .exact⟨An hD _,by simp⟩
  .rintro i ys H0 hi ⟨T,rfl⟩ B;have hi':i<t.bs.length:=by lia
   refine⟨⟨xs,xs[i],BN.of (T _ _ ha),by simp[hi]⟩,?_,fun x H' y=>?_⟩
   .rw[List.length_map,List.length_take];exact aP (Nat.min_le_left _ _) (aI (bZ hi Y) (by rw[sizeLine_eq];decide))
   .obtain⟨rfl,y⟩:=y;have hx:=y xs (BN.of (T _ _ ha));obtain⟨c,hc,tc⟩:=ht.get hx;have U:c∈t.bs:=aH hc;have hcd:=Tr.M3 U;have hck:=Tr.Jo U;unfold HR;refine JW ⟨_,rfl,x,c,rfl,tc.same T,by lia,by lia,by lia,fun H2 e2=>⟨e2 _ _ B,ER hi ⟨?_,?_⟩⟩⟩
    .exact fun b o z=>by
      rw[AJ (AY z hD)];exact e2 _ _ (T _ _ z)
    .rw[List.take_succ,hc];simp
  .rintro ys H0 ⟨T,rfl⟩ B;refine⟨⟨xs,BN.of (T _ _ ha),Nat.le_refl _⟩,?_⟩;refine⟨D,t.bs.map fun c=>(c.AI:Int),rfl,Aw.of ?_,_,_,rfl,rfl,?_⟩
   .rw[B,g,List.take_length,List.map_map]
    rfl
   .show Q (.int (1+(t.bs.map fun c=>(c.AI:Int)).sum)) H0;rw[Tr.Tq];exact q H0 T
end
def oy{P:Program}{w:World}{K:Fg}{mg:sD}{base:Heap}{f:AD}{fd:FuncData}{k:Nat}{ps:sJ}(F:AK P w K mg base AZ k f fd ps (Zu 8 Tr.AI)):AK P w K mg base AZ k f fd ps jG :=
 F.imp fun vs H Q E z=>by
  obtain⟨v,u,rfl,g,hd,B,q⟩:=z;exact⟨v,u,rfl,g,hd,by decide,B,q⟩
section
open PySem.W PyProof.Rows PySem.Calls
abbrev GU:Program:=PySem.Challenge.pw_stepgrove_k54_papers_of_tables
abbrev B5:OpenLaw:=PySem.Challenge.rw_stepgrove_k54_papers_of_tables
noncomputable abbrev dE(P:Params)(x:String)(t:Nat)(v:VL):DictEntry:=⟨PyData.keyHash P (Str.ofString x),.str (Str.ofString x) t,v⟩
noncomputable abbrev sV(x:String)(t:Nat):VL:=.str (Str.ofString x) t
noncomputable abbrev fO(n:String)(i:Nat)(m:String)(t c:Nat):Obj:=⟨.type "function",none,.func (fnOf n n (HM (top i)) (EO (top i)) (AO (top i)) .none .none .none (.str (Str.ofString m) t) none (.ref c) .none),#[]⟩
noncomputable abbrev cO(n:String)(t l a k r:Nat)(b:Bool)(Y:Nat)(U T B v4:VL)(g:Nat):Obj:=⟨.type "code",none,.fields #[sV n t,sV n (t+1),sV "/claim/cut.py" (t+2),.int l 0,.int a 0,.int 0 0,.int 0 0,.int k 0,.ref r,.bool b,.int 181 0,.ref Y,U,T,B,v4,.int g 0,.int l 0,sV "/claim/cut.py" (g+1)],#[]⟩
noncomputable def kH:Params->Frag:=fun P=>
 (nat_lit 2,⟨.none,none,(.dict #[] 0),#[]⟩) ::
 (nat_lit 3,⟨(.type "dict"),none,(.dict #[dE P "__name__" 165 (sV "law_stepgrove_k54_papers_of_tables" 560),dE P "__doc__" 166 .none,dE P "__package__" 167 .none,dE P "__loader__" 168 (.builtin "__main__.__loader__#opaque"),dE P "__spec__" 169 .none,dE P "__annotations__" 170 (.ref 6),dE P "__builtins__" 171 (.ref 4),dE P "__file__" 173 (sV "/claim/cut.py" 172),dE P "__cached__" 174 .none,dE P "GroveError" 206 (.ref 24),dE P "NoBottom" 222 (.ref 37),dE P "NoTable" 238 (.ref 49),dE P "TooMany" 254 (.ref 61),dE P "fraction_of" 265 (.ref 70),dE P "frac_times" 273 (.ref 77),dE P "is_fraction" 280 (.ref 84),dE P "are_fractions" 288 (.ref 91),dE P "is_whole" 295 (.ref 98),dE P "greatest_divisor" 306 (.ref 105),dE P "common_bottom" 315 (.ref 112),dE P "frac_total" 321 (.ref 117),dE P "power_of" 332 (.ref 124),dE P "MOST_ROWS" 336 (.int 40 335),dE P "is_table" 343 (.ref 131),dE P "refuse_no_table" 350 (.ref 138),dE P "are_rows" 359 (.ref 145),dE P "MOST_KNOTS" 363 (.int 7 362),dE P "trees_of" 374 (.ref 152),dE P "trees_to" 383 (.ref 159),dE P "in_falling_order" 390 (.ref 166),dE P "knots_within" 396 (.ref 171),dE P "density_within" 405 (.ref 178),dE P "parents_within" 411 (.ref 183),dE P "trees_one_larger" 422 (.ref 190),dE P "tops_over" 430 (.ref 195),dE P "table_bottom" 436 (.ref 200),dE P "true_weights" 444 (.ref 205),dE P "weights_under" 450 (.ref 210),dE P "readings" 456 (.ref 215),dE P "read_by" 462 (.ref 220),dE P "MOST_ORDER" 466 (.int 6 465),dE P "table_order" 476 (.ref 227),dE P "first_unlike" 488 (.ref 234),dE P "MOST_JUDGED_ROWS" 492 (.int 5 491),dE P "order_paper" 501 (.ref 241),dE P "judge_paper" 510 (.ref 248),dE P "refuse_no_judging" 517 (.ref 255),dE P "lines_of" 525 (.ref 262),dE P "are_true_lines" 536 (.ref 269),dE P "is_due_odd" 545 (.ref 276),dE P "is_line" 553 (.ref 283),dE P "walked_weight" 559 (.ref 288),dE P "_law_cell" 573 (.ref 295),dE P "_law_take" 582 (.ref 302),dE P "_law_shared" 590 (.ref 309),dE P "_law_frac" 599 (.ref 316),dE P "_law_plus" 607 (.ref 323),dE P "_law_by" 615 (.ref 330),dE P "_law_part" 623 (.ref 337),dE P "_law_table" 629 (.ref 342),dE P "_law_known" 636 (.ref 349),dE P "_law_tables" 648 (.ref 356),dE P "_law_trees" 654 (.ref 361),dE P "_law_knots" 660 (.ref 366),dE P "_law_density" 669 (.ref 373),dE P "_law_seen" 683 (.ref 380),dE P "_law_weight" 694 (.ref 387),dE P "_law_true" 701 (.ref 394),dE P "_law_same" 707 (.ref 399),dE P "_law_due" 713 (.ref 404),dE P "law" 719 (.ref 409)] 71),#[]⟩) ::
 (nat_lit 15,⟨(.type "tuple"),none,(.seq #[(.type "ValueError")] 0),#[]⟩) ::
 (nat_lit 22,⟨(.type "tuple"),none,(.seq #[] 0),#[]⟩) ::
 (nat_lit 23,⟨(.type "dict"),none,(.dict #[dE P "__module__" 196 (sV "stepgrove.errors" 187),dE P "__firstlineno__" 200 (.int 2 199),dE P "__static_attributes__" 201 (.ref 22),dE P "__weakref__" 203 (.ref 25),dE P "__doc__" 204 .none] 3),#[]⟩) ::
 (nat_lit 24,⟨(.type "type"),none,(.cls ⟨Str.ofString "GroveError",[(.type "ValueError")],[(.ref 24),(.type "ValueError"),(.type "Exception"),(.type "BaseException"),(.type "object")],23,Str.ofString "GroveError",true,[],[(.ref 37),(.ref 49),(.ref 61)],false,none,false⟩),#[some (.ref 15),none,some (sV "GroveError" 189),some (sV "GroveError" 197),some (.builtin "ValueError.__new__"),some (.bool true)]⟩) ::
 (nat_lit 25,⟨(.type "getset_descriptor"),none,(.fields #[(sV "__weakref__" 202),(.ref 24),(.builtin "ExceptionGroup.__weakref__"),.none]),#[]⟩) ::
 (nat_lit 28,⟨(.type "tuple"),none,(.seq #[(.ref 24)] 0),#[]⟩) ::
 (nat_lit 35,⟨(.type "tuple"),none,(.seq #[] 0),#[]⟩) ::
 (nat_lit 36,⟨(.type "dict"),none,(.dict #[dE P "__module__" 214 (sV "stepgrove.errors" 187),dE P "__firstlineno__" 218 (.int 4 217),dE P "__static_attributes__" 219 (.ref 35),dE P "__doc__" 220 .none] 2),#[]⟩) ::
 (nat_lit 37,⟨(.type "type"),none,(.cls ⟨Str.ofString "NoBottom",[(.ref 24)],[(.ref 37),(.ref 24),(.type "ValueError"),(.type "Exception"),(.type "BaseException"),(.type "object")],36,Str.ofString "NoBottom",true,[],[],false,none,false⟩),#[some (.ref 28),none,some (sV "NoBottom" 207),some (sV "NoBottom" 215),some (.builtin "ValueError.__new__"),some (.bool true)]⟩) ::
 (nat_lit 40,⟨(.type "tuple"),none,(.seq #[(.ref 24)] 0),#[]⟩) ::
 (nat_lit 47,⟨(.type "tuple"),none,(.seq #[] 0),#[]⟩) ::
 (nat_lit 48,⟨(.type "dict"),none,(.dict #[dE P "__module__" 230 (sV "stepgrove.errors" 187),dE P "__firstlineno__" 234 (.int 6 233),dE P "__static_attributes__" 235 (.ref 47),dE P "__doc__" 236 .none] 2),#[]⟩) ::
 (nat_lit 49,⟨(.type "type"),none,(.cls ⟨Str.ofString "NoTable",[(.ref 24)],[(.ref 49),(.ref 24),(.type "ValueError"),(.type "Exception"),(.type "BaseException"),(.type "object")],48,Str.ofString "NoTable",true,[],[],false,none,false⟩),#[some (.ref 40),none,some (sV "NoTable" 223),some (sV "NoTable" 231),some (.builtin "ValueError.__new__"),some (.bool true)]⟩) ::
 (nat_lit 52,⟨(.type "tuple"),none,(.seq #[(.ref 24)] 0),#[]⟩) ::
 (nat_lit 59,⟨(.type "tuple"),none,(.seq #[] 0),#[]⟩) ::
 (nat_lit 60,⟨(.type "dict"),none,(.dict #[dE P "__module__" 246 (sV "stepgrove.errors" 187),dE P "__firstlineno__" 250 (.int 8 249),dE P "__static_attributes__" 251 (.ref 59),dE P "__doc__" 252 .none] 2),#[]⟩) ::
 (nat_lit 61,⟨(.type "type"),none,(.cls ⟨Str.ofString "TooMany",[(.ref 24)],[(.ref 61),(.ref 24),(.type "ValueError"),(.type "Exception"),(.type "BaseException"),(.type "object")],60,Str.ofString "TooMany",true,[],[],false,none,false⟩),#[some (.ref 52),none,some (sV "TooMany" 239),some (sV "TooMany" 247),some (.builtin "ValueError.__new__"),some (.bool true)]⟩) ::
 (nat_lit 69,cO "fraction_of" 257 11 2 3 64 true 65 .none (.ref 66) (.ref 67) (.ref 68) 263) ::
 (nat_lit 70,fO "fraction_of" 6 "stepgrove.fracs" 255 69) ::
 (nat_lit 76,cO "frac_times" 266 18 2 3 71 true 72 .none (.ref 73) (.ref 74) (.ref 75) 271) ::
 (nat_lit 77,fO "frac_times" 7 "stepgrove.fracs" 255 76) ::
 (nat_lit 83,cO "is_fraction" 274 20 1 3 78 true 79 .none (.ref 80) (.ref 81) (.ref 82) 278) ::
 (nat_lit 84,fO "is_fraction" 8 "stepgrove.fracs" 255 83) ::
 (nat_lit 90,cO "are_fractions" 281 26 1 3 85 true 86 .none (.ref 87) (.ref 88) (.ref 89) 286) ::
 (nat_lit 91,fO "are_fractions" 9 "stepgrove.fracs" 255 90) ::
 (nat_lit 97,cO "is_whole" 289 33 1 3 92 true 93 .none (.ref 94) (.ref 95) (.ref 96) 293) ::
 (nat_lit 98,fO "is_whole" 10 "stepgrove.fracs" 255 97) ::
 (nat_lit 104,cO "greatest_divisor" 296 35 2 3 99 true 100 .none (.ref 101) (.ref 102) (.ref 103) 304) ::
 (nat_lit 105,fO "greatest_divisor" 11 "stepgrove.fracs" 255 104) ::
 (nat_lit 111,cO "common_bottom" 307 43 1 3 106 true 107 .none (.ref 108) (.ref 109) (.ref 110) 313) ::
 (nat_lit 112,fO "common_bottom" 12 "stepgrove.fracs" 255 111) ::
 (nat_lit 116,cO "frac_total" 316 48 1 3 113 true 114 .none .none .none (.ref 115) 319) ::
 (nat_lit 117,fO "frac_total" 13 "stepgrove.fracs" 255 116) ::
 (nat_lit 123,cO "power_of" 322 51 2 3 118 true 119 .none (.ref 120) (.ref 121) (.ref 122) 330) ::
 (nat_lit 124,fO "power_of" 14 "stepgrove.fracs" 255 123) ::
 (nat_lit 130,cO "is_table" 337 64 1 3 125 true 126 .none (.ref 127) (.ref 128) (.ref 129) 341) ::
 (nat_lit 131,fO "is_table" 17 "stepgrove.tables" 333 130) ::
 (nat_lit 137,cO "refuse_no_table" 344 68 1 3 132 true 133 .none (.ref 134) (.ref 135) (.ref 136) 348) ::
 (nat_lit 138,fO "refuse_no_table" 18 "stepgrove.tables" 333 137) ::
 (nat_lit 144,cO "are_rows" 351 71 1 3 139 true 140 .none (.ref 141) (.ref 142) (.ref 143) 357) ::
 (nat_lit 145,fO "are_rows" 19 "stepgrove.tables" 333 144) ::
 (nat_lit 151,cO "trees_of" 364 80 1 3 146 true 147 .none (.ref 148) (.ref 149) (.ref 150) 372) ::
 (nat_lit 152,fO "trees_of" 22 "stepgrove.trees" 360 151) ::
 (nat_lit 158,cO "trees_to" 375 90 1 3 153 true 154 .none (.ref 155) (.ref 156) (.ref 157) 381) ::
 (nat_lit 159,fO "trees_to" 23 "stepgrove.trees" 360 158) ::
 (nat_lit 165,cO "in_falling_order" 384 97 1 3 160 true 161 .none (.ref 162) (.ref 163) (.ref 164) 388) ::
 (nat_lit 166,fO "in_falling_order" 24 "stepgrove.trees" 360 165) ::
 (nat_lit 170,cO "knots_within" 391 99 1 3 167 true 168 .none .none .none (.ref 169) 394) ::
 (nat_lit 171,fO "knots_within" 25 "stepgrove.trees" 360 170) ::
 (nat_lit 177,cO "density_within" 397 101 1 3 172 true 173 .none (.ref 174) (.ref 175) (.ref 176) 403) ::
 (nat_lit 178,fO "density_within" 26 "stepgrove.trees" 360 177) ::
 (nat_lit 182,cO "parents_within" 406 106 1 3 179 true 180 .none .none .none (.ref 181) 409) ::
 (nat_lit 183,fO "parents_within" 27 "stepgrove.trees" 360 182) ::
 (nat_lit 189,cO "trees_one_larger" 412 113 1 3 184 true 185 .none (.ref 186) (.ref 187) (.ref 188) 420) ::
 (nat_lit 190,fO "trees_one_larger" 28 "stepgrove.trees" 360 189) ::
 (nat_lit 194,cO "tops_over" 425 120 2 3 191 true 192 .none .none .none (.ref 193) 428) ::
 (nat_lit 195,fO "tops_over" 30 "stepgrove.wholes" 423 194) ::
 (nat_lit 199,cO "table_bottom" 431 122 1 3 196 true 197 .none .none .none (.ref 198) 434) ::
 (nat_lit 200,fO "table_bottom" 31 "stepgrove.wholes" 423 199) ::
 (nat_lit 204,cO "true_weights" 439 128 1 3 201 true 202 .none .none .none (.ref 203) 442) ::
 (nat_lit 205,fO "true_weights" 33 "stepgrove.weights" 437 204) ::
 (nat_lit 209,cO "weights_under" 445 130 2 3 206 true 207 .none .none .none (.ref 208) 448) ::
 (nat_lit 210,fO "weights_under" 34 "stepgrove.weights" 437 209) ::
 (nat_lit 214,cO "readings" 451 138 3 3 211 true 212 .none .none .none (.ref 213) 454) ::
 (nat_lit 215,fO "readings" 35 "stepgrove.weights" 437 214) ::
 (nat_lit 219,cO "read_by" 457 145 2 3 216 true 217 .none .none .none (.ref 218) 460) ::
 (nat_lit 220,fO "read_by" 36 "stepgrove.weights" 437 219) ::
 (nat_lit 226,cO "table_order" 467 149 1 3 221 true 222 .none (.ref 223) (.ref 224) (.ref 225) 474) ::
 (nat_lit 227,fO "table_order" 39 "stepgrove.orders" 463 226) ::
 (nat_lit 233,cO "first_unlike" 477 157 3 3 228 true 229 .none (.ref 230) (.ref 231) (.ref 232) 486) ::
 (nat_lit 234,fO "first_unlike" 40 "stepgrove.orders" 463 233) ::
 (nat_lit 240,cO "order_paper" 493 164 1 3 235 true 236 .none (.ref 237) (.ref 238) (.ref 239) 499) ::
 (nat_lit 241,fO "order_paper" 43 "stepgrove.judging" 489 240) ::
 (nat_lit 247,cO "judge_paper" 502 171 2 3 242 true 243 .none (.ref 244) (.ref 245) (.ref 246) 508) ::
 (nat_lit 248,fO "judge_paper" 44 "stepgrove.judging" 489 247) ::
 (nat_lit 254,cO "refuse_no_judging" 511 179 1 3 249 true 250 .none (.ref 251) (.ref 252) (.ref 253) 515) ::
 (nat_lit 255,fO "refuse_no_judging" 45 "stepgrove.judging" 489 254) ::
 (nat_lit 261,cO "lines_of" 518 183 2 3 256 true 257 .none (.ref 258) (.ref 259) (.ref 260) 523) ::
 (nat_lit 262,fO "lines_of" 46 "stepgrove.judging" 489 261) ::
 (nat_lit 268,cO "are_true_lines" 526 185 3 3 263 true 264 .none (.ref 265) (.ref 266) (.ref 267) 534) ::
 (nat_lit 269,fO "are_true_lines" 47 "stepgrove.judging" 489 268) ::
 (nat_lit 275,cO "is_due_odd" 537 192 3 3 270 true 271 .none (.ref 272) (.ref 273) (.ref 274) 543) ::
 (nat_lit 276,fO "is_due_odd" 48 "stepgrove.judging" 489 275) ::
 (nat_lit 282,cO "is_line" 546 198 2 3 277 true 278 .none (.ref 279) (.ref 280) (.ref 281) 551) ::
 (nat_lit 283,fO "is_line" 49 "stepgrove.judging" 489 282) ::
 (nat_lit 287,cO "walked_weight" 554 202 2 3 284 true 285 .none .none .none (.ref 286) 557) ::
 (nat_lit 288,fO "walked_weight" 50 "stepgrove.judging" 489 287) ::
 (nat_lit 294,cO "_law_cell" 562 212 2 3 289 true 290 .none (.ref 291) (.ref 292) (.ref 293) 571) ::
 (nat_lit 295,fO "_law_cell" 52 "law_stepgrove_k54_papers_of_tables" 560 294) ::
 (nat_lit 301,cO "_law_take" 574 224 2 3 296 true 297 .none (.ref 298) (.ref 299) (.ref 300) 580) ::
 (nat_lit 302,fO "_law_take" 53 "law_stepgrove_k54_papers_of_tables" 560 301) ::
 (nat_lit 308,cO "_law_shared" 583 228 2 3 303 true 304 .none (.ref 305) (.ref 306) (.ref 307) 588) ::
 (nat_lit 309,fO "_law_shared" 54 "law_stepgrove_k54_papers_of_tables" 560 308) ::
 (nat_lit 315,cO "_law_frac" 591 232 2 3 310 true 311 .none (.ref 312) (.ref 313) (.ref 314) 597) ::
 (nat_lit 316,fO "_law_frac" 55 "law_stepgrove_k54_papers_of_tables" 560 315) ::
 (nat_lit 322,cO "_law_plus" 600 237 2 3 317 true 318 .none (.ref 319) (.ref 320) (.ref 321) 605) ::
 (nat_lit 323,fO "_law_plus" 56 "law_stepgrove_k54_papers_of_tables" 560 322) ::
 (nat_lit 329,cO "_law_by" 608 239 2 3 324 true 325 .none (.ref 326) (.ref 327) (.ref 328) 613) ::
 (nat_lit 330,fO "_law_by" 57 "law_stepgrove_k54_papers_of_tables" 560 329) ::
 (nat_lit 336,cO "_law_part" 616 241 1 3 331 true 332 .none (.ref 333) (.ref 334) (.ref 335) 621) ::
 (nat_lit 337,fO "_law_part" 58 "law_stepgrove_k54_papers_of_tables" 560 336) ::
 (nat_lit 341,cO "_law_table" 624 244 3 3 338 true 339 .none .none .none (.ref 340) 627) ::
 (nat_lit 342,fO "_law_table" 59 "law_stepgrove_k54_papers_of_tables" 560 341) ::
 (nat_lit 348,cO "_law_known" 630 252 1 3 343 true 344 .none (.ref 345) (.ref 346) (.ref 347) 634) ::
 (nat_lit 349,fO "_law_known" 60 "law_stepgrove_k54_papers_of_tables" 560 348) ::
 (nat_lit 355,cO "_law_tables" 637 264 2 3 350 true 351 .none (.ref 352) (.ref 353) (.ref 354) 646) ::
 (nat_lit 356,fO "_law_tables" 61 "law_stepgrove_k54_papers_of_tables" 560 355) ::
 (nat_lit 360,cO "_law_trees" 649 276 1 3 357 true 358 .none .none .none (.ref 359) 652) ::
 (nat_lit 361,fO "_law_trees" 62 "law_stepgrove_k54_papers_of_tables" 560 360) ::
 (nat_lit 365,cO "_law_knots" 655 294 1 3 362 true 363 .none .none .none (.ref 364) 658) ::
 (nat_lit 366,fO "_law_knots" 63 "law_stepgrove_k54_papers_of_tables" 560 365) ::
 (nat_lit 372,cO "_law_density" 661 296 1 3 367 true 368 .none (.ref 369) (.ref 370) (.ref 371) 667) ::
 (nat_lit 373,fO "_law_density" 64 "law_stepgrove_k54_papers_of_tables" 560 372) ::
 (nat_lit 379,cO "_law_seen" 670 301 3 3 374 true 375 .none (.ref 376) (.ref 377) (.ref 378) 681) ::
 (nat_lit 380,fO "_law_seen" 65 "law_stepgrove_k54_papers_of_tables" 560 379) ::
 (nat_lit 386,cO "_law_weight" 684 309 2 3 381 true 382 .none (.ref 383) (.ref 384) (.ref 385) 692) ::
 (nat_lit 387,fO "_law_weight" 66 "law_stepgrove_k54_papers_of_tables" 560 386) ::
 (nat_lit 393,cO "_law_true" 695 314 1 3 388 true 389 .none (.ref 390) (.ref 391) (.ref 392) 699) ::
 (nat_lit 394,fO "_law_true" 67 "law_stepgrove_k54_papers_of_tables" 560 393) ::
 (nat_lit 398,cO "_law_same" 702 316 2 3 395 true 396 .none .none .none (.ref 397) 705) ::
 (nat_lit 399,fO "_law_same" 68 "law_stepgrove_k54_papers_of_tables" 560 398) ::
 (nat_lit 403,cO "_law_due" 708 326 1 3 400 true 401 .none .none .none (.ref 402) 711) ::
 (nat_lit 404,fO "_law_due" 69 "law_stepgrove_k54_papers_of_tables" 560 403) ::
 (nat_lit 408,cO "law" 714 335 1 3 405 true 406 .none .none .none (.ref 407) 717) ::
 (nat_lit 409,fO "law" 70 "law_stepgrove_k54_papers_of_tables" 560 408)::[]
abbrev qX:Program:=view GU [1,2,3,4,6,7,8,9,10,11,12,13,14,16,17,18,19,21,22,23,24,25,26,27,28,30,31,33,34,35,36,38,39,40,42,43,44,45,46,47,48,49,50,52,53,54,55,56,57,58,59,60,61,62,63,64,65,66,67,68,69,70]
noncomputable abbrev hX:Hook:=kHook kH [nat_lit 2,nat_lit 3,nat_lit 15,nat_lit 22,nat_lit 23,nat_lit 24,nat_lit 25,nat_lit 28,nat_lit 35,nat_lit 36,nat_lit 37,nat_lit 40,nat_lit 47,nat_lit 48,nat_lit 49,nat_lit 52,nat_lit 59,nat_lit 60,nat_lit 61,nat_lit 69,nat_lit 70,nat_lit 76,nat_lit 77,nat_lit 83,nat_lit 84,nat_lit 90,nat_lit 91,nat_lit 97,nat_lit 98,nat_lit 104,nat_lit 105,nat_lit 111,nat_lit 112,nat_lit 116,nat_lit 117,nat_lit 123,nat_lit 124,nat_lit 130,nat_lit 131,nat_lit 137,nat_lit 138,nat_lit 144,nat_lit 145,nat_lit 151,nat_lit 152,nat_lit 158,nat_lit 159,nat_lit 165,nat_lit 166,nat_lit 170,nat_lit 171,nat_lit 177,nat_lit 178,nat_lit 182,nat_lit 183,nat_lit 189,nat_lit 190,nat_lit 194,nat_lit 195,nat_lit 199,nat_lit 200,nat_lit 204,nat_lit 205,nat_lit 209,nat_lit 210,nat_lit 214,nat_lit 215,nat_lit 219,nat_lit 220,nat_lit 226,nat_lit 227,nat_lit 233,nat_lit 234,nat_lit 240,nat_lit 241,nat_lit 247,nat_lit 248,nat_lit 254,nat_lit 255,nat_lit 261,nat_lit 262,nat_lit 268,nat_lit 269,nat_lit 275,nat_lit 276,nat_lit 282,nat_lit 283,nat_lit 287,nat_lit 288,nat_lit 294,nat_lit 295,nat_lit 301,nat_lit 302,nat_lit 308,nat_lit 309,nat_lit 315,nat_lit 316,nat_lit 322,nat_lit 323,nat_lit 329,nat_lit 330,nat_lit 336,nat_lit 337,nat_lit 341,nat_lit 342,nat_lit 348,nat_lit 349,nat_lit 355,nat_lit 356,nat_lit 360,nat_lit 361,nat_lit 365,nat_lit 366,nat_lit 372,nat_lit 373,nat_lit 379,nat_lit 380,nat_lit 386,nat_lit 387,nat_lit 393,nat_lit 394,nat_lit 398,nat_lit 399,nat_lit 403,nat_lit 404,nat_lit 408,nat_lit 409] (fun _=>by kernel_rfl)
noncomputable def dX:DefRec:=⟨Str.ofString "law",HM (top 70),EO (top 70),AO (top 70),⟨335,0,347,113⟩⟩
def nr:B5.wellSaid=true:=(congrFun PySem.W.Fast.te9446332074065402090 _).trans (by kernel_rfl)
def qP(w:World)(os:OsState):topGo treeTable GU w 11 Opn.J1 12 ⟨boot_heap w.params,#[],boot_drawn,boot_toks,os⟩ (topStub GU)=some (Opn.sA w os,⟨denote treeTable (Opn.cB GU),Opn.cB GU,Opn.q0,Opn.bB⟩):=by kernel_rfl
def qq(w:World)(os:OsState):segRun treeTable GU w 11 Opn.J1 1 1 (Opn.sA w os) (blockOf (behindTheImports GU) (Opn.Qi GU) (Opn.cB GU) Opn.q0 Opn.bB)=some (.next,(Opn.sB w os).abs,Opn.cB GU,Opn.q0):=by kernel_rfl
def qV(w:World)(s:SD):topRun treeTable GU w 11 Opn.J1 2 s (restOf [] (Opn.Qi GU) (Opn.cB GU) ⟨335,0,347,113⟩ Opn.bB)=some s:=by kernel_rfl
def qE(w:World)(os:OsState):Opn.YB GU 2540 w os=some (.next,Opn.YK GU 2540 w os,Opn.cB GU,⟨335,0,347,113⟩):=by kernel_rfl
noncomputable abbrev sX(w:World)(os:OsState):SD:=(Opn.YK GU 2540 w os).abs
def rE(w:World)(os:OsState):(staticsOk (importedModules GU.main.body) (boot_heap w.params) (sX w os).heap&&namesBound GU (sX w os).heap&&gensDone (sX w os)&&laidKept (boot_heap w.params) (sX w os).heap)=true:=by kernel_rfl
def nT(w:World)(os:OsState):hX.obs (sX w os)=hX.val w:=by kernel_rfl
noncomputable abbrev jZ:SD->Bool:=fun s=>xlAt qX [] s&&recOk (RowW.records B5.row.toRowW) s
def nP(w:World)(os:OsState):openSeen qX [] (importedModules GU.main.body) jZ true (sX w os)=openGood qX []:=by kernel_rfl
def nQ(w:World):(fencedOpening treeTable GU w 5204).map (fun s=>(s.heap,s.gens,s.drawn,s.toks))=some (boot_heap w.params,#[],boot_drawn,boot_toks):=boot_open (p:=GU) (N:=5204) (by kernel_rfl) (by kernel_rfl) (fun _=>by kernel_rfl) w
def ou:LeftO GU qX [] jZ hX.obs hX.val 5204:=Opn.gI (M:=2555) (S:=sX) nQ Opn.o8 (fun w os=>Opn.kW (qP w os) (qq w os) (qE w os) (qV w) (by kernel_rfl)) (by kernel_rfl) rE nP nT
def qp:defOf qX B5.row.name=some (dX,[]):=by kernel_rfl
def qr:GU.theDef B5.row.name=some (dX.params,dX.body,dX.scope):=by kernel_rfl
def rS:kwWritten? dX.params.kwonlyargs dX.params.kw_defaults=some []:=by kernel_rfl
def p9:(chainsOk qX&&opensWell B5.row.prog&&(frees B5.row.toRowW&&B5.row.within.isEmpty))=true:=by kernel_rfl
def nv:GU.bare:=⟨rfl,rfl,rfl,rfl,rfl,by decide +kernel⟩
def openX(U:B5.row.toRowW.promised)(Y:WalkO qX [] (XL qX []) hX.says B5.row.toRowW dX [] (fun f vs=>PySem.call f vs)):B5.Holds :=
 holds_law nr fun g=>holds_open (r:=B5.row) (q:=qX) (loose:=[]) (Xt:=jZ) (XP:=XL qX []) (Yf:=hX.obs) (Ya:=hX.val) (YP:=hX.says) (d:=dX) (kwd:=[]) (N:=5204) ou hX.of hX.keeps (fun s e=>xl_of s (Bool.and_eq_true_iff.mp e).1) XL.keeps qp qr rS (fun s e=>recFacts_of (Bool.and_eq_true_iff.mp e).2) rfl g p9 nv U Y
end
section
open PySem.W
def fnX{w:World}{mg:sD}{h:Heap}(X:(kH w.params).In h)(G:h.Ns mainGlobals mg)(n:String)(i:Nat)(m:String)(t c f:Nat)(ps:sJ)
 (ha:nsIn (kH w.params) mainGlobals (Str.ofString n)=some (some (.ref f)):=by kernel_rfl)(g:(kH w.params).lookup f=some (fO n i m t c):=by kernel_rfl)(T:codeIn (kH w.params) (.ref c) (Str.ofString n)=true:=by kernel_rfl)(B:keepIn (kH w.params) (.ref f)=true:=by kernel_rfl)
 (U:∀(kV doc pm:VL) (an:Option AD) (cdv ct:VL) (us:rz),us.length=ps.length->bindArgs (fnOf (Str.ofString n) (Str.ofString n) (HM (top i)) (EO (top i)) (AO (top i)) .none kV doc pm an cdv ct) ⟨us,[]⟩=pure (ps.zip us):=by first|(exact fun _ _ _ _ _ _ us g=>match us,g with|[_],_=>rfl)|(exact fun _ _ _ _ _ _ us g=>match us,g with|[_,_],_=>rfl)|(exact fun _ _ _ _ _ _ us g=>match us,g with|[_,_,_],_=>rfl)|(exact fun _ _ _ _ _ _ us g=>match us,g with|[_,_,_,_],_=>rfl)|(exact fun _ _ _ _ _ _ us g=>match us,g with|[_,_,_,_,_],_=>rfl)|(exact fun _ _ _ _ _ _ us g=>match us,g with|[],_=>rfl)) :
  Fn (kH w.params) mg (Str.ofString n) (top i) ps f (fnOf (Str.ofString n) (Str.ofString n) (HM (top i)) (EO (top i)) (AO (top i)) .none .none .none (.str (Str.ofString m) t) none (.ref c) .none) :=
 ⟨Zj g T B,(Zj (st:=top i) g T B).binds U,mg_of X G ha⟩
set_option maxHeartbeats 4000000 in
def qy(w:World)(mg:sD)(fa:AD)(h:Heap)(X:(kH w.params).In h)(G:h.Ns mainGlobals mg)(hfa:mg "law" = some (.ref fa)):∃fd:FuncData,(∀(s:SD) (v:VL),BindsTo s fd ⟨[v],[]⟩ [("_law_script",v)])/\∀base:Heap,(kH w.params).In base->base.Ns mainGlobals mg->AK B5.prog w (kH w.params) mg base AZ 24 fa fd ["_law_script"] (Y7 (kH w.params)):=by
 have e:=hfa.symm.trans (mg_of X G (v:=.ref 409) (by kernel_rfl));cases e;have Cm:=fnX X G "fraction_of" 6 "stepgrove.fracs" 255 69 70 ["top","bottom"];have IU:=fnX X G "frac_times" 7 "stepgrove.fracs" 255 76 77 ["one","other"];have EZ:=fnX X G "is_fraction" 8 "stepgrove.fracs" 255 83 84 ["thing"];have Dc:=fnX X G "are_fractions" 9 "stepgrove.fracs" 255 90 91 ["thing"];have Fc:=fnX X G "is_whole" 10 "stepgrove.fracs" 255 97 98 ["thing"];have BI:=fnX X G "greatest_divisor" 11 "stepgrove.fracs" 255 104 105 ["one","other"];have Cy:=fnX X G "common_bottom" 12 "stepgrove.fracs" 255 111 112 ["bottoms"];have Iu:=fnX X G "frac_total" 13 "stepgrove.fracs" 255 116 117 ["some"];have KW:=fnX X G "power_of" 14 "stepgrove.fracs" 255 123 124 ["base","power"];have KQ:=fnX X G "is_table" 17 "stepgrove.tables" 333 130 131 ["thing"];have Ct:=fnX X G "refuse_no_table" 18 "stepgrove.tables" 333 137 138 ["thing"];have KO:=fnX X G "are_rows" 19 "stepgrove.tables" 333 144 145 ["thing"];have Dy:=fnX X G "trees_of" 22 "stepgrove.trees" 360 151 152 ["many"];have GF:=fnX X G "trees_to" 23 "stepgrove.trees" 360 158 159 ["most"];have C7:=fnX X G "in_falling_order" 24 "stepgrove.trees" 360 165 166 ["boughs"];have BJ:=fnX X G "knots_within" 25 "stepgrove.trees" 360 170 171 ["tree"];have BQ:=fnX X G "density_within" 26 "stepgrove.trees" 360 177 178 ["tree"];have Cj:=fnX X G "parents_within" 27 "stepgrove.trees" 360 182 183 ["tree"];have CJ:=fnX X G "trees_one_larger" 28 "stepgrove.trees" 360 189 190 ["tree"];have Jh:=fnX X G "tops_over" 30 "stepgrove.wholes" 423 194 195 ["some","bottom"];have HH:=fnX X G "table_bottom" 31 "stepgrove.wholes" 423 199 200 ["table"];have HV:=fnX X G "true_weights" 33 "stepgrove.weights" 437 204 205 ["trees"];have CI:=fnX X G "weights_under" 34 "stepgrove.weights" 437 209 210 ["table","trees"];have FP:=fnX X G "readings" 35 "stepgrove.weights" 437 214 215 ["rows","tree","known"];have Js:=fnX X G "read_by" 36 "stepgrove.weights" 437 219 220 ["row","shares"];have C4:=fnX X G "table_order" 39 "stepgrove.orders" 463 226 227 ["table"];have HG:=fnX X G "first_unlike" 40 "stepgrove.orders" 463 233 234 ["trees","one","other"];have EV:=fnX X G "order_paper" 43 "stepgrove.judging" 489 240 241 ["table"];have EY:=fnX X G "judge_paper" 44 "stepgrove.judging" 489 247 248 ["table","paper"];have CZ:=fnX X G "refuse_no_judging" 45 "stepgrove.judging" 489 254 255 ["table"];have HN:=fnX X G "lines_of" 46 "stepgrove.judging" 489 261 262 ["table","trees"];have GC:=fnX X G "are_true_lines" 47 "stepgrove.judging" 489 268 269 ["table","trees","lines"];have JA:=fnX X G "is_due_odd" 48 "stepgrove.judging" 489 275 276 ["table","order","odd"];have G5:=fnX X G "is_line" 49 "stepgrove.judging" 489 282 283 ["thing","trees"];have DZ:=fnX X G "walked_weight" 50 "stepgrove.judging" 489 287 288 ["table","tree"];have Dx:=fnX X G "_law_cell" 52 "law_stepgrove_k54_papers_of_tables" 560 294 295 ["_law_script","_law_k"];have Hh:=fnX X G "_law_take" 53 "law_stepgrove_k54_papers_of_tables" 560 301 302 ["_law_pile","_law_size"]
 have Ho:=fnX X G "_law_shared" 54 "law_stepgrove_k54_papers_of_tables" 560 308 309 ["_law_one","_law_other"];have DK:=fnX X G "_law_frac" 55 "law_stepgrove_k54_papers_of_tables" 560 315 316 ["_law_top","_law_bottom"];have Ei:=fnX X G "_law_plus" 56 "law_stepgrove_k54_papers_of_tables" 560 322 323 ["_law_one","_law_other"];have FW:=fnX X G "_law_by" 57 "law_stepgrove_k54_papers_of_tables" 560 329 330 ["_law_one","_law_other"];have Ek:=fnX X G "_law_part" 58 "law_stepgrove_k54_papers_of_tables" 560 336 337 ["_law_pile"];have JE:=fnX X G "_law_table" 59 "law_stepgrove_k54_papers_of_tables" 560 341 342 ["_law_script","_law_start","_law_most"];have JC:=fnX X G "_law_known" 60 "law_stepgrove_k54_papers_of_tables" 560 348 349 ["_law_which"];have Hy:=fnX X G "_law_tables" 61 "law_stepgrove_k54_papers_of_tables" 560 355 356 ["_law_script","_law_start"];have Ip:=fnX X G "_law_trees" 62 "law_stepgrove_k54_papers_of_tables" 560 360 361 ["_law_most"];have DY:=fnX X G "_law_knots" 63 "law_stepgrove_k54_papers_of_tables" 560 365 366 ["_law_tree"];have C8:=fnX X G "_law_density" 64 "law_stepgrove_k54_papers_of_tables" 560 372 373 ["_law_tree"];have Eo:=fnX X G "_law_seen" 65 "law_stepgrove_k54_papers_of_tables" 560 379 380 ["_law_rows","_law_tree","_law_row"];have GL:=fnX X G "_law_weight" 66 "law_stepgrove_k54_papers_of_tables" 560 386 387 ["_law_table_here","_law_tree"];have Hn:=fnX X G "_law_true" 67 "law_stepgrove_k54_papers_of_tables" 560 393 394 ["_law_tree"];have Ck:=fnX X G "_law_same" 68 "law_stepgrove_k54_papers_of_tables" 560 398 399 ["_law_found","_law_due_here"];have HP:=fnX X G "_law_due" 69 "law_stepgrove_k54_papers_of_tables" 560 403 404 ["_law_table_here"];have oo:=fnX X G "law" 70 "law_stepgrove_k54_papers_of_tables" 560 408 409 ["_law_script"];have T:mg "len" = none:=mg_none_of X G (by kernel_rfl);have B1:mg "range" = none:=mg_none_of X G (by kernel_rfl);have M1:mg "abs" = none:=mg_none_of X G (by kernel_rfl);have U:mg "isinstance" = none:=mg_none_of X G (by kernel_rfl);have NB:mg "int" = none:=mg_none_of X G (by kernel_rfl);have Kw:mg "bool" = none:=mg_none_of X G (by kernel_rfl);have CT:mg "tuple" = none:=mg_none_of X G (by kernel_rfl);have Z:mg "list" = none:=mg_none_of X G (by kernel_rfl);have Be:mg "enumerate" = none:=mg_none_of X G (by kernel_rfl);have FA:mg "sum" = none:=mg_none_of X G (by kernel_rfl);have Y:mg "zip" = none:=mg_none_of X G (by kernel_rfl);have Fh:mg "sorted" = none:=mg_none_of X G (by kernel_rfl);have YE:mg "set" = none:=mg_none_of X G (by kernel_rfl);have rF:mg "dict" = none:=mg_none_of X G (by kernel_rfl);have UU:mg "all" = none:=mg_none_of X G (by kernel_rfl);have a_MR:nsIn (kH w.params) mainGlobals "MOST_ROWS" = some (some (.int 40 335)):=by kernel_rfl
 have a_MK:nsIn (kH w.params) mainGlobals "MOST_KNOTS" = some (some (.int 7 362)):=by kernel_rfl
 have a_MO:nsIn (kH w.params) mainGlobals "MOST_ORDER" = some (some (.int 6 465)):=by kernel_rfl
 have a_MJ:nsIn (kH w.params) mainGlobals "MOST_JUDGED_ROWS" = some (some (.int 5 491)):=by kernel_rfl
 have hK:UM (kH w.params)=true:=by kernel_rfl
 refine⟨fnOf (Str.ofString "law") (Str.ofString "law") (HM (top 70)) (EO (top 70)) (AO (top 70)) .none .none .none (.str (Str.ofString "law_stepgrove_k54_papers_of_tables") 560) none (.ref 408) .none,fun s v=>.of_eq rfl,fun base _ _=>?_⟩;have MJ:=PySem.W.mg_of X G a_MR;have Fs:=PySem.W.mg_of X G a_MK;have C1:=PySem.W.mg_of X G a_MO;have Gw:=PySem.W.mg_of X G a_MJ;have Yy:=N1 (P:=B5.prog) (w:=w) (base:=base) BI M1;have cj:=Sz Cm BI Yy;have qB:=PQ Cy BI Yy;have qj:=Rf HH Cy qB;have qW:=Uu (P:=B5.prog) (w:=w) (base:=base) Jh;have qI:=WU (P:=B5.prog) (w:=w) (base:=base) KW;have qN:=Y2 (P:=B5.prog) (w:=w) (base:=base) Js FA Y;have qu:=P6 pP FP Js qN T Y 8;have qZ:=oy (L1 (P:=B5.prog) (w:=w) (base:=base) BJ FA 8);have qk:=Qk pP CI HH Jh FP KW BJ Cm (qj.mono) (qW.mono) (qu.mono) (qI.mono) (qZ.mono) (cj.mono);have Cb:=qd qk;have Bx:=qK Yy;have LJ:=toT (UD IU Cm cj);have pk:=UL Iu Cy Cm (QL Cy BI Yy) (cj.mono) FA;have LR:=nk pk;have qa:=SF (P:=B5.prog) (w:=w) (base:=base) Ho M1;have lI:=VN DK Ho qa;have Em:=qt lI;have qC:=V3 (P:=B5.prog) (w:=w) (base:=base) Hh;have lB:=VU Ek Hh DK (qC.mono) lI;have kQ:=Vd (P:=B5.prog) (w:=w) (base:=base) Dx T B1;have qo:=SG JE Dx Ek (kQ.mono) lB B1;have GJ:=Wl (P:=B5.prog) (w:=w) (base:=base) (k:=0) Fc Kw NB U;have FI:=Sk (P:=B5.prog) (w:=w) (base:=base) (k:=1) EZ BI (Bx.mono) Fc (GJ.mono) U T CT;have EU:=Qh (P:=B5.prog) (w:=w) (base:=base) (k:=2) Dc EZ (FI.mono) U Z;have NH:=Wk (P:=B5.prog) (w:=w) (base:=base) (k:=3) KO Dc (EU.mono) Be U T Z MJ;have NG:=Wd (P:=B5.prog) (w:=w) (base:=base) (k:=4) KQ Dc (EU.mono) KO (NH.mono) U T CT;have De:=OO (P:=B5.prog) (w:=w) (base:=base) (k:=5) Ct KQ (NG.mono);have Cz:=NU (P:=B5.prog) (w:=w) (base:=base) (k:=6) CZ Ct (De.mono) T Gw;have Bw:=L4 (P:=B5.prog) (w:=w) (base:=base) (k:=0) BJ FA 9;have Bp:=KN (P:=B5.prog) (w:=w) (base:=base) (k:=10) BQ BJ (Bw.mono) 9;have Ce:=N2 (P:=B5.prog) (w:=w) (base:=base) (k:=0) C7 Fh CT;have EG:=JG (P:=B5.prog) (w:=w) (base:=base) (k:=1) CJ C7 (Ce.mono) Be 9;have Eb:=Wf (P:=B5.prog) (w:=w) (base:=base) (k:=11) Dy CJ (EG.mono) B1 YE Fh Fs;have HK:=Wn (P:=B5.prog) (w:=w) (base:=base) (k:=12) GF Dy (Eb.mono) B1 Fs;have JQ:=Qq (P:=B5.prog) (w:=w) (base:=base) (k:=20) HV BQ (Bp.mono);have JT:=Rp (P:=B5.prog) (w:=w) (base:=base) (k:=0) HG Y;have Dg:=Sv (P:=B5.prog) (w:=w) (base:=base) (k:=21) C4 HG (JT.mono) Ct (De.mono) Dy (Eb.mono) HV (JQ.mono) CI (Cb.mono) B1 C1;have NP:=We (P:=B5.prog) (w:=w) (base:=base) (k:=12) HN CI (Cb.mono) Z Y;have B:=WW (k:=12) HN CI (Cb.mono) Z Y;have g:=SX (k:=22) EV HN (NP.mono) (B.mono) CZ (Cz.mono) C4 (Dg.mono) GF (HK.mono);have Ew:=KH (P:=B5.prog) (w:=w) (base:=base) (k:=0) Cj T 9;have EM:=QF (P:=B5.prog) (w:=w) (base:=base) (k:=10) DZ IU (LJ.mono) Iu (LR.mono) Cj (Ew.mono) Be;have IM:=YW (P:=B5.prog) (w:=w) (base:=base) (k:=2) G5 EZ (FI.mono) U T CT;have IE:=PN (P:=B5.prog) (w:=w) (base:=base) (k:=20) GC BQ (Bp.mono) G5 (IM.mono) DZ (EM.mono) U T Z Y;have LU:=UH (P:=B5.prog) (w:=w) (base:=base) (k:=20) JA BQ (Bp.mono) G5 (IM.mono) Dy (Eb.mono) DZ (EM.mono) C1
 have FJ:=SR (P:=B5.prog) (w:=w) (base:=base) (k:=21) EY GC (IE.mono) JA (LU.mono) Fc (GJ.mono) CZ (Cz.mono) GF (HK.mono) U T CT C1;have Kx:=T7 (P:=B5.prog) (w:=w) (base:=base) (k:=0) JC;have Jz:=Si Hy Dx JC Ek JE (kQ.mono) ((cZ Kx).mono) (lB.mono) (qo.mono) T;have D9:=Uk (P:=B5.prog) (w:=w) (base:=base) (k:=2) Ei DK (Em.mono);have El:=YX (P:=B5.prog) (w:=w) (base:=base) (k:=2) FW DK (Em.mono);have Kq:=UC (P:=B5.prog) (w:=w) (base:=base) (k:=0) Ip B1 Fh;have EF:=Nh (P:=B5.prog) (w:=w) (base:=base) (k:=0) DY FA 9;have F6:=Lu (P:=B5.prog) (w:=w) (base:=base) (k:=10) C8 DY (EF.mono) 9;have Hi:=OP (P:=B5.prog) (w:=w) (base:=base) (k:=3) Eo FW (El.mono) Ei (D9.mono) Be 9;have Hu:=Sa (P:=B5.prog) (w:=w) (base:=base) (k:=13) GL FW (El.mono) Ei (D9.mono) Eo (Hi.mono) Be;have Jc:=VR (P:=B5.prog) (w:=w) (base:=base) (k:=20) Hn C8 (F6.mono);have Ic:=WZ (P:=B5.prog) (w:=w) (base:=base) (k:=21) HP Ip (Kq.mono) Hn (Jc.mono) GL (Hu.mono) B1;have D8:=Oh (P:=B5.prog) (w:=w) (base:=base) (k:=0) Ck UU Kw NB U T Z CT Y 9;exact mi (k:=23) hK oo Hy HP Ck EY EV C4 (Jz.mono) (Ic.mono) (D8.mono) (FJ.mono) (g.mono) (Dg.mono) Z
def walkX:WalkO qX [] (XL qX []) hX.says B5.row.toRowW dX [] (fun f vs=>PySem.call f vs) :=
 L2.iq (l:=B5) (n:=63) (k:=24) (x := "_law_script") (CX:=fun _=>AZ) (K:=kH) (sp:=fun w=>Y7 (kH w.params)) rfl (by decide) rfl ⟨rfl,by decide,by decide⟩ (fun w h Y=>kIn_of Y) qy (fun _ _ a ns g _ B=>⟨a,ns,rfl,B,g,fun _=>rfl⟩) fun _ _ _ _ _ z=>z
end
end Q54
open PySem PySem.W PyProof.Rows
set_option maxRecDepth 100000 in
theorem PySem.Challenge.cw_stepgrove_k54_papers_of_tables_holds : PySem.Challenge.rw_stepgrove_k54_papers_of_tables.Holds := by
  refine Q54.openX ?hw Q54.walkX
  w_witness2
#print axioms PySem.Challenge.cw_stepgrove_k54_papers_of_tables_holds
