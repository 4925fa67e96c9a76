import PyProof.Rows.All
import Wide.All
import OpenK.AllK
import Wide.FinOn
import Lean
import PyProof.EqAt
import PyProof.EqKinds
import PyProof.TupleCall
import PySem.Challenge.RW_stepgrove_k40_weighings
set_option Elab.async false
set_option linter.all false
set_option maxRecDepth 100000
abbrev MD:=List PySem.PyData->Option PySem.PyData
abbrev Fg:=PySem.W.Frag
abbrev Wb:=@PySem.wpAny_bind
abbrev PD:=PySem.PyData
abbrev SD:=PySem.Shared
abbrev VL:=PySem.Value
abbrev AD:=PySem.Addr
abbrev aA:=@PySem.wpAny_pure
abbrev aB:=@Option.bind_eq_some_iff
abbrev aC:=@Option.map_eq_some_iff
abbrev aD:=@PySem.Heap.get?_push_of_some
abbrev aE:=@PyProof.Rows.wpS_bind
abbrev aF:=@PySem.Heap.lt_size
abbrev aG:=@List.getElem?_eq_some_iff
abbrev aH:=@Nat.le_refl
abbrev aI:=@Bool.false_ne_true
abbrev aJ:=@PyProof.Rows.wpS_pure
abbrev aK:=@Nat.ne_of_lt
abbrev aL:=@Nat.lt_of_lt_of_le
abbrev aM:=@List.mem_cons
abbrev aN:=@List.getElem?_eq_getElem
abbrev aO:=@List.mem_cons_of_mem
abbrev aP:=@PySem.Heap.get?_push_size
abbrev aQ:=@PySem.PassesOwn.never
abbrev aR:=@Nat.le_trans
abbrev aS:=@List.mem_cons_self
abbrev aT:=@List.mem_map
abbrev aU:=@PySem.wpAny_mono
abbrev aV:=@PySem.wpAny_holding
abbrev aW:=@List.mem_of_getElem?
abbrev aX:=@PySem.wpAny_call_entry
abbrev aY:=@List.mem_append_right
abbrev aZ:=@PySem.boot_len
abbrev aa:=@PySem.F.plainAttrs_list
abbrev ae:=@PySem.Heap.SameBut.update
abbrev af:=@Option.some.inj
abbrev ag:=@PySem.wpAny_callSpecial?_slot
abbrev ah:=@PySem.wpAny_newObj_type
abbrev ai:=@Nat.lt_of_le_of_lt
abbrev aj:=@Nat.zero_le
abbrev ak:=@Nat.not_lt_zero
abbrev ao:=@Nat.mul_le_mul_left
abbrev aq:=@PySem.wpAny_rule
abbrev ar:=@PySem.W.kia_one
abbrev au:=@List.eq_nil_of_length_eq_zero
abbrev av:=@Nat.lt_succ_of_lt
abbrev aw:=@of_decide_eq_true
abbrev ax:=@PySem.wpAny_setState_of
abbrev ay:=@Nat.le_of_lt
abbrev az:=@PySem.F.slot_list_append
abbrev bA:=@PySem.F.type_list_append
abbrev bC:=@PySem.wpAny_field
abbrev bD:=@PyProof.Rows.callWith_type1
abbrev bE:=@PySem.wpAny_seqItems
abbrev bF:=@decide_eq_false
abbrev bG:=@Nat.pow_le_pow_right
abbrev bH:=@PyProof.Rows.boot_tuple
abbrev bI:=@congrArg
abbrev bJ:=@PyProof.Rows.wpS_modify
abbrev bK:=@Nat.lt_succ_self
abbrev bL:=@of_decide_eq_false
abbrev bM:=@PyProof.Rows.KeyOrd.kle_refl
abbrev bN:=@List.length_map
abbrev bO:=@Bool.eq_false_iff
abbrev bP:=@List.size_toArray
abbrev bQ:=@List.mem_range
abbrev bR:=@PyProof.Rows.boot_list
abbrev bS:=@List.mem_append
abbrev bT:=@PySem.W.mg_of
set_option maxHeartbeats 0
abbrev RW:=List PD->Option (List PD)
abbrev rO:=Option (List PD)
abbrev rS:=List PD
abbrev rT:=List VL
abbrev rV:=VL->SD->Prop
abbrev rW:=PySem.Str->Option VL
abbrev rX:=Option PD
abbrev rZ:=Array Nat
abbrev rd:=List Int
abbrev rf:=List PySem.Str
abbrev rg:=List PySem.Expr
abbrev rj:=Option Int
abbrev rk:=List Nat
abbrev rp:=List Rat
abbrev sC:=List AD
abbrev sD:=List PySem.Stmt
abbrev sE:=List PySem.Env
abbrev sF:=List (Option Nat)
namespace L2
open PySem PySem.Spec PyProof.Rows
abbrev Key:=Sum Int Str
def fD:Key->VL->Bool
 |.inl k,v=>Value.isInt k v
 |.inr x,v=>Value.isStrOf x v
def pR(w:World):Key->Int
 |.inl k=>hashInt k
 |.inr x=>hashStr w x
def DQ:∀ {k:Key} {v:VL},fD k v=true->(∃i t,k=Sum.inl i/\v=Value.int i t)\/(∃x t,k=Sum.inr x/\v=Value.str x t)
 |.inl i,v,h=>by
  obtain⟨t,e⟩:=Value.isInt_shape (k:=i) (v:=v) h;exact .inl ⟨i,t,rfl,e⟩
 |.inr x,v,h=>by
  obtain⟨t,e⟩:=Value.isStrOf_shape (x:=x) (v:=v) h;exact .inr ⟨x,t,rfl,e⟩
def jK(a b:Int):decide ((Sum.inl a:Key)=Sum.inl b)=(a==b):=by
 by_cases e:a=b
 .subst e;simp
 .have h:¬(Sum.inl a:Key)=Sum.inl b:=fun q=>e (Sum.inl.inj q);rw[decide_eq_false h];exact(beq_eq_false_iff_ne.mpr e).symm
def ly(a b:Str):decide ((Sum.inr a:Key)=Sum.inr b)=decide (a=b):=by
 by_cases e:a=b
 .subst e;simp
 .have h:¬(Sum.inr a:Key)=Sum.inr b:=fun q=>e (Sum.inr.inj q);rw[decide_eq_false h,decide_eq_false e]
def lY(a:Int)(b:Str):decide ((Sum.inl a:Key)=Sum.inr b)=false:=bF (fun q=>nomatch q)
def lF(a:Str)(b:Int):decide ((Sum.inr a:Key)=Sum.inl b)=false:=bF (fun q=>nomatch q)
def WJ(prog:Program)(w:World):PySem.KeyKind prog w Key where
 is:=fD
 hash:=pR w
 inj:=fun v a b ha hb=>by
  rcases DQ ha with ⟨i,t,rfl,rfl⟩|⟨x,t,rfl,rfl⟩
  .rcases DQ hb with ⟨j,u,rfl,e⟩|⟨y,u,rfl,e⟩
   .injection e with e1 _;rw[e1]
   .exact nomatch e
  .rcases DQ hb with ⟨j,u,rfl,e⟩|⟨y,u,rfl,e⟩
   .exact nomatch e
   .injection e with e1 _;rw[e1]
 byValue:=fun k v h=>by
  rcases DQ h with ⟨i,t,rfl,rfl⟩|⟨x,t,rfl,rfl⟩<;>rfl
 pyHash:=fun hv h=>by
  rcases DQ hv with ⟨i,t,rfl,rfl⟩|⟨x,t,rfl,rfl⟩
  .exact wpAny_pyHash_int h
  .exact wpAny_pyHash_str h
 eqBool:=fun hu hv h=>by
  rcases DQ hu with ⟨i,t,rfl,rfl⟩|⟨x,t,rfl,rfl⟩
  .rcases DQ hv with ⟨j,u,rfl,rfl⟩|⟨y,u,rfl,rfl⟩
   .rw[jK]at h;exact wpAny_eqBool_int h
   .rw[lY]at h;exact SeqAt.EqAt.int_str i t y u _ _ _ _ h
  .rcases DQ hv with ⟨j,u,rfl,rfl⟩|⟨y,u,rfl,rfl⟩
   .rw[lF]at h;exact SeqAt.EqAt.str_int x t j u _ _ _ _ h
   .rw[ly]at h;exact wpAny_eqBool_str h
 «strs»:=fun k x t v h=>by
  rcases DQ h with ⟨i,u,rfl,e⟩|⟨y,u,rfl,e⟩
  .exact nomatch e
  .injection e with e1 _
   subst e1;cases v<;>rfl
inductive V where
 |BP|bl (b:Bool)|int (i:Int)|str (x:Str)|Nb (b:Array UInt8)|WM (b:UInt64)|ref (a:Addr)|ty (n:String)
 deriving DecidableEq
abbrev rq:=List V
def RelV:V->VL->Prop
 |.BP,u=>u=Value.none
 |.bl b,u=>u=Value.bool b
 |.int i,u=>∃t,u=Value.int i t
 |.str x,u=>∃t,u=Value.str x t
 |.Nb b,u=>∃t,u=Value.bytes b t
 |.WM b,u=>∃t,u=Value.float b t
 |.ref a,u=>u=Value.ref a
 |.ty n,u=>u=Value.type n
abbrev Vals:List V->List VL->Prop:=Paired RelV
def Vals.length{xs:rq}{us:rT}(r:Vals xs us):xs.length=us.length:=Paired.length r
def Vals.get:∀ {xs:List V} {us:List VL} {i:Nat} {x:V},Vals xs us->xs[i]? = some x->∃u,us[i]? = some u/\RelV x u
 |_,_,_,_,.nil,e=>by simp at e
 |_,_,0,_,.cons r _,e=>by simp at e;subst e;exact⟨_,rfl,r⟩
 |_,_,i+1,x,.cons _ t,e=>by
  obtain⟨u,I,g⟩:=Vals.get (i:=i) (x:=x) t (by simpa using e);exact⟨u,by simpa using I,g⟩
def Vals.set{x:V}{u:VL}(r:RelV x u):∀ {xs:List V} {us:List VL} (i:Nat),Vals xs us->Vals (xs.set i x) (us.set i u)
 |_,_,_,.nil=>.nil
 |_,_,0,.cons _ t=>.cons r t
 |_,_,i+1,.cons q t=>.cons q (Vals.set r i t)
def Vals.append:∀ {xs ys:List V} {us g:List VL},Vals xs us->Vals ys g->Vals (xs++ys) (us++g)
 |_,_,_,_,.nil,s=>s
 |_,_,_,_,.cons r t,s=>.cons r (Vals.append t s)
def Vals.take:∀ {xs:List V} {us:List VL} (n:Nat),Vals xs us->Vals (xs.take n) (us.take n)
 |_,_,0,_=>.nil
 |_,_,_+1,.nil=>.nil
 |_,_,n+1,.cons r t=>.cons r (Vals.take n t)
def Vals.drop:∀ {xs:List V} {us:List VL} (n:Nat),Vals xs us->Vals (xs.drop n) (us.drop n)
 |_,_,0,r=>r
 |_,_,_+1,.nil=>.nil
 |_,_,n+1,.cons _ t=>Vals.drop n t
def cm:Option V->Option VL->Prop
 |some v,some u=>RelV v u
 |none,none=>True
 |_,_=>False
def KV{g:Type}:List (g×V)->List (g×VL)->Prop:=Paired fun(p:g×V) (q:g×VL)=>p.1=q.1/\RelV p.2 q.2
def kV:Key->V
 |.inl i=>.int i
 |.inr x=>.str x
inductive HO where
 |lst (xs:List V)
 |tup (xs:List V)
 |dK (kvs:List (Key×V))|dT (kvs:List (List Key×V))
 |set (S:Int->Bool) (n:Nat)
 |ins (C dx:Addr) (fs:List (Str×V))
 |own (x:Addr)
 |xd (fs:List (Str×V))
 |met (f x:Addr)
 |fT (lo hi:Int)
 |Fv (o:Obj) (u:HO)
 |Ow (ps:Array Value)
 |ext (φ:Heap->Prop)
abbrev Hp:=AD->Option HO
def upd(H:Hp)(a:AD)(o:HO):Hp:=fun b=>if b=a then some o else H b
def AN{H:Hp}{a:AD}{o:HO}:upd H a o a=some o:=by unfold upd;rw[if_pos rfl]
def AL{H:Hp}{a b:AD}{o:HO}(h:b≠a):upd H a o b=H b:=by unfold upd;rw[if_neg h]
def Xz{H:Hp}{a b:AD}{o u:HO}(h:H a=some o)(h':H b=some u)(d:o≠u):a≠b:=by
 intro e;subst e;rw[h]at h';exact d (af h')
def AU{H:Hp}{a b:AD}{o:HO}(h:H a=some o)(h':H b=none):a≠b:=by
 intro e;subst e;rw[h]at h';cases h'
section
variable(P:Program)(w:World)
def CK(H:Hp)(h:Heap)(a:AD):HO->Prop
 |.lst xs=>xs.length<=sizeLine/\∃(g:List VL) (n:Nat),Vals xs g/\h.get? a=some { cls:=.type "list",data:=.seq g.toArray n}
 |.tup xs=>xs.length<=sizeLine/\∃g:List VL,Vals xs g/\IsTup h a g.toArray
 |.dK kvs=>kvs.length<=sizeLine/\(a==sysModules)=false/\∃vs,KV kvs vs/\h.DictOf (WJ P w) a vs
 |.dT kvs=>kvs.length<=sizeLine/\(a==sysModules)=false/\∃xs:List (List Key×AD×VL),
   Paired (fun(p:List Key×V) (q:List Key×AD×VL)=>p.1=q.1/\H q.2.1=some (.tup (p.1.map kV))/\RelV p.2 q.2.2) kvs xs /\
   ∃o es ep,h.get? a=some o/\o.ExactDict/\o.data=.dict es ep/\es.toList=xs.map (entryOfKey (tupleKind (WJ P w)))/\(xs.map (·.1)).Nodup
 |.set S n=>h.SetOf (intKind P w) a S n
 |.ins C dx fs=>H dx=some (.own a)/\fs.length<=1000/\dx≠a/\h.get? a=some (PySem.W.instObj C dx) /\
   ∃mA,h.Ns1 dx mA/\(∀f,cm (fs.lookup f) (mA f))/\PySem.Within mA (fs.map (·.1))
 |.own _=>∃o,h.get? a=some o
 |.xd fs=>∃mA,h.Ns1 a mA/\∀f,cm (fs.lookup f) (mA f)
 |.fT lo hi=>∃t u v,h.get? a=some { cls:=.type "range",data:=.fields #[.int lo t,.int hi u,.int 1 v]}
 |.Fv o u=>h.get? a=some o/\CK H h a u
 |.Ow ps=>h.get? a=some { cls:=.none,data:=.fields ps}
 |.met f x=>h.get? a=some (PySem.W.methodObj (.ref f) (.ref x))
 |.ext φ=>φ h/\(∃o,h.get? a=some o)/\∀O I:Heap,φ O->(∀o,O.get? a=some o->I.get? a=some o)->φ I
def Ei(H:Hp)(h:Heap):Prop:=∀a o,H a=some o->CK P w H h a o
end
section
variable{P:Program}{w:World}{H H':Hp}{h h':Heap}{a:AD}{o:HO}
def CK.lt(x:CK P w H h a o):a<h.objs.size:=by
 cases o with
 |lst xs=>obtain⟨_,_,_,_,e⟩:=x;exact aF e
 |tup xs=>obtain⟨_,_,_,p⟩:=x;exact p.lt
 |dK kvs=>obtain⟨_,_,_,_,o,_,_,e,_⟩:=x;exact aF e
 |dT kvs=>obtain⟨_,_,_,_,o,_,_,e,_⟩:=x;exact aF e
 |set S n=>obtain⟨o,_,_,_,e,_⟩:=x;exact aF e
 |ins C dx fs=>obtain⟨_,_,_,e,_⟩:=x;exact aF e
 |own y=>obtain⟨_,e⟩:=x;exact aF e
 |xd fs=>obtain⟨_,⟨_,_,_,e,_⟩,_⟩:=x;exact aF e
 |fT lo hi=>obtain⟨_,_,_,e⟩:=x;exact aF e
 |Fv ob u=>obtain⟨e,_⟩:=x;exact aF e
 |Ow ps=>exact aF (show h.get? a=some _ from x)
 |met f y=>exact aF (show h.get? a=some _ from x)
 |ext φ=>obtain⟨_,⟨_,e⟩,_⟩:=x;exact aF e
def Paired.kN{I g:Type}{F G:I->g->Prop}:∀ {l₁:List I} {l₂:List g},Paired F l₁ l₂->(∀a b,F a b->G a b)->Paired G l₁ l₂
 |_,_,.nil,_=>.nil
 |_,_,.cons r t,f=>.cons (f _ _ r) (Paired.kN t f)
def CK.Hx(x:CK P w H h a o)(k:∀b u,(b=a\/H b=some (.own a))->h.get? b=some u->h'.get? b=some u) (R:∀b,H b=some (.own a)->H' b=some (.own a))(O:∀b xs,H b=some (.tup xs)->H' b=some (.tup xs)):CK P w H' h' a o:=by
 induction o with
 |lst xs=>obtain⟨z,g,n,r,e⟩:=x;exact⟨z,g,n,r,k _ _ (.inl rfl) e⟩
 |tup xs=>obtain⟨z,g,r,ob,e,c⟩:=x;exact⟨z,g,r,ob,k _ _ (.inl rfl) e,c⟩
 |dK kvs=>obtain⟨z,y,vs,r,ob,es,ep,e,c⟩:=x;exact⟨z,y,vs,r,ob,es,ep,k _ _ (.inl rfl) e,c⟩
 |dT kvs=>
  obtain⟨z,y,xs,r,ob,es,ep,e,c⟩:=x;exact⟨z,y,xs,Paired.kN r fun p q z=>⟨z.1,O _ _ z.2.1,z.2.2⟩,ob,es,ep,k _ _ (.inl rfl) e,c⟩
 |set S n=>obtain⟨ob,es,ep,t,e,c⟩:=x;exact⟨ob,es,ep,t,k _ _ (.inl rfl) e,c⟩
 |ins C dx fs=>
  obtain⟨d,z,ne,e,mA,⟨od,es,ep,T,c⟩,r⟩:=x;exact⟨R _ d,z,ne,k _ _ (.inl rfl) e,mA,⟨od,es,ep,k _ _ (.inr d) T,c⟩,r⟩
 |own y=>obtain⟨ob,e⟩:=x;exact⟨ob,k _ _ (.inl rfl) e⟩
 |xd fs=>obtain⟨mA,⟨od,es,ep,e,c⟩,r⟩:=x;exact⟨mA,⟨od,es,ep,k _ _ (.inl rfl) e,c⟩,r⟩
 |fT lo hi=>obtain⟨t,u,v,e⟩:=x;exact⟨t,u,v,k _ _ (.inl rfl) e⟩
 |Fv ob u I=>obtain⟨e,q⟩:=x;exact⟨k _ _ (.inl rfl) e,I q⟩
 |Ow ps=>
  have e:h.get? a=some { cls:=.none,data:=.fields ps}:=x;show h'.get? a=some { cls:=.none,data:=.fields ps};exact k a _ (.inl rfl) e
 |met f y=>
  have e:h.get? a=some (PySem.W.methodObj (.ref f) (.ref y)):=x;show h'.get? a=some (PySem.W.methodObj (.ref f) (.ref y));exact k a _ (.inl rfl) e
 |ext φ=>obtain⟨p,⟨o,e⟩,st⟩:=x;exact⟨st _ _ p fun o q=>k _ _ (.inl rfl) q,⟨o,k _ _ (.inl rfl) e⟩,st⟩
def Ei.lt(x:Ei P w H h)(e:H a=some o):a<h.objs.size:=(x a o e).lt
def Ei.fresh(x:Ei P w H h)(e:h.objs.size<=a):H a=none:=by
 cases q:H a with
 |none=>rfl
 |some u=>exact absurd (aL (x.lt q) e) (Nat.lt_irrefl _)
def Ei.kept(x:Ei P w H h)(k:∀b u,h.get? b=some u->h'.get? b=some u):Ei P w H h':=fun a o e=>
 (x a o e).Hx (fun b u _ q=>k b u q) (fun _ q=>q) fun _ _ q=>q
def Ei.laid(x:Ei P w H h)(k:∀b u,h.get? b=some u->h'.get? b=some u)(g:h.objs.size<=a)(new:CK P w (upd H a o) h' a o):Ei P w (upd H a o) h':=fun b u e=>by
 have hn:=x.fresh g;by_cases hb:b=a
 .subst hb;rw[AN]at e;cases e;exact new
 .rw[AL hb]at e;exact(x b u e).Hx (fun c v _ q=>k c v q) (fun c q=>by rw[AL (AU q hn)];exact q) fun c xs q=>by rw[AL (AU q hn)];exact q
end
def Rd(H:Hp)(a:AD)(u:HO):Prop:=H a=some u\/∃o,H a=some (.Fv o u)
def Rd.ok{P:Program}{w:World}{H:Hp}{h:Heap}{a:AD}{u:HO}(r:Rd H a u)(x:Ei P w H h):CK P w H h a u:=by
 rcases r with r|⟨o,r⟩
 .exact x a u r
 .obtain⟨_,q⟩:=x a _ r;exact q
def ef:Option HO->Prop
 |some (.lst _)=>True
 |some (.dK _)=>True
 |some (.dT _)=>True
 |some (.set _ _)=>True
 |some (.ins _ _ _)=>True
 |some (.ext _)=>True
 |_=>False
section
variable{P:Program}{w:World}{H:Hp}{h h':Heap}{x e:AD}{o':HO}
def Ei.write(ok:Ei P w H h)(O:ef (H x))(Y:e=x\/H e=some (.own x))(k:∀b u,b≠e->h.get? b=some u->h'.get? b=some u)(T:∃u,h'.get? e=some u) (new:CK P w (upd H x o') h' x o'):Ei P w (upd H x o') h':=fun b u q=>by
 have I:∀c y,H c=some (.own y)->c≠x:=fun c y r z=>by subst z;rw[r]at O;exact O
 have VX:∀c xs,H c=some (.tup xs)->c≠x:=fun c xs r z=>by subst z;rw[r]at O;exact O
 by_cases hb:b=x
 .subst hb;rw[AN]at q;cases q;exact new
 .rw[AL hb]at q;by_cases g:b=e
  .have U:H b=some (.own x):=by
    rcases Y with z|z
    .exact absurd (g.trans z) hb
    .rw[g];exact z
   rw[q]at U;cases U;obtain⟨v,Z⟩:=T;exact⟨v,by rw[g];exact Z⟩
  .refine(ok b u q).Hx (fun c v R r=>k c v ?_ r) (fun c r=>by rw[AL (I c b r)];exact r) fun c xs r=>by rw[AL (VX c xs r)];exact r
   rcases R with rfl|R
   .exact g
   .rintro rfl;rcases Y with z|z
    .exact I c b R z
    .rw[R]at z;cases z;exact hb rfl
end
structure Un(fs ex:List Addr)(H H':Hp)(h h':Heap):Prop where
 keep:∀b o,h.get? b=some o->H b=none->b ∉ fs->b ∉ ex->h'.get? b=some o
 slot:∀b o,h.get? b=some o->H b=none->b∈fs->b ∉ ex->∃sl,h'.get? b=some {o with slots:=sl}
 free:∀b o,h.get? b=some o->H b=none->b ∉ ex->H' b=none
 there:∀b o,h.get? b=some o->b ∉ ex->∃o',h'.get? b=some o'
 A0:∀b xs,H b=some (.tup xs)->H' b=some (.tup xs)
 Fw:∀b o u,H b=some (.Fv o u)->H' b=some (.Fv o u)
 GP:∀b ps,H b=some (.Ow ps)->∃more,H' b=some (.Ow (ps++more))
section
variable{fs ex:sC}{H H1:Hp}{h h1 h':Heap}{a x e:AD}{o:HO}
def Un.any(u:Un fs ex H H1 h h1){b:AD}{ob:Obj}(q:h.get? b=some ob)(n:H b=none)(g:b ∉ ex):∃sl,h1.get? b=some {ob with slots:=sl}:=by
 by_cases hb:b∈fs
 .exact u.slot b ob q n hb g
 .exact⟨ob.slots,u.keep b ob q n hb g⟩
def Un.kept(k:∀b u,h.get? b=some u->h'.get? b=some u):Un fs ex H H h h' :=
 ⟨fun b ob q _ _ _=>k b ob q,fun b ob q _ _ _=>⟨ob.slots,k b ob q⟩,fun _ _ _ n _=>n,fun b ob q _=>⟨ob,k b ob q⟩,fun _ _ q=>q,fun _ _ _ q=>q,fun _ ps q=>⟨#[],by rw[q];simp⟩⟩
def Un.refl:Un fs ex H H h h:=Un.kept fun _ _ q=>q
def Un.laid(k:∀b u,h.get? b=some u->h'.get? b=some u)(hp:h.objs.size<=a)(hn:H a=none):Un fs ex H (upd H a o) h h' where
 keep:=fun b u q _ _ _=>k b u q
 slot:=fun b u q _ _ _=>⟨u.slots,k b u q⟩
 free:=fun b u q n _=>by rw[AL (aK (aL (aF q) hp))];exact n
 there:=fun b u q _=>⟨u,k b u q⟩
 A0:=fun b xs q=>by rw[AL (AU q hn)];exact q
 Fw:=fun b u xs q=>by rw[AL (AU q hn)];exact q
 GP:=fun b ps q=>⟨#[],by rw[AL (AU q hn),q];simp⟩
def Un.write(I:ef (H x))(T:e=x\/H e=some (.own x))(k:∀b u,b≠e->h.get? b=some u->h'.get? b=some u)(O:∃u,h'.get? e=some u):Un fs ex H (upd H x o) h h':=by
 have R:∀b,H b=none->b≠x:=fun b n z=>by subst z;rw[n]at I;exact I
 have hb:∀b,H b=none->b≠e:=fun b n z=>by
  subst z;rcases T with r|r
  .exact R b n r
  .rw[n]at r;cases r
 have hm:∀b u,H b=some u->¬ef (some u)->b≠x:=fun b u q nm z=>by subst z;rw[q]at I;exact nm I
 refine⟨fun b u q n _ _=>k b u (hb b n) q,fun b u q n _ _=>⟨u.slots,k b u (hb b n) q⟩,fun b u q n _=>by rw[AL (R b n)];exact n,fun b u q _=>?_,
  fun b xs q=>by rw[AL (hm b _ q fun z=>z)];exact q,fun b u xs q=>by rw[AL (hm b _ q fun z=>z)];exact q,fun b ps q=>⟨#[],by rw[AL (hm b _ q fun z=>z),q];simp⟩⟩
 by_cases g:b=e
 .subst g;exact O
 .exact⟨u,k b u g q⟩
end
def Gy(h:Heap)(H:Hp):sC:=(List.range h.objs.size).filter fun a=>(H a).isSome
def MY(h:Heap)(H:Hp):Heap:=PySem.W.hideAll h (Gy h H)
def ZQ(h:Heap)(H:Hp):(MY h H).objs.size=h.objs.size:=PySem.W.hideAll_size _ _
def dy{h:Heap}{H:Hp}{b:AD}{o:Obj}(e:h.get? b=some o)(n:H b=none):(MY h H).get? b=some o :=
 PySem.W.hideAll_get _ e fun hm=>by
  have q:(H b).isSome=true:=(List.mem_filter.mp hm).2;rw[n]at q;simp at q
def gk{h:Heap}{H:Hp}{b:AD}{o:Obj}(e:(MY h H).get? b=some o):h.get? b=some o/\H b=none:=by
 have g:h.get? b=some o:=PySem.W.of_hideAll (Gy h H) e;refine⟨g,?_⟩;cases q:H b with
 |none=>rfl
 |some x=>
  have hm:b∈Gy h H:=List.mem_filter.mpr ⟨bQ.mpr (aF g),by simp[q]⟩;have z:(MY h H).get? b=none:=PySem.W.hideAll_none (Gy h H) hm;rw[z]at e;cases e
structure Mod(K:Fg)(mg:Str->Option Value)(base:Heap):Prop where
 Og:K.In base
 glob:base.Ns mainGlobals mg
 blt:∃mb,base.Ns builtinsNs mb/\∀x:Str,x ≠ "__name__" -> mb x=bootBuiltins x
 nolimit:base.NoLimit
structure Cx where
 prog:Program
 w:World
 K:Fg
 mg:Str->Option Value
 base:Heap
 A:Around
 N:List Str
 s₀:Shared
 H₀:Hp
 env:Env
 outer:List Env
 stack:List Env
 ex:List Addr
 fn:Str->Bool
 calm:Bool
 pn:List (Addr×Obj)
 xe:Value->Shared->Prop
def Fs(l:sE):sC:=l.filterMap (·.frame)
abbrev Cx.fs(X:Cx):List AD:=Fs X.outer
def jC(sc:Scope)(x:Str):Prop:=sc.names.lookup x=some .local\/sc.names.lookup x=some .cell\/sc.names.lookup x=some .free
def Loc(sc:Scope)(x:Str):Prop:=sc.names.lookup x=some .local\/sc.names.lookup x=some .cell
def Look(env:Env)(h:Heap)(m:rW)(x:Str)(u:VL):Prop :=
 (env.kindOf x=some .local/\m x=some u)\/((env.kindOf x=some .cell\/env.kindOf x=some .free)/\∃c,env.cells.lookup x=some c/\h.IsCell c (some u))
structure Cx.Ok(X:Cx):Prop where
 mod:Mod X.K X.mg X.base
 kind:X.env.scope.kind=.function
 glob:X.env.globals=mainGlobals
 blt:X.env.builtins=builtinsNs
 above:X.s₀.heap.objs.size<=X.env.locals
 inj:∀x y c,X.env.cells.lookup x=some c->X.env.cells.lookup y=some c->x=y
 has:∀x,(X.env.kindOf x=some .cell\/X.env.kindOf x=some .free)->∃c,X.env.cells.lookup x=some c
 XS:∀x c,X.fn x=true->X.env.cells.lookup x=some c->X.s₀.heap.objs.size<=c
 hd:X.calm=true->X.A.handled=none
 frames:X.A.frames=some X.stack
 b6:X.stack=X.outer\/(X.stack=X.env::X.outer/\X.env.frame=some X.env.locals)
 mW:∀b∈X.ex,b≠X.env.locals/\∀x c,X.env.cells.lookup x=some c->c≠b
 bs:∀b o,X.base.get? b=some o->X.s₀.heap.get? b=some o/\X.H₀ b=none
 RC:X.base.objs.size<=X.s₀.heap.objs.size
 Rr:∀b o,X.base.get? b=some o->b ∉ X.ex
 SF:∀b∈X.ex,b ∉ X.fs
 Hf:X.s₀.heap.FunFrames X.base X.outer
 Qm:∀b∈X.fs,X.H₀ b=none
structure Inv(X:Cx)(pins:List (Addr×Obj))(σ:List (Option V))(H:Hp)(s:Shared):Prop where
 ok:X.Ok
 os:s.os=X.s₀.os
 bare:AllBare s.gens
 base:Un X.fs X.ex X.H₀ H X.s₀.heap s.heap
 loc:∃m,s.heap.Ns X.env.locals m/\∀(i:Nat) (x:Str) (v:V),X.N[i]? = some x->σ[i]? = some (some v)->jC X.env.scope x->∃u,RelV v u/\Look X.env s.heap m x u
 cell:∀x c,X.env.cells.lookup x=some c->∃v,s.heap.IsCell c v
 free:H X.env.locals=none
 Fp:∀x c,X.env.cells.lookup x=some c->H c=none
 pin:∀p∈X.pn++pins,s.heap.get? p.1=some p.2/\H p.1=none/\p.1≠X.env.locals/\p.1 ∉ X.fs/\∀v,p.2.data≠.cell v
 Ap:Ei X.prog X.w H s.heap
 len:σ.length=X.N.length
section
variable{X:Cx}{pins:List (AD×Obj)}{σ:List (Option V)}{H H':Hp}{s:SD}{h':Heap}
def Cx.Ok.qV(ok:X.Ok){b:AD}{o:Obj}(e:X.base.get? b=some o):b ∉ X.fs:=fun hb=>by
 have:=(ok.Hf.mem hb).1;rw[e]at this;cases this
def Inv.bs(I:Inv X pins σ H s):∀b o,X.base.get? b=some o->s.heap.get? b=some o/\H b=none:=fun b o e=>
 ⟨I.base.keep b o (I.ok.bs b o e).1 (I.ok.bs b o e).2 (I.ok.qV e) (I.ok.Rr b o e),I.base.free b o (I.ok.bs b o e).1 (I.ok.bs b o e).2 (I.ok.Rr b o e)⟩
def Inv.bk(I:Inv X pins σ H s):∀b o,X.base.get? b=some o->s.heap.get? b=some o:=fun b o e=>(I.bs b o e).1
def Inv.mod(I:Inv X pins σ H s):Mod X.K X.mg X.base:=I.ok.mod
def Inv.GO(I:Inv X pins σ H s):X.K.In s.heap:=I.ok.mod.Og.keeps I.bk
def Inv.lt(I:Inv X pins σ H s):X.env.locals<s.heap.objs.size:=let⟨_,hn,_⟩:=I.loc;hn.lt
def Inv.sz(I:Inv X pins σ H s):X.s₀.heap.objs.size<=s.heap.objs.size:=aR I.ok.above (ay I.lt)
def Inv.qr(I:Inv X pins σ H s){a:AD}(h:s.heap.objs.size<=a):a ∉ X.fs:=fun hb=>by
 obtain⟨_,o,g,_⟩:=I.ok.Hf.mem hb;exact absurd (aL (aF g) (aR I.sz h)) (Nat.lt_irrefl _)
def Inv.Qg(I:Inv X pins σ H s):∀x c,X.env.cells.lookup x=some c->c≠X.env.locals:=fun x c e z=>by
 obtain⟨v,o,R,hd⟩:=I.cell x c e;obtain⟨m,⟨o',es,ep,g,O,_⟩,_⟩:=I.loc;rw[z,g]at R;cases R;rw[O]at hd;cases hd
def Inv.Hf(I:Inv X pins σ H s):s.heap.FunFrames X.base X.outer:=by
 have all:∀(l:List Env),(∀b∈Fs l,b∈X.fs)->X.s₀.heap.FunFrames X.base l->s.heap.FunFrames X.base l:=by
  intro l
  induction l with
  |nil=>intro _ _;trivial
  |cons env r T=>
   intro R Z;obtain⟨hk,⟨L,o,g,hn,Y,hd⟩,U⟩:=Z;have O:L∈X.fs:=R L (by unfold Fs;rw[List.filterMap_cons,g];exact aS);obtain⟨sl,e⟩:=I.base.slot L o Y (I.ok.Qm L O) O fun z=>I.ok.SF L z O;exact⟨hk,⟨L,_,g,hn,e,hd⟩,T (fun b hb=>R b (by unfold Fs;rw[List.filterMap_cons,g];exact aO _ hb)) U⟩
 exact all X.outer (fun _ hb=>hb) I.ok.Hf
def Inv.stack(I:Inv X pins σ H s):s.heap.FunFrames X.base X.stack:=by
 rcases I.ok.b6 with e|⟨e,g⟩
 .rw[e];exact I.Hf
 .rw[e];obtain⟨m,hn,_⟩:=I.loc;refine .cons (by rw[I.ok.kind];decide) g hn ?_ I.Hf;exact Heap.get?_none_of_le (aR I.ok.RC I.ok.above)
def Inv.NX(I:Inv X pins σ H s):∀b∈Fs X.stack,b∈X.env.locals::X.fs:=fun b hb=>by
 rcases I.ok.b6 with e|⟨e,g⟩
 .rw[e]at hb;exact aO _ hb
 .rw[e]at hb;unfold Fs at hb;rw[List.filterMap_cons,g]at hb;exact hb
def Inv.SE(I:Inv X pins σ H s):∀b∈Fs X.stack,H b=none:=fun b hb=>by
 rcases aM.mp (I.NX b hb) with e|hb
 .rw[e];exact I.free
 .obtain⟨_,o,g,_⟩:=I.ok.Hf.mem hb;exact I.base.free b o g (I.ok.Qm b hb) fun z=>I.ok.SF b z hb
def Inv.step{g':Array GenState}{t':Nat}{d':Drawn}{ch:sC}(I:Inv X pins σ H s) (R:∀b∈ch,(b∈X.ex\/X.s₀.heap.objs.size<=b)/\b≠X.env.locals/\(∀x c,X.env.cells.lookup x=some c->c≠b)/\∀p∈X.pn++pins,p.1≠b) (keep:∀b o,b≠X.env.locals->b ∉ X.fs->b ∉ ch->s.heap.get? b=some o->H b=none->h'.get? b=some o) (slot:∀b o,b≠X.env.locals->b∈X.fs->b ∉ ch->s.heap.get? b=some o->H b=none->∃sl,h'.get? b=some {o with slots:=sl})(free:∀b o,b ∉ ch->s.heap.get? b=some o->H b=none->H' b=none) (there:∀b o,b ∉ ch->s.heap.get? b=some o->∃o',h'.get? b=some o') (A0:∀b xs,H b=some (.tup xs)->H' b=some (.tup xs))(Fw:∀b o u,H b=some (.Fv o u)->H' b=some (.Fv o u))(GP:∀b ps,H b=some (.Ow ps)->∃more,H' b=some (.Ow (ps++more))) (ns:∀m,s.heap.Ns X.env.locals m->h'.Ns X.env.locals m)(Ap:Ei X.prog X.w H' h')(hg:AllBare g'):Inv X pins σ H' {s with heap:=h',gens:=g',drawn:=d',toks:=t'}:=by
 have Z:∀b o,X.s₀.heap.get? b=some o->b≠X.env.locals:=fun b o e=>aK (aL (aF e) I.ok.above);have T:∀b o,X.s₀.heap.get? b=some o->b ∉ X.ex->b ∉ ch:=fun b o e g hb=>by
  rcases(R b hb).1 with z|z
  .exact g z
  .exact absurd (aL (aF e) z) (Nat.lt_irrefl _)
 have cellK:∀x c,X.env.cells.lookup x=some c->∀v,s.heap.IsCell c v->h'.IsCell c v:=fun x c e v ⟨o,Y,hd⟩=>by
  have O:c ∉ ch:=fun z=>(R c z).2.2.1 x c e rfl;by_cases hc:c∈X.fs
  .obtain⟨sl,q⟩:=slot c o (I.Qg x c e) hc O Y (I.Fp x c e);exact⟨_,q,hd⟩
  .exact⟨o,keep c o (I.Qg x c e) hc O Y (I.Fp x c e),hd⟩
 refine⟨I.ok,I.os,hg,⟨fun b o e n hb g=>?_,fun b o e n hb g=>?_,fun b o e n g=>?_,fun b o e g=>?_,fun b xs e=>A0 b xs (I.base.A0 b xs e),fun b o xs e=>Fw b o xs (I.base.Fw b o xs e),fun b ps e=>?_⟩,?_,fun x c e=>?_,?_,fun x c e=>?_,fun p hp=>?_,Ap,I.len⟩
 .exact keep b o (Z b o e) hb (T b o e g) (I.base.keep b o e n hb g) (I.base.free b o e n g)
 .obtain⟨sl,U⟩:=I.base.slot b o e n hb g;obtain⟨sl',e2⟩:=slot b _ (Z b o e) hb (T b o e g) U (I.base.free b o e n g);exact⟨sl',e2⟩
 .obtain⟨o',U⟩:=I.base.there b o e g;exact free b o' (T b o e g) U (I.base.free b o e n g)
 .obtain⟨o',U⟩:=I.base.there b o e g;exact there b o' (T b o e g) U
 .obtain⟨m1,U⟩:=I.base.GP b ps e;obtain⟨m2,e2⟩:=GP b _ U;exact⟨m1++m2,by rw[e2,Array.append_assoc]⟩
 .obtain⟨m,hn,hl⟩:=I.loc;refine⟨m,ns m hn,fun i x v U e2 e3=>?_⟩;obtain⟨u,r,l⟩:=hl i x v U e2 e3;refine⟨u,r,?_⟩;rcases l with l|⟨k,c,e,z⟩
  .exact .inl l
  .exact .inr ⟨k,c,e,cellK x c e _ z⟩
 .obtain⟨v,z⟩:=I.cell x c e;exact⟨v,cellK x c e v z⟩
 .obtain⟨m,⟨o,_,_,Y,_⟩,_⟩:=I.loc;exact free _ o (fun z=>(R _ z).2.1 rfl) Y I.free
 .obtain⟨v,o,Y,hd⟩:=I.cell x c e;exact free c o (fun z=>(R c z).2.2.1 x c e rfl) Y (I.Fp x c e)
 .obtain⟨e,n,ne,nf,d⟩:=I.pin p hp;have O:p.1 ∉ ch:=fun z=>(R p.1 z).2.2.2 p hp rfl;exact⟨keep p.1 p.2 ne nf O e n,free p.1 p.2 O e n,ne,nf,d⟩
def Inv.un{t':Nat}(I:Inv X pins σ H s)(u:Un X.fs [] H H' s.heap h')(Ap:Ei X.prog X.w H' h'):Inv X pins σ H' {s with heap:=h',toks:=t'}:=by
 obtain⟨m,⟨o,es,ep,T,r⟩,_⟩:=id I.loc;obtain⟨sl,Y⟩:=u.any T I.free (by simp);exact I.step (g':=s.gens) (d':=s.drawn) (ch:=[]) (fun _ z=>nomatch z) (fun b o _ hb _ e n=>u.keep b o e n hb (by simp)) (fun b o _ hb _ e n=>u.slot b o e n hb (by simp)) (fun b o _ e n=>u.free b o e n (by simp)) (fun b o _ e=>u.there b o e (by simp)) u.A0 u.Fw u.GP (fun Z hm=>by
  obtain⟨o',O,R,g,U⟩:=hm;rw[T]at g;cases g;exact⟨_,O,R,Y,U⟩) Ap I.bare
def Inv.call{g':Array GenState}{t':Nat}{d':Drawn}{ch:sC}(I:Inv X pins σ H s)(u:Un (Fs X.stack) ch H H' s.heap h')(Ap:Ei X.prog X.w H' h')(hg:AllBare g') (R:∀b∈ch,(b∈X.ex\/X.s₀.heap.objs.size<=b)/\b≠X.env.locals/\(∀x c,X.env.cells.lookup x=some c->c≠b)/\∀p∈X.pn++pins,p.1≠b):Inv X pins σ H' {s with heap:=h',gens:=g',drawn:=d',toks:=t'}:=by
 obtain⟨m,⟨o,es,ep,Z,r⟩,_⟩:=id I.loc;obtain⟨sl,T⟩:=u.any Z I.free fun z=>(R _ z).2.1 rfl;exact I.step (ch:=ch) R (fun b o T hb g e n=>u.keep b o e n (fun z=>(aM.mp (I.NX b z)).elim T hb) g) (fun b o _ _ g e n=>u.any e n g) (fun b o g e n=>u.free b o e n g) (fun b o g e=>u.there b o e g) u.A0 u.Fw u.GP (fun m' hm=>by
  obtain⟨o',U,Y,O,r'⟩:=hm;rw[Z]at O;cases O;exact⟨_,U,Y,T,r'⟩) Ap hg
def Inv.turned{t':Nat}{it:AD}(I:Inv X pins σ H s)(k:∀b o,b≠it->s.heap.get? b=some o->h'.get? b=some o)(hn:H it=none)(R:it≠X.env.locals) (Z:it∈X.ex\/X.s₀.heap.objs.size<=it)(Y:∀x c,X.env.cells.lookup x=some c->c≠it)(U:∀p∈X.pn++pins,p.1≠it):Inv X pins σ H {s with heap:=h',toks:=t'}:=by
 have O:∀b u,H b=some u->b≠it:=fun b u e z=>by rw[z,hn]at e;cases e
 refine I.step (g':=s.gens) (d':=s.drawn) (ch:=[it]) (fun b hb=>?_) (fun b o _ _ g e _=>k b o (fun z=>g (by simp[z])) e) (fun b o _ _ g e _=>⟨o.slots,k b o (fun z=>g (by simp[z])) e⟩) (fun _ _ _ _ n=>n)
  (fun b o g e=>⟨o,k b o (fun z=>g (by simp[z])) e⟩) (fun _ _ e=>e) (fun _ _ _ e=>e) (fun b ps e=>⟨#[],by rw[e];simp⟩) (fun m hm=>?_) (fun b u e=>?_) I.bare
 .have e:b=it:=by simpa using hb
  subst e;exact⟨Z,R,Y,U⟩
 .obtain⟨o,es,ep,T,r⟩:=hm;exact⟨o,es,ep,k _ o (Ne.symm R) T,r⟩
 .refine(I.Ap b u e).Hx (fun c v g q=>k c v ?_ q) (fun _ q=>q) fun _ _ q=>q;rcases g with z|z
  .rw[z];exact O b u e
  .exact O c _ z
def Inv.tok(I:Inv X pins σ H s)(t:Nat):Inv X pins σ H {s with toks:=t}:=I.un (h':=s.heap) (t':=t) Un.refl I.Ap
def Inv.kept{t':Nat}(I:Inv X pins σ H s)(k:∀b u,s.heap.get? b=some u->h'.get? b=some u):Inv X pins σ H {s with heap:=h',toks:=t'}:=I.un (Un.kept k) (I.Ap.kept k)
def Inv.laid{a:AD}{o:HO}{t':Nat}(I:Inv X pins σ H s)(k:∀b u,s.heap.get? b=some u->h'.get? b=some u)(g:s.heap.objs.size<=a)(new:CK X.prog X.w (upd H a o) h' a o):Inv X pins σ (upd H a o) {s with heap:=h',toks:=t'}:=I.un (Un.laid k g (I.Ap.fresh g)) (I.Ap.laid k g new)
def Inv.write{x e:AD}{o:HO}{t':Nat}(I:Inv X pins σ H s)(O:ef (H x))(R:e=x\/H e=some (.own x))(k:∀b u,b≠e->s.heap.get? b=some u->h'.get? b=some u)(g:∃u,h'.get? e=some u) (new:CK X.prog X.w (upd H x o) h' x o):Inv X pins σ (upd H x o) {s with heap:=h',toks:=t'}:=I.un (Un.write O R k g) (I.Ap.write O R k g new)
def Inv.XH{g:List (AD×Obj)}(I:Inv X pins σ H s)(h:∀p∈g,s.heap.get? p.1=some p.2/\H p.1=none/\p.1≠X.env.locals/\p.1 ∉ X.fs/\∀v,p.2.data≠.cell v):Inv X g σ H s :=
 ⟨I.ok,I.os,I.bare,I.base,I.loc,I.cell,I.free,I.Fp,fun p O=>(bS.mp O).elim (fun z=>I.pin p (List.mem_append_left _ z)) (h p),I.Ap,I.len⟩
def Pk{N:rf}(g:N.Nodup){i j:Nat}{x:Str}(a:N[i]? = some x)(b:N[j]? = some x):i=j:=by
 obtain⟨T,O⟩:=aG.mp a;obtain⟨R,I⟩:=aG.mp b;exact(List.getElem_inj g).mp (O.trans I.symm)
def S6{M:Model}{A:Around}{E:rV}{i:Nat}{x:Str}{v:V}{u:VL}{Q:Unit->SD->Prop}(I:Inv X pins σ H s)(hN:X.N.Nodup)(hi:X.N[i]? = some x)(T:Loc X.env.scope x)(r:RelV v u) (h:∀s',Inv X pins (σ.set i (some v)) H s'->(∃a,Heap.SameBut a s.heap s'.heap/\(a=X.env.locals\/X.env.cells.lookup x=some a))->Q () s')(hf:X.fn x=true\/X.env.scope.names.lookup x=some .local:=by first|exact .inl rfl|exact .inr rfl|assumption):wpAny M A (storeName X.env x u) Q E s:=by
 obtain⟨m,hn,hl⟩:=id I.loc;have hcls:(X.env.scope.kind==.class||(X.env.scope.kind==.module&&X.env.locals != X.env.globals))=false:=by rw[I.ok.kind];rfl
 have Z:i<σ.length:=by rw[I.len];exact(aG.mp hi).1
 have Qg:=I.Qg;have tracked:∀ {a:AD} {h':Heap},(∃o,s.heap.get? a=some o/\H a=none)->Heap.SameBut a s.heap h'->Ei X.prog X.w H h':=fun {a h'} ha g b ob e=>by
  obtain⟨_,_,U⟩:=ha;refine(I.Ap b ob e).Hx (fun c w' R q=>(g.2 c ?_).trans q) (fun _ q=>q) fun _ _ q=>q;rintro rfl;rcases R with rfl|R
  .rw[U]at e;cases e
  .rw[U]at R;cases R
 rcases T with hk|hk
 .refine wpAny_storeName_local hk hn (fun h' hn' g=>?_) hcls;obtain⟨oL,_,_,hoL,_⟩:=id hn;refine h _ ⟨I.ok,I.os,I.bare,⟨fun b o e n hb T=>?_,fun b o e n hb T=>?_,I.base.free,fun b o e T=>?_,I.base.A0,I.base.Fw,I.base.GP⟩,⟨_,hn',fun j y v' O Y e3=>?_⟩,fun y c e=>?_,I.free,I.Fp,fun p hp=>?_,tracked ⟨oL,hoL,I.free⟩ g,by simpa using I.len⟩ ⟨_,g,.inl rfl⟩
  .exact(g.2 b (aK (aL (aF e) I.ok.above))).trans (I.base.keep b o e n hb T)
  .obtain⟨sl,O⟩:=I.base.slot b o e n hb T;exact⟨sl,(g.2 b (aK (aL (aF e) I.ok.above))).trans O⟩
  .obtain⟨o',O⟩:=I.base.there b o e T;exact⟨o',(g.2 b (aK (aL (aF e) I.ok.above))).trans O⟩
  .by_cases hj:j=i
   .subst hj;rw[hi]at O;cases O;rw[List.getElem?_set_self Z]at Y;cases Y;exact⟨u,r,.inl ⟨hk,by simp⟩⟩
   .rw[List.getElem?_set_ne (Ne.symm hj)]at Y;obtain⟨u',r',q⟩:=hl j y v' O Y e3;refine⟨u',r',?_⟩;rcases q with ⟨k,e⟩|⟨k,c,e,z⟩
    .refine .inl ⟨k,?_⟩;have:y≠x:=fun e=>hj (Pk hN O (e ▸ hi));simp[this,e]
    .exact .inr ⟨k,c,e,z.sameBut g (Qg y c e)⟩
  .obtain⟨w',z⟩:=I.cell y c e;exact⟨w',z.sameBut g (Qg y c e)⟩
  .obtain⟨e,n,ne,nf,d⟩:=I.pin p hp;exact⟨(g.2 p.1 ne).trans e,n,ne,nf,d⟩
 .have hfn:X.fn x=true:=by
   rcases hf with z|z
   .exact z
   .rw[z]at hk;cases hk
  obtain⟨c,R⟩:=I.ok.has x (.inl hk);obtain⟨w',z⟩:=I.cell x c R;refine wpAny_storeName_cell I.ok.kind hk R z (fun h' hc' g=>?_);obtain⟨oc,hoc,hocd⟩:=id z;refine h {s with heap:=h'} ⟨I.ok,I.os,I.bare,⟨fun b o e n hb T=>?_,fun b o e n hb T=>?_,I.base.free,fun b o e T=>?_,I.base.A0,I.base.Fw,I.base.GP⟩,⟨m,hn.sameBut g (Ne.symm (Qg x c R)),fun j y v' O Y e3=>?_⟩,fun y c' e=>?_,I.free,I.Fp,fun p hp=>?_,tracked ⟨oc,hoc,I.Fp x c R⟩ g,by simpa using I.len⟩ ⟨c,g,.inr R⟩
  .exact(g.2 b (aK (aL (aF e) (I.ok.XS x c hfn R)))).trans (I.base.keep b o e n hb T)
  .obtain⟨sl,O⟩:=I.base.slot b o e n hb T;exact⟨sl,(g.2 b (aK (aL (aF e) (I.ok.XS x c hfn R)))).trans O⟩
  .obtain⟨o',O⟩:=I.base.there b o e T;exact⟨o',(g.2 b (aK (aL (aF e) (I.ok.XS x c hfn R)))).trans O⟩
  .by_cases hj:j=i
   .subst hj;rw[hi]at O;cases O;rw[List.getElem?_set_self Z]at Y;cases Y;exact⟨u,r,.inr ⟨.inl hk,c,R,hc'⟩⟩
   .rw[List.getElem?_set_ne (Ne.symm hj)]at Y;obtain⟨u',r',q⟩:=hl j y v' O Y e3;refine⟨u',r',?_⟩;rcases q with q|⟨k,c',e,z'⟩
    .exact .inl q
    .refine .inr ⟨k,c',e,z'.sameBut g ?_⟩;rintro rfl;exact hj (Pk hN O (I.ok.inj _ _ _ e R ▸ hi))
  .by_cases hcc:c'=c
   .subst hcc;exact⟨_,hc'⟩
   .obtain⟨w2,z2⟩:=I.cell y c' e;exact⟨w2,z2.sameBut g hcc⟩
  .obtain⟨e,n,ne,nf,d⟩:=I.pin p hp;refine⟨(g.2 p.1 ?_).trans e,n,ne,nf,d⟩;intro q;rw[q,hoc]at e;have q':oc=p.2:=af e;exact d w' (by rw[<-q'];exact hocd)
def KP{M:Model}{A:Around}{E:rV}{i:Nat}{x:Str}{v:V}{u:VL}{Q:Unit->SD->Prop}(I:Inv X pins σ H s)(R:X.N.Nodup)(hi:X.N[i]? = some x)(g:Loc X.env.scope x)(r:RelV v u) (h:∀s',Inv X pins (σ.set i (some v)) H s'->Q () s')(O:X.fn x=true\/X.env.scope.names.lookup x=some .local:=by first|exact .inl rfl|exact .inr rfl|assumption):wpAny M A (storeName X.env x u) Q E s :=
 S6 I R hi g r (fun s' T _=>h s' T) O
def Inv.fw{s':SD}{ch:sC}(I:Inv X pins σ H s)(U:s'.os=s.os)(u:Un (Fs X.stack) ch H H' s.heap s'.heap)(Ap:Ei X.prog X.w H' s'.heap)(hg:AllBare s'.gens) (g:∀b∈ch,(b∈X.ex\/X.s₀.heap.objs.size<=b)/\b≠X.env.locals/\(∀x c,X.env.cells.lookup x=some c->c≠b)/\∀p∈X.pn++pins,p.1≠b):Inv X pins σ H' s':=by
 obtain⟨h',R,T,O,o'⟩:=s';have e:o'=s.os:=U;subst e;exact I.call (g':=R) (t':=O) (d':=T) u Ap hg g
end
abbrev XK:=VL->Option AD->Hp->Prop
abbrev St:=List (Option V)
abbrev VK:=V->Hp->Prop
abbrev TE:=St->Hp->VK->Prop
abbrev TT:=St->Hp->(Bool->Hp->Prop)->Prop
abbrev TA:=St->Hp->(List V->Hp->Prop)->Prop
structure Ends where
 nx:St->Hp->Prop
 rt:VK
 bk:St->Hp->Prop:=fun _ _=>False
 ct:St->Hp->Prop:=fun _ _=>False
abbrev TS:=Ends->St->Hp->Prop
def EP(X:Cx)(pins:List (AD×Obj))(σ:St)(Q:VK)(u:VL)(s':SD):Prop:=∃v H',Inv X pins σ H' s'/\RelV v u/\Q v H'
def TP(X:Cx)(pins:List (AD×Obj))(σ:St)(Q:Bool->Hp->Prop)(b:Bool)(s':SD):Prop:=∃H',Inv X pins σ H' s'/\Q b H'
def AP(X:Cx)(pins:List (AD×Obj))(σ:St)(Q:List V->Hp->Prop)(us:rT)(s':SD):Prop:=∃vs H',Inv X pins σ H' s'/\Vals vs us/\Q vs H'
def SP(X:Cx)(pins:List (AD×Obj))(D:Ends)(f:Flow)(s':SD):Prop :=
 match f with
 |.next=>∃g H',Inv X pins g H' s'/\D.nx g H'
 |.brk=>∃g H',Inv X pins g H' s'/\D.bk g H'
 |.cont=>∃g H',Inv X pins g H' s'/\D.ct g H'
 |.ret u=>∃v g H',Inv X pins g H' s'/\RelV v u/\D.rt v H'
def PE(X:Cx)(e:Expr)(t:TE):Prop :=
 ∀(pins:List (AD×Obj)) (s:SD) (σ:St) (H:Hp) (Q:VK),Inv X pins σ H s->t σ H Q->wpAny (model X.prog X.w) X.A (eval e X.env) (EP X pins σ Q) X.xe s
def PT(X:Cx)(e:Expr)(t:TT):Prop :=
 ∀(pins:List (AD×Obj)) (s:SD) (σ:St) (H:Hp) (Q:Bool->Hp->Prop),Inv X pins σ H s->t σ H Q->wpAny (model X.prog X.w) X.A (isTrue e X.env (eval e X.env)) (TP X pins σ Q) X.xe s
def PW(X:Cx)(e:Expr)(t:TT):Prop :=
 ∀(g:Sem VL) (pins:List (AD×Obj)) (s:SD) (σ:St) (H:Hp) (Q:Bool->Hp->Prop),Inv X pins σ H s->t σ H Q->wpAny (model X.prog X.w) X.A (isTrue e X.env g) (TP X pins σ Q) X.xe s
def PW.pt{X:Cx}{e:Expr}{t:TT}(h:PW X e t):PT X e t:=h _
def PA(X:Cx)(es:rg)(t:TA):Prop :=
 ∀(pos:Pos) (pins:List (AD×Obj)) (s:SD) (σ:St) (H:Hp) (Q:List V->Hp->Prop),Inv X pins σ H s->t σ H Q->wpAny (model X.prog X.w) X.A (spliced (backTo pos (starEach es X.env))) (AP X pins σ Q) X.xe s
def PS(X:Cx)(st:Stmt)(t:TS):Prop :=
 ∀(pins:List (AD×Obj)) (s:SD) (σ:St) (H:Hp) (D:Ends),Inv X pins σ H s->t D σ H->wpAny (model X.prog X.w) X.A (exec st X.env) (SP X pins D) X.xe s
def GV(X:Cx)(st:sD)(t:TS):Prop :=
 ∀(pins:List (AD×Obj)) (s:SD) (σ:St) (H:Hp) (D:Ends),Inv X pins σ H s->t D σ H->wpAny (model X.prog X.w) X.A (execs st X.env) (SP X pins D) X.xe s
def BG{g:Type}{t:Sem g}{Q I:g->SD->Prop}{M:Model}{A:Around}{E:rV}{s:SD}(h:wpAny M A t Q E s)(O:∀a s,Q a s->I a s):wpAny M A t I E s:=aU h O fun _ _ x=>x
section
variable{X:Cx}
def MR(i:Nat):TE:=fun σ H Q=>∃v,σ[i]? = some (some v)/\Q v H
def tC(v:V):TE:=fun _ H Q=>Q v H
def ji{i:Nat}{x:Str}{pos:Pos}(Y:X.N[i]? = some x)(T:jC X.env.scope x)(hd:(x==("__debug__" : Str))=false:=by decide)(O:(x==("__classdict__" : Str))=false:=by decide):PE X (.Name x pos) (MR i):=by
 intro pins s σ H Q I h;obtain⟨v,e,h⟩:=h;obtain⟨m,hn,U⟩:=I.loc;obtain⟨u,r,l⟩:=U i x v Y e T;have fin:EP X pins σ Q u s:=⟨v,H,I,r,h⟩;rcases l with ⟨hk,hm⟩|⟨hk,c,R,g⟩
 .exact wpAny_Name (wpAny_loadName_local I.ok.kind hk hn hm fin) hd
 .rcases hk with hk|hk
  .exact wpAny_Name (wpAny_loadName_cell I.ok.kind hk R g fin) hd
  .exact wpAny_Name (wpAny_loadName_free I.ok.kind hk R g fin O) hd
def Ar{i j pos}:PE X (.Constant (.int i) j pos) (tC (.int i)):=fun _ _ _ H _ I h=>wpAny_Constant_int ⟨.int i,H,I.tok _,⟨_,rfl⟩,h⟩
def oI{b j pos}:PE X (.Constant (.bool b) j pos) (tC (.bl b)):=fun _ _ _ H _ I h=>Constant_bool ⟨.bl b,H,I,rfl,h⟩
def l9{j pos}:PE X (.Constant .none j pos) (tC .BP):=fun _ _ _ H _ I h=>Constant_none ⟨.BP,H,I,rfl,h⟩
def i9{x j pos}:PE X (.Constant (.str x) j pos) (tC (.str x)):=fun _ _ _ H _ I h=>Calls.Constant_str ⟨.str x,H,I.tok _,⟨_,rfl⟩,h⟩
def Gl(X:Cx)(x:Str):Prop:=X.env.kindOf x=some .globalImplicit
def JX{E:rV}{pins:List (AD×Obj)}{s:SD}{σ:St}{H:Hp}{x:Str}{u:VL}{pos:Pos}{Q:rV}(I:Inv X pins σ H s)(hg:Gl X x)(hm:X.mg x=some u)(h:Q u s) (hd:(x==("__debug__" : Str))=false:=by decide):wpAny (model X.prog X.w) X.A (eval (.Name x pos) X.env) Q E s :=
 Calls.Name_function_global I.ok.kind hg (Calls.loadGlobal_global (by rw[I.ok.glob];exact I.mod.glob.keeps I.bk) hm h) hd
def HH{E:rV}{pins:List (AD×Obj)}{s:SD}{σ:St}{H:Hp}{x:Str}{u:VL}{pos:Pos}{Q:rV}(I:Inv X pins σ H s)(hg:Gl X x)(hm:X.mg x=none)(g:bootBuiltins x=some u)(h:Q u s) (hn:x ≠ "__name__":=by decide)(hd:(x==("__debug__" : Str))=false:=by decide):wpAny (model X.prog X.w) X.A (eval (.Name x pos) X.env) Q E s:=by
 obtain⟨mb,R,O⟩:=I.mod.blt;exact Calls.Name_function_global I.ok.kind hg (Calls.loadGlobal_builtin (by rw[I.ok.glob];exact I.mod.glob.keeps I.bk) hm (by rw[I.ok.blt];exact R.keeps I.bk) ((O x hn).trans g) h) hd
def JY{x:Str}{v:V}{u:VL}{pos:Pos}(hg:Gl X x)(hm:X.mg x=some u)(r:RelV v u)(hd:(x==("__debug__" : Str))=false:=by decide):PE X (.Name x pos) (tC v) :=
 fun _ _ _ H _ I h=>JX I hg hm ⟨v,H,I,r,h⟩ hd
def gL{x:Str}{v:V}{u:VL}{pos:Pos}(hg:Gl X x)(hm:X.mg x=none)(g:bootBuiltins x=some u)(r:RelV v u)(hn:x ≠ "__name__":=by decide)(hd:(x==("__debug__" : Str))=false:=by decide):PE X (.Name x pos) (tC v) :=
 fun _ _ _ H _ I h=>HH I hg hm g ⟨v,H,I,r,h⟩ hn hd
variable{a b:Expr}{ta tb:TE}{pos:Pos}
def tB(t:TE):TT:=fun σ H Q=>t σ H fun x g=>∃c,x=.bl c/\Q c g
def i8{e : Expr}{t : TE}(h : PE X e t)(he : ∀ whole,isTrue e X.env whole = (do let v <- whole; standAt e.pos; holding [v] (truthy v)):=by intro _; rfl):PT X e (tB t):=by
  intro pins s σ H Q I hw
  refine isTrue_plain (BG (h pins s σ H _ I hw) fun v s1 ⟨x,H1,I1,r1,q1⟩ => ?_) (he _)
  obtain ⟨d,rfl,q⟩:=q1
  cases r1
  exact wpAny_truthy_bool ⟨H1,I1,q⟩
variable{tA tB':TT}{rest:rg}
def qk(t u:TT):TT:=fun σ H Q=>t σ H fun c g=>if c=true then u σ g Q else Q false g
def qx(t u:TT):TT:=fun σ H Q=>t σ H fun c g=>if c=true then Q true g else u σ g Q
def p0(t:TT):TT:=fun σ H Q=>t σ H fun c g=>Q (!c) g
def f9(ha:PT X a tA):PW X (.BoolOp .And [a] pos) tA:=by
 intro g pins s σ H Q I h;refine isTrue_and (BG (ha pins s σ H Q I h) fun c s1 e=>?_);cases c with
 |true=>exact isTrue_and_nil e
 |false=>exact e
def mG(ha:PT X a tA):PW X (.BoolOp .Or [a] pos) tA:=by
 intro g pins s σ H Q I h;refine isTrue_or (BG (ha pins s σ H Q I h) fun c s1 e=>?_);cases c with
 |false=>exact isTrue_or_nil e
 |true=>exact e
def mw(ha:PT X a tA)(hb:PW X (.BoolOp .And (b::rest) pos) tB'):PW X (.BoolOp .And (a::b::rest) pos) (qk tA tB'):=by
 intro R pins s σ H Q I h;refine isTrue_and (BG (ha pins s σ H _ I h) fun c s1 ⟨O,g,q1⟩=>?_);cases c with
 |true=>exact hb R pins s1 σ O Q g q1
 |false=>exact⟨O,g,q1⟩
def oB(ha:PT X a tA)(hb:PW X (.BoolOp .Or (b::rest) pos) tB'):PW X (.BoolOp .Or (a::b::rest) pos) (qx tA tB'):=by
 intro R pins s σ H Q I h;refine isTrue_or (BG (ha pins s σ H _ I h) fun c s1 ⟨O,g,q1⟩=>?_);cases c with
 |true=>exact⟨O,g,q1⟩
 |false=>exact hb R pins s1 σ O Q g q1
def lu(ha:PT X a tA):PT X (.UnaryOp .Not a pos) (p0 tA):=by
 intro pins s σ H Q I h;exact isTrue_not (ha pins s σ H (fun c g=>Q (!c) g) I h)
def nP(ta tb:TE):TE:=fun σ H Q=>ta σ H fun x g=>∃c,x=.bl c/\if c=true then tb σ g Q else Q (.bl false) g
def og(ta:TE):TE:=fun σ H Q=>ta σ H fun x g=>∃c,x=.bl c/\Q (.bl (!c)) g
def lA{op}{t:TE}(h:PE X a t):PE X (.BoolOp op [a] pos) t:=fun pins s σ H Q I g=>BoolOp_one (h pins s σ H Q I g)
def mn(ha:PE X a ta)(hb:PE X (.BoolOp .And (b::rest) pos) tb):PE X (.BoolOp .And (a::b::rest) pos) (nP ta tb):=by
 intro pins s σ H Q I h;refine BoolOp_and (BG (ha pins s σ H _ I h) fun v s1 ⟨x,O,g,R,q1⟩=>?_);obtain⟨c,rfl,q1⟩:=q1;cases R;refine wpAny_truthy_bool ?_;cases c with
 |true=>exact hb pins s1 σ O Q g q1
 |false=>exact⟨.bl false,O,g,rfl,q1⟩
def kP(ha:PE X a ta):PE X (.UnaryOp .Not a pos) (og ta):=by
 intro pins s σ H Q I h;refine UnaryOp_ (BG (ha pins s σ H _ I h) fun v s1 ⟨x,R,O,g,q1⟩=>?_);obtain⟨c,rfl,q1⟩:=q1;cases g;exact not_of (wpAny_truthy_bool ⟨.bl (!c),R,O,rfl,q1⟩)
end
def Al(K:Fg)(H:Hp)(a:AD)(xs:rq):Prop :=
 Rd H a (.lst xs) \/
  ∃(o:Obj) (g:Array VL) (n:Nat),K.lookup a=some o/\o.cls=.type "list" /\ o.dict=none/\o.data=.seq g n/\g.size<=sizeLine/\Vals xs g.toList
def BC(K:Fg)(H:Hp)(a:AD)(xs:rq):Prop :=
 Rd H a (.tup xs) \/
  ∃(o:Obj) (g:Array VL) (n:Nat),K.lookup a=some o/\o.cls=.type "tuple" /\ o.data=.seq g n/\g.size<=sizeLine/\Vals xs g.toList
def VC:VL->Option V
 |.none=>some .BP
 |.bool b=>some (.bl b)
 |.int i _=>some (.int i)
 |.str x _=>some (.str x)
 |.bytes b _=>some (.Nb b)
 |.float b _=>some (.WM b)
 |.ref a=>some (.ref a)
 |.type n=>some (.ty n)
 |_=>none
def RelV.abs{x:V}{u:VL}(r:RelV x u):VC u=some x:=by
 cases x with
 |BP=>cases r;rfl
 |bl _=>cases r;rfl
 |int _=>obtain⟨t,rfl⟩:=r;rfl
 |str _=>obtain⟨t,rfl⟩:=r;rfl
 |Nb _=>obtain⟨t,rfl⟩:=r;rfl
 |WM _=>obtain⟨t,rfl⟩:=r;rfl
 |ref _=>cases r;rfl
 |ty _=>cases r;rfl
def RelV.inj{x y:V}{u:VL}(r:RelV x u)(q:RelV y u):x=y:=af (r.abs.symm.trans q.abs)
def Vals.inj:∀ {xs ys:List V} {us:List VL},Vals xs us->Vals ys us->xs=ys
 |_,_,_,.nil,.nil=>rfl
 |_,_,_,.cons r t,.cons I g=>by rw[r.inj I,Vals.inj t g]
section
variable{X:Cx}{pins:List (AD×Obj)}{σ:St}{H:Hp}{s:SD}{a:AD}{xs ys:rq}
def Al.of{K:Fg}(h:H a=some (.lst xs)):Al K H a xs:=.inl (.inl h)
def BC.of{K:Fg}(h:H a=some (.tup xs)):BC K H a xs:=.inl (.inl h)
def Inv.list(I:Inv X pins σ H s)(h:Al X.K H a xs):∃g:rT,Vals xs g/\PlainL s.heap a g.toArray/\xs.length<=sizeLine:=by
 rcases h with h|⟨o,g,n,hk,R,hd,O,T,r⟩
 .obtain⟨z,g,n,r,e⟩:=h.ok I.Ap;exact⟨g,r,⟨_,n,e,rfl,rfl,rfl⟩,z⟩
 .refine⟨g.toList,r,⟨o,n,I.GO a o hk,R,hd,by simpa using O⟩,?_⟩;have e:=r.length;simp only[Array.length_toList]at e
  lia
def Inv.tuple(I:Inv X pins σ H s)(h:BC X.K H a xs):∃g:rT,Vals xs g/\IsTup s.heap a g.toArray/\xs.length<=sizeLine:=by
 rcases h with h|⟨o,g,n,hk,R,O,T,r⟩
 .obtain⟨z,g,r,p⟩:=h.ok I.Ap;exact⟨g,r,p,z⟩
 .refine⟨g.toList,r,⟨o,I.GO a o hk,R,n,by simpa using O⟩,?_⟩;have e:=r.length;simp only[Array.length_toList]at e
  lia
def Inv.U3(I:Inv X pins σ H s)(h:Al X.K H a xs)(h':Al X.K H a ys):xs=ys:=by
 obtain⟨O,r,⟨o,n,e,_,_,d⟩,_⟩:=I.list h;obtain⟨g,U,⟨o',Z,R,_,_,T⟩,_⟩:=I.list h';rw[e]at R;cases R;rw[d]at T
 injection T with Y _
 have:O=g:=by simpa using bI Array.toList Y
 subst this;exact r.inj U
def Inv.Si(I:Inv X pins σ H s)(h:BC X.K H a xs)(h':BC X.K H a ys):xs=ys:=by
 obtain⟨O,r,⟨o,e,_,n,d⟩,_⟩:=I.tuple h;obtain⟨g,U,⟨o',R,_,Z,T⟩,_⟩:=I.tuple h';rw[e]at R;cases R;rw[d]at T
 injection T with Y _
 have:O=g:=by simpa using bI Array.toList Y
 subst this;exact r.inj U
end
abbrev Cx.GS(X:Cx)(E:VL->SD->Prop):Cx:={X with xe:=E}
abbrev Cx.GZ(X:Cx):Cx:=X.GS fun _ _=>False
def Cx.Ok.GS{X:Cx}(ok:X.Ok)(E:rV):(X.GS E).Ok :=
 ⟨ok.mod,ok.kind,ok.glob,ok.blt,ok.above,ok.inj,ok.has,ok.XS,ok.hd,ok.frames,ok.b6,ok.mW,ok.bs,ok.RC,ok.Rr,ok.SF,ok.Hf,ok.Qm⟩
def Cx.Ok.EE{X:Cx}{E:rV}(ok:(X.GS E).Ok):X.Ok :=
 ⟨ok.mod,ok.kind,ok.glob,ok.blt,ok.above,ok.inj,ok.has,ok.XS,ok.hd,ok.frames,ok.b6,ok.mW,ok.bs,ok.RC,ok.Rr,ok.SF,ok.Hf,ok.Qm⟩
section
variable{X:Cx}{pins:List (AD×Obj)}{σ:St}{H:Hp}{s:SD}{E:rV}
def Inv.GS(I:Inv X pins σ H s)(E:rV):Inv (X.GS E) pins σ H s:=⟨I.ok.GS E,I.os,I.bare,I.base,I.loc,I.cell,I.free,I.Fp,I.pin,I.Ap,I.len⟩
def Inv.EE(I:Inv (X.GS E) pins σ H s):Inv X pins σ H s:=⟨I.ok.EE,I.os,I.bare,I.base,I.loc,I.cell,I.free,I.Fp,I.pin,I.Ap,I.len⟩
def SP.EE{D:Ends}{f:Flow}{s':SD}(h:SP (X.GS E) pins D f s'):SP X pins D f s':=by
 cases f with
 |next=>obtain⟨g,H',I,q⟩:=h;exact⟨g,H',I.EE,q⟩
 |brk=>obtain⟨g,H',I,q⟩:=h;exact⟨g,H',I.EE,q⟩
 |cont=>obtain⟨g,H',I,q⟩:=h;exact⟨g,H',I.EE,q⟩
 |ret u=>obtain⟨v,g,H',I,r,q⟩:=h;exact⟨v,g,H',I.EE,r,q⟩
def GV.GZ{st:sD}{t:TS}(h:GV X.GZ st t):GV X st t:=fun pins s σ H D I g=>
 aU (h pins s σ H D (I.GS _) g) (fun _ _ q=>q.EE) fun _ _ z=>False.elim z
end
section
variable{X:Cx}{st:Stmt}{rest:sD}{t u:TS}{e:Expr}{te:TE}{pos:Pos}
def nA:TS:=fun D σ H=>D.nx σ H
def jn(t u:TS):TS:=fun D σ H=>t {D with nx:=u D} σ H
def EL:GV X [] nA:=fun _ _ σ H _ I h=>wpAny_execs_nil ⟨σ,H,I,h⟩
def AX(R:PS X st t)(O:GV X rest u):GV X (st::rest) (jn t u):=by
 intro pins s σ H D I h;refine wpAny_execs_cons (BG (R pins s σ H {D with nx:=u D} I h) fun f s1 q=>?_);cases f with
 |next=>
  obtain⟨g,H',T,q⟩:=q;exact O pins s1 g H' D T q
 |ret v=>exact q
 |brk=>exact q
 |cont=>exact q
def A3(g:PS X st t):GV X [st] t:=by
 intro pins s σ H D I h;refine wpAny_execs_cons (BG (g pins s σ H D I h) fun f s1 q=>?_);cases f with
 |next=>exact wpAny_execs_nil q
 |ret v=>exact q
 |brk=>exact q
 |cont=>exact q
def nV:TS:=fun D σ H=>D.ct σ H
def V9:PS X (.Continue pos) nV:=fun _ _ σ H _ I h=>wpAny_Continue ⟨σ,H,I,h⟩
def Inv.quiet{pins:List (AD×Obj)}{σ:St}{H:Hp}{s:SD}(I:Inv X pins σ H s):interactive X.env=false:=by simp[interactive,I.ok.kind]
def RN(te:TE):TS:=fun D σ H=>te σ H fun _ g=>D.nx σ g
def DJ(O:PE X e te)(g:swapsWith e none pos.line X.env=pure false:=by rfl):PS X (.Expr e pos) (RN te):=by
 intro pins s σ H D I h;exact wpAny_Expr_any (BG (O pins s σ H _ I h) fun v s1 ⟨x,T,R,U,q1⟩=>⟨σ,T,R,q1⟩) I.quiet g
def pY(te:TE):TS:=fun D σ H=>te σ H D.rt
def Ca(O:PE X e te):PS X (.Return (some e) pos) (pY te):=by
 intro pins s σ H D I h;exact wpAny_Return_some (BG (O pins s σ H _ I h) fun v s1 ⟨x,T,R,g,q1⟩=>⟨x,σ,T,R,g,q1⟩)
def qB(c:TT)(t u:TS):TS:=fun D σ H=>c σ H fun b g=>if b=true then t D σ g else u D σ g
def Gi{c:Expr}{a b:sD}{g:TT}(T:PT X c g)(ha:GV X a t)(hb:GV X b u):PS X (.If c a b pos) (qB g t u):=by
 intro pins s σ H D I h;refine wpAny_If (BG (T pins s σ H _ I h) fun d s1 ⟨R,O,q1⟩=>?_);cases d with
 |true=>exact ha pins s1 σ R D O q1
 |false=>exact hb pins s1 σ R D O q1
def jY:TS:=fun _ _ _=>False
def dq:PS X st jY:=fun _ _ _ _ _ _ h=>h.elim
end
abbrev TG:=V->St->Hp->(St->Hp->Prop)->Prop
abbrev UQ:=List V->St->Hp->(St->Hp->Prop)->Prop
def PG(X:Cx)(target:Expr)(t:TG):Prop :=
 ∀(pins:List (AD×Obj)) (s:SD) (σ:St) (H:Hp) (v:V) (u:VL) (Q:St->Hp->Prop),Inv X pins σ H s->RelV v u->t v σ H Q ->
  wpAny (model X.prog X.w) X.A (assign target X.env u) (fun _ s'=>∃g H',Inv X pins g H' s'/\Q g H') X.xe s
def eu(X:Cx)(ts:rg)(t:UQ):Prop :=
 ∀(pins:List (AD×Obj)) (s:SD) (σ:St) (H:Hp) (vs:List V) (us:List VL) (Q:St->Hp->Prop),Inv X pins σ H s->Vals vs us->t vs σ H Q ->
  wpAny (model X.prog X.w) X.A (assignInOrder ((assignEach ts X.env).map (·.2)) us) (fun _ s'=>∃g H',Inv X pins g H' s'/\Q g H') X.xe s
abbrev YE:=V->V->V->Hp->(Hp->Prop)->Prop
def d7(X:Cx)(t:YE):Prop :=
 ∀(pins:List (AD×Obj)) (s:SD) (σ:St) (H:Hp) (o i v:V) (g I u:VL) (Q:Hp->Prop),Inv X pins σ H s->RelV o g->RelV i I->RelV v u->t o i v H Q ->
  wpAny (model X.prog X.w) X.A (setItem g I u) (fun _ s'=>∃H',Inv X pins σ H' s'/\Q H') X.xe s
section
variable{X:Cx}{pos:Pos}
def GC(i:Nat):TG:=fun v σ H Q=>Q (σ.set i (some v)) H
def BJ{i:Nat}{x:Str}(R:X.N.Nodup)(hi:X.N[i]? = some x)(g:Loc X.env.scope x)(O:X.fn x=true\/X.env.scope.names.lookup x=some .local:=by first|exact .inl rfl|exact .inr rfl|assumption):PG X (.Name x pos) (GC i):=by
 intro pins s σ H v u Q I r h;exact wpAny_assign_Name (KP I R hi g r (fun s' T=>⟨_,H,T,h⟩) O)
def cc:UQ:=fun vs σ H Q=>vs=[]/\Q σ H
def RJ(t:TG)(u:UQ):UQ:=fun vs σ H Q=>∃v r,vs=v::r/\t v σ H fun g H'=>u r g H' Q
def LK:eu X [] cc:=by
 intro pins s σ H vs us Q I r h;obtain⟨e,h⟩:=h;subst e;cases r;exact assignInOrder_nil ⟨σ,H,I,h⟩
def Ef{e:Expr}{es:rg}{t:TG}{u:UQ}(U:PG X e t)(T:eu X es u) (R:(assignEach (e::es) X.env).map (·.2)=assign e X.env::(assignEach es X.env).map (·.2):=by rfl):eu X (e::es) (RJ t u):=by
 intro pins s σ H vs us Q I r h;obtain⟨v,vr,Y,h⟩:=h;subst Y;cases r with
 |cons r O=>
  rw[R];refine assignInOrder_cons (BG (U pins s σ H _ _ _ I r h) fun _ s1 ⟨g,H1,Z,q1⟩=>?_);exact T pins s1 g H1 _ _ Q Z O q1
def dk(K:Fg)(n:Nat)(t:UQ):TG:=fun v σ H Q=>∃a xs,v=.ref a/\BC K H a xs/\xs.length=n/\t xs σ H Q
def NV{es:rg}{k:Nat}{t:UQ}{n:Nat}(hc:X.calm=true)(h:eu X es t) (hn:(assignEach es X.env).length=n:=by rfl)(O:(assignEach es X.env).findIdx? (·.1)=none:=by rfl):PG X (.Tuple es k pos) (dk X.K n t):=by
 intro pins s σ H v u Q I r g;obtain⟨a,xs,e1,Z,hl,g⟩:=g;subst e1;cases r;obtain⟨T,R,Y,hz⟩:=I.tuple Z;refine assign_Tuple_tuple (I.ok.hd hc) Y (by simp[hn,<-hl,R.length]) O fun h' U=>?_;have I1:Inv X pins σ H {s with heap:=h'}:=I.kept (t':=s.toks) fun b o e=>U b o (aK (aF e)) e;exact h pins _ σ H xs _ Q I1 (by simpa using R) g
def qg(g I:TE)(t:YE):TG:=fun v σ H Q=>g σ H fun o T=>I σ T fun i R=>t o i v R fun O=>Q σ O
def Zt{o i:Expr}{to ti:TE}{t:YE}(ho:PE X o to)(hi:PE X i ti)(hs:d7 X t)
 (ha:∀v,assign (.Subscript o i pos) X.env v=(do
      let ov <-holding [v] (eval o X.env)
      let iv <-holding [v,ov] (eval i X.env)
      standAt pos
      holding [v,ov,iv] (setItem ov iv v)
      release [v,ov,iv] []):=by intro _;rfl):PG X (.Subscript o i pos) (qg to ti t):=by
  intro pins s σ H v u Q I r h
  rw[ha]
  refine Wb (aV (BG (ho pins s σ H _ I h) fun ov s1 ⟨x,H1,I1,r1,q1⟩=>?_))
  refine Wb (aV (BG (hi pins s1 σ H1 _ I1 q1) fun iv s2 ⟨y,H2,I2,r2,q2⟩=>?_))
  refine Wb (wpAny_standAt (Wb (aV (BG (hs pins s2 σ H2 x y v ov iv u _ I2 r1 r2 r q2) fun _ s3 ⟨H3,I3,q3⟩=>?_))))
  exact wpAny_release ⟨σ,H3,I3,q3⟩
def X7(I:TE)(g:TG):TS:=fun D σ H=>I σ H fun x O=>g x σ O D.nx
def UN{tg e:Expr}{O:TE}{g:TG}(Y:PE X e O)(hg:PG X tg g)(U:swapsWithSole [tg] e pos.line X.env=pure false:=by rfl)(T:swappedStores [tg] e X.env=pure none:=by rfl) (Z:(assignEach [tg] X.env).map (·.2)=[assign tg X.env]:=by rfl):PS X (.Assign [tg] e pos) (X7 O g):=by
 intro pins s σ H D I h;refine wpAny_Assign_stores (BG (Y pins s σ H _ I h) fun v s1 ⟨x,H1,I1,R,q1⟩=>?_) U T;rw[Z];exact BG (hg pins s1 σ H1 x v _ I1 R q1) fun _ s2 q=>q
def A8{i:Nat}{x:Str}{e:Expr}{O:TE}{g:Pos}(hN:X.N.Nodup)(hi:X.N[i]? = some x)(T:Loc X.env.scope x)(Z:PE X e O)(U:swapsWith e (some (.Name x g)) pos.line X.env=pure false:=by rfl)(Y:X.fn x=true\/X.env.scope.names.lookup x=some .local:=by first|exact .inl rfl|exact .inr rfl|assumption):PS X (.Assign [.Name x g] e pos) (X7 O (GC i)):=by
 intro pins s σ H D I h;refine wpAny_Assign_Name (BG (Z pins s σ H _ I h) fun v s1 ⟨y,H1,I1,R,q1⟩=>?_) U;exact KP I1 hN hi T R (fun s2 I2=>⟨_,H1,I2,q1⟩) Y
def qH(i j:Nat)(g:TA):TS:=fun D σ H=>g σ H fun vs I=>∃v w,vs=[v,w]/\D.nx ((σ.set i (some v)).set j (some w)) I
def lG{i j:Nat}{x y:Str}{a b:Expr}{ta:TA}{Z Y pt:Pos}{kt k2 O}(hc:X.calm=true)(hN:X.N.Nodup)(hi:X.N[i]? = some x)(hj:X.N[j]? = some y)(hij:i≠j) (hx:X.env.scope.names.lookup x=some .local)(hy:X.env.scope.names.lookup y=some .local)(ha:PA X [a,b] ta) (hw:swappedStores [.Tuple [.Name x Z,.Name y Y] kt pt] (.Tuple [a,b] k2 O) X.env=pure (some [x,y])) (hs:swapsWithSole [.Tuple [.Name x Z,.Name y Y] kt pt] (.Tuple [a,b] k2 O) pos.line X.env=pure false:=by rfl):PS X (.Assign [.Tuple [.Name x Z,.Name y Y] kt pt] (.Tuple [a,b] k2 O) pos) (qH i j ta):=by
 intro pins s σ H D I h;rw[exec_Assign_arm];refine Wb (wpAny_standAt ?_);rw[hs];refine Wb (aA ?_);rw[if_neg (by decide)];refine Wb (Tuple_ (BG (ha _ pins s σ H _ I h) fun us s1 ⟨vs,H1,I1,r1,q1⟩=>?_));obtain⟨v,w,e1,q1⟩:=q1;subst e1;obtain⟨T,R,rfl,rv,U⟩:∃T R,us=[T,R]/\RelV v T/\RelV w R:=by
  cases r1 with
  |cons p q=>
   cases q with
   |cons p' q'=>
    cases q';exact⟨_,_,rfl,p,p'⟩
 refine ah ?_ (by show 2<=sizeLine;decide);have I2:Inv X pins σ H1 {s1 with heap:=s1.heap.push { cls:=.type "tuple",data:=.seq [T,R].toArray} }:=I1.kept (t':=s1.toks) fun b o e=>aD _ e;rw[hw];refine Wb (aA ?_);show wpAny (model X.prog X.w) X.A (do rule "assign.swapped-stores"; let g <-unpackItems (.ref s1.heap.objs.size) 2 none;assignInOrder [fun v=>bindName X.env y v,fun v=>bindName X.env x v] g.reverse;pure Flow.next) _ _ _;refine Wb (aq (Wb (unpackItems_tuple (items:=#[T,R]) (I.ok.hd hc) (IsTup.new s1.heap _) fun h' hx'=>?_)));have I3:=I2.kept (h':=h') (t':=s1.toks) fun b o e=>hx' b o (aK (aF e)) e;show wpAny _ _ (assignInOrder [fun v=>bindName X.env y v,fun v=>bindName X.env x v] [R,T]>>=fun _=>pure Flow.next) _ _ _;refine Wb (assignInOrder_cons (wpAny_bindName (KP I3 hN hj (.inl hy) U (fun s2 I4=>?_) (.inr hy))));refine assignInOrder_cons (wpAny_bindName (KP I4 hN hi (.inl hx) rv (fun s3 I5=>assignInOrder_nil (aA ?_)) (.inr hx)));rw[List.set_comm _ _ (Ne.symm hij)]at I5;exact⟨_,H1,I5,q1⟩
end
section
variable{X:Cx}{pos:Pos}
def Zj(c:TT)(R:TS):TS:=fun D σ H=>∃W:Nat->St->Hp->Prop,(∃m,W m σ H)/\∀m σ H,W m σ H ->
 c σ H fun b O=>if b=true then ∃N:St->Hp->Prop,(∀g H',N g H'->∃I,I<m/\W I g H')/\R {D with nx:=N,ct:=N,bk:=D.nx} σ O else D.nx σ O
def P6{c:Expr}{R:sD}{tc:TT}{tb:TS}(hp:PassesOwn (model X.prog X.w) X.A X.env X.xe)(hc:PT X c tc)(hb:GV X R tb):PS X (.While c R [] pos) (Zj tc tb):=by
 intro pins s σ H D I h;obtain⟨W,⟨m0,w0⟩,turn⟩:=h;refine wpAny_While (codeAny_whileLoop (fun n s'=>∃T H',Inv X pins T H' s'/\W n T H') ?_ m0 ⟨σ,H,I,w0⟩);rintro n s1 ⟨O,H1,I1,w1⟩;refine wpAny_passesOwn hp (BG (hc pins s1 O H1 _ I1 (turn n O H1 w1)) fun b s2 ⟨H2,I2,Z⟩=>?_);cases b with
 |true=>
  obtain⟨N,hN,Z⟩:=Z;rw[if_pos rfl];refine wpAny_passesOwn hp (BG (hb pins s2 O H2 _ I2 Z) fun f s3 Y=>?_);cases f with
  |next=>
   obtain⟨g,U,I3,n3⟩:=Y;obtain⟨m',hm,w3⟩:=hN g U n3;exact⟨m',hm,g,U,I3,w3⟩
  |cont=>
   obtain⟨g,U,I3,n3⟩:=Y;obtain⟨m',hm,w3⟩:=hN g U n3;exact⟨m',hm,g,U,I3,w3⟩
  |brk=>exact Y
  |ret v=>exact Y
 |false=>
  rw[if_neg aI];exact wpAny_execs_nil ⟨O,H2,I2,Z⟩
end
structure It where
 go:Nat->Hp->Prop
 F4:Nat->Hp->V->Hp->Prop
 stop:Nat->Hp->Prop
def LH(X:Cx)(pins:List (AD×Obj))(H:Hp)(b:AD):Prop :=
 H b=none/\b≠X.env.locals/\b ∉ X.fs/\(b∈X.ex\/X.s₀.heap.objs.size<=b)/\(∀x c,X.env.cells.lookup x=some c->c≠b)/\∀p∈X.pn++pins,p.1≠b
def Inv.Rc{X:Cx}{pins:List (AD×Obj)}{σ:St}{H H':Hp}{s:SD}{b:AD}(I:Inv X pins σ H s)(hb:s.heap.objs.size<=b)(hn:H' b=none):LH X pins H' b:=by
 refine⟨hn,Nat.ne_of_gt (aL I.lt hb),I.qr hb,.inr (aR I.sz hb),fun x c e z=>?_,fun p g z=>?_⟩
 .obtain⟨v,q⟩:=I.cell x c e;exact absurd (aL q.lt (by rw[z];exact hb)) (Nat.lt_irrefl _)
 .exact absurd (aL (aF (I.pin p g).1) (by rw[z];exact hb)) (Nat.lt_irrefl _)
structure Turn(P:Program)(w:World)(K:Fg)(tg:Expr)(J:It)(fp:List Addr)(it:Addr)(tn:Nat->Heap->Prop):Prop where
 mem:it∈fp
 obj:∀i h,tn i h->∀b∈fp,∃o,h.get? b=some o/\∀v,o.data≠.cell v
 keep:∀i h h',tn i h->(∀b∈fp,∀o,h.get? b=some o->h'.get? b=some o)->tn i h'
 item:∀(X:Cx),X.prog=P->X.w=w->X.K=K->X.calm=true->∀(i:Nat) (pins:List (Addr×Obj)) (s:Shared) (σ:St) (H:Hp) (E:Value->Shared->Prop),Inv X pins σ H s->(∀b∈fp,LH X pins H b)->tn i s.heap->J.go i H ->
  wpAny (model P w) X.A (pyNext (.ref it)) (fun r s1=>∃u,r=some u /\
   wpAny (model P w) X.A (letOwnedTupleGo tg (.ref it) u) (fun _ s2=>∃x H',Inv X pins σ H' s2/\RelV x u/\J.F4 i H x H'/\tn (i+1) s2.heap/\∀b∈fp,H' b=none) E s1) E s
 done:∀(X:Cx),X.prog=P->X.w=w->X.K=K->X.calm=true->∀(i:Nat) (pins:List (Addr×Obj)) (s:Shared) (σ:St) (H:Hp) (E:Value->Shared->Prop),Inv X pins σ H s->(∀b∈fp,LH X pins H b)->tn i s.heap->J.stop i H ->
  wpAny (model P w) X.A (pyNext (.ref it)) (fun r s1=>r=none/\Inv X pins σ H s1) E s
 self:∀(A:Around) (i:Nat) (s:Shared) (Q:Value->Shared->Prop) (E:Value->Shared->Prop),tn i s.heap->Q (.ref it) s->wpAny (model P w) A (pyIter (.ref it)) Q E s
abbrev TI:=St->Hp->(It->Hp->Prop)->Prop
def oy(X:Cx)(pins:List (AD×Obj))(σ:St)(tg:Expr)(R:It->Hp->Prop)(g:VL)(s2:SD):Prop :=
 ∃(it:AD) (fp:List AD) (tn:Nat->Heap->Prop) (J:It) (H':Hp),g=.ref it/\Inv X pins σ H' s2/\Turn X.prog X.w X.K tg J fp it tn/\tn 0 s2.heap/\(∀b∈fp,LH X pins H' b)/\R J H'
def PI(X:Cx)(tg iter:Expr)(g:TI):Prop :=
 ∀(pins:List (AD×Obj)) (s:SD) (σ:St) (H:Hp) (R:It->Hp->Prop),Inv X pins σ H s->g σ H R ->
  wpAny (model X.prog X.w) X.A (eval iter X.env) (fun v s1=>wpAny (model X.prog X.w) X.A (pyIter v) (oy X pins σ tg R) X.xe s1) X.xe s
def YY{M:Model}{A:Around}{E:rV}{s:SD}{tg:Expr}{it:AD}{u:VL}{o:Obj}{n:String}{vs:Array VL}{Q:Unit->SD->Prop}(I:s.heap.get? it=some o)(O:o.cls=.type n)(hd:o.data=.fields vs) (hn:["enumerate","zip","dict_itemiterator","dict_reverseitemiterator","odict_iterator","itertools.zip_longest","itertools.pairwise"].contains n=false)(g:Q () s):wpAny M A (letOwnedTupleGo tg (.ref it) u) Q E s:=by
 unfold letOwnedTupleGo;cases tg<;>first
  |exact aA g
  |(cases u<;>first
    |exact aA g
    |(refine Wb (wpAny_load I ?_)
      rw[O,hd];show wpAny M A (if(["enumerate","zip","dict_itemiterator","dict_reverseitemiterator","odict_iterator","itertools.zip_longest","itertools.pairwise"].contains n&&vs[0]? == some (rawInt _))=true then _ else _) Q E s;rw[if_neg (by intro h;rw[hn,Bool.false_and]at h;cases h)];exact aA g))
def WL(K:Fg)(a:AD):It :=
 ⟨fun i H=>∃xs x,Al K H a xs/\xs[i]? = some x,fun i H x H'=>H'=H/\∀xs,Al K H a xs->xs[i]? = some x,fun i H=>∃xs,Al K H a xs/\xs.length<=i⟩
def XT(K:Fg)(a:AD):It :=
 ⟨fun i H=>∃xs x,BC K H a xs/\xs[i]? = some x,fun i H x H'=>H'=H/\∀xs,BC K H a xs->xs[i]? = some x,fun i H=>∃xs,BC K H a xs/\xs.length<=i⟩
def Sr(lo:Int)(n:Nat):It:=⟨fun i _=>i<n,fun i H x H'=>H'=H/\x=.int (lo+i),fun i _=>n<=i⟩
def bf{P:Program}{w:World}{K:Fg}{tg:Expr}(a it:AD):Turn P w K tg (WL K a) [it] it (fun i h=>h.IsListIter it a i) where
 mem:=by simp
 obj:=fun i h st b hb=>by
  have e:b=it:=by simpa using hb
  subst e;obtain⟨o,e,c,d⟩:=st;exact⟨o,e,fun v z=>by rw[d]at z;cases z⟩
 keep:=fun i h h' st k=>st.at fun o e=>k it (by simp) o e
 item:=by
  intro X hP hw hK hc i pins s σ H E I hf st hg;subst hP hw hK;obtain⟨xs,x,hq,hx⟩:=hg;obtain⟨its,rv,p,hz⟩:=I.list hq;obtain⟨u,hu,ru⟩:=rv.get hx;obtain⟨f0,f1,f2,f3,f4,f5⟩:=hf it (by simp);refine wpAny_pyNext_list_item st p.isList (x:=u) (by simpa using hu) fun h' st' sb=>?_;have I1:Inv X pins σ H {s with heap:=h'}:=I.turned (t':=s.toks) (fun b o hb e=>(sb.2 b hb).trans e) f0 f1 f3 f4 f5;obtain⟨o,e,c,d⟩:=id st';exact⟨u,rfl,YY (s:={s with heap:=h'}) e c d (by decide) ⟨x,H,I1,ru,⟨rfl,fun ys hy=>by rw[I.U3 hy hq];exact hx⟩,st',fun b hb=>(hf b hb).1⟩⟩
 done:=by
  intro X hP hw hK hc i pins s σ H E I hf st hg;subst hP hw hK;obtain⟨xs,hq,hx⟩:=hg;obtain⟨its,rv,p,hz⟩:=I.list hq;obtain⟨f0,f1,f2,f3,f4,f5⟩:=hf it (by simp);have hl:=rv.length;exact wpAny_pyNext_list_end (I.ok.hd hc) st p.isList (by simp;lia) fun h' eb=>⟨rfl,I.turned (t':=s.toks) (fun b o hb e=>eb b o hb e) f0 f1 f3 f4 f5⟩
 self:=fun _ _ _ _ _ st h=>wpAny_pyIter_listiter st h
def YB{P:Program}{w:World}{K:Fg}{tg:Expr}(a it:AD):Turn P w K tg (XT K a) [it] it (fun i h=>h.IsTupleIter it a i) where
 mem:=by simp
 obj:=fun i h st b hb=>by
  have e:b=it:=by simpa using hb
  subst e;obtain⟨o,e,c,d⟩:=st;exact⟨o,e,fun v z=>by rw[d]at z;cases z⟩
 keep:=fun i h h' st k=>st.at fun o e=>k it (by simp) o e
 item:=by
  intro X hP hw hK hc i pins s σ H E I hf st hg;subst hP hw hK;obtain⟨xs,x,hq,hx⟩:=hg;obtain⟨its,rv,p,hz⟩:=I.tuple hq;obtain⟨u,hu,ru⟩:=rv.get hx;obtain⟨f0,f1,f2,f3,f4,f5⟩:=hf it (by simp);refine wpAny_pyNext_tuple_item st (show s.heap.IsTuple a its.toArray from p) (x:=u) (by simpa using hu) fun h' st' sb=>?_;have I1:Inv X pins σ H {s with heap:=h'}:=I.turned (t':=s.toks) (fun b o hb e=>(sb.2 b hb).trans e) f0 f1 f3 f4 f5;obtain⟨o,e,c,d⟩:=id st';exact⟨u,rfl,YY (s:={s with heap:=h'}) e c d (by decide) ⟨x,H,I1,ru,⟨rfl,fun ys hy=>by rw[I.Si hy hq];exact hx⟩,st',fun b hb=>(hf b hb).1⟩⟩
 done:=by
  intro X hP hw hK hc i pins s σ H E I hf st hg;subst hP hw hK;obtain⟨xs,hq,hx⟩:=hg;obtain⟨its,rv,p,hz⟩:=I.tuple hq;obtain⟨f0,f1,f2,f3,f4,f5⟩:=hf it (by simp);have hl:=rv.length;exact wpAny_pyNext_tuple_end (I.ok.hd hc) st (show s.heap.IsTuple a its.toArray from p) (by simp;lia) fun h' eb=>⟨rfl,I.turned (t':=s.toks) (fun b o hb e=>eb b o hb e) f0 f1 f3 f4 f5⟩
 self:=fun _ _ _ _ _ st h=>wpAny_pyIter_tupleiter st h
def Yk{P:Program}{w:World}{K:Fg}{tg:Expr}(it:AD)(lo:Int)(n:Nat):Turn P w K tg (Sr lo n) [it] it (fun i h=>IsRangeIter h it (lo+(i:Nat)*1) ((n:Int)-(i:Nat)) 1) where
 mem:=by simp
 obj:=fun i h st b hb=>by
  have e:b=it:=by simpa using hb
  subst e;exact⟨_,st,fun v z=>by
   have z':Data.fields _=Data.cell v:=z;cases z'⟩
 keep:=fun i h h' st k=>k it (by simp) _ st
 item:=by
  intro X hP hw hK hc i pins s σ H E I hf st hg;subst hP hw hK;obtain⟨f0,f1,f2,f3,f4,f5⟩:=hf it (by simp);have W:=Walks.range (prog:=X.prog) (w:=X.w) (I.ok.hd hc) it lo 1 n;refine W.item i s _ _ hg st fun v h' tk hv st' kk=>?_;obtain⟨t,rfl⟩:=hv;have I1:Inv X pins σ H {s with heap:=h',toks:=tk}:=I.turned (fun b o hb e=>kk b o (by simpa using hb) e) f0 f1 f3 f4 f5;refine⟨_,rfl,YY (s:={s with heap:=h',toks:=tk}) (n := "range_iterator") st' rfl rfl (by decide) ⟨.int (lo+i),H,I1,⟨t,?_⟩,⟨rfl,rfl⟩,st',fun b hb=>(hf b hb).1⟩⟩;rw[Int.mul_one]
 done:=by
  intro X hP hw hK hc i pins s σ H E I hf st hg;subst hP hw hK;obtain⟨f0,f1,f2,f3,f4,f5⟩:=hf it (by simp);exact wpAny_pyNext_range_end (I.ok.hd hc) st (by have:n<=i:=hg;lia) fun h' eb=>⟨rfl,I.turned (t':=s.toks) (fun b o hb e=>eb b o hb e) f0 f1 f3 f4 f5⟩
 self:=fun _ _ _ _ _ st h=>wpAny_pyIter_rangeiter st h
section
variable{X:Cx}{tg:Expr}
def oK(K:Fg)(I:TE):TI:=fun σ H R=>I σ H fun x g=>∃a,x=.ref a/\(∃xs,Al K g a xs)/\R (WL K a) g
def qP(K:Fg)(I:TE):TI:=fun σ H R=>I σ H fun x g=>∃a,x=.ref a/\(∃xs,BC K g a xs)/\R (XT K a) g
def Fe{l:Expr}{O:TE}(Z:PE X l O):PI X tg l (oK X.K O):=by
 intro pins s σ H R I h;refine BG (Z pins s σ H _ I h) fun v s1 ⟨x,H1,g,T,q1⟩=>?_;obtain⟨a,e,⟨xs,Y⟩,q⟩:=q1;subst e;cases T;obtain⟨U,rv,p,hz⟩:=g.list Y;refine wpAny_pyIter_list p.isList ?_;refine⟨s1.heap.objs.size,[s1.heap.objs.size],_,_,H1,rfl,g.kept (t':=s1.toks) fun b o e=>aD _ e,bf a _,⟨_,Heap.get?_push_size _ rfl,rfl,rfl⟩,fun b hb=>?_,q⟩;have e:b=s1.heap.objs.size:=by simpa using hb
 subst e;exact g.Rc (aH _) (g.Ap.fresh (aH _))
def UJ{l:Expr}{T:TE}(Z:PE X l T):PI X tg l (qP X.K T):=by
 intro pins s σ H R I h;refine BG (Z pins s σ H _ I h) fun v s1 ⟨x,H1,g,U,q1⟩=>?_;obtain⟨a,e,⟨xs,Y⟩,q⟩:=q1;subst e;cases U;obtain⟨O,rv,p,hz⟩:=g.tuple Y;refine wpAny_pyIter_tuple (show s1.heap.IsTuple a O.toArray from p) ?_;refine⟨s1.heap.objs.size,[s1.heap.objs.size],_,_,H1,rfl,g.kept (t':=s1.toks) fun b o e=>aD _ e,YB a _,⟨_,Heap.get?_push_size _ rfl,rfl,rfl⟩,fun b hb=>?_,q⟩;have e:b=s1.heap.objs.size:=by simpa using hb
 subst e;exact g.Rc (aH _) (g.Ap.fresh (aH _))
def Ur{pins:List (AD×Obj)}{σ:St}{H:Hp}{s:SD}{R:It->Hp->Prop}{E:rV}{lo hi:Int}{t u v:Tok}{tk:Nat}(I:Inv X pins σ H s)(Y:-(2^62)<=lo)(U:lo<2^62)(T:-(2^62)<=hi)(O:hi<2^62) (q:R (Sr lo (hi-lo).toNat) H):wpAny (model X.prog X.w) X.A (pyIter (.ref s.heap.objs.size)) (oy X pins σ tg R) E {s with heap:=s.heap.push { cls:=.type "range",data:=.fields #[.int lo t,.int hi u,.int 1 v]},toks:=tk}:=by
 refine wpAny_pyIter_range (IsRange.new ..) (small_one Y U T O) ?_;have g:Inv X pins σ H {s with heap:=s.heap.push { cls:=.type "range",data:=.fields #[.int lo t,.int hi u,.int 1 v]},toks:=tk}:=I.kept fun b o e=>aD _ e;refine⟨(s.heap.push { cls:=.type "range",data:=.fields #[.int lo t,.int hi u,.int 1 v]}).objs.size,[(s.heap.push { cls:=.type "range",data:=.fields #[.int lo t,.int hi u,.int 1 v]}).objs.size],_,_,H,rfl,
  g.kept (t':=tk) fun b o e=>aD _ e,Yk _ lo (hi-lo).toNat,?_,fun b hb=>?_,q⟩
 .have e1:lo+((0:Nat):Int)*1=lo:=by simp
  have Z:(((hi-lo).toNat:Nat):Int)-((0:Nat):Int)=Builtin.Range.rangeSize lo hi 1:=by rw[rangeSize_one];split<;>lia
  show IsRangeIter _ _ (lo+((0:Nat):Int)*1) ((((hi-lo).toNat:Nat):Int)-((0:Nat):Int)) 1;rw[e1,Z];exact aP _ rfl
 .have e:b=(s.heap.push { cls:=.type "range",data:=.fields #[.int lo t,.int hi u,.int 1 v]}).objs.size:=by simpa using hb
  subst e;exact g.Rc (aH _) (g.Ap.fresh (aH _))
def oA(g:TA):TI:=fun σ H R=>g σ H fun vs I=>∃j:Int,vs=[.int j]/\-(2^62)<=j/\j<2^62/\R (Sr 0 j.toNat) I
def nB(g:TA):TI:=fun σ H R=>g σ H fun vs I=>∃i j:Int,vs=[.int i,.int j]/\(-(2^62)<=i/\i<2^62/\-(2^62)<=j/\j<2^62)/\R (Sr i (j-i).toNat) I
def NF{a:Expr}{g:TA}{p pos:Pos}(hg:Gl X "range")(hm:X.mg "range" = none)(ha:PA X [a] g)(Y:starEach [a] X.env=[(false,eval a X.env)]:=by rfl):PI X tg (.Call (.Name "range" p) [a] [] pos) (oA g):=by
 intro pins s σ H R I h;refine Call_ (HH I hg hm boot_range (bD (BG (ha pos pins s σ H _ I h) fun us s1 ⟨vs,H1,Z,T,q1⟩=>?_) Y rfl));obtain⟨j,e,q1,U,q⟩:=q1;subst e;cases T with
 |cons r O=>
  cases O;obtain⟨t,rfl⟩:=r;exact call_range_1 (Ur Z (by lia) (by lia) q1 U (by simpa using q))
def Yu{a b:Expr}{T:TA}{p pos:Pos}(hg:Gl X "range")(hm:X.mg "range" = none)(ha:PA X [a,b] T)(hs:starEach [a,b] X.env=[(false,eval a X.env),(false,eval b X.env)]:=by rfl)(g:starEach [b] X.env=[(false,eval b X.env)]:=by rfl):PI X tg (.Call (.Name "range" p) [a,b] [] pos) (nB T):=by
 intro pins s σ H R I h;refine Call_ (HH I hg hm boot_range (bD (BG (ha pos pins s σ H _ I h) fun us s1 ⟨vs,H1,I1,U,q1⟩=>?_) (by rw[hs,g]) (by rw[g];rfl)));obtain⟨i,j,e,⟨q1,q2,q3,Z⟩,q⟩:=q1;subst e;cases U with
 |cons r O=>
  cases O with
  |cons Y O=>
   cases O;obtain⟨t,rfl⟩:=r;obtain⟨t',rfl⟩:=Y;exact call_range_2 (Ur I1 q1 q2 q3 Z q)
def qU(T:TI)(g:TG)(U:TS):TS:=fun D σ H=>T σ H fun J Z=>∃W:Nat->Nat->St->Hp->Prop,(∃m,W 0 m σ Z)/\∀i m σ H,W i m σ H ->
 (J.stop i H/\D.nx σ H)\/(J.go i H/\∃N:St->Hp->Prop,(∀I H',N I H'->∃R,R<m/\W (i+1) R I H')/\∀x H',J.F4 i H x H'->g x σ H' fun O Y=>U {D with nx:=N,ct:=N,bk:=D.nx} O Y)
def Nt(fp:sC)(h:Heap):List (AD×Obj):=fp.filterMap fun b=>(h.get? b).map fun o=>(b,o)
def JU{fp:sC}{h:Heap}{b:AD}{o:Obj}(hb:b∈fp)(e:h.get? b=some o):(b,o)∈Nt fp h:=List.mem_filterMap.mpr ⟨b,hb,by rw[e];rfl⟩
def Zc{fp:sC}{h:Heap}{p:AD×Obj}(g:p∈Nt fp h):p.1∈fp/\h.get? p.1=some p.2:=by
 obtain⟨b,hb,e⟩:=List.mem_filterMap.mp g;cases q:h.get? b with
 |none=>rw[q]at e;cases e
 |some o=>
  rw[q]at e;have I:(b,o)=p:=af e;subst I;exact⟨hb,q⟩
def Inv.pinned{pins:List (AD×Obj)}{σ:St}{H:Hp}{s:SD}{fp:sC}(I:Inv X pins σ H s)(T:∀b∈fp,LH X pins H b)(R:∀b∈fp,∃o,s.heap.get? b=some o/\∀v,o.data≠.cell v):Inv X (pins++Nt fp s.heap) σ H s :=
 I.XH fun p O=>(bS.mp O).elim (fun z=>I.pin p (aY _ z)) fun z=>by
  obtain⟨hb,e⟩:=Zc z;obtain⟨U,f1,f2,_⟩:=T p.1 hb;obtain⟨o,g,d⟩:=R p.1 hb;rw[e]at g;cases g;exact⟨e,U,f1,f2,d⟩
def Inv.MJ{pins pl:List (AD×Obj)}{σ:St}{H:Hp}{s:SD}(I:Inv X (pins++pl) σ H s):Inv X pins σ H s:=I.XH fun p g=>I.pin p (aY _ (List.mem_append_left _ g))
def IP{iter:Expr}{body:sD}{wi:TI}{g:TG}{tb:TS}{pos:Pos}(hp:PassesOwn (model X.prog X.w) X.A X.env X.xe)(hc:X.calm=true)(hi:PI X tg iter wi)(hg:PG X tg g)(hb:GV X body tb) (hs:∀x,foldedSetIterable iter X.env x=pure x:=by intro _;rfl):PS X (.For tg iter body [] pos) (qU wi g tb):=by
 intro pins s σ H D I h;refine wpAny_For (BG (hi pins s σ H _ I h) fun v s1 h1=>BG h1 fun itv s2 h2=>?_) hs;obtain⟨it,fp,tn,J,H2,e,I2,T,st2,f2,W,⟨m0,w0⟩,turn⟩:=h2;subst e;have Y:∀ {H':Hp},(∀b∈fp,H' b=none)->∀b∈fp,LH X pins H' b:=fun hn b hb=>⟨hn b hb,(f2 b hb).2⟩;refine codeAny_forLoop_any (fun n s'=>∃i U H',Inv X pins U H' s'/\tn i s'.heap/\(∀b∈fp,H' b=none)/\W i n U H') ?_ m0 ⟨0,σ,H2,I2,st2,fun b hb=>(f2 b hb).1,w0⟩;rintro n s3 ⟨i,R,H3,I3,st3,fr3,w3⟩;rcases turn i n R H3 w3 with ⟨stop,qn⟩|⟨go,N,hN,step⟩
 .refine wpAny_passesOwn hp (BG (T.done X rfl rfl rfl hc i pins s3 R H3 X.xe I3 (Y fr3) st3 stop) fun r s4 ⟨hr,I4⟩=>?_);subst hr;exact wpAny_execs_nil ⟨R,H3,I4,qn⟩
 .refine wpAny_passesOwn hp (BG (T.item X rfl rfl rfl hc i pins s3 R H3 X.xe I3 (Y fr3) st3 go) fun r s4 ⟨u,hr,h4⟩=>?_);subst hr;refine wpAny_passesOwn hp (BG h4 fun _ s5 ⟨x,H5,I5,r5,y5,st5,fr5⟩=>?_);have I5':=I5.pinned (Y fr5) (T.obj _ _ st5);refine wpAny_passesOwn hp (BG (hg _ s5 R H5 x u _ I5' r5 (step x H5 y5)) fun _ s6 ⟨σ6,H6,I6,q6⟩=>?_);refine wpAny_passesOwn hp (BG (hb _ s6 σ6 H6 _ I6 q6) fun f s7 q7=>?_);have again:∀ {O:St} {H7:Hp},Inv X (pins++Nt fp s5.heap) O H7 s7->N O H7->∃m,m<n/\∃i U H',Inv X pins U H' s7/\tn i s7.heap/\(∀b∈fp,H' b=none)/\W i m U H':=fun {O H7} Z n7=>by
   obtain⟨m',hm,w7⟩:=hN O H7 n7;refine⟨m',hm,i+1,O,H7,Z.MJ,T.keep _ _ _ st5 fun b hb o e=>(Z.pin (b,o) (aY _ (aY _ (JU hb e)))).1,fun b hb=>?_,w7⟩;obtain⟨o,e,d⟩:=T.obj _ _ st5 b hb;exact(Z.pin (b,o) (aY _ (aY _ (JU hb e)))).2.1
  cases f with
  |next=>obtain⟨O,H7,Z,n7⟩:=q7;exact again Z n7
  |cont=>obtain⟨O,H7,Z,n7⟩:=q7;exact again Z n7
  |brk=>obtain⟨O,H7,Z,q7⟩:=q7;exact⟨O,H7,Z.MJ,q7⟩
  |ret v=>obtain⟨x7,O,H7,Z,r7,q7⟩:=q7;exact⟨x7,O,H7,Z.MJ,r7,q7⟩
end
def Pr{K:Fg}{a:AD}{xs:rq}{g:TG}{U:TS}{D:Ends}{σ:St}{H:Hp}(Pv:Nat->St->Hp->Prop)(h0:Pv 0 σ H)(hl:∀i σ H,i<=xs.length->Pv i σ H->Al K H a xs) (hs:∀i x σ H,xs[i]? = some x->Pv i σ H->g x σ H fun I T=>U {D with nx:=Pv (i+1),ct:=Pv (i+1),bk:=D.nx} I T)(hd:∀σ H,Pv xs.length σ H->D.nx σ H):∃W:Nat->Nat->St->Hp->Prop,(∃m,W 0 m σ H)/\∀i m σ H,W i m σ H ->((WL K a).stop i H/\D.nx σ H)\/((WL K a).go i H/\∃N:St->Hp->Prop,(∀O H',N O H'->∃Y,Y<m/\W (i+1) Y O H')/\∀x H',(WL K a).F4 i H x H'->g x σ H' fun I T=>U {D with nx:=N,ct:=N,bk:=D.nx} I T):=by
 refine⟨fun i m σ H=>m=xs.length-i/\i<=xs.length/\Pv i σ H,⟨xs.length,by simp,Nat.zero_le _,h0⟩,?_⟩;rintro i m σ H ⟨rfl,hi,p⟩;have q:=hl i σ H hi p;by_cases R:i<xs.length
 .refine .inr ⟨⟨xs,xs[i],q,by simp[R]⟩,Pv (i+1),fun O H' Z=>⟨xs.length-(i+1),by lia,rfl,R,Z⟩,fun x H' y=>?_⟩;obtain⟨e,y⟩:=y;subst e;exact hs i x σ _ (y xs q) p
 .have e:i=xs.length:=by lia
  subst e;exact .inl ⟨⟨xs,q,Nat.le_refl _⟩,hd σ H p⟩
def iJ{K:Fg}{a:AD}{xs:rq}{g:TG}{U:TS}{D:Ends}{σ:St}{H:Hp}(Pv:Nat->St->Hp->Prop)(h0:Pv 0 σ H)(hl:∀i σ H,i<=xs.length->Pv i σ H->BC K H a xs) (hs:∀i x σ H,xs[i]? = some x->Pv i σ H->g x σ H fun I T=>U {D with nx:=Pv (i+1),ct:=Pv (i+1),bk:=D.nx} I T)(hd:∀σ H,Pv xs.length σ H->D.nx σ H):∃W:Nat->Nat->St->Hp->Prop,(∃m,W 0 m σ H)/\∀i m σ H,W i m σ H ->((XT K a).stop i H/\D.nx σ H)\/((XT K a).go i H/\∃N:St->Hp->Prop,(∀O H',N O H'->∃Y,Y<m/\W (i+1) Y O H')/\∀x H',(XT K a).F4 i H x H'->g x σ H' fun I T=>U {D with nx:=N,ct:=N,bk:=D.nx} I T):=by
 refine⟨fun i m σ H=>m=xs.length-i/\i<=xs.length/\Pv i σ H,⟨xs.length,by simp,Nat.zero_le _,h0⟩,?_⟩;rintro i m σ H ⟨rfl,hi,p⟩;have q:=hl i σ H hi p;by_cases R:i<xs.length
 .refine .inr ⟨⟨xs,xs[i],q,by simp[R]⟩,Pv (i+1),fun O H' Z=>⟨xs.length-(i+1),by lia,rfl,R,Z⟩,fun x H' y=>?_⟩;obtain⟨e,y⟩:=y;subst e;exact hs i x σ _ (y xs q) p
 .have e:i=xs.length:=by lia
  subst e;exact .inl ⟨⟨xs,q,Nat.le_refl _⟩,hd σ H p⟩
def Sa{lo:Int}{n:Nat}{g:TG}{U:TS}{D:Ends}{σ:St}{H:Hp}(Pv:Nat->St->Hp->Prop)(h0:Pv 0 σ H) (hs:∀i σ H,i<n->Pv i σ H->g (.int (lo+i)) σ H fun I T=>U {D with nx:=Pv (i+1),ct:=Pv (i+1),bk:=D.nx} I T)(hd:∀σ H,Pv n σ H->D.nx σ H):∃W:Nat->Nat->St->Hp->Prop,(∃m,W 0 m σ H)/\∀i m σ H,W i m σ H ->((Sr lo n).stop i H/\D.nx σ H)\/((Sr lo n).go i H/\∃N:St->Hp->Prop,(∀O H',N O H'->∃Y,Y<m/\W (i+1) Y O H')/\∀x H',(Sr lo n).F4 i H x H'->g x σ H' fun I T=>U {D with nx:=N,ct:=N,bk:=D.nx} I T):=by
 refine⟨fun i m σ H=>m=n-i/\i<=n/\Pv i σ H,⟨n,by simp,Nat.zero_le _,h0⟩,?_⟩;rintro i m σ H ⟨rfl,hi,p⟩;by_cases R:i<n
 .refine .inr ⟨R,Pv (i+1),fun O H' Z=>⟨n-(i+1),by lia,rfl,R,Z⟩,fun x H' y=>?_⟩;obtain⟨e,y⟩:=y;subst e y;exact hs i σ _ R p
 .have e:i=n:=by lia
  subst e;exact .inl ⟨aH _,hd σ H p⟩
def P9{c:TT}{R:TS}{D:Ends}{σ:St}{H:Hp}(Pv:St->Hp->Prop)(O:St->Hp->Nat)(h0:Pv σ H) (Y:∀σ H,Pv σ H->c σ H fun b I=>if b=true then R {D with nx:=fun g H'=>Pv g H'/\O g H'<O σ H,ct:=fun g H'=>Pv g H'/\O g H'<O σ H,bk:=D.nx} σ I else D.nx σ I) (mono:∀σ H Q T,(∀b I,Q b I->T b I)->c σ H Q->c σ H T):Zj c R D σ H:=by
 refine⟨fun m σ H=>m=O σ H/\Pv σ H,⟨_,rfl,h0⟩,?_⟩;rintro m σ H ⟨rfl,p⟩;refine mono σ H _ _ (fun b I q=>?_) (Y σ H p);cases b with
 |true=>exact⟨_,fun g H' ⟨U,l⟩=>⟨_,l,rfl,U⟩,q⟩
 |false=>exact q
abbrev R2:=V->V->Hp->VK->Prop
def C6(X:Cx)(f:VL->VL->Sem VL)(r:R2):Prop :=
 ∀(pins:List (AD×Obj)) (s:SD) (σ:St) (H:Hp) (x y:V) (v u:VL) (Q:VK),Inv X pins σ H s->RelV x v->RelV y u->r x y H Q ->
  wpAny (model X.prog X.w) X.A (f v u) (EP X pins σ Q) X.xe s
def jU(X:Cx)(f:VL->Sem VL)(r:V->Hp->VK->Prop):Prop :=
 ∀(pins:List (AD×Obj)) (s:SD) (σ:St) (H:Hp) (x:V) (v:VL) (Q:VK),Inv X pins σ H s->RelV x v->r x H Q ->
  wpAny (model X.prog X.w) X.A (f v) (EP X pins σ Q) X.xe s
def D4(X:Cx)(f:VL)(r:List V->Hp->VK->Prop):Prop :=
 ∀(pins:List (AD×Obj)) (s:SD) (σ:St) (H:Hp) (xs:List V) (us:List VL) (Q:VK),Inv X pins σ H s->Vals xs us->r xs H Q ->
  wpAny (model X.prog X.w) X.A (call f us) (EP X pins σ Q) X.xe s
def Yr(r:R2)(I g:TE):TE:=fun σ H Q=>I σ H fun x R=>g σ R fun y O=>r x y O Q
def q8(r:V->Hp->VK->Prop)(g:TE):TE:=fun σ H Q=>g σ H fun x I=>r x I Q
def rI(C:Int->Int->Prop)(g:Int->Int->V):R2:=fun x y H Q=>∃i j,x=.int i/\y=.int j/\C i j/\Q (g i j) H
def S0(g:Int->Int->V):R2:=fun x y H Q=>∃i j,x=.int i/\y=.int j/\Q (g i j) H
def rU(g:Int->V):V->Hp->VK->Prop:=fun x H Q=>∃i,x=.int i/\Q (g i) H
section
variable{X:Cx}{a b:Expr}{ta tb:TE}{pos:Pos}
def K7(ha:PE X a ta)(hb:PE X b tb){pins:List (AD×Obj)}{s:SD}{σ:St}{H:Hp}{R:V->V->Hp->Prop}(I:Inv X pins σ H s) (h:ta σ H fun x U=>tb σ U fun y g=>R x y g){Q:rV}{f:VL->VL->Sem VL} (hf:∀v u s2 x y g,Inv X pins σ g s2->RelV x v->RelV y u->R x y g->wpAny (model X.prog X.w) X.A (f v u) Q X.xe s2):wpAny (model X.prog X.w) X.A (eval a X.env) (fun v T=>wpAny (model X.prog X.w) X.A (eval b X.env) (fun u O=>wpAny (model X.prog X.w) X.A (f v u) Q X.xe O) X.xe T) X.xe s:=by
 refine BG (ha pins s σ H _ I h) fun v s1 ⟨x,U,I1,Z,q1⟩=>?_;refine BG (hb pins s1 σ U _ I1 q1) fun u s2 ⟨y,g,I2,Y,q2⟩=>?_;exact hf v u s2 x y g I2 Z Y q2
def BO{op:Operator}{r:R2}(R:C6 X (binaryOp op) r)(ha:PE X a ta)(hb:PE X b tb):PE X (.BinOp a op b pos) (Yr r ta tb):=by
 intro pins s σ H Q I h;exact wpAny_BinOp (K7 ha hb I h fun v u s2 x y U T O g q=>R pins s2 σ U x y v u Q T O g q)
def YH{op:UnaryOp}{r:V->Hp->VK->Prop}(O:jU X (unaryOp op) r)(ha:PE X a ta):PE X (.UnaryOp op a pos) (q8 r ta):=by
 intro pins s σ H Q I h;exact UnaryOp_ (BG (ha pins s σ H _ I h) fun v s1 ⟨x,T,R,g,q1⟩=>O pins s1 σ T x v Q R g q1)
def XE{f:VL->VL->Sem VL}{C:Int->Int->Prop}{g:Int->Int->Int} (rule:∀(i j:Int) (t u:Tok) (s:SD) (Q:rV) (E:rV),C i j->Q (.int (g i j) s.toks) {s with toks:=s.toks+1}->wpAny (model X.prog X.w) X.A (f (.int i t) (.int j u)) Q E s):C6 X f (rI C fun i j=>.int (g i j)):=by
 intro pins s σ H x y v u Q I T R h;obtain⟨i,j,rfl,rfl,U,q⟩:=h;obtain⟨t,rfl⟩:=T;obtain⟨O,rfl⟩:=R;exact rule i j t O s _ _ U ⟨.int (g i j),H,I.tok _,⟨_,rfl⟩,q⟩
def jb{f:VL->VL->Sem VL}{g:Int->Int->Int} (rule:∀(i j:Int) (t u:Tok) (s:SD) (Q:rV) (E:rV),Q (.int (g i j) s.toks) {s with toks:=s.toks+1}->wpAny (model X.prog X.w) X.A (f (.int i t) (.int j u)) Q E s):C6 X f (S0 fun i j=>.int (g i j)):=by
 intro pins s σ H x y v u Q I T R h;obtain⟨i,j,rfl,rfl,q⟩:=h;obtain⟨t,rfl⟩:=T;obtain⟨O,rfl⟩:=R;exact rule i j t O s _ _ ⟨.int (g i j),H,I.tok _,⟨_,rfl⟩,q⟩
def cP{f:VL->VL->Sem VL}{g:Int->Int->Bool} (rule:∀(i j:Int) (t u:Tok) (s:SD) (Q:rV) (E:rV),Q (.bool (g i j)) s->wpAny (model X.prog X.w) X.A (f (.int i t) (.int j u)) Q E s):C6 X f (S0 fun i j=>.bl (g i j)):=by
 intro pins s σ H x y v u Q I T R h;obtain⟨i,j,rfl,rfl,q⟩:=h;obtain⟨t,rfl⟩:=T;obtain⟨O,rfl⟩:=R;exact rule i j t O s _ _ ⟨.bl (g i j),H,I,rfl,q⟩
def qN(i j:Int):Prop:=0<j/\j<1073741824
def qK(i j:Int):Prop:=0<=j/\j<=1000000/\i.natAbs<2^64
def VM(i j:Int):Prop:=(-(2^64)<i/\i<2^64)\/(-(2^64)<j/\j<2^64)
def VM.ok{i j:Int}(h:VM i j):IntMulOk i j:=by
 rcases h with ⟨I,g⟩|⟨I,g⟩
 .exact .of_left (intBits_le_64 I g)
 .exact .of_right (intBits_le_64 I g)
def NK:C6 X (binaryOp .Add) (S0 fun i j=>.int (i+j)):=jb fun _ _ _ _ _ _ _ q=>add_int q
def VS:C6 X (binaryOp .Sub) (S0 fun i j=>.int (i-j)):=jb fun _ _ _ _ _ _ _ q=>sub_int q
def GN:C6 X (binaryOp .FloorDiv) (rI qN fun i j=>.int (i / j)):=XE fun i j _ _ _ _ _ g q=>by
 have O:(0:Int)<j:=g.1;have I:j<1073741824:=g.2;exact floordiv_int (by lia) (by rw[Int.fdiv_eq_ediv_of_nonneg i (by lia)];exact q) (.inl (PyProof.noPylong_small (by lia)))
def Nr:C6 X (binaryOp .Mod) (rI (fun _ j=>0<j) fun i j=>.int (i % j)):=XE fun i j _ _ _ _ _ g q=>by
 have I:(0:Int)<j:=g;exact mod_int' (by lia) (by rw[Int.fmod_eq_emod_of_nonneg i (by lia)];exact q)
def Lz:C6 X (binaryOp .Mod) (rI (fun _ j=>j≠0) fun i j=>.int (i.fmod j)):=XE fun _ _ _ _ _ _ _ g q=>mod_int' g q
def lS:C6 X (binaryOp .Pow) (rI qK fun i j=>.int (i^j.toNat)):=XE fun _ _ _ _ _ _ _ g q=>pow_int_small g.1 g.2.1 g.2.2 q
def rD{f:VL->Sem VL}{g:Int->Int} (rule:∀(i:Int) (t:Tok) (s:SD) (Q:rV) (E:rV),Q (.int (g i) s.toks) {s with toks:=s.toks+1}->wpAny (model X.prog X.w) X.A (f (.int i t)) Q E s):jU X f (rU fun i=>.int (g i)):=by
 intro pins s σ H x v Q I O h;obtain⟨i,rfl,q⟩:=h;obtain⟨t,rfl⟩:=O;exact rule i t s _ _ ⟨.int (g i),H,I.tok _,⟨_,rfl⟩,q⟩
def UY:jU X (unaryOp .USub) (rU fun i=>.int (-i)):=rD fun _ _ _ _ _ q=>neg_int q
end
def kB:V->V->Bool
 |.BP,.BP=>true|.BP,.int _=>true|.int _,.BP=>true|.BP,.bl _=>true|.bl _,.BP=>true|.BP,.str _=>true|.str _,.BP=>true
 |.int _,.int _=>true|.bl _,.bl _=>true|.str _,.str _=>true|.Nb _,.Nb _=>true
 |.int _,.str _=>true|.str _,.int _=>true|.bl _,.str _=>true|.str _,.bl _=>true
 |_,_=>false
def rH:R2:=fun x y H Q=>kB x y=true/\Q (.bl (decide (x=y))) H
def rF:R2:=fun x y H Q=>kB x y=true/\Q (.bl (!decide (x=y))) H
def XJ{i j:Int}:decide (V.int i=V.int j)=(i==j):=by
 rw[Bool.eq_iff_iff];simp
def ZO{i j:Bool}:decide (V.bl i=V.bl j)=(i==j):=by
 rw[Bool.eq_iff_iff];simp
def Wa{i j:Str}:decide (V.str i=V.str j)=(i==j):=by
 rw[Bool.eq_iff_iff];simp
def WN{i j:Array UInt8}:decide (V.Nb i=V.Nb j)=(i.toList==j.toList):=by
 rw[Bool.eq_iff_iff];cases i;cases j;simp
section
variable{X:Cx}{a b c:Expr}{ta tb:TE}{pos:Pos}
def BV{pins:List (AD×Obj)}{σ:St}{H:Hp}{s:SD}{Q:VK}{k g:Bool}(I:Inv X pins σ H s)(q:Q (.bl k) H)(e:k=g):EP X pins σ Q (.bool g) s:=by
 subst e;exact⟨.bl k,H,I,rfl,q⟩
def Tq:C6 X (compareOp .Eq) rH:=by
 intro pins s σ H x y v u Q I T g h;obtain⟨R,q⟩:=h;cases x with
 |BP=>
  cases T;cases y with
  |BP=>cases g;exact PySem.EqNone.eq_none_none (BV I q (by simp))
  |bl j=>cases g;exact PySem.EqNone.eq_none_bool (BV I q (by simp))
  |int j=>obtain⟨O,rfl⟩:=g;exact PySem.EqNone.eq_none_int (BV I q (by simp))
  |str j=>obtain⟨O,rfl⟩:=g;exact PySem.EqNone.eq_none_str (BV I q (by simp))
  |_=>exact absurd (show false=true from R) aI
 |bl i=>
  cases T;cases y with
  |BP=>cases g;exact PySem.EqNone.eq_bool_none (BV I q (by simp))
  |bl j=>cases g;exact eq_bool (BV I q ZO)
  |str j=>obtain⟨O,rfl⟩:=g;exact PySem.EqMixed.eq_bool_str (BV I q (by simp))
  |_=>exact absurd (show false=true from R) aI
 |int i=>
  obtain⟨t,rfl⟩:=T;cases y with
  |BP=>cases g;exact PySem.EqNone.eq_int_none (BV I q (by simp))
  |int j=>obtain⟨O,rfl⟩:=g;exact eq_int (BV I q XJ)
  |str j=>obtain⟨O,rfl⟩:=g;exact PySem.EqMixed.eq_int_str (BV I q (by simp))
  |_=>exact absurd (show false=true from R) aI
 |str i=>
  obtain⟨t,rfl⟩:=T;cases y with
  |BP=>cases g;exact PySem.EqNone.eq_str_none (BV I q (by simp))
  |bl j=>cases g;exact PySem.EqMixed.eq_str_bool (BV I q (by simp))
  |int j=>obtain⟨O,rfl⟩:=g;exact PySem.EqMixed.eq_str_int (BV I q (by simp))
  |str j=>obtain⟨O,rfl⟩:=g;exact eq_str (BV I q Wa)
  |_=>exact absurd (show false=true from R) aI
 |Nb i=>
  obtain⟨t,rfl⟩:=T;cases y with
  |Nb j=>obtain⟨O,rfl⟩:=g;exact PySem.W.eq_bytes (BV I q WN)
  |_=>exact absurd (show false=true from R) aI
 |_=>cases y<;>exact absurd (show false=true from R) aI
def oT:C6 X (compareOp .NotEq) rF:=by
 intro pins s σ H x y v u Q I T g h;obtain⟨R,q⟩:=h;cases x with
 |BP=>
  cases T;cases y with
  |BP=>cases g;exact PySem.EqNone.ne_none_none (BV I q (by simp))
  |bl j=>cases g;exact PySem.EqNone.ne_none_bool (BV I q (by simp))
  |int j=>obtain⟨O,rfl⟩:=g;exact PySem.EqNone.ne_none_int (BV I q (by simp))
  |str j=>obtain⟨O,rfl⟩:=g;exact PySem.EqNone.ne_none_str (BV I q (by simp))
  |_=>exact absurd (show false=true from R) aI
 |bl i=>
  cases T;cases y with
  |BP=>cases g;exact PySem.EqNone.ne_bool_none (BV I q (by simp))
  |bl j=>cases g;exact ne_bool (BV I q (bI not ZO))
  |str j=>obtain⟨O,rfl⟩:=g;exact PySem.EqMixed.ne_bool_str (BV I q (by simp))
  |_=>exact absurd (show false=true from R) aI
 |int i=>
  obtain⟨t,rfl⟩:=T;cases y with
  |BP=>cases g;exact PySem.EqNone.ne_int_none (BV I q (by simp))
  |int j=>obtain⟨O,rfl⟩:=g;exact ne_int (BV I q (bI not XJ))
  |str j=>obtain⟨O,rfl⟩:=g;exact PySem.EqMixed.ne_int_str (BV I q (by simp))
  |_=>exact absurd (show false=true from R) aI
 |str i=>
  obtain⟨t,rfl⟩:=T;cases y with
  |BP=>cases g;exact PySem.EqNone.ne_str_none (BV I q (by simp))
  |bl j=>cases g;exact PySem.EqMixed.ne_str_bool (BV I q (by simp))
  |int j=>obtain⟨O,rfl⟩:=g;exact PySem.EqMixed.ne_str_int (BV I q (by simp))
  |str j=>obtain⟨O,rfl⟩:=g;exact ne_str (BV I q (bI not Wa))
  |_=>exact absurd (show false=true from R) aI
 |Nb i=>
  obtain⟨t,rfl⟩:=T;cases y with
  |Nb j=>obtain⟨O,rfl⟩:=g;exact PySem.W.ne_bytes (BV I q (bI not WN))
  |_=>exact absurd (show false=true from R) aI
 |_=>cases y<;>exact absurd (show false=true from R) aI
def X4:C6 X (compareOp .Lt) (S0 fun i j=>.bl (decide (i<j))):=cP fun _ _ _ _ _ _ _ q=>lt_int q
def QN:C6 X (compareOp .Gt) (S0 fun i j=>.bl (decide (j<i))):=cP fun _ _ _ _ _ _ _ q=>gt_int q
def oH:C6 X (compareOp .GtE) (S0 fun i j=>.bl (decide (j<=i))):=cP fun _ _ _ _ _ _ _ q=>ge_int q
def C6.or{f:VL->VL->Sem VL}{r R:R2}(h:C6 X f r)(h':C6 X f R):C6 X f (fun x y H Q=>r x y H Q\/R x y H Q):=by
 intro pins s σ H x y v u Q I O g q;rcases q with q|q
 .exact h pins s σ H x y v u Q I O g q
 .exact h' pins s σ H x y v u Q I O g q
def Ay(b:Expr){op:CmpOp}(h:op≠.In:=by decide)(g:op≠.NotIn:=by decide):behindInMarks op b=false:=by
 have O:(op==CmpOp.In)=false:=by cases op<;>first|rfl|exact absurd rfl h
 have I:(op==CmpOp.NotIn)=false:=by cases op<;>first|rfl|exact absurd rfl g
 cases b<;>simp[behindInMarks,O,I]
def gq{op:CmpOp}{r:R2}(R:C6 X (compareOp op) r)(ha:PE X a ta)(hb:PE X b tb)(hm:behindInMarks op b=false):PE X (.Compare a [op] [b] pos) (Yr r ta tb):=by
 intro pins s σ H Q I h;exact wpAny_Compare1 (K7 ha hb I h fun v u s2 x y U T O g q=>R pins s2 σ U x y v u Q T O g q) hm
def nT(t:TE):TT:=fun σ H Q=>t σ H fun x H'=>∃k,x=.bl k/\Q k H'
def Dk{op:CmpOp}{r:R2}(Y:C6 X (compareOp op) r)(ha:PE X a ta)(hb:PE X b tb)(hm:behindInMarks op b=false):PT X (.Compare a [op] [b] pos) (nT (Yr r ta tb)):=by
 intro pins s σ H Q I h;refine wpAny_isTrue_Compare1 (BG (ha pins s σ H _ I h) fun v s1 ⟨x,H1,I1,R,q1⟩=>BG (hb pins s1 σ H1 _ I1 q1) fun u s2 ⟨y,H2,I2,O,U⟩=>
  BG (Y pins s2 σ H2 x y v u _ I2 R O U) fun c s3 ⟨z,H3,Z,g,k,e,T⟩=>?_) hm
 subst e;cases g;exact wpAny_truthy_bool ⟨H3,Z,T⟩
def M9:(sizeLine:Nat)<2^63:=by rw[sizeLine_eq];decide
def YD:C6 X (binaryOp .Add) (fun x y H Q=>∃i j,x=.str i/\y=.str j/\i.length+j.length<=sizeLine/\Q (.str (i++j)) H):=by
 intro pins s σ H x y v u Q I R O h;obtain⟨i,j,rfl,rfl,T,q⟩:=h;obtain⟨t,rfl⟩:=R;obtain⟨g,rfl⟩:=O;exact add_str (fun g tk=>⟨.str (i++j),H,I.tok _,⟨_,rfl⟩,q⟩) T
def vals1{x:V}{us:rT}(r:Vals [x] us):∃u,us=[u]/\RelV x u:=by
 cases r with
 |cons I g=>cases g;exact⟨_,rfl,I⟩
def L8:D4 X (.builtin "abs") (fun xs H Q=>∃i,xs=[.int i]/\Q (.int (if i<0 then -i else i)) H):=by
 intro pins s σ H xs us Q I r h;obtain⟨i,rfl,q⟩:=h;obtain⟨u,rfl,t,rfl⟩:=vals1 r;exact call_abs_int fun u tk=>⟨.int (if i<0 then -i else i),H,I.tok _,⟨_,rfl⟩,q⟩
end
structure dg(h:Heap)(x dx C:Addr)(mA:Str->Option Value):Prop where
 obj:h.get? x=some (PySem.W.instObj C dx)
 ns:h.Ns1 dx mA
 ne:dx≠x
def Yw{h:Heap}{dx:AD}{mA:rW}(n:h.Ns1 dx mA):∃od,h.get? dx=some od/\∀name,PySem.W.lookIn name od=some (mA name):=by
 obtain⟨o,es,ep,O,hd,hk,_,hm⟩:=n;refine⟨o,O,fun name=>?_⟩;have e:=hm name;unfold nsFind findBy at e;rw[<-Array.find?_toList]at e;unfold PySem.W.lookIn;rw[hd];dsimp only;split
 .rename_i y q;rw[q]at e;exact bI some e
 .rename_i q;rw[q]at e;have a:es.toList.any (·.refKey)=false:=by
   rw[List.any_eq_false];intro y I;obtain⟨z,t,g⟩:=hk y (Array.mem_toList_iff.mp I);simp[DictEntry.refKey,g]
  have R:¬es.toList.any (·.refKey)=true:=by rw[a];exact aI
  rw[if_neg R];exact bI some e
def dg.look{h:Heap}{x dx C:AD}{mA:rW}(I:dg h x dx C mA):∃od,PySem.W.InstAt h x (PySem.W.instObj C dx) C (some od)/\∀name,PySem.W.lookIn name od=some (mA name) :=
 let⟨od,g,O⟩:=Yw I.ns
 ⟨od,⟨I.obj,rfl,rfl,g⟩,O⟩
section
variable{P:Program}{w:World}{H:Hp}{h:Heap}{a C dx:AD}{fs:List (Str×V)}
def gj(Ap:Ei P w H h)(e:H a=some (.ins C dx fs)):∃mA,dg h a dx C mA/\(∀f,cm (fs.lookup f) (mA f))/\PySem.Within mA (fs.map (·.1))/\fs.length<=1000/\H dx=some (.own a):=by
 obtain⟨d,z,ne,ob,mA,n,r,q⟩:=(show CK P w H h a (.ins C dx fs) from Ap a _ e);exact⟨mA,⟨ob,n,ne⟩,r,q,z,d⟩
end
structure jN(K:Fg)(C:Addr):Prop where
 pg:PySem.W.plainGet K C Str.empty=true
 hd:PySem.W.hasDictIn K C=true
 po:PySem.W.plainOver K C=true
 sa:PySem.W.findIn K (.ref C) "__setattr__" = some (some (.builtin "object.__setattr__"))
def jN.get{K:Fg}{C:AD}(c:jN K C)(f:Str):PySem.W.plainGet K C f=true:=c.pg
section
variable{X:Cx}{pins:List (AD×Obj)}{σ:St}{H:Hp}{s:SD}{A:Around}{E:rV}{Q:rV}{c:VL}{b:Bool}
inductive HM(K:Fg)(H:Hp):V->Value->Prop where
 |BP:HM K H .BP (.type "NoneType")
 |bl (x:Bool):HM K H (.bl x) (.type "bool")
 |int (i:Int):HM K H (.int i) (.type "int")
 |str (x:Str):HM K H (.str x) (.type "str")
 |WM (x:UInt64):HM K H (.WM x) (.type "float")
 |lst {a:Addr} {xs:List V} (e:H a=some (.lst xs)):HM K H (.ref a) (.type "list")
 |Fv {a:Addr} {o:Obj} {xs:List V} (e:H a=some (.Fv o (.lst xs))):HM K H (.ref a) (.type "list")
 |tup {a:Addr} {xs:List V} (e:H a=some (.tup xs)):HM K H (.ref a) (.type "tuple")
 |dK {a:Addr} {kvs:List (Key×V)} (e:H a=some (.dK kvs)):HM K H (.ref a) (.type "dict")
 |dT {a:Addr} {kvs:List (List Key×V)} (e:H a=some (.dT kvs)):HM K H (.ref a) (.type "dict")
 |ins {a C dx:Addr} {fs:List (Str×V)} (e:H a=some (.ins C dx fs)) (cl:jN K C) (ha:PySem.W.findIn K (.ref C) "__class__" = some (some (.builtin "object.__class__")))
   (hn:PySem.W.specialIn K (.builtin "object.__class__") "__get__" = some (some (.builtin "getset_descriptor.__get__"))) (htk:PySem.W.takesIn K (.builtin "object.__class__")=some true)
   (hm:PySem.W.mroIn K C (.type "object")=some true):HM K H (.ref a) (.ref C)
def Yl{x:V}{u t:VL}(I:Inv X pins σ H s)(g:RelV x u)(ty:HM X.K H x t)(e:PySem.W.kitOne X.K t c=some b)(h:∀tk,Q (.bool b) {s with toks:=tk}):wpAny (model X.prog X.w) A (call (.builtin "isinstance") [u,c]) Q E s:=by
 cases ty with
 |BP=>cases (show u=Value.none from g);exact ar PySem.W.kitx_none I.GO True.intro e (fun z=>nomatch z) h
 |bl y=>cases (show u=Value.bool y from g);exact ar PySem.W.kitx_bool I.GO True.intro e (fun z=>nomatch z) h
 |int i=>obtain⟨t,q⟩:=(show ∃t,u=Value.int i t from g);cases q;exact ar PySem.W.kitx_int I.GO True.intro e (fun z=>nomatch z) h
 |str y=>obtain⟨t,q⟩:=(show ∃t,u=Value.str y t from g);cases q;exact ar PySem.W.kitx_str I.GO True.intro e (fun z=>nomatch z) h
 |WM y=>obtain⟨t,q⟩:=(show ∃t,u=Value.float y t from g);cases q;exact ar PySem.W.kitx_float I.GO True.intro e (fun z=>nomatch z) h
 | @lst a xs ea=>
  cases (show u=Value.ref a from g);obtain⟨_,_,n,_,R⟩:=(show CK X.prog X.w H s.heap a (.lst xs) from I.Ap a _ ea);exact ar PySem.W.kitx_list I.GO ⟨_,R,rfl⟩ e (fun z=>nomatch z) h
 | @Fv a ob xs ea=>
  cases (show u=Value.ref a from g);obtain⟨_,_,_,n,_,R⟩:=(show CK X.prog X.w H s.heap a (.Fv ob (.lst xs)) from I.Ap a _ ea);exact ar PySem.W.kitx_list I.GO ⟨_,R,rfl⟩ e (fun z=>nomatch z) h
 | @tup a xs ea=>
  cases (show u=Value.ref a from g);obtain⟨_,_,_,p⟩:=(show CK X.prog X.w H s.heap a (.tup xs) from I.Ap a _ ea);obtain⟨o,R,T,_⟩:=p;exact ar PySem.W.kitx_tuple I.GO ⟨o,R,T⟩ e (fun z=>nomatch z) h
 | @dK a kvs ea=>
  cases (show u=Value.ref a from g);obtain⟨_,_,vs,_,p⟩:=(show CK X.prog X.w H s.heap a (.dK kvs) from I.Ap a _ ea);obtain⟨o,es,ep,R,T,_⟩:=p;exact ar PySem.W.kitx_dict I.GO ⟨o,R,T.1⟩ e (fun z=>nomatch z) h
 | @dT a kvs ea=>
  cases (show u=Value.ref a from g);obtain⟨_,_,xs,_,o,es,ep,R,T,_⟩:=(show CK X.prog X.w H s.heap a (.dT kvs) from I.Ap a _ ea);exact ar PySem.W.kitx_dict I.GO ⟨o,R,T.1⟩ e (fun z=>nomatch z) h
 | @ins a C dx fs ea cl ha hn htk hm=>
  cases (show u=Value.ref a from g);obtain⟨mA,O,_⟩:=gj I.Ap ea;obtain⟨od,J,_⟩:=O.look;exact ar (PySem.W.kitx_own (cl.get _) cl.hd ha hn htk hm) I.GO J e (fun z=>nomatch z) h
end
structure CG(k:Nat)(A:Around):Prop where
 hd:A.handled=none
 dp:A.depth+3*k+5<recursionLimit
 un:A.units+16*k+200<cLine
def CG.mono{j k:Nat}{A:Around}(r:CG k A)(h:j<=k):CG j A:=⟨r.hd,by have:=r.dp;lia,by have:=r.un;lia⟩
def CG.deeper{k:Nat}{A:Around}(r:CG (k+1) A)(env:Env):CG k (A.deeper env) :=
 ⟨r.hd,by have:=r.dp;show A.depth+1+3*k+5<_;lia,by have:=r.un;show A.units+3+16*k+200<_;lia⟩
def CG.depth{k:Nat}{A:Around}(r:CG k A):A.depth<recursionLimit:=by have:=r.dp;lia
def CG.units{k:Nat}{A:Around}(r:CG k A):A.units+64<cLine:=by have:=r.un;lia
def pV:TA:=fun _ H Q=>Q [] H
def nv(I:TE)(g:TA):TA:=fun σ H Q=>I σ H fun x R=>g σ R fun xs O=>Q (x::xs) O
section
variable{X:Cx}{e:Expr}{es:rg}{te:TE}{t:TA}{pos:Pos}
def AY:PA X [] pV:=fun _ _ _ _ H Q I h=>Calls.spliced_nil ⟨[],H,I,.nil,h⟩
def AK(ha:PE X e te)(U:PA X es t)(T:starEach (e::es) X.env=(false,eval e X.env)::starEach es X.env:=by rfl):PA X (e::es) (nv te t):=by
 intro pos pins s σ H Q I h;rw[T];show wpAny _ _ (spliced ((false,eval e X.env)::backTo pos (starEach es X.env))) _ _ s;refine Calls.spliced_cons (BG (ha pins s σ H _ I h) fun u s1 ⟨x,H1,Z,O,q1⟩=>?_);exact BG (U pos pins s1 σ H1 _ Z q1) fun us s2 ⟨xs,H2,Y,g,R⟩=>⟨x::xs,H2,Y,.cons O g,R⟩
def pO(t:TA):TE:=fun σ H Q=>t σ H fun xs g=>xs.length<=sizeLine/\∀p,g p=none->Q (.ref p) (upd g p (.tup xs))
def qR(t:TA):TE:=fun σ H Q=>t σ H fun xs g=>xs.length<=sizeLine/\∀p,g p=none->Q (.ref p) (upd g p (.lst xs))
def Jn{R}(h:PA X es t):PE X (.Tuple es R pos) (pO t):=by
 intro pins s σ H Q I T;refine wpAny_Tuple_spliced (BG (h pos pins s σ H _ I T) fun us s1 ⟨xs,O,g,r,z,q⟩=>⟨by rw[<-r.length];exact z,?_⟩);have U:O s1.heap.objs.size=none:=g.Ap.fresh (aH _);refine⟨.ref s1.heap.objs.size,upd O s1.heap.objs.size (.tup xs),g.laid (t':=s1.toks) (fun b u e=>aD _ e) (aH _) ?_,rfl,q _ U⟩;exact⟨z,us,r,⟨_,Heap.get?_push_size _ rfl,rfl,_,rfl⟩⟩
def FX(h:PA X es t):PE X (.List es pos) (qR t):=by
 intro pins s σ H Q I R;refine wpAny_List_spliced (BG (h pos pins s σ H _ I R) fun us s1 ⟨xs,O,g,r,z,q⟩=>⟨by rw[<-r.length];exact z,?_⟩);have T:O s1.heap.objs.size=none:=g.Ap.fresh (aH _);refine⟨.ref s1.heap.objs.size,upd O s1.heap.objs.size (.lst xs),g.laid (t':=s1.toks) (fun b u e=>aD _ e) (aH _) ?_,rfl,q _ T⟩;exact⟨z,us,0,r,Heap.get?_push_size _ rfl⟩
end
abbrev Sp:=List V->Hp->VK->XK->Prop
abbrev Hi:=List Env->Hp->SD->XK->VL->SD->Prop
structure YV(P:Program)(w:World)(K:Fg)(mg:Str->Option Value)(base:Heap)(A:Around)(outer:List Env)(s:Shared)(H:Hp):Prop where
 frames:A.frames=some outer
 mod:Mod K mg base
 bs:∀b o,base.get? b=some o->s.heap.get? b=some o/\H b=none
 RC:base.objs.size<=s.heap.objs.size
 Hf:s.heap.FunFrames base outer
 Qm:∀b∈Fs outer,H b=none
 Ap:Ei P w H s.heap
 bare:AllBare s.gens
def CE(outer:sE)(P:Program)(w:World)(H:Hp)(s:SD)(Q:VK)(u:VL)(s':SD):Prop :=
 ∃v H',s'.os=s.os/\AllBare s'.gens/\Un (Fs outer) [] H H' s.heap s'.heap/\Ei P w H' s'.heap/\RelV v u/\Q v H'
def CR(CX:Hi)(outer:sE)(P:Program)(w:World)(H:Hp)(s:SD)(Q:VK)(E:XK)(r:Result)(s':SD):Prop :=
 match r with
 |.ok (.ret u)=>CE outer P w H s Q u s'
 |.ok _=>False
 |.error e=>CX outer H s E e s'
structure AI(P:Program)(w:World)(K:Fg)(mg:Str->Option Value)(base:Heap)(CX:Hi)(k:Nat)(f:Addr)(fd:FuncData)(ps:List Str)(sp:Sp):Prop where
 len:∀vs H Q E,sp vs H Q E->vs.length=ps.length
 run:∀(A:Around) (outer:List Env) (s:Shared) (H:Hp) (args:Args) (us:List Value) (vs:List V) (Q:VK) (E:XK),CG k A->YV P w K mg base A outer s H->BindsTo s fd args (ps.zip us)->Vals vs us->sp vs H Q E ->
  codeAny (model P w) A (.call (.ref f) args) (CR CX outer P w H s Q E) s
def AI.mono{P:Program}{w:World}{K:Fg}{mg:rW}{base:Heap}{CX:Hi}{j k:Nat}{f:AD}{fd:FuncData}{ps:rf}{sp:Sp}(F:AI P w K mg base CX j f fd ps sp)(h:j<=k:=by decide):AI P w K mg base CX k f fd ps sp:=⟨F.len,fun A outer s H args us vs Q E g=>F.run A outer s H args us vs Q E (g.mono h)⟩
def AI.imp{P:Program}{w:World}{K:Fg}{mg:rW}{base:Heap}{CX:Hi}{k:Nat}{f:AD}{fd:FuncData}{ps:rf}{sp g:Sp}(F:AI P w K mg base CX k f fd ps sp) (h:∀vs H Q E,g vs H Q E->sp vs H Q E):AI P w K mg base CX k f fd ps g :=
 ⟨fun vs H Q E q=>F.len vs H Q E (h _ _ _ _ q),fun A outer s H args us vs Q E R T hb I O=>F.run A outer s H args us vs Q E R T hb I (h _ _ _ _ O)⟩
section
variable{X:Cx}{pins:List (AD×Obj)}{σ:St}{H:Hp}{s s':SD}
def Inv.md(I:Inv X pins σ H s):YV X.prog X.w X.K X.mg X.base X.A X.stack s H :=
 ⟨I.ok.frames,I.ok.mod,I.bs,Nat.le_trans I.ok.RC I.sz,I.stack,I.SE,I.Ap,I.bare⟩
def Inv.after{Q:VK}{u:VL}(I:Inv X pins σ H s)(h:CE X.stack X.prog X.w H s Q u s'):EP X pins σ Q u s':=by
 obtain⟨v,H',os,bare,un,Ap,r,q⟩:=h;obtain⟨R,g,d,t,O⟩:=s';obtain rfl:O=s.os:=os;exact⟨v,H',I.call (h':=R) (g':=g) (d':=d) (t':=t) (ch:=[]) un Ap bare (fun b z=>absurd z (by simp)),r,q⟩
end
def YL(sp:Sp)(g:rq)(E:XK)(t:TA):TE:=fun σ H Q=>t σ H fun vs I=>sp (vs++g) I Q E
def Binds(K:Fg)(fd:FuncData)(ps:rf)(ds:rT):Prop :=
 ∀(s:SD) (us:List VL),K.In s.heap->(us++ds).length=ps.length->BindsTo s fd ⟨us,[]⟩ (ps.zip (us++ds))
def Binds.all{K:Fg}{fd:FuncData}{ps:rf}(h:∀us:rT,us.length=ps.length->bindArgs fd ⟨us,[]⟩=pure (ps.zip us)):Binds K fd ps []:=fun s us _ g=>by
 rw[List.append_nil]at g ⊢;exact .of_eq (h us g)
def Passes(CX:Hi)(X:Cx)(E:XK):Prop:=∀(pins:List (AD×Obj)) (σ:St) (H:Hp) (s:SD) (e:VL) (s':SD),Inv X pins σ H s->CX X.stack H s E e s'->X.xe e s'
section
variable{X:Cx}{CX:Hi}{k:Nat}{f:AD}{fd:FuncData}{ps:rf}{sp:Sp}{dvs:rq}{ds:rT}{E:XK}{x:Str}{p pos:Pos}{e:Expr}{es:rg}{t:TA}
def lQ{pins:List (AD×Obj)}{σ:St}{H:Hp}{s:SD}{Q:VK}{us:rT}{vs:rq}(F:AI X.prog X.w X.K X.mg X.base CX k f fd ps sp)(T:CG k X.A)(hb:Binds X.K fd ps ds)(hd:Vals dvs ds)(R:Passes CX X E) (I:Inv X pins σ H s)(r:Vals vs us)(h:sp (vs++dvs) H Q E):wpAny (model X.prog X.w) X.A (call (.ref f) us) (EP X pins σ Q) X.xe s:=by
 have O:Vals (vs++dvs) (us++ds):=r.append hd;have U:(us++ds).length=ps.length:=by rw[<-O.length];exact F.len _ _ _ _ h
 refine wpAny_call (codeAny_mono (F.run X.A X.stack s H ⟨us,[]⟩ (us++ds) (vs++dvs) Q E T I.md (hb s us I.GO U) O h) fun r s' g=>?_);cases r with
 |error e=>exact R pins σ H s e s' I g
 |ok Y=>
  cases Y with
  |ret u=>exact I.after g
  |next=>exact False.elim g
  |brk=>exact False.elim g
  |cont=>exact False.elim g
def W2(F:AI X.prog X.w X.K X.mg X.base CX k f fd ps sp)(U:CG k X.A)(hg:Gl X x)(hm:X.mg x=some (.ref f))(hk:PySem.W.keepIn X.K (.ref f)=true)(hb:Binds X.K fd ps ds)(hd:Vals dvs ds)(T:Passes CX X E) (ha:PA X (e::es) t)(O:(x==("__debug__" : Str))=false:=by decide)(Y:starEach (e::es) X.env=(false,eval e X.env)::starEach es X.env:=by rfl)(g:(backTo pos (starEach es X.env)).any (·.1)=false:=by rfl):PE X (.Call (.Name x p) (e::es) [] pos) (YL sp dvs E t):=by
 intro pins s σ H Q I h;refine wpAny_Call_Name_kw (JX I hg hm ?_ O);refine PySem.W.callWith_K (h₀:=X.base) I.ok.mod.Og hk (BG (ha pos pins s σ H _ I h) fun us s1 ⟨vs,Z,R,r,q⟩=>⟨R.GO,?_⟩) Y g;exact lQ F U hb hd T R r q
end
structure AZ(N P:List Str)(sc:Scope):Prop where
 kind:sc.kind=.function
 co:sc.isCoroutine=false
 gen:sc.isGenerator=false
 nd:N.Nodup
 pre:N.take P.length=P
 par:∀x∈P,sc.names.lookup x=some .local\/sc.names.lookup x=some .cell
 mj:∀y∈sc.names,y.2≠.free
def B5{N P:rf}{sc:Scope}(a:sc.kind=.function:=by rfl)(b:sc.isCoroutine=false:=by rfl)(c:sc.isGenerator=false:=by rfl)(d:N.Nodup:=by decide +kernel)(e:N.take P.length=P:=by rfl)(f:∀x ∈ P, sc.names.lookup x=some .local \/ sc.names.lookup x=some .cell:=by decide +kernel)(g:∀y ∈ sc.names, y.2 ≠ .free:=by decide +kernel):AZ N P sc:=⟨a, b, c, d, e, f, g⟩
def SX{kindOf:Str->Option NameKind}{x:Str}:∀ {binds:List (Str×VL)} {m:Str->Option VL},(∀v,(x,v) ∉ binds)->bindL kindOf binds m x=m x
 |[],_,_=>rfl
 |(n,v)::r,m,h=>by
  unfold bindL;rw[SX fun w g=>h w (aO _ g)];split
  .have:x≠n:=by rintro rfl;exact h v aS
   simp[this]
  .rfl
def SY{kindOf:Str->Option NameKind}{x:Str}:∀ {binds:List (Str×VL)} {m:Str->Option VL},(∀v,(x,v) ∉ binds)->bindC kindOf binds m x=m x
 |[],_,_=>rfl
 |(n,v)::r,m,h=>by
  unfold bindC;rw[SY fun w g=>h w (aO _ g)];split
  .rfl
  .have:x≠n:=by rintro rfl;exact h v aS
   simp[this]
def TJ{kindOf:Str->Option NameKind}{x:Str}{v:VL}:∀ {P:List Str} {vs:List VL} {i:Nat} {m:Str->Option VL},P.Nodup->P[i]? = some x->vs[i]? = some v->kindOf x=some .local ->
  bindL kindOf (P.zip vs) m x=some v
 |[],_,_,_,_,h,_,_=>by simp at h
 |_::_,[],_,_,_,_,h,_=>by simp at h
 |p::P,w::vs,0,m,nd,I,g,hk=>by
  simp at I g;subst I;subst g;show bindL kindOf ((p,w)::P.zip vs) m p=_;unfold bindL;rw[SX fun v O=>(List.nodup_cons.mp nd).1 (List.of_mem_zip O).1,if_pos hk];simp
 |p::P,w::vs,i+1,m,nd,I,g,hk=>by
  show bindL kindOf ((p,w)::P.zip vs) m x=_;unfold bindL;exact TJ (i:=i) (List.nodup_cons.mp nd).2 (by simpa using I) (by simpa using g) hk
def TR{kindOf:Str->Option NameKind}{x:Str}{v:VL}:∀ {P:List Str} {vs:List VL} {i:Nat} {m:Str->Option VL},P.Nodup->P[i]? = some x->vs[i]? = some v->kindOf x≠some .local ->
  bindC kindOf (P.zip vs) m x=some v
 |[],_,_,_,_,h,_,_=>by simp at h
 |_::_,[],_,_,_,_,h,_=>by simp at h
 |p::P,w::vs,0,m,nd,I,g,hk=>by
  simp at I g;subst I;subst g;show bindC kindOf ((p,w)::P.zip vs) m p=_;unfold bindC;rw[SY fun v O=>(List.nodup_cons.mp nd).1 (List.of_mem_zip O).1,if_neg hk];simp
 |p::P,w::vs,i+1,m,nd,I,g,hk=>by
  show bindC kindOf ((p,w)::P.zip vs) m x=_;unfold bindC;exact TR (i:=i) (List.nodup_cons.mp nd).2 (by simpa using I) (by simpa using g) hk
def start(N:rf)(vs:rq):St:=vs.map some++List.replicate (N.length-vs.length) none
def Ck(CX:Hi)(P:Program)(w:World)(K:Fg)(mg:rW)(base:Heap)(N:rf)(qual:Str)(scope:Scope)(f:AD)(cd:VL)(A:Around)(outer:sE)(s:SD)(H:Hp)(E:XK):Cx where
 prog:=P
 w:=w
 K:=K
 mg:=mg
 base:=base
 A:=A.deeper (envOfC qual scope s.heap.objs.size f cd)
 N:=N
 s₀:=s
 H₀:=H
 env:=envOfC qual scope s.heap.objs.size f cd
 outer:=outer
 stack:=envOfC qual scope s.heap.objs.size f cd::outer
 ex:=[]
 calm:=true
 fn:=fun _=>true
 pn:=[]
 xe:=fun e s'=>wpAny (model P w) (A.deeper (envOfC qual scope s.heap.objs.size f cd)) (leaving (envOfC qual scope s.heap.objs.size f cd) e) (fun _ s''=>CX outer H s E e s'') (fun e' s''=>CX outer H s E e' s'') s'
def Vq{sc:Scope}{n:Nat}{x:Str}(h:sc.names.lookup x=some .cell):∃c,(cellsFrom n sc.names []).lookup x=some c:=by
 have q:=PySem.W.cellsFrom_some sc.names n [] (.inl h);exact Option.isSome_iff_exists.mp q
def Za{CX:Hi}{P:Program}{w:World}{K:Fg}{mg:rW}{base:Heap}{N ps:rf}{qual:Str}{scope:Scope}{f:AD}{Z:VL}{A:Around}{outer:sE}{s s1:SD}{H:Hp}{E:XK}{us:rT}{vs:rq} (S:AZ N ps scope)(hd:A.handled=none)(I:YV P w K mg base A outer s H)(hl:vs.length=ps.length)(r:Vals vs us) (x:InCallC s s.heap.objs.size (bindL (envOfC qual scope s.heap.objs.size f Z).kindOf (ps.zip us) fun _=>none) (cellsFrom (s.heap.objs.size+1) scope.names []) (bindC (envOfC qual scope s.heap.objs.size f Z).kindOf (ps.zip us) fun _=>none) s1):Inv (Ck CX P w K mg base N qual scope f Z A outer s H E) [] (start N vs) H s1:=by
 have hpl:ps.length<=N.length:=by have:=bI List.length S.pre;rw[List.length_take]at this;lia
 obtain⟨Y,tk,rfl,hk⟩:=x.done;have O:∀b:AD,b ∉ (Ck CX P w K mg base N qual scope f Z A outer s H E).ex:=fun b z=>absurd (show b∈([]:List AD) from z) (by simp);refine⟨⟨I.mod,S.kind,rfl,rfl,Nat.le_refl _,fun y z c Y g=>?_,fun y R=>?_,fun y c _ h=>?_,fun _=>hd,Around.frames_deeper I.frames,.inr ⟨rfl,rfl⟩,fun b z=>absurd z (O b),I.bs,I.RC,fun b _ _=>O b,fun b z=>absurd z (O b),I.Hf,I.Qm⟩,
  rfl,I.bare,Un.kept hk,⟨_,x.toInCall.ns,fun i y v Y g h3=>?_⟩,fun y c h=>⟨_,x.cell y c h⟩,I.Ap.fresh (aH _),fun y c h=>?_,fun p U=>absurd (show p∈([]:List (AD×Obj)) from U) (by simp),I.Ap.kept hk,?_⟩
 .exact name_of_addr x.apart (PySem.mem_of_lookup Y) (PySem.mem_of_lookup g)
 .have R:scope.names.lookup y=some .cell\/scope.names.lookup y=some .free:=R;rcases R with R|R
  .exact Vq R
  .exact absurd rfl (S.mj _ (PySem.mem_of_lookup R))
 .exact ay (x.above y c (PySem.mem_of_lookup h))
 .have hi:i<vs.length:=by
   unfold start at g;by_cases hi:i<vs.length
   .exact hi
   .rw[List.getElem?_append_right (by simpa using hi)]at g;rw[List.getElem?_replicate]at g;split at g<;>cases g
  have ha:vs[i]? = some v:=by
   unfold start at g;rw[List.getElem?_append_left (by simpa using hi),List.getElem?_map]at g;cases e:vs[i]? with
   |none=>rw[e]at g;cases g
   |some a=>rw[e]at g;cases g;rfl
  obtain⟨u,hu,rv⟩:=r.get ha;have U:ps[i]? = some y:=by
   rw[<-S.pre,List.getElem?_take_of_lt (by lia)];exact Y
  have T:ps.Nodup:=by rw[<-S.pre];exact S.nd.sublist (List.take_sublist _ _)
  refine⟨u,rv,?_⟩;rcases S.par y (aW U) with k|k
  .exact .inl ⟨k,TJ T U hu k⟩
  .obtain⟨c,e⟩:=Vq (n:=s.heap.objs.size+1) k;refine .inr ⟨.inl k,c,e,?_⟩;have q:=x.cell y c e;rw[TR T U hu (by show scope.names.lookup y≠_;rw[k];decide)]at q;exact q
 .exact I.Ap.fresh (ay (x.above y c (PySem.mem_of_lookup h)))
 .unfold start;show _=N.length;rw[List.length_append,List.length_map,List.length_replicate]
  lia
def eg{CX:Hi}{P:Program}{w:World}{K:Fg}{mg:rW}{base:Heap}{k:Nat}{f:AD}{name qual:Str}{params:Arguments}{g:sD}{scope:Scope}{dV kV doc pm cdv ct oc:VL}{an od:Option AD} {osl:Array (Option VL)}{N ps:rf}{sp:Sp}(lk:K.lookup f=some ⟨oc,od,.func (PySem.W.fnOf name qual params g scope dV kV doc pm an cdv ct),osl⟩)(hcd:PySem.W.codeIn K cdv qual=true)(S:AZ N ps scope) (len:∀vs H Q E,sp vs H Q E->vs.length=ps.length) (T:∀(A:Around) (outer:sE) (s:SD) (H:Hp) (vs:rq) (Q:VK) (E:XK),CG k (A.deeper (envOfC qual scope s.heap.objs.size f cdv))->sp vs H Q E ->∃t,GV (Ck CX P w K mg base N qual scope f cdv A outer s H E) g t/\t { nx:=fun _ H'=>Q .BP H',rt:=Q} (start N vs) H):AI P w K mg base CX (k+1) f (PySem.W.fnOf name qual params g scope dV kV doc pm an cdv ct) ps sp:=by
 refine⟨len,fun A outer s H args us vs Q E hr Z hb r Y=>?_⟩;have hl:=len _ _ _ _ Y;have KX:K.In s.heap:=Z.mod.Og.keeps fun b o e=>(Z.bs b o e).1;have lim:s.heap.NoLimit:=Z.mod.nolimit.keeps fun b o e=>(Z.bs b o e).1;have R:∀y∈ps.zip us,scope.names.lookup y.1=some .local\/(scope.names.lookup y.1=some .cell/\((cellsFrom (s.heap.objs.size+1) scope.names []).lookup y.1).isSome=true):=fun⟨n,v⟩ hy=>by
  rcases S.par n (List.of_mem_zip hy).1 with q|q
  .exact .inl q
  .exact .inr ⟨q,PySem.W.cellsFrom_some _ _ _ (.inl q)⟩
 refine codeAny_call_function hr.depth (KX _ _ lk) rfl S.co S.gen rfl (PySem.W.codeRec_of KX hcd) (hb _ _ _ _ ?_);refine wpAny_newFunctionEnv_cells S.kind R fun env he s1 x=>?_;subst he;refine⟨lim.keeps x.toInCall.keep,codeAny_func ?_⟩;obtain⟨t,ht,hq⟩:=T A outer s H vs Q E (hr.deeper _) Y;have I:Inv (Ck CX P w K mg base N qual scope f cdv A outer s H E) [] (start N vs) H s1:=Za S hr.hd Z hl r x;refine aU (ht [] s1 (start N vs) H _ I hq) (fun fl s' U=>?_) fun e s' U=>U;have fin:∀ {O:St} {H':Hp} {v:V} {u:VL},Inv (Ck CX P w K mg base N qual scope f cdv A outer s H E) [] O H' s'->RelV v u->Q v H'->CE outer P w H s Q u s' :=
  fun {O H' v u} J rv q=>⟨v,H',J.os,J.bare,J.base,J.Ap,rv,q⟩
 cases fl with
 |ret u=>
  obtain⟨v,O,H',J,rv,q⟩:=U;exact fin J rv q
 |next=>
  obtain⟨O,H',J,q⟩:=U;exact fin (v:=V.BP) (u:=Value.none) J rfl q
 |brk=>
  obtain⟨_,_,_,q⟩:=U;exact False.elim q
 |cont=>
  obtain⟨_,_,_,q⟩:=U;exact False.elim q
section
variable{X:Cx}{x:Str}{p pos:Pos}{e:Expr}{es:rg}{t:TA}{id T:String}{r:List V->Hp->VK->Prop}
def pM(r:List V->Hp->VK->Prop)(t:TA):TE:=fun σ H Q=>t σ H fun vs g=>r vs g Q
def Ct(Z:D4 X (.builtin id) r)(hg:Gl X x)(hm:X.mg x=none)(U:bootBuiltins x=some (.builtin id))(ha:PA X (e::es) t)(hn:x ≠ "__name__":=by decide)(O:(x==("__debug__" : Str))=false:=by decide) (Y:starEach (e::es) X.env=(false,eval e X.env)::starEach es X.env:=by rfl)(g:(backTo pos (starEach es X.env)).any (·.1)=false:=by rfl):PE X (.Call (.Name x p) (e::es) [] pos) (pM r t):=by
 intro pins s σ H Q I h;refine wpAny_Call_Name_kw (HH I hg hm U ?_ hn O);exact PyProof.Rows.callWith_builtin1 (BG (ha pos pins s σ H _ I h) fun us s1 ⟨vs,H1,I1,R,q1⟩=>Z pins s1 σ H1 vs us Q I1 R q1) Y g
def Ny(Z:D4 X (.type T) r)(hg:Gl X x)(hm:X.mg x=none)(U:bootBuiltins x=some (.type T))(ha:PA X (e::es) t)(hn:x ≠ "__name__":=by decide)(O:(x==("__debug__" : Str))=false:=by decide) (Y:starEach (e::es) X.env=(false,eval e X.env)::starEach es X.env:=by rfl)(g:(backTo pos (starEach es X.env)).any (·.1)=false:=by rfl):PE X (.Call (.Name x p) (e::es) [] pos) (pM r t):=by
 intro pins s σ H Q I h;refine wpAny_Call_Name_kw (HH I hg hm U ?_ hn O);exact bD (BG (ha pos pins s σ H _ I h) fun us s1 ⟨vs,H1,I1,R,q1⟩=>Z pins s1 σ H1 vs us Q I1 R q1) Y g
end
end L2
namespace HT
open PySem PyProof.Rows
section
variable{prog:Program}{w:World}{A:Around}{E:rV}{s:SD}
def iZ{t b:AD}{vs g:rT}{Q:rV}(ht:IsTup s.heap t vs.toArray)(hb:IsTup s.heap b g.toArray)(hv:vs≠[]) (h1:g=[]->Q (.ref t) s)(h2:g≠[]->Q (.ref s.heap.objs.size) {s with heap:=s.heap.push { cls:=.type "tuple",data:=.seq (vs++g).toArray} }) (hsz:vs.length+g.length<=sizeLine):wpAny (model prog w) A (binaryOp .Add (.ref t) (.ref b)) Q E s:=by
 obtain⟨⟨cls,dd,data,sl⟩,Z,hc,n,hd⟩:=id ht;obtain⟨⟨cls2,U,data2,O⟩,I,T,n2,R⟩:=id hb;simp only at hc hd T R;subst hc hd T R;have e:vs.toArray++g.toArray=(vs++g).toArray:=by simp
 by_cases Y:g=[]
 .exact concat_meets ⟨_,Z,rfl⟩ ⟨_,I,rfl⟩ noFill_tuple_add seq_tuple_add PySem.F.slot_tuple_add PySem.F.entry_tuple_add (PySem.F.args_tuple_add_2 _ _)
   (tuple_addW1 t b vs.toArray g.toArray n n2 dd U sl O (by simpa using hv) (by simp[Y])) ⟨Z,I,h1 Y⟩
 .refine concat_meets ⟨_,Z,rfl⟩ ⟨_,I,rfl⟩ noFill_tuple_add seq_tuple_add PySem.F.slot_tuple_add PySem.F.entry_tuple_add (PySem.F.args_tuple_add_2 _ _)
   (tuple_addW2 t b vs.toArray g.toArray n n2 dd U sl O (by simpa using hv) (by simpa using Y) (by rw[List.size_toArray,List.size_toArray];exact hsz)) ⟨Z,I,?_⟩
  rw[e];exact h2 Y
def Bc(n d:Nat):Option Int->Nat
 |none=>d
 |some v=>if v<0 then(v+(n:Int)).toNat else min v.toNat n
def cE(n d:Nat):Bc n d none=d:=rfl
def kX(n d:Nat)(hd:d<=n)(o:rj):Bc n d o<=n:=by
 cases o with
 |none=>exact hd
 |some v=>
  show(if v<0 then(v+(n:Int)).toNat else min v.toNat n)<=n;by_cases g:v<0
  .rw[if_pos g];lia
  .rw[if_neg g];exact Nat.min_le_right _ _
def XI(v:Int)(n d:Nat):(if v<0 then max (v+(n:Int)) 0 else min v (n:Int))=((Bc n d (some v):Nat):Int):=by
 show(if v<0 then max (v+(n:Int)) 0 else min v (n:Int))=(((if v<0 then(v+(n:Int)).toNat else min v.toNat n):Nat):Int);by_cases g:v<0
 .simp only[if_pos g];lia
 .simp only[if_neg g];lia
def Xn(lo hi:rj)(n:Nat):Builtin.Slice.sliceAdjust lo hi 1 (n:Int)=(((Bc n 0 lo:Nat):Int),((Bc n n hi:Nat):Int)):=by
 have g:¬((1:Int)<0):=by lia
 unfold Builtin.Slice.sliceAdjust;simp only[g,if_false];refine Prod.ext ?_ ?_
 .cases lo with
  |none=>rfl
  |some v=>exact XI v n 0
 .cases hi with
  |none=>rfl
  |some v=>exact XI v n n
def Xq(i j:Nat):Builtin.Slice.slicePlaces (i:Int) (j:Int) 1=j-i:=by
 unfold Builtin.Slice.slicePlaces;have g:(1:Int) > 0:=by lia
 simp only[g,if_true,Int.ediv_one];split<;>lia
def RE{v:VL}{o:rj}{Q:Option Int->SD->Prop}(p:IsPart v o)(h:Q o s):wpAny (model prog w) A (Builtin.Slice.slicePartIndex v) Q E s:=by
 cases p with
 |none=>exact slicePart_none h
 |int i t=>exact slicePart_int h
def Pw{sl:AD}{R O:VL}{lo hi:rj}{n:Nat}{Q:Int×Int×Nat->SD->Prop}(U:s.heap.IsSliceOf sl R O .none)(pl:IsPart R lo)(T:IsPart O hi) (h:Q (((Bc n 0 lo:Nat):Int),1,Bc n n hi-Bc n 0 lo) s):wpAny (model prog w) A (Builtin.Slice.sliceApplied (.ref sl) (pure (n:Int))) Q E s:=by
 obtain⟨os,g,Y,I⟩:=id U;unfold Builtin.Slice.sliceApplied Builtin.Slice.sliceFields;refine Wb (Wb (bC g I (x:=R) rfl (Wb (bC g I (x:=O) rfl (Wb (bC g I (x:=.none) rfl (aA ?_)))))));refine Wb (slicePart_none ?_);show wpAny _ _ (if((1:Int)==0)=true then _ else _) _ _ s;rw[if_neg (by decide)];refine Wb (RE pl (Wb (RE T (Wb (aA ?_)))));show wpAny _ _ (match Builtin.Slice.sliceAdjust lo hi 1 (n:Int) with|(lo,hi)=>pure (lo,(1:Int),Builtin.Slice.slicePlaces lo hi 1)) _ _ s;rw[Xn lo hi n];show wpAny _ _ (pure (((Bc n 0 lo:Nat):Int),(1:Int),Builtin.Slice.slicePlaces ((Bc n 0 lo:Nat):Int) ((Bc n n hi:Nat):Int) 1)) _ _ s;rw[Xq];exact aA h
def d9(xs:Array VL)(i k:Nat):((List.range k).filterMap fun(m:Nat)=>xs[((i:Int)+(m:Int)*1).toNat]?).toArray=((xs.toList.drop i).take k).toArray:=by
 have e:(fun(m:Nat)=>xs[((i:Int)+(m:Int)*1).toNat]?)=fun m=>xs[i+m]? := by
  funext m
  have:((i:Int)+(m:Int)*1).toNat=i+m:=by lia
  rw[this]
 rw[e];have:=pick_run xs i k;rw[List.filterMap_map]at this;have g:((fun x=>xs[x]?) ∘ fun x=>i+x)=fun m=>xs[i+m]?:=rfl;rw[g]at this;rw[this]
def OV{t sl:AD}{items:Array VL}{Z Y:VL}{lo hi:rj}{Q:rV}(I:IsTup s.heap t items)(hs:s.heap.IsSliceOf sl Z Y .none)(pl:IsPart Z lo)(pu:IsPart Y hi) (hw:¬(Bc items.size 0 lo=0/\Bc items.size items.size hi=items.size)) (h:Q (.ref s.heap.objs.size) {s with heap:=s.heap.push { cls:=.type "tuple",data:=.seq ((items.toList.drop (Bc items.size 0 lo)).take (Bc items.size items.size hi-Bc items.size 0 lo)).toArray} }) (hsz:items.size<=sizeLine):wpAny (model prog w) A (getItem (.ref t) (.ref sl)) Q E s:=by
 have g:sizeOk (.seq ((items.toList.drop (Bc items.size 0 lo)).take (Bc items.size items.size hi-Bc items.size 0 lo)).toArray):=by
  show((items.toList.drop (Bc items.size 0 lo)).take (Bc items.size items.size hi-Bc items.size 0 lo)).toArray.size<=sizeLine;rw[List.size_toArray,List.length_take,List.length_drop,Array.length_toList]
  lia
 have hj:Bc items.size items.size hi<=items.size:=kX _ _ (aH _) hi;obtain⟨os,O,T,hds⟩:=id hs;have U:s.TypeIs (.ref sl) "slice" := ⟨os,O,T⟩;unfold getItem
 try with_reducible refine aV ?_
 first|refine Wb (aA ?_)|skip
 refine Wb (wpAny_sequenceKey I.typeIs (by decide) ?_);refine Wb (ag (name:=Str.ofString "__getitem__") I.typeIs PyProof.Rows.slot_tuple_getitem
  (aX PyProof.Rows.slot_tuple_getitem I.typeIs entry_tuple_getitem ?_ (args_tuple_getitem _ _)))
 show wpAny _ _ (Builtin.Tuple.tupleItemsOf (.ref t)>>=_) _ _ s;refine Wb (tupleItemsOf_ I ?_);refine Wb (wpAny_typeOf U ?_);rw[if_pos (by decide)];refine Wb (Pw hs pl pu ?_);have R:¬((((Bc items.size 0 lo:Nat):Int)==0&&(1:Int)==1&&(Bc items.size items.size hi-Bc items.size 0 lo)==items.size)=true):=by
  intro q;rw[Bool.and_eq_true,Bool.and_eq_true]at q;have q1:((Bc items.size 0 lo:Nat):Int)=0:=eq_of_beq q.1.1;have q2:Bc items.size items.size hi-Bc items.size 0 lo=items.size:=eq_of_beq q.2;exact hw ⟨by lia,by lia⟩
 show wpAny _ _ (if(((Bc items.size 0 lo:Nat):Int)==0&&(1:Int)==1&&(Bc items.size items.size hi-Bc items.size 0 lo)==items.size)=true then _ else _) _ _ s;rw[if_neg R,d9]
 first
  |exact Wb (m:=Builtin.Tuple.tupleExact _) (ah (aA ⟨_,rfl,wpAny_pure h⟩) g)
  |exact Wb (m:=Builtin.Tuple.tupleExact _) (ah (Wb (aA (aA ⟨_,rfl,wpAny_pure h⟩))) g)
  |exact Wb (Wb (m:=Builtin.Tuple.tupleExact _) (ah (aA (aA ⟨_,rfl,wpAny_pure h⟩)) g))
  |exact Wb (Wb (m:=Builtin.Tuple.tupleExact _) (ah (aA ⟨_,rfl,wpAny_pure h⟩) g))
end
end HT
namespace L2
open PySem PySem.Spec PyProof.Rows
abbrev TO:=St->Hp->(Option Int->Hp->Prop)->Prop
def PO(X:Cx)(e:Option Expr)(t:TO):Prop :=
 ∀(pins:List (AD×Obj)) (s:SD) (σ:St) (H:Hp) (Q:Option Int->Hp->Prop),Inv X pins σ H s->t σ H Q ->
  wpAny (model X.prog X.w) X.A (evalPart e X.env) (fun u s'=>∃o H',Inv X pins σ H' s'/\IsPart u o/\Q o H') X.xe s
def iP:TO:=fun _ H Q=>Q none H
def nq(t:TE):TO:=fun σ H Q=>t σ H fun x g=>∃i,x=.int i/\Q (some i) g
def intsAre_of{ns:rd}:∀ {us:rT},Vals (ns.map V.int) us->IntsAre us ns:=by
 induction ns with
 |nil=>intro us r;rw[List.map_nil]at r;cases r;exact .nil
 |cons n ns O=>
  intro us r;rw[List.map_cons]at r;cases r with
  |cons I g=>
   obtain⟨t,e⟩:=I;subst e;exact .cons n t (O g)
section
variable{X:Cx}{e:Expr}{te:TE}{lo hi:Option Expr}{tl th:TO}{pos p2:Pos}
def iC:PO X none iP:=by
 intro pins s σ H Q I h;rw[evalPart_none];exact aA ⟨none,H,I,.none,h⟩
def iW(h:PE X e te):PO X (some e) (nq te):=by
 intro pins s σ H Q I O;rw[evalPart_some];refine BG (h pins s σ H _ I O) fun u s1 ⟨x,T,R,g,q1⟩=>?_;obtain⟨i,rfl,q⟩:=q1;obtain⟨t,rfl⟩:=g;exact⟨some i,T,R,.int i t,q⟩
def Us(X:Cx)(r:V->Option Int->Option Int->Hp->VK->Prop):Prop :=
 ∀(pins:List (AD×Obj)) (s:SD) (σ:St) (H:Hp) (x:V) (v I g:VL) (lo hi:Option Int) (sl:AD) (Q:VK),Inv X pins σ H s->RelV x v->s.heap.IsSliceOf sl I g .none->IsPart I lo->IsPart g hi->r x lo hi H Q ->
  ∃T id,typeLookup (.type T) "__getitem__" = pure (some (.builtin id))/\s.TypeIs v T/\wpAny (model X.prog X.w) X.A (getItem v (.ref sl)) (EP X pins σ Q) X.xe s
def Us.or{r T:V->Option Int->Option Int->Hp->VK->Prop}(h:Us X r)(h':Us X T):Us X (fun x lo hi H Q=>r x lo hi H Q\/T x lo hi H Q):=by
 intro pins s σ H x v O g lo hi sl Q I R Y pl U q;rcases q with q|q
 .exact h pins s σ H x v O g lo hi sl Q I R Y pl U q
 .exact h' pins s σ H x v O g lo hi sl Q I R Y pl U q
def qv(r:V->Option Int->Option Int->Hp->VK->Prop)(te:TE)(tl th:TO):TE:=fun σ H Q=>te σ H fun x O=>tl σ O fun l I=>th σ I fun u g=>r x l u g Q
def dw{r:V->Option Int->Option Int->Hp->VK->Prop}(hr:Us X r)(he:PE X e te)(hl:PO X lo tl)(hu:PO X hi th):PE X (.Subscript e (.Slice lo hi none p2) pos) (qv r te tl th):=by
 intro pins s σ H Q I h;refine Subscript_ (BG (he pins s σ H _ I h) fun v s1 ⟨x,H1,I1,Y,q1⟩=>?_);refine wpAny_Slice (BG (hl pins s1 σ H1 _ I1 q1) fun R s2 ⟨l,H2,I2,pl,q2⟩=>BG (hu pins s2 σ H2 _ I2 q2) fun O g ⟨u,U,I3,pu,Z⟩=>?_);rw[evalPart_none];refine aA ?_;have I4:Inv X pins σ U {g with heap:=g.heap.push { cls:=.type "slice",data:=.fields #[R,O,.none]} }:=I3.kept (t':=g.toks) fun b ob q=>aD _ q;obtain⟨T,id,hT,ht,hg⟩:=hr pins {g with heap:=g.heap.push { cls:=.type "slice",data:=.fields #[R,O,.none]} } σ U x v R O l u g.heap.objs.size Q I4 Y (Heap.IsSliceOf.new ..) pl pu Z;show wpAny (model X.prog X.w) X.A (subscriptTail e (.Slice lo hi none p2) v (.ref g.heap.objs.size)) (EP X pins σ Q) X.xe {g with heap:=g.heap.push { cls:=.type "slice",data:=.fields #[R,O,.none]} };exact tail_any (ops:=[.ref g.heap.objs.size,v]) ht hT hg (by with_unfolding_all rfl)
def Nz(xs:rq)(lo hi:rj):rq:=(xs.drop (HT.Bc xs.length 0 lo)).take (HT.Bc xs.length xs.length hi-HT.Bc xs.length 0 lo)
def Ov(xs:rq)(lo hi:rj):(Nz xs lo hi).length<=xs.length:=by
 unfold Nz;rw[List.length_take,List.length_drop]
 lia
def qb(K:Fg):V->Option Int->Option Int->Hp->VK->Prop:=fun x lo hi H Q=>∃a xs,x=.ref a/\BC K H a xs /\
 ¬(HT.Bc xs.length 0 lo=0/\HT.Bc xs.length xs.length hi=xs.length)/\∀p,H p=none->Q (.ref p) (upd H p (.tup (Nz xs lo hi)))
def kE:Us X (qb X.K):=by
 intro pins s σ H x v vl vu lo hi sl Q I U hs pl Y h;obtain⟨a,xs,rfl,Z,hw,q⟩:=h;cases U;obtain⟨O,r,T,R⟩:=I.tuple Z;have g:O.toArray.size=xs.length:=by rw[List.size_toArray];exact r.length.symm
 refine⟨"tuple",_,PyProof.Rows.slot_tuple_getitem.lookup,T.typeIs,?_⟩;refine HT.OV T hs pl Y (by rw[g];exact hw) ?_ (by rw[g];exact R);rw[g];refine⟨.ref s.heap.objs.size,_,I.laid (t':=s.toks) (o:=.tup (Nz xs lo hi)) (fun b ob q=>aD _ q) (aH _) ?_,rfl,q _ (I.Ap.fresh (aH _))⟩;exact⟨aR (Ov xs lo hi) R,_,(r.drop (HT.Bc xs.length 0 lo)).take (HT.Bc xs.length xs.length hi-HT.Bc xs.length 0 lo),IsTup.new _ _⟩
def Vals.WT{xs:rq}{us:rT}(r:Vals xs us):us=[] ↔ xs=[]:=by
 cases r with
 |nil=>simp
 |cons _ _=>simp
end
def Oo(n:Nat)(i:Int):Option Nat:=if 0<=i then(if i<n then some i.toNat else none) else if -(n:Int)<=i then some (i+n).toNat else none
def GW{g:Type}(xs:List g)(i:Int):Option g:=(Oo xs.length i).bind fun j=>xs[j]?
def WV{n:Nat}{i:Int}{j:Nat}(h:Oo n i=some j):seqIndex? i n=some j/\j<n/\-(n:Int)<=i/\i<n:=by
 unfold Oo at h;by_cases h0:0<=i
 .rw[if_pos h0]at h;by_cases g:i<n
  .rw[if_pos g]at h;have e:i.toNat=j:=af h;exact⟨by rw[seqIndex_of h0 g,e],by lia,by lia,g⟩
  .rw[if_neg g]at h;cases h
 .rw[if_neg h0]at h;by_cases g:-(n:Int)<=i
  .rw[if_pos g]at h;have e:(i+n).toNat=j:=af h;exact⟨by rw[seqIndex_neg (by lia) g,e],by lia,g,by lia⟩
  .rw[if_neg g]at h;cases h
def Ro{g:Type}{xs:List g}{i:Int}{v:g}(h:GW xs i=some v):∃j,seqIndex? i xs.length=some j/\xs[j]? = some v/\j<xs.length/\-(xs.length:Int)<=i/\i<xs.length:=by
 unfold GW at h;cases e:Oo xs.length i with
 |none=>rw[e]at h;cases h
 |some j=>
  rw[e]at h;obtain⟨T,R,O,I⟩:=WV e;exact⟨j,T,h,R,O,I⟩
def iU{g:Type}{xs:List g}{j:Nat}{v:g}(h:xs[j]? = some v):GW xs (j:Int)=some v:=by
 have I:j<xs.length:=(aG.mp h).1;have e:Oo xs.length (j:Int)=some j:=by
  unfold Oo;rw[if_pos (by lia),if_pos (by lia)];simp
 unfold GW;rw[e];exact h
def cI{g:Type}(xs:List g)(v:g):GW (xs++[v]) (-1)=some v:=by
 have I:(xs++[v]).length=xs.length+1:=by simp
 have e:Oo (xs++[v]).length (-1)=some xs.length:=by
  unfold Oo;rw[I,if_neg (by decide),if_pos (by lia)]
  congr 1
  lia
 unfold GW;rw[e];show(xs++[v])[xs.length]? = some v;simp
def Wt(b:Expr):Prop:=∀o i,subscripted b false o i=operate [o,i] (getItem o i)
def O6(X:Cx)(r:R2):Prop :=
 ∀(value slice:Expr) (pins:List (AD×Obj)) (s:SD) (σ:St) (H:Hp) (x y:V) (v u:VL) (Q:VK),Inv X pins σ H s->RelV x v->RelV y u->r x y H Q ->
  subscripted slice false v u=operate [v,u] (getItem v u)->wpAny (model X.prog X.w) X.A (subscriptTail value slice v u) (EP X pins σ Q) X.xe s
def pJ(X:Cx)(id:String)(r:V->List V->Hp->VK->Prop):Prop :=
 ∀(pins:List (AD×Obj)) (s:SD) (σ:St) (H:Hp) (x:V) (xs:List V) (v:VL) (us:List VL) (Q:VK),Inv X pins σ H s->RelV x v->Vals xs us->r x xs H Q ->
  wpAny (model X.prog X.w) X.A (call (.builtin id) (v::us)) (EP X pins σ Q) X.xe s
section
variable{X:Cx}{a b:Expr}{ta tb:TE}{pos:Pos}
def O6.or{r R:R2}(h:O6 X r)(h':O6 X R):O6 X (fun x y H Q=>r x y H Q\/R x y H Q):=by
 intro value slice pins s σ H x y v u Q I O g q T;rcases q with q|q
 .exact h value slice pins s σ H x y v u Q I O g q T
 .exact h' value slice pins s σ H x y v u Q I O g q T
def IJ{r:R2}(T:O6 X r)(ha:PE X a ta)(hb:PE X b tb)(R:Wt b):PE X (.Subscript a b pos) (Yr r ta tb):=by
 intro pins s σ H Q I h;exact Subscript_ (K7 ha hb I h fun v u s2 x y Y U O g q=>T a b pins s2 σ Y x y v u Q U O g q (R _ _))
def ml(K:Fg):R2:=fun x y H Q=>∃p xs i v,x=.ref p/\y=.int i/\Al K H p xs/\GW xs i=some v/\Q v H
def dn(K:Fg):R2:=fun x y H Q=>∃p xs i v,x=.ref p/\y=.int i/\BC K H p xs/\GW xs i=some v/\Q v H
def lh:R2:=fun x y H Q=>∃z i c,x=.str z/\y=.int i/\z.length<=sizeLine/\GW z.cps.toList i=some c/\Q (.str ⟨#[c]⟩) H
def XD:O6 X (ml X.K):=by
 intro value slice pins s σ H x y v u Q I rx Z h U;obtain⟨p,xs,i,z,rfl,rfl,hq,he,q⟩:=h;cases rx;obtain⟨t,rfl⟩:=Z;obtain⟨R,r,pl,hz⟩:=I.list hq;obtain⟨j,g,h2,h3,h4,h5⟩:=Ro he;obtain⟨w,Y,O⟩:=r.get h2;have hl:=r.length;have hn:=M9;have fin:EP X pins σ Q w s:=⟨z,H,I,O,q⟩;by_cases h0:0<=i
 .have T:i.toNat=j:=by
   rw[seqIndex_of h0 h5]at g;exact af g
  exact item_listR pl.isList h0 (by lia) (by rw[T];simpa using Y) fin U
 .have T:(i+(R.toArray.size:Int)).toNat=j:=by
   rw[seqIndex_neg (by lia) h4]at g;rw[List.size_toArray,<-hl];exact af g
  exact subscriptTail_builtinR (x:=w) pl.isList.typeIs slot_list_getitem.lookup
   (wpAny_getItem_list_neg (Q:=fun r s'=>r=w/\EP X pins σ Q r s') pl.isList (by lia) (by rw[List.size_toArray]<;>lia) (by lia) (by rw[T];simpa using Y) ⟨rfl,fin⟩) U
def Li:O6 X (dn X.K):=by
 intro value slice pins s σ H x y v u Q I R O h U;obtain⟨p,xs,i,z,rfl,rfl,Y,he,q⟩:=h;cases R;obtain⟨t,rfl⟩:=O;obtain⟨T,r,pl,hz⟩:=I.tuple Y;obtain⟨j,h1,h2,h3,h4,h5⟩:=Ro he;obtain⟨w,ew,g⟩:=r.get h2;have Z:=r.length;have hn:=M9;have fin:EP X pins σ Q w s:=⟨z,H,I,g,q⟩;exact subscriptTail_builtinR (x:=w) pl.typeIs slot_tuple_getitem.lookup
  (getItem_tuple (j:=j) (Q:=fun r s'=>r=w/\EP X pins σ Q r s') pl (by lia) (by lia) (by rw[List.size_toArray,<-Z];exact h1) (by simpa using ew) ⟨rfl,fin⟩) U
def j9:O6 X lh:=by
 intro value slice pins s σ H x y v u Q I R O h T;obtain⟨z,i,c,rfl,rfl,hz,Y,q⟩:=h;obtain⟨t,rfl⟩:=R;obtain⟨t',rfl⟩:=O;obtain⟨j,g,h2,h3,h4,Z⟩:=Ro Y;have U:z.cps.toList.length=z.length:=by simp[Str.length]
 rw[U]at g h4 Z;have hn:=M9;exact tail_any (typeIs_str s z t) slot_str_getitem.lookup (getItem_str (c:=c) (by
  have e1:decide (i < -(2^63:Int))=false:=bF (by lia);have e2:decide (i >= 2^63)=false:=bF (by lia);rw[e1,e2,Bool.or_false]) (by rw[g];simpa using h2) ⟨.str ⟨#[c]⟩,H,I.tok _,⟨_,rfl⟩,q⟩) T
def qt(K:Fg):R2:=fun x y H Q=>ml K x y H Q\/dn K x y H Q\/lh x y H Q
def mP:O6 X (qt X.K):=XD.or (Li.or j9)
def YS(g:rT)(n j:Nat)(u:VL):Obj.mapSeq (·.setIfInBounds j u) { cls:=.type "list",data:=.seq g.toArray n}={ cls:=.type "list",data:=.seq (g.set j u).toArray n}:=by
 simp[Obj.mapSeq]
def Inv.lst{pins:List (AD×Obj)}{σ:St}{H:Hp}{s:SD}{p:AD}{xs:rq}(I:Inv X pins σ H s)(h:H p=some (.lst xs)):∃(g:rT) (n:Nat),Vals xs g/\s.heap.get? p=some { cls:=.type "list",data:=.seq g.toArray n}/\xs.length<=sizeLine:=by
 obtain⟨z,g,n,r,e⟩:=I.Ap p _ h;exact⟨g,n,r,e,z⟩
def Inv.mr{pins:List (AD×Obj)}{σ:St}{H:Hp}{s:SD}{p:AD}{xs ys:rq}{g its':rT}{n O:Nat}{f:Obj->Obj}(I:Inv X pins σ H s)(h:H p=some (.lst xs)) (T:s.heap.get? p=some { cls:=.type "list",data:=.seq g.toArray n})(R:f { cls:=.type "list",data:=.seq g.toArray n}={ cls:=.type "list",data:=.seq its'.toArray O})(r:Vals ys its')(hz:ys.length<=sizeLine)(t:Nat):Inv X pins σ (upd H p (.lst ys)) {s with heap:=s.heap.update p f,toks:=t}:=by
 have e:(s.heap.update p f).get? p=some { cls:=.type "list",data:=.seq its'.toArray O}:=by
  rw[Heap.get?_update_self f T (by rw[R]<;>rfl),R]
 refine I.write (x:=p) (e:=p) (by rw[h];trivial) (.inl rfl) (fun b u hb q=>(Heap.get?_update_other _ _ (Ne.symm hb)).trans q) ⟨_,e⟩ ?_;exact⟨hz,its',O,r,e⟩
def ny:V->V->V->Hp->(Hp->Prop)->Prop:=fun o i v H Q=>∃p xs k j,o=.ref p/\i=.int k/\H p=some (.lst xs)/\Oo xs.length k=some j/\Q (upd H p (.lst (xs.set j v)))
def set_list:d7 X ny:=by
 intro pins s σ H o i v ov iv u Q I ro ri rv h;obtain⟨p,xs,k,j,rfl,rfl,U,hj,q⟩:=h;cases ro;obtain⟨t,rfl⟩:=ri;obtain⟨g,n,r,R,hz⟩:=I.lst U;obtain⟨O,h2,Z,Y⟩:=WV hj;have T:=r.length;have hn:=M9;have I':Inv X pins σ (upd H p (.lst (xs.set j v))) {s with heap:=s.heap.update p (Obj.mapSeq (·.setIfInBounds j u))} :=
  I.mr U R (YS g n j u) (r.set rv j) (by rw[List.length_set];exact hz) s.toks
 by_cases h0:0<=k
 .have hk:k.toNat=j:=by
   rw[seqIndex_of h0 Y]at O;exact af O
  exact PySem.W.ki_setAt R h0 (by lia) (by rw[List.size_toArray,<-T];exact Y) (by rw[hk];exact⟨_,I',q⟩)
 .have hk:(k+(g.toArray.size:Int)).toNat=j:=by
   rw[seqIndex_neg (by lia) Z]at O;rw[List.size_toArray,<-T];exact af O
  exact PySem.W.ki_setBack R (by lia) (by rw[List.size_toArray,<-T];exact Z) (by lia) (by rw[hk];exact⟨_,I',q⟩)
def UG(lo hi:rj)(n:Nat):(sliceBounds lo hi none n).1=((HT.Bc n 0 lo:Nat):Int)/\(sliceBounds lo hi none n).2.1=((HT.Bc n n hi:Nat):Int)/\(sliceBounds lo hi none n).2.2=1:=by
 refine⟨?_,?_,rfl⟩
 .cases lo with
  |none=>simp[sliceBounds,HT.Bc]
  |some i=>
   simp only[sliceBounds,HT.Bc,Option.getD_none,show(1:Int) > 0 by decide,if_true];by_cases h:i<0
   .simp only[h,if_true]<;>lia
   .simp only[h,if_false]<;>lia
 .cases hi with
  |none=>simp[sliceBounds,HT.Bc]
  |some i=>
   simp only[sliceBounds,HT.Bc,Option.getD_none,show(1:Int) > 0 by decide,if_true];by_cases h:i<0
   .simp only[h,if_true]<;>lia
   .simp only[h,if_false]<;>lia
def Ta(g:rT)(lo hi:rj):slicePick g.toArray lo hi none=((g.drop (HT.Bc g.length 0 lo)).take (HT.Bc g.length g.length hi-HT.Bc g.length 0 lo)).toArray:=by
 obtain⟨R,O,I⟩:=UG lo hi g.toArray.size;unfold slicePick;rw[R,O,I];simp only[sliceRange_one,pick_run,List.size_toArray]<;>rfl
def qe(K:Fg):V->Option Int->Option Int->Hp->VK->Prop:=fun x lo hi H Q=>∃a xs,x=.ref a/\Al K H a xs/\∀p,H p=none->Q (.ref p) (upd H p (.lst (Nz xs lo hi)))
def i4:Us X (qe X.K):=by
 intro pins s σ H x v vl vu lo hi sl Q I R hs pl T h;obtain⟨a,xs,rfl,Z,q⟩:=h;cases R;obtain⟨U,r,O,Y⟩:=I.list Z;have g:=r.length;refine⟨"list",_,slot_list_getitem.lookup,O.isList.typeIs,?_⟩;refine wpAny_getItem_list_slice O.isList hs pl T .none (by simp) ?_ (by rw[List.size_toArray]<;>lia);rw[Ta,<-g];refine⟨.ref s.heap.objs.size,_,I.laid (t':=s.toks) (o:=.lst (Nz xs lo hi)) (fun b ob q=>aD _ q) (aH _) ?_,rfl,q _ (I.Ap.fresh (aH _))⟩;exact⟨aR (Ov xs lo hi) Y,_,0,(r.drop (HT.Bc xs.length 0 lo)).take (HT.Bc xs.length xs.length hi-HT.Bc xs.length 0 lo),Heap.get?_push_size _ rfl⟩
def JR:V->Bool
 |.BP=>true
 |.bl _=>true
 |.int _=>true
 |.str _=>true
 |_=>false
def Sg:V->V->Bool
 |.BP,.BP=>true
 |.bl a,.bl b=>a==b
 |.bl a,.int b=>(if a then 1 else 0)==b
 |.int a,.bl b=>a==(if b then 1 else 0)
 |.int a,.int b=>a==b
 |.str a,.str b=>a==b
 |_,_=>false
def kd{A:Around}{s:SD}{y x:V}{u v:VL}(O:RelV y u)(g:RelV x v)(T:JR y=true)(R:JR x=true):SeqAt.EqAt A s u v (Sg y x):=by
 cases y with
 |BP=>
  cases O;cases x with
  |BP=>cases g;exact SeqAt.EqAt.same _
  |bl b=>cases g;exact SeqAt.EqAt.none_bool b
  |int b=>obtain⟨t,rfl⟩:=g;exact SeqAt.EqAt.none_int b t
  |str b=>obtain⟨t,rfl⟩:=g;exact SeqAt.EqAt.none_str b t
  |_=>exact absurd (show false=true from R) aI
 |bl a=>
  cases O;cases x with
  |BP=>cases g;exact SeqAt.EqAt.bool_none a
  |bl b=>cases g;exact SeqAt.EqAt.bool_bool a b
  |int b=>obtain⟨t,rfl⟩:=g;exact SeqAt.EqAt.bool_int a b t
  |str b=>obtain⟨t,rfl⟩:=g;exact SeqAt.EqAt.bool_str a b t
  |_=>exact absurd (show false=true from R) aI
 |int a=>
  obtain⟨I,rfl⟩:=O;cases x with
  |BP=>cases g;exact SeqAt.EqAt.int_none a I
  |bl b=>cases g;exact SeqAt.EqAt.int_bool a I b
  |int b=>obtain⟨t,rfl⟩:=g;exact SeqAt.EqAt.int_int a I b t
  |str b=>obtain⟨t,rfl⟩:=g;exact SeqAt.EqAt.int_str a I b t
  |_=>exact absurd (show false=true from R) aI
 |str a=>
  obtain⟨I,rfl⟩:=O;cases x with
  |BP=>cases g;exact SeqAt.EqAt.str_none a I
  |bl b=>cases g;exact SeqAt.EqAt.str_bool a I b
  |int b=>obtain⟨t,rfl⟩:=g;exact SeqAt.EqAt.str_int a I b t
  |str b=>obtain⟨t,rfl⟩:=g;exact SeqAt.EqAt.str_str a I b t
  |_=>exact absurd (show false=true from R) aI
 |_=>exact absurd (show false=true from T) aI
def RH(x:V)(u:VL):Bool:=match u with
 |.none=>Sg .BP x
 |.bool b=>Sg (.bl b) x
 |.int i _=>Sg (.int i) x
 |.str z _=>Sg (.str z) x
 |_=>false
def Zg{x y:V}{u:VL}(r:RelV y u)(f:JR y=true):RH x u=Sg y x:=by
 cases y with
 |BP=>cases r;rfl
 |bl b=>cases r;rfl
 |int i=>obtain⟨t,rfl⟩:=r;rfl
 |str z=>obtain⟨t,rfl⟩:=r;rfl
 |_=>exact absurd (show false=true from f) aI
def RY{x:V}:∀ {xs:List V} {us:List VL},Vals xs us->xs.all JR=true->us.any (RH x)=xs.any fun y=>Sg y x
 |_,_,.nil,_=>rfl
 |y::xs,u::us,.cons r t,f=>by
  rw[List.all_cons,Bool.and_eq_true]at f;rw[List.any_cons,List.any_cons,Zg r f.1,RY t f.2]
def Po{A:Around}{s:SD}{x:V}{v:VL}(I:RelV x v)(O:JR x=true):∀ {xs:List V} {us:List VL},Vals xs us->xs.all JR=true->∀u∈us,SeqAt.EqAt A s u v (RH x u)
 |_,_,.nil,_=>fun u g=>by cases g
 |y::xs,u::us,.cons r t,f=>fun R g=>by
  rw[List.all_cons,Bool.and_eq_true]at f;rcases aM.mp g with rfl|g
  .rw[Zg r f.1];exact kd r I f.1 O
  .exact Po I O t f.2 R g
def fv(x:V)(xs:rq):Bool:=xs.any fun y=>Sg y x
def pH(K:Fg)(neg:Bool):R2:=fun x y H Q=>∃p xs,y=.ref p/\(Al K H p xs\/BC K H p xs)/\JR x=true/\xs.all JR=true/\Q (.bl (if neg then !fv x xs else fv x xs)) H
def U4:C6 X (compareOp .NotIn) (pH X.K true):=by
 intro pins s σ H x y v u Q I T Y h;obtain⟨p,xs,rfl,O,U,fs,q⟩:=h;cases Y;rcases O with O|O
 .obtain⟨g,r,pl,Z⟩:=I.list O;refine SeqAt.notIn_listAt (RH x) pl.isList (fun w R=>Po T U r fs w (by simpa using R)) ⟨.bl _,H,I,rfl,?_⟩;rw[show g.toArray.any (RH x)=g.any (RH x) by simp,RY r fs];exact q
 .obtain⟨g,r,pl,Z⟩:=I.tuple O;refine SeqAt.notIn_tupleAt (RH x) pl (fun w R=>Po T U r fs w (by simpa using R)) ⟨.bl _,H,I,rfl,?_⟩;rw[show g.toArray.any (RH x)=g.any (RH x) by simp,RY r fs];exact q
def HK:D4 X (.builtin "len") (fun xs H Q=>∃p ys,xs=[.ref p]/\(Al X.K H p ys\/BC X.K H p ys)/\Q (.int ys.length) H):=by
 intro pins s σ H xs us Q I r h;obtain⟨p,ys,rfl,O,q⟩:=h;obtain⟨u,rfl,U⟩:=vals1 r;cases U;have hn:=M9;rcases O with O|O
 .obtain⟨T,R,pl,Y⟩:=I.list O;have g:=R.length;exact Calls.call_len_list pl.isList (by simp only[List.size_toArray]<;>lia) ⟨.int ys.length,H,I.tok _,⟨s.toks+1,by rw[List.size_toArray,g]⟩,q⟩
 .obtain⟨T,R,pl,Y⟩:=I.tuple O;have g:=R.length;exact len_tuple pl (by simp only[List.size_toArray]<;>lia) ⟨.int ys.length,H,I.tok _,⟨s.toks+1,by rw[List.size_toArray,g]⟩,q⟩
def D4.or{f:VL}{r g:List V->Hp->VK->Prop}(h:D4 X f r)(h':D4 X f g):D4 X f (fun xs H Q=>r xs H Q\/g xs H Q):=by
 intro pins s σ H xs us Q I rs q;rcases q with q|q
 .exact h pins s σ H xs us Q I rs q
 .exact h' pins s σ H xs us Q I rs q
def UM:D4 X (.type "list") (fun xs H Q=>∃p ys,xs=[.ref p]/\(Al X.K H p ys\/BC X.K H p ys)/\∀l,H l=none->Q (.ref l) (upd H l (.lst ys))):=by
 intro pins s σ H xs us Q I r h;obtain⟨p,ys,rfl,U,q⟩:=h;obtain⟨u,rfl,rx⟩:=vals1 r;cases rx;have fin:∀(g:List VL),Vals ys g->ys.length<=sizeLine->∀(h':Heap) (R:Nat),(∀b o',s.heap.get? b=some o'->h'.get? b=some o') ->
   h'.get? s.heap.objs.size=some { cls:=.type "list",dict:=none,data:=.seq g.toArray R,slots:=#[]}->EP X pins σ Q (.ref s.heap.objs.size) {s with heap:=h'}:=fun g O T h' R kp e=>
  ⟨.ref s.heap.objs.size,_,I.laid (t':=s.toks) kp (aH _) (show CK X.prog X.w _ h' _ (.lst ys) from⟨T,g,R,O,e⟩),rfl,q _ (I.Ap.fresh (aH _))⟩
 rcases U with U|U
 .obtain⟨g,O,pl,T⟩:=I.list U;have Y:=O.length;obtain⟨o,Z,hc,n,hd⟩:=pl.isList;exact call_list_seq p (.inl rfl) Z hc hd (fun h' R kp e=>fin g O T h' R kp e) (by simp only[List.size_toArray]<;>lia)
 .obtain⟨g,O,pl,T⟩:=I.tuple U;have Y:=O.length;obtain⟨o,Z,hc,n,hd⟩:=pl;exact call_list_seq p (.inr rfl) Z hc hd (fun h' R kp e=>fin g O T h' R kp e) (by simp only[List.size_toArray]<;>lia)
def TZ:D4 X (.type "tuple") (fun xs H Q=>∃p ys,xs=[.ref p]/\((Al X.K H p ys/\∀l,H l=none->Q (.ref l) (upd H l (.tup ys)))\/(BC X.K H p ys/\Q (.ref p) H))):=by
 intro pins s σ H xs us Q I r h;obtain⟨p,ys,rfl,h⟩:=h;obtain⟨u,rfl,rx⟩:=vals1 r;cases rx;rcases h with ⟨R,q⟩|⟨R,q⟩
 .obtain⟨g,O,pl,T⟩:=I.list R;have U:=O.length;refine call_tuple_list pl.isList (fun h' kp=>?_) (by simp only[List.size_toArray]<;>lia);have Y:Inv X pins σ H {s with heap:=h'}:=I.kept (t':=s.toks) kp;have I2:Inv X pins σ (upd H h'.objs.size (.tup ys)) {s with heap:=h'.push { cls:=.type "tuple",data:=.seq g.toArray} } :=
   Y.laid (t':=s.toks) (fun b o e=>aD _ e) (aH _) (show CK X.prog X.w _ _ _ (.tup ys) from⟨T,g,O,IsTup.new _ _⟩)
  exact⟨.ref h'.objs.size,_,I2,rfl,q _ (Y.Ap.fresh (aH _))⟩
 .obtain⟨g,O,pl,T⟩:=I.tuple R;exact call_tuple_same pl ⟨.ref p,H,I,rfl,q⟩
def oz(K:Fg)(T:String)(x:V)(H:Hp):Prop:=match x with
 |.str _=>T = "str"
 |.int _=>T = "int"
 |.ref p=>(T = "list" /\ ∃xs,Al K H p xs)\/(T = "tuple" /\ ∃o,K.lookup p=some o/\o.cls=.type "tuple" /\ o.dict=none) \/
   (T = "dict" /\((∃kvs,H p=some (.dK kvs))\/∃kvs,H p=some (.dT kvs)))\/(T = "set" /\ ∃S n,H p=some (.set S n))
 |_=>False
def jg{pins:List (AD×Obj)}{σ:St}{H:Hp}{s:SD}{T:String}{x:V}{v:VL}(I:Inv X pins σ H s)(r:RelV x v)(ty:oz X.K T x H):s.TypeIs v T/\∀a,v=.ref a->∃ob,s.heap.get? a=some ob/\ob.dict=none:=by
 cases x with
 |str z=>
  obtain⟨t,rfl⟩:=r;cases (show T = "str" from ty);exact⟨typeIs_str s z t,fun _ e=>nomatch e⟩
 |int i=>
  obtain⟨t,rfl⟩:=r;cases (show T = "int" from ty);exact⟨typeIs_int s i t,fun _ e=>nomatch e⟩
 |ref p=>
  cases r;rcases ty with ⟨rfl,xs,R⟩|⟨rfl,o,hk,U,hd⟩|⟨rfl,hk⟩|⟨rfl,S,n,hk⟩
  .obtain⟨O,_,pl,_⟩:=I.list R;refine⟨pl.isList.typeIs,fun a e=>?_⟩;cases e;obtain⟨o,n,e,c,hd,_⟩:=pl;exact⟨o,e,hd⟩
  .refine⟨⟨o,I.GO p o hk,U⟩,fun a e=>?_⟩;cases e;exact⟨o,I.GO _ o hk,hd⟩
  .have z:∃o,s.heap.get? p=some o/\o.ExactDict:=by
    rcases hk with ⟨kvs,hk⟩|⟨kvs,hk⟩
    .obtain⟨_,_,_,_,o,_,_,e,ex,_⟩:=I.Ap p _ hk;exact⟨o,e,ex⟩
    .obtain⟨_,_,_,_,o,_,_,e,ex,_⟩:=I.Ap p _ hk;exact⟨o,e,ex⟩
   obtain⟨o,e,ex⟩:=z;refine⟨⟨o,e,ex.1⟩,fun a g=>?_⟩;cases g;exact⟨o,e,ex.2.1⟩
  .obtain⟨o,_,_,_,e,ex,_⟩:=I.Ap p _ hk;refine⟨⟨o,e,ex.1⟩,fun a g=>?_⟩;cases g;exact⟨o,e,ex.2.1⟩
 |_=>exact False.elim ty
def fS(K:Fg)(T:String)(r:V->List V->Hp->VK->Prop)(I:TE)(t:TA):TE:=fun σ H Q=>I σ H fun x g=>oz K T x g/\t σ g fun xs O=>r x xs O Q
variable{o e:Expr}{es:rg}{to:TE}{t:TA}{name:Str}{apos cpos:Pos}{T id:String}{r:V->List V->Hp->VK->Prop}
def HJ(pa:PlainAttrs T)(slot:Slot T name id)(Y:typeOf (.builtin id)=pure (.type "method_descriptor"))(hm:pJ X id r)(ho:PE X o to)(ha:PA X (e::es) t) (R:attributeBase o name X.env (eval o X.env)=eval o X.env:=by rfl) (U:((backTo cpos (starEach (e::es) X.env)).all (fun x=>!x.1)&&(backToKw cpos (keywordEach [] X.env)).all (fun x=>x.1.isSome) && decide ((e::es).length+([]:List Keyword).length+(if([]:List Keyword).isEmpty then 0 else 1)<30))=true:=by rfl) (O:(apos.endLine==cpos.line)=true:=by rfl)(hs:starEach (e::es) X.env=(false,eval e X.env)::starEach es X.env:=by rfl)(g:(backTo cpos (starEach es X.env)).any (·.1)=false:=by rfl):PE X (.Call (.Attribute o name apos) (e::es) [] cpos) (fS X.K T r to t):=by
 intro pins s σ H Q I h;refine wpAny_Call_method_late R U O rfl (BG (ho pins s σ H _ I h) fun v s1 ⟨x,H1,I1,Z,ty,q1⟩=>?_);obtain⟨h1,h2⟩:=jg I1 Z ty;refine⟨T,id,pa,slot,Y,h1,h2,?_⟩;have hA:=ha cpos pins s1 σ H1 _ I1 q1;rw[hs]at hA ⊢;refine Calls.callWith_builtin (by show(false||(backTo cpos (starEach es X.env)).any (·.1))=false;rw[g]<;>rfl) (Calls.evalArgs_plain ?_);exact BG hA fun us s2 ⟨vs,H2,I2,r2,q2⟩=>hm pins s2 σ H2 x vs v us Q I2 Z r2 q2
end
def pK(X:Cx)(id:String)(r:V->List V->Hp->VK->Prop):Prop :=
 ∀(pins:List (AD×Obj)) (s:SD) (σ:St) (H:Hp) (x:V) (xs:List V) (v:VL) (us:List VL) (Q:VK),Inv X pins σ H s->RelV x v->Vals xs us->r x xs H Q ->
  wpAny (model X.prog X.w) X.A (call (.builtin id) (v::us)) (EP X pins σ Q) X.xe s
def Vals.one:∀ {x:V} {us:List VL},Vals [x] us->∃u,us=[u]/\RelV x u
 |_,_,.cons r .nil=>⟨_,rfl,r⟩
def Vals.two:∀ {x y:V} {us:List VL},Vals [x,y] us->∃u v,us=[u,v]/\RelV x u/\RelV y v
 |_,_,_,.cons r (.cons q .nil)=>⟨_,_,rfl,r,q⟩
def Vals.reverse{xs:rq}{us:rT}(h:Vals xs us):Vals xs.reverse us.reverse:=by
 induction h with
 |nil=>exact .nil
 |cons r t g=>rw[List.reverse_cons,List.reverse_cons];exact Vals.append g (.cons r .nil)
def Vals.rep{xs:List V}{us:List VL}(h:Vals xs us):∀k:Nat,Vals (List.replicate k xs).flatten (List.replicate k us).flatten
 |0=>.nil
 |k+1=>by
  rw[List.replicate_succ,List.replicate_succ,List.flatten_cons,List.flatten_cons];exact Vals.append h (Vals.rep h k)
def foldl_rep(g:List VL):∀(k:Nat) (I:List VL),
  List.foldl (fun R O=>R++O) I.toArray (List.replicate k g.toArray)=(I++(List.replicate k g).flatten).toArray
 |0,I=>by simp
 |k+1,I=>by
  have e:I.toArray++g.toArray=(I++g).toArray:=by simp
  have T:(I++g)++(List.replicate k g).flatten=I++(List.replicate (k+1) g).flatten:=by
   rw[List.replicate_succ,List.flatten_cons,List.append_assoc]
  rw[<-T,<-foldl_rep g k (I++g),<-e,List.replicate_succ,List.foldl_cons]
section
variable{X:Cx}{pins:List (AD×Obj)}{σ:St}{H:Hp}{s:SD}{l:AD}{xs ys:rq}
def Inv.la{g its':rT}{n:Nat}{f:Array VL->Array VL}{t':Nat}(I:Inv X pins σ H s)(U:H l=some (.lst xs)) (e:s.heap.get? l=some { cls:=.type "list",data:=.seq g.toArray n})(T:f g.toArray=its'.toArray)(O:Vals ys its')(hz:ys.length<=sizeLine):Inv X pins σ (upd H l (.lst ys)) {s with heap:=s.heap.update l (Obj.mapSeq f),toks:=t'}:=by
 have q:=PySem.IsL.update e f;rw[T]at q;refine I.write (x:=l) (e:=l) (by rw[U];exact trivial) (.inl rfl) (fun Y u hb R=>(Heap.get?_update_other s.heap (Obj.mapSeq f) (Ne.symm hb)).trans R) ⟨_,q⟩ ?_;exact⟨hz,its',_,O,q⟩
def Inv.kL{g:rT}{t':Nat}(I:Inv X pins σ H s)(O:Vals ys g)(hz:ys.length<=sizeLine):Inv X pins σ (upd H s.heap.objs.size (.lst ys)) {s with heap:=s.heap.push { cls:=.type "list",data:=.seq g.toArray},toks:=t'} :=
 I.laid (fun _ _ q=>aD _ q) (aH _) ⟨hz,g,0,O,Heap.get?_push_size _ rfl⟩
def Inv.fresh(I:Inv X pins σ H s):H s.heap.objs.size=none:=I.Ap.fresh (aH _)
def Inv.RP(I:Inv X pins σ H s)(O:H l=some (.lst xs)):xs.length<=sizeLine/\∃(g:rT) (n:Nat),Vals xs g/\xs.length=g.length/\s.heap.get? l=some { cls:=.type "list",data:=.seq g.toArray n}:=by
 obtain⟨z,g,n,r,e⟩:=I.Ap l _ O;exact⟨z,g,n,r,r.length,e⟩
def VV{n:Nat}(h:n<=sizeLine):Builtin.List.listTooLong n=false:=by
 unfold Builtin.List.listTooLong;exact bF (by lia)
end
section
variable{X:Cx}
def RU:V->List V->Hp->VK->Prop:=fun x vs H Q=>∃l xs y,x=.ref l/\vs=[y]/\H l=some (.lst xs)/\xs.length<sizeLine/\Q .BP (upd H l (.lst (xs++[y])))
def FH:pK X "list.append" RU:=by
 intro pins s σ H x vs v us Q I T U h;obtain⟨l,xs,y,rfl,rfl,R,Z,q⟩:=h;cases T;obtain⟨u,rfl,Y⟩:=U.one;obtain⟨z,g,n,r,hl,e⟩:=I.RP R;refine call_meets F.slot_list_append ⟨_,e,rfl⟩ F.entry_list_append (F.args_list_append_2 _ _) (PySem.list_append l g.toArray n u (by rw[List.size_toArray];lia)) ⟨e,?_⟩;refine⟨.BP,_,I.la (its':=g++[u]) R e (by simp) (r.append (.cons Y .nil)) ?_,rfl,q⟩;rw[List.length_append,List.length_singleton]
 lia
def XA:V->List V->Hp->VK->Prop:=fun x vs H Q=>∃l b xs g,x=.ref l/\vs=[.ref b]/\H l=some (.lst xs)/\H b=some (.lst g)/\xs.length+g.length<=sizeLine/\Q .BP (upd H l (.lst (xs++g)))
def NG:pK X "list.extend" XA:=by
 intro pins s σ H x vs v us Q I Z rv h;obtain⟨l,b,xs,zs,rfl,rfl,Y,hB,hz,q⟩:=h;cases Z;obtain⟨u,rfl,ru⟩:=rv.one;cases ru;obtain⟨z,O,n,r,hl,e⟩:=I.RP Y;obtain⟨z2,g,n2,r2,hl2,e2⟩:=I.RP hB;have T:O.toArray.size+g.toArray.size<=sizeLine:=by rw[List.size_toArray,List.size_toArray];lia
 have R:¬(!O.toArray.isEmpty&&Builtin.List.listTooLong (O.toArray.size+g.toArray.size))=true:=by
  rw[VV T,Bool.and_false];exact aI
 refine call_meets F.slot_list_extend ⟨_,e,rfl⟩ F.entry_list_extend (F.args_list_extend_2 _ _)
  (AutoSeq1.list_extend_list_list_0 l O.toArray n b g.toArray n2 R (by rw[List.size_toArray];lia) (by lia)) ⟨e,e2,?_⟩
 refine⟨.BP,_,I.la (its':=O++g) Y e (by simp) (r.append r2) ?_,rfl,q⟩;rw[List.length_append]
 lia
def qA:R2:=fun x y H Q=>∃l b xs g,x=.ref l/\y=.ref b/\H l=some (.lst xs)/\H b=some (.lst g)/\xs.length+g.length<=sizeLine/\∀p,H p=none->Q (.ref p) (upd H p (.lst (xs++g)))
def Zd:C6 X (binaryOp .Add) qA:=by
 intro pins s σ H x y v u Q I T R h;obtain⟨l,b,xs,zs,rfl,rfl,Z,hB,hz,q⟩:=h;cases T;cases R;obtain⟨z,O,n,r,hl,e⟩:=I.RP Z;obtain⟨z2,g,n2,U,Y,e2⟩:=I.RP hB;refine PySem.P.add_list e e2 ?_ (by rw[List.size_toArray,List.size_toArray];lia);have ea:O.toArray++g.toArray=(O++g).toArray:=by simp
 rw[ea];exact⟨.ref _,_,I.kL (t':=s.toks) (r.append U) (by rw[List.length_append];lia),rfl,q _ I.fresh⟩
def pz:R2:=fun x y H Q=>∃l k xs,x=.ref l/\y=.int k/\H l=some (.lst xs)/\-(2^63)<=k/\k<2^63/\xs.length*k.toNat<=sizeLine /\
 ∀p,H p=none->Q (.ref p) (upd H p (.lst (List.replicate k.toNat xs).flatten))
def len_rep{g:Type}(xs:List g)(k:Nat):(List.replicate k xs).flatten.length=k*xs.length:=by
 induction k with
 |zero=>simp
 |succ k I=>rw[List.replicate_succ,List.flatten_cons,List.length_append,I,Nat.succ_mul,Nat.add_comm]
def Ym:C6 X (binaryOp .Mult) pz:=by
 intro pins s σ H x y v u Q I rx ry h;obtain⟨l,k,xs,rfl,rfl,hH,h1,h2,hz,q⟩:=h;cases rx;obtain⟨t,rfl⟩:=ry;obtain⟨z,g,n,r,hl,e⟩:=I.RP hH;have Y:g.toArray.size*k.toNat<=sizeLine:=by rw[List.size_toArray,<-hl];exact hz
 have hcap:¬g.toArray.size*k.toNat > (2^63-1) / 8:=by
  have:(sizeLine:Nat)<=(2^63-1) / 8:=by decide
  lia
 have Z:¬(!Builtin.List.listFitsIndex k)=true:=by
  rw[fitsIndex_both h1 h2];exact aI
 have O:¬Builtin.List.listTooLong (g.toArray.size*k.toNat)=true:=by
  rw[VV Y];exact aI
 have R:List.foldl (fun x1 x2=>x1++x2) #[] (List.replicate (if g.toArray.isEmpty=true then 0 else k.toNat) g.toArray)=(List.replicate k.toNat g).flatten.toArray:=by
  have f0:∀m:Nat,List.foldl (fun x1 x2=>x1++x2) #[] (List.replicate m g.toArray)=(List.replicate m g).flatten.toArray:=fun m=>by
   have:=foldl_rep g m [];rw[List.nil_append]at this;exact this
  rw[f0];cases g with
  |nil=>simp
  |cons a r'=>rw[if_neg (by simp)]
 refine wpAny_binaryOp_repeat_ref (T := "list") (U := "int") (by decide) ⟨_,e,rfl⟩ (fun s'=>typeIs_int s' k t) noFill_list_mul F.fills_int_mul F.slot_int_rmul repeat_list F.slot_int_index.lookup
  (call_meets F.slot_int_rmul (typeIs_int s k t) F.entry_int_rmul (F.args_int_rmul_2 _ _) (int___rmul___int_list k t l g.toArray n)
   ⟨e,rfl,⟨_,e,rfl⟩,call_meets F.slot_list_mul ⟨_,e,rfl⟩ F.entry_list_mul (F.args_list_mul_2 _ _) (AutoListH.list___mul___list_int_3 l g.toArray n k t Z hcap O) ⟨e,?_⟩⟩)
 rw[R];exact⟨.ref _,_,I.kL (t':=s.toks) (r.rep k.toNat) (by rw[len_rep,Nat.mul_comm];exact hz),rfl,q _ I.fresh⟩
end
end L2
namespace Att
open PySem PySem.W PySem.Calls PyProof.Rows
def QH{P:Params}{h:Heap}:∀(ns:rd) (vs:rT),WellAll P h vs (ns.map WData.int)->IntsAre vs ns:=by
 intro ns
 induction ns with
 |nil=>
  intro vs w;rw[List.map_nil]at w;cases w;exact .nil
 |cons n ns g=>
  intro vs w;rw[List.map_cons]at w;cases w with
  |cons a b=>
   cases a;exact .cons _ _ (g _ b)
def Yn{l:OpenLaw}{n:Nat}(hn:l.most=some n){P:Params}{h:Heap}{args:List WData}{vals:rT} (g:l.row.toRowW.claim.pre args=true)(U:WellAll P h vals args):∃a vs ns,vals=[Value.ref a]/\args=[WData.list (ns.map WData.int)]/\h.get? a=some { cls:=.type "list",data:=.seq vs.toArray}/\IntsAre vs ns/\ns.length<=n:=by
 have Y:WShape.hasAll [] args [.list .int]=true:=(pre_splitW g).1;have Z:l.pre.holds [] { args:=args}=true:=(pre_splitW g).2;obtain⟨d,r,rfl,h1,h2⟩:=hasAllW_cons Y;obtain rfl:=hasAllW_nil h2;obtain⟨xs,rfl,h3⟩:=hasW_list h1;obtain⟨ns,rfl⟩:=items_int h3;have I:ns.length<=n:=by
  unfold OpenLaw.pre at Z;have T:(WTm.not (.lt (.lit (.int (n:Int))) (.len (.arg 0)))).holds [] { args:=[.list (ns.map .int)]}=true:=by
   have T:=(holds_andW Z).1;rw[hn]at T;exact T
  have R:=condW_of T (w_not (w_lt w_lit (w_len_list (w_arg rfl))));rw[List.length_map]at R;refine Nat.le_of_not_lt fun q=>?_;have q':(n:Int)<((ns.length:Nat):Int):=by lia
  first
   |(rw[decide_eq_true q']at R;exact absurd R (by decide))
   |(simp at R;lia)
 cases U with
 |cons w1 w2=>
  cases w2;cases w1 with
  |list ho O=>exact⟨_,_,ns,rfl,rfl,ho,QH ns _ O,I⟩
def ZY(l:OpenLaw)(args:List WData):l.row.toRowW.claim.post args (.bool true) args=true :=
 postW_of (r:=l.row.toRowW) (X:=(true==true))
  (show WShape.has [] (.bool true) .bool=true by first|rfl|decide|simp[WShape.has,WShape.arms,WShape.armsAll])
  (show(WTm.eq .res (.lit (.bool true))).value [] { args:=args,res:=some (.bool true),after:=args}=some (.bool (true==true)) from w_eq_bool (w_res rfl) w_lit) rfl
def V3{l:OpenLaw}{n:Nat}{q:Program}{loose:rf}{XP:(rW)->Heap->Prop}{YP:World->Heap->Prop}{d:DefRec} (hn:l.most=some n)(hdf:d.params.defaults=[]) (call:∀(w:World) (s₀ g:SD) (mg mb:rW) (T:AD) (o:Obj) (pm U doc:VL) (a:AD) (vs:rT) (ns:rd),Ground q loose [] XP w s₀ mg mb g.heap->YP w g.heap ->g.heap.get? T=some o->o.data=.func (docDef d.name d.params d.body d.scope pm U doc)->g.heap.CodeRec U d.name->mg d.name=some (.ref T) ->g.heap.get? a=some { cls:=.type "list",data:=.seq vs.toArray}->IntsAre vs ns->ns.length<=n->g.gens=#[] ->codeAny (model l.prog w) callerA (.call (.ref T) ⟨[.ref a],[]⟩) (fun r s'=>r=.ok (.ret (.bool true))/\OldK g.heap s'.heap/\s'.os=g.os/\AllBare s'.gens) g):WalkO q loose XP YP l.row.toRowW d [] (fun f vs=>PySem.call f vs):=by
 intro w s₀ g mg mb G Y T o pm U doc dV kV ho hd hcd hD hmg hg args vals as I hlay hrd Z hlo;obtain rfl:dV=.none:=Dflts.none hD hdf;obtain rfl:kV=.none:=Dflts.noKw hD;obtain⟨a,vs,ns,rfl,rfl,O,hints,R⟩:=Yn hn I Z;refine enter_call (codeAny_mono (call w s₀ g mg mb T o pm U doc a vs ns G Y ho (fd_plain hd) hcd hmg O hints R hg) fun r s' hq=>?_);obtain⟨rfl,h2,h3,h4⟩:=hq;exact⟨.inl ⟨.bool true,.bool true,[],rfl,fun _=>rfl,.bool true,ZY l _,fun _=>⟨List.Pairwise.nil,fun _ hm=>(nomatch hm)⟩⟩,h2,h3,h4⟩
end Att
namespace L2
open PySem PySem.Spec PyProof.Rows
def Sv:∀ {vs:List VL} {ns:List Int},IntsAre vs ns->Vals (ns.map V.int) vs
 |_,_,.nil=>.nil
 |_,_,.cons n t h=>.cons ⟨t,rfl⟩ (Sv h)
def dD(H:Hp):Prop:=∀b,H b=none\/∃o xs,H b=some (.Fv o (.lst xs))
def dJ{P:Program}{w:World}{K:Fg}{mg mb:rW}{CX:Hi}{k:Nat}{fa a:AD}{fd:FuncData}{x:Str}{sp:Sp}{g:SD}{vs:rT}{ns:rd} (KX:K.In g.heap)(Y:g.heap.Ns mainGlobals mg)(hb:g.heap.Ns builtinsNs mb)(hbb:∀x:Str,x ≠ "__name__" -> mb x=bootBuiltins x)(Z:g.heap.NoLimit)(hg:g.gens=#[]) (ha:g.heap.get? a=some { cls:=.type "list",data:=.seq vs.toArray})(hi:IntsAre vs ns)(hl:ns.length<=sizeLine)(hr:CG k callerA) (F:∀base:Heap,K.In base->base.Ns mainGlobals mg->AI P w K mg base CX k fa fd [x] sp)(O:∀(s:SD) (u:VL),BindsTo s fd ⟨[u],[]⟩ [(x,u)]) (hsp:∀H:Hp,dD H->Al K H a (ns.map V.int)->sp [.ref a] H (fun v _=>v=.bl true) fun _ _ _=>False) (hCX:∀H e s',CX [] H g (fun _ _ _=>False) e s'->False):codeAny (model P w) callerA (.call (.ref fa) ⟨[.ref a],[]⟩) (fun r s'=>r=.ok (.ret (.bool true))/\OldK g.heap s'.heap/\s'.os=g.os/\AllBare s'.gens) g:=by
 have rv:=Sv hi;have T:=hi.length;have core:∀H:Hp,dD H->Al K H a (ns.map V.int)->Ei P w H g.heap->(∀b,H b≠none->b=a)->(H a≠none->K.lookup a=none) ->
   codeAny (model P w) callerA (.call (.ref fa) ⟨[.ref a],[]⟩) (fun r s'=>r=.ok (.ret (.bool true))/\OldK g.heap s'.heap/\s'.os=g.os/\AllBare s'.gens) g:=by
  intro H hO hS Ap hA hK;have base_of:∀ {b:AD} {o:Obj},g.heap.get? b=some o->H b=none->(MY g.heap H).get? b=some o:=fun e n=>dy e n;have noA:∀ {b:AD} {o:Obj} {es:Array DictEntry} {ep:Nat},g.heap.get? b=some o->o.data=.dict es ep->H b=none:=fun {b o es ep} e d=>by
   cases q:H b with
   |none=>rfl
   |some u=>
    have e':b=a:=hA b (by rw[q];simp);subst e';rw[ha]at e;cases e;have d':Data.seq vs.toArray _=Data.dict es ep:=d;cases d'
  have I:∀ {b:AD} {m:Str->Option VL},g.heap.Ns b m->(MY g.heap H).Ns b m:=fun {b m} ⟨o,es,ep,e,d,r⟩=>⟨o,es,ep,base_of e (noA e d),d,r⟩;have hKb:K.In (MY g.heap H):=fun b o e=>base_of (KX b o e) (by
   cases q:H b with
   |none=>rfl
   |some u=>
    have e':b=a:=hA b (by rw[q];simp);subst e';rw[hK (by rw[q];simp)]at e;cases e)
  have hM:Mod K mg (MY g.heap H):=⟨hKb,I Y,⟨mb,I hb,hbb⟩,let⟨mc,h1,h2⟩:=Z;⟨mc,I h1,h2⟩⟩;have e0:YV P w K mg (MY g.heap H) callerA [] g H:=⟨rfl,hM,fun b o e=>gk e,Nat.le_of_eq (ZQ _ _),trivial,fun b hb=>absurd (show b∈([]:List AD) from hb) (by simp),Ap,.of_eq hg⟩;refine codeAny_mono ((F _ hKb (I Y)).run callerA [] g H ⟨[.ref a],[]⟩ [.ref a] [.ref a] _ _ hr e0 (O g (.ref a)) (.cons rfl .nil) (hsp H hO hS)) fun r s' h=>?_;cases r with
  |error e=>exact(hCX H e s' h).elim
  |ok fl=>
   cases fl with
   |next=>exact False.elim h
   |brk=>exact False.elim h
   |cont=>exact False.elim h
   |ret u=>
    obtain⟨v,H',os,bare,un,U,r',q⟩:=h;have q':v=.bl true:=q;subst q';obtain rfl:u=Value.bool true:=r';refine⟨rfl,OldK.of_keep fun b o e=>?_,os,bare⟩;cases q:H b with
    |none=>exact un.keep b o e q (by intro z;exact absurd (show b∈([]:List AD) from z) (by simp)) (by simp)
    |some u=>
     rcases hO b with z|⟨ob,xs,z⟩
     .rw[q]at z;cases z
     .have z2:=un.Fw b ob _ z;obtain⟨e1,_⟩:=Ap b _ z;obtain⟨e2,_⟩:=U b _ z2;rw[e]at e1;cases e1;exact e2
 cases hk:K.lookup a with
 |some o=>
  have e:=KX a o hk;rw[ha]at e;cases e;refine core (fun _=>none) (fun _=>.inl rfl) (.inr ⟨_,vs.toArray,_,hk,rfl,rfl,rfl,by rw[List.size_toArray,T];exact hl,by simpa using rv⟩) (fun b u z=>by have R:(none:Option HO)=some u:=z;cases R) (fun b z=>absurd rfl z) fun z=>absurd rfl z
 |none=>
  refine core (fun b=>if b=a then some (.Fv { cls:=.type "list",data:=.seq vs.toArray} (.lst (ns.map V.int))) else none) (fun b=>?_) (.inl (.inr ⟨{ cls:=.type "list",data:=.seq vs.toArray},if_pos rfl⟩)) (fun b u z=>?_) (fun b z=>?_) fun _=>hk
  .by_cases hb:b=a
   .exact .inr ⟨_,_,if_pos hb⟩
   .exact .inl (if_neg hb)
  .by_cases hb:b=a
   .have R:=(if_pos hb).symm.trans z;cases R;subst hb;exact⟨ha,by rw[List.length_map];exact hl,vs,_,rv,ha⟩
   .have R:=(if_neg hb).symm.trans z;cases R
  .by_cases hb:b=a
   .exact hb
   .exact absurd (if_neg hb) z
def Rm{l:PySem.W.OpenLaw}{n k:Nat}{q:Program}{loose:rf}{XP:(rW)->Heap->Prop}{YP:World->Heap->Prop}{d:DefRec}{K:Params->Fg}{CX:World->Hi}{sp:World->Sp}{x:Str} (hn:l.most=some n)(hn2:n<=sizeLine)(hdf:d.params.defaults=[])(hr:CG k callerA) (hY:∀(w:World) (h:Heap),YP w h->(K w.params).In h) (F:∀(w:World) (mg:rW) (U:AD) (h:Heap),(K w.params).In h->h.Ns mainGlobals mg->mg d.name=some (.ref U) ->∃fd:FuncData,(∀(s:SD) (u:VL),BindsTo s fd ⟨[u],[]⟩ [(x,u)]) /\∀base:Heap,(K w.params).In base->base.Ns mainGlobals mg->AI l.prog w (K w.params) mg base (CX w) k U fd [x] (sp w)) (Z:∀(w:World) (H:Hp) (a:AD) (ns:rd),ns.length<=n->dD H->Al (K w.params) H a (ns.map V.int)->sp w [.ref a] H (fun v _=>v=.bl true) fun _ _ _=>False) (hCX:∀(w:World) (H:Hp) (s:SD) (e:VL) (s':SD),CX w [] H s (fun _ _ _=>False) e s'->False):PySem.W.WalkO q loose XP YP l.row.toRowW d [] (fun f vs=>PySem.call f vs):=by
 refine Att.V3 hn hdf fun w s₀ O mg mb U o pm cd doc a vs ns G Y ho hd hcd hmg R hints I hg=>?_;have KX:=hY w _ Y;obtain⟨fd,hb,hF⟩:=F w mg U _ KX G.T.g hmg;exact dJ KX G.T.g G.T.b G.T.builtins G.T.nolimit hg R hints (aR I hn2) hr hF hb (fun H hO hS=>Z w H a ns I hO hS) fun H e s'=>hCX w H O e s'
def F9(s:Stmt):Arguments:=match s with
 |.FunctionDef _ a _ _ _ _ _ _ _ _=>a
 |_=>{ posonlyargs:=[],args:=[],vararg:=none,kwonlyargs:=[],kw_defaults:=[],kwarg:=none,defaults:=[]}
def DM(s:Stmt):sD:=match s with
 |.FunctionDef _ _ b _ _ _ _ _ _ _=>b
 |_=>[]
def AM(s:Stmt):Scope:=match s with
 |.FunctionDef _ _ _ _ _ _ sc _ _ _=>sc
 |_=>{ kind:=.function,names:=[],isGenerator:=false,isCoroutine:=false}
abbrev Aa:Hi:=fun _ _ _ _ _ _=>False
abbrev E0:XK:=fun _ _ _=>False
def nZ{X:Cx}:Passes Aa X E0:=fun _ _ _ _ _ _ _ h=>h.elim
structure Sn(K:Fg)(x qual:Str)(st:Stmt)(f:Addr)(fd:FuncData):Prop where
 ex:∃(oc:Value) (od:Option Addr) (kV doc pm:Value) (an:Option Addr) (cdv ct:Value) (osl:Array (Option Value)),
  fd=PySem.W.fnOf x qual (F9 st) (DM st) (AM st) .none kV doc pm an cdv ct/\K.lookup f=some ⟨oc,od,.func fd,osl⟩/\PySem.W.codeIn K cdv qual=true
 kp:PySem.W.keepIn K (.ref f)=true
section
variable{P:Program}{w:World}{K:Fg}{mg:rW}{base:Heap}
def Sn.ok{x qual:Str}{st:Stmt}{f:AD}{fd:FuncData}{N ps:rf}{k:Nat}{sp:Sp}(F:Sn K x qual st f fd)(S:AZ N ps (AM st))(len:∀vs H Q E,sp vs H Q E->vs.length=ps.length) (g:∀(cdv:VL) (A:Around) (outer:sE) (s:SD) (H:Hp) (vs:rq) (Q:VK) (E:XK),CG k (A.deeper (envOfC qual (AM st) s.heap.objs.size f cdv))->sp vs H Q E ->∃t,GV (Ck Aa P w K mg base N qual (AM st) f cdv A outer s H E).GZ (DM st) t/\t { nx:=fun _ H'=>Q .BP H',rt:=Q} (start N vs) H):AI P w K mg base Aa (k+1) f fd ps sp:=by
 obtain⟨oc,od,kV,doc,pm,an,cdv,ct,osl,rfl,lk,O⟩:=F.ex;refine eg lk O S len fun A outer s H vs Q E R I=>?_;obtain⟨t,h,q⟩:=g cdv A outer s H vs Q E R I;exact⟨t,h.GZ,q⟩
def Sn.binds{x qual:Str}{st:Stmt}{f:AD}{fd:FuncData}{ps:rf}(F:Sn K x qual st f fd) (h:∀(kV doc pm:VL) (an:Option AD) (cdv ct:VL) (us:rT),us.length=ps.length->bindArgs (PySem.W.fnOf x qual (F9 st) (DM st) (AM st) .none kV doc pm an cdv ct) ⟨us,[]⟩=pure (ps.zip us)):Binds K fd ps []:=by
 obtain⟨oc,od,kV,doc,pm,an,cdv,ct,osl,rfl,lk,g⟩:=F.ex;exact .all (h kV doc pm an cdv ct)
def ZH{x qual:Str}{st:Stmt}{f:AD}{oc:VL}{od an:Option AD}{osl:Array (Option VL)}{kV doc pm cdv ct:VL}(l:K.lookup f=some ⟨oc,od,.func (PySem.W.fnOf x qual (F9 st) (DM st) (AM st) .none kV doc pm an cdv ct),osl⟩) (c:PySem.W.codeIn K cdv qual=true)(k:PySem.W.keepIn K (.ref f)=true):Sn K x qual st f (PySem.W.fnOf x qual (F9 st) (DM st) (AM st) .none kV doc pm an cdv ct):=⟨⟨oc,od,kV,doc,pm,an,cdv,ct,osl,rfl,l,c⟩,k⟩
end
def Sb{n:Nat}(h:n<=1000):n<sizeLine:=ai h (by decide)
section
variable{X:Cx}
def pv(i:Nat){x:Str}{pos:Pos}(O:X.N[i]? = some x:=by rfl)(I:jC X.env.scope x:=by first|exact Or.inl rfl|exact Or.inr (Or.inl rfl)|exact Or.inr (Or.inr rfl))(hd:(x==("__debug__" : Str))=false:=by decide) (g:(x==("__classdict__" : Str))=false:=by decide):PE X (.Name x pos) (MR i):=ji O I hd g
end
def pj{A B:Prop}(h:B):if false=true then A else B:=by
 rw[if_neg aI];exact h
def ME{A B:Prop}(h:A):if true=true then A else B:=by
 rw[if_pos rfl];exact h
def KJ{c A B:Prop}[Decidable c](I:c->A)(g:¬c->B):if c then A else B:=by
 by_cases h:c
 .rw[if_pos h];exact I h
 .rw[if_neg h];exact g h
def AJ(H H':Hp):Prop:=∀b o,H b=some o->H' b=some o
def AJ.refl(H:Hp):AJ H H:=fun _ _ h=>h
def AJ.trans{H I g:Hp}(a:AJ H I)(b:AJ I g):AJ H g:=fun c o h=>b c o (a c o h)
section
variable{X:Cx}
def QV(i j:Int):Prop:=∃m:Nat,m<=1000000/\i.natAbs<2^m/\j.natAbs<2^m
def QV.ok{i j:Int}(h:QV i j):IntMulOk i j:=by
 obtain⟨m,hm,I,g⟩:=h;exact IntMulOk.of_le (intBits_le_iff.mpr I) (intBits_le_iff.mpr g) (by lia)
def Ht:C6 X (binaryOp .Mult) (rI (fun i j=>VM i j\/QV i j) fun i j=>.int (i*j)) :=
 XE fun _ _ _ _ _ _ _ g q=>mul_int q (g.elim (fun z=>z.ok) fun z=>z.ok)
def nz(_i j:Int):Prop:=j≠0/\∃m:Nat,m<=9000/\j.natAbs<2^m
def Gq:C6 X (binaryOp .FloorDiv) (rI nz fun i j=>.int (i.fdiv j)):=XE fun i j _ _ _ _ _ I q=>by
 obtain⟨h0,m,hm,O⟩:=I;refine floordiv_int h0 q (.inl (PyProof.noPylong_of_log2 ?_));have g:j.natAbs≠0:=by lia
 have:j.natAbs.log2<m:=(Nat.log2_lt g).mpr O
 lia
mutual
def Br(K:Fg)(H:Hp):PD->V->Prop
 |.none,v=>v=.BP
 |.bool b,v=>v=.bl b
 |.int i,v=>v=.int i
 |.str x,v=>v=.str x
 |.tuple g,v=>∃a xs,v=.ref a/\BC K H a xs/\GA K H g xs
 |.list g,v=>∃a xs,v=.ref a/\Al K H a xs/\GA K H g xs
 |.dict _,_=>False
def GA(K:Fg)(H:Hp):List PD->List V->Prop
 |[],xs=>xs=[]
 |d::g,xs=>∃x r,xs=x::r/\Br K H d x/\GA K H g r
end
mutual
def Br.reads{pins:List (AD×Obj)}{σ:St}{H:Hp}{s:SD}(I:Inv X pins σ H s):∀ {d:PD} {v:V} {u:VL},Br X.K H d v->RelV v u->∃as,Reads s.heap u d as
 |.none,_,u,h,r=>by rw[Br]at h;subst h;cases r;exact⟨_,.none⟩
 |.bool b,_,u,h,r=>by rw[Br]at h;subst h;cases r;exact⟨_,.bool b⟩
 |.int i,_,u,h,r=>by rw[Br]at h;subst h;obtain⟨t,rfl⟩:=r;exact⟨_,.int i t⟩
 |.str x,_,u,h,r=>by rw[Br]at h;subst h;obtain⟨t,rfl⟩:=r;exact⟨_,.str x t⟩
 |.tuple Z,_,u,h,r=>by
  rw[Br]at h;obtain⟨a,xs,Y,U,T⟩:=h;subst Y;cases r;obtain⟨R,g,⟨o,e,c,n,hd⟩,_⟩:=I.tuple U;obtain⟨as,O⟩:=GA.reads I T g;exact⟨_,.tuple e c hd (by simpa using O)⟩
 |.list Z,_,u,h,r=>by
  rw[Br]at h;obtain⟨a,xs,Y,U,T⟩:=h;subst Y;cases r;obtain⟨R,g,⟨o,n,e,c,_,hd⟩,_⟩:=I.list U;obtain⟨as,O⟩:=GA.reads I T g;exact⟨_,.list e c hd (by simpa using O)⟩
 |.dict _,_,_,h,_=>by rw[Br]at h;exact h.elim
def GA.reads{pins:List (AD×Obj)}{σ:St}{H:Hp}{s:SD}(I:Inv X pins σ H s):∀ {ds:List PD} {xs:List V} {us:List VL},GA X.K H ds xs->Vals xs us->∃as,ReadsAll s.heap us ds as
 |[],_,us,h,r=>by rw[GA]at h;subst h;cases r;exact⟨_,.nil⟩
 |_::_,_,us,h,r=>by
  rw[GA]at h;obtain⟨x,q,Z,Y,U⟩:=h;subst Z;cases r with
  |cons T R=>
   obtain⟨as,O⟩:=Br.reads I Y T;obtain⟨bs,g⟩:=GA.reads I U R;exact⟨_,.cons O g⟩
end
def eS(K:Fg)(neg:Bool):R2:=fun x y H Q=>∃d e,Br K H d x/\Br K H e y/\SeqAt.shaped d=true/\SeqAt.shaped e=true/\Q (.bl (if neg then !PyData.eqv d e else PyData.eqv d e)) H
def jj(U:X.A.units+64<cLine):C6 X (compareOp .Eq) (eS X.K false):=by
 intro pins s σ H x y v u Q I O g h;obtain⟨d,e,Z,Y,s1,s2,q⟩:=h;obtain⟨as,T⟩:=Br.reads I Z O;obtain⟨bs,R⟩:=Br.reads I Y g;exact eq_dataH T R s1 s2 U ⟨.bl _,H,I,rfl,q⟩
def mE(U:X.A.units+64<cLine):C6 X (compareOp .NotEq) (eS X.K true):=by
 intro pins s σ H x y v u Q I O g h;obtain⟨d,e,Z,Y,s1,s2,q⟩:=h;obtain⟨as,T⟩:=Br.reads I Z O;obtain⟨bs,R⟩:=Br.reads I Y g;exact ne_dataH T R s1 s2 U ⟨.bl _,H,I,rfl,q⟩
end
end L2
namespace L2
open PySem PySem.Spec PyProof.Rows
def Mp(X:Cx)(g:rg)(t:TT):Prop :=
 ∀(pins:List (AD×Obj)) (s:SD) (σ:St) (H:Hp) (Q:Bool->Hp->Prop),Inv X pins σ H s->t σ H Q ->
  wpAny (model X.prog X.w) X.A (forIn g true fun c r=>if r=true then do let ok <-isTrue c X.env (eval c X.env);pure (ForInStep.yield ok) else pure (ForInStep.yield r)) (TP X pins σ Q) X.xe s
def JO:TT:=fun _ H Q=>Q true H
def F7{X:Cx}:Mp X [] JO:=fun _ _ σ H _ I h=>wpAny_tests_nil ⟨H,I,h⟩
def gf{X:Cx}{c:Expr}{t:TT}(h:PT X c t):Mp X [c] t:=by
 intro pins s σ H Q I g;simp only[List.forIn_cons,List.forIn_nil,if_true];refine Wb (Wb (BG (h pins s σ H Q I g) fun b s1 q=>?_));exact aA (aA q)
def GU(N I:List Str)(sc g:Scope):List (Option Nat)->Nat->Bool
 |[],_=>true
 |none::r,i=>GU N I sc g r (i+1)
 |some j::r,i=>(match N[i]?,I[j]? with
   |some n,some m=>n==m&&sc.names.lookup n==some .free&&g.names.lookup n==some .cell
   |_,_=>false)&&GU N I sc g r (i+1)
def Pq{N R:List Str}{sc g:Scope}:∀ {fr:List (Option Nat)} {k:Nat},GU N R sc g fr k=true->∀ {i j:Nat},fr[i]? = some (some j) ->
  ∃n,N[k+i]? = some n/\R[j]? = some n/\sc.names.lookup n=some .free/\g.names.lookup n=some .cell
 |[],_,_,i,j,e=>by simp at e
 |none::r,k,h,0,j,e=>by simp at e
 |none::r,k,h,i+1,j,e=>by
  have q:=Pq (fr:=r) (k:=k+1) h (i:=i) (j:=j) (by simpa using e);have z:k+(i+1)=k+1+i:=by lia
  rw[z];exact q
 |some O::r,k,h,0,j,e=>by
  have Y:O=j:=by simpa using e
  subst Y;rw[GU,Bool.and_eq_true]at h;have I:=h.1;split at I
  .rename_i n m hn hm;simp only[Bool.and_eq_true,beq_iff_eq]at I;obtain⟨⟨rfl,U⟩,T⟩:=I;exact⟨n,by simpa using hn,hm,U,T⟩
  .cases I
 |some O::r,k,h,i+1,j,e=>by
  rw[GU,Bool.and_eq_true]at h;have q:=Pq (fr:=r) (k:=k+1) h.2 (i:=i) (j:=j) (by simpa using e);have z:k+(i+1)=k+1+i:=by lia
  rw[z];exact q
def carry(fr:sF)(σ:St):St:=fr.map fun o=>match o with
 |some j=>(σ[j]?).join
 |none=>none
def bW{fr:sF}{σ:St}{i:Nat}{v:V}(h:(carry fr σ)[i]? = some (some v)):∃j,fr[i]? = some (some j)/\σ[j]? = some (some v):=by
 unfold carry at h;rw[List.getElem?_map]at h;cases e:fr[i]? with
 |none=>rw[e]at h;cases h
 |some o=>
  rw[e]at h;cases o with
  |none=>simp at h
  |some j=>
   refine⟨j,rfl,?_⟩;simp only[Option.map_some,Option.some.injEq]at h;cases q:σ[j]? with
   |none=>rw[q]at h;cases h
   |some w=>rw[q]at h;simp at h;rw[h]
def HN{env:Env}:∀(names:List (Str×NameKind)) (cs:List (Str×AD)),(∀x∈names,x.2=NameKind.free->∃c,env.cells.lookup x.1=some c)->(∀x c,cs.lookup x=some c->env.cells.lookup x=some c) ->
  ∃cl,(forIn names cs (fun(x:Str×NameKind) (r:List (Str×AD))=>do if(x.2==NameKind.free)=true then do let a <-cellOf env x.1;pure (ForInStep.yield ((x.1,a)::r)) else pure (ForInStep.yield r)):Sem (List (Str×AD)))=pure cl /\
   (∀x c,cl.lookup x=some c->env.cells.lookup x=some c)/\(∀x,(∃c,cs.lookup x=some c)->∃c,cl.lookup x=some c)/\∀x∈names,x.2=NameKind.free->∃c,cl.lookup x.1=some c
 |[],cs,_,T=>⟨cs,rfl,T,fun _ q=>q,fun _ z=>(by cases z)⟩
 |(n,k)::r,cs,h1,T=>by
  rw[List.forIn_cons];by_cases hk:(k==NameKind.free)=true
  .obtain⟨c,hc⟩:=h1 (n,k) aS (by simpa using hk);have Z:∀x I,((n,c)::cs).lookup x=some I->env.cells.lookup x=some I:=fun x I e=>by
    rw[List.lookup_cons]at e;cases g:x==n with
    |true=>rw[g]at e;have:=beq_iff_eq.mp g;subst this;simp at e;rw[<-e];exact hc
    |false=>rw[g]at e;exact T x I e
   obtain⟨cl,q1,Y,O,U⟩:=HN r ((n,c)::cs) (fun x g=>h1 x (aO _ g)) Z;have hn:∃I,cl.lookup n=some I:=O n ⟨c,by rw[List.lookup_cons,beq_self_eq_true]⟩;refine⟨cl,?_,Y,fun x g=>?_,fun x g R=>?_⟩
   .simp only[hk,if_true];unfold cellOf;rw[hc];exact q1
   .refine O x ?_;rw[List.lookup_cons];cases hxn:x==n with
    |true=>exact⟨c,rfl⟩
    |false=>exact g
   .rcases aM.mp g with e|g
    .subst e;exact hn
    .exact U x g R
  .obtain⟨cl,q1,Y,O,U⟩:=HN r cs (fun x g=>h1 x (aO _ g)) T;refine⟨cl,?_,Y,O,fun x g R=>?_⟩
   .simp only[hk];exact q1
   .rcases aM.mp g with e|g
    .subst e;exact absurd (by simpa using R) hk
    .exact U x g R
def A6(X:Cx)(scope:Scope)(cl:List (Str×AD))(N:rf)(C:AD)(s₀:SD)(H₀:Hp)(fp:sC):Cx where
 prog:=X.prog
 w:=X.w
 K:=X.K
 mg:=X.mg
 base:=X.base
 A:=X.A
 N:=N
 s₀:=s₀
 H₀:=H₀
 env:=compEnvC scope cl C X.env
 outer:=X.stack
 stack:=X.stack
 ex:=fp
 fn:=fun _=>false
 calm:=X.calm
 pn:=[]
 xe:=fun _ _=>False
def N6(U:TI)(fr:sF)(ix:Nat)(I:TT)(Y:TE):TE:=fun σ H Q=>U σ H fun J T=>∀D,T D=none->∃W:Nat->Nat->List V->Hp->Prop,(∃m,W 0 m [] (upd T D (.lst []))) /\
 ∀i m ys H,W i m ys H->H D=some (.lst ys)/\((J.stop i H/\Q (.ref D) H)\/(J.go i H/\ys.length<sizeLine/\∀x H',J.F4 i H x H' ->
  I ((carry fr σ).set ix (some x)) H' fun b R=>if b=true then Y ((carry fr σ).set ix (some x)) R fun y O=>O D=some (.lst ys)/\∃g,g<m/\W (i+1) g (ys++[y]) (upd O D (.lst (ys++[y])))
   else ∃g,g<m/\W (i+1) g ys R))
structure Ed(scope:Scope)(N:List Str)(x:Str)(ix:Nat):Prop where
 kind:scope.kind=.function
 cell:∀y∈scope.names,y.2≠.cell
 names:∀y∈scope.names,y.2=.local->scope.names.lookup y.1=some .local
 free:∀y∈scope.names,y.2=.free->scope.names.lookup y.1=some .free
 loc:scope.names.lookup x=some .local
 nd:N.Nodup
 at_:N[ix]? = some x
def lookup_mem{names:List (Str×NameKind)}{n:Str}{k:NameKind}:names.lookup n=some k->(n,k)∈names:=by
 induction names with
 |nil=>intro h;cases h
 |cons y r g=>
  intro h;obtain⟨m,j⟩:=y;rw[List.lookup_cons]at h;cases e:n==m with
  |true=>rw[e]at h;have:=beq_iff_eq.mp e;subst this;simp at h;subst h;exact aS
  |false=>rw[e]at h;exact aO _ (g h)
def VA{scope:Scope}{env:Env}(U:∀y∈scope.names,y.2≠.cell){n:Str}(h:(relabel scope env).names.lookup n=some .cell\/(relabel scope env).names.lookup n=some .free):∃k,(n,k)∈scope.names/\k=NameKind.free:=by
 have key:∀I,(relabel scope env).names.lookup n=some I->(I=.cell\/I=.free)->∃k,(n,k)∈scope.names/\k=NameKind.free:=fun I h hk=>by
  have hm:=lookup_mem h;unfold relabel at hm;obtain⟨⟨m,k⟩,O,e⟩:=aT.mp hm;dsimp only at e;by_cases g:(k==NameKind.free&&env.scope.kind==.function&&env.kindOf m==some .cell)=true
  .rw[if_pos g]at e
   injection e with R T
   subst R;refine⟨k,O,?_⟩;simp only[Bool.and_eq_true,beq_iff_eq]at g;exact g.1.1
  .rw[if_neg g]at e
   injection e with R T
   subst R T;rcases hk with rfl|rfl
   .exact absurd rfl (U _ O)
   .exact⟨_,O,rfl⟩
 rcases h with h|h
 .exact key _ h (.inl rfl)
 .exact key _ h (.inr rfl)
section
variable{X:Cx}{elt iter:Expr}{x:Str}{px pos:Pos}{ifs:rg}{scope:Scope}{wi:TI}{fr:sF}{ix:Nat}{tif:TT}{te:TE}{N:rf}
def Kb{prog:Program}{w:World}{A:Around}{R:Result->SD->Prop}{s:SD}{elt target iter:Expr}{ifs:rg}{scope:Scope}{pos:Pos}{it acc:VL}{env:Env}(I:Nat->SD->Prop)
 (turn:∀n s,I n s->wpAny (model prog w) A (pyNext it) (fun r g=>match r with
   |none=>R (.ok .next) g
   |some v=>wpAny (model prog w) A (letOwnedTupleGo target it v>>=fun _=>assign target env v) (fun _ Y=>
     wpAny (model prog w) A (forIn ifs true fun c r=>if r=true then do let ok <-isTrue c env (eval c env);pure (ForInStep.yield ok) else pure (ForInStep.yield r)) (fun ok O=>
      if ok=true then wpAny (model prog w) A (eval elt env) (fun x U=>
       wpAny (model prog w) A (call (.builtin "list.append") [acc,x]) (fun _ T=>∃m,m<n/\I m T) (notedBy (model prog w) A env fun e s'=>R (.error e) s') U) (notedBy (model prog w) A env fun e s'=>R (.error e) s') O
      else ∃m,m<n/\I m O) (notedBy (model prog w) A env fun e s'=>R (.error e) s') Y) (notedBy (model prog w) A env fun e s'=>R (.error e) s') g) (notedBy (model prog w) A env fun e s'=>R (.error e) s') s)
 (n:Nat)(h:I n s) :
  codeAny (model prog w) A (.compLoop (.ListComp elt [⟨target,iter,ifs,0⟩] scope pos) 0 it acc env) R s:=by
 refine codeAny_loop rfl I (fun n s hI=>?_) n h;show wpAny _ A ((compTurn (.ListComp elt [⟨target,iter,ifs,0⟩] scope pos) 0 it acc env).onRaise (fun x=>do noteFrame x env;theTreesLotGoes x)) _ _ s;refine wpAny_noted ?_;rw[compTurn_list];refine Wb (wpAny_standAt (Wb (aU (turn n s hI) (fun r g h₁=>?_) fun _ _ h'=>h')));cases r with
 |none=>exact aA h₁
 |some v=>
  show wpAny (model prog w) A (letOwnedTupleGo target it v>>=fun _=>assign target env v>>=_) _ _ g;rw[<-bind_assoc];refine Wb (aU h₁ (fun _ Y h₂=>Wb (aU h₂ (fun ok O Z=>?_) fun _ _ h'=>h')) fun _ _ h'=>h');cases ok with
  |false=>exact aA ⟨rfl,Z⟩
  |true=>
   exact Wb (Wb (aU Z (fun x U h₄=>Wb (aU h₄ (fun _ T h₅=>aA (aA ⟨rfl,h₅⟩)) fun _ _ h'=>h')) fun _ _ h'=>h'))
def O8{pins:List (AD×Obj)}{σ:St}{R:Hp}{s2:SD}{Q:VK}{it:AD}{fp:sC}{tn:Nat->Heap->Prop}{J:It}{cl:List (Str×AD)}{E:rV}{RR:VL->AD->Result->SD->Prop} (S:Ed scope N x ix)(hcalm:X.calm=true){tgE:Expr}{g:TG}(Rv:St->Prop)(r0:Rv (carry fr σ))(hpg:∀C,PG (A6 X scope cl N C s2 R fp) tgE g)(hfr:GU N X.N scope X.env.scope fr 0=true)(hlen:fr.length=N.length) (hif:∀cl C s₀ H₀ fp,Mp (A6 X scope cl N C s₀ H₀ fp) ifs tif)(he:∀cl C s₀ H₀ fp,PE (A6 X scope cl N C s₀ H₀ fp) elt te) (O:Inv X pins σ R s2)(T:Turn X.prog X.w X.K tgE J fp it tn)(st2:tn 0 s2.heap)(f2:∀b∈fp,LH X pins R b) (c1:∀x c,cl.lookup x=some c->X.env.cells.lookup x=some c)(c2:∀x∈scope.names,x.2=NameKind.free->∃c,cl.lookup x.1=some c) (W:∀D,R D=none->∃W:Nat->Nat->List V->Hp->Prop,(∃m,W 0 m [] (upd R D (.lst []))) /\∀i m ys H,W i m ys H->H D=some (.lst ys)/\((J.stop i H/\Q (.ref D) H)\/(J.go i H/\ys.length<sizeLine/\∀x H',J.F4 i H x H'->∀Z,Rv Z->g x Z H' fun σ6 H6=>Rv σ6 /\tif σ6 H6 fun b R=>if b=true then te σ6 R fun y H3=>H3 D=some (.lst ys)/\∃m',m'<m/\W (i+1) m' (ys++[y]) (upd H3 D (.lst (ys++[y]))) else ∃m',m'<m/\W (i+1) m' ys R))) (fin:∀(D C:AD) (s':SD) (H':Hp) m,s'.heap.Ns C m->Q (.ref D) H'->(∀h',Heap.SameBut C s'.heap h'->Inv X pins σ H' { s' with heap:=h'})->C≠D->(∀b o,s2.heap.get? b=some o->b≠C)->H' C=none->s2.heap.objs.size<=C->RR (.ref D) C (.ok .next) s'):wpAny (model X.prog X.w) X.A (newList []) (fun acc s₃=>wpAny (model X.prog X.w) X.A (newFunctionEnv scope X.env.globals cl [] X.env.qual none .none (some X.env)) (fun cenv s₄ => codeAny (model X.prog X.w) X.A (.compStart (.ListComp elt [⟨tgE,iter,ifs,0⟩] scope pos) 0 (.ref it) acc {cenv with scope:=relabel scope X.env}) (RR acc cenv.locals) s₄) E s₃) E s2:=by
 refine ah (wpAny_newFunctionEnv S.cell (by intro y hy;simp at hy) (fun h₁ Y I=>?_) S.kind);dsimp only at Y I ⊢;generalize hHp:s2.heap.push { cls:=.type "list",dict:=none,data:=.seq ([]:List VL).toArray}=U at Y I ⊢;have hC:U.objs.size=s2.heap.objs.size+1:=by rw[<-hHp,Heap.size_push]
 have hDC:s2.heap.objs.size≠U.objs.size:=by rw[hC];exact aK (bK _)
 have below:∀b,b<s2.heap.objs.size->b≠U.objs.size/\b≠s2.heap.objs.size:=fun b hb=>⟨by rw[hC];exact aK (av hb),Nat.ne_of_lt hb⟩;have old:∀b o,s2.heap.get? b=some o->h₁.get? b=some o:=fun b o e=>I.extBut b o (below b (aF e)).1 (aD _ (hHp ▸ aD _ e));have hacc:h₁.get? s2.heap.objs.size=some { cls:=.type "list",data:=.seq ([]:List VL).toArray}:=I.extBut _ _ hDC (aD _ (hHp ▸ aP _ rfl));have hD2:R s2.heap.objs.size=none:=O.Ap.fresh (aH _);have hC2:R U.objs.size=none:=O.Ap.fresh (by rw[hC];exact Nat.le_succ _);have fpo:∀b∈fp,b<s2.heap.objs.size:=fun b hb=>by
  obtain⟨o,e,_⟩:=T.obj _ _ st2 b hb;exact aF e
 obtain⟨W,⟨m0,w0⟩,turn⟩:=W s2.heap.objs.size hD2;have ok:(A6 X scope cl N U.objs.size s2 R fp).Ok:=by
  refine⟨O.ok.mod,S.kind,O.ok.glob,O.ok.blt,by show s2.heap.objs.size<=U.objs.size;rw[hC];exact Nat.le_succ _,?_,?_,?_,fun _=>O.ok.hd hcalm,O.ok.frames,.inl rfl,?_,O.bs,Nat.le_trans O.ok.RC O.sz,?_,?_,O.stack,O.SE⟩
  .exact fun a b c h1 h2=>O.ok.inj a b c (c1 _ _ h1) (c1 _ _ h2)
  .intro y hy;obtain⟨k,hm,rfl⟩:=VA S.cell hy;exact c2 _ hm rfl
  .intro y c hf;cases hf
  .intro b hb;refine⟨(below b (fpo b hb)).1,fun y c e=>?_⟩;obtain⟨_,_,_,_,f5,_⟩:=f2 b hb;exact f5 y c (c1 _ _ e)
  .intro b o e hb;obtain⟨_,_,_,f4,_,_⟩:=f2 b hb;rcases f4 with z|z
   .exact O.ok.Rr b o e z
   .exact absurd (aL (aF e) (aR O.ok.RC z)) (Nat.lt_irrefl _)
  .intro b hb hs;obtain⟨_,f1,f3,_⟩:=f2 b hb;rcases aM.mp (O.NX b hs) with z|z
   .exact f1 z
   .exact f3 z
 have I4:Inv (A6 X scope cl N U.objs.size s2 R fp) [] (carry fr σ) (upd R s2.heap.objs.size (.lst [])) {s2 with heap:=h₁,toks:=s2.toks+([]:List (Str×VL)).length}:=by
  refine⟨ok,rfl,O.bare,Un.laid old (aH _) hD2,⟨_,Y,fun i y v h1 h2 h3=>?_⟩,fun y c e=>?_,?_,fun y c e=>?_,fun p hp=>(by cases hp),O.Ap.laid old (aH _) ⟨aj _,[],0,.nil,hacc⟩,?_⟩
  .obtain⟨j,e1,e2⟩:=bW h2;obtain⟨n,n1,n2,n3,n4⟩:=Pq hfr e1;rw[Nat.zero_add]at n1;have:y=n:=by
    have h1':N[i]? = some y:=h1;rw[h1']at n1;exact af n1
   subst this;obtain⟨m,hn,hl⟩:=O.loc;obtain⟨u,ru,lk⟩:=hl j y v n2 e2 (.inr (.inl n4));refine⟨u,ru,?_⟩;obtain⟨c,hc⟩:=c2 _ (lookup_mem n3) rfl;rcases lk with ⟨k1,_⟩|⟨_,c',hc',hcell⟩
   .have k1':X.env.scope.names.lookup y=some .local:=k1;rw[n4]at k1';cases k1'
   .have:=c1 _ _ hc;rw[hc']at this;cases this;refine .inr ⟨?_,c,hc,hcell.keeps old⟩;rcases h3 with z|z|z
    .obtain⟨k,hm⟩:∃k,(y,k)∈scope.names/\k=NameKind.local:=by
      have hm:=lookup_mem z;have hm':(y,NameKind.local)∈(relabel scope X.env).names:=hm;unfold relabel at hm';obtain⟨⟨m',k⟩,hy,e⟩:=aT.mp hm';dsimp only at e;by_cases hcond:(k==NameKind.free&&X.env.scope.kind==.function&&X.env.kindOf m'==some .cell)=true
      .rw[if_pos hcond]at e;injection e with _ e2';cases e2'
      .rw[if_neg hcond]at e;injection e with e1' e2';subst e1' e2';exact⟨_,hy,rfl⟩
     obtain⟨hm,rfl⟩:=hm;have:=S.names _ hm rfl;rw[n3]at this;cases this
    .exact .inl z
    .exact .inr z
  .obtain⟨v,z⟩:=O.cell y c (c1 _ _ e);exact⟨v,z.keeps old⟩
  .show upd R s2.heap.objs.size _ U.objs.size=none;rw[AL (Ne.symm hDC)];exact hC2
  .obtain⟨v,o,ho,_⟩:=O.cell y c (c1 _ _ e);rw[AL (below c (aF ho)).2];exact O.Fp y c (c1 _ _ e)
  .show(carry fr σ).length=N.length;unfold carry;rw[List.length_map];exact hlen
 have fpX:∀(p:List (AD×Obj)) (H':Hp),(∀q∈p,q.1∈fp->False)->(∀b∈fp,H' b=none)->∀b∈fp,LH (A6 X scope cl N U.objs.size s2 R fp) p H' b:=fun p H' hp hn b hb=>by
  obtain⟨_,f1,f3,f4,f5,_⟩:=f2 b hb;refine⟨hn b hb,(below b (fpo b hb)).1,fun hs=>ok.SF b hb hs,.inl hb,fun y c e=>f5 y c (c1 _ _ e),fun q hq e=>?_⟩;exact hp q hq (e ▸ hb)
 have hxv:(relabel scope X.env).names.lookup x=some .local:=lookup_relabel_local S.loc;have loop:∀s₃:SD,s₃={s2 with heap:=h₁,toks:=s2.toks+([]:List (Str×VL)).length} ->
   codeAny (model X.prog X.w) X.A (.compLoop (.ListComp elt [⟨tgE,iter,ifs,0⟩] scope pos) 0 (.ref it) (.ref s2.heap.objs.size) (compEnvC scope cl U.objs.size X.env)) (RR (.ref s2.heap.objs.size) U.objs.size) s₃:=by
  rintro s₃ rfl;refine Kb (fun n s'=>∃i ys Z H',Inv (A6 X scope cl N U.objs.size s2 R fp) [] Z H' s'/\Rv Z/\tn i s'.heap/\(∀b∈fp,H' b=none)/\W i n ys H') ?_ m0
   ⟨0,[],carry fr σ,_,I4,r0,T.keep _ _ _ st2 fun b _ o e=>old b o e,fun b hb=>by rw[AL (below b (fpo b hb)).2];exact(f2 b hb).1,w0⟩
  rintro n s3 ⟨i,ys,σ3,H3,I3,hσ,st3,fr3,w3⟩;obtain⟨hD3,way⟩:=turn i n ys H3 w3;rcases way with ⟨stop,qn⟩|⟨go,hsz,step⟩
  .refine aU (T.done (A6 X scope cl N U.objs.size s2 R fp) rfl rfl rfl hcalm i [] s3 σ3 H3 (fun _ _=>False) I3 (fpX [] H3 (fun _ z=>by cases z) fr3) st3 stop) (fun r s4 ⟨hr,I5⟩=>?_) fun _ _ z=>z.elim;subst hr;obtain⟨m,hn,_⟩:=id I5.loc;refine fin _ _ s4 H3 m hn qn (fun h' hs'=>?_) (Ne.symm hDC) (fun b o e=>(below b (aF e)).1) I5.free (by rw[hC];exact Nat.le_succ _);have nC:∀b u,H3 b=some u->b≠U.objs.size:=fun b u e z=>by
    have:=I5.free;rw[show(A6 X scope cl N U.objs.size s2 R fp).env.locals=U.objs.size from rfl,<-z,e]at this;cases this
   have keepU:Un (Fs X.stack) fp R H3 s2.heap h':=by
    have u:=I5.base;refine⟨fun b o e n hb hx=>?_,fun b o e n hb hx=>?_,fun b o e n hx=>u.free b o e n hx,fun b o e hx=>?_,u.A0,u.Fw,u.GP⟩
    .exact(hs'.2 b (below b (aF e)).1).trans (u.keep b o e n hb hx)
    .obtain⟨sl,e1⟩:=u.slot b o e n hb hx;exact⟨sl,(hs'.2 b (below b (aF e)).1).trans e1⟩
    .obtain⟨o',e1⟩:=u.there b o e hx;exact⟨o',(hs'.2 b (below b (aF e)).1).trans e1⟩
   have hok':Ei X.prog X.w H3 h':=fun b u e=>(I5.Ap b u e).Hx (fun c v hc q=>(hs'.2 c (by
    rcases hc with rfl|hc
    .exact nC _ _ e
    .exact nC _ _ hc)).trans q) (fun _ q=>q) fun _ _ q=>q
   refine O.fw (s':={s4 with heap:=h'}) (ch:=fp) I5.os keepU hok' I5.bare fun b hb=>?_;obtain⟨_,f1,_,f4,f5,f6⟩:=f2 b hb;exact⟨f4,f1,f5,f6⟩
  .refine aU (T.item (A6 X scope cl N U.objs.size s2 R fp) rfl rfl rfl hcalm i [] s3 σ3 H3 (fun _ _=>False) I3 (fpX [] H3 (fun _ z=>by cases z) fr3) st3 go) (fun r s4 ⟨u,hr,h4⟩=>?_) fun _ _ z=>z.elim;subst hr;show wpAny (model X.prog X.w) X.A (letOwnedTupleGo tgE (.ref it) u>>=fun _=>assign tgE (compEnvC scope cl U.objs.size X.env) u) _ _ s4;refine Wb (aU h4 (fun _ s5 ⟨xv,H5,I5,r5,y5,st5,fr5⟩=>?_) fun _ _ z=>z.elim);have I5':=I5.pinned (fpX [] H5 (fun _ z=>by cases z) fr5) (T.obj _ _ st5);refine aU (hpg _ _ s5 σ3 H5 xv u _ I5' r5 (step xv H5 y5 σ3 hσ)) (fun _ s6 ⟨σ6,H6,I6,rv6,step5⟩=>?_) fun _ _ z=>z.elim;refine aU (hif _ _ _ _ _ _ s6 _ H6 _ I6 step5) (fun b s7 ⟨H7,I7,q7⟩=>?_) fun _ _ z=>z.elim;have again:∀ {s8:SD} {H8:Hp} {k:Nat} {zs:List V},Inv (A6 X scope cl N U.objs.size s2 R fp) ([]++Nt fp s5.heap) σ6 H8 s8->W (i+1) k zs H8->k<n ->
     ∃m,m<n/\∃i ys Z H',Inv (A6 X scope cl N U.objs.size s2 R fp) [] Z H' s8/\Rv Z/\tn i s8.heap/\(∀b∈fp,H' b=none)/\W i m ys H':=fun {s8 H8 k zs} I8 w8 hk=>by
    refine⟨k,hk,i+1,zs,_,H8,I8.MJ,rv6,T.keep _ _ _ st5 fun b hb o e=>(I8.pin (b,o) (aY _ (aY _ (JU hb e)))).1,fun b hb=>?_,w8⟩;obtain⟨o,e,d⟩:=T.obj _ _ st5 b hb;exact(I8.pin (b,o) (aY _ (aY _ (JU hb e)))).2.1
   cases b with
   |false=>
    rw[if_neg aI]at q7 ⊢;obtain⟨k,hk,w7⟩:=q7;exact again I7 w7 hk
   |true=>
    rw[if_pos rfl]at q7 ⊢;refine aU (he _ _ _ _ _ _ s7 _ H7 _ I7 q7) (fun yv s8 ⟨y,H8,I8,r8,hD8,k,hk,w8⟩=>?_) fun _ _ z=>z.elim;refine aU (FH (X:=A6 X scope cl N U.objs.size s2 R fp) _ s8 _ H8 (.ref s2.heap.objs.size) [y] (.ref s2.heap.objs.size) [yv] (fun _ H9=>H9=upd H8 s2.heap.objs.size (.lst (ys++[y]))) I8 rfl (.cons r8 .nil) ⟨_,ys,y,rfl,rfl,hD8,hsz,rfl⟩) (fun _ s9 ⟨_,H9,I9,_,e9⟩=>?_) fun _ _ z=>z.elim;subst e9;exact again I9 w8 hk
 exact codeAny_compStart_list (loop _ rfl) (T.self X.A 0 _ _ _ (T.keep _ _ _ st2 fun b _ o e=>old b o e) (loop _ rfl))
def Q5{pins:List (AD×Obj)}{σ:St}{I:Hp}{s2:SD}{Q:VK}{it:AD}{fp:sC}{tn:Nat->Heap->Prop}{J:It}{cl:List (Str×AD)}{E:rV}{RR:VL->AD->Result->SD->Prop} (S:Ed scope N x ix)(O:X.calm=true)(hfr:GU N X.N scope X.env.scope fr 0=true)(hlen:fr.length=N.length) (hif:∀cl C s₀ H₀ fp,Mp (A6 X scope cl N C s₀ H₀ fp) ifs tif)(he:∀cl C s₀ H₀ fp,PE (A6 X scope cl N C s₀ H₀ fp) elt te) (I2:Inv X pins σ I s2)(T:Turn X.prog X.w X.K (.Name x px) J fp it tn)(st2:tn 0 s2.heap)(f2:∀b∈fp,LH X pins I b) (c1:∀x c,cl.lookup x=some c->X.env.cells.lookup x=some c)(c2:∀x∈scope.names,x.2=NameKind.free->∃c,cl.lookup x.1=some c) (W:∀D,I D=none->∃W:Nat->Nat->List V->Hp->Prop,(∃m,W 0 m [] (upd I D (.lst []))) /\∀i m ys H,W i m ys H->H D=some (.lst ys)/\((J.stop i H/\Q (.ref D) H)\/(J.go i H/\ys.length<sizeLine/\∀x H',J.F4 i H x H' ->tif ((carry fr σ).set ix (some x)) H' fun b I=>if b=true then te ((carry fr σ).set ix (some x)) I fun y H3=>H3 D=some (.lst ys)/\∃Z,Z<m/\W (i+1) Z (ys++[y]) (upd H3 D (.lst (ys++[y]))) else ∃Z,Z<m/\W (i+1) Z ys I))) (fin:∀(D C:AD) (s':SD) (H':Hp) m,s'.heap.Ns C m->Q (.ref D) H'->(∀h',Heap.SameBut C s'.heap h'->Inv X pins σ H' { s' with heap:=h'})->C≠D->(∀b o,s2.heap.get? b=some o->b≠C)->H' C=none->s2.heap.objs.size<=C->RR (.ref D) C (.ok .next) s'):wpAny (model X.prog X.w) X.A (newList []) (fun acc Y=>wpAny (model X.prog X.w) X.A (newFunctionEnv scope X.env.globals cl [] X.env.qual none .none (some X.env)) (fun g U => codeAny (model X.prog X.w) X.A (.compStart (.ListComp elt [⟨.Name x px,iter,ifs,0⟩] scope pos) 0 (.ref it) acc {g with scope:=relabel scope X.env}) (RR acc g.locals) U) E Y) E s2:=by
 have hxv:(relabel scope X.env).names.lookup x=some .local:=lookup_relabel_local S.loc;refine O8 S O (fun R=>∀v,R.set ix v=(carry fr σ).set ix v) (fun _=>rfl) (fun C=>BJ (X:=A6 X scope cl N C s2 I fp) S.nd S.at_ (.inl hxv) (.inr hxv)) hfr hlen hif he I2 T st2 f2 c1 c2 (fun D hD=>?_) fin;obtain⟨W,w0,st⟩:=W D hD;refine⟨W,w0,fun i m ys H w=>?_⟩;obtain⟨h1,h2|⟨h2,h3,h4⟩⟩:=st i m ys H w
 .exact⟨h1,.inl h2⟩
 .refine⟨h1,.inr ⟨h2,h3,fun x H' hy R hr=>?_⟩⟩;have:=h4 x H' hy;rw[<-hr]at this;exact⟨fun v=>by rw[List.set_set,hr],this⟩
def iQ(S:Ed scope N x ix)(U:X.calm=true)(hfr:GU N X.N scope X.env.scope fr 0=true)(Y:fr.length=N.length)(O:∀y∈scope.names,y.2=.free->X.env.scope.names.lookup y.1=some .cell\/X.env.scope.names.lookup y.1=some .free) (hi:PI X (.Name x px) iter wi)(hif:∀cl C s₀ H₀ fp,Mp (A6 X scope cl N C s₀ H₀ fp) ifs tif)(he:∀cl C s₀ H₀ fp,PE (A6 X scope cl N C s₀ H₀ fp) elt te) (hs:∀x,foldedSetIterable iter X.env x=pure x:=by intro _;rfl):PE X (.ListComp elt [⟨.Name x px,iter,ifs,0⟩] scope pos) (N6 wi fr ix tif te):=by
 intro pins s σ H Q I hw;obtain⟨cl,R,c1,_,c2⟩:=HN (env:=X.env) scope.names [] (fun y hy hf=>I.ok.has y.1 (O y hy hf)) (fun y c z=>by cases z);have g:closureFor scope X.env=pure cl:=by
  have e:closureFor scope X.env=((forIn scope.names [] (fun(x:Str×NameKind) (r:List (Str×AD))=>do if(x.2==NameKind.free)=true then do let a <-cellOf X.env x.1;pure (ForInStep.yield ((x.1,a)::r)) else pure (ForInStep.yield r)):Sem (List (Str×AD)))>>=fun cs=>pure cs):=rfl;rw[e,R]
  rfl
 rw[eval_ListComp];refine wpAny_comprehension_free (use:=none) rfl hs g S.kind S.names (BG (hi pins s σ H _ I hw) fun v s1 h1=>BG h1 fun itv s2 h2=>?_);obtain⟨it,fp,tn,J,H2,e,I2,T,Z,f2,W⟩:=h2;subst e;refine Q5 (RR:=fun acc C=>compPost (model X.prog X.w) X.A X.xe none (EP X pins σ Q) acc C) S U hfr Y hif he I2 T Z f2 c1 c2 W ?_;intro D C s' H' m hn q hI _ _ _ _;exact⟨m,hn,fun h' hs'=>⟨.ref D,H',hI h' hs',rfl,q⟩⟩
def Yc{i : Nat}{y : Str}{py spos : Pos}(hN : X.N.Nodup)(hy : X.N[i]? = some y)(hly : X.env.scope.names.lookup y = some .local)(S : Ed scope N x ix)(hcalm : X.calm = true)(hfr : GU N X.N scope X.env.scope fr 0 = true)(hlen : fr.length = N.length) (hfree : ∀ y∈scope.names,y.2 = .free->X.env.scope.names.lookup y.1 = some .cell\/X.env.scope.names.lookup y.1 = some .free) (hi : PI X (.Name x px) iter wi)(hif : ∀ cl C s₀ H₀ fp,Mp (A6 X scope cl N C s₀ H₀ fp) ifs tif)(he : ∀ cl C s₀ H₀ fp,PE (A6 X scope cl N C s₀ H₀ fp) elt te) (hsw : swapsWith (.ListComp elt [⟨.Name x px,iter,ifs,0⟩] scope pos) (some (.Name y py)) spos.line X.env = pure true:=by rfl) (hs : ∀ x,foldedSetIterable iter X.env x = pure x:=by intro _; rfl):PS X (.Assign [.Name y py] (.ListComp elt [⟨.Name x px,iter,ifs,0⟩] scope pos) spos) (X7 (N6 wi fr ix tif te) (GC i)):=by
  intro pins s σ H D I hw
  obtain ⟨cl,hclos,c1,_,c2⟩:=HN (env:=X.env) scope.names [] (fun y hy hf => I.ok.has y.1 (hfree y hy hf)) (fun y c z => by cases z)
  have hclos' : closureFor scope X.env = pure cl:=by
    have e : closureFor scope X.env = ((forIn scope.names [] (fun (x : Str×NameKind) (r : List (Str×AD)) => do if (x.2 == NameKind.free) = true then do let a <- cellOf X.env x.1; pure (ForInStep.yield ((x.1,a) :: r)) else pure (ForInStep.yield r)):Sem (List (Str×AD))) >>= fun cs => pure cs):=rfl
    rw [e,hclos]
    rfl
  rw [exec_Assign_Name_used _ _ _ _ hsw]
  refine Wb (wpAny_standAt (Wb ?_))
  show wpAny _ X.A (do let _ <- comprehension (.ListComp elt [⟨.Name x px,iter,ifs,0⟩] scope pos) scope X.env _ (newList []) false (eval iter X.env) (some (assign (.Name y py) X.env))) _ _ s
  refine Wb (aU (wpAny_comprehension_free (use:=some (assign (.Name y py) X.env)) (Q:=fun _ s' => SP X pins D .next s') rfl hs hclos' S.kind S.names
    (BG (hi pins s σ H _ I hw) fun v s1 h1 => BG h1 fun itv s2 h2 => ?_)) (fun _ s' hq => aA (aA hq)) fun _ _ e => e)
  obtain ⟨it,fp,tn,J,H2,e,I2,T,st2,f2,W⟩:=h2
  subst e
  refine Q5 (Q:=fun x H1 => GC i x σ H1 D.nx) (RR:=fun acc C => compPost (model X.prog X.w) X.A X.xe (some (assign (.Name y py) X.env)) (fun _ s' => SP X pins D .next s') acc C) S hcalm hfr hlen hif he I2 T st2 f2 c1 c2 W ?_
  intro D' C s' H' m hn q hI hCD hold hfreeC hsz
  have I5 : Inv X pins σ H' s':=hI s'.heap (Heap.SameBut.refl ..)
  refine wpAny_assign_Name (S6 I5 hN hy (.inl hly) (v:=.ref D') rfl (fun s'' I6 ⟨a,hsb,ha⟩ => ?_) (.inr hly))
  have hL : C≠X.env.locals:=fun z => by
    obtain ⟨_,⟨o,_,_,e,_⟩,_⟩:=I2.loc
    exact hold _ _ e z.symm
  have hcl : ∀ z c,X.env.cells.lookup z = some c->c≠C:=fun z c e => by
    obtain ⟨_,o,ho,_⟩:=I2.cell z c e
    exact hold _ _ ho
  have hCa : C≠a:=by
    rcases ha with z | z
    . rw [z]; exact hL
    . exact Ne.symm (hcl _ _ z)
  refine ⟨m,hn.sameBut hsb hCa,fun h' hs' => ⟨_,H',I6.turned (t':=s''.toks) (it:=C) (fun b o hb e => (hs'.2 b hb).trans e) hfreeC hL (.inr (aR I2.sz hsz)) hcl fun p hp => ?_,q⟩⟩
  obtain ⟨e,_⟩:=I2.pin p hp
  exact hold _ _ e
end
end L2
namespace FM
def gi(a b:Int):Int:=(Int.gcd a b:Int)
def UR(a b:Int):Int.gcd b (a.fmod b)=Int.gcd a b:=by
 have e:a.fmod b=a-b*a.fdiv b:=Int.fmod_def a b;rw[e,Int.gcd_comm a b];exact Int.gcd_sub_mul_left_right b a (a.fdiv b)
def TM(a b:Int)(hb:b≠0):(a.fmod b).natAbs<b.natAbs:=by
 rcases Int.lt_or_gt_of_ne hb with h|h
 .have O:-(a.fmod b)=(-a).fmod (-b):=by
   rw[Int.fmod_def,Int.fmod_def,Int.neg_fdiv_neg];have:-b*a.fdiv b=-(b*a.fdiv b):=Int.neg_mul _ _
   lia
  have I:=Int.fmod_nonneg_of_pos (-a) (show 0 < -b by lia);have g:=Int.fmod_lt_of_pos (-a) (show 0 < -b by lia)
  lia
 .have I:=Int.fmod_nonneg_of_pos a h;have g:=Int.fmod_lt_of_pos a h
  lia
def Nq{a b:Int}(hb:b≠0):0<gi a b:=by
 have:0<Int.gcd a b:=Int.gcd_pos_of_ne_zero_right a hb;unfold gi;lia
def fg{a b:Int}(hb:b≠0):(gi a b).natAbs<=b.natAbs:=by
 have h:Int.gcd a b ∣ b.natAbs:=by
  have:=Int.gcd_dvd_right a b;exact Int.natAbs_dvd_natAbs.mpr this
 have g:0<b.natAbs:=by lia
 have:=Nat.le_of_dvd g h;unfold gi;lia
def gs(t b:Int):Int:=if b<0 then -gi t b else gi t b
def fj{t b:Int}(hb:b≠0):gs t b≠0:=by
 have:=Nq (a:=t) hb;unfold gs;split<;>lia
def fR{t b:Int}(hb:b≠0):(gs t b).natAbs<=b.natAbs:=by
 have:=fg (a:=t) hb;unfold gs;split<;>lia
def Hb{g x k:Int}(hg:g≠0)(e:x=g*k):x.fdiv g=k:=by
 subst e;exact Int.mul_fdiv_cancel_left k hg
def Od(a b:Int):gi a b ∣ a:=Int.gcd_dvd_left a b
def NT(a b:Int):gi a b ∣ b:=Int.gcd_dvd_right a b
def VU{t b:Int}(hb:b≠0):t.fdiv (gs t b)=(Rat.divInt t b).num:=by
 have I:=Nq (a:=t) hb;obtain⟨k,hk⟩:=Od t b;rw[Rat.num_divInt,Int.gcd_comm b t];show t.fdiv (gs t b)=b.sign*t / gi t b;unfold gs;generalize gi t b=g at I hk ⊢;rcases Int.lt_or_gt_of_ne hb with h|h
 .rw[if_pos h,Int.sign_eq_neg_one_of_neg h,Hb (k:=-k) (by lia) (by rw[hk];simp[Int.mul_neg,Int.neg_mul])];have:-1*t=g*(-k):=by rw[hk];simp[Int.mul_neg]
  rw[this,Int.mul_ediv_cancel_left _ (by lia)]
 .rw[if_neg (by lia),Int.sign_eq_one_of_pos h,Hb (k:=k) (by lia) hk,Int.one_mul,hk,Int.mul_ediv_cancel_left _ (by lia)]
def UB{t b:Int}(hb:b≠0):b.fdiv (gs t b)=((Rat.divInt t b).den:Int):=by
 have I:=Nq (a:=t) hb;obtain⟨k,hk⟩:=NT t b;rw[Rat.den_divInt,if_neg hb,Int.gcd_comm b t];have e:(((b.natAbs / Int.gcd t b:Nat)):Int)=(b.natAbs:Int) / gi t b:=by unfold gi;simp
 rw[e];unfold gs;generalize gi t b=g at I hk ⊢;rcases Int.lt_or_gt_of_ne hb with h|h
 .rw[if_pos h,Hb (k:=-k) (by lia) (by rw[Int.neg_mul_neg];exact hk)];have:(b.natAbs:Int)=g*(-k):=by rw[Int.mul_neg,<-hk];lia
  rw[this,Int.mul_ediv_cancel_left _ (by lia)]
 .rw[if_neg (by lia),Hb (k:=k) (by lia) hk];have:(b.natAbs:Int)=g*k:=by rw[<-hk];lia
  rw[this,Int.mul_ediv_cancel_left _ (by lia)]
def Ft(a b:Int):(a.fdiv b).natAbs<=a.natAbs:=by
 cases a with
 |ofNat n=>
  cases n with
  |zero=>
   have e:Int.fdiv (.ofNat 0) b=0:=Int.zero_fdiv b;rw[e];exact aj _
  |succ k=>
   cases b with
   |ofNat j=>exact Nat.div_le_self (k+1) j
   |negSucc j=>exact Nat.succ_le_succ (Nat.div_le_self k (j+1))
 |negSucc k=>
  cases b with
  |ofNat j=>
   cases j with
   |zero=>exact aj _
   |succ j=>exact Nat.succ_le_succ (Nat.div_le_self k (j+1))
  |negSucc j=>exact Nat.div_le_self (k+1) (j+1)
def ko{t b:Int}(hb:b≠0):(Rat.divInt t b).num.natAbs<=t.natAbs:=by
 rw[<-VU hb];exact Ft _ _
def ZV{t b:Int}(hb:b≠0):(Rat.divInt t b).den<=b.natAbs:=by
 have h:=Ft b (gs t b);rw[UB hb]at h
 simpa using h
def Vx(p:Rat):Rat.divInt p.num p.den=p:=Rat.num_divInt_den p
def lO{x y:Int}{m n:Nat}(I:x.natAbs<2^m)(g:y.natAbs<2^n):(x*y).natAbs<2^(m+n):=by
 rw[Int.natAbs_mul,Nat.pow_add];exact Nat.mul_lt_mul'' I g
def WX{x:Nat}{m n:Nat}(g:x<2^m)(h:m<=n):x<2^n:=aL g (bG (by decide) h)
def Fits(p:Rat)(n:Nat):Prop:=p.num.natAbs<2^n/\p.den<2^n
def Fits.d{p:Rat}{n:Nat}(h:Fits p n):((p.den:Int)).natAbs<2^n:=by simpa using h.2
def Fits.kD{t b:Int}{n:Nat}(hb:b≠0)(I:t.natAbs<2^n)(g:b.natAbs<2^n):Fits (Rat.divInt t b) n :=
 ⟨ai (ko hb) I,Nat.lt_of_le_of_lt (ZV hb) g⟩
end FM
namespace FM
def Wj(a b:Int):Int.gcd (if a<0 then -a else a) (if b<0 then -b else b)=Int.gcd a b:=by
 split<;>split<;>simp[Int.gcd_neg,Int.neg_gcd]
def abs_nonneg(a:Int):0<=(if a<0 then -a else a):=by split<;>lia
def Zz{g a b:Int}(h:Int.gcd g 0=Int.gcd a b)(h0:0<=g):g=gi a b:=by
 unfold gi;rw[<-h,Int.gcd_zero_right]
 lia
def fmod_nonneg{g l:Int}(I:l≠0)(h:0<=l):0<=g.fmod l:=Int.fmod_nonneg_of_pos g (by lia)
end FM
namespace L2
open PySem PySem.Spec PyProof.Rows
structure Fn(K:Fg)(mg:Str->Option Value)(x:Str)(st:Stmt)(ps:List Str)(f:Addr)(fd:FuncData):Prop where
 F:Sn K x x st f fd
 b:Binds K fd ps []
 m:mg x=some (.ref f)
section
variable{X:Cx}{k:Nat}{f:AD}{fd:FuncData}{ps:rf}{sp:Sp}{x:Str}{st:Stmt}{p pos:Pos}{e:Expr}{es:rg}{t:TA}
def Cu(T:Fn X.K X.mg x st ps f fd)(G:AI X.prog X.w X.K X.mg X.base Aa k f fd ps sp)(O:CG k X.A)(hg:Gl X x)(ha:PA X (e::es) t) (I:(x==("__debug__" : Str))=false:=by decide)(R:starEach (e::es) X.env=(false,eval e X.env)::starEach es X.env:=by rfl)(g:(backTo pos (starEach es X.env)).any (·.1)=false:=by rfl):PE X (.Call (.Name x p) (e::es) [] pos) (YL sp [] E0 t):=W2 G O hg T.m T.F.kp T.b .nil nZ ha I R g
end
def Pn{t u:TS}{D:Ends}{σ:St}{H:Hp}(P:St->Hp->Prop)(O:∀nx:St->Hp->Prop,(∀g H',P g H'->nx g H')->t {D with nx:=nx} σ H)(I:∀g H',P g H'->u D g H'):jn t u D σ H:=O _ I
def Oj:2<=sizeLine:=by decide
def Ac{H:Hp}{p:AD}(h:H p=none)(o:HO):AJ H (upd H p o):=fun b u q=>by rw[AL (AU q h)];exact q
def SameBut(l:AD)(H H':Hp):Prop:=∀b o,b≠l->H b=some o->H' b=some o
def SameBut.of{l:AD}{H H':Hp}(h:AJ H H'):SameBut l H H':=fun b o _ q=>h b o q
def SameBut.upd{l:AD}{H:Hp}{o:HO}:SameBut l H (upd H l o):=fun b u n q=>by rw[AL n];exact q
def M7(p:Rat):rq:=[.int p.num,.int (p.den:Int)]
def BX(p:Rat):PD:=.tuple [.int p.num,.int (p.den:Int)]
def Xo{i j:Int}{m n:Nat}(I:i.natAbs<2^m)(g:j.natAbs<2^n)(h:m+n<=1000000):VM i j\/QV i j :=
 .inr ⟨m+n,h,FM.WX I (Nat.le_add_right _ _),FM.WX g (Nat.le_add_left _ _)⟩
def CK.get{P:Program}{w:World}{H:Hp}{h:Heap}{a:AD}{o:HO}(x:CK P w H h a o):∃u,h.get? a=some u:=by
 cases o with
 |lst xs=>obtain⟨_,_,_,_,e⟩:=x;exact⟨_,e⟩
 |tup xs=>obtain⟨_,_,_,o,e,_⟩:=x;exact⟨o,e⟩
 |dK kvs=>obtain⟨_,_,_,_,o,_,_,e,_⟩:=x;exact⟨o,e⟩
 |dT kvs=>obtain⟨_,_,_,_,o,_,_,e,_⟩:=x;exact⟨o,e⟩
 |set S n=>obtain⟨o,_,_,_,e,_⟩:=x;exact⟨o,e⟩
 |ins C dx fs=>obtain⟨_,_,_,e,_⟩:=x;exact⟨_,e⟩
 |own y=>obtain⟨o,e⟩:=x;exact⟨o,e⟩
 |xd fs=>obtain⟨_,⟨o,_,_,e,_⟩,_⟩:=x;exact⟨o,e⟩
 |fT lo hi=>obtain⟨_,_,_,e⟩:=x;exact⟨_,e⟩
 |Fv ob u=>obtain⟨e,_⟩:=x;exact⟨_,e⟩
 |Ow ps=>exact⟨_,(show h.get? a=some _ from x)⟩
 |met f y=>exact⟨_,(show h.get? a=some _ from x)⟩
 |ext φ=>obtain⟨_,⟨o,e⟩,_⟩:=x;exact⟨o,e⟩
structure Yd(P:Program)(w:World)(outer:List Env)(H:Hp)(s:Shared)(ea:Addr)(cls a0:Value)(H':Hp)(s':Shared)(B:Heap):Prop where
 os:s'.os=s.os
 bare:AllBare s'.gens
 kY:Heap.FlyingW B outer ea cls a0 s'.heap
 keep:∀b o,s.heap.get? b=some o->H b=none->b ∉ Fs outer->B.get? b=some o
 there:∀b o,s.heap.get? b=some o->b ∉ Fs outer->∃o',B.get? b=some o'
 slot:∀b o,s.heap.get? b=some o->b∈Fs outer->∃sl,s'.heap.get? b=some {o with slots:=sl}
 free:∀b o,s.heap.get? b=some o->H b=none->H' b=none
 A0:∀b xs,H b=some (.tup xs)->H' b=some (.tup xs)
 Fw:∀b o u,H b=some (.Fv o u)->H' b=some (.Fv o u)
 GP:∀b ps,H b=some (.Ow ps)->∃more,H' b=some (.Ow (ps++more))
 Ap:Ei P w H' B
 new:s.heap.get? ea=none
def CD(P:Program)(w:World):Hi:=fun outer H s E e s'=>∃ea cls a0 H' B,e=.ref ea/\Yd P w outer H s ea cls a0 H' s' B/\E cls none H'
def PV{base h:Heap}{l:sE}(F:h.FunFrames base l){b:AD}(hb:b∈Fs l):∃o,h.get? b=some o/\∀vs,o.data≠.fields vs:=(F.mem hb).2
section
variable{P:Program}{w:World}{K:Fg}{mg:rW}{base:Heap}{N:rf}{qual:Str}{scope:Scope}{f:AD}{cd:VL}{A:Around}{outer:sE}{s:SD}{H:Hp}{E:XK}
def gX{pins:List (AD×Obj)}{σ:St}{U:Hp}{s1:SD}{h':Heap}{ea:AD}{cls:VL}{args:rT}(I:Inv (Ck (CD P w) P w K mg base N qual scope f cd A outer s H E) pins σ U s1) (Z:Heap.MadeExcOf s1.heap h' ea cls args)(hE:E cls none U):(Ck (CD P w) P w K mg base N qual scope f cd A outer s H E).xe (.ref ea) {s1 with heap:=h'}:=by
 show wpAny (model P w) (A.deeper (envOfC qual scope s.heap.objs.size f cd)) (leaving (envOfC qual scope s.heap.objs.size f cd) (.ref ea)) _ _ _;have FF:=I.stack;have hfr:(A.deeper (envOfC qual scope s.heap.objs.size f cd)).frames=some (envOfC qual scope s.heap.objs.size f cd::outer):=I.ok.frames;have hin:∀env∈(envOfC qual scope s.heap.objs.size f cd::outer),∀b,env.frame=some b->b∈(envOfC qual scope s.heap.objs.size f cd::outer).filterMap (·.frame):=fun env he b hb=>List.mem_filterMap.mpr ⟨env,he,hb⟩;have O:∀b o,s.heap.get? b=some o->b≠s.heap.objs.size:=fun b o e=>aK (aF e);have out:∀b,b≠s.heap.objs.size->b ∉ Fs outer->b ∉ (envOfC qual scope s.heap.objs.size f cd::outer).filterMap (·.frame):=fun b h1 h2 hm=>by
  rcases aM.mp (I.NX b hm) with z|z
  .exact h1 z
  .exact h2 z
 have g:∀b u,U b=some u->b ∉ (envOfC qual scope s.heap.objs.size f cd::outer).filterMap (·.frame):=fun b u e hm=>by
  have:=I.SE b hm;rw[e]at this;cases this
 refine wpAny_leaves_madeW (base:=PySem.W.hideAll s1.heap ((envOfC qual scope s.heap.objs.size f cd::outer).filterMap (·.frame))) hfr rfl (fun b o q=>PySem.W.of_hideAll _ q) (PySem.W.funFrames_hide FF hin) Z fun h2 t fl _ _ up=>?_;have T:Ei P w U (PySem.W.hideAll s1.heap ((envOfC qual scope s.heap.objs.size f cd::outer).filterMap (·.frame))):=fun b u e=>
  (I.Ap b u e).Hx (fun c v hc q=>PySem.W.hideAll_get _ q (by
   rcases hc with rfl|hc
   .exact g _ _ e
   .exact g _ _ hc)) (fun _ q=>q) fun _ _ q=>q
 refine⟨ea,cls,.ref t,U,_,rfl,⟨I.os,I.bare,fl,fun b o e n hb=>?_,fun b o e hb=>?_,fun b o e hb=>?_,fun b o e n=>I.base.free b o e n (by simp[Ck]),I.base.A0,I.base.Fw,I.base.GP,T,?_⟩,hE⟩
 .exact PySem.W.hideAll_get _ (I.base.keep b o e n hb (by simp[Ck])) (out b (O b o e) hb)
 .obtain⟨o',R⟩:=I.base.there b o e (by simp[Ck]);exact⟨o',PySem.W.hideAll_get _ R (out b (O b o e) hb)⟩
 .obtain⟨sl,R⟩:=I.base.slot b o e (I.ok.Qm b hb) hb (by simp[Ck]);obtain⟨o',e2,hd⟩:=PV I.Hf hb;rw[R]at e2;cases e2;obtain⟨Y,e3⟩:=up b _ (Z.keeps _ _ R) hd;exact⟨Y,e3⟩
 .cases q:s.heap.get? ea with
  |none=>rfl
  |some o=>
   obtain⟨o',R⟩:=I.base.there ea o q (by simp[Ck]);have:=Z.new;rw[R]at this;cases this
def nh{Z:XK}(hE:∀c a H',Z c a H'->E c a H'):Passes (CD P w) (Ck (CD P w) P w K mg base N qual scope f cd A outer s H E) Z:=by
 intro pins σ H1 s1 e s2 I ⟨ea,cls,a0,H2,B,ee,F,hq⟩;subst ee;show wpAny (model P w) (A.deeper (envOfC qual scope s.heap.objs.size f cd)) (leaving (envOfC qual scope s.heap.objs.size f cd) (.ref ea)) _ _ _;have O:∀b o,s.heap.get? b=some o->b≠s.heap.objs.size:=fun b o e=>aK (aF e);have out:∀b,b≠s.heap.objs.size->b ∉ Fs outer->b ∉ Fs (Ck (CD P w) P w K mg base N qual scope f cd A outer s H E).stack:=fun b h1 h2 hm=>by
  rcases aM.mp (I.NX b hm) with z|z
  .exact h1 z
  .exact h2 z
 refine wpAny_leaves_onW I.ok.frames rfl F.kY fun h3 fl up=>?_;refine⟨ea,cls,a0,H2,B,rfl,⟨F.os.trans I.os,F.bare,fl,fun b o e n hb=>?_,fun b o e hb=>?_,fun b o e hb=>?_,fun b o e n=>?_,fun b xs q=>F.A0 b xs (I.base.A0 b xs q),fun b o u q=>F.Fw b o u (I.base.Fw b o u q),fun b ps q=>?_,F.Ap,?_⟩,hE _ _ _ hq⟩
 .exact F.keep b o (I.base.keep b o e n hb (by simp[Ck])) (I.base.free b o e n (by simp[Ck])) (out b (O b o e) hb)
 .obtain⟨o',g⟩:=I.base.there b o e (by simp[Ck]);exact F.there b o' g (out b (O b o e) hb)
 .obtain⟨sl,g⟩:=I.base.slot b o e (I.ok.Qm b hb) hb (by simp[Ck]);have T:b∈Fs (Ck (CD P w) P w K mg base N qual scope f cd A outer s H E).stack:=by
   show b∈Fs (envOfC qual scope s.heap.objs.size f cd::outer);unfold Fs;rw[List.filterMap_cons];exact aO _ hb
  obtain⟨sl2,U⟩:=F.slot b _ g T;obtain⟨o',Y,hd⟩:=PV I.Hf hb;rw[g]at Y;cases Y;obtain⟨R,e4⟩:=up b _ U hd;exact⟨R,e4⟩
 .obtain⟨o',g⟩:=I.base.there b o e (by simp[Ck]);exact F.free b o' g (I.base.free b o e n (by simp[Ck]))
 .obtain⟨m1,g⟩:=I.base.GP b ps q;obtain⟨m2,U⟩:=F.GP b _ g;exact⟨m1++m2,by rw[U,Array.append_assoc]⟩
 .cases q:s.heap.get? ea with
  |none=>rfl
  |some o=>
   obtain⟨o',g⟩:=I.base.there ea o q (by simp[Ck]);have:=F.new;rw[g]at this;cases this
def Sn.rJ{x:Str}{st:Stmt}{fd:FuncData}{ps:rf}{k:Nat}{sp:Sp}(F:Sn K x x st f fd)(S:AZ N ps (AM st))(len:∀vs H Q E,sp vs H Q E->vs.length=ps.length) (g:∀(cdv:VL) (A:Around) (outer:sE) (s:SD) (H:Hp) (vs:rq) (Q:VK) (E:XK),CG k (A.deeper (envOfC x (AM st) s.heap.objs.size f cdv))->sp vs H Q E ->∃t,GV (Ck (CD P w) P w K mg base N x (AM st) f cdv A outer s H E) (DM st) t/\t { nx:=fun _ H'=>Q .BP H',rt:=Q} (start N vs) H):AI P w K mg base (CD P w) (k+1) f fd ps sp:=by
 obtain⟨oc,od,kV,doc,pm,an,cdv,ct,osl,rfl,lk,O⟩:=F.ex;exact eg lk O S len fun A outer s H vs Q E R I=>g cdv A outer s H vs Q E R I
def AI.rC{fd:FuncData}{ps:rf}{k:Nat}{sp:Sp}(F:AI P w K mg base Aa k f fd ps sp):AI P w K mg base (CD P w) k f fd ps sp :=
 ⟨F.len,fun A outer s H args us vs Q E O R hb g I=>codeAny_mono (F.run A outer s H args us vs Q E O R hb g I) fun r s' h=>by
  cases r with
  |ok T=>cases T<;>exact h
  |error e=>exact False.elim h⟩
end
structure Exc(K:Fg)(mg:Str->Option Value)(x:Str)(C:Addr):Prop where
 m:mg x=some (.ref C)
 q:PySem.W.excIn K C [.type "ValueError",.type "Exception",.type "BaseException",.type "object"] "ValueError.__new__" = true
def iY{K:Fg}{h:Heap}{C:AD}{bB:rT}{I:String}(Og:K.In h)(g:PySem.W.excIn K C bB I=true):∃O N nm T bs hd sn sub ab col dd k0 k1 k2 k3 k5 mN,h.get? C=some (excClassObj nm T C N bs O hd sn sub ab col dd k0 k1 k2 k3 k5 I)/\h.Ns N mN/\mN "__init__" = none/\OwnTail h bB O:=by
 unfold PySem.W.excIn at g;split at g
 .rename_i dd cd sl lk;split at g
  .rename_i C1 O k0 k1 k2 k3 n1 k5 e1 Z;simp only[Bool.and_eq_true,beq_iff_eq,Bool.not_eq_true']at g;obtain⟨⟨⟨⟨⟨y1,y2⟩,Y⟩,y4⟩,R⟩,U⟩:=g;subst y1 y2;obtain⟨nm,bs,mro,N,T,hd,sn,sub,ab,col,del⟩:=cd;dsimp only at e1 Y R U;subst e1 Y;have e3:sl=#[k0,k1,k2,k3,some (.builtin n1),k5]:=by
    cases sl with
    |mk l=>simp only at Z;rw[Z]
   subst e3;exact⟨O,N,nm,T,bs,hd,sn,sub,ab,col,dd,k0,k1,k2,k3,k5,_,Og _ _ lk,.of_isNs (PySem.W.isNs_of_in Og R),PySem.W.nsMap_none_of_in Og R U,PySem.W.tail_of_in Og y4⟩
  .cases g
 .cases g
section
variable{X:Cx}{x:Str}{C:AD}{np cpos pos:Pos}{e:Expr}{te:TE}{E:XK}
def Lets(X:Cx)(E:XK):Prop:=∀(pins:List (AD×Obj)) (σ:St) (H:Hp) (s:SD) (h':Heap) (ea:AD) (cls:VL) (args:List VL),Inv X pins σ H s->Heap.MadeExcOf s.heap h' ea cls args->E cls none H->X.xe (.ref ea) {s with heap:=h'}
def jA(C:AD)(E:XK)(te:TE):TS:=fun _ σ H=>te σ H fun _ g=>E (.ref C) none g
def eP(T:Exc X.K X.mg x C)(hL:Lets X E)(O:X.calm=true)(hg:Gl X x)(he:PE X e te)(hd:(x==("__debug__" : Str))=false:=by decide) (R:starEach [e] X.env=[(false,eval e X.env)]:=by rfl):PS X (.Raise (some (.Call (.Name x np) [e] [] cpos)) none pos) (jA C E te):=by
 intro pins s σ H D I h;obtain⟨tl,N,nm,qn,bs,g,sn,sub,ab,col,dd,k0,k1,k2,k3,k5,Z,hC,hN,Y,TL⟩:=iY I.ok.mod.Og T.q;refine wpAny_Raise_call_subT (C:=C) (nm:=nm) (q:=qn) (N:=N) (bs:=bs) (bm:=tl) (hdct:=g) (sn:=sn) (sub:=sub) (ab:=ab) (col:=col) (dd:=dd) (k0:=k0) (k1:=k1) (k2:=k2) (k3:=k3) (k5:=k5)
  PySem.F.excBase_ValueError (mN:=Z) (TL.hasType (by decide)) (I.ok.hd O) (by rw[R];rfl) Y (JX I hg T.m ⟨rfl,?_⟩ hd)
 rw[R];refine Calls.evalArgs_plain (Calls.spliced_cons (BG (he pins s σ H _ I h) fun u s1 ⟨v,H1,U,r1,q1⟩=>Calls.spliced_nil ?_));exact⟨rfl,by show 1<=sizeLine;decide,U.bk _ _ hC,hN.keeps U.bk,TL.keeps U.bk,fun h' ea hm=>hL pins σ H1 s1 h' ea _ _ U hm q1⟩
end
def UA(X:Cx)(pins:List (AD×Obj))(σ:St)(E:XK)(e:VL)(s':SD):Prop:=∃H0 s0,Inv X pins σ H0 s0/\CD X.prog X.w X.stack H0 s0 E e s'
abbrev TX:=St->Hp->VK->XK->Prop
def pI(X:Cx)(e:Expr)(t:TX):Prop :=
 ∀(pins:List (AD×Obj)) (s:SD) (σ:St) (H:Hp) (Q:VK) (E:XK),Inv X pins σ H s->t σ H Q E->wpAny (model X.prog X.w) X.A (eval e X.env) (EP X pins σ Q) (UA X pins σ E) s
section
variable{X:Cx}{k:Nat}{f:AD}{fd:FuncData}{ps:rf}{sp:Sp}{x:Str}{st:Stmt}{p pos:Pos}{e:Expr}{es:rg}{t:TA}
def jL(sp:Sp)(t:TA):TX:=fun σ H Q E=>t σ H fun vs g=>sp (vs++[]) g Q E
def iz{pins:List (AD×Obj)}{σ:St}{H:Hp}{s:SD}{Q:VK}{E:XK}{us:rT}{vs:rq}(F:AI X.prog X.w X.K X.mg X.base (CD X.prog X.w) k f fd ps sp)(R:CG k X.A)(hb:Binds X.K fd ps []) (I:Inv X pins σ H s)(r:Vals vs us)(h:sp (vs++[]) H Q E):wpAny (model X.prog X.w) X.A (call (.ref f) us) (EP X pins σ Q) (UA X pins σ E) s:=by
 rw[List.append_nil]at h;have T:(us++[]).length=ps.length:=by rw[List.append_nil,<-r.length];exact F.len _ _ _ _ h
 have O:=hb s us I.GO T;rw[List.append_nil]at O;refine wpAny_call (codeAny_mono (F.run X.A X.stack s H ⟨us,[]⟩ us vs Q E R I.md O r h) fun r s' g=>?_);cases r with
 |error e=>exact⟨H,s,I,g⟩
 |ok U=>
  cases U with
  |ret u=>exact I.after g
  |next=>exact False.elim g
  |brk=>exact False.elim g
  |cont=>exact False.elim g
def mZ(T:Fn X.K X.mg x st ps f fd)(G:AI X.prog X.w X.K X.mg X.base (CD X.prog X.w) k f fd ps sp)(U:CG k X.A)(hg:Gl X x)(ha:PA X.GZ (e::es) t) (O:(x==("__debug__" : Str))=false:=by decide)(Y:starEach (e::es) X.env=(false,eval e X.env)::starEach es X.env:=by rfl)(g:(backTo pos (starEach es X.env)).any (·.1)=false:=by rfl):pI X (.Call (.Name x p) (e::es) [] pos) (jL sp t):=by
 intro pins s σ H Q E I h;refine wpAny_Call_Name_kw (JX I hg T.m ?_ O);refine PySem.W.callWith_K (h₀:=X.base) I.ok.mod.Og T.F.kp (aU (ha pos pins s σ H _ (I.GS _) h) (fun us s1 ⟨vs,Z,R,r,q⟩=>⟨R.GO,?_⟩) fun _ _ z=>z.elim) Y g;exact iz G U T.b R.EE r q
end
def land{X:Cx}{pins:List (AD×Obj)}{σ:St}{H0 H':Hp}{s0 s':SD}{ea:AD}{cls a0:VL}{B:Heap}(I:Inv X pins σ H0 s0)(F:Yd X.prog X.w X.stack H0 s0 ea cls a0 H' s' B) {h':Heap}{tk:Nat}(st:B.StaysIn h')(up:s'.heap.UpToSlots h'):Inv X pins σ H' { s' with heap:=h',toks:=tk}:=by
 have g:∀b o,s0.heap.get? b=some o->b∈Fs X.stack->∃sl,h'.get? b=some {o with slots:=sl}:=fun b o e hb=>by
  obtain⟨sl,O⟩:=F.slot b o e hb;obtain⟨o',T,hd⟩:=PV I.stack hb;rw[e]at T;cases T;obtain⟨R,U⟩:=up b _ O hd;exact⟨R,U⟩
 refine I.fw (s':={ s' with heap:=h',toks:=tk}) (ch:=[]) F.os ⟨fun b o e n hb _=>st b o (F.keep b o e n hb),fun b o e n hb _=>g b o e hb,fun b o e n _=>F.free b o e n,fun b o e _=>?_,F.A0,F.Fw,F.GP⟩ (F.Ap.kept st) F.bare fun b z=>absurd z (by simp);by_cases hb:b∈Fs X.stack
 .obtain⟨sl,O⟩:=g b o e hb;exact⟨_,O⟩
 .obtain⟨o',O⟩:=F.there b o e hb;exact⟨o',st _ _ O⟩
def MQ(ea:AD)(cls:VL):HO:=.ext fun h=>∃o vs,h.get? ea=some o/\o.cls=cls/\o.data=.fields vs
def nM{X:Cx}{pins:List (AD×Obj)}{σ:St}{H0 H':Hp}{s0 s' T:SD}{ea:AD}{cls a0:VL}{B:Heap}(I:Inv X pins σ H0 s0)(F:Yd X.prog X.w X.stack H0 s0 ea cls a0 H' s' B) (g:Inv X pins σ H' T)(ho:∃o vs,T.heap.get? ea=some o/\o.cls=cls/\o.data=.fields vs):H' ea=none/\Inv X pins σ (upd H' ea (MQ ea cls)) T:=by
 have hn:H' ea=none:=by
  cases q:H' ea with
  |none=>rfl
  |some u=>
   obtain⟨o,e⟩:=(F.Ap ea u q).get;rw[F.kY.2.1]at e;cases e
 have ne:∀b o,s0.heap.get? b=some o->b≠ea:=fun b o e z=>by rw[z,F.new]at e;cases e
 have up:∀b,b≠ea->upd H' ea (MQ ea cls) b=H' b:=fun b z=>AL z;have neT:∀b u,H' b=some u->b≠ea:=fun b u e z=>by rw[z,hn]at e;cases e
 refine⟨hn,g.ok,g.os,g.bare,⟨g.base.keep,g.base.slot,fun b o e n Z=>?_,g.base.there,fun b xs e=>?_,fun b o u e=>?_,fun b ps e=>?_⟩,g.loc,g.cell,?_,fun y c e=>?_,fun p hp=>?_,fun b u e=>?_,g.len⟩
 .obtain⟨o',O⟩:=I.base.there b o e Z;rw[up b (ne b o' O)];exact g.base.free b o e n Z
 .have:=g.base.A0 b xs e;rw[up b (neT _ _ this)];exact this
 .have:=g.base.Fw b o u e;rw[up b (neT _ _ this)];exact this
 .obtain⟨m,O⟩:=g.base.GP b ps e;exact⟨m,by rw[up b (neT _ _ O)];exact O⟩
 .obtain⟨m,⟨o,_,_,e,_⟩,_⟩:=I.loc;rw[up _ (ne _ o e)];exact g.free
 .obtain⟨v,o,O,_⟩:=I.cell y c e;rw[up _ (ne _ o O)];exact g.Fp y c e
 .obtain⟨O,Y,U⟩:=g.pin p hp;have e0:=(I.pin p hp).1;exact⟨O,by rw[up _ (ne _ _ e0)];exact Y,U⟩
 .by_cases hb:b=ea
  .subst hb;rw[AN]at e;cases e;obtain⟨o,vs,O,Y,U⟩:=ho;exact⟨⟨o,vs,O,Y,U⟩,⟨o,O⟩,fun h1 h2 ⟨o1,R,q1,q2⟩ k=>⟨o1,R,k _ q1,q2⟩⟩
  .rw[up b hb]at e;exact(g.Ap b u e).Hx (fun c v _ q=>q) (fun c q=>by rw[up c (neT _ _ q)];exact q) fun c xs q=>by rw[up c (neT _ _ q)];exact q
structure Es(K:Fg)(C G:Addr)(b:Bool):Prop where
 cl:(PySem.W.clsIn K G).isSome=true
 ty:PySem.W.typeIn K (.ref G)=some (.type "type")
 ex:PySem.W.subIn K (.ref G) (.type "BaseException")=some true
 sub:PySem.W.subIn K (.ref C) (.ref G)=some b
def UZ{M:Model}{A:Around}{E:rV}{s:SD}{K:Fg}{e C G:AD}{I:Obj}{b:Bool}{Q:Bool->SD->Prop}(X:K.In s.heap)(he:s.heap.get? e=some I)(hc:I.cls=.ref C)(B:Es K C G b) (h:Q b s):wpAny M A (excMatches (.ref e) (.ref G)) Q E s:=by
 have Z:PySem.W.Looks M s.heap (isInstance (.ref G) (.type "tuple")) false:=(PySem.W.looks_typeIn X B.ty).andThen (PySem.W.Looks.of_pure tc_notTuple);have Y:PySem.W.Looks M s.heap (isType (.ref G)) true:=by
  have z:=B.cl;unfold PySem.W.clsIn at z;split at z
  .rename_i c' d' cd' O ho;intro A' Q' E' s' k q;unfold isType loadHead;exact Wb (wpAny_loadPart (k _ _ (X _ _ ho)) (aA q))
  .cases z
 have U:PySem.W.Looks M s.heap (isSubtype (.ref G) (.type "BaseException")) true:=PySem.W.looks_subIn X B.ex;have T:PySem.W.Looks M s.heap (typeOf (.ref e)) (.ref C):=hc ▸ (PySem.W.Looks.ld he).andThen .now
 have R:PySem.W.Looks M s.heap (isSubtype (.ref C) (.ref G)) b:=PySem.W.looks_subIn X B.sub;obtain⟨hp,g,d,tk,os⟩:=s;unfold excMatches isExcClass;refine Wb (Z.at ?_);simp only[Bool.false_eq_true,if_false];refine Wb (aA ?_);simp only[List.forIn_cons,List.forIn_nil];refine Wb (Wb (Wb (Wb (Y.at ?_))));simp only[if_true];refine U.at ?_;simp only[Bool.not_true,Bool.false_eq_true,if_false];refine aA (aA (Wb (T.at (Wb (Wb (Wb (R.at ?_)))))));cases b with
 |true=>
  simp only[if_true];exact aA (aA (aA h))
 |false=>
  simp only[Bool.false_eq_true,if_false];exact aA (aA (aA h))
def Cx.held(X:Cx)(ea:AD):Cx:={X with A:=X.A.mark (some (.ref ea)),calm:=false,xe:=fun _ _=>False}
def Inv.held{X:Cx}{pins:List (AD×Obj)}{σ:St}{H:Hp}{s:SD}(I:Inv X pins σ H s)(ea:AD):Inv (X.held ea) pins σ H s :=
 ⟨⟨I.ok.mod,I.ok.kind,I.ok.glob,I.ok.blt,I.ok.above,I.ok.inj,I.ok.has,I.ok.XS,fun z=>(by cases z),I.ok.frames,I.ok.b6,I.ok.mW,I.ok.bs,I.ok.RC,I.ok.Rr,I.ok.SF,I.ok.Hf,I.ok.Qm⟩,I.os,I.bare,I.base,I.loc,I.cell,I.free,I.Fp,I.pin,I.Ap,I.len⟩
def Inv.jZ{X:Cx}{pins:List (AD×Obj)}{σ:St}{H:Hp}{s:SD}{ea:AD}(ok:X.Ok)(I:Inv (X.held ea) pins σ H s):Inv X pins σ H s :=
 ⟨ok,I.os,I.bare,I.base,I.loc,I.cell,I.free,I.Fp,I.pin,I.Ap,I.len⟩
def qG{X:Cx}{pins:List (AD×Obj)}{σ:St}{H:Hp}{s:SD}{M:Model}{A:Around}{E:rV}{i:Nat}{n:Str}{pos:Pos}{Q:Unit->SD->Prop}(I:Inv X pins σ H s)(hN:X.N.Nodup)(hi:X.N[i]? = some n)
 (hl:X.env.scope.names.lookup n=some .local)(h:∀s',Inv X pins (σ.set i none) H s'->Q () s'):wpAny M A (do bindName X.env n .none;unbindBehindTheSuite X.env n pos) Q E s:=by
 obtain⟨m,hn,hlk⟩:=id I.loc;have U:(X.env.scope.kind==.class||(X.env.scope.kind==.module&&X.env.locals != X.env.globals))=false:=by rw[I.ok.kind];rfl
 refine wpAny_nameGoes_keeps hl hn U fun h' v Z g=>h _ ?_;have hiS:i<σ.length:=by rw[I.len];exact(aG.mp hi).1
 obtain⟨oL,_,_,hoL,_⟩:=id hn;have tr:Ei X.prog X.w H h':=fun b ob e=>(I.Ap b ob e).Hx (fun c w' O q=>(g.2 c (by
  rintro rfl;rcases O with O|O
  .rw[<-O,I.free]at e;cases e
  .rw[I.free]at O;cases O)).trans q) (fun _ q=>q) fun _ _ q=>q
 refine⟨I.ok,I.os,I.bare,⟨fun b o e n hb T=>?_,fun b o e n hb T=>?_,I.base.free,fun b o e T=>?_,I.base.A0,I.base.Fw,I.base.GP⟩,⟨_,Z,fun j y v' R Y e3=>?_⟩,fun y c e=>?_,I.free,I.Fp,fun p hp=>?_,tr,by simpa using I.len⟩
 .exact(g.2 b (aK (aL (aF e) I.ok.above))).trans (I.base.keep b o e n hb T)
 .obtain⟨sl,R⟩:=I.base.slot b o e n hb T;exact⟨sl,(g.2 b (aK (aL (aF e) I.ok.above))).trans R⟩
 .obtain⟨o',R⟩:=I.base.there b o e T;exact⟨o',(g.2 b (aK (aL (aF e) I.ok.above))).trans R⟩
 .by_cases hj:j=i
  .subst hj;rw[List.getElem?_set_self hiS]at Y;cases Y
  .rw[List.getElem?_set_ne (Ne.symm hj)]at Y;obtain⟨u',r',q⟩:=hlk j y v' R Y e3;refine⟨u',r',?_⟩;rcases q with ⟨k,e⟩|⟨k,c,e,z⟩
   .refine .inl ⟨k,?_⟩;have:y≠n:=fun e=>hj (Pk hN R (e ▸ hi));simp[this,e]
   .exact .inr ⟨k,c,e,z.sameBut g (I.Qg y c e)⟩
 .obtain⟨w',z⟩:=I.cell y c e;exact⟨w',z.sameBut g (I.Qg y c e)⟩
 .obtain⟨e,n',ne,nf,d⟩:=I.pin p hp;exact⟨(g.2 p.1 ne).trans e,n',ne,nf,d⟩
open PySem PySem.Spec PyProof.Rows PySem.Builtin.ObjectAttr PySem.Builtin.Getset_descriptor
structure F3(K:Fg)(C:Addr):Prop where
 cl:(PySem.W.clsIn K C).isSome=true
 ga:PySem.W.findIn K (.ref C) "__getattribute__" = some (some (.builtin "BaseException.__getattribute__"))
 gh:PySem.W.findIn K (.ref C) "__getattr__" = some none
 at_:PySem.W.findIn K (.ref C) "__class__" = some (some (.builtin "object.__class__"))
 gt:PySem.W.specialIn K (.builtin "object.__class__") "__get__" = some (some (.builtin "getset_descriptor.__get__"))
 tk:PySem.W.takesIn K (.builtin "object.__class__")=some true
 ob:PySem.W.mroIn K C (.type "object")=some true
 be:PySem.W.mroIn K C (.type "BaseException")=some true
def excAt(x C:AD)(h:Heap):Prop:=∃o vs,h.get? x=some o/\o.cls=.ref C/\o.data=.fields vs
def excAt.ty{x C:AD}{h:Heap}(p:excAt x C h)(M:Model):PySem.W.Looks M h (typeOf (.ref x)) (.ref C):=by
 obtain⟨o,_,e,c,_⟩:=p;exact c ▸ (PySem.W.Looks.ld e).andThen .now
def cD{K:Fg}{C:AD}{h:Heap}(X:K.In h)(z:(PySem.W.clsIn K C).isSome=true)(M:Model):PySem.W.Looks M h (isType (.ref C)) true:=by
 unfold PySem.W.clsIn at z;split at z
 .rename_i T R O g I;intro Z U Y s' k q;exact Wb (wpAny_loadPart (k _ _ (X _ _ I)) (aA q))
 .cases z
section
variable{prog:Program}{w:World}{A:Around}{E:rV}{K:Fg}{x C:AD}{h:Heap}{g:Array GenState}{d:Drawn}{t:Nat}{os:OsState}
def dc(X:K.In h)(F:F3 K C)(M:Model):PySem.W.Looks M h (find (.ref x) (.ref C) "__class__") (.bind (.builtin "getset_descriptor.__get__") (.builtin "object.__class__")):=by
 have a1:=PySem.W.looks_findIn (M:=M) X F.at_;have a2:PySem.W.Looks M h (getOf (some (.builtin "object.__class__"))) (some (.builtin "getset_descriptor.__get__")):=PySem.W.looks_specialIn X F.gt;have a3:=PySem.W.looks_takesIn (M:=M) X F.tk;exact a1.andThen (a2.andThen ((show PySem.W.Looks M h (dataDescriptor? (some (.builtin "object.__class__")) (some (.builtin "getset_descriptor.__get__"))) (some (.builtin "getset_descriptor.__get__",.builtin "object.__class__")) from a3.andThen .now).andThen (PySem.W.Looks.tag .now)))
def gI{I:VL}{R:Result->SD->Prop}(X:K.In h)(F:F3 K C)(p:excAt x C h)(O:R (.ok (.ret (.ref C))) ⟨h,g,d,t,os⟩):codeAny (model prog w) A (.call (.builtin "getset_descriptor.__get__") ⟨[.builtin "object.__class__",.ref x,I],[]⟩) R ⟨h,g,d,t,os⟩:=by
 have b0:=p.ty (model prog w);have b1:=PySem.W.looks_mroIn (M:=model prog w) X F.ob;refine codeAny_call_builtin PySem.W.KF.slot_gs.plain PySem.W.KF.entry_gs ?_;refine PySem.W.KF.slot_gs.check _ _ _ _ _ _ _ _ PySem.W.KF.type_class (PySem.W.KF.args_gs _ _ _) ?_;unfold Builtin.«getset_descriptor.__get__» descrGet;rw[PySem.W.dga_obj];refine Wb (aA ?_);unfold descrGetter descrCheckInstance descrNameAndClass isInstance;simp only[PySem.W.KF.owner_class]
 repeat lk
 refine⟨Code.quiet_builtin _ (by decide +kernel),codeAny_builtin PySem.W.KF.entry_class ?_⟩;unfold Builtin.«object.__class__» shownTypeOf
 repeat lk
 exact O
def Y2{tk:Tok}{Q:Fin->SD->Prop}(X:K.In h)(F:F3 K C)(p:excAt x C h)(I:Q (.done (.ret (.ref C))) ⟨h,g,d,t,os⟩):wpAny (model prog w) A (Builtin.«object.__getattribute__» ⟨[.ref x,.str "__class__" tk],[]⟩) Q E ⟨h,g,d,t,os⟩:=by
 have b0:=p.ty (model prog w);have b1:=dc (x:=x) X F (model prog w);unfold Builtin.«object.__getattribute__»
 repeat lk
 refine wpAny_run (gI X F p ?_);exact aA (aA I)
def Zi{I:VL}{Q:Unit->SD->Prop}(X:K.In h)(F:F3 K C)(p:excAt x C h)(O:Q () ⟨h,g,d,t,os⟩):wpAny (model prog w) A (checkBuiltinCall "BaseException.__getattribute__" ⟨[.ref x,I],[]⟩) Q E ⟨h,g,d,t,os⟩:=by
 have T:builtinKind "BaseException.__getattribute__" = some .slot:=by decide +kernel
 have R:splitId "BaseException.__getattribute__" = some ("BaseException","__getattribute__"):=by decide +kernel
 have U:=PySem.F.args_bexc_ga (.ref x) I;have b0:=p.ty (model prog w);have b1:=PySem.W.looks_mroIn (M:=model prog w) X F.be;simp only[checkBuiltinCall,T,R];refine Wb ?_;unfold isInstance
 repeat lk
 exact O
def Ys{Q:Option VL->SD->Prop}(X:K.In h)(F:F3 K C)(p:excAt x C h)(I:Q (some (.ref C)) ⟨h,g,d,t+1,os⟩):wpAny (model prog w) A (getAttr? (.ref x) "__class__") Q E ⟨h,g,d,t,os⟩:=by
 have b0:=p.ty (model prog w);have b1:=PySem.W.looks_findIn (M:=model prog w) X F.ga;have b2:=PySem.W.looks_findIn (M:=model prog w) X F.gh;unfold getAttr? getAttrBy? getAttrBy;refine Wb (wpAny_mkText (Wb (wpAny_attempt (aV (Wb (b0.at (Wb (b1.at ?_))))))));have R:(Value.builtin "BaseException.__getattribute__" == Value.builtin "object.__getattribute__")=false:=by decide +kernel
 have T:¬((onTheHeap (Value.ref C)&&Value.builtin "BaseException.__getattribute__" == Value.builtin "object.__getattribute__")=true):=by rw[R,Bool.and_false];exact aI
 show wpAny _ _ (if(onTheHeap (Value.ref C)&&Value.builtin "BaseException.__getattribute__" == Value.builtin "object.__getattribute__")=true then _ else _) _ _ _;rw[if_neg T];unfold getAttrByItsOwn;refine Wb (show wpAny _ _ (typeLookup (Value.ref C) "__getattr__") _ _ _ from b2.at ?_);refine Wb (wpAny_attempt (aV ?_));show wpAny _ _ (boundAndCalled _ _ _) _ _ _;unfold boundAndCalled;have O:=(PySem.F.excAttr_ValueError).ga.bind (.ref x);refine Wb (wpAny_of_eq O ?_);refine wpAny_call (codeAny_call_builtin (PySem.F.excAttr_ValueError).ga.plain PySem.F.entry_bexc_ga (Zi X F p (Y2 X F p ?_)));exact aA (aA I)
end
def dU{K:Fg}{x C:AD}(F:F3 K C):PySem.W.KitX K (.ref x) (.ref C) (excAt x C) where
 ty:=fun M h _ p=>p.ty M
 it:=fun M h X _=>cD X F.cl M
 ne:=fun h tp dd its n sl X htp=>by
  have z:=F.cl;refine bO.mpr fun q=>?_;have e:C=tp:=Value.ref.inj (beq_iff_eq.mp q);subst e;unfold PySem.W.clsIn at z;split at z
  .rename_i c' d' cd' sl' ho;have y:=(X _ _ ho).symm.trans htp;cases y
  .cases z
 ca:=fun {prog w A E Q s} X p k=>by
  obtain⟨h,g,d,t,os⟩:=s;exact Ys X F p k
def HC:V->VL
 |.ref C=>.ref C
 |.ty n=>.type n
 |_=>.none
def W9{c:V}{u:VL}(r:RelV c u)(h:HC c≠.none):u=HC c:=by
 cases c with
 |ref C=>exact r
 |ty n=>exact r
 |_=>exact absurd rfl h
section
variable{X:Cx}
def qQ(K:Fg):List V->Hp->VK->Prop:=fun xs H Q=>∃x c t b,xs=[x,c]/\HC c≠.none/\HM K H x t/\PySem.W.kitOne K t (HC c)=some b/\Q (.bl b) H
def cf:D4 X (.builtin "isinstance") (qQ X.K):=by
 intro pins s σ H xs us Q I r h;obtain⟨x,c,t,b,rfl,R,ty,e,q⟩:=h;obtain⟨u,v,rfl,O,g⟩:=r.two;rw[W9 g R];exact Yl I O ty e fun tk=>⟨.bl b,H,I.tok tk,rfl,q⟩
def nJ(K:Fg):List V->Hp->VK->Prop:=fun xs H Q=>∃ea C c b,xs=[.ref ea,c]/\HC c≠.none/\H ea=some (MQ ea (.ref C))/\F3 K C/\PySem.W.kitOne K (.ref C) (HC c)=some b/\Q (.bl b) H
def Yt:D4 X (.builtin "isinstance") (nJ X.K):=by
 intro pins s σ H xs us Q I r h;obtain⟨ea,C,c,b,rfl,T,R,F,e,q⟩:=h;obtain⟨u,v,rfl,O,g⟩:=r.two;rw[W9 g T];cases (show u=Value.ref ea from O);obtain⟨p,_,_⟩:=(show CK X.prog X.w H s.heap ea (MQ ea (.ref C)) from I.Ap ea _ R);exact ar (dU F) I.GO p e (fun z=>nomatch z) fun tk=>⟨.bl b,H,I.tok tk,rfl,q⟩
end
def jw(K:Fg):PySem.W.kitOne K (.type "tuple") (.type "tuple")=some true:=rfl
def mS(K:Fg):PySem.W.kitOne K (.type "int") (.type "int")=some true:=rfl
def jl(K:Fg):PySem.W.kitOne K (.type "bool") (.type "bool")=some true:=rfl
def kI(K:Fg):PySem.W.kitOne K (.type "int") (.type "bool")=some false:=by kernel_rfl
def lB(K:Fg):PySem.W.kitOne K (.type "bool") (.type "int")=some true:=by kernel_rfl
def lz(K:Fg):PySem.W.kitOne K (.type "list") (.type "tuple")=some false:=by kernel_rfl
def jV(K:Fg):PySem.W.kitOne K (.type "tuple") (.type "list")=some false:=by kernel_rfl
def mf(K:Fg):PySem.W.kitOne K (.type "list") (.type "list")=some true:=rfl
def mK(K:Fg):PySem.W.kitOne K (.type "int") (.type "tuple")=some false:=by kernel_rfl
def lR(K:Fg):PySem.W.kitOne K (.type "bool") (.type "tuple")=some false:=by kernel_rfl
def kA(K:Fg):PySem.W.kitOne K (.type "NoneType") (.type "tuple")=some false:=by kernel_rfl
def lL(K:Fg):PySem.W.kitOne K (.type "str") (.type "tuple")=some false:=by kernel_rfl
def mR(K:Fg):PySem.W.kitOne K (.type "tuple") (.type "int")=some false:=by kernel_rfl
def kn(K:Fg):PySem.W.kitOne K (.type "list") (.type "int")=some false:=by kernel_rfl
def lM(K:Fg):PySem.W.kitOne K (.type "NoneType") (.type "int")=some false:=by kernel_rfl
def kR(K:Fg):PySem.W.kitOne K (.type "str") (.type "int")=some false:=by kernel_rfl
def mV(K:Fg):PySem.W.kitOne K (.type "int") (.type "list")=some false:=by kernel_rfl
def mz(K:Fg):PySem.W.kitOne K (.type "bool") (.type "list")=some false:=by kernel_rfl
def kG(K:Fg):PySem.W.kitOne K (.type "NoneType") (.type "list")=some false:=by kernel_rfl
def jH(K:Fg):PySem.W.kitOne K (.type "str") (.type "list")=some false:=by kernel_rfl
def freeOk(g:Scope)(names:List (Str×NameKind)):Bool:=names.all fun y=>y.2 != .free||g.names.lookup y.1==some .cell||g.names.lookup y.1==some .free
def NW{g:Scope}{names:List (Str×NameKind)}(h:freeOk g names=true):∀y∈names,y.2=.free->g.names.lookup y.1=some .cell\/g.names.lookup y.1=some .free:=fun y I O=>by
 have q:=List.all_eq_true.mp h y I;rw[O]at q;simp only[bne_self_eq_false,Bool.false_or,Bool.or_eq_true,beq_iff_eq]at q;exact q
def D8(scope:Scope)(N:rf)(x:Str)(ix:Nat):Bool :=
 scope.kind==.function&&(scope.names.all fun y=>y.2 != .cell&&(y.2 != .local||scope.names.lookup y.1==some .local)&&(y.2 != .free||scope.names.lookup y.1==some .free))&&scope.names.lookup x==some .local&&decide N.Nodup&&N[ix]? == some x
def HR{scope:Scope}{N:rf}{x:Str}{ix:Nat}(h:D8 scope N x ix=true):Ed scope N x ix:=by
 unfold D8 at h;simp only[Bool.and_eq_true,beq_iff_eq,decide_eq_true_eq,List.all_eq_true,bne_iff_ne,Bool.or_eq_true]at h;obtain⟨⟨⟨⟨Y,O⟩,U⟩,T⟩,R⟩:=h;exact⟨Y,fun y g=>(O y g).1.1,fun y g I=>(O y g).1.2.resolve_left fun z=>z I,fun y g I=>(O y g).2.resolve_left fun z=>z I,U,T,R⟩
section
variable{X:Cx}{elt iter:Expr}{x:Str}{px pos:Pos}{ifs:rg}{scope:Scope}{wi:TI}{tif:TT}{te:TE}
def Hv(N:rf)(ix:Nat)(fr:sF)(hi:PI X (.Name x px) iter wi)(g:∀cl C s₀ H₀ fp,Mp (A6 X scope cl N C s₀ H₀ fp) ifs tif)(O:∀cl C s₀ H₀ fp,PE (A6 X scope cl N C s₀ H₀ fp) elt te) (Z:D8 scope N x ix=true:=by decide +kernel)(Y:X.calm=true:=by rfl)(U:GU N X.N scope X.env.scope fr 0=true:=by rfl)(T:fr.length=N.length:=by rfl)(R:freeOk X.env.scope scope.names=true:=by rfl) (I:∀x,foldedSetIterable iter X.env x=pure x:=by intro _;rfl):PE X (.ListComp elt [⟨.Name x px,iter,ifs,0⟩] scope pos) (N6 wi fr ix tif te) :=
 iQ (HR Z) Y U T (NW R) hi g O I
def O0{i:Nat}{y:Str}{T g:Pos}(N:rf)(ix:Nat)(fr:sF)(hN:X.N.Nodup)(U:X.N[i]? = some y)(O:X.env.scope.names.lookup y=some .local) (hi:PI X (.Name x px) iter wi)(R:∀cl C s₀ H₀ fp,Mp (A6 X scope cl N C s₀ H₀ fp) ifs tif)(Z:∀cl C s₀ H₀ fp,PE (A6 X scope cl N C s₀ H₀ fp) elt te) (h1:D8 scope N x ix=true:=by decide +kernel)(h2:X.calm=true:=by rfl)(h3:GU N X.N scope X.env.scope fr 0=true:=by rfl)(h4:fr.length=N.length:=by rfl)(h5:freeOk X.env.scope scope.names=true:=by rfl) (I:swapsWith (.ListComp elt [⟨.Name x px,iter,ifs,0⟩] scope pos) (some (.Name y T)) g.line X.env=pure true:=by rfl) (Y:∀x,foldedSetIterable iter X.env x=pure x:=by intro _;rfl):PS X (.Assign [.Name y T] (.ListComp elt [⟨.Name x px,iter,ifs,0⟩] scope pos) g) (X7 (N6 wi fr ix tif te) (GC i)) :=
 Yc hN U O (HR h1) h2 h3 h4 (NW h5) hi R Z I Y
end
section
variable{X:Cx}{k:Nat}{f:AD}{fd:FuncData}{ps:rf}{sp:Sp}{x:Str}{st:Stmt}{p pos:Pos}{e:Expr}{es:rg}{t:TA}{E:XK}
def Zv(T:Fn X.K X.mg x st ps f fd)(G:AI X.prog X.w X.K X.mg X.base (CD X.prog X.w) k f fd ps sp)(O:CG k X.A)(hg:Gl X x)(U:Passes (CD X.prog X.w) X E)(ha:PA X (e::es) t) (I:(x==("__debug__" : Str))=false:=by decide)(R:starEach (e::es) X.env=(false,eval e X.env)::starEach es X.env:=by rfl)(g:(backTo pos (starEach es X.env)).any (·.1)=false:=by rfl):PE X (.Call (.Name x p) (e::es) [] pos) (YL sp [] E t):=W2 G O hg T.m T.F.kp T.b .nil U ha I R g
end
end L2
inductive Tr where
 |nil
 |cons (b r:Tr)
 deriving DecidableEq
abbrev rz:=List Tr
namespace Tr
def bs:Tr->List Tr
 |.nil=>[]
 |.cons b r=>b::r.bs
def of:List Tr->Tr
 |[]=>.nil
 |b::r=>.cons b (of r)
def T9:∀t:Tr,of t.bs=t
 |.nil=>rfl
 |.cons b r=>by rw[bs,of,T9 r]
def N8:∀l:List Tr,(of l).bs=l
 |[]=>rfl
 |b::r=>by rw[of,bs,N8 r]
def jz{t u:Tr}(h:t.bs=u.bs):t=u:=by rw[<-T9 t,h,T9]
def len:Tr->Nat
 |.nil=>0
 |.cons _ r=>r.len+1
def He:∀t:Tr,t.bs.length=t.len
 |.nil=>rfl
 |.cons _ r=>by rw[bs,List.length_cons,He r,len]
def Ae:Tr->Nat
 |.nil=>1
 |.cons b r=>b.Ae+r.Ae
def deep:Tr->Nat
 |.nil=>0
 |.cons b r=>max (b.deep+1) r.deep
def lt:Tr->Tr->Bool
 |.nil,.nil=>false
 |.nil,.cons _ _=>true
 |.cons _ _,.nil=>false
 |.cons b r,.cons c q=>if b=c then lt r q else lt b c
def lt_irrefl:∀t:Tr,lt t t=false
 |.nil=>rfl
 |.cons b r=>by rw[lt,if_pos rfl];exact lt_irrefl r
def lt_trans:∀a b c:Tr,lt a b=true->lt b c=true->lt a c=true
 |.nil,.nil,_,h,_=>by cases h
 |.nil,.cons _ _,.nil,_,h=>by cases h
 |.nil,.cons _ _,.cons _ _,_,_=>rfl
 |.cons _ _,.nil,_,h,_=>by cases h
 |.cons _ _,.cons _ _,.nil,_,h=>by cases h
 |.cons a r,.cons b s,.cons c t,I,g=>by
  rw[lt]at I g ⊢;by_cases T:a=b
  .subst T;rw[if_pos rfl]at I;by_cases O:a=c
   .subst O;rw[if_pos rfl]at g ⊢;exact lt_trans r s t I g
   .rw[if_neg O]at g ⊢;exact g
  .rw[if_neg T]at I;by_cases O:b=c
   .subst O;rw[if_neg T];exact I
   .rw[if_neg O]at g;have R:=lt_trans a b c I g;by_cases U:a=c
    .subst U;rw[lt_irrefl]at R;cases R
    .rw[if_neg U];exact R
def Ju:∀a b:Tr,lt a b=false->lt b a=false->a=b
 |.nil,.nil,_,_=>rfl
 |.nil,.cons _ _,h,_=>by cases h
 |.cons _ _,.nil,_,h=>by cases h
 |.cons a r,.cons b s,I,g=>by
  rw[lt]at I g;by_cases e:a=b
  .subst e;rw[if_pos rfl]at I g;rw[Ju r s I g]
  .rw[if_neg e]at I;rw[if_neg (Ne.symm e)]at g;exact absurd (Ju a b I g) e
def PF(a b c:Tr)(h:lt a c=true):lt a b=true\/lt b c=true:=by
 cases I:lt a b with
 |true=>exact .inl rfl
 |false=>
  right
  cases g:lt b a with
  |true=>exact lt_trans b a c g h
  |false=>rw[<-Ju a b I g];exact h
def lt_asymm{a b:Tr}(h:lt a b=true):lt b a=false:=by
 cases g:lt b a with
 |false=>rfl
 |true=>have:=lt_trans a b a h g;rw[lt_irrefl]at this;cases this
def cV:Tr->Bool
 |.nil=>true
 |.cons b r=>b.cV&&r.cV&&(match r with
  |.nil=>true
  |.cons c _=>!lt b c)
def ins(x:Tr):List Tr->List Tr
 |[]=>[x]
 |y::r=>if lt x y=true then y::ins x r else x::y::r
def CQ:List Tr->List Tr
 |[]=>[]
 |x::r=>ins x (CQ r)
end Tr
namespace TH
open PySem PyProof.Rows PySem.SeqAt
def Vs(h:Heap):Tr->List VL->Prop
 |.nil,us=>us=[]
 |.cons b r,us=>∃(a:AD) (g rest:List VL),us=.ref a::rest/\h.IsTuple a g.toArray/\Vs h b g/\Vs h r rest
def Vs.length{h:Heap}:∀ {t:Tr} {us:List VL},Vs h t us->us.length=t.len
 |.nil,us,e=>by rw[Vs]at e;rw[e];rfl
 |.cons b r,us,e=>by
  rw[Vs]at e;obtain⟨a,g,rest,rfl,_,_,q⟩:=e;rw[List.length_cons,Tr.len,Vs.length q]
def JH{h:Heap}{a:AD}{x y:Array VL}(R:h.IsTuple a x)(O:h.IsTuple a y):x=y:=by
 obtain⟨o,e,_,n,d⟩:=R;obtain⟨o',g,_,T,I⟩:=O;rw[e]at g;cases g;rw[d]at I;cases I;rfl
def Vs.inj{h:Heap}:∀ {t u:Tr} {us:List VL},Vs h t us->Vs h u us->t=u
 |.nil,.nil,_,_,_=>rfl
 |.nil,.cons _ _,us,e,f=>by
  rw[Vs]at e;rw[Vs]at f;obtain⟨_,_,_,f,_⟩:=f;rw[e]at f;cases f
 |.cons _ _,.nil,us,e,f=>by
  rw[Vs]at e;rw[Vs]at f;obtain⟨_,_,_,e,_⟩:=e;rw[f]at e;cases e
 |.cons b r,.cons c q,us,e,f=>by
  rw[Vs]at e f;obtain⟨a,O,rest,rfl,h1,Z,Y⟩:=e;obtain⟨a',g,I,e',U,T,R⟩:=f;cases e';have:=JH h1 U;have e2:O=g:=by simpa using this
  subst e2;rw[Vs.inj Z T,Vs.inj Y R]
def YG{s:SD}:∀(t u:Tr) (A:Around) (us vs:List VL),Vs s.heap t us->Vs s.heap u vs->A.units+t.deep<=cLine ->
  ∀j (U:j<us.length) (T:j<vs.length),EqAt A s us[j] vs[j] (decide (t.bs[j]? = u.bs[j]?))
 |.nil,u,A,us,vs,e,f,_,j,U,T=>by
  rw[Vs]at e;subst e;exact absurd U (ak _)
 |.cons b r,.nil,A,us,vs,e,f,_,j,U,T=>by
  rw[Vs]at f;subst f;exact absurd T (ak _)
 |.cons b r,.cons c q,A,us,vs,e,f,hu,j,U,T=>by
  rw[Vs]at e f;obtain⟨a,I,rest,rfl,k1,Z,k3⟩:=e;obtain⟨a',g,O,rfl,l1,Y,l3⟩:=f;have hd:(Tr.cons b r).deep=max (b.deep+1) r.deep:=rfl;cases j with
  |zero=>
   show EqAt A s (.ref a) (.ref a') (decide (some b=some c));by_cases ea:a=a'
   .subst ea;have:=JH k1 l1;have e2:I=g:=by simpa using this
    subst e2;rw[Vs.inj Z Y,decide_eq_true rfl];exact EqAt.same _
   .refine EqAt.of_refs ea ?_;have key:=RcAt.tuples (s:=s) (A:=A) (e:=fun j=>decide (b.bs[j]? = c.bs[j]?)) k1 l1 (by lia) fun j x1 x2=>by
     have:=YG b c A.in1 I g Z Y (by rw[show A.in1.units=A.units+1 from rfl];lia) j (by simpa using x1) (by simpa using x2)
     simpa using this
    have ev:((List.range (min I.toArray.size g.toArray.size)).all (fun j=>decide (b.bs[j]? = c.bs[j]?))&&I.toArray.size==g.toArray.size)=decide (some b=some c):=by
     have z1:I.toArray.size=b.bs.length:=by rw[Tr.He,<-Vs.length Z];simp
     have z2:g.toArray.size=c.bs.length:=by rw[Tr.He,<-Vs.length Y];simp
     rw[z1,z2];by_cases R:b=c
     .subst R;simp
     .rw[decide_eq_false (fun z=>R (af z))];cases hl:b.bs.length==c.bs.length with
      |false=>rw[Bool.and_false]
      |true=>
       rw[Bool.and_true];have hl':b.bs.length=c.bs.length:=by simpa using hl
       refine bO.mpr fun z=>R (Tr.jz (List.ext_getElem? fun i=>?_));by_cases hi:i<b.bs.length
       .have:=List.all_eq_true.mp z i (bQ.mpr (by lia))
        simpa using this
       .rw[List.getElem?_eq_none (by lia),List.getElem?_eq_none (by lia)]
    rw[ev]at key;exact key
  |succ j=>
   exact YG r q A rest O k3 l3 (by lia) j (by simpa using U) (by simpa using T)
def R5{s:SD}{t u:Tr}{A:Around}{a b:AD}{g its':rT}(O:s.heap.IsTuple a g.toArray)(k1:Vs s.heap t g)(I:s.heap.IsTuple b its'.toArray)(k2:Vs s.heap u its')(R:A.units+t.deep<cLine):EqAt A s (.ref a) (.ref b) (decide (t=u)):=by
 have:=YG (.cons t .nil) (.cons u .nil) A [.ref a] [.ref b] ⟨a,g,[],rfl,O,k1,by rw[Vs]⟩ ⟨b,its',[],rfl,I,k2,by rw[Vs]⟩ (by show A.units+max (t.deep+1) 0<=cLine;lia) 0 (by simp) (by simp)
 simpa[Tr.bs]using this
section
open PySem.AutoSeq1 (wpAny_loadPart')
open PySem.MeetsSeq PySem.MeetsSeq2 PySem.MeetsSeq3
def Vc(n0:Nat)(ih:∀(t u:Tr) (A:Around) (s:SD) (a b:AD) (its its':rT),t.deep<n0->s.heap.IsTuple a its.toArray->Vs s.heap t its->s.heap.IsTuple b its'.toArray->Vs s.heap u its'->A.units+t.deep<cLine ->∀(prog:Program) (w:World) (E:rV) (Q:rV),Q (.bool (Tr.lt t u)) s->wpAny (model prog w) A (richCompare .Lt (.ref a) (.ref b)) Q E s) (l b:AD)(items I:Array VL)(n n2:Nat)(dd dd2:Option AD)(sl sl2:Array (Option VL))(t u:Tr)(ht:t.deep<=n0):Meets (Builtin.«tuple.__lt__» ⟨[.ref l,.ref b],[]⟩) (fun A R s=>s.heap.get? l=some { cls:=.type "tuple",dict:=dd,data:=.seq items n,slots:=sl}/\s.heap.get? b=some { cls:=.type "tuple",dict:=dd2,data:=.seq I n2,slots:=sl2} /\Vs s.heap t items.toList/\Vs s.heap u I.toList/\A.units+t.deep<cLine/\R (.ok (.ret (.bool (Tr.lt t u)))) s) :=
 .of_wp fun prog w A R s h=>by
  obtain⟨hp,g,d,tk,os⟩:=s;obtain⟨hl,hb,hi,hj,hun,h⟩:=h;have f2:=AutoSeq1.sub_tuple_tuple;have z1:items.size=t.len:=by rw[<-Vs.length hi];simp
  have z2:I.size=u.len:=by rw[<-Vs.length hj];simp
  wp_walk using wpAny_loadPart' hl,wpAny_loadPart' hb,wpAny_forIn_list _ (fun rest b s'=>b.1=none/\s'=⟨hp,g,d,tk,os⟩/\∃(vs ws:List VL) (Z Y:Tr),rest=vs.zip ws /\
   Vs hp Z vs/\Vs hp Y ws/\Z.deep<=t.deep/\Z.len+I.size=Y.len+items.size/\R (.ok (.ret (.bool (Tr.lt Z Y)))) ⟨hp,g,d,tk,os⟩) _
  case turn=>
   rintro⟨y,x⟩ rest b s' ⟨hb',rfl,vs,ws,Z,Y,hz,U,T,hdp,O,hR⟩;cases Z with
   |nil=>rw[Vs]at U;subst U;rw[List.zip_nil_left]at hz;cases hz
   |cons bt rt=>
    cases Y with
    |nil=>rw[Vs]at T;subst T;rw[List.zip_nil_right]at hz;cases hz
    |cons bu ru=>
     rw[Vs]at U T;obtain⟨a1,i1,v1,rfl,p1,p2,p3⟩:=U;obtain⟨a2,i2,v2,rfl,q1,q2,q3⟩:=T;rw[List.zip_cons_cons]at hz
     injection hz with hyx hrest
     injection hyx with hy hx
     subst hy hx;have hdd:(Tr.cons bt rt).deep=max (bt.deep+1) rt.deep:=rfl;rw[Tr.lt]at hR;simp only[Tr.len]at O;have he:=R5 (s:=⟨hp,g,d,tk,os⟩) (A:=A.in1) p1 p2 q1 q2 (by rw[show A.in1.units=A.units+1 from rfl];lia);refine Wb (he prog w _ _ ?_);cases hc:decide (bt=bu) with
     |true=>
      rw[if_pos (aw hc)]at hR
      wp_walk
      exact⟨rfl,rfl,_,_,_,_,hrest,p3,q3,by lia,by lia,hR⟩
     |false=>
      rw[if_neg (bL hc)]at hR;have hri:=ih bt bu A.in1 ⟨hp,g,d,tk,os⟩ a1 a2 i1 i2 (by lia) p1 p2 q1 q2 (by rw[show A.in1.units=A.units+1 from rfl];lia) prog w
      wp_walk using hri
      exact⟨_,rfl,by simpa using hR⟩
  case fin=>
   rintro⟨b1,b2⟩ s' ⟨hb',rfl,vs,ws,Z,Y,hz,U,T,hdp,O,hR⟩;simp only at hb';subst hb';have hv:Tr.lt Z Y=decide (items.size<I.size):=by
    cases Z with
    |nil=>
     cases Y with
     |nil=>
      simp only[Tr.len]at O;exact(bF (by lia)).symm
     |cons c q=>
      simp only[Tr.len]at O;exact(decide_eq_true (by lia)).symm
    |cons bt rt=>
     cases Y with
     |nil=>
      simp only[Tr.len]at O;exact(bF (by lia)).symm
     |cons c q=>
      rw[Vs]at U T;obtain⟨_,_,_,rfl,_⟩:=U;obtain⟨_,_,_,rfl,_⟩:=T;rw[List.zip_cons_cons]at hz;cases hz
   rw[hv]at hR
   wp_walk
   exact⟨_,rfl,by simpa[Builtin.Tuple.tupleCompareSizes]using hR⟩
  case h=>
   exact⟨rfl,rfl,items.toList,I.toList,t,u,rfl,hi,hj,Nat.le_refl _,by lia,h⟩
def Xd:∀(U:Nat) (t u:Tr) (A:Around) (s:SD) (a b:AD) (g its':List VL),t.deep<U->s.heap.IsTuple a g.toArray->Vs s.heap t g->s.heap.IsTuple b its'.toArray->Vs s.heap u its'->A.units+t.deep<cLine ->
   ∀(prog:Program) (w:World) (E:VL->SD->Prop) (Q:VL->SD->Prop),Q (.bool (Tr.lt t u)) s->wpAny (model prog w) A (richCompare .Lt (.ref a) (.ref b)) Q E s
 |0,_,_,_,_,_,_,_,_,h,_,_,_,_,_=>absurd h (ak _)
 |U+1,t,u,A,s,a,b,g,its',hd,hl,ht,hb,hu',Z=>fun prog w E Q h=>by
  obtain⟨⟨cls,dd,data,sl⟩,ho,hc,n,R⟩:=id hl;obtain⟨⟨cls2,dd2,data2,Y⟩,O,T,n2,I⟩:=id hb;simp only at hc R T I;subst hc R T I;exact richCompare_meets_room (op:=.Lt) ⟨_,ho,rfl⟩ ⟨_,O,rfl⟩ PySem.F.slot_tuple_lt PySem.F.entry_tuple_lt (PySem.F.args_tuple_lt_2 _ _) (Vc U (Xd U) a b g.toArray its'.toArray n n2 dd dd2 sl Y t u (by lia))
   ⟨ho,O,by simpa using ht,by simpa using hu',Z,show Value.bool (Tr.lt t u)≠Value.notImplemented/\Q (.bool (Tr.lt t u)) s from⟨(fun x=>nomatch x),h⟩⟩ (by lia)
end
section
open PySem.AutoSeq1 (wpAny_loadPart')
open PySem.MeetsSeq PySem.MeetsSeq2 PySem.MeetsSeq3
def dh(n0:Nat)(ih:∀(t u:Tr) (A:Around) (s:SD) (a b:AD) (its its':rT),t.deep<n0->s.heap.IsTuple a its.toArray->Vs s.heap t its->s.heap.IsTuple b its'.toArray->Vs s.heap u its'->A.units+t.deep<cLine ->∀(prog:Program) (w:World) (E:rV) (Q:rV),Q (.bool (Tr.lt u t)) s->wpAny (model prog w) A (richCompare .Gt (.ref a) (.ref b)) Q E s) (l b:AD)(items I:Array VL)(n n2:Nat)(dd dd2:Option AD)(sl sl2:Array (Option VL))(t u:Tr)(ht:t.deep<=n0):Meets (Builtin.«tuple.__gt__» ⟨[.ref l,.ref b],[]⟩) (fun A R s=>s.heap.get? l=some { cls:=.type "tuple",dict:=dd,data:=.seq items n,slots:=sl}/\s.heap.get? b=some { cls:=.type "tuple",dict:=dd2,data:=.seq I n2,slots:=sl2} /\Vs s.heap t items.toList/\Vs s.heap u I.toList/\A.units+t.deep<cLine/\R (.ok (.ret (.bool (Tr.lt u t)))) s) :=
 .of_wp fun prog w A R s h=>by
  obtain⟨hp,g,d,tk,os⟩:=s;obtain⟨hl,hb,hi,hj,hun,h⟩:=h;have f2:=AutoSeq1.sub_tuple_tuple;have z1:items.size=t.len:=by rw[<-Vs.length hi];simp
  have z2:I.size=u.len:=by rw[<-Vs.length hj];simp
  wp_walk using wpAny_loadPart' hl,wpAny_loadPart' hb,wpAny_forIn_list _ (fun rest b s'=>b.1=none/\s'=⟨hp,g,d,tk,os⟩/\∃(vs ws:List VL) (Z Y:Tr),rest=vs.zip ws /\
   Vs hp Z vs/\Vs hp Y ws/\Z.deep<=t.deep/\Z.len+I.size=Y.len+items.size/\R (.ok (.ret (.bool (Tr.lt Y Z)))) ⟨hp,g,d,tk,os⟩) _
  case turn=>
   rintro⟨y,x⟩ rest b s' ⟨hb',rfl,vs,ws,Z,Y,hz,U,T,hdp,O,hR⟩;cases Z with
   |nil=>rw[Vs]at U;subst U;rw[List.zip_nil_left]at hz;cases hz
   |cons bt rt=>
    cases Y with
    |nil=>rw[Vs]at T;subst T;rw[List.zip_nil_right]at hz;cases hz
    |cons bu ru=>
     rw[Vs]at U T;obtain⟨a1,i1,v1,rfl,p1,p2,p3⟩:=U;obtain⟨a2,i2,v2,rfl,q1,q2,q3⟩:=T;rw[List.zip_cons_cons]at hz
     injection hz with hyx hrest
     injection hyx with hy hx
     subst hy hx;have hdd:(Tr.cons bt rt).deep=max (bt.deep+1) rt.deep:=rfl;rw[Tr.lt]at hR;simp only[Tr.len]at O;have he:=R5 (s:=⟨hp,g,d,tk,os⟩) (A:=A.in1) p1 p2 q1 q2 (by rw[show A.in1.units=A.units+1 from rfl];lia);refine Wb (he prog w _ _ ?_);cases hc:decide (bt=bu) with
     |true=>
      rw[if_pos (aw hc).symm]at hR
      wp_walk
      exact⟨rfl,rfl,_,_,_,_,hrest,p3,q3,by lia,by lia,hR⟩
     |false=>
      rw[if_neg (fun z=>bL hc z.symm)]at hR;have hri:=ih bt bu A.in1 ⟨hp,g,d,tk,os⟩ a1 a2 i1 i2 (by lia) p1 p2 q1 q2 (by rw[show A.in1.units=A.units+1 from rfl];lia) prog w
      wp_walk using hri
      exact⟨_,rfl,by simpa using hR⟩
  case fin=>
   rintro⟨b1,b2⟩ s' ⟨hb',rfl,vs,ws,Z,Y,hz,U,T,hdp,O,hR⟩;simp only at hb';subst hb';have hv:Tr.lt Y Z=decide (I.size<items.size):=by
    cases Z with
    |nil=>
     cases Y with
     |nil=>
      simp only[Tr.len]at O;exact(bF (by lia)).symm
     |cons c q=>
      simp only[Tr.len]at O;exact(bF (by lia)).symm
    |cons bt rt=>
     cases Y with
     |nil=>
      simp only[Tr.len]at O;exact(decide_eq_true (by lia)).symm
     |cons c q=>
      rw[Vs]at U T;obtain⟨_,_,_,rfl,_⟩:=U;obtain⟨_,_,_,rfl,_⟩:=T;rw[List.zip_cons_cons]at hz;cases hz
   rw[hv]at hR
   wp_walk
   exact⟨_,rfl,by simpa[Builtin.Tuple.tupleCompareSizes]using hR⟩
  case h=>
   exact⟨rfl,rfl,items.toList,I.toList,t,u,rfl,hi,hj,Nat.le_refl _,by lia,h⟩
def fK:∀(U:Nat) (t u:Tr) (A:Around) (s:SD) (a b:AD) (g its':List VL),t.deep<U->s.heap.IsTuple a g.toArray->Vs s.heap t g->s.heap.IsTuple b its'.toArray->Vs s.heap u its'->A.units+t.deep<cLine ->
   ∀(prog:Program) (w:World) (E:VL->SD->Prop) (Q:VL->SD->Prop),Q (.bool (Tr.lt u t)) s->wpAny (model prog w) A (richCompare .Gt (.ref a) (.ref b)) Q E s
 |0,_,_,_,_,_,_,_,_,h,_,_,_,_,_=>absurd h (ak _)
 |U+1,t,u,A,s,a,b,g,its',hd,hl,ht,hb,hu',Z=>fun prog w E Q h=>by
  obtain⟨⟨cls,dd,data,sl⟩,ho,hc,n,R⟩:=id hl;obtain⟨⟨cls2,dd2,data2,Y⟩,O,T,n2,I⟩:=id hb;simp only at hc R T I;subst hc R T I;exact richCompare_meets_room (op:=.Gt) ⟨_,ho,rfl⟩ ⟨_,O,rfl⟩ PySem.F.slot_tuple_gt PySem.F.entry_tuple_gt (PySem.F.args_tuple_gt_2 _ _) (dh U (fK U) a b g.toArray its'.toArray n n2 dd dd2 sl Y t u (by lia))
   ⟨ho,O,by simpa using ht,by simpa using hu',Z,show Value.bool (Tr.lt u t)≠Value.notImplemented/\Q (.bool (Tr.lt u t)) s from⟨(fun x=>nomatch x),h⟩⟩ (by lia)
end
end TH
namespace SM
open PySem.W PyProof.Rows
def Wp{g:Type}(lt:Nat->Nat->Bool)(n:Nat):KasT g->(g->Prop)->Prop
 |.ret a,Q=>Q a
 |.ask i j k,Q=>i<n/\j<n/\Wp lt n (k (lt i j)) Q
def Wp.mono{g:Type}{lt:Nat->Nat->Bool}{n:Nat}{Q O:g->Prop}(I:∀a,Q a->O a):∀t:KasT g,Wp lt n t Q->Wp lt n t O
 |.ret a,h=>I a h
 |.ask i j k,h=>⟨h.1,h.2.1,Wp.mono I (k (lt i j)) h.2.2⟩
def Wp.bind{I g:Type}{lt:Nat->Nat->Bool}{n:Nat}{f:I->KasT g}{Q:g->Prop}:∀t:KasT I,Wp lt n t (fun a=>Wp lt n (f a) Q)->Wp lt n (t.bind f) Q
 |.ret _,h=>h
 |.ask i j k,h=>⟨h.1,h.2.1,Wp.bind (k (lt i j)) h.2.2⟩
def Jv{p:rZ}{i j:Nat}(g:j<=p.size)(k:Nat):(kas_rev p i j).getD k 0=if i<=k/\k<j then p.getD (i+j-1-k) 0 else p.getD k 0:=by
 have e:=getElem?_mirror_all (i:=i) g k;unfold kas_rev;rw[Array.getD_eq_getD_getElem?,Array.getD_eq_getD_getElem?,Array.getD_eq_getD_getElem?,e];split<;>rfl
def Vw{p:rZ}{src d:Nat}(g:src<p.size)(hd:d<=src)(k:Nat):(bubble p src d).getD k 0=if k=src-d then p.getD src 0 else if src-d<k/\k<=src then p.getD (k-1) 0 else p.getD k 0:=by
 have e:=getElem?_bubble g d hd k;simp only[Array.getD_eq_getD_getElem?,e];split
 .rfl
 .split<;>rfl
section
variable{O:KeyOrd}{key:Nat->O.α}{n:Nat}
def Key(key:Nat->O.α)(p:rZ)(i:Nat):O.α:=key (p.getD i 0)
def Up(key:Nat->O.α)(p:rZ)(m:Nat):Prop:=∀i j,i<=j->j<m->O.kle (Key key p i) (Key key p j)
def Dn(key:Nat->O.α)(p:rZ)(m:Nat):Prop:=∀i j,i<=j->j<m->O.kle (Key key p j) (Key key p i)
structure Pm(n:Nat)(p:Array Nat):Prop where
 perm:p.Perm (List.toArray (List.range n))
 pos:0<n
def Pm.size{p:rZ}(h:Pm n p):p.size=n:=by rw[h.perm.size_eq];simp
def Pm.lt{p:rZ}(h:Pm n p)(i:Nat):p.getD i 0<n:=by
 rw[Array.getD_eq_getD_getElem?];by_cases hi:i<p.size
 .rw[Array.getElem?_eq_getElem hi];have hm:p[i]∈p:=Array.getElem_mem hi;have:=(h.perm.mem_iff).mp hm
  simpa using this
 .rw[Array.getElem?_eq_none (by lia)];exact h.pos
def Pm.rev{p:rZ}(h:Pm n p)(i j:Nat):Pm n (kas_rev p i j):=⟨(mirror_perm _ _ _ _).trans h.perm,h.pos⟩
def Pm.bubble{p:rZ}(h:Pm n p)(i j:Nat):Pm n (bubble p i j):=⟨(bubble_perm _ _ _).trans h.perm,h.pos⟩
abbrev Gu(key:Nat->O.α):Nat->Nat->Bool:=fun i j=>O.blt (key i) (key j)
def Up.one{p:rZ}:Up key p 1:=fun i j I g=>by
 have:i=j:=by lia
 subst this;exact bM _
def Up.more{p:rZ}{m:Nat}(h:Up key p m)(T:1<=m)(hk:O.kle (Key key p (m-1)) (Key key p m)):Up key p (m+1):=fun i j g R=>by
 by_cases e:j=m
 .subst e;by_cases I:i=j
  .subst I;exact bM _
  .exact KeyOrd.kle_trans (h i (j-1) (by lia) (by lia)) hk
 .exact h i j g (by lia)
def Dn.more{p:rZ}{m:Nat}(h:Dn key p m)(T:1<=m)(hk:O.kle (Key key p m) (Key key p (m-1))):Dn key p (m+1):=fun i j g R=>by
 by_cases e:j=m
 .subst e;by_cases I:i=j
  .subst I;exact bM _
  .exact KeyOrd.kle_trans hk (h i (j-1) (by lia) (by lia))
 .exact h i j g (by lia)
def asc{p:Array Nat}(g:Pm n p):∀(f m:Nat),1<=m->Up key p m->Wp (Gu key) n (kas_asc p f m) fun r=>m<=r/\r<=m+f/\Up key p r/\(r=m+f\/O.klt (Key key p r) (Key key p (r-1)))
 |0,m,_,h=>⟨aH _,Nat.le_refl _,h,.inl rfl⟩
 |f+1,m,R,h=>by
  refine⟨g.lt _,g.lt _,?_⟩;cases c:Gu key (p.getD m 0) (p.getD (m-1) 0) with
  |true=>exact⟨aH _,by lia,h,.inr c⟩
  |false=>
   simp only[Bool.false_eq_true,if_false];refine Wp.mono (fun r I=>?_) _ (asc g f (m+1) (by lia) (h.more R c));exact⟨by lia,by lia,I.2.2.1,I.2.2.2.elim (fun z=>.inl (by lia)) .inr⟩
def Eq(key:Nat->O.α)(p:rZ)(m q:Nat):Prop:=q<m/\∀k,m-(q+1)<=k->k<m->Key key p k=Key key p (m-1)
def rev_eq{p:rZ}{m q:Nat}(h:Eq key p m q)(hm:m<=p.size)(k:Nat):Key key (kas_rev p (m-(q+1)) m) k=Key key p k:=by
 unfold Key;rw[Jv hm];split
 .have a:=h.2 (m-(q+1)+m-1-k) (by have:=h.1;lia) (by have:=h.1;lia);have b:=h.2 k (by lia) (by lia);exact a.trans b.symm
 .rfl
def desc:∀(f:Nat) (p:Array Nat) (m q:Nat),Pm n p->1<=m->m+f<=n->Dn key p m->Eq key p m q->Wp (Gu key) n (kas_desc f p m q) fun r=>Pm n r.1/\m<=r.2.1/\r.2.1<=m+f/\Dn key r.1 r.2.1/\Eq key r.1 r.2.1 r.2.2
 |0,p,m,q,g,_,_,h,e=>⟨g,Nat.le_refl _,Nat.le_refl _,h,e⟩
 |f+1,p,m,q,g,Y,hf,h,e=>by
  refine⟨g.lt _,g.lt _,?_⟩;have hm:m<=p.size:=by rw[g.size];lia
  cases c:Gu key (p.getD m 0) (p.getD (m-1) 0) with
  |true=>
   have ck:O.klt (Key key p m) (Key key p (m-1)):=c;simp only[if_true];have fin:∀I:Array Nat,Pm n I->(∀k,Key key I k=Key key p k)->Wp (Gu key) n (kas_desc f I (m+1) 0) fun r=>Pm n r.1/\m<=r.2.1/\r.2.1<=m+(f+1)/\Dn key r.1 r.2.1/\Eq key r.1 r.2.1 r.2.2:=fun I T hk=>by
    have hd:Dn key I (m+1):=fun i j U hj=>by rw[hk,hk];exact h.more Y (KeyOrd.kle_of_klt ck) i j U hj
    have he:Eq key I (m+1) 0:=⟨by lia,fun k Y h2=>by rw[show k=m+1-1 by lia]⟩;exact Wp.mono (fun r R=>⟨R.1,by lia,by lia,R.2.2.2.1,R.2.2.2.2⟩) _ (desc f I (m+1) 0 T (by lia) (by lia) hd he)
   split
   .exact fin _ (g.rev _ _) (rev_eq e hm)
   .exact fin _ g fun _=>rfl
  |false=>
   simp only[Bool.false_eq_true,if_false];refine⟨g.lt _,g.lt _,?_⟩;cases d:Gu key (p.getD (m-1) 0) (p.getD m 0) with
   |true=>
    simp only[if_true];exact⟨g,Nat.le_refl _,Nat.le_add_right _ _,h,e⟩
   |false=>
    simp only[Bool.false_eq_true,if_false];have Z:Key key p m=Key key p (m-1):=KeyOrd.kle_antisymm (show O.kle (Key key p m) (Key key p (m-1)) from d) (show O.kle (Key key p (m-1)) (Key key p m) from c);refine Wp.mono (fun r R=>⟨R.1,by lia,by lia,R.2.2.2.1,R.2.2.2.2⟩) _ (desc f p (m+1) (q+1) g (by lia) (by lia) (h.more Y (by rw[Z];exact bM _)) ⟨by have:=e.1;lia,fun k h2 h3=>?_⟩);rw[show m+1-1=m by lia,Z];by_cases z:k=m
    .rw[z,Z]
    .exact e.2 k (by lia) (by lia)
def jM{p:rZ}{m:Nat}(h:Dn key p m)(hm:m<=p.size):Up key (kas_rev p 0 m) m:=fun i j g I=>by
 unfold Key;rw[Jv hm,Jv hm,if_pos ⟨aj _,by lia⟩,if_pos ⟨aj _,by lia⟩];exact h (0+m-1-j) (0+m-1-i) (by lia) (by lia)
def tail3{p:rZ}{m:Nat}(g:Pm n p)(R:1<=m)(hm:m<=n)(h:Dn key p m):Wp (Gu key) n (kas_tail3 m n p) fun r=>Pm n r.2/\1<=r.1/\r.1<=n/\Up key r.2 r.1:=by
 unfold kas_tail3;refine Wp.bind _ (Wp.mono (fun r I=>?_) _ (asc (g.rev 0 m) (n-m) m R (jM h (by rw[g.size];exact hm))));exact⟨g.rev 0 m,by lia,by lia,I.2.2.1⟩
def descPart{p:rZ}{m:Nat}(T:Pm n p)(Y:1<=m)(hm:m+1<=n)(h:Dn key p (m+1)):Wp (Gu key) n (kas_descPart m n p) fun r=>Pm n r.2/\1<=r.1/\r.1<=n/\Up key r.2 r.1:=by
 unfold kas_descPart;refine Wp.bind _ (Wp.mono (fun r R=>?_) _ (desc (n-(m+1)) p (m+1) 0 T (by lia) (by lia) h ⟨by lia,fun k Y Z=>by rw[show k=m+1-1 by lia]⟩));obtain⟨a,b,c,d,e⟩:=R;have I:r.2.1<=r.1.size:=by rw[a.size];lia
 split
 .refine tail3 (a.rev _ _) (by lia) (by lia) fun i j g U=>?_;rw[rev_eq e I,rev_eq e I];exact d i j g U
 .exact tail3 a (by lia) (by lia) d
def count{p:rZ}(g:Pm n p):Wp (Gu key) n (kas_count n p) fun r=>Pm n r.2/\1<=r.1/\r.1<=n/\Up key r.2 r.1:=by
 have hn:=g.pos;unfold kas_count;refine Wp.bind _ (Wp.mono (fun m hm=>?_) _ (asc g (n-1) 1 (aH _) Up.one));obtain⟨U,h2,T,h4⟩:=hm;split
 .exact⟨g,U,by lia,T⟩
 .rename_i Y;have R:m≠n:=by simpa using Y
  have hk:O.klt (Key key p m) (Key key p (m-1)):=by
   rcases h4 with z|z
   .exact absurd (by lia) R
   .exact z
  have hz:m<=p.size:=by rw[g.size];lia
  split
  .refine⟨g.lt _,g.lt _,?_⟩;cases c:Gu key (p.getD 0 0) (p.getD (m-1) 0) with
   |true=>simp only[if_true];exact⟨g,U,by lia,T⟩
   |false=>
    simp only[Bool.false_eq_true,if_false];have all:∀k,k<m->Key key p k=Key key p (m-1):=fun k I=>KeyOrd.kle_antisymm (T k (m-1) (by lia) (by lia)) (KeyOrd.kle_trans (show O.kle (Key key p (m-1)) (Key key p 0) from c) (T 0 k (by lia) I));have ek:∀k,Key key (kas_rev p 0 m) k=Key key p k:=fun k=>by
     by_cases I:k<m
     .have:Key key (kas_rev p 0 m) k=Key key p (0+m-1-k):=by
       unfold Key;rw[Jv hz,if_pos ⟨aj _,I⟩]
      rw[this,all _ (by lia),all k I]
     .unfold Key;rw[Jv hz,if_neg (by lia)]
    refine descPart (g.rev _ _) U (by lia) fun i j Z hj=>?_;rw[ek,ek];by_cases e:j=m
    .subst e;by_cases e2:i=j
     .subst e2;exact bM _
     .rw[all i (by lia)];exact KeyOrd.kle_of_klt hk
    .rw[all i (by lia),all j (by lia)];exact bM _
  .have:m=1:=by lia
   subst this;refine descPart g U (by lia) fun i j Z hj=>?_;by_cases e:i=j
   .subst e;exact bM _
   .rw[show i=0 by lia,show j=1 by lia];exact KeyOrd.kle_of_klt hk
def place{p:Array Nat}{k:Nat}(I:Pm n p)(g:Up key p k):∀(f l r:Nat),l<=r->r<=k->r-l<=f->(∀i,i<l->O.kle (Key key p i) (Key key p k))->(∀i,r<=i->i<k->O.klt (Key key p k) (Key key p i)) ->
  Wp (Gu key) n (kas_place p k f l r) fun x=>x<=k/\(∀i,i<x->O.kle (Key key p i) (Key key p k))/\∀i,x<=i->i<k->O.klt (Key key p k) (Key key p i)
 |0,l,r,Z,R,Y,a,b=>by
  have:l=r:=by lia
  subst this;exact⟨R,a,b⟩
 |f+1,l,r,Z,R,Y,a,b=>by
  unfold kas_place;split
  .have:l=r:=by lia
   subst this;exact⟨R,a,b⟩
  .refine⟨I.lt _,I.lt _,?_⟩;cases c:Gu key (p.getD k 0) (p.getD ((l+r) / 2) 0) with
   |true=>
    simp only[if_true];exact place I g f l ((l+r) / 2) (by lia) (by lia) (by lia) a fun i T U=>KeyOrd.klt_of_klt_of_kle (show O.klt (Key key p k) (Key key p ((l+r) / 2)) from c) (g _ _ T U)
   |false=>
    simp only[Bool.false_eq_true,if_false];exact place I g f ((l+r) / 2+1) r (by lia) R (by lia) (fun i T=>KeyOrd.kle_trans (g i ((l+r) / 2) (by lia) (by lia)) (show O.kle (Key key p ((l+r) / 2)) (Key key p k) from c)) b
def bin:∀(f:Nat) (p:Array Nat) (k:Nat),Pm n p->1<=k->k+f=n->Up key p k->Wp (Gu key) n (kas_bin f p k) fun r=>Pm n r/\Up key r n
 |0,p,k,g,_,hk,h=>by
  have:k=n:=by lia
  subst this;exact⟨g,h⟩
 |f+1,p,k,g,h1,hk,h=>by
  have R:k<p.size:=by rw[g.size];lia
  refine Wp.bind _ (Wp.mono (fun l hl=>?_) _ (place g h k 0 k (aj _) (aH _) (by lia) (fun i z=>absurd z (by lia)) fun i Y z2=>absurd Y (by lia)));obtain⟨Z,I,T⟩:=hl;refine bin f _ (k+1) (g.bubble _ _) (by lia) (by lia) fun i j hij hj=>?_;have U:∀x,Key key (PyProof.Rows.bubble p k (k-l)) x=if x=l then Key key p k else if l<x/\x<=k then Key key p (x-1) else Key key p x:=fun x=>by
   unfold Key;rw[Vw R (by lia),show k-(k-l)=l by lia];split
   .rfl
   .split<;>rfl
  rw[U,U]
  repeat' split
  all_goals first
   |(exfalso;lia)
   |exact bM _
   |exact I _ (by lia)
   |exact KeyOrd.kle_of_klt (T _ (by lia) (by lia))
   |exact h _ _ (by lia) (by lia)
def sort(hn:0<n):Wp (Gu key) n (kas_sort n) fun p=>Pm n p/\Up key p n:=by
 have I:Pm n (List.toArray (List.range n)):=⟨Array.Perm.refl _,hn⟩;unfold kas_sort;refine Wp.bind _ (Wp.mono (fun r g=>?_) _ (count I));obtain⟨a,b,c,d⟩:=g;split
 .rw[show max r.1 1=r.1 by lia];exact bin _ _ _ a b (by lia) d
 .have:r.1=n:=by lia
  rw[this]at d;exact⟨a,d⟩
end
end SM
namespace Tr
def P5(x:Tr):∀l:List Tr,(ins x l).Perm (x::l)
 |[]=>.refl _
 |y::r=>by
  rw[ins];split
  .exact((P5 x r).cons y).trans (.swap x y r)
  .exact .refl _
def KY:∀l:List Tr,(CQ l).Perm l
 |[]=>.refl _
 |x::r=>by
  rw[CQ];exact(P5 x (CQ r)).trans ((KY r).cons x)
abbrev Rp(l:List Tr):Prop:=l.Pairwise fun a b=>lt a b=false
def VI(x:Tr):∀l:List Tr,Rp l->Rp (ins x l)
 |[],_=>List.pairwise_singleton _ _
 |y::r,h=>by
  obtain⟨I,R⟩:=List.pairwise_cons.mp h;rw[ins];split
  .rename_i c;refine List.pairwise_cons.mpr ⟨fun z g=>?_,VI x r R⟩;rcases aM.mp ((P5 x r).mem_iff.mp g) with rfl|g
   .exact lt_asymm c
   .exact I z g
  .rename_i c;have O:lt x y=false:=by simpa using c
   refine List.pairwise_cons.mpr ⟨fun z g=>?_,h⟩;rcases aM.mp g with rfl|g
   .exact O
   .cases e:lt x z with
    |false=>rfl
    |true=>
     rcases PF x y z e with q|q
     .rw[O]at q;cases q
     .rw[I z g]at q;cases q
def Jm:∀l:List Tr,Rp (CQ l)
 |[]=>List.Pairwise.nil
 |x::r=>by rw[CQ];exact VI x _ (Jm r)
def LA:∀ {l m:List Tr},Rp l->Rp m->l.Perm m->l=m
 |[],m,_,_,p=>(List.nil_perm.mp p).symm
 |x::r,[],_,_,p=>absurd p.length_eq (by simp)
 |x::r,y::q,R,O,p=>by
  obtain⟨a1,a2⟩:=List.pairwise_cons.mp R;obtain⟨b1,b2⟩:=List.pairwise_cons.mp O;have I:x∈y::q:=p.mem_iff.mp aS;have g:y∈x::r:=p.mem_iff.mpr aS;have e:x=y:=by
   rcases aM.mp I with e|I
   .exact e
   .rcases aM.mp g with e|g
    .exact e.symm
    .exact Ju x y (a1 y g) (b1 x I)
  subst e;rw[LA a2 b2 (List.Perm.cons_inv p)]
def bc{l m:rz}(h:Rp m)(p:m.Perm l):m=CQ l:=LA h (Jm l) (p.trans (KY l).symm)
def Ye{l m:rz}(h:m.Pairwise fun a b=>lt b a=false)(p:m.Perm l):m=(CQ l).reverse:=by
 have:m.reverse=CQ l:=bc (List.pairwise_reverse.mpr h) ((List.reverse_perm m).trans p);rw[<-this,List.reverse_reverse]
def Lk(n:Nat):∀l:List Tr,(of l).deep<=n ↔ ∀c∈l,c.deep+1<=n
 |[]=>by simp[of,deep]
 |b::r=>by
  rw[of,deep,List.forall_mem_cons,<-Lk n r]
  lia
def Z0{l m:rz}(p:l.Perm m):(of l).deep<=(of m).deep:=(Lk _ l).mpr fun c g=>(Lk _ m).mp (aH _) c (p.mem_iff.mp g)
def dQ(t:Tr):(of t.bs.reverse).deep<=t.deep:=by
 have:=Z0 (List.reverse_perm t.bs)
 rwa [T9]at this
def ord:PyProof.Rows.KeyOrd where
 α:=Tr
 blt:=lt
 irrefl:=lt_irrefl
 trans:=lt_trans
 negTrans:=PF
 total:=Ju
end Tr
namespace TH
open PySem PySem.W PyProof.Rows PySem.SeqAt
def Vs.at{h:Heap}:∀ {t:Tr} {us:List VL} {i:Nat},Vs h t us->i<us.length->∃(a:AD) (g:List VL) (c:Tr),us.getD i Value.none=.ref a/\h.IsTuple a g.toArray/\Vs h c g/\t.bs[i]? = some c/\c.deep<t.deep
 |.nil,us,i,e,hi=>by rw[Vs]at e;subst e;exact absurd hi (ak _)
 |.cons b r,us,i,e,hi=>by
  rw[Vs]at e;obtain⟨a,g,rest,rfl,Z,Y,U⟩:=e;have hd:(Tr.cons b r).deep=max (b.deep+1) r.deep:=rfl;cases i with
  |zero=>exact⟨a,g,b,rfl,Z,Y,rfl,by lia⟩
  |succ i=>
   obtain⟨a',I,c,q1,T,R,O,q5⟩:=Vs.at (i:=i) U (by simpa using hi);exact⟨a',I,c,by simpa using q1,T,R,by simpa[Tr.bs]using O,by lia⟩
def Vs.Nn{h:Heap}:∀(ts:List Tr) (us:List VL),us.length=ts.length->(∀i,i<ts.length->∃(a:AD) (g:List VL) (c:Tr),us[i]? = some (.ref a)/\h.IsTuple a g.toArray/\Vs h c g/\ts[i]? = some c)->Vs h (Tr.of ts) us
 |[],us,O,_=>by
  rw[Tr.of,Vs];exact au (by simpa using O)
 |t::ts,[],O,_=>by simp at O
 |t::ts,u::us,O,h=>by
  rw[Tr.of,Vs];obtain⟨a,g,c,T,e2,e3,R⟩:=h 0 (by simp);simp at T R;subst T R;refine⟨a,g,us,rfl,e2,e3,Vs.Nn ts us (by simpa using O) fun i hi=>?_⟩;obtain⟨a',I,c',q1,Z,Y,U⟩:=h (i+1) (by simpa using hi);exact⟨a',I,c',by simpa using q1,Z,Y,by simpa using U⟩
def Vs.all{h:Heap}{t:Tr}{us:rT}(e:Vs h t us):∀i,i<t.bs.length->∃(a:AD) (g:rT) (c:Tr),us[i]? = some (.ref a)/\h.IsTuple a g.toArray/\Vs h c g/\t.bs[i]? = some c:=fun i hi=>by
 have I:i<us.length:=by rw[Vs.length e,<-Tr.He];exact hi
 obtain⟨a,g,c,q1,T,R,O,_⟩:=e.at I;refine⟨a,g,c,?_,T,R,O⟩;rw[List.getD_eq_getElem?_getD,List.getElem?_eq_getElem I]at q1;rw[List.getElem?_eq_getElem I]
 simpa using q1
section
variable{prog:Program}{w:World}{A:Around}{E:rV}{s:SD}{t u:Tr}{a b:AD}{its its':rT}{Q:Bool->SD->Prop}
def WU(O:s.heap.IsTuple a its.toArray)(k1:Vs s.heap t its)(I:s.heap.IsTuple b its'.toArray)(k2:Vs s.heap u its')(g:A.units+t.deep<cLine)(h:Q (Tr.lt t u) s):wpAny (model prog w) A (oneLt' false (.ref a) (.ref b)) Q E s:=by
 rw[oneLt'_eq];simp only[Bool.false_eq_true,if_false];exact Wb (Xd (t.deep+1) t u A s a b its its' (bK _) O k1 I k2 g prog w E _ (wpAny_truthy_bool h))
def gR(h1:s.heap.IsTuple a its.toArray)(k1:Vs s.heap t its)(h2:s.heap.IsTuple b its'.toArray)(k2:Vs s.heap u its')(hu:A.units+t.deep<cLine)(h:Q (Tr.lt t u) s):wpAny (model prog w) A (oneLt' true (.ref a) (.ref b)) Q E s:=by
 rw[oneLt'_eq];simp only[if_true];refine Wb (wpAny_cRoomFor (by lia) ?_);obtain⟨⟨cls,dd,data,sl⟩,Y,hc,n,I⟩:=id h1;obtain⟨⟨cls2,Z,data2,R⟩,U,O,n2,g⟩:=id h2;simp only at hc I O g;subst hc I O g;refine Wb (wpAny_callSpecialIfBound?_slot (T := "tuple") ⟨_,Y,rfl⟩ PySem.F.slot_tuple_lt (call_meets PySem.F.slot_tuple_lt ⟨_,Y,rfl⟩ PySem.F.entry_tuple_lt (PySem.F.args_tuple_lt_2 _ _)
  (Vc t.deep (Xd t.deep) a b its.toArray its'.toArray n n2 dd Z sl R t u (aH _)) ⟨Y,U,by simpa using k1,by simpa using k2,hu,?_⟩))
 exact wpAny_truthy_bool h
def Wm:∀(t u:Tr) (us vs:List VL) (i:Nat),Vs s.heap t us->Vs s.heap u vs->A.units+t.deep<=cLine->Q (Tr.lt t u) s->KatLex prog w A false (decide (t.len<u.len)) Q (us.zip vs) i s
 |.nil,.nil,us,vs,i,e,f,_,h=>by
  rw[Vs]at e;subst e;rw[List.zip_nil_left];exact kat_nil h
 |.nil,.cons c q,us,vs,i,e,f,_,h=>by
  rw[Vs]at e;subst e;rw[List.zip_nil_left];refine kat_nil ?_;rw[show decide (Tr.nil.len<(Tr.cons c q).len)=true from decide_eq_true (Nat.zero_lt_succ _)];exact h
 |.cons b r,.nil,us,vs,i,e,f,_,h=>by
  rw[Vs]at f;subst f;rw[List.zip_nil_right];refine kat_nil ?_;rw[show decide ((Tr.cons b r).len<Tr.nil.len)=false from bF (ak _)];exact h
 |.cons b r,.cons c q,us,vs,i,e,f,hu,h=>by
  rw[Vs]at e f;obtain⟨a,its,rest,rfl,U,T,Z⟩:=e;obtain⟨a',its',I,rfl,R,O,Y⟩:=f;have hd:(Tr.cons b r).deep=max (b.deep+1) r.deep:=rfl;rw[List.zip_cons_cons,show decide ((Tr.cons b r).len<(Tr.cons c q).len)=decide (r.len<q.len) from by simp[Tr.len]];rw[Tr.lt]at h;refine kat_cons (R5 U T R O (by lia) prog w _ _ ?_);by_cases g:b=c
  .rw[decide_eq_true g];rw[if_pos g]at h;exact kat_yes (Wm r q rest I (i+1) Z Y (by lia) h)
  .rw[decide_eq_false g];rw[if_neg g]at h;exact kat_no (by rw[Bool.false_and];exact WU U T R O (by lia) h)
def iM(Z:s.heap.IsTuple a its.toArray)(k1:Vs s.heap t its)(Y:s.heap.IsTuple b its'.toArray)(k2:Vs s.heap u its')(hu:A.units+t.deep<cLine)(h:Q (Tr.lt t u) s):wpAny (model prog w) A (keyLt' (tuples' false) (.ref a) (.ref b)) Q E s:=by
 obtain⟨o,T,hc,n,hd⟩:=id Z;obtain⟨o2,g,U,n2,I⟩:=id Y;refine kat_lt T hd g I ?_;have R:its.toArray.size=t.len:=by rw[<-Vs.length k1];simp
 have O:its'.toArray.size=u.len:=by rw[<-Vs.length k2];simp
 rw[R,O];exact Wm t u its its' 0 k1 k2 (by lia) h
def Qz(g:SortKind):Prop:=g=general'\/g=oneType'\/g=tuples' false
def W6{T:SortKind}(g:Qz T)(R:s.heap.IsTuple a its.toArray)(k1:Vs s.heap t its)(O:s.heap.IsTuple b its'.toArray)(k2:Vs s.heap u its')(I:A.units+t.deep<cLine)(h:Q (Tr.lt t u) s):wpAny (model prog w) A (keyLt' T (.ref a) (.ref b)) Q E s:=by
 rcases g with rfl|rfl|rfl
 .exact WU R k1 O k2 I h
 .rw[keyLt'_oneType];exact gR R k1 O k2 I h
 .exact iM R k1 O k2 I h
def O2{M:Model}{h:Heap}{a:AD}{x:Array VL}(O:h.IsTuple a x):Looks M h (typeOf (.ref a)) (.type "tuple"):=by
 obtain⟨o,g,I,_⟩:=O;exact I ▸ (Looks.ld g).andThen .now
def S7{M:Model}:∀(t:Tr) (us:List VL) {Q:List (Option VL)->SD->Prop},Vs s.heap t us->(∀fs:List (Option VL),(∀v,some v∈fs->Looks M s.heap (typeOf v) (.type "tuple"))->Q fs s)->wpAny M A (us.mapM firstOfTuple') Q E s
 |.nil,us,Q,e,h=>by
  rw[Vs]at e;subst e;rw[List.mapM_nil];exact aA (h [] fun _ z=>by cases z)
 |.cons b r,us,Q,e,h=>by
  rw[Vs]at e;obtain⟨a,its,rest,rfl,h1,g,Z⟩:=e;obtain⟨o,R,Y,n,hd⟩:=id h1;rw[List.mapM_cons];refine Wb ?_;rw[kas_first_eq];refine Wb (Looks.here (show Looks M s.heap (typeOf (.ref a)) o.cls from(Looks.ld R).andThen .now) ?_);rw[Y,if_neg (by first|decide|simp)];refine Wb (listItems_at R hd (aA ?_));refine Wb (S7 r rest (Q:=fun bs s'=>wpAny M A (pure (its.toArray[0]? :: bs)) Q E s') Z fun fs O=>aA (h _ fun v U=>?_));rcases aM.mp U with z|z
  .cases b with
   |nil=>rw[Vs]at g;subst g;simp at z
   |cons c q=>
    rw[Vs]at g;obtain⟨a',its',I,rfl,T,_⟩:=g;simp at z;subst z;exact O2 T
  .exact O v z
def WS{M:Model}{vs:rT}{Q:Option VL->SD->Prop}(R:∀v∈vs,Looks M s.heap (typeOf v) (.type "tuple"))(h0:vs=[]->Q none s)(T:Q (some (.type "tuple")) s):wpAny M A (oneTypeOnly' vs.toArray) Q E s:=by
 rw[oneTypeOnly'_eq,List.mapM_toArray,map_eq_pure_bind];refine Wb (Wb (kas_mapM (r:=Value.type "tuple") _ (fun v I Y O=>(R v I).here O) (aA ?_)));cases vs with
 |nil=>exact aA (h0 rfl)
 |cons f r=>
  have g:((List.map (fun _=>Value.type "tuple") (f::r)).toArray.all fun x=>x==Value.type "tuple")=true:=by
   simp only[List.all_toArray,List.all_map,List.all_eq_true];intro _ _
   rfl
  have U:(List.map (fun _=>Value.type "tuple") (f::r)).toArray[0]? = some (Value.type "tuple"):=by simp
  rw[U];simp only[g,if_true];exact aA T
def W8{M:Model}{t:Tr}{us:rT}{Q:SortKind->SD->Prop}(e:Vs s.heap t us)(h:∀R,Qz R->Q R s):wpAny M A (keyKind' us.toArray) Q E s:=by
 rw[kat_kind_eq,List.mapM_toArray,map_eq_pure_bind];refine Wb (Wb (S7 t us e fun fs O=>aA ?_));split
 .refine Wb (aq ?_);have U:fs.toArray.filterMap id=(fs.filterMap id).toArray:=by simp
  rw[U];have I:∀v∈fs.filterMap id,Looks M s.heap (typeOf v) (.type "tuple"):=fun v g=>O v (by simpa using g);refine Wb (WS I (fun _=>?_) ?_)
  .exact aA (h _ (.inr (.inr rfl)))
  .exact aA (h _ (.inr (.inr rfl)))
 .split
  .exact aA (h _ (.inl rfl))
  .have I:∀v∈us,Looks M s.heap (typeOf v) (.type "tuple"):=fun v g=>by
    obtain⟨i,hi,rfl⟩:=List.getElem_of_mem g;obtain⟨a,its,c,q1,T,_⟩:=e.at hi;rw[List.getD_eq_getElem?_getD,List.getElem?_eq_getElem hi]at q1;simp at q1;rw[q1];exact O2 T
   refine Wb (WS I (fun _=>?_) ?_)
   .exact aA (h _ (.inl rfl))
   .exact aA (h _ (.inr (.inl rfl)))
def Ub{g:Type}{cmp:Nat->Nat->(Bool->SD->Prop)->SD->Prop}{lt:Nat->Nat->Bool}{n:Nat}{O:g->Prop}(I:∀i j C,i<n->j<n->C (lt i j) s->cmp i j C s):∀T:KasT g,SM.Wp lt n T O->T.kasWp cmp (fun a s'=>s'=s/\O a) s
 |.ret a,h=>⟨rfl,h⟩
 |.ask i j k,h=>I i j _ h.1 h.2.1 (Ub I (k (lt i j)) h.2.2)
end
end TH
namespace TH
open PySem PySem.W PyProof.Rows PySem.SeqAt
def Vs.keeps{h h':Heap}(k:∀b o,h.get? b=some o->o.cls=.type "tuple" -> h'.get? b=some o):∀ {t:Tr} {us:List VL},Vs h t us->Vs h' t us
 |.nil,us,e=>by rw[Vs]at e ⊢;exact e
 |.cons b r,us,e=>by
  rw[Vs]at e ⊢;obtain⟨a,g,rest,rfl,⟨o,O,I,hd⟩,T,R⟩:=e;exact⟨a,g,rest,rfl,⟨o,k _ _ O I,I,hd⟩,T.keeps k,R.keeps k⟩
def map_getD{g:Type}(d:g)(l:List g):(List.range l.length).map (fun i=>l.getD i d)=l:=by
 refine List.ext_getElem (by simp) fun i O I=>?_;simp[I]
def Vs.rev{h:Heap}{t:Tr}{us:rT}(e:Vs h t us):Vs h (Tr.of t.bs.reverse) us.reverse:=by
 have I:us.length=t.bs.length:=by rw[e.length,Tr.He]
 refine Vs.Nn _ _ (by simp[I]) fun i hi=>?_;rw[List.length_reverse]at hi;obtain⟨a,g,c,q1,T,R,O⟩:=e.all (t.bs.length-1-i) (by lia);exact⟨a,g,c,by rw[List.getElem?_reverse (by lia),I];exact q1,T,R,by rw[List.getElem?_reverse hi];exact O⟩
section
variable{prog:Program}{w:World}{A:Around}{E:rV}{s:SD}
def cT{κ:SortKind}{t:Tr}{g:rT}(Z:Qz κ)(e:Vs s.heap t g)(h2:2<=g.length)(h64:g.length<64)(hu:A.units+t.deep<=cLine):wpAny (model prog w) A ((sortRuns').run (SortSt.mk' κ (g.toArray.zip g.toArray) #[] 7 none)) (fun r s'=>s'=s/\failedOf r.2=none/\∃ix:rk,ix.length=g.length/\(∀i∈ix,i<g.length) /\(arrOf r.2).map (·.2)=(ix.map fun i=>g.getD i Value.none).toArray/\(ix.map fun i=>t.bs.getD i .nil)=(Tr.CQ t.bs).reverse) E s:=by
 have hl:g.length=t.bs.length:=by rw[e.length,Tr.He]
 have key:∀i,i<g.length->∃(a:AD) (I:List VL),g.getD i Value.none=.ref a/\s.heap.IsTuple a I.toArray/\Vs s.heap (t.bs.getD i .nil) I/\(t.bs.getD i .nil).deep<t.deep:=fun i hi=>by
  obtain⟨a,I,c,q1,Y,U,q4,q5⟩:=e.at hi;have:t.bs.getD i .nil=c:=by rw[List.getD_eq_getElem?_getD,q4];rfl
  rw[this];exact⟨a,I,q1,Y,U,q5⟩
 refine kat_run (Q:=fun R s'=>s'=s/\failedOf R=none/\∃ix:List Nat,ix.length=g.length/\(∀i∈ix,i<g.length)/\(arrOf R).map (·.2)=(ix.map fun i=>g.getD i Value.none).toArray/\(ix.map fun i=>t.bs.getD i .nil)=(Tr.CQ t.bs).reverse)
  (G:=fun p s'=>s'=s/\SM.Pm g.length p/\SM.Up (O:=Tr.ord) (fun i=>t.bs.getD i .nil) p g.length) rfl h2 h64 (fun p R s' hp har hf hG=>?_)
  (Ub (lt:=SM.Gu (O:=Tr.ord) fun i=>t.bs.getD i .nil) (n:=g.length) (fun i j C hi T hC=>?_) _ (SM.sort (by lia)))
 .obtain⟨rfl,hpm,hup⟩:=hG;have h1:p.toList.Perm (List.range g.length):=by simpa using Array.perm_iff_toList_perm.mp hpm.perm
  refine⟨rfl,hf,p.toList,by rw[Array.length_toList,hp],fun i hi=>bQ.mp (h1.mem_iff.mp hi),kat_snds rfl har,?_⟩;have perm:(p.toList.map fun i=>t.bs.getD i .nil).Perm t.bs:=by
   have h3:=h1.map fun i=>t.bs.getD i Tr.nil
   rwa [hl,map_getD]at h3
  refine Tr.Ye (List.pairwise_iff_getElem.mpr fun i j hi T hij=>?_) perm;rw[List.length_map,Array.length_toList,hp]at hi T;have:=hup i j (by lia) T;have e1:∀k,k<g.length->∀hk,(p.toList.map fun i=>t.bs.getD i Tr.nil)[k]'hk=t.bs.getD (p.getD k 0) .nil:=fun k hk hk'=>by
   rw[List.getElem_map,Array.getElem_toList,Array.getD,dif_pos (by lia)]
   rfl
  rw[e1 i hi,e1 j T];exact this
 .obtain⟨a,I,q1,Y,U,q4⟩:=key i hi;obtain⟨a',its',r1,r2,r3,r4⟩:=key j T;unfold kas_ask;rw[q1,r1];exact W6 Z Y U r2 r3 (by lia) hC
def bq(b:Bool)(us:rT)(hz:us.length<2):(if b=true then((if b=true then(us.toArray.zip us.toArray).reverse else us.toArray.zip us.toArray).map (·.2)).reverse else(if b=true then(us.toArray.zip us.toArray).reverse else us.toArray.zip us.toArray).map (·.2))=us.toArray:=by
 match us,hz with
 |[],_=>cases b<;>simp
 |[x],_=>cases b<;>simp
def Nx{a : AD}{us : rT}{t : Tr}{n : Nat}{b : Bool}{P : PySem.Fin->SD->Prop}(ho : s.heap.get? a = some (seqObj "list" us.toArray n))(e : Vs s.heap t us)(h64 : us.length < 64)(hu : A.units + t.deep<=cLine) (h : ∀ ix : rk,ix.length = us.length->(∀ i∈ix,i < us.length)->(ix.map fun i => t.bs.getD i .nil) = (if b then Tr.CQ t.bs else (Tr.CQ t.bs).reverse)->P (.done (.ret .none)) { s with heap:=sortedHeap s.heap a us (ix.map fun i => us.getD i Value.none).toArray }):wpAny (model prog w) A (Builtin.«list.sort» ⟨[.ref a],[(Str.ofString "reverse",.bool b)]⟩) P E s:=by
  rw [list_sort_rev]
  have ha : a < s.heap.objs.size:=aF ho
  refine Wb (listItems_at ho rfl ?_)
  refine Wb (listUpdate_at ho rfl ?_ (by rw [List.size_toArray,sizeLine_eq]; lia) (aj _))
  obtain ⟨e1,ho1⟩ : ∃ e1,(s.heap.update a (Obj.mapSeq fun _ => #[])).get? a = some (seqObj "list" #[] e1):=⟨_,get?_update_seq ho (fun _ => #[])⟩
  refine Wb (seqEpoch_at ho1 rfl ?_)
  refine Wb (wpAny_newTuple ?_ (by show us.length<=_; rw [sizeLine_eq]; lia))
  refine Wb (wpAny_newList ?_ (aj _))
  refine aV ?_
  have ho6 : (((s.heap.update a (Obj.mapSeq fun _ => #[])).push (seqObj "tuple" us.toArray 0)).push (seqObj "list" #[] 0)).get? a = some (seqObj "list" #[] e1):=by
    rw [Heap.get?_push_ne _ _ _ (by rw [size_push',Heap.size_update]; exact aK (av ha)),Heap.get?_push_ne _ _ _ (by rw [Heap.size_update]; exact aK ha)]
    exact ho1
  have keep : ∀ c o,s.heap.get? c = some o->o.cls = .type "tuple" -> (((s.heap.update a (Obj.mapSeq fun _ => #[])).push (seqObj "tuple" us.toArray 0)).push (seqObj "list" #[] 0)).get? c = some o:=fun c o hc hcl => by
    have hne : c≠a:=fun z => by
      rw [z,ho] at hc
      cases hc
      exact absurd (show Value.type "list" = Value.type "tuple" from hcl) (by decide)
    refine aD _ (aD _ ?_)
    rw [Heap.get?_update_ne _ _ _ _ hne]
    exact hc
  show wpAny (model prog w) A _ P E { s with heap:=((s.heap.update a (Obj.mapSeq fun _ => #[])).push (seqObj "tuple" us.toArray 0)).push (seqObj "list" #[] 0) }
  have e6:=e.keeps keep
  dsimp only
  have step : ∀ T : Sem PySem.Fin,wpAny (model prog w) A T P E { s with heap:=((s.heap.update a (Obj.mapSeq fun _ => #[])).push (seqObj "tuple" us.toArray 0)).push (seqObj "list" #[] 0) } ->
      wpAny (model prog w) A (if b = true then (do let _ <- rule "list.sort.reverse"; T) else T) P E { s with heap:=((s.heap.update a (Obj.mapSeq fun _ => #[])).push (seqObj "tuple" us.toArray 0)).push (seqObj "list" #[] 0) }:=by
    intro T hT
    split
    . exact Wb (aq hT)
    . exact hT
  refine step _ ?_
  by_cases h2 : us.toArray.size < 2
  . rw [if_pos h2,if_pos h2]
    refine Wb (aA ?_)
    rw [StateT.run_pure]
    refine Wb (aA ?_)
    dsimp only
    have hz : us.length < 2:=by simpa using h2
    have hout:=bq b us hz
    refine Wb (seqEpoch_at ho6 rfl ?_)
    refine Wb (listUpdate_at ho6 rfl ?_ (aj _) (by
      refine aR (Nat.le_of_eq (bI Array.size hout)) ?_
      rw [List.size_toArray,sizeLine_eq]; lia))
    simp only [bne_self_eq_false,Bool.false_eq_true,if_false]
    have hl : us.length = t.bs.length:=by rw [e.length,Tr.He]
    have fin:=h (List.range us.length) (by simp) (fun i hi => bQ.mp hi) (by
      rw [hl,map_getD]
      match hbs : t.bs,(show t.bs.length < 2 by lia) with
      | [],_ => cases b <;> rfl
      | [_],_ => cases b <;> rfl)
    rw [map_getD] at fin
    rw [<- hout] at fin
    exact aA fin
  . rw [if_neg h2,if_neg h2]
    have hz : 2<=us.length:=by simpa using h2
    refine Wb (W8 (s:={ s with heap:=((s.heap.update a (Obj.mapSeq fun _ => #[])).push (seqObj "tuple" us.toArray 0)).push (seqObj "list" #[] 0) }) e6 fun κ hκ => ?_)
    have hl : us.length = t.bs.length:=by rw [e.length,Tr.He]
    obtain ⟨ws,tw,ew,hwl,hws,hdp,pick⟩ : ∃ (ws : List VL) (tw : Tr),Vs (((s.heap.update a (Obj.mapSeq fun _ => #[])).push (seqObj "tuple" us.toArray 0)).push (seqObj "list" #[] 0)) tw ws/\ws.length = us.length /\
        (if b = true then (us.toArray.zip us.toArray).reverse else us.toArray.zip us.toArray) = ws.toArray.zip ws.toArray/\tw.deep<=t.deep /\
        ∀ (_b : Bool) (ix : List Nat),ix.length = ws.length->(∀ i∈ix,i < ws.length)->(ix.map fun i => tw.bs.getD i .nil) = (Tr.CQ tw.bs).reverse->∃ iy : List Nat,iy.length = us.length/\(∀ i∈iy,i < us.length)/\(iy.map fun i => t.bs.getD i .nil) = (if b then Tr.CQ t.bs else (Tr.CQ t.bs).reverse) /\
          (if b = true then ((ix.map fun i => ws.getD i Value.none).toArray).reverse else (ix.map fun i => ws.getD i Value.none).toArray) = (iy.map fun i => us.getD i Value.none).toArray:=by
      cases b with
      | false => exact ⟨us,t,e6,rfl,rfl,Nat.le_refl _,fun _ ix h1 h2 h3 => ⟨ix,h1,h2,h3,rfl⟩⟩
      | true=>
        have hsrt : Tr.CQ t.bs.reverse = Tr.CQ t.bs:=Tr.bc (Tr.Jm _) ((Tr.KY _).trans (List.reverse_perm _))
        refine ⟨us.reverse,Tr.of t.bs.reverse,e6.rev,by simp,kat_pairs (ks:=us) (vs:=us) true rfl,Tr.dQ t,fun _ ix h1 h2 h3 => ⟨(ix.map fun i => us.length - 1 - i).reverse,by simpa using h1,fun i hi => ?_,?_,?_⟩⟩
        . rw [List.mem_reverse,List.mem_map] at hi
          obtain ⟨k,hk,rfl⟩:=hi
          have:=h2 k hk
          rw [List.length_reverse] at this
          lia
        . rw [Tr.N8,hsrt] at h3
          rw [List.map_reverse,List.map_map]
          have : (ix.map ((fun i => t.bs.getD i Tr.nil) ∘ fun i => us.length - 1 - i)) = ix.map fun i => t.bs.reverse.getD i .nil:=List.map_congr_left fun i hi => by
            have:=h2 i hi
            rw [List.length_reverse] at this
            show t.bs.getD (us.length - 1 - i) Tr.nil = _
            rw [List.getD_eq_getElem?_getD,List.getD_eq_getElem?_getD,List.getElem?_reverse (by lia),hl]
          rw [this,h3,List.reverse_reverse]
          rfl
        . rw [if_pos rfl,List.map_reverse,List.map_map,List.reverse_toArray]
          congr 2
          exact List.map_congr_left fun i hi => by
            have:=h2 i hi
            rw [List.length_reverse] at this
            show us.reverse.getD i Value.none = us.getD (us.length - 1 - i) Value.none
            rw [List.getD_eq_getElem?_getD,List.getD_eq_getElem?_getD,List.getElem?_reverse (by lia)]
    rw [hws]
    refine Wb (aU (cT (s:={ s with heap:=((s.heap.update a (Obj.mapSeq fun _ => #[])).push (seqObj "tuple" us.toArray 0)).push (seqObj "list" #[] 0) }) hκ ew (by lia) (by lia) (by lia)) ?_ fun _ _ z => z)
    rintro ⟨⟨⟩,st'⟩ s' ⟨rfl,hf,ix,hil,hix,hout,hst⟩
    dsimp only
    refine Wb (seqEpoch_at ho6 rfl ?_)
    obtain ⟨iy,y1,y2,y3,hfin⟩ : ∃ iy : List Nat,iy.length = us.length/\(∀ i∈iy,i < us.length)/\(iy.map fun i => t.bs.getD i .nil) = (if b then Tr.CQ t.bs else (Tr.CQ t.bs).reverse) /\
        (if b = true then ((arrOf st').map (·.2)).reverse else (arrOf st').map (·.2)) = (iy.map fun i => us.getD i Value.none).toArray:=by
      rw [show (arrOf st').map (·.2) = _ from hout]
      exact pick b ix hil hix hst
    refine Wb (listUpdate_at ho6 rfl ?_ (aj _) (by
      refine aR (Nat.le_of_eq (bI Array.size hfin)) ?_
      rw [List.size_toArray,List.length_map,y1,sizeLine_eq]; lia))
    rw [show failedOf st' = none from hf]
    simp only [bne_self_eq_false,Bool.false_eq_true,if_false]
    have fin:=h iy y1 y2 y3
    rw [<- hfin] at fin
    exact aA fin
end
end TH
namespace ET
open PySem
section
variable{prog:Program}{w:World}{A:Around}{E:rV}{s:SD}
def next_item{it t:AD}{i:Nat}{items}{x:VL}{Q:rV}(hit:s.heap.IsTupleIter it t i)(T:s.heap.IsTuple t items)(R:items[i]? = some x) (Y:∀h',h'.IsTupleIter it t (i+1)->Heap.SameBut it s.heap h'->Q x {s with heap:=h'}):wpAny (model prog w) A (Builtin.SmallTypes.nextOf (.ref it)) Q E s:=by
 obtain⟨o,g,U,hd⟩:=id hit;obtain⟨ol,I,_,nl,O⟩:=T;unfold Builtin.SmallTypes.nextOf;refine Wb (ag (name:=Str.ofString "__next__") hit.typeIs F.slot_tuple_iterator_next
  (aX F.slot_tuple_iterator_next hit.typeIs F.entry_tuple_iterator_next ?_ (F.args_tuple_iterator_next_1 _)))
 show wpAny _ _ (field (.ref it) 0>>=_) _ _ s;refine Wb (bC g hd (x:=.ref t) rfl ?_);show wpAny _ _ (if(Value.ref t==Value.none)=true then _ else _) _ _ s;rw[if_neg (show ¬((Value.ref t==Value.none)=true) from aI)];show wpAny _ _ (field (.ref it) 1>>=_) _ _ s;refine Wb (bC g hd (x:=.int i 0) rfl ?_);show wpAny _ _ (seqItems? (.ref t)>>=_) _ _ s;refine Wb (bE I O ?_);simp only[Int.toNat_natCast,R];refine Wb (wpAny_setField g hd (by simp) (aA ⟨x,rfl,wpAny_pure (Y _ ?_ (ae ..))⟩));exact⟨_,Heap.get?_update_self _ g (Obj.isFreed_of_fields (Obj.data_mapFields hd _)),(Obj.cls_mapFields ..).trans U,by
  rw[Obj.data_mapFields hd];simp[rawInt]⟩
def next_end{it t:AD}{i:Nat}{items}{Q:rV}(R:A.handled=none)(hit:s.heap.IsTupleIter it t i)(U:s.heap.IsTuple t items)(T:items[i]? = none) (Y:∀h' e,Heap.ExtBut it s.heap h'->(∃o,h'.get? e=some o/\o.cls=.type "StopIteration")->E (.ref e) {s with heap:=h'}):wpAny (model prog w) A (Builtin.SmallTypes.nextOf (.ref it)) Q E s:=by
 obtain⟨o,I,Z,hd⟩:=id hit;obtain⟨ol,g,_,nl,O⟩:=U;unfold Builtin.SmallTypes.nextOf;refine Wb (ag (name:=Str.ofString "__next__") hit.typeIs F.slot_tuple_iterator_next
  (aX F.slot_tuple_iterator_next hit.typeIs F.entry_tuple_iterator_next ?_ (F.args_tuple_iterator_next_1 _)))
 show wpAny _ _ (field (.ref it) 0>>=_) _ _ s;refine Wb (bC I hd (x:=.ref t) rfl ?_);show wpAny _ _ (if(Value.ref t==Value.none)=true then _ else _) _ _ s;rw[if_neg (show ¬((Value.ref t==Value.none)=true) from aI)];show wpAny _ _ (field (.ref it) 1>>=_) _ _ s;refine Wb (bC I hd (x:=.int i 0) rfl ?_);show wpAny _ _ (seqItems? (.ref t)>>=_) _ _ s;refine Wb (bE g O ?_);simp only[Int.toNat_natCast,T];refine Wb (aq (Wb (wpAny_setField I hd (by simp) ?_)));show wpAny _ _ (newExc (.type "StopIteration") []>>=_) _ _ _;refine Wb ?_;simp only[newExc,newTuple];refine Wb (ah ?_ (by size_fits));refine Wb (m:=firstArgMember _ _) (wpAny_of_eq (a:=Value.none) (by first|rfl|(simp only[firstArgMember];rfl)) ?_);refine ah ?_ (by size_fits);simp only[raiseNew];refine Wb (wpAny_handled ?_)
 first|rw[show A.in1.handled=none from R]|rw[R]
 refine Wb (aA (wpAny_throw ?_));exact Y _ _ (((ae ..).extBut.push _).push _) ⟨_,Heap.get?_push_size _ rfl,rfl⟩
end
section
open AutoSeq1 (wpAny_loadPart')
def ZZ(l:AD)(items:Array VL)(n:Nat)(T:Option AD)(sl:Array (Option VL)):Meets (Builtin.«enumerate.__new__» ⟨[.type "enumerate",.ref l],[]⟩) (fun _ R s=>s.heap.get? l=some { cls:=.type "tuple",dict:=T,data:=.seq items n,slots:=sl} /\R (.ok (.ret (.ref (s.heap.push { cls:=.type "tuple_iterator",data:=.fields #[.ref l,.int 0 0]}).objs.size))) {s with heap:=(s.heap.push { cls:=.type "tuple_iterator",data:=.fields #[.ref l,.int 0 0]}).push { cls:=.type "enumerate",data:=.fields #[.none,.bool false,.ref s.heap.objs.size,rawInt 0,.none,.none]} }) :=
 .of_wp fun prog w A R s h=>by
  obtain⟨Y,g,d,tk,os⟩:=s;obtain⟨I,h⟩:=h;have U:=sub_enumerate;have O:Heap.IsTuple (Shared.heap ⟨Y,g,d,tk,os⟩) l items:=⟨_,I,rfl,n,rfl⟩
  wp_walk using wpAny_loadPart' I
  refine wpAny_stack_any fun st=>aA ?_;split
  .rename_i c _ _ _ _ _;cases (c==Value.type "enumerate")
   .wp_walk using wpAny_loadPart' I,wpAny_pyIter_tuple O
    exact⟨_,rfl,h⟩
   .wp_walk using wpAny_loadPart' I,wpAny_pyIter_tuple O
    exact⟨_,rfl,h⟩
  .wp_walk using wpAny_loadPart' I,wpAny_pyIter_tuple O
   exact⟨_,rfl,h⟩
def Zo{prog:Program}{w:World}{A:Around}{E:rV}{s:SD}{l:AD}{items:Array VL}{Q:rV}(U:s.heap.IsTuple l items) (h:∀h',IsEnum h' (s.heap.objs.size+1) s.heap.objs.size 0 .none->h'.IsTupleIter s.heap.objs.size l 0->h'.objs.size=s.heap.objs.size+2 ->(∀b o,s.heap.get? b=some o->h'.get? b=some o)->Q (.ref (s.heap.objs.size+1)) {s with heap:=h'}):wpAny (model prog w) A (call (.type "enumerate") [.ref l]) Q E s:=by
 obtain⟨⟨c,O,dt,sl⟩,T,I,n,hd⟩:=U
 replace I:c=.type "tuple" := I
 replace hd:dt=.seq items n:=hd
 subst I hd;refine callType_new F.called_enumerate (by decide) (F.typeCall_enumerate_1 _) (F.newCall_enumerate_1 _) (fun obj=>F.args_object_init_2 obj _) F.entry_enumerate_new
  (ZZ l items n O sl) ⟨T,?_⟩
 have g:(s.heap.push { cls:=.type "tuple_iterator",data:=.fields #[.ref l,.int 0 0]}).objs.size=s.heap.objs.size+1:=Heap.size_push ..;show _/\_;rw[g];have R:IsEnum ((s.heap.push { cls:=.type "tuple_iterator",data:=.fields #[.ref l,.int 0 0]}).push
   { cls:=.type "enumerate",data:=.fields #[.none,.bool false,.ref s.heap.objs.size,rawInt 0,.none,.none]}) (s.heap.objs.size+1) s.heap.objs.size 0 .none:=by
  have:=aP (s.heap.push { cls:=.type "tuple_iterator",data:=.fields #[.ref l,.int 0 0]})
   (o:={ cls:=.type "enumerate",data:=.fields #[.none,.bool false,.ref s.heap.objs.size,rawInt 0,.none,.none]}) rfl
  rw[g]at this;exact this
 refine⟨⟨_,R,rfl⟩,h _ R ⟨_,Heap.get?_push_of_some _ (aP _ rfl),rfl,rfl⟩ (by rw[Heap.size_push,g]) fun b o x=>aD _ (aD _ x)⟩
end
def draws{prog:Program}{w:World}{A:Around}(hh:A.handled=none)(it a:AD)(its:rT)(hne:a≠it) :
  Draws prog w A it [it,a] its.length (fun i x=>its[i]? = some x) (fun i h=>h.IsTupleIter it a i/\h.IsTuple a its.toArray) where
 live:=fun i h st=>let⟨o,e,_⟩:=st.1;⟨o,e⟩
 frame:=fun i h h' st k=>by
  obtain⟨⟨o,e,r⟩,o2,e2,r2⟩:=st;exact⟨⟨o,k it (by simp) o e,r⟩,o2,k a (by simp) o2 e2,r2⟩
 item:=fun i s Q E hi st hQ=>next_item st.1 st.2 (x:=its[i]) (by simp[hi]) fun h' st' sb=>
  hQ _ h' s.toks (by simp[hi]) ⟨st',let⟨o,e,r⟩:=st.2;⟨o,(sb.2 a hne).trans e,r⟩⟩ sb
 done:=fun s Q E st hE=>next_end hh st.1 st.2 (by simp) hE
end ET
namespace L2
open PySem PySem.Spec PyProof.Rows
def Ts(H:Hp):Tr->List V->Prop
 |.nil,xs=>xs=[]
 |.cons b r,xs=>∃(a:AD) (ys g:List V),xs=.ref a::g/\H a=some (.tup ys)/\Ts H b ys/\Ts H r g
def Tv(H:Hp)(t:Tr)(v:V):Prop:=∃(a:AD) (ys:List V),v=.ref a/\H a=some (.tup ys)/\Ts H t ys
def Ts.same{H H':Hp}(e:AJ H H'):∀ {t:Tr} {xs:List V},Ts H t xs->Ts H' t xs
 |.nil,xs,h=>by rw[Ts]at h ⊢;exact h
 |.cons b r,xs,h=>by
  rw[Ts]at h ⊢;obtain⟨a,ys,g,T,R,O,I⟩:=h;exact⟨a,ys,g,T,e _ _ R,O.same e,I.same e⟩
def Tv.same{H H':Hp}{t:Tr}{v:V}(h:Tv H t v)(e:AJ H H'):Tv H' t v:=let⟨a,ys,O,I,g⟩:=h;⟨a,ys,O,e _ _ I,g.same e⟩
def Jx(H H':Hp):Prop:=∀b xs,H b=some (.tup xs)->H' b=some (.tup xs)
def Jx.of{H H':Hp}(e:AJ H H'):Jx H H':=fun b xs h=>e b _ h
def Jx.upd{H:Hp}{l:AD}{ys:rq}{o:HO}(g:H l=some (.lst ys)):Jx H (upd H l o):=fun b xs h=>by
 rw[AL (Xz h g (by intro z;cases z))];exact h
def Ts.A0{H H':Hp}(e:Jx H H'):∀ {t:Tr} {xs:List V},Ts H t xs->Ts H' t xs
 |.nil,xs,h=>by rw[Ts]at h ⊢;exact h
 |.cons b r,xs,h=>by
  rw[Ts]at h ⊢;obtain⟨a,ys,g,T,R,O,I⟩:=h;exact⟨a,ys,g,T,e _ _ R,O.A0 e,I.A0 e⟩
def Tv.A0{H H':Hp}{t:Tr}{v:V}(h:Tv H t v)(e:Jx H H'):Tv H' t v:=let⟨a,ys,O,I,g⟩:=h;⟨a,ys,O,e _ _ I,g.A0 e⟩
def Ts.length{H:Hp}:∀ {t:Tr} {xs:List V},Ts H t xs->xs.length=t.len
 |.nil,xs,h=>by rw[Ts]at h;rw[h];rfl
 |.cons b r,xs,h=>by
  rw[Ts]at h;obtain⟨a,ys,I,rfl,_,_,g⟩:=h;rw[List.length_cons,Tr.len,g.length]
def Ts.len{H:Hp}{t:Tr}{xs:rq}(h:Ts H t xs):xs.length=t.bs.length:=by rw[h.length,Tr.He]
def Ts.get{H:Hp}:∀ {t:Tr} {xs:List V} {i:Nat} {v:V},Ts H t xs->xs[i]? = some v->∃c,t.bs[i]? = some c/\Tv H c v
 |.nil,xs,i,v,h,e=>by rw[Ts]at h;subst h;simp at e
 |.cons b r,xs,i,v,h,e=>by
  rw[Ts]at h;obtain⟨a,ys,T,rfl,R,O,I⟩:=h;cases i with
  |zero=>simp at e;subst e;exact⟨b,rfl,a,ys,rfl,R,O⟩
  |succ i=>
   obtain⟨c,q1,g⟩:=I.get (i:=i) (v:=v) (by simpa using e);exact⟨c,by simpa[Tr.bs]using q1,g⟩
def Ts.Nn{H:Hp}:∀(ts:List Tr) (xs:List V),xs.length=ts.length->(∀(i:Nat) (v:V),xs[i]? = some v->∃c,ts[i]? = some c/\Tv H c v)->Ts H (Tr.of ts) xs
 |[],xs,g,_=>by
  rw[Tr.of,Ts];exact au (by simpa using g)
 |t::ts,[],g,_=>by simp at g
 |t::ts,x::xs,g,h=>by
  rw[Tr.of,Ts];obtain⟨c,I,a,ys,rfl,T,R⟩:=h 0 x rfl;simp at I;subst I;exact⟨a,ys,xs,rfl,T,R,Ts.Nn ts xs (by simpa using g) fun i v e=>by
   obtain⟨c,q1,O⟩:=h (i+1) v (by simpa using e);exact⟨c,by simpa using q1,O⟩⟩
def Ts.pick{H:Hp}{t:Tr}{xs:rq}(h:Ts H t xs)(ix:rk)(hi:∀i∈ix,i<xs.length):Ts H (Tr.of (ix.map fun i=>t.bs.getD i .nil)) (ix.map fun i=>xs.getD i .BP):=by
 refine Ts.Nn _ _ (by simp) fun i v e=>?_;rw[List.getElem?_map]at e ⊢;cases q:ix[i]? with
 |none=>rw[q]at e;cases e
 |some k=>
  rw[q]at e;have hk:k<xs.length:=hi k (aW q);simp only[Option.map_some,Option.some.injEq]at e;obtain⟨c,q1,g⟩:=h.get (i:=k) (v:=v) (by rw[<-e,List.getD_eq_getElem?_getD,List.getElem?_eq_getElem hk];rfl);refine⟨c,?_,g⟩;simp only[Option.map_some,List.getD_eq_getElem?_getD,q1]
  rfl
section
variable{X:Cx}{pins:List (AD×Obj)}{σ:St}{H:Hp}{s:SD}
def Ts.vs(I:Inv X pins σ H s):∀ {t:Tr} {xs:List V} {us:List VL},Ts H t xs->Vals xs us->TH.Vs s.heap t us
 |.nil,xs,us,h,r=>by
  rw[Ts]at h;subst h;cases r;rw[TH.Vs]
 |.cons b rr,xs,us,h,r=>by
  rw[Ts]at h;obtain⟨a,ys,zs,rfl,Z,Y,U⟩:=h;cases r with
  |cons T R=>
   cases T;obtain⟨g,O,p,_⟩:=I.tuple (BC.of (K:=X.K) Z);rw[TH.Vs];exact⟨a,g,_,rfl,p,Ts.vs I Y O,Ts.vs I U R⟩
def Tv.at(I:Inv X pins σ H s){t:Tr}{v:V}{u:VL}(h:Tv H t v)(r:RelV v u):∃(a:AD) (g:rT),u=.ref a/\s.heap.IsTuple a g.toArray/\TH.Vs s.heap t g:=by
 obtain⟨a,ys,rfl,T,R⟩:=h;cases r;obtain⟨g,O,p,_⟩:=I.tuple (BC.of (K:=X.K) T);exact⟨a,g,rfl,p,Ts.vs I R O⟩
def oM:R2:=fun x y H Q=>∃t u,Tv H t x/\Tv H u y/\t.deep<=60/\Q (.bl (Tr.lt u t)) H
def gm(hu:X.A.units+64<cLine):C6 X (compareOp .Gt) oM:=by
 intro pins s σ H x y v u' Q I T R h;obtain⟨t,u,h1,h2,hd,q⟩:=h;obtain⟨a,O,rfl,Y,k1⟩:=h1.at I T;obtain⟨b,g,rfl,U,Z⟩:=h2.at I R;exact TH.fK (t.deep+1) t u X.A s a b O g (bK _) Y k1 U Z (by lia) X.prog X.w X.xe _ ⟨.bl _,H,I,rfl,q⟩
end
def jB(K:Fg)(a:AD):It :=
 ⟨fun i H=>∃xs x,BC K H a xs/\xs[i]? = some x,fun i H v H'=>∃p x,v=.ref p/\H p=none/\H'=upd H p (.tup [.int i,x])/\∀xs,BC K H a xs->xs[i]? = some x,fun i H=>∃xs,BC K H a xs/\xs.length=i⟩
def Y7{P:Program}{w:World}{K:Fg}{elts:rg}{x1}{pos:Pos}(a e it:AD)(hne:e≠it) :
  Turn P w K (.Tuple elts x1 pos) (jB K a) [e,it] e (fun i h=>(∃old,IsEnum h e it (i:Nat) old)/\h.IsTupleIter it a i) where
 mem:=by simp
 obj:=fun i h st b hb=>by
  rcases aM.mp hb with rfl|hb
  .obtain⟨⟨old,q⟩,_⟩:=st;exact⟨_,q,fun v z=>by cases z⟩
  .have e2:b=it:=by simpa using hb
   subst e2;obtain⟨_,o,q,c,d⟩:=st;exact⟨o,q,fun v z=>by rw[d]at z;cases z⟩
 keep:=fun i h h' st k=>by
  obtain⟨⟨old,q⟩,o,q2,r⟩:=st;exact⟨⟨old,k e (by simp) _ q⟩,o,k it (by simp) _ q2,r⟩
 item:=by
  intro X hP hw hK hc i pins s σ H E I hf st hg;subst hP hw hK;obtain⟨xs,x,hq,hx⟩:=hg;obtain⟨its,rv,p,hz⟩:=I.tuple hq;obtain⟨u,hu,ru⟩:=rv.get hx;obtain⟨⟨old,he⟩,hit⟩:=st;have hai:a≠it:=fun z=>by
   obtain⟨o,e1,c1,_⟩:=p;obtain⟨o2,e2,c2,_⟩:=hit;rw[z,e2]at e1;cases e1;rw[c1]at c2;exact absurd c2 (by decide)
  have hae:a≠e:=fun z=>by
   obtain⟨o,e1,c1,_⟩:=p;rw[z,he]at e1;cases e1;exact absurd (show Value.type "enumerate" = Value.type "tuple" from c1) (by decide)
  have hlt:i<its.length:=(aG.mp hu).1;have hE0:=hf e (by simp);have hI0:=hf it (by simp);refine wpAny_pyNext_enum_itemD (ET.draws (prog:=X.prog) (w:=X.w) (A:=X.A.in1) (I.ok.hd hc) it a its hai) he ⟨hit,p⟩ hlt hne (by simp[hne,Ne.symm hae]) fun y h' tk hy ho hs' hT hsz hk=>⟨_,rfl,wpAny_letOwnedTupleGo_enum (s:={s with heap:=h',toks:=tk+1}) ho fun h'' he'' sb=>?_⟩;have hyu:y=u:=by rw[hu]at hy;exact(af hy).symm
  subst hyu;have keep:∀b o,b≠e->b≠it->s.heap.get? b=some o->h''.get? b=some o:=fun b o h1 h2 q=>(sb.2 b h1).trans (hk b o h1 h2 q);have hTe:s.heap.objs.size≠e:=Nat.ne_of_gt (aF he);have hTi:s.heap.objs.size≠it:=let⟨_,q,_⟩:=hit;Nat.ne_of_gt (aF q);have hT'':h''.get? s.heap.objs.size=some { cls:=.type "tuple",data:=.seq #[.int i tk,y]}:=(sb.2 _ hTe).trans hT;have hTn:H s.heap.objs.size=none:=I.Ap.fresh (aH _);have neT:∀b o,s.heap.get? b=some o->b≠s.heap.objs.size:=fun b o q=>aK (aF q);have Gy:∀b o,H b=some o->b≠e/\b≠it:=fun b o q=>⟨(fun z=>by rw[z,hE0.1]at q;cases q),(fun z=>by rw[z,hI0.1]at q;cases q)⟩;refine⟨.ref s.heap.objs.size,upd H s.heap.objs.size (.tup [.int i,x]),?_,rfl,⟨_,x,rfl,hTn,rfl,fun ys hy=>by rw[I.Si hy hq];exact hx⟩,⟨⟨_,by simpa using he''⟩,?_⟩,fun b hb=>?_⟩
  .show Inv X pins σ _ {s with heap:=h'',gens:=s.gens,drawn:=s.drawn,toks:=tk+1};refine I.step (h':=h'') (g':=s.gens) (d':=s.drawn) (t':=tk+1) (ch:=[e,it]) (fun b hb=>?_) (fun b o _ _ hc q _=>keep b o (fun z=>hc (by simp[z])) (fun z=>hc (by simp[z])) q) (fun b o _ _ hc q _=>⟨o.slots,keep b o (fun z=>hc (by simp[z])) (fun z=>hc (by simp[z])) q⟩)
    (fun b o _ q n=>by rw[AL (neT b o q)];exact n) (fun b o hc q=>⟨o,keep b o (fun z=>hc (by simp[z])) (fun z=>hc (by simp[z])) q⟩) (fun b ys q=>by rw[AL (AU q hTn)];exact q) (fun b o u q=>by rw[AL (AU q hTn)];exact q)
    (fun b ps q=>⟨#[],by rw[AL (AU q hTn),q];simp⟩) (fun m hm=>?_) (fun b o q=>?_) I.bare
   .rcases aM.mp hb with rfl|hb
    .exact⟨hE0.2.2.2.1,hE0.2.1,hE0.2.2.2.2.1,hE0.2.2.2.2.2⟩
    .have e2:b=it:=by simpa using hb
     subst e2;exact⟨hI0.2.2.2.1,hI0.2.1,hI0.2.2.2.2.1,hI0.2.2.2.2.2⟩
   .obtain⟨o,es,ep,ho,r⟩:=hm;exact⟨o,es,ep,keep _ o (Ne.symm hE0.2.1) (Ne.symm hI0.2.1) ho,r⟩
   .by_cases hb:b=s.heap.objs.size
    .subst hb;rw[AN]at q;cases q;exact⟨Oj,[.int i tk,y],.cons ⟨tk,rfl⟩ (.cons ru .nil),_,hT'',rfl,_,rfl⟩
    .rw[AL hb]at q;refine(I.Ap b o q).Hx (fun c v hc r=>keep c v ?_ ?_ r) (fun c r=>by rw[AL (AU r hTn)];exact r) fun c ys r=>by rw[AL (AU r hTn)];exact r
     .rcases hc with rfl|hc
      .exact(Gy _ _ q).1
      .exact(Gy _ _ hc).1
     .rcases hc with rfl|hc
      .exact(Gy _ _ q).2
      .exact(Gy _ _ hc).2
  .obtain⟨⟨o,q,r⟩,_⟩:=hs';exact⟨o,(sb.2 it (Ne.symm hne)).trans q,r⟩
  .rcases aM.mp hb with rfl|hb
   .rw[AL (Ne.symm hTe)];exact hE0.1
   .have e2:b=it:=by simpa using hb
    subst e2;rw[AL (Ne.symm hTi)];exact hI0.1
 done:=by
  intro X hP hw hK hc i pins s σ H E I hf st hg;subst hP hw hK;obtain⟨xs,hq,hx⟩:=hg;obtain⟨its,rv,p,hz⟩:=I.tuple hq;obtain⟨⟨old,he⟩,hit⟩:=st;have hai:a≠it:=fun z=>by
   obtain⟨o,e1,c1,_⟩:=p;obtain⟨o2,e2,c2,_⟩:=hit;rw[z,e2]at e1;cases e1;rw[c1]at c2;exact absurd c2 (by decide)
  have hl:its.length=i:=by rw[<-rv.length];exact hx
  subst hl;obtain⟨f0,f1,f2,f3,f4,f5⟩:=hf it (by simp);exact wpAny_pyNext_enum_endD (ET.draws (prog:=X.prog) (w:=X.w) (A:=X.A.in1) (I.ok.hd hc) it a its hai) he ⟨hit,p⟩ fun h' eb=>⟨rfl,I.turned (t':=s.toks) (fun b o hb q=>eb b o hb q) f0 f1 f3 f4 f5⟩
 self:=fun _ _ _ _ _ st h=>by
  obtain⟨⟨old,he⟩,_⟩:=st;exact wpAny_pyIter_enum he h
def oY(K:Fg)(I:TA):TI:=fun σ H R=>I σ H fun vs g=>∃a,vs=[.ref a]/\(∃xs,BC K g a xs)/\R (jB K a) g
def hV{X:Cx}{elts:rg}{x1}{g:Pos}{a:Expr}{Z:TA}{p pos:Pos}(hg:Gl X "enumerate")(hm:X.mg "enumerate" = none)(ha:PA X [a] Z)(hs:starEach [a] X.env=[(false,eval a X.env)]:=by rfl):PI X (.Tuple elts x1 g) (.Call (.Name "enumerate" p) [a] [] pos) (oY X.K Z):=by
 intro pins s σ H R I h;refine Call_ (HH I hg hm boot_enumerate (bD (BG (ha pos pins s σ H _ I h) fun us s1 ⟨vs,H1,T,r1,q1⟩=>?_) hs rfl));obtain⟨t,e,⟨xs,hq⟩,q⟩:=q1;subst e;cases r1 with
 |cons r rr=>
  cases rr;cases r;obtain⟨U,rv,p',hz⟩:=T.tuple hq;refine ET.Zo (show s1.heap.IsTuple t U.toArray from p') fun h' he hit hsz hk=>wpAny_pyIter_enum he ?_;have I2:Inv X pins σ H1 {s1 with heap:=h'}:=T.kept (t':=s1.toks) hk;have hn:s1.heap.objs.size+1≠s1.heap.objs.size:=by lia
  refine⟨s1.heap.objs.size+1,[s1.heap.objs.size+1,s1.heap.objs.size],_,_,H1,rfl,I2,Y7 t _ _ hn,⟨⟨_,he⟩,hit⟩,fun b hb=>?_,q⟩;have O:s1.heap.objs.size<=b:=by
   have Y:b=s1.heap.objs.size+1\/b=s1.heap.objs.size:=by simpa using hb
   rcases Y with z|z
   .rw[z];exact Nat.le_succ _
   .rw[z];exact aH _
  exact T.Rc O (T.Ap.fresh O)
end L2
namespace TH
open PySem PySem.W PyProof.Rows PySem.SeqAt
section
variable{prog:Program}{w:World}{A:Around}{E:rV}{s:SD}
def LY(a:AD):Builtin.«list.sort» ⟨[.ref a],[]⟩=Builtin.«list.sort» ⟨[.ref a],[(Str.ofString "reverse",.bool false)]⟩:=by
 rw[list_sort_rev,list_sort_plain]
 rfl
def Mo{a:AD}{us:rT}{t:Tr}{n:Nat}{P:PySem.Fin->SD->Prop}(O:s.heap.get? a=some (seqObj "list" us.toArray n))(e:Vs s.heap t us)(g:us.length<64)(I:A.units+t.deep<=cLine) (h:∀ix:rk,ix.length=us.length->(∀i∈ix,i<us.length)->(ix.map fun i=>t.bs.getD i .nil)=(Tr.CQ t.bs).reverse->P (.done (.ret .none)) {s with heap:=sortedHeap s.heap a us (ix.map fun i=>us.getD i Value.none).toArray}):wpAny (model prog w) A (Builtin.«list.sort» ⟨[.ref a],[]⟩) P E s:=by
 rw[LY];exact Nx (b:=false) O e g I h
def Vv{l:AD}{vs:rT}{Q:List VL->SD->Prop}(hl:s.heap.IsTuple l vs.toArray) (h:Q vs {s with heap:=(s.heap.push (seqObj "list" #[] 0)).update s.heap.objs.size (Obj.mapSeq (· ++ vs.toArray))})(hsz:vs.length<=sizeLine):wpAny (model prog w) A (collect (.ref l)) Q E s:=by
  obtain⟨o,ho,hc,n,hd⟩:=id hl
  unfold collect
  refine Wb (wpAny_runValue (codeAny_builtin entry_proto_collect' ?_))
  show wpAny _ _ (do again (.builtin "list.__iadd__" ⟨[<-newList [],.ref l],[]⟩)) _ _ s
  refine Wb (wpAny_newList (aA ⟨Code.quiet_builtin _ (by decide +kernel),codeAny_builtin entry_list_iadd' ?_⟩))
  show wpAny _ _ (Builtin.List.listExtendWith (.ref s.heap.objs.size) (.ref l) (.ref s.heap.objs.size)) _ _ {s with heap:=s.heap.push (seqObj "list" #[] 0)}
  unfold Builtin.List.listExtendWith
  have ho':(s.heap.push (seqObj "list" #[] 0)).get? l=some o:=aD _ ho
  refine Wb (wpAny_typeOf (T := "tuple") ⟨o,ho',hc⟩ ?_)
  have ht:(Value.type "tuple" == Value.type "tuple")=true:=by rfl
  rw[if_pos (by rw[ht];simp)]
  refine Wb (listItems_at ho' hd ?_)
  refine Wb (listItems_at (xs:=#[]) (n:=0) (aP _ rfl) rfl ?_)
  rw[if_neg (by simp)]
  refine Wb (listUpdate_at (xs:=#[]) (n:=0) (aP _ rfl) rfl ?_ (aj _) (by show(#[]++vs.toArray).size<=sizeLine+1;simp only[Array.size_append,List.size_toArray,List.length_nil];lia))
  refine aA ?_
  show wpAny (model prog w) A (do
      let o <-load s.heap.objs.size
      match o.data with
      |.seq xs _=>pure xs.toList
      |_=>unsupported "internal:collect") Q E {s with heap:=(s.heap.push (seqObj "list" #[] 0)).update s.heap.objs.size (Obj.mapSeq (· ++ vs.toArray))}
  refine Wb (wpAny_load (get?_update_seq (aP _ rfl) _) ?_)
  show wpAny _ _ (pure ((#[]:Array VL)++vs.toArray).toList) Q E _
  rw[show((#[]:Array VL)++vs.toArray).toList=vs by simp]
  exact aA h
def O5{l:AD}{vs:rT}{Q:List VL->SD->Prop}(I:s.heap.IsList l vs.toArray\/s.heap.IsTuple l vs.toArray) (h:Q vs {s with heap:=(s.heap.push (seqObj "list" #[] 0)).update s.heap.objs.size (Obj.mapSeq (· ++ vs.toArray))})(g:vs.length<=sizeLine):wpAny (model prog w) A (collect (.ref l)) Q E s:=I.elim (fun z=>collect_list z h g) fun z=>Vv z h g
def O1{l:AD}{us:rT}{t:Tr}{Q:rV}(Y:s.heap.IsList l us.toArray\/s.heap.IsTuple l us.toArray)(e:Vs s.heap t us)(T:us.length<64)(Z:A.units+2+t.deep<=cLine) (h:∀(h':Heap) (ix:rk) (U:Nat),ix.length=us.length->(∀i∈ix,i<us.length)->(ix.map fun i=>t.bs.getD i .nil)=(Tr.CQ t.bs).reverse->(∀c o,s.heap.get? c=some o->h'.get? c=some o) ->h'.get? (s.heap.objs.size+1)=some (seqObj "list" (ix.map fun i=>us.getD i Value.none).toArray U)->Q (.ref (s.heap.objs.size+1)) {s with heap:=h'}):wpAny (model prog w) A (call (.builtin "sorted") [.ref l]) Q E s:=by
 refine Calls.call_function_entry kind_sorted plain_sorted entry_sorted (args_sorted1 _) ?_;unfold Builtin.«sorted»;refine Wb (m:=checkCount "sorted" 1 1 _) (aA ?_);refine Wb (O5 Y ?_ (by rw[sizeLine_eq];lia));refine Wb (wpAny_newList ?_ (by rw[sizeLine_eq];lia));have g:((s.heap.push (seqObj "list" #[] 0)).update s.heap.objs.size (Obj.mapSeq (· ++ us.toArray))).objs.size=s.heap.objs.size+1:=by
  rw[Heap.size_update,size_push']
 have O:(((s.heap.push (seqObj "list" #[] 0)).update s.heap.objs.size (Obj.mapSeq (· ++ us.toArray))).push (seqObj "list" us.toArray 0)).get? (s.heap.objs.size+1)=some (seqObj "list" us.toArray 0):=by
  rw[<-g];exact aP _ rfl
 have keep:∀b o,s.heap.get? b=some o->o.cls=.type "tuple" ->(((s.heap.push (seqObj "list" #[] 0)).update s.heap.objs.size (Obj.mapSeq (· ++ us.toArray))).push (seqObj "list" us.toArray 0)).get? b=some o:=fun b o q _=>by
  have I:b<s.heap.objs.size:=aF q;rw[Heap.get?_push_ne _ _ _ (by rw[g];exact aK (av I)),Heap.get?_update_ne _ _ _ _ (aK I),Heap.get?_push_ne _ _ _ (aK I)];exact q
 show wpAny _ _ _ _ _ {s with heap:=((s.heap.push (seqObj "list" #[] 0)).update s.heap.objs.size (Obj.mapSeq (· ++ us.toArray))).push (seqObj "list" us.toArray 0)};rw[g];refine Wb (aV (aX slot_list_sort ⟨_,O,rfl⟩ entry_list_sort (Mo (s:={s with heap:=((s.heap.push (seqObj "list" #[] 0)).update s.heap.objs.size (Obj.mapSeq (· ++ us.toArray))).push (seqObj "list" us.toArray 0)}) O (e.keeps keep) T (by
  rw[show A.in1.in1.units=A.units+2 from rfl];lia) fun ix a1 a2 a3=>⟨_,rfl,?_⟩) (args_list_sort _)))
 obtain⟨U,R⟩:=sortedAll_at s.heap us (ix.map fun i=>us.getD i Value.none).toArray;exact aA ⟨_,rfl,h _ ix U a1 a2 a3 (fun _ _=>sortedAll_old) R⟩
def Np{l:AD}{us:rT}{t:Tr}{b:Bool}{Q:rV}(Y:s.heap.IsList l us.toArray\/s.heap.IsTuple l us.toArray)(e:Vs s.heap t us)(T:us.length<64)(Z:A.units+2+t.deep<=cLine) (h:∀(h':Heap) (ix:rk) (U:Nat),ix.length=us.length->(∀i∈ix,i<us.length)->(ix.map fun i=>t.bs.getD i .nil)=(if b then Tr.CQ t.bs else(Tr.CQ t.bs).reverse)->(∀c o,s.heap.get? c=some o->h'.get? c=some o) ->h'.get? (s.heap.objs.size+1)=some (seqObj "list" (ix.map fun i=>us.getD i Value.none).toArray U)->Q (.ref (s.heap.objs.size+1)) {s with heap:=h'}):wpAny (model prog w) A (call (.builtin "sorted") [.ref l] [(Str.ofString "reverse",.bool b)]) Q E s:=by
 refine call_function_entry_kw kind_sorted plain_sorted entry_sorted (args_sorted_rev _ _) ?_;unfold Builtin.«sorted»;refine Wb (m:=checkCount "sorted" 1 1 _) (aA ?_);refine Wb (O5 Y ?_ (by rw[sizeLine_eq];lia));refine Wb (wpAny_newList ?_ (by rw[sizeLine_eq];lia));have g:((s.heap.push (seqObj "list" #[] 0)).update s.heap.objs.size (Obj.mapSeq (· ++ us.toArray))).objs.size=s.heap.objs.size+1:=by
  rw[Heap.size_update,size_push']
 have O:(((s.heap.push (seqObj "list" #[] 0)).update s.heap.objs.size (Obj.mapSeq (· ++ us.toArray))).push (seqObj "list" us.toArray 0)).get? (s.heap.objs.size+1)=some (seqObj "list" us.toArray 0):=by
  rw[<-g];exact aP _ rfl
 have keep:∀b o,s.heap.get? b=some o->o.cls=.type "tuple" ->(((s.heap.push (seqObj "list" #[] 0)).update s.heap.objs.size (Obj.mapSeq (· ++ us.toArray))).push (seqObj "list" us.toArray 0)).get? b=some o:=fun b o q _=>by
  have I:b<s.heap.objs.size:=aF q;rw[Heap.get?_push_ne _ _ _ (by rw[g];exact aK (av I)),Heap.get?_update_ne _ _ _ _ (aK I),Heap.get?_push_ne _ _ _ (aK I)];exact q
 show wpAny _ _ _ _ _ {s with heap:=((s.heap.push (seqObj "list" #[] 0)).update s.heap.objs.size (Obj.mapSeq (· ++ us.toArray))).push (seqObj "list" us.toArray 0)};rw[g];refine Wb (aV (wpAny_call_entry_kw slot_list_sort ⟨_,O,rfl⟩ entry_list_sort (Nx (b:=b) (s:={s with heap:=((s.heap.push (seqObj "list" #[] 0)).update s.heap.objs.size (Obj.mapSeq (· ++ us.toArray))).push (seqObj "list" us.toArray 0)}) O (e.keeps keep) T (by
  rw[show A.in1.in1.units=A.units+2 from rfl];lia) fun ix a1 a2 a3=>⟨_,rfl,?_⟩) (args_list_sort_rev _ _)))
 obtain⟨U,R⟩:=sortedAll_at s.heap us (ix.map fun i=>us.getD i Value.none).toArray;exact aA ⟨_,rfl,h _ ix U a1 a2 a3 (fun _ _=>sortedAll_old) R⟩
end
end TH
namespace L2
open PySem PySem.Spec PyProof.Rows
def Vals.pick{xs:List V}{us:List VL}(r:Vals xs us):∀ix:List Nat,(∀i∈ix,i<xs.length)->Vals (ix.map fun i=>xs.getD i .BP) (ix.map fun i=>us.getD i Value.none)
 |[],_=>.nil
 |i::ix,h=>by
  refine .cons ?_ (Vals.pick r ix fun k hk=>h k (aO _ hk));have hi:=h i aS;obtain⟨u,I,g⟩:=r.get (i:=i) (x:=xs[i]) (by simp[hi]);show RelV (xs.getD i .BP) (us.getD i Value.none);rw[List.getD_eq_getElem?_getD,List.getD_eq_getElem?_getD,I,List.getElem?_eq_getElem hi];exact g
section
variable{X:Cx}
def nF(K:Fg):List V->Hp->VK->Prop:=fun xs H Q=>∃(p:AD) (ys:List V) (t:Tr),xs=[.ref p]/\(Al K H p ys\/BC K H p ys)/\Ts H t ys/\ys.length<64/\t.deep<=60 /\
 ∀(l:AD) (g:List V),H l=none->Ts H (Tr.of (Tr.CQ t.bs).reverse) g->Q (.ref l) (upd H l (.lst g))
def b8(K:Fg):List V->Hp->VK->Prop:=fun xs H Q=>∃(p:AD) (ys:List V) (t:Tr),xs=[.ref p]/\(Al K H p ys\/BC K H p ys)/\Ts H t ys/\ys.length<64/\t.deep<=60 /\
 ∀(l:AD) (g:List V),H l=none->Ts H (Tr.of (Tr.CQ t.bs)) g->Q (.ref l) (upd H l (.lst g))
def Md{pins:List (AD×Obj)}{σ:St}{H:Hp}{s:SD}{Q:VK}{t:Tr}{ts:rz}{ys:rq}{g:rT}{h':Heap}{ix:rk}{Z:Nat}(I:Inv X pins σ H s)(ht:Ts H t ys)(U:Vals ys g)(R:ys.length<64) (a1:ix.length=g.length)(a2:∀i∈ix,i<g.length)(a3:(ix.map fun i=>t.bs.getD i .nil)=ts)(keep:∀c o,s.heap.get? c=some o->h'.get? c=some o) (hD:h'.get? (s.heap.objs.size+1)=some (seqObj "list" (ix.map fun i=>g.getD i Value.none).toArray Z))(q:∀(l:AD) (T:rq),H l=none->Ts H (Tr.of ts) T->Q (.ref l) (upd H l (.lst T))):EP X pins σ Q (.ref (s.heap.objs.size+1)) {s with heap:=h'}:=by
 have Y:=U.length;have O:∀i∈ix,i<ys.length:=fun i hi=>by rw[Y];exact a2 i hi
 refine⟨.ref (s.heap.objs.size+1),upd H (s.heap.objs.size+1) (.lst (ix.map fun i=>ys.getD i .BP)),I.laid (t':=s.toks) keep (Nat.le_succ _) ⟨?_,_,Z,U.pick ix O,hD⟩,rfl,q _ _ (I.Ap.fresh (Nat.le_succ _)) ?_⟩
 .rw[List.length_map,a1,<-Y];exact ay (aL R (by rw[sizeLine_eq];decide))
 .rw[<-a3];exact ht.pick ix O
def Yo(hu:X.A.units+64<cLine):D4 X (.builtin "sorted") (nF X.K):=by
 intro pins s σ H xs us Q I r h;obtain⟨p,ys,t,rfl,R,U,T,hd,q⟩:=h;obtain⟨u,rfl,Z⟩:=r.one;cases Z;rcases R with R|R
 .obtain⟨O,g,pl,hz⟩:=I.list R;have hl:=g.length;exact TH.O1 (.inl pl.isList) (U.vs I g) (by lia) (by lia) fun h' ix e1 a1 a2 a3 keep Y=>Md I U g T a1 a2 a3 keep Y q
 .obtain⟨O,g,pl,hz⟩:=I.tuple R;have hl:=g.length;exact TH.O1 (.inr (show s.heap.IsTuple p O.toArray from pl)) (U.vs I g) (by lia) (by lia) fun h' ix e1 a1 a2 a3 keep Y=>Md I U g T a1 a2 a3 keep Y q
def cG{e:Expr}{t:TA}{p pos kp kp2:Pos}{j}(hu:X.A.units+64<cLine)(hg:Gl X "sorted")(hm:X.mg "sorted" = none)(ha:PA X [e] t) (he:backTo pos (starEach [e] X.env)=(false,eval e X.env)::backTo pos (starEach [] X.env):=by rfl)(g:(backTo pos (starEach [e] X.env)).any (·.1)=false:=by rfl):PE X (.Call (.Name "sorted" p) [e] [⟨some "reverse",.Constant (.bool true) j kp2,kp⟩] pos) (fun σ H Q=>t σ H fun vs H1=>b8 X.K vs H1 Q):=by
 intro pins s σ H Q I h;refine wpAny_Call_Name_kw (HH I hg hm boot_sorted ?_ (by decide) (by decide));refine callWith_kw (BG (ha pos pins s σ H _ I h) fun us s1 ⟨vs,H1,R,r1,q1⟩=>kws_cons (Constant_bool (kws_nil ?_))) he g;obtain⟨p,ys,t,rfl,U,Z,Y,hd,q⟩:=q1;obtain⟨u,rfl,r2⟩:=r1.one;cases r2;rcases U with U|U
 .obtain⟨T,O,pl,hz⟩:=R.list U;have hl:=O.length;exact TH.Np (b:=true) (.inl pl.isList) (Z.vs R O) (by lia) (by lia) fun h' ix e1 a1 a2 a3 keep hD=>Md R Z O Y a1 a2 a3 keep hD q
 .obtain⟨T,O,pl,hz⟩:=R.tuple U;have hl:=O.length;exact TH.Np (b:=true) (.inr (show s1.heap.IsTuple p T.toArray from pl)) (Z.vs R O) (by lia) (by lia) fun h' ix e1 a1 a2 a3 keep hD=>Md R Z O Y a1 a2 a3 keep hD q
def jP{e k:Expr}{te tk:TE}{pos p2:Pos}(he:PE X e te)(hk:PE X k tk):PE X (.Subscript e (.Slice none none (some k) p2) pos) (fun σ H Q=>te σ H fun x Z=>tk σ Z fun z Y=>∃(a:AD) (xs:rq),x=.ref a/\z=.int (-1)/\Al X.K Y a xs/\∀p,Y p=none->Q (.ref p) (upd Y p (.lst xs.reverse))):=by
 intro pins s σ H Q I h;refine Subscript_ (BG (he pins s σ H _ I h) fun v s1 ⟨x,Z,I1,r1,q1⟩=>?_);refine wpAny_Slice ?_;rw[evalPart_none];refine aA ?_;refine aA ?_;rw[evalPart_some];refine BG (hk pins s1 σ Z _ I1 q1) fun vk g ⟨z,H3,I3,r3,q3⟩=>?_;obtain⟨a,xs,rfl,rfl,hq,q⟩:=q3;cases r1;obtain⟨O,rfl⟩:=r3;have U:Inv X pins σ H3 {g with heap:=g.heap.push { cls:=.type "slice",data:=.fields #[.none,.none,.int (-1) O]} }:=I3.kept (t':=g.toks) fun b ob q=>aD _ q;obtain⟨R,rv,pl,hz⟩:=U.list hq;have hlen:=rv.length;show wpAny (model X.prog X.w) X.A (subscriptTail e (.Slice none none (some k) p2) (.ref a) (.ref g.heap.objs.size)) (EP X pins σ Q) X.xe {g with heap:=g.heap.push { cls:=.type "slice",data:=.fields #[.none,.none,.int (-1) O]} };refine tail_any (ops:=[.ref a,.ref g.heap.objs.size]) (T := "list") pl.isList.typeIs slot_list_getitem.lookup ?_ (by with_unfolding_all rfl);refine wpAny_getItem_list_slice pl.isList (Heap.IsSliceOf.new ..) .none .none (.int (-1) O) (by decide) ?_ (by rw[List.size_toArray]<;>lia);rw[PySem.W.krv_pick];refine⟨.ref _,_,U.laid (t':=g.toks) (o:=.lst xs.reverse) (fun b ob q=>aD _ q) (aH _) ?_,rfl,q _ (U.Ap.fresh (aH _))⟩;exact⟨by rw[List.length_reverse];exact hz,R.reverse,0,rv.reverse,Heap.get?_push_size _ rfl⟩
end
def CW(Pv:Nat->List V->Hp->Prop)(n:Nat)(D:AD):Nat->Nat->List V->Hp->Prop:=fun i m ys H=>m=n-i/\i<=n/\H D=some (.lst ys)/\Pv i ys H
def GF{Pv:Nat->List V->Hp->Prop}{n i:Nat}{D:AD}{ys:rq}{y:V}{H:Hp}(hi:i<n)(p:Pv (i+1) (ys++[y]) (upd H D (.lst (ys++[y])))):∃g,g<n-i/\CW Pv n D (i+1) g (ys++[y]) (upd H D (.lst (ys++[y]))) :=
 ⟨n-(i+1),by lia,rfl,hi,AN,p⟩
def gW{Pv:Nat->List V->Hp->Prop}{n i:Nat}{D:AD}{ys:rq}{H:Hp}(hi:i<n)(I:H D=some (.lst ys))(p:Pv (i+1) ys H):∃g,g<n-i/\CW Pv n D (i+1) g ys H:=⟨n-(i+1),by lia,rfl,hi,I,p⟩
def IA{J:It}{n:Nat}{D:AD}{H1:Hp}{fr:sF}{σ:St}{ix:Nat}{O:TT}{te:TE}{G:Hp->Prop}(Pv:Nat->List V->Hp->Prop)(h0:Pv 0 [] (upd H1 D (.lst []))) (Y:∀i ys H,i<n->Pv i ys H->H D=some (.lst ys)->J.go i H/\ys.length<sizeLine/\∀x H',J.F4 i H x H' ->O ((carry fr σ).set ix (some x)) H' fun b T=>if b=true then te ((carry fr σ).set ix (some x)) T fun y R=>R D=some (.lst ys)/\∃g,g<n-i/\CW Pv n D (i+1) g (ys++[y]) (upd R D (.lst (ys++[y]))) else ∃g,g<n-i/\CW Pv n D (i+1) g ys T) (I:∀ys H,Pv n ys H->H D=some (.lst ys)->J.stop n H/\G H):∃W:Nat->Nat->List V->Hp->Prop,(∃m,W 0 m [] (upd H1 D (.lst []))) /\∀i m ys H,W i m ys H->H D=some (.lst ys)/\((J.stop i H/\G H)\/(J.go i H/\ys.length<sizeLine/\∀x H',J.F4 i H x H' ->O ((carry fr σ).set ix (some x)) H' fun b T=>if b=true then te ((carry fr σ).set ix (some x)) T fun y R=>R D=some (.lst ys)/\∃g,g<m/\W (i+1) g (ys++[y]) (upd R D (.lst (ys++[y]))) else ∃g,g<m/\W (i+1) g ys T)):=by
 refine⟨CW Pv n D,⟨n,by simp,Nat.zero_le _,AN,h0⟩,?_⟩;rintro i m ys H ⟨rfl,hi,Z,p⟩;refine⟨Z,?_⟩;by_cases U:i<n
 .exact .inr (Y i ys H U p Z)
 .have e:i=n:=by lia
  subst e;exact .inl (I ys H p Z)
section
variable{X:Cx}
def P7(hc:X.calm=true):D4 X (.builtin "sum") (fun xs H Q=>∃(p:AD) (ns:rd),xs=[.ref p]/\Al X.K H p (ns.map V.int)/\Q (.int ns.sum) H):=by
 intro pins s σ H xs us Q I r h;obtain⟨p,ns,rfl,Z,q⟩:=h;obtain⟨u,rfl,Y⟩:=r.one;cases Y;obtain⟨g,U,pl,hz⟩:=I.list Z;have hi:=intsAre_of U;obtain⟨xs,T⟩:=hi.allInts.items;have O:s.heap.IsList p (intItems xs):=T ▸ pl.isList
 refine sum_intListG (I.ok.hd hc) O fun h' tk R hk=>?_;have e1:ns=xs.toList.map (·.1):=by
  rw[<-nums_intItems,<-T];exact(show numsOf g.toArray.toList=ns from hi.numsOf).symm
 have e2:preSum (numAt xs) xs.size=ns.sum:=by
  rw[preSum_eq,List.take_of_length_le (by simp),e1]
 rw[e2];exact⟨.int _,H,I.kept (t':=tk) hk,⟨R,rfl⟩,q⟩
end
section
variable{X:Cx}{scope:Scope}{cl:List (Str×AD)}{N:rf}{C:AD}{s₀:SD}{H₀:Hp}{fp:sC}
def OG:O6 (A6 X scope cl N C s₀ H₀ fp) (dn X.K):=Li
end
mutual
def Dt(l:AD)(H:Hp):PD->V->Prop
 |.none,v=>v=.BP
 |.bool b,v=>v=.bl b
 |.int i,v=>v=.int i
 |.str x,v=>v=.str x
 |.tuple g,v=>∃(a:AD) (xs:List V),v=.ref a/\a≠l/\H a=some (.tup xs)/\BA l H g xs
 |.list g,v=>∃(a:AD) (xs:List V),v=.ref a/\a≠l/\H a=some (.lst xs)/\BA l H g xs
 |.dict _,_=>False
def BA(l:AD)(H:Hp):List PD->List V->Prop
 |[],xs=>xs=[]
 |d::g,xs=>∃x r,xs=x::r/\Dt l H d x/\BA l H g r
end
mutual
def Dt.but{l:AD}{H H':Hp}(e:SameBut l H H'):∀ {d:PD} {v:V},Dt l H d v->Dt l H' d v
 |.none,_,h=>by rw[Dt]at h ⊢;exact h
 |.bool _,_,h=>by rw[Dt]at h ⊢;exact h
 |.int _,_,h=>by rw[Dt]at h ⊢;exact h
 |.str _,_,h=>by rw[Dt]at h ⊢;exact h
 |.tuple _,_,h=>by
  rw[Dt]at h ⊢;obtain⟨a,xs,O,n,I,g⟩:=h;exact⟨a,xs,O,n,e _ _ n I,BA.but e g⟩
 |.list _,_,h=>by
  rw[Dt]at h ⊢;obtain⟨a,xs,O,n,I,g⟩:=h;exact⟨a,xs,O,n,e _ _ n I,BA.but e g⟩
 |.dict _,_,h=>by rw[Dt]at h;exact h.elim
def BA.but{l:AD}{H H':Hp}(e:SameBut l H H'):∀ {ds:List PD} {xs:List V},BA l H ds xs->BA l H' ds xs
 |[],_,h=>by rw[BA]at h ⊢;exact h
 |_::_,_,h=>by
  rw[BA]at h ⊢;obtain⟨x,r,O,I,g⟩:=h;exact⟨x,r,O,Dt.but e I,BA.but e g⟩
end
def Dt.same{l:AD}{H H':Hp}{d:PD}{v:V}(h:Dt l H d v)(e:AJ H H'):Dt l H' d v:=Dt.but (.of e) h
def BA.same{l:AD}{H H':Hp}{d:rS}{v:rq}(h:BA l H d v)(e:AJ H H'):BA l H' d v:=BA.but (.of e) h
def BA.len{l:AD}{H:Hp}:∀ {ds:List PD} {xs:List V},BA l H ds xs->xs.length=ds.length
 |[],_,h=>by rw[BA]at h;rw[h];rfl
 |_::_,_,h=>by
  rw[BA]at h;obtain⟨x,r,rfl,_,g⟩:=h;rw[List.length_cons,List.length_cons,BA.len g]
def BA.get{l:AD}{H:Hp}:∀ {ds:List PD} {xs:List V} {i:Nat} {v:V},BA l H ds xs->xs[i]? = some v->∃d,ds[i]? = some d/\Dt l H d v
 |[],_,i,v,h,e=>by rw[BA]at h;subst h;simp at e
 |d::ds,_,i,v,h,e=>by
  rw[BA]at h;obtain⟨x,r,rfl,O,I⟩:=h;cases i with
  |zero=>simp at e;subst e;exact⟨d,rfl,O⟩
  |succ i=>
   obtain⟨c,q1,g⟩:=I.get (i:=i) (v:=v) (by simpa using e);exact⟨c,by simpa using q1,g⟩
def BA.nil{l:AD}{H:Hp}:BA l H [] []:=by rw[BA]
def BA.cons{l:AD}{H:Hp}{d:PD}{ds:rS}{x:V}{xs:rq}(h:Dt l H d x)(k:BA l H ds xs):BA l H (d::ds) (x::xs):=by
 rw[BA];exact⟨x,xs,rfl,h,k⟩
def Dt.int{l:AD}{H:Hp}{i:Int}:Dt l H (.int i) (.int i):=by rw[Dt]
def Dt.bool{l:AD}{H:Hp}{b:Bool}:Dt l H (.bool b) (.bl b):=by rw[Dt]
def Dt.BP{l:AD}{H:Hp}:Dt l H .none .BP:=by rw[Dt]
def Dt.str{l:AD}{H:Hp}{x:Str}:Dt l H (.str x) (.str x):=by rw[Dt]
def Dt.tup{l a:AD}{H:Hp}{ds:rS}{xs:rq}(n:a≠l)(h:H a=some (.tup xs))(k:BA l H ds xs):Dt l H (.tuple ds) (.ref a):=by rw[Dt];exact⟨a,xs,rfl,n,h,k⟩
def Dt.lst{l a:AD}{H:Hp}{ds:rS}{xs:rq}(n:a≠l)(h:H a=some (.lst xs))(k:BA l H ds xs):Dt l H (.list ds) (.ref a):=by rw[Dt];exact⟨a,xs,rfl,n,h,k⟩
def Ok(n:Nat)(d:PD):Prop:=d.canLay0=true/\d.depth<=n
def Gj(n:Nat)(ds:rS):Prop:=PyData.canLayAll0 ds=true/\PyData.depthAll ds<=n
def Ok.shaped{n:Nat}{d:PD}(h:Ok n d)(hn:n<=64):SeqAt.shaped d=true:=by
 unfold SeqAt.shaped;rw[h.1,Bool.true_and];exact decide_eq_true (aR h.2 hn)
def Gj.nil{n:Nat}:Gj n []:=⟨by simp[PyData.canLayAll0],by simp[PyData.depthAll]⟩
def Gj.cons{n:Nat}{d:PD}{ds:rS}(h:Ok n d)(k:Gj n ds):Gj n (d::ds):=⟨by simp[PyData.canLayAll0,h.1,k.1],by simp only[PyData.depthAll];exact Nat.max_le.mpr ⟨h.2,k.2⟩⟩
def Gj.of{n:Nat}:∀ {ds:List PD},(∀d∈ds,Ok n d)->Gj n ds
 |[],_=>.nil
 |d::ds,h=>.cons (h d aS) (Gj.of fun e g=>h e (aO _ g))
def Ok.tup{n:Nat}{ds:rS}(h:Gj n ds):Ok (n+1) (.tuple ds):=⟨by simp only[PyData.canLay0];exact h.1,by simp only[PyData.depth];exact Nat.succ_le_succ h.2⟩
def Ok.lst{n:Nat}{ds:rS}(h:Gj n ds):Ok (n+1) (.list ds):=⟨by simp only[PyData.canLay0];exact h.1,by simp only[PyData.depth];exact Nat.succ_le_succ h.2⟩
def Ok.int{n:Nat}{i:Int}:Ok n (.int i):=⟨by simp[PyData.canLay0],by simp[PyData.depth]⟩
def Ok.bool{n:Nat}{b:Bool}:Ok n (.bool b):=⟨by simp[PyData.canLay0],by simp[PyData.depth]⟩
def Ok.BP{n:Nat}:Ok n .none:=⟨by simp[PyData.canLay0],by simp[PyData.depth]⟩
def Ok.str{n:Nat}{x:Str}(h:PyData.strOk x=true):Ok n (.str x):=⟨by simp[PyData.canLay0,h],by simp[PyData.depth]⟩
mutual
def MA:∀d:PD,d.canLay0=true->PyData.eqv d d=true
 |.none,_=>by simp[PyData.eqv]
 |.bool _,_=>by simp[PyData.eqv]
 |.int _,_=>by simp[PyData.eqv]
 |.str _,_=>by simp[PyData.eqv]
 |.tuple g,h=>by simp only[PyData.eqv];exact K4 g (by simpa only[PyData.canLay0]using h)
 |.list g,h=>by simp only[PyData.eqv];exact K4 g (by simpa only[PyData.canLay0]using h)
 |.dict _,h=>by simp[PyData.canLay0]at h
def K4:∀ds:List PD,PyData.canLayAll0 ds=true->PyData.eqvAll ds ds=true
 |[],_=>by simp[PyData.eqvAll]
 |d::ds,h=>by
  simp only[PyData.canLayAll0,Bool.and_eq_true]at h;simp only[PyData.eqvAll,MA d h.1,K4 ds h.2,Bool.and_self]
end
def RT:PD->String
 |.none => "NoneType"
 |.bool _ => "bool"
 |.int _ => "int"
 |.str _ => "str"
 |.tuple _ => "tuple"
 |.list _ => "list"
 |.dict _ => "dict"
def Nl:PD->Bool
 |.tuple _=>true
 |_=>false
def Qr:PD->Bool
 |.list _=>true
 |_=>false
def Q2:PD->Bool
 |.int _=>true
 |.bool _=>true
 |_=>false
def OD:PD->Bool
 |.bool _=>true
 |_=>false
def L3(K:Fg):∀d:PD,(∀g,d≠.dict g)->PySem.W.kitOne K (.type (RT d)) (.type "tuple")=some (Nl d)
 |.none,_=>kA K
 |.bool _,_=>lR K
 |.int _,_=>mK K
 |.str _,_=>lL K
 |.tuple _,_=>jw K
 |.list _,_=>lz K
 |.dict g,h=>absurd rfl (h g)
def QB(K:Fg):∀d:PD,(∀g,d≠.dict g)->PySem.W.kitOne K (.type (RT d)) (.type "list")=some (Qr d)
 |.none,_=>kG K
 |.bool _,_=>mz K
 |.int _,_=>mV K
 |.str _,_=>jH K
 |.tuple _,_=>jV K
 |.list _,_=>mf K
 |.dict g,h=>absurd rfl (h g)
def mM(K:Fg):PySem.W.kitOne K (.type "NoneType") (.type "bool")=some false:=by kernel_rfl
def k8(K:Fg):PySem.W.kitOne K (.type "str") (.type "bool")=some false:=by kernel_rfl
def ju(K:Fg):PySem.W.kitOne K (.type "tuple") (.type "bool")=some false:=by kernel_rfl
def jQ(K:Fg):PySem.W.kitOne K (.type "list") (.type "bool")=some false:=by kernel_rfl
def PX(K:Fg):∀d:PD,(∀g,d≠.dict g)->PySem.W.kitOne K (.type (RT d)) (.type "int")=some (Q2 d)
 |.none,_=>lM K
 |.bool _,_=>lB K
 |.int _,_=>mS K
 |.str _,_=>kR K
 |.tuple _,_=>mR K
 |.list _,_=>kn K
 |.dict g,h=>absurd rfl (h g)
def NH(K:Fg):∀d:PD,(∀g,d≠.dict g)->PySem.W.kitOne K (.type (RT d)) (.type "bool")=some (OD d)
 |.none,_=>mM K
 |.bool _,_=>jl K
 |.int _,_=>kI K
 |.str _,_=>k8 K
 |.tuple _,_=>ju K
 |.list _,_=>jQ K
 |.dict g,h=>absurd rfl (h g)
end L2
namespace Tr
def Uo{t c:Tr}(h:c∈t.bs):c.deep<t.deep:=by
 induction t with
 |nil=>cases h
 |cons b r _ g=>
  rw[bs]at h;have hd:(cons b r).deep=max (b.deep+1) r.deep:=rfl;rcases aM.mp h with rfl|h
  .lia
  .have:=g h;lia
def Df:∀t:Tr,0<t.Ae
 |.nil=>Nat.one_pos
 |.cons b r=>by rw[Ae];have:=Df b;lia
def Kj{t c:Tr}(h:c∈t.bs):c.Ae<t.Ae:=by
 induction t with
 |nil=>cases h
 |cons b r _ g=>
  rw[bs]at h;have hk:(cons b r).Ae=b.Ae+r.Ae:=rfl;have O:=Df b;have I:=Df r;rcases aM.mp h with rfl|h
  .lia
  .have:=g h;lia
def Sw:∀t:Tr,1+(t.bs.map fun c=>(c.Ae:Int)).sum=(t.Ae:Int)
 |.nil=>rfl
 |.cons b r=>by
  rw[bs,List.map_cons,List.sum_cons,Ae];have:=Sw r
  lia
def Nj:∀t:Tr,t.bs.length<t.Ae
 |.nil=>Nat.one_pos
 |.cons b r=>by
  rw[bs,List.length_cons,Ae];have:=Nj r;have:=Df b
  lia
def dp:Tr->Nat
 |.nil=>1
 |.cons b r=>b.Ae*b.dp*r.dp
def NL(t:Tr):Nat:=t.Ae*t.dp
end Tr
namespace L2
open PySem PySem.Spec PyProof.Rows
def leaf:PD->Prop
 |.none=>True
 |.bool _=>True
 |.int _=>True
 |.str x=>PyData.strOk x=true
 |_=>False
def Sm:Nat->PD->Prop
 |0,d=>leaf d
 |n+1,d=>leaf d\/∃g,(d=.tuple g\/d=.list g)/\g.length<=60/\∀e∈g,Sm n e
def leaf.ok{n:Nat}:∀ {d:PD},leaf d->Ok n d
 |.none,_=>.BP
 |.bool _,_=>.bool
 |.int _,_=>.int
 |.str _,h=>.str h
def leaf.sm{n:Nat}{d:PD}(h:leaf d):Sm n d:=by
 cases n with
 |zero=>exact h
 |succ n=>exact .inl h
def Sm.ok:∀ {n:Nat} {d:PD},Sm n d->Ok n d
 |0,_,h=>leaf.ok h
 |n+1,d,h=>by
  rcases h with h|⟨R,O,_,I⟩
  .exact h.ok
  .have:=Gj.of fun e g=>(I e g).ok;rcases O with rfl|rfl
   .exact .tup this
   .exact .lst this
def Sm.up:∀ {n:Nat} {d:PD},Sm n d->Sm (n+1) d
 |0,_,h=>.inl h
 |n+1,d,h=>by
  rcases h with h|⟨T,R,O,I⟩
  .exact .inl h
  .exact .inr ⟨T,R,O,fun e g=>(I e g).up⟩
def Sm.tup{n:Nat}{ds:rS}(h:ds.length<=60)(k:∀e∈ds,Sm n e):Sm (n+1) (.tuple ds):=.inr ⟨ds,.inl rfl,h,k⟩
def Sm.lst{n:Nat}{ds:rS}(h:ds.length<=60)(k:∀e∈ds,Sm n e):Sm (n+1) (.list ds):=.inr ⟨ds,.inr rfl,h,k⟩
mutual
def E9:PD->Option Tr
 |.tuple g=>DD g
 |_=>none
def DD:List PD->Option Tr
 |[]=>some .nil
 |d::g=>(E9 d).bind fun b=>(DD g).map fun r=>.cons b r
end
section
variable{X:Cx}
def oV:R2:=fun x y H Q=>∃a b xs ys,x=.ref a/\y=.ref b/\H a=some (.tup xs)/\H b=some (.tup ys)/\xs.length+ys.length<=sizeLine/\∀p H',AJ H H'->H' p=some (.tup (xs++ys))->Q (.ref p) H'
def gP:C6 X (binaryOp .Add) oV:=by
 intro pins s σ H x y v u Q I rx ry h;obtain⟨a,b,xs,ys,rfl,rfl,ha,hb,hz,q⟩:=h;cases rx;cases ry;obtain⟨Z,Y,p1,_⟩:=I.tuple (BC.of (K:=X.K) ha);obtain⟨its2,U,p2,_⟩:=I.tuple (BC.of (K:=X.K) hb);by_cases hv:Z=[]
 .have hx:=Y.WT.mp hv;subst hv hx;obtain⟨⟨cls,dd,data,sl⟩,ho,hc,n,hd⟩:=id p1;obtain⟨⟨cls2,dd2,data2,T⟩,g,R,n2,O⟩:=id p2;simp only at hc hd R O;subst hc hd R O;exact concat_meets ⟨_,ho,rfl⟩ ⟨_,g,rfl⟩ noFill_tuple_add seq_tuple_add PySem.F.slot_tuple_add PySem.F.entry_tuple_add (PySem.F.args_tuple_add_2 _ _)
   (tuple_addW0 a b _ _ n n2 dd dd2 sl T (by simp)) ⟨ho,g,⟨.ref b,H,I,rfl,q b H (.refl H) (by simpa using hb)⟩⟩
 .refine HT.iZ p1 p2 hv (fun z=>?_) (fun z=>?_) (by rw[<-Y.length,<-U.length];exact hz)
  .have hy:=U.WT.mp z;subst hy;exact⟨.ref a,H,I,rfl,q a H (.refl H) (by simpa using ha)⟩
  .refine⟨.ref s.heap.objs.size,_,I.laid (t':=s.toks) (o:=.tup (xs++ys)) (fun b ob q=>aD _ q) (aH _) ?_,rfl,q _ _ (Ac (I.Ap.fresh (aH _)) _) AN⟩;exact⟨by rw[List.length_append];exact hz,_,Y.append U,IsTup.new _ _⟩
end
end L2
namespace Tim
open PySem PyProof.Rows
def Wi:Bool->Keyed->Array Keyed->Nat->Nat->Nat->StateT SortSt Sem (Option Nat):=sortPriv% PySem.Builtin.gallop
def eE:Array Keyed->Array Keyed->StateT SortSt Sem (Array Keyed):=sortPriv% PySem.Builtin.mergeLo
def iter{T:Type}(step:T->Option (Bool×T)):Nat->T->Option T
 |0,t=>some t
 |n+1,t=>match step t with
  |none=>none
  |some (true,g)=>some g
  |some (false,g)=>iter step n g
section pure
variable(N:Nat)(lt:Nat->Nat->Bool)
def cmp(i j:Nat):Option Bool:=if i<N/\j<N then some (lt i j) else none
def at2(p:rZ)(i j:Nat):Option Bool:=match p[i]?,p[j]? with
 |some x,some y=>cmp N lt x y
 |_,_=>none
def turn(p:rZ)(i j:Nat):rZ:=mirror p i j ((j-i) / 2)
def HQ(p:rZ)(lo:Nat)(n:Nat):Option (Bool×Nat):=match at2 N lt p (lo+n) (lo+n-1) with
 |none=>none
 |some true=>some (true,n)
 |some false=>some (false,n+1)
def MW(lo:Nat)(t:rZ×Nat×Nat):Option (Bool×rZ×Nat×Nat):=match at2 N lt t.1 (lo+t.2.1) (lo+t.2.1-1) with
 |none=>none
 |some true=>some (false,(if t.2.2 > 0 then turn t.1 (lo+t.2.1-(t.2.2+1)) (lo+t.2.1) else t.1),t.2.1+1,0)
 |some false=>match at2 N lt t.1 (lo+t.2.1-1) (lo+t.2.1) with
  |none=>none
  |some true=>some (true,t)
  |some false=>some (false,t.1,t.2.1+1,t.2.2+1)
def OT(p:rZ)(lo nrem n:Nat):Option (Nat×rZ):=match iter (MW N lt lo) (nrem-(n+1)) (p,n+1,0) with
 |none=>none
 |some (p,n,q)=>
  let p:=if q > 0 then turn p (lo+n-(q+1)) (lo+n) else p
  let p:=turn p lo (lo+n)
  (iter (HQ N lt p lo) (nrem-n) n).map fun m=>(m,p)
def QR(p:rZ)(lo nrem:Nat):Option (Nat×rZ):=match iter (HQ N lt p lo) (nrem-1) 1 with
 |none=>none
 |some n=>if n==nrem then some (n,p) else if n > 1 then match at2 N lt p lo (lo+n-1) with
   |none=>none
   |some true=>some (n,p)
   |some false=>OT N lt (turn p lo (lo+n)) lo nrem n
  else OT N lt p lo nrem n
def LJ(p:rZ)(lo k:Nat)(t:Nat×Nat):Option (Bool×Nat×Nat):=if t.1 >= t.2 then some (true,t) else match at2 N lt p (lo+k) (lo+(t.1+t.2) / 2) with
 |none=>none
 |some true=>some (false,t.1,(t.1+t.2) / 2)
 |some false=>some (false,(t.1+t.2) / 2+1,t.2)
def K7(lo:Nat):Nat->Nat->Array Nat->Option (Array Nat)
 |0,_,p=>some p
 |f+1,k,p=>match iter (LJ N lt p lo k) k (0,k) with
  |none=>none
  |some (l,_)=>K7 lo f (k+1) (bubble p (lo+k) (lo+k-(lo+l)))
def Jf(left:Bool)(key:Nat)(p:rZ)(base i:Nat):Option Bool:=match p[base+i]? with
 |none=>none
 |some x=>if left then cmp N lt x key else(cmp N lt key x).map (!·)
def ZF(b:Nat->Option Bool)(hint g:Nat)(t:Nat×Nat):Option (Bool×Nat×Nat):=if t.2 >= g then some (true,t) else match b (hint+t.2) with
 |none=>none
 |some true=>some (false,t.2,2*t.2+1)
 |some false=>some (true,t)
def ZJ(b:Nat->Option Bool)(hint g:Nat)(t:Nat×Nat):Option (Bool×Nat×Nat):=if t.2 >= g then some (true,t) else match b (hint-t.2) with
 |none=>none
 |some true=>some (true,t)
 |some false=>some (false,t.2,2*t.2+1)
def Iu(b:Nat->Option Bool)(t:Nat×Nat):Option (Bool×Nat×Nat):=if t.1 >= t.2 then some (true,t) else match b (t.1+(t.2-t.1) / 2) with
 |none=>none
 |some true=>some (false,t.1+(t.2-t.1) / 2+1,t.2)
 |some false=>some (false,t.1,t.1+(t.2-t.1) / 2)
def Xl(b:Nat->Option Bool)(n hint:Nat):Option Nat:=match b hint with
 |none=>none
 |some true=>match iter (ZF b hint (n-hint)) n (0,1) with
  |none=>none
  |some (l,o)=>(iter (Iu b) n (hint+l+1,hint+min o (n-hint))).map (·.2)
 |some false=>match iter (ZJ b hint (hint+1)) n (0,1) with
  |none=>none
  |some (l,o)=>(iter (Iu b) n (hint+1-min o (hint+1),hint-l)).map (·.2)
end pure
section
variable{M:Model}{A:Around}{E:rV}{s:SD}{σ:Type}
def UL{T O:Type}{I:Nat->O->StateT σ Sem (ForInStep O)}(step:T->Option (Bool×T))(g:T->O)(toS:T->σ){Q:O->σ->Prop}
 (hb:∀x t b t',step t=some (b,t')->∀R:ForInStep O->σ->Prop,R (if b=true then .done (g t') else .yield (g t')) (toS t')->wpS M A E s (I x (g t)) R (toS t)) :
  ∀(l:List Nat) (t t':T),iter step l.length t=some t'->Q (g t') (toS t')->wpS M A E s (forIn l (g t) I) Q (toS t)
 |[],t,t',h,q=>by
  cases h;rw[List.forIn_nil];exact aJ q
 |x::l,t,t',h,q=>by
  rw[List.forIn_cons];rw[List.length_cons,iter]at h;cases e:step t with
  |none=>rw[e]at h;cases h
  |some r=>
   obtain⟨b,U⟩:=r;rw[e]at h;refine aE (hb x t b U e _ ?_);cases b with
   |true=>
    simp only[if_true];cases h;exact aJ q
   |false=>
    simp only[Bool.false_eq_true,if_false];exact UL step g toS hb l U t' h q
def CT{T O:Type}{a b:Nat}{I:Nat->O->StateT σ Sem (ForInStep O)}(step:T->Option (Bool×T))(g:T->O)(toS:T->σ){Q:O->σ->Prop}{t t':T}(h:iter step (b-a) t=some t') (hb:∀x t b t',step t=some (b,t')->∀R:ForInStep O->σ->Prop,R (if b=true then .done (g t') else .yield (g t')) (toS t')->wpS M A E s (I x (g t)) R (toS t))(q:Q (g t') (toS t')):wpS M A E s (forIn [a:b] (g t) I) Q (toS t):=by
 rw[Std.Legacy.Range.forIn_eq_forIn_range'];have U:([a:b]:Std.Legacy.Range).size=b-a:=by simp[Std.Legacy.Range.size]
 show wpS M A E s (forIn (List.range' a ([a:b]:Std.Legacy.Range).size 1) (g t) I) Q (toS t);rw[U];exact UL step g toS hb _ t t' (by rw[List.length_range'];exact h) q
end
section
variable{prog:Program}{w:World}{A:Around}{E:rV}{s:SD}{N:Nat}{lt:Nat->Nat->Bool}{κ:SortKind}{it:Nat->Keyed}
def Cm(prog:Program)(w:World)(A:Around)(s:SD)(κ:SortKind)(it:Nat->Keyed)(N:Nat)(lt:Nat->Nat->Bool):Prop :=
 ∀(i j:Nat) (E:VL->SD->Prop) (Q:Bool->SD->Prop),i<N->j<N->Q (lt i j) s->wpAny (model prog w) A (keyLt' κ (it i).1 (it j).1) Q E s
abbrev St(κ:SortKind)(it:Nat->Keyed)(p:Array Nat)(pend:Array (Nat×Nat×Nat))(g:Nat):SortSt:=SortSt.mk' κ (p.map it) pend g none
variable{p:rZ}{pend:Array (Nat×Nat×Nat)}{g:Nat}
def T3(O:Cm prog w A s κ it N lt){i j:Nat}{b:Bool}(h:cmp N lt i j=some b){Q:Option Bool->SortSt->Prop}(q:Q (some b) (St κ it p pend g)):wpS (model prog w) A E s (lt' (it i) (it j)) Q (St κ it p pend g):=by
 unfold cmp at h;split at h
 .rename_i I;cases h;rw[lt'_eq];refine aE (wpS_get ?_);refine aE (wpS_lift (wpAny_attempt (O i j _ _ I.1 I.2 ⟨rfl,?_⟩)));exact aJ q
 .cases h
def OA{xs:rZ}{k i:Nat}(h:xs[k]? = some i){Q:Keyed->SortSt->Prop}{st:SortSt}(q:Q (it i) st):wpS (model prog w) A E s (elem' (xs.map it) k) Q st:=by
 rw[elem'_eq,Array.getElem?_map,h];exact aJ q
def Dh(hc : Cm prog w A s κ it N lt){i j : Nat}{b : Bool}(h : at2 N lt p i j = some b){Q : Option Bool->SortSt->Prop}(q : Q (some b) (St κ it p pend g)):wpS (model prog w) A E s (ltAt' i j) Q (St κ it p pend g):=by
  unfold at2 at h
  split at h
  . rename_i x y h1 h2
    rw [ltAt'_eq]
    refine aE (wpS_get ?_)
    show wpS _ _ _ _ (do let x <- elem' (p.map it) i; let y <- elem' (p.map it) j; lt' x y) Q _
    exact aE (OA h1 (aE (OA h2 (T3 hc h q))))
  . cases h
def NN{O R:Type}(f:O->R)(u v:Nat->Nat):∀(l:List Nat) (xs:Array O),l.foldl (fun a k=>a.swapIfInBounds (u k) (v k)) (xs.map f)=(l.foldl (fun a k=>a.swapIfInBounds (u k) (v k)) xs).map f
 |[],_=>rfl
 |k::l,xs=>by
  have e:(xs.map f).swapIfInBounds (u k) (v k)=(xs.swapIfInBounds (u k) (v k)).map f:=by
   apply Array.ext_getElem?;intro m;by_cases hi:u k<xs.size
   .by_cases I:v k<xs.size
    .rw[getElem?_swapIB (by rw[Array.size_map];exact hi) (by rw[Array.size_map];exact I)];simp only[Array.getElem?_map];rw[getElem?_swapIB hi I];by_cases U:v k=m<;>by_cases T:u k=m<;>simp[U,T]
    .rw[Array.swapIfInBounds_def,Array.swapIfInBounds_def];simp[hi,I]
   .rw[Array.swapIfInBounds_def,Array.swapIfInBounds_def];simp[hi]
  show l.foldl (fun a k=>a.swapIfInBounds (u k) (v k)) ((xs.map f).swapIfInBounds (u k) (v k))=_;rw[e];exact NN f u v l _
def F8{i j:Nat}{Q:Unit->SortSt->Prop}(q:Q () (St κ it (turn p i j) pend g)):wpS (model prog w) A E s (reverseSlice' i j) Q (St κ it p pend g):=by
 rw[reverseSlice'_eq];refine bJ ?_;have e:mirror (p.map it) i j ((j-i) / 2)=(mirror p i j ((j-i) / 2)).map it:=NN it (fun k=>i+k) (fun k=>j-1-k) _ p;show Q () (SortSt.mk' κ (mirror (p.map it) i j ((j-i) / 2)) pend g none);rw[e];exact q
def gH{i j:Nat}{Q:Unit->SortSt->Prop}(q:Q () (St κ it (bubble p i (i-j)) pend g)):wpS (model prog w) A E s (moveDown' i j) Q (St κ it p pend g):=by
 rw[moveDown'_eq];refine bJ ?_;have e:bubble (p.map it) i (i-j)=(bubble p i (i-j)).map it:=NN it (fun k=>i-k) (fun k=>i-k-1) _ p;show Q () (SortSt.mk' κ (bubble (p.map it) i (i-j)) pend g none);rw[e];exact q
def KD(hc:Cm prog w A s κ it N lt){left:Bool}{key:Nat}{xs:rZ}{base i:Nat}{b:Bool}(h:Jf N lt left key xs base i=some b){Q:Option Bool->SortSt->Prop}(q:Q (some b) (St κ it p pend g)) :
    wpS (model prog w) A E s (do
        let x <-elem' (xs.map it) (base+i)
        if left=true then lt' x (it key)
          else do
            let c <-lt' (it key) x
            pure (Option.map (fun x=>!x) c)) Q (St κ it p pend g):=by
  unfold Jf at h
  split at h
  . cases h
  . rename_i x hx
    refine aE (OA hx ?_)
    cases left with
    |true=>
      simp only[if_true]at h ⊢
      exact T3 hc h q
    |false=>
      simp only[Bool.false_eq_true,if_false]at h ⊢
      cases e:cmp N lt key x with
      |none=>rw[e]at h;cases h
      |some c=>
        rw[e]at h
        cases h
        exact aE (T3 hc e (aJ q))
def Y9(hc:Cm prog w A s κ it N lt){left:Bool}{key:Nat}{xs:rZ}{base n hint k:Nat}(h:Xl (Jf N lt left key xs base) n hint=some k){Q:Option Nat->SortSt->Prop}(q:Q (some k) (St κ it p pend g)):wpS (model prog w) A E s (Wi left (it key) (xs.map it) base n hint) Q (St κ it p pend g):=by
 unfold Xl at h;refine aE ?_;have fin:∀ {lo hi:Nat},(iter (Iu (Jf N lt left key xs base)) n (lo,hi)).map (·.2)=some k->∃Z ,iter (Iu (Jf N lt left key xs base)) n (lo,hi)=some (Z,k):=fun {lo hi} z=>by
  cases e:iter (Iu (Jf N lt left key xs base)) n (lo,hi) with
  |none=>rw[e]at z;cases z
  |some t=>rw[e]at z;cases z;exact⟨t.1,rfl⟩
 cases e0:Jf N lt left key xs base hint with
 |none=>rw[e0]at h;cases h
 |some right=>
  rw[e0]at h;refine KD hc e0 ?_;have bis:∀(Y:Nat->Option (Option Nat)×Nat×Nat->StateT SortSt Sem (ForInStep (Option (Option Nat)×Nat×Nat))) (K:Option (Option Nat)×Nat×Nat->StateT SortSt Sem (Option Nat)),
    (∀x lo hi (R:ForInStep (Option (Option Nat)×Nat×Nat)->SortSt->Prop),lo >= hi->R (.done (none,lo,hi)) (St κ it p pend g)->wpS (model prog w) A E s (Y x (none,lo,hi)) R (St κ it p pend g)) ->
    (∀x lo hi c (R:ForInStep (Option (Option Nat)×Nat×Nat)->SortSt->Prop),¬lo >= hi->Jf N lt left key xs base (lo+(hi-lo) / 2)=some c->R (.yield (if c=true then(none,lo+(hi-lo) / 2+1,hi) else(none,lo,lo+(hi-lo) / 2))) (St κ it p pend g)->wpS (model prog w) A E s (Y x (none,lo,hi)) R (St κ it p pend g)) ->
    (∀lo hi,K (none,lo,hi)=pure (some hi))->∀lo hi,(iter (Iu (Jf N lt left key xs base)) n (lo,hi)).map (·.2)=some k->wpS (model prog w) A E s (forIn [0:n] (none,lo,hi) Y>>=K) Q (St κ it p pend g):=by
   intro Y K h1 h2 h3 lo hi hz;obtain⟨Z,e⟩:=fin hz;refine aE (CT (T:=Nat×Nat) (Iu (Jf N lt left key xs base)) (fun t=>(none,t.1,t.2)) (fun _=>St κ it p pend g) (t:=(lo,hi)) e (fun x t b t' O R U=>?_) ?_)
   .unfold Iu at O;split at O
    .rename_i I;cases O;exact h1 x t.1 t.2 R I U
    .rename_i I;split at O
     .cases O
     .rename_i hb;cases O;exact h2 x t.1 t.2 true R I hb U
     .rename_i hb;cases O;exact h2 x t.1 t.2 false R I hb U
   .show wpS _ _ _ _ (K (none,Z,k)) _ _;rw[h3];exact aJ q
  cases right with
  |true=>
   simp only[if_true]at h ⊢;split at h
   .cases h
   .rename_i l o e1;refine aE (CT (T:=Nat×Nat) (ZF (Jf N lt left key xs base) hint (n-hint)) (fun t=>(none,t.1,t.2)) (fun _=>St κ it p pend g) (t:=(0,1)) e1 (fun x t b t' O R U=>?_) ?_)
    .unfold ZF at O;split at O
     .rename_i I;cases O;show wpS _ _ _ _ (if t.2 >= n-hint then _ else _) _ _;rw[if_pos I];exact aJ U
     .rename_i I;show wpS _ _ _ _ (if t.2 >= n-hint then _ else _) _ _;rw[if_neg I];split at O
      .cases O
      .rename_i hb;cases O;exact aE (KD hc hb (aJ U))
      .rename_i hb;cases O;exact aE (KD hc hb (aJ U))
    .refine bis _ _ (fun x lo hi R I U=>?_) (fun x lo hi c R I hb U=>?_) (fun _ _=>rfl) _ _ h
     .dsimp only;rw[if_pos I];exact aJ U
     .dsimp only;rw[if_neg I];refine aE (KD hc hb ?_);cases c with
      |true=>exact aJ U
      |false=>exact aJ U
  |false=>
   simp only[Bool.false_eq_true,if_false]at h ⊢;split at h
   .cases h
   .rename_i l o e1;refine aE (CT (T:=Nat×Nat) (ZJ (Jf N lt left key xs base) hint (hint+1)) (fun t=>(none,t.1,t.2)) (fun _=>St κ it p pend g) (t:=(0,1)) e1 (fun x t b t' O R U=>?_) ?_)
    .unfold ZJ at O;split at O
     .rename_i I;cases O;show wpS _ _ _ _ (if t.2 >= hint+1 then _ else _) _ _;rw[if_pos I];exact aJ U
     .rename_i I;show wpS _ _ _ _ (if t.2 >= hint+1 then _ else _) _ _;rw[if_neg I];split at O
      .cases O
      .rename_i hb;cases O;exact aE (KD hc hb (aJ U))
      .rename_i hb;cases O;exact aE (KD hc hb (aJ U))
    .refine bis _ _ (fun x lo hi R I U=>?_) (fun x lo hi c R I hb U=>?_) (fun _ _=>rfl) _ _ h
     .dsimp only;rw[if_pos I];exact aJ U
     .dsimp only;rw[if_neg I];refine aE (KD hc hb ?_);cases c with
      |true=>exact aJ U
      |false=>exact aJ U
def KH(hc:Cm prog w A s κ it N lt){lo n:Nat}{b:Bool}{t':Nat}(h:HQ N lt p lo n=some (b,t')){R:ForInStep (Option (Option Nat)×Nat)->SortSt->Prop}(hR:R (if b=true then .done (none,t') else .yield (none,t')) (St κ it p pend g)) :
    wpS (model prog w) A E s (do
      let x <-ltAt' (lo+n) (lo+n-1)
      match x with
      |some smaller=>if smaller=true then pure (ForInStep.done (none,n)) else pure (ForInStep.yield (none,n+1))
      |_=>pure (ForInStep.done (some none,n))) R (St κ it p pend g):=by
  unfold HQ at h
  split at h
  . cases h
  . rename_i hb
    cases h
    exact aE (Dh hc hb (aJ hR))
  . rename_i hb
    cases h
    exact aE (Dh hc hb (aJ hR))
def cb(Z:Cm prog w A s κ it N lt){lo nrem m:Nat}{p':rZ}(h:QR N lt p lo nrem=some (m,p')){Q:Option Nat->SortSt->Prop}(q:Q (some m) (St κ it p' pend g)):wpS (model prog w) A E s (countRun' lo nrem) Q (St κ it p pend g):=by
 unfold QR at h;split at h
 .cases h
 .rename_i n e1;refine aE (CT (T:=Nat) (HQ N lt p lo) (fun t=>(none,t)) (fun _=>St κ it p pend g) e1 (fun x t b t' I R O=>KH Z I O) ?_);dsimp only;split at h
  .rename_i hn;cases h;rw[if_pos hn];exact aJ q
  .rename_i hn;rw[if_neg hn];split at h
   .rename_i hn1;rw[if_pos hn1];split at h
    .cases h
    .rename_i hb;cases h;exact aE (Dh Z hb (aJ q))
    .rename_i hb;refine aE (Dh Z hb ?_);dsimp only;rw[if_neg (by decide)];refine aE (F8 ?_);obtain⟨p1,hp1⟩:∃p1,p1=turn p lo (lo+n):=⟨_,rfl⟩;rw[<-hp1]at h ⊢;refine aE (wpS_lift (aq ⟨rfl,?_⟩));unfold OT at h;split at h
     .cases h
     .rename_i p2 n2 q2 e2;refine aE (CT (T:=Array Nat×Nat×Nat) (MW N lt lo) (fun t=>(none,t.2)) (fun t=>St κ it t.1 pend g) (t:=(p1,n+1,0)) e2 (fun x t b t' I R O=>?_) ?_)
      .unfold MW at I;split at I
       .cases I
       .rename_i hb;cases I;refine aE (Dh Z hb ?_);dsimp only at O ⊢;rw[if_pos rfl];by_cases hq:t.2.2 > 0
        .rw[if_pos hq]at O ⊢;exact aE (F8 (aJ O))
        .rw[if_neg hq]at O ⊢;exact aJ O
       .rename_i hb;refine aE (Dh Z hb ?_);dsimp only;rw[if_neg (by decide)];split at I
        .cases I
        .rename_i hb2;cases I;exact aE (Dh Z hb2 (aJ O))
        .rename_i hb2;cases I;exact aE (Dh Z hb2 (aJ O))
      .dsimp only at h ⊢;obtain⟨Y,U⟩:∃Y,Y=turn (if q2 > 0 then turn p2 (lo+n2-(q2+1)) (lo+n2) else p2) lo (lo+n2):=⟨_,rfl⟩;rw[<-U]at h;cases e3:iter (HQ N lt Y lo) (nrem-n2) n2 with
       |none=>rw[e3]at h;cases h
       |some m'=>
        rw[e3]at h;obtain⟨rfl,h4⟩:m'=m/\Y=p':=by simpa using h
        rw[<-h4]at q;by_cases hq:q2 > 0
        .rw[if_pos hq]at U ⊢;refine aE (F8 (aE (F8 ?_)));rw[<-U];exact aE (CT (T:=Nat) (HQ N lt Y lo) (fun t=>(none,t)) (fun _=>St κ it Y pend g) e3 (fun x t b t' I R O=>KH Z I O) (aJ q))
        .rw[if_neg hq]at U ⊢;refine aE (F8 ?_);rw[<-U];exact aE (CT (T:=Nat) (HQ N lt Y lo) (fun t=>(none,t)) (fun _=>St κ it Y pend g) e3 (fun x t b t' I R O=>KH Z I O) (aJ q))
   .rename_i hn1;rw[if_neg hn1];refine aE (wpS_lift (aq ⟨rfl,?_⟩));unfold OT at h;split at h
    .cases h
    .rename_i p2 n2 q2 e2;refine aE (CT (T:=Array Nat×Nat×Nat) (MW N lt lo) (fun t=>(none,t.2)) (fun t=>St κ it t.1 pend g) (t:=(p,n+1,0)) e2 (fun x t b t' I R O=>?_) ?_)
     .unfold MW at I;split at I
      .cases I
      .rename_i hb;cases I;refine aE (Dh Z hb ?_);dsimp only at O ⊢;rw[if_pos rfl];by_cases hq:t.2.2 > 0
       .rw[if_pos hq]at O ⊢;exact aE (F8 (aJ O))
       .rw[if_neg hq]at O ⊢;exact aJ O
      .rename_i hb;refine aE (Dh Z hb ?_);dsimp only;rw[if_neg (by decide)];split at I
       .cases I
       .rename_i hb2;cases I;exact aE (Dh Z hb2 (aJ O))
       .rename_i hb2;cases I;exact aE (Dh Z hb2 (aJ O))
     .dsimp only at h ⊢;obtain⟨Y,U⟩:∃Y,Y=turn (if q2 > 0 then turn p2 (lo+n2-(q2+1)) (lo+n2) else p2) lo (lo+n2):=⟨_,rfl⟩;rw[<-U]at h;cases e3:iter (HQ N lt Y lo) (nrem-n2) n2 with
      |none=>rw[e3]at h;cases h
      |some m'=>
       rw[e3]at h;obtain⟨rfl,h4⟩:m'=m/\Y=p':=by simpa using h
       rw[<-h4]at q;by_cases hq:q2 > 0
       .rw[if_pos hq]at U ⊢;refine aE (F8 (aE (F8 ?_)));rw[<-U];exact aE (CT (T:=Nat) (HQ N lt Y lo) (fun t=>(none,t)) (fun _=>St κ it Y pend g) e3 (fun x t b t' I R O=>KH Z I O) (aJ q))
       .rw[if_neg hq]at U ⊢;refine aE (F8 ?_);rw[<-U];exact aE (CT (T:=Nat) (HQ N lt Y lo) (fun t=>(none,t)) (fun _=>St κ it Y pend g) e3 (fun x t b t' I R O=>KH Z I O) (aJ q))
def Uw{R:Option Bool×Unit->SortSt->Prop}{I:Nat->Option Bool×Unit->StateT SortSt Sem (ForInStep (Option Bool×Unit))}{lo:Nat}{O:Array Nat}(T:R (none,()) (St κ it O pend g))
 (hb:∀(k:Nat) (p:Array Nat) (t:Nat×Nat),iter (LJ N lt p lo k) k (0,k)=some t->∀U:ForInStep (Option Bool×Unit)->SortSt->Prop,U (.yield (none,())) (St κ it (bubble p (lo+k) (lo+k-(lo+t.1))) pend g)->wpS (model prog w) A E s (I k (none,())) U (St κ it p pend g)) :
  ∀(f k:Nat) (p:Array Nat),K7 N lt lo f k p=some O->wpS (model prog w) A E s (forIn (List.range' k f 1) (none,()) I) R (St κ it p pend g)
 |0,k,p,h=>by
  cases h;exact aJ T
 |f+1,k,p,h=>by
  rw[List.range'_succ,List.forIn_cons];rw[K7]at h;split at h
  .cases h
  .rename_i l r e;exact aE (hb k p _ e _ (Uw T hb f (k+1) _ h))
def jG(hc:Cm prog w A s κ it N lt){lo n ok:Nat}{p':rZ}(h:K7 N lt lo (n-max ok 1) (max ok 1) p=some p'){Q:Bool->SortSt->Prop}(q:Q true (St κ it p' pend g)):wpS (model prog w) A E s (binarySort' lo n ok) Q (St κ it p pend g):=by
 refine aE ?_;rw[Std.Legacy.Range.forIn_eq_forIn_range'];have U:([max ok 1:n]:Std.Legacy.Range).size=n-max ok 1:=by simp[Std.Legacy.Range.size]
 show wpS _ _ _ _ (forIn (List.range' (max ok 1) ([max ok 1:n]:Std.Legacy.Range).size 1) _ _) _ _;rw[U];refine Uw (N:=N) (lt:=lt) (lo:=lo) (aJ q) (fun k p2 t e R' Y=>?_) _ _ _ h;refine aE (CT (T:=Nat×Nat) (LJ N lt p2 lo k) (fun t=>(none,t.1,t.2)) (fun _=>St κ it p2 pend g) (t:=(0,k)) e (fun x t b t' I R Z=>?_) ?_)
 .unfold LJ at I;split at I
  .rename_i O;cases I;dsimp only;rw[if_pos O];exact aJ Z
  .rename_i O;dsimp only;rw[if_neg O];split at I
   .cases I
   .rename_i hb;cases I;exact aE (Dh hc hb (aJ Z))
   .rename_i hb;cases I;exact aE (Dh hc hb (aJ Z))
 .exact aE (gH (aJ Y))
section pure
end pure
def LL{M:Model}{σ I:Type}{c:Prop}[Decidable c]{x y:StateT σ Sem I}{Q:I->σ->Prop}{st:σ}(h:c)(k:wpS M A E s x Q st):wpS M A E s (if c then x else y) Q st:=by rw[if_pos h];exact k
def Jc{M:Model}{σ I:Type}{c:Prop}[Decidable c]{x y:StateT σ Sem I}{Q:I->σ->Prop}{st:σ}(h:¬c)(k:wpS M A E s y Q st):wpS M A E s (if c then x else y) Q st:=by rw[if_neg h];exact k
def Uv(p:rZ)(at_:Nat)(m:rZ):rZ:=m.toList.zipIdx.foldl (fun a x=>a.setIfInBounds (at_+x.2) x.1) p
section pure
end pure
def Wo(p:rZ)(at_:Nat)(m:rZ):(m.map it).toList.zipIdx.foldl (fun a (x:Keyed×Nat)=>a.setIfInBounds (at_+x.2) x.1) (p.map it)=(Uv p at_ m).map it:=by
 unfold Uv;rw[Array.toList_map];have key:∀(l:List Nat) (k:Nat) (p:Array Nat),((l.map it).zipIdx k).foldl (fun a (x:Keyed×Nat)=>a.setIfInBounds (at_+x.2) x.1) (p.map it)=((l.zipIdx k).foldl (fun a x=>a.setIfInBounds (at_+x.2) x.1) p).map it:=by
  intro l
  induction l with
  |nil=>intro k p;rfl
  |cons x l I=>
   intro k p;rw[List.map_cons,List.zipIdx_cons,List.zipIdx_cons,List.foldl_cons,List.foldl_cons,<-I]
   congr 1
   simp
 exact key _ 0 p
def iD{M:Model}{σ:Type}{Q:PUnit->σ->Prop}{st st':σ}(h:Q ⟨⟩ st'):wpS M A E s (set st':StateT σ Sem PUnit) Q st:=by
 unfold wpS;rw[StateT.run_set];exact aA ⟨rfl,h⟩
end
end Tim
namespace L2
open PySem PySem.Spec PyProof.Rows
abbrev Y1(x y:Str)(O I:Pos)(tk:Nat)(g:Pos):Expr:=.Tuple [.Name x O,.Name y I] tk g
def gQ{ix g:Nat}(h:ix≠g)(σ:St)(a b c d:Option V):((((σ.set ix a).set g b).set ix c).set g d)=(σ.set ix c).set g d:=by
 rw[List.set_comm _ _ h.symm,List.set_set,List.set_set]
def ZS(K:Fg)(wi:TI)(fr:sF)(ix T:Nat)(R:TT)(te:TE):TE:=fun σ H Q=>wi σ H fun J Z=>∀D,Z D=none->∃W:Nat->Nat->List V->Hp->Prop,(∃m,W 0 m [] (upd Z D (.lst []))) /\
 ∀i m ys H,W i m ys H->H D=some (.lst ys)/\((J.stop i H/\Q (.ref D) H)\/(J.go i H/\ys.length<sizeLine/\∀x H',J.F4 i H x H'->∃a O I,x=.ref a/\BC K H' a [O,I] /\
  R (((carry fr σ).set ix (some O)).set T (some I)) H' fun b Y=>if b=true then te (((carry fr σ).set ix (some O)).set T (some I)) Y fun y U=>U D=some (.lst ys)/\∃g,g<m/\W (i+1) g (ys++[y]) (upd U D (.lst (ys++[y])))
   else ∃g,g<m/\W (i+1) g ys Y))
section
variable{X:Cx}{elt iter:Expr}{x y:Str}{px py tp pos:Pos}{tk:Nat}{ifs:rg}{scope:Scope}{wi:TI}{fr:sF}{ix iy:Nat}{tif:TT}{te:TE}{N:rf}
def WD{pins:List (AD×Obj)}{σ:St}{O:Hp}{s2:SD}{Q:VK}{it:AD}{fp:sC}{tn:Nat->Heap->Prop}{J:It}{cl:List (Str×AD)}{E:rV}{RR:VL->AD->Result->SD->Prop} (S:Ed scope N x ix)(S2:Ed scope N y iy)(hxy:ix≠iy)(I:X.calm=true)(hfr:GU N X.N scope X.env.scope fr 0=true)(hlen:fr.length=N.length) (hif:∀cl C s₀ H₀ fp,Mp (A6 X scope cl N C s₀ H₀ fp) ifs tif)(he:∀cl C s₀ H₀ fp,PE (A6 X scope cl N C s₀ H₀ fp) elt te) (I2:Inv X pins σ O s2)(T:Turn X.prog X.w X.K (Y1 x y px py tk tp) J fp it tn)(st2:tn 0 s2.heap)(f2:∀b∈fp,LH X pins O b) (c1:∀x c,cl.lookup x=some c->X.env.cells.lookup x=some c)(c2:∀x∈scope.names,x.2=NameKind.free->∃c,cl.lookup x.1=some c) (W:∀D,O D=none->∃W:Nat->Nat->List V->Hp->Prop,(∃m,W 0 m [] (upd O D (.lst []))) /\∀i m ys H,W i m ys H->H D=some (.lst ys)/\((J.stop i H/\Q (.ref D) H)\/(J.go i H/\ys.length<sizeLine/\∀x H',J.F4 i H x H'->∃a Y U,x=.ref a/\BC X.K H' a [Y,U] /\tif (((carry fr σ).set ix (some Y)).set iy (some U)) H' fun b O=>if b=true then te (((carry fr σ).set ix (some Y)).set iy (some U)) O fun y H3=>H3 D=some (.lst ys)/\∃m',m'<m/\W (i+1) m' (ys++[y]) (upd H3 D (.lst (ys++[y]))) else ∃m',m'<m/\W (i+1) m' ys O))) (fin:∀(D C:AD) (s':SD) (H':Hp) m,s'.heap.Ns C m->Q (.ref D) H'->(∀h',Heap.SameBut C s'.heap h'->Inv X pins σ H' { s' with heap:=h'})->C≠D->(∀b o,s2.heap.get? b=some o->b≠C)->H' C=none->s2.heap.objs.size<=C->RR (.ref D) C (.ok .next) s'):wpAny (model X.prog X.w) X.A (newList []) (fun acc s₃=>wpAny (model X.prog X.w) X.A (newFunctionEnv scope X.env.globals cl [] X.env.qual none .none (some X.env)) (fun R s₄ => codeAny (model X.prog X.w) X.A (.compStart (.ListComp elt [⟨Y1 x y px py tk tp,iter,ifs,0⟩] scope pos) 0 (.ref it) acc {R with scope:=relabel scope X.env}) (RR acc R.locals) s₄) E s₃) E s2:=by
 have hxv:(relabel scope X.env).names.lookup x=some .local:=lookup_relabel_local S.loc;have hyv:(relabel scope X.env).names.lookup y=some .local:=lookup_relabel_local S2.loc;refine O8 (g:=dk X.K 2 (RJ (GC ix) (RJ (GC iy) cc))) S I (fun Z=>∀v w,(Z.set ix v).set iy w=((carry fr σ).set ix v).set iy w) (fun _ _=>rfl) (fun C=>NV (X:=A6 X scope cl N C s2 O fp) I (Ef (BJ (X:=A6 X scope cl N C s2 O fp) S.nd S.at_ (.inl hxv) (.inr hxv)) (Ef (BJ (X:=A6 X scope cl N C s2 O fp) S2.nd S2.at_ (.inl hyv) (.inr hyv)) LK))) hfr hlen hif he I2 T st2 f2 c1 c2 (fun D hD=>?_) fin;obtain⟨W,w0,st⟩:=W D hD;refine⟨W,w0,fun i m ys H w=>?_⟩;obtain⟨h1,h2|⟨h2,h3,h4⟩⟩:=st i m ys H w
 .exact⟨h1,.inl h2⟩
 .refine⟨h1,.inr ⟨h2,h3,fun x H' hy Z hr=>?_⟩⟩;obtain⟨a,Y,U,rfl,hs,q⟩:=h4 x H' hy;rw[<-hr]at q;exact⟨a,[Y,U],rfl,hs,rfl,Y,[U],rfl,U,[],rfl,rfl,fun v w=>by rw[gQ hxy,hr],q⟩
def eK(S:Ed scope N x ix)(S2:Ed scope N y iy)(hxy:ix≠iy)(U:X.calm=true)(hfr:GU N X.N scope X.env.scope fr 0=true)(Y:fr.length=N.length)(O:∀y∈scope.names,y.2=.free->X.env.scope.names.lookup y.1=some .cell\/X.env.scope.names.lookup y.1=some .free) (hi:PI X (Y1 x y px py tk tp) iter wi)(hif:∀cl C s₀ H₀ fp,Mp (A6 X scope cl N C s₀ H₀ fp) ifs tif)(he:∀cl C s₀ H₀ fp,PE (A6 X scope cl N C s₀ H₀ fp) elt te) (hs:∀x,foldedSetIterable iter X.env x=pure x:=by intro _;rfl):PE X (.ListComp elt [⟨Y1 x y px py tk tp,iter,ifs,0⟩] scope pos) (ZS X.K wi fr ix iy tif te):=by
 intro pins s σ H Q I hw;obtain⟨cl,R,c1,_,c2⟩:=HN (env:=X.env) scope.names [] (fun y hy hf=>I.ok.has y.1 (O y hy hf)) (fun y c z=>by cases z);have g:closureFor scope X.env=pure cl:=by
  have e:closureFor scope X.env=((forIn scope.names [] (fun(x:Str×NameKind) (r:List (Str×AD))=>do if(x.2==NameKind.free)=true then do let a <-cellOf X.env x.1;pure (ForInStep.yield ((x.1,a)::r)) else pure (ForInStep.yield r)):Sem (List (Str×AD)))>>=fun cs=>pure cs):=rfl;rw[e,R]
  rfl
 rw[eval_ListComp];refine wpAny_comprehension_free (use:=none) rfl hs g S.kind S.names (BG (hi pins s σ H _ I hw) fun v s1 h1=>BG h1 fun itv s2 h2=>?_);obtain⟨it,fp,tn,J,H2,e,I2,T,Z,f2,W⟩:=h2;subst e;refine WD (RR:=fun acc C=>compPost (model X.prog X.w) X.A X.xe none (EP X pins σ Q) acc C) S S2 hxy U hfr Y hif he I2 T Z f2 c1 c2 W ?_;intro D C s' H' m hn q hI _ _ _ _;exact⟨m,hn,fun h' hs'=>⟨.ref D,H',hI h' hs',rfl,q⟩⟩
end
section
variable{X:Cx}{elt iter:Expr}{x y:Str}{px py tp pos:Pos}{tk:Nat}{ifs:rg}{scope:Scope}{wi:TI}{tif:TT}{te:TE}
def TF(N:rf)(ix g:Nat)(fr:sF)(hi:PI X (Y1 x y px py tk tp) iter wi)(O:∀cl C s₀ H₀ fp,Mp (A6 X scope cl N C s₀ H₀ fp) ifs tif)(U:∀cl C s₀ H₀ fp,PE (A6 X scope cl N C s₀ H₀ fp) elt te) (h1:D8 scope N x ix=true:=by decide +kernel)(R:D8 scope N y g=true:=by decide +kernel)(I:ix≠g:=by decide)(h2:X.calm=true:=by rfl)(h3:GU N X.N scope X.env.scope fr 0=true:=by rfl)(Z:fr.length=N.length:=by rfl)(Y:freeOk X.env.scope scope.names=true:=by rfl) (T:∀x,foldedSetIterable iter X.env x=pure x:=by intro _;rfl):PE X (.ListComp elt [⟨.Tuple [.Name x px,.Name y py] tk tp,iter,ifs,0⟩] scope pos) (ZS X.K wi fr ix g tif te) :=
 eK (HR h1) (HR R) I h2 h3 Z (NW Y) hi O U T
end
def UP{K:Fg}{J:It}{n:Nat}{D:AD}{H1:Hp}{fr:sF}{σ:St}{ix Z:Nat}{T:TT}{te:TE}{G:Hp->Prop}(Pv:Nat->List V->Hp->Prop)(h0:Pv 0 [] (upd H1 D (.lst []))) (hgo:∀i ys H,i<n->Pv i ys H->H D=some (.lst ys)->J.go i H/\ys.length<sizeLine/\∀x H',J.F4 i H x H'->∃a O I,x=.ref a/\BC K H' a [O,I] /\T (((carry fr σ).set ix (some O)).set Z (some I)) H' fun b Y=>if b=true then te (((carry fr σ).set ix (some O)).set Z (some I)) Y fun y U=>U D=some (.lst ys)/\∃g,g<n-i/\CW Pv n D (i+1) g (ys++[y]) (upd U D (.lst (ys++[y]))) else ∃g,g<n-i/\CW Pv n D (i+1) g ys Y) (R:∀ys H,Pv n ys H->H D=some (.lst ys)->J.stop n H/\G H):∃W:Nat->Nat->List V->Hp->Prop,(∃m,W 0 m [] (upd H1 D (.lst []))) /\∀i m ys H,W i m ys H->H D=some (.lst ys)/\((J.stop i H/\G H)\/(J.go i H/\ys.length<sizeLine/\∀x H',J.F4 i H x H'->∃a O I,x=.ref a/\BC K H' a [O,I] /\T (((carry fr σ).set ix (some O)).set Z (some I)) H' fun b Y=>if b=true then te (((carry fr σ).set ix (some O)).set Z (some I)) Y fun y U=>U D=some (.lst ys)/\∃g,g<m/\W (i+1) g (ys++[y]) (upd U D (.lst (ys++[y]))) else ∃g,g<m/\W (i+1) g ys Y)):=by
 refine⟨CW Pv n D,⟨n,by simp,Nat.zero_le _,AN,h0⟩,?_⟩;rintro i m ys H ⟨rfl,hi,hH,p⟩;refine⟨hH,?_⟩;by_cases hlt:i<n
 .exact .inr (hgo i ys H hlt p hH)
 .have:i=n:=by lia
  subst this;exact .inl (R ys H p hH)
end L2
namespace ZT
open PySem PyProof.Rows
structure Apart(z TI TO i1 i2:Addr)(f1 f2:List Addr):Prop where
 a1:TI≠z/\TI≠TO/\TI≠i1/\TI≠i2
 a2:TO≠z/\TO≠i1/\TO≠i2
 a3:i1≠z/\i2≠z/\i1≠i2
 b1:z ∉ f1/\TO ∉ f1/\i2 ∉ f1
 b2:z ∉ f2/\TO ∉ f2/\i1 ∉ f2
section
variable{prog:Program}{w:World}{A:Around}{E:rV}{s:SD}{z TI TO i1 i2:AD}{f1 f2:sC}{n1 n2 k:Nat}{P1 P2:Nat->VL->Prop}{S1 S2:Nat->Heap->Prop}{a b:VL}
def EM{f:sC}{x:AD}{h h':Heap}(g:x ∉ f)(e:Heap.SameBut x h h'):∀c∈f,∀o,h.get? c=some o->h'.get? c=some o:=fun c I o q=>(e.2 c fun y=>g (y ▸ I)).trans q
def item{Q:rV}(D1:Draws prog w A i1 f1 n1 P1 S1)(Z:Draws prog w A i2 f2 n2 P2 S2)(ap:Apart z TI TO i1 i2 f1 f2)(hz:IsZip s.heap z TI TO .none)(hI:IsPair s.heap TI (.ref i1) (.ref i2))(hO:IsPair s.heap TO a b) (t1:S1 k s.heap)(t2:S2 k s.heap)(l1:k<n1)(l2:k<n2) (q:∀x y h' tk,P1 k x->P2 k y->IsZip h' z TI TO (rawInt s.heap.objs.size)->IsPair h' TO x y->S1 (k+1) h'->S2 (k+1) h'->IsPair h' s.heap.objs.size x y->h'.objs.size=s.heap.objs.size+1 ->(∀c o,c≠z->c≠TO->c≠i1->c≠i2->s.heap.get? c=some o->h'.get? c=some o)->Q (.ref s.heap.objs.size) {s with heap:=h',toks:=tk}):wpAny (model prog w) A (Builtin.«zip.__next__» ⟨[.ref z],[]⟩) (fun fin s'=>∃v,fin=.done (.ret v)/\Q v s') E s:=by
 obtain⟨⟨c1,c2,c3,c4⟩,⟨c5,c6,c7⟩,⟨c8,c9,c10⟩,⟨d1,d2,d3⟩,d4,d5,d6⟩:=ap;show wpAny _ _ (field (.ref z) 2>>=_) _ _ _;refine Wb (bC hz rfl (x:=.bool false) rfl ?_);show wpAny _ _ (field (.ref z) 3>>=_) _ _ _;refine Wb (bC hz rfl (x:=.ref TI) rfl (Wb (bE hI rfl ?_)));show wpAny _ _ (Builtin.SmallTypes.ownedTupleIsFree (.ref z)>>=_) _ _ _;unfold Builtin.SmallTypes.ownedTupleIsFree;refine Wb (Wb (bC hz rfl (x:=.none) rfl (aA ?_)));simp only[if_true];refine Wb (aq (Wb (bC hz rfl (x:=.ref TO) rfl (Wb (wpAny_setField_rec hz (by simp) fun g1 z1 U=>Wb ?_)))));have U:Heap.SameBut z s.heap g1:=U;have z1:IsZip g1 z TI TO .ellipsis:=z1;simp only[List.zipIdx_cons,List.zipIdx_nil,List.forIn_cons,List.forIn_nil];refine Wb (Wb (wpAny_onRaise ?_));show wpAny _ _ (Builtin.SmallTypes.nextOf (.ref i1)>>=_) _ _ _;refine Wb (D1.item k _ _ _ l1 (D1.frame _ _ _ t1 (EM d1 U)) fun x g2 tk2 p1 u1 T=>aA ?_);have o2:IsPair g2 TO a b:=(T.2 _ c6).trans ((U.2 _ c5).trans hO);refine Wb (bE o2 rfl (Wb (wpAny_updateSeq_pair o2 fun g3 o3 R=>Wb (wpAny_letGo (aA ?_)))));have o3:IsPair g3 TO x b:=o3;have t2':S2 k g3:=Z.frame _ _ _ (Z.frame _ _ _ (Z.frame _ _ _ t2 (EM d4 U)) (EM d6 T)) (EM d5 R);refine Wb (Wb (wpAny_onRaise ?_));show wpAny _ _ (Builtin.SmallTypes.nextOf (.ref i2)>>=_) _ _ _;refine Wb (Z.item k _ _ _ l2 t2' fun y g4 tk4 p2 u2 O=>aA ?_);have R:Heap.SameBut TO g2 g3:=R;have O:Heap.SameBut i2 g3 g4:=O;have o4:IsPair g4 TO x b:=(O.2 _ c7).trans o3;refine Wb (bE o4 rfl (Wb (wpAny_updateSeq_pair o4 fun g o5 I=>Wb (wpAny_letGo (aA (aA ?_))))));have I:Heap.SameBut TO g4 g:=I;have o5:IsPair g TO x y:=o5;refine Wb (bE o5 rfl (Wb (wpAny_newTuple ?_)));have T:Heap.SameBut i1 g1 g2:=T;have sz:g.objs.size=s.heap.objs.size:=by rw[I.1,O.1,R.1,T.1,U.1]
 have z5:IsZip g z TI TO .ellipsis:=(I.2 _ c5.symm).trans ((O.2 _ c9.symm).trans ((R.2 _ c5.symm).trans ((T.2 _ c8.symm).trans z1)));have kp:∀c o,c≠z->c≠TO->c≠i1->c≠i2->s.heap.get? c=some o->g.get? c=some o:=fun c o Y e2 e3 e4 e=>(I.2 _ e2).trans ((O.2 _ e4).trans ((R.2 _ e2).trans ((T.2 _ e3).trans ((U.2 _ Y).trans e))));have v1:S1 (k+1) g:=D1.frame _ _ _ (D1.frame _ _ _ (D1.frame _ _ _ u1 (EM d2 R)) (EM d3 O)) (EM d2 I);have v2:S2 (k+1) g:=Z.frame _ _ _ u2 (EM d5 I);show wpAny _ _ (Builtin.SmallTypes.ownedTupleHandOut (.ref z) (.ref g.objs.size)>>=_) _ _ _;unfold Builtin.SmallTypes.ownedTupleHandOut;have z6:IsZip (g.push { cls:=.type "tuple",data:=.seq #[x,y]}) z TI TO .ellipsis:=aD _ z5;refine Wb (Wb (wpAny_setField_rec z6 (by simp) fun g7 z7 m7=>wpAny_setField_rec (show IsZip g7 z TI TO (rawInt g.objs.size) from z7) (by simp) fun g8 z8 m8=>?_));have z8:IsZip g8 z TI TO (rawInt g.objs.size):=z8;have up:∀c o,c≠z->(g.push { cls:=.type "tuple",data:=.seq #[x,y]}).get? c=some o->g8.get? c=some o:=fun c o Y e=>(m8.2 _ Y).trans ((m7.2 _ Y).trans e);have zl:z<g.objs.size:=aF z5;refine aA ⟨_,rfl,?_⟩;show Q (.ref g.objs.size) _;have fin:=q x y g8 tk4 p1 p2 (by rw[<-sz];exact z8) (up _ _ c5 (aD _ o5)) (D1.frame _ _ _ v1 fun c hc o e=>up c o (fun y=>d1 (y ▸ hc)) (aD _ e)) (Z.frame _ _ _ v2 fun c hc o e=>up c o (fun y=>d4 (y ▸ hc)) (aD _ e))
  (by rw[<-sz];exact up _ _ (Nat.ne_of_gt zl) (aP _ rfl)) (by rw[<-sz,m8.1,m7.1,Heap.size_push]) fun c o Y e2 e3 e4 e=>up c o Y (aD _ (kp c o Y e2 e3 e4 e))
 rw[sz];exact fin
def ended{Q:Fin->SD->Prop}(D1:Draws prog w A i1 f1 n1 P1 S1)(D2:Draws prog w A i2 f2 n2 P2 S2)(ap:Apart z TI TO i1 i2 f1 f2)(hz:IsZip s.heap z TI TO .none)(hI:IsPair s.heap TI (.ref i1) (.ref i2))(hO:IsPair s.heap TO a b) (t1:S1 k s.heap)(t2:S2 k s.heap)(he:k=n1\/(k<n1/\k=n2)) (q:∀h' e tk,(∀c o,c≠z->c≠TO->c≠i1->c≠i2->s.heap.get? c=some o->h'.get? c=some o)->(∃o,h'.get? e=some o/\o.cls=.type "StopIteration")->E (.ref e) {s with heap:=h',toks:=tk}):wpAny (model prog w) A (Builtin.«zip.__next__» ⟨[.ref z],[]⟩) Q E s:=by
 obtain⟨⟨c1,c2,c3,c4⟩,⟨c5,c6,c7⟩,⟨c8,c9,c10⟩,⟨d1,d2,d3⟩,d4,d5,d6⟩:=ap;show wpAny _ _ (field (.ref z) 2>>=_) _ _ _;refine Wb (bC hz rfl (x:=.bool false) rfl ?_);show wpAny _ _ (field (.ref z) 3>>=_) _ _ _;refine Wb (bC hz rfl (x:=.ref TI) rfl (Wb (bE hI rfl ?_)));show wpAny _ _ (Builtin.SmallTypes.ownedTupleIsFree (.ref z)>>=_) _ _ _;unfold Builtin.SmallTypes.ownedTupleIsFree;refine Wb (Wb (bC hz rfl (x:=.none) rfl (aA ?_)));simp only[if_true];refine Wb (aq (Wb (bC hz rfl (x:=.ref TO) rfl (Wb (wpAny_setField_rec hz (by simp) fun g1 z1 T=>Wb ?_)))));have T:Heap.SameBut z s.heap g1:=T;have z1:IsZip g1 z TI TO .ellipsis:=z1;simp only[List.zipIdx_cons,List.zipIdx_nil,List.forIn_cons,List.forIn_nil];refine Wb (Wb (wpAny_onRaise ?_));show wpAny _ _ (Builtin.SmallTypes.nextOf (.ref i1)>>=_) _ _ _;have R:=D1.frame _ _ _ t1 (EM d1 T);rcases he with he|⟨he1,he2⟩
 .rw[he]at R;refine Wb (D1.done _ _ _ R fun Z e I g=>?_);obtain⟨o,g,Y⟩:=g;have z2:IsZip Z z TI TO .ellipsis:=I _ _ c8.symm z1;have ez:e≠z:=fun y=>by subst y;rw[z2]at g;cases g;simp at Y
  exact wpAny_setField_rec z2 (by simp) fun g3 _ O=>q g3 e _ (fun c o e1 e2 e3 e4 y=>(O.2 _ e1).trans (I _ _ e3 ((T.2 _ e1).trans y))) ⟨o,(O.2 _ ez).trans g,Y⟩
 .refine Wb (D1.item k _ _ _ he1 R fun x Z tk2 p1 u1 I=>aA ?_);have o2:IsPair Z TO a b:=(I.2 _ c6).trans ((T.2 _ c5).trans hO);refine Wb (bE o2 rfl (Wb (wpAny_updateSeq_pair o2 fun g3 o3 O=>Wb (wpAny_letGo (aA ?_)))));have U:S2 k g3:=D2.frame _ _ _ (D2.frame _ _ _ (D2.frame _ _ _ t2 (EM d4 T)) (EM d6 I)) (EM d5 O);rw[he2]at U;have I:Heap.SameBut i1 g1 Z:=I;have O:Heap.SameBut TO Z g3:=O;refine Wb (Wb (wpAny_onRaise ?_));show wpAny _ _ (Builtin.SmallTypes.nextOf (.ref i2)>>=_) _ _ _;refine Wb (D2.done _ _ _ U fun g4 e m4 g=>?_);obtain⟨o,g,Y⟩:=g;have z4:IsZip g4 z TI TO .ellipsis:=m4 _ _ c9.symm ((O.2 _ c5.symm).trans ((I.2 _ c8.symm).trans z1));have ez:e≠z:=fun y=>by subst y;rw[z4]at g;cases g;simp at Y
  exact wpAny_setField_rec z4 (by simp) fun g5 _ m5=>q g5 e _ (fun c o e1 e2 e3 e4 y=>(m5.2 _ e1).trans (m4 _ _ e4 ((O.2 _ e2).trans ((I.2 _ e3).trans ((T.2 _ e1).trans y))))) ⟨o,(m5.2 _ ez).trans g,Y⟩
def next_item{Q:Option VL->SD->Prop}(D1:Draws prog w A.in1 i1 f1 n1 P1 S1)(D2:Draws prog w A.in1 i2 f2 n2 P2 S2)(ap:Apart z TI TO i1 i2 f1 f2)(hz:IsZip s.heap z TI TO .none)(hI:IsPair s.heap TI (.ref i1) (.ref i2))(hO:IsPair s.heap TO a b) (t1:S1 k s.heap)(I:S2 k s.heap)(l1:k<n1)(l2:k<n2) (q:∀x y h' tk,P1 k x->P2 k y->IsZip h' z TI TO (rawInt s.heap.objs.size)->IsPair h' TO x y->S1 (k+1) h'->S2 (k+1) h'->IsPair h' s.heap.objs.size x y->h'.objs.size=s.heap.objs.size+1 ->(∀c o,c≠z->c≠TO->c≠i1->c≠i2->s.heap.get? c=some o->h'.get? c=some o)->Q (some (.ref s.heap.objs.size)) {s with heap:=h',toks:=tk}):wpAny (model prog w) A (pyNext (.ref z)) Q E s:=by
 have g:s.TypeIs (.ref z) "zip" := ⟨_,hz,rfl⟩;unfold pyNext;exact Wb (wpAny_attempt (ag (name:=Str.ofString "__next__") g F.slot_zip_next
  (aX F.slot_zip_next g F.entry_zip_next (item D1 D2 ap hz hI hO t1 I l1 l2 fun x y h' tk r1 r2 r3 Z Y U T R O=>aA (q x y h' tk r1 r2 r3 Z Y U T R O)) (F.args_zip_next_1 _))))
def next_end{Q:Option VL->SD->Prop}(D1:Draws prog w A.in1 i1 f1 n1 P1 S1)(D2:Draws prog w A.in1 i2 f2 n2 P2 S2)(ap:Apart z TI TO i1 i2 f1 f2)(hz:IsZip s.heap z TI TO .none)(Z:IsPair s.heap TI (.ref i1) (.ref i2))(Y:IsPair s.heap TO a b) (t1:S1 k s.heap)(O:S2 k s.heap)(R:k=n1\/(k<n1/\k=n2)) (q:∀h' tk,(∀c o,c≠z->c≠TO->c≠i1->c≠i2->s.heap.get? c=some o->h'.get? c=some o)->Q none {s with heap:=h',toks:=tk}):wpAny (model prog w) A (pyNext (.ref z)) Q E s:=by
 have I:s.TypeIs (.ref z) "zip" := ⟨_,hz,rfl⟩;unfold pyNext;refine Wb (wpAny_attempt (ag (name:=Str.ofString "__next__") I F.slot_zip_next
  (aX F.slot_zip_next I F.entry_zip_next (ended D1 D2 ap hz Z Y t1 O R fun h' e tk kp g=>?_) (F.args_zip_next_1 _))))
 obtain⟨o,g,U⟩:=g;exact Wb (wpAny_isInstance (T := "StopIteration") (b:=true) ⟨o,g,U⟩ isSubtype_stop (aA (q _ _ kp)))
end
end ZT
namespace ZT
open PySem PyProof.Rows
def Sq(b:Bool)(h:Heap)(l:AD)(xs:rT):Prop:=if b then h.IsTuple l xs.toArray else h.IsList l xs.toArray
def FK(b:Bool)(l:AD):Obj:=if b then { cls:=.type "tuple_iterator",data:=.fields #[.ref l,.int 0 0]} else { cls:=.type "list_iterator",data:=.fields #[.ref l,.int 0 0]}
def RB(b:Bool)(h:Heap)(it l:AD)(k:Nat):Prop:=if b then h.IsTupleIter it l k else h.IsListIter it l k
def Sq.push{b:Bool}{h:Heap}{l:AD}{xs:rT}(o:Obj)(x:Sq b h l xs):Sq b (h.push o) l xs:=by
 cases b with
 |true=>obtain⟨u,e,r⟩:=(show h.IsTuple l xs.toArray from x);exact(show(h.push o).IsTuple l xs.toArray from⟨u,Heap.get?_push_of_some _ e,r⟩)
 |false=>obtain⟨u,e,r⟩:=(show h.IsList l xs.toArray from x);exact(show(h.push o).IsList l xs.toArray from⟨u,Heap.get?_push_of_some _ e,r⟩)
section
variable{prog:Program}{w:World}{A:Around}{E:rV}{s:SD}
def Wf{b:Bool}{l:AD}{xs:rT}{Q:rV}(x:Sq b s.heap l xs)(h:Q (.ref s.heap.objs.size) {s with heap:=s.heap.push (FK b l)}):wpAny (model prog w) A (pyIter (.ref l)) Q E s:=by
 cases b with
 |true=>exact wpAny_pyIter_tuple x h
 |false=>exact wpAny_pyIter_list x h
def MH(I:A.handled=none)(b:Bool)(it l:AD)(xs:rT)(g:l≠it):Draws prog w A it [it,l] xs.length (fun i v=>xs[i]? = some v) (fun i h=>RB b h it l i/\Sq b h l xs):=by
 cases b with
 |true=>exact ET.draws I it l xs g
 |false=>
  have:=Draws.list (prog:=prog) (w:=w) I it l g xs.toArray
  simpa[RB,Sq]using this
def zh(b1 b2:Bool)(h:Heap)(g I:AD):Heap :=
 ((((h.push (FK b1 g)).push (FK b2 I)).push { cls:=.type "tuple",data:=.seq #[.ref h.objs.size,.ref (h.push (FK b1 g)).objs.size]}).push { cls:=.type "tuple",data:=.seq #[.none,.none]}).push
  { cls:=.type "zip",data:=.fields #[.none,.bool false,.bool false,.ref ((h.push (FK b1 g)).push (FK b2 I)).objs.size,.ref (((h.push (FK b1 g)).push (FK b2 I)).push { cls:=.type "tuple",data:=.seq #[.ref h.objs.size,.ref (h.push (FK b1 g)).objs.size]}).objs.size]}
def gC(b1 b2:Bool)(I T:AD)(xs ys:rT):Meets (Builtin.«zip.__new__» ⟨[.type "zip",.ref I,.ref T],[]⟩) (fun _ R s=>Sq b1 s.heap I xs/\Sq b2 s.heap T ys /\R (.ok (.ret (.ref ((((s.heap.push (FK b1 I)).push (FK b2 T)).push { cls:=.type "tuple",data:=.seq #[.ref s.heap.objs.size,.ref (s.heap.push (FK b1 I)).objs.size]}).push { cls:=.type "tuple",data:=.seq #[.none,.none]}).objs.size)) ) {s with heap:=zh b1 b2 s.heap I T}) :=
 .of_wp fun prog w A R s h=>by
  obtain⟨O,g,d,tk,os⟩:=s;obtain⟨Z,Y,h⟩:=h;have U:=sub_zip;have i1:∀(A:Around) (E:VL->SD->Prop) (Q:VL->SD->Prop),Q (.ref O.objs.size) ⟨O.push (FK b1 I),g,d,tk,os⟩->wpAny (model prog w) A (pyIter (.ref I)) Q E ⟨O,g,d,tk,os⟩:=fun A E Q q=>Wf (s:=⟨O,g,d,tk,os⟩) Z q;have i2:∀(A:Around) (E:VL->SD->Prop) (Q:VL->SD->Prop),Q (.ref (O.push (FK b1 I)).objs.size) ⟨(O.push (FK b1 I)).push (FK b2 T),g,d,tk,os⟩->wpAny (model prog w) A (pyIter (.ref T)) Q E ⟨O.push (FK b1 I),g,d,tk,os⟩:=fun A E Q q=>Wf (s:=⟨O.push (FK b1 I),g,d,tk,os⟩) (Y.push _) q
  wp_walk using i1,i2
  exact⟨_,rfl,h⟩
def dH{b1 b2:Bool}{O I:AD}{xs ys:rT}{Q:rV}(h1:Sq b1 s.heap O xs)(h2:Sq b2 s.heap I ys) (h:∀h',IsZip h' (s.heap.objs.size+4) (s.heap.objs.size+2) (s.heap.objs.size+3) .none->IsPair h' (s.heap.objs.size+2) (.ref s.heap.objs.size) (.ref (s.heap.objs.size+1))->IsPair h' (s.heap.objs.size+3) .none .none ->RB b1 h' s.heap.objs.size O 0->RB b2 h' (s.heap.objs.size+1) I 0->(∀c o,s.heap.get? c=some o->h'.get? c=some o)->Q (.ref (s.heap.objs.size+4)) {s with heap:=h'}):wpAny (model prog w) A (call (.type "zip") [.ref O,.ref I]) Q E s:=by
 refine callType_new F.called_zip (by decide) (F.typeCall_zip_2 _ _) (F.newCall_zip_2 _ _) (fun obj=>F.args_object_init_3 obj _ _) F.entry_zip_new (gC b1 b2 O I xs ys) ⟨h1,h2,?_⟩;have U:(s.heap.push (FK b1 O)).objs.size=s.heap.objs.size+1:=Heap.size_push ..;have up:∀(g:Heap) (o:Obj) (c:AD) (u:Obj),g.get? c=some u->(g.push o).get? c=some u:=fun g o c u e=>aD _ e;have a0:(s.heap.push (FK b1 O)).get? s.heap.objs.size=some (FK b1 O):=aP _ (by cases b1<;>rfl);generalize hg1:s.heap.push (FK b1 O)=g1 at U a0;have k1:∀c o,s.heap.get? c=some o->g1.get? c=some o:=fun c o e=>by rw[<-hg1];exact up _ _ _ _ e
 have n2:(g1.push (FK b2 I)).objs.size=s.heap.objs.size+2:=by rw[Heap.size_push,U]
 have a1:(g1.push (FK b2 I)).get? (s.heap.objs.size+1)=some (FK b2 I):=by rw[<-U];exact aP _ (by cases b2<;>rfl)
 generalize Z:g1.push (FK b2 I)=g2 at n2 a1;have k2:∀c o,g1.get? c=some o->g2.get? c=some o:=fun c o e=>by rw[<-Z];exact up _ _ _ _ e
 have n3:(g2.push { cls:=.type "tuple",data:=.seq #[.ref s.heap.objs.size,.ref (s.heap.objs.size+1)]}).objs.size=s.heap.objs.size+3:=by rw[Heap.size_push,n2]
 have a2:IsPair (g2.push { cls:=.type "tuple",data:=.seq #[.ref s.heap.objs.size,.ref (s.heap.objs.size+1)]}) (s.heap.objs.size+2) (.ref s.heap.objs.size) (.ref (s.heap.objs.size+1)):=by rw[<-n2];exact aP _ rfl
 generalize T:g2.push { cls:=.type "tuple",data:=.seq #[.ref s.heap.objs.size,.ref (s.heap.objs.size+1)]}=g3 at n3 a2;have k3:∀c o,g2.get? c=some o->g3.get? c=some o:=fun c o e=>by rw[<-T];exact up _ _ _ _ e
 have n4:(g3.push { cls:=.type "tuple",data:=.seq #[.none,.none]}).objs.size=s.heap.objs.size+4:=by rw[Heap.size_push,n3]
 have a3:IsPair (g3.push { cls:=.type "tuple",data:=.seq #[.none,.none]}) (s.heap.objs.size+3) .none .none:=by rw[<-n3];exact aP _ rfl
 generalize R:g3.push { cls:=.type "tuple",data:=.seq #[.none,.none]}=g4 at n4 a3;have k4:∀c o,g3.get? c=some o->g4.get? c=some o:=fun c o e=>by rw[<-R];exact up _ _ _ _ e
 have ez:zh b1 b2 s.heap O I=g4.push { cls:=.type "zip",data:=.fields #[.none,.bool false,.bool false,.ref (s.heap.objs.size+2),.ref (s.heap.objs.size+3)]}:=by
  unfold zh;rw[hg1,Z,U,T,R,n2,n3]
 have a4:IsZip (g4.push { cls:=.type "zip",data:=.fields #[.none,.bool false,.bool false,.ref (s.heap.objs.size+2),.ref (s.heap.objs.size+3)]}) (s.heap.objs.size+4) (s.heap.objs.size+2) (s.heap.objs.size+3) .none:=by rw[<-n4];exact aP _ rfl
 rw[U,T,R,n4,ez];show _/\_;have Y:∀c o,g4.get? c=some o->(g4.push { cls:=.type "zip",data:=.fields #[.none,.bool false,.bool false,.ref (s.heap.objs.size+2),.ref (s.heap.objs.size+3)]}).get? c=some o:=fun c o e=>up _ _ _ _ e;refine⟨⟨_,a4,rfl⟩,h _ a4 (Y _ _ (k4 _ _ a2)) (Y _ _ a3) ?_ ?_ fun c o e=>Y _ _ (k4 _ _ (k3 _ _ (k2 _ _ (k1 _ _ e))))⟩
 .have:=Y _ _ (k4 _ _ (k3 _ _ (k2 _ _ a0)));cases b1 with
  |true=>exact⟨_,this,rfl,rfl⟩
  |false=>exact⟨_,this,rfl,rfl⟩
 .have:=Y _ _ (k4 _ _ (k3 _ _ a1));cases b2 with
  |true=>exact⟨_,this,rfl,rfl⟩
  |false=>exact⟨_,this,rfl,rfl⟩
end
end ZT
namespace L2
open PySem PySem.Spec PyProof.Rows
def KN(b:Bool)(H:Hp)(a:AD)(xs:rq):Prop:=if b then H a=some (.tup xs) else H a=some (.lst xs)
def KN.inj{b:Bool}{H:Hp}{a:AD}{xs ys:rq}(h:KN b H a xs)(k:KN b H a ys):xs=ys:=by
 cases b with
 |true=>have h:H a=some (.tup xs):=h;have k:H a=some (.tup ys):=k;rw[h]at k;cases k;rfl
 |false=>have h:H a=some (.lst xs):=h;have k:H a=some (.lst ys):=k;rw[h]at k;cases k;rfl
def KN.none{b:Bool}{H:Hp}{a c:AD}{xs:rq}(h:KN b H a xs)(k:H c=none):a≠c:=fun z=>by
 subst z;cases b with
 |true=>have h:H a=some (.tup xs):=h;rw[k]at h;cases h
 |false=>have h:H a=some (.lst xs):=h;rw[k]at h;cases h
def KN.raw{X:Cx}{pins:List (AD×Obj)}{σ:St}{H:Hp}{s:SD}(I:Inv X pins σ H s){b:Bool}{a:AD}{xs:rq}(h:KN b H a xs):∃g,Vals xs g/\ZT.Sq b s.heap a g:=by
 cases b with
 |true=>
  obtain⟨g,O,p,_⟩:=I.tuple (BC.of (K:=X.K) (show H a=some (.tup xs) from h));exact⟨g,O,p⟩
 |false=>
  obtain⟨g,O,p,_⟩:=I.list (Al.of (K:=X.K) (show H a=some (.lst xs) from h));exact⟨g,O,p.isList⟩
def pG(b1 b2:Bool)(a1 a2:AD):It :=
 ⟨fun i H=>∃xs x ys y,KN b1 H a1 xs/\KN b2 H a2 ys/\xs[i]? = some x/\ys[i]? = some y,
  fun i H v H'=>∃p x y,v=.ref p/\H p=none/\H'=upd H p (.tup [x,y])/\(∀xs,KN b1 H a1 xs->xs[i]? = some x)/\∀ys,KN b2 H a2 ys->ys[i]? = some y,
  fun i H=>∃xs ys,KN b1 H a1 xs/\KN b2 H a2 ys/\(i=xs.length\/(i<xs.length/\i=ys.length))⟩
def rL(b1 b2:Bool)(a1 a2 z TI TO i1 i2:AD):Nat->Heap->Prop:=fun i h=>IsZip h z TI TO .none/\IsPair h TI (.ref i1) (.ref i2)/\(∃a b,IsPair h TO a b)/\ZT.RB b1 h i1 a1 i/\ZT.RB b2 h i2 a2 i
def OU{b:Bool}{h:Heap}{it l:AD}{k:Nat}(x:ZT.RB b h it l k):∃o,h.get? it=some o/\∀v,o.data≠.cell v:=by
 cases b with
 |true=>obtain⟨o,e,_,d⟩:=(show h.IsTupleIter it l k from x);exact⟨o,e,fun v z=>by rw[d]at z;cases z⟩
 |false=>obtain⟨o,e,_,d⟩:=(show h.IsListIter it l k from x);exact⟨o,e,fun v z=>by rw[d]at z;cases z⟩
def MM{b:Bool}{h h':Heap}{it l:AD}{k:Nat}(x:ZT.RB b h it l k)(e:∀o,h.get? it=some o->h'.get? it=some o):ZT.RB b h' it l k:=by
 cases b with
 |true=>obtain⟨o,q,r⟩:=(show h.IsTupleIter it l k from x);exact(show h'.IsTupleIter it l k from⟨o,e _ q,r⟩)
 |false=>obtain⟨o,q,r⟩:=(show h.IsListIter it l k from x);exact(show h'.IsListIter it l k from⟨o,e _ q,r⟩)
def d8{P:Program}{w:World}{K:Fg}{elts:rg}{x1}{pos:Pos}{b1 b2:Bool}{a1 a2 z TI TO i1 i2:AD}(ne:[z,TI,TO,i1,i2].Nodup) :
  Turn P w K (.Tuple elts x1 pos) (pG b1 b2 a1 a2) [z,TI,TO,i1,i2] z (rL b1 b2 a1 a2 z TI TO i1 i2) where
 mem:=by simp
 obj:=fun i h st b hb=>by
  obtain⟨h1,h2,⟨u,v,h3⟩,h4,h5⟩:=st;have hb:b=z\/b=TI\/b=TO\/b=i1\/b=i2:=by simpa using hb
  rcases hb with rfl|rfl|rfl|rfl|rfl
  .exact⟨_,h1,fun v y=>by cases y⟩
  .exact⟨_,h2,fun v y=>by cases y⟩
  .exact⟨_,h3,fun v y=>by cases y⟩
  .exact OU h4
  .exact OU h5
 keep:=fun i h h' st k=>by
  obtain⟨h1,h2,⟨u,v,h3⟩,h4,h5⟩:=st;exact⟨k z (by simp) _ h1,k TI (by simp) _ h2,⟨u,v,k TO (by simp) _ h3⟩,MM h4 fun o e=>k i1 (by simp) o e,MM h5 fun o e=>k i2 (by simp) o e⟩
 item:=by
  intro X hP hw hK hc i pins s σ H E I hf st hg;subst hP hw hK;obtain⟨xs,x,ys,y,q1,q2,hx,hy⟩:=hg;obtain⟨us,rv1,p1⟩:=q1.raw I;obtain⟨vs,rv2,p2⟩:=q2.raw I;obtain⟨u,hu,ru⟩:=rv1.get hx;obtain⟨v,hv,rv⟩:=rv2.get hy;obtain⟨t1,t2,⟨ta,tb,t3⟩,t4,t5⟩:=st;have e1:∀b∈[z,TI,TO,i1,i2],a1≠b:=fun b hb=>q1.none (hf b hb).1;have e2:∀b∈[z,TI,TO,i1,i2],a2≠b:=fun b hb=>q2.none (hf b hb).1;simp only[List.nodup_cons,List.mem_cons,List.not_mem_nil,or_false,not_or]at ne;obtain⟨⟨n1,n2,n3,n4⟩,⟨n5,n6,n7⟩,⟨n8,n9⟩,n10,_⟩:=ne;have ap:ZT.Apart z TI TO i1 i2 [i1,a1] [i2,a2]:=⟨⟨Ne.symm n1,n5,n6,n7⟩,⟨Ne.symm n2,n8,n9⟩,⟨Ne.symm n3,Ne.symm n4,n10⟩,
   ⟨by simp[n3,Ne.symm (e1 z (by simp))],by simp[n8,Ne.symm (e1 TO (by simp))],by simp[Ne.symm n10,Ne.symm (e1 i2 (by simp))]⟩,⟨by simp[n4,Ne.symm (e2 z (by simp))],by simp[n9,Ne.symm (e2 TO (by simp))],by simp[n10,Ne.symm (e2 i1 (by simp))]⟩⟩
  refine ZT.next_item (ZT.MH (prog:=X.prog) (w:=X.w) (A:=X.A.in1) (I.ok.hd hc) b1 i1 a1 us (e1 i1 (by simp))) (ZT.MH (prog:=X.prog) (w:=X.w) (A:=X.A.in1) (I.ok.hd hc) b2 i2 a2 vs (e2 i2 (by simp))) ap t1 t2 t3 ⟨t4,p1⟩ ⟨t5,p2⟩ (aG.mp hu).1 (aG.mp hv).1
   fun u' v' h' tk r1 r2 r3 r4 r5 r6 r7 r8 r9=>⟨_,rfl,wpAny_letOwnedTupleGo_zip (s:={s with heap:=h',toks:=tk}) r3 fun h'' z'' sb=>?_⟩
  rw[hu]at r1;rw[hv]at r2;cases r1;cases r2;have keep:∀b o,b ∉ [z,TI,TO,i1,i2]->s.heap.get? b=some o->h''.get? b=some o:=fun b o hb q=>by
   simp only[List.mem_cons,List.not_mem_nil,or_false,not_or]at hb;exact(sb.2 b hb.1).trans (r9 b o hb.1 hb.2.2.1 hb.2.2.2.1 hb.2.2.2.2 q)
  have lt:∀b∈[z,TI,TO,i1,i2],b<s.heap.objs.size:=fun b hb=>by
   have hb:b=z\/b=TI\/b=TO\/b=i1\/b=i2:=by simpa using hb
   rcases hb with rfl|rfl|rfl|rfl|rfl
   .exact aF t1
   .exact aF t2
   .exact aF t3
   .obtain⟨o,e,_⟩:=OU t4;exact aF e
   .obtain⟨o,e,_⟩:=OU t5;exact aF e
  have hTn:H s.heap.objs.size=none:=I.Ap.fresh (aH _);have hT'':h''.get? s.heap.objs.size=some { cls:=.type "tuple",data:=.seq #[u,v]}:=(sb.2 _ (Nat.ne_of_gt (lt z (by simp)))).trans r7;have neT:∀b o,s.heap.get? b=some o->b≠s.heap.objs.size:=fun b o q=>aK (aF q);have Gy:∀b o,H b=some o->b ∉ [z,TI,TO,i1,i2]:=fun b o q hb=>by rw[(hf b hb).1]at q;cases q
  refine⟨.ref s.heap.objs.size,upd H s.heap.objs.size (.tup [x,y]),?_,rfl,⟨_,x,y,rfl,hTn,rfl,fun zs hz=>by rw[hz.inj q1];exact hx,fun zs hz=>by rw[hz.inj q2];exact hy⟩,⟨z'',?_,⟨u,v,?_⟩,?_,?_⟩,fun b hb=>?_⟩
  .show Inv X pins σ _ {s with heap:=h'',gens:=s.gens,drawn:=s.drawn,toks:=tk};refine I.step (h':=h'') (g':=s.gens) (d':=s.drawn) (t':=tk) (ch:=[z,TI,TO,i1,i2]) (fun b hb=>?_) (fun b o _ _ hc q _=>keep b o hc q) (fun b o _ _ hc q _=>⟨o.slots,keep b o hc q⟩)
    (fun b o _ q n=>by rw[AL (neT b o q)];exact n) (fun b o hc q=>⟨o,keep b o hc q⟩) (fun b ys q=>by rw[AL (AU q hTn)];exact q) (fun b o u q=>by rw[AL (AU q hTn)];exact q)
    (fun b ps q=>⟨#[],by rw[AL (AU q hTn),q];simp⟩) (fun m hm=>?_) (fun b o q=>?_) I.bare
   .obtain⟨_,f1,_,f3,f4,f5⟩:=hf b hb;exact⟨f3,f1,f4,f5⟩
   .obtain⟨o,es,ep,ho,r⟩:=hm;exact⟨o,es,ep,keep _ o (fun hb=>(hf _ hb).2.1 rfl) ho,r⟩
   .by_cases hb:b=s.heap.objs.size
    .subst hb;rw[AN]at q;cases q;exact⟨Oj,[u,v],.cons ru (.cons rv .nil),_,hT'',rfl,_,rfl⟩
    .rw[AL hb]at q;refine(I.Ap b o q).Hx (fun c w hc r=>keep c w ?_ r) (fun c r=>by rw[AL (AU r hTn)];exact r) fun c ys r=>by rw[AL (AU r hTn)];exact r
     rcases hc with rfl|hc
     .exact Gy _ _ q
     .exact Gy _ _ hc
  .exact(sb.2 _ (Ne.symm n1)).trans (r9 _ _ (Ne.symm n1) n5 n6 n7 t2)
  .exact(sb.2 _ (Ne.symm n2)).trans r4
  .exact MM r5.1 fun o e=>(sb.2 _ (Ne.symm n3)).trans e
  .exact MM r6.1 fun o e=>(sb.2 _ (Ne.symm n4)).trans e
  .rw[AL (aK (lt b hb))];exact(hf b hb).1
 done:=by
  intro X hP hw hK hc i pins s σ H E I hf st hg;subst hP hw hK;obtain⟨xs,ys,q1,q2,he⟩:=hg;obtain⟨us,rv1,p1⟩:=q1.raw I;obtain⟨vs,rv2,p2⟩:=q2.raw I;obtain⟨t1,t2,⟨ta,tb,t3⟩,t4,t5⟩:=st;have e1:∀b∈[z,TI,TO,i1,i2],a1≠b:=fun b hb=>q1.none (hf b hb).1;have e2:∀b∈[z,TI,TO,i1,i2],a2≠b:=fun b hb=>q2.none (hf b hb).1;simp only[List.nodup_cons,List.mem_cons,List.not_mem_nil,or_false,not_or]at ne;obtain⟨⟨n1,n2,n3,n4⟩,⟨n5,n6,n7⟩,⟨n8,n9⟩,n10,_⟩:=ne;have ap:ZT.Apart z TI TO i1 i2 [i1,a1] [i2,a2]:=⟨⟨Ne.symm n1,n5,n6,n7⟩,⟨Ne.symm n2,n8,n9⟩,⟨Ne.symm n3,Ne.symm n4,n10⟩,
   ⟨by simp[n3,Ne.symm (e1 z (by simp))],by simp[n8,Ne.symm (e1 TO (by simp))],by simp[Ne.symm n10,Ne.symm (e1 i2 (by simp))]⟩,⟨by simp[n4,Ne.symm (e2 z (by simp))],by simp[n9,Ne.symm (e2 TO (by simp))],by simp[n10,Ne.symm (e2 i1 (by simp))]⟩⟩
  have he':i=us.length\/(i<us.length/\i=vs.length):=by rw[<-rv1.length,<-rv2.length];exact he
  refine ZT.next_end (ZT.MH (prog:=X.prog) (w:=X.w) (A:=X.A.in1) (I.ok.hd hc) b1 i1 a1 us (e1 i1 (by simp))) (ZT.MH (prog:=X.prog) (w:=X.w) (A:=X.A.in1) (I.ok.hd hc) b2 i2 a2 vs (e2 i2 (by simp))) ap t1 t2 t3 ⟨t4,p1⟩ ⟨t5,p2⟩ he' fun h' tk kp=>⟨rfl,?_⟩;have keep:∀b o,b ∉ [z,TI,TO,i1,i2]->s.heap.get? b=some o->h'.get? b=some o:=fun b o hb q=>by
   simp only[List.mem_cons,List.not_mem_nil,or_false,not_or]at hb;exact kp b o hb.1 hb.2.2.1 hb.2.2.2.1 hb.2.2.2.2 q
  have Gy:∀b o,H b=some o->b ∉ [z,TI,TO,i1,i2]:=fun b o q hb=>by rw[(hf b hb).1]at q;cases q
  show Inv X pins σ _ {s with heap:=h',gens:=s.gens,drawn:=s.drawn,toks:=tk};refine I.step (h':=h') (g':=s.gens) (d':=s.drawn) (t':=tk) (ch:=[z,TI,TO,i1,i2]) (fun b hb=>?_) (fun b o _ _ hc q _=>keep b o hc q) (fun b o _ _ hc q _=>⟨o.slots,keep b o hc q⟩)
    (fun b o _ q n=>n) (fun b o hc q=>⟨o,keep b o hc q⟩) (fun b ys q=>q) (fun b o u q=>q)
    (fun b ps q=>⟨#[],by rw[q];simp⟩) (fun m hm=>?_) (fun b o q=>?_) I.bare
  .obtain⟨_,f1,_,f3,f4,f5⟩:=hf b hb;exact⟨f3,f1,f4,f5⟩
  .obtain⟨o,es,ep,ho,r⟩:=hm;exact⟨o,es,ep,keep _ o (fun hb=>(hf _ hb).2.1 rfl) ho,r⟩
  .refine(I.Ap b o q).Hx (fun c w hc r=>keep c w ?_ r) (fun c r=>r) fun c ys r=>r;rcases hc with rfl|hc
   .exact Gy _ _ q
   .exact Gy _ _ hc
 self:=fun _ _ _ _ _ st h=>wpAny_pyIter_zip st.1 h
def qO(I:TA):TI:=fun σ H R=>I σ H fun vs g=>∃(b1 b2:Bool) (a1 a2:AD),vs=[.ref a1,.ref a2]/\(∃xs,KN b1 g a1 xs)/\(∃ys,KN b2 g a2 ys)/\R (pG b1 b2 a1 a2) g
def Yx{X:Cx}{elts:rg}{x1}{g:Pos}{a b:Expr}{ta:TA}{p pos:Pos}(hg:Gl X "zip")(hm:X.mg "zip" = none)(ha:PA X [a,b] ta)(hs:starEach [a,b] X.env=[(false,eval a X.env),(false,eval b X.env)]:=by rfl)(O:starEach [b] X.env=[(false,eval b X.env)]:=by rfl):PI X (.Tuple elts x1 g) (.Call (.Name "zip" p) [a,b] [] pos) (qO ta):=by
 intro pins s σ H R I h;refine Call_ (HH I hg hm boot_zip (bD (BG (ha pos pins s σ H _ I h) fun us s1 ⟨vs,H1,U,r1,q1⟩=>?_) (by rw[hs,O]) (by rw[O];rfl)));obtain⟨b1,b2,l1,l2,e,⟨xs,h1⟩,⟨ys,h2⟩,q⟩:=q1;subst e;cases r1 with
 |cons r Y=>
  cases Y with
  |cons r' Y=>
   cases Y;cases r;cases r';obtain⟨us,_,p1⟩:=h1.raw U;obtain⟨vs,_,p2⟩:=h2.raw U;refine ZT.dH p1 p2 fun h' z1 z2 z3 z4 z5 hk=>wpAny_pyIter_zip z1 ?_;have I2:Inv X pins σ H1 {s1 with heap:=h'}:=U.kept (t':=s1.toks) hk;refine⟨_,[s1.heap.objs.size+4,s1.heap.objs.size+2,s1.heap.objs.size+3,s1.heap.objs.size,s1.heap.objs.size+1],_,_,H1,rfl,I2,d8 ?_,⟨z1,z2,⟨_,_,z3⟩,z4,z5⟩,fun b hb=>?_,q⟩
   .simp
   have T:s1.heap.objs.size<=b:=by
    have Z:b=s1.heap.objs.size+4\/b=s1.heap.objs.size+2\/b=s1.heap.objs.size+3\/b=s1.heap.objs.size\/b=s1.heap.objs.size+1:=by simpa using hb
    rcases Z with h|h|h|h|h<;>rw[h]<;>first|exact aH _|exact Nat.le_add_right _ _
   exact U.Rc T (U.Ap.fresh T)
def lK(K:Fg)(a:AD):It :=
 ⟨fun i H=>∃xs x,Al K H a xs/\xs[i]? = some x,fun i H v H'=>∃p x,v=.ref p/\H p=none/\H'=upd H p (.tup [.int i,x])/\∀xs,Al K H a xs->xs[i]? = some x,fun i H=>∃xs,Al K H a xs/\xs.length=i⟩
def Xi{P:Program}{w:World}{K:Fg}{elts:rg}{x1}{pos:Pos}(a e it:AD)(hne:e≠it) :
  Turn P w K (.Tuple elts x1 pos) (lK K a) [e,it] e (fun i h=>(∃old,IsEnum h e it (i:Nat) old)/\h.IsListIter it a i) where
 mem:=by simp
 obj:=fun i h st b hb=>by
  rcases aM.mp hb with rfl|hb
  .obtain⟨⟨old,q⟩,_⟩:=st;exact⟨_,q,fun v z=>by cases z⟩
  .have e2:b=it:=by simpa using hb
   subst e2;obtain⟨_,o,q,c,d⟩:=st;exact⟨o,q,fun v z=>by rw[d]at z;cases z⟩
 keep:=fun i h h' st k=>by
  obtain⟨⟨old,q⟩,o,q2,r⟩:=st;exact⟨⟨old,k e (by simp) _ q⟩,o,k it (by simp) _ q2,r⟩
 item:=by
  intro X hP hw hK hc i pins s σ H E I hf st hg;subst hP hw hK;obtain⟨xs,x,hq,hx⟩:=hg;obtain⟨its,rv,pL,hz⟩:=I.list hq;have p:=pL.isList;obtain⟨u,hu,ru⟩:=rv.get hx;obtain⟨⟨old,he⟩,hit⟩:=st;have hai:a≠it:=fun z=>by
   obtain⟨o,e1,c1,_⟩:=p;obtain⟨o2,e2,c2,_⟩:=hit;rw[z,e2]at e1;cases e1;rw[c1]at c2;exact absurd c2 (by decide)
  have hae:a≠e:=fun z=>by
   obtain⟨o,e1,c1,_⟩:=p;rw[z,he]at e1;cases e1;exact absurd (show Value.type "enumerate" = Value.type "list" from c1) (by decide)
  have hlt:i<its.length:=(aG.mp hu).1;have hE0:=hf e (by simp);have hI0:=hf it (by simp);refine wpAny_pyNext_enum_itemD (Draws.list (prog:=X.prog) (w:=X.w) (A:=X.A.in1) (I.ok.hd hc) it a hai its.toArray) he ⟨hit,p⟩ (by simpa using hlt) hne (by simp[hne,Ne.symm hae]) fun y h' tk hy ho hs' hT hsz hk=>⟨_,rfl,wpAny_letOwnedTupleGo_enum (s:={s with heap:=h',toks:=tk+1}) ho fun h'' he'' sb=>?_⟩;have hyu:y=u:=by
   have hy:its[i]? = some y:=by simpa using hy
   rw[hu]at hy;exact(af hy).symm
  subst hyu;have keep:∀b o,b≠e->b≠it->s.heap.get? b=some o->h''.get? b=some o:=fun b o h1 h2 q=>(sb.2 b h1).trans (hk b o h1 h2 q);have hTe:s.heap.objs.size≠e:=Nat.ne_of_gt (aF he);have hTi:s.heap.objs.size≠it:=let⟨_,q,_⟩:=hit;Nat.ne_of_gt (aF q);have hT'':h''.get? s.heap.objs.size=some { cls:=.type "tuple",data:=.seq #[.int i tk,y]}:=(sb.2 _ hTe).trans hT;have hTn:H s.heap.objs.size=none:=I.Ap.fresh (aH _);have neT:∀b o,s.heap.get? b=some o->b≠s.heap.objs.size:=fun b o q=>aK (aF q);have Gy:∀b o,H b=some o->b≠e/\b≠it:=fun b o q=>⟨(fun z=>by rw[z,hE0.1]at q;cases q),(fun z=>by rw[z,hI0.1]at q;cases q)⟩;refine⟨.ref s.heap.objs.size,upd H s.heap.objs.size (.tup [.int i,x]),?_,rfl,⟨_,x,rfl,hTn,rfl,fun ys hy=>by rw[I.U3 hy hq];exact hx⟩,⟨⟨_,by simpa using he''⟩,?_⟩,fun b hb=>?_⟩
  .show Inv X pins σ _ {s with heap:=h'',gens:=s.gens,drawn:=s.drawn,toks:=tk+1};refine I.step (h':=h'') (g':=s.gens) (d':=s.drawn) (t':=tk+1) (ch:=[e,it]) (fun b hb=>?_) (fun b o _ _ hc q _=>keep b o (fun z=>hc (by simp[z])) (fun z=>hc (by simp[z])) q) (fun b o _ _ hc q _=>⟨o.slots,keep b o (fun z=>hc (by simp[z])) (fun z=>hc (by simp[z])) q⟩)
    (fun b o _ q n=>by rw[AL (neT b o q)];exact n) (fun b o hc q=>⟨o,keep b o (fun z=>hc (by simp[z])) (fun z=>hc (by simp[z])) q⟩) (fun b ys q=>by rw[AL (AU q hTn)];exact q) (fun b o u q=>by rw[AL (AU q hTn)];exact q)
    (fun b ps q=>⟨#[],by rw[AL (AU q hTn),q];simp⟩) (fun m hm=>?_) (fun b o q=>?_) I.bare
   .rcases aM.mp hb with rfl|hb
    .exact⟨hE0.2.2.2.1,hE0.2.1,hE0.2.2.2.2.1,hE0.2.2.2.2.2⟩
    .have e2:b=it:=by simpa using hb
     subst e2;exact⟨hI0.2.2.2.1,hI0.2.1,hI0.2.2.2.2.1,hI0.2.2.2.2.2⟩
   .obtain⟨o,es,ep,ho,r⟩:=hm;exact⟨o,es,ep,keep _ o (Ne.symm hE0.2.1) (Ne.symm hI0.2.1) ho,r⟩
   .by_cases hb:b=s.heap.objs.size
    .subst hb;rw[AN]at q;cases q;exact⟨Oj,[.int i tk,y],.cons ⟨tk,rfl⟩ (.cons ru .nil),_,hT'',rfl,_,rfl⟩
    .rw[AL hb]at q;refine(I.Ap b o q).Hx (fun c v hc r=>keep c v ?_ ?_ r) (fun c r=>by rw[AL (AU r hTn)];exact r) fun c ys r=>by rw[AL (AU r hTn)];exact r
     .rcases hc with rfl|hc
      .exact(Gy _ _ q).1
      .exact(Gy _ _ hc).1
     .rcases hc with rfl|hc
      .exact(Gy _ _ q).2
      .exact(Gy _ _ hc).2
  .obtain⟨⟨o,q,r⟩,_⟩:=hs';exact⟨o,(sb.2 it (Ne.symm hne)).trans q,r⟩
  .rcases aM.mp hb with rfl|hb
   .rw[AL (Ne.symm hTe)];exact hE0.1
   .have e2:b=it:=by simpa using hb
    subst e2;rw[AL (Ne.symm hTi)];exact hI0.1
 done:=by
  intro X hP hw hK hc i pins s σ H E I hf st hg;subst hP hw hK;obtain⟨xs,hq,hx⟩:=hg;obtain⟨its,rv,pL,hz⟩:=I.list hq;have p:=pL.isList;obtain⟨⟨old,he⟩,hit⟩:=st;have hai:a≠it:=fun z=>by
   obtain⟨o,e1,c1,_⟩:=p;obtain⟨o2,e2,c2,_⟩:=hit;rw[z,e2]at e1;cases e1;rw[c1]at c2;exact absurd c2 (by decide)
  have hl:its.length=i:=by rw[<-rv.length];exact hx
  subst hl;obtain⟨f0,f1,f2,f3,f4,f5⟩:=hf it (by simp);exact wpAny_pyNext_enum_endD (Draws.list (prog:=X.prog) (w:=X.w) (A:=X.A.in1) (I.ok.hd hc) it a hai its.toArray) he ⟨hit,p⟩ fun h' eb=>⟨rfl,I.turned (t':=s.toks) (fun b o hb q=>eb b o hb q) f0 f1 f3 f4 f5⟩
 self:=fun _ _ _ _ _ st h=>by
  obtain⟨⟨old,he⟩,_⟩:=st;exact wpAny_pyIter_enum he h
def lI(K:Fg)(I:TA):TI:=fun σ H R=>I σ H fun vs g=>∃a,vs=[.ref a]/\(∃xs,Al K g a xs)/\R (lK K a) g
def cC{X:Cx}{elts:rg}{x1}{g:Pos}{a:Expr}{Z:TA}{p pos:Pos}(hg:Gl X "enumerate")(hm:X.mg "enumerate" = none)(ha:PA X [a] Z)(hs:starEach [a] X.env=[(false,eval a X.env)]:=by rfl):PI X (.Tuple elts x1 g) (.Call (.Name "enumerate" p) [a] [] pos) (lI X.K Z):=by
 intro pins s σ H R I h;refine Call_ (HH I hg hm boot_enumerate (bD (BG (ha pos pins s σ H _ I h) fun us s1 ⟨vs,H1,T,r1,q1⟩=>?_) hs rfl));obtain⟨t,e,⟨xs,hq⟩,q⟩:=q1;subst e;cases r1 with
 |cons r rr=>
  cases rr;cases r;obtain⟨U,rv,p',hz⟩:=T.list hq;refine call_enumerate_list (show s1.heap.IsList t U.toArray from p'.isList) fun h' he hit hsz hk=>wpAny_pyIter_enum he ?_;have I2:Inv X pins σ H1 {s1 with heap:=h'}:=T.kept (t':=s1.toks) hk;have hn:s1.heap.objs.size+1≠s1.heap.objs.size:=by lia
  refine⟨s1.heap.objs.size+1,[s1.heap.objs.size+1,s1.heap.objs.size],_,_,H1,rfl,I2,Xi t _ _ hn,⟨⟨_,he⟩,hit⟩,fun b hb=>?_,q⟩;have O:s1.heap.objs.size<=b:=by
   have Y:b=s1.heap.objs.size+1\/b=s1.heap.objs.size:=by simpa using hb
   rcases Y with z|z
   .rw[z];exact Nat.le_succ _
   .rw[z];exact aH _
  exact T.Rc O (T.Ap.fresh O)
def mO(i:Expr):Prop:=∀g I,subscripted i false g I=operate [g,I] (getItem g I)
def iB{prog:Program}{w:World}{A:Around}{E:rV}{s:SD}{env:Env}{value slice:Expr}{pos:Pos}{T id:String}{Q:rV} (hl:typeLookup (.type T) "__getitem__" = pure (some (.builtin id)))(hs:mO slice) (h:wpAny (model prog w) A (eval value env) (fun o R=>wpAny (model prog w) A (eval slice env) (fun i g=>g.TypeIs o T/\wpAny (model prog w) A (getItem o i) Q E g) E R) E s):wpAny (model prog w) A (eval (.Subscript value slice pos) env) Q E s:=by
 refine Subscript_ (aU h (fun o R Y=>aU Y (fun i g I=>?_) fun _ _ x=>x) fun _ _ x=>x);obtain⟨Z,I⟩:=I;unfold subscriptTail;refine Wb ?_;rw[getitemInPython_of_ne Z.not_modules];refine Wb (wpAny_specialOf Z hl ?_);have fin:wpAny (model prog w) A (subscripted slice false o i) (fun r O=>wpAny (model prog w) A (letTemporaryGo value o r>>=fun _=>pure r) Q E O) E g:=by
  rw[hs o i];exact wpAny_operating (aU I (fun r O U=>Wb (wpAny_letTemporaryGo (aA U))) fun _ _ x=>x)
 first
  |exact aA (Wb fin)
  |exact Wb (aA (Wb fin))
  |exact Wb fin
end L2
namespace TH
open PySem PyProof.Rows PySem.SeqAt
def JF:Tr->List Int
 |.nil=>[]
 |.cons b r=>reduceHash (Builtin.Tuple.tupleHashOf (JF b))::JF r
def Ah(t:Tr):Int:=reduceHash (Builtin.Tuple.tupleHashOf (JF t))
section
variable{prog:Program}{w:World}{E:rV}
def IsTuple.ty{h:Heap}{a:AD}{x:Array VL}{s:SD}(e:s.heap=h)(k:h.IsTuple a x):s.TypeIs (.ref a) "tuple" := by
 subst e;obtain⟨o,g,I,_⟩:=k;exact⟨o,g,I⟩
def WG(prog:Program)(w:World)(E:rV)(t:Tr):Prop:=∀(us:List VL) (A:Around) (s:SD) (b:Array Int) (Q:Array Int->SD->Prop),Vs s.heap t us->A.units+t.deep<=cLine ->
 (∀tk g,g.toList=b.toList++JF t->Q g {s with toks:=tk})->wpAny (model prog w) A (forIn us b fun x r=>do let h <-pyHash x;pure PUnit.unit;pure (ForInStep.yield (r.push h))) Q E s
def Oe{t:Tr}(row:WG prog w E t){a:AD}{g:rT}{A:Around}{s:SD}{Q:Int->SD->Prop}(I:s.heap.IsTuple a g.toArray)(U:Vs s.heap t g)(Y:A.units+t.deep<cLine) (h:∀tk,Q (Ah t) {s with toks:=tk}):wpAny (model prog w) A (pyHash (.ref a)) Q E s:=by
 have R:=IsTuple.ty rfl I;obtain⟨o,O,Z,n,hd⟩:=id I;refine PySem.W.pyHash_slot (T := "tuple") R F.slot_tuple_hash F.entry_tuple_hash (F.args_tuple_hash_1 _) (beq_builtin_none _) (.inr (by lia)) ?_;show wpAny _ _ (Builtin.Tuple.tupleItemsOf (.ref a)>>=_) _ _ s;refine Wb (wpAny_tupleItemsOf O hd ?_);refine Wb ?_;rw[<-Array.forIn_toList];refine row g A.in1 s #[] _ U (by rw[Around.in1_units];lia) fun tk b hb=>?_;show wpAny _ _ (retInt (Builtin.Tuple.tupleHashOf b.toList)) _ _ _;rw[hb];exact Wb (wpAny_mkInt (aA ⟨_,_,rfl,h _⟩))
def QC:∀t:Tr,WG prog w E t
 |.nil=>fun us A s b Q e _ h=>by rw[Vs]at e;subst e;exact aA (h s.toks b (by simp[JF]))
 |.cons c r=>fun us A s b Q e Y h=>by
  rw[Vs]at e;obtain⟨a,I,rest,rfl,T,R,O⟩:=e;have hd:(Tr.cons c r).deep=max (c.deep+1) r.deep:=rfl;rw[List.forIn_cons];refine Wb (Wb (Oe (QC c) T R (by lia) fun tk=>?_));refine Wb (aA (aA ?_));exact QC r rest A _ _ Q O (by lia) fun g U hb=>h g U (by simp[hb,JF,Ah])
def iT{t:Tr}{a:AD}{g:rT}{A:Around}{s:SD}{Q:Int->SD->Prop}(R:s.heap.IsTuple a g.toArray)(O:Vs s.heap t g)(I:A.units+t.deep<cLine) (h:∀tk,Q (Ah t) {s with toks:=tk}):wpAny (model prog w) A (pyHash (.ref a)) Q E s:=Oe (QC t) R O I h
def Good(h:Heap)(n:Nat)(v:VL):Prop:=∃a g t,v=.ref a/\h.IsTuple a g.toArray/\Vs h t g/\t.deep<n
def Me{h:Heap}:∀ {t:Tr} {us:List VL} {n:Nat},Vs h t us->t.deep<=n->∀v∈us,Good h n v
 |.nil,us,n,e,_,v,g=>by rw[Vs]at e;subst e;cases g
 |.cons c r,us,n,e,hd,v,g=>by
  rw[Vs]at e;obtain⟨a,I,rest,rfl,T,R,O⟩:=e;rw[Tr.deep]at hd;rcases aM.mp g with rfl|g
  .exact⟨a,I,c,rfl,T,R,by lia⟩
  .exact Me O (by lia) v g
def Vp:∀(n:Nat) {v:VL} {A:Around} {s:SD} {Q:Bool->SD->Prop},Good s.heap n v->Q true s->wpAny (model prog w) A (hashByValue n v) Q E s
 |0,v,A,s,Q,⟨_,_,_,_,_,_,z⟩,_=>absurd z (ak _)
 |n+1,v,A,s,Q,⟨a,I,t,e,U,h2,hd⟩,h=>by
  subst e;have Z:=IsTuple.ty rfl U;obtain⟨o,Y,hc,k,T⟩:=id U;unfold hashByValue;refine Wb (wpAny_specialOf Z F.slot_tuple_hash.lookup ?_);refine Wb (bE Y T ?_);refine Wb ?_;show wpAny _ _ (forIn I.toArray _ _) _ _ s;rw[<-Array.forIn_toList];refine wpAny_forIn_list _ (fun rest r s'=>r.1=none/\s'=s/\∀v∈rest,Good s.heap n v) _ ?_ ?_ _ _ ⟨rfl,rfl,Me h2 (by lia)⟩
  .rintro v rest r s' ⟨R,rfl,g⟩;refine Wb (Vp n (g v aS) ?_);simp only[Bool.not_true,Bool.false_eq_true,if_false];exact aA ⟨rfl,rfl,fun u O=>g u (aO _ O)⟩
  .rintro⟨r1,r2⟩ s' ⟨R,rfl,_⟩;simp only at R;subst R;exact aA h
def quiet:∀(n:Nat) {v:VL} {A:Around} {s:SD} {Q:Bool->SD->Prop},Good s.heap n v->Q true s->wpAny (model prog w) A (eqIsQuiet n v) Q E s
 |0,v,A,s,Q,⟨_,_,_,_,_,_,z⟩,_=>absurd z (ak _)
 |n+1,v,A,s,Q,⟨a,I,t,e,Y,h2,hd⟩,h=>by
  subst e;have U:=IsTuple.ty rfl Y;obtain⟨o,Z,hc,k,T⟩:=id Y;unfold eqIsQuiet;refine Wb (wpAny_specialOf U F.slot_tuple_eq.lookup ?_);show wpAny _ _ (isInstance (.ref a) (.type "tuple")>>=_) _ _ s;refine Wb (wpAny_isInstance U isSubtype_tuple_tuple ?_);simp only[Bool.not_true,Bool.false_eq_true,if_false];refine Wb (bE Z T ?_);refine Wb ?_;show wpAny _ _ (forIn I.toArray _ _) _ _ s;rw[<-Array.forIn_toList];refine wpAny_forIn_list _ (fun rest r s'=>r.1=none/\s'=s/\∀v∈rest,Good s.heap n v) _ ?_ ?_ _ _ ⟨rfl,rfl,Me h2 (by lia)⟩
  .rintro v rest r s' ⟨R,rfl,g⟩;refine Wb (quiet n (g v aS) ?_);simp only[Bool.not_true,Bool.false_eq_true,if_false];exact aA ⟨rfl,rfl,fun u O=>g u (aO _ O)⟩
  .rintro⟨r1,r2⟩ s' ⟨R,rfl,_⟩;simp only at R;subst R;exact aA h
def Py:∀(n:Nat) {v:VL} {A:Around} {s:SD} {Q:Bool->SD->Prop},Good s.heap n v->Q false s->wpAny (model prog w) A (ofAClassStatement n v) Q E s
 |0,v,A,s,Q,⟨_,_,_,_,_,_,z⟩,_=>absurd z (ak _)
 |n+1,v,A,s,Q,⟨a,U,t,e,T,h2,hd⟩,h=>by
  subst e;have hT:=IsTuple.ty rfl T;obtain⟨o,Z,hc,k,R⟩:=id T;unfold ofAClassStatement;refine Wb (wpAny_typeOf hT ?_);have Y:("tuple" == "tuple")=true:=by rfl
  dsimp only;rw[if_pos Y];refine Wb (aA ?_);simp only[Bool.not_true,Bool.false_eq_true,if_false];refine Wb (bE Z R ?_);refine Wb ?_;rw[<-Array.forIn_toList];refine wpAny_forIn_list _ (fun rest r s'=>r.1=none/\s'=s/\∀v∈rest,Good s.heap n v) _ ?_ ?_ _ _ ⟨rfl,rfl,Me h2 (by lia)⟩
  .rintro v rest r s' ⟨O,rfl,g⟩;refine Wb (Py n (g v aS) ?_);simp only[Bool.false_eq_true,if_false];exact aA ⟨rfl,rfl,fun u I=>g u (aO _ I)⟩
  .rintro⟨r1,r2⟩ s' ⟨O,rfl,_⟩;simp only at O;subst O;exact aA h
def dG{x:VL}{l:rT}{A:Around}{s:SD}{Q:Bool->SD->Prop}(hx:Good s.heap 8 x)(hl:∀y∈l,Good s.heap 8 y)(h:Q false s):wpAny (model prog w) A (searchCouldBeSeen x l) Q E s:=by
  unfold searchCouldBeSeen
  refine Wb ?_
  refine wpAny_forIn_list _ (fun rest r s'=>r.1=none/\s'=s/\∀v∈rest,Good s.heap 8 v) _ ?_ ?_ _ _ ⟨rfl,rfl,hl⟩
  . rintro v rest r s' ⟨hr,rfl,hall⟩
    have go:∀b:Bool,wpAny (model prog w) A (if b=true then pure (ForInStep.yield (none,())) else do
        let q <-eqIsQuiet 8 x
        if(!q)=true then pure (ForInStep.done (some true,())) else do
          let q <-eqIsQuiet 8 v
          if(!q)=true then pure (ForInStep.done (some true,())) else do
            let q <-ofAClassStatement 8 x
            if q=true then pure (ForInStep.done (some true,())) else do
              let q <-ofAClassStatement 8 v
              if q=true then pure (ForInStep.done (some true,())) else pure (ForInStep.yield (none,())))
        (fun st s''=>match st with
          |ForInStep.yield r=>r.1=none/\s''=s'/\∀v∈rest,Good s'.heap 8 v
          |ForInStep.done r=>False) E s':=fun b=>by
      cases b with
      |true=>rw[if_pos rfl];exact aA ⟨rfl,rfl,fun u hu'=>hall u (aO _ hu')⟩
      |false=>
        rw[if_neg aI]
        refine Wb (quiet 8 hx ?_)
        simp only[Bool.not_true,Bool.false_eq_true,if_false]
        refine Wb (quiet 8 (hall v aS) ?_)
        simp only[Bool.not_true,Bool.false_eq_true,if_false]
        refine Wb (Py 8 hx ?_)
        simp only[Bool.false_eq_true,if_false]
        refine Wb (Py 8 (hall v aS) ?_)
        simp only[Bool.false_eq_true,if_false]
        exact aA ⟨rfl,rfl,fun u hu'=>hall u (aO _ hu')⟩
    refine aU (go _) (fun st s'' z=>?_) fun _ _ z=>z
    cases st with
    |yield r=>exact z
    |done r=>exact z.elim
  . rintro⟨r1,r2⟩ s' ⟨hr,rfl,_⟩
    simp only at hr
    subst hr
    exact aA h
end
end TH
namespace TH
open PySem PyProof.Rows PySem.SeqAt
abbrev ES:=Array (Int×Tr)
def Ly(g:ES)(i:Nat):Int:=(g[i]?.map (·.1)).getD 0
def Pt(g:ES)(t:SetTable)(x:Tr)(h:Int):Option (Option Nat) :=
 if t.gaveWay then none else
 match t.probe (Ly g) h (t.probeStart h) with
 |some (.empty j none)=>some (some j)
 |some (.candidate _ i _)=>match g[i]? with
  |some (_,y)=>if y=x then some none else none
  |none=>none
 |_=>none
def PQ(st:ES×SetTable)(x:Tr):Option (ES×SetTable) :=
 if(st.2.fits st.1.size&&decide (st.1.size<=1000)&&st.2.plain)=false then none else
 match Pt st.1 st.2 x (Ah x) with
 |none=>none
 |some none=>some st
 |some (some slot)=>
  if(st.2.put slot).1.tooFull=false then some (SetTable.insertAt st.1 (st.2.put slot).2 (Ah x,x),(st.2.put slot).1) else
  if((st.2.put slot).1.fits (SetTable.insertAt st.1 (st.2.put slot).2 (Ah x,x)).size&&decide (SetTable.sizeAbove (SetTable.grown (st.1.size+1))<=100000))=false then none else
  match (st.2.put slot).1.relaid ((SetTable.insertAt st.1 (st.2.put slot).2 (Ah x,x)).map (·.1)) (SetTable.grown (st.1.size+1)) with
  |none=>none
  |some (g,order)=>
   if(order.filterMap ((SetTable.insertAt st.1 (st.2.put slot).2 (Ah x,x))[·]?)).size=(SetTable.insertAt st.1 (st.2.put slot).2 (Ah x,x)).size then
    some (order.filterMap ((SetTable.insertAt st.1 (st.2.put slot).2 (Ah x,x))[·]?),g) else none
def Pe(G:VL->Tr->Prop)(h:Heap)(p:Int×VL)(q:Int×Tr):Prop:=p.1=q.1/\q.2.deep<8/\G p.2 q.2/\∃a g,p.2=.ref a/\h.IsTuple a g.toArray/\Vs h q.2 g
abbrev DV(G:VL->Tr->Prop)(h:Heap)(ev:Array (Int×VL))(g:ES):Prop:=Paired (Pe G h) ev.toList g.toList
variable{G:VL->Tr->Prop}
section
variable{α β:Type}{F:α->β->Prop}
def Paired.get:∀ {l:List α} {m:List β},Paired F l m->∀ {i:Nat} {y:β},m[i]? = some y->∃x,l[i]? = some x/\F x y
 |_,_,.nil,i,y,h=>by simp at h
 |_,_,.cons g r,0,y,h=>by simp at h;subst h;exact⟨_,rfl,g⟩
 |_,_,.cons g r,i+1,y,h=>Paired.get r (by simpa using h)
def Paired.none:∀ {l:List α} {m:List β},Paired F l m->∀ {i:Nat},m[i]? = Option.none->l[i]? = Option.none:=fun {l m} r i h=>by
 have:=r.length;rw[List.getElem?_eq_none_iff]at h ⊢
 lia
def Paired.app{I:List α}{g:List β}(k:Paired F I g):∀ {l:List α} {m:List β},Paired F l m->Paired F (l++I) (m++g)
 |_,_,.nil=>k
 |_,_,.cons h r=>.cons h (Paired.app k r)
def Paired.take:∀ {l:List α} {m:List β} (n:Nat),Paired F l m->Paired F (l.take n) (m.take n)
 |_,_,0,_=>by simpa using Paired.nil
 |_,_,n+1,.nil=>by simpa using Paired.nil
 |_,_,n+1,.cons h r=>.cons h (Paired.take n r)
def Paired.drop:∀ {l:List α} {m:List β} (n:Nat),Paired F l m->Paired F (l.drop n) (m.drop n)
 |_,_,0,h=>h
 |_,_,n+1,.nil=>by simpa using Paired.nil
 |_,_,n+1,.cons h r=>Paired.drop n r
def Paired.pick{l:List α}{m:List β}(r:Paired F l m):∀(o:List Nat),Paired F (o.filterMap (l[·]?)) (o.filterMap (m[·]?))
 |[]=>.nil
 |i::o=>by
  rw[List.filterMap_cons,List.filterMap_cons];cases e:m[i]? with
  |none=>rw[Paired.none r e];exact Paired.pick r o
  |some y=>
   obtain⟨x,g,h⟩:=Paired.get r e;rw[g];exact .cons h (Paired.pick r o)
def Paired.imp{G:α->β->Prop}(h:∀a b,F a b->G a b):∀ {l:List α} {m:List β},Paired F l m->Paired G l m
 |_,_,.nil=>.nil
 |_,_,.cons k r=>.cons (h _ _ k) (Paired.imp h r)
end
def Io{g:Type}(xs:Array g)(p:Nat)(x:g):(SetTable.insertAt xs p x).toList=xs.toList.take p++x::xs.toList.drop p:=by
 unfold SetTable.insertAt;simp[List.extract];rw[List.take_of_length_le (by simp)]
def DV.fst{h:Heap}{ev:Array (Int×VL)}{g:ES}(r:DV G h ev g):ev.map (·.1)=g.map (·.1):=by
 have key:∀ {l:List (Int×VL)} {m:List (Int×Tr)},Paired (Pe G h) l m->l.map (·.1)=m.map (·.1):=fun r=>by
  induction r with
  |nil=>rfl
  |cons k _ I=>rw[List.map_cons,List.map_cons,I,k.1]
 apply Array.toList_inj.mp
 simpa using key r
def DV.size{h:Heap}{ev:Array (Int×VL)}{g:ES}(r:DV G h ev g):ev.size=g.size:=by simpa using Paired.length r
def DV.Ly{h:Heap}{ev:Array (Int×VL)}{g:ES}(r:DV G h ev g)(i:Nat):(ev[i]?.map (·.1)).getD 0=Ly g i:=by
 have:=bI (fun a:Array Int=>a[i]?) r.fst;simp only[Array.getElem?_map]at this;rw[TH.Ly,this]
def DV.good{h:Heap}{ev:Array (Int×VL)}{U:ES}(r:DV G h ev U):∀p∈ev.toList,Good h 8 p.2:=by
 have key:∀ {l:List (Int×VL)} {m:List (Int×Tr)},Paired (Pe G h) l m->∀p∈l,Good h 8 p.2:=fun r=>by
  induction r with
  |nil=>intro p g;cases g
  |cons k _ O=>
   intro p g;rcases aM.mp g with rfl|g
   .obtain⟨_,hd,_,a,I,e,T,R⟩:=k;exact⟨a,I,_,e,T,R,hd⟩
   .exact O p g
 exact key r
def DV.at{h:Heap}{ev:Array (Int×VL)}{R:ES}(r:DV G h ev R){i:Nat}{z:Int}{y:Tr}(e:R[i]? = some (z,y)):∃a g,ev[i]? = some (z,.ref a)/\h.IsTuple a g.toArray/\Vs h y g/\y.deep<8:=by
 obtain⟨⟨T,v⟩,Z,I,hd,_,a,g,O,Y,U⟩:=Paired.get r (by simpa using e);have I:T=z:=I;have O:v=.ref a:=O;subst I O;exact⟨a,g,by simpa using Z,Y,U,hd⟩
def DV.keeps{h h':Heap}{ev:Array (Int×VL)}{R:ES}(k:∀b o,h.get? b=some o->o.cls=.type "tuple" -> h'.get? b=some o)(r:DV G h ev R):DV G h' ev R :=
 Paired.imp (fun p q ⟨e,hd,hg,a,g,Z,Y,U⟩=>⟨e,hd,hg,a,g,Z,(by obtain⟨o,T,O,n,I⟩:=Y;exact⟨o,k _ _ T O,O,n,I⟩),U.keeps k⟩) r
section
variable{prog:Program}{w:World}{E:rV}{A:Around}{s:SD}{a xa:AD}{o:Obj}{ev:Array (Int×VL)}{et:ES}{ep:Nat}{t:SetTable}{x:Tr}{its:rT}{h:Int}
def ZI{r:Option Nat}{Q:SetFound->SD->Prop}(ho:s.heap.get? a=some o)(hd:o.data=.set ev ep t)(hf:t.fits et.size=true)(R:DV G s.heap ev et)(O:s.heap.IsTuple xa its.toArray)(I:Vs s.heap x its)(hxd:x.deep<8) (hu:A.units+8<cLine)(g:Pt et t x h=some r)(h0:r=none->Q (.there none) s)(h1:∀j,r=some j->Q (.free j false) s):wpAny (model prog w) A (setSearch a (.ref xa) h true) Q E s:=by
 have T:t.fits ev.size=true:=by rw[R.size];exact hf
 unfold Pt at g;by_cases hg:t.gaveWay=true
 .rw[if_pos hg]at g;cases g
 rw[if_neg hg]at g;unfold setSearch;rw[show(100000:Nat)=99999+1 from rfl,setSearchFrom];refine Wb (ax ho hd T ?_);dsimp only;rw[if_neg hg];have Z:∀f:Nat->Int,(∀i,f i=Ly et i)->t.probe f h ((none:Option SetTable.Probe).getD (t.probeStart h))=t.probe (Ly et) h (t.probeStart h):=fun f hf=>by
  rw[show f=Ly et from funext hf];rfl
 generalize U:t.probe _ h ((none:Option SetTable.Probe).getD (t.probeStart h))=pr;have Y:pr=t.probe (Ly et) h (t.probeStart h):=U.symm.trans (Z _ fun i=>R.Ly i);clear U Z;subst Y;cases hp:t.probe (Ly et) h (t.probeStart h) with
 |none=>rw[hp]at g;cases g
 |some met=>
  rw[hp]at g;cases met with
  |empty j dummy=>
   cases dummy with
   |none=>cases g;exact aA (h1 j rfl)
   |some d=>cases g
  |candidate j i next=>
   cases he:et[i]? with
   |none=>simp only[he]at g;cases g
   |some zy=>
    obtain⟨z,y⟩:=zy;simp only[he]at g;by_cases hy:y=x
    .rw[if_pos hy]at g;cases g;subst hy;obtain⟨b,its2,e1,e2,e3,e4⟩:=R.at he;cases hl:t.led with
     |true=>
      simp only[Bool.not_true,Bool.false_eq_true,if_false];rw[e1];refine Wb (aV (R5 e2 e3 O I (by lia) prog w E _ ?_));rw[decide_eq_true rfl];refine Wb (ax ho hd T ?_);exact aA (h0 rfl)
     |false=>
      simp only[Bool.not_false,if_true];refine Wb (dG ⟨xa,its,_,rfl,O,I,hxd⟩ (fun v hv=>?_) ?_)
      .obtain⟨p,hp1,rfl⟩:=aT.mp hv;exact R.good p (Array.mem_toList_iff.mpr (Array.mem_filter.mp (Array.mem_toList_iff.mp hp1)).1)
      simp only[Bool.false_eq_true,if_false];rw[e1];refine Wb (aV (R5 e2 e3 O I (by lia) prog w E _ ?_));rw[decide_eq_true rfl];refine Wb (ax ho hd T ?_);exact aA (h0 rfl)
    .rw[if_neg hy]at g;cases g
def FL{n:Nat}(h:n<=100000):n<=sizeLine:=aR h (by rw[sizeLine_eq];decide)
def W3{I:Heap}(O:I.get? a=some o)(hd:o.data=.set ev ep t)(g:Array (Int×VL))(t':SetTable):(I.update a (Obj.putSet g t')).get? a=some {o with data:=.set g (ep+1) t'}:=by
 have:=Heap.get?_update_self (Obj.putSet g t') O (by rw[putSet_of g t' hd];rfl);rw[putSet_of g t' hd]at this;exact this
def Ux{I:Heap}(R:I.get? a=some o)(T:o.cls=.type "set")(g:Obj->Obj):∀b u,I.get? b=some u->u.cls=.type "tuple" ->(I.update a g).get? b=some u:=fun b u q O=>by
 have:a≠b:=fun z=>by
  subst z;rw[R]at q;cases q;rw[T]at O
  injection O with z
  exact absurd z (by decide)
 rw[Heap.get?_update_other _ _ this];exact q
def kQ{et' : ES}{t' : SetTable}{Q : Bool->SD->Prop}(ho : s.heap.get? a = some o)(hc : o.cls = .type "set")(hd : o.data = .set ev ep t)(R : DV G s.heap ev et)(hx1 : s.heap.IsTuple xa its.toArray)(hx2 : Vs s.heap x its)(hxd : x.deep < 8)(hxg : G (.ref xa) x) (hu : A.units + 8 < cLine)(hs : PQ (et,t) x = some (et',t')) (k : ∀ (b : Bool) (h' : Heap) (tk : Nat) (ev' : Array (Int×VL)) (ep' : Nat),Heap.SameBut a s.heap h'->h'.get? a = some { o with data:=.set ev' ep' t' }->DV G h' ev' et'->Q b { s with heap:=h',toks:=tk }):wpAny (model prog w) A (setAdd a (.ref xa)) Q E s:=by
  unfold setAdd
  refine aV (Wb (iT hx1 hx2 (by lia) fun tk => ?_))
  unfold setAddHashed
  refine aV ?_
  unfold PQ at hs
  by_cases h1 : (t.fits et.size && decide (et.size<=1000) && t.plain) = false
  . rw [if_pos h1] at hs; cases hs
  rw [if_neg h1] at hs
  simp only [Bool.not_eq_false,Bool.and_eq_true,decide_eq_true_eq] at h1
  obtain ⟨⟨hf,hz⟩,hpl⟩:=h1
  have hf' : t.fits ev.size = true:=by rw [R.size]; exact hf
  cases hsr : Pt et t x (Ah x) with
  | none => simp only [hsr] at hs; cases hs
  | some r=>
    simp only [hsr] at hs
    rw [show (100000 : Nat) = 99999 + 1 from rfl,setAddHashedIn]
    refine Wb (ax (s:={ s with toks:=tk }) ho hd hf' ?_)
    dsimp only
    have hbs : byScan (.ref xa) ev = false:=rfl
    rw [hbs,if_neg aI]
    refine Wb (ZI (s:={ s with toks:=tk }) ho hd hf R hx1 hx2 hxd hu hsr (fun hr => ?_) fun j hr => ?_)
    . subst hr
      cases hs
      exact aA (k _ s.heap tk ev ep (Heap.SameBut.refl ..) (by rw [ho,<- hd]) R)
    . subst hr
      dsimp only at hs ⊢
      refine Wb (ax (s:={ s with toks:=tk }) ho hd hf' ?_)
      dsimp only
      have hpl2 : (t.put j).1.plain = true:=hpl
      rw [if_pos hpl2]
      refine Wb (Vp 8 (s:={ s with toks:=tk }) ⟨xa,its,x,rfl,hx1,hx2,hxd⟩ ?_)
      simp only [if_true]
      have R1 : DV G s.heap (SetTable.insertAt ev (t.put j).2 (Ah x,.ref xa)) (SetTable.insertAt et (t.put j).2 (Ah x,x)):=by
        unfold DV
        rw [Io,Io]
        exact Paired.app (.cons ⟨rfl,hxd,hxg,xa,its,rfl,hx1,hx2⟩ (Paired.drop _ R)) (Paired.take _ R)
      have hz1 : (SetTable.insertAt ev (t.put j).2 (Ah x,Value.ref xa)).size<=1001:=by
        have h2:=bI List.length (Io ev (t.put j).2 (Ah x,Value.ref xa))
        simp only [Array.length_toList,List.length_append,List.length_take,List.length_cons,List.length_drop] at h2
        have:=R.size
        lia
      have hz2 : (SetTable.insertAt et (t.put j).2 (Ah x,x)).size = (SetTable.insertAt ev (t.put j).2 (Ah x,Value.ref xa)).size:=R1.size.symm
      refine Wb (wpAny_storeSet_of (s:={ s with toks:=tk }) ho hd ?_ (FL (by lia)))
      have g1:=W3 ho hd (SetTable.insertAt ev (t.put j).2 (Ah x,.ref xa)) (t.put j).1
      have k1:=Ux ho hc (Obj.putSet (SetTable.insertAt ev (t.put j).2 (Ah x,.ref xa)) (t.put j).1)
      have sb1:=ae s.heap a (Obj.putSet (SetTable.insertAt ev (t.put j).2 (Ah x,.ref xa)) (t.put j).1)
      by_cases hfull : (t.put j).1.tooFull = false
      . rw [if_pos hfull] at hs
        cases hs
        rw [hfull]
        simp only [Bool.and_false,Bool.false_eq_true,if_false]
        exact aA (k _ _ tk _ _ sb1 g1 (R1.keeps k1))
      . rw [if_neg hfull] at hs
        have hfull : (t.put j).1.tooFull = true:=by simpa using hfull
        rw [hfull]
        simp only [Bool.not_false,Bool.and_true,if_true]
        by_cases h2 : ((t.put j).1.fits (SetTable.insertAt et (t.put j).2 (Ah x,x)).size && decide (SetTable.sizeAbove (SetTable.grown (et.size + 1))<=100000)) = false
        . rw [if_pos h2] at hs; cases hs
        rw [if_neg h2] at hs
        simp only [Bool.not_eq_false,Bool.and_eq_true,decide_eq_true_eq] at h2
        obtain ⟨hfit,hsa⟩:=h2
        cases hrl : (t.put j).1.relaid ((SetTable.insertAt et (t.put j).2 (Ah x,x)).map (·.1)) (SetTable.grown (et.size + 1)) with
        | none => simp only [hrl] at hs; cases hs
        | some to=>
          obtain ⟨t2,order⟩:=to
          simp only [hrl] at hs
          by_cases h3 : (order.filterMap ((SetTable.insertAt et (t.put j).2 (Ah x,x))[·]?)).size = (SetTable.insertAt et (t.put j).2 (Ah x,x)).size
          . rw [if_pos h3] at hs
            cases hs
            have R2 : DV G s.heap (order.filterMap ((SetTable.insertAt ev (t.put j).2 (Ah x,Value.ref xa))[·]?)) (order.filterMap ((SetTable.insertAt et (t.put j).2 (Ah x,x))[·]?)):=by
              unfold DV
              have:=Paired.pick R1 order.toList
              simpa using this
            have g2:=W3 g1 rfl (order.filterMap ((SetTable.insertAt ev (t.put j).2 (Ah x,Value.ref xa))[·]?)) t'
            have k2:=Ux g1 hc (Obj.putSet (order.filterMap ((SetTable.insertAt ev (t.put j).2 (Ah x,Value.ref xa))[·]?)) t')
            have sb2:=ae (s.heap.update a (Obj.putSet (SetTable.insertAt ev (t.put j).2 (Ah x,.ref xa)) (t.put j).1)) a (Obj.putSet (order.filterMap ((SetTable.insertAt ev (t.put j).2 (Ah x,Value.ref xa))[·]?)) t')
            refine Wb ?_
            unfold setRelay
            refine Wb (ax g1 rfl (by rw [<- hz2]; exact hfit) ?_)
            dsimp only
            rw [R.size,if_neg (Nat.not_lt.mpr (FL hsa))]
            refine Wb ?_
            rw [R1.fst,hrl]
            have hsz : (order.filterMap ((SetTable.insertAt ev (t.put j).2 (Ah x,Value.ref xa))[·]?)).size = (SetTable.insertAt ev (t.put j).2 (Ah x,Value.ref xa)).size:=by rw [R2.size,h3,hz2]
            have hne : ¬ ((order.filterMap ((SetTable.insertAt ev (t.put j).2 (Ah x,Value.ref xa))[·]?)).size != (SetTable.insertAt ev (t.put j).2 (Ah x,Value.ref xa)).size) = true:=by simp [hsz]
            show wpAny _ _ (do if (order.filterMap ((SetTable.insertAt ev (t.put j).2 (Ah x,Value.ref xa))[·]?)).size != (SetTable.insertAt ev (t.put j).2 (Ah x,Value.ref xa)).size then unsupported "internal:set-table-lost-an-element"
                               pure (order.filterMap ((SetTable.insertAt ev (t.put j).2 (Ah x,Value.ref xa))[·]?),t')) _ _ _
            rw [if_neg hne]
            refine aA ?_
            refine wpAny_storeSet_of g1 rfl ?_ (FL (by rw [hsz]; lia))
            exact aA (k _ _ tk _ _ (sb1.trans sb2) g2 ((R2.keeps k1).keeps k2))
          . rw [if_neg h3] at hs; cases hs
end
end TH
namespace TH
open PySem
def grow:List Tr->Tr->List Tr
 |_,.nil=>[]
 |pre,.cons b r=>((Tr.of (Tr.CQ (b.bs++[.nil]))::grow [] b).map fun g=>Tr.of (Tr.CQ (pre++g::r.bs)))++grow (pre++[b]) r
def qW(t:Tr):rz:=Tr.of (Tr.CQ (t.bs++[.nil]))::grow [] t
def ups(l:rz):rz:=l.flatMap qW
def J0(st:ES×SetTable):List Tr->Option (ES×SetTable)
 |[]=>some st
 |x::r=>(PQ st x).bind fun g=>J0 g r
def Jp(led:Bool):ES×SetTable:=(#[],.fresh 0 0 led)
def NZ(st:ES×SetTable):rz:=st.1.toList.map (·.2)
def tz:Nat->List Tr
 |0=>[.nil]
 |n+1=>(Tr.CQ ((ups (tz n)).eraseDups)).reverse
end TH
namespace TH
open PySem PyProof.Rows PySem.SeqAt
def T1(G:VL->Tr->Prop)(h:Heap)(v:VL)(x:Tr):Prop:=x.deep<8/\G v x/\∃a g,v=.ref a/\h.IsTuple a g.toArray/\Vs h x g
abbrev Jb(G:VL->Tr->Prop)(h:Heap)(vs:List VL)(xs:List Tr):Prop:=Paired (T1 G h) vs xs
variable{G:VL->Tr->Prop}
def T1.keeps{h h':Heap}(k:∀b o,h.get? b=some o->o.cls=.type "tuple" -> h'.get? b=some o){v:VL}{x:Tr}(r:T1 G h v x):T1 G h' v x:=by
 obtain⟨hd,hg,a,g,e,U,T⟩:=r;exact⟨hd,hg,a,g,e,(by obtain⟨o,R,O,n,I⟩:=U;exact⟨o,k _ _ R O,O,n,I⟩),T.keeps k⟩
def Jb.keeps{h h':Heap}(k:∀b o,h.get? b=some o->o.cls=.type "tuple" -> h'.get? b=some o){vs:rT}{xs:rz}(r:Jb G h vs xs):Jb G h' vs xs:=Paired.imp (fun _ _ z=>z.keeps k) r
def MV(G:VL->Tr->Prop)(h:Heap)(S:AD)(st:ES×SetTable):Prop:=∃o ev ep,h.get? S=some o/\o.ExactSet/\o.data=.set ev ep st.2/\DV G h ev st.1
def MV.keeps{h h':Heap}{S:AD}{st:ES×SetTable}(x:MV G h S st)(g:∀o,h.get? S=some o->h'.get? S=some o)(k:∀b o,h.get? b=some o->o.cls=.type "tuple" -> h'.get? b=some o):MV G h' S st:=by
 obtain⟨o,ev,ep,T,R,O,I⟩:=x;exact⟨o,ev,ep,g _ T,R,O,I.keeps k⟩
section
variable{prog:Program}{w:World}{A:Around}{R:Result->SD->Prop}{I S:AD}{fp wr:sC}{St:Nat->Heap->Prop}{items:Array VL}{xs:rz}{st':ES×SetTable}
def gr(W:Walks prog w A.in1 I fp wr items.size (fun i v=>items[i]? = some v) St)(hSf:S ∉ fp)(hcl:∀i h b o,St i h->b∈wr->h.get? b=some o->o.cls≠.type "tuple")(hu:A.units+10<cLine):∀(k i:Nat) (s:SD) (st:ES×SetTable),items.size-i=k->i<=items.size->St i s.heap->MV G s.heap S st->Jb G s.heap items.toList xs->J0 st (xs.drop i)=some st' ->(∀(h':Heap) (tk:Nat),(∀b o,b≠S->b ∉ wr->s.heap.get? b=some o->h'.get? b=some o)->(∀b o,s.heap.get? b=some o->o.cls=.type "tuple" -> h'.get? b=some o)->MV G h' S st'->R (.ok (.ret .none)) {s with heap:=h',toks:=tk}) ->codeAny (model prog w) A (.builtin "set.update.loop" ⟨[.ref S,.ref I],[]⟩) R s:=by
 have hSw:S ∉ wr:=fun h=>hSf (W.sub _ h);intro k
 induction k with
 |zero=>
  intro i s st hk hi T hS hT g hR;have hin:i=items.size:=by lia
  subst hin;have U:=Paired.length hT;rw[List.drop_of_length_le (by rw[<-U];simp)]at g;cases g;refine codeAny_builtin F.entry_set_update_loop ?_;rw[Around.under_plainId F.plain_set_update_loop _];show wpAny _ A.in1 (pyNext (.ref I)>>=_) _ _ s;refine Wb (W.done s _ _ T fun h' tk hm=>?_);show wpAny _ A.in1 (ret Value.none) _ _ _;have kt:∀b o,s.heap.get? b=some o->o.cls=.type "tuple" -> h'.get? b=some o:=fun b o e O=>hm b o (fun hb=>hcl _ _ b o T hb e O) e;exact aA (hR h' tk (fun b o _ hb e=>hm b o hb e) kt (hS.keeps (fun o e=>hm S o hSw e) kt))
 |succ k ih=>
  intro i s st hk hi T hS hT g hR;have Z:i<items.size:=by lia
  refine codeAny_builtin F.entry_set_update_loop ?_;rw[Around.under_plainId F.plain_set_update_loop _];show wpAny _ A.in1 (pyNext (.ref I)>>=_) _ _ s;refine Wb (W.item i s _ _ Z T fun v h1 tk hP hst' hm=>?_);have kt:∀b o,s.heap.get? b=some o->o.cls=.type "tuple" -> h1.get? b=some o:=fun b o e O=>hm b o (fun hb=>hcl _ _ b o T hb e O) e;have hS1:=hS.keeps (fun o e=>hm S o hSw e) kt;have hT1:=hT.keeps kt;have U:=Paired.length hT;have hxi:i<xs.length:=by rw[<-U];simpa using Z
  have hx:xs[i]? = some xs[i]:=aN hxi;obtain⟨v',hv',hxd,hxg,xa,its,e1,e2,e3⟩:=Paired.get hT1 hx;have hvv:v'=v:=by
   have h2:items.toList[i]? = some v:=by simpa using hP
   rw[h2]at hv';exact(af hv').symm
  subst hvv;subst e1;rw[List.drop_eq_getElem_cons hxi,J0]at g;cases Y:PQ st xs[i]with
  |none=>rw[Y]at g;cases g
  |some st1=>
   rw[Y]at g;obtain⟨o,ev,ep,g1,g2,g3,g4⟩:=hS1;obtain⟨et,t⟩:=st;obtain⟨et1,t1⟩:=st1;show wpAny _ A.in1 (holding [Value.ref xa] (setAdd S (.ref xa))>>=_) _ _ _;refine Wb (aV (kQ (s:={s with heap:=h1,toks:=tk}) g1 g2.1 g3 g4 e2 e3 hxd hxg (by rw[Around.in1_units];lia) Y fun b h2 tk2 ev2 ep2 sb gS R2=>?_));have kt2:∀b o,h1.get? b=some o->o.cls=.type "tuple" -> h2.get? b=some o:=fun b o' e O=>by
    rw[sb.2 b fun z=>?_]
    .exact e
    .subst z;rw[g1]at e;cases e;rw[g2.1]at O
     injection O with O
     exact absurd O (by decide)
   refine aA ⟨plainId_quiet F.plain_set_update_loop _,ih (i+1) {s with heap:=h2,toks:=tk2} (et1,t1) (by lia) Z (W.frame _ _ _ hst' fun b hb o' e=>?_) ⟨_,ev2,ep2,gS,g2,rfl,R2⟩ (hT1.keeps kt2) g fun h3 tk3 m3 kt3 S3=>?_⟩
   .rw[sb.2 b fun z=>hSf (z ▸ hb)];exact e
   .refine hR h3 tk3 (fun b o' hbS hb e=>?_) (fun b o' e O=>kt3 b o' (kt2 b o' (kt b o' e O) O) O) S3;refine m3 b o' hbS hb ?_;show h2.get? b=some o';rw[sb.2 b hbS];exact hm b o' hb e
end
end TH
namespace TH
open PySem PyProof.Rows PySem.SeqAt
section
variable{G:VL->Tr->Prop}{prog:Program}{w:World}{A:Around}{E:rV}{s:SD}{l:AD}{us:rT}{xs:rz}
abbrev GH(led:Bool):Obj:={ cls:=.type "set",dict:=none,data:=.set #[] 0 (.fresh 0 0 led)}
def Xc(v:VL){Q1:rV}(k:Q1 (.ref s.heap.objs.size) {s with heap:=s.heap.push (GH (!w.params.followText "set-order"))}):codeAny (model prog w) A (.call (.builtin "set.__new__") ⟨[.type "set",v],[]⟩) (wants Q1 E) s:=by
 refine codeAny_of_tree (show wpAny _ A.in1 (checkBuiltinCall "set.__new__" ⟨[.type "set",v],[]⟩>>=fun _=>again (.builtin "set.__new__" ⟨[.type "set",v],[]⟩)) _ _ s from ?_);refine Wb (wpAny_of_eq (F.newCall_set_1 v) (aA ⟨plainId_quiet F.plain_set_new _,codeAny_builtin F.entry_set_new ?_⟩));rw[Around.under_plainId F.plain_set_new _];unfold Builtin.«set.__new__»;unfold Builtin.Frozenset.newClass;have q:=sub_set_self;obtain⟨h0,g,I,t0,o0⟩:=s;dsimp only
 wp_walk
 refine wpAny_askSetting (aA ?_);dsimp only;simp only[newObj];exact Wb (wpAny_alloc (aA (aA k)))
def WC{Q:rV}(hA:A.handled=none)(hL:s.heap.IsList l us.toArray)(hT:Jb G s.heap us xs)(hu:A.units+20<cLine){st:ES×SetTable}(T:J0 (Jp (!w.params.followText "set-order")) xs=some st) (k:∀(I:Heap) (tk:Nat),MV G I s.heap.objs.size st->(∀b u,s.heap.get? b=some u->I.get? b=some u)->Q (.ref s.heap.objs.size) {s with heap:=I,toks:=tk}):wpAny (model prog w) A (call (.type "set") [.ref l]) Q E s:=by
 obtain⟨mc,mt,hmro⟩:=F.called_set.mro;have q1:=F.called_set.made;have q2:=F.called_set.sub;have q3:=F.called_set.notType;have q4:=F.called_set.canCreate;have q5:=F.typeCall_set_1 (.ref l);refine wpAny_call (codeAny_of_tree (show wpAny _ _ (callAny (.type "set") _) _ _ _ from ?_));refine aA ⟨Code.quiet_builtin _ (by decide +kernel),codeAny_builtin F.entry_type_call ?_⟩;rw[Around.under_plain (weight_type_call_type "set" [.ref l] []) rfl]
 repeat (any_goals (first|assumption|wp_step))
 have Y:=Xc (prog:=prog) (w:=w) (s:=s) (A:=A.in1) (E:=E) (.ref l) (Q1:=fun v s1=>v=.ref s.heap.objs.size/\s1={s with heap:=s.heap.push (GH (!w.params.followText "set-order"))}) ⟨rfl,rfl⟩;refine codeAny_mono Y fun r s1 U=>?_;cases r with
 |error e=>exact U
 |ok fl=>
  cases fl with
  |next=>exact U.elim
  |brk=>exact U.elim
  |cont=>exact U.elim
  |ret obj=>
   obtain⟨rfl,rfl⟩:=U;generalize (!w.params.followText "set-order")=led at T;have gS:(s.heap.push (GH led)).get? s.heap.objs.size=some (GH led):=aP _ rfl;have tS:Shared.TypeIs {s with heap:=s.heap.push (GH led)} (.ref s.heap.objs.size) "set" := ⟨_,gS,rfl⟩;have q6:=F.called_set.init.lookup;have q7:=F.called_set.init.bind (.ref s.heap.objs.size)
   repeat (any_goals (first|assumption|wp_step))
   have O:codeAny (model prog w) A.in1 (.call (.builtin "set.__init__") ⟨[.ref s.heap.objs.size,.ref l],[]⟩)
     (wants (fun v s2=>v=.none/\∃I tk,s2={s with heap:=I,toks:=tk}/\MV G I s.heap.objs.size st/\∀b u,s.heap.get? b=some u->I.get? b=some u) E) {s with heap:=s.heap.push (GH led)}:=by
    refine codeAny_call_builtin F.called_set.init.plain F.entry_set_init (check_set_init_1 tS ?_);obtain⟨⟨c0,d0,dt0,sl0⟩,gl,c1,n0,Z⟩:=id hL;simp only at c1 Z;subst c1 Z;have gl1:(s.heap.push (GH led)).get? l=some ⟨.type "list",d0,.seq us.toArray n0,sl0⟩:=aD _ gl;have R:(s.heap.push (GH led)).IsList l us.toArray:=⟨_,gl1,rfl,n0,rfl⟩;have s1:=F.sub_list_set;have s2:=F.sub_list_frozenset;have s3:(Value.type "list" == Value.type "dict")=false:=by decide
    unfold Builtin.«set.__init__» noKeywords Builtin.Frozenset.updateFrom;generalize ePI:pyIter=PI
    wp_walk
    subst ePI;refine wpAny_pyIter_list R (Wb (wpAny_runValue ?_));have ll:l<s.heap.objs.size:=aF gl;have zI:(s.heap.push (GH led)).objs.size=s.heap.objs.size+1:=Heap.size_push ..;have neI:l≠(s.heap.push (GH led)).objs.size:=by rw[zI];exact aK (av ll)
    have nfp:s.heap.objs.size ∉ [(s.heap.push (GH led)).objs.size,l]:=by
     simp only[List.mem_cons,List.not_mem_nil,or_false,not_or];exact⟨by rw[zI];exact aK (bK _),Nat.ne_of_gt ll⟩
    have hA3:A.in1.in1.in1.handled=none:=by simp[hA]
    refine gr (G:=G) (xs:=xs) (st':=st) (Walks.list hA3 _ l neI us.toArray) nfp (fun i h b o hit hb e hc=>?_) (by simp only[Around.in1_units];lia) _ 0 _ (Jp led) rfl (aj _) ⟨⟨_,Heap.get?_push_size _ rfl,rfl,rfl⟩,R.push _⟩ ?_ ?_ T fun I tk m2 kt2 S2=>?_
    .obtain⟨⟨oi,gi,ci,_⟩,_⟩:=hit;have:b=(s.heap.push (GH led)).objs.size:=by simpa using hb
     subst this;rw[gi]at e;cases e;rw[ci]at hc
     injection hc with hc
     exact absurd hc (by decide)
    .exact⟨GH led,#[],0,Heap.get?_push_of_some _ gS,⟨rfl,rfl,rfl⟩,rfl,.nil⟩
    .exact hT.keeps fun b o e _=>aD _ (aD _ e)
    .refine aA ?_;show wpAny _ _ (ret Value.none) _ _ _;refine aA ⟨rfl,I,tk,rfl,S2,fun b u e=>?_⟩;have lb:b<s.heap.objs.size:=aF e;refine m2 b u (aK lb) ?_ (aD _ (aD _ e));simp only[List.mem_cons,List.not_mem_nil,or_false];rw[zI];exact aK (av lb)
   refine codeAny_mono O fun r2 s2 g=>?_;cases r2 with
   |error e=>exact g
   |ok f2=>
    cases f2 with
    |next=>exact g.elim
    |brk=>exact g.elim
    |cont=>exact g.elim
    |ret v2=>
     obtain⟨rfl,I,tk,rfl,S2,k2⟩:=g
     repeat (any_goals (first|assumption|wp_step))
     exact k I tk S2 k2
end
end TH
namespace TH
open PySem PyProof.Rows PySem.SeqAt
def R6:entryFor table "set.__iter__" = some Builtin.«frozenset.__iter__» :=
 entryFor_alias (id' := "frozenset.__iter__") (by kernel_rfl) rfl (by decide +kernel) (by kernel_rfl)
def EK:Slot "set_iterator" "__next__" "set_iterator.__next__" :=
 .of (owner := "set_iterator") (n := "__next__") (by rw[typeLookup_type,builtinLookup_eq_fast];kernel_rfl) (by decide +kernel)
  (by decide +kernel) (by decide +kernel) (by first|exact .inl (by decide +kernel)|exact .inr (by decide +kernel)) (by rw[isSubtype_type];kernel_rfl)
def Ln:entryFor table "set_iterator.__next__" = some Builtin.«set_iterator.__next__»:=entryFor_of_fast (by kernel_rfl)
def Mu(a:VL):argsOk "set_iterator.__next__" ⟨[a],[]⟩:=by unfold argsOk;kernel_rfl
def Mq:Slot "set_iterator" "__iter__" "set_iterator.__iter__" :=
 .of (owner := "set_iterator") (n := "__iter__") (by rw[typeLookup_type,builtinLookup_eq_fast];kernel_rfl) (by decide +kernel)
  (by decide +kernel) (by decide +kernel) (by first|exact .inl (by decide +kernel)|exact .inr (by decide +kernel)) (by rw[isSubtype_type];kernel_rfl)
def Rh:entryFor table "set_iterator.__iter__" = some Builtin.«dict_keyiterator.__iter__» :=
 entryFor_alias (id' := "dict_keyiterator.__iter__") (by kernel_rfl) rfl (by decide +kernel) (by kernel_rfl)
def Tn(a:VL):argsOk "set_iterator.__iter__" ⟨[a],[]⟩:=by unfold argsOk;kernel_rfl
section
variable{α:Type}{next:Nat->Nat}
def WO:∀(n k:Nat) (left:List α) (out:Array α),left.length=n->(pickOrder.go next n k left out).toList.Perm (out.toList++left)
 |0,k,left,out,h=>by
  have:left=[]:=au h;subst this;rw[pickOrder.go];simp
 |n+1,k,left,out,h=>by
  rw[pickOrder.go];have g:next k % left.length<left.length:=Nat.mod_lt _ (by lia);rw[List.getElem?_eq_getElem g];refine(WO n (k+1) _ _ (by rw[List.length_eraseIdx_of_lt g];lia)).trans ?_;rw[Array.toList_push,List.append_assoc];refine List.Perm.append_left _ ?_;rw[List.eraseIdx_eq_take_drop_succ];have e:left.take (next k % left.length)++left[next k % left.length]::left.drop (next k % left.length+1)=left:=by rw[<-List.drop_eq_getElem_cons g,List.take_append_drop]
  have p:=List.perm_middle (a:=left[next k % left.length]) (l₁:=left.take (next k % left.length)) (l₂:=left.drop (next k % left.length+1));rw[e]at p;exact p.symm
def Y8(xs:Array α):(pickOrder next xs).toList.Perm xs.toList:=by
 unfold pickOrder
 simpa using WO xs.size 0 xs.toList #[] (by simp)
end
end TH
namespace TH
open PySem PyProof.Rows PySem.SeqAt
def FU(w:World)(S:AD)(ep:Nat)(ev:Array (Int×VL)):Array (Int×VL):=if w.params.followText "set-order" = true then pickOrder (w.params.setOrder S ep) ev else ev
def N4(w:World)(S:AD)(ep:Nat)(ev:Array (Int×VL)):(FU w S ep ev).toList.Perm ev.toList:=by
 unfold FU;split
 .exact Y8 ev
 .exact .refl _
def IZ(w:World)(S:AD)(ep:Nat)(ev:Array (Int×VL)):(FU w S ep ev).size=ev.size:=by simpa using (N4 w S ep ev).length_eq
def GX(t:SetTable):Nat->Nat
 |0=>0
 |i+1=>t.place.getD i 0+1
def Eb(w:World)(t:SetTable)(i:Nat):Nat:=if w.params.followText "set-order" = true then 0 else GX t i
def Hc(t:SetTable)(n:Nat):Bool:=(List.range (n+1)).all fun i=>decide (SetTable.below t.place (GX t i)=i)
abbrev Ky(w:World)(S:AD)(t:SetTable)(ep n i:Nat):Obj:={ cls:=.type "set_iterator",data:=.fields #[rawInt ((Eb w t i:Nat):Int),rawInt (i:Int),.ref S,rawInt (n:Int),rawInt (ep:Int)]}
structure EY(w:World)(o:Obj)(ev:Array (Int×Value))(ep:Nat)(t:SetTable):Prop where
 ex:o.ExactSet
 dat:o.data=.set ev ep t
 fit:t.fits ev.size=true
 plain:t.plain=true
 led:t.led=!w.params.followText "set-order"
 walk:Hc t ev.size=true
section
variable{prog:Program}{w:World}{A:Around}{E:rV}{s:SD}{S I:AD}{o:Obj}{ev:Array (Int×VL)}{ep i:Nat}{t:SetTable}
def SN{Q:Bool->SD->Prop}(h:Q (w.params.followText "set-order") s):wpAny (model prog w) A setsByText Q E s:=by
 unfold setsByText;exact Wb (wpAny_askSetting (aA h))
def EY.ZX(W:EY w o ev ep t):(!t.plain&&decide (ev.size > 1))=false:=by rw[W.plain];rfl
def EY.place(W:EY w o ev ep t):t.place.size=ev.size:=by
 have:=W.fit;unfold SetTable.fits at this;simp only[Bool.and_eq_true,beq_iff_eq]at this;exact this.1
def VW{Q:Option (VL×Nat)->SD->Prop}(W:EY w o ev ep t)(Y:s.heap.get? S=some o)(hi:i<=ev.size)(h:Q ((FU w S ep ev)[i]?.map fun e=>(e.2,Eb w t (i+1))) s):wpAny (model prog w) A (setNext S (Eb w t i) i ep) Q E s:=by
 unfold setNext;refine Wb (ax Y W.dat W.fit ?_);refine Wb (SN ?_);cases hb:w.params.followText "set-order" with
 |true=>
  rw[if_pos rfl];have R:¬(ep != ep)=true:=by simp
  rw[if_neg R];unfold setWalk;refine Wb (Wb (ax Y W.dat W.fit ?_));refine Wb (SN ?_);rw[if_pos hb];refine Wb (wpAny_askSetting (aA ?_));refine aA ?_;have e:FU w S ep ev=pickOrder (w.params.setOrder S ep) ev:=by unfold FU;rw[if_pos hb]
  rw[e]at h;have T:Eb w t i=Eb w t (i+1):=by unfold Eb;rw[if_pos hb,if_pos hb]
  rw[T];exact h
 |false=>
  rw[if_neg aI];refine wpAny_ite_split (fun hd=>?_) fun _=>?_
  .have:(!t.plain&&decide (ev.size > 1))=true:=hd;rw[W.ZX]at this;cases this
  .refine Wb ?_;have Z:t.led=true:=by rw[W.led,hb];rfl
   have hn:¬(!t.led && !ev.isEmpty)=true:=by rw[Z];simp
   show wpAny _ _ (if(!t.led && !ev.isEmpty)=true then unsupported "set:maker-not-led" else pure ()) _ _ _;rw[if_neg hn];refine aA (aA ?_);have g:=W.walk;unfold Hc at g;have g:=List.all_eq_true.mp g i (bQ.mpr (by lia));have g:SetTable.below t.place (GX t i)=i:=by simpa using g
   have e1:Eb w t i=GX t i:=by unfold Eb;rw[hb];rfl
   have T:Eb w t (i+1)=GX t (i+1):=by unfold Eb;rw[hb];rfl
   have e3:FU w S ep ev=ev:=by unfold FU;rw[hb];rfl
   rw[T,e3]at h;rw[e1,g];by_cases O:i<ev.size
   .have U:i<t.place.size:=by rw[W.place];exact O
    rw[Array.getElem?_eq_getElem O]at h ⊢;rw[Array.getElem?_eq_getElem U];have e4:GX t (i+1)=t.place[i]+1:=by
     rw[GX,Array.getD_eq_getD_getElem?,Array.getElem?_eq_getElem U]
     rfl
    rw[e4]at h;exact h
   .rw[Array.getElem?_eq_none (by lia)]at h ⊢;exact h
def eW{Q:Option VL->SD->Prop}{z:Int}{v:VL}(W:EY w o ev ep t)(T:s.heap.get? S=some o)(g:s.heap.get? I=some (Ky w S t ep ev.size i))(R:(FU w S ep ev)[i]? = some (z,v)) (h:∀h',h'.get? I=some (Ky w S t ep ev.size (i+1))->Heap.SameBut I s.heap h'->Q (some v) {s with heap:=h'}):wpAny (model prog w) A (pyNext (.ref I)) Q E s:=by
 have U:s.TypeIs (.ref I) "set_iterator" := ⟨_,g,rfl⟩;have Z:i<ev.size:=by
  have:=(Array.getElem?_eq_some_iff.mp R).1;rw[IZ]at this;exact this
 unfold pyNext;refine Wb (wpAny_attempt (ag (name:=Str.ofString "__next__") U EK (aX EK U Ln ?_ (Mu _))));unfold Builtin.«set_iterator.__next__»;refine Wb (wpAny_of_eq (a:=(Value.ref I,[])) rfl ?_);refine Wb (wpAny_fieldsOf g rfl ?_);show wpAny _ _ (setEntries S>>=_) _ _ s;refine Wb (wpAny_setEntries_of T W.dat W.fit ?_);have O:¬((ev.size:Int) != (ev.size:Int))=true:=by simp
 dsimp only;rw[if_neg O];refine Wb ?_;show wpAny _ _ (setNext S (Eb w t i) i ep) _ _ _;refine VW W T (by lia) ?_;rw[R];show wpAny _ _ (setField (.ref I) 0 (rawInt ((Eb w t (i+1):Nat):Int))>>=_) _ _ _;refine Wb (wpAny_setField g rfl (by simp) ?_);have Y:(s.heap.update I (Obj.mapFields (·.setIfInBounds 0 (rawInt ((Eb w t (i+1):Nat):Int))))).get? I=some { cls:=.type "set_iterator",data:=.fields #[rawInt ((Eb w t (i+1):Nat):Int),rawInt (i:Int),.ref S,rawInt (ev.size:Int),rawInt (ep:Int)]} :=
  Heap.get?_update_self _ g rfl
 refine Wb (wpAny_setField Y rfl (by simp) ?_);refine aA ⟨_,rfl,wpAny_pure (h _ ?_ ((ae ..).trans (ae ..)))⟩;exact Heap.get?_update_self _ Y rfl
def cW{Q:Option VL->SD->Prop}(Z:A.handled=none)(W:EY w o ev ep t)(U:s.heap.get? S=some o)(R:s.heap.get? I=some (Ky w S t ep ev.size ev.size)) (h:∀h',Heap.ExtBut I s.heap h'->Q none {s with heap:=h'}):wpAny (model prog w) A (pyNext (.ref I)) Q E s:=by
 have Y:s.TypeIs (.ref I) "set_iterator" := ⟨_,R,rfl⟩;unfold pyNext;refine Wb (wpAny_attempt (ag (name:=Str.ofString "__next__") Y EK (aX EK Y Ln ?_ (Mu _))));unfold Builtin.«set_iterator.__next__»;refine Wb (wpAny_of_eq (a:=(Value.ref I,[])) rfl ?_);refine Wb (wpAny_fieldsOf R rfl ?_);show wpAny _ _ (setEntries S>>=_) _ _ s;refine Wb (wpAny_setEntries_of U W.dat W.fit ?_);have g:¬((ev.size:Int) != (ev.size:Int))=true:=by simp
 dsimp only;rw[if_neg g];refine Wb ?_;show wpAny _ _ (setNext S (Eb w t ev.size) ev.size ep) _ _ _;refine VW W U (aH _) ?_;rw[Array.getElem?_eq_none (by rw[IZ];exact aH _)];show wpAny _ _ (setField (.ref I) 2 Value.none>>=_) _ _ _;refine Wb (wpAny_setField R rfl (by simp) ?_);refine Wb ?_;simp only[newExc,newTuple];refine Wb (ah ?_ (by size_fits));refine Wb (m:=firstArgMember _ _) (wpAny_of_eq (a:=Value.none) (by first|rfl|(simp only[firstArgMember];rfl)) (ah ?_ (by size_fits)));simp only[raiseNew];refine Wb (wpAny_handled ?_);have O:A.in1.handled=none:=Z;rw[O];refine Wb (aA (wpAny_throw ?_));refine Wb (wpAny_isInstance (b:=true) (T := "StopIteration") ⟨_,Heap.get?_push_size _ rfl,rfl⟩ isSubtype_stop ?_);exact aA (h _ (((ae ..).extBut.push _).push _))
def eN{Q:rV}(O:s.heap.get? I=some (Ky w S t ep ev.size i))(h:Q (.ref I) s):wpAny (model prog w) A (pyIter (.ref I)) Q E s:=by
 have g:s.TypeIs (.ref I) "set_iterator" := ⟨_,O,rfl⟩;refine wpAny_pyIter_slot g Mq (aX Mq g Rh ?_ (Tn _));show wpAny _ _ (ret (.ref I)) _ _ s;exact aA ⟨_,rfl, "set_iterator",_,g,EK.lookup,h⟩
def Yq(hh:A.handled=none)(hne:S≠I)(W:EY w o ev ep t) :
  Walks prog w A I [I,S] [I] ev.size (fun i v=>∃z,(FU w S ep ev)[i]? = some (z,v)) (fun i h=>h.get? I=some (Ky w S t ep ev.size i)/\h.get? S=some o) where
 sub:=fun b hb=>by simp at hb;simp[hb]
 frame:=fun _ _ _ x k=>⟨k I (by simp) _ x.1,k S (by simp) _ x.2⟩
 item:=fun i s Q E hi x hQ=>by
  have hi':i<(FU w S ep ev).size:=by rw[IZ];exact hi
  obtain⟨z,v,hx⟩:∃z v,(FU w S ep ev)[i]? = some (z,v):=⟨(FU w S ep ev)[i].1,(FU w S ep ev)[i].2,by rw[Array.getElem?_eq_getElem hi']⟩;refine eW W x.2 x.1 hx fun h' g sb=>hQ v h' s.toks ⟨z,hx⟩ ⟨g,(sb.2 S hne).trans x.2⟩ fun b u hb e=>?_;rw[sb.2 b fun q=>hb (by simp[q])];exact e
 done:=fun s Q E x hQ=>cW hh W x.2 x.1 fun h' eb=>hQ h' s.toks fun b u hb e=>eb b u (fun q=>hb (by simp[q])) e
 self:=fun _ _ _ _ x hQ=>eN x.1 hQ
def eH{Q:Bool->SD->Prop}(R:s.TypeIs (.ref S) "set")(h:Q false s):wpAny (model prog w) A (Builtin.List.listLengthHint (.ref S)) Q E s:=by
 unfold Builtin.List.listLengthHint;refine Wb (wpAny_specialOf R PySem.F.slot_set_len.lookup ?_);generalize g:("set.__len__" : String)=O
 wp_delta
 rw[show splitId O=some ("set","__len__") from by subst g;decide +kernel];subst g;refine Wb (wpAny_isInstance (b:=true) (T := "set") R (by rw[isSubtype_type];kernel_rfl) ?_);refine wpAny_ite_split (fun z=>absurd z (by decide)) fun _=>?_;refine wpAny_ite_split (fun _=>?_) fun z=>absurd (by decide +kernel) z;exact Wb (wpAny_typeOf R (aA h))
def dS{Q:rV}(W:EY w o ev ep t)(g:s.heap.get? S=some o)(h:Q (.ref s.heap.objs.size) {s with heap:=s.heap.push (Ky w S t ep ev.size 0)}):wpAny (model prog w) A (pyIter (.ref S)) Q E s:=by
 have O:s.TypeIs (.ref S) "set" := ⟨o,g,W.ex.1⟩;refine wpAny_pyIter_slot O PySem.F.slot_set_iter (aX PySem.F.slot_set_iter O R6 ?_ (PySem.F.args_set_iter_1 _));unfold Builtin.«frozenset.__iter__»;refine Wb (wpAny_of_eq (a:=S) rfl ?_);unfold Builtin.Frozenset.sizeOf;refine Wb (Wb (wpAny_setEntries_of g W.dat W.fit (aA ?_)));unfold setDrawn;refine Wb (Wb (ax g W.dat W.fit (Wb (SN (aA ?_)))));have hd:(!w.params.followText "set-order" && (!t.plain&&decide (ev.size > 1)))=false:=by rw[W.ZX];simp
 refine wpAny_ite_split (fun z=>?_) fun _=>?_
 .have:(!w.params.followText "set-order" && (!t.plain&&decide (ev.size > 1)))=true:=z;rw[hd]at this;cases this
 refine Wb (aA ?_);unfold setEpoch;refine Wb (Wb (ax g W.dat W.fit (aA ?_)));have R:Eb w t 0=0:=by unfold Eb GX;split<;>rfl
 refine Wb (ah (aA ⟨_,rfl, "set_iterator",_,⟨_,Heap.get?_push_size _ rfl,rfl⟩,EK.lookup,?_⟩));unfold Ky at h;rw[R]at h;exact h
def Wk(W:EY w o ev ep t):PySem.W.KdlSrc prog w "set" S S ev.size (fun i v=>∃z,(FU w S ep ev)[i]? = some (z,v)) (fun h=>h.get? S=some o) where
 type:=fun _ ho=>⟨o,ho,W.ex.1⟩
 there:=fun _ ho=>⟨aF ho,Heap.lt_size ho⟩
 keep:=fun _ _ ho k=>k S (.inl rfl) _ ho
 notList:=by decide
 notTuple:=by decide
 hint:=fun _ _ s _ ho h=>eH ⟨o,ho,W.ex.1⟩ h
 iter:=fun A s hh ho=>⟨Ky w S t ep ev.size 0,_,(fun E Q h=>dS W ho h),Yq hh (aK (aF ho)) W,⟨aP _ rfl,Heap.get?_push_of_some _ ho⟩⟩
end
end TH
namespace TH
open PySem PyProof.Rows PySem.SeqAt
def Paired.perm{Y U:Type}{F:Y->U->Prop}{l Z:List Y}(p:Z.Perm l):∀ {m:List U},Paired F l m->∃g,g.Perm m/\Paired F Z g:=by
 induction p with
 |nil=>intro m r;exact⟨m,.refl _,r⟩
 |cons x _ ih=>
  intro m r;cases r with
  |cons h O=>
   obtain⟨g,p',q⟩:=ih O;exact⟨_::g,p'.cons _,.cons h q⟩
 |swap x y l=>
  intro m r;cases r with
  |cons h O=>
   cases O with
   |cons h' I=>exact⟨_::_::_,List.Perm.swap ..,.cons h' (.cons h I)⟩
 |trans _ _ T R=>
  intro m r;obtain⟨m1,p1,q1⟩:=R r;obtain⟨m2,p2,q2⟩:=T q1;exact⟨m2,p2.trans p1,q2⟩
variable{G:VL->Tr->Prop}
def SG{h:Heap}:∀ {l:List (Int×VL)} {m:List (Int×Tr)},Paired (Pe G h) l m->Vs h (Tr.of (m.map (·.2))) (l.map (·.2))
 |_,_,.nil=>by rw[List.map_nil,List.map_nil,Tr.of,Vs]
 |_,_,.cons (a:=(z,v)) ⟨_,_,_,a,g,e,O,I⟩ r=>by
  have e:v=.ref a:=e;subst e;rw[List.map_cons,List.map_cons,Tr.of,Vs];exact⟨a,g,_,rfl,O,I,SG r⟩
def NC{h:Heap}:∀ {l:List (Int×VL)} {m:List (Int×Tr)},Paired (Pe G h) l m->∀c∈m.map (·.2),c.deep<8
 |_,_,.nil,c,g=>by cases g
 |_,_,.cons ⟨_,hd,_⟩ r,c,g=>by
  rw[List.map_cons]at g;rcases aM.mp g with rfl|g
  .exact hd
  .exact NC r c g
def Vo{h:Heap}:∀ {l:List (Int×VL)} {m:List (Int×Tr)},Paired (Pe G h) l m->Paired G (l.map (·.2)) (m.map (·.2))
 |_,_,.nil=>.nil
 |_,_,.cons ⟨_,_,hg,_⟩ r=>.cons hg (Vo r)
def Paired.Xe{I g:Type}{F:I->g->Prop}{l:List I}{m:List g}(r:Paired F l m)(d:I)(e:g):∀(ix:List Nat),(∀i∈ix,i<l.length)->Paired F (ix.map fun i=>l.getD i d) (ix.map fun i=>m.getD i e)
 |[],_=>.nil
 |i::ix,h=>by
  have U:=r.length;have hi:=h i aS;have hm:m[i]? = some m[i]:=aN (by lia);obtain⟨x,T,R⟩:=Paired.get r hm;rw[List.map_cons,List.map_cons];refine .cons ?_ (Paired.Xe r d e ix fun j O=>h j (aO _ O));rw[List.getD_eq_getElem?_getD,List.getD_eq_getElem?_getD,T,hm];exact R
def dj{l m:rz}(p:l.Perm m):Tr.CQ l=Tr.CQ m:=Tr.LA (Tr.Jm l) (Tr.Jm m) ((Tr.KY l).trans (p.trans (Tr.KY m).symm))
section
variable{prog:Program}{w:World}{A:Around}{E:rV}{s:SD}
def gather{T:String}{r d:AD}{n:Nat}{P:Nat->VL->Prop}{Y:Heap->Prop}{R:List VL->SD->Prop}(K:PySem.W.KdlSrc prog w T r d n P Y)(hA:A.handled=none)(Ap:Y s.heap)(hn:n<=sizeLine) (k:∀(I:Heap) (tk:Nat) (g:Array VL),s.heap.objs.size<I.objs.size->(∀b u,s.heap.get? b=some u->I.get? b=some u)->ItemsOf P g n->R g.toList {s with heap:=I,toks:=tk}):wpAny (model prog w) A (collect (.ref r)) R E s:=by
 obtain⟨Z,ld⟩:=K.there _ Ap;unfold collect;refine Wb (wpAny_runValue (codeAny_builtin entry_proto_collect' ?_));rw[Around.under_plainId PySem.F.plain_proto_collect _];show wpAny _ A.in1 (newList []>>=fun v=>again (.builtin "list.__iadd__" ⟨[v,.ref r],[]⟩)) _ _ s;refine Wb (ah (aA ⟨plainId_quiet PySem.F.plain_list_iadd _,codeAny_builtin entry_list_iadd' ?_⟩));rw[Around.under_plainId PySem.F.plain_list_iadd _];have g0:(s.heap.push { cls:=.type "list",data:=.seq ([]:List VL).toArray}).get? s.heap.objs.size=some { cls:=.type "list",data:=.seq #[]}:=aP _ rfl;have main:=PySem.W.kdl_extend (A:=A) (s:={s with heap:=s.heap.push { cls:=.type "list",data:=.seq ([]:List VL).toArray} }) K hA
  (K.keep _ _ Ap fun _ _ _ e=>aD _ e) s.heap.objs.size (Nat.ne_of_gt Z) (Nat.ne_of_gt ld) (.ref s.heap.objs.size) 0 g0
  (R:=fun q s1=>∃I tk g c,q=.ok (.ret (.ref s.heap.objs.size))/\s1={s with heap:=I,toks:=tk}/\(∀b u,s.heap.get? b=some u->I.get? b=some u)/\I.get? s.heap.objs.size=some { cls:=.type "list",dict:=none,data:=.seq g c,slots:=#[]}/\ItemsOf P g n)
  (fun I tk g c U O ha=>⟨I,tk,g,c,rfl,rfl,fun b u e=>U b u (aK (aF e)) (aD _ e),O,ha⟩) hn
 refine aU main (fun fin s1 x=>?_) fun e s1 x=>?_
 .cases fin with
  |done f=>
   obtain⟨I,tk,g,c,e,rfl,U,O,ha⟩:=x;cases e;show wpAny _ A (load s.heap.objs.size>>=_) _ _ _;exact Wb (wpAny_load O (aA (k I tk g (aF O) U ha)))
  |again c1=>
   refine⟨x.1,codeAny_mono x.2 fun q s2 y=>?_⟩;obtain⟨I,tk,g,c,rfl,rfl,U,O,ha⟩:=y;show wpAny _ A (load s.heap.objs.size>>=_) _ _ _;exact Wb (wpAny_load O (aA (k I tk g (aF O) U ha)))
 .obtain⟨_,_,_,_,z,_⟩:=x;cases z
end
section
variable{prog:Program}{w:World}{A:Around}{E:rV}{s:SD}{S:AD}{o:Obj}{ev:Array (Int×VL)}{et:ES}{ep:Nat}{t:SetTable}
def XZ{Q:rV}(hA:A.handled=none)(W:EY w o ev ep t)(ho:s.heap.get? S=some o)(R:DV G s.heap ev et)(h64:et.size<64)(hu:A.units+20<cLine) (h:∀(h':Heap) (D tk U:Nat) (us:rT),s.heap.objs.size<=D->(∀b u,s.heap.get? b=some u->h'.get? b=some u)->h'.get? D=some (seqObj "list" us.toArray U)->Paired G us (Tr.CQ (et.toList.map (·.2))).reverse->us.length<64 ->Q (.ref D) {s with heap:=h',toks:=tk}):wpAny (model prog w) A (call (.builtin "sorted") [.ref S]) Q E s:=by
 have hsz:=R.size;refine Calls.call_function_entry kind_sorted plain_sorted entry_sorted (args_sorted1 _) ?_;unfold Builtin.«sorted»;refine Wb (m:=checkCount "sorted" 1 1 _) (aA ?_);refine Wb (gather (A:=A.in1) (Wk W) hA ho (FL (by lia)) fun T tk g z1 k1 I=>?_);have Z:g.toList=(FU w S ep ev).toList.map (·.2):=by
  apply List.ext_getElem?;intro j;rw[List.getElem?_map];by_cases hj:j<g.size
  .have U:g[j]? = some g[j]:=Array.getElem?_eq_getElem hj;obtain⟨z,e2⟩:=I.2 j _ U;rw[Array.getElem?_toList,U,Array.getElem?_toList,e2]
   rfl
  .have hj2:¬j<(FU w S ep ev).size:=by rw[IZ,<-I.1];exact hj
   rw[List.getElem?_eq_none (by simpa using hj),List.getElem?_eq_none (by simpa using hj2)]
   rfl
 obtain⟨m,pm,rm⟩:=Paired.perm (N4 w S ep ev) R;have Y:=SG rm;rw[<-Z]at Y;have hd:(Tr.of (m.map (·.2))).deep<=8:=(Tr.Lk 8 _).mpr fun c hc=>by have:=NC rm c hc;lia
 have O:g.toList.length<64:=by rw[Array.length_toList,I.1,hsz];exact h64
 refine Wb (wpAny_newList ?_ (FL (by lia)));have g1:(T.push (seqObj "list" g.toList.toArray 0)).get? T.objs.size=some (seqObj "list" g.toList.toArray 0):=aP _ rfl;have k2:∀b u,s.heap.get? b=some u->(T.push (seqObj "list" g.toList.toArray 0)).get? b=some u:=fun b u e=>aD _ (k1 b u e);refine Wb (aV (aX slot_list_sort ⟨_,g1,rfl⟩ entry_list_sort (Mo (s:={s with heap:=T.push (seqObj "list" g.toList.toArray 0),toks:=tk}) g1 (Y.keeps fun b u e _=>k2 b u e) O
  (by rw[show A.in1.in1.units=A.units+2 from rfl];lia) fun ix a1 a2 a3=>⟨_,rfl,?_⟩) (args_list_sort _)))
 obtain⟨U,he1⟩:=sortedHeap_at (vs:=g.toList) (out:=(ix.map fun i=>g.toList.getD i Value.none).toArray) g1;refine aA ⟨_,rfl,h _ T.objs.size tk U (ix.map fun i=>g.toList.getD i Value.none) ?_ (fun b u e=>?_) he1 ?_ (by rw[List.length_map,a1];exact O)⟩
 .exact ay z1
 .have lb:b<T.objs.size:=aF (k1 b u e);rw[sortedHeap_old (aK lb) (by rw[Heap.size_push];exact av lb)];exact k2 b u e
 .have hg:=Vo rm;rw[<-Z]at hg;have:=Paired.Xe hg Value.none Tr.nil ix a2;rw[Tr.N8]at a3;rw[a3,dj (pm.map (·.2))]at this;exact this
end
end TH
namespace TH
open PySem PyProof.Rows PySem.SeqAt
section
variable{prog:Program}{w:World}{E:rV}
def VY(prog:Program)(w:World)(E:rV)(t:Tr):Prop:=∀(us:List VL) (A:Around) (s:SD) (b:Array Int) (Q:Array Int->SD->Prop),Vs s.heap t us->A.units+t.deep<=cLine ->
 (∀g,g.toList=b.toList++JF t->Q g {s with toks:=s.toks+(t.Ae-1)})->wpAny (model prog w) A (forIn us b fun x r=>do let h <-pyHash x;pure PUnit.unit;pure (ForInStep.yield (r.push h))) Q E s
def NB{t:Tr}(row:VY prog w E t){a:AD}{g:rT}{A:Around}{s:SD}{Q:Int->SD->Prop}(I:s.heap.IsTuple a g.toArray)(U:Vs s.heap t g)(Y:A.units+t.deep<cLine) (h:Q (Ah t) {s with toks:=s.toks+t.Ae}):wpAny (model prog w) A (pyHash (.ref a)) Q E s:=by
 have R:=IsTuple.ty rfl I;obtain⟨o,O,Z,n,hd⟩:=id I;refine PySem.W.pyHash_slot (T := "tuple") R F.slot_tuple_hash F.entry_tuple_hash (F.args_tuple_hash_1 _) (beq_builtin_none _) (.inr (by lia)) ?_;show wpAny _ _ (Builtin.Tuple.tupleItemsOf (.ref a)>>=_) _ _ s;refine Wb (wpAny_tupleItemsOf O hd ?_);refine Wb ?_;rw[<-Array.forIn_toList];refine row g A.in1 s #[] _ U (by rw[Around.in1_units];lia) fun b hb=>?_;show wpAny _ _ (retInt (Builtin.Tuple.tupleHashOf b.toList)) _ _ _;rw[hb];have hk:s.toks+(t.Ae-1)+1=s.toks+t.Ae:=by have:=Tr.Df t;lia
 refine Wb (wpAny_mkInt (aA ⟨_,_,rfl,?_⟩));rw[hk];exact h
def NQ:∀t:Tr,VY prog w E t
 |.nil=>fun us A s b Q e _ h=>by rw[Vs]at e;subst e;exact aA (h b (by simp[JF]))
 |.cons c r=>fun us A s b Q e Y h=>by
  rw[Vs]at e;obtain⟨a,g,rest,rfl,T,R,O⟩:=e;have hd:(Tr.cons c r).deep=max (c.deep+1) r.deep:=rfl;have hk:(Tr.cons c r).Ae=c.Ae+r.Ae:=rfl;have Z:=Tr.Df r;rw[List.forIn_cons];refine Wb (Wb (NB (NQ c) T R (by lia) ?_));refine Wb (aA (aA ?_));refine NQ r rest A _ _ Q O (by lia) fun U hb=>?_;have I:s.toks+c.Ae+(r.Ae-1)=s.toks+((Tr.cons c r).Ae-1):=by lia
  have:=h U (by simp[hb,JF,Ah]);rw[<-I]at this;exact this
def Jj(prog:Program)(w:World):HeapKind prog w Tr where
 is:=fun h t a=>t.deep<8/\∃its,h.IsTuple a its.toArray/\Vs h t its
 hash:=Ah
 draws:=Tr.Ae
 room:=fun A=>A.units+8<cLine
 inj:=fun⟨_,i1,a1,a2⟩ ⟨_,i2,b1,b2⟩=>by
  have:=JH a1 b1;have e:i1=i2:=by simpa using this
  subst e;exact Vs.inj a2 b2
 keeps:=fun {h h' k a d o es ep} ⟨hd,its,h1,h2⟩ ho hdt sb=>by
  have kt:∀b u,h.get? b=some u->u.cls=.type "tuple" ->(∃x n,u.data=.seq x n)->h'.get? b=some u:=fun b u e _ ⟨x,n,hx⟩=>by
   rw[sb.2 b fun z=>?_]
   .exact e
   .subst z;rw[ho]at e;cases e;rw[hdt]at hx;cases hx
  have kv:∀ {t:Tr} {us:List VL},Vs h t us->Vs h' t us:=fun {t}=>by
   induction t with
   |nil=>intro us e;rw[Vs]at e ⊢;exact e
   |cons b r ih1 ih2=>
    intro us e;rw[Vs]at e ⊢;obtain⟨a,its,rest,e1,⟨u,hu,hc,n,hx⟩,e3,e4⟩:=e;exact⟨a,its,rest,e1,⟨u,kt _ _ hu hc ⟨_,n,hx⟩,hc,n,hx⟩,ih1 e3,ih2 e4⟩
  obtain⟨u,hu,hc,n,hx⟩:=h1;exact⟨hd,its,⟨u,kt _ _ hu hc ⟨_,n,hx⟩,hc,n,hx⟩,kv h2⟩
 pyHash:=fun hr ⟨hd,its,h1,h2⟩ h=>NB (NQ _) h1 h2 (by lia) h
 eqBool:=fun {A E s x y a b Q} hr ⟨hd,its,h1,h2⟩ ⟨_,its2,k1,k2⟩ h=>R5 h1 h2 k1 k2 (by lia) prog w E Q h
 quiet:=fun⟨hd,its,h1,h2⟩ h=>quiet 8 ⟨_,its,_,rfl,h1,h2,hd⟩ h
end
end TH
namespace TH
open PySem PyProof.Rows
def Bj:Option Tr->Int
 |none=>4238894112
 |some t=>Ah t
def FA:Option Tr->Nat
 |none=>1
 |some t=>t.Ae
def JD(h:Heap):Option Tr->VL->Prop
 |none,v=>v=.none
 |some t,v=>∃a,v=.ref a/\t.deep<8/\∃g,h.IsTuple a g.toArray/\Vs h t g
abbrev KE:=Option Tr×VL×VL
def Dy(x:KE):DictEntry:=⟨Bj x.1,x.2.1,x.2.2⟩
def QE{p:Nat->Bool}{j:Nat}:∀ {n:Nat},j<n->p j=true->(∀i,i<n->p i=true->i=j)->(List.range n).filter p=[j]
 |0,h,_,_=>absurd h (ak _)
 |n+1,h,O,g=>by
  rw[List.range_succ,List.filter_append];by_cases e:j=n
  .subst e;have:(List.range j).filter p=[]:=List.filter_eq_nil_iff.mpr fun i hi I=>by
    have:=bQ.mp hi;have:=g i (by lia) I
    lia
   rw[this];simp[O]
  .have hn:p n=false:=by
    cases q:p n with
    |false=>rfl
    |true=>exact absurd (g n (by lia) q).symm e
   rw[QE (show j<n by lia) O fun i hi=>g i (by lia)];simp[hn]
section
variable{prog:Program}{w:World}{A:Around}{E:rV}{s:SD}{d:AD}{o:Obj}{es:Array DictEntry}{ep:Nat}{xs:List KE}{k:Option Tr}{kv:VL}
def Lg(g:es.toList=xs.map Dy)(j:Nat):es[j]? = (xs[j]?).map Dy:=by rw[<-Array.getElem?_toList,g,List.getElem?_map]
def US(g:es.toList=xs.map Dy):es.size=xs.length:=by rw[<-Array.length_toList,g,List.length_map]
def Su(T:es.toList=xs.map Dy)(O:∀x∈xs,Bj x.1=Bj k->x.1=k)(I:∀x∈xs,x.1≠k):placesWithHash es.size (fun i=>es[i]?.map (·.hash)) (Bj k)=[]:=by
 unfold placesWithHash;refine List.filter_eq_nil_iff.mpr fun i hi g=>?_;dsimp only at g;rw[Lg T]at g;cases q:xs[i]? with
 |none=>rw[q]at g;simp at g
 |some x=>
  rw[q]at g;have R:=aW q;have:Bj x.1=Bj k:=by simpa[Dy]using g
  exact I x R (O x R this)
def Qx(O:es.toList=xs.map Dy)(R:∀x∈xs,Bj x.1=Bj k->x.1=k)(hn:(xs.map (·.1)).Nodup){j:Nat}{x:KE}(I:xs[j]? = some x)(T:x.1=k):placesWithHash es.size (fun i=>es[i]?.map (·.hash)) (Bj k)=[j]:=by
 unfold placesWithHash;have Z:j<xs.length:=(aG.mp I).1;refine QE (by rw[US O];exact Z) (by dsimp only;rw[Lg O,I,<-T];simp[Dy]) fun i hi g=>?_;dsimp only at g;rw[Lg O]at g;cases q:xs[i]? with
 |none=>rw[q]at g;simp at g
 |some y=>
  rw[q]at g;have Y:=R y (aW q) (by simpa[Dy]using g);have U:(xs.map (·.1))[i]? = some k:=by rw[List.getElem?_map,q];show some y.1=_;rw[Y]
  have h2:(xs.map (·.1))[j]? = some k:=by rw[List.getElem?_map,I];show some x.1=_;rw[T]
  exact(List.getElem?_inj (aG.mp U).1 hn).mp (U.trans h2.symm)
def gy{Q:Bool->SD->Prop}(h:Q true s):wpAny (model prog w) A (eqBool .none .none) Q E s:=by
 unfold eqBool;rw[if_pos (by rfl)];exact Wb (aq (aA h))
def JD.inj{h:Heap}{x y:Option Tr}{v:VL}(a:JD h x v)(b:JD h y v):x=y:=by
 cases x with
 |none=>
  cases y with
  |none=>rfl
  |some t=>
   obtain⟨_,e,_⟩:=b;rw[show v=.none from a]at e;cases e
 |some u=>
  cases y with
  |none=>
   obtain⟨_,e,_⟩:=a;rw[show v=.none from b]at e;cases e
  |some t=>
   obtain⟨a1,R,O⟩:=a;obtain⟨a2,g,I⟩:=b;rw[R]at g;cases g;obtain⟨_,i1,b1,b2⟩:=O;obtain⟨_,i2,U,T⟩:=I;have:i1=i2:=by simpa using JH b1 U
   subst this;rw[Vs.inj b2 T]
def Zy{Q:Option Nat->SD->Prop}(hu:A.units+8<cLine)(hk:JD s.heap k kv)(ho:s.heap.get? d=some o)(hd:o.data=.dict es ep)(he:es.toList=xs.map Dy)(his:∀x∈xs,JD s.heap x.1 x.2.1)(hn:(xs.map (·.1)).Nodup)(R:∀x∈xs,Bj x.1=Bj k->x.1=k) (hno:(∀x∈xs,x.1≠k)->Q none s)(T:∀(j:Nat) (x:KE),xs[j]? = some x->x.1=k->Q (some j) s):wpAny (model prog w) A (dictFind d kv (Bj k)) Q E s:=by
 unfold dictFind
 try with_reducible refine aV ?_
 refine Wb (wpAny_dictEntries ho hd ?_);cases k with
 |none=>
  have hk:kv=.none:=hk;subst hk;dsimp only;by_cases g:∃x∈xs,x.1=none
  .obtain⟨x,hm,g⟩:=g;obtain⟨j,hj⟩:=List.mem_iff_getElem?.mp hm;have Z:=Qx (k:=none) he R hn hj g;have I:es[j]? = some ⟨Bj none,.none,x.2.2⟩:=by
    rw[Lg he,hj];have h1:=his x hm;rw[g]at h1;show some (Dy x)=_;unfold Dy;rw[g,show x.2.1=Value.none from h1]
   rw[Z];rw[if_pos (by simp[I,carriedByValue])];unfold dictWalkPlain;simp only[List.forIn_cons,List.forIn_nil,I];refine Wb (Wb ?_);rw[if_pos (by simp)];refine Wb (wpAny_dictEpoch ho hd (Wb (gy (Wb (wpAny_dictEpoch ho hd ?_)))));rw[if_neg (by simp),if_pos rfl];exact Wb (aq (aA (aA (aA (T j x hj g)))))
  .have Z:=Su (k:=none) he R fun x hm z=>g ⟨x,hm,z⟩;rw[Z,if_pos (by simp[carriedByValue])];unfold dictWalkPlain;simp only[List.forIn_nil];exact Wb (aA (aA (hno fun x hm z=>g ⟨x,hm,z⟩)))
 |some t=>
  obtain⟨a,rfl,O⟩:=hk;dsimp only;have Y:¬(es.any fun e=>e.key==Value.ref a&&e.hash != Bj (some t))=true:=by
   intro z;rw[<-Array.any_toList,he,List.any_eq_true]at z;obtain⟨e,hm,z⟩:=z;obtain⟨x,g,rfl⟩:=aT.mp hm;rw[Bool.and_eq_true]at z;have h1:x.2.1=.ref a:=by simpa[Dy]using z.1
   have h2:=his x g;rw[h1]at h2;have h3:=h2.inj (show JD s.heap (some t) (.ref a) from⟨a,rfl,O⟩);have h4:=z.2;rw[Dy,h3]at h4;simp at h4
  by_cases g:∃x∈xs,x.1=some t
  .obtain⟨x,hm,g⟩:=g;obtain⟨j,hj⟩:=List.mem_iff_getElem?.mp hm;have Z:=Qx (k:=some t) he R hn hj g;have h1:=his x hm;rw[g]at h1;obtain⟨b,hb,htb⟩:=h1;have I:es[j]? = some ⟨Bj (some t),.ref b,x.2.2⟩:=by
    rw[Lg he,hj];show some (Dy x)=_;unfold Dy;rw[g,hb]
   have hst:([j].filterMap fun i=>es[i]?.map (·.key))=[.ref b]:=by simp[I]
   rw[Z,hst,if_neg (by simp[carriedByValue]),if_neg Y];by_cases U:(([Value.ref b]:List VL)==[Value.ref a])=true<;>(first|rw[if_pos U]|rw[if_neg U])<;>(first|refine Wb (aA ?_)|refine Wb (wpAny_tableMayTell_quiet (knd:=Jj prog w) O (fun v hv=>⟨t,b,List.mem_singleton.mp hv,htb⟩) ?_))<;>(
    rw[if_neg (by simp)];simp only[List.forIn_cons,List.forIn_nil,I];refine Wb (Wb ?_);rw[if_pos (by simp)];refine Wb (wpAny_dictEpoch ho hd (Wb ((Jj prog w).eqBool (x:=t) (y:=t) hu htb O (Wb (wpAny_dictEpoch ho hd ?_)))));rw[if_neg (by simp),if_pos (by simp),if_neg (by simp)];refine Wb (aq ?_);rw[if_pos (by simp)];exact aA (aA (aA (T j x hj g))))
  .have Z:=Su (k:=some t) he R fun x hm z=>g ⟨x,hm,z⟩;rw[Z,if_neg (by simp[carriedByValue]),if_neg Y];rw[if_neg (by simp)];refine Wb (wpAny_tableMayTell_quiet (knd:=Jj prog w) O (fun v hv=>by cases hv) ?_);rw[if_neg (by simp)];simp only[List.forIn_nil];exact Wb (aA (aA (hno fun x hm z=>g ⟨x,hm,z⟩)))
def bZ{Q:Int->SD->Prop}(R:A.units+8<cLine)(hk:JD s.heap k kv)(h:Q (Bj k) {s with toks:=s.toks+FA k}):wpAny (model prog w) A (pyHash kv) Q E s:=by
 cases k with
 |some t=>
  obtain⟨a,rfl,I⟩:=hk;exact(Jj prog w).pyHash R I h
 |none=>
  have hk:kv=.none:=hk;subst hk;have g:s.TypeIs .none "NoneType" := rfl;unfold pyHash pyHashByItsType;have O:[Value.none].any Value.onHeap=false:=rfl;refine Wb ?_;rw[cRoomFor,if_neg (by rw[O];exact aI)];refine aA ?_;refine Wb (wpAny_specialOf g F.slot_NoneType_hash.lookup ?_);show wpAny _ _ (if(some (Value.builtin "NoneType.__hash__")==some Value.none)=true then _ else _) Q E s;rw[if_neg (by rw[beq_builtin_none];exact aI)];refine Wb (wpAny_specialOf g F.slot_NoneType_hash.lookup ?_);show wpAny _ _ (callSpecialIfBoundUnlessNone? .none "__hash__" _>>=_) Q E s;refine Wb (wpAny_callSpecialIfBoundUnlessNone?_slot g F.slot_NoneType_hash
   (aX F.slot_NoneType_hash g F.entry_NoneType_hash
    (show wpAny _ _ (do ret (<-mkInt 4238894112)) _ _ s from wpAny_ret_mkInt ?_) (F.args_NoneType_hash_1 _)))
  show wpAny _ _ (if(decide (-(2:Int)^63<=4238894112)&&decide ((4238894112:Int)<2^63))=true then _ else _) Q E _;rw[if_pos (by decide)];exact aA h
def Fu(xs:List KE)(k:Option Tr):Option KE:=xs.find? fun x=>decide (x.1=k)
def Qs(hn:(xs.map (·.1)).Nodup){j:Nat}{x:KE}(g:xs[j]? = some x)(I:x.1=k):Fu xs k=some x:=by
 unfold Fu;cases q:xs.find? (fun x=>decide (x.1=k)) with
 |none=>exact absurd (decide_eq_true I) (List.find?_eq_none.mp q x (aW g))
 |some y=>
  have R:y.1=k:=by simpa using List.find?_some q
  obtain⟨i,hi⟩:=List.mem_iff_getElem?.mp (List.mem_of_find?_eq_some q);have O:(xs.map (·.1))[i]? = some k:=by rw[List.getElem?_map,hi];show some y.1=_;rw[R]
  have T:(xs.map (·.1))[j]? = some k:=by rw[List.getElem?_map,g];show some x.1=_;rw[I]
  have:=(List.getElem?_inj (aG.mp O).1 hn).mp (O.trans T.symm);subst this;rw[hi]at g;exact g
def QT(h:∀x∈xs,x.1≠k):Fu xs k=none:=List.find?_eq_none.mpr fun x g=>by simpa using h x g
structure JI(h:Heap)(d:Addr)(xs:List KE):Prop where
 ob:∃o es ep,h.get? d=some o/\o.ExactDict/\o.data=.dict es ep/\es.toList=xs.map Dy
 ks:∀x∈xs,JD h x.1 x.2.1
 nd:(xs.map (·.1)).Nodup
def JI.ty(hm:JI s.heap d xs):s.TypeIs (.ref d) "dict" := let⟨o,_,_,g,I,_⟩:=hm.ob;⟨o,g,I.1⟩
def fH{Q:Option VL->SD->Prop}(O:A.units+8<cLine)(hk:JD s.heap k kv)(hm:JI s.heap d xs)(I:∀x∈xs,Bj x.1=Bj k->x.1=k)(h:Q ((Fu xs k).map (·.2.2)) {s with toks:=s.toks+FA k}):wpAny (model prog w) A (dictGet d kv) Q E s:=by
 obtain⟨o,es,ep,R,_,hd,U⟩:=hm.ob;unfold dictGet
 try with_reducible refine aV ?_
 refine Wb (bZ O hk (Wb (Zy (s:={s with toks:=s.toks+FA k}) O hk R hd U hm.ks hm.nd I (fun g=>?_) fun j x T Y=>?_)))
 .rw[QT g]at h;exact aA h
 .rw[Qs hm.nd T Y]at h;refine Wb (wpAny_dictEntries (s:={s with toks:=s.toks+FA k}) R hd ?_);rw[Lg U j,T];exact aA h
def lW{x:KE}{Q:rV}(O:A.in1.units+8<cLine)(hk:JD s.heap k kv)(hm:JI s.heap d xs)(g:∀x∈xs,Bj x.1=Bj k->x.1=k)(I:Fu xs k=some x)(h:Q x.2.2 {s with toks:=s.toks+FA k}):wpAny (model prog w) A (getItem (.ref d) kv) Q E s:=by
 unfold getItem
 try with_reducible refine aV ?_
 refine Wb (wpAny_sequenceKey hm.ty (by decide) ?_);refine Wb (ag (name:=Str.ofString "__getitem__") hm.ty slot_dict_getitem (aX slot_dict_getitem hm.ty entry_dict_getitem ?_ (args_dict_getitem _ _)));show wpAny _ _ (dictGet d kv>>=_) _ _ s;refine Wb (fH O hk hm g ?_);rw[I];exact aA ⟨x.2.2,rfl,wpAny_pure h⟩
def ql{Q:rV}(O:A.in1.units+8<cLine)(hk:JD s.heap k kv)(hd:(d==sysModules)=false)(hm:JI s.heap d xs)(g:∀x∈xs,Bj x.1=Bj k->x.1=k)(neg:Bool) (h:Q (.bool (if neg then !(Fu xs k).isSome else(Fu xs k).isSome)) {s with toks:=s.toks+FA k}):wpAny (model prog w) A (compareOp (if neg then .NotIn else .In) kv (.ref d)) Q E s:=by
 have key:∀ {Q:Bool->SD->Prop},Q (Fu xs k).isSome {s with toks:=s.toks+FA k}->wpAny (model prog w) A (contains (.ref d) kv) Q E s:=fun {Q} h=>by
  unfold contains
  try with_reducible refine aV ?_
  refine Wb (wpAny_specialOf hm.ty slot_dict_contains.lookup ?_);show wpAny _ _ (if(some (Value.builtin "dict.__contains__")==some Value.none)=true then _ else _) _ E s;rw[if_neg (by rw[beq_builtin_none];exact aI)];refine Wb (wpAny_callSpecialUnlessNone?_slot (name:=Str.ofString "__contains__") hm.ty slot_dict_contains (aX slot_dict_contains hm.ty entry_dict_contains ?_ (args_dict_contains _ _)));show wpAny _ _ (dictGet d kv>>=_) _ _ s;refine Wb (fH O hk hm g ?_);cases I:Fu xs k with
  |some p=>
   rw[I]at h;show wpAny _ _ (ret (.bool true)) _ _ _;exact aA ⟨_,rfl,wpAny_truthy_bool h⟩
  |none=>
   rw[I]at h;show wpAny _ _ (Builtin.Dict.pendingKey? d kv>>=_) _ _ _;exact Wb (wpAny_pendingKey_other hd (aA ⟨_,rfl,wpAny_truthy_bool h⟩))
 cases neg with
 |false=>
  show wpAny _ _ (do return .bool (<-contains (.ref d) kv)) Q E s;exact Wb (key (aA h))
 |true=>
  show wpAny _ _ (do return .bool (!(<-contains (.ref d) kv))) Q E s;exact Wb (key (aA h))
def putN(k:Option Tr)(v:VL)(x:KE):KE:=if x.1=k then(x.1,x.2.1,v) else x
def G9(xs:List KE)(k:Option Tr)(kv v:VL):List KE:=if(Fu xs k).isSome then xs.map (putN k v) else xs++[(k,kv,v)]
def VE(v:VL):∀xs:List KE,(xs.map (putN k v)).map (·.1)=xs.map (·.1)
 |[]=>rfl
 |x::xs=>by
  rw[List.map_cons,List.map_cons,List.map_cons,VE v xs]
  congr 1
  unfold putN;split<;>rfl
def QL{v:VL}:∀ {xs:List KE} {j:Nat} {x:KE},(xs.map (·.1)).Nodup->xs[j]? = some x->x.1=k->(xs.map Dy).modify j (fun e=>{e with val:=v})=(xs.map (putN k v)).map Dy
 |[],_,_,_,h,_=>by simp at h
 |y::ys,0,x,hn,h,g=>by
  have:y=x:=by simpa using h
  subst this;rw[List.map_cons,List.nodup_cons]at hn;rw[List.map_cons,List.map_cons,List.map_cons];have I:ys.map (putN k v)=ys:=by
   refine(List.map_congr_left fun z O=>?_).trans (List.map_id _);unfold putN;rw[if_neg fun e=>hn.1 (by rw[g,<-e];exact List.mem_map_of_mem O)]
   rfl
  rw[I];show { Dy y with val:=v}::ys.map Dy=_
  congr 1
  unfold putN;rw[if_pos g]
  rfl
 |y::ys,j+1,x,hn,h,g=>by
  have h':ys[j]? = some x:=by simpa using h
  rw[List.map_cons,List.nodup_cons]at hn;rw[List.map_cons,List.map_cons,List.map_cons];have R:putN k v y=y:=by
   unfold putN;rw[if_neg fun e=>hn.1 (by rw[e,<-g];exact List.mem_map_of_mem (aW h'))]
  rw[R];show Dy y::(ys.map Dy).modify j _=_;rw[QL hn.2 h' g]
def JD.keep{h h':Heap}{k:Option Tr}{v:VL}{o:Obj}{es ep}(a:JD h k v)(prog:Program)(w:World)(I:h.get? d=some o)(hd:o.data=.dict es ep)(sb:Heap.SameBut d h h'):JD h' k v:=by
 cases k with
 |none=>exact a
 |some t=>
  obtain⟨a1,O,g⟩:=a;exact⟨a1,O,(Jj prog w).keeps g I hd sb⟩
def nI{v:VL}{Q:Unit->SD->Prop}(hu:A.in1.units+8<cLine)(hk:JD s.heap k kv)(hm:JI s.heap d xs)(Y:∀x∈xs,Bj x.1=Bj k->x.1=k)(hz:xs.length<=sizeLine) (hQ:∀h',JI h' d (G9 xs k kv v)->Heap.SameBut d s.heap h'->Q () {s with heap:=h',toks:=s.toks+FA k}):wpAny (model prog w) A (setItem (.ref d) kv v) Q E s:=by
 unfold setItem
 try with_reducible refine aV ?_
 refine Wb (wpAny_sequenceKey hm.ty (by decide) ?_);refine Wb (ag (name:=Str.ofString "__setitem__") hm.ty slot_dict_setitem (aX slot_dict_setitem hm.ty entry_dict_setitem ?_ (args_dict_setitem _ _ _)));show wpAny _ _ (Builtin.Dict.notOrdered "__setitem__" ⟨[.ref d,kv,v],[]⟩>>=_) _ _ s;refine Wb (wpAny_notOrdered_dict hm.ty ?_);show wpAny _ _ (dictSet d kv v>>=_) _ _ s;refine Wb ?_;have fin:∀h',JI h' d (G9 xs k kv v)->Heap.SameBut d s.heap h'->wpAny (model prog w) A.in1 (ret .none) (fun fin s'=>∃v,fin=.done (.ret v)/\wpAny (model prog w) A (pure ()) Q E s') E {s with heap:=h',toks:=s.toks+FA k}:=fun h' h1 h2=>aA ⟨.none,rfl,wpAny_pure (hQ h' h1 h2)⟩;obtain⟨o,es,ep,g,hc,hd,T⟩:=hm.ob;unfold dictSet
 try with_reducible refine aV ?_
 refine Wb (bZ hu hk ?_);unfold dictSetHashed
 try with_reducible refine aV ?_
 refine Wb (Zy (s:={s with toks:=s.toks+FA k}) hu hk g hd T hm.ks hm.nd Y (fun R=>?_) fun j x hj Z=>?_)
 .have I:G9 xs k kv v=xs++[(k,kv,v)]:=by unfold G9;rw[QT R];rfl
  rw[I]at fin;refine Wb (aq (wpAny_updateDictKeys (hz:=by rw[US T];exact hz) (s:={s with toks:=s.toks+FA k}) g hd (fin _ ⟨⟨_,_,ep+1,Heap.get?_update_self _ g (Obj.isFreed_of_dict (Obj.data_mapDictKeys hd _)),hc.mapDictKeys _,Obj.data_mapDictKeys hd _,?_⟩,fun y O=>?_,?_⟩ (ae ..))))
  .simp[T,Dy]
  .rcases bS.mp O with h|h
   .exact(hm.ks y h).keep prog w g hd (ae ..)
   .rw[List.mem_singleton.mp h];exact hk.keep prog w g hd (ae ..)
  .rw[List.map_append,List.nodup_append];refine⟨hm.nd,by simp,fun a ha b hb=>?_⟩;have:b=k:=by simpa using hb
   subst this;obtain⟨y,O,rfl⟩:=aT.mp ha;exact R y O
 .have I:G9 xs k kv v=xs.map (putN k v):=by unfold G9;rw[Qs hm.nd hj Z];rfl
  rw[I]at fin;refine Wb (aq (Wb (wpAny_updateDict (s:={s with toks:=s.toks+FA k}) g hd (wpAny_point (fin _ ⟨⟨_,_,ep,Heap.get?_update_self _ g (Obj.isFreed_of_dict (Obj.data_mapDict hd _)),hc.mapDict _,Obj.data_mapDict hd _,?_⟩,fun y O=>?_,?_⟩ (ae ..))))))
  .have:=QL (v:=v) hm.nd hj Z;rw[<-T]at this;obtain⟨l⟩:=es
   simpa using this
  .obtain⟨z,U,rfl⟩:=aT.mp O;unfold putN;split<;>exact(hm.ks z U).keep prog w g hd (ae ..)
  .rw[VE];exact hm.nd
end
end TH
namespace L2
open PySem PySem.Spec PyProof.Rows
abbrev KR:=Option Tr×V×V
def RZ(q:KR)(x:TH.KE):Prop:=x.1=q.1/\RelV q.2.1 x.2.1/\RelV q.2.2 x.2.2
def dN(d:AD)(r:List KR):HO:=.ext fun h=>(d==sysModules)=false/\∃o es ep xs,h.get? d=some o/\o.ExactDict/\o.data=.dict es ep/\es.toList=xs.map TH.Dy/\PySem.Paired RZ r xs
def Ip(H:Hp):Option Tr->V->Prop
 |none,v=>v=.BP
 |some t,v=>t.deep<8/\Tv H t v
def Ip.same{H H':Hp}{k:Option Tr}{v:V}(h:Ip H k v)(e:AJ H H'):Ip H' k v:=by
 cases k with
 |none=>exact h
 |some t=>exact⟨h.1,h.2.same e⟩
structure VN(H:Hp)(d:Addr)(r:List KR)(k:Option Tr):Prop where
 at_:H d=some (dN d r)
 ks:∀q∈r,Ip H q.1 q.2.1
 nd:(r.map (·.1)).Nodup
 ap:∀q∈r,TH.Bj q.1=TH.Bj k->q.1=k
def Qy{O I:Type}{R:O->I->Prop}{l:List O}{m:List I}(h:PySem.Paired R l m):∀x∈m,∃q∈l,R q x:=by
 induction h with
 |nil=>intro x g;cases g
 |cons a _ T=>
  intro x g;rcases aM.mp g with rfl|g
  .exact⟨_,.head _,a⟩
  .obtain⟨q,Y,U⟩:=T x g;exact⟨q,.tail _ Y,U⟩
def Sx{r:List KR}{xs:List TH.KE}(h:PySem.Paired RZ r xs):xs.map (·.1)=r.map (·.1):=by
 induction h with
 |nil=>rfl
 |cons a _ g=>rw[List.map_cons,List.map_cons,g,a.1]
section
variable{X:Cx}{pins:List (AD×Obj)}{σ:St}{H:Hp}{s:SD}{pos:Pos}
def Ip.raw(I:Inv X pins σ H s){k:Option Tr}{v:V}{u:VL}(h:Ip H k v)(r:RelV v u):TH.JD s.heap k u:=by
 cases k with
 |none=>
  have h:v=.BP:=h;subst h;exact r
 |some t=>
  obtain⟨U,a,ys,rfl,T,R⟩:=h;obtain⟨g,O,p,_⟩:=I.tuple (BC.of (K:=X.K) T);exact⟨a,r,U,g,p,R.vs I O⟩
def Ug(I:Inv X pins σ H s){d:AD}{r:List KR}{k:Option Tr}(h:VN H d r k):(d==sysModules)=false/\∃xs,TH.JI s.heap d xs/\PySem.Paired RZ r xs/\∀x∈xs,TH.Bj x.1=TH.Bj k->x.1=k:=by
 obtain⟨U,o,es,ep,xs,g1,g2,g3,Z,g⟩:=(show CK X.prog X.w H s.heap d (dN d r) from I.Ap d _ h.at_).1;refine⟨U,xs,⟨⟨o,es,ep,g1,g2,g3,Z⟩,fun x O=>?_,by rw[Sx g];exact h.nd⟩,g,fun x O=>?_⟩
 .obtain⟨q,T,R,Y,_⟩:=Qy g x O;rw[R];exact(h.ks q T).raw I Y
 .obtain⟨q,T,R,_⟩:=Qy g x O;rw[R];exact h.ap q T
def PY{r:List KR}{xs:List TH.KE}(h:PySem.Paired RZ r xs)(k:Option Tr):match r.find? (fun q=>decide (q.1=k)) with
  |some q=>∃x,TH.Fu xs k=some x/\RelV q.2.2 x.2.2
  |none=>TH.Fu xs k=none:=by
 induction h with
 |nil=>exact rfl
 | @cons q x l m a _ g=>
  unfold TH.Fu at g ⊢;rw[List.find?_cons,List.find?_cons,a.1];by_cases z:q.1=k
  .simp only[decide_eq_true z];exact⟨x,rfl,a.2.2⟩
  .simp only[decide_eq_false z];exact g
def qm:R2:=fun x y H Q=>∃d r k q,x=.ref d/\Ip H k y/\VN H d r k/\r.find? (fun q=>decide (q.1=k))=some q/\Q q.2.2 H
def lJ{o i:Expr}{R ty:TE}(hu:X.A.units+64<cLine)(ho:PE X o R)(hi:PE X i ty)(hs:mO i):PE X (.Subscript o i pos) (Yr qm R ty):=by
 intro pins s σ H Q I h;refine iB PySem.F.slot_dict_getitem.lookup hs (BG (ho pins s σ H _ I h) fun u s1 ⟨x,H1,I1,Y,q1⟩=>BG (hi pins s1 σ H1 _ I1 q1) fun iv s2 ⟨y,H2,O,U,q2⟩=>?_);obtain⟨d,r,k,q,rfl,hk,hD,hf,Z⟩:=q2;obtain rfl:u=Value.ref d:=Y;obtain⟨hsm,xs,hm,hp,g⟩:=Ug O hD;have T:=PY hp k;rw[hf]at T;obtain⟨x,h1,h2⟩:=T;exact⟨hm.ty,TH.lW (by show X.A.in1.units+8<cLine;rw[Around.in1_units];lia) (hk.raw O U) hm g h1 ⟨q.2.2,H2,O.tok _,h2,Z⟩⟩
def qi(neg:Bool):R2:=fun x y H Q=>∃d r k,y=.ref d/\Ip H k x/\VN H d r k/\Q (.bl (if neg then !(r.find? (fun q=>decide (q.1=k))).isSome else(r.find? (fun q=>decide (q.1=k))).isSome)) H
def jF(hu:X.A.units+64<cLine)(neg:Bool):C6 X (compareOp (if neg then .NotIn else .In)) (qi neg):=by
 intro pins s σ H x y v u Q I U T h;obtain⟨d,r,k,rfl,hk,Z,q⟩:=h;obtain rfl:u=Value.ref d:=T;obtain⟨g,xs,hm,Y,R⟩:=Ug I Z;have O:=PY Y k;have e:(TH.Fu xs k).isSome=(r.find? (fun q=>decide (q.1=k))).isSome:=by
  split at O
  .rename_i q e;obtain⟨x,h1,_⟩:=O;rw[h1,e];rfl
  .rename_i e;rw[O,e];rfl
 refine TH.ql (by show X.A.in1.units+8<cLine;rw[Around.in1_units];lia) (hk.raw I U) g hm R neg ?_;rw[e];exact⟨.bl _,H,I.tok _,rfl,q⟩
def Fz(r:List KR)(k:Option Tr)(g v:V):List KR:=if(r.find? (fun q=>decide (q.1=k))).isSome then r.map (fun q=>if q.1=k then(q.1,q.2.1,v) else q) else r++[(k,g,v)]
def iV{r:List KR}{xs:List TH.KE}{k:Option Tr}{I v:V}{O u:VL}(h:PySem.Paired RZ r xs)(hk:RelV I O)(R:RelV v u):PySem.Paired RZ (Fz r k I v) (TH.G9 xs k O u):=by
 have g:=PY h k;unfold Fz TH.G9;split at g
 .rename_i q e;obtain⟨x,T,_⟩:=g;rw[T,e];simp only[Option.isSome_some,if_true];clear e T hk
  induction h with
  |nil=>exact .nil
  | @cons q x l m a _ U=>
   rw[List.map_cons,List.map_cons];refine .cons ?_ U;unfold TH.putN;rw[a.1];by_cases z:q.1=k
   .rw[if_pos z,if_pos z];exact⟨rfl,a.2.1,R⟩
   .rw[if_neg z,if_neg z];exact a
 .rename_i e;rw[g,e];exact h.snoc ⟨rfl,hk,R⟩
def nE:YE:=fun o i v H Q=>∃d r k,o=.ref d/\Ip H k i/\VN H d r k/\r.length<=1000/\Q (upd H d (dN d (Fz r k i v)))
def jr(hu:X.A.units+64<cLine):d7 X nE:=by
 intro pins s σ H o i v ov iv u Q I ro U rv h;obtain⟨d,r,k,rfl,hk,Z,hl,q⟩:=h;obtain rfl:ov=Value.ref d:=ro;obtain⟨g,xs,hm,Y,R⟩:=Ug I Z;have hle:xs.length=r.length:=by have:=bI List.length (Sx Y);simpa using this
 refine TH.nI (by show X.A.in1.units+8<cLine;rw[Around.in1_units];lia) (hk.raw I U) hm R (aR (by lia:xs.length<=1000) (by rw[sizeLine_eq];decide)) fun h' O sb=>?_;obtain⟨o',es,ep,T,g2,g3,g4⟩:=O.ob;refine⟨_,I.write (x:=d) (e:=d) (o:=dN d (Fz r k i v)) (t':=s.toks+TH.FA k) (by rw[Z.at_];exact trivial) (.inl rfl) (fun b w' hb e=>(sb.2 b hb).trans e) ⟨o',T⟩ ?_,q⟩;exact⟨⟨g,o',es,ep,_,T,g2,g3,g4,iV Y U rv⟩,⟨o',T⟩,fun h1 h2 ⟨a,o,es,ep,xs,q,r⟩ k=>⟨a,o,es,ep,xs,k _ q,r⟩⟩
def jJ:TE:=fun _ H Q=>∀p,H p=none->Q (.ref p) (upd H p (dN p []))
def cn:PE X (.Dict [] [] pos) jJ:=fun pins s σ H Q I h=>by
 refine wpAny_Dict_empty ⟨.ref s.heap.objs.size,_,I.laid (a:=s.heap.objs.size) (o:=dN s.heap.objs.size []) (t':=s.toks) (fun _ _ q=>aD _ q) (aH _) ?_,rfl,h _ (I.Ap.fresh (aH _))⟩;have hb:sysModules<s.heap.objs.size:=Nat.lt_trans (by decide) (I.mod.glob.keeps I.bk).lt;have hn:(s.heap.objs.size==sysModules)=false:=beq_eq_false_iff_ne.mpr (Ne.symm (aK hb));exact⟨⟨hn,_,#[],0,[],Heap.get?_push_size _ rfl,⟨rfl,rfl,rfl⟩,rfl,rfl,.nil⟩,⟨_,Heap.get?_push_size _ rfl⟩,fun R O ⟨a,o,es,ep,xs,q,r⟩ k=>⟨a,o,es,ep,xs,k _ q,r⟩⟩
def find_key{r:List KR}{k:Option Tr}{q:KR}(h:r.find? (fun q=>decide (q.1=k))=some q):q∈r/\q.1=k:=⟨List.mem_of_find?_eq_some h,by simpa using List.find?_some h⟩
end
section
variable{X:Cx}
def Zf(hc:X.calm=true):D4 X (.builtin "sum") (fun xs H Q=>∃(p:AD) (ns:rd),xs=[.ref p]/\BC X.K H p (ns.map V.int)/\Q (.int ns.sum) H):=by
 intro pins s σ H xs us Q I r h;obtain⟨p,ns,rfl,hq,q⟩:=h;obtain⟨u,rfl,r1⟩:=r.one;cases r1;obtain⟨T,Z,pl,hz⟩:=I.tuple hq;have hi:=intsAre_of Z;obtain⟨xs,Y⟩:=hi.allInts.items;have g:s.heap.IsTuple p (intItems xs):=Y ▸ pl
 have R:p<s.heap.objs.size:=by obtain⟨_,e,_⟩:=g;exact aF e
 have e1:ns=xs.toList.map (·.1):=by
  rw[<-nums_intItems,<-Y];exact(show numsOf T.toArray.toList=ns from hi.numsOf).symm
 have e2:preSum (numAt xs) xs.size=ns.sum:=by
  rw[preSum_eq,List.take_of_length_le (by simp),e1]
 refine call_sum_walkG (wpAny_pyIter_tuple g ?_);refine⟨_,[_,p],[_],_,_,_,numAt xs,rfl,Walks.tuple (A:=X.A.in1) (I.ok.hd hc) _ p (aK R) (intItems xs),
  ⟨⟨_,Heap.get?_push_size _ rfl,rfl,rfl⟩,g.push _⟩,fun c O=>?_,(fun _ _=>intItems_at),fun h' tk U hk=>?_⟩
 .show c<(s.heap.push _).objs.size;rw[Heap.size_push];rcases aM.mp O with rfl|O
  .exact bK _
  .rw[List.mem_singleton.mp O];exact av R
 .have e3:preSum (numAt xs) (intItems xs).size=ns.sum:=by
   rw[<-e2];simp[intItems]
  rw[e3];exact⟨.int _,H,I.kept (t':=tk) (PyProof.Rows.LSm.kept_iter hk),⟨U,rfl⟩,q⟩
end
end L2
namespace L2
open PySem PySem.Spec PyProof.Rows
def Rd.same{H H':Hp}{a:AD}{u:HO}(e:AJ H H')(h:Rd H a u):Rd H' a u:=by
 rcases h with h|⟨o,h⟩
 .exact .inl (e _ _ h)
 .exact .inr ⟨o,e _ _ h⟩
def BE:Tr->List PD
 |.nil=>[]
 |.cons b r=>.tuple (BE b)::BE r
def kF:Option Tr->PD
 |none=>.none
 |some t=>.tuple (BE t)
mutual
def Du(H:Hp):PD->V->Prop
 |.none,v=>v=.BP
 |.bool b,v=>v=.bl b
 |.int i,v=>v=.int i
 |.str x,v=>v=.str x
 |.tuple I,v=>∃a xs,v=.ref a/\H a=some (.tup xs)/\An H I xs
 |.list I,v=>∃a xs,v=.ref a/\H a=some (.lst xs)/\An H I xs
 |.dict g,v=>(∃ea C:AD,g=[(.int (C:Nat),.none)]/\v=.ref ea/\H ea=some (MQ ea (.ref C)))\/(∃(a:AD) (ns:List Int),g=[(.none,.list (ns.map .int))]/\v=.ref a/\Rd H a (.lst (ns.map V.int)))\/LO H g v
def An(H:Hp):List PD->List V->Prop
 |[],xs=>xs=[]
 |d::g,xs=>∃x r,xs=x::r/\Du H d x/\An H g r
def LO(H:Hp):List (PD×PD)->V->Prop
 |[],_=>False
 |(g,I)::t,v=>g=.bool true/\I=.none/\∃a r,v=.ref a/\H a=some (dN a r)/\(r.map (·.1)).Nodup/\Lr H t r
def Lr(H:Hp):List (PD×PD)->List KR->Prop
 |[],r=>r=[]
 |(k,d)::t,r=>∃q g,r=q::g/\k=kF q.1/\Ip H q.1 q.2.1/\Du H d q.2.2/\Lr H t g
end
mutual
def Du.same{H H':Hp}(e:AJ H H'):∀ {d:PD} {v:V},Du H d v->Du H' d v
 |.none,_,h=>by rw[Du]at h ⊢;exact h
 |.bool _,_,h=>by rw[Du]at h ⊢;exact h
 |.int _,_,h=>by rw[Du]at h ⊢;exact h
 |.str _,_,h=>by rw[Du]at h ⊢;exact h
 |.tuple _,_,h=>by
  rw[Du]at h ⊢;obtain⟨a,xs,I,g,O⟩:=h;exact⟨a,xs,I,e _ _ g,An.same e O⟩
 |.list _,_,h=>by
  rw[Du]at h ⊢;obtain⟨a,xs,I,g,O⟩:=h;exact⟨a,xs,I,e _ _ g,An.same e O⟩
 |.dict _,_,h=>by
  rw[Du]at h ⊢;rcases h with ⟨ea,C,I,R,g⟩|⟨a,ns,I,R,g⟩|h
  .exact .inl ⟨ea,C,I,R,e _ _ g⟩
  .exact .inr (.inl ⟨a,ns,I,R,g.same e⟩)
  .exact .inr (.inr (LO.same e h))
def An.same{H H':Hp}(e:AJ H H'):∀ {ds:List PD} {xs:List V},An H ds xs->An H' ds xs
 |[],_,h=>by rw[An]at h ⊢;exact h
 |_::_,_,h=>by
  rw[An]at h ⊢;obtain⟨x,r,O,I,g⟩:=h;exact⟨x,r,O,Du.same e I,An.same e g⟩
def LO.same{H H':Hp}(e:AJ H H'):∀ {g:List (PD×PD)} {v:V},LO H g v->LO H' g v
 |[],_,h=>by rw[LO]at h;exact h.elim
 |(_,_)::_,_,h=>by
  rw[LO]at h ⊢;obtain⟨Y,U,a,r,T,R,O,I⟩:=h;exact⟨Y,U,a,r,T,e _ _ R,O,Lr.same e I⟩
def Lr.same{H H':Hp}(e:AJ H H'):∀ {g:List (PD×PD)} {r:List KR},Lr H g r->Lr H' g r
 |[],_,h=>by rw[Lr]at h ⊢;exact h
 |(_,_)::_,_,h=>by
  rw[Lr]at h ⊢;obtain⟨q,I,Y,U,T,R,O⟩:=h;exact⟨q,I,Y,U,T.same e,Du.same e R,Lr.same e O⟩
end
mutual
def Du.br{K:Fg}{H:Hp}:∀ {d:PD} {v:V},d.canLay0=true->Du H d v->Br K H d v
 |.none,_,_,h=>by rw[Du]at h;rw[Br];exact h
 |.bool _,_,_,h=>by rw[Du]at h;rw[Br];exact h
 |.int _,_,_,h=>by rw[Du]at h;rw[Br];exact h
 |.str _,_,_,h=>by rw[Du]at h;rw[Br];exact h
 |.tuple _,_,c,h=>by
  rw[Du]at h;rw[Br];obtain⟨a,xs,O,I,g⟩:=h;exact⟨a,xs,O,BC.of I,An.br (by simp only[PyData.canLay0,Bool.and_eq_true]at c;first|exact c|exact c.2|exact c.1) g⟩
 |.list _,_,c,h=>by
  rw[Du]at h;rw[Br];obtain⟨a,xs,O,I,g⟩:=h;exact⟨a,xs,O,Al.of I,An.br (by simp only[PyData.canLay0,Bool.and_eq_true]at c;first|exact c|exact c.2|exact c.1) g⟩
 |.dict _,_,c,h=>by simp[PyData.canLay0]at c
def An.br{K:Fg}{H:Hp}:∀ {ds:List PD} {xs:List V},PyData.canLayAll0 ds=true->An H ds xs->GA K H ds xs
 |[],_,_,h=>by rw[An]at h;rw[GA];exact h
 |_::_,_,c,h=>by
  rw[An]at h;rw[GA];obtain⟨x,r,O,I,g⟩:=h;simp only[PyData.canLayAll0,Bool.and_eq_true]at c;exact⟨x,r,O,Du.br c.1 I,An.br c.2 g⟩
end
def An.nil{H:Hp}:An H [] []:=by rw[An]
def An.cons{H:Hp}{d:PD}{ds:rS}{x:V}{xs:rq}(h:Du H d x)(k:An H ds xs):An H (d::ds) (x::xs):=by rw[An];exact⟨x,xs,rfl,h,k⟩
def An.un{H:Hp}{d:PD}{ds:rS}{xs:rq}(h:An H (d::ds) xs):∃x r,xs=x::r/\Du H d x/\An H ds r:=by rw[An]at h;exact h
def An.nil_eq{H:Hp}{xs:rq}(h:An H [] xs):xs=[]:=by rw[An]at h;exact h
def An.len{H:Hp}:∀ {ds:List PD} {xs:List V},An H ds xs->xs.length=ds.length
 |[],_,h=>by rw[h.nil_eq];rfl
 |_::_,_,h=>by obtain⟨x,r,rfl,_,g⟩:=h.un;simp[g.len]
def An.get{H:Hp}:∀ {ds:List PD} {xs:List V} {i:Nat} {d:PD},An H ds xs->ds[i]? = some d->∃v,xs[i]? = some v/\Du H d v
 |[],_,i,_,_,e=>by simp at e
 |_::_,_,0,_,h,e=>by
  obtain⟨x,r,rfl,R,_⟩:=h.un;simp at e;subst e;exact⟨x,rfl,R⟩
 |_::_,_,i+1,_,h,e=>by
  obtain⟨x,r,rfl,_,O⟩:=h.un;obtain⟨v,I,g⟩:=O.get (i:=i) (by simpa using e);exact⟨v,by simpa using I,g⟩
def An.back{H:Hp}{ds:rS}{xs:rq}{i:Nat}{v:V}(h:An H ds xs)(e:xs[i]? = some v):∃d,ds[i]? = some d/\Du H d v:=by
 have O:=h.len;have hi:i<ds.length:=by rw[<-O];exact(aG.mp e).1
 have hd:ds[i]? = some ds[i]:=by simp[hi]
 obtain⟨w,g,I⟩:=h.get hd;rw[e]at g;cases g;exact⟨_,hd,I⟩
def An.app{H:Hp}:∀ {ds es:List PD} {xs ys:List V},An H ds xs->An H es ys->An H (ds++es) (xs++ys)
 |[],_,_,_,h,k=>by rw[h.nil_eq];exact k
 |_::_,_,_,_,h,k=>by obtain⟨x,r,rfl,I,g⟩:=h.un;exact .cons I (g.app k)
def An.take{H:Hp}:∀ {ds:List PD} {xs:List V} (i:Nat),An H ds xs->An H (ds.take i) (xs.take i)
 |_,_,0,_=>by rw[List.take_zero,List.take_zero];exact .nil
 |[],_,i+1,h=>by rw[h.nil_eq];exact .nil
 |_::_,_,i+1,h=>by obtain⟨x,r,rfl,I,g⟩:=h.un;exact .cons I (g.take i)
def An.drop{H:Hp}:∀ {ds:List PD} {xs:List V} (i:Nat),An H ds xs->An H (ds.drop i) (xs.drop i)
 |_,_,0,h=>h
 |[],_,i+1,h=>by rw[h.nil_eq];exact .nil
 |_::_,_,i+1,h=>by obtain⟨x,r,rfl,I,g⟩:=h.un;exact g.drop i
def An.rev{H:Hp}:∀ {ds:List PD} {xs:List V},An H ds xs->An H ds.reverse xs.reverse
 |[],_,h=>by rw[h.nil_eq];exact .nil
 |_::_,_,h=>by
  obtain⟨x,r,rfl,I,g⟩:=h.un;rw[List.reverse_cons,List.reverse_cons];exact g.rev.app (.cons I .nil)
inductive Oc where
 |lst (xs:List PyData)|Zq (kvs:List (List Key×PyData))|U1 (kvs:List (Option Tr×PyData))
inductive L where
 |no|d (x:PyData)|own (c:Oc)
abbrev Dv:=List L
abbrev rP:=Dv->Option (List PD)
abbrev rQ:=Dv->Option PD
abbrev rR:=Dv->Option Bool
def SR(G:Hp):List (List Key×PD)->List (List Key×V)->Prop
 |[],r=>r=[]
 |q::t,r=>∃v g,r=(q.1,v)::g/\Du G q.2 v/\SR G t g
def SR.same{G g:Hp}(e:AJ G g):∀ {t:List (List Key×PD)} {r:List (List Key×V)},SR G t r->SR g t r
 |[],r,h=>h
 |q::t,r,h=>by
  obtain⟨v,I,rfl,R,O⟩:=h;exact⟨v,I,rfl,R.same e,SR.same e O⟩
abbrev ff(kvs:List (Option Tr×PD)):List (PD×PD):=kvs.map fun q=>(kF q.1,q.2)
abbrev Tw(kvs:List (Option Tr×PD)):PD:=.dict ((.bool true,.none)::ff kvs)
def Hn(G:Hp)(a:AD):Oc->HO->Prop
 |.lst xs,o=>∃ys,o=.lst ys/\An G xs ys
 |.Zq kvs,o=>∃r,o=.dT r/\SR G kvs r
 |.U1 kvs,o=>∃r,o=dN a r/\(r.map (·.1)).Nodup/\Lr G (ff kvs) r
def Hn.same{G O:Hp}{a:AD}{c:Oc}{o:HO}(h:Hn G a c o)(e:AJ G O):Hn O a c o:=by
 cases c with
 |U1 kvs=>obtain⟨r,I,g,R⟩:=h;exact⟨r,I,g,Lr.same e R⟩
 |lst xs=>obtain⟨ys,I,g⟩:=h;exact⟨ys,I,g.same e⟩
 |Zq kvs=>obtain⟨ys,I,g⟩:=h;exact⟨ys,I,g.same e⟩
def Hn.VX{G:Hp}{a:AD}{c:Oc}{xs:rq}(h:Hn G a c (.tup xs)):False:=by
 cases c with
 |U1 kvs=>obtain⟨r,g,I,O⟩:=h;unfold dN at g;cases g
 |lst xs=>obtain⟨ys,g,I⟩:=h;cases g
 |Zq kvs=>obtain⟨ys,g,I⟩:=h;cases g
def Nw(G0 H0 G:Hp):Prop:=∀a o,G a=some o->G0 a=some o\/H0 a=none\/∃xs,o=HO.tup xs
structure Rw(G0 H0 G H:Hp)(σ:St)(δ:Dv)(ts:List (PyData×V)):Prop where
 ext:AJ G0 G
 new:Nw G0 H0 G
 ins:AJ G H
 keep:AJ H0 H
 len:σ.length=δ.length
 dat:∀(i:Nat) (x:PyData),δ[i]? = some (L.d x)->∃v,σ[i]? = some (some v)/\Du G x v
 own:∀(i:Nat) (xs:Oc),δ[i]? = some (L.own xs)->∃(a:Addr) (ys:HO),σ[i]? = some (some (V.ref a))/\G a=none/\H0 a=none/\H a=some ys/\Hn G a xs ys
 apart:∀(i j:Nat) (xs ys:Oc),i≠j->δ[i]? = some (L.own xs)->δ[j]? = some (L.own ys)->σ[i]?≠σ[j]?
 Bh:∀p∈ts,Du G p.1 p.2
def DE(X:Cx)(e:Expr)(f:rQ):Prop:=∃t,PE X e t/\∀δ x,f δ=some x->∀G0 H0 G H σ ts (Q:VK),Rw G0 H0 G H σ δ ts->(∀v g H',Rw G0 H0 g H' σ δ ((x,v)::ts)->Q v H')->t σ H Q
def DA(X:Cx)(es:rg)(f:rP):Prop:=∃t,PA X es t/\∀δ xs,f δ=some xs->∀G0 H0 G H σ ts (Q:List V->Hp->Prop),Rw G0 H0 G H σ δ ts->(∀vs g H',Rw G0 H0 g H' σ δ (xs.zip vs++ts)->vs.length=xs.length->Q vs H')->t σ H Q
def DT(X:Cx)(e:Expr)(f:rR):Prop:=∃t,PT X e t/\∀δ b,f δ=some b->∀G0 H0 G H σ ts (Q:Bool->Hp->Prop),Rw G0 H0 G H σ δ ts->(∀g H',Rw G0 H0 g H' σ δ ts->Q b H')->t σ H Q
section
variable{G0 H0 G H:Hp}{σ:St}{δ:Dv}{ts:List (PD×V)}
def Rw.drop{p:PD×V}(r:Rw G0 H0 G H σ δ (p::ts)):Rw G0 H0 G H σ δ ts:={r with Bh:=fun q g=>r.Bh q (.tail _ g)}
def Rw.less{us:List (PD×V)}(r:Rw G0 H0 G H σ δ ts)(h:∀p∈us,p∈ts):Rw G0 H0 G H σ δ us:={r with Bh:=fun q g=>r.Bh q (h q g)}
def Rw.put{x:PD}{v:V}(r:Rw G0 H0 G H σ δ ts)(h:Du G x v):Rw G0 H0 G H σ δ ((x,v)::ts):={r with Bh:=fun q g=>by rcases aM.mp g with rfl|g;exact h;exact r.Bh q g}
def Rw.newObj{p:AD}{o:HO}(r:Rw G0 H0 G H σ δ ts)(g:H p=none):Rw G0 H0 (upd G p o) (upd H p o) σ δ ts:=by
 have Z:G p=none:=by
  cases q:G p with
  |none=>rfl
  |some u=>rw[r.ins _ _ q]at g;cases g
 have h0:H0 p=none:=by
  cases q:H0 p with
  |none=>rfl
  |some u=>rw[r.keep _ _ q]at g;cases g
 have e:AJ G (upd G p o):=Ac Z o;refine⟨r.ext.trans e,fun a u h=>?_,fun a u h=>?_,r.keep.trans (Ac g o),r.len,fun i x h=>?_,fun i xs h=>?_,r.apart,fun q Y=>(r.Bh q Y).same e⟩
 .by_cases ha:a=p
  .subst ha;exact .inr (.inl h0)
  .rw[AL ha]at h;exact r.new _ _ h
 .by_cases ha:a=p
  .subst ha;rw[AN]at h ⊢;exact h
  .rw[AL ha]at h ⊢;exact r.ins _ _ h
 .obtain⟨v,O,I⟩:=r.dat i x h;exact⟨v,O,I.same e⟩
 .obtain⟨a,ys,O,I,U,R,T⟩:=r.own i xs h;have ha:a≠p:=fun z=>by subst z;rw[R]at g;cases g
  exact⟨a,ys,O,by rw[AL ha];exact I,U,by rw[AL ha];exact R,T.same e⟩
def Rw.jS{p:AD}{xs:rq}{H':Hp}(r:Rw G0 H0 G H σ δ ts)(e:AJ H H')(g:H' p=some (.tup xs)):Rw G0 H0 (upd G p (.tup xs)) H' σ δ ts:=by
 have I:AJ G (upd G p (.tup xs)):=fun a o h=>by
  by_cases ha:a=p
  .subst ha;have:=e _ _ (r.ins _ _ h);rw[g]at this;rw[AN];exact this
  .rw[AL ha];exact h
 refine⟨r.ext.trans I,fun a u h=>?_,fun a u h=>?_,r.keep.trans e,r.len,fun i x h=>?_,fun i xs h=>?_,r.apart,fun q Z=>(r.Bh q Z).same I⟩
 .by_cases ha:a=p
  .subst ha;rw[AN]at h;cases h;exact .inr (.inr ⟨_,rfl⟩)
  .rw[AL ha]at h;exact r.new _ _ h
 .by_cases ha:a=p
  .subst ha;rw[AN]at h;rw[g];exact h
  .rw[AL ha]at h;exact e _ _ (r.ins _ _ h)
 .obtain⟨v,R,O⟩:=r.dat i x h;exact⟨v,R,O.same I⟩
 .obtain⟨a,ys,R,O,Y,U,T⟩:=r.own i xs h;have ha:a≠p:=fun z=>by subst z;rw[e _ _ U]at g;cases g;exact T.VX
  exact⟨a,ys,R,by rw[AL ha];exact O,Y,e _ _ U,T.same I⟩
def Rw.lift{g H':Hp}(r:Rw G0 H0 G H σ δ ts)(I:AJ G g)(h2:Nw G H g)(Z:AJ g H')(U:AJ H H'):Rw G0 H0 g H' σ δ ts:=by
 refine⟨r.ext.trans I,fun a o h=>?_,Z,r.keep.trans U,r.len,fun i x h=>?_,fun i xs h=>?_,r.apart,fun q hq=>(r.Bh q hq).same I⟩
 .rcases h2 a o h with k|k|k
  .exact r.new a o k
  .right;left
   cases q:H0 a with
   |none=>rfl
   |some u=>rw[r.keep _ _ q]at k;cases k
  .exact .inr (.inr k)
 .obtain⟨v,T,R⟩:=r.dat i x h;exact⟨v,T,R.same I⟩
 .obtain⟨a,ys,T,R,k3,O,Y⟩:=r.own i xs h;refine⟨a,ys,T,?_,k3,U _ _ O,Y.same I⟩;cases q:g a with
  |none=>rfl
  |some u=>
   rcases h2 a u q with z|z|⟨xs',z⟩
   .rw[R]at z;cases z
   .rw[O]at z;cases z
   .have:=Z _ _ q;rw[U _ _ O,z]at this;cases this;exact Y.VX.elim
end
section
variable{X:Cx}{a b e:Expr}{f g h:rQ}{pos:Pos}
def AH{i j pos}:DE X (.Constant (.int i) j pos) (fun _=>some (.int i)):=⟨_,Ar,fun δ x h G0 H0 G H σ ts Q r k=>by cases h;exact k _ _ _ (r.put (by rw[Du]))⟩
def Cj{i j pos}:DE X (.Constant (.bool i) j pos) (fun _=>some (.bool i)):=⟨_,oI,fun δ x h G0 H0 G H σ ts Q r k=>by cases h;exact k _ _ _ (r.put (by rw[Du]))⟩
def mv{j pos}:DE X (.Constant .none j pos) (fun _=>some .none):=⟨_,l9,fun δ x h G0 H0 G H σ ts Q r k=>by cases h;exact k _ _ _ (r.put (by rw[Du]))⟩
def Na{i j pos}:DE X (.Constant (.str i) j pos) (fun _=>some (.str i)):=⟨_,i9,fun δ x h G0 H0 G H σ ts Q r k=>by cases h;exact k _ _ _ (r.put (by rw[Du]))⟩
def nm(i:Nat)(δ:Dv):rX:=match δ[i]? with|some (.d x)=>some x|_=>none
def nc{i:Nat}{δ:Dv}{x:PD}(h:nm i δ=some x):δ[i]? = some (.d x):=by
 unfold nm at h;split at h
 .rename_i y e;cases h;exact e
 .cases h
def AE{i:Nat}{x:Str}(h:PE X (.Name x pos) (MR i)):DE X (.Name x pos) (nm i):=⟨_,h,fun δ y I G0 H0 G H σ ts Q r k=>by
 obtain⟨v,R,O⟩:=r.dat _ _ (nc I);exact⟨v,R,k _ _ _ (r.put O)⟩⟩
def Ax(o:PD->PD->Option PD)(f g:rQ)(δ:Dv):rX:=(f δ).bind fun x=>(g δ).bind fun y=>o x y
def Eh(X:Cx)(m:VL->VL->Sem VL)(o:PD->PD->Option PD):Prop:=∃r:R2,C6 X m r/\∀x y z,o x y=some z->∀G0 H0 G H σ δ ts u v (Q:VK),Rw G0 H0 G H σ δ ts->Du G x u->Du G y v->(∀w I H',Rw G0 H0 I H' σ δ ((z,w)::ts)->Q w H')->r u v H Q
def two{x y:PD}{f g:rQ}{δ:Dv}{o:PD->PD->Option PD}{z:PD}(h:Ax o f g δ=some z):∃x y,f δ=some x/\g δ=some y/\o x y=some z:=by
 unfold Ax at h;obtain⟨x,T,R⟩:=aB.mp h;obtain⟨y,O,I⟩:=aB.mp R;exact⟨x,y,T,O,I⟩
def A7{op:Operator}{o:PD->PD->Option PD}(ho:Eh X (binaryOp op) o)(ha:DE X a f)(hb:DE X b g):DE X (.BinOp a op b pos) (Ax o f g):=by
 obtain⟨r,Z,R⟩:=ho;obtain⟨ta,O,U⟩:=ha;obtain⟨tb,I,T⟩:=hb;refine⟨_,BO Z O I,fun δ z Y G0 H0 G H σ ts Q R0 k=>?_⟩;obtain⟨x,y,h1,h2,h3⟩:=two (x:=.none) (y:=.none) Y;refine U δ x h1 G0 H0 G H σ ts _ R0 fun u G1 H1 R1=>?_;refine T δ y h2 G0 H0 G1 H1 σ _ _ R1 fun v G2 H2 R2=>?_;exact R x y z h3 G0 H0 G2 H2 σ δ ts u v Q (R2.drop.drop) (R2.Bh (x,u) (.tail _ (.head _))) (R2.Bh (y,v) (.head _)) k
def LN{op:CmpOp}{o:PD->PD->Option PD}(ho:Eh X (compareOp op) o)(ha:DE X a f)(hb:DE X b g)(hm:behindInMarks op b=false):DE X (.Compare a [op] [b] pos) (Ax o f g):=by
 obtain⟨r,Z,R⟩:=ho;obtain⟨ta,O,U⟩:=ha;obtain⟨tb,I,T⟩:=hb;refine⟨_,gq Z O I hm,fun δ z Y G0 H0 G H σ ts Q R0 k=>?_⟩;obtain⟨x,y,h1,h2,h3⟩:=two (x:=.none) (y:=.none) Y;refine U δ x h1 G0 H0 G H σ ts _ R0 fun u G1 H1 R1=>?_;refine T δ y h2 G0 H0 G1 H1 σ _ _ R1 fun v G2 H2 R2=>?_;exact R x y z h3 G0 H0 G2 H2 σ δ ts u v Q (R2.drop.drop) (R2.Bh (x,u) (.tail _ (.head _))) (R2.Bh (y,v) (.head _)) k
end
section
variable{X:Cx}
def So(o o':PD->PD->Option PD)(x y:PD):rX:=match o x y with|some z=>some z|none=>o' x y
def Eh.or{m:VL->VL->Sem VL}{o o':PD->PD->Option PD}(h:Eh X m o)(h':Eh X m o'):Eh X m (So o o'):=by
 obtain⟨r,Z,Y⟩:=h;obtain⟨r',O,I⟩:=h';refine⟨_,C6.or Z O,fun x y z g G0 H0 G H σ δ ts u v Q U T R k=>?_⟩;unfold So at g;split at g
 .rename_i z' e;cases g;exact .inl (Y x y z e G0 H0 G H σ δ ts u v Q U T R k)
 .exact .inr (I x y z g G0 H0 G H σ δ ts u v Q U T R k)
def OO{m:VL->VL->Sem VL}{C:Int->Int->Prop}{I:Int->Int->V}{o:Int->Int->Option PD}(T:C6 X m (rI C I))(U:∀i j z,o i j=some z->C i j/\∀H,Du H z (I i j)) :
  Eh X m (fun x y=>match x,y with|.int i,.int j=>o i j|_,_=>none):=by
 refine⟨_,T,fun x y z g G0 H0 G H σ δ ts u v Q R0 R O k=>?_⟩;dsimp only at g;split at g
 .rename_i i j;rw[Du]at R O;obtain⟨Z,Y⟩:=U i j z g;exact⟨i,j,R,O,Z,k _ _ _ (R0.put (Y _))⟩
 .cases g
def KI{m:VL->VL->Sem VL}{I:Int->Int->V}{o:Int->Int->PD}(T:C6 X m (S0 I))(U:∀i j H,Du H (o i j) (I i j)) :
  Eh X m (fun x y=>match x,y with|.int i,.int j=>some (o i j)|_,_=>none):=by
 refine⟨_,T,fun x y z g G0 H0 G H σ δ ts u v Q Y R O k=>?_⟩;dsimp only at g;split at g
 .rename_i i j;cases g;rw[Du]at R O;exact⟨i,j,R,O,k _ _ _ (Y.put (U _ _ _))⟩
 .cases g
def C9:Nat:=1000
def RX{n:Nat}(h:n<=C9):n<sizeLine:=Sb h
def GJ{n:Nat}(h:n<=C9):n<=sizeLine:=ay (Sb h)
def jE:PD->PD->Option PD:=fun x y=>match x,y with|.int i,.int j=>some (.int (i+j))|_,_=>none
def VF:PD->PD->Option PD:=fun x y=>match x,y with|.int i,.int j=>some (.int (i-j))|_,_=>none
def Ir(n:Nat)(i:Int):Bool:=decide (i.natAbs<2^n)
def Qd(i j:Int):Bool:=Ir 64 i||Ir 64 j||(Ir 9000 i&&Ir 9000 j)
def X6:PD->PD->Option PD:=fun x y=>match x,y with|.int i,.int j=>(if Qd i j=true then some (.int (i*j)) else none)|_,_=>none
def YJ:PD->PD->Option PD:=fun x y=>match x,y with|.int i,.int j=>(if j≠0/\Ir 9000 j=true then some (.int (i.fdiv j)) else none)|_,_=>none
def HD:PD->PD->Option PD:=fun x y=>match x,y with|.int i,.int j=>(if j≠0 then some (.int (i.fmod j)) else none)|_,_=>none
def NU:PD->PD->Option PD:=fun x y=>match x,y with|.int i,.int j=>(if 0<=j/\j<=1000/\Ir 64 i=true then some (.int (i^j.toNat)) else none)|_,_=>none
def hJ:Eh X (binaryOp .Add) jE:=KI NK fun _ _ _=>by rw[Du]
def OL:Eh X (binaryOp .Sub) VF:=KI VS fun _ _ _=>by rw[Du]
def fV{i:Int}(h:Ir 64 i=true):-(2^64)<i/\i<2^64:=by
 have:=aw h
 lia
def iR:Eh X (binaryOp .Mult) X6:=OO (o:=fun i j=>if Qd i j=true then some (.int (i*j)) else none) Ht fun i j z h=>by
 split at h
 .rename_i q;cases h;refine⟨?_,fun _=>by rw[Du]⟩;unfold Qd at q;rw[Bool.or_eq_true,Bool.or_eq_true,Bool.and_eq_true]at q;rcases q with (q|q)|q
  .exact .inl (.inl (fV q))
  .exact .inl (.inr (fV q))
  .exact .inr ⟨9000,by decide,of_decide_eq_true q.1,of_decide_eq_true q.2⟩
 .cases h
def Wh:Eh X (binaryOp .FloorDiv) YJ:=OO (o:=fun i j=>if j≠0/\Ir 9000 j=true then some (.int (i.fdiv j)) else none) Gq fun i j z h=>by
 split at h
 .rename_i q;cases h;exact⟨⟨q.1,9000,Nat.le_refl _,of_decide_eq_true q.2⟩,fun _=>by rw[Du]⟩
 .cases h
def Et:Eh X (binaryOp .Mod) HD:=OO (o:=fun i j=>if j≠0 then some (.int (i.fmod j)) else none) Lz fun i j z h=>by
 split at h
 .rename_i q;cases h;exact⟨q,fun _=>by rw[Du]⟩
 .cases h
def Ry:Eh X (binaryOp .Pow) NU:=OO (o:=fun i j=>if 0<=j/\j<=1000/\Ir 64 i=true then some (.int (i^j.toNat)) else none) lS fun i j z h=>by
 split at h
 .rename_i q;cases h;exact⟨⟨q.1,by lia,of_decide_eq_true q.2.2⟩,fun _=>by rw[Du]⟩
 .cases h
def Fi(p:Int->Int->Bool):PD->PD->Option PD:=fun x y=>match x,y with|.int i,.int j=>some (.bool (p i j))|_,_=>none
def Tz:Eh X (compareOp .Lt) (Fi fun i j=>decide (i<j)):=KI (o:=fun i j=>.bool (decide (i<j))) X4 fun _ _ _=>by rw[Du]
def OM:Eh X (compareOp .Gt) (Fi fun i j=>decide (j<i)):=KI (o:=fun i j=>.bool (decide (j<i))) QN fun _ _ _=>by rw[Du]
def ec:Eh X (compareOp .GtE) (Fi fun i j=>decide (j<=i)):=KI (o:=fun i j=>.bool (decide (j<=i))) oH fun _ _ _=>by rw[Du]
def di:PD->PD->Option PD:=fun x y=>match x,y with|.list a,.list b=>(if a.length+b.length<=C9 then some (.list (a++b)) else none)|_,_=>none
def iA:Eh X (binaryOp .Add) di:=by
 refine⟨_,Zd,fun x y z g G0 H0 G H σ δ ts u v Q O Y U k=>?_⟩;unfold di at g;split at g
 .rename_i a b;split at g
  .rename_i Z;cases g;rw[Du]at Y U;obtain⟨p,xs,rfl,h1,T⟩:=Y;obtain⟨q,ys,rfl,h3,R⟩:=U;refine⟨p,q,xs,ys,rfl,rfl,O.ins _ _ h1,O.ins _ _ h3,GJ (by rw[T.len,R.len];exact Z),fun l I=>?_⟩;have R1:=O.newObj (o:=.lst (xs++ys)) I;refine k _ _ _ (R1.put ?_);rw[Du];have e:AJ G (upd G l (.lst (xs++ys))):=fun a o h=>by
    have:=O.ins _ _ h;rw[AL (AU this I)];exact h
   exact⟨l,xs++ys,rfl,AN,(T.same e).app (R.same e)⟩
  .cases g
 .cases g
def YI:PD->PD->Option PD:=fun x y=>match x,y with|.tuple a,.tuple b=>(if a.length+b.length<=C9 then some (.tuple (a++b)) else none)|_,_=>none
def gM:Eh X (binaryOp .Add) YI:=by
 refine⟨_,gP,fun x y z g G0 H0 G H σ δ ts u v Q I Z Y k=>?_⟩;unfold YI at g;split at g
 .rename_i a b;split at g
  .rename_i hl;cases g;rw[Du]at Z Y;obtain⟨p,xs,rfl,h1,T⟩:=Z;obtain⟨q,ys,rfl,h3,R⟩:=Y;refine⟨p,q,xs,ys,rfl,rfl,I.ins _ _ h1,I.ins _ _ h3,GJ (by rw[T.len,R.len];exact hl),fun l H' e O=>?_⟩;have R1:=I.jS e O;refine k _ _ _ (R1.put ?_);rw[Du];have U:AJ G (upd G l (.tup (xs++ys))):=fun a o h=>by
    by_cases ha:a=l
    .subst ha;have:=e _ _ (I.ins _ _ h);rw[O]at this;rw[AN];exact this
    .rw[AL ha];exact h
   exact⟨l,xs++ys,rfl,AN,(T.same U).app (R.same U)⟩
  .cases g
 .cases g
def cz:PD->PD->Option PD:=fun x y=>match x,y with|.str a,.str b=>(if a.length+b.length<=C9 then some (.str (a++b)) else none)|_,_=>none
def gp:Eh X (binaryOp .Add) cz:=by
 refine⟨_,YD,fun x y z g G0 H0 G H σ δ ts u v Q T O I k=>?_⟩;unfold cz at g;split at g
 .rename_i a b;split at g
  .rename_i R;cases g;rw[Du]at O I;exact⟨a,b,O,I,GJ R,k _ _ _ (T.put (by rw[Du]))⟩
  .cases g
 .cases g
def EC:PD->PD->Option PD:=So jE (So di (So YI cz))
def DH:Eh X (binaryOp .Add) EC:=hJ.or (iA.or (gM.or gp))
def YU:PD->PD->Option PD:=fun x y=>match x,y with|.list a,.int k=>(if a.length*k.toNat<=C9/\-1000000<=k/\k<=1000000 then some (.list (List.replicate k.toNat a).flatten) else none)|_,_=>none
def An.rep{H:Hp}{ds:List PD}{xs:List V}(h:An H ds xs):∀n,An H (List.replicate n ds).flatten (List.replicate n xs).flatten
 |0=>.nil
 |n+1=>by rw[List.replicate_succ,List.replicate_succ,List.flatten_cons,List.flatten_cons];exact h.app (h.rep n)
def gO:Eh X (binaryOp .Mult) YU:=by
 refine⟨_,Ym,fun x y z g G0 H0 G H σ δ ts u v Q O U T k=>?_⟩;unfold YU at g;split at g
 .rename_i a n;split at g
  .rename_i Y;cases g;rw[Du]at U;rw[Du]at T;obtain⟨p,xs,rfl,Z,R⟩:=U;subst T;refine⟨p,n,xs,rfl,rfl,O.ins _ _ Z,by lia,by lia,GJ (by rw[R.len];exact Y.1),fun l I=>?_⟩;have R1:=O.newObj (o:=.lst (List.replicate n.toNat xs).flatten) I;refine k _ _ _ (R1.put ?_);rw[Du];have e:AJ G (upd G l (.lst (List.replicate n.toNat xs).flatten)):=fun a o h=>by
    have:=O.ins _ _ h;rw[AL (AU this I)];exact h
   exact⟨l,_,rfl,AN,(R.same e).rep _⟩
  .cases g
 .cases g
def K6:PD->PD->Option PD:=So X6 YU
def KZ:Eh X (binaryOp .Mult) K6:=iR.or gO
def Se{d:PD}(h:SeqAt.shaped d=true):d.canLay0=true:=by unfold SeqAt.shaped at h;rw[Bool.and_eq_true]at h;exact h.1
def EJ(neg:Bool):PD->PD->Option PD:=fun x y=>if SeqAt.shaped x=true/\SeqAt.shaped y=true then some (.bool (if neg then !PyData.eqv x y else PyData.eqv x y)) else none
def Zb{m:VL->VL->Sem VL}{neg:Bool}(R:C6 X m (eS X.K neg)):Eh X m (EJ neg):=by
 refine⟨_,R,fun x y z g G0 H0 G H σ δ ts u v Q O U T k=>?_⟩;unfold EJ at g;split at g
 .rename_i I;cases g;exact⟨x,y,(U.same O.ins).br (Se I.1),(T.same O.ins).br (Se I.2),I.1,I.2,k _ _ _ (O.put (by rw[Du]))⟩
 .cases g
def HW(g:X.A.units+64<cLine):Eh X (compareOp .Eq) (EJ false):=Zb (jj g)
def K3(g:X.A.units+64<cLine):Eh X (compareOp .NotEq) (EJ true):=Zb (mE g)
end
section
variable{X:Cx}{a b c e:Expr}{es:rg}{f g h:rQ}{pos p:Pos}
def Lm:PD->Option Bool
 |.bool b=>some b
 |_=>none
def Wr:PD->Option Int
 |.int b=>some b
 |_=>none
def NI{x:PD}{b:Bool}(h:Lm x=some b):x=.bool b:=by
 unfold Lm at h;split at h
 .cases h;rfl
 .cases h
def Z1{x:PD}{b:Int}(h:Wr x=some b):x=.int b:=by
 unfold Wr at h;split at h
 .cases h;rfl
 .cases h
def QS(ha:DE X a f):DE X (.UnaryOp .USub a pos) (fun δ=>(f δ).bind fun x=>(Wr x).map fun i=>.int (-i)):=by
 obtain⟨ta,O,R⟩:=ha;refine⟨_,YH UY O,fun δ z T G0 H0 G H σ ts Q R0 k=>?_⟩;obtain⟨x,Z,Y⟩:=aB.mp T;obtain⟨i,U,rfl⟩:=aC.mp Y;have:=Z1 U;subst this;refine R δ _ Z G0 H0 G H σ ts _ R0 fun u G1 H1 I=>?_;have:=I.Bh _ (.head _);rw[Du]at this;exact⟨i,this,k _ _ _ (I.drop.put (by rw[Du]))⟩
def jt(ha:DE X a f):DE X (.UnaryOp .Not a pos) (fun δ=>(f δ).bind fun x=>(Lm x).map fun i=>.bool (!i)):=by
 obtain⟨ta,O,R⟩:=ha;refine⟨_,kP O,fun δ z T G0 H0 G H σ ts Q R0 k=>?_⟩;obtain⟨x,Z,Y⟩:=aB.mp T;obtain⟨i,U,rfl⟩:=aC.mp Y;have:=NI U;subst this;refine R δ _ Z G0 H0 G H σ ts _ R0 fun u G1 H1 I=>?_;have:=I.Bh _ (.head _);rw[Du]at this;exact⟨i,this,k _ _ _ (I.drop.put (by rw[Du]))⟩
def RM{op}(ha:DE X a f):DE X (.BoolOp op [a] pos) f:=by
 obtain⟨R,I,O⟩:=ha;exact⟨_,lA I,O⟩
def Nm{rest:rg}(ha:DE X a f)(hb:DE X (.BoolOp .And (b::rest) pos) g):DE X (.BoolOp .And (a::b::rest) pos) (fun δ=>(f δ).bind fun x=>(Lm x).bind fun c=>if c=true then g δ else some (.bool false)):=by
 obtain⟨ta,Y,ka⟩:=ha;obtain⟨tb,U,Z⟩:=hb;refine⟨_,mn Y U,fun δ z hz G0 H0 G H σ ts Q R0 k=>?_⟩;obtain⟨x,h1,h2⟩:=aB.mp hz;obtain⟨i,h3,I⟩:=aB.mp h2;have:=NI h3;subst this;refine ka δ _ h1 G0 H0 G H σ ts _ R0 fun u G1 H1 R=>?_;have T:=R.Bh _ (.head _);rw[Du]at T;refine⟨i,T,?_⟩;split
 .rename_i O;rw[if_pos O]at I;exact Z δ z I G0 H0 G1 H1 σ ts Q R.drop k
 .rename_i O;rw[if_neg O]at I;cases I;exact k _ _ _ (R.drop.put (by rw[Du]))
variable{fa fb:rR}
def DW(X:Cx)(e:Expr)(f:rR):Prop:=∃t,PW X e t/\∀δ b,f δ=some b->∀G0 H0 G H σ ts (Q:Bool->Hp->Prop),Rw G0 H0 G H σ δ ts->(∀I H',Rw G0 H0 I H' σ δ ts->Q b H')->t σ H Q
def DW.dt(h:DW X e fa):DT X e fa:=let⟨t,p,k⟩:=h;⟨t,p.pt,k⟩
def Bm{op:CmpOp}{o:PD->PD->Option PD}(ho:Eh X (compareOp op) o)(ha:DE X a f)(hb:DE X b g)(hm:behindInMarks op b=false):DT X (.Compare a [op] [b] pos) (fun δ=>(Ax o f g δ).bind Lm):=by
 obtain⟨r,hr,U⟩:=ho;obtain⟨ta,T,Z⟩:=ha;obtain⟨tb,R,Y⟩:=hb;refine⟨_,Dk hr T R hm,fun δ z hz G0 H0 G H σ ts Q R0 k=>?_⟩;obtain⟨q,h0,h4⟩:=aB.mp hz;have:=NI h4;subst this;obtain⟨x,y,h1,h2,h3⟩:=two (x:=.none) (y:=.none) h0;refine Z δ x h1 G0 H0 G H σ ts _ R0 fun u G1 H1 R1=>?_;refine Y δ y h2 G0 H0 G1 H1 σ _ _ R1 fun v G2 H2 R2=>?_;refine U x y _ h3 G0 H0 G2 H2 σ δ ts u v _ (R2.drop.drop) (R2.Bh (x,u) (.tail _ (.head _))) (R2.Bh (y,v) (.head _)) fun w G3 H3 O=>?_;have I:=O.Bh _ (.head _);rw[Du]at I;exact⟨z,I,k _ _ O.drop⟩
def CF(ha : DE X e f)(he : ∀ whole,isTrue e X.env whole = (do let v <- whole; standAt e.pos; holding [v] (truthy v)):=by intro _; rfl):DT X e (fun δ => (f δ).bind Lm):=by
  obtain ⟨ta,pa,ka⟩:=ha
  refine ⟨_,i8 pa he,fun δ z hz G0 H0 G H σ ts Q R0 k => ?_⟩
  obtain ⟨q,h0,h4⟩:=aB.mp hz
  have:=NI h4; subst this
  refine ka δ _ h0 G0 H0 G H σ ts _ R0 fun u G1 H1 R1 => ?_
  have hu:=R1.Bh _ (.head _)
  rw [Du] at hu
  exact ⟨z,hu,k _ _ R1.drop⟩
def Cf(ha:DT X a fa):DT X (.UnaryOp .Not a pos) (fun δ=>(fa δ).map fun c=>!c):=by
 obtain⟨Z,I,O⟩:=ha;refine⟨_,lu I,fun δ z R G0 H0 G H σ ts Q Y k=>?_⟩;obtain⟨i,T,rfl⟩:=aC.mp R;exact O δ _ T G0 H0 G H σ ts _ Y fun G1 H1 U=>k _ _ U
def Dg{op:BoolOp}(ha:DT X a fa):DW X (.BoolOp op [a] pos) fa:=by
 obtain⟨R,I,O⟩:=ha;cases op
 .exact⟨_,f9 I,O⟩
 .exact⟨_,mG I,O⟩
def Yv{rest:rg}(ha:DT X a fa)(hb:DW X (.BoolOp .And (b::rest) pos) fb):DW X (.BoolOp .And (a::b::rest) pos) (fun δ=>(fa δ).bind fun c=>if c=true then fb δ else some false):=by
 obtain⟨ta,U,Z⟩:=ha;obtain⟨tb,T,Y⟩:=hb;refine⟨_,mw U T,fun δ z hz G0 H0 G H σ ts Q R0 k=>?_⟩;obtain⟨i,h3,I⟩:=aB.mp hz;refine Z δ _ h3 G0 H0 G H σ ts _ R0 fun G1 H1 R=>?_;split
 .rename_i O;rw[if_pos O]at I;exact Y δ z I G0 H0 G1 H1 σ ts Q R k
 .rename_i O;rw[if_neg O]at I;cases I;exact k _ _ R
def EW{rest:rg}(ha:DT X a fa)(hb:DW X (.BoolOp .Or (b::rest) pos) fb):DW X (.BoolOp .Or (a::b::rest) pos) (fun δ=>(fa δ).bind fun c=>if c=true then some true else fb δ):=by
 obtain⟨ta,U,Z⟩:=ha;obtain⟨tb,T,Y⟩:=hb;refine⟨_,oB U T,fun δ z hz G0 H0 G H σ ts Q R0 k=>?_⟩;obtain⟨i,h3,I⟩:=aB.mp hz;refine Z δ _ h3 G0 H0 G H σ ts _ R0 fun G1 H1 R=>?_;split
 .rename_i O;rw[if_pos O]at I;cases I;exact k _ _ R
 .rename_i O;rw[if_neg O]at I;exact Y δ z I G0 H0 G1 H1 σ ts Q R k
variable{fs:rP}
def AF:DA X [] (fun _=>some []):=⟨_,AY,fun δ xs h G0 H0 G H σ ts Q I k=>by cases h;exact k [] G H (by simpa using I) rfl⟩
def AA(ha:DE X e f)(Z:DA X es fs)(Y:starEach (e::es) X.env=(false,eval e X.env)::starEach es X.env:=by rfl):DA X (e::es) (fun δ=>(f δ).bind fun x=>(fs δ).map fun xs=>x::xs):=by
 obtain⟨ta,O,T⟩:=ha;obtain⟨tr,pr,R⟩:=Z;refine⟨_,AK O pr Y,fun δ z U G0 H0 G H σ ts Q R0 k=>?_⟩;obtain⟨x,h1,h2⟩:=aB.mp U;obtain⟨xs,h3,rfl⟩:=aC.mp h2;refine T δ x h1 G0 H0 G H σ ts _ R0 fun u G1 H1 R1=>?_;refine R δ xs h3 G0 H0 G1 H1 σ _ _ R1 fun vs G2 H2 R2 hl=>?_;refine k (u::vs) G2 H2 (R2.less fun q I=>?_) (by simp[hl]);simp only[List.zip_cons_cons,List.cons_append,List.mem_cons,List.mem_append]at I ⊢;rcases I with h|h|h
 .exact .inr (.inl h)
 .exact .inl h
 .exact .inr (.inr h)
def ZN{G:Hp}:∀ {xs:List PD} {vs:List V},vs.length=xs.length->(∀q∈xs.zip vs,Du G q.1 q.2)->An G xs vs
 |[],vs,I,_=>by rw[List.eq_nil_of_length_eq_zero I];exact .nil
 |x::xs,[],I,_=>by simp at I
 |x::xs,v::vs,I,h=>.cons (h (x,v) (by simp)) (ZN (by simpa using I) fun q O=>h q (by simp[O]))
def Rw.args{G0 H0 G H:Hp}{σ:St}{δ:Dv}{ts:List (PD×V)}{xs:rS}{vs:rq}(r:Rw G0 H0 G H σ δ (xs.zip vs++ts))(O:vs.length=xs.length):An G xs vs/\Rw G0 H0 G H σ δ ts :=
 ⟨ZN O fun q I=>r.Bh q (List.mem_append_left _ I),r.less fun q I=>aY _ I⟩
def Rw.N1{G0 H0 G H:Hp}{σ:St}{δ:Dv}{ts:List (PD×V)}{xs:rS}{vs:rq}{p:AD}(r:Rw G0 H0 G H σ δ ts)(d:An G xs vs)(I:H p=none):Rw G0 H0 (upd G p (.lst vs)) (upd H p (.lst vs)) σ δ ((.list xs,.ref p)::ts):=by
 refine(r.newObj I).put ?_;have e:AJ G (upd G p (.lst vs)):=fun a o h=>by rw[AL (AU (r.ins _ _ h) I)];exact h
 rw[Du];exact⟨p,vs,rfl,AN,d.same e⟩
def Rw.eR{G0 H0 G H:Hp}{σ:St}{δ:Dv}{ts:List (PD×V)}{xs:rS}{vs:rq}{p:AD}(r:Rw G0 H0 G H σ δ ts)(d:An G xs vs)(I:H p=none):Rw G0 H0 (upd G p (.tup vs)) (upd H p (.tup vs)) σ δ ((.tuple xs,.ref p)::ts):=by
 refine(r.newObj I).put ?_;have e:AJ G (upd G p (.tup vs)):=fun a o h=>by rw[AL (AU (r.ins _ _ h) I)];exact h
 rw[Du];exact⟨p,vs,rfl,AN,d.same e⟩
def IQ(xs:rS):rO:=if xs.length<=C9 then some xs else none
def QM{xs ys:rS}(h:IQ xs=some ys):xs=ys/\xs.length<=C9:=by
 unfold IQ at h;split at h
 .rename_i q;cases h;exact⟨rfl,q⟩
 .cases h
def A2{O}(ha:DA X es fs):DE X (.Tuple es O pos) (fun δ=>((fs δ).bind IQ).map .tuple):=by
 obtain⟨ta,R,T⟩:=ha;refine⟨_,Jn R,fun δ z U G0 H0 G H σ ts Q R0 k=>?_⟩;obtain⟨ys,h1,rfl⟩:=aC.mp U;obtain⟨xs,h2,h3⟩:=aB.mp h1;obtain⟨rfl,Z⟩:=QM h3;refine T δ _ h2 G0 H0 G H σ ts _ R0 fun vs G1 H1 R1 I=>?_;obtain⟨d,R2⟩:=R1.args I;exact⟨GJ (by rw[I];exact Z),fun q Y=>k _ _ _ (R2.eR d Y)⟩
def BM(ha:DA X es fs):DE X (.List es pos) (fun δ=>((fs δ).bind IQ).map .list):=by
 obtain⟨ta,O,R⟩:=ha;refine⟨_,FX O,fun δ z T G0 H0 G H σ ts Q R0 k=>?_⟩;obtain⟨ys,h1,rfl⟩:=aC.mp T;obtain⟨xs,h2,Z⟩:=aB.mp h1;obtain⟨rfl,Y⟩:=QM Z;refine R δ _ h2 G0 H0 G H σ ts _ R0 fun vs G1 H1 R1 I=>?_;obtain⟨d,R2⟩:=R1.args I;exact⟨GJ (by rw[I];exact Y),fun q U=>k _ _ _ (R2.N1 d U)⟩
def An.GW{H:Hp}{ds:rS}{xs:rq}{i:Int}{d:PD}(h:An H ds xs)(e:GW ds i=some d):∃v,GW xs i=some v/\Du H d v:=by
 unfold L2.GW at e ⊢;rw[h.len];obtain⟨j,T,R⟩:=aB.mp e;obtain⟨v,O,I⟩:=h.get R;exact⟨v,by rw[T];exact O,I⟩
def S5{G:Hp}:∀ns:List Int,An G (ns.map .int) (ns.map V.int)
 |[]=>.nil
 |n::ns=>.cons (by rw[Du]) (S5 ns)
def Ge:PD->PD->Option PD:=fun x y=>match x,y with
 |.list xs,.int i=>GW xs i
 |.tuple xs,.int i=>GW xs i
 |.dict [(.none,.list xs)],.int i=>GW xs i
 |.str z,.int i=>if z.length<=C9 then(GW z.cps.toList i).map fun c=>.str ⟨#[c]⟩ else none
 |_,_=>none
def Ek(ha:DE X a f)(hb:DE X b g)(hs:Wt b):DE X (.Subscript a b pos) (Ax Ge f g):=by
 obtain⟨ta,pa,ka⟩:=ha;obtain⟨tb,pb,kb⟩:=hb;refine⟨_,IJ mP pa pb hs,fun δ z hz G0 H0 G H σ ts Q R0 k=>?_⟩;obtain⟨x,y,h1,h2,I⟩:=two (x:=.none) (y:=.none) hz;refine ka δ x h1 G0 H0 G H σ ts _ R0 fun u G1 H1 R1=>?_;refine kb δ y h2 G0 H0 G1 H1 σ _ _ R1 fun v G2 H2 R2=>?_;have R:=R2.Bh (x,u) (.tail _ (.head _));have O:=R2.Bh (y,v) (.head _);unfold Ge at I;split at I
 .rw[Du]at R;rw[Du]at O;obtain⟨p,xs,rfl,Y,Z⟩:=R;obtain⟨w,T,U⟩:=Z.GW I;exact .inl ⟨p,xs,_,w,rfl,O,Al.of (R2.ins _ _ Y),T,k _ _ _ (R2.drop.drop.put U)⟩
 .rw[Du]at R;rw[Du]at O;obtain⟨p,xs,rfl,Y,Z⟩:=R;obtain⟨w,T,U⟩:=Z.GW I;exact .inr (.inl ⟨p,xs,_,w,rfl,O,BC.of (R2.ins _ _ Y),T,k _ _ _ (R2.drop.drop.put U)⟩)
 .rw[Du]at R;rw[Du]at O;rcases R with ⟨ea,C,e1,_⟩|⟨p,ns,e1,rfl,Y⟩|z
  rotate_left 2
  .rw[LO]at z;cases z.1
  .simp at e1
  .obtain rfl:_=ns.map PyData.int:=by simpa using e1
   obtain⟨w,T,U⟩:=(S5 (G:=_) ns).GW I;exact .inl ⟨p,_,_,w,rfl,O,.inl (Y.same R2.ins),T,k _ _ _ (R2.drop.drop.put U)⟩
 .rw[Du]at R;rw[Du]at O;split at I
  .rename_i hl;obtain⟨ch,T,rfl⟩:=aC.mp I;exact .inr (.inr ⟨_,_,ch,R,O,GJ hl,T,k _ _ _ (R2.drop.drop.put (by rw[Du]))⟩)
  .cases I
 .cases I
end
def BH(g:MD):Sp:=fun vs H Q _=>∃O x G,g O=some x/\An G O vs/\AJ G H/\∀v I H',AJ G I->Nw G H I->AJ I H'->AJ H H'->Du I x v->Q v H'
section
variable{X:Cx}{a e:Expr}{es:rg}{f h:rQ}{fs:rP}{pos p:Pos}
def Ag{k:Nat}{O:AD}{fd:FuncData}{ps:rf}{m:MD}{x:Str}{st:Stmt}(T:Fn X.K X.mg x st ps O fd)(F:AI X.prog X.w X.K X.mg X.base Aa k O fd ps (BH m))(hr:CG k X.A)(hg:Gl X x)(ha:DA X (e::es) fs) (I:(x==("__debug__" : Str))=false:=by decide)(he:starEach (e::es) X.env=(false,eval e X.env)::starEach es X.env:=by rfl)(g:(backTo pos (starEach es X.env)).any (·.1)=false:=by rfl):DE X (.Call (.Name x p) (e::es) [] pos) (fun δ=>(fs δ).bind m):=by
 obtain⟨ta,R,U⟩:=ha;refine⟨_,Cu T F hr hg R I he g,fun δ z Y G0 H0 G H σ ts Q R0 k=>?_⟩;obtain⟨xs,h1,h2⟩:=aB.mp Y;refine U δ _ h1 G0 H0 G H σ ts _ R0 fun vs G1 H1 R1 Z=>?_;obtain⟨d,R2⟩:=R1.args Z;refine⟨xs,z,G1,h2,by rw[List.append_nil];exact d,R2.ins,fun v G' H' h3 h4 h5 h6 h7=>?_⟩;exact k _ _ _ ((R2.lift h3 h4 h5 h6).put h7)
def L4(X:Cx)(v:VL)(o:MD):Prop:=∃r,D4 X v r/\∀xs z,o xs=some z->∀G0 H0 G H σ δ ts us (Q:VK),Rw G0 H0 G H σ δ ts->An G xs us->(∀w g H',Rw G0 H0 g H' σ δ ((z,w)::ts)->Q w H')->r us H Q
def B6{x:Str}{id:String}{o:MD}(hc:L4 X (.builtin id) o)(hg:Gl X x)(hm:X.mg x=none)(g:bootBuiltins x=some (.builtin id))(ha:DA X (e::es) fs)(hn:x ≠ "__name__":=by decide)(O:(x==("__debug__" : Str))=false:=by decide) (he:starEach (e::es) X.env=(false,eval e X.env)::starEach es X.env:=by rfl)(I:(backTo pos (starEach es X.env)).any (·.1)=false:=by rfl):DE X (.Call (.Name x p) (e::es) [] pos) (fun δ=>(fs δ).bind o):=by
 obtain⟨r,Z,T⟩:=hc;obtain⟨ta,R,U⟩:=ha;refine⟨_,Ct Z hg hm g R hn O he I,fun δ z Y G0 H0 G H σ ts Q R0 k=>?_⟩;obtain⟨xs,h1,h2⟩:=aB.mp Y;refine U δ _ h1 G0 H0 G H σ ts _ R0 fun vs G1 H1 R1 g=>?_;obtain⟨d,R2⟩:=R1.args g;exact T xs z h2 G0 H0 G1 H1 σ δ ts vs Q R2 d k
def Kr{x:Str}{T:String}{o:MD}(hc:L4 X (.type T) o)(hg:Gl X x)(hm:X.mg x=none)(g:bootBuiltins x=some (.type T))(ha:DA X (e::es) fs)(hn:x ≠ "__name__":=by decide)(O:(x==("__debug__" : Str))=false:=by decide) (he:starEach (e::es) X.env=(false,eval e X.env)::starEach es X.env:=by rfl)(I:(backTo pos (starEach es X.env)).any (·.1)=false:=by rfl):DE X (.Call (.Name x p) (e::es) [] pos) (fun δ=>(fs δ).bind o):=by
 obtain⟨r,hr,U⟩:=hc;obtain⟨ta,R,Y⟩:=ha;refine⟨_,Ny hr hg hm g R hn O he I,fun δ z Z G0 H0 G H σ ts Q R0 k=>?_⟩;obtain⟨xs,h1,h2⟩:=aB.mp Z;refine Y δ _ h1 G0 H0 G H σ ts _ R0 fun vs G1 H1 R1 g=>?_;obtain⟨d,R2⟩:=R1.args g;exact U xs z h2 G0 H0 G1 H1 σ δ ts vs Q R2 d k
def An.J3{H:Hp}{d:PD}{xs:rq}(h:An H [d] xs):∃x,xs=[x]/\Du H d x:=by
 obtain⟨x,r,rfl,I,g⟩:=h.un;rw[g.nil_eq];exact⟨x,rfl,I⟩
def An.Va{H:Hp}{d e:PD}{xs:rq}(h:An H [d,e] xs):∃x y,xs=[x,y]/\Du H d x/\Du H e y:=by
 obtain⟨x,r,rfl,O,I⟩:=h.un;obtain⟨y,rfl,g⟩:=I.J3;exact⟨x,y,rfl,O,g⟩
def FT:MD
 |[.list xs]=>some (.int xs.length)
 |[.tuple xs]=>some (.int xs.length)
 |[.dict [(.none,.list xs)]]=>some (.int xs.length)
 |_=>none
def Ea:L4 X (.builtin "len") FT:=by
 refine⟨_,HK,fun xs z I G0 H0 G H σ δ ts us Q O d k=>?_⟩;unfold FT at I;split at I
 .cases I;obtain⟨u,rfl,g⟩:=d.J3;rw[Du]at g;obtain⟨p,ys,rfl,R,T⟩:=g;refine⟨p,ys,rfl,.inl (Al.of (O.ins _ _ R)),?_⟩;rw[T.len];exact k _ _ _ (O.put (by rw[Du]))
 .cases I;obtain⟨u,rfl,g⟩:=d.J3;rw[Du]at g;obtain⟨p,ys,rfl,R,T⟩:=g;refine⟨p,ys,rfl,.inr (BC.of (O.ins _ _ R)),?_⟩;rw[T.len];exact k _ _ _ (O.put (by rw[Du]))
 .cases I;obtain⟨u,rfl,g⟩:=d.J3;rw[Du]at g;rcases g with ⟨ea,C,U,_⟩|⟨p,ns,U,rfl,R⟩|z
  rotate_left 2
  .rw[LO]at z;cases z.1
  .simp at U
  .obtain rfl:_=ns.map PyData.int:=by simpa using U
   refine⟨p,_,rfl,.inl (.inl (R.same O.ins)),?_⟩;rw[List.length_map]at k ⊢;exact k _ _ _ (O.put (by rw[Du]))
 .cases I
def MC:MD
 |[.list xs]=>some (.tuple xs)
 |[.tuple xs]=>some (.tuple xs)
 |_=>none
def Uj:L4 X (.type "tuple") MC:=by
 refine⟨_,TZ,fun xs z I G0 H0 G H σ δ ts us Q O d k=>?_⟩;unfold MC at I;split at I
 .cases I;obtain⟨u,rfl,g⟩:=d.J3;rw[Du]at g;obtain⟨p,ys,rfl,R,U⟩:=g;exact⟨p,ys,rfl,.inl ⟨Al.of (O.ins _ _ R),fun l Y=>k _ _ _ (O.eR U Y)⟩⟩
 .cases I;obtain⟨u,rfl,g⟩:=d.J3;have T:=g;rw[Du]at g;obtain⟨p,ys,rfl,R,U⟩:=g;exact⟨p,ys,rfl,.inr ⟨BC.of (O.ins _ _ R),k _ _ _ (O.put T)⟩⟩
 .cases I
def JV:MD
 |[.list xs]=>some (.list xs)
 |[.tuple xs]=>some (.list xs)
 |_=>none
def WR:L4 X (.type "list") JV:=by
 refine⟨_,UM,fun xs z g G0 H0 G H σ δ ts us Q O d k=>?_⟩;unfold JV at g;split at g
 .cases g;obtain⟨u,rfl,I⟩:=d.J3;rw[Du]at I;obtain⟨p,ys,rfl,U,T⟩:=I;exact⟨p,ys,rfl,.inl (Al.of (O.ins _ _ U)),fun l R=>k _ _ _ (O.N1 T R)⟩
 .cases g;obtain⟨u,rfl,I⟩:=d.J3;rw[Du]at I;obtain⟨p,ys,rfl,U,T⟩:=I;exact⟨p,ys,rfl,.inr (BC.of (O.ins _ _ U)),fun l R=>k _ _ _ (O.N1 T R)⟩
 .cases g
def Du.ty{K:Fg}{H:Hp}:∀ {d:PD} {v:V},(∀g,d≠.dict g)->Du H d v->HM K H v (.type (RT d))/\∀g,d≠.dict g
 |.none,_,_,h=>by rw[Du]at h;subst h;exact⟨.BP,by simp⟩
 |.bool _,_,_,h=>by rw[Du]at h;subst h;exact⟨.bl _,by simp⟩
 |.int _,_,_,h=>by rw[Du]at h;subst h;exact⟨.int _,by simp⟩
 |.str _,_,_,h=>by rw[Du]at h;subst h;exact⟨.str _,by simp⟩
 |.tuple _,_,_,h=>by rw[Du]at h;obtain⟨a,xs,rfl,I,_⟩:=h;exact⟨.tup I,by simp⟩
 |.list _,_,_,h=>by rw[Du]at h;obtain⟨a,xs,rfl,I,_⟩:=h;exact⟨.lst I,by simp⟩
 |.dict _,_,n,h=>absurd rfl (n _)
def XY(q:PD->Bool):PD->Option PD
 |.dict _=>none
 |x=>some (.bool (q x))
def i6{q:PD->Bool}{x z:PD}(h:XY q x=some z):(∀g,x≠.dict g)/\z=.bool (q x):=by
 unfold XY at h;split at h
 .cases h
 .rename_i n;cases h;exact⟨fun g e=>n g e,rfl⟩
def Ew{T:String}{q:PD->Bool}{g:Str}{p1 I:Pos}(hk:∀d:PD,(∀kv,d≠.dict kv)->PySem.W.kitOne X.K (.type (RT d)) (.type T)=some (q d))(hg:Gl X "isinstance")(hm:X.mg "isinstance" = none)(hgT:Gl X g)(Z:X.mg g=none)(R:bootBuiltins g=some (.type T))(ha:DE X a f) (Y:g ≠ "__name__":=by decide)(hdT:(g==("__debug__" : Str))=false:=by decide)(O:starEach [a,.Name g I] X.env=(false,eval a X.env)::starEach [.Name g I] X.env:=by rfl)(U:(backTo pos (starEach [.Name g I] X.env)).any (·.1)=false:=by rfl):DE X (.Call (.Name "isinstance" p1) [a,.Name g I] [] pos) (fun δ=>(f δ).bind (XY q)):=by
 obtain⟨ta,pa,ka⟩:=ha;have pT:PE X (.Name g I) (tC (.ty T)):=gL hgT Z R rfl Y hdT;refine⟨_,Ct cf hg hm PyProof.Rows.boot_isinstance (AK pa (AK pT AY) O) (by decide) (by decide) O U,fun δ z hz G0 H0 G H σ ts Q R0 k=>?_⟩;obtain⟨x,h1,h2⟩:=aB.mp hz;obtain⟨n1,rfl⟩:=i6 h2;refine ka δ _ h1 G0 H0 G H σ ts _ R0 fun u G1 H1 R1=>?_;have du:=R1.Bh _ (.head _);obtain⟨t1,t2⟩:=(du.same R1.ins).ty (K:=X.K) n1;exact⟨u,.ty T,_,q x,rfl,by simp[HC],t1,hk x t2,k _ _ _ (R1.drop.put (by rw[Du]))⟩
end
inductive Ou where
 |nx (δ:Dv)|rt (x:PyData)|bk (δ:Dv)|ct (δ:Dv)|rn (xs:List PyData)
def Fin(G0 H0:Hp)(D:Ends):Ou->Prop
 |.nx δ=>∀σ G H,Rw G0 H0 G H σ δ []->D.nx σ H
 |.rt x=>∀v G H,AJ G0 G->Nw G0 H0 G->AJ G H->AJ H0 H->Du G x v->D.rt v H
 |.bk δ=>∀σ G H,Rw G0 H0 G H σ δ []->D.bk σ H
 |.ct δ=>∀σ G H,Rw G0 H0 G H σ δ []->D.ct σ H
 |.rn xs=>∀a ys G H,AJ G0 G->Nw G0 H0 G->AJ G H->AJ H0 H->H0 a=none->G a=none->H a=some (.lst ys)->An G xs ys->D.rt (.ref a) H
abbrev DF:=Dv->Option Ou
def DS(X:Cx)(st:Stmt)(F:DF):Prop:=∃t,PS X st t/\∀δ r,F δ=some r->∀G0 H0 G H σ D,Rw G0 H0 G H σ δ []->Fin G0 H0 D r->t D σ H
def Lx(X:Cx)(st:sD)(F:DF):Prop:=∃t,GV X st t/\∀δ r,F δ=some r->∀G0 H0 G H σ D,Rw G0 H0 G H σ δ []->Fin G0 H0 D r->t D σ H
def Au(O I:DF)(δ:Dv):Option Ou:=match O δ with
 |some (.nx g)=>I g
 |o=>o
section
variable{X:Cx}{c e:Expr}{f h:rQ}{fa:rR}{pos p:Pos}{st:Stmt}{sts sts':sD}{F1 F2:DF}
def Bu:Lx X [] (fun δ=>some (.nx δ)):=⟨_,EL,fun δ r h G0 H0 G H σ D R k=>by cases h;exact k _ _ _ R⟩
def AQ(h1:DS X st F1)(h2:Lx X sts F2):Lx X (st::sts) (Au F1 F2):=by
 obtain⟨t1,Y,T⟩:=h1;obtain⟨t2,U,Z⟩:=h2;refine⟨_,AX Y U,fun δ r h G0 H0 G H σ D R k=>?_⟩;unfold Au at h;split at h
 .rename_i g e1;exact T δ _ e1 G0 H0 G H σ _ R fun I G' H' R'=>Z g r h G0 H0 G' H' I D R' k
 .rename_i O;refine T δ r h G0 H0 G H σ _ R ?_;cases r with
  |nx g=>exact absurd h (O g)
  |rt x=>exact k
  |bk g=>exact k
  |ct g=>exact k
  |rn xs=>exact k
def AO(O:DS X st F1):Lx X [st] F1:=by
 obtain⟨t1,g,I⟩:=O;exact⟨_,A3 g,I⟩
def gE:DS X (.Continue pos) (fun δ=>some (.ct δ)):=⟨_,V9,fun δ r h G0 H0 G H σ D R k=>by cases h;exact k _ _ _ R⟩
def Av(I:DE X e f):DS X (.Return (some e) pos) (fun δ=>(f δ).map .rt):=by
 obtain⟨t,p,k⟩:=I;refine⟨_,Ca p,fun δ r h G0 H0 G H σ D R q=>?_⟩;obtain⟨x,O,rfl⟩:=aC.mp h;exact k δ x O G0 H0 G H σ [] _ R fun v T H' g=>q v T H' g.ext g.new g.ins g.keep (g.Bh _ (.head _))
def gu(I:DE X e f)(g:swapsWith e none pos.line X.env=pure false:=by rfl):DS X (.Expr e pos) (fun δ=>(f δ).map fun _=>.nx δ):=by
 obtain⟨t,p,k⟩:=I;refine⟨_,DJ p g,fun δ r h G0 H0 G H σ D R q=>?_⟩;obtain⟨x,O,rfl⟩:=aC.mp h;exact k δ x O G0 H0 G H σ [] _ R fun v U H' T=>q _ _ _ T.drop
def DP(g:DT X c fa)(h1:Lx X sts F1)(h2:Lx X sts' F2):DS X (.If c sts sts' pos) (fun δ=>(fa δ).bind fun c=>if c=true then F1 δ else F2 δ):=by
 obtain⟨tc,pc,Z⟩:=g;obtain⟨t1,Y,k1⟩:=h1;obtain⟨t2,U,k2⟩:=h2;refine⟨_,Gi pc Y U,fun δ r h G0 H0 G H σ D R q=>?_⟩;obtain⟨i,h3,I⟩:=aB.mp h;refine Z δ i h3 G0 H0 G H σ [] _ R fun T H' O=>?_;split
 .rename_i g;rw[if_pos g]at I;exact k1 δ r I G0 H0 T H' σ D O q
 .rename_i g;rw[if_neg g]at I;exact k2 δ r I G0 H0 T H' σ D O q
end
section
variable{G0 H0 G H:Hp}{σ:St}{δ:Dv}{ts:List (PD×V)}
def Rw.Gm{i:Nat}{x:PD}{v:V}(r:Rw G0 H0 G H σ δ ((x,v)::ts)):Rw G0 H0 G H (σ.set i (some v)) (δ.set i (.d x)) ts:=by
 have hl:=r.len;refine⟨r.ext,r.new,r.ins,r.keep,by simp[hl],fun j y h=>?_,fun j ys h=>?_,fun j l ys Y U O I=>?_,fun q hq=>r.Bh q (.tail _ hq)⟩
 .by_cases g:i=j
  .subst g;by_cases hi:i<δ.length
   .rw[List.getElem?_set_self hi]at h;cases h;exact⟨v,by rw[List.getElem?_set_self (by lia)],r.Bh _ (.head _)⟩
   .rw[List.getElem?_eq_none (by simp;lia)]at h;cases h
  .rw[List.getElem?_set_ne g]at h;obtain⟨w,T,R⟩:=r.dat j y h;exact⟨w,by rw[List.getElem?_set_ne g];exact T,R⟩
 .by_cases g:i=j
  .subst g;by_cases hi:i<δ.length
   .rw[List.getElem?_set_self hi]at h;cases h
   .rw[List.getElem?_eq_none (by simp;lia)]at h;cases h
  .rw[List.getElem?_set_ne g]at h;obtain⟨w,T,R,k3⟩:=r.own j ys h;exact⟨w,T,by rw[List.getElem?_set_ne g];exact R,k3⟩
 .have Z:i≠j:=fun z=>by
   subst z;by_cases hi:i<δ.length
   .rw[List.getElem?_set_self hi]at O;cases O
   .rw[List.getElem?_eq_none (by simp;lia)]at O;cases O
  have nl:i≠l:=fun z=>by
   subst z;by_cases hi:i<δ.length
   .rw[List.getElem?_set_self hi]at I;cases I
   .rw[List.getElem?_eq_none (by simp;lia)]at I;cases I
  rw[List.getElem?_set_ne Z]at O ⊢;rw[List.getElem?_set_ne nl]at I ⊢;exact r.apart j l ys Y U O I
end
section
variable{X:Cx}{e:Expr}{f:rQ}{pos p:Pos}
def Bz{i:Nat}{x:Str}{g:Pos}(Y:X.N.Nodup)(hi:X.N[i]? = some x)(I:Loc X.env.scope x)(U:DE X e f)(O:swapsWith e (some (.Name x g)) pos.line X.env=pure false:=by rfl)(T:X.fn x=true\/X.env.scope.names.lookup x=some .local:=by first|exact .inl rfl|exact .inr rfl|assumption):DS X (.Assign [.Name x g] e pos) (fun δ=>(f δ).map fun y=>.nx (δ.set i (.d y))):=by
 obtain⟨t,p,k⟩:=U;refine⟨_,A8 Y hi I p O T,fun δ r h G0 H0 G H σ D R q=>?_⟩;obtain⟨y,Z,rfl⟩:=aC.mp h;exact k δ y Z G0 H0 G H σ [] _ R fun v G' H' R'=>q _ _ _ R'.Gm
end
section
variable{G0 H0 G H:Hp}{σ:St}{δ:Dv}{ts:List (PD×V)}
def Rw.base(r:Rw G0 H0 G H σ δ ts):Rw G H0 G H σ δ ts:={r with ext:=AJ.refl G,new:=fun _ _ h=>.inl h}
def Nw.trans{I g:Hp}(a:Nw G0 H0 I)(b:Nw I H0 g):Nw G0 H0 g:=fun c o h=>by
 rcases b c o h with z|z|z
 .exact a c o z
 .exact .inr (.inl z)
 .exact .inr (.inr z)
def Rw.Q0{O H':Hp}{g:St}{δ':Dv}{I:List (PD×V)}(r:Rw G0 H0 G H σ δ ts)(q:Rw G H0 O H' g δ' I):Rw G0 H0 O H' g δ' I:={q with ext:=r.ext.trans q.ext,new:=r.new.trans q.new}
def Fv(i:Nat)(δ:Dv):Dv:=match δ[i]? with
 |some (.own (.lst xs))=>δ.set i (.d (.list xs))
 |some (.own (.U1 kvs))=>δ.set i (.d (Tw kvs))
 |_=>δ
def Rw.letGo{i:Nat}{c:Oc}{x:PD}(r:Rw G0 H0 G H σ δ ts)(hi:δ[i]? = some (.own c))(hx:∀a o,G a=none->Hn G a c o->Du (upd G a o) x (.ref a)):∃a o,σ[i]? = some (some (.ref a))/\G a=none/\H0 a=none/\H a=some o/\Hn G a c o/\Rw G0 H0 (upd G a o) H σ (δ.set i (.d x)) ts:=by
 obtain⟨a,o,Z,Y,k3,k4,k5⟩:=r.own i _ hi;have e:AJ G (upd G a o):=Ac Y _;have g:i<δ.length:=(aG.mp hi).1;refine⟨a,o,Z,Y,k3,k4,k5,r.ext.trans e,fun b o' h=>?_,fun b o' h=>?_,r.keep,by simp[r.len],fun j y h=>?_,fun j zs h=>?_,fun j l us ws hjl T R=>?_,fun q hq=>(r.Bh q hq).same e⟩
 .by_cases hb:b=a
  .subst hb;exact .inr (.inl k3)
  .rw[AL hb]at h;exact r.new _ _ h
 .by_cases hb:b=a
  .subst hb;rw[AN]at h;rw[k4];exact h
  .rw[AL hb]at h;exact r.ins _ _ h
 .by_cases I:i=j
  .subst I;rw[List.getElem?_set_self g]at h;cases h;exact⟨.ref a,Z,hx a o Y k5⟩
  .rw[List.getElem?_set_ne I]at h;obtain⟨w,O,U⟩:=r.dat j y h;exact⟨w,O,U.same e⟩
 .by_cases I:i=j
  .subst I;rw[List.getElem?_set_self g]at h;cases h
  .rw[List.getElem?_set_ne I]at h;obtain⟨b,us,O,U,m3,m4,m5⟩:=r.own j zs h;have nb:b≠a:=fun z=>by subst z;exact r.apart i j _ zs I hi h (by rw[Z,O])
   exact⟨b,us,O,by rw[AL nb];exact U,m3,m4,m5.same e⟩
 .have nj:i≠j:=fun z=>by subst z;rw[List.getElem?_set_self g]at T;cases T
  have nl:i≠l:=fun z=>by subst z;rw[List.getElem?_set_self g]at R;cases R
  rw[List.getElem?_set_ne nj]at T;rw[List.getElem?_set_ne nl]at R;exact r.apart j l us ws hjl T R
def mQ{a:AD}{o:HO}{xs:rS}(I:G a=none)(h:Hn G a (.lst xs) o):Du (upd G a o) (.list xs) (.ref a):=by
 obtain⟨ys,rfl,g⟩:=h;rw[Du];exact⟨a,ys,rfl,AN,g.same (Ac I _)⟩
def l7{a:AD}{o:HO}{kvs:List (Option Tr×PD)}(I:G a=none)(h:Hn G a (.U1 kvs) o):Du (upd G a o) (Tw kvs) (.ref a):=by
 obtain⟨r,rfl,n,g⟩:=h;rw[Du,LO];exact .inr (.inr ⟨rfl,rfl,a,r,rfl,AN,n,Lr.same (Ac I _) g⟩)
def Rw.Fv(i:Nat)(r:Rw G0 H0 G H σ δ ts):∃g,Rw G0 H0 g H σ (L2.Fv i δ) ts:=by
 unfold L2.Fv;split
 .rename_i xs hi;obtain⟨a,o,_,_,_,_,_,R⟩:=r.letGo (x:=.list xs) hi fun a o h=>mQ h;exact⟨_,R⟩
 .rename_i kvs hi;obtain⟨a,o,_,_,_,_,_,R⟩:=r.letGo (x:=Tw kvs) hi fun a o h=>l7 h;exact⟨_,R⟩
 .exact⟨G,r⟩
def Rw.mm{i:Nat}{xs:Oc}{ys:HO}{a:AD}(r:Rw G0 H0 G H σ δ ts)(d:Hn G a xs ys)(ha:H a=none):Rw G0 H0 G (upd H a ys) (σ.set i (some (.ref a))) (δ.set i (.own xs)) ts:=by
 have hG:G a=none:=by
  cases q:G a with
  |none=>rfl
  |some u=>rw[r.ins _ _ q]at ha;cases ha
 have h0:H0 a=none:=by
  cases q:H0 a with
  |none=>rfl
  |some u=>rw[r.keep _ _ q]at ha;cases ha
 have e:AJ H (upd H a ys):=Ac ha _;have hl:=r.len;have other:∀(j:Nat) (I:Oc),i≠j->(δ.set i (.own xs))[j]? = some (L.own I)->δ[j]? = some (L.own I):=fun j I g h=>by rw[List.getElem?_set_ne g]at h;exact h
 have O:∀(j:Nat) (I:Oc),δ[j]? = some (L.own I)->σ[j]?≠some (some (V.ref a)):=fun j I h z=>by
  obtain⟨b,us,T,m2,m3,m4,m5⟩:=r.own j I h;rw[z]at T;cases T;rw[m4]at ha;cases ha
 refine⟨r.ext,r.new,r.ins.trans e,r.keep.trans e,by simp[hl],fun j y h=>?_,fun j I h=>?_,fun j l us ws Z U R=>?_,r.Bh⟩
 .by_cases g:i=j
  .subst g;by_cases hi:i<δ.length
   .rw[List.getElem?_set_self hi]at h;cases h
   .rw[List.getElem?_eq_none (by simp;lia)]at h;cases h
  .rw[List.getElem?_set_ne g]at h;obtain⟨w,T,m2⟩:=r.dat j y h;exact⟨w,by rw[List.getElem?_set_ne g];exact T,m2⟩
 .by_cases g:i=j
  .subst g;by_cases hi:i<δ.length
   .rw[List.getElem?_set_self hi]at h;cases h;exact⟨a,ys,by rw[List.getElem?_set_self (by lia)],hG,h0,AN,d⟩
   .rw[List.getElem?_eq_none (by simp;lia)]at h;cases h
  .have h:=other j I g h;obtain⟨b,us,T,m2,m3,m4,m5⟩:=r.own j I h;exact⟨b,us,by rw[List.getElem?_set_ne g];exact T,m2,m3,e _ _ m4,m5⟩
 .by_cases g:i=j
  .subst g;have Y:i≠l:=Z;have R:=other l ws Y R;by_cases hi:i<δ.length
   .rw[List.getElem?_set_self (by lia),List.getElem?_set_ne Y];exact fun z=>O l ws R z.symm
   .rw[List.getElem?_eq_none (by simp;lia)]at U;cases U
  .have U:=other j us g U;by_cases hk:i=l
   .subst hk;by_cases hi:i<δ.length
    .rw[List.getElem?_set_self (by lia),List.getElem?_set_ne g];exact fun z=>O j us U z
    .rw[List.getElem?_eq_none (by simp;lia)]at R;cases R
   .have R:=other l ws hk R;rw[List.getElem?_set_ne g,List.getElem?_set_ne hk];exact r.apart j l us ws Z U R
def Rw.Xg{i:Nat}{xs I:Oc}{ys:HO}{a:AD}(r:Rw G0 H0 G H σ δ ts)(hi:δ[i]? = some (.own xs))(ha:σ[i]? = some (some (.ref a)))(d:Hn G a I ys):Rw G0 H0 G (upd H a ys) σ (δ.set i (.own I)) ts:=by
 obtain⟨a',ys0,k1,k2,k3,k4,k5⟩:=r.own i xs hi;rw[ha]at k1;cases k1;have R:i<δ.length:=(aG.mp hi).1;have hl:=r.len;refine⟨r.ext,r.new,fun b o h=>?_,fun b o h=>?_,by simp[hl],fun j y h=>?_,fun j zs h=>?_,fun j l us ws U Z Y=>?_,r.Bh⟩
 .rw[AL (fun z=>by subst z;rw[k2]at h;cases h)];exact r.ins _ _ h
 .rw[AL (fun z=>by subst z;rw[k3]at h;cases h)];exact r.keep _ _ h
 .by_cases g:i=j
  .subst g;rw[List.getElem?_set_self R]at h;cases h
  .rw[List.getElem?_set_ne g]at h;exact r.dat j y h
 .by_cases g:i=j
  .subst g;rw[List.getElem?_set_self R]at h;cases h;exact⟨a,ys,ha,k2,k3,AN,d⟩
  .rw[List.getElem?_set_ne g]at h;obtain⟨b,us,m1,m2,m3,m4,m5⟩:=r.own j zs h;have nb:b≠a:=fun z=>by subst z;exact r.apart i j xs zs g hi h (by rw[ha,m1])
   exact⟨b,us,m1,m2,m3,by rw[AL nb];exact m4,m5⟩
 .have f:∀(j:Nat) (us:Oc),(δ.set i (.own I))[j]? = some (L.own us)->∃O,δ[j]? = some (L.own O):=fun j us h=>by
   by_cases g:i=j
   .subst g;exact⟨xs,hi⟩
   .rw[List.getElem?_set_ne g]at h;exact⟨us,h⟩
  obtain⟨O,Z⟩:=f j us Z;obtain⟨T,Y⟩:=f l ws Y;exact r.apart j l O T U Z Y
end
section
variable{X:Cx}{a b e:Expr}{es:rg}{f h:rQ}{fs:rP}{pos p:Pos}{st:Stmt}{F:DF}
def ZG(i:Nat)(g:DS X st F):DS X st (fun δ=>F (Fv i δ)):=by
 obtain⟨t,p,k⟩:=g;refine⟨t,p,fun δ r h G0 H0 G H σ D R q=>?_⟩;obtain⟨O,I⟩:=R.Fv i;exact k _ r h G0 H0 O H σ D I q
def QG{i:Nat}{x:Str}{g O:Pos}(hN:X.N.Nodup)(hi:X.N[i]? = some x)(U:Loc X.env.scope x)(ha:DA X es fs)(Y:swapsWith (.List es O) (some (.Name x g)) pos.line X.env=pure false:=by rfl)(hf:X.fn x=true\/X.env.scope.names.lookup x=some .local:=by first|exact .inl rfl|exact .inr rfl|assumption):DS X (.Assign [.Name x g] (.List es O) pos) (fun δ=>((fs δ).bind IQ).map fun ys=>.nx (δ.set i (.own (.lst ys)))):=by
 obtain⟨t,p,k⟩:=ha;refine⟨_,A8 hN hi U (FX p) Y hf,fun δ r h G0 H0 G H σ D R q=>?_⟩;obtain⟨y,h1,rfl⟩:=aC.mp h;obtain⟨xs,h2,h3⟩:=aB.mp h1;obtain⟨rfl,Z⟩:=QM h3;refine k δ _ h2 G0 H0 G H σ [] _ R fun vs G1 H1 R1 T=>?_;obtain⟨d,R2⟩:=R1.args T;exact⟨GJ (by rw[T];exact Z),fun l I=>q _ _ _ (R2.mm ⟨_,rfl,d⟩ I)⟩
def ow(i:Nat)(δ:Dv):rO:=match δ[i]? with
 |some (.own (.lst xs))=>some xs
 |_=>none
def RF{i:Nat}{δ:Dv}{xs:rS}(h:ow i δ=some xs):δ[i]? = some (.own (.lst xs)):=by
 unfold ow at h;split at h
 .rename_i y e;cases h;exact e
 .cases h
def SW{i:Nat}{x:Str}{np ap cp:Pos}(hv:PE X (.Name x np) (MR i))(he:DE X e f) (hP:∀ {U:TE} {t:TA},PE X (.Name x np) U->PA X [e] t->PS X (.Expr (.Call (.Attribute (.Name x np) "append" ap) [e] [] cp) pos) (RN (fS X.K "list" RU U t)))(I:starEach [e] X.env=(false,eval e X.env)::starEach [] X.env:=by rfl):DS X (.Expr (.Call (.Attribute (.Name x np) "append" ap) [e] [] cp) pos) (fun δ=>(f δ).bind fun y=>(ow i δ).bind fun xs=>if xs.length<C9 then some (.nx (δ.set i (.own (.lst (xs++[y]))))) else none):=by
 obtain⟨t,p,k⟩:=he;refine⟨_,hP hv (AK p AY I),fun δ r h G0 H0 G H σ D R q=>?_⟩;obtain⟨y,h1,h2⟩:=aB.mp h;obtain⟨xs,h3,O⟩:=aB.mp h2;split at O
 .rename_i hl;cases O;have hi:=RF h3;obtain⟨a,_,g,k2,k3,k4,⟨ys,rfl,k5⟩⟩:=R.own i _ hi;refine⟨.ref a,g,.inl ⟨rfl,ys,Al.of k4⟩,?_⟩;refine k δ y h1 G0 H0 G H σ [] _ R fun u G1 H1 T=>?_;obtain⟨a',_,Z,m2,m3,m4,⟨zs,rfl,Y⟩⟩:=T.own i _ hi;rw[g]at Z;cases Z;refine⟨a,zs,u,rfl,rfl,m4,RX (by rw[Y.len];lia),?_⟩;exact q _ _ _ (T.drop.Xg hi g ⟨_,rfl,Y.app (.cons (T.Bh _ (.head _)) .nil)⟩)
 .cases O
def TY{i:Nat}{x:Str}{np ap cp:Pos}(hv:PE X (.Name x np) (MR i))(he:DE X e f)
 (hP:∀ {Y:TE} {t:TA},PE X (.Name x np) Y->PA X [e] t->PS X (.Expr (.Call (.Attribute (.Name x np) "extend" ap) [e] [] cp) pos) (RN (fS X.K "list" XA Y t)))(U:starEach [e] X.env=(false,eval e X.env)::starEach [] X.env:=by rfl) :
  DS X (.Expr (.Call (.Attribute (.Name x np) "extend" ap) [e] [] cp) pos) (fun δ=>(f δ).bind fun y=>(ow i δ).bind fun xs=>match y with|.list O=>(if xs.length+O.length<=C9 then some (.nx (δ.set i (.own (.lst (xs++O))))) else none)|_=>none):=by
 obtain⟨t,p,k⟩:=he;refine⟨_,hP hv (AK p AY U),fun δ r h G0 H0 G H σ D R q=>?_⟩;obtain⟨y,h1,h2⟩:=aB.mp h;obtain⟨xs,h3,g⟩:=aB.mp h2;split at g
 .rename_i O;split at g
  .rename_i hl;cases g;have hi:=RF h3;obtain⟨a,_,T,k2,k3,k4,⟨ys,rfl,k5⟩⟩:=R.own i _ hi;refine⟨.ref a,T,.inl ⟨rfl,ys,Al.of k4⟩,?_⟩;refine k δ _ h1 G0 H0 G H σ [] _ R fun u G1 H1 I=>?_;obtain⟨a',_,m1,m2,m3,m4,⟨us,rfl,m5⟩⟩:=I.own i _ hi;rw[T]at m1;cases m1;have du:=I.Bh _ (.head _);rw[Du]at du;obtain⟨b,ws,rfl,n1,Z⟩:=du;refine⟨a,b,us,ws,rfl,rfl,m4,I.ins _ _ n1,GJ (by rw[m5.len,Z.len];exact hl),?_⟩;exact q _ _ _ (I.drop.Xg hi T ⟨_,rfl,m5.app Z⟩)
  .cases g
 .cases g
end
structure Nk(J:It)(xs:List PyData)(G:Hp):Prop where
 stop:∀H,AJ G H->J.stop xs.length H
 go:∀(i:Nat) (d:PyData) H,xs[i]? = some d->AJ G H->J.go i H
 F4:∀(i:Nat) (d:PyData) H x H',xs[i]? = some d->AJ G H->J.F4 i H x H'->∀Gc,AJ G Gc->AJ Gc H->∃Gc',AJ Gc Gc'/\Nw Gc H Gc'/\AJ Gc' H'/\AJ H H'/\Du Gc' d x
def Nw.refl{G H:Hp}:Nw G H G:=fun _ _ h=>.inl h
def iG{K:Fg}{G:Hp}{a:AD}{ys:rq}{xs:rS}(ha:G a=some (.lst ys))(d:An G xs ys):Nk (WL K a) xs G where
 stop:=fun H e=>⟨ys,Al.of (e _ _ ha),by rw[d.len];exact aH _⟩
 go:=fun i x H hx e=>by
  obtain⟨v,h1,_⟩:=d.get hx;exact⟨ys,v,Al.of (e _ _ ha),h1⟩
 F4:=fun i x H v H' hx e y Gc e1 e2=>by
  obtain⟨rfl,y⟩:=y;have h1:=y ys (Al.of (e _ _ ha));obtain⟨x',h2,h3⟩:=d.back h1;rw[hx]at h2;cases h2;exact⟨Gc,AJ.refl _,Nw.refl,e2,AJ.refl _,h3.same e1⟩
def kZ{K:Fg}{G:Hp}{a:AD}{ys:rq}{xs:rS}(ha:G a=some (.tup ys))(d:An G xs ys):Nk (XT K a) xs G where
 stop:=fun H e=>⟨ys,BC.of (e _ _ ha),by rw[d.len];exact aH _⟩
 go:=fun i x H hx e=>by
  obtain⟨v,h1,_⟩:=d.get hx;exact⟨ys,v,BC.of (e _ _ ha),h1⟩
 F4:=fun i x H v H' hx e y Gc e1 e2=>by
  obtain⟨rfl,y⟩:=y;have h1:=y ys (BC.of (e _ _ ha));obtain⟨x',h2,h3⟩:=d.back h1;rw[hx]at h2;cases h2;exact⟨Gc,AJ.refl _,Nw.refl,e2,AJ.refl _,h3.same e1⟩
def L7(lo:Int)(n:Nat):rS:=(List.range n).map fun k=>.int (lo+(k:Nat))
def Zx{G:Hp}{lo:Int}{n:Nat}:Nk (Sr lo n) (L7 lo n) G where
 stop:=fun H e=>by show n<=_;simp[L7]
 go:=fun i x H hx e=>by
  have:=(aG.mp hx).1;show i<n
  simpa[L7]using this
 F4:=fun i x H v H' hx e y Gc e1 e2=>by
  obtain⟨rfl,rfl⟩:=y;unfold L7 at hx;rw[List.getElem?_map]at hx;obtain⟨k,h1,rfl⟩:=aC.mp hx;have hk:k=i:=by
   have:=(aG.mp h1).1;rw[List.getElem?_range (by simpa using this)]at h1;cases h1;rfl
  subst hk;exact⟨Gc,AJ.refl _,Nw.refl,e2,AJ.refl _,by rw[Du]⟩
def U6{Gc H:Hp}{p:AD}{U T:PD}{I g:V}(R:AJ Gc H)(O:H p=none)(h1:Du Gc U I)(Z:Du Gc T g):∃Gc',AJ Gc Gc'/\Nw Gc H Gc'/\AJ Gc' (upd H p (.tup [I,g]))/\AJ H (upd H p (.tup [I,g]))/\Du Gc' (.tuple [U,T]) (.ref p):=by
 have Y:Gc p=none:=by
  cases q:Gc p with
  |none=>rfl
  |some u=>rw[R _ _ q]at O;cases O
 have e:AJ Gc (upd Gc p (.tup [I,g])):=Ac Y _;refine⟨upd Gc p (.tup [I,g]),e,fun a o h=>?_,fun a o h=>?_,Ac O _,?_⟩
 .by_cases ha:a=p
  .subst ha;exact .inr (.inl O)
  .rw[AL ha]at h;exact .inl h
 .by_cases ha:a=p
  .subst ha;rw[AN]at h ⊢;exact h
  .rw[AL ha]at h ⊢;exact R _ _ h
 .rw[Du];exact⟨p,[I,g],rfl,AN,.cons (h1.same e) (.cons (Z.same e) .nil)⟩
def JQ(xs:rS):rS:=xs.zipIdx.map fun q=>.tuple [.int (q.2:Nat),q.1]
def IT{xs:rS}{i:Nat}{d:PD}(h:(JQ xs)[i]? = some d):∃x,xs[i]? = some x/\d=.tuple [.int (i:Nat),x]:=by
 unfold JQ at h;rw[List.getElem?_map]at h;obtain⟨q,g,rfl⟩:=aC.mp h;rw[List.getElem?_zipIdx]at g;obtain⟨x,I,rfl⟩:=aC.mp g;exact⟨x,I,by simp⟩
def b9{K:Fg}{G:Hp}{a:AD}{ys:rq}{xs:rS}(ha:G a=some (.tup ys))(d:An G xs ys):Nk (jB K a) (JQ xs) G where
 stop:=fun H e=>⟨ys,BC.of (e _ _ ha),by rw[d.len];simp[JQ]⟩
 go:=fun i x H hx e=>by
  obtain⟨x',h0,rfl⟩:=IT hx;obtain⟨v,h1,_⟩:=d.get h0;exact⟨ys,v,BC.of (e _ _ ha),h1⟩
 F4:=fun i x H v H' hx e y Gc e1 e2=>by
  obtain⟨x',h0,rfl⟩:=IT hx;obtain⟨p,u,rfl,hp,rfl,y⟩:=y;have h1:=y ys (BC.of (e _ _ ha));obtain⟨x2,h2,h3⟩:=d.back h1;rw[h0]at h2;cases h2;exact U6 e2 hp (by rw[Du]) (h3.same e1)
def dP{K:Fg}{G:Hp}{a:AD}{ys:rq}{xs:rS}(ha:G a=some (.lst ys))(d:An G xs ys):Nk (lK K a) (JQ xs) G where
 stop:=fun H e=>⟨ys,Al.of (e _ _ ha),by rw[d.len];simp[JQ]⟩
 go:=fun i x H hx e=>by
  obtain⟨x',h0,rfl⟩:=IT hx;obtain⟨v,h1,_⟩:=d.get h0;exact⟨ys,v,Al.of (e _ _ ha),h1⟩
 F4:=fun i x H v H' hx e y Gc e1 e2=>by
  obtain⟨x',h0,rfl⟩:=IT hx;obtain⟨p,u,rfl,hp,rfl,y⟩:=y;have h1:=y ys (Al.of (e _ _ ha));obtain⟨x2,h2,h3⟩:=d.back h1;rw[h0]at h2;cases h2;exact U6 e2 hp (by rw[Du]) (h3.same e1)
def DI(X:Cx)(tg iter:Expr)(f:rP):Prop:=∃g,PI X tg iter g/\∀δ xs,f δ=some xs->∀G0 H0 G H σ ts (R:It->Hp->Prop),Rw G0 H0 G H σ δ ts->(∀J I H',Rw G0 H0 I H' σ δ ts->Nk J xs I->R J H')->g σ H R
section
variable{X:Cx}{tg a b e:Expr}{f g h:rQ}{fs:rP}{pos p:Pos}{sts:sD}{F:DF}
def PI.or{T O:TI}(h:PI X tg e T)(h':PI X tg e O):PI X tg e (fun σ H R=>T σ H R\/O σ H R):=fun pins s σ H R I q=>by
 rcases q with q|q
 .exact h pins s σ H R I q
 .exact h' pins s σ H R I q
def IE:PD->Option (List PD)
 |.list xs=>some xs
 |.tuple xs=>some xs
 |_=>none
def Dc(he:DE X e f):DI X tg e (fun δ=>(f δ).bind IE):=by
 obtain⟨t,p,k⟩:=he;refine⟨_,(Fe p).or (UJ p),fun δ xs h G0 H0 G H σ ts R R0 q=>?_⟩;obtain⟨x,Z,T⟩:=aB.mp h;unfold IE at T;split at T
 .cases T
  left
  refine k δ _ Z G0 H0 G H σ ts _ R0 fun v G' H' I=>?_;have U:=I.Bh _ (.head _);rw[Du]at U;obtain⟨a,ys,rfl,O,Y⟩:=U;exact⟨a,rfl,⟨ys,Al.of (I.ins _ _ O)⟩,q _ _ _ I.drop (iG O Y)⟩
 .cases T
  right
  refine k δ _ Z G0 H0 G H σ ts _ R0 fun v G' H' I=>?_;have U:=I.Bh _ (.head _);rw[Du]at U;obtain⟨a,ys,rfl,O,Y⟩:=U;exact⟨a,rfl,⟨ys,BC.of (I.ins _ _ O)⟩,q _ _ _ I.drop (kZ O Y)⟩
 .cases T
def VR:List PD->Option (List PD)
 |[.int j]=>if -1000000<=j/\j<=1000000 then some (L7 0 j.toNat) else none
 |_=>none
def Xa:List PD->Option (List PD)
 |[.int i,.int j]=>if -1000000<=i/\i<=1000000/\-1000000<=j/\j<=1000000 then some (L7 i (j-i).toNat) else none
 |_=>none
def TC(hg:Gl X "range")(hm:X.mg "range" = none)(ha:DA X [a] fs)(U:starEach [a] X.env=[(false,eval a X.env)]:=by rfl):DI X tg (.Call (.Name "range" p) [a] [] pos) (fun δ=>(fs δ).bind VR):=by
 obtain⟨t,p,k⟩:=ha;refine⟨_,NF hg hm p U,fun δ xs h G0 H0 G H σ ts R Z q=>?_⟩;obtain⟨x,Y,I⟩:=aB.mp h;refine k δ _ Y G0 H0 G H σ ts _ Z fun vs G' H' R' T=>?_;obtain⟨d,R2⟩:=R'.args T;unfold VR at I;split at I
 .split at I
  .cases I;obtain⟨u,rfl,O⟩:=d.J3;rw[Du]at O;subst O;exact⟨_,rfl,by lia,by lia,q _ _ _ R2 Zx⟩
  .cases I
 .cases I
def TN(hg:Gl X "range")(hm:X.mg "range" = none)(ha:DA X [a,b] fs)(Z:starEach [a,b] X.env=[(false,eval a X.env),(false,eval b X.env)]:=by rfl)(O:starEach [b] X.env=[(false,eval b X.env)]:=by rfl):DI X tg (.Call (.Name "range" p) [a,b] [] pos) (fun δ=>(fs δ).bind Xa):=by
 obtain⟨t,p,k⟩:=ha;refine⟨_,Yu hg hm p Z O,fun δ xs h G0 H0 G H σ ts R R0 q=>?_⟩;obtain⟨x,h1,I⟩:=aB.mp h;refine k δ _ h1 G0 H0 G H σ ts _ R0 fun vs G' H' R' Y=>?_;obtain⟨d,R2⟩:=R'.args Y;unfold Xa at I;split at I
 .split at I
  .cases I;obtain⟨u,v,rfl,U,T⟩:=d.Va;rw[Du]at U T;subst U T;exact⟨_,_,rfl,⟨by lia,by lia,by lia,by lia⟩,q _ _ _ R2 Zx⟩
  .cases I
 .cases I
def QP:List PD->Option (List PD)
 |[.list xs]=>some (JQ xs)
 |[.tuple xs]=>some (JQ xs)
 |_=>none
def SK{elts:rg}{x1}{I:Pos}(hg:Gl X "enumerate")(hm:X.mg "enumerate" = none)(ha:DA X [a] fs)(hs:starEach [a] X.env=[(false,eval a X.env)]:=by rfl):DI X (.Tuple elts x1 I) (.Call (.Name "enumerate" p) [a] [] pos) (fun δ=>(fs δ).bind QP):=by
 obtain⟨t,p,k⟩:=ha;refine⟨_,(cC hg hm p hs).or (hV hg hm p hs),fun δ xs h G0 H0 G H σ ts R R0 q=>?_⟩;obtain⟨x,h1,T⟩:=aB.mp h;unfold QP at T;split at T
 .cases T
  left
  refine k δ _ h1 G0 H0 G H σ ts _ R0 fun vs G' H' R' Z=>?_;obtain⟨d,R2⟩:=R'.args Z;obtain⟨u,rfl,U⟩:=d.J3;rw[Du]at U;obtain⟨a,ys,rfl,O,Y⟩:=U;exact⟨a,rfl,⟨ys,Al.of (R2.ins _ _ O)⟩,q _ _ _ R2 (dP O Y)⟩
 .cases T
  right
  refine k δ _ h1 G0 H0 G H σ ts _ R0 fun vs G' H' R' Z=>?_;obtain⟨d,R2⟩:=R'.args Z;obtain⟨u,rfl,U⟩:=d.J3;rw[Du]at U;obtain⟨a,ys,rfl,O,Y⟩:=U;exact⟨a,rfl,⟨ys,BC.of (R2.ins _ _ O)⟩,q _ _ _ R2 (b9 O Y)⟩
 .cases T
def Uc{G:Hp}{x:PD}{v:V}{xs:rS}(h:Du G x v)(e:IE x=some xs):∃(b:Bool) (a:AD) (ys:rq),v=.ref a/\G a=some (if b then .tup ys else .lst ys)/\An G xs ys:=by
 unfold IE at e;split at e
 .cases e;rw[Du]at h;obtain⟨a,ys,rfl,O,I⟩:=h;exact⟨false,a,ys,rfl,O,I⟩
 .cases e;rw[Du]at h;obtain⟨a,ys,rfl,O,I⟩:=h;exact⟨true,a,ys,rfl,O,I⟩
 .cases e
def DG(X:Cx)(tg:Expr)(set:PD->Dv->Option Dv):Prop:=∃g,PG X tg g/\∀δ x O,set x δ=some O->∀G0 H0 G H σ v (Q:St->Hp->Prop),Rw G0 H0 G H σ δ [(x,v)]->(∀I R H',Rw G0 H0 R H' I O []->Q I H')->g v σ H Q
def Eu{i:Nat}{x:Str}(h:PG X (.Name x pos) (GC i)):DG X (.Name x pos) (fun y δ=>some (δ.set i (.d y))) :=
 ⟨_,h,fun δ y I e G0 H0 G H σ v Q R k=>by cases e;exact k _ _ _ R.Gm⟩
def Vg(i j:Nat)(y:PD)(δ:Dv):Option Dv:=match y with
 |.tuple [u,v]=>some ((δ.set i (.d u)).set j (.d v))
 |_=>none
def VT{x y:Str}{i j:Nat}{U T:Pos}{k1}(h:PG X (.Tuple [.Name x U,.Name y T] k1 pos) (dk X.K 2 (RJ (GC i) (RJ (GC j) cc)))):DG X (.Tuple [.Name x U,.Name y T] k1 pos) (Vg i j):=by
 refine⟨_,h,fun δ z Z e G0 H0 G H σ v Q R k=>?_⟩;unfold Vg at e;split at e
 .cases e;have Y:=R.Bh _ (.head _);rw[Du]at Y;obtain⟨a,ys,rfl,n1,n2⟩:=Y;obtain⟨O,I,rfl,m1,m2⟩:=n2.Va;refine⟨a,[O,I],rfl,BC.of (R.ins _ _ n1),rfl,O,[I],rfl,I,[],rfl,rfl,?_⟩;exact k _ _ _ (((R.drop.put m2).put m1).Gm.Gm)
 .cases e
def GR(set:PD->Dv->Option Dv)(O:DF):List PD->Dv->Option Ou
 |[],δ=>some (.nx δ)
 |x::xs,δ=>match (set x δ).bind O with
  |some (.nx I)=>GR set O xs I
  |some (.ct I)=>GR set O xs I
  |some (.bk I)=>some (.nx I)
  |some (.rt v)=>some (.rt v)
  |some (.rn v)=>some (.rn v)
  |none=>none
def EV{set:PD->Dv->Option Dv}(hp:PassesOwn (model X.prog X.w) X.A X.env X.xe)(hc:X.calm=true)(hi:DI X tg e fs)(hg:DG X tg set)(hb:Lx X sts F)(hs:∀x,foldedSetIterable e X.env x=pure x:=by intro _;rfl):DS X (.For tg e sts [] pos) (fun δ=>(fs δ).bind fun xs=>GR set F xs δ):=by
 obtain⟨wi,pi,ki⟩:=hi;obtain⟨g,pg,kg⟩:=hg;obtain⟨tb,pb,kb⟩:=hb;refine⟨_,IP hp hc pi pg pb hs,fun δ r h G0 H0 G H σ D R q=>?_⟩;obtain⟨xs,h1,h2⟩:=aB.mp h;refine ki δ xs h1 G0 H0 G H σ [] _ R fun J Ga Ha Ra it=>?_;refine⟨fun i m O H'=>m=xs.length-i/\i<=xs.length/\∃I G',GR set F (xs.drop i) I=some r/\Rw G0 H0 G' H' O I []/\AJ Ga G',⟨xs.length,by simp,Nat.zero_le _,δ,Ga,by simpa using h2,Ra,AJ.refl _⟩,?_⟩;rintro i m σ1 H1 ⟨rfl,hi,δ1,G1,f1,R1,s1⟩;have sH:AJ Ga H1:=s1.trans R1.ins;by_cases U:i<xs.length
 .right
  have hx:xs[i]? = some xs[i]:=by simp[U]
  refine⟨it.go i _ H1 hx sH,fun O H'=>i+1<=xs.length/\∃I G',GR set F (xs.drop (i+1)) I=some r/\Rw G0 H0 G' H' O I []/\AJ Ga G',fun O H' n=>⟨xs.length-(i+1),by lia,rfl,n⟩,fun x H' y=>?_⟩;obtain⟨G2,e1,e2,e3,e4,e5⟩:=it.F4 i _ H1 x H' hx sH y G1 s1 R1.ins;have R2:=(R1.lift e1 e2 e3 e4).put e5;have s2:=s1.trans e1;rw[List.drop_eq_getElem_cons U]at f1;unfold GR at f1;cases hb2:(set xs[i] δ1).bind F with
  |none=>rw[hb2]at f1;cases f1
  |some o=>
   obtain⟨δ2,k1,k2⟩:=aB.mp hb2;rw[hb2]at f1;have R2b:=R2.base;refine kg δ1 _ δ2 k1 G2 H0 G2 H' σ1 x _ R2b fun σ3 G3 H3 R3=>?_;refine kb δ2 o k2 G2 H0 G3 H3 σ3 _ R3 ?_;cases o with
   |nx T=>exact fun Z Y H4 R4=>⟨U,T,Y,f1,R2.drop.Q0 R4,s2.trans R4.ext⟩
   |ct T=>exact fun Z Y H4 R4=>⟨U,T,Y,f1,R2.drop.Q0 R4,s2.trans R4.ext⟩
   |bk T=>cases f1;exact fun Z Y H4 R4=>q Z Y H4 (R2.drop.Q0 R4)
   |rt v=>cases f1;exact fun w Y H4 h1 h2 h3 h4 h5=>q w Y H4 (R2.ext.trans h1) (R2.new.trans h2) h3 h4 h5
   |rn v=>cases f1;exact fun w ys Y H4 h1 h2=>q w ys Y H4 (R2.ext.trans h1) (R2.new.trans h2)
 .left
  have e:i=xs.length:=by lia
  subst e;refine⟨it.stop H1 sH,?_⟩;rw[List.drop_length]at f1;unfold GR at f1;cases f1;exact q _ _ _ R1
end
def tD(f:rQ):TE:=fun σ H Q=>∃δ x G0 H0 G ts,f δ=some x/\Rw G0 H0 G H σ δ ts/\∀v g H',Rw G0 H0 g H' σ δ ((x,v)::ts)->Q v H'
def fF(f:rR):TT:=fun σ H Q=>∃δ x G0 H0 G ts,f δ=some x/\Rw G0 H0 G H σ δ ts/\∀g H',Rw G0 H0 g H' σ δ ts->Q x H'
def DE.pe{X:Cx}{e:Expr}{f:rQ}(h:DE X e f):PE X e (tD f):=by
 obtain⟨t,p,k⟩:=h;intro pins s σ H Q I q;obtain⟨δ,x,G0,H0,G,ts,R,O,g⟩:=q;exact p pins s σ H Q I (k δ x R G0 H0 G H σ ts Q O g)
def DT.pt{X:Cx}{e:Expr}{f:rR}(h:DT X e f):PT X e (fF f):=by
 obtain⟨t,p,k⟩:=h;intro pins s σ H Q I q;obtain⟨δ,x,G0,H0,G,ts,R,O,g⟩:=q;exact p pins s σ H Q I (k δ x R G0 H0 G H σ ts Q O g)
def fN(X:Cx)(g:rg)(f:rR):Prop:=Mp X g (fF f)
def G6{X:Cx}:fN X [] (fun _=>some true):=by
 intro pins s σ H Q I q;obtain⟨δ,x,G0,H0,G,ts,R,O,g⟩:=q;cases R;exact F7 pins s σ H Q I (g _ _ O)
def XB{X:Cx}{c:Expr}{f:rR}(h:DT X c f):fN X [c] f:=gf h.pt
def Dd(fr:sF)(δ:Dv):Dv:=fr.map fun o=>match o with
 |some j=>(match δ[j]? with|some (.d x)=>.d x|_=>.no)
 |none=>.no
def Rw.inner{G0 H0 G H:Hp}{σ:St}{δ:Dv}{ts:List (PD×V)}(fr:sF)(r:Rw G0 H0 G H σ δ ts):Rw G H G H (carry fr σ) (Dd fr δ) ts:=by
 have key:∀(i:Nat) (l:L),(Dd fr δ)[i]? = some l->∃o,fr[i]? = some o/\l=(match o with|some j=>(match δ[j]? with|some (.d x)=>.d x|_=>.no)|none=>.no):=fun i l h=>by
  unfold Dd at h;rw[List.getElem?_map]at h;obtain⟨o,O,rfl⟩:=aC.mp h;exact⟨o,O,rfl⟩
 have g:∀(i:Nat) (xs:Oc),(Dd fr δ)[i]?≠some (L.own xs):=fun i xs h=>by
  obtain⟨o,_,I⟩:=key i _ h;split at I
  .split at I<;>cases I
  .cases I
 refine⟨AJ.refl _,Nw.refl,r.ins,AJ.refl _,by simp[carry,Dd],fun i x h=>?_,fun i xs h=>absurd h (g i xs),fun i j xs ys _ h=>absurd h (g i xs),r.Bh⟩;obtain⟨o,O,I⟩:=key i _ h;split at I
 .rename_i j;split at I
  .rename_i y U;cases I;obtain⟨v,T,R⟩:=r.dat j _ U;refine⟨v,?_,R⟩;unfold carry;rw[List.getElem?_map,O];simp[T]
  .cases I
 .cases I
def Rw.other{G0 H0 G H:Hp}{σ:St}{δ:Dv}{ts:List (PD×V)}{D:AD}{o:HO}(r:Rw G0 H0 G H σ δ ts)(Y:G D=none)(h0:H0 D=none)(U:∀(i:Nat) (xs:Oc),δ[i]? = some (L.own xs)->σ[i]?≠some (some (V.ref D))):Rw G0 H0 G (upd H D o) σ δ ts:=by
 refine⟨r.ext,r.new,fun a u h=>?_,fun a u h=>?_,r.len,r.dat,fun i xs h=>?_,r.apart,r.Bh⟩
 .rw[AL (fun z=>by subst z;rw[Y]at h;cases h)];exact r.ins _ _ h
 .rw[AL (fun z=>by subst z;rw[h0]at h;cases h)];exact r.keep _ _ h
 .obtain⟨a,ys,g,T,R,O,I⟩:=r.own i xs h;exact⟨a,ys,g,T,R,by rw[AL (fun z=>by subst z;exact U i xs h g)];exact O,I⟩
def Rw.adopt{G0 H0 G H:Hp}{σ:St}{δ:Dv}{ts:List (PD×V)}{D:AD}{ys:rq}(r:Rw G0 H0 G H σ δ ts)(hD:H D=some (.lst ys))(hG:G D=none)(h0:H0 D=none)(Z:∀(i:Nat) (xs:Oc),δ[i]? = some (L.own xs)->σ[i]?≠some (some (V.ref D))):Rw G0 H0 (upd G D (.lst ys)) H σ δ ts:=by
 have e:AJ G (upd G D (.lst ys)):=Ac hG _;refine⟨r.ext.trans e,fun a u h=>?_,fun a u h=>?_,r.keep,r.len,fun i x h=>?_,fun i xs h=>?_,r.apart,fun q Y=>(r.Bh q Y).same e⟩
 .by_cases ha:a=D
  .subst ha;exact .inr (.inl h0)
  .rw[AL ha]at h;exact r.new _ _ h
 .by_cases ha:a=D
  .subst ha;rw[AN]at h;rw[hD];exact h
  .rw[AL ha]at h;exact r.ins _ _ h
 .obtain⟨v,g,I⟩:=r.dat i x h;exact⟨v,g,I.same e⟩
 .obtain⟨a,O,g,I,U,T,R⟩:=r.own i xs h;have ha:a≠D:=fun z=>by subst z;exact Z i xs h g
  exact⟨a,O,g,by rw[AL ha];exact I,U,T,R.same e⟩
def LG(set:PD->Dv->Option Dv)(I:rR)(f:rQ)(δ:Dv)(x:PD):Option rX :=
 (set x δ).bind fun g=>(I g).bind fun b=>if b=true then(f g).map some else some none
def collect(one:PD->Option (Option PD)):List PD->Option (List PD)
 |[]=>some []
 |x::xs=>(one x).bind fun o=>(collect one xs).map fun r=>o.toList++r
def IL(set:PD->Dv->Option Dv)(g:rR)(f:rQ)(fr:sF)(fs:rP)(δ:Dv):rO :=
 (fs δ).bind fun xs=>(collect (LG set g f (Dd fr δ)) xs).bind IQ
def Dl(set:PD->Dv->Option Dv)(g:rR)(f:rQ)(fr:sF)(fs:rP)(δ:Dv):rX :=
 (IL set g f fr fs δ).map .list
structure gb(G0 H0 Ga:Hp)(σ:St)(δ:Dv)(ts:List (PyData×V))(one:PyData->Option (Option PyData))(xs full:List PyData)(D:Addr)(i:Nat)(ys:List V)(H:Hp):Prop where
 ex:∃G done rest,Rw G0 H0 G H σ δ ts/\AJ Ga G/\G D=none/\collect one (xs.drop i)=some rest/\done++rest=full/\An G done ys
 h0:H0 D=none
 ap:∀(j:Nat) (us:Oc),δ[j]? = some (L.own us)->σ[j]?≠some (some (V.ref D))
def da{G0 H0 G H:Hp}{D:AD}{ys:rq}(I:G0 D=none)(g:H0 D=some (.lst ys))(n:Nw G0 H0 G)(e:AJ G H)(k:AJ H0 H):G D=none:=by
 cases q:G D with
 |none=>rfl
 |some o=>
  rcases n _ _ q with z|z|⟨us,z⟩
  .rw[I]at z;cases z
  .rw[g]at z;cases z
  .have:=e _ _ q;rw[k _ _ g,z]at this;cases this
section
variable{X:Cx}{elt iter:Expr}{x y:Str}{px pos:Pos}{ifs:rg}{scope:Scope}{fs:rP}{tif:rR}{f:rQ}
def Cv(i:Nat)(y:PD)(δ:Dv):Option Dv:=some (δ.set i (.d y))
def Qe{wi:TI}{ix:Nat}{fr:sF}(ki:∀(δ:Dv) (xs:rS),fs δ=some xs->∀(G0 H0 G H:Hp) (σ:St) (ts:List (PD×V)) (R:It->Hp->Prop),Rw G0 H0 G H σ δ ts->(∀J G' H',Rw G0 H0 G' H' σ δ ts->Nk J xs G'->R J H')->wi σ H R){δ:Dv}{zs:rS}(hz:IL (Cv ix) tif f fr fs δ=some zs){G0 H0 G H:Hp}{σ:St}{ts:List (PD×V)}{Q:VK}(R0:Rw G0 H0 G H σ δ ts)(k:∀D ys G' H',Rw G0 H0 G' H' σ δ ts->H' D=some (.lst ys)->G' D=none->H0 D=none->(∀(j:Nat) (us:Oc),δ[j]? = some (L.own us)->σ[j]?≠some (some (V.ref D)))->An G' zs ys->Q (.ref D) H'):N6 wi fr ix (fF tif) (tD f) σ H Q:=by
 unfold IL at hz;obtain⟨xs,m2,m3⟩:=aB.mp hz;obtain⟨full,m4,m5⟩:=aB.mp m3;obtain⟨rfl,hfew⟩:=QM m5;refine ki δ xs m2 G0 H0 G H σ ts _ R0 fun J Ga Ha Ra it D hD=>?_;have hGD:Ga D=none:=by
  cases q:Ga D with
  |none=>rfl
  |some u=>rw[Ra.ins _ _ q]at hD;cases hD
 have I:H0 D=none:=by
  cases q:H0 D with
  |none=>rfl
  |some u=>rw[Ra.keep _ _ q]at hD;cases hD
 have g:∀(j:Nat) (us:Oc),δ[j]? = some (L.own us)->σ[j]?≠some (some (V.ref D)):=fun j us h z=>by
  obtain⟨a,ys,k1,k2,k3,k4,k5⟩:=Ra.own j us h;rw[z]at k1;cases k1;rw[k4]at hD;cases hD
 refine IA (n:=xs.length) (gb G0 H0 Ga σ δ ts (LG (Cv ix) tif f (Dd fr δ)) xs full D) ⟨⟨Ga,[],full,Ra.other hGD I g,AJ.refl _,hGD,by simpa using m4,rfl,.nil⟩,I,g⟩ ?_ ?_
 .rintro i ys H1 Y ⟨⟨G1,done,rest,R1,s1,g1,c1,e1,d1⟩,_,_⟩ hD1;have hx:xs[i]? = some xs[i]:=by simp[Y]
  have sH:=s1.trans R1.ins;have hyl:ys.length<sizeLine:=RX (by
   rw[d1.len];have:done.length<=full.length:=by rw[<-e1];simp
   lia)
  refine⟨it.go i _ H1 hx sH,hyl,fun v H' y=>?_⟩;obtain⟨G2,n1,n2,n3,n4,n5⟩:=it.F4 i _ H1 v H' hx sH y G1 s1 R1.ins;have R2:=R1.lift n1 n2 n3 n4;have Z:=n4 _ _ hD1;have g2:G2 D=none:=da g1 hD1 n2 n3 n4;rw[List.drop_eq_getElem_cons Y]at c1;unfold collect at c1;obtain⟨o,c2,c3⟩:=aB.mp c1;obtain⟨O,c4,rfl⟩:=aC.mp c3;unfold LG Cv at c2;simp only[Option.bind_some]at c2;obtain⟨b,c5,c6⟩:=aB.mp c2;have Ri:=((R2.inner fr).put n5).Gm (i:=ix);have Ri0:Rw G2 H' G2 H' ((carry fr σ).set ix (some v)) ((Dd fr δ).set ix (.d xs[i])) []:=Ri.less fun q hq=>by cases hq
  refine⟨_,b,G2,H',G2,[],c5,Ri0,fun G3 H3 U=>?_⟩;have R3o:=R2.lift U.ext U.new U.ins U.keep;have hD3:=U.keep _ _ Z;have g3:G3 D=none:=da g2 Z U.new U.ins U.keep;dsimp only;split
  .rename_i hb;rw[if_pos hb]at c6;obtain⟨w,c7,rfl⟩:=aC.mp c6;refine⟨_,w,G2,H',G3,[],c7,U,fun u G4 H4 T=>?_⟩;have R4o:=R2.lift T.ext T.new T.ins T.keep;have hD4:=T.keep _ _ Z;have g4:G4 D=none:=da g2 Z T.new T.ins T.keep;refine⟨hD4,GF Y ⟨⟨G4,done++[w],O,R4o.other g4 I g,s1.trans (n1.trans T.ext),g4,c4,by simpa using e1,(d1.same (n1.trans T.ext)).app (.cons (T.Bh _ (.head _)) .nil)⟩,I,g⟩⟩
  .rename_i hb;rw[if_neg hb]at c6;cases c6;exact gW Y hD3 ⟨⟨G3,done,O,R3o,s1.trans (n1.trans U.ext),g3,c4,by simpa using e1,d1.same (n1.trans U.ext)⟩,I,g⟩
 .rintro ys H1 ⟨⟨G1,done,rest,R1,s1,g1,c1,e1,d1⟩,_,_⟩ hD1;refine⟨it.stop H1 (s1.trans R1.ins),?_⟩;rw[List.drop_length]at c1;cases c1;rw[List.append_nil]at e1;subst e1;exact k _ _ _ _ R1 hD1 g1 I g d1
def ZL{U:TI}{ix:Nat}{fr:sF}(ki:∀(δ:Dv) (xs:rS),fs δ=some xs->∀(G0 H0 G H:Hp) (σ:St) (ts:List (PD×V)) (R:It->Hp->Prop),Rw G0 H0 G H σ δ ts->(∀J g H',Rw G0 H0 g H' σ δ ts->Nk J xs g->R J H')->U σ H R){δ:Dv}{z:PD}(hz:Dl (Cv ix) tif f fr fs δ=some z){G0 H0 G H:Hp}{σ:St}{ts:List (PD×V)}{Q:VK}(R0:Rw G0 H0 G H σ δ ts)(k:∀v g H',Rw G0 H0 g H' σ δ ((z,v)::ts)->Q v H'):N6 U fr ix (fF tif) (tD f) σ H Q:=by
 unfold Dl at hz;obtain⟨full,m1,rfl⟩:=aC.mp hz;refine Qe ki m1 R0 fun D ys Z H1 R1 T Y O I d1=>?_;have e:AJ Z (upd Z D (.lst ys)):=Ac Y _;have R2:=R1.adopt T Y O I;refine k _ _ _ (R2.put ?_);rw[Du];exact⟨D,ys,rfl,AN,d1.same e⟩
def GD(N:rf)(ix:Nat)(fr:sF)(hi:DI X (.Name x px) iter fs)(g:∀cl C s₀ H₀ fp,fN (A6 X scope cl N C s₀ H₀ fp) ifs tif)(T:∀cl C s₀ H₀ fp,DE (A6 X scope cl N C s₀ H₀ fp) elt f) (h1:D8 scope N x ix=true:=by decide +kernel)(h2:X.calm=true:=by rfl)(Z:GU N X.N scope X.env.scope fr 0=true:=by rfl)(Y:fr.length=N.length:=by rfl)(U:freeOk X.env.scope scope.names=true:=by rfl) (R:∀x,foldedSetIterable iter X.env x=pure x:=by intro _;rfl):DE X (.ListComp elt [⟨.Name x px,iter,ifs,0⟩] scope pos) (Dl (Cv ix) tif f fr fs):=by
 obtain⟨wi,pi,I⟩:=hi;exact⟨_,Hv N ix fr pi g (fun cl C s₀ H₀ fp=>(T cl C s₀ H₀ fp).pe) h1 h2 Z Y U R,fun δ z O G0 H0 G H σ ts Q R0 k=>ZL I O R0 k⟩
end
section
variable{x y:Str}       
def HE(N:rf)(ds:rS):Dv:=ds.map .d++List.replicate (N.length-ds.length) .no
def C8(ps N:rf)(F:DF)(ds:rS):rX:=if ds.length=ps.length then(match F (HE N ds) with
 |some (.rt x)=>some x
 |some (.nx _)=>some .none
 |some (.rn xs)=>some (.list xs)
 |_=>none) else none
def Rw.start{N:rf}{ds:rS}{vs:rq}{G H:Hp}(d:An G ds vs)(e:AJ G H):Rw G H G H (start N vs) (HE N ds) []:=by
 have R:=d.len;refine⟨AJ.refl _,Nw.refl,e,AJ.refl _,by simp[L2.start,HE,R],fun i x h=>?_,fun i xs h=>?_,fun i j xs ys _ h=>?_,fun q O=>by cases O⟩
 .unfold HE at h;by_cases hi:i<ds.length
  .rw[List.getElem?_append_left (by simpa using hi),List.getElem?_map]at h;obtain⟨y,I,g⟩:=aC.mp h;cases g;obtain⟨v,U,T⟩:=d.get I;refine⟨v,?_,T⟩;unfold L2.start;rw[List.getElem?_append_left (by simp;lia),List.getElem?_map,U];rfl
  .rw[List.getElem?_append_right (by simpa using hi),List.getElem?_replicate]at h;split at h<;>cases h
 .unfold HE at h;by_cases hi:i<ds.length
  .rw[List.getElem?_append_left (by simpa using hi),List.getElem?_map]at h;obtain⟨y,I,g⟩:=aC.mp h;cases g
  .rw[List.getElem?_append_right (by simpa using hi),List.getElem?_replicate]at h;split at h<;>cases h
 .unfold HE at h;by_cases hi:i<ds.length
  .rw[List.getElem?_append_left (by simpa using hi),List.getElem?_map]at h;obtain⟨y,I,g⟩:=aC.mp h;cases g
  .rw[List.getElem?_append_right (by simpa using hi),List.getElem?_replicate]at h;split at h<;>cases h
def Yi{G H g H':Hp}{a:AD}{ys:rq}{xs:rS}(Z:AJ G g)(Y:Nw G H g)(U:AJ g H')(T:H a=none)(I:g a=none)(R:H' a=some (.lst ys))(O:An g xs ys):AJ G (upd g a (.lst ys))/\Nw G H (upd g a (.lst ys))/\AJ (upd g a (.lst ys)) H'/\Du (upd g a (.lst ys)) (.list xs) (.ref a):=by
 refine⟨Z.trans (Ac I _),fun b o hb=>?_,fun b o hb=>?_,?_⟩
 .by_cases z:b=a
  .subst z;exact .inr (.inl T)
  .rw[AL z]at hb;exact Y _ _ hb
 .by_cases z:b=a
  .subst z;rw[AN]at hb;rw[R];exact hb
  .rw[AL z]at hb;exact U _ _ hb
 .rw[Du];exact⟨a,ys,rfl,AN,O.same (Ac I _)⟩
def F0{P:Program}{w:World}{K:Fg}{mg:rW}{base:Heap}{x:Str}{st:Stmt}{U:AD}{fd:FuncData}{N ps:rf}{k:Nat}{F:DF}(T:Fn K mg x st ps U fd)(S:AZ N ps (AM st)) (hb:∀(cdv:VL) (A:Around) (outer:sE) (s:SD) (H:Hp) (E:XK),CG k (A.deeper (envOfC x (AM st) s.heap.objs.size U cdv))->Lx (Ck Aa P w K mg base N x (AM st) U cdv A outer s H E).GZ (DM st) F):AI P w K mg base Aa (k+1) U fd ps (BH (C8 ps N F)):=by
 refine T.F.ok S (fun vs H Q E h=>?_) fun cdv A outer s H vs Q E hr h=>?_
 .obtain⟨ds,y,G,g,I,_⟩:=h;unfold C8 at g;split at g
  .rename_i hl;rw[I.len];exact hl
  .cases g
 .obtain⟨ds,y,G,g,I,h3,h4⟩:=h;obtain⟨t,p,kk⟩:=hb cdv A outer s H E hr;refine⟨t,p,?_⟩;unfold C8 at g;split at g
  .split at g
   .rename_i z O;cases g;exact kk _ _ O G H G H _ _ (Rw.start I h3) fun v Y H' m1 m2 m3 m4 Z=>h4 v Y H' m1 m2 m3 m4 Z
   .rename_i δ O;cases g;exact kk _ _ O G H G H _ _ (Rw.start I h3) fun σ' Y H' R=>h4 .BP Y H' R.ext R.new R.ins R.keep (by rw[Du])
   .rename_i xs O;cases g;exact kk _ _ O G H G H _ _ (Rw.start I h3) fun a ys Y H' m1 m2 m3 m4 Z m6 m7 m8=>let⟨n1,n2,n3,n4⟩:=Yi m1 m2 m3 Z m6 m7 m8;h4 _ _ H' n1 n2 n3 m4 n4
   .cases g
  .cases g
end
section
variable{X:Cx}{a e:Expr}{f h:rQ}{pos p p2:Pos}   
def P4{x:Str}{i:Int}{tk:Tok}(hg:Gl X x)(hm:X.mg x=some (.int i tk))(hd:(x==("__debug__" : Str))=false:=by decide):DE X (.Name x pos) (fun _=>some (.int i)) :=
 ⟨_,JY (v:=.int i) hg hm ⟨tk,rfl⟩ hd,fun δ x h G0 H0 G H σ ts Q r k=>by cases h;exact k _ _ _ (r.put (by rw[Du]))⟩
def DO(X:Cx)(o:Option Expr)(f:Dv->Option rj):Prop:=∃t,PO X o t/\∀δ x,f δ=some x->∀G0 H0 G H σ ts (Q:Option Int->Hp->Prop),Rw G0 H0 G H σ δ ts->(∀g H',Rw G0 H0 g H' σ δ ts->Q x H')->t σ H Q
variable{fo fu:Dv->Option rj}{lo hi:Option Expr}
def Jd:DO X none (fun _=>some none):=⟨_,iC,fun δ x h G0 H0 G H σ ts Q r k=>by cases h;exact k _ _ r⟩
def JZ(O:DE X e f):DO X (some e) (fun δ=>(f δ).bind fun x=>(Wr x).map some):=by
 obtain⟨t,p,k⟩:=O;refine⟨_,iW p,fun δ z h G0 H0 G H σ ts Q r q=>?_⟩;obtain⟨x,U,T⟩:=aB.mp h;obtain⟨i,R,rfl⟩:=aC.mp T;have:=Z1 R;subst this;refine k δ _ U G0 H0 G H σ ts _ r fun v Y H' I=>?_;have g:=I.Bh _ (.head _);rw[Du]at g;exact⟨i,g,q _ _ I.drop⟩
def cutD(xs:rS)(lo hi:rj):rS:=(xs.drop (HT.Bc xs.length 0 lo)).take (HT.Bc xs.length xs.length hi-HT.Bc xs.length 0 lo)
def An.cut{H:Hp}{ds:rS}{xs:rq}(h:An H ds xs)(lo hi:rj):An H (cutD ds lo hi) (Nz xs lo hi):=by
 unfold cutD Nz;rw[h.len];exact(h.drop _).take _
def dr(x:PD)(lo hi:rj):rX:=match x with
 |.list xs=>some (.list (cutD xs lo hi))
 |.tuple xs=>if ¬(HT.Bc xs.length 0 lo=0/\HT.Bc xs.length xs.length hi=xs.length) then some (.tuple (cutD xs lo hi)) else none
 |_=>none
def Hr(he:DE X e f)(hl:DO X lo fo)(hh:DO X hi fu):DE X (.Subscript e (.Slice lo hi none p2) pos) (fun δ=>(f δ).bind fun x=>(fo δ).bind fun l=>(fu δ).bind fun u=>dr x l u):=by
 obtain⟨te,pe,ke⟩:=he;obtain⟨tl,pl,Z⟩:=hl;obtain⟨th,Y,kh⟩:=hh;refine⟨_,dw (i4.or kE) pe pl Y,fun δ z hz G0 H0 G H σ ts Q R0 k=>?_⟩;obtain⟨x,h1,h2⟩:=aB.mp hz;obtain⟨l,h3,h4⟩:=aB.mp h2;obtain⟨u,h5,g⟩:=aB.mp h4;refine ke δ x h1 G0 H0 G H σ ts _ R0 fun v G1 H1 R1=>?_;refine Z δ l h3 G0 H0 G1 H1 σ _ _ R1 fun G2 H2 R2=>?_;refine kh δ u h5 G0 H0 G2 H2 σ _ _ R2 fun G3 H3 I=>?_;have R:=I.Bh _ (.head _);unfold dr at g;split at g
 .cases g;rw[Du]at R;obtain⟨a,ys,rfl,T,O⟩:=R;exact .inl ⟨a,ys,rfl,Al.of (I.ins _ _ T),fun q U=>k _ _ _ (I.drop.N1 (O.cut l u) U)⟩
 .split at g
  .rename_i hc;cases g;rw[Du]at R;obtain⟨a,ys,rfl,T,O⟩:=R;exact .inr ⟨a,ys,rfl,BC.of (I.ins _ _ T),by rw[O.len];exact hc,fun q U=>k _ _ _ (I.drop.eR (O.cut l u) U)⟩
  .cases g
 .cases g
def Uz:List PD->Option (List Int)
 |[]=>some []
 |.int i::r=>(Uz r).map fun l=>i::l
 |_::_=>none
def An.ints{H:Hp}:∀ {ds:List PD} {xs:List V} {ns:List Int},An H ds xs->Uz ds=some ns->xs=ns.map V.int
 |[],xs,ns,h,e=>by cases e;rw[h.nil_eq];rfl
 |.int i::r,xs,ns,h,e=>by
  unfold Uz at e;obtain⟨l,O,rfl⟩:=aC.mp e;obtain⟨x,q,rfl,g,I⟩:=h.un;rw[Du]at g;subst g;rw[List.map_cons,I.ints O]
 |.none::_,_,_,_,e=>by cases e
 |.bool _::_,_,_,_,e=>by cases e
 |.str _::_,_,_,_,e=>by cases e
 |.tuple _::_,_,_,_,e=>by cases e
 |.list _::_,_,_,_,e=>by cases e
 |.dict _::_,_,_,_,e=>by cases e
def YW:MD
 |[.list xs]=>(Uz xs).map fun ns=>.int ns.sum
 |[.tuple xs]=>(Uz xs).map fun ns=>.int ns.sum
 |_=>none
def Z8(Y:X.calm=true):L4 X (.builtin "sum") YW:=by
 refine⟨_,(P7 Y).or (Zf Y),fun xs z g G0 H0 G H σ δ ts us Q O d k=>?_⟩;unfold YW at g;split at g
 .obtain⟨ns,U,rfl⟩:=aC.mp g;obtain⟨u,rfl,I⟩:=d.J3;rw[Du]at I;obtain⟨q,ys,rfl,T,R⟩:=I;refine .inl ⟨q,ns,rfl,by rw[<-R.ints U];exact Al.of (O.ins _ _ T),k _ _ _ (O.put (by rw[Du]))⟩
 .obtain⟨ns,U,rfl⟩:=aC.mp g;obtain⟨u,rfl,I⟩:=d.J3;rw[Du]at I;obtain⟨q,ys,rfl,T,R⟩:=I;refine .inr ⟨q,ns,rfl,by rw[<-R.ints U];exact BC.of (O.ins _ _ T),k _ _ _ (O.put (by rw[Du]))⟩
 .cases g
end
open PySem
abbrev fC(x:PD):Dv->Option PD:=fun _=>some x
abbrev Vf(f:Dv->Option PD):Dv->Option PD:=fun δ=>(f δ).bind fun x=>(Wr x).map fun i=>.int (-i)
abbrev qa(f:Dv->Option PD):Dv->Option PD:=fun δ=>(f δ).bind fun x=>(Lm x).map fun i=>.bool (!i)
abbrev SU(f g:Dv->Option PD):Dv->Option PD:=fun δ=>(f δ).bind fun x=>(Lm x).bind fun c=>if c=true then g δ else some (.bool false)
abbrev AG:Dv->Option (List PD):=fun _=>some []
abbrev AB(f:Dv->Option PD)(fs:Dv->Option (List PD)):Dv->Option (List PD):=fun δ=>(f δ).bind fun x=>(fs δ).map fun xs=>x::xs
abbrev BS(fs:Dv->Option (List PD)):Dv->Option PD:=fun δ=>((fs δ).bind IQ).map .tuple
abbrev B7(fs:Dv->Option (List PD)):Dv->Option PD:=fun δ=>((fs δ).bind IQ).map .list
abbrev AV(m:MD)(fs:Dv->Option (List PD)):Dv->Option PD:=fun δ=>(fs δ).bind m
abbrev IC(q:PD->Bool)(f:Dv->Option PD):Dv->Option PD:=fun δ=>(f δ).bind (XY q)
abbrev ML:Dv->Option (Option Int):=fun _=>some none
abbrev Mb(f:Dv->Option PD):Dv->Option (Option Int):=fun δ=>(f δ).bind fun x=>(Wr x).map some
abbrev P0(f:Dv->Option PD)(I g:Dv->Option (Option Int)):Dv->Option PD:=fun δ=>(f δ).bind fun x=>(I δ).bind fun l=>(g δ).bind fun u=>dr x l u
abbrev Dw(f:Dv->Option PD):Dv->Option Bool:=fun δ=>(f δ).bind Lm
abbrev CS(o:PD->PD->Option PD)(f g:Dv->Option PD):Dv->Option Bool:=fun δ=>(Ax o f g δ).bind Lm
abbrev Eg(f:Dv->Option Bool):Dv->Option Bool:=fun δ=>(f δ).map fun c=>!c
abbrev mF(f g:Dv->Option Bool):Dv->Option Bool:=fun δ=>(f δ).bind fun c=>if c=true then g δ else some false
abbrev HA(f g:Dv->Option Bool):Dv->Option Bool:=fun δ=>(f δ).bind fun c=>if c=true then some true else g δ
abbrev EF(f:Dv->Option PD):Dv->Option (List PD):=fun δ=>(f δ).bind IE
abbrev Kf(m:List PD->Option (List PD))(fs:Dv->Option (List PD)):Dv->Option (List PD):=fun δ=>(fs δ).bind m
abbrev Gk:Dv->Option Bool:=fun _=>some true
abbrev GQ(i:Nat):PD->Dv->Option Dv:=fun y δ=>some (δ.set i (.d y))
abbrev DC:DF:=fun δ=>some (.nx δ)
abbrev BW(f:Dv->Option PD):DF:=fun δ=>(f δ).map .rt
abbrev oP(f:Dv->Option PD):DF:=fun δ=>(f δ).map fun _=>.nx δ
abbrev Fo(c:Dv->Option Bool)(F G:DF):DF:=fun δ=>(c δ).bind fun c=>if c=true then F δ else G δ
abbrev Cy(i:Nat)(f:Dv->Option PD):DF:=fun δ=>(f δ).map fun y=>.nx (δ.set i (.d y))
abbrev X1(i:Nat)(fs:Dv->Option (List PD)):DF:=fun δ=>((fs δ).bind IQ).map fun ys=>.nx (δ.set i (.own (.lst ys)))
abbrev cR(i:Nat)(f:Dv->Option PD):DF:=fun δ=>(f δ).bind fun y=>(ow i δ).bind fun xs=>if xs.length<C9 then some (.nx (δ.set i (.own (.lst (xs++[y]))))) else none
abbrev jX(i:Nat)(f:Dv->Option PD):DF:=fun δ=>(f δ).bind fun y=>(ow i δ).bind fun xs=>match y with|.list g=>(if xs.length+g.length<=C9 then some (.nx (δ.set i (.own (.lst (xs++g))))) else none)|_=>none
abbrev FV(fs:Dv->Option (List PD))(set:PD->Dv->Option Dv)(F:DF):DF:=fun δ=>(fs δ).bind fun xs=>GR set F xs δ
abbrev kW(i:Nat)(F:DF):DF:=fun δ=>F (Fv i δ)
abbrev nK:DF:=fun δ=>some (.ct δ)
def EN{P:Program}{w:World}{K:Fg}{mg:rW}{base:Heap}{CX:Hi}{k:Nat}{f:AD}{fd:FuncData}{ps:rf}{sp:Sp}(h:∀vs H Q E,¬sp vs H Q E):AI P w K mg base CX k f fd ps sp :=
 ⟨fun _ _ _ _ z=>(h _ _ _ _ z).elim,fun _ _ _ _ _ _ _ _ _ _ _ _ _ z=>(h _ _ _ _ z).elim⟩
def RS{P:Program}{w:World}{K:Fg}{mg:rW}{base:Heap}{CX:Hi}{k:Nat}{f:AD}{fd:FuncData}{ps:rf}{sp:Sp}{m:MD}(F:AI P w K mg base CX k f fd ps sp) (h:∀ds x,m ds=some x->∀(G H:Hp) (vs:rq) (Q:VK) (E:XK),An G ds vs->AJ G H->(∀v g H',AJ G g->Nw G H g->AJ g H'->AJ H H'->Du g x v->Q v H')->sp vs H Q E):AI P w K mg base CX k f fd ps (BH m) :=
 F.imp fun vs H Q E z=>by
  obtain⟨ds,x,G,T,R,O,I⟩:=z;exact h ds x T G H vs Q E R O I
def A0(G H:Hp):Hp:=fun a=>match H a with
 |some (.tup xs)=>some (.tup xs)
 |_=>G a
def cN{G H:Hp}{a:AD}{xs:rq}(h:H a=some (.tup xs)):A0 G H a=some (.tup xs):=by unfold A0;rw[h]
section
variable{G0 H0 G H:Hp}{σ:St}{δ:Dv}{ts:List (PD×V)}
def Rw.A0(r:Rw G0 H0 G H σ δ ts):Rw G0 H0 (L2.A0 G H) H σ δ ts:=by
 have e:AJ G (L2.A0 G H):=fun a o h=>by
  unfold L2.A0;split
  .rename_i xs g;rw[r.ins _ _ h]at g;exact g.symm ▸ rfl
  .exact h
 refine⟨r.ext.trans e,fun a o h=>?_,fun a o h=>?_,r.keep,r.len,fun i x h=>?_,fun i xs h=>?_,r.apart,fun q Y=>(r.Bh q Y).same e⟩
 .unfold L2.A0 at h;split at h
  .cases h;exact .inr (.inr ⟨_,rfl⟩)
  .exact r.new _ _ h
 .unfold L2.A0 at h;split at h
  .rename_i xs g;rw[g];exact h
  .exact r.ins _ _ h
 .obtain⟨v,O,I⟩:=r.dat i x h;exact⟨v,O,I.same e⟩
 .obtain⟨a,ys,O,I,U,T,R⟩:=r.own i xs h;refine⟨a,ys,O,?_,U,T,R.same e⟩;unfold L2.A0;rw[T];split
  .rename_i q;cases q;exact R.VX.elim
  .exact I
end
def IM{G:Hp}:∀ {t:Tr} {xs:List V},An G (BE t) xs->Ts G t xs
 |.nil,xs,h=>by rw[BE]at h;rw[Ts];exact h.nil_eq
 |.cons b r,xs,h=>by
  rw[BE]at h;obtain⟨x,q,rfl,g,R⟩:=h.un;rw[Du]at g;obtain⟨a,ys,rfl,O,I⟩:=g;rw[Ts];exact⟨a,ys,q,rfl,O,IM I,IM R⟩
def Nc{G H:Hp}:∀ {t:Tr} {xs:List V},Ts H t xs->An (A0 G H) (BE t) xs
 |.nil,xs,h=>by rw[Ts]at h;rw[BE,h];exact .nil
 |.cons b r,xs,h=>by
  rw[Ts]at h;obtain⟨a,ys,R,rfl,O,I,g⟩:=h;rw[BE];refine .cons ?_ (Nc g);rw[Du];exact⟨a,ys,rfl,cN O,Nc I⟩
mutual
def Lq:∀ {ds:List PD} {t:Tr},DD ds=some t->ds=BE t
 |[],t,h=>by rw[DD]at h;cases h;rw[BE]
 |d::ds,t,h=>by
  rw[DD]at h;obtain⟨b,O,I⟩:=aB.mp h;obtain⟨r,g,rfl⟩:=aC.mp I;rw[BE,<-iK O,<-Lq g]
def iK:∀ {d:PD} {t:Tr},E9 d=some t->d=.tuple (BE t)
 |.tuple g,t,h=>by rw[E9]at h;rw[Lq h]
 |.none,_,h=>by simp[E9]at h
 |.bool _,_,h=>by simp[E9]at h
 |.int _,_,h=>by simp[E9]at h
 |.str _,_,h=>by simp[E9]at h
 |.list _,_,h=>by simp[E9]at h
 |.dict _,_,h=>by simp[E9]at h
end
def kf(rev:Bool)(t:Tr):rX:=if t.bs.length<64/\t.deep<=60 then some (.list (BE (Tr.of (if rev then Tr.CQ t.bs else(Tr.CQ t.bs).reverse)))) else none
def LX(rev:Bool):MD
 |[x]=>(IE x).bind fun g=>(DD g).bind (kf rev)
 |_=>none
section
variable{X:Cx}{a e:Expr}{f g:rQ}{fs:rP}{pos p:Pos}
def XQ{rev:Bool}{G0 H0 G H:Hp}{σ:St}{δ:Dv}{ts:List (PD×V)}{x z:PD}{u:V}{Q:VK}(Y:Rw G0 H0 G H σ δ ts)(du:Du G x u)(hz:LX rev [x]=some z)(k:∀w G' H',Rw G0 H0 G' H' σ δ ((z,w)::ts)->Q w H'):∃(p:AD) (ys:rq) (t:Tr),[u]=[.ref p]/\(Al X.K H p ys\/BC X.K H p ys)/\Ts H t ys/\ys.length<64/\t.deep<=60/\∀(l:AD) (O:rq),H l=none->Ts H (Tr.of (if rev then Tr.CQ t.bs else(Tr.CQ t.bs).reverse)) O->Q (.ref l) (upd H l (.lst O)):=by
 unfold LX at hz;obtain⟨ds,h1,h2⟩:=aB.mp hz;obtain⟨t,h3,I⟩:=aB.mp h2;unfold kf at I;split at I
 .rename_i hc;cases I;have U:=Lq h3;obtain⟨bb,a,ys,rfl,n1,Z⟩:=Uc du h1;rw[U]at Z;have ht:=(IM Z).same Y.ins;have hl:ys.length=t.bs.length:=by rw[ht.len]
  refine⟨a,ys,t,rfl,?_,ht,by lia,hc.2,fun l O T R=>?_⟩
  .have:=Y.ins _ _ n1;cases bb
   .exact .inl (Al.of (by simpa using this))
   .exact .inr (BC.of (by simpa using this))
  .have R1:=Y.A0;exact k _ _ _ (R1.N1 (Nc R) T)
 .cases I
def i3(O:X.A.units+64<cLine):L4 X (.builtin "sorted") (LX false):=by
 refine⟨_,Yo O,fun xs z I G0 H0 G H σ δ ts us Q T d k=>?_⟩;cases xs with
 |nil=>cases I
 |cons x r=>
  cases r with
  |cons y q=>cases I
  |nil=>
   obtain⟨u,rfl,R⟩:=d.J3;exact XQ T R I k
def dM{e:Expr}{p pos kp I:Pos}{j}(hu:X.A.units+64<cLine)(hg:Gl X "sorted")(hm:X.mg "sorted" = none)(ha:DA X [e] fs) (Y:∀ {t:TA},PA X [e] t->PE X (.Call (.Name "sorted" p) [e] [⟨some "reverse",.Constant (.bool true) j I,kp⟩] pos) (fun σ H Q=>t σ H fun vs R=>b8 X.K vs R Q)):DE X (.Call (.Name "sorted" p) [e] [⟨some "reverse",.Constant (.bool true) j I,kp⟩] pos) (AV (LX true) fs):=by
 obtain⟨t,p,k⟩:=ha;refine⟨_,Y p,fun δ z T G0 H0 G H σ ts Q R0 q=>?_⟩;obtain⟨xs,Z,O⟩:=aB.mp T;refine k δ _ Z G0 H0 G H σ ts _ R0 fun vs G1 R R1 U=>?_;obtain⟨d,R2⟩:=R1.args U;cases xs with
 |nil=>cases O
 |cons x r=>
  cases r with
  |cons y q=>cases O
  |nil=>
   obtain⟨u,rfl,du⟩:=d.J3;exact XQ (rev:=true) R2 du O q
def jT(x k:PD):rX:=match x,k with
 |.list xs,.int i=>if i=-1 then some (.list xs.reverse) else none
 |_,_=>none
abbrev jy(f g:Dv->Option PD):Dv->Option PD:=Ax jT f g
def mi{U:Pos}{k:Expr}(he:DE X e f)(hk:DE X k g):DE X (.Subscript e (.Slice none none (some k) U) pos) (jy f g):=by
 obtain⟨te,pe,ke⟩:=he;obtain⟨tk,T,kk⟩:=hk;refine⟨_,jP pe T,fun δ z hz G0 H0 G H σ ts Q R0 k=>?_⟩;obtain⟨x,y,h1,h2,I⟩:=two (x:=.none) (y:=.none) hz;refine ke δ x h1 G0 H0 G H σ ts _ R0 fun u G1 H1 R1=>?_;refine kk δ y h2 G0 H0 G1 H1 σ _ _ R1 fun v G2 H2 R2=>?_;have R:=R2.Bh (x,u) (.tail _ (.head _));have O:=R2.Bh (y,v) (.head _);unfold jT at I;split at I
 .split at I
  .rename_i hi;cases I;subst hi;rw[Du]at R;rw[Du]at O;obtain⟨a,ys,rfl,Z,Y⟩:=R;exact⟨a,ys,rfl,O,Al.of (R2.ins _ _ Z),fun q hq=>k _ _ _ (R2.drop.drop.N1 Y.rev hq)⟩
  .cases I
 .cases I
end
def cK:L->L
 |.own (.lst xs)=>.d (.list xs)
 |.own (.U1 kvs)=>.d (Tw kvs)
 |.own _=>.no
 |l=>l
def Jw(δ:Dv):Dv:=δ.map cK
section
variable{G0 H0 G H:Hp}{σ:St}{δ:Dv}{ts:List (PD×V)}
def Rw.Jw(r:Rw G0 H0 G H σ δ ts):Rw H H H H σ (L2.Jw δ) ts:=by
 refine⟨AJ.refl _,fun _ _ h=>.inl h,AJ.refl _,AJ.refl _,by rw[L2.Jw,List.length_map];exact r.len,fun i x h=>?_,fun i xs h=>?_,fun i j xs ys _ h=>?_,fun q hq=>(r.Bh q hq).same r.ins⟩
 .unfold L2.Jw at h;rw[List.getElem?_map]at h;obtain⟨l,R,g⟩:=aC.mp h;unfold cK at g;split at g
  .rename_i xs;cases g;obtain⟨a,_,O,Y,k3,U,⟨ys,rfl,T⟩⟩:=r.own i _ R;refine⟨.ref a,O,?_⟩;rw[Du];exact⟨a,ys,rfl,U,T.same r.ins⟩
  .rename_i kvs;cases g;obtain⟨a,_,O,Y,k3,U,⟨Z,rfl,T,k6⟩⟩:=r.own i _ R;refine⟨.ref a,O,?_⟩;rw[Du,LO];exact .inr (.inr ⟨rfl,rfl,a,Z,rfl,U,T,Lr.same r.ins k6⟩)
  .cases g
  .subst g;obtain⟨v,O,Y⟩:=r.dat i x R;exact⟨v,O,Y.same r.ins⟩
 all_goals
  unfold L2.Jw at h;rw[List.getElem?_map]at h;obtain⟨l,R,g⟩:=aC.mp h;unfold cK at g;split at g
  .cases g
  .cases g
  .cases g
  .rename_i n1 n3 n2;subst g;cases xs with
   |lst I=>exact(n1 I rfl).elim
   |U1 I=>exact(n3 I rfl).elim
   |Zq I=>exact(n2 (.Zq I) rfl).elim
def Rw.on{H':Hp}(r:Rw G0 H0 G H σ δ ts)(e:AJ H H'):Rw G0 H0 G H' σ δ ts:=r.lift (AJ.refl _) Nw.refl (r.ins.trans e) e
def Qp:PD->Option PD
 |.none=>some .none
 |.bool b=>some (.bool b)
 |.int i=>some (.int i)
 |.str x=>some (.str x)
 |_=>none
def iq{G g:Hp}{x z:PD}{v:V}(h:Qp x=some z)(d:Du G x v):Du g z v:=by
 unfold Qp at h;split at h
 all_goals first|(cases h;rw[Du]at d ⊢;exact d)|cases h
def Rw.gw{i:Nat}{xs:Oc}{ys:HO}{a:AD}(r:Rw G0 H0 G H σ δ ts)(d:Hn G a xs ys)(ha:H a=some ys)(hG:G a=none)(h0:H0 a=none)(O:∀(j:Nat) (I:Oc),δ[j]? = some (L.own I)->σ[j]?≠some (some (V.ref a))):Rw G0 H0 G H (σ.set i (some (.ref a))) (δ.set i (.own xs)) ts:=by
 have hl:=r.len;have other:∀(j:Nat) (I:Oc),i≠j->(δ.set i (.own xs))[j]? = some (L.own I)->δ[j]? = some (L.own I):=fun j I g h=>by rw[List.getElem?_set_ne g]at h;exact h
 refine⟨r.ext,r.new,r.ins,r.keep,by simp[hl],fun j y h=>?_,fun j I h=>?_,fun j l us Z Y T R=>?_,r.Bh⟩
 .by_cases g:i=j
  .subst g;by_cases hi:i<δ.length
   .rw[List.getElem?_set_self hi]at h;cases h
   .rw[List.getElem?_eq_none (by simp;lia)]at h;cases h
  .rw[List.getElem?_set_ne g]at h;obtain⟨w,m1,m2⟩:=r.dat j y h;exact⟨w,by rw[List.getElem?_set_ne g];exact m1,m2⟩
 .by_cases g:i=j
  .subst g;by_cases hi:i<δ.length
   .rw[List.getElem?_set_self hi]at h;cases h;exact⟨a,ys,by rw[List.getElem?_set_self (by lia)],hG,h0,ha,d⟩
   .rw[List.getElem?_eq_none (by simp;lia)]at h;cases h
  .have h:=other j I g h;obtain⟨b,us,m1,m2,m3,m4,m5⟩:=r.own j I h;exact⟨b,us,by rw[List.getElem?_set_ne g];exact m1,m2,m3,m4,m5⟩
 .by_cases g:i=j
  .subst g;have U:i≠l:=Y;have R:=other l Z U R;by_cases hi:i<δ.length
   .rw[List.getElem?_set_self (by lia),List.getElem?_set_ne U];exact fun z=>O l Z R z.symm
   .rw[List.getElem?_eq_none (by simp;lia)]at T;cases T
  .have T:=other j us g T;by_cases hk:i=l
   .subst hk;by_cases hi:i<δ.length
    .rw[List.getElem?_set_self (by lia),List.getElem?_set_ne g];exact fun z=>O j us T z
    .rw[List.getElem?_eq_none (by simp;lia)]at R;cases R
   .have R:=other l Z hk R;rw[List.getElem?_set_ne g,List.getElem?_set_ne hk];exact r.apart j l us Z Y T R
end
def Mn(g:RW):Sp:=fun vs H Q _=>∃O xs G,g O=some xs/\An G O vs/\AJ G H/\∀a ys I H',AJ G I->Nw G H I->AJ I H'->AJ H H'->H a=none->I a=none->H' a=some (.lst ys)->An I xs ys->Q (.ref a) H'
abbrev ZP(m:List PD->Option (List PD)):MD:=fun g=>(m g).map .list
def fq{P:Program}{w:World}{K:Fg}{mg:rW}{base:Heap}{CX:Hi}{k:Nat}{f:AD}{fd:FuncData}{ps:rf}{m:RW}(F:AI P w K mg base CX k f fd ps (Mn m)):AI P w K mg base CX k f fd ps (BH (ZP m)) :=
 F.imp fun vs H Q E z=>by
  obtain⟨ds,x,G,h1,h2,h3,h4⟩:=z;obtain⟨xs,h5,rfl⟩:=aC.mp h1;exact⟨ds,xs,G,h5,h2,h3,fun a ys G' H' m1 m2 m3 m4 Z Y U T=>let⟨R,O,I,g⟩:=Yi m1 m2 m3 Z Y U T;h4 _ _ H' R O I m4 g⟩
section
variable{X:Cx}{a b e:Expr}{es:rg}{f h:rQ}{fs:rP}{fa:rR}{pos p:Pos}
abbrev Tt(f:Dv->Option Bool):Dv->Option Bool:=fun δ=>f (Jw δ)
def SO(h:DT X e fa):DT X e (Tt fa):=by
 obtain⟨t,p,k⟩:=h;refine⟨t,p,fun δ z g G0 H0 G H σ ts Q R q=>?_⟩;exact k _ z g H H H H σ ts Q R.Jw fun O H' I=>q _ _ (R.on I.keep)
abbrev Xm(i:Nat)(m:List PD->Option (List PD))(fs:Dv->Option (List PD)):DF:=fun δ=>((fs δ).bind m).map fun xs=>.nx (δ.set i (.own (.lst xs)))
def XM{k i:Nat}{fA:AD}{fd:FuncData}{ps:rf}{m:RW}{x y:Str}{st:Stmt}{I g:Pos}(T:Fn X.K X.mg x st ps fA fd)(F:AI X.prog X.w X.K X.mg X.base Aa k fA fd ps (Mn m))(hr:CG k X.A)(hg:Gl X x)(ha:DA X (e::es) fs) (hN:X.N.Nodup)(hi:X.N[i]? = some y)(hx:Loc X.env.scope y) (Z:(x==("__debug__" : Str))=false:=by decide)(he:starEach (e::es) X.env=(false,eval e X.env)::starEach es X.env:=by rfl)(Y:(backTo pos (starEach es X.env)).any (·.1)=false:=by rfl) (hs:swapsWith (.Call (.Name x p) (e::es) [] pos) (some (.Name y I)) g.line X.env=pure false:=by rfl)(hf:X.fn y=true\/X.env.scope.names.lookup y=some .local:=by first|exact .inl rfl|exact .inr rfl|assumption):DS X (.Assign [.Name y I] (.Call (.Name x p) (e::es) [] pos) g) (Xm i m fs):=by
 obtain⟨ta,pa,ka⟩:=ha;refine⟨_,A8 hN hi hx (Cu T F hr hg pa Z he Y) hs hf,fun δ r hz G0 H0 G H σ D R q=>?_⟩;obtain⟨U,hy,rfl⟩:=aC.mp hz;obtain⟨xs,h1,h2⟩:=aB.mp hy;refine ka δ _ h1 G0 H0 G H σ [] _ R fun vs G1 H1 R1 hv=>?_;obtain⟨d,R2⟩:=R1.args hv;refine⟨xs,U,G1,h2,by rw[List.append_nil];exact d,R2.ins,fun a ys G' H' m1 m2 m3 m4 O m6 m7 m8=>?_⟩;refine q _ _ _ ((R2.lift m1 m2 m3 m4).gw ⟨ys,rfl,m8⟩ m7 m6 ?_ fun j U hj z=>?_)
 .cases q:H0 a with
  |none=>rfl
  |some u=>rw[R2.keep _ _ q]at O;cases O
 .obtain⟨b,us,k1,k2,k3,k4,k5⟩:=R2.own j U hj;rw[k1]at z;cases z;rw[k4]at O;cases O
end
section
variable{F F1 F2:DF}{δ δ':Dv}{r:Option Ou}{c:rR}{f g:rQ}{fs:rP}
def Af(h:F1 δ=some (.nx δ'))(k:F2 δ'=r):Au F1 F2 δ=r:=by unfold Au;rw[h];exact k
def LU{x:PD}(h:F1 δ=some (.rt x)):Au F1 F2 δ=some (.rt x):=by unfold Au;rw[h]
def OI(h:c δ=some true)(k:F1 δ=r):Fo c F1 F2 δ=r:=by show(c δ).bind _=r;rw[h];exact k
def Ci(h:c δ=some false)(k:F2 δ=r):Fo c F1 F2 δ=r:=by show(c δ).bind _=r;rw[h];exact k
def F6{i:Nat}{y:PD}(h:f δ=some y):Cy i f δ=some (.nx (δ.set i (.d y))):=by show(f δ).map _=_;rw[h];rfl
def Ez{y:PD}(h:f δ=some y):BW f δ=some (.rt y):=by show(f δ).map _=_;rw[h];rfl
def BL{o:PD->PD->Option PD}{x y:PD}{z:rX}(R:f δ=some x)(O:g δ=some y)(I:o x y=z):Ax o f g δ=z:=by unfold Ax;rw[R,O];exact I
def A4{m:MD}{xs:rS}{z:rX}(O:fs δ=some xs)(I:m xs=z):AV m fs δ=z:=by show(fs δ).bind m=z;rw[O];exact I
def Bf{x:PD}{xs:rS}(O:f δ=some x)(I:fs δ=some xs):AB f fs δ=some (x::xs):=by show(f δ).bind _=_;rw[O];show(fs δ).map _=_;rw[I];rfl
def i0{xs:rS}(h:fs δ=some xs)(I:xs.length<=C9):B7 fs δ=some (.list xs):=by show((fs δ).bind IQ).map _=_;rw[h];show(IQ xs).map _=_;unfold IQ;rw[if_pos I];rfl
def W0{xs:rS}(h:fs δ=some xs)(I:xs.length<=C9):BS fs δ=some (.tuple xs):=by show((fs δ).bind IQ).map _=_;rw[h];show(IQ xs).map _=_;unfold IQ;rw[if_pos I];rfl
def CL{o:PD->PD->Option PD}{x y:PD}{b:Bool}(R:f δ=some x)(O:g δ=some y)(I:o x y=some (.bool b)):CS o f g δ=some b:=by show(Ax o f g δ).bind Lm=_;rw[BL R O I];rfl
def El{a b:rR}{q:Option Bool}(h:a δ=some false)(k:b δ=q):HA a b δ=q:=by show(a δ).bind _=q;rw[h];exact k
def nr{a b:rR}(h:a δ=some true):HA a b δ=some true:=by show(a δ).bind _=_;rw[h];rfl
def Fd{a:rR}{b:Bool}(h:a δ=some b):Eg a δ=some (!b):=by show(a δ).map _=_;rw[h];rfl
def Ex{b:Bool}(h:f δ=some (.bool b)):Dw f δ=some b:=by show(f δ).bind Lm=_;rw[h];rfl
def Ud{set:PD->Dv->Option Dv}(R:Nat->Dv->Prop):∀(xs:List PD) (δ:Dv) (n:Nat),R n δ->(∀(i:Nat) (x:PD) (δ:Dv),xs[i]? = some x->R (n+i) δ->∃O I,set x δ=some O/\F O=some (.nx I)/\R (n+i+1) I) ->
  ∃δ',GR set F xs δ=some (.nx δ')/\R (n+xs.length) δ'
 |[],δ,n,h,_=>⟨δ,rfl,h⟩
 |x::xs,δ,n,h,k=>by
  obtain⟨O,I,h1,h2,h3⟩:=k 0 x δ rfl h;obtain⟨δ',Z,Y⟩:=Ud R xs I (n+1) h3 fun i y δ T U=>by
   have:=k (i+1) y δ (by simpa using T) (by rw[show n+(i+1)=n+1+i by lia];exact U);rw[show n+(i+1)+1=n+1+i+1 by lia]at this;exact this
  refine⟨δ',?_,by rw[List.length_cons,show n+(xs.length+1)=n+1+xs.length by lia];exact Y⟩;unfold GR;rw[h1,Option.bind_some,h2];exact Z
def cu{set:PD->Dv->Option Dv}{xs:rS}(R:Nat->Dv->Prop)(T:fs δ=some xs)(h0:R 0 δ)(Y:∀(i:Nat) (x:PD) (δ:Dv),xs[i]? = some x->R i δ->∃O I,set x δ=some O/\F O=some (.nx I)/\R (i+1) I):∃δ',FV fs set F δ=some (.nx δ')/\R xs.length δ':=by
 obtain⟨δ',h1,Z⟩:=Ud (F:=F) (set:=set) R xs δ 0 h0 fun i x δ T U=>by
  have:=Y i x δ T (by simpa using U)
  simpa using this
 refine⟨δ',?_,by simpa using Z⟩;show(fs δ).bind _=_;rw[T];exact h1
def PK{one:PD->Option (Option PD)}{g:PD->PD}:∀ {xs:List PD},(∀x∈xs,one x=some (some (g x)))->collect one xs=some (xs.map g)
 |[],_=>rfl
 |x::xs,h=>by
  unfold collect;rw[h x (.head _),Option.bind_some,PK fun y I=>h y (.tail _ I)]
  rfl
def comp_map{ix:Nat}{fr:sF}{xs:rS}{g:PD->PD}(I:fs δ=some xs)(O:xs.length<=C9)(h:∀x∈xs,f ((Dd fr δ).set ix (.d x))=some (g x)):Dl (Cv ix) Gk f fr fs δ=some (.list (xs.map g)):=by
 unfold Dl IL;rw[I,Option.bind_some,PK (g:=g) fun x I=>?_,Option.bind_some,IQ,if_pos (by rw[List.length_map];exact O)]
 .rfl
 .unfold LG Cv;rw[Option.bind_some];show(some true).bind _=_;rw[Option.bind_some,if_pos rfl,h x I]
  rfl
end
def C5{ps N:rf}{F:DF}{ds:rS}{x:PD}(g:ds.length=ps.length)(h:F (HE N ds)=some (.rt x)):C8 ps N F ds=some x:=by unfold C8;rw[if_pos g,h]
def Yy{n:Nat}{i:Int}(h:i.natAbs<2^n):Ir n i=true:=decide_eq_true h
def lZ{i j:Int}(h:Qd i j=true):K6 (.int i) (.int j)=some (.int (i*j)):=by
 show So X6 YU (.int i) (.int j)=_;unfold So;rw[show X6 (.int i) (.int j)=some (.int (i*j)) from if_pos h]
def mul_r{i j:Int}(h:j.natAbs<2^64):K6 (.int i) (.int j)=some (.int (i*j)):=lZ (by unfold Qd;rw[Yy h];simp)
def mod_is{i j:Int}(h:0<j):HD (.int i) (.int j)=some (.int (i % j)):=by
 show(if j≠0 then some (PyData.int (i.fmod j)) else none)=_;rw[if_pos (by lia),Int.fmod_eq_emod_of_nonneg _ (by lia)]
def Yz{i:Int}{n:Nat}(hn:n<=1000)(hi:Ir 64 i=true):NU (.int i) (.int (n:Int))=some (.int (i^n)):=by
 show(if 0<=(n:Int)/\(n:Int)<=1000/\Ir 64 i=true then some (PyData.int (i^(n:Int).toNat)) else none)=_;rw[if_pos ⟨by lia,by lia,hi⟩,Int.toNat_natCast]
def LB(C:AD):PD:=.dict [(.int (C:Nat),.none)]
def Dp(ns:rd):PD:=.dict [(.none,.list (ns.map .int))]
def Z7{H:Hp}{a:AD}{ns:rd}(h:Rd H a (.lst (ns.map V.int))):Du H (Dp ns) (.ref a):=by unfold Dp;rw[Du];exact .inr (.inl ⟨a,ns,rfl,rfl,h⟩)
def Tx(K:Fg):Bool:=K.all fun p=>match p.2.cls with|.type n=>n != "list" |_=>true
def Ol{a:AD}{o:Obj}:∀ {K:Fg},K.lookup a=some o->(a,o)∈K
 |[],h=>by cases h
 |(b,u)::K,h=>by
  rw[List.lookup_cons]at h;split at h
  .rename_i e;cases h;rw[show a=b from by simpa using e];exact .head _
  .exact .tail _ (Ol h)
def j0{K:Fg}{H:Hp}{a:AD}{xs:rq}(g:Tx K=true)(h:Al K H a xs):Rd H a (.lst xs):=by
 rcases h with h|⟨o,I,n,R,O,_⟩
 .exact h
 .unfold Tx at g;rw[List.all_eq_true]at g;have:=g _ (Ol R);rw[O]at this;exact absurd this (by decide)
abbrev Xr:=PD ⊕ AD
abbrev rN:=List PD->Option Xr
def FE(g:rN):Sp:=fun vs H Q E=>∃O r G,g O=some r/\An G O vs/\AJ G H/\match r with
 |.inl x=>∀v I H',AJ G I->Nw G H I->AJ I H'->AJ H H'->Du I x v->Q v H'
 |.inr C=>∀H',AJ H H'->E (.ref C) none H'
abbrev fM:=Ou ⊕ AD
abbrev FZ:=Dv->Option fM
def lC(G0 H0:Hp)(D:Ends)(E:XK):fM->Prop
 |.inl o=>Fin G0 H0 D o
 |.inr C=>∀H',AJ H0 H'->E (.ref C) none H'
def DX(X:Cx)(E:XK)(st:Stmt)(F:FZ):Prop:=∃t,PS X st t/\∀δ r,F δ=some r->∀G0 H0 G H σ D,Rw G0 H0 G H σ δ []->lC G0 H0 D E r->t D σ H
def Sz(X:Cx)(E:XK)(g:sD)(F:FZ):Prop:=∃t,GV X g t/\∀δ r,F δ=some r->∀G0 H0 G H σ D,Rw G0 H0 G H σ δ []->lC G0 H0 D E r->t D σ H
section
variable{X:Cx}{E:XK}{b c e:Expr}{es:rg}{f h:rQ}{fs:rP}{fa:rR}{pos p:Pos}{st:Stmt}{sts sts':sD}{F:DF}{J J1 J2:FZ}
def eU{t:TS}(h:GV X.GZ sts t):GV X sts t:=fun pins s σ H D I k=>aU (h pins s σ H D (I.GS _) k) (fun _ _ z=>z.EE) fun _ _ z=>z.elim
def Z3{t:TE}(h:PE X.GZ e t):PE X e t:=fun pins s σ H Q I k=>aU (h pins s σ H Q (I.GS _) k) (fun _ _ ⟨v,H',g,r,q⟩=>⟨v,H',g.EE,r,q⟩) fun _ _ z=>z.elim
def kM{t:TT}(h:PT X.GZ e t):PT X e t:=fun pins s σ H Q I k=>aU (h pins s σ H Q (I.GS _) k) (fun _ _ ⟨H',g,q⟩=>⟨H',g.EE,q⟩) fun _ _ z=>z.elim
def bU{t:TA}(h:PA X.GZ es t):PA X es t:=fun p pins s σ H Q I k=>aU (h p pins s σ H Q (I.GS _) k) (fun _ _ ⟨v,H',g,r,q⟩=>⟨v,H',g.EE,r,q⟩) fun _ _ z=>z.elim
abbrev W5(F:DF):FZ:=fun δ=>(F δ).map .inl
def Qn(h:Lx X.GZ sts F):Sz X E sts (W5 F):=by
 obtain⟨t,p,k⟩:=h;refine⟨t,eU p,fun δ r h G0 H0 G H σ D R q=>?_⟩;obtain⟨o,g,rfl⟩:=aC.mp h;exact k δ o g G0 H0 G H σ D R q
def Ih(J1 J2:FZ)(δ:Dv):Option fM:=match J1 δ with
 |some (.inl (.nx g))=>J2 g
 |o=>o
def Le:Sz X E [] (fun δ=>some (.inl (.nx δ))):=⟨_,EL,fun δ r h G0 H0 G H σ D R k=>by cases h;exact k _ _ _ R⟩
def Ff(h:DX X E st J):Sz X E [st] J:=by
 obtain⟨t,p,k⟩:=h;exact⟨t,A3 p,k⟩
def ID(h1:DX X E st J1)(Z:Sz X E sts J2):Sz X E (st::sts) (Ih J1 J2):=by
 obtain⟨t1,U,I⟩:=h1;obtain⟨t2,T,Y⟩:=Z;refine⟨_,AX U T,fun δ r h G0 H0 G H σ D R q=>?_⟩;unfold Ih at h;split at h
 .rename_i g e1;exact I δ _ e1 G0 H0 G H σ _ R fun O G' H' R'=>Y g r h G0 H0 G' H' O D R' q
 .rename_i o hn;cases r with
  |inr C=>exact I δ _ h G0 H0 G H σ _ R q
  |inl o'=>
   cases o' with
   |nx g=>exact absurd h (hn g)
   |rt x=>exact I δ _ h G0 H0 G H σ _ R q
   |bk x=>exact I δ _ h G0 H0 G H σ _ R q
   |ct x=>exact I δ _ h G0 H0 G H σ _ R q
   |rn x=>exact I δ _ h G0 H0 G H σ _ R q
abbrev TK(c:Dv->Option Bool)(J1 J2:FZ):FZ:=fun δ=>(c δ).bind fun b=>if b=true then J1 δ else J2 δ
def RI(hc:DT X.GZ c fa)(h1:Sz X E sts J1)(h2:Sz X E sts' J2):DX X E (.If c sts sts' pos) (TK fa J1 J2):=by
 obtain⟨tc,pc,Z⟩:=hc;obtain⟨t1,Y,k1⟩:=h1;obtain⟨t2,U,k2⟩:=h2;refine⟨_,Gi (kM pc) Y U,fun δ r h G0 H0 G H σ D R q=>?_⟩;obtain⟨b,h3,g⟩:=aB.mp h;refine Z δ _ h3 G0 H0 G H σ [] _ R fun T O I=>?_;split
 .rename_i hb;rw[if_pos hb]at g;exact k1 δ r g G0 H0 T O σ D I q
 .rename_i hb;rw[if_neg hb]at g;exact k2 δ r g G0 H0 T O σ D I q
abbrev Lj(C:AD)(f:Dv->Option PD):FZ:=fun δ=>(f δ).map fun _=>.inr C
def Ji{x:Str}{C:AD}{np I:Pos}(T:Exc X.K X.mg x C)(Y:Lets X E)(U:DE X.GZ e f)(g:X.calm=true:=by rfl)(hg:Gl X x:=by rfl)(hd:(x==("__debug__" : Str))=false:=by decide) (O:starEach [e] X.env=[(false,eval e X.env)]:=by rfl):DX X E (.Raise (some (.Call (.Name x np) [e] [] I)) none pos) (Lj C f):=by
 obtain⟨t,p,k⟩:=U;refine⟨_,eP T Y g hg (Z3 p) hd O,fun δ r h G0 H0 G H σ D R q=>?_⟩;obtain⟨y,Z,rfl⟩:=aC.mp h;exact k δ y Z G0 H0 G H σ [] _ R fun v G' H' R'=>q _ R'.keep
def bj{k:Nat}{m:rN}{I:TA}(Y:∀δ xs,fs δ=some xs->∀G0 H0 G H σ ts (Q:List V->Hp->Prop),Rw G0 H0 G H σ δ ts->(∀vs g H',Rw G0 H0 g H' σ δ (xs.zip vs++ts)->vs.length=xs.length->Q vs H')->I σ H Q) {δ:Dv}{r:Xr}(hz:(fs δ).bind m=some r){G0 H0 G H:Hp}{σ:St}{Q:VK}{T:XK}(R:Rw G0 H0 G H σ δ [])(q1:∀x,r=.inl x->∀v g H',Rw G0 H0 g H' σ δ [(x,v)]->Q v H')(U:∀C,r=.inr C->∀g H',Rw G0 H0 g H' σ δ []->T (.ref C) none H'):I σ H fun vs O=>FE m (vs++[]) O Q T:=by
 obtain⟨xs,h1,h2⟩:=aB.mp hz;refine Y δ _ h1 G0 H0 G H σ [] _ R fun vs G1 O R1 Z=>?_;obtain⟨d,R2⟩:=R1.args Z;refine⟨xs,r,G1,h2,by rw[List.append_nil];exact d,R2.ins,?_⟩;cases r with
 |inl x=>exact fun v g H' h3 h4 h5 h6 h7=>q1 x rfl _ _ _ ((R2.lift h3 h4 h5 h6).put h7)
 |inr C=>exact fun H' h=>U C rfl _ _ (R2.on h)
section
variable{k:Nat}{fA:AD}{fd:FuncData}{ps:rf}{m:rN}{x:Str}{st':Stmt}
abbrev OP(m:List PD->Option Xr)(fs:Dv->Option (List PD))(nx:PD->Dv->Ou):FZ:=fun δ=>((fs δ).bind m).map fun r=>match r with
 |.inl x=>.inl (nx x δ)
 |.inr C=>.inr C
def OS(T:Fn X.K X.mg x st' ps fA fd)(F:AI X.prog X.w X.K X.mg X.base (CD X.prog X.w) k fA fd ps (FE m))(hr:CG k X.A)(hP:Passes (CD X.prog X.w) X E)(ha:DA X.GZ (e::es) fs) {g:Pos}(U:∀ {t:TE},PE X (.Call (.Name x p) (e::es) [] pos) t->PS X (.Expr (.Call (.Name x p) (e::es) [] pos) g) (RN t)) (hg:Gl X x:=by rfl)(O:(x==("__debug__" : Str))=false:=by decide)(he:starEach (e::es) X.env=(false,eval e X.env)::starEach es X.env:=by rfl)(I:(backTo pos (starEach es X.env)).any (·.1)=false:=by rfl):DX X E (.Expr (.Call (.Name x p) (e::es) [] pos) g) (OP m fs fun _ δ=>.nx δ):=by
 obtain⟨ta,Z,ka⟩:=ha;refine⟨_,U (Zv T F hr hg hP (bU Z) O he I),fun δ r h G0 H0 G H σ D R q=>?_⟩;obtain⟨z,h1,rfl⟩:=aC.mp h;refine bj (k:=k) ka h1 R (fun x hx v G' H' Y=>?_) (fun C hC G' H' Y=>?_)
 .subst hx;exact q _ _ _ Y.drop
 .subst hC;exact q _ Y.keep
end
end
def Rw.Tp{G0 H0 G H:Hp}{σ:St}{δ:Dv}{ts:List (PD×V)}(k:Nat)(o:Option V)(r:Rw G0 H0 G H σ δ ts):Rw G0 H0 G H (σ.set k o) (δ.set k .no) ts:=by
 have ne:∀(j:Nat) (l:L),l≠.no->(δ.set k .no)[j]? = some l->k≠j/\δ[j]? = some l:=fun j l hl h=>by
  by_cases R:k=j
  .subst R;by_cases hi:k<δ.length
   .rw[List.getElem?_set_self hi]at h;cases h;exact absurd rfl hl
   .rw[List.getElem?_eq_none (by simp;lia)]at h;cases h
  .rw[List.getElem?_set_ne R]at h;exact⟨R,h⟩
 refine⟨r.ext,r.new,r.ins,r.keep,by simp[r.len],fun j y h=>?_,fun j Y h=>?_,fun j l us Z O U T=>?_,r.Bh⟩
 .obtain⟨n,h⟩:=ne j _ (by simp) h;obtain⟨w,I,g⟩:=r.dat j y h;exact⟨w,by rw[List.getElem?_set_ne n];exact I,g⟩
 .obtain⟨n,h⟩:=ne j _ (by simp) h;obtain⟨b,us,I,g⟩:=r.own j Y h;exact⟨b,us,by rw[List.getElem?_set_ne n];exact I,g⟩
 .obtain⟨n1,U⟩:=ne j _ (by simp) U;obtain⟨n2,T⟩:=ne l _ (by simp) T;rw[List.getElem?_set_ne n1,List.getElem?_set_ne n2];exact r.apart j l us Z O U T
section
variable{X:Cx}{a b:Expr}{f:rQ}{pos:Pos}
def i7(T:AD->Option Bool):PD->Option PD
 |.dict [(.int C,.none)]=>(T C.toNat).map .bool
 |_=>none
abbrev Uq(T:AD->Option Bool)(f:Dv->Option PD):Dv->Option PD:=fun δ=>(f δ).bind (i7 T)
def U7{T:AD->Option Bool}{U:V}{g:Str}{p1 I:Pos}(hk:∀C b,T C=some b->F3 X.K C/\PySem.W.kitOne X.K (.ref C) (HC U)=some b)(hn:HC U≠.none)(hg:Gl X "isinstance")(hm:X.mg "isinstance" = none)(hT:PE X (.Name g I) (tC U))(ha:DE X a f) (O:starEach [a,.Name g I] X.env=(false,eval a X.env)::starEach [.Name g I] X.env:=by rfl)(Y:(backTo pos (starEach [.Name g I] X.env)).any (·.1)=false:=by rfl):DE X (.Call (.Name "isinstance" p1) [a,.Name g I] [] pos) (Uq T f):=by
 obtain⟨ta,pa,ka⟩:=ha;refine⟨_,Ct Yt hg hm PyProof.Rows.boot_isinstance (AK pa (AK hT AY) O) (by decide) (by decide) O Y,fun δ z hz G0 H0 G H σ ts Q R0 k=>?_⟩;obtain⟨x,h1,R⟩:=aB.mp hz;unfold i7 at R;split at R
 .rename_i C;obtain⟨bb,h3,rfl⟩:=aC.mp R;refine ka δ _ h1 G0 H0 G H σ ts _ R0 fun u G1 H1 R1=>?_;have du:=R1.Bh _ (.head _);rw[Du]at du;rcases du with ⟨ea,C',Z,rfl,h4⟩|⟨_,_,Z,_⟩|z
  rotate_left
  .simp at Z
  .rw[LO]at z;cases z.1
  have:C=(C':Nat):=by simpa using Z
  subst this;obtain⟨k1,k2⟩:=hk _ _ h3;rw[Int.toNat_natCast]at k1 k2;exact⟨ea,C',U,bb,rfl,hn,R1.ins _ _ h4,k1,k2,k _ _ _ (R1.drop.put (by rw[Du]))⟩
 .cases R
end
def Fj(ps N:rf)(J:FZ)(ds:rS):Option Xr:=if ds.length=ps.length then(match J (HE N ds) with
 |some (.inl (.rt x))=>some (.inl x)
 |some (.inl (.nx _))=>some (.inl .none)
 |some (.inl (.rn xs))=>some (.inl (.list xs))
 |some (.inr C)=>some (.inr C)
 |_=>none) else none
section
variable{P:Program}{w:World}{K:Fg}{mg:rW}{base:Heap}{x:Str}{st:Stmt}{fA:AD}{fd:FuncData}{N ps:rf}{k:Nat}
def Q9{qual:Str}{scope:Scope}{R:VL}{A:Around}{outer:sE}{s:SD}{H:Hp}{E:XK}:Lets (Ck (CD P w) P w K mg base N qual scope fA R A outer s H E) E:=fun _ _ _ _ _ _ _ _ I g O=>gX I g O
def Ki{qual:Str}{scope:Scope}{g:VL}{A:Around}{outer:sE}{s:SD}{H:Hp}{E:XK}:Passes (CD P w) (Ck (CD P w) P w K mg base N qual scope fA g A outer s H E) E:=nh fun _ _ _ z=>z
def NR{J:FZ}(T:Fn K mg x st ps fA fd)(S:AZ N ps (AM st)) (hb:∀(cdv:VL) (A:Around) (outer:sE) (s:SD) (H:Hp) (E:XK),CG k (A.deeper (envOfC x (AM st) s.heap.objs.size fA cdv))->Sz (Ck (CD P w) P w K mg base N x (AM st) fA cdv A outer s H E) E (DM st) J):AI P w K mg base (CD P w) (k+1) fA fd ps (FE (Fj ps N J)):=by
 refine T.F.rJ S (fun vs H Q E h=>?_) fun cdv A outer s H vs Q E hr h=>?_
 .obtain⟨ds,y,G,g,O,_⟩:=h;unfold Fj at g;split at g
  .rename_i hl;rw[O.len];exact hl
  .cases g
 .obtain⟨ds,y,G,g,O,Z,Y⟩:=h;obtain⟨t,p,U⟩:=hb cdv A outer s H E hr;refine⟨t,p,?_⟩;unfold Fj at g;split at g
  .split at g
   .rename_i z I;cases g;exact U _ _ I G H G H _ _ (Rw.start O Z) fun v G' H' m1 m2 m3 m4 m5=>Y v G' H' m1 m2 m3 m4 m5
   .rename_i δ I;cases g;exact U _ _ I G H G H _ _ (Rw.start O Z) fun σ' G' H' R=>Y .BP G' H' R.ext R.new R.ins R.keep (by rw[Du])
   .rename_i xs I;cases g;exact U _ _ I G H G H _ _ (Rw.start O Z) fun a ys G' H' m1 m2 m3 m4 m5 m6 m7 m8=>let⟨n1,n2,n3,n4⟩:=Yi m1 m2 m3 m5 m6 m7 m8;Y _ _ H' n1 n2 n3 m4 n4
   .rename_i C I;cases g;exact U _ _ I G H G H _ _ (Rw.start O Z) Y
   .cases g
  .cases g
def AI.q9{sp g:Sp}(F:AI P w K mg base (CD P w) k fA fd ps sp)(h:∀vs H Q E,g vs H Q E->sp vs H Q fun _ _ _=>False):AI P w K mg base Aa k fA fd ps g :=
 ⟨fun vs H Q E z=>F.len _ _ _ _ (h _ _ _ _ z),fun A outer s H args us vs Q E R T hb I O=>codeAny_mono (F.run A outer s H args us vs Q _ R T hb I (h _ _ _ _ O)) fun r s' z=>by
  cases r with
  |ok U=>cases U<;>exact z
  |error e=>obtain⟨_,_,_,_,_,_,_,z⟩:=z;exact z.elim⟩
def good(m:rN)(ds:rS):rX:=match m ds with
 |some (.inl x)=>some x
 |_=>none
def OJ{m:rN}(F:AI P w K mg base (CD P w) k fA fd ps (FE m)):AI P w K mg base Aa k fA fd ps (BH (good m)):=F.q9 fun vs H Q E z=>by
 obtain⟨T,x,G,g,R,O,I⟩:=z;unfold good at g;split at g
 .rename_i y e;cases g;exact⟨T,.inl x,G,e,R,O,I⟩
 .cases g
end
abbrev er(fs:Dv->Option (List PD)):DF:=fun δ=>(fs δ).map .rn
abbrev YF(i:Nat):DF:=fun δ=>(ow i δ).map .rn
section
variable{X:Cx}{a:Expr}{h:rQ}{pos:Pos}
def WH{i:Nat}{x:Str}{np:Pos}(Y:PE X (.Name x np) (MR i)):DS X (.Return (some (.Name x np)) pos) (YF i):=by
 refine⟨_,Ca Y,fun δ r h G0 H0 G H σ D R q=>?_⟩;obtain⟨xs,Z,rfl⟩:=aC.mp h;obtain⟨a,_,U,T,O,I,⟨ys,rfl,g⟩⟩:=R.own i _ (RF Z);exact⟨.ref a,U,q a ys G H R.ext R.new R.ins R.keep O T I g⟩
end
section
variable{X:Cx}{elt iter:Expr}{x:Str}{px pos spos:Pos}{ifs:rg}{scope:Scope}{fs:rP}{tif:rR}{f:rQ}
def ie(N:rf)(ix:Nat)(fr:sF)(hi:DI X (.Name x px) iter fs)(I:∀cl C s₀ H₀ fp,fN (A6 X scope cl N C s₀ H₀ fp) ifs tif)(he:∀cl C s₀ H₀ fp,DE (A6 X scope cl N C s₀ H₀ fp) elt f) (h1:D8 scope N x ix=true:=by decide +kernel)(h2:X.calm=true:=by rfl)(h3:GU N X.N scope X.env.scope fr 0=true:=by rfl)(h4:fr.length=N.length:=by rfl)(h5:freeOk X.env.scope scope.names=true:=by rfl) (hs:∀x,foldedSetIterable iter X.env x=pure x:=by intro _;rfl):DS X (.Return (some (.ListComp elt [⟨.Name x px,iter,ifs,0⟩] scope pos)) spos) (er (IL (Cv ix) tif f fr fs)):=by
 obtain⟨wi,pi,ki⟩:=hi;refine⟨_,Ca (Hv N ix fr pi I (fun cl C s₀ H₀ fp=>(he cl C s₀ H₀ fp).pe) h1 h2 h3 h4 h5 hs),fun δ r h G0 H0 G H σ D R q=>?_⟩;obtain⟨zs,Z,rfl⟩:=aC.mp h;exact Qe ki Z R fun D' ys G' H' g Y U T n4 O=>q _ _ _ _ g.ext g.new g.ins g.keep T U Y O
end
def M8(ps N:rf)(F:DF)(ds:rS):rO:=if ds.length=ps.length then(match F (HE N ds) with
 |some (.rn xs)=>some xs
 |_=>none) else none
section
variable{P:Program}{w:World}{K:Fg}{mg:rW}{base:Heap}{x:Str}{st:Stmt}{fA:AD}{fd:FuncData}{N ps:rf}{k:Nat}
def okN{F:DF}(T:Fn K mg x st ps fA fd)(S:AZ N ps (AM st)) (hb:∀(cdv:VL) (A:Around) (outer:sE) (s:SD) (H:Hp) (E:XK),CG k (A.deeper (envOfC x (AM st) s.heap.objs.size fA cdv))->Lx (Ck Aa P w K mg base N x (AM st) fA cdv A outer s H E).GZ (DM st) F):AI P w K mg base Aa (k+1) fA fd ps (Mn (M8 ps N F)):=by
 refine T.F.ok S (fun vs H Q E h=>?_) fun cdv A outer s H vs Q E R h=>?_
 .obtain⟨ds,y,G,g,I,_⟩:=h;unfold M8 at g;split at g
  .rename_i U;rw[I.len];exact U
  .cases g
 .obtain⟨ds,y,G,g,I,Z,Y⟩:=h;obtain⟨t,p,O⟩:=hb cdv A outer s H E R;refine⟨t,p,?_⟩;unfold M8 at g;split at g
  .split at g
   .rename_i z e1;cases g;exact O _ _ e1 G H G H _ _ (Rw.start I Z) Y
   .cases g
  .cases g
def Rb{F:DF}{ds xs:rS}(g:ds.length=ps.length)(h:F (HE N ds)=some (.rn xs)):M8 ps N F ds=some xs:=by unfold M8;rw[if_pos g,h]
def WQ{J:FZ}{ds:rS}{y:PD}(g:ds.length=ps.length)(h:J (HE N ds)=some (.inl (.rt y))):Fj ps N J ds=some (.inl y):=by unfold Fj;rw[if_pos g,h]
def Rq{J:FZ}{ds:rS}{δ:Dv}(g:ds.length=ps.length)(h:J (HE N ds)=some (.inl (.nx δ))):Fj ps N J ds=some (.inl .none):=by unfold Fj;rw[if_pos g,h]
def Rg{J:FZ}{ds:rS}{C:AD}(g:ds.length=ps.length)(h:J (HE N ds)=some (.inr C)):Fj ps N J ds=some (.inr C):=by unfold Fj;rw[if_pos g,h]
end
section
variable{J1 J2:FZ}{δ δ':Dv}{r:Option fM}{c:rR}{fs:rP}{m:rN}{ds:rS}   
def OH(h:J1 δ=some (.inl (.nx δ')))(k:J2 δ'=r):Ih J1 J2 δ=r:=by unfold Ih;rw[h];exact k
def gn{C:AD}(h:J1 δ=some (.inr C)):Ih J1 J2 δ=some (.inr C):=by unfold Ih;rw[h]
def nO(h:c δ=some true)(k:J1 δ=r):TK c J1 J2 δ=r:=by show(c δ).bind _=r;rw[h];exact k
def YR(h:c δ=some false)(k:J2 δ=r):TK c J1 J2 δ=r:=by show(c δ).bind _=r;rw[h];exact k
def MZ{nx:PD->Dv->Ou}{y:PD}(h:fs δ=some ds)(k:m ds=some (.inl y)):OP m fs nx δ=some (.inl (nx y δ)):=by show((fs δ).bind m).map _=_;rw[h];show(m ds).map _=_;rw[k];rfl
def Ja{y:PD}(q:m ds=some (.inl y)):good m ds=some y:=by unfold good;rw[q]
end
def only(cs:sC)(m:rN)(ds:rS):Option Xr:=match m ds with
 |some (.inr C)=>if C∈cs then some (.inr C) else none
 |r=>r
def XU{cs:sC}{m:rN}{ds:rS}{C:AD}(h:only cs m ds=some (.inr C)):C∈cs:=by
 unfold only at h;split at h
 .split at h
  .rename_i g;cases h;exact g
  .cases h
 .rename_i n;exact absurd h (n C)
def Ws{cs:sC}{m:rN}{ds:rS}{C:AD}(h:m ds=some (.inr C))(g:C∈cs):only cs m ds=some (.inr C):=by unfold only;rw[h];exact if_pos g
def Vl{P:Program}{w:World}{K:Fg}{mg:rW}{base:Heap}{CX:Hi}{k:Nat}{f:AD}{fd:FuncData}{ps:rf}{m:rN}(cs:sC)(F:AI P w K mg base CX k f fd ps (FE m)):AI P w K mg base CX k f fd ps (FE (only cs m)) :=
 F.imp fun vs H Q E z=>by
  obtain⟨O,r,G,g,I⟩:=z;refine⟨O,r,G,?_,I⟩;unfold only at g;split at g
  .rename_i C e;split at g
   .cases g;exact e
   .cases g
  .exact g
section
variable{δ:Dv}{fs:rP}{ds xs:rS}
def WI{i:Nat}{m:RW}(h:fs δ=some ds)(k:m ds=some xs):Xm i m fs δ=some (.nx (δ.set i (.own (.lst xs)))):=by show((fs δ).bind m).map _=_;rw[h];show(m ds).map _=_;rw[k];rfl
def dC(xs:rS):cutD xs none (some (-1))=xs.take (xs.length-1):=by
 unfold cutD;rw[HT.cE,List.drop_zero,Nat.sub_zero]
 congr 1
 unfold HT.Bc;simp
 lia
end
section
variable{F F1 F2:DF}{δ δ':Dv}{fs:rP}{xs:rS}{set:PD->Dv->Option Dv}{r:Option Ou}
def fk{Q:Dv->Prop}(h:F1 δ=some (.nx δ'))(k:∃g,F2 δ'=some (.nx g)/\Q g):∃g,Au F1 F2 δ=some (.nx g)/\Q g:=let⟨g,a,b⟩:=k;⟨g,Af h a,b⟩
def kz(R:Nat->Dv->Prop)(T:fs δ=some xs)(h0:R 0 δ)(U:∀(i:Nat) (x:PD) (δ:Dv),xs[i]? = some x->R i δ->∃O,set x δ=some O/\∃I,F O=some (.nx I)/\R (i+1) I):∃δ',FV fs set F δ=some (.nx δ')/\R xs.length δ':=cu R T h0 fun i x δ a b=>let⟨O,c,I,e,g⟩:=U i x δ a b;⟨O,I,c,e,g⟩
def Px(O:Nat->Dv->Prop)(R:fs δ=some xs)(h0:O 0 δ)(T:∀(i:Nat) (x:PD) (δ:Dv),xs[i]? = some x->O i δ->∃I,set x δ=some I/\∃g,F I=some (.nx g)/\O (i+1) g) (k:∀δ',O xs.length δ'->F2 δ'=r):Au (FV fs set F) F2 δ=r:=by
 obtain⟨δ',Y,U⟩:=kz O R h0 T;exact Af Y (k δ' U)
def ik{f:rQ}{x:PD}(h:f δ=some x)(k:IE x=some xs):EF f δ=some xs:=by show(f δ).bind IE=_;rw[h];exact k
end
abbrev Ut:=List PD ⊕ AD
def ej(X:Cx)(E:XK)(e:Expr)(f:Dv->Option Xr):Prop:=∃t,PE X e t/\∀δ r,f δ=some r->∀G0 H0 G H σ ts (Q:VK),Rw G0 H0 G H σ δ ts->(∀x,r=.inl x->∀v g H',Rw G0 H0 g H' σ δ ((x,v)::ts)->Q v H')->(∀C,r=.inr C->∀H',AJ H0 H'->E (.ref C) none H')->t σ H Q
def fJ(X:Cx)(E:XK)(es:rg)(f:Dv->Option Ut):Prop:=∃t,PA X es t/\∀δ r,f δ=some r->∀G0 H0 G H σ ts (Q:List V->Hp->Prop),Rw G0 H0 G H σ δ ts->(∀xs,r=.inl xs->∀vs g H',Rw G0 H0 g H' σ δ (xs.zip vs++ts)->vs.length=xs.length->Q vs H')->(∀C,r=.inr C->∀H',AJ H0 H'->E (.ref C) none H')->t σ H Q
section
variable{X:Cx}{E:XK}{e:Expr}{es:rg}{f:rQ}{fx:Dv->Option Xr}{gx:Dv->Option Ut}{fs:rP}{pos p:Pos}
abbrev lg(f:Dv->Option PD):Dv->Option Xr:=fun δ=>(f δ).map .inl
abbrev Wz(f:Dv->Option (List PD)):Dv->Option Ut:=fun δ=>(f δ).map .inl
def l6(h:DE X.GZ e f):ej X E e (lg f):=by
 obtain⟨t,p,k⟩:=h;refine⟨t,Z3 p,fun δ r h G0 H0 G H σ ts Q R q1 I=>?_⟩;obtain⟨o,g,rfl⟩:=aC.mp h;exact k δ o g G0 H0 G H σ ts Q R (q1 o rfl)
def Qj(h:DA X.GZ es fs):fJ X E es (Wz fs):=by
 obtain⟨t,p,k⟩:=h;refine⟨t,bU p,fun δ r h G0 H0 G H σ ts Q R q1 I=>?_⟩;obtain⟨o,g,rfl⟩:=aC.mp h;exact k δ o g G0 H0 G H σ ts Q R (q1 o rfl)
def JS(fx:Dv->Option Xr)(gx:Dv->Option Ut)(δ:Dv):Option Ut:=match fx δ with
 |some (.inl x)=>(match gx δ with
  |some (.inl xs)=>some (.inl (x::xs))
  |some (.inr C)=>some (.inr C)
  |none=>none)
 |some (.inr C)=>some (.inr C)
 |none=>none
def Pl(ha:ej X E e fx)(hr:fJ X E es gx)(hs:starEach (e::es) X.env=(false,eval e X.env)::starEach es X.env:=by rfl):fJ X E (e::es) (JS fx gx):=by
 obtain⟨ta,pa,Z⟩:=ha;obtain⟨tr,pr,kr⟩:=hr;refine⟨_,AK pa pr hs,fun δ r g G0 H0 G H σ ts Q R q1 Y=>?_⟩;unfold JS at g;cases O:fx δ with
 |none=>rw[O]at g;cases g
 |some u=>
  rw[O]at g;cases u with
  |inr C=>
   cases g;exact Z δ _ O G0 H0 G H σ ts _ R (fun x U=>by cases U) fun C' I=>by cases I;exact Y C rfl
  |inl x=>
   refine Z δ _ O G0 H0 G H σ ts _ R (fun x' U v G1 H1 R1=>?_) (fun C I=>by cases I);cases U;cases hg:gx δ with
   |none=>rw[hg]at g;cases g
   |some w=>
    rw[hg]at g;refine kr δ _ hg G0 H0 G1 H1 σ _ _ R1 (fun xs T vs G2 H2 R2 hl=>?_) (fun C I H' h'=>?_)
    .subst T;cases g;refine q1 _ rfl (v::vs) G2 H2 (R2.less fun q hq=>?_) (by simp[hl]);simp only[List.zip_cons_cons,List.cons_append,List.mem_cons,List.mem_append]at hq ⊢;rcases hq with h|h|h
     .exact .inr (.inl h)
     .exact .inl h
     .exact .inr (.inr h)
    .subst I;cases g;exact Y C rfl H' h'
def Ka(gx:Dv->Option Ut)(m:rN)(δ:Dv):Option Xr:=match gx δ with
 |some (.inl xs)=>m xs
 |some (.inr C)=>some (.inr C)
 |none=>none
def MO{k:Nat}{Z:AD}{fd:FuncData}{ps:rf}{m:rN}{x:Str}{st':Stmt}(T:Fn X.K X.mg x st' ps Z fd)(F:AI X.prog X.w X.K X.mg X.base (CD X.prog X.w) k Z fd ps (FE m))(hr:CG k X.A)(hP:Passes (CD X.prog X.w) X E)(ha:fJ X E (e::es) gx) (hg:Gl X x:=by rfl)(U:(x==("__debug__" : Str))=false:=by decide)(he:starEach (e::es) X.env=(false,eval e X.env)::starEach es X.env:=by rfl)(O:(backTo pos (starEach es X.env)).any (·.1)=false:=by rfl):ej X E (.Call (.Name x p) (e::es) [] pos) (Ka gx m):=by
 obtain⟨ta,pa,ka⟩:=ha;refine⟨_,Zv T F hr hg hP pa U he O,fun δ r g G0 H0 G H σ ts Q R q1 Y=>?_⟩;unfold Ka at g;cases hg:gx δ with
 |none=>rw[hg]at g;cases g
 |some w=>
  rw[hg]at g;refine ka δ _ hg G0 H0 G H σ ts _ R (fun xs I vs G1 H1 R1 hv=>?_) (fun C hC H' h'=>?_)
  .subst I;obtain⟨d,R2⟩:=R1.args hv;refine⟨xs,r,G1,g,by rw[List.append_nil];exact d,R2.ins,?_⟩;cases r with
   |inl y=>exact fun v G' H' h3 h4 h5 h6 h7=>q1 y rfl _ _ _ ((R2.lift h3 h4 h5 h6).put h7)
   |inr C=>exact fun H' h=>Y C rfl H' (R2.keep.trans h)
  .subst hC;cases g;exact Y C rfl H' h'
abbrev xE(fx:Dv->Option Xr)(nx:PD->Dv->Ou):FZ:=fun δ=>(fx δ).map fun r=>match r with
 |.inl x=>.inl (nx x δ)
 |.inr C=>.inr C
def We(O:ej X E e fx):DX X E (.Return (some e) pos) (xE fx fun x _=>.rt x):=by
 obtain⟨t,p,k⟩:=O;refine⟨_,Ca p,fun δ r h G0 H0 G H σ D R q=>?_⟩;obtain⟨z,U,rfl⟩:=aC.mp h;refine k δ z U G0 H0 G H σ [] _ R (fun x I v Y H' g=>?_) (fun C T H' h'=>?_)
 .subst I;exact q _ _ _ g.ext g.new g.ins g.keep (g.Bh _ (.head _))
 .subst T;exact q _ h'
end
section
variable{δ:Dv}{fx:Dv->Option Xr}{gx:Dv->Option Ut}{m:rN}{xs:rS}{r:Option Xr}   
def eV{C:AD}(h:fx δ=some (.inr C)):JS fx gx δ=some (.inr C):=by unfold JS;rw[h]
def XR(h:gx δ=some (.inl xs))(k:m xs=r):Ka gx m δ=r:=by unfold Ka;rw[h];exact k
def Wg{C:AD}(h:gx δ=some (.inr C)):Ka gx m δ=some (.inr C):=by unfold Ka;rw[h]
def fi{nx:PD->Dv->Ou}{C:AD}(h:fx δ=some (.inr C)):xE fx nx δ=some (.inr C):=by show(fx δ).map _=_;rw[h];rfl
end
end L2
namespace L2
open PySem PySem.Spec PyProof.Rows
inductive UE(X:Cx)(C ea:Addr)(k:Nat):List ExceptHandler->TS->Prop
 |hit {x n:Str} {G:Addr} {np hpos:Pos} {b0:Stmt} {suite:List Stmt} {rest:List ExceptHandler} {t:TS} (hg:Gl X x) (hm:X.mg x=some (.ref G)) (hd:(x==("__debug__" : Str))=false) (hB:Es X.K C G true) (hk:X.N[k]? = some n) (hln:X.env.scope.names.lookup n=some .local) (hb:GV (X.held ea) (b0::suite) t) :
   UE X C ea k (.ExceptHandler (some (.Name x np)) (some n) (b0::suite) hpos::rest) t
 |miss {x n:Str} {G:Addr} {np hpos:Pos} {b0:Stmt} {suite:List Stmt} {rest:List ExceptHandler} {t:TS} (hg:Gl X x) (hm:X.mg x=some (.ref G)) (hd:(x==("__debug__" : Str))=false) (hB:Es X.K C G false) (r:UE X C ea k rest t) :
   UE X C ea k (.ExceptHandler (some (.Name x np)) (some n) (b0::suite) hpos::rest) t
def YC(D:Ends)(k:Nat):Ends:={ nx:=fun g I=>D.nx (g.set k none) I,rt:=fun _ _=>False}
section
variable{X:Cx}{pins:List (AD×Obj)}{σ:St}{D:Ends}
def cL{H0 H':Hp}{s0 s1:SD}{ea C:AD}{a0:VL}{B:Heap}{k:Nat}{h5:Heap}(hN:X.N.Nodup)(hcalm:X.calm=true)(I:Inv X pins σ H0 s0)(F:Yd X.prog X.w X.stack H0 s0 ea (.ref C) a0 H' s1 B){g:sE}(hrest:X.stack=X.env::g)(hfr:X.env.frame=some X.env.locals) (Z:Heap.FlyingW B (X.env::g) ea (.ref C) a0 h5)(T:s1.heap.UpToSlots h5)(I5:Inv X pins σ H' {s1 with heap:=h5,toks:=s1.toks}):∀ {hs:List ExceptHandler} {t:TS},UE X C ea k hs t->(H' ea=none->t (YC D k) (σ.set k (some (.ref ea))) (upd H' ea (MQ ea (.ref C))))->wpAny (model X.prog X.w) X.A (handleBy (.ref ea) X.env hs) (SP X pins D) X.xe {s1 with heap:=h5,toks:=s1.toks}:=by
 obtain⟨ob,U,O⟩:=Z.there;intro hs t Ap q
 induction Ap with
 |miss hg hm hd hB r ih=>
  refine wpAny_handleBy_cons (codeAny_handlers_test (JX (I5.held ea) hg hm ?_ hd)) (by intro q;cases q);exact UZ (K:=X.K) I5.GO U O hB (ih q)
 | @hit x n G np hpos b0 suite rest t hg hm hd hB hk hln hb=>
  refine wpAny_handleBy_cons (codeAny_handlers_test (JX (I5.held ea) hg hm ?_ hd)) (by intro q;cases q);refine UZ (K:=X.K) I5.GO U O hB (codeAny_handlers_suite_as ?_);refine lands_againW Z fun h6 Y up6=>?_;have I6:Inv X pins σ H' {s1 with heap:=h6,toks:=s1.toks}:=land I F Y.1 (T.trans up6);obtain⟨oe,ws,e1,e2,e3,_⟩:=Y.first
  obtain⟨R,I7⟩:=nM I F I6 ⟨oe,ws,e1,e2,e3⟩;refine KP (X:=X.held ea) (I7.held ea) hN hk (.inl hln) (v:=.ref ea) rfl (fun s8 I8=>?_) (.inr hln);refine aU (hb pins s8 _ _ (YC D k) I8 (q R)) (fun fl s9 h9=>?_) fun _ _ z=>z.elim;cases fl with
  |next=>
   obtain⟨σ9,H9,I9,e9⟩:=h9;exact qG (I9.jZ I.ok) hN hk hln fun s' I'=>⟨_,_,I',e9⟩
  |brk=>obtain⟨_,_,_,z⟩:=h9;exact z.elim
  |cont=>obtain⟨_,_,_,z⟩:=h9;exact z.elim
  |ret v=>obtain⟨_,_,_,_,_,z⟩:=h9;exact z.elim
end
def mq(k:Nat):Ou->Option Ou
 |.nx δ=>some (.nx (δ.set k .no))
 |_=>none
end L2
namespace L2
open PySem PySem.Spec PyProof.Rows
def ZW(ns:rd):(ns.map V.int).all JR=true:=by
 rw[List.all_eq_true];intro x g;obtain⟨i,_,rfl⟩:=aT.mp g
 rfl
def U2(i:Int):∀ns:List Int,fv (.int i) (ns.map V.int)=ns.contains i
 |[]=>rfl
 |n::ns=>by
  have g:=U2 i ns;unfold fv at g ⊢;rw[List.map_cons,List.any_cons,g,List.contains_cons]
  congr 1
  show(n==i)=(i==n);rw[Bool.eq_iff_iff,beq_iff_eq,beq_iff_eq];exact eq_comm
def fU{P:Program}{w:World}{K:Fg}{mg:rW}{base:Heap}{k:Nat}{f:AD}{fd:FuncData}{ps:rf}{m:MD}(F:AI P w K mg base Aa k f fd ps (BH m)):AI P w K mg base (CD P w) k f fd ps (FE fun ds=>(m ds).map .inl) :=
 F.rC.imp fun vs H Q E z=>by
  obtain⟨ds,r,G,T,R,O,I⟩:=z;obtain⟨x,g,rfl⟩:=aC.mp T;exact⟨ds,x,G,g,R,O,I⟩
end L2
namespace L2
open PySem PySem.Spec PyProof.Rows
def GT(H:Hp)(v:VL)(x:Tr):Prop:=∃a ys,v=.ref a/\H a=some (.tup ys)/\Ts H x ys
def UI(S:AD)(ev:Array (Int×VL))(ep:Nat)(t:SetTable):HO:=.ext fun h=>∃o,h.get? S=some o/\o.ExactSet/\o.data=.set ev ep t
abbrev mB(H:Hp)(p:Int×VL)(q:Int×Tr):Prop:=p.1=q.1/\q.2.deep<8/\GT H p.2 q.2
def YK(H:Hp)(S:AD)(st:TH.ES×SetTable):Prop:=∃ev ep,H S=some (UI S ev ep st.2)/\PySem.Paired (mB H) ev.toList st.1.toList
def GT.same{H H':Hp}{v:VL}{x:Tr}(h:GT H v x)(e:AJ H H'):GT H' v x:=let⟨a,ys,O,I,g⟩:=h;⟨a,ys,O,e _ _ I,g.same e⟩
structure X0(w:World)(st:TH.ES×SetTable):Prop where
 fit:st.2.fits st.1.size=true
 plain:st.2.plain=true
 led:st.2.led=!w.params.followText "set-order"
 walk:TH.Hc st.2 st.1.size=true
 small:st.1.size<64
section
variable{X:Cx}{pins:List (AD×Obj)}{σ:St}{H:Hp}{s:SD}
def Ze(I:Inv X pins σ H s){v:VL}{x:Tr}(g:GT H v x):∃a O,v=.ref a/\s.heap.IsTuple a O.toArray/\TH.Vs s.heap x O:=by
 obtain⟨a,ys,rfl,T,R⟩:=g;obtain⟨O,r,p,_⟩:=I.tuple (BC.of (K:=X.K) T);exact⟨a,O,rfl,p,R.vs I r⟩
def Ue(I:Inv X pins σ H s):∀ {t:Tr} {ys:List V} {us:List VL},Ts H t ys->Vals ys us->t.deep<=8->TH.Jb (GT H) s.heap us t.bs
 |.nil,ys,us,h,r,_=>by
  rw[Ts]at h;subst h;cases r;exact .nil
 |.cons b q,ys,us,h,r,hd=>by
  rw[Ts]at h;obtain⟨a,O,rest,rfl,Z,Y,U⟩:=h;rw[Tr.deep]at hd;cases r with
  |cons T R=>
   cases T;have g:GT H (.ref a) b:=⟨a,O,rfl,Z,Y⟩;exact .cons ⟨by lia,g,Ze I g⟩ (Ue I U R (by lia))
def Vb(I:Inv X pins σ H s){l:List (Int×VL)}{m:List (Int×Tr)}(h:PySem.Paired (mB H) l m):PySem.Paired (TH.Pe (GT H) s.heap) l m :=
 TH.Paired.imp (fun _ _ ⟨a,b,c⟩=>⟨a,b,c,Ze I c⟩) h
def cw:∀ {us:List VL} {ts:List Tr},PySem.Paired (GT H) us ts->∃g,Vals g us/\Ts H (Tr.of ts) g
 |_,_,.nil=>⟨[],.nil,by rw[Tr.of,Ts]⟩
 |_,_,.cons ⟨a,ys,e,T,R⟩ r=>by
  obtain⟨g,O,I⟩:=cw r;subst e;exact⟨.ref a::g,.cons rfl O,by rw[Tr.of,Ts];exact⟨a,ys,g,rfl,T,R,I⟩⟩
def oa(w:World)(K:Fg):List V->Hp->VK->Prop:=fun xs H Q=>∃p ys t st,xs=[.ref p]/\Al K H p ys/\Ts H t ys/\t.deep<=8/\TH.J0 (TH.Jp (!w.params.followText "set-order")) t.bs=some st /\
 ∀S H',AJ H H'->YK H' S st->Q (.ref S) H'
def S9(hc:X.calm=true)(hu:X.A.units+64<cLine):D4 X (.type "set") (oa X.w X.K):=by
 intro pins s σ H xs us Q I r h;obtain⟨p,ys,t,st,rfl,hq,ht,hd,g,q⟩:=h;obtain⟨u,rfl,T⟩:=r.one;cases T;obtain⟨Z,R,pl,hz⟩:=I.list hq;refine TH.WC (G:=GT H) (I.ok.hd hc) pl.isList (Ue I ht R hd) (by lia) g fun h2 tk S2 Y=>?_;obtain⟨o,ev,ep,O,g2,g3,g4⟩:=S2;have hf:=I.Ap.fresh (aH s.heap.objs.size);have es:=Ac hf (UI s.heap.objs.size ev ep st.2);refine⟨.ref s.heap.objs.size,upd H s.heap.objs.size (UI s.heap.objs.size ev ep st.2),I.laid (t':=tk) Y (aH _) ?_,rfl,q _ _ es ⟨ev,ep,AN,TH.Paired.imp (fun _ _ ⟨a,b,c,_⟩=>⟨a,b,c.same es⟩) g4⟩⟩;exact⟨⟨o,O,g2,g3⟩,⟨o,O⟩,fun h1 h2 ⟨o,q1,U⟩ k=>⟨o,k _ q1,U⟩⟩
def gY(I:Inv X pins σ H s){S:AD}{st:TH.ES×SetTable}(h:YK H S st)(ok:X0 X.w st):∃o ev ep,s.heap.get? S=some o/\TH.EY X.w o ev ep st.2/\TH.DV (GT H) s.heap ev st.1:=by
 obtain⟨ev,ep,T,O⟩:=h;obtain⟨⟨o,Z,Y,U⟩,_,_⟩:=(show CK X.prog X.w H s.heap S (UI S ev ep st.2) from I.Ap S _ T);have R:=Vb I O;have g:ev.size=st.1.size:=TH.DV.size R;exact⟨o,ev,ep,Z,⟨Y,U,by rw[g];exact ok.fit,ok.plain,ok.led,by rw[g];exact ok.walk⟩,R⟩
def mD(w:World):List V->Hp->VK->Prop:=fun xs H Q=>∃S st,xs=[.ref S]/\YK H S st/\X0 w st/\∀(l:AD) (g:List V),H l=none->g.length<64->Ts H (Tr.of (Tr.CQ (TH.NZ st)).reverse) g->Q (.ref l) (upd H l (.lst g))
def Qi(hc:X.calm=true)(hu:X.A.units+64<cLine):D4 X (.builtin "sorted") (mD X.w):=by
 intro pins s σ H xs us Q I r h;obtain⟨S,st,rfl,hS,ok,q⟩:=h;obtain⟨u,rfl,g⟩:=r.one;cases g;obtain⟨o,ev,ep,g1,W,R⟩:=gY I hS ok;refine TH.XZ (I.ok.hd hc) W g1 R ok.small (by lia) fun h' D tk e1 us U Z gD hp hl=>?_;obtain⟨O,g,Y⟩:=cw hp;have T:O.length<64:=by rw[g.length];exact hl
 refine⟨.ref D,upd H D (.lst O),I.laid (t':=tk) Z U ⟨ay (aL T (by rw[sizeLine_eq];decide)),us,e1,g,gD⟩,rfl,q D O (I.Ap.fresh U) T Y⟩
end
open PySem PyProof.Rows
section
variable{prog:Program}{w:World}{A:Around}{E:rV}{s:SD}
def ig{k:Int}{t:Tok}{Q:Option PySem.Fin×Unit->SD->Prop}(xs:rT)(f:Nat->Option PySem.Fin×Unit->Sem (ForInStep (Option PySem.Fin×Unit)))
 (hf:∀i y st,xs.toArray[i]? = some y->f i st=(do
      let b <-eqBool y (.int k t)
      if b=true then do
          let r <-retInt ↑i
          pure (ForInStep.done (some r,()))
        else pure (ForInStep.yield (none,())))):∀ {vs:rT} {ns:rd},IntsAre vs ns->∀(pre:rT),pre++vs=xs->k∈ns ->
    (∀t' s',s'={s with toks:=s'.toks}->s.toks<=s'.toks->Q (some (.done (.ret (.int ((pre.length+ns.idxOf k:Nat):Int) t'))),()) s') ->
    wpAny (model prog w) A (forIn (List.range' pre.length vs.length) (none,()) f) Q E s:=by
  intro vs ns hi
  induction hi with
  |nil=>intro _ _ hk;cases hk
  | @cons n u vs ns r ih=>
    intro pre hx hk h
    rw[List.length_cons,List.range'_succ,List.forIn_cons]
    refine Wb ?_
    rw[hf pre.length (.int n u) _ (by rw[<-hx];simp)]
    refine Wb (wpAny_eqBool_int ?_)
    by_cases z:n=k
    . subst z
      rw[if_pos (by simp)]
      refine Wb ?_
      refine Wb (wpAny_mkInt (aA ?_))
      refine aA (aA ?_)
      have:=h s.toks {s with toks:=s.toks+1} rfl (Nat.le_succ _)
      rw[List.idxOf_cons_self]at this
      exact this
    . rw[if_neg (by simpa using z)]
      refine aA ?_
      have hk':k∈ns:=(aM.mp hk).resolve_left fun e=>z e.symm
      have:=ih (pre++[.int n u]) (by rw[<-hx,List.append_assoc];rfl) hk' (fun t' s' e1 e2=>by
        have:=h t' s' e1 e2
        rw[List.idxOf_cons,show(n==k)=false by simpa using z]at this
        rw[List.length_append,List.length_singleton,Nat.add_assoc,Nat.add_comm 1]
        exact this)
      rw[List.length_append,List.length_singleton]at this
      exact this
def Pz{l:AD}{vs:rT}{ns:rd}{k:Int}{t:Tok}{Q:rV}(g:IsTup s.heap l vs.toArray)(hi:IntsAre vs ns) (hk:k∈ns)(h:∀t' s',s'={s with toks:=s'.toks}->s.toks<=s'.toks->Q (.int (ns.idxOf k:Nat) t') s'):wpAny (model prog w) A (call (.builtin "tuple.index") [.ref l,.int k t]) Q E s:=by
 refine aX F.slot_tuple_index g.typeIs F.entry_tuple_index ?_ (F.args_tuple_index_2 _ _);unfold Builtin.«tuple.index»;refine Wb (m:=selfAndSome _ _ _ _ _) (aA ?_);refine Wb (tupleItemsOf_ g ?_);refine Wb (aA (Wb (aA (Wb ?_))));rw[Nat.min_self,Std.Legacy.Range.forIn_eq_forIn_range'];have z:Std.Legacy.Range.size [0:vs.toArray.size]=vs.length:=by simp[Std.Legacy.Range.size]
 rw[z];refine ig (k:=k) (t:=t) vs _ (fun i y st e=>by simp only[e]) hi [] rfl hk (fun t' s' O I=>aA ⟨_,rfl,?_⟩);have:=h t' s' O I;rw[List.length_nil,Nat.zero_add];exact this
end
end L2
namespace L2
open PySem PySem.Spec PyProof.Rows
def gV(K:Fg):V->List V->Hp->VK->Prop:=fun x xs H Q=>∃(p:AD) (ns:List Int) (k:Int),x=.ref p/\xs=[.int k]/\BC K H p (List.map V.int ns)/\k∈ns/\Q (.int (ns.idxOf k:Nat)) H
structure Own(K:Fg)(a:Addr)(ns:List Int):Prop where
 sq:∀H,BC K H a (ns.map V.int)
 ty:∃o,K.lookup a=some o/\o.cls=.type "tuple" /\ o.dict=none
section
variable{X:Cx}{a e:Expr}{f:rQ}{pos p:Pos}
def Z4:pJ X "tuple.index" (gV X.K):=by
 intro pins s σ H x xs v us Q I O R h;obtain⟨q,ns,k,rfl,rfl,Y,hk,h⟩:=h;cases O;obtain⟨u,rfl,t,rfl⟩:=vals1 R;obtain⟨U,T,pl,hz⟩:=I.tuple Y;refine Pz pl (intsAre_of T) hk fun g s' Z e2=>?_;rw[Z];exact⟨.int (ns.idxOf k:Nat),H,I.tok _,⟨g,rfl⟩,h⟩
def eY(neg:Bool)(ns:rd)(x:PD):rX:=match x with
 |.int i=>some (.bool (if neg then !(ns.contains i) else ns.contains i))
 |_=>none
def ZK(ns:rd)(x:PD):rX:=match x with
 |.int i=>if i∈ns then some (.int (ns.idxOf i:Nat)) else none
 |_=>none
def jc{op:CmpOp}{neg:Bool}{x:Str}{c:AD}{ns:rd}(Y:C6 X (compareOp op) (pH X.K neg))(ha:DE X a f)(hg:Gl X x)(hm:X.mg x=some (.ref c))(hn:Own X.K c ns)(hk:behindInMarks op (.Name x p)=false:=by rfl)(hd:(x==("__debug__" : Str))=false:=by decide):DT X (.Compare a [op] [.Name x p] pos) (fun δ=>((f δ).bind (eY neg ns)).bind Lm):=by
 obtain⟨ta,R,T⟩:=ha;refine⟨_,Dk Y R (JY (v:=.ref c) hg hm rfl hd) hk,fun δ z U G0 H0 G H σ ts Q R0 k=>?_⟩;obtain⟨q,h0,Z⟩:=aB.mp U;have:=NI Z;subst this;obtain⟨y,h1,g⟩:=aB.mp h0;refine T δ y h1 G0 H0 G H σ ts _ R0 fun u G1 H1 O=>?_;unfold eY at g;split at g
 .cases g;have I:=O.Bh (_,u) (.head _);rw[Du]at I;subst I;refine⟨c,_,rfl,.inr (hn.sq _),rfl,ZW ns,?_⟩;rw[U2];exact⟨_,rfl,k _ _ O.drop⟩
 .cases g
def bg{x:Str}{c:AD}{ns:rd}{U ap:Pos}(ha:DE X e f)(hg:Gl X x)(hm:X.mg x=some (.ref c))(hn:Own X.K c ns)(hd:(x==("__debug__" : Str))=false:=by decide) (O:attributeBase (.Name x p) "index" X.env (eval (.Name x p) X.env)=eval (.Name x p) X.env:=by rfl) (T:((backTo U (starEach [e] X.env)).all (fun x=>!x.1)&&(backToKw U (keywordEach [] X.env)).all (fun x=>x.1.isSome) && decide (([e]:rg).length+([]:List Keyword).length+(if([]:List Keyword).isEmpty then 0 else 1)<30))=true:=by rfl) (I:(ap.endLine==U.line)=true:=by rfl)(Y:starEach [e] X.env=(false,eval e X.env)::starEach [] X.env:=by rfl)(g:(backTo U (starEach [] X.env)).any (·.1)=false:=by rfl):DE X (.Call (.Attribute (.Name x p) "index" ap) [e] [] U) (fun δ=>(f δ).bind (ZK ns)):=by
 obtain⟨ta,pa,ka⟩:=ha;refine⟨_,HJ PySem.F.plainAttrs_tuple PySem.F.slot_tuple_index PySem.F.type_tuple_index Z4 (JY (v:=.ref c) hg hm rfl hd) (AK pa AY Y) O T I Y g,fun δ z hz G0 H0 G H σ ts Q R0 k=>?_⟩;obtain⟨y,h1,R⟩:=aB.mp hz;refine⟨.inr (.inl ⟨rfl,hn.ty⟩),?_⟩;refine ka δ y h1 G0 H0 G H σ ts _ R0 fun u G1 H1 R1=>?_;unfold ZK at R;split at R
 .split at R
  .rename_i hi;cases R;have Z:=R1.Bh (_,u) (.head _);rw[Du]at Z;subst Z;exact⟨c,ns,_,rfl,rfl,hn.sq _,hi,k _ _ _ (R1.drop.put (by rw[Du]))⟩
  .cases R
 .cases R
end
def OQ(led:Bool)(l z:rz):Bool:=match TH.J0 (TH.Jp led) l with
 |some st=>decide ((Tr.CQ (TH.NZ st)).reverse=z)&&st.2.fits st.1.size&&st.2.plain&&decide (st.2.led=led)&&TH.Hc st.2 st.1.size&&decide (st.1.size<64)
 |none=>false
def Ve{led:Bool}{l z:rz}(h:OQ led l z=true):∃st,TH.J0 (TH.Jp led) l=some st/\(Tr.CQ (TH.NZ st)).reverse=z/\st.2.fits st.1.size=true/\st.2.plain=true/\st.2.led=led/\TH.Hc st.2 st.1.size=true/\st.1.size<64:=by
 unfold OQ at h;split at h
 .rename_i st e;simp only[Bool.and_eq_true,decide_eq_true_eq]at h;obtain⟨⟨⟨⟨⟨U,T⟩,R⟩,O⟩,I⟩,g⟩:=h;exact⟨st,e,U,T,R,O,I,g⟩
 .cases h
def UC(l:rz):rz:=match TH.J0 (TH.Jp true) l with
 |some st=>(Tr.CQ (TH.NZ st)).reverse
 |none=>[]
def Gm(t:Tr):rX:=if t.deep<=8/\OQ true t.bs (UC t.bs)=true/\OQ false t.bs (UC t.bs)=true then some (.list (BE (Tr.of (UC t.bs)))) else none
def Ph:PD->Option PD
 |.list g=>(DD g).bind Gm
 |_=>none
section
variable{X:Cx}{e:Expr}{f:rQ}{pos p p2 pos2:Pos}
def YZ(hc:X.calm=true)(hu:X.A.units+64<cLine)(hg:Gl X "sorted")(hm:X.mg "sorted" = none)(hg2:Gl X "set")(hm2:X.mg "set" = none)(ha:DE X e f) (R:starEach [e] X.env=(false,eval e X.env)::starEach [] X.env:=by rfl)(O:starEach [.Call (.Name "set" p2) [e] [] pos2] X.env=(false,eval (.Call (.Name "set" p2) [e] [] pos2) X.env)::starEach [] X.env:=by rfl) (hq1:(backTo pos2 (starEach [] X.env)).any (·.1)=false:=by rfl)(hq2:(backTo pos (starEach [] X.env)).any (·.1)=false:=by rfl):DE X (.Call (.Name "sorted" p) [.Call (.Name "set" p2) [e] [] pos2] [] pos) (fun δ=>(f δ).bind Ph):=by
 obtain⟨ta,pa,ka⟩:=ha;refine⟨_,Ct (Qi hc hu) hg hm PyProof.Rows.boot_sorted (AK (Ny (S9 hc hu) hg2 hm2 PyProof.Rows.boot_set (AK pa AY R) (by decide) (by decide) R hq1) AY O) (by decide) (by decide) O hq2,fun δ z hz G0 H0 G H σ ts Q R0 k=>?_⟩;obtain⟨y,h1,Y⟩:=aB.mp hz;refine ka δ y h1 G0 H0 G H σ ts _ R0 fun u G1 H1 Z=>?_;unfold Ph at Y;split at Y
 .rename_i ds;obtain⟨t,h3,U⟩:=aB.mp Y;unfold Gm at U;split at U
  .rename_i hh;cases U;have hds:=Lq h3;have du:=Z.Bh (_,u) (.head _);obtain⟨bb,a,ys,rfl,g,n2⟩:=Uc du (show IE (.list ds)=some ds from rfl);have n1':H1 a=some (.lst ys):=by
    have:=Z.ins _ _ g;cases bb
    .simpa using this
    .exact absurd g (by
      have T:=du;intro g;rw[Du]at T;obtain⟨a',ys',e1,e2,_⟩:=T;cases e1;rw[e2]at g;cases g)
   rw[hds]at n2;have ht:=(IM n2).same Z.ins;have both:∀led,OQ led t.bs (UC t.bs)=true:=fun led=>by cases led;exact hh.2.2;exact hh.2.1
   obtain⟨st,r1,r2,r3,r4,r5,r6,r7⟩:=Ve (both (!X.w.params.followText "set-order"));refine⟨a,ys,t,st,rfl,Al.of n1',ht,hh.1,r1,fun S H' e1 hS=>⟨S,st,rfl,hS,⟨r3,r4,r5,r6,r7⟩,fun l zs hl hz I=>?_⟩⟩;rw[r2]at I;have R2:=(Z.drop.on e1).A0;exact k _ _ _ (R2.N1 (Nc I) hl)
  .cases U
 .cases Y
end
end L2
namespace L2
open PySem PySem.Spec PyProof.Rows
abbrev TB:=St->Hp->(Hp->Prop)->XK->Prop
def ed(X:Cx)(st:Stmt)(t:TB):Prop:=∀(pins:List (AD×Obj)) (s:SD) (σ:St) (H:Hp) (N:Hp->Prop) (E:XK),Inv X pins σ H s->t σ H N E->wpAny (model X.prog X.w) X.A (exec st X.env) (fun f s'=>f=.next/\∃H',Inv X pins σ H' s'/\N H') (UA X pins σ E) s
def Vr(X:Cx)(g:sD)(t:TB):Prop:=∀(pins:List (AD×Obj)) (s:SD) (σ:St) (H:Hp) (N:Hp->Prop) (E:XK),Inv X pins σ H s->t σ H N E->wpAny (model X.prog X.w) X.A (execs g X.env) (fun f s'=>f=.next/\∃H',Inv X pins σ H' s'/\N H') (UA X pins σ E) s
section
variable{X:Cx}{st:Stmt}{rest a b:sD}{t u:TB}{e c:Expr}{pos:Pos}
def gJ:Vr X [] (fun _ H N _=>N H):=fun _ _ _ H _ _ I h=>wpAny_execs_nil ⟨rfl,H,I,h⟩
def dF(R:ed X st t)(O:Vr X rest u):Vr X (st::rest) (fun σ H N E=>t σ H (fun g=>u σ g N E) E):=by
 intro pins s σ H N E I h;refine wpAny_execs_cons (BG (R pins s σ H _ E I h) fun f s1 q=>?_);obtain⟨rfl,g,T,q1⟩:=q;exact O pins s1 σ g N E T q1
def gz{O:TX}(T:pI X e O)(R:swapsWith e none pos.line X.env=pure false:=by rfl):ed X (.Expr e pos) (fun σ H N E=>O σ H (fun _ g=>N g) E):=by
 intro pins s σ H N E I h;exact wpAny_Expr_any (BG (T pins s σ H _ E I h) fun v s1 ⟨x,g,U,Y,q1⟩=>⟨rfl,g,U,q1⟩) I.quiet R
def nX{O:TT}(T:PT X.GZ c O)(ha:Vr X a t)(hb:Vr X b u):ed X (.If c a b pos) (fun σ H N E=>O σ H fun d g=>if d=true then t σ g N E else u σ g N E):=by
 intro pins s σ H N E I h;refine wpAny_If (aU (T pins s σ H _ (I.GS _) h) (fun d s1 ⟨g,R,q1⟩=>?_) fun _ _ z=>z.elim);cases d with
 |true=>exact ha pins s1 σ g N E R.EE q1
 |false=>exact hb pins s1 σ g N E R.EE q1
def oO(X:Cx)(k:Nat)(I:List ExceptHandler)(t:TB):TS:=fun D σ H=>t σ H (fun O=>D.nx σ O) fun cls _ H'=>∃C,cls=.ref C/\∀ea,∃g,UE X C ea k I g/\(H' ea=none->g (YC D k) (σ.set k (some (.ref ea))) (upd H' ea (MQ ea cls)))
def g9{R:sD}{k:Nat}{h0:ExceptHandler}{hs:List ExceptHandler}(he:Vr X R t)(hN:X.N.Nodup)(U:X.calm=true)(Y:∃rest,X.stack=X.env::rest)(hfr:X.env.frame=some X.env.locals):PS X (.Try R (h0::hs) [] [] pos) (oO X k (h0::hs) t):=by
 intro pins s σ H D I h;refine wpAny_Try_except (aU (he pins s σ H _ _ I h) (fun f s1 q=>?_) fun ev s1 hf=>?_)
 .obtain⟨rfl,H1,I1,q1⟩:=q;exact wpAny_execs_nil ⟨_,H1,I1,q1⟩
 .obtain⟨H0,s0,I,ea,cls,a0,H',B,ee,F,C,hc,q⟩:=hf;subst ee hc;obtain⟨rest,g⟩:=Y;have F1:=F.kY;rw[g]at F1;have Z:X.A.frames=some (X.env::rest):=by rw[<-g];exact I.ok.frames
  refine wpAny_looks_onW Z hfr F1 fun h4 T up4=>?_;refine wpAny_landsW T fun h5 fl5 up5=>?_;have O:=up4.trans up5;have I5:Inv X pins σ H' {s1 with heap:=h5,toks:=s1.toks}:=land I F fl5.1 O;obtain⟨tb,q1,q2⟩:=q ea;exact cL hN U I F g hfr fl5 O I5 q1 q2
end
abbrev FB:=Dv->Option (Option AD)
def kC(G0 H0:Hp)(σ:St)(δ:Dv)(N:Hp->Prop)(E:XK):Option AD->Prop
 |none=>∀g H',Rw G0 H0 g H' σ δ []->N H'
 |some C=>∀g H',Rw G0 H0 g H' σ δ []->E (.ref C) none H'
def mX(X:Cx)(st:Stmt)(F:FB):Prop:=∃t,ed X st t/\∀δ r,F δ=some r->∀G0 H0 G H σ N E,Rw G0 H0 G H σ δ []->kC G0 H0 σ δ N E r->t σ H N E
def DB(X:Cx)(g:sD)(F:FB):Prop:=∃t,Vr X g t/\∀δ r,F δ=some r->∀G0 H0 G H σ N E,Rw G0 H0 G H σ δ []->kC G0 H0 σ δ N E r->t σ H N E
def Uh:FB:=fun _=>some none
def SJ(I g:FB):FB:=fun δ=>(I δ).bind fun r=>match r with
 |none=>g δ
 |some C=>some (some C)
def Q8(m:rN)(fs:rP):FB:=fun δ=>((fs δ).bind m).map fun r=>match r with
 |.inl _=>none
 |.inr C=>some C
def a7(c:rR)(I g:FB):FB:=fun δ=>(c δ).bind fun b=>if b=true then I δ else g δ
section
variable{X:Cx}{st:Stmt}{rest a b:sD}{e c:Expr}{es:rg}{fs:rP}{fc:rR}{F1 F2:FB}{pos p spos:Pos}
def U8:DB X [] Uh:=⟨_,gJ,fun δ r h G0 H0 G H σ N E R q=>by cases h;exact q _ _ R⟩
def RV(h1:mX X st F1)(h2:DB X rest F2):DB X (st::rest) (SJ F1 F2):=by
 obtain⟨t1,T,Y⟩:=h1;obtain⟨t2,O,U⟩:=h2;refine⟨_,dF T O,fun δ r h G0 H0 G H σ N E R q=>?_⟩;obtain⟨g,Z,I⟩:=aB.mp h;refine Y δ g Z G0 H0 G H σ _ E R ?_;cases g with
 |none=>exact fun G' H' R'=>U δ r I G0 H0 G' H' σ N E R' q
 |some C=>cases I;exact q
def oJ(hc:DT X.GZ c fc)(ha:DB X a F1)(hb:DB X b F2):mX X (.If c a b pos) (a7 fc F1 F2):=by
 obtain⟨tc,pc,Y⟩:=hc;obtain⟨t1,U,k1⟩:=ha;obtain⟨t2,T,Z⟩:=hb;refine⟨_,nX pc U T,fun δ r h G0 H0 G H σ N E R q=>?_⟩;obtain⟨d,h3,g⟩:=aB.mp h;refine Y δ d h3 G0 H0 G H σ [] _ R fun O H' I=>?_;cases d with
 |true=>exact k1 δ r g G0 H0 O H' σ N E I q
 |false=>exact Z δ r g G0 H0 O H' σ N E I q
def WW{g:Nat}{Z:AD}{fd:FuncData}{ps:rf}{m:rN}{x:Str}{st':Stmt}(T:Fn X.K X.mg x st' ps Z fd)(F:AI X.prog X.w X.K X.mg X.base (CD X.prog X.w) g Z fd ps (FE m))(hr:CG g X.A)(ha:DA X.GZ (e::es) fs) (hg:Gl X x:=by rfl)(U:(x==("__debug__" : Str))=false:=by decide)(he:starEach (e::es) X.env=(false,eval e X.env)::starEach es X.env:=by rfl)(O:(backTo pos (starEach es X.env)).any (·.1)=false:=by rfl) (I:swapsWith (.Call (.Name x p) (e::es) [] pos) none spos.line X.env=pure false:=by rfl):mX X (.Expr (.Call (.Name x p) (e::es) [] pos) spos) (Q8 m fs):=by
 obtain⟨ta,pa,ka⟩:=ha;refine⟨_,gz (mZ T F hr hg pa U he O) I,fun δ r h G0 H0 G H σ N E R q=>?_⟩;obtain⟨w,h1,rfl⟩:=aC.mp h;refine bj (k:=g) ka h1 R (fun x hx v G' H' Y=>?_) (fun C hC G' H' Y=>?_)
 .subst hx;exact q _ _ Y.drop
 .subst hC;exact q _ _ Y
end
abbrev YN(k:Nat)(F:FB)(g:DF):DF:=fun δ=>(F δ).bind fun r=>match r with
 |none=>some (.nx δ)
 |some C=>(g (δ.set k (.d (LB C)))).bind (mq k)
def gc{X:Cx}{k:Nat}{g:sD}{F:FB}{Fh:DF}{U n:Str}{Gx:AD}{np hpos tp:Pos}{b0:Stmt}{suite:sD}(hb:DB X g F)(hN:X.N.Nodup)(hB:∀δ C,F δ=some (some C)->Es X.K C Gx true)(hm:X.mg U=some (.ref Gx))(hs:∀ea,Lx (X.held ea) (b0::suite) Fh) (I:X.calm=true:=by rfl)(O:∃rest,X.stack=X.env::rest:=by exact⟨_,rfl⟩)(Y:X.env.frame=some X.env.locals:=by rfl)(hg:Gl X U:=by rfl)(hd:(U==("__debug__" : Str))=false:=by decide)(hk:X.N[k]? = some n:=by rfl)(hln:X.env.scope.names.lookup n=some .local:=by rfl):DS X (.Try g [.ExceptHandler (some (.Name U np)) (some n) (b0::suite) hpos] [] [] tp) (YN k F Fh):=by
 obtain⟨tb,pb,kb⟩:=hb;refine⟨_,g9 (k:=k) pb hN I O Y,fun δ r h G0 H0 G H σ D R q=>?_⟩;obtain⟨w,h1,h2⟩:=aB.mp h;refine kb δ w h1 G0 H0 G H σ _ _ R ?_;cases w with
 |none=>cases h2;exact fun G' H' R'=>q _ _ _ R'
 |some C=>
  intro G' H' R';refine⟨C,rfl,fun ea=>?_⟩;obtain⟨th,p1,p2⟩:=hs ea;refine⟨th,.hit hg hm hd (hB δ C h1) hk hln p1,fun Z=>?_⟩;obtain⟨o,h3,T⟩:=aB.mp h2;have R2:=R'.newObj (o:=MQ ea (.ref C)) Z;have de:Du (upd G' ea (MQ ea (.ref C))) (LB C) (.ref ea):=by unfold LB;rw[Du];exact .inl ⟨ea,C,rfl,rfl,AN⟩
  refine p2 _ o h3 G0 H0 _ _ _ _ ((R2.put de).Gm) ?_;cases o with
  |nx δ'=>cases T;exact fun σ4 G4 H4 R4=>q _ _ _ (R4.Tp k none)
  |rt v=>cases T
  |bk v=>cases T
  |ct v=>cases T
  |rn v=>cases T
section
variable{k:Nat}{F F1 F2:FB}{Fh:DF}{δ δ':Dv}{fs:rP}{m:rN}{ds:rS}{c:rR}{r:Option (Option AD)}
def eO{C:AD}(h:F δ=some (some C))(z:Fh (δ.set k (.d (LB C)))=some (.nx δ')):YN k F Fh δ=some (.nx (δ'.set k .no)):=by
 show(F δ).bind _=_;rw[h];show(Fh (δ.set k (.d (LB C)))).bind (mq k)=_;rw[z];rfl
def R7{C:AD}(h:F1 δ=some (some C)):SJ F1 F2 δ=some (some C):=by show(F1 δ).bind _=_;rw[h];rfl
def oh(h:c δ=some true)(q:F1 δ=r):a7 c F1 F2 δ=r:=by show(c δ).bind _=_;rw[h];exact q
def oD(h:c δ=some false)(q:F2 δ=r):a7 c F1 F2 δ=r:=by show(c δ).bind _=_;rw[h];exact q
def Um{C:AD}(h:fs δ=some ds)(q:m ds=some (.inr C)):Q8 m fs δ=some (some C):=by show((fs δ).bind m).map _=_;rw[h];show(m ds).map _=_;rw[q];rfl
def Cg(P:AD->Prop)(F:FB):Prop:=∀δ C,F δ=some (some C)->P C
def Cg.at{P:AD->Prop}{F:FB}(h:Cg P F):∀δ C,F δ=some (some C)->P C:=h
variable{P:AD->Prop}
def Cg.nil:Cg P Uh:=fun δ C h=>by cases h
def Cg.seq(T:Cg P F1)(R:Cg P F2):Cg P (SJ F1 F2):=fun δ C h=>by
 obtain⟨I,O,g⟩:=aB.mp h;cases I with
 |none=>exact R δ C g
 |some U=>cases g;exact T δ _ O
def Cg.if(O:Cg P F1)(I:Cg P F2):Cg P (a7 c F1 F2):=fun δ C h=>by
 obtain⟨b,_,g⟩:=aB.mp h;cases b with
 |true=>exact O δ C g
 |false=>exact I δ C g
def Cg.call(h:∀ds C,m ds=some (.inr C)->P C):Cg P (Q8 m fs):=fun δ C z=>by
 obtain⟨w,O,g⟩:=aC.mp z;obtain⟨ds,_,I⟩:=aB.mp O;cases w with
 |inl y=>cases g
 |inr R=>cases g;exact h ds _ I
end
end L2
namespace Tim
open PySem PyProof.Rows
def cy:Array Keyed->Array Keyed->StateT SortSt Sem (Array Keyed):=sortPriv% PySem.Builtin.mergeHi
def En(N:Nat)(a:rZ):Prop:=∀(i:Nat) (x:Nat),a[i]? = some x->x<N
section
variable{N:Nat}{a b:rZ}
def En.get(h:En N a){i:Nat}(hi:i<a.size):∃x,a[i]? = some x/\x<N:=⟨a[i],Array.getElem?_eq_getElem hi,h i _ (Array.getElem?_eq_getElem hi)⟩
def Fb:En N a ↔ ∀x∈a,x<N:=by
 constructor
 .intro h x g;obtain⟨i,hi,rfl⟩:=Array.getElem_of_mem g;exact h i _ (Array.getElem?_eq_getElem hi)
 .intro h i x g;exact h x (Array.mem_of_getElem? g)
def En.push(h:En N a){x:Nat}(I:x<N):En N (a.push x):=Fb.mpr fun y g=>by
 rcases Array.mem_push.mp g with z|z
 .exact Fb.mp h y z
 .rw[z];exact I
def En.app(h:En N a)(k:En N b):En N (a++b):=Fb.mpr fun y g=>by
 rcases Array.mem_append.mp g with z|z
 .exact Fb.mp h y z
 .exact Fb.mp k y z
def En.ext(h:En N a){i j:Nat}:En N (a.extract i j):=fun k x g=>by
 have hk:=(Array.getElem?_eq_some_iff.mp g).1;rw[Array.getElem?_extract]at g;split at g
 .exact h _ _ g
 .cases g
def En.rev(h:En N a):En N a.reverse:=Fb.mpr fun y g=>Fb.mp h y (Array.mem_reverse.mp g)
def En.one{x:Nat}(I:x<N):En N #[x]:=Fb.mpr fun y g=>by
 simp at g;rw[g];exact I
end
section
variable{M:Model}{A:Around}{E:rV}{s:SD}{σ:Type}
def UH{R:Type}{g:Nat->R->StateT σ Sem (ForInStep R)}(I:Nat->R->σ->Prop){Q:R->σ->Prop}{n:Nat}
 (T:∀x i b st,i<n->I i b st->wpS M A E s (g x b) (fun r st'=>match r with|.yield O=>I (i+1) O st'|.done O=>Q O st') st)(U:∀b st,I n b st->Q b st) :
  ∀(l:List Nat) (i:Nat) (b:R) (st:σ),i+l.length=n->I i b st->wpS M A E s (forIn l b g) Q st
 |[],i,b,st,h,q=>by
  rw[List.forIn_nil];exact aJ (U b st (by rw[<-h];exact q))
 |x::l,i,b,st,h,q=>by
  rw[List.forIn_cons];rw[List.length_cons]at h;refine aE (wpS_mono (T x i b st (by lia) q) fun r st' k=>?_);cases r with
  |done O=>exact aJ k
  |yield O=>exact UH I T U l (i+1) O st' (by lia) k
def Gz{O:Type}{lo hi:Nat}{g:Nat->O->StateT σ Sem (ForInStep O)}(I:Nat->O->σ->Prop){Q:O->σ->Prop}{b:O}{st:σ}(h0:I 0 b st)
 (U:∀x i b st,i<hi-lo->I i b st->wpS M A E s (g x b) (fun r st'=>match r with|.yield T=>I (i+1) T st'|.done T=>Q T st') st)(Y:∀b st,I (hi-lo) b st->Q b st) :
  wpS M A E s (forIn [lo:hi] b g) Q st:=by
 rw[Std.Legacy.Range.forIn_eq_forIn_range'];have R:([lo:hi]:Std.Legacy.Range).size=hi-lo:=by simp[Std.Legacy.Range.size]
 show wpS M A E s (forIn (List.range' lo ([lo:hi]:Std.Legacy.Range).size 1) b g) Q st;rw[R];exact UH I U Y _ 0 b st (by rw[List.length_range'];lia) h0
end
def iter_inv{T:Type}{step:T->Option (Bool×T)}(I:Nat->T->Prop)(R:T->Prop)(g:∀f t,I (f+1) t->∃b t',step t=some (b,t')/\(if b=true then R t' else I f t'))(O:∀t,I 0 t->R t):∀n t,I n t->∃t',iter step n t=some t'/\R t'
 |0,t,h=>⟨t,rfl,O t h⟩
 |n+1,t,h=>by
  obtain⟨b,t',Y,U⟩:=g n t h;cases b with
  |true=>exact⟨t',by rw[iter,Y],by simpa using U⟩
  |false=>
   obtain⟨Z,h3,h4⟩:=iter_inv I R g O n t' (by simpa using U);exact⟨Z,by rw[iter,Y];exact h3,h4⟩
def dI{b:Nat->Option Bool}{n hint:Nat}(hb:∀i,i<n->∃x,b i=some x)(hh:hint<n):∃k,Xl b n hint=some k/\k<=n:=by
 have g:∀t:Nat×Nat,t.2<=n->∃Z,iter (Iu b) n t=some Z/\Z.2<=n:=fun t ht=>by
  refine iter_inv (fun _ t=>t.2<=n) (fun t=>t.2<=n) (fun f t h=>?_) (fun t h=>h) n t ht;unfold Iu;by_cases z:t.1 >= t.2
  .exact⟨true,t,if_pos z,by simpa using h⟩
  .rw[if_neg z];obtain⟨x,R⟩:=hb (t.1+(t.2-t.1) / 2) (by lia);rw[R];cases x with
   |true=>exact⟨false,_,rfl,by simpa using h⟩
   |false=>exact⟨false,_,rfl,by simp;lia⟩
 obtain⟨x,R⟩:=hb hint hh;unfold Xl;rw[R];cases x with
 |true=>
  obtain⟨t,Y,_⟩:=iter_inv (step:=ZF b hint (n-hint)) (fun _ _=>True) (fun _=>True) (fun f t _=>by
   unfold ZF;by_cases z:t.2 >= n-hint
   .exact⟨true,t,if_pos z,trivial⟩
   .rw[if_neg z];obtain⟨y,O⟩:=hb (hint+t.2) (by lia);rw[O];cases y with
    |true=>exact⟨false,_,rfl,trivial⟩
    |false=>exact⟨true,_,rfl,trivial⟩) (fun _ _=>trivial) n (0,1) trivial
  dsimp only;rw[Y];obtain⟨I,U,T⟩:=g (hint+t.1+1,hint+min t.2 (n-hint)) (by show hint+min t.2 (n-hint)<=n;lia);refine⟨I.2,?_,T⟩;show(iter (Iu b) n (hint+t.1+1,hint+min t.2 (n-hint))).map (·.2)=_;rw[U];rfl
 |false=>
  obtain⟨t,Y,_⟩:=iter_inv (step:=ZJ b hint (hint+1)) (fun _ _=>True) (fun _=>True) (fun f t _=>by
   unfold ZJ;by_cases z:t.2 >= hint+1
   .exact⟨true,t,if_pos z,trivial⟩
   .rw[if_neg z];obtain⟨y,O⟩:=hb (hint-t.2) (by lia);rw[O];cases y with
    |true=>exact⟨true,_,rfl,trivial⟩
    |false=>exact⟨false,_,rfl,trivial⟩) (fun _ _=>trivial) n (0,1) trivial
  dsimp only;rw[Y];obtain⟨I,U,T⟩:=g (hint+1-min t.2 (hint+1),hint-t.1) (by show hint-t.1<=n;lia);refine⟨I.2,?_,T⟩;show(iter (Iu b) n (hint+1-min t.2 (hint+1),hint-t.1)).map (·.2)=_;rw[U];rfl
section
variable{N:Nat}{lt:Nat->Nat->Bool}{p:rZ}
def MG{i j:Nat}(hi:i<N)(g:j<N):cmp N lt i j=some (lt i j):=if_pos ⟨hi,g⟩
def Ll(h:En N p){i j:Nat}(hi:i<p.size)(g:j<p.size):∃x,at2 N lt p i j=some x:=by
 obtain⟨x,T,R⟩:=h.get hi;obtain⟨y,O,I⟩:=h.get g;exact⟨lt x y,by unfold at2;rw[T,O];exact MG R I⟩
def cH(h:En N p){left:Bool}{key base i:Nat}(hk:key<N)(hi:base+i<p.size):∃x,Jf N lt left key p base i=some x:=by
 obtain⟨x,I,g⟩:=h.get hi;unfold Jf;rw[I];cases left with
 |true=>exact⟨_,MG g hk⟩
 |false=>exact⟨_,by show(cmp N lt key x).map _=_;rw[MG hk g];rfl⟩
end
section
variable{prog:Program}{w:World}{A:Around}{E:rV}{s:SD}{N:Nat}{lt:Nat->Nat->Bool}{κ:SortKind}{it:Nat->Keyed}{p:rZ}{pend:Array (Nat×Nat×Nat)}{g:Nat}
def MS(R:Cm prog w A s κ it N lt){left:Bool}{key:Nat}{xs:rZ}{base n hint:Nat}(I:En N xs)(hk:key<N)(hn:base+n<=xs.size)(O:hint<n){Q:Option Nat->SortSt->Prop}(q:∀k,k<=n->Q (some k) (St κ it p pend g)):wpS (model prog w) A E s (Wi left (it key) (xs.map it) base n hint) Q (St κ it p pend g):=by
 obtain⟨k,U,T⟩:=dI (b:=Jf N lt left key xs base) (n:=n) (hint:=hint) (fun i hi=>cH I hk (by lia)) O;exact Y9 R U (q k T)
def lU(O:Cm prog w A s κ it N lt){i j:Nat}(hi:i<N)(I:j<N){Q:Option Bool->SortSt->Prop}(q:∀b,Q (some b) (St κ it p pend g)):wpS (model prog w) A E s (lt' (it i) (it j)) Q (St κ it p pend g):=T3 O (MG hi I) (q _)
def Jh{xs:rZ}{k:Nat}(I:En N xs)(hk:k<xs.size){Q:Keyed->SortSt->Prop}{st:SortSt}(q:∀x,x<N->Q (it x) st):wpS (model prog w) A E s (elem' (xs.map it) k) Q st:=by
 obtain⟨x,R,O⟩:=I.get hk;exact OA R (q x O)
end
end Tim
namespace Tim
open PySem PyProof.Rows
def Mg(N:Nat)(it:Nat->Keyed)(x:Array Keyed):Prop:=∃r:Array Nat,En N r/\x=r.map it
section
variable{N:Nat}{it:Nat->Keyed}{x y:Array Keyed}
def Mg.of{a:rZ}(h:En N a):Mg N it (a.map it):=⟨a,h,rfl⟩
def Mg.push(h:Mg N it x){i:Nat}(hi:i<N):Mg N it (x.push (it i)):=by
 obtain⟨r,g,rfl⟩:=h;exact⟨r.push i,g.push hi,by rw[Array.map_push]⟩
def Mg.app(h:Mg N it x)(k:Mg N it y):Mg N it (x++y):=by
 obtain⟨r,O,rfl⟩:=h;obtain⟨g,I,rfl⟩:=k;exact⟨r++g,O.app I,by rw[Array.map_append]⟩
def Mg.ext(h:Mg N it x){i j:Nat}:Mg N it (x.extract i j):=by
 obtain⟨r,g,rfl⟩:=h;exact⟨r.extract i j,g.ext,by rw[Array.map_extract]⟩
def Mg.rev(h:Mg N it x):Mg N it x.reverse:=by
 obtain⟨r,g,rfl⟩:=h;exact⟨r.reverse,g.rev,by rw[Array.map_reverse]⟩
def Mg.one{i:Nat}(hi:i<N):Mg N it #[it i]:=⟨#[i],.one hi,by simp⟩
end
section
variable{prog:Program}{w:World}{A:Around}{E:rV}{s:SD}{N:Nat}{lt:Nat->Nat->Bool}{κ:SortKind}{it:Nat->Keyed}{p:rZ}{pend:Array (Nat×Nat×Nat)}{g:Nat}
def Kn(N x:Nat):Prop:=x<N
def T4{x:Array Keyed}(h:Mg N it x){i:Nat}(hi:Kn N i):Mg N it (x.push (it i)):=h.push hi
def IV{xs:rZ}{k:Nat}(O:En N xs)(hk:k<xs.size){I:Type}{f:Keyed->StateT SortSt Sem I}{Q:I->SortSt->Prop}{st:SortSt}(q:∀x,Kn N x->wpS (model prog w) A E s (f (it x)) Q st):wpS (model prog w) A E s ((sortPriv% PySem.Builtin.elem) (xs.map it) k>>=f) Q st:=aE (Jh O hk q)
def X8(R:Cm prog w A s κ it N lt){i j:Nat}(hi:Kn N i)(O:Kn N j){I:Type}{f:Option Bool->StateT SortSt Sem I}{Q:I->SortSt->Prop}(q:∀b,wpS (model prog w) A E s (f (some b)) Q (St κ it p pend g)):wpS (model prog w) A E s ((sortPriv% PySem.Builtin.lt) (it i) (it j)>>=f) Q (St κ it p pend g):=aE (lU R hi O q)
def Kd(T:Cm prog w A s κ it N lt){left:Bool}{key:Nat}{xs:rZ}{base n hint:Nat}(O:En N xs)(hk:Kn N key)(hn:base+n<=xs.size)(R:hint<n){I:Type}{f:Option Nat->StateT SortSt Sem I}{Q:I->SortSt->Prop}(q:∀k,k<=n->wpS (model prog w) A E s (f (some k)) Q (St κ it p pend g)):wpS (model prog w) A E s ((sortPriv% PySem.Builtin.gallop) left (it key) (xs.map it) base n hint>>=f) Q (St κ it p pend g):=aE (MS T O hk hn R q)
def T5{m:Nat}{I:Type}{f:Unit->StateT SortSt Sem I}{Q:I->SortSt->Prop}(q:wpS (model prog w) A E s (f ()) Q (St κ it p pend m)):wpS (model prog w) A E s ((sortPriv% PySem.Builtin.setMinGallop) m>>=f) Q (St κ it p pend g):=aE (bJ q)
def Xj{c:Prop}[Decidable c]{I:Type}{x y:StateT SortSt Sem I}{Q:I->SortSt->Prop}{st:SortSt}(R:c->wpS (model prog w) A E s x Q st)(O:¬c->wpS (model prog w) A E s y Q st):wpS (model prog w) A E s (if c then x else y) Q st:=by
 by_cases z:c
 .rw[if_pos z];exact R z
 .rw[if_neg z];exact O z
def Yh{x y:Nat}{i:Decidable ((x==y)=true)}{I:Type}{u v:StateT SortSt Sem I}{Q:I->SortSt->Prop}{st:SortSt}(R:x=y->wpS (model prog w) A E s u Q st)(O:x≠y->wpS (model prog w) A E s v Q st):wpS (model prog w) A E s (if(x==y)=true then u else v) Q st:=by
 split
 .rename_i z;exact R (beq_iff_eq.mp z)
 .rename_i z;exact O fun e=>z (beq_iff_eq.mpr e)
def Y6{c:Prop}{T:Decidable c}{I:Type}{x y:StateT SortSt Sem I}{Q:I->SortSt->Prop}{st:SortSt}{F:Nat->StateT SortSt Sem I}{a b:Nat}(R:x=F a)(O:y=F b)(h:∀m,wpS (model prog w) A E s (F m) Q st):wpS (model prog w) A E s (if c then x else y) Q st:=by
 subst R O;split
 .exact h _
 .exact h _
def V1(hc:Cm prog w A s κ it N lt){a b:rZ}(ha:En N a)(hb:En N b)(a1:1<=a.size)(b1:1<=b.size){Q:Array Keyed->SortSt->Prop}(q:∀r g',Mg N it r->Q r (St κ it p pend g')):wpS (model prog w) A E s (cy (a.map it) (b.map it)) Q (St κ it p pend g):=by
 have ma:=Mg.of (it:=it) ha;have mb:=Mg.of (it:=it) hb;refine aE (wpS_lift (aq ⟨rfl,?_⟩));dsimp only;refine aE (Jh ha (by rw[Array.size_map];lia) fun y hy=>?_);simp only[Array.size_map];by_cases z1:(a.size-1==0)=true
 .rw[if_pos z1];exact aJ (q _ _ ((ma.ext.app mb.ext).app (Mg.one hy).rev))
 rw[if_neg z1];have z1':a.size-1≠0:=by simpa using z1
 by_cases z2:(b.size==1)=true
 .rw[if_pos z2];exact aJ (q _ _ ((mb.ext.app ma.ext).app (Mg.one hy).rev))
 rw[if_neg z2];have z2':b.size≠1:=by simpa using z2
 refine aE (wpS_get ?_);dsimp only;refine aE (wpS_mono (Gz (fun i (t:Option (Array Keyed)×Nat×Nat×Array Keyed×Nat) st=>(∃g',st=St κ it p pend g')/\t.1=none/\1<=t.2.1/\t.2.1<=a.size/\2<=t.2.2.1/\t.2.2.1<=b.size/\Mg N it t.2.2.2.1/\t.2.1+t.2.2.1+i<=a.size+b.size)
  (Q:=fun t st=>(∃g',st=St κ it p pend g')/\∃r,t.1=some r/\Mg N it r) ?_ ?_ ?_) fun t st' U=>?_)
 .exact⟨⟨_,rfl⟩,rfl,by show 1<=a.size-1;lia,by show a.size-1<=a.size;lia,by show 2<=b.size;lia,Nat.le_refl _,Mg.one hy,by show a.size-1+b.size+0<=_;lia⟩
 .rintro x i ⟨res,na,nb,out,mg⟩ st hi ⟨⟨g0,rfl⟩,h1,n1,n2,n3,n4,mo,hs⟩;dsimp only at h1 n1 n2 n3 n4 mo hs ⊢;subst h1;refine aE (wpS_mono (Gz (fun j (t:Option (Array Keyed)×Nat×Nat×Array Keyed×Nat×Nat) st=>st=St κ it p pend g0/\t.1=none/\1<=t.2.1/\t.2.1<=a.size/\2<=t.2.2.1/\t.2.2.1<=b.size/\Mg N it t.2.2.2.1/\t.2.1+t.2.2.1+j<=na+nb)
   (Q:=fun t st=>st=St κ it p pend g0/\match t.1 with
    |some r=>Mg N it r
    |none=>1<=t.2.1/\t.2.1<=a.size/\2<=t.2.2.1/\t.2.2.1<=b.size/\Mg N it t.2.2.2.1/\t.2.1+t.2.2.1<na+nb) ?_ ?_ ?_) fun t st' U=>?_)
  .exact⟨rfl,rfl,n1,n2,n3,n4,mo,Nat.le_refl _⟩
  .rintro x2 j ⟨R,na2,Z,T,ac2,bc2⟩ st2 hj ⟨rfl,Y,k1,k2,k3,k4,I,O⟩;dsimp only at Y k1 k2 k3 k4 I O ⊢;subst Y
   repeat' first
    |with_reducible refine Yh (fun _=>?_) (fun _=>?_)
    |with_reducible refine Xj (fun _=>?_) (fun _=>?_)
    |with_reducible refine IV hb ?_ (fun _ _=>?_)
    |with_reducible refine IV ha ?_ (fun _ _=>?_)
    |with_reducible refine X8 hc ?_ ?_ (fun _=>?_)
    |with_reducible refine Kd hc ha ?_ ?_ ?_ (fun _ _=>?_)
    |with_reducible refine Kd hc hb ?_ ?_ ?_ (fun _ _=>?_)
    |with_reducible refine T5 ?_
    |with_reducible refine aJ ?_
    |dsimp only
    |lia
    |with_reducible refine And.intro ?_ ?_
    |exact⟨_,rfl⟩
    |rfl
    |with_reducible assumption
    |with_reducible exact ma.ext
    |with_reducible exact mb.ext
    |with_reducible apply Mg.app
    |with_reducible apply T4
    |with_reducible apply Mg.rev
  .rintro⟨R,na2,Z,T,ac2,bc2⟩ st2 ⟨rfl,Y,k1,k2,k3,k4,I,O⟩;dsimp only at Y k1 k2 k3 k4 I O ⊢;subst Y;exact⟨rfl,k1,k2,k3,k4,I,by lia⟩
  obtain⟨res1,na1,nb1,out1,ac1,bc1⟩:=t;obtain⟨rfl,U⟩:=U;cases res1 with
  |some r=>exact aJ ⟨⟨_,rfl⟩,r,rfl,U⟩
  |none=>
   dsimp only at U ⊢;obtain⟨l1,l2,l3,l4,mo1,hs1⟩:=U;refine aE (wpS_lift (aq ⟨rfl,?_⟩));refine aE (wpS_mono (Gz (fun j (t:Option (Array Keyed)×Nat×Nat×Array Keyed×Nat×Nat×Nat) st=>(∃g',st=St κ it p pend g')/\t.1=none/\1<=t.2.1/\t.2.1<=a.size/\2<=t.2.2.1/\t.2.2.1<=b.size/\Mg N it t.2.2.2.1/\t.2.1+t.2.2.1<=na1+nb1)
    (Q:=fun t st=>(∃g',st=St κ it p pend g')/\match t.1 with
     |some r=>Mg N it r
     |none=>1<=t.2.1/\t.2.1<=a.size/\2<=t.2.2.1/\t.2.2.1<=b.size/\Mg N it t.2.2.2.1/\t.2.1+t.2.2.1<=na1+nb1) ?_ ?_ ?_) fun t st' U=>?_)
   .exact⟨⟨_,rfl⟩,rfl,l1,l2,l3,l4,mo1,Nat.le_refl _⟩
   .rintro x2 j ⟨R,na2,Z,T,mg2,ac2,bc2⟩ st2 hj ⟨⟨g2,rfl⟩,Y,k1,k2,k3,k4,I,O⟩;dsimp only at Y k1 k2 k3 k4 I O ⊢;subst Y;generalize mg2-1=m1;apply Y6 (a:=m1) (b:=mg2) rfl rfl;intro m
    repeat' first
     |with_reducible refine Yh (fun _=>?_) (fun _=>?_)
     |with_reducible refine Xj (fun _=>?_) (fun _=>?_)
     |with_reducible refine IV hb ?_ (fun _ _=>?_)
     |with_reducible refine IV ha ?_ (fun _ _=>?_)
     |with_reducible refine X8 hc ?_ ?_ (fun _=>?_)
     |with_reducible refine Kd hc ha ?_ ?_ ?_ (fun _ _=>?_)
     |with_reducible refine Kd hc hb ?_ ?_ ?_ (fun _ _=>?_)
     |with_reducible refine T5 ?_
     |with_reducible refine aJ ?_
     |dsimp only
     |lia
     |with_reducible refine And.intro ?_ ?_
     |exact⟨_,rfl⟩
     |rfl
     |with_reducible assumption
     |with_reducible exact ma.ext
     |with_reducible exact mb.ext
     |with_reducible apply Mg.app
     |with_reducible apply T4
     |with_reducible apply Mg.rev
   .rintro⟨R,na2,Z,T,mg2,ac2,bc2⟩ st2 ⟨hg2,Y,k1,k2,k3,k4,I,O⟩;dsimp only at Y k1 k2 k3 k4 I O ⊢;subst Y;exact⟨hg2,k1,k2,k3,k4,I,O⟩
   obtain⟨R,na2,Z,T,mg2,ac2,bc2⟩:=t;obtain⟨⟨g2,rfl⟩,U⟩:=U;cases R with
   |some r=>exact aJ ⟨⟨_,rfl⟩,r,rfl,U⟩
   |none=>
    dsimp only at U ⊢;obtain⟨k1,k2,k3,k4,I,O⟩:=U;refine aE (bJ ?_);exact aJ ⟨⟨_,rfl⟩,rfl,k1,k2,k3,k4,I,by show na2+Z+(i+1)<=a.size+b.size;lia⟩
 .rintro⟨res,na,nb,out,mg⟩ st ⟨_,h1,n1,n2,n3,n4,mo,hs⟩;dsimp only at h1 n1 n2 n3 n4 mo hs
  lia
 obtain⟨⟨g',rfl⟩,r,h1,Y⟩:=U;rw[h1];exact aJ (q r g' Y)
end
end Tim
namespace Tim
open PySem PyProof.Rows
section
variable{prog:Program}{w:World}{A:Around}{E:rV}{s:SD}{N:Nat}{lt:Nat->Nat->Bool}{κ:SortKind}{it:Nat->Keyed}{p:rZ}{pend:Array (Nat×Nat×Nat)}{g:Nat}
def Vy(hc:Cm prog w A s κ it N lt){a b:rZ}(ha:En N a)(hb:En N b)(a1:1<=a.size)(b1:1<=b.size){Q:Array Keyed->SortSt->Prop}(q:∀r g',Mg N it r->Q r (St κ it p pend g')):wpS (model prog w) A E s (eE (a.map it) (b.map it)) Q (St κ it p pend g):=by
 have ma:=Mg.of (it:=it) ha;have mb:=Mg.of (it:=it) hb;refine aE (wpS_lift (aq ⟨rfl,?_⟩));dsimp only;refine aE (Jh hb (by lia) fun y hy=>?_);simp only[Array.size_map];by_cases z1:(1==b.size)=true
 .rw[if_pos z1];exact aJ (q _ _ (((Mg.one hy).app ma.ext).app mb.ext))
 rw[if_neg z1];have z1':1≠b.size:=by simpa using z1
 by_cases z2:(0+1==a.size)=true
 .rw[if_pos z2];exact aJ (q _ _ (((Mg.one hy).app mb.ext).app ma.ext))
 rw[if_neg z2];have z2':0+1≠a.size:=by simpa using z2
 refine aE (wpS_get ?_);dsimp only;refine aE (wpS_mono (Gz (fun i (t:Option (Array Keyed)×Array Keyed×Nat×Nat×Nat) st=>(∃g',st=St κ it p pend g')/\t.1=none/\t.2.2.1+1<a.size/\t.2.2.2.1<b.size/\Mg N it t.2.1/\i+1<=t.2.2.1+t.2.2.2.1)
  (Q:=fun t st=>(∃g',st=St κ it p pend g')/\∃r,t.1=some r/\Mg N it r) ?_ ?_ ?_) fun t st' U=>?_)
 .exact⟨⟨_,rfl⟩,rfl,by show 0+1<a.size;lia,by show 1<b.size;lia,Mg.one hy,by show 0+1<=0+1;lia⟩
 .rintro x i ⟨res,out,ia,ib,mg⟩ st hi ⟨⟨g0,rfl⟩,h1,n1,n2,mo,hs⟩;dsimp only at h1 n1 n2 mo hs ⊢;subst h1;refine aE (wpS_mono (Gz (fun j (t:Option (Array Keyed)×Array Keyed×Nat×Nat×Nat×Nat) st=>st=St κ it p pend g0/\t.1=none/\t.2.2.1+1<a.size/\t.2.2.2.1<b.size/\Mg N it t.2.1/\ia+ib+j<=t.2.2.1+t.2.2.2.1)
   (Q:=fun t st=>st=St κ it p pend g0/\match t.1 with
    |some r=>Mg N it r
    |none=>t.2.2.1+1<a.size/\t.2.2.2.1<b.size/\Mg N it t.2.1/\ia+ib<t.2.2.1+t.2.2.2.1) ?_ ?_ ?_) fun t st' U=>?_)
  .exact⟨rfl,rfl,n1,n2,mo,Nat.le_refl _⟩
  .rintro x2 j ⟨R,T,ia2,ib2,ac2,bc2⟩ st2 hj ⟨rfl,Y,k1,Z,I,O⟩;dsimp only at Y k1 Z I O ⊢;subst Y
   repeat' first
    |with_reducible refine Yh (fun _=>?_) (fun _=>?_)
    |with_reducible refine Xj (fun _=>?_) (fun _=>?_)
    |with_reducible refine IV hb ?_ (fun _ _=>?_)
    |with_reducible refine IV ha ?_ (fun _ _=>?_)
    |with_reducible refine X8 hc ?_ ?_ (fun _=>?_)
    |with_reducible refine Kd hc ha ?_ ?_ ?_ (fun _ _=>?_)
    |with_reducible refine Kd hc hb ?_ ?_ ?_ (fun _ _=>?_)
    |with_reducible refine T5 ?_
    |with_reducible refine aJ ?_
    |dsimp only
    |lia
    |with_reducible refine And.intro ?_ ?_
    |exact⟨_,rfl⟩
    |rfl
    |with_reducible assumption
    |with_reducible exact ma.ext
    |with_reducible exact mb.ext
    |with_reducible apply Mg.app
    |with_reducible apply T4
  .rintro⟨R,T,ia2,ib2,ac2,bc2⟩ st2 ⟨rfl,Y,k1,Z,I,O⟩;dsimp only at Y k1 Z I O ⊢;subst Y;exact⟨rfl,k1,Z,I,by lia⟩
  obtain⟨res1,out1,ia1,ib1,ac1,bc1⟩:=t;obtain⟨rfl,U⟩:=U;cases res1 with
  |some r=>exact aJ ⟨⟨_,rfl⟩,r,rfl,U⟩
  |none=>
   dsimp only at U ⊢;obtain⟨l1,l2,mo1,hs1⟩:=U;refine aE (wpS_lift (aq ⟨rfl,?_⟩));refine aE (wpS_mono (Gz (fun j (t:Option (Array Keyed)×Array Keyed×Nat×Nat×Nat×Nat×Nat) st=>(∃g',st=St κ it p pend g')/\t.1=none/\t.2.2.1+1<a.size/\t.2.2.2.1<b.size/\Mg N it t.2.1/\ia1+ib1<=t.2.2.1+t.2.2.2.1)
    (Q:=fun t st=>(∃g',st=St κ it p pend g')/\match t.1 with
     |some r=>Mg N it r
     |none=>t.2.2.1+1<a.size/\t.2.2.2.1<b.size/\Mg N it t.2.1/\ia1+ib1<=t.2.2.1+t.2.2.2.1) ?_ ?_ ?_) fun t st' U=>?_)
   .exact⟨⟨_,rfl⟩,rfl,l1,l2,mo1,Nat.le_refl _⟩
   .rintro x2 j ⟨R,T,ia2,ib2,mg2,ac2,bc2⟩ st2 hj ⟨⟨g2,rfl⟩,Y,k1,Z,I,O⟩;dsimp only at Y k1 Z I O ⊢;subst Y;generalize mg2-1=m1;apply Y6 (a:=m1) (b:=mg2) rfl rfl;intro m
    repeat' first
     |with_reducible refine Yh (fun _=>?_) (fun _=>?_)
     |with_reducible refine Xj (fun _=>?_) (fun _=>?_)
     |with_reducible refine IV hb ?_ (fun _ _=>?_)
     |with_reducible refine IV ha ?_ (fun _ _=>?_)
     |with_reducible refine X8 hc ?_ ?_ (fun _=>?_)
     |with_reducible refine Kd hc ha ?_ ?_ ?_ (fun _ _=>?_)
     |with_reducible refine Kd hc hb ?_ ?_ ?_ (fun _ _=>?_)
     |with_reducible refine T5 ?_
     |with_reducible refine aJ ?_
     |dsimp only
     |lia
     |with_reducible refine And.intro ?_ ?_
     |exact⟨_,rfl⟩
     |rfl
     |with_reducible assumption
     |with_reducible exact ma.ext
     |with_reducible exact mb.ext
     |with_reducible apply Mg.app
     |with_reducible apply T4
   .rintro⟨R,T,ia2,ib2,mg2,ac2,bc2⟩ st2 ⟨hg2,Y,k1,Z,I,O⟩;dsimp only at Y k1 Z I O ⊢;subst Y;exact⟨hg2,k1,Z,I,O⟩
   obtain⟨R,T,ia2,ib2,mg2,ac2,bc2⟩:=t;obtain⟨⟨g2,rfl⟩,U⟩:=U;cases R with
   |some r=>exact aJ ⟨⟨_,rfl⟩,r,rfl,U⟩
   |none=>
    dsimp only at U ⊢;obtain⟨k1,Z,I,O⟩:=U;refine aE (bJ ?_);exact aJ ⟨⟨_,rfl⟩,rfl,k1,Z,I,by show i+1+1<=ia2+ib2;lia⟩
 .rintro⟨res,out,ia,ib,mg⟩ st ⟨_,h1,n1,n2,mo,hs⟩;dsimp only at h1 n1 n2 mo hs
  lia
 obtain⟨⟨g',rfl⟩,r,h1,Y⟩:=U;rw[h1];exact aJ (q r g' Y)
end
end Tim
namespace Tim
open PySem PyProof.Rows
section
variable{N:Nat}{lt:Nat->Nat->Bool}{p:rZ}
def En.perm{a b:rZ}(h:En N a)(k:b.Perm a):En N b:=Fb.mpr fun x g=>Fb.mp h x (by
 have:=k.mem_iff (a:=x);exact this.mp g)
def N5(h:En N p)(i j:Nat):En N (turn p i j)/\(turn p i j).size=p.size:=⟨h.perm (mirror_perm _ _ _ _),mirror_size _ _ _ _⟩
def Uk(h:En N p){lo nrem n:Nat}(hz:lo+nrem<=p.size)(Y:1<=n){f:Nat}(R:n+f<=nrem):∃m,iter (HQ N lt p lo) f n=some m/\1<=m/\m<=nrem:=by
 obtain⟨m,U,T⟩:=iter_inv (step:=HQ N lt p lo) (fun f n=>1<=n/\n+f<=nrem) (fun n=>1<=n/\n<=nrem) (fun f n ⟨g,I⟩=>by
  obtain⟨x,O⟩:=Ll (lt:=lt) h (i:=lo+n) (j:=lo+n-1) (by lia) (by lia);unfold HQ;rw[O];cases x with
  |true=>exact⟨true,n,rfl,by simp;lia⟩
  |false=>exact⟨false,n+1,rfl,by simp;lia⟩) (fun n ⟨g,I⟩=>⟨g,by lia⟩) f n ⟨Y,R⟩
 exact⟨m,U,T⟩
def S4(h:En N p){lo nrem n:Nat}(hz:lo+nrem<=p.size)(hn:n+1<=nrem):∃m U,OT N lt p lo nrem n=some (m,U)/\1<=m/\m<=nrem/\En N U/\U.size=p.size:=by
 obtain⟨t,h2,Z,Y,h5,h6⟩:=iter_inv (step:=MW N lt lo) (fun f (t:Array Nat×Nat×Nat)=>En N t.1/\t.1.size=p.size/\1<=t.2.1/\t.2.1+f<=nrem) (fun t=>En N t.1/\t.1.size=p.size/\1<=t.2.1/\t.2.1<=nrem) (fun f t ⟨g,I,T,k4⟩=>by
  obtain⟨q,n,c⟩:=t;dsimp only at g I T k4;obtain⟨x,hx⟩:=Ll (lt:=lt) g (i:=lo+n) (j:=lo+n-1) (by lia) (by lia);obtain⟨y,hy⟩:=Ll (lt:=lt) g (i:=lo+n-1) (j:=lo+n) (by lia) (by lia);unfold MW;dsimp only;rw[hx];cases x with
  |true=>
   refine⟨false,_,rfl,?_⟩;rw[if_neg (by decide)];dsimp only;split
   .obtain⟨R,O⟩:=N5 g (lo+n-(c+1)) (lo+n);exact⟨R,by rw[O];exact I,by lia,by lia⟩
   .exact⟨g,I,by lia,by lia⟩
  |false=>
   dsimp only;rw[hy];cases y with
   |true=>exact⟨true,_,rfl,by rw[if_pos rfl];exact⟨g,I,T,by show n<=nrem;lia⟩⟩
   |false=>exact⟨false,_,rfl,by rw[if_neg (by decide)];exact⟨g,I,by show 1<=n+1;lia,by show n+1+f<=nrem;lia⟩⟩) (fun t ⟨g,I,T,k4⟩=>⟨g,I,T,by lia⟩) (nrem-(n+1)) (p,n+1,0) ⟨h,rfl,by show 1<=n+1;lia,by show n+1+(nrem-(n+1))<=nrem;lia⟩
 obtain⟨q,m,c⟩:=t;dsimp only at Z Y h5 h6;unfold OT;rw[h2];dsimp only;have k:En N (if c > 0 then turn q (lo+m-(c+1)) (lo+m) else q)/\(if c > 0 then turn q (lo+m-(c+1)) (lo+m) else q).size=p.size:=by
  split
  .obtain⟨R,O⟩:=N5 Z (lo+m-(c+1)) (lo+m);exact⟨R,by rw[O];exact Y⟩
  .exact⟨Z,Y⟩
 generalize (if c > 0 then turn q (lo+m-(c+1)) (lo+m) else q)=q2 at k;obtain⟨R,O⟩:=N5 k.1 lo (lo+m);obtain⟨m2,y1,y2,y3⟩:=Uk (lt:=lt) R (lo:=lo) (nrem:=nrem) (n:=m) (f:=nrem-m) (by rw[O,k.2];exact hz) h5 (by lia);exact⟨m2,_,by rw[y1];rfl,y2,y3,R,by rw[O];exact k.2⟩
def XW(h:En N p){lo nrem:Nat}(hz:lo+nrem<=p.size)(h1:1<=nrem):∃m g,QR N lt p lo nrem=some (m,g)/\1<=m/\m<=nrem/\En N g/\g.size=p.size:=by
 obtain⟨n,h2,T,R⟩:=Uk (lt:=lt) h (lo:=lo) (nrem:=nrem) (n:=1) (f:=nrem-1) hz (aH _) (by lia);unfold QR;rw[h2];dsimp only;by_cases I:(n==nrem)=true
 .rw[if_pos I];exact⟨n,p,rfl,T,R,h,rfl⟩
 rw[if_neg I];have c1':n≠nrem:=by simpa using I
 by_cases U:n > 1
 .rw[if_pos U];obtain⟨x,hx⟩:=Ll (lt:=lt) h (i:=lo) (j:=lo+n-1) (by lia) (by lia);rw[hx];cases x with
  |true=>exact⟨n,p,rfl,T,R,h,rfl⟩
  |false=>
   obtain⟨Y,O⟩:=N5 h lo (lo+n);obtain⟨m,g,y1,y2,y3,y4,Z⟩:=S4 (lt:=lt) Y (lo:=lo) (nrem:=nrem) (n:=n) (by rw[O];exact hz) (by lia);exact⟨m,g,y1,y2,y3,y4,by rw[Z,O]⟩
 .rw[if_neg U];exact S4 h hz (by lia)
def Ui:∀ {f k:Nat} {p:Array Nat} {lo:Nat},En N p->lo+k+f<=p.size->∃g,K7 N lt lo f k p=some g/\En N g/\g.size=p.size
 |0,k,p,lo,h,_=>⟨p,rfl,h,rfl⟩
 |f+1,k,p,lo,h,Z=>by
  obtain⟨t,Y,_⟩:=iter_inv (step:=LJ N lt p lo k) (fun _ (t:Nat×Nat)=>t.2<=k) (fun _=>True) (fun f t T=>by
   unfold LJ;by_cases c:t.1 >= t.2
   .exact⟨true,t,if_pos c,trivial⟩
   .rw[if_neg c];obtain⟨x,U⟩:=Ll (lt:=lt) h (i:=lo+k) (j:=lo+(t.1+t.2) / 2) (by lia) (by lia);rw[U];cases x with
    |true=>exact⟨false,_,rfl,by rw[if_neg (by decide)];show(t.1+t.2) / 2<=k;lia⟩
    |false=>exact⟨false,_,rfl,by rw[if_neg (by decide)];exact T⟩) (fun _ _=>trivial) k (0,k) (aH _)
  obtain⟨l,r⟩:=t;rw[K7,Y];dsimp only;obtain⟨g,R,O,I⟩:=Ui (f:=f) (k:=k+1) (p:=bubble p (lo+k) (lo+k-(lo+l))) (lo:=lo) (h.perm (bubble_perm _ _ _)) (by rw[bubble_size];lia);exact⟨g,R,O,by rw[I,bubble_size]⟩
def ZD(h:En N p){at_:Nat}{m:rZ}(hm:En N m):En N (Uv p at_ m)/\(Uv p at_ m).size=p.size:=by
 unfold Uv;have:∀(l:List (Nat×Nat)) (p:Array Nat),En N p->(∀x∈l,x.1<N)->En N (l.foldl (fun a x=>a.setIfInBounds (at_+x.2) x.1) p)/\(l.foldl (fun a x=>a.setIfInBounds (at_+x.2) x.1) p).size=p.size:=by
  intro l
  induction l with
  |nil=>intro p h _;exact⟨h,rfl⟩
  |cons y l R=>
   intro p h k;have h':En N (p.setIfInBounds (at_+y.2) y.1):=fun i x g=>by
    rw[Array.getElem?_setIfInBounds]at g;split at g
    .split at g
     .cases g;exact k y (.head _)
     .cases g
    .exact h i x g
   obtain⟨O,I⟩:=R (p.setIfInBounds (at_+y.2) y.1) h' fun x g=>k x (.tail _ g);exact⟨O,by rw[List.foldl_cons,I,Array.size_setIfInBounds]⟩
 refine this _ p h fun x g=>?_;obtain⟨i,hi,T⟩:=List.mem_iff_getElem.mp g;have U:=List.mem_zipIdx g;have:x.1∈m.toList:=by
  have:=List.fst_mem_of_mem_zipIdx g;exact this
 exact Fb.mp hm x.1 (Array.mem_toList_iff.mp this)
end
end Tim
namespace Tim
open PySem PyProof.Rows
section
variable{prog:Program}{w:World}{A:Around}{E:rV}{s:SD}{N:Nat}{lt:Nat->Nat->Bool}{κ:SortKind}{it:Nat->Keyed}{p:rZ}{pend:Array (Nat×Nat×Nat)}{g:Nat}
def V6(T:Cm prog w A s κ it N lt)(I:En N p){sa na pw sb nb pw2:Nat}(h0:pend[0]? = some (sa,na,pw))(h1:pend[1]? = some (sb,nb,pw2))(hs:sa+na=sb)(hz:sb+nb<=p.size)(n1:1<=na)(n2:1<=nb){Q:Bool->SortSt->Prop} (q:∀Z g',En N Z->Z.size=p.size->Q true (St κ it Z ((pend.setIfInBounds 0 (sa,na+nb,pw)).eraseIdxIfInBounds 1) g')):wpS (model prog w) A E s (mergeAt' 0) Q (St κ it p pend g):=by
 refine aE (wpS_get ?_);have e0:(pendingOf (St κ it p pend g))[0]? = some (sa,na,pw):=h0;have e1:(pendingOf (St κ it p pend g))[0+1]? = some (sb,nb,pw2):=h1;rw[e0,e1];dsimp only;refine aE (iD ?_);refine aE (Jh I (by lia) fun y hy=>?_);refine aE (MS (p:=p) (pend:=(pend.setIfInBounds 0 (sa,na+nb,pw)).eraseIdxIfInBounds 1) (g:=g) T I hy (by lia) (by lia) fun k hk=>?_);dsimp only;by_cases c1:(na-k==0)=true
 .exact LL c1 (aJ (q _ _ I rfl))
 refine Jc c1 ?_;have c1':na-k≠0:=by simpa using c1
 refine aE (Jh I (by lia) fun z hz'=>?_);refine aE (MS (p:=p) (pend:=(pend.setIfInBounds 0 (sa,na+nb,pw)).eraseIdxIfInBounds 1) (g:=g) T I hz' (by lia) (by lia) fun O hk2=>?_);dsimp only;by_cases c2:(O==0)=true
 .exact LL c2 (aJ (q _ _ I rfl))
 refine Jc c2 ?_;have c2':O≠0:=by simpa using c2
 have sx:(p.extract (sa+k) sb).size=sb-(sa+k):=by simp;lia
 have sy:(p.extract sb (sb+O)).size=O:=by simp;lia
 split
 .rw[<-Array.map_extract,<-Array.map_extract];refine aE (Vy (p:=p) (pend:=(pend.setIfInBounds 0 (sa,na+nb,pw)).eraseIdxIfInBounds 1) T I.ext I.ext (by rw[sx];lia) (by rw[sy];lia) fun r g' hr=>?_);obtain⟨m,hm,rfl⟩:=hr;refine aE (bJ ?_);refine aE (wpS_get ?_);refine aJ ?_;obtain⟨Y,U⟩:=ZD I (at_:=sa+k) hm;have R:=q _ g' Y U;have e3:=Wo (it:=it) p (sa+k) m;unfold St at R;rw[<-e3]at R;exact R
 .rw[<-Array.map_extract,<-Array.map_extract];refine aE (V1 (p:=p) (pend:=(pend.setIfInBounds 0 (sa,na+nb,pw)).eraseIdxIfInBounds 1) T I.ext I.ext (by rw[sx];lia) (by rw[sy];lia) fun r g' hr=>?_);obtain⟨m,hm,rfl⟩:=hr;refine aE (bJ ?_);refine aE (wpS_get ?_);refine aJ ?_;obtain⟨Y,U⟩:=ZD I (at_:=sa+k) hm;have R:=q _ g' Y U;have e3:=Wo (it:=it) p (sa+k) m;unfold St at R;rw[<-e3]at R;exact R
end
end Tim
namespace Tim
open PySem PyProof.Rows
def Vz{n:Nat}(I:64<=n)(g:n<128):minRun' n n 0=n / 2+n % 2:=by
 obtain⟨m,rfl⟩:∃m,n=m+2:=⟨n-2,by lia⟩;rw[minRun'_succ,if_neg (by lia),minRun'_succ,if_pos (by lia),Nat.zero_max]
section
variable{prog:Program}{w:World}{A:Around}{E:rV}{s:SD}{N:Nat}{lt:Nat->Nat->Bool}{κ:SortKind}{it:Nat->Keyed}{p:rZ}{pend:Array (Nat×Nat×Nat)}{g:Nat}
def Pd(size lo:Nat)(pend:Array (Nat×Nat×Nat)):Prop:=(lo=0/\pend=#[])\/(∃I:Nat,lo=I/\pend=#[(0,I,0)]/\size / 2+size % 2<=I/\I<=size)\/(lo=size/\∃I O x y:Nat,pend=#[(0,I,x),(I,O,y)]/\I+O=size/\1<=I/\1<=O)
def dA(hc:Cm prog w A s κ it N lt)(hp:En N p)(h1:64<=p.size)(h2:p.size<128){Q:SortSt->Prop}(q:∀O pend g,En N O->O.size=p.size->Q (St κ it O pend g)):wpS (model prog w) A E s sortRuns' (fun _ st=>Q st) (St κ it p #[] 7):=by
 refine aE (wpS_get ?_);dsimp only;simp only[Array.size_map];generalize hz:p.size=size at h1 h2 q ⊢;have hmr:=Vz h1 h2;have hit:iter (fun _:Unit=>some (true,())) (size-0) ()=some ():=by
  cases size with
  |zero=>lia
  |succ f=>rfl
 refine aE (wpS_mono (Gz (fun j (t:Option Unit×Nat) st=>t.1=none/\∃O pend g,st=St κ it O pend g/\En N O/\O.size=size/\Pd size t.2 pend)
  (Q:=fun t st=>t.1=none/\∃O pend g,st=St κ it O pend g/\En N O/\O.size=size/\Pd size t.2 pend) ?_ ?_ ?_) fun t st' hq=>?_)
 .exact⟨rfl,p,#[],7,rfl,hp,hz,.inl ⟨rfl,rfl⟩⟩
 .rintro x j ⟨res,lo⟩ st hj ⟨Y,p2,pend2,U,rfl,hp2,hz2,pd⟩;dsimp only at Y pd ⊢;subst Y;by_cases hge:lo >= size
  .exact LL hge (aJ ⟨rfl,p2,pend2,U,rfl,hp2,hz2,pd⟩)
  refine Jc hge ?_;obtain⟨m,p3,hm,m1,m2,hp3,hz3⟩:=XW (lt:=lt) hp2 (lo:=lo) (nrem:=size-lo) (by lia) (by lia);refine aE (cb hc hm ?_);dsimp only;by_cases hlt:m<minRun' size size 0
  .refine LL hlt ?_;refine aE (wpS_lift (aq ⟨rfl,?_⟩));have hmr':min (size-lo) (minRun' size size 0)=min (size-lo) (size / 2+size % 2):=by rw[hmr]
   obtain⟨p4,hp4,k1,k2⟩:=Ui (lt:=lt) (f:=min (size-lo) (minRun' size size 0)-max m 1) (k:=max m 1) (lo:=lo) hp3 (by lia);refine aE (jG hc hp4 ?_);refine Jc (by decide) ?_;have k2:p4.size=size:=by lia
   refine aE (wpS_get ?_);rcases pd with ⟨a1,a2⟩|⟨Z,a1,a2,a3,a4⟩|⟨a1,_⟩
   .subst a1 a2;exact aE (bJ (aJ ⟨rfl,p4,#[(0,(min (size-0) (minRun' size size 0)),0)],U,rfl,k1,k2,.inr (.inl ⟨(min (size-0) (minRun' size size 0)),by show 0+(min (size-0) (minRun' size size 0))=(min (size-0) (minRun' size size 0));lia,rfl,by lia,by lia⟩)⟩))
   .subst a1 a2;refine aE (CT (T:=Unit) (fun _=>some (true,())) (fun _=>(none,())) (fun _=>St κ it p4 #[(0,lo,0)] U) (t:=()) (t':=()) hit (fun x t b t' hs2 R2 hR2=>?_) ?_)
    .cases hs2;refine aE (wpS_get ?_);have hn:(if(pendingOf (St κ it p4 #[(0,lo,0)] U)).size > 1 then(pendingOf (St κ it p4 #[(0,lo,0)] U))[(pendingOf (St κ it p4 #[(0,lo,0)] U)).size-2]? else none)=none:=if_neg (by show ¬1 > 1;decide);rw[hn];exact aJ hR2
    .exact aE (bJ (aE (bJ (aJ ⟨rfl,p4,#[(0,lo,_),(lo,(min (size-lo) (minRun' size size 0)),0)],U,rfl,k1,k2,.inr (.inr ⟨by show lo+(min (size-lo) (minRun' size size 0))=size;lia,lo,(min (size-lo) (minRun' size size 0)),_,_,rfl,by lia,by lia,by lia⟩)⟩))))
   .lia
  .refine Jc hlt ?_;have k1:=hp3;have k2:p3.size=size:=by lia
   rw[hmr]at hlt;refine aE (wpS_get ?_);rcases pd with ⟨a1,a2⟩|⟨Z,a1,a2,a3,a4⟩|⟨a1,_⟩
   .subst a1 a2;exact aE (bJ (aJ ⟨rfl,p3,#[(0,m,0)],U,rfl,k1,k2,.inr (.inl ⟨m,by show 0+(m)=m;lia,rfl,by lia,by lia⟩)⟩))
   .subst a1 a2;refine aE (CT (T:=Unit) (fun _=>some (true,())) (fun _=>(none,())) (fun _=>St κ it p3 #[(0,lo,0)] U) (t:=()) (t':=()) hit (fun x t b t' hs2 R2 hR2=>?_) ?_)
    .cases hs2;refine aE (wpS_get ?_);have hn:(if(pendingOf (St κ it p3 #[(0,lo,0)] U)).size > 1 then(pendingOf (St κ it p3 #[(0,lo,0)] U))[(pendingOf (St κ it p3 #[(0,lo,0)] U)).size-2]? else none)=none:=if_neg (by show ¬1 > 1;decide);rw[hn];exact aJ hR2
    .exact aE (bJ (aE (bJ (aJ ⟨rfl,p3,#[(0,lo,_),(lo,m,0)],U,rfl,k1,k2,.inr (.inr ⟨by show lo+(m)=size;lia,lo,m,_,_,rfl,by lia,by lia,by lia⟩)⟩))))
   .lia
 .exact fun b st h=>h
 obtain⟨res,lo⟩:=t;obtain⟨Y,p1,pend1,g1,rfl,hp1,hz1,pd⟩:=hq;dsimp only at Y pd ⊢;subst Y;dsimp only;refine aE (wpS_mono (Gz (fun j (t:Option Unit×Unit) st=>t.1=none/\∃O pend g,st=St κ it O pend g/\En N O/\O.size=size/\(pend.size<=1\/∃Z n2 x y:Nat,pend=#[(0,Z,x),(Z,n2,y)]/\Z+n2=size/\1<=Z/\1<=n2))
  (Q:=fun t st=>t.1=none/\∃O pend g,st=St κ it O pend g/\En N O/\O.size=size) ?_ ?_ ?_) fun t st' hq=>?_)
 .refine⟨rfl,p1,pend1,g1,rfl,hp1,hz1,?_⟩;rcases pd with ⟨_,a2⟩|⟨Z,_,a2,_⟩|⟨_,a2⟩
  .exact .inl (by rw[a2];decide)
  .exact .inl (by rw[a2];exact aH 1)
  .exact .inr a2
 .rintro x j ⟨res,u⟩ st hj ⟨Y,p5,I,g5,rfl,R,hz5,c5⟩;dsimp only at Y ⊢;subst Y;refine aE (wpS_get ?_);dsimp only;by_cases hle:I.size<=1
  .exact LL hle (aJ ⟨rfl,p5,I,g5,rfl,R,hz5⟩)
  refine Jc hle ?_;rcases c5 with c5|⟨Z,n2,y1,y2,rfl,e1,e2,e3⟩
  .exact absurd c5 hle
  refine aE (V6 (p:=p5) (pend:=#[(0,Z,y1),(Z,n2,y2)]) (sa:=0) (na:=Z) (pw:=y1) (sb:=Z) (nb:=n2) (pw2:=y2) hc R rfl rfl (by lia) (by lia) e2 e3 fun p6 g6 hp6 hz6=>?_);exact aJ ⟨rfl,p6,_,g6,rfl,hp6,by lia,.inl (by simp[Array.eraseIdxIfInBounds])⟩
 .rintro b st ⟨Y,p5,I,g5,h5,R,hz5,_⟩;exact⟨Y,p5,I,g5,h5,R,hz5⟩
 obtain⟨Y,p5,I,g5,rfl,R,hz5⟩:=hq;rw[Y];exact aJ (q p5 I g5 R hz5)
end
end Tim
namespace TH
open PySem PySem.W PyProof.Rows PySem.SeqAt
section
variable{prog:Program}{w:World}{A:Around}{E:rV}{s:SD}
def Zm{R:SortKind}{t:Tr}{I:rT}(Y:Qz R)(e:Vs s.heap t I)(h2:64<=I.length)(h64:I.length<128)(hu:A.units+t.deep<=cLine):wpAny (model prog w) A ((sortRuns').run (SortSt.mk' R (I.toArray.zip I.toArray) #[] 7 none)) (fun r s'=>s'=s/\failedOf r.2=none/\∃ix:rk,ix.length=I.length/\(∀i∈ix,i<I.length) /\(arrOf r.2).map (·.2)=(ix.map fun i=>I.getD i Value.none).toArray) E s:=by
 have key:∀i,i<I.length->∃(a:AD) (O:List VL),I.getD i Value.none=.ref a/\s.heap.IsTuple a O.toArray/\Vs s.heap (t.bs.getD i .nil) O/\(t.bs.getD i .nil).deep<t.deep:=fun i hi=>by
  obtain⟨a,O,c,q1,U,T,q4,q5⟩:=e.at hi;have:t.bs.getD i .nil=c:=by rw[List.getD_eq_getElem?_getD,q4];rfl
  rw[this];exact⟨a,O,q1,U,T,q5⟩
 have hz:I.toArray.zip I.toArray=(List.range I.length).toArray.map fun i=>(I.getD i Value.none,I.getD i Value.none):=by
  apply Array.ext_getElem?;intro i;by_cases hi:i<I.length
  .simp[hi]
  .simp[hi]
 have hc:Tim.Cm prog w A s R (fun i=>(I.getD i Value.none,I.getD i Value.none)) I.length (fun i j=>Tr.lt (t.bs.getD i .nil) (t.bs.getD j .nil)):=fun i j E Q hi hj q=>by
  obtain⟨a,O,q1,U,T,q4⟩:=key i hi;obtain⟨a',its',r1,r2,r3,r4⟩:=key j hj;show wpAny _ _ (keyLt' R (I.getD i Value.none) (I.getD j Value.none)) _ _ _;rw[q1,r1];exact W6 Y U T r2 r3 (by lia) q
 rw[hz];have hp:Tim.En I.length (List.range I.length).toArray:=fun i x hx=>by
  rw[List.getElem?_toArray]at hx;exact bQ.mp (aW hx)
 refine aU (Tim.dA (p:=(List.range I.length).toArray) hc hp (by simpa using h2) (by simpa using h64) (Q:=fun st=>failedOf st=none/\∃ix:List Nat,ix.length=I.length/\(∀i∈ix,i<I.length)/\(arrOf st).map (·.2)=(ix.map fun i=>I.getD i Value.none).toArray) fun p pend g hp2 Z=>⟨rfl,p.toList,by simpa using Z,fun i hi=>?_,?_⟩) (fun r s' z=>z) fun _ _ z=>z
 .exact Tim.Fb.mp hp2 i (by simpa using hi)
 .show(p.map _).map _=_;rw[Array.map_map];apply Array.toList_inj.mp;rw[Array.toList_map]
  rfl
def Xx{a:AD}{us:rT}{t:Tr}{n:Nat}{P:PySem.Fin->SD->Prop}(U:s.heap.get? a=some (seqObj "list" us.toArray n))(e:Vs s.heap t us)(h2:64<=us.length)(h64:us.length<128)(hu:A.units+t.deep<=cLine) (h:∀ix:rk,ix.length=us.length->(∀i∈ix,i<us.length)->P (.done (.ret .none)) {s with heap:=sortedHeap s.heap a us (ix.map fun i=>us.getD i Value.none).toArray}):wpAny (model prog w) A (Builtin.«list.sort» ⟨[.ref a],[]⟩) P E s:=by
 rw[LY,list_sort_rev];have ha:a<s.heap.objs.size:=aF U;refine Wb (listItems_at U rfl ?_);refine Wb (listUpdate_at U rfl ?_ (by rw[List.size_toArray,sizeLine_eq];lia) (aj _));obtain⟨e1,T⟩:∃e1,(s.heap.update a (Obj.mapSeq fun _=>#[])).get? a=some (seqObj "list" #[] e1):=⟨_,get?_update_seq U (fun _=>#[])⟩;refine Wb (seqEpoch_at T rfl ?_);refine Wb (wpAny_newTuple ?_ (by show us.length<=_;rw[sizeLine_eq];lia));refine Wb (wpAny_newList ?_ (aj _));refine aV ?_;have R:(((s.heap.update a (Obj.mapSeq fun _=>#[])).push (seqObj "tuple" us.toArray 0)).push (seqObj "list" #[] 0)).get? a=some (seqObj "list" #[] e1):=by
  rw[Heap.get?_push_ne _ _ _ (by rw[size_push',Heap.size_update];exact aK (av ha)),Heap.get?_push_ne _ _ _ (by rw[Heap.size_update];exact aK ha)];exact T
 have keep:∀c o,s.heap.get? c=some o->o.cls=.type "tuple" ->(((s.heap.update a (Obj.mapSeq fun _=>#[])).push (seqObj "tuple" us.toArray 0)).push (seqObj "list" #[] 0)).get? c=some o:=fun c o hc hcl=>by
  have hne:c≠a:=fun z=>by
   rw[z,U]at hc;cases hc;exact absurd (show Value.type "list" = Value.type "tuple" from hcl) (by decide)
  refine aD _ (aD _ ?_);rw[Heap.get?_update_ne _ _ _ _ hne];exact hc
 show wpAny (model prog w) A _ P E {s with heap:=((s.heap.update a (Obj.mapSeq fun _=>#[])).push (seqObj "tuple" us.toArray 0)).push (seqObj "list" #[] 0)};have e6:=e.keeps keep;dsimp only;rw[if_neg (by decide:¬false=true)];have hz:¬us.toArray.size<2:=by simp;lia
 rw[if_neg hz,if_neg hz];refine Wb (W8 (s:={s with heap:=((s.heap.update a (Obj.mapSeq fun _=>#[])).push (seqObj "tuple" us.toArray 0)).push (seqObj "list" #[] 0)}) e6 fun κ Z=>?_);rw[if_neg (by decide:¬false=true)];refine Wb (aU (Zm (s:={s with heap:=((s.heap.update a (Obj.mapSeq fun _=>#[])).push (seqObj "tuple" us.toArray 0)).push (seqObj "list" #[] 0)}) Z e6 h2 h64 hu) ?_ fun _ _ z=>z);rintro⟨⟨⟩,I⟩ s' ⟨rfl,hf,ix,Y,hix,O⟩;dsimp only;refine Wb (seqEpoch_at R rfl ?_);rw[if_neg (by decide:¬false=true)];have g:(arrOf I).map (·.2)=(ix.map fun i=>us.getD i Value.none).toArray:=O;refine Wb (listUpdate_at R rfl ?_ (aj _) (by
  refine aR (Nat.le_of_eq (bI Array.size g)) ?_;rw[List.size_toArray,List.length_map,Y,sizeLine_eq];lia))
 rw[show failedOf I=none from hf];simp only[bne_self_eq_false,Bool.false_eq_true,if_false];have fin:=h ix Y hix;rw[<-g]at fin;exact aA fin
end
section
variable{G:VL->Tr->Prop}{prog:Program}{w:World}{A:Around}{E:rV}{s:SD}{S:AD}{o:Obj}{ev:Array (Int×VL)}{et:ES}{ep:Nat}{t:SetTable}
def Vu{Q:rV}(hA:A.handled=none)(W:EY w o ev ep t)(ho:s.heap.get? S=some o)(R:DV G s.heap ev et)(T:64<=et.size)(h64:et.size<128)(hu:A.units+20<cLine) (h:∀(h':Heap) (D tk U:Nat) (us:rT) (bs:rz),s.heap.objs.size<=D->(∀b u,s.heap.get? b=some u->h'.get? b=some u)->h'.get? D=some (seqObj "list" us.toArray U)->Paired G us bs->us.length<128 ->Q (.ref D) {s with heap:=h',toks:=tk}):wpAny (model prog w) A (call (.builtin "sorted") [.ref S]) Q E s:=by
 have hsz:=R.size;refine Calls.call_function_entry kind_sorted plain_sorted entry_sorted (args_sorted1 _) ?_;unfold Builtin.«sorted»;refine Wb (m:=checkCount "sorted" 1 1 _) (aA ?_);refine Wb (gather (A:=A.in1) (Wk W) hA ho (FL (by lia)) fun T tk g z1 k1 I=>?_);have Z:g.toList=(FU w S ep ev).toList.map (·.2):=by
  apply List.ext_getElem?;intro j;rw[List.getElem?_map];by_cases hj:j<g.size
  .have U:g[j]? = some g[j]:=Array.getElem?_eq_getElem hj;obtain⟨z,e2⟩:=I.2 j _ U;rw[Array.getElem?_toList,U,Array.getElem?_toList,e2]
   rfl
  .have hj2:¬j<(FU w S ep ev).size:=by rw[IZ,<-I.1];exact hj
   rw[List.getElem?_eq_none (by simpa using hj),List.getElem?_eq_none (by simpa using hj2)]
   rfl
 obtain⟨m,pm,rm⟩:=Paired.perm (N4 w S ep ev) R;have Y:=SG rm;rw[<-Z]at Y;have hd:(Tr.of (m.map (·.2))).deep<=8:=(Tr.Lk 8 _).mpr fun c hc=>by have:=NC rm c hc;lia
 have hl1:g.toList.length=et.size:=by rw[Array.length_toList,I.1,hsz]
 have O:g.toList.length<128:=by lia
 refine Wb (wpAny_newList ?_ (FL (by lia)));have g1:(T.push (seqObj "list" g.toList.toArray 0)).get? T.objs.size=some (seqObj "list" g.toList.toArray 0):=aP _ rfl;have k2:∀b u,s.heap.get? b=some u->(T.push (seqObj "list" g.toList.toArray 0)).get? b=some u:=fun b u e=>aD _ (k1 b u e);refine Wb (aV (aX slot_list_sort ⟨_,g1,rfl⟩ entry_list_sort (Xx (s:={s with heap:=T.push (seqObj "list" g.toList.toArray 0),toks:=tk}) g1 (Y.keeps fun b u e _=>k2 b u e) (by lia) O
  (by rw[show A.in1.in1.units=A.units+2 from rfl];lia) fun ix a1 a2=>⟨_,rfl,?_⟩) (args_list_sort _)))
 obtain⟨U,he1⟩:=sortedHeap_at (vs:=g.toList) (out:=(ix.map fun i=>g.toList.getD i Value.none).toArray) g1;have hg:=Vo rm;rw[<-Z]at hg;refine aA ⟨_,rfl,h _ T.objs.size tk U (ix.map fun i=>g.toList.getD i Value.none) _ ?_ (fun b u e=>?_) he1 (Paired.Xe hg Value.none Tr.nil ix a2) (by rw[List.length_map,a1];exact O)⟩
 .exact ay z1
 .have lb:b<T.objs.size:=aF (k1 b u e);rw[sortedHeap_old (aK lb) (by rw[Heap.size_push];exact av lb)];exact k2 b u e
end
end TH
namespace TH
open PySem
def lk:List (Nat×Nat)->Nat->Option Nat
 |[],_=>none
 |(a,k)::r,j=>bif Nat.beq a j then some k else lk r j
def XX(mask:Nat)(tk:List (Nat×Nat))(j:Nat):Bool:=Nat.ble j mask&&(lk tk j).isNone
def MB(mask:Nat)(tk:List (Nat×Nat)):Nat->Nat->Nat->Option Nat
 |0,_,_=>none
 |fuel+1,i,perturb=>
  match (List.range (SetTable.runEnd mask i+1-i)).find? fun k=>XX mask tk (i+k) with
  |some k=>some (i+k)
  |none=>let(i,perturb):=SetTable.leap mask i perturb;MB mask tk fuel i perturb
def Pb(mask:Nat):List (Nat×Nat)->Nat->List Int->Option (List (Nat×Nat))
 |tk,_,[]=>some tk
 |tk,k,h::r=>match MB mask tk (SetTable.turns mask) (SetTable.bits h % (mask+1)) (SetTable.bits h) with
  |none=>none
  |some 0=>Pb mask ((0,k)::tk) (k+1) r
  |some (j+1)=>Pb mask ((j+1,k)::tk) (k+1) r
def MP(mask:Nat)(owner:Array (Option Nat))(tk:List (Nat×Nat)):Prop:=owner.size=mask+1/\∀j,j<=mask->owner[j]? = some (lk tk j)
def gB{mask:Nat}{owner:Array (Option Nat)}{tk:List (Nat×Nat)}(h:MP mask owner tk)(j:Nat):(owner.getD j (some 0)).isNone=XX mask tk j:=by
 unfold XX;by_cases g:j<=mask
 .have:=h.2 j g;rw[Array.getD_eq_getD_getElem?,this,Nat.ble_eq.mpr g]
  rfl
 .rw[Array.getD_eq_getD_getElem?,Array.getElem?_eq_none (by have:=h.1;lia)];have:Nat.ble j mask=false:=by
   cases hb:Nat.ble j mask
   .rfl
   .exact absurd (Nat.ble_eq.mp hb) g
  rw[this]
  rfl
def free_eq{mask:Nat}{owner:Array (Option Nat)}{tk:List (Nat×Nat)}(h:MP mask owner tk):∀fuel i p,SetTable.layClean.free mask owner fuel i p=MB mask tk fuel i p
 |0,_,_=>rfl
 |fuel+1,i,p=>by
  unfold SetTable.layClean.free MB;have:(fun k=>(owner.getD (i+k) (some 0)).isNone)=fun k=>XX mask tk (i+k):=funext fun k=>gB h _;rw[this];split
  .rename_i k e;rw[e]
  .rename_i e;rw[e];exact free_eq h fuel _ _
def ij{mask:Nat}{owner:Array (Option Nat)}{tk:List (Nat×Nat)}(h:MP mask owner tk)(j k:Nat):MP mask (owner.setIfInBounds j (some k)) ((j,k)::tk):=by
 refine⟨by rw[Array.size_setIfInBounds];exact h.1,fun i hi=>?_⟩;have:=h.2 i hi;rw[Array.getElem?_setIfInBounds,lk];by_cases e:j=i
 .subst e;have hb:Nat.beq j j=true:=Nat.beq_refl j;rw[if_pos rfl,if_pos (by have:=h.1;lia),hb]
  rfl
 .have hb:Nat.beq j i=false:=by
   cases hb:Nat.beq j i
   .rfl
   .exact absurd (Nat.eq_of_beq_eq_true hb) e
  rw[if_neg e,hb];exact this
def Sd(mask:Nat):∀l:rd,(l.foldl (init:=none) fun(acc:Option (Array (Option Nat)×Nat)) h=>do
    let(owner,k) <-acc
    let j <-SetTable.layClean.free mask owner (SetTable.turns mask) (SetTable.bits h % (mask+1)) (SetTable.bits h)
    pure (owner.setIfInBounds j (some k),k+1))=none
  |[]=>rfl
  |h::r=>Sd mask r
def fold_eq{mask:Nat}:∀(l:rd) {owner:Array (Option Nat)} {tk:List (Nat×Nat)} {k:Nat},MP mask owner tk ->
    match Pb mask tk k l with
    |none=>(l.foldl (init:=some (owner,k)) fun acc h=>do
        let(owner,k) <-acc
        let j <-SetTable.layClean.free mask owner (SetTable.turns mask) (SetTable.bits h % (mask+1)) (SetTable.bits h)
        pure (owner.setIfInBounds j (some k),k+1))=none
    |some tk'=>∃o' k',(l.foldl (init:=some (owner,k)) fun acc h=>do
        let(owner,k) <-acc
        let j <-SetTable.layClean.free mask owner (SetTable.turns mask) (SetTable.bits h % (mask+1)) (SetTable.bits h)
        pure (owner.setIfInBounds j (some k),k+1))=some (o',k')/\MP mask o' tk'
  |[],owner,tk,k,h=>⟨owner,k,rfl,h⟩
  |x::r,owner,tk,k,h=>by
    rw[Pb]
    have e:((some (owner,k)).bind fun(q:Array (Option Nat)×Nat)=>(SetTable.layClean.free mask q.1 (SetTable.turns mask) (SetTable.bits x % (mask+1)) (SetTable.bits x)).bind fun j=>some (q.1.setIfInBounds j (some q.2),q.2+1))=(MB mask tk (SetTable.turns mask) (SetTable.bits x % (mask+1)) (SetTable.bits x)).bind fun j=>some (owner.setIfInBounds j (some k),k+1):=by
      rw[<-free_eq h]
      rfl
    have key:∀j,MB mask tk (SetTable.turns mask) (SetTable.bits x % (mask+1)) (SetTable.bits x)=some j->∀R:Option (Array (Option Nat)×Nat)->Prop,R ((r.foldl (init:=some (owner.setIfInBounds j (some k),k+1)) fun acc h=>do
        let(owner,k) <-acc
        let j <-SetTable.layClean.free mask owner (SetTable.turns mask) (SetTable.bits h % (mask+1)) (SetTable.bits h)
        pure (owner.setIfInBounds j (some k),k+1)))->R (((x::r).foldl (init:=some (owner,k)) fun acc h=>do
        let(owner,k) <-acc
        let j <-SetTable.layClean.free mask owner (SetTable.turns mask) (SetTable.bits h % (mask+1)) (SetTable.bits h)
        pure (owner.setIfInBounds j (some k),k+1))):=fun j hj R hR=>by
      rw[hj]at e
      rw[List.foldl_cons]
      have e':(do
        let(owner,k) <-some (owner,k)
        let j <-SetTable.layClean.free mask owner (SetTable.turns mask) (SetTable.bits x % (mask+1)) (SetTable.bits x)
        pure (owner.setIfInBounds j (some k),k+1))=some (owner.setIfInBounds j (some k),k+1):=e
      rw[e']
      exact hR
    cases hj:MB mask tk (SetTable.turns mask) (SetTable.bits x % (mask+1)) (SetTable.bits x) with
    |none=>
      dsimp only
      rw[hj]at e
      rw[List.foldl_cons]
      have e':(do
        let(owner,k) <-some (owner,k)
        let j <-SetTable.layClean.free mask owner (SetTable.turns mask) (SetTable.bits x % (mask+1)) (SetTable.bits x)
        pure (owner.setIfInBounds j (some k),k+1))=none:=e
      rw[e']
      exact Sd mask r
    |some j=>
      have ih:=fold_eq r (k:=k+1) (ij h j k)
      cases j with
      |zero=>
        dsimp only
        split
        . rename_i e2;rw[e2]at ih;exact key 0 hj (fun z=>z=none) ih
        . rename_i tk' e2;rw[e2]at ih;exact key 0 hj (fun z=>∃o' k',z=some (o',k')/\MP mask o' tk') ih
      |succ j=>
        dsimp only
        split
        . rename_i e2;rw[e2]at ih;exact key (j+1) hj (fun z=>z=none) ih
        . rename_i tk' e2;rw[e2]at ih;exact key (j+1) hj (fun z=>∃o' k',z=some (o',k')/\MP mask o' tk') ih
def Pj{I O:Type}{f g:I->Option O}:∀l:List I,(∀x∈l,f x=g x)->l.filterMap f=l.filterMap g
 |[],_=>rfl
 |a::r,h=>by rw[List.filterMap_cons,List.filterMap_cons,h a aS,Pj r fun x R=>h x (aO _ R)]
def N9(mask:Nat)(tk:List (Nat×Nat)):List (Nat×Nat):=(List.range (mask+1)).filterMap fun j=>(lk tk j).map (j,·)
def T8(mask finger moves:Nat)(led plain:Bool)(hashes:Array Int):Option (SetTable×rZ):=match Pb mask [] 0 hashes.toList with
 |none=>none
 |some tk=>some ({ mask,place:=((N9 mask tk).map (·.1)).toArray,dummies:=#[],finger,led,moves,plain},((N9 mask tk).map (·.2)).toArray)
def iX(mask finger moves:Nat)(led plain:Bool)(hashes:Array Int):SetTable.laid mask finger moves led plain hashes=T8 mask finger moves led plain hashes:=by
 have h0:MP mask (Array.replicate (mask+1) none) []:=⟨by simp,fun j g=>by rw[Array.getElem?_replicate,if_pos (by lia)];rfl⟩;have:=fold_eq hashes.toList (k:=0) h0;unfold SetTable.laid SetTable.layClean T8;rw[<-Array.foldl_toList];cases I:Pb mask [] 0 hashes.toList with
 |none=>
  rw[I]at this;dsimp only at this;rw[this]
  rfl
 |some tk=>
  rw[I]at this;dsimp only at this;obtain⟨o',T,R,O⟩:=this;rw[R];have live:((List.range (mask+1)).filterMap fun j=>(o'.getD j none).map (j,·))=N9 mask tk:=by
   refine Pj _ fun j g=>?_;have g:=bQ.mp g;rw[Array.getD_eq_getD_getElem?,O.2 j (by lia)]
   rfl
  show some (_,_)=_;dsimp only;rw[live]
def addQ(st:ES×SetTable)(x:Tr):Option (ES×SetTable) :=
 if(st.2.fits st.1.size&&decide (st.1.size<=1000)&&st.2.plain)=false then none else
 match Pt st.1 st.2 x (Ah x) with
 |none=>none
 |some none=>some st
 |some (some slot)=>
  if(st.2.put slot).1.tooFull=false then some (SetTable.insertAt st.1 (st.2.put slot).2 (Ah x,x),(st.2.put slot).1) else
  if((st.2.put slot).1.fits (SetTable.insertAt st.1 (st.2.put slot).2 (Ah x,x)).size&&decide (SetTable.sizeAbove (SetTable.grown (st.1.size+1))<=100000))=false then none else
  match T8 (SetTable.sizeAbove (SetTable.grown (st.1.size+1))-1) (st.2.put slot).1.finger ((st.2.put slot).1.movedTo (SetTable.sizeAbove (SetTable.grown (st.1.size+1))-1)) (st.2.put slot).1.led (st.2.put slot).1.plain ((SetTable.insertAt st.1 (st.2.put slot).2 (Ah x,x)).map (·.1)) with
  |none=>none
  |some (g,order)=>
   if(order.filterMap ((SetTable.insertAt st.1 (st.2.put slot).2 (Ah x,x))[·]?)).size=(SetTable.insertAt st.1 (st.2.put slot).2 (Ah x,x)).size then
    some (order.filterMap ((SetTable.insertAt st.1 (st.2.put slot).2 (Ah x,x))[·]?),g) else none
def add_eq(st:ES×SetTable)(x:Tr):PQ st x=addQ st x:=by
 unfold PQ addQ SetTable.relaid;simp only[iX]
 all_goals rfl
end TH
namespace TH
open PySem
structure LS where
 es:List (Int×Tr)
 pl:List Nat
 mask:Nat
 moves:Nat
 deriving DecidableEq
def LS.st(led:Bool)(q:LS):ES×SetTable:=(q.es.toArray,{ mask:=q.mask,place:=q.pl.toArray,dummies:=#[],finger:=0,led,moves:=q.moves,plain:=true})
def ND(l:List Nat)(j:Nat):Nat->Nat->Nat->Nat
 |0,lo,_=>lo
 |fuel+1,lo,hi=>if lo<hi then(if l.getD ((lo+hi) / 2) j<j then ND l j fuel ((lo+hi) / 2+1) hi else ND l j fuel lo ((lo+hi) / 2)) else lo
def Nv(l:List Nat)(j:Nat):∀fuel lo hi,SetTable.below.go l.toArray j fuel lo hi=ND l j fuel lo hi
 |0,_,_=>rfl
 |fuel+1,lo,hi=>by
  unfold SetTable.below.go ND;have e:l.toArray.getD ((lo+hi) / 2) j=l.getD ((lo+hi) / 2) j:=by rw[Array.getD_eq_getD_getElem?,List.getElem?_toArray,List.getD_eq_getElem?_getD]
  dsimp only;rw[e,Nv l j fuel,Nv l j fuel]
def G5(l:rk)(j:Nat):Nat:=ND l j l.length 0 l.length
def Vj(l:rk)(j:Nat):SetTable.below l.toArray j=G5 l j:=by
 unfold SetTable.below G5;rw[List.size_toArray];exact Nv l j _ _ _
def T2(pl:rk)(j:Nat):Option Nat:=if pl[G5 pl j]? = some j then some (G5 pl j) else none
def ins{g:Type}:List g->Nat->g->List g
 |l,0,x=>x::l
 |[],_+1,x=>[x]
 |a::l,p+1,x=>a::ins l p x
def Zl{g:Type}(x:g):∀(l:List g) (p:Nat),ins l p x=l.take p++x::l.drop p
 |l,0=>by cases l<;>rfl
 |[],p+1=>rfl
 |a::l,p+1=>by rw[ins,Zl x l p];rfl
def Ox{g:Type}(l:List g)(p:Nat)(x:g):SetTable.insertAt l.toArray p x=(ins l p x).toArray:=by
 rw[Zl];apply Array.toList_inj.mp;unfold SetTable.insertAt;simp[List.extract_eq_drop_take];exact List.take_of_length_le (by simp)
def cS(mask:Nat)(p:SetTable.Probe):SetTable.Probe :=
 if p.more > 0 then {p with j:=p.j+1,more:=p.more-1} else
 {p with j:=(SetTable.leap mask p.i p.perturb).1,more:=SetTable.runEnd mask (SetTable.leap mask p.i p.perturb).1-(SetTable.leap mask p.i p.perturb).1,i:=(SetTable.leap mask p.i p.perturb).1,perturb:=(SetTable.leap mask p.i p.perturb).2}
def L1(q:LS)(h:Int)(x:Tr):Nat->SetTable.Probe->Option (Option Nat)
 |0,_=>none
 |fuel+1,p=>match T2 q.pl p.j with
  |none=>some (some p.j)
  |some i=>match q.es[i]? with
   |none=>none
   |some (h',y)=>if h'=h then(if y=x then some none else none) else L1 q h x fuel (cS q.mask p)
def ng(g:ES)(x:Tr):Option SetTable.Met->Option (Option Nat)
 |some (.empty j none)=>some (some j)
 |some (.candidate _ i _)=>match g[i]? with
  |some (_,y)=>if y=x then some none else none
  |none=>none
 |_=>none
def slot_of(led:Bool)(q:LS)(j:Nat):(q.st led).2.slot j=match T2 q.pl j with|some i=>.live i|none=>.empty:=by
 unfold SetTable.slot T2 LS.st;dsimp only;rw[Vj,List.getElem?_toArray];have hd:SetTable.has #[] j=false:=by
  unfold SetTable.has;simp
 by_cases h:q.pl[G5 q.pl j]? = some j
 .rw[if_pos (by rw[h];exact beq_self_eq_true _),if_pos h]
 .rw[if_neg (by simpa using h),if_neg h,if_neg (by rw[hd];decide)]
def Z6{mask:Nat}{p:SetTable.Probe}(h:p.dummy=none):(cS mask p).dummy=none:=by
 unfold cS;split<;>exact h
def Vk(led:Bool)(q:LS)(h:Int)(x:Tr){r:Option Nat}:∀(fuel:Nat) (p:SetTable.Probe),p.dummy=none->L1 q h x fuel p=some r->ng (q.st led).1 x (SetTable.probe.go (q.st led).2 (Ly (q.st led).1) h fuel p)=some r
 |0,_,_,e=>by cases e
 |fuel+1,p,hd,e=>by
  unfold SetTable.probe.go;unfold L1 at e;rw[slot_of];cases g:T2 q.pl p.j with
  |none=>
   rw[g]at e;dsimp only at e ⊢;rw[hd];exact e
  |some i=>
   rw[g]at e;dsimp only at e ⊢;have ge:(q.st led).1[i]? = q.es[i]? := by show q.es.toArray[i]? = _;rw[List.getElem?_toArray]
   split at e
   .cases e
   .rename_i h' y hi;have I:Ly (q.st led).1 i=h':=by unfold Ly;rw[ge,hi];rfl
    rw[I];by_cases c:h'=h
    .rw[if_pos c]at e;rw[if_pos (by rw[c];exact beq_self_eq_true _)];show(match (q.st led).1[i]? with|some (_,y)=>if y=x then some none else none|none=>none)=_;rw[ge,hi];exact e
    .rw[if_neg c]at e;rw[if_neg (by simpa using c)];exact Vk led q h x fuel _ (Z6 hd) e
def mL(q:LS):Bool:=decide (q.pl.length=q.es.length)&&decide (q.pl.length<=q.mask)&&decide (q.es.length<=1000)
def Qf(mask:Nat)(h:Int):SetTable.Probe:={ j:=SetTable.bits h % (mask+1),more:=SetTable.runEnd mask (SetTable.bits h % (mask+1))-SetTable.bits h % (mask+1),i:=SetTable.bits h % (mask+1),perturb:=SetTable.bits h,dummy:=none}
def fQ(I:List (Int×Tr))(mask moves g:Nat):Option LS:=match Pb g [] 0 (I.map (·.1)) with
 |none=>none
 |some tk=>if((N9 g tk).filterMap fun O=>I[O.2]?).length=I.length then some ⟨(N9 g tk).filterMap fun O=>I[O.2]?,(N9 g tk).map (·.1),g,if mask==7&&g==7 then moves else moves+1⟩ else none
def eL(q:LS)(x:Tr):Option LS :=
 if(mL q&&decide (q.mask % 2≠0))=false then none else
 match L1 q (Ah x) x (10*SetTable.turns q.mask) (Qf q.mask (Ah x)) with
 |none=>none
 |some none=>some q
 |some (some j)=>
  if(q.pl.length+1)*5<q.mask*3 then some ⟨ins q.es (G5 q.pl j) (Ah x,x),ins q.pl (G5 q.pl j) j,q.mask,q.moves⟩ else
  if(decide (q.pl.length+1<=q.mask)&&decide (SetTable.sizeAbove (SetTable.grown (q.es.length+1))<=100000))=false then none else
  fQ (ins q.es (G5 q.pl j) (Ah x,x)) q.mask q.moves (SetTable.sizeAbove (SetTable.grown (q.es.length+1))-1)
def LP{g:Type}(x:g):∀(l:List g) (p:Nat),(ins l p x).length=l.length+1
 |l,0=>by cases l<;>rfl
 |[],p+1=>rfl
 |a::l,p+1=>by rw[ins,List.length_cons,LP x l p];rfl
def mC(led:Bool)(q:LS)(j:Nat):(q.st led).2.put j=((LS.st led ⟨q.es,ins q.pl (G5 q.pl j) j,q.mask,q.moves⟩).2,G5 q.pl j):=by
 unfold SetTable.put LS.st;dsimp only;have hd:SetTable.has #[] j=false:=by
  unfold SetTable.has;simp
 rw[Vj,Ox,hd]
 rfl
def mY(led:Bool){q Z:LS}{x:Tr}(e:eL q x=some Z):PQ (q.st led) x=some (Z.st led):=by
 unfold eL at e;by_cases h0:(mL q&&decide (q.mask % 2≠0))=false
 .rw[if_pos h0]at e;cases e
 rw[if_neg h0]at e;simp only[Bool.not_eq_false,Bool.and_eq_true,decide_eq_true_eq,mL]at h0;obtain⟨⟨⟨o1,o2⟩,o3⟩,o4⟩:=h0;have fit:∀pl:List Nat,(LS.st led ⟨q.es,pl,q.mask,q.moves⟩).2.fill=pl.length:=fun pl=>by unfold SetTable.fill LS.st;simp
 rw[add_eq];unfold addQ;have g0:¬((q.st led).2.fits (q.st led).1.size&&decide ((q.st led).1.size<=1000)&&(q.st led).2.plain)=false:=by
  have f1:(q.st led).1.size=q.es.length:=bP;have f2:(q.st led).2.place.size=q.pl.length:=bP;have f3:(q.st led).2.fill=q.pl.length:=fit q.pl;unfold SetTable.fits;rw[f1,f2,f3];have T:(q.st led).2.mask=q.mask:=rfl;have f5:(q.st led).2.plain=true:=rfl;rw[T,f5];simp[o1,o3]
  lia
 rw[if_neg g0];have hs:∀r,L1 q (Ah x) x (10*SetTable.turns q.mask) (Qf q.mask (Ah x))=some r->Pt (q.st led).1 (q.st led).2 x (Ah x)=some r:=fun r hr=>by
  unfold Pt;have:(q.st led).2.gaveWay=false:=by
   unfold SetTable.gaveWay;show(q.mask % 2==0)=false
   simpa using o4
  rw[this,if_neg (by decide)];exact Vk led q (Ah x) x _ (Qf q.mask (Ah x)) rfl hr
 cases O:L1 q (Ah x) x (10*SetTable.turns q.mask) (Qf q.mask (Ah x)) with
 |none=>rw[O]at e;cases e
 |some r=>
  rw[O]at e;rw[hs r O];cases r with
  |none=>cases e;rfl
  |some j=>
   dsimp only at e ⊢;rw[mC];dsimp only;have U:SetTable.insertAt (q.st led).1 (G5 q.pl j) (Ah x,x)=(ins q.es (G5 q.pl j) (Ah x,x)).toArray:=Ox _ _ _;have tf:(LS.st led ⟨q.es,ins q.pl (G5 q.pl j) j,q.mask,q.moves⟩).2.tooFull=decide ((q.pl.length+1)*5 >= q.mask*3):=by
    unfold SetTable.tooFull;rw[fit,LP]
    rfl
   rw[U,tf];by_cases c:(q.pl.length+1)*5<q.mask*3
   .rw[if_pos c]at e;cases e;rw[if_pos (by simp;lia)]
    rfl
   rw[if_neg c]at e;rw[if_neg (by simp;lia)];have sz:(q.st led).1.size=q.es.length:=bP;rw[sz];split at e
   .cases e
   rename_i Y;simp only[Bool.not_eq_false,Bool.and_eq_true,decide_eq_true_eq]at Y;have g1:¬((LS.st led ⟨q.es,ins q.pl (G5 q.pl j) j,q.mask,q.moves⟩).2.fits (ins q.es (G5 q.pl j) (Ah x,x)).toArray.size&&decide (SetTable.sizeAbove (SetTable.grown (q.es.length+1))<=100000))=false:=by
    unfold SetTable.fits;rw[fit,LP];have f2:(LS.st led ⟨q.es,ins q.pl (G5 q.pl j) j,q.mask,q.moves⟩).2.place.size=q.pl.length+1:=(bP).trans (LP _ _ _);rw[f2,List.size_toArray,LP];have T:(LS.st led ⟨q.es,ins q.pl (G5 q.pl j) j,q.mask,q.moves⟩).2.mask=q.mask:=rfl;rw[T];simp[o1,Y.1,Y.2]
    lia
   rw[if_neg g1];generalize hm:SetTable.sizeAbove (SetTable.grown (q.es.length+1))-1=I at e ⊢;generalize he:ins q.es (G5 q.pl j) (Ah x,x)=g at e ⊢;unfold fQ at e;unfold T8;have R:(g.toArray.map (·.1)).toList=g.map (·.1):=by simp
   rw[R];split at e
   .cases e
   .rename_i tk htk;dsimp only;have ho:∀l:List (Nat×Nat),((l.map (·.2)).toArray.filterMap (g.toArray[·]?))=(l.filterMap fun jk=>g[jk.2]?).toArray:=fun l=>by
     apply Array.toList_inj.mp;rw[Array.toList_filterMap];simp only[List.filterMap_map];exact Pj _ fun jk _=>by simp
    rw[ho];split at e
    .rename_i hl;cases e;rw[if_pos (by simpa using hl)]
     rfl
    .cases e
def Xs(q:LS):List Tr->Option LS
 |[]=>some q
 |x::r=>match eL q x with
  |none=>none
  |some g=>Xs g r
def XC(led:Bool):∀ {l:List Tr} {q g:LS},Xs q l=some g->J0 (q.st led) l=some (g.st led)
 |[],q,g,e=>by cases e;rfl
 |x::r,q,g,e=>by
  unfold Xs at e;split at e
  .cases e
  .rename_i O I;rw[J0,mY led I];exact XC led e
def l8(pl:List Nat):Nat->Nat
 |0=>0
 |i+1=>pl.getD i 0+1
def YX(q:LS):Bool:=(List.range (q.es.length+1)).all fun i=>decide (G5 q.pl (l8 q.pl i)=i)
def Rm(led:Bool){q:LS}(h:YX q=true):Hc (q.st led).2 (q.st led).1.size=true:=by
 unfold YX at h;unfold Hc;have sz:(q.st led).1.size=q.es.length:=bP;rw[sz];rw[List.all_eq_true]at h ⊢;intro i hi;have:=h i hi;have e:SetTable.below (q.st led).2.place (GX (q.st led).2 i)=G5 q.pl (l8 q.pl i):=by
  have g:GX (q.st led).2 i=l8 q.pl i:=by
   cases i with
   |zero=>rfl
   |succ i=>
    show q.pl.toArray.getD i 0+1=q.pl.getD i 0+1;rw[Array.getD_eq_getD_getElem?,List.getElem?_toArray,List.getD_eq_getElem?_getD]
  rw[g];exact Vj _ _
 rw[e];exact this
def eJ(l:rz):Bool:=match Xs ⟨[],[],7,0⟩ l with
 |some q=>decide (q.pl.length=q.es.length)&&decide (q.pl.length<=q.mask)&&YX q&&decide (64<=q.es.length)&&decide (q.es.length<128)
 |none=>false
def gZ{l:rz}(h:eJ l=true)(led:Bool):∃st,J0 (Jp led) l=some st/\st.2.fits st.1.size=true/\st.2.plain=true/\st.2.led=led/\Hc st.2 st.1.size=true/\64<=st.1.size/\st.1.size<128:=by
 unfold eJ at h;split at h
 .rename_i q e;simp only[Bool.and_eq_true,decide_eq_true_eq]at h;obtain⟨⟨⟨⟨I,Y⟩,g⟩,U⟩,T⟩:=h;have sz:(q.st led).1.size=q.es.length:=bP;refine⟨q.st led,XC led e,?_,rfl,rfl,Rm led g,by lia,by lia⟩;unfold SetTable.fits SetTable.fill;have f2:(q.st led).2.place.size=q.pl.length:=bP;have R:(q.st led).2.dummies.size=0:=rfl;have O:(q.st led).2.mask=q.mask:=rfl;rw[sz,f2,R,O];simp[I]
  lia
 .cases h
end TH
namespace L2
open PySem PySem.Spec PyProof.Rows
section
variable{X:Cx}
structure mT(w:World)(st:TH.ES×SetTable):Prop where
 fit:st.2.fits st.1.size=true
 plain:st.2.plain=true
 led:st.2.led=!w.params.followText "set-order"
 walk:TH.Hc st.2 st.1.size=true
 lo:64<=st.1.size
 hi:st.1.size<128
def jm(w:World):List V->Hp->VK->Prop:=fun xs H Q=>∃S st,xs=[.ref S]/\YK H S st/\((X0 w st/\∀(l:AD) (g:List V),H l=none->g.length<64->Ts H (Tr.of (Tr.CQ (TH.NZ st)).reverse) g->Q (.ref l) (upd H l (.lst g))) \/
 (mT w st/\∀(l:AD) (g:List V),H l=none->Q (.ref l) (upd H l (.lst g))))
def Xw(U:X.calm=true)(hu:X.A.units+64<cLine):D4 X (.builtin "sorted") (jm X.w):=by
 intro pins s σ H xs us Q I r h;obtain⟨S,st,rfl,Y,⟨ok,q⟩|⟨ok,q⟩⟩:=h
 .exact Qi U hu _ _ _ _ _ _ _ I r ⟨S,st,rfl,Y,ok,q⟩
 obtain⟨u,rfl,g⟩:=r.one;cases g;obtain⟨ev,ep,h1,h2⟩:=Y;obtain⟨⟨o,g1,g2,g3⟩,_,_⟩:=(show CK X.prog X.w H s.heap S (UI S ev ep st.2) from I.Ap S _ h1);have R:=Vb I h2;have O:ev.size=st.1.size:=TH.DV.size R;have W:TH.EY X.w o ev ep st.2:=⟨g2,g3,by rw[O];exact ok.fit,ok.plain,ok.led,by rw[O];exact ok.walk⟩;refine TH.Vu (I.ok.hd U) W g1 R ok.lo ok.hi (by lia) fun h' D tk e1 us bs Z k1 gD hp hl=>?_;obtain⟨T,g,r2⟩:=cw hp;have O:T.length<128:=by rw[g.length];exact hl
 exact⟨.ref D,upd H D (.lst T),I.laid (t':=tk) k1 Z ⟨ay (aL O (by rw[sizeLine_eq];decide)),us,e1,g,gD⟩,rfl,q D T (I.Ap.fresh Z)⟩
end
def cj(t:Tr):Bool:=decide (t.deep<=8)&&TH.eJ t.bs
def Lf(t:Tr):Option L:=if t.bs.length<200 then(Gm t).map .d else if cj t then some .no else(Gm t).map .d
def Z9{t:Tr}{l:L}(h:Lf t=some l):(Gm t).map L.d=some l\/(cj t=true/\l=.no):=by
 unfold Lf at h;split at h
 .exact .inl h
 .split at h
  .rename_i hb;cases h;exact .inr ⟨hb,rfl⟩
  .exact .inl h
def QA(i:Nat)(f:rQ):DF:=fun δ=>(f δ).bind fun y=>match y with
 |.list g=>(DD g).bind fun t=>(Lf t).map fun l=>.nx (δ.set i l)
 |_=>none
section
variable{X:Cx}{e:Expr}{f:rQ}{pos p p2 pos2 pos3:Pos}
def Xp{i:Nat}{x:Str}{g:Pos}(hc:X.calm=true)(hu:X.A.units+64<cLine)(hg:Gl X "sorted")(hm:X.mg "sorted" = none)(hg2:Gl X "set")(hm2:X.mg "set" = none)(ha:DE X e f)(hN:X.N.Nodup)(hi:X.N[i]? = some x)(hx:Loc X.env.scope x) (U:starEach [e] X.env=(false,eval e X.env)::starEach [] X.env:=by rfl)(T:starEach [.Call (.Name "set" p2) [e] [] pos2] X.env=(false,eval (.Call (.Name "set" p2) [e] [] pos2) X.env)::starEach [] X.env:=by rfl) (hq1:(backTo pos2 (starEach [] X.env)).any (·.1)=false:=by rfl)(hq2:(backTo pos (starEach [] X.env)).any (·.1)=false:=by rfl) (hs:swapsWith (.Call (.Name "sorted" p) [.Call (.Name "set" p2) [e] [] pos2] [] pos) (some (.Name x g)) pos3.line X.env=pure false:=by rfl)(hf:X.fn x=true\/X.env.scope.names.lookup x=some .local:=by first|exact .inl rfl|exact .inr rfl|assumption):DS X (.Assign [.Name x g] (.Call (.Name "sorted" p) [.Call (.Name "set" p2) [e] [] pos2] [] pos) pos3) (QA i f):=by
 obtain⟨ta,pa,ka⟩:=ha;refine⟨_,A8 hN hi hx (Ct (Xw hc hu) hg hm PyProof.Rows.boot_sorted (AK (Ny (S9 hc hu) hg2 hm2 PyProof.Rows.boot_set (AK pa AY U) (by decide) (by decide) U hq1) AY T) (by decide) (by decide) T hq2) hs hf,fun δ r hz G0 H0 G H σ D R0 q=>?_⟩;obtain⟨y,h1,h2⟩:=aB.mp hz;refine ka δ y h1 G0 H0 G H σ [] _ R0 fun u G1 H1 R1=>?_;split at h2
 .rename_i ds;obtain⟨t,h3,h4⟩:=aB.mp h2;obtain⟨l,h5,rfl⟩:=aC.mp h4;have hds:=Lq h3;have du:=R1.Bh (_,u) (.head _);obtain⟨bb,a,ys,rfl,O,n2⟩:=Uc du (show IE (.list ds)=some ds from rfl);have I:H1 a=some (.lst ys):=by
   have:=R1.ins _ _ O;cases bb
   .simpa using this
   .exact absurd O (by
     have Z:=du;intro O;rw[Du]at Z;obtain⟨a',ys',Y,e2,_⟩:=Z;cases Y;rw[e2]at O;cases O)
  rw[hds]at n2;have ht:=(IM n2).same R1.ins;rcases Z9 h5 with h5|⟨hb,rfl⟩
  .obtain⟨z,h6,rfl⟩:=aC.mp h5;unfold Gm at h6;split at h6
   .rename_i hh;cases h6;have both:∀led,OQ led t.bs (UC t.bs)=true:=fun led=>by cases led;exact hh.2.2;exact hh.2.1
    obtain⟨st,r1,r2,r3,r4,r5,r6,r7⟩:=Ve (both (!X.w.params.followText "set-order"));refine⟨a,ys,t,st,rfl,Al.of I,ht,hh.1,r1,fun S H' Y hS=>⟨S,st,rfl,hS,.inl ⟨⟨r3,r4,r5,r6,r7⟩,fun l zs hl hz R=>?_⟩⟩⟩;rw[r2]at R;have R2:=(R1.drop.on Y).A0;exact q _ _ _ (R2.N1 (Nc R) hl).Gm
   .cases h6
  .simp only[cj,Bool.and_eq_true,decide_eq_true_eq]at hb;obtain⟨st,r1,r3,r4,r5,r6,r7,r8⟩:=TH.gZ hb.2 (!X.w.params.followText "set-order");exact⟨a,ys,t,st,rfl,Al.of I,ht,hb.1,r1,fun S H' Y hS=>⟨S,st,rfl,hS,.inr ⟨⟨r3,r4,r5,r6,r7,r8⟩,fun l zs hl=>q _ _ _ (((R1.drop.on Y).newObj hl).Tp i (some (.ref l)))⟩⟩⟩
 .cases h2
end
def Z2(X:Cx)(O:TS)(ix ir:Nat)(bd:List PD->Dv->Option (rS×PD)):Prop :=
 ∀(i:Nat) (δ:Dv) (xs g:List PD) (u:PD),bd xs δ=some (g,u)->i≠ir->ix≠ir->∀(G0 H0 G H:Hp) (σ:St) (D:Ends) (a:AD),Rw G0 H0 G H σ δ []->δ[i]? = some (.own (.lst xs))->σ[i]? = some (some (.ref a))->σ[ix]? = some (some (.ref a)) ->
  (∀v I H',AJ G I->Rw G0 H0 I H' (σ.set ir (some v)) ((δ.set ir (.d u)).set i (.own (.lst g))) []->D.nx (σ.set ir (some v)) H')->O D σ H
abbrev dZ(ir:Nat)(m:MD)(g:Dv->Option Bool)(f:Dv->Option PD)(xs:List PD)(δ:Dv):Option (List PD×PD) :=
 (m [.list xs]).bind fun z=>(Qp z).bind fun u=>(g (δ.set ir (.d u))).bind fun c=>if c=true then none else(f (δ.set ir (.d u))).bind fun y=>if xs.length<C9 then some (xs++[y],u) else none
section
variable{X:Cx}{e c:Expr}{f:rQ}{fa:rR}{sts:sD}{F1:DF}{pos pos2 pos3 p pos' p1 np np2 ap cp:Pos}
def gT{k ix ir:Nat}{fA:AD}{fd:FuncData}{ps:rf}{m:MD}{g x r:Str}{st:Stmt}(T:Fn X.K X.mg g st ps fA fd)(F:AI X.prog X.w X.K X.mg X.base Aa k fA fd ps (BH m))(hr:CG k X.A)(hg:Gl X g) (hv:∀q,PE X (.Name x q) (MR ix))(hN:X.N.Nodup)(hi:X.N[ir]? = some r)(hx:Loc X.env.scope r)(hc:DT X c fa)(h1:Lx X sts F1)(he:DE X e f) (hP:∀ {to:TE} {t:TA},PE X (.Name x np) to->PA X [e] t->PS X (.Expr (.Call (.Attribute (.Name x np) "append" ap) [e] [] cp) pos3) (RN (fS X.K "list" RU to t))) (hs1:starEach [e] X.env=(false,eval e X.env)::starEach [] X.env:=by rfl)(hdb:(g==("__debug__" : Str))=false:=by decide)(hs2:starEach [.Name x p1] X.env=(false,eval (.Name x p1) X.env)::starEach [] X.env:=by rfl)(hpl:(backTo pos' (starEach [] X.env)).any (·.1)=false:=by rfl) (hs:swapsWith (.Call (.Name g p) [.Name x p1] [] pos') (some (.Name r np2)) pos.line X.env=pure false:=by rfl)(hf:X.fn r=true\/X.env.scope.names.lookup r=some .local:=by first|exact .inl rfl|exact .inr rfl|assumption):∃tb,GV X [.Assign [.Name r np2] (.Call (.Name g p) [.Name x p1] [] pos') pos,.If c sts [] pos2,.Expr (.Call (.Attribute (.Name x np) "append" ap) [e] [] cp) pos3] tb/\Z2 X tb ix ir (dZ ir m fa f):=by
 obtain⟨tc,pc,kc⟩:=hc;obtain⟨t1,q1,k1⟩:=h1;obtain⟨t,pe,ke⟩:=he;refine⟨_,AX (A8 hN hi hx (Cu T F hr hg (AK (hv _) AY hs2) hdb hs2 hpl) hs hf) (AX (Gi pc q1 EL) (A3 (hP (hv _) (AK pe AY hs1)))),?_⟩;intro i δ xs xs2 u hb n1 n2 G0 H0 G H σ D a R hδ Z U kk;obtain⟨z,b1,hb⟩:=aB.mp hb;obtain⟨u',b2,hb⟩:=aB.mp hb;obtain⟨c',b3,hb⟩:=aB.mp hb;split at hb
 .cases hb
 rename_i hc0;obtain⟨y,b4,hb⟩:=aB.mp hb;split at hb
 case isFalse=>cases hb
 rename_i hl;cases hb;obtain⟨a',_,k2,k3,k4,k5,⟨ys,rfl,k6⟩⟩:=R.own i _ hδ;rw[Z]at k2;cases k2;have eG:AJ G (upd G a (.lst ys)):=fun b o h=>by rw[AL (fun z=>by rw[z,k3]at h;cases h)];exact h
 refine⟨.ref a,U,⟨[.list xs],z,upd G a (.lst ys),b1,.cons ?_ .nil,fun b o h=>?_,fun v G' H' j1 j2 j3 j4 j5=>?_⟩⟩
 .rw[Du];exact⟨a,ys,rfl,AN,k6.same eG⟩
 .by_cases hb:b=a
  .subst hb;rw[AN]at h;cases h;exact k5
  .rw[AL hb]at h;exact R.ins _ _ h
 have R1:=((R.on j4).put (iq b2 j5:Du G u v)).Gm (i:=ir);refine kc _ _ b3 G H0 G H' _ [] _ R1.base fun G2 H2 R2=>?_;rw[if_neg hc0];have O:(δ.set ir (.d u))[i]? = some (.own (.lst xs)):=by rw[List.getElem?_set_ne (Ne.symm n1)];exact hδ
 have I:(σ.set ir (some v))[i]? = some (some (.ref a)):=by rw[List.getElem?_set_ne (Ne.symm n1)];exact Z
 have Y:(σ.set ir (some v))[ix]? = some (some (.ref a)):=by rw[List.getElem?_set_ne (Ne.symm n2)];exact U
 obtain⟨a',_,m1,m2,m3,m4,⟨ys',rfl,m5⟩⟩:=R2.own i _ O;rw[I]at m1;cases m1;refine⟨.ref a,Y,.inl ⟨rfl,ys',Al.of m4⟩,?_⟩;refine ke _ y b4 G H0 G2 H2 _ [] _ R2 fun u1 G3 H3 R3=>?_;obtain⟨a'',_,w1,w2,w3,w4,⟨zs,rfl,w5⟩⟩:=R3.own i _ O;rw[I]at w1;cases w1;refine⟨a,zs,u1,rfl,rfl,w4,RX (by rw[w5.len];lia),?_⟩;exact kk v G3 _ R3.ext (R1.Q0 (R3.drop.Xg O I ⟨_,rfl,w5.app (.cons (R3.Bh _ (.head _)) .nil)⟩))
abbrev QD(ia ib ix ir:Nat)(bd:List PD->Dv->Option (List PD×PD)):DF:=fun δ=>if δ.length<=ix then none else(ow ia δ).bind fun xs=>(ow ib δ).bind fun ys=>(bd xs (δ.set ix .no)).bind fun q=>
 (bd ys ((((δ.set ix .no).set ir (.d q.2)).set ia (.own (.lst q.1))).set ix .no)).map fun g=>.nx ((((((δ.set ix .no).set ir (.d q.2)).set ia (.own (.lst q.1))).set ix .no).set ir (.d g.2)).set ib (.own (.lst g.1)))
def dB{ia ib ix ir:Nat}{xa xb x:Str}{body:sD}{bd:List PD->Dv->Option (rS×PD)}{U T lp:Pos}(hp:PassesOwn (model X.prog X.w) X.A X.env X.xe)(hc:X.calm=true)(hva:PE X (.Name xa U) (MR ia))(hvb:PE X (.Name xb T) (MR ib))(hN:X.N.Nodup)(hi:X.N[ix]? = some x)(hx:Loc X.env.scope x) (hb:∃tb,GV X body tb/\Z2 X tb ix ir bd)(d1:ia≠ib)(d2:ia≠ix)(d3:ib≠ix)(d4:ia≠ir)(d5:ib≠ir)(d6:ix≠ir) (hs1:starEach [.Name xa U,.Name xb T] X.env=(false,eval (.Name xa U) X.env)::starEach [.Name xb T] X.env:=by rfl)(hs2:starEach [.Name xb T] X.env=(false,eval (.Name xb T) X.env)::starEach [] X.env:=by rfl) (hs:∀y,foldedSetIterable (.List [.Name xa U,.Name xb T] lp) X.env y=pure y:=by intro _;rfl)(hf:X.fn x=true\/X.env.scope.names.lookup x=some .local:=by first|exact .inl rfl|exact .inr rfl|assumption):DS X (.For (.Name x np) (.List [.Name xa U,.Name xb T] lp) body [] pos) (QD ia ib ix ir bd):=by
 obtain⟨tb,pb,kb⟩:=hb;refine⟨_,IP hp hc (Fe (FX (AK hva (AK hvb AY hs2) hs1))) (BJ hN hi hx hf) pb hs,fun δ r h G0 H0 G H σ D R q=>?_⟩;unfold QD at h;split at h
 .cases h
 rename_i hix;obtain⟨xs,h1,h⟩:=aB.mp h;obtain⟨ys,h2,h⟩:=aB.mp h;obtain⟨⟨xs2,u⟩,h3,h⟩:=aB.mp h;obtain⟨⟨ys2,u2⟩,h4,rfl⟩:=aC.mp h;dsimp only at h4 q;have ea:=RF h1;have eb:=RF h2;obtain⟨a,_,a1,a2,a3,a4,⟨as,rfl,a5⟩⟩:=R.own ia _ ea;obtain⟨b,_,b1,b2,b3,b4,⟨bs,rfl,b5⟩⟩:=R.own ib _ eb;refine⟨.ref a,a1,.ref b,b1,by show(2:Nat)<=sizeLine;rw[sizeLine_eq];decide,fun p hp'=>⟨p,rfl,⟨_,Al.of AN⟩,?_⟩⟩;have R1:=R.newObj (p:=p) (o:=.lst [.ref a,.ref b]) hp';generalize Y:((δ.set ix .no).set ir (.d u)).set ia (.own (.lst xs2))=O at h4 q;have l1:O.length=δ.length:=by rw[<-Y];simp
 have e1b:(O.set ix .no)[ib]? = some (.own (.lst ys)):=by
  rw[List.getElem?_set_ne (Ne.symm d3),<-Y,List.getElem?_set_ne d1,List.getElem?_set_ne (Ne.symm d5),List.getElem?_set_ne (Ne.symm d3)];exact eb
 have sq:∀ {I H':Hp},AJ (upd G p (.lst [.ref a,.ref b])) I->AJ I H'->Al X.K H' p [.ref a,.ref b]:=fun e1 e2=>Al.of (e2 _ _ (e1 _ _ AN));refine⟨fun i m g H'=>m=2-i/\∃I,AJ (upd G p (.lst [.ref a,.ref b])) I/\((i=0/\Rw G0 H0 I H' g δ []/\g[ia]? = some (some (.ref a))/\g[ib]? = some (some (.ref b)))\/(i=1/\Rw G0 H0 I H' g O []/\g[ib]? = some (some (.ref b)))\/(i=2/\Rw G0 H0 I H' g (((O.set ix .no).set ir (.d u2)).set ib (.own (.lst ys2))) [])),⟨2,rfl,_,AJ.refl _,.inl ⟨rfl,R1,a1,b1⟩⟩,?_⟩;rintro i m Z H1 ⟨rfl,G1,s1,⟨rfl,R2,w1,w2⟩|⟨rfl,R2,w2⟩|⟨rfl,R2⟩⟩
 .right
  refine⟨⟨_,_,sq s1 R2.ins,rfl⟩,fun g H'=>∃I,AJ (upd G p (.lst [.ref a,.ref b])) I/\Rw G0 H0 I H' g O []/\g[ib]? = some (some (.ref b)),fun g H' ⟨I,n1,n2,n3⟩=>⟨1,by lia,rfl,I,n1,.inr (.inl ⟨rfl,n2,n3⟩)⟩,fun y H' z=>?_⟩;obtain⟨rfl,z⟩:=z;have hy:=z _ (sq s1 R2.ins);cases hy;have hl:ix<Z.length:=by rw[R2.len];lia
  refine kb ia (δ.set ix .no) xs xs2 u h3 d4 d6 G0 H0 G1 H' (Z.set ix (some (.ref a))) _ a (R2.Tp ix (some (.ref a))) ?_ ?_ ?_ fun v G2 H2 sG R3=>⟨G2,s1.trans sG,by rw[Y]at R3;exact R3,?_⟩
  .rw[List.getElem?_set_ne (Ne.symm d2)];exact ea
  .rw[List.getElem?_set_ne (Ne.symm d2)];exact w1
  .rw[List.getElem?_set_self hl]
  .rw[List.getElem?_set_ne (Ne.symm d5),List.getElem?_set_ne (Ne.symm d3)];exact w2
 .right
  refine⟨⟨_,_,sq s1 R2.ins,rfl⟩,fun g H'=>∃I,AJ (upd G p (.lst [.ref a,.ref b])) I/\Rw G0 H0 I H' g (((O.set ix .no).set ir (.d u2)).set ib (.own (.lst ys2))) [],fun g H' ⟨I,n1,n2⟩=>⟨0,by lia,rfl,I,n1,.inr (.inr ⟨rfl,n2⟩)⟩,fun y H' z=>?_⟩;obtain⟨rfl,z⟩:=z;have hy:=z _ (sq s1 R2.ins);cases hy;have hl:ix<Z.length:=by rw[R2.len,l1];lia
  refine kb ib (O.set ix .no) ys ys2 u2 h4 d5 d6 G0 H0 G1 H' (Z.set ix (some (.ref b))) _ b (R2.Tp ix (some (.ref b))) e1b ?_ ?_ fun v G2 H2 sG R3=>⟨G2,s1.trans sG,R3⟩
  .rw[List.getElem?_set_ne (Ne.symm d3)];exact w2
  .rw[List.getElem?_set_self hl]
 .left
  exact⟨⟨_,sq s1 R2.ins,Nat.le_refl _⟩,q _ _ _ R2⟩
abbrev OB(m:List PD->Option (List PD))(fs:Dv->Option (List PD)):DF:=fun δ=>((fs δ).bind m).map .rn
def Sf{k:Nat}{Y:AD}{fd:FuncData}{ps:rf}{m:RW}{x:Str}{st:Stmt}{es:rg}{fs:rP}(T:Fn X.K X.mg x st ps Y fd)(F:AI X.prog X.w X.K X.mg X.base Aa k Y fd ps (Mn m))(hr:CG k X.A)(hg:Gl X x)(ha:DA X (e::es) fs) (O:(x==("__debug__" : Str))=false:=by decide)(he:starEach (e::es) X.env=(false,eval e X.env)::starEach es X.env:=by rfl)(I:(backTo pos (starEach es X.env)).any (·.1)=false:=by rfl):DS X (.Return (some (.Call (.Name x p) (e::es) [] pos)) pos2) (OB m fs):=by
 obtain⟨ta,pa,ka⟩:=ha;refine⟨_,Ca (Cu T F hr hg pa O he I),fun δ r hz G0 H0 G H σ D R q=>?_⟩;obtain⟨Z,hy,rfl⟩:=aC.mp hz;obtain⟨xs,h1,h2⟩:=aB.mp hy;refine ka δ _ h1 G0 H0 G H σ [] _ R fun vs G1 H1 R1 hv=>?_;obtain⟨d,R2⟩:=R1.args hv;refine⟨xs,Z,G1,h2,by rw[List.append_nil];exact d,R2.ins,fun a ys G' H' m1 m2 m3 m4 U m6 m7 m8=>?_⟩;have g:=R2.lift m1 m2 m3 m4;refine q a ys G' H' g.ext g.new g.ins g.keep ?_ m6 m7 m8;cases q:H0 a with
 |none=>rfl
 |some u=>rw[R2.keep _ _ q]at U;cases U
end
def fP:PD->PD->Option PD:=fun x y=>(E9 x).bind fun t=>(E9 y).bind fun u=>if t.deep<=60 then some (.bool (Tr.lt u t)) else none
def ey{G:Hp}{x:PD}{t:Tr}{v:V}(h:E9 x=some t)(d:Du G x v):Tv G t v:=by
 cases x with
 |tuple O=>
  rw[E9]at h;have:=Lq h;subst this;rw[Du]at d;obtain⟨a,xs,rfl,I,g⟩:=d;exact⟨a,xs,rfl,I,IM g⟩
 |_=>simp[E9]at h
def gg{X:Cx}(O:X.A.units+64<cLine):Eh X (compareOp .Gt) fP:=by
 refine⟨_,gm O,fun x y z g G0 H0 G H σ δ ts u v Q R Z Y k=>?_⟩;obtain⟨t,U,g⟩:=aB.mp g;obtain⟨I,T,g⟩:=aB.mp g;split at g
 .rename_i hd;cases g;exact⟨t,I,(ey U Z).same R.ins,(ey T Y).same R.ins,hd,k _ _ _ (R.put (by rw[Du]))⟩
 .cases g
end L2
namespace Opn
open PySem PySem.W PyProof.Rows PySem.Calls
noncomputable def q0:Pos:=⟨0,0,0,0⟩
noncomputable def ou:Obj:={ cls:=.type "tuple",data:=.seq #[]}
noncomputable def o7:Obj:={ cls:=.none,data:=.fields #[]}
noncomputable def pE:Obj:={ cls:=.type "code",data:=.fields #[.str (Str.ofString "<module>") 182,.str (Str.ofString "<module>") 183,.str (Str.ofString "/claim/cut.py") 184,.int 1 0,.int 0 0,.int 0 0,.int 0 0,.int 0 0,.ref 11,.bool false,.int 181 0,.ref 12,.none,.none,.none,.none,.int 185 0,.int 1 0,.str (Str.ofString "/claim/cut.py") 186]}
noncomputable def pN:Obj:={ cls:=.type "frame",slots:=#[some (.ref 13),some (.ref 3),some (.ref 3),none,some (.str (Str.ofString "__main__") 164),none,some (.ref 0)]}
noncomputable def nW(P:Params):List Obj:=(boot_heap P).objs.toList++[ou,o7,pE,pN]
noncomputable def nN(P:Params)(o:Params->Obj)(l r:BT):BT:=.node (o P) l r
noncomputable def lN(P:Params)(o:Params->Obj):BT:=.node (o P) .nil .nil
noncomputable def nk(P:Params):BT :=
 nN P boot_o_0 (nN P boot_o_1 (nN P boot_o_3 (lN P boot_o_7) (.node ou .nil .nil)) (nN P boot_o_5 (lN P boot_o_9) (.node pE .nil .nil)))
  (nN P boot_o_2 (nN P boot_o_4 (lN P boot_o_8) (.node o7 .nil .nil)) (nN P boot_o_6 (lN P boot_o_10) (.node pN .nil .nil)))
noncomputable def fI:Life:=Life.mk [] [] [] 0 [] [] false #[] [] 0 false false false 0 [2000,10,10] false 0 true [] [] 0 false
noncomputable def sA(w:World)(os:OsState):SD:=⟨⟨⟨nW w.params⟩,fI⟩,#[],boot_drawn,187,os⟩
noncomputable def sB(w:World)(os:OsState):SharedT:=⟨nk w.params,15,fI,#[],boot_drawn,187,os⟩
noncomputable def P8(p:Program):Env:={ scope:=p.main.scope,locals:=mainNs,globals:=mainNs,cells:=[],code:=.ref 13,frame:=some 14}
noncomputable def cB(p:Program):Code:=.body (behindTheImports p) (P8 p)
noncomputable abbrev Ig:Option VL:=some (.ref 6)
noncomputable abbrev bB:List Frame:=[topFrame q0]
noncomputable def Xy(p:Program)(M:Nat)(w:World)(os:OsState):Option (Flow×SharedT×Code×Pos) :=
 PySem.W.Fast.tw10110043849684766642 PySem.W.Fast.tw14364793385576792824 p w 11 Ig 1 M (sB w os) (piecesOf (behindTheImports p) (P8 p) (cB p) q0 bB)
noncomputable def Yj(p:Program)(M:Nat)(w:World)(os:OsState):SharedT:=match Xy p M w os with|some (_,s,_)=>s|none=>sB w os
def iI{p:Program}{M:Nat}{w:World}{os:OsState}{r:Option (Flow×SharedT×Code×Pos)}(h:Xy p M w os=r):segRunT treeTable p w 11 Ig 1 M (sB w os) (piecesOf (behindTheImports p) (P8 p) (cB p) q0 bB)=r:=by
 have e:segRunT treeTable=PySem.W.Fast.tw10110043849684766642 PySem.W.Fast.tw14364793385576792824:=congr PySem.W.Fast.te10110043849684766642 PySem.W.Fast.te14364793385576792824;rw[e];exact h
def jx{p:Program}{M O:Nat}{g:Pos}{w:World}{os:OsState} (pre:topGo treeTable p w 11 Ig 12 ⟨boot_heap w.params,#[],boot_drawn,boot_toks,os⟩ (topStub p)=some (sA w os,⟨denote treeTable (cB p),cB p,q0,bB⟩)) (I:segRun treeTable p w 11 Ig 1 1 (sA w os) (blockOf (behindTheImports p) (P8 p) (cB p) q0 bB)=some (.next,(sB w os).abs,cB p,q0)) (seg:Xy p M w os=some (.next,Yj p M w os,cB p,g)) (fin:∀s,topRun treeTable p w 11 Ig 2 s (restOf [] (P8 p) (cB p) g bB)=some s)(R:O=12+(1+(M+2))):topRun treeTable p w 11 Ig O ⟨boot_heap w.params,#[],boot_drawn,boot_toks,os⟩ (topStub p)=some (Yj p M w os).abs:=by
 subst R;refine go_top pre (piece_block I ?_);have h:=piece_app (rest:=[]) (segRun_of (iI seg)) (fin _);rw[List.append_nil]at h;exact h
def iH{p q:Program}{loose:rf}{Xt:SD->Bool}{I:Type}{Yf:SD->I}{Ya:World->I}{N M:Nat}{S:World->OsState->SD} (g:∀w:World,(fencedOpening treeTable p w N).map (fun s=>(s.heap,s.gens,s.drawn,s.toks))=some (boot_heap w.params,#[],boot_drawn,boot_toks)) (size:∀w:World,((boot_heap w.params).isNs mainGlobals&&(#[]:Array GenState).size==0,(boot_heap w.params).objs.size,(boot_heap w.params).nsMap mainGlobals "__annotations__")=(true,11,Ig)) (run:∀w os,topRun treeTable p w 11 Ig M ⟨boot_heap w.params,#[],boot_drawn,boot_toks,os⟩ (topStub p)=some (S w os))(le:Nat.ble M N=true) (ok:∀w os,(staticsOk (importedModules p.main.body) (boot_heap w.params) (S w os).heap&&namesBound p (S w os).heap&&gensDone (S w os)&&laidKept (boot_heap w.params) (S w os).heap)=true) (seen:∀w os,openSeen q loose (importedModules p.main.body) Xt true (S w os)=openGood q loose) (Y:∀w os,Yf (S w os)=Ya w):LeftO p q loose Xt Yf Ya N:=fun w=>by
 obtain⟨⟨h,gs,d,k,os⟩,e,Z⟩:=aC.mp (g w);obtain⟨rfl,rfl,rfl,rfl⟩:h=boot_heap w.params/\gs=#[]/\d=boot_drawn/\k=boot_toks:=by simpa using Z
 obtain⟨T,R,O⟩:_/\_/\_:=by simpa only[Prod.mk.injEq]using size w
 have U:=ok w os;have r:=topRun_mono (N-M) _ _ _ _ (run w os);rw[show M+(N-M)=N by have:=Nat.le_of_ble_eq_true le;lia]at r;have t:topFrom treeTable p w N ⟨boot_heap w.params,#[],boot_drawn,boot_toks,os⟩=some (S w os):=by
  unfold topFrom;dsimp only;rw[T,R,O,r];show(match staticsOk (importedModules p.main.body) (boot_heap w.params) (S w os).heap&&namesBound p (S w os).heap&&gensDone (S w os)&&laidKept (boot_heap w.params) (S w os).heap with|true=>_|false=>_)=_;rw[U]
 unfold openEnds;rw[e];show(topFrom treeTable p w N _).map _=_;rw[t];exact bI some (Prod.ext (seen w os) (Y w os))
def nQ(w:World):((boot_heap w.params).isNs mainGlobals&&(#[]:Array GenState).size==0,(boot_heap w.params).objs.size,(boot_heap w.params).nsMap mainGlobals "__annotations__")=(true,11,Ig):=by kernel_rfl
end Opn
namespace Q40
open PySem L2
def top(i:Nat):Stmt:=PySem.Challenge.pw_stepgrove_k40_weighings.main.body.getD i (.Pass ⟨0,0,0,0⟩)
abbrev Iq:Stmt:=top 8
abbrev Ik:Stmt:=top 9
abbrev EZ:Stmt:=top 10
abbrev MI:Stmt:=top 11
abbrev DZ:Stmt:=top 12
abbrev Hd:Stmt:=top 13
abbrev Ma:Stmt:=top 14
abbrev MF:Stmt:=top 17
abbrev Ds:Stmt:=top 18
abbrev MT:Stmt:=top 19
abbrev NM:Stmt:=top 22
abbrev MN:Stmt:=top 23
abbrev GG:Stmt:=top 24
abbrev Gs:Stmt:=top 25
abbrev F5:Stmt:=top 26
abbrev D9:Stmt:=top 27
abbrev EB:Stmt:=top 28
abbrev Fy:Stmt:=top 29
abbrev LF:Stmt:=top 31
abbrev Ho:Stmt:=top 32
abbrev IB:Stmt:=top 35
abbrev DL:Stmt:=top 36
abbrev Dj:Stmt:=top 37
abbrev Gv:Stmt:=top 38
abbrev FR:Stmt:=top 39
abbrev Cd:Stmt:=top 40
abbrev EX:Stmt:=top 41
abbrev MK:Stmt:=top 42
abbrev NA:Stmt:=top 43
abbrev IK:Stmt:=top 45
abbrev K9:Stmt:=top 46
abbrev K8:Stmt:=top 50
abbrev Ij:Stmt:=top 51
abbrev J9:Stmt:=top 52
abbrev Jz:Stmt:=top 53
abbrev Hs:Stmt:=top 54
abbrev KS:Stmt:=top 55
abbrev KQ:Stmt:=top 56
abbrev J5:Stmt:=top 57
abbrev Il:Stmt:=top 58
abbrev N2:Stmt:=top 59
abbrev LD:Stmt:=top 60
abbrev Hw:Stmt:=top 61
abbrev fW:Stmt:=top 62
def YT:Sp:=fun vs H Q _=>∃a b,vs=[.int a,.int b]/\Q (.int (FM.gi a b)) H
def X5:Sp:=fun vs H Q _=>∃t b m,vs=[.int t,.int b]/\b≠0/\m<=9000/\b.natAbs<2^m/\∀l H',AJ H H'->H' l=some (.tup (M7 (Rat.divInt t b)))->Q (.ref l) H'
section
variable{P:Program}{w:World}{K:Fg}{mg:rW}{base:Heap}{f g:AD}{fd gd:FuncData}
def Mz:AZ ["one","other","greater","lesser","rest"] ["one","other"] (AM DZ):=B5
def o9(σ:St):Nat:=match σ[3]? with|some (some (V.int l))=>l.natAbs|_=>0
def M1(F:Fn K mg "greatest_divisor" DZ ["one","other"] f fd)(R:mg "abs" = none):AI P w K mg base Aa 1 f fd ["one","other"] YT:=by
 have sc:=Mz;refine F.F.ok (k:=0) sc (fun vs H Q E h=>?_) (fun cdv A outer s H vs Q E Y h=>?_)
 .obtain⟨a,b,rfl,_⟩:=h
  rfl
 obtain⟨a,b,rfl,q⟩:=h;refine⟨_,(AX (A8 (i:=2) sc.nd rfl (Or.inl rfl) (Ct L8 rfl R PyProof.Rows.boot_abs (AK (pv 0) AY)))
 (AX (A8 (i:=3) sc.nd rfl (Or.inl rfl) (Ct L8 rfl R PyProof.Rows.boot_abs (AK (pv 1) AY)))
 (AX (P6 aQ (Dk oT (pv 3) Ar (Ay _))
  (AX (A8 (i:=4) sc.nd rfl (Or.inl rfl) (BO Lz (pv 2) (pv 3)))
  (AX (A8 (i:=2) sc.nd rfl (Or.inl rfl) (pv 3))
  (A3 (A8 (i:=3) sc.nd rfl (Or.inl rfl) (pv 4))))))
 (A3 (Ca (pv 2)))))),?_⟩
 refine⟨_,rfl,_,rfl,_,rfl,_,rfl,?_⟩;refine P9 (fun σ H'=>∃g l r,σ=[some (.int a),some (.int b),some (.int g),some (.int l),r]/\H=H'/\Int.gcd g l=Int.gcd a b/\0<=g/\0<=l) (fun σ _=>o9 σ) ?_ ?_ ?_
 .exact⟨_,_,_,rfl,rfl,FM.Wj a b,FM.abs_nonneg a,FM.abs_nonneg b⟩
 .rintro σ H' ⟨g,l,r,rfl,rfl,hg,h0,O⟩;refine⟨_,rfl,rfl,_,rfl,KJ (fun c=>?_) (fun c=>?_)⟩
  .have I:l≠0:=fun z=>by subst z;simp at c
   refine⟨_,rfl,_,rfl,_,_,rfl,rfl,I,_,rfl,_,rfl,⟨_,_,_,rfl,rfl,?_,O,FM.fmod_nonneg I O⟩,?_⟩
   .rw[FM.UR];exact hg
   .exact FM.TM g l I
  .have I:l=0:=by simpa using c
   subst I;refine⟨_,rfl,?_⟩;rw[FM.Zz hg h0];exact q
 .exact fun σ H Q Z T ⟨v,e,s,k,U,q⟩=>⟨v,e,s,k,U,T _ _ q⟩
def Rf:AZ ["top","bottom","shared"] ["top","bottom"] (AM Iq):=B5
def SA(F:Fn K mg "fraction_of" Iq ["top","bottom"] f fd)(Z:Fn K mg "greatest_divisor" DZ ["one","other"] g gd) (B8:AI P w K mg base Aa 1 g gd ["one","other"] YT):AI P w K mg base Aa 2 f fd ["top","bottom"] X5:=by
 have sc:=Rf;refine F.F.ok (k:=1) sc (fun vs H Q E h=>?_) (fun cdv A outer s H vs Q E U h=>?_)
 .obtain⟨t,b,m,rfl,_⟩:=h
  rfl
 obtain⟨t,b,m,rfl,hb,hm,T,q⟩:=h;refine⟨_,(AX (Gi (Dk Tq (pv 1) Ar (Ay _))
  (A3 dq)
  EL)
 (AX (A8 (i:=2) sc.nd rfl (Or.inl rfl) (Cu Z B8 U rfl (AK (pv 0) (AK (pv 1) AY))))
 (AX (Gi (Dk X4 (pv 1) Ar (Ay _))
  (A3 (A8 (i:=2) sc.nd rfl (Or.inl rfl) (YH UY (pv 2))))
  EL)
 (A3 (Ca (Jn (AK (BO Gq (pv 0) (pv 2)) (AK (BO Gq (pv 1) (pv 2)) AY)))))))),?_⟩
 refine⟨_,rfl,rfl,_,rfl,KJ (fun c=>absurd c (by simpa using hb)) (fun _=>?_)⟩;refine⟨_,rfl,_,rfl,t,b,rfl,?_⟩
 try dsimp only[GC]
 refine Pn (fun I H'=>I=[some (.int t),some (.int b),some (.int (FM.gs t b))]/\H=H') (fun nx hn=>?_) ?_
 .refine⟨_,rfl,_,_,rfl,rfl,_,rfl,KJ (fun c=>?_) (fun c=>?_)⟩
  .have O:b<0:=aw c;refine⟨_,rfl,_,rfl,hn _ _ ⟨?_,rfl⟩⟩;unfold FM.gs;rw[if_pos O]
   rfl
  .have O:¬b<0:=bL (bO.mpr c);refine hn _ _ ⟨?_,rfl⟩;unfold FM.gs;rw[if_neg O]
   rfl
 .rintro I H' ⟨rfl,rfl⟩;have h0:FM.gs t b≠0:=FM.fj hb;have R:(FM.gs t b).natAbs<2^m:=ai (FM.fR hb) T;refine⟨_,rfl,_,rfl,_,_,rfl,rfl,⟨h0,m,hm,R⟩,_,rfl,_,rfl,_,_,rfl,rfl,⟨h0,m,hm,R⟩,Oj,fun p Y=>?_⟩;refine q p _ (Ac Y _) ?_;rw[AN];show some (HO.tup [V.int (t.fdiv (FM.gs t b)),V.int (b.fdiv (FM.gs t b))])=_;rw[FM.VU hb,FM.UB hb]
  rfl
end
def UU{c b:Int}(R:1<=c)(hb:1<=b):1<=c.fdiv (FM.gi c b)*b/\c ∣ c.fdiv (FM.gi c b)*b/\b ∣ c.fdiv (FM.gi c b)*b/\(c.fdiv (FM.gi c b)).natAbs<=c.natAbs:=by
 have hg:0<FM.gi c b:=FM.Nq (by lia);obtain⟨q,O⟩:=FM.Od c b;obtain⟨r,g⟩:=FM.NT c b;have e:=FM.Hb (Int.ne_of_gt hg) O;refine⟨?_,?_,Int.dvd_mul_left _ _,FM.Ft _ _⟩
 .rw[e];have I:0<q:=by
   rcases Int.lt_or_le 0 q with h|h
   .exact h
   .have:=Int.mul_nonpos_of_nonneg_of_nonpos (Int.le_of_lt hg) h
    lia
  exact Int.mul_pos I (by lia)
 .rw[e];refine⟨r,?_⟩;rw[g]
  conv=>rhs;rw[O]
  rw[<-g,Int.mul_comm (FM.gi c b) q,Int.mul_assoc,Int.mul_comm (FM.gi c b) r]
  conv=>lhs;rw[g]
  rw[Int.mul_comm (FM.gi c b) r]
def fL:Sp:=fun vs H Q _=>∃(b:Int) (p k:Nat),vs=[.int b,.int p]/\b.natAbs<2^k/\k*p<=4000/\Q (.int (b^p)) H
def Qv{b:Int}{k e p:Nat}(hb:b.natAbs<2^k)(I:e<=p):(b^e).natAbs<2^(k*p+1):=by
 rw[Int.natAbs_pow];have g:b.natAbs^e<=(2^k)^e:=Nat.pow_le_pow_left (ay hb) e;rw[<-Nat.pow_mul]at g;exact ai g (Nat.pow_lt_pow_right (by decide) (Nat.lt_succ_of_le (ao k I)))
def rA(σ:St):Nat:=match σ[4]? with|some (some (V.int l))=>l.natAbs|_=>0
section
variable{P:Program}{w:World}{K:Fg}{mg:rW}{base:Heap}{f:AD}{fd:FuncData}
def Pg:AZ ["bottoms","common","bottom"] ["bottoms"] (AM Hd):=B5
def V2:AZ ["base","power","product","square","left"] ["base","power"] (AM Ma):=B5
def WB(F:Fn K mg "power_of" Ma ["base","power"] f fd):AI P w K mg base Aa 1 f fd ["base","power"] fL:=by
 have sc:=V2;refine F.F.ok (k:=0) sc (fun vs H Q E h=>?_) (fun cdv A outer s H vs Q E hr h=>?_)
 .obtain⟨b,p,k,rfl,_⟩:=h
  rfl
 obtain⟨b,p,k,rfl,hb,hk,q⟩:=h;refine⟨_,(AX (A8 (i:=2) sc.nd rfl (Or.inl rfl) Ar)
 (AX (A8 (i:=3) sc.nd rfl (Or.inl rfl) (pv 0))
 (AX (A8 (i:=4) sc.nd rfl (Or.inl rfl) (pv 1))
 (AX (P6 aQ (Dk QN (pv 4) Ar (Ay _))
  (AX (Gi (Dk Tq (BO Nr (pv 4) Ar) Ar (Ay _))
   (A3 (A8 (i:=2) sc.nd rfl (Or.inl rfl) (BO Ht (pv 2) (pv 3))))
   EL)
  (AX (A8 (i:=4) sc.nd rfl (Or.inl rfl) (BO GN (pv 4) Ar))
  (A3 (Gi (Dk QN (pv 4) Ar (Ay _))
   (A3 (A8 (i:=3) sc.nd rfl (Or.inl rfl) (BO Ht (pv 3) (pv 3))))
   EL)))))
 (A3 (Ca (pv 2))))))),?_⟩
 refine⟨_,rfl,_,rfl,?_⟩;refine P9 (fun σ H'=>∃e f l:Nat,σ=[some (.int b),some (.int p),some (.int (b^e)),some (.int (b^f)),some (.int l)]/\H=H'/\e+f*l=p) (fun σ _=>rA σ) ?_ ?_ ?_
 .refine⟨0,1,p,?_,rfl,by lia⟩;rw[Int.pow_zero,Int.pow_succ,Int.pow_zero,Int.one_mul]
  rfl
 .rintro σ H' ⟨e,f,l,rfl,rfl,U⟩;refine⟨_,rfl,_,_,rfl,rfl,_,rfl,KJ (fun c=>?_) (fun c=>?_)⟩
  .have Y:0<l:=by have:=aw c;lia
   have g:f<=p:=by
    have:f*1<=f*l:=ao f Y
    lia
   try dsimp only[GC]
   refine Pn (fun R H'=>∃O:Nat,R=[some (.int b),some (.int p),some (.int (b^O)),some (.int (b^f)),some (.int l)]/\H=H'/\O+f*(2*(l / 2))=p) (fun nx T=>?_) ?_
   .refine⟨_,rfl,_,_,rfl,rfl,(by show(0:Int)<2;decide),rfl,_,rfl,KJ (fun c=>?_) (fun c=>?_)⟩
    .have Z:l % 2=1:=by
      have:((l:Int) % 2)=1:=by simpa using c
      lia
     refine⟨_,rfl,_,rfl,_,_,rfl,rfl,Xo (Qv hb (show e<=p by lia)) (Qv hb g) (by lia),T _ _ ⟨e+f,?_,rfl,?_⟩⟩
     .show [some (V.int b),some (V.int p),some (V.int (b^e*b^f)),some (V.int (b^f)),some (V.int l)]=_;rw[<-Int.pow_add]
     .have:l=2*(l / 2)+1:=by lia
      rw[<-U]
      conv=>rhs;rw[this,Nat.mul_add,Nat.mul_one]
      lia
    .have hev:l % 2=0:=by
      have:¬((l:Int) % 2)=1:=by simpa using c
      lia
     refine T _ _ ⟨e,rfl,rfl,?_⟩;rw[show 2*(l / 2)=l by lia];exact U
   .rintro R _ ⟨O,rfl,rfl,I⟩;refine⟨_,rfl,_,_,rfl,rfl,⟨by decide,by decide⟩,?_⟩;have el:((l:Int) / 2)=((l / 2:Nat):Int):=by lia
    refine⟨_,rfl,_,_,rfl,rfl,_,rfl,KJ (fun c=>?_) (fun c=>?_)⟩
    .refine⟨_,rfl,_,rfl,_,_,rfl,rfl,Xo (Qv hb g) (Qv hb g) (by lia),⟨O,f+f,l / 2,?_,rfl,?_⟩,?_⟩
     .show [some (V.int b),some (V.int p),some (V.int (b^O)),some (V.int (b^f*b^f)),some (V.int ((l:Int) / 2))]=_;rw[el,<-Int.pow_add]
     .rw[<-I,<-Nat.two_mul,Nat.mul_assoc,Nat.mul_left_comm]
     .show((l:Int) / 2).natAbs<((l:Nat):Int).natAbs
      lia
    .refine⟨⟨O,f,l / 2,?_,rfl,?_⟩,?_⟩
     .show [some (V.int b),some (V.int p),some (V.int (b^O)),some (V.int (b^f)),some (V.int ((l:Int) / 2))]=_;rw[el]
     .have:l / 2=0:=by have:=bL (bO.mpr c);lia
      rw[this]at I ⊢
      simpa using I
     .show((l:Int) / 2).natAbs<((l:Nat):Int).natAbs
      lia
  .have Y:l=0:=by have:=bL (bO.mpr c);lia
   subst Y;rw[Nat.mul_zero,Nat.add_zero]at U;subst U;exact⟨_,rfl,q⟩
 .exact fun σ H Q Q' hq ⟨v,e,s,k,e2,e3,e4,q1,q2⟩=>⟨v,e,s,k,e2,e3,e4,q1,hq _ _ q2⟩
end
def DU(H:Hp)(d:PD)(v:V):Prop:=∃N:Nat,∀l,N<=l->Dt l H d v
def Bl(H:Hp)(ds:rS)(xs:rq):Prop:=∃N:Nat,∀l,N<=l->BA l H ds xs
def DU.same{H H':Hp}{d:PD}{v:V}(h:DU H d v)(e:AJ H H'):DU H' d v:=let⟨N,k⟩:=h;⟨N,fun l g=>(k l g).same e⟩
def Bl.same{H H':Hp}{d:rS}{v:rq}(h:Bl H d v)(e:AJ H H'):Bl H' d v:=let⟨N,k⟩:=h;⟨N,fun l g=>(k l g).same e⟩
def DU.int{H:Hp}{i:Int}:DU H (.int i) (.int i):=⟨0,fun _ _=>.int⟩
def DU.bool{H:Hp}{i:Bool}:DU H (.bool i) (.bl i):=⟨0,fun _ _=>.bool⟩
def DU.BP{H:Hp}:DU H .none .BP:=⟨0,fun _ _=>.BP⟩
def DU.str{H:Hp}{x:Str}:DU H (.str x) (.str x):=⟨0,fun _ _=>.str⟩
def Bl.nil{H:Hp}:Bl H [] []:=⟨0,fun _ _=>.nil⟩
def Bl.cons{H:Hp}{d:PD}{ds:rS}{x:V}{xs:rq}(h:DU H d x)(k:Bl H ds xs):Bl H (d::ds) (x::xs) :=
 let⟨N,a⟩:=h;let⟨M,b⟩:=k;⟨max N M,fun l g=>.cons (a l (by lia)) (b l (by lia))⟩
def Bl.len{H:Hp}{ds:rS}{xs:rq}(h:Bl H ds xs):xs.length=ds.length:=let⟨N,a⟩:=h;(a N (aH _)).len
def Bl.get{H:Hp}{ds:rS}{xs:rq}{i:Nat}{d:PD}(h:Bl H ds xs)(e:ds[i]? = some d):∃v,xs[i]? = some v/\DU H d v:=by
 have g:=h.len;have hi:i<xs.length:=by rw[g];exact(aG.mp e).1
 have I:xs[i]? = some xs[i]:=by simp[hi]
 obtain⟨N,a⟩:=h;refine⟨xs[i],I,N,fun l g=>?_⟩;obtain⟨T,O,R⟩:=(a l g).get I;rw[e]at O;cases O;exact R
def DU.lst{H:Hp}{a:AD}{ds:rS}{xs:rq}(h:H a=some (.lst xs))(k:Bl H ds xs):DU H (.list ds) (.ref a) :=
 let⟨N,b⟩:=k;⟨max N (a+1),fun l g=>.lst (aK (show a<l from aL (bK a) (aR (Nat.le_max_right _ _) g))) h (b l (by lia))⟩
def DU.tup{H:Hp}{a:AD}{ds:rS}{xs:rq}(h:H a=some (.tup xs))(k:Bl H ds xs):DU H (.tuple ds) (.ref a) :=
 let⟨N,b⟩:=k;⟨max N (a+1),fun l g=>.tup (aK (show a<l from aL (bK a) (aR (Nat.le_max_right _ _) g))) h (b l (by lia))⟩
def DU.ZE{H:Hp}{ds:rS}{v:V}(h:DU H (.list ds) v):∃a xs,v=.ref a/\H a=some (.lst xs)/\Bl H ds xs:=by
 obtain⟨N,b⟩:=h;have h0:=b N (aH _);rw[Dt]at h0;obtain⟨a,xs,rfl,_,ha,_⟩:=h0;refine⟨a,xs,rfl,ha,N,fun l T=>?_⟩;have O:=b l T;rw[Dt]at O;obtain⟨U,R,e,_,g,I⟩:=O;cases e;rw[ha]at g;cases g;exact I
def DU.pB{H:Hp}{ds:rS}{v:V}(h:DU H (.tuple ds) v):∃a xs,v=.ref a/\H a=some (.tup xs)/\Bl H ds xs:=by
 obtain⟨N,b⟩:=h;have h0:=b N (aH _);rw[Dt]at h0;obtain⟨a,xs,rfl,_,ha,_⟩:=h0;refine⟨a,xs,rfl,ha,N,fun l T=>?_⟩;have O:=b l T;rw[Dt]at O;obtain⟨U,R,e,_,g,I⟩:=O;cases e;rw[ha]at g;cases g;exact I
def Bl.Va{H:Hp}{d e:PD}{xs:rq}(h:Bl H [d,e] xs):∃x y,xs=[x,y]/\DU H d x/\DU H e y:=by
 obtain⟨x,I,R⟩:=h.get (i:=0) rfl;obtain⟨y,g,O⟩:=h.get (i:=1) rfl;have:=h.len
 match xs,this with
 |[a,b],_=>
  simp at I g;subst I g;exact⟨a,b,rfl,R,O⟩
mutual
def oj{c:AD}{H:Hp}:∀ {d:PD} {v:V},Dt c H d v->DU H d v
 |.none,_,h=>by rw[Dt]at h;subst h;exact .BP
 |.bool _,_,h=>by rw[Dt]at h;subst h;exact .bool
 |.int _,_,h=>by rw[Dt]at h;subst h;exact .int
 |.str _,_,h=>by rw[Dt]at h;subst h;exact .str
 |.tuple _,_,h=>by
  rw[Dt]at h;obtain⟨a,xs,rfl,n,I,g⟩:=h;exact .tup I (Jy g)
 |.list _,_,h=>by
  rw[Dt]at h;obtain⟨a,xs,rfl,n,I,g⟩:=h;exact .lst I (Jy g)
 |.dict _,_,h=>by rw[Dt]at h;exact h.elim
def Jy{c:AD}{H:Hp}:∀ {ds:List PD} {xs:List V},BA c H ds xs->Bl H ds xs
 |[],_,h=>by rw[BA]at h;subst h;exact .nil
 |_::_,_,h=>by
  rw[BA]at h;obtain⟨x,r,rfl,I,g⟩:=h;exact .cons (oj I) (Jy g)
end
def DU.ints{H:Hp}{ps:rd}{v:V}(h:DU H (.tuple (ps.map .int)) v):∃a,v=.ref a/\H a=some (.tup (ps.map V.int)):=by
 obtain⟨a,xs,rfl,ha,O⟩:=h.pB;refine⟨a,rfl,?_⟩;rw[ha]
 congr 2
 obtain⟨N,b⟩:=O;have:=b N (aH _);clear b ha h
 induction ps generalizing xs with
 |nil=>rw[List.map_nil,BA]at this;exact this
 |cons p ps I=>
  rw[List.map_cons,BA]at this;obtain⟨x,r,rfl,g,R⟩:=this;rw[Dt]at g;subst g;rw[List.map_cons,I r R]
def PU{i n:Nat}(h:i<n)(hn:n<=60):i<sizeLine:=aL (show i<60 by lia) (by rw[sizeLine_eq];decide)
def nH{n:Nat}(hn:n<=60):n<=sizeLine:=aR hn (by rw[sizeLine_eq];decide)
structure Tb where
 rs:List (List Rat)
 ls:List Rat
def BF(r:rp):rS:=r.map BX
def BE(r:rp):PD:=.list (BF r)
def BK(rs:List rp):rS:=rs.map BE
def Aq(t:Tb):PD:=.tuple [.list (BK t.rs),.list (BF t.ls)]
structure Tb.Ok(m:Nat)(t:Tb):Prop where
 one:1<=t.rs.length
 most:t.rs.length<=m
 last:t.ls.length=t.rs.length
 row:∀(i:Nat) r,t.rs[i]? = some r->r.length=i
def FI(r:rp):(BF r).length=r.length:=bN _
def Gn(r:List rp):(BK r).length=r.length:=bN _
def mH(q:Rat):Sm 1 (BX q):=by
 refine .tup (Nat.le_of_ble_eq_true rfl) fun x g=>?_;rcases aM.mp g with rfl|g
 .exact leaf.sm trivial
 .rw[List.mem_singleton.mp g];exact leaf.sm trivial
def Y4{r:rp}(h:r.length<=60):Sm 2 (BE r):=by
 refine .lst (by rw[FI];lia) fun x g=>?_;obtain⟨q,_,rfl⟩:=aT.mp g;exact mH q
def Tb.Ok.qI{m:Nat}{t:Tb}(h:t.Ok m):∀r∈t.rs,r.length<t.rs.length:=fun r g=>by
 obtain⟨i,hi⟩:=List.getElem?_of_mem g;rw[h.row i r hi];exact(aG.mp hi).1
def Tb.Ok.sm{m:Nat}(hm:m<=60){t:Tb}(h:t.Ok m):Sm 4 (Aq t):=by
 have T:=h.most;have R:=h.last;refine .tup (Nat.le_of_ble_eq_true rfl) fun x g=>?_;rcases aM.mp g with rfl|g
 .refine .lst (by rw[Gn];lia) fun r I=>?_;obtain⟨q,O,rfl⟩:=aT.mp I;exact Y4 (by have:=h.qI q O;lia)
 .rw[List.mem_singleton.mp g];exact(Y4 (r:=t.ls) (by lia)).up
def Bl.Zn{H:Hp}{d:PD}{ds:rS}{xs:rq}(h:Bl H (d::ds) xs):∃x r,xs=x::r/\DU H d x/\Bl H ds r:=by
 obtain⟨N,b⟩:=h;have h0:=b N (aH _);rw[BA]at h0;obtain⟨x,r,rfl,_,_⟩:=h0;refine⟨x,r,rfl,⟨N,fun l g=>?_⟩,⟨N,fun l g=>?_⟩⟩
 .have:=b l g;rw[BA]at this;obtain⟨_,_,e,I,_⟩:=this;cases e;exact I
 .have:=b l g;rw[BA]at this;obtain⟨_,_,e,_,I⟩:=this;cases e;exact I
def DU.rat{H:Hp}{q:Rat}{v:V}(h:DU H (BX q) v):∃p,v=.ref p/\H p=some (.tup (M7 q)):=h.ints (ps:=[q.num,(q.den:Int)])
def VH{H:Hp}{q:Rat}{p:AD}(h:H p=some (.tup (M7 q))):DU H (BX q) (.ref p):=.tup h (.cons .int (.cons .int .nil))
def Pp{c:AD}{R:List V}{H:Hp}(I:H c=some (.lst R)):∀ {g:List Rat} {xs:List V},Bl H (BF g) xs->BA c H (BF g) xs
 |[],xs,h=>by
  have:=h.len;rw[show BF []=[] from rfl,List.length_nil]at this;rw[List.eq_nil_of_length_eq_zero this];exact .nil
 |q::g,xs,h=>by
  obtain⟨x,r,rfl,U,T⟩:=Bl.Zn h;obtain⟨p,rfl,O⟩:=U.rat;exact .cons (.tup (fun z=>by subst z;rw[O]at I;cases I) O (.cons .int (.cons .int .nil))) (Pp I T)
def b7{c:AD}{I:rq}{H H':Hp}(O:H c=some (.lst I))(e:SameBut c H H'){g:rp}{xs:rq}(h:Bl H (BF g) xs):Bl H' (BF g) xs:=Jy (.but e (Pp O h))
def lV{c a:AD}{I xs:rq}{H:Hp}{g:rp}(O:H c=some (.lst I))(n:a≠c)(ha:H a=some (.lst xs))(h:Bl H (BF g) xs):Dt c H (BE g) (.ref a):=.lst n ha (Pp O h)
def Bl.set{H:Hp}{d:PD}{v:V}(g:DU H d v):∀ {ds:List PD} {xs:List V} {j:Nat},Bl H ds xs->Bl H (ds.set j d) (xs.set j v)
 |[],xs,j,h=>by
  have:=h.len;rw[List.length_nil]at this;rw[List.eq_nil_of_length_eq_zero this];exact .nil
 |e::es,xs,j,h=>by
  obtain⟨x,r,rfl,O,I⟩:=h.Zn;cases j with
  |zero=>exact .cons g I
  |succ j=>exact .cons O (Bl.set (j:=j) g I)
def DU.tab{H:Hp}{t:Tb}{v:V}(h:DU H (Aq t) v):∃p R L xs ys,v=.ref p/\H p=some (.tup [.ref R,.ref L])/\H R=some (.lst xs)/\Bl H (BK t.rs) xs/\H L=some (.lst ys)/\Bl H (BF t.ls) ys:=by
 obtain⟨p,zs,rfl,g,h1⟩:=h.pB;obtain⟨x,y,rfl,Z,Y⟩:=h1.Va;obtain⟨R,xs,rfl,I,U⟩:=Z.ZE;obtain⟨L,ys,rfl,O,T⟩:=Y.ZE;exact⟨p,R,L,xs,ys,rfl,g,I,U,O,T⟩
def Qk{H:Hp}{t:Tb}{p R L:AD}{xs ys:rq}(g:H p=some (.tup [.ref R,.ref L]))(I:H R=some (.lst xs))(U:Bl H (BK t.rs) xs)(O:H L=some (.lst ys))(T:Bl H (BF t.ls) ys):DU H (Aq t) (.ref p) :=
 .tup g (.cons (.lst I U) (.cons (.lst O T) .nil))
def L9{H:Hp}{rs:List rp}{xs:rq}{i:Nat}{r:rp}(h:Bl H (BK rs) xs)(g:rs[i]? = some r):∃a ys,xs[i]? = some (.ref a)/\H a=some (.lst ys)/\Bl H (BF r) ys:=by
 obtain⟨v,T,R⟩:=h.get (i:=i) (d:=BE r) (by rw[BK,List.getElem?_map,g];rfl);obtain⟨a,ys,rfl,O,I⟩:=R.ZE;exact⟨a,ys,T,O,I⟩
def Gw(c b:Int):Int:=c.fdiv (FM.gi c b)*b
def HY(bs:rd):Int:=bs.foldl Gw 1
def UX{k:Nat}:∀(bs:List Int) (c:Int) (n:Nat),1<=c->c.natAbs<2^n->(∀b∈bs,1<=b/\b.natAbs<2^k) ->
  1<=bs.foldl Gw c/\(bs.foldl Gw c).natAbs<2^(n+k*bs.length)/\c ∣ bs.foldl Gw c/\∀b∈bs,b ∣ bs.foldl Gw c
 |[],c,n,O,I,_=>⟨O,by simpa using I,Int.dvd_refl _,fun _ z=>(List.not_mem_nil z).elim⟩
 |b::bs,c,n,O,I,h=>by
  obtain⟨b1,b2⟩:=h b aS;obtain⟨s1,s2,U,T⟩:=UU O b1;have n1:(Gw c b).natAbs<2^(n+k):=FM.lO (ai T I) b2;obtain⟨r1,Z,R,Y⟩:=UX bs (Gw c b) (n+k) s1 n1 fun y g=>h y (aO _ g);refine⟨r1,?_,Int.dvd_trans s2 R,fun y g=>?_⟩
  .rw[List.length_cons,Nat.mul_succ,show n+(k*bs.length+k)=n+k+k*bs.length by lia];exact Z
  .rcases aM.mp g with rfl|g
   .exact Int.dvd_trans U R
   .exact Y y g
def W7{k:Nat}{bs:rd}(h:∀b∈bs,1<=b/\b.natAbs<2^k):1<=HY bs/\(HY bs).natAbs<2^(1+k*bs.length)/\∀b∈bs,b ∣ HY bs:=by
 obtain⟨a,b,_,d⟩:=UX bs 1 1 (by decide) (by decide) h;exact⟨a,b,d⟩
def bX(bs:rd)(b:Int):HY (bs++[b])=Gw (HY bs) b:=by
 unfold HY;rw[List.foldl_append]
 rfl
def bz:Sp:=fun vs H Q _=>∃(a:AD) (bs:List Int) (k:Nat),vs=[.ref a]/\H a=some (.lst (bs.map V.int))/\(∀b∈bs,1<=b/\b.natAbs<2^k)/\k*bs.length<=4000/\Q (.int (HY bs)) H
def JM(rs:rp)(B:Int):rd:=rs.map fun r=>r.num*B.fdiv (r.den:Int)
def Zk:Sp:=fun vs H Q _=>∃(a:AD) (xs:List V) (rs:List Rat) (B:Int) (n m:Nat),vs=[.ref a,.int B]/\H a=some (.lst xs)/\Bl H (BF rs) xs/\rs.length<=50/\(∀r∈rs,FM.Fits r n)/\B.natAbs<2^m/\n+m<=4000 /\
 ∀D H',AJ H H'->H D=none->H' D=some (.lst ((JM rs B).map V.int))->Q (.ref D) H'
def JN{H:Hp}{g:rp}{xs:rq}{i:Nat}{q:Rat}(h:Bl H (BF g) xs)(I:g[i]? = some q):∃p,xs[i]? = some (.ref p)/\H p=some (.tup (M7 q)):=by
 obtain⟨v,T,R⟩:=h.get (i:=i) (d:=BX q) (by rw[BF,List.getElem?_map,I];rfl);obtain⟨p,rfl,O⟩:=R.rat;exact⟨p,T,O⟩
def WK{rs:rp}{n:Nat}(h:∀r∈rs,FM.Fits r n):∀b∈rs.map (fun r=>(r.den:Int)),1<=b/\b.natAbs<2^n:=fun b hb=>by
 obtain⟨r,g,rfl⟩:=aT.mp hb;have:=r.den_nz;exact⟨by lia,(h r g).d⟩
section
variable{P:Program}{w:World}{K:Fg}{mg:rW}{base:Heap}{f g:AD}{fd gd:FuncData}
def OW(F:Fn K mg "common_bottom" Hd ["bottoms"] f fd)(BQ:Fn K mg "greatest_divisor" DZ ["one","other"] g gd) (B8:AI P w K mg base Aa 1 g gd ["one","other"] YT):AI P w K mg base Aa 2 f fd ["bottoms"] bz:=by
 have sc:=Pg;refine F.F.ok (k:=1) sc (fun vs H Q E h=>?_) (fun cdv A outer s H vs Q E Y h=>?_)
 .obtain⟨a,bs,k,rfl,_⟩:=h
  rfl
 obtain⟨a,bs,k,rfl,ha,hb,hk,q⟩:=h;refine⟨_,(AX (A8 (i:=1) sc.nd rfl (Or.inl rfl) Ar)
 (AX (IP aQ rfl (Fe (pv 0)) (BJ (i:=2) sc.nd rfl (Or.inl rfl))
  (A3 (A8 (i:=1) sc.nd rfl (Or.inl rfl) (BO Ht (BO Gq (pv 1) (Cu BQ B8 Y rfl (AK (pv 1) (AK (pv 2) AY)))) (pv 2)))))
 (A3 (Ca (pv 1))))),?_⟩
 refine⟨_,rfl,a,rfl,⟨_,Al.of ha⟩,Pr (xs:=bs.map V.int) (fun i σ H'=>∃(r:Option V),σ=[some (.ref a),some (.int (HY (bs.take i))),r]/\H=H') ?_ ?_ ?_ ?_⟩
 .exact⟨_,rfl,rfl⟩
 .rintro i σ H' _ ⟨r,rfl,rfl⟩;exact Al.of ha
 .rintro i x σ H' I ⟨r,rfl,rfl⟩;have hi:i<bs.length:=by have:=(aG.mp I).1;simpa using this
  rw[List.getElem?_map,List.getElem?_eq_getElem hi]at I;cases I;obtain⟨b1,b2⟩:=hb _ (List.getElem_mem hi);obtain⟨c1,O,_⟩:=W7 (k:=k) (bs:=bs.take i) fun y U=>hb y (List.mem_of_mem_take U);rw[List.length_take,Nat.min_eq_left (by lia)]at O;obtain⟨s1,s2,s3,R⟩:=UU c1 b1;have hg:FM.gi (HY (bs.take i)) bs[i]≠0:=Int.ne_of_gt (FM.Nq (by lia));have Z:k*i+k<=4000:=by
   have:k*(i+1)<=k*bs.length:=ao k hi;rw[Nat.mul_succ]at this
   lia
  have T:((HY (bs.take i)).fdiv (FM.gi (HY (bs.take i)) bs[i])).natAbs<2^(1+k*i):=ai R O;refine⟨_,rfl,_,rfl,_,rfl,HY (bs.take i),bs[i],rfl,_,_,rfl,rfl,⟨hg,k,by have:k*1<=k*bs.length:=ao k (by lia);lia,Nat.lt_of_le_of_lt (FM.fg (by lia)) b2⟩,_,rfl,_,_,rfl,rfl,Xo T b2 (by lia),some (.int bs[i]),?_,rfl⟩;rw[List.take_add_one,List.getElem?_eq_getElem hi];show _=[some (V.ref a),some (V.int (HY (bs.take i++[bs[i]]))),some (V.int bs[i])];rw[bX]
  rfl
 .rintro σ H' ⟨r,rfl,rfl⟩;rw[List.length_map,List.take_length];exact⟨_,rfl,q⟩
def VZ:AZ ["some","bottom"] ["some","bottom"] (AM LF):=B5
def UO(F:Fn K mg "tops_over" LF ["some","bottom"] f fd):AI P w K mg base Aa 1 f fd ["some","bottom"] Zk:=by
 have sc:=VZ;refine F.F.ok (k:=0) sc (fun vs H Q E h=>?_) (fun cdv A outer s H vs Q E T h=>?_)
 .obtain⟨a,xs,rs,B,n,m,rfl,_⟩:=h
  rfl
 obtain⟨a,xs,rs,B,n,m,rfl,ha,dx,hl,hf,hB,hnm,q⟩:=h;have Y:xs.length=rs.length:=by rw[dx.len,FI]
 refine⟨_,(A3 (Ca (Hv [".0","part","bottom"] 1 [none,none,some 1] (Fe (pv 0)) (fun _ _ _ _ _=>F7) (fun _ _ _ _ _=>(BO Ht (IJ OG (pv 1) Ar (fun _ _=>rfl)) (BO Gq (pv 2) (IJ OG (pv 1) Ar (fun _ _=>rfl)))))))),?_⟩;refine⟨_,rfl,a,rfl,⟨_,Al.of ha⟩,fun D Z=>IA (n:=xs.length) (fun i ys H'=>AJ H H'/\ys=(JM (rs.take i) B).map V.int) ⟨Ac Z _,rfl⟩ ?_ ?_⟩
 .rintro i ys H1 hi ⟨O,rfl⟩ I;have T:rs[i]? = some (rs[i]'(by lia)):=aN _;obtain⟨p,U,R⟩:=JN dx T;have ft:=hf _ (aW T);generalize rs[i]'(by lia)=r at T R ft;have hd:=r.den_nz;refine⟨⟨xs,.ref p,Al.of (O _ _ ha),U⟩,PU (n:=60) (by unfold JM;simp;lia) (by decide),fun x H' y=>?_⟩;obtain⟨rfl,y⟩:=y;have hx:=y xs (Al.of (O _ _ ha));rw[U]at hx;cases hx;unfold JO;have n2:(B.fdiv (r.den:Int)).natAbs<2^m:=ai (FM.Ft _ _) hB;refine ME ⟨_,rfl,_,_,_,_,rfl,rfl,BC.of (O _ _ R),rfl,_,rfl,_,rfl,_,_,_,_,rfl,rfl,BC.of (O _ _ R),rfl,_,_,rfl,rfl,⟨by lia,n,by lia,ft.d⟩,_,_,rfl,rfl,Xo ft.1 n2 (by lia),I,GF hi ⟨fun b o z=>?_,?_⟩⟩
  .rw[AL (AU z Z)];exact O _ _ z
  .rw[List.take_add_one,T,JM,JM,List.map_append,List.map_append]
   rfl
 .rintro ys H1 ⟨O,rfl⟩ I;rw[Y,List.take_length]at I;exact⟨⟨xs,Al.of (O _ _ ha),Nat.le_refl _⟩,q D H1 O Z I⟩
end
def Dq(a b:rd):rd:=List.zipWith (· * ·) a b
def Uu(a b:rd):Int:=(Dq a b).sum
def Ej(n:Nat):rd:=List.replicate n 1
def Oi(rows:List (List Int)):Tr->List Int->List Int
 |.nil,g=>g
 |.cons b r,g=>Oi rows r (Dq g (rows.map fun row=>Uu row (Oi rows b (Ej rows.length))))
def Eo(rows:List rd)(t:Tr):rd:=rows.map fun row=>Uu row (Oi rows t (Ej rows.length))
def Ql(rows:List (List Int)):∀(t:Tr) (g:List Int),Oi rows t g=t.bs.foldl (fun a b=>Dq a (Eo rows b)) g
 |.nil,g=>rfl
 |.cons b r,g=>by
  rw[Oi,Tr.bs,List.foldl_cons,Ql rows r]
  rfl
def Lo(rows:List rd)(t:Tr):(Eo rows t).length=rows.length:=bN _
def eQ{a b:rd}(h:a.length=b.length):(Dq a b).length=a.length:=by unfold Dq;rw[List.length_zipWith,h,Nat.min_self]
def DR(n:Nat)(xs:rd):Prop:=∀x∈xs,x.natAbs<=n
def DR.mul{m n:Nat}:∀ {a b:List Int},DR m a->DR n b->DR (m*n) (Dq a b)
 |[],_,_,_=>fun x h=>by cases h
 |_::_,[],_,_=>fun x h=>by cases h
 |x::a,y::b,ha,hb=>fun z h=>by
  have h:z∈x*y::Dq a b:=h;rcases aM.mp h with rfl|h
  .rw[Int.natAbs_mul];exact Nat.mul_le_mul (ha x (.head _)) (hb y (.head _))
  .exact DR.mul (fun x h=>ha x (.tail _ h)) (fun x h=>hb x (.tail _ h)) z h
def bV{n:Nat}:∀ {a:List Int},DR n a->a.sum.natAbs<=a.length*n
 |[],_=>aj _
 |x::a,h=>by
  have I:=h x (.head _);have g:=bV (a:=a) fun x h'=>h x (.tail _ h');rw[List.sum_cons,List.length_cons,Nat.succ_mul];have:=Int.natAbs_add_le x a.sum
  lia
def kj{m n:Nat}{a b:rd}(ha:DR m a)(hb:DR n b):(Uu a b).natAbs<=a.length*m*n:=by
 have h:=bV (ha.mul hb);have g:(Dq a b).length<=a.length:=by unfold Dq;rw[List.length_zipWith];exact Nat.min_le_left _ _
 refine aR h ?_;rw[Nat.mul_assoc];exact Nat.mul_le_mul_right _ g
structure KL(rows:List (List Int))(c:Nat):Prop where
 len:rows.length<=1000
 one:∀row∈rows,row.length<=rows.length
 big:∃M,(∀row∈rows,DR M row)/\M<=2^c/\∀row∈rows,row.length*M<=2^c
def DR.mono{m n:Nat}{xs:rd}(h:DR m xs)(e:m<=n):DR n xs:=fun x g=>aR (h x g) e
def SS(n k:Nat):DR (2^k) (Ej n):=fun x h=>by
 unfold Ej at h;rw[List.eq_of_mem_replicate h];exact Nat.one_le_two_pow
def fZ{rows:List rd}{c:Nat}(h:KL rows c){t:Tr}{k:Nat}(O:DR (2^(c*k)) (Oi rows t (Ej rows.length))):DR (2^(c*(k+1))) (Eo rows t):=fun x g=>by
 unfold Eo at g;obtain⟨row,I,rfl⟩:=aT.mp g;obtain⟨M,T,_,R⟩:=h.big;have:=kj (T row I) O;refine aR this ?_;rw[Nat.mul_add,Nat.mul_one,Nat.add_comm,Nat.pow_add];exact Nat.mul_le_mul_right _ (R row I)
def QF{rows:List (List Int)}{c:Nat}(h:KL rows c):∀(t:Tr) (g:List Int) (j:Nat),g.length=rows.length->DR (2^(c*j)) g->(Oi rows t g).length=rows.length/\DR (2^(c*(j+(t.Ae-1)))) (Oi rows t g)
 |.nil,g,j,I,ha=>⟨I,ha⟩
 |.cons b r,g,j,I,ha=>by
  have hb:=QF h b (Ej rows.length) 0 (List.length_replicate ..) (SS _ _);have Y:1<=b.Ae:=Tr.Df b;have U:1<=r.Ae:=Tr.Df r;rw[Nat.zero_add]at hb;have T:=fZ h hb.2;rw[show b.Ae-1+1=b.Ae by lia]at T;have R:=ha.mul T;rw[<-Nat.pow_add,<-Nat.mul_add]at R;have O:=QF h r (Dq g (Eo rows b)) (j+b.Ae) (by rw[eQ (by rw[I,Lo])];exact I) R;rw[Oi,Tr.Ae];refine⟨O.1,?_⟩;rw[show j+(b.Ae+r.Ae-1)=j+b.Ae+(r.Ae-1) by lia];exact O.2
def i5{rows:List rd}{c:Nat}(h:KL rows c)(t:Tr):DR (2^(c*t.Ae)) (Eo rows t):=by
 have I:=(QF h t (Ej rows.length) 0 (List.length_replicate ..) (SS _ _)).2;have O:1<=t.Ae:=Tr.Df t;rw[Nat.zero_add]at I;have g:=fZ h I;rw[show t.Ae-1+1=t.Ae by lia]at g;exact g
def Wn{m:Nat}(hm:m+1<=1000000){x y:Int}(I:x.natAbs<=2^m)(g:y.natAbs<=2^m):VM x y\/QV x y:=by
 have:2^m<2^(m+1):=Nat.pow_lt_pow_of_lt (by decide) (bK m);exact .inr ⟨m+1,hm,Nat.lt_of_le_of_lt I this,Nat.lt_of_le_of_lt g this⟩
def KW{n:Nat}(h:n<=1000):n<sizeLine:=ai h (by rw[sizeLine_eq];decide)
def EG{H H':Hp}{p:AD}(e:AJ H H')(h:H' p=none):H p=none:=by
 cases z:H p with
 |none=>rfl
 |some o=>rw[e _ _ z]at h;cases h
def ints_get{ps:rd}{i:Nat}{x:Int}(h:ps[i]? = some x):(ps.map V.int)[i]? = some (.int x):=by rw[List.getElem?_map,h];rfl
def Sh{xs ys:rd}{i:Nat}{x y:Int}(I:xs[i]? = some x)(g:ys[i]? = some y):(Dq xs ys).take (i+1)=(Dq xs ys).take i++[x*y]:=by
 have h:(Dq xs ys)[i]? = some (x*y):=by unfold Dq;rw[List.getElem?_zipWith,I,g]
 rw[List.take_add_one,h];rfl
def jD:Sp:=fun vs H Q _=>∃a b xs ys m,vs=[.ref a,.ref b]/\H a=some (.lst (xs.map V.int))/\H b=some (.lst (ys.map V.int))/\xs.length<=ys.length/\xs.length<=1000/\m+1<=1000000/\DR (2^m) xs/\DR (2^m) ys/\∀H',AJ H H'->Q (.int (Uu xs ys)) H'
section
variable{P:Program}{w:World}{K:Fg}{mg:rW}{base:Heap}{f:AD}{fd:FuncData}
def Yb:AZ ["row","shares"] ["row","shares"] (AM NA):=B5
def YO(F:Fn K mg "read_by" NA ["row","shares"] f fd)(FQ:mg "sum" = none)(L5:mg "zip" = none):AI P w K mg base Aa 1 f fd ["row","shares"] jD:=by
 have sc:=Yb;refine F.F.ok (k:=0) sc (fun vs H Q E h=>?_) (fun cdv A outer s H vs Q E hr h=>?_)
 .obtain⟨a,b,ps,Y,m,rfl,_⟩:=h
  rfl
 obtain⟨a,b,ps,Y,m,rfl,ha,hb,hl,h60,hm,sx,sy,q⟩:=h;refine⟨_,(A3 (Ca (Ct (P7 rfl) rfl FQ PyProof.Rows.boot_sum (AK (TF [".0","part","share"] 1 2 [none,none,none] (Yx rfl L5 (AK (pv 0) (AK (pv 1) AY))) (fun _ _ _ _ _=>F7) (fun _ _ _ _ _=>(BO Ht (pv 1) (pv 2)))) AY)))),?_⟩;refine⟨_,rfl,_,rfl,false,false,a,b,rfl,⟨_,ha⟩,⟨_,hb⟩,fun D hD=>UP (n:=ps.length) (fun i us H'=>AJ H H'/\us=((Dq ps Y).take i).map V.int) ?_ ?_ ?_⟩
 .exact⟨Ac hD _,by rw[List.take_zero];rfl⟩
 .rintro i us H1 hi ⟨I,rfl⟩ g;have hx:=aN hi;have Z:=aN (l:=Y) (i:=i) (by lia);have U:=I _ _ ha;have T:=I _ _ hb;refine⟨⟨_,_,_,_,U,T,ints_get hx,ints_get Z⟩,KW (by rw[List.length_map,List.length_take];lia),fun v H' y=>?_⟩;obtain⟨p,x,z,rfl,np,rfl,k1,k2⟩:=y;have R:=k1 _ U;have O:=k2 _ T;rw[ints_get hx]at R;rw[ints_get Z]at O;cases R;cases O;have sp:=Ac np (.tup [.int ps[i],.int Y[i]]);refine⟨p,_,_,rfl,BC.of AN,?_⟩;unfold JO;refine ME ⟨_,rfl,_,rfl,_,_,rfl,rfl,Wn hm (sx _ (List.getElem_mem _)) (sy _ (List.getElem_mem _)),sp _ _ g,GF hi ⟨fun c o z=>?_,?_⟩⟩
  .rw[AL (AU z hD)];exact sp _ _ (I _ _ z)
  .rw[Sh hx Z,List.map_append]
   rfl
 .rintro us H1 ⟨I,rfl⟩ g;refine⟨⟨_,_,I _ _ ha,I _ _ hb,.inl (by rw[List.length_map])⟩,D,_,rfl,Al.of g,?_⟩;rw[List.take_of_length_le (by unfold Dq;rw[List.length_zipWith];lia)];exact q _ I
end
def I0(d:AD)(H H':Hp):Prop:=∀a o,a≠d->H a=some o->H' a=some o
def I0.of{d:AD}{H H':Hp}(e:AJ H H'):I0 d H H':=fun a o _ h=>e a o h
def I0.trans{d:AD}{H I g:Hp}(e:I0 d H I)(O:I0 d I g):I0 d H g:=fun a o n h=>O a o n (e a o n h)
def lq{d:AD}{r:List KR}{xs:rq}:dN d r≠.lst xs:=by unfold dN;intro z;cases z
def k9{d:AD}{r:List KR}{xs:rq}:dN d r≠.tup xs:=by unfold dN;intro z;cases z
def I0.lst{d:AD}{H H':Hp}(e:I0 d H H'){r:List KR}(hd:H d=some (dN d r)){l:AD}{xs:rq}(h:H l=some (.lst xs)):H' l=some (.lst xs):=e l _ (Xz h hd fun z=>lq z.symm) h
def I0.A0{d:AD}{H H':Hp}(e:I0 d H H'){r:List KR}(hd:H d=some (dN d r)):Jx H H':=fun b xs h=>e b _ (Xz h hd fun z=>k9 z.symm) h
def Sy(H:Hp)(vs:rq)(rows:List rd):Prop:=vs.length=rows.length/\∀(i:Nat) (row:List Int),rows[i]? = some row->∃a:AD,vs[i]? = some (.ref a)/\H a=some (.lst (row.map V.int))
def Sy.same{H H':Hp}{vs:rq}{rows:List rd}(h:Sy H vs rows)(e:AJ H H'):Sy H' vs rows:=⟨h.1,fun i row hi=>let⟨a,I,g⟩:=h.2 i row hi;⟨a,I,e _ _ g⟩⟩
def Sy.but{d:AD}{H H':Hp}{vs:rq}{rows:List rd}(h:Sy H vs rows)(e:I0 d H H'){r:List KR}(hd:H d=some (dN d r)):Sy H' vs rows:=⟨h.1,fun i row hi=>let⟨a,I,g⟩:=h.2 i row hi;⟨a,I,e.lst hd g⟩⟩
structure Xf(Dm:List Tr)(c:Nat):Prop where
 len:Dm.length<=1000
 inj:∀a∈Dm,∀b∈Dm,TH.Bj (some a)=TH.Bj (some b)->a=b
 bs:∀t∈Dm,∀b∈t.bs,b∈Dm
 deep:∀t∈Dm,t.deep<8
 size:∀t∈Dm,c*t.Ae+1<=1000000
structure Memo(Dm:List Tr)(rows:List (List Int))(W:Addr)(H:Hp)(d:Addr)(r:List KR):Prop where
 at_:H d=some (dN d r)
 nd:(r.map (·.1)).Nodup
 all:∀q∈r,∃(t:Tr) (l:Addr),q.1=some t/\t∈Dm/\Tv H t q.2.1/\q.2.2=.ref l/\H l=some (.lst ((Eo rows t).map V.int))/\l≠W
def Memo.same{Dm:rz}{rows:List rd}{W:AD}{H H':Hp}{d:AD}{r:List KR}(h:Memo Dm rows W H d r)(e:AJ H H'):Memo Dm rows W H' d r:=⟨e _ _ h.at_,h.nd,fun q g=>let⟨t,l,Y,U,T,R,O,I⟩:=h.all q g;⟨t,l,Y,U,T.same e,R,e _ _ O,I⟩⟩
def Memo.ok{Dm:rz}{c:Nat}{rows:List rd}{W:AD}{H:Hp}{d:AD}{r:List KR}(h:Memo Dm rows W H d r)(D:Xf Dm c){t:Tr}(T:t∈Dm):VN H d r (some t):=by
 refine⟨h.at_,fun q g=>?_,h.nd,fun q g R=>?_⟩
 .obtain⟨u,l,O,I,U,_⟩:=h.all q g;rw[O];exact⟨D.deep u I,U⟩
 .obtain⟨u,l,O,I,_⟩:=h.all q g;rw[O]at R ⊢;rw[D.inj u I t T R]
def Sk{g:Type}[DecidableEq g]:∀ {a b:List g},a.Nodup->(∀x∈a,x∈b)->a.length<=b.length
 |[],_,_,_=>aj _
 |x::a,b,hn,h=>by
  have O:=h x (.head _);obtain⟨T,R⟩:=List.nodup_cons.mp hn;have:=Sk (a:=a) (b:=b.erase x) R fun y I=>(List.mem_erase_of_ne (show y≠x from fun e=>T (by rw[<-e];exact I))).mpr (h y (.tail _ I));rw[List.length_erase_of_mem O]at this;have:=List.length_pos_of_mem O;rw[List.length_cons]
  lia
def Memo.len{Dm:rz}{rows:List rd}{W:AD}{H:Hp}{d:AD}{r:List KR}(h:Memo Dm rows W H d r):r.length<=Dm.length:=by
 have:=Sk (b:=Dm.map some) h.nd fun x g=>by
  obtain⟨q,I,rfl⟩:=aT.mp g;obtain⟨u,l,R,O,_⟩:=h.all q I;rw[R];exact List.mem_map_of_mem O
 simpa using this
def Memo.put{Dm:rz}{rows:List rd}{W:AD}{H H':Hp}{d:AD}{r:List KR}(h:Memo Dm rows W H d r){t:Tr}{v:V}{l:AD}(ht:t∈Dm)(tv:Tv H t v)(hl:H l=some (.lst ((Eo rows t).map V.int)))(hlW:l≠W) (e:H'=upd H d (dN d (Fz r (some t) v (.ref l)))):I0 d H H'/\Memo Dm rows W H' d (Fz r (some t) v (.ref l))/\H' l=some (.lst ((Eo rows t).map V.int)):=by
 subst e;have hb:I0 d H (upd H d (dN d (Fz r (some t) v (.ref l)))):=fun a o n h=>by rw[AL n];exact h
 have T:=hb.lst h.at_ hl;have old:∀q∈r,∃(t':Tr) (Y:AD),q.1=some t'/\t'∈Dm/\Tv (upd H d (dN d (Fz r (some t) v (.ref l)))) t' q.2.1/\q.2.2=.ref Y/\upd H d (dN d (Fz r (some t) v (.ref l))) Y=some (.lst ((Eo rows t').map V.int))/\Y≠W:=fun q g=>by
  obtain⟨u,Y,Z,I,h3,h4,h5,h6⟩:=h.all q g;exact⟨u,Y,Z,I,h3.A0 (hb.A0 h.at_),h4,hb.lst h.at_ h5,h6⟩
 refine⟨hb,⟨AN,?_,fun q g=>?_⟩,T⟩
 .unfold Fz;split
  .rw[List.map_map];rw[show((fun x:KR=>x.1) ∘ fun q:KR=>if q.1=some t then(q.1,q.2.1,V.ref l) else q)=fun x=>x.1 from funext fun q=>by
    show(if q.1=some t then(q.1,q.2.1,V.ref l) else q).1=q.1;split<;>rfl]
   exact h.nd
  .rename_i hn;rw[List.map_append];refine List.nodup_append.mpr ⟨h.nd,by simp,fun a ha b U=>?_⟩;obtain⟨q,g,rfl⟩:=aT.mp ha;have U:b=some t:=by simpa using U
   subst U;have hn:r.find? (fun q=>decide (q.1=some t))=none:=by
    cases z:r.find? (fun q=>decide (q.1=some t)) with
    |none=>rfl
    |some x=>rw[z]at hn;exact absurd rfl hn
   have:=List.find?_eq_none.mp hn q g
   simpa using this
 .have R:q∈r\/(∃O∈r,O.1=some t/\q=(O.1,O.2.1,.ref l))\/q=(some t,v,.ref l):=by
   unfold Fz at g;split at g
   .obtain⟨O,Z,I⟩:=aT.mp g;split at I
    .rename_i z;exact .inr (.inl ⟨O,Z,z,I.symm⟩)
    .subst I;exact .inl Z
   .rcases bS.mp g with g|g
    .exact .inl g
    .exact .inr (.inr (by simpa using g))
  rcases R with R|⟨O,Z,I,rfl⟩|rfl
  .exact old q R
  .obtain⟨u,Y,k1,k2,k3,_⟩:=old O Z;rw[I]at k1;cases k1;exact⟨t,l,I,k2,k3,rfl,T,hlW⟩
  .exact⟨t,l,rfl,ht,tv.A0 (hb.A0 h.at_),rfl,T,hlW⟩
def Kj:∀ {t b:Tr},b∈t.bs->b.Ae<=t.Ae
 |.nil,b,h=>by cases h
 |.cons c r,b,h=>by
  rw[Tr.bs]at h;rw[Tr.Ae];rcases aM.mp h with rfl|h
  .exact Nat.le_add_right _ _
  .exact aR (Kj h) (Nat.le_add_left _ _)
def eA(r:List KR)(k:Option Tr)(I v:V):∃q,(Fz r k I v).find? (fun q=>decide (q.1=k))=some q:=by
 have:∃q∈Fz r k I v,q.1=k:=by
  unfold Fz;split
  .rename_i h;obtain⟨q,T⟩:=Option.isSome_iff_exists.mp h;obtain⟨O,g⟩:=find_key T;exact⟨_,List.mem_map_of_mem O,by rw[if_pos g];exact g⟩
  .exact⟨_,List.mem_append_right _ (.head _),rfl⟩
 obtain⟨q,O,g⟩:=this;cases z:(Fz r k I v).find? (fun q=>decide (q.1=k)) with
 |some R=>exact⟨R,rfl⟩
 |none=>exact absurd g (by simpa using List.find?_eq_none.mp z q O)
def Q3:∀(t:Tr) (i:Nat),(Tr.of (t.bs.take i)).Ae<=t.Ae
 |.nil,i=>by rw[Tr.bs,List.take_nil];exact aH _
 |.cons b r,0=>by
  have:=Tr.Df (.cons b r);exact this
 |.cons b r,i+1=>by
  rw[Tr.bs,List.take_succ_cons,Tr.of,Tr.Ae,Tr.Ae];exact Nat.add_le_add_left (Q3 r i) _
def ZC(Dm:rz)(c n:Nat):Sp:=fun vs H Q _=>∃R g rows v t d r W,vs=[.ref R,v,.ref d]/\H R=some (.lst g)/\Sy H g rows/\KL rows c/\Tv H t v/\t∈Dm/\t.deep<n/\(∃o,H W=some o)/\Memo Dm rows W H d r/\∀H' I l,I0 d H H'->Memo Dm rows W H' d I->H' l=some (.lst ((Eo rows t).map V.int))->Q (.ref l) H'
section
variable{P:Program}{w:World}{K:Fg}{mg:rW}{base:Heap}{f g1:AD}{fd gd1:FuncData}
def V4:AZ ["rows","tree","known","shares","bough"] ["rows","tree","known"] (AM MK):=B5
def PB{Dm:List Tr}{c:Nat}(DO:Xf Dm c)(ER:Fn K mg "readings" MK ["rows","tree","known"] f fd)(IW:Fn K mg "read_by" NA ["row","shares"] g1 gd1)(Q6:AI P w K mg base Aa 1 g1 gd1 ["row","shares"] jD)(BI:mg "len" = none)(L5:mg "zip" = none) :
  ∀n,AI P w K mg base Aa (n+1) f fd ["rows","tree","known"] (ZC Dm c n)
 |0=>EN fun _ _ _ _ ⟨_,_,_,_,_,_,_,_,_,_,_,_,_,_,h,_⟩=>absurd h (ak _)
 |n+1=>by
  have sc:=V4;have MU:=PB DO ER IW Q6 BI L5 n;have Zw:=Q6.mono (show 1<=n+1 by lia);refine ER.F.ok (k:=n+1) sc (fun vs H Q E h=>?_) (fun cdv A outer s H vs Q E hr h=>?_)
  .obtain⟨R,rvs,rows,v,t,d,r,W,rfl,_⟩:=h
   rfl
  obtain⟨R,rvs,rows,v,t,d,r,W,rfl,hR,O,ro,tv,ht,hdp,⟨oW,hW⟩,T,q⟩:=h;have hWs:∀ {H':Hp} {Z:List KR},I0 d H H'->Memo Dm rows W H' d Z->∃o,H' W=some o:=fun {H' Z} e m=>by
   by_cases z:W=d
   .exact⟨_,by rw[z];exact m.at_⟩
   .exact⟨_,e _ _ z hW⟩
  refine⟨_,(AX (Gi (Dk (jF (by have:=hr.units;exact this) true) (pv 1) (pv 2) rfl)
  (AX (A8 (i:=3) sc.nd rfl (Or.inr rfl) (BO Ym (FX (AK Ar AY)) (Ct HK rfl BI aZ (AK (pv 0) AY))))
  (AX (IP aQ rfl (UJ (pv 1)) (BJ (i:=4) sc.nd rfl (Or.inl rfl))
   (A3 (A8 (i:=3) sc.nd rfl (Or.inr rfl) (TF [".0","share","read"] 1 2 [none,none,none] (Yx rfl L5 (AK (pv 3) (AK (Cu ER MU hr rfl (AK (pv 0) (AK (pv 4) (AK (pv 2) AY)))) AY))) (fun _ _ _ _ _=>F7) (fun _ _ _ _ _=>(BO Ht (pv 1) (pv 2)))))))
  (A3 (UN (Hv [".0","row","shares"] 1 [none,none,some 3] (Fe (pv 0)) (fun _ _ _ _ _=>F7) (fun _ _ _ _ _=>(Cu IW Zw hr rfl (AK (pv 1) (AK (pv 2) AY))))) (Zt (pv 2) (pv 1) (jr (by have:=hr.units;exact this)))))))
  EL)
 (A3 (Ca (lJ (by have:=hr.units;exact this) (pv 2) (pv 1) (fun _ _=>rfl))))),?_⟩
  have key:Ip H (some t) v:=⟨DO.deep t ht,tv⟩;cases hz:r.find? (fun q=>decide (q.1=some t)) with
  |some q'=>
   refine⟨_,rfl,_,rfl,d,r,some t,rfl,key,T.ok DO ht,false,by rw[hz];rfl,pj ?_⟩;obtain⟨hm,hk⟩:=find_key hz;obtain⟨u,l,h1,h2,h3,h4,h5,_⟩:=T.all q' hm;rw[hk]at h1;cases h1;refine⟨_,rfl,_,rfl,d,r,some t,q',rfl,key,T.ok DO ht,hz,?_⟩;rw[h4];exact q H r l (fun a o _ h=>h) T h5
  |none=>
   refine⟨_,rfl,_,rfl,d,r,some t,rfl,key,T.ok DO ht,true,by rw[hz];rfl,ME ?_⟩;refine⟨by show 1<=sizeLine;decide,fun p hp=>⟨_,rfl,_,_,rfl,.inl (Al.of (Ac hp _ _ _ hR)),p,_,_,rfl,rfl,AN,by lia,?_,?_,fun S hS=>?_⟩⟩
   .have:=O.1;have:=ro.len;lia
   .have:=O.1;have:=ro.len;refine ay (KW ?_);simp
    lia
   rw[List.flatten_replicate_singleton,show((rvs.length:Nat):Int).toNat=rows.length by rw[O.1];rfl];have e0:AJ H (upd (upd H p (.lst [V.int 1])) S (.lst (List.replicate rows.length (V.int 1)))):=(Ac hp _).trans (Ac hS _);have hS0:upd (upd H p (.lst [V.int 1])) S (.lst (List.replicate rows.length (V.int 1))) S=some (.lst (((t.bs.take 0).foldl (fun a b=>Dq a (Eo rows b)) (Ej rows.length)).map V.int)):=by
    rw[AN,List.take_zero,List.foldl_nil];unfold Ej;rw[List.map_replicate]
   generalize upd (upd H p (.lst [V.int 1])) S (.lst (List.replicate rows.length (V.int 1)))=H0 at e0 hS0;obtain⟨a,ys,rfl,ha,hts⟩:=tv;have hyl:=hts.len;have sizes:∀i,((t.bs.take i).foldl (fun a b=>Dq a (Eo rows b)) (Ej rows.length)).length=rows.length/\DR (2^(c*t.Ae)) ((t.bs.take i).foldl (fun a b=>Dq a (Eo rows b)) (Ej rows.length)):=fun i=>by
    have h:=QF ro (Tr.of (t.bs.take i)) (Ej rows.length) 0 (List.length_replicate ..) (SS _ _);rw[Ql,Tr.N8]at h;refine⟨h.1,h.2.mono (bG (by decide) (ao _ ?_))⟩;have:=Q3 t i
    lia
   refine⟨_,rfl,a,rfl,⟨_,BC.of (e0 _ _ ha)⟩,iJ (xs:=ys) (fun i σ H'=>∃(r4:Option V) (S:AD) (Z:List KR),σ=[some (.ref R),some (.ref a),some (.ref d),some (.ref S),r4]/\I0 d H H'/\Memo Dm rows W H' d Z/\H' S=some (.lst (((t.bs.take i).foldl (fun a b=>Dq a (Eo rows b)) (Ej rows.length)).map V.int))) ?_ ?_ ?_ ?_⟩
   .exact⟨_,S,r,rfl,.of e0,T.same e0,hS0⟩
   .rintro i σ H' _ ⟨r4,S',Z,rfl,e,_⟩;exact BC.of (e.A0 T.at_ _ _ ha)
   .rintro i x σ H1 hx ⟨r4,S1,Z,rfl,e1,Y,hS1⟩;obtain⟨b,hb,tb⟩:=hts.get hx;have hbm:b∈t.bs:=aW hb;have hbd:=Tr.Uo hbm;refine⟨_,rfl,_,rfl,_,rfl,_,rfl,R,rvs,rows,x,b,d,Z,W,rfl,e1.lst T.at_ hR,O.but e1 T.at_,ro,tb.A0 (e1.A0 T.at_),DO.bs t ht b hbm,by lia,hWs e1 Y,Y,fun H2 r2 l e2 me2 hl2=>?_⟩;have hS2:=e2.lst Y.at_ hS1;have e02:=e1.trans e2;obtain⟨sl,sb⟩:=sizes i;generalize hsh:(t.bs.take i).foldl (fun a b=>Dq a (Eo rows b)) (Ej rows.length)=sh at sl sb hS2;have hnext:(t.bs.take (i+1)).foldl (fun a b=>Dq a (Eo rows b)) (Ej rows.length)=Dq sh (Eo rows b):=by
     rw[List.take_add_one,hb,List.foldl_append,hsh];rfl
    have rl:=Lo rows b;have rb:=i5 ro b;have kb:b.Ae<=t.Ae:=Kj hbm;have rb':=rb.mono (bG (by decide) (ao c kb));refine⟨false,false,S1,l,rfl,⟨_,hS2⟩,⟨_,hl2⟩,fun D hD=>UP (n:=sh.length) (fun j us H'=>AJ H2 H'/\us=((Dq sh (Eo rows b)).take j).map V.int) ?_ ?_ ?_⟩
    .exact⟨Ac hD _,by rw[List.take_zero];rfl⟩
    .rintro j us H3 hj ⟨g,rfl⟩ I;have hx:=aN hj;have hy:=aN (l:=Eo rows b) (i:=j) (by lia);have e3a:=g _ _ hS2;have e3b:=g _ _ hl2;refine⟨⟨_,_,_,_,e3a,e3b,ints_get hx,ints_get hy⟩,KW (by have:=ro.len;rw[List.length_map,List.length_take];lia),fun v H' y=>?_⟩;obtain⟨p,x,z,rfl,np,rfl,k1,k2⟩:=y;have hx':=k1 _ e3a;have hy':=k2 _ e3b;rw[ints_get hx]at hx';rw[ints_get hy]at hy';cases hx';cases hy';have sp:=Ac np (.tup [.int sh[j],.int (Eo rows b)[j]]);refine⟨p,_,_,rfl,BC.of AN,?_⟩;unfold JO;refine ME ⟨_,rfl,_,rfl,_,_,rfl,rfl,Wn (DO.size t ht) (sb _ (List.getElem_mem _)) (rb' _ (List.getElem_mem _)),sp _ _ I,GF hj ⟨fun c o z=>?_,?_⟩⟩
     .rw[AL (AU z hD)];exact sp _ _ (g _ _ z)
     .rw[Sh hx hy,List.map_append]
      rfl
    .rintro us H3 ⟨g,rfl⟩ I;refine⟨⟨_,_,g _ _ hS2,g _ _ hl2,.inl (by rw[List.length_map])⟩,?_⟩;refine⟨_,D,r2,rfl,e02.trans (.of g),me2.same g,?_⟩;rw[I,hnext,List.take_of_length_le (by unfold Dq;rw[List.length_zipWith];lia)]
   .rintro σ H1 ⟨r4,S1,Z,rfl,e1,Y,hS1⟩;rw[hyl,List.take_length,<-Ql]at hS1;obtain⟨sl,sb⟩:=sizes t.bs.length;rw[List.take_length,<-Ql]at sl sb;have hR1:=e1.lst T.at_ hR;have hrw1:=O.but e1 T.at_;refine⟨_,rfl,R,rfl,⟨_,Al.of hR1⟩,fun D hD=>IA (n:=rvs.length) (fun j us H'=>AJ H1 H'/\us=((Eo rows t).take j).map V.int) ?_ ?_ ?_⟩
    .exact⟨Ac hD _,by rw[List.take_zero];rfl⟩
    .rintro j us H3 hj ⟨g,rfl⟩ I;have hj':j<rows.length:=by rw[<-O.1];exact hj
     have U:=aN hj';generalize rows[j]=row at U;have hrm:=aW U;obtain⟨pr,g1,g2⟩:=hrw1.2 j row U;have hR3:=g _ _ hR1;refine⟨⟨_,_,Al.of hR3,g1⟩,KW (by have:=ro.len;rw[List.length_map,List.length_take,Lo];lia),fun x H' y=>?_⟩;obtain⟨rfl,y⟩:=y;have hx:=y _ (Al.of hR3);rw[g1]at hx;cases hx;unfold JO;obtain⟨M,b1,b2,_⟩:=ro.big;refine ME ⟨_,rfl,_,rfl,pr,S1,row,_,c*t.Ae,rfl,g _ _ g2,g _ _ hS1,?_,?_,DO.size t ht,?_,sb,fun H4 e4=>?_⟩
     .rw[sl];exact ro.one row hrm
     .have:=ro.one row hrm;have:=ro.len;lia
     .refine(b1 row hrm).mono (aR b2 (bG (by decide) ?_));have:=Tr.Df t;exact Nat.le_mul_of_pos_right c this
     .refine⟨e4 _ _ I,GF hj ⟨fun c o z=>?_,?_⟩⟩
      .rw[AL (AU z hD)];exact e4 _ _ (g _ _ z)
      .have:(Eo rows t)[j]? = some (Uu row (Oi rows t (Ej rows.length))):=by unfold Eo;rw[List.getElem?_map,U];rfl
       rw[List.take_add_one,this,List.map_append]
       rfl
    .rintro us H3 ⟨g,rfl⟩ I;rw[List.take_of_length_le (by rw[Lo,O.1];exact aH _)]at I;have me3:=Y.same g;have hDW:D≠W:=fun z=>by
      obtain⟨o,hw⟩:=hWs e1 Y;rw[<-z,hD]at hw;cases hw
     have tv3:Tv H3 t (.ref a):=⟨a,ys,rfl,g _ _ (e1.A0 T.at_ _ _ ha),(hts.A0 (e1.A0 T.at_)).same g⟩;refine⟨⟨_,Al.of (g _ _ hR1),Nat.le_refl _⟩,_,rfl,_,rfl,d,Z,some t,rfl,⟨DO.deep t ht,tv3⟩,me3.ok DO ht,Nat.le_trans me3.len DO.len,?_⟩;generalize h4:upd H3 d (dN d (Fz Z (some t) (.ref a) (.ref D)))=H4;obtain⟨b4,me4,l4⟩:=me3.put ht tv3 I hDW h4.symm;have tv4:=tv3.A0 (b4.A0 me3.at_);have key4:Ip H4 (some t) (.ref a):=⟨DO.deep t ht,tv4⟩;obtain⟨q',hq',hv⟩:∃q',(Fz Z (some t) (.ref a) (.ref D)).find? (fun q=>decide (q.1=some t))=some q'/\∃l,q'.2.2=.ref l/\H4 l=some (.lst ((Eo rows t).map V.int)):=by
      obtain⟨q',hq'⟩:=eA Z (some t) (.ref a) (.ref D);obtain⟨hm,hk⟩:=find_key hq';obtain⟨u,l,h1,h2,h3,h4,h5,_⟩:=me4.all q' hm;rw[hk]at h1;cases h1;exact⟨q',hq',l,h4,h5⟩
     obtain⟨l,hv,hl⟩:=hv;refine⟨_,rfl,_,rfl,d,_,some t,q',rfl,key4,me4.ok DO ht,hq',?_⟩;rw[hv];exact q H4 _ l ((e1.trans (.of g)).trans b4) me4 hl
end
def FN(r:rp):rd:=r.map fun q=>(q.den:Int)
def HV(t:Tb)(i:Nat):rd:=FN t.ls++((t.rs.take i).map FN).flatten
def E1(t:Tb):Int:=HY (HV t t.rs.length)
def Tb.Fits(t:Tb)(n:Nat):Prop:=(∀r∈t.rs,∀q∈r,FM.Fits q n)/\∀q∈t.ls,FM.Fits q n
def RL{t:Tb}{i:Nat}{r:rp}(h:t.rs[i]? = some r):HV t (i+1)=HV t i++FN r:=by
 unfold HV;rw[List.take_add_one,h,List.map_append,List.flatten_append,List.append_assoc];simp
def Kt{t:Tb}{m:Nat}(o:t.Ok m):∀i,i<=t.rs.length->(HV t i).length<=t.rs.length+t.rs.length*i
 |0,_=>by unfold HV FN;simp[o.last]
 |i+1,h=>by
  have g:=aN (l:=t.rs) (i:=i) (by lia);have:=Kt o i (by lia);rw[RL g,List.length_append,show(FN t.rs[i]).length=t.rs[i].length from bN _,o.row i _ g,Nat.mul_succ]
  lia
def TQ{t:Tb}{n:Nat}(h:t.Fits n)(i:Nat):∀b∈HV t i,1<=b/\b.natAbs<2^n:=fun b hb=>by
 unfold HV at hb;rcases bS.mp hb with hb|hb
 .exact WK h.2 b hb
 .obtain⟨l,I,hb⟩:=List.mem_flatten.mp hb;obtain⟨r,g,rfl⟩:=aT.mp I;exact WK (h.1 r (List.mem_of_mem_take g)) b hb
def je:Sp:=fun vs H Q _=>∃(v:V) (t:Tb) (m n:Nat),vs=[v]/\DU H (Aq t) v/\t.Ok m/\m<=40/\t.Fits n/\n*(m+m*m)<=4000/\∀H',AJ H H'->Q (.int (E1 t)) H'
section
variable{P:Program}{w:World}{K:Fg}{mg:rW}{base:Heap}{f g1 g2:AD}{fd gd1:FuncData}
def QI:AZ ["table","bottoms","row"] ["table"] (AM Ho):=B5
def Qt(F:Fn K mg "table_bottom" Ho ["table"] f fd)(Fq:Fn K mg "common_bottom" Hd ["bottoms"] g1 gd1) (RA:AI P w K mg base Aa 2 g1 gd1 ["bottoms"] bz):AI P w K mg base Aa 3 f fd ["table"] je:=by
 have sc:=QI;refine F.F.ok (k:=2) sc (fun vs H Q E h=>?_) (fun cdv A outer s H vs Q E g h=>?_)
 .obtain⟨v,t,m,n,rfl,_⟩:=h
  rfl
 obtain⟨v,t,m,n,rfl,dt,ot,hm,ft,hnm,q⟩:=h;obtain⟨p,R,L,xs,ys,rfl,hp,hR,dR,hL,dL⟩:=dt.tab;have hyl:ys.length=t.ls.length:=by rw[dL.len,FI]
 have hxl:xs.length=t.rs.length:=by rw[dR.len,Gn]
 have h1:=ot.most;have h2:=ot.last;refine⟨_,(AX (O0 (i:=1) [".0","part"] 1 [none,none] sc.nd rfl rfl (Fe (IJ Li (pv 0) Ar (fun _ _=>rfl))) (fun _ _ _ _ _=>F7) (fun _ _ _ _ _=>(IJ OG (pv 1) Ar (fun _ _=>rfl))))
 (AX (IP aQ rfl (Fe (IJ Li (pv 0) Ar (fun _ _=>rfl))) (BJ (i:=2) sc.nd rfl (Or.inl rfl))
  (A3 (DJ (HJ aa PySem.F.slot_list_extend PySem.F.type_list_extend NG (pv 1) (AK (Hv [".0","part"] 1 [none,none] (Fe (pv 2)) (fun _ _ _ _ _=>F7) (fun _ _ _ _ _=>(IJ OG (pv 1) Ar (fun _ _=>rfl)))) AY)))))
 (A3 (Ca (Cu Fq RA g rfl (AK (pv 1) AY)))))),?_⟩
 refine⟨_,rfl,_,_,_,_,rfl,rfl,BC.of hp,rfl,L,rfl,⟨_,Al.of hL⟩,fun Z hZ=>IA (n:=ys.length) (fun i us H'=>AJ H H'/\us=(FN (t.ls.take i)).map V.int) ⟨Ac hZ _,rfl⟩ ?_ ?_⟩
 .rintro i us H1 hi ⟨Y,rfl⟩ hD1;have g:t.ls[i]? = some (t.ls[i]'(by lia)):=aN _;obtain⟨p,O,I⟩:=JN dL g;generalize t.ls[i]'(by lia)=r at g I;refine⟨⟨ys,.ref p,Al.of (Y _ _ hL),O⟩,PU (n:=60) (by unfold FN;simp;lia) (by decide),fun x H' y=>?_⟩;obtain⟨rfl,y⟩:=y;have hx:=y ys (Al.of (Y _ _ hL));rw[O]at hx;cases hx;unfold JO;refine ME ⟨_,rfl,_,_,_,_,rfl,rfl,BC.of (Y _ _ I),rfl,hD1,GF hi ⟨fun b o z=>?_,?_⟩⟩
  .rw[AL (AU z hZ)];exact Y _ _ z
  .rw[List.take_add_one,g,FN,FN,List.map_append,List.map_append]
   rfl
 rintro us H1 ⟨Y,rfl⟩ hZ1;rw[hyl,List.take_length]at hZ1;refine⟨⟨ys,Al.of (Y _ _ hL),Nat.le_refl _⟩,?_⟩;refine⟨_,rfl,_,_,_,_,rfl,rfl,BC.of (Y _ _ hp),rfl,R,rfl,⟨_,Al.of (Y _ _ hR)⟩,Pr (xs:=xs) (fun i σ H'=>∃r2,σ=[some (.ref p),some (.ref Z),r2]/\AJ H H'/\H' Z=some (.lst ((HV t i).map V.int))) ?_ ?_ ?_ ?_⟩
 .exact⟨_,rfl,Y,by rw[hZ1];unfold HV;simp⟩
 .rintro i σ H' _ ⟨r2,rfl,e,_⟩;exact Al.of (e _ _ hR)
 .rintro i x σ H2 hx ⟨r2,rfl,e2,T⟩;have hi:i<t.rs.length:=by rw[<-hxl];exact(aG.mp hx).1
  have g:t.rs[i]? = some t.rs[i]:=aN hi;have hrl:=ot.row _ _ g;obtain⟨a,zs,g1,g2,dz⟩:=L9 dR g;generalize t.rs[i]=row at g dz hrl;rw[hx]at g1;cases g1;have hzl:zs.length=row.length:=by rw[dz.len,FI]
  refine⟨_,rfl,.inl ⟨rfl,_,Al.of T⟩,_,rfl,a,rfl,⟨_,Al.of (e2 _ _ g2)⟩,fun D hD=>IA (n:=zs.length) (fun j ys H'=>AJ H2 H'/\ys=(FN (row.take j)).map V.int) ⟨Ac hD _,rfl⟩ ?_ ?_⟩
  .rintro j us H3 hj ⟨e3,rfl⟩ U;have E3:=e2.trans e3;have g:row[j]? = some (row[j]'(by lia)):=aN _;obtain⟨p,O,I⟩:=JN dz g;generalize row[j]'(by lia)=r at g I;refine⟨⟨zs,.ref p,Al.of (E3 _ _ g2),O⟩,PU (n:=60) (by unfold FN;simp;lia) (by decide),fun x H' y=>?_⟩;obtain⟨rfl,y⟩:=y;have hx:=y zs (Al.of (E3 _ _ g2));rw[O]at hx;cases hx;unfold JO;refine ME ⟨_,rfl,_,_,_,_,rfl,rfl,BC.of (E3 _ _ I),rfl,U,GF hj ⟨fun b o z=>?_,?_⟩⟩
   .rw[AL (AU z hD)];exact e3 _ _ z
   .rw[List.take_add_one,g,FN,FN,List.map_append,List.map_append]
    rfl
  .rintro us H3 ⟨e3,rfl⟩ U;have E3:=e2.trans e3;rw[hzl,List.take_length]at U;refine⟨⟨zs,Al.of (E3 _ _ g2),Nat.le_refl _⟩,Z,D,_,_,rfl,rfl,e3 _ _ T,U,?_,_,rfl,fun b o z=>?_,?_⟩
   .have:=Kt ot i (by lia);rw[List.length_map,List.length_map,show(FN row).length=row.length from bN _];have h40:t.rs.length*i<=40*40:=Nat.mul_le_mul (by lia) (by lia);exact aR (show _<=2000 by lia) (by rw[sizeLine_eq];decide)
   .rw[AL (AU z hZ)];exact e3 _ _ (e2 _ _ z)
   .rw[AN,RL g,List.map_append]
 .rintro σ H2 ⟨r2,rfl,e2,T⟩;rw[hxl]at T;refine⟨_,rfl,Z,_,n,rfl,T,TQ ft _,?_,q H2 e2⟩;have:=Kt ot _ (aH _);have h3:t.rs.length*t.rs.length<=m*m:=Nat.mul_le_mul h1 h1;exact aR (ao n (by lia)) hnm
end
def Fm(t:Tb):List rd:=(t.rs++[t.ls]).map fun r=>JM r (E1 t)
def Jq(t:Tb)(u:Tr):Rat:=Rat.divInt ((Eo (Fm t) u).getLast?.getD 0) (E1 t^u.Ae)
def lj:Sp:=fun vs H Q _=>∃v u,vs=[v]/\Tv H u v/\u.deep<8/\u.Ae<=8/\∀H',AJ H H'->Q (.int (u.Ae:Nat)) H'
def df(Dm:rz)(c:Nat):Sp:=fun vs H Q _=>∃(v:V) (t:Tb) (L:AD) (g:List V) (ts:List Tr) (m n k:Nat),vs=[v,.ref L]/\DU H (Aq t) v/\t.Ok m/\m<=40/\t.Fits n/\n*(m+m*m)<=4000/\KL (Fm t) c/\(E1 t).natAbs<2^k/\n+k<=4000/\1<=E1 t /\
 H L=some (.lst g)/\g.length=ts.length/\ts.length<=1000/\(∀(i:Nat) (x:V),g[i]? = some x->∃u,ts[i]? = some u/\Tv H u x/\u∈Dm/\u.Ae<=8/\k*u.Ae<=4000) /\
 ∀D H' I,AJ H H'->H D=none->H' D=some (.lst I)->Bl H' (BF (ts.map (Jq t))) I->Q (.ref D) H'
def Hk(H:Hp)(g:rq)(I:rp):Prop:=g.length=I.length/\∀(i:Nat) (q:Rat),I[i]? = some q->∃p:AD,g[i]? = some (.ref p)/\H p=some (.tup (M7 q))
def Hk.A0{H H':Hp}{g:rq}{I:rp}(h:Hk H g I)(e:Jx H H'):Hk H' g I:=⟨h.1,fun i q hi=>let⟨p,R,O⟩:=h.2 i q hi;⟨p,R,e _ _ O⟩⟩
def Hk.snoc{H:Hp}{I:rq}{g:rp}(h:Hk H I g){p:AD}{q:Rat}(O:H p=some (.tup (M7 q))):Hk H (I++[.ref p]) (g++[q]):=by
 refine⟨by rw[List.length_append,List.length_append,h.1];rfl,fun i r hi=>?_⟩;by_cases z:i<g.length
 .rw[List.getElem?_append_left z]at hi;rw[List.getElem?_append_left (by rw[h.1];exact z)];exact h.2 i r hi
 .rw[List.getElem?_append_right (by lia)]at hi;rw[List.getElem?_append_right (by rw[h.1];lia),h.1];have:i-g.length=0:=by
   have:=(aG.mp hi).1;simp at this
   lia
  rw[this]at hi ⊢;cases hi;exact⟨p,rfl,O⟩
def Hk.XF{H:Hp}:∀ {I:List Rat} {g:List V},Hk H g I->Bl H (BF I) g
 |[],[],_=>.nil
 |[],_::_,h=>by cases h.1
 |_::_,[],h=>by cases h.1
 |q::I,z::g,h=>by
  obtain⟨p,R,O⟩:=h.2 0 q rfl;cases R;refine .cons (VH O) (Hk.XF ⟨by simpa using h.1,fun i r hi=>?_⟩);exact h.2 (i+1) r hi
def f7{xs:rd}(h:1<=xs.length):GW (xs.map V.int) (-1)=some (V.int (xs.getLast?.getD 0)):=by
 have g:xs≠[]:=fun z=>by rw[z]at h;exact absurd h (by decide)
 have e:=List.dropLast_concat_getLast g;rw[<-e,List.map_append,List.getLast?_append];exact cI _ _
def mU{b:Int}(h:1<=b)(k:Nat):b^k≠0:=Int.ne_of_gt (Int.pow_pos h)
def cJ{b:Int}{k p:Nat}(h:b.natAbs<2^k)(hk:k*p<=4000):∃m,m<=9000/\(b^p).natAbs<2^m:=by
 refine⟨k*p+1,by lia,?_⟩;rw[Int.natAbs_pow];refine ai (Nat.pow_le_pow_left (ay h) p) ?_;rw[<-Nat.pow_mul];exact Nat.pow_lt_pow_of_lt (by decide) (by lia)
section
variable{P:Program}{w:World}{K:Fg}{mg:rW}{base:Heap}{f g1 g2 g3 g4 g5 g6:AD}{fd gd1 gd2 gd3 gd4 gd5 gd6:FuncData}
def PZ:AZ ["table","trees","bottom","rows","known","weights","tree"] ["table","trees"] (AM EX):=B5
def PR{Dm:rz}{c:Nat}(DO:Xf Dm c)(F:Fn K mg "weights_under" EX ["table","trees"] f fd)(GK:Fn K mg "table_bottom" Ho ["table"] g1 gd1)(IH:Fn K mg "tops_over" LF ["some","bottom"] g2 gd2) (ER:Fn K mg "readings" MK ["rows","tree","known"] g3 gd3)(JG:Fn K mg "power_of" Ma ["base","power"] g4 gd4)(Az:Fn K mg "knots_within" D9 ["tree"] g5 gd5)(Gh:Fn K mg "fraction_of" Iq ["top","bottom"] g6 gd6) (SI:AI P w K mg base Aa 11 g1 gd1 ["table"] je)(WA:AI P w K mg base Aa 11 g2 gd2 ["some","bottom"] Zk)(MU:AI P w K mg base Aa 11 g3 gd3 ["rows","tree","known"] (ZC Dm c 8))(Xv:AI P w K mg base Aa 11 g4 gd4 ["base","power"] fL) (Ba:AI P w K mg base Aa 11 g5 gd5 ["tree"] lj)(Td:AI P w K mg base Aa 11 g6 gd6 ["top","bottom"] X5):AI P w K mg base Aa 12 f fd ["table","trees"] (df Dm c):=by
 have sc:=PZ;refine F.F.ok (k:=11) sc (fun vs H Q E h=>?_) (fun cdv A outer s H vs Q E hr h=>?_)
 .obtain⟨v,t,L,tvs,ts,m,n,k,rfl,_⟩:=h
  rfl
 obtain⟨v,t,L,tvs,ts,m,n,k,rfl,dt,ot,hm,ft,hnm,ro,hB,hnk,hB1,hL,htl,hts,hall,q⟩:=h;have o1:=ot.most;have o2:=ot.last;have o3:=ot.one;refine⟨_,(AX (A8 (i:=2) sc.nd rfl (Or.inr rfl) (Cu GK SI hr rfl (AK (pv 0) AY)))
 (AX (O0 (i:=3) [".0","row","bottom"] 1 [none,none,some 2] sc.nd rfl rfl (Fe (BO Zd (IJ Li (pv 0) Ar (fun _ _=>rfl)) (FX (AK (IJ Li (pv 0) Ar (fun _ _=>rfl)) AY)))) (fun _ _ _ _ _=>F7) (fun _ _ _ _ _=>(Cu IH WA hr rfl (AK (pv 1) (AK (pv 2) AY)))))
 (AX (A8 (i:=4) sc.nd rfl (Or.inl rfl) cn)
 (AX (A8 (i:=5) sc.nd rfl (Or.inl rfl) (FX AY))
 (AX (IP aQ rfl (Fe (pv 1)) (BJ (i:=6) sc.nd rfl (Or.inl rfl))
  (A3 (DJ (HJ aa az bA FH (pv 5) (AK (Cu Gh Td hr rfl (AK (IJ XD (Cu ER MU hr rfl (AK (pv 3) (AK (pv 6) (AK (pv 4) AY)))) (YH UY Ar) (fun _ _=>rfl)) (AK (Cu JG Xv hr rfl (AK (pv 2) (AK (Cu Az Ba hr rfl (AK (pv 6) AY)) AY))) AY))) AY)))))
 (A3 (Ca (pv 5)))))))),?_⟩
 refine⟨_,rfl,v,t,m,n,rfl,dt,ot,hm,ft,hnm,fun H1 e1=>?_⟩;obtain⟨p,R,O,xs,ys,rfl,hp,hR,dR,hL',dL⟩:=(dt.same e1).tab;have hxl:xs.length=t.rs.length:=by rw[dR.len,Gn]
 refine⟨_,rfl,_,_,_,_,rfl,rfl,BC.of hp,rfl,_,rfl,_,_,_,_,rfl,rfl,BC.of hp,rfl,(by show 1<=sizeLine;decide),fun q1 hq1=>?_⟩;have e2:=Ac hq1 (.lst [V.ref O]);have h2:upd H1 q1 (.lst [V.ref O]) q1=some (.lst [V.ref O]):=AN;generalize upd H1 q1 (.lst [V.ref O])=H2 at e2 h2;refine⟨R,q1,_,_,rfl,rfl,e2 _ _ hR,h2,nH (by simp;lia),fun C0 hC0=>?_⟩;have e3:=Ac hC0 (.lst (xs++[V.ref O]));have h3:upd H2 C0 (.lst (xs++[V.ref O])) C0=some (.lst (xs++[V.ref O])):=AN;generalize upd H2 C0 (.lst (xs++[V.ref O]))=H3 at e3 h3;have E3:=(e1.trans e2).trans e3;have E13:=e2.trans e3;have get:∀(i:Nat) (row:List Rat),(t.rs++[t.ls])[i]? = some row->∃(a:AD) (I:List V),(xs++[V.ref O])[i]? = some (.ref a)/\H3 a=some (.lst I)/\Bl H3 (BF row) I/\row.length<=50/\∀q∈row,FM.Fits q n:=fun i row hi=>by
  by_cases z:i<t.rs.length
  .rw[List.getElem?_append_left z]at hi;rw[List.getElem?_append_left (by lia)];obtain⟨a,I,g1,g2,g3⟩:=L9 dR hi;exact⟨a,I,g1,E13 _ _ g2,g3.same E13,by rw[ot.row i row hi];lia,ft.1 row (aW hi)⟩
  .rw[List.getElem?_append_right (by lia)]at hi;have:i-t.rs.length=0:=by
    have:=(aG.mp hi).1;simp at this
    lia
   rw[this]at hi;cases hi;rw[List.getElem?_append_right (by lia),hxl,this];exact⟨O,ys,rfl,E13 _ _ hL',dL.same E13,by lia,ft.2⟩
 have hal:(t.rs++[t.ls]).length=(xs++[V.ref O]).length:=by rw[List.length_append,List.length_append,hxl];rfl
 have hal60:(xs++[V.ref O]).length<60:=by rw[List.length_append,hxl];simp;lia
 refine⟨C0,rfl,⟨_,Al.of h3⟩,fun D hD=>IA (n:=(xs++[V.ref O]).length) (fun i us H'=>AJ H3 H'/\us.length=i/\∀(j:Nat) (row:List Rat),j<i->(t.rs++[t.ls])[j]? = some row->∃a:AD,us[j]? = some (.ref a)/\H' a=some (.lst ((JM row (E1 t)).map V.int))/\a≠D) ?_ ?_ ?_⟩
 .exact⟨Ac hD _,rfl,fun j row hj=>absurd hj (ak _)⟩
 .rintro i us H4 hi ⟨e4,hul,hus⟩ hD4;have hr:(t.rs++[t.ls])[i]? = some ((t.rs++[t.ls])[i]'(by lia)):=aN _;generalize (t.rs++[t.ls])[i]'(by lia)=row at hr;obtain⟨a,I,g1,g2,g3,g4,g5⟩:=get i row hr;refine⟨⟨_,.ref a,Al.of (e4 _ _ h3),g1⟩,PU (n:=60) (by lia) (by decide),fun x H' y=>?_⟩;obtain⟨rfl,y⟩:=y;have hx:=y _ (Al.of (e4 _ _ h3));rw[g1]at hx;cases hx;unfold JO;refine ME ⟨_,rfl,_,rfl,a,I,row,E1 t,n,k,rfl,e4 _ _ g2,g3.same e4,g4,g5,hB,hnk,fun D5 H5 e5 n5 h5=>⟨e5 _ _ hD4,GF hi ⟨fun b o z=>?_,by simp[hul],fun j T hj hr'=>?_⟩⟩⟩
  .rw[AL (AU z hD)];exact e5 _ _ (e4 _ _ z)
  .by_cases z:j<i
   .obtain⟨b,k1,k2,k3⟩:=hus j T z hr';exact⟨b,by rw[List.getElem?_append_left (by lia)];exact k1,by rw[AL k3];exact e5 _ _ k2,k3⟩
   .have:j=i:=by lia
    subst this;rw[hr]at hr';cases hr';have nD:D5≠D:=fun z=>by rw[z,hD4]at n5;cases n5
    exact⟨D5,by rw[List.getElem?_append_right (by lia),hul,Nat.sub_self];rfl,by rw[AL nD];exact h5,nD⟩
 rintro rvs H4 ⟨e4,hul,hus⟩ hD4;refine⟨⟨_,Al.of (e4 _ _ h3),Nat.le_refl _⟩,?_⟩;have E4:=E3.trans e4;have hrw:Sy H4 rvs (Fm t):=by
  refine⟨by rw[hul,<-hal];exact(bN _).symm,fun j row hj=>?_⟩;unfold Fm at hj;rw[List.getElem?_map]at hj;cases hj':(t.rs++[t.ls])[j]? with
  |none=>rw[hj']at hj;cases hj
  |some T=>
   rw[hj']at hj;cases hj;obtain⟨a,k1,k2,_⟩:=hus j T (by rw[<-hal];exact(aG.mp hj').1) hj';exact⟨a,k1,k2⟩
 have hDn:H D=none:=EG E3 hD;refine fun d hd=>?_;have e5:=Ac hd (dN d []);have h5:upd H4 d (dN d []) d=some (dN d []):=AN;generalize upd H4 d (dN d [])=H5 at e5 h5;refine⟨(by show 0<=sizeLine;decide),fun W hW=>?_⟩;have e6:=Ac hW (.lst []);have h6:upd H5 W (.lst []) W=some (.lst []):=AN;generalize upd H5 W (.lst [])=H6 at e6 h6;have hdn:=EG E4 hd;have E5:=E4.trans e5;have hWn:=EG E5 hW;have E6:=E5.trans e6;have hdW:d≠W:=fun z=>by rw[<-z,h5]at hW;cases hW
 have W4:H4 W=none:=EG e5 hW;refine⟨_,rfl,L,rfl,⟨_,Al.of (E6 _ _ hL)⟩,Pr (xs:=tvs) (fun i σ H'=>∃(r6:Option V) (ρ:List KR) (I:List V),σ=[some (.ref p),some (.ref L),some (.int (E1 t)),some (.ref D),some (.ref d),some (.ref W),r6]/\AJ H4 H'/\Memo Dm (Fm t) W H' d ρ/\H' W=some (.lst I)/\Hk H' I ((ts.take i).map (Jq t))) ?_ ?_ ?_ ?_⟩
 .refine⟨_,[],[],rfl,e5.trans e6,⟨e6 _ _ h5,.nil,fun q hq=>by cases hq⟩,h6,rfl,fun i q hi=>by cases hi⟩
 .rintro i σ H' _ ⟨r6,ρ,I,rfl,e,_⟩;exact Al.of (e _ _ (E4 _ _ hL))
 .rintro i x σ H7 hx ⟨r6,ρ,I,rfl,e7,U,Y,Z⟩;obtain⟨u,hu,tu,hD,h8,hk⟩:=hall i x hx;have E7:=E4.trans e7;refine⟨_,rfl,.inl ⟨rfl,_,Al.of Y⟩,_,rfl,_,rfl,_,rfl,D,rvs,Fm t,x,u,d,ρ,W,rfl,e7 _ _ hD4,hrw.same e7,ro,tu.same E7,hD,DO.deep u hD,⟨_,Y⟩,U,fun H8 ρ8 l e8 me8 hl8=>?_⟩;have tu8:=(tu.same E7).A0 (e8.A0 U.at_);have hW8:=e8.lst U.at_ Y;have fl8:=Z.A0 (e8.A0 U.at_);have hne:(Eo (Fm t) u).length=(t.rs++[t.ls]).length:=(Lo _ _).trans (bN _);have hE8:AJ H4 H8:=fun b o z=>e8 _ _ (fun y=>by rw[y,hd]at z;cases z) (e7 _ _ z);refine⟨_,rfl,_,_,_,_,rfl,rfl,Al.of hl8,f7 (by rw[hne,List.length_append];simp),?_⟩;refine⟨_,rfl,_,rfl,x,u,rfl,tu8,DO.deep u hD,h8,fun H9 e9=>?_⟩;refine⟨E1 t,u.Ae,k,rfl,hB,hk,?_⟩;obtain⟨mb,hmb,hpb⟩:=cJ hB hk;refine⟨_,_,mb,rfl,mU hB1 _,hmb,hpb,fun l' H10 e10 hl10=>?_⟩;have g:=e9.trans e10;refine⟨W,I,.ref l',rfl,rfl,g _ _ hW8,KW ?_,?_⟩
  .rw[Z.1,List.length_map,List.length_take];lia
  .refine⟨_,ρ8,_,rfl,fun b o z=>?_,⟨?_,me8.nd,fun q' hq'=>?_⟩,AN,?_⟩
   .rw[AL (AU z W4)];exact g _ _ (hE8 _ _ z)
   .rw[AL hdW];exact g _ _ me8.at_
   .obtain⟨u',l2,k1,k2,k3,k4,k5,k6⟩:=me8.all q' hq';exact⟨u',l2,k1,k2,(k3.same g).A0 (Jx.upd (g _ _ hW8)),k4,by rw[AL k6];exact g _ _ k5,k6⟩
   .rw[List.take_add_one,hu,List.map_append];refine((fl8.A0 (.of g)).snoc (q:=Jq t u) hl10).A0 (Jx.upd (g _ _ hW8))
 .rintro σ H7 ⟨r6,ρ,I,rfl,e7,U,Y,Z⟩;rw[htl,List.take_length]at Z;exact⟨_,rfl,q W H7 I (E4.trans e7) hWn Y Z.XF⟩
end
section
variable{P:Program}{w:World}{K:Fg}{mg:rW}{base:Heap}{f g:AD}{fd:FuncData}
def UW:AZ ["_law_top","_law_bottom","_law_one","_law_other"] ["_law_top","_law_bottom"] (AM K9):=B5
def Vh(F:Fn K mg "_law_frac" K9 ["_law_top","_law_bottom"] f fd)(Y:mg "abs" = none):AI P w K mg base Aa 1 f fd ["_law_top","_law_bottom"] X5:=by
 have sc:=UW;refine F.F.ok (k:=0) sc (fun vs H Q E h=>?_) (fun cdv A outer s H vs Q E hr h=>?_)
 .obtain⟨t,b,m,rfl,_⟩:=h
  rfl
 obtain⟨t,b,m,rfl,hb,hm,Z,q⟩:=h;refine⟨_,(AX (A8 (i:=2) sc.nd rfl (Or.inl rfl) (Ct L8 rfl Y PyProof.Rows.boot_abs (AK (pv 0) AY)))
 (AX (A8 (i:=3) sc.nd rfl (Or.inl rfl) (Ct L8 rfl Y PyProof.Rows.boot_abs (AK (pv 1) AY)))
 (AX (P6 aQ (Dk QN (pv 3) Ar (Ay _))
  (A3 (lG (i:=2) (j:=3) rfl sc.nd rfl rfl (by decide) rfl rfl (AK (pv 3) (AK (BO Lz (pv 2) (pv 3)) AY)) rfl)))
 (AX (Gi (Dk X4 (pv 1) Ar (Ay _))
  (A3 (A8 (i:=2) sc.nd rfl (Or.inl rfl) (BO VS Ar (pv 2))))
  EL)
 (A3 (Ca (Jn (AK (BO Gq (pv 0) (pv 2)) (AK (BO Gq (pv 1) (pv 2)) AY))))))))),?_⟩
 refine⟨_,rfl,_,rfl,_,rfl,_,rfl,?_⟩;refine P9 (fun σ H'=>∃g l,σ=[some (.int t),some (.int b),some (.int g),some (.int l)]/\H=H'/\Int.gcd g l=Int.gcd t b/\0<=g/\0<=l) (fun σ _=>o9 σ) ?_ ?_ ?_
 .exact⟨_,_,rfl,rfl,FM.Wj t b,FM.abs_nonneg t,FM.abs_nonneg b⟩
 .rintro σ H' ⟨g,l,rfl,rfl,hg,h0,R⟩;refine⟨_,rfl,_,_,rfl,rfl,_,rfl,KJ (fun c=>?_) (fun c=>?_)⟩
  .have T:0<l:=aw c;have O:l≠0:=by lia
   refine⟨_,rfl,_,rfl,_,rfl,_,_,rfl,rfl,O,_,_,rfl,⟨_,_,rfl,rfl,?_,R,FM.fmod_nonneg O R⟩,?_⟩
   .rw[FM.UR];exact hg
   .exact FM.TM g l O
  .have T:¬0<l:=bL (bO.mpr c);have O:l=0:=by lia
   subst O;rw[FM.Zz hg h0]
   try dsimp only[GC]
   refine Pn (fun I H'=>I=[some (.int t),some (.int b),some (.int (FM.gs t b)),some (.int 0)]/\H=H') (fun nx hn=>?_) ?_
   .refine⟨_,rfl,_,_,rfl,rfl,_,rfl,KJ (fun c=>?_) (fun c=>?_)⟩
    .have U:b<0:=aw c;refine⟨_,rfl,_,_,rfl,rfl,hn _ _ ⟨?_,rfl⟩⟩;show [some (V.int t),some (V.int b),some (V.int (0-FM.gi t b)),some (V.int 0)]=_;unfold FM.gs;rw[if_pos U,Int.zero_sub]
    .have U:¬b<0:=bL (bO.mpr c);refine hn _ _ ⟨?_,rfl⟩;unfold FM.gs;rw[if_neg U]
   .rintro I H' ⟨rfl,rfl⟩;have h0:FM.gs t b≠0:=FM.fj hb;have R:(FM.gs t b).natAbs<2^m:=ai (FM.fR hb) Z;refine⟨_,rfl,_,rfl,_,_,rfl,rfl,⟨h0,m,hm,R⟩,_,rfl,_,rfl,_,_,rfl,rfl,⟨h0,m,hm,R⟩,Oj,fun p hp=>?_⟩;refine q p _ (Ac hp _) ?_;rw[AN];show some (HO.tup [V.int (t.fdiv (FM.gs t b)),V.int (b.fdiv (FM.gs t b))])=_;rw[FM.VU hb,FM.UB hb]
    rfl
 .exact fun σ H Q Q' hq ⟨v,e,i,j,e1,e2,k,e3,q⟩=>⟨v,e,i,j,e1,e2,k,e3,hq _ _ q⟩
end
section
variable{P:Program}{w:World}{K:Fg}{mg:rW}{base:Heap}{f:AD}{fd:FuncData}
def QW:AZ ["tree"] ["tree"] (AM D9):=B5
def LW(Aw:MD):DF :=
 (BW (Ax EC (fC (.int 1)) (AV YW (AB (Dl (Cv 1) Gk (AV Aw (AB (nm 1) AG)) [none,none] (EF (nm 0))) AG))))
def Aw:Nat->MD
 |0=>fun _=>none
 |n+1=>C8 ["tree"] ["tree"] (LW (Aw n))
def Kv{k:Nat}(g:Fn K mg "knots_within" D9 ["tree"] f fd)(I:mg "sum" = none):∀n,
  AI P w K mg base Aa (k+n+1) f fd ["tree"] (BH (Aw n))
 |0=>EN fun _ _ _ _ ⟨_,_,_,h,_⟩=>by cases h
 |n+1=>by
  have sc:=QW;have R:=Kv (k:=k) g I n;refine F0 (k:=k+n+1) (F:=LW (Aw n)) g sc fun cdv A outer s H E O=>?_;exact(AO (Av (A7 DH AH (B6 (Z8 rfl) rfl I PyProof.Rows.boot_sum (AA (GD [".0","bough"] 1 [none,none] (Dc (AE (pv 0))) (fun _ _ _ _ _=>G6) (fun _ _ _ _ _=>(Ag g R O rfl (AA (AE (pv 1)) AF)))) AF)))))
def OZ:AZ ["tree","density","bough"] ["tree"] (AM EB):=B5
def KG(Aw:MD)(Ad:MD):DF :=
 (Au (Cy 1 (AV Aw (AB (nm 0) AG)))
 (Au (FV (EF (nm 0)) (GQ 2)
  (Cy 1 (Ax K6 (nm 1) (AV Ad (AB (nm 2) AG)))))
 (BW (nm 1))))
def Ad(Aw:MD):Nat->MD
 |0=>fun _=>none
 |n+1=>C8 ["tree"] ["tree","density","bough"] (KG Aw (Ad Aw n))
def JE{k:Nat}{Aw:MD}(I:Fn K mg "density_within" EB ["tree"] f fd)
 {R:AD}{T:FuncData}(U:Fn K mg "knots_within" D9 ["tree"] R T)(g:AI P w K mg base Aa k R T ["tree"] (BH Aw)):∀n,
  AI P w K mg base Aa (k+n+1) f fd ["tree"] (BH (Ad Aw n))
 |0=>EN fun _ _ _ _ ⟨_,_,_,h,_⟩=>by cases h
 |n+1=>by
  have sc:=OZ;have Y:=JE (k:=k) (Aw:=Aw) I U g n;have g:=g.mono (show k<=k+n+1 by lia);refine F0 (k:=k+n+1) (F:=KG Aw (Ad Aw n)) I sc fun cdv A outer s H E O=>?_;exact(AQ (Bz (i:=1) sc.nd rfl (Or.inl rfl) (Ag U g O rfl (AA (AE (pv 0)) AF)))
 (AQ (EV aQ rfl (Dc (AE (pv 0))) (Eu (BJ (i:=2) sc.nd rfl (Or.inl rfl)))
  (AO (Bz (i:=1) sc.nd rfl (Or.inl rfl) (A7 KZ (AE (pv 1)) (Ag I Y O rfl (AA (AE (pv 2)) AF))))))
 (AO (Av (AE (pv 1))))))
def Hj:AZ ["boughs"] ["boughs"] (AM F5):=B5
def Nd:DF :=
 (BW (AV MC (AB (AV (LX true) (AB (nm 0) AG)) AG)))
def Am:MD:=C8 ["boughs"] ["boughs"] (Nd)
def M3{k:Nat}(F:Fn K mg "in_falling_order" F5 ["boughs"] f fd)(I:mg "sorted" = none)(O:mg "tuple" = none):AI P w K mg base Aa (k+1) f fd ["boughs"] (BH (Am)):=F0 F Hj fun cdv A outer s H E g=>by
 have sc:=Hj;exact(AO (Av (Kr Uj rfl O bH (AA (dM (by have:=g.units;exact this) rfl I (AA (AE (pv 0)) AF) (fun h=>cG (by have:=g.units;exact this) rfl I h)) AF))))
def M4:AZ ["tree","larger","k","bough","grown"] ["tree"] (AM Fy):=B5
def Ia(Am:MD)(A1:MD):DF :=
 (Au (X1 1 (AB (AV Am (AB (Ax EC (nm 0) (BS (AB (BS AG) AG))) AG)) AG))
 (Au (FV (Kf QP (AB (nm 0) AG)) (Vg 2 3)
  (FV (EF (AV A1 (AB (nm 3) AG))) (GQ 4)
   (cR 1 (AV Am (AB (Ax EC (Ax EC (P0 (nm 0) ML (Mb (nm 2))) (BS (AB (nm 4) AG))) (P0 (nm 0) (Mb (Ax EC (nm 2) (fC (.int 1)))) ML)) AG)))))
 (YF 1)))
def A1(Am:MD):Nat->MD
 |0=>fun _=>none
 |n+1=>C8 ["tree"] ["tree","larger","k","bough","grown"] (Ia Am (A1 Am n))
def Hl{k:Nat}{Am:MD}(R:Fn K mg "trees_one_larger" Fy ["tree"] f fd)
 {T:AD}{U:FuncData}(O:Fn K mg "in_falling_order" F5 ["boughs"] T U)(g:AI P w K mg base Aa k T U ["boughs"] (BH Am))(Y:mg "enumerate" = none):∀n,
  AI P w K mg base Aa (k+n+1) f fd ["tree"] (BH (A1 Am n))
 |0=>EN fun _ _ _ _ ⟨_,_,_,h,_⟩=>by cases h
 |n+1=>by
  have sc:=M4;have DY:=Hl (k:=k) (Am:=Am) R O g Y n;have g:=g.mono (show k<=k+n+1 by lia);refine F0 (k:=k+n+1) (F:=Ia Am (A1 Am n)) R sc fun cdv A outer s H E I=>?_;exact(AQ (QG (i:=1) sc.nd rfl (Or.inl rfl) (AA (Ag O g I rfl (AA (A7 DH (AE (pv 0)) (A2 (AA (A2 AF) AF))) AF)) AF))
 (AQ (EV aQ rfl (SK rfl Y (AA (AE (pv 0)) AF)) (VT (NV rfl (Ef (BJ (i:=2) sc.nd rfl (Or.inl rfl)) (Ef (BJ (i:=3) sc.nd rfl (Or.inl rfl)) LK))))
  (AO (EV aQ rfl (Dc (Ag R DY I rfl (AA (AE (pv 3)) AF))) (Eu (BJ (i:=4) sc.nd rfl (Or.inl rfl)))
   (AO (SW (pv 1) (Ag O g I rfl (AA (A7 DH (A7 DH (Hr (AE (pv 0)) Jd (JZ (AE (pv 2)))) (A2 (AA (AE (pv 4)) AF))) (Hr (AE (pv 0)) (JZ (A7 DH (AE (pv 2)) AH)) Jd)) AF)) (fun Z ha=>DJ (HJ aa az bA FH Z ha)))))))
 (AO (WH (pv 1)))))
def PM:AZ ["many","trees","knots","larger","tree"] ["many"] (AM MN):=B5
def X2(A1:MD)(g:AD):FZ :=
 (Ih (TK (HA (CS (Fi fun i j=>decide (i<j)) (nm 0) (fC (.int 1))) (CS (Fi fun i j=>decide (j<i)) (nm 0) (fC (.int 7))))
  (Lj g (fC (.str (Str.ofString "trees are listed for 1 to 7 knots"))))
  (fun δ=>some (.inl (.nx δ))))
 (W5 (Au (Cy 1 (B7 (AB (BS AG) AG)))
 (Au (FV (Kf Xa (AB (fC (.int 1)) (AB (nm 0) AG))) (GQ 2)
  (Au (X1 3 AG)
  (Au (FV (EF (nm 1)) (GQ 4)
   (jX 3 (AV A1 (AB (nm 4) AG))))
  (kW 3 (Cy 1 (fun δ=>((nm 3) δ).bind Ph))))))
 (BW (nm 1))))))
def Dz(A1:MD)(g:AD):rN:=Fj ["many"] ["many","trees","knots","larger","tree"] (X2 A1 g)
def V0{k:Nat}{A1:MD}{I:AD}(F:Fn K mg "trees_of" MN ["many"] f fd) {T:AD}{U:FuncData}(Bn:Fn K mg "trees_one_larger" Fy ["tree"] T U)(DY:AI P w K mg base Aa k T U ["tree"] (BH A1))(Cb:mg "range" = none)(Z:mg "set" = none)(Cr:mg "sorted" = none){g:Tok}(Ep:mg "MOST_KNOTS" = some (.int 7 g))(O:Exc K mg "TooMany" I):AI P w K mg base (CD P w) (k+1) f fd ["many"] (FE (Dz A1 I)):=NR F PM fun cdv A outer s H E R=>by
 have sc:=PM;exact(ID (RI (DW.dt (EW (Bm Tz (AE (pv 0)) AH (Ay _)) (Dg (Bm OM (AE (pv 0)) (P4 rfl Ep) (Ay _)))))
  (Ff (by exact Ji O Q9 Na))
  Le)
 (Qn (AQ (Bz (i:=1) sc.nd rfl (Or.inl rfl) (BM (AA (A2 AF) AF)))
 (AQ (EV aQ rfl (TN rfl Cb (AA AH (AA (AE (pv 0)) AF))) (Eu (BJ (i:=2) sc.nd rfl (Or.inl rfl)))
  (AQ (QG (i:=3) sc.nd rfl (Or.inl rfl) AF)
  (AQ (EV aQ rfl (Dc (AE (pv 1))) (Eu (BJ (i:=4) sc.nd rfl (Or.inl rfl)))
   (AO (TY (pv 3) (Ag Bn DY R rfl (AA (AE (pv 4)) AF)) (fun Y ha=>DJ (HJ aa PySem.F.slot_list_extend PySem.F.type_list_extend NG Y ha)))))
  (AO (ZG 3 (Bz (i:=1) sc.nd rfl (Or.inl rfl) (YZ rfl (by have:=R.units;exact this) rfl Cr rfl Z (AE (pv 3)))))))))
 (AO (Av (AE (pv 1))))))))
def Om:AZ ["most","trees","many"] ["most"] (AM GG):=B5
def Qu(Dz:rN)(g:AD):FZ :=
 (Ih (TK (HA (CS (Fi fun i j=>decide (i<j)) (nm 0) (fC (.int 0))) (CS (Fi fun i j=>decide (j<i)) (nm 0) (fC (.int 7))))
  (Lj g (fC (.str (Str.ofString "trees are listed up to 0 to 7 knots"))))
  (fun δ=>some (.inl (.nx δ))))
 (W5 (Au (X1 1 AG)
 (Au (FV (Kf Xa (AB (fC (.int 1)) (AB (Ax EC (nm 0) (fC (.int 1))) AG))) (GQ 2)
  (jX 1 (AV (good Dz) (AB (nm 2) AG))))
 (YF 1)))))
def Aj(Dz:rN)(g:AD):rN:=Fj ["most"] ["most","trees","many"] (Qu Dz g)
def Vt{k:Nat}{Dz:rN}{I:AD}(F:Fn K mg "trees_to" GG ["most"] f fd) {R:AD}{T:FuncData}(JJ:Fn K mg "trees_of" MN ["many"] R T)(Z:AI P w K mg base (CD P w) k R T ["many"] (FE Dz))(Cb:mg "range" = none){g:Tok}(Ep:mg "MOST_KNOTS" = some (.int 7 g))(O:Exc K mg "TooMany" I):AI P w K mg base (CD P w) (k+1) f fd ["most"] (FE (Aj Dz I)):=NR F Om fun cdv A outer s H E U=>by
 have sc:=Om;exact(ID (RI (DW.dt (EW (Bm Tz (AE (pv 0)) AH (Ay _)) (Dg (Bm OM (AE (pv 0)) (P4 rfl Ep) (Ay _)))))
  (Ff (by exact Ji O Q9 Na))
  Le)
 (Qn (AQ (QG (i:=1) sc.nd rfl (Or.inl rfl) AF)
 (AQ (EV aQ rfl (TN rfl Cb (AA AH (AA (A7 DH (AE (pv 0)) AH) AF))) (Eu (BJ (i:=2) sc.nd rfl (Or.inl rfl)))
  (AO (TY (pv 1) (Ag JJ (OJ Z) U rfl (AA (AE (pv 2)) AF)) (fun Y ha=>DJ (HJ aa PySem.F.slot_list_extend PySem.F.type_list_extend NG Y ha)))))
 (AO (WH (pv 1)))))))
def IY:AZ ["thing"] ["thing"] (AM Ds):=B5
def Iz(D0:MD)(g:AD):FZ :=
 (TK (Eg (Dw (AV D0 (AB (nm 0) AG))))
  (Lj g (fC (.str (Str.ofString "a table is a tuple of rows, the k-th of k fractions, and a last of as many as there are rows"))))
  (fun δ=>some (.inl (.nx δ))))
def AW(D0:MD)(g:AD):rN:=Fj ["thing"] ["thing"] (Iz D0 g)
def M6{k:Nat}{D0:MD}{g:AD}(F:Fn K mg "refuse_no_table" Ds ["thing"] f fd) {O:AD}{R:FuncData}(Y:Fn K mg "is_table" MF ["thing"] O R)(U:AI P w K mg base Aa k O R ["thing"] (BH D0))(I:Exc K mg "NoTable" g):AI P w K mg base (CD P w) (k+1) f fd ["thing"] (FE (AW D0 g)):=NR F IY fun cdv A outer s H E T=>by
 have sc:=IY;exact(Ff (RI (Cf (CF (Ag Y U T rfl (AA (AE (pv 0)) AF))))
  (Ff (by exact Ji I Q9 Na))
  Le))
def JB:AZ ["thing"] ["thing"] (AM Gs):=B5
def J6(Ce:MD)(g:AD):FZ :=
 (TK (Eg (Dw (AV Ce (AB (nm 0) AG))))
  (Lj g (fC (.str (Str.ofString "a tree is told by the tuple of its boughs in falling order"))))
  (fun δ=>some (.inl (.nx δ))))
def Bp(Ce:MD)(g:AD):rN:=Fj ["thing"] ["thing"] (J6 Ce g)
def Oa{k:Nat}{Ce:MD}{g:AD}(F:Fn K mg "refuse_no_tree" Gs ["thing"] f fd) {O:AD}{R:FuncData}(Y:Fn K mg "is_tree" NM ["thing"] O R)(U:AI P w K mg base Aa k O R ["thing"] (BH Ce))(I:Exc K mg "NoTree" g):AI P w K mg base (CD P w) (k+1) f fd ["thing"] (FE (Bp Ce g)):=NR F JB fun cdv A outer s H E T=>by
 have sc:=JB;exact(Ff (RI (Cf (CF (Ag Y U T rfl (AA (AE (pv 0)) AF))))
  (Ff (by exact Ji I Q9 Na))
  Le))
def Kq:AZ ["table","tree"] ["table","tree"] (AM IB):=B5
def Lw(AW:rN)(Bp:rN)(g:MD):FZ :=
 (Ih (OP AW (AB (nm 0) AG) fun _ δ=>.nx δ)
 (Ih (OP Bp (AB (nm 1) AG) fun _ δ=>.nx δ)
 (W5 (BW (Ax Ge (AV g (AB (nm 0) (AB (B7 (AB (nm 1) AG)) AG))) (fC (.int 0)))))))
def CC(AW:rN)(Bp:rN)(g:MD):rN:=Fj ["table","tree"] ["table","tree"] (Lw AW Bp g)
def QY{k:Nat}{AW:rN}{Bp:rN}{Z:MD}(F:Fn K mg "table_weight" IB ["table","tree"] f fd) {T:AD}{U:FuncData}(BU:Fn K mg "refuse_no_table" Ds ["thing"] T U)(Be:AI P w K mg base (CD P w) k T U ["thing"] (FE AW)) {I:AD}{O:FuncData}(FP:Fn K mg "refuse_no_tree" Gs ["thing"] I O)(Gp:AI P w K mg base (CD P w) k I O ["thing"] (FE Bp)) {R:AD}{Y:FuncData}(Bi:Fn K mg "weights_under" EX ["table","trees"] R Y)(CI:AI P w K mg base Aa k R Y ["table","trees"] (BH Z)):AI P w K mg base (CD P w) (k+1) f fd ["table","tree"] (FE (CC AW Bp Z)):=NR F Kq fun cdv A outer s H E g=>by
 have sc:=Kq;exact(ID (by exact OS BU Be g Ki (by exact(AA (AE (pv 0)) AF)) (fun h=>DJ h))
 (ID (by exact OS FP Gp g Ki (by exact(AA (AE (pv 1)) AF)) (fun h=>DJ h))
 (Qn (AO (Av (Ek (Ag Bi CI g rfl (AA (AE (pv 0)) (AA (BM (AA (AE (pv 1)) AF)) AF))) AH (fun _ _=>rfl)))))))
def Iy:AZ ["table","most"] ["table","most"] (AM DL):=B5
def Jo(AW:rN)(Aj:rN)(I:MD):FZ :=
 (Ih (OP AW (AB (nm 0) AG) fun _ δ=>.nx δ)
 (xE (Ka (JS (lg (nm 0)) (JS (Ka (Wz (AB (nm 1) AG)) Aj) (Wz AG))) fun g=>(I g).map .inl) fun x _=>.rt x))
def Ak(AW:rN)(Aj:rN)(g:MD):rN:=Fj ["table","most"] ["table","most"] (Jo AW Aj g)
def Ob{k:Nat}{AW:rN}{Aj:rN}{Z:MD}(F:Fn K mg "table_weighing" DL ["table","most"] f fd) {T:AD}{U:FuncData}(BU:Fn K mg "refuse_no_table" Ds ["thing"] T U)(Be:AI P w K mg base (CD P w) k T U ["thing"] (FE AW)) {I:AD}{O:FuncData}(CB:Fn K mg "trees_to" GG ["most"] I O)(CP:AI P w K mg base (CD P w) k I O ["most"] (FE Aj)) {R:AD}{Y:FuncData}(Bi:Fn K mg "weights_under" EX ["table","trees"] R Y)(CI:AI P w K mg base Aa k R Y ["table","trees"] (BH Z)):AI P w K mg base (CD P w) (k+1) f fd ["table","most"] (FE (Ak AW Aj Z)):=NR F Iy fun cdv A outer s H E g=>by
 have sc:=Iy;exact(ID (by exact OS BU Be g Ki (by exact(AA (AE (pv 0)) AF)) (fun h=>DJ h))
 (Ff (by exact We (MO Bi (fU CI) g Ki (Pl (l6 (AE (pv 0))) (Pl (MO CB CP g Ki (Qj (by exact(AA (AE (pv 1)) AF)))) (Qj (by exact AF))))))))
def G8:AZ ["thing"] ["thing"] (AM FR):=B5
def HG(Ab:MD)(g:AD):FZ :=
 (TK (HA (Eg (Dw (AV Ab (AB (nm 0) AG)))) (Dw (fun δ=>((AV FT (AB (nm 0) AG)) δ).bind (eY true [0,1,2,4,8,17,37,85]))))
  (Lj g (fC (.str (Str.ofString "a weighing is a list of a fraction for each tree of at most 0 to 7 knots"))))
  (fun δ=>some (.inl (.nx δ))))
def BN(Ab:MD)(g:AD):rN:=Fj ["thing"] ["thing"] (HG Ab g)
def Lp{k:Nat}{Ab:MD}{O:AD}(F:Fn K mg "refuse_no_weighing" FR ["thing"] f fd) {T:AD}{U:FuncData}(Bk:Fn K mg "are_fractions" EZ ["thing"] T U)(B0:AI P w K mg base Aa k T U ["thing"] (BH Ab))(BI:mg "len" = none){g:AD}(Z:mg "WEIGHING_LENGTHS" = some (.ref g))(I:Own K g [0,1,2,4,8,17,37,85])(R:Exc K mg "NoWeighing" O):AI P w K mg base (CD P w) (k+1) f fd ["thing"] (FE (BN Ab O)):=NR F G8 fun cdv A outer s H E Y=>by
 have sc:=G8;exact(Ff (RI (DW.dt (EW (Cf (CF (Ag Bk B0 Y rfl (AA (AE (pv 0)) AF)))) (Dg (jc U4 (B6 Ea rfl BI aZ (AA (AE (pv 0)) AF)) rfl Z I))))
  (Ff (by exact Ji R Q9 Na))
  Le))
def Iw:AZ ["weighing"] ["weighing"] (AM Gv):=B5
def KU(BN:rN):FZ :=
 (Ih (OP BN (AB (nm 0) AG) fun _ δ=>.nx δ)
 (W5 (BW (fun δ=>((AV FT (AB (nm 0) AG)) δ).bind (ZK [0,1,2,4,8,17,37,85])))))
def Bq(BN:rN):rN:=Fj ["weighing"] ["weighing"] (KU BN)
def OY{k:Nat}{BN:rN}(F:Fn K mg "weighing_reach" Gv ["weighing"] f fd) {O:AD}{R:FuncData}(Y:Fn K mg "refuse_no_weighing" FR ["thing"] O R)(U:AI P w K mg base (CD P w) k O R ["thing"] (FE BN))(BI:mg "len" = none){g:AD}(Z:mg "WEIGHING_LENGTHS" = some (.ref g))(I:Own K g [0,1,2,4,8,17,37,85]):AI P w K mg base (CD P w) (k+1) f fd ["weighing"] (FE (Bq BN)):=NR F Iw fun cdv A outer s H E T=>by
 have sc:=Iw;exact(ID (by exact OS Y U T Ki (by exact(AA (AE (pv 0)) AF)) (fun h=>DJ h))
 (Qn (AO (Av (bg (B6 Ea rfl BI aZ (AA (AE (pv 0)) AF)) rfl Z I)))))
def HL:AZ ["trees"] ["trees"] (AM Cd):=B5
def GB(Ad:MD):DF :=
 (er (IL (Cv 1) Gk (BS (AB (fC (.int 1)) (AB (AV Ad (AB (nm 1) AG)) AG))) [none,none] (EF (nm 0))))
def A5(Ad:MD):MD:=C8 ["trees"] ["trees"] (GB Ad)
def Ku{k:Nat}{Ad:MD} {I:AD}{g:FuncData}(T:Fn K mg "density_within" EB ["tree"] I g)(R:AI P w K mg base Aa k I g ["tree"] (BH Ad))(cdv:VL)(A:Around)(outer:sE)(s:SD)(H:Hp)(E:XK)(O:CG k (A.deeper (PyProof.Rows.envOfC "true_weights" (AM Cd) s.heap.objs.size f cdv))):Lx (Ck Aa P w K mg base ["trees"] "true_weights" (AM Cd) f cdv A outer s H E).GZ (DM Cd) (GB Ad):=by
 have sc:=HL;exact(AO (ie [".0","tree"] 1 [none,none] (Dc (AE (pv 0))) (fun _ _ _ _ _=>G6) (fun _ _ _ _ _=>(A2 (AA AH (AA (Ag T R O rfl (AA (AE (pv 1)) AF)) AF))))))
def Qh{k:Nat}{Ad:MD}(F:Fn K mg "true_weights" Cd ["trees"] f fd) {I:AD}{g:FuncData}(R:Fn K mg "density_within" EB ["tree"] I g)(O:AI P w K mg base Aa k I g ["tree"] (BH Ad)):AI P w K mg base Aa (k+1) f fd ["trees"] (BH (A5 Ad)):=F0 F HL (Ku R O)
def Hy(Ad:MD):RW:=M8 ["trees"] ["trees"] (GB Ad)
def RO{k:Nat}{Ad:MD}(F:Fn K mg "true_weights" Cd ["trees"] f fd) {I:AD}{g:FuncData}(R:Fn K mg "density_within" EB ["tree"] I g)(O:AI P w K mg base Aa k I g ["tree"] (BH Ad)):AI P w K mg base Aa (k+1) f fd ["trees"] (Mn (Hy Ad)):=okN F HL (Ku R O)
def J4:AZ ["most"] ["most"] (AM Dj):=B5
def Kk(Aj:rN)(A5:MD):FZ :=
 (xE (Ka (JS (Ka (Wz (AB (nm 0) AG)) Aj) (Wz AG)) fun g=>(A5 g).map .inl) fun x _=>.rt x)
def Ao(Aj:rN)(A5:MD):rN:=Fj ["most"] ["most"] (Kk Aj A5)
def PN{k:Nat}{Aj:rN}{A5:MD}(F:Fn K mg "true_weighing" Dj ["most"] f fd) {R:AD}{T:FuncData}(CB:Fn K mg "trees_to" GG ["most"] R T)(Z:AI P w K mg base (CD P w) k R T ["most"] (FE Aj)) {I:AD}{O:FuncData}(Y:Fn K mg "true_weights" Cd ["trees"] I O)(U:AI P w K mg base Aa k I O ["trees"] (BH A5)):AI P w K mg base (CD P w) (k+1) f fd ["most"] (FE (Ao Aj A5)):=NR F J4 fun cdv A outer s H E g=>by
 have sc:=J4;exact(Ff (by exact We (MO Y (fU U) g Ki (Pl (MO CB Z g Ki (Qj (by exact(AA (AE (pv 0)) AF)))) (Qj (by exact AF))))))
def Nf:AZ ["_law_script","_law_k","_law_cell_here","_law_number"] ["_law_script","_law_k"] (AM IK):=B5
def K5:DF :=
 (Au (Cy 2 (fC (.int 0)))
 (Au (Fo (CS (Fi fun i j=>decide (i<j)) (nm 1) (AV FT (AB (nm 0) AG)))
  (Cy 2 (Ax Ge (nm 0) (nm 1)))
  DC)
 (Au (Fo (CS (Fi fun i j=>decide (j<=i)) (nm 2) (Ax NU (fC (.int 10)) (fC (.int 18))))
  (BW (Ax HD (Ax VF (nm 2) (Ax NU (fC (.int 10)) (fC (.int 18)))) (Ax NU (fC (.int 10)) (fC (.int 60)))))
  DC)
 (Au (Cy 3 (Ax HD (Ax EC (Ax EC (Ax K6 (nm 2) (fC (.int 48271))) (Ax K6 (nm 1) (fC (.int 69621)))) (fC (.int 11))) (fC (.int 2147483629))))
 (Au (Cy 3 (Ax HD (Ax K6 (nm 3) (nm 3)) (fC (.int 2147483587))))
 (BW (Ax EC (Ax K6 (nm 3) (fC (.int 2147483563))) (Ax HD (Ax K6 (nm 3) (nm 3)) (fC (.int 2147483563))))))))))
def Bg:MD:=C8 ["_law_script","_law_k"] ["_law_script","_law_k","_law_cell_here","_law_number"] (K5)
def U5{k:Nat}(F:Fn K mg "_law_cell" IK ["_law_script","_law_k"] f fd)(g:mg "len" = none):AI P w K mg base Aa (k+1) f fd ["_law_script","_law_k"] (BH (Bg)):=F0 F Nf fun cdv A outer s H E I=>by
 have sc:=Nf;exact(AQ (Bz (i:=2) sc.nd rfl (Or.inl rfl) AH)
 (AQ (DP (Bm Tz (AE (pv 1)) (B6 Ea rfl g aZ (AA (AE (pv 0)) AF)) (Ay _))
  (AO (Bz (i:=2) sc.nd rfl (Or.inl rfl) (Ek (AE (pv 0)) (AE (pv 1)) (fun _ _=>rfl))))
  Bu)
 (AQ (DP (Bm ec (AE (pv 2)) (A7 Ry AH AH) (Ay _))
  (AO (Av (A7 Et (A7 OL (AE (pv 2)) (A7 Ry AH AH)) (A7 Ry AH AH))))
  Bu)
 (AQ (Bz (i:=3) sc.nd rfl (Or.inl rfl) (A7 Et (A7 DH (A7 DH (A7 KZ (AE (pv 2)) AH) (A7 KZ (AE (pv 1)) AH)) AH) AH))
 (AQ (Bz (i:=3) sc.nd rfl (Or.inl rfl) (A7 Et (A7 KZ (AE (pv 3)) (AE (pv 3))) AH))
 (AO (Av (A7 DH (A7 KZ (AE (pv 3)) AH) (A7 Et (A7 KZ (AE (pv 3)) (AE (pv 3))) AH)))))))))
def Mr:AZ ["_law_number"] ["_law_number"] (AM KQ):=B5
def VB:DF :=
 (Au (Fo (CS (EJ false) (Ax HD (nm 0) (fC (.int 5))) (fC (.int 0)))
  (BW (BS (AB (B7 (AB (B7 AG) AG)) (AB (B7 (AB (BS (AB (fC (.int 1)) (AB (fC (.int 1)) AG))) AG)) AG))))
  DC)
 (Au (Fo (CS (EJ false) (Ax HD (nm 0) (fC (.int 5))) (fC (.int 1)))
  (BW (BS (AB (B7 (AB (B7 AG) (AB (B7 (AB (BS (AB (fC (.int 1)) (AB (fC (.int 2)) AG))) AG)) AG))) (AB (B7 (AB (BS (AB (fC (.int 0)) (AB (fC (.int 1)) AG))) (AB (BS (AB (fC (.int 1)) (AB (fC (.int 1)) AG))) AG))) AG))))
  DC)
 (Au (Fo (CS (EJ false) (Ax HD (nm 0) (fC (.int 5))) (fC (.int 2)))
  (BW (BS (AB (B7 (AB (B7 AG) (AB (B7 (AB (BS (AB (fC (.int 1)) (AB (fC (.int 1)) AG))) AG)) AG))) (AB (B7 (AB (BS (AB (fC (.int 1)) (AB (fC (.int 2)) AG))) (AB (BS (AB (fC (.int 1)) (AB (fC (.int 2)) AG))) AG))) AG))))
  DC)
 (Au (Fo (CS (EJ false) (Ax HD (nm 0) (fC (.int 5))) (fC (.int 3)))
  (BW (BS (AB (B7 (AB (B7 AG) (AB (B7 (AB (BS (AB (fC (.int 1)) (AB (fC (.int 3)) AG))) AG)) (AB (B7 (AB (BS (AB (fC (.int 0)) (AB (fC (.int 1)) AG))) (AB (BS (AB (fC (.int 2)) (AB (fC (.int 3)) AG))) AG))) AG)))) (AB (B7 (AB (BS (AB (fC (.int 1)) (AB (fC (.int 4)) AG))) (AB (BS (AB (fC (.int 0)) (AB (fC (.int 1)) AG))) (AB (BS (AB (fC (.int 3)) (AB (fC (.int 4)) AG))) AG)))) AG))))
  DC)
 (BW (BS (AB (B7 (AB (B7 AG) (AB (B7 (AB (BS (AB (fC (.int 1)) (AB (fC (.int 2)) AG))) AG)) (AB (B7 (AB (BS (AB (fC (.int 0)) (AB (fC (.int 1)) AG))) (AB (BS (AB (fC (.int 1)) (AB (fC (.int 2)) AG))) AG))) (AB (B7 (AB (BS (AB (fC (.int 0)) (AB (fC (.int 1)) AG))) (AB (BS (AB (fC (.int 0)) (AB (fC (.int 1)) AG))) (AB (BS (AB (fC (.int 1)) (AB (fC (.int 1)) AG))) AG)))) AG))))) (AB (B7 (AB (BS (AB (fC (.int 1)) (AB (fC (.int 6)) AG))) (AB (BS (AB (fC (.int 1)) (AB (fC (.int 3)) AG))) (AB (BS (AB (fC (.int 1)) (AB (fC (.int 3)) AG))) (AB (BS (AB (fC (.int 1)) (AB (fC (.int 6)) AG))) AG))))) AG))))))))
def Jr:MD:=C8 ["_law_number"] ["_law_number"] (VB)
def Ti{k:Nat}(F:Fn K mg "_law_named" KQ ["_law_number"] f fd):AI P w K mg base Aa (k+1) f fd ["_law_number"] (BH (Jr)):=F0 F Mr fun cdv A outer s H E g=>by
 have sc:=Mr;exact(AQ (DP (Bm (HW (by have:=g.units;exact this)) (A7 Et (AE (pv 0)) AH) AH (Ay _))
  (AO (Av (A2 (AA (BM (AA (BM AF) AF)) (AA (BM (AA (A2 (AA AH (AA AH AF))) AF)) AF)))))
  Bu)
 (AQ (DP (Bm (HW (by have:=g.units;exact this)) (A7 Et (AE (pv 0)) AH) AH (Ay _))
  (AO (Av (A2 (AA (BM (AA (BM AF) (AA (BM (AA (A2 (AA AH (AA AH AF))) AF)) AF))) (AA (BM (AA (A2 (AA AH (AA AH AF))) (AA (A2 (AA AH (AA AH AF))) AF))) AF)))))
  Bu)
 (AQ (DP (Bm (HW (by have:=g.units;exact this)) (A7 Et (AE (pv 0)) AH) AH (Ay _))
  (AO (Av (A2 (AA (BM (AA (BM AF) (AA (BM (AA (A2 (AA AH (AA AH AF))) AF)) AF))) (AA (BM (AA (A2 (AA AH (AA AH AF))) (AA (A2 (AA AH (AA AH AF))) AF))) AF)))))
  Bu)
 (AQ (DP (Bm (HW (by have:=g.units;exact this)) (A7 Et (AE (pv 0)) AH) AH (Ay _))
  (AO (Av (A2 (AA (BM (AA (BM AF) (AA (BM (AA (A2 (AA AH (AA AH AF))) AF)) (AA (BM (AA (A2 (AA AH (AA AH AF))) (AA (A2 (AA AH (AA AH AF))) AF))) AF)))) (AA (BM (AA (A2 (AA AH (AA AH AF))) (AA (A2 (AA AH (AA AH AF))) (AA (A2 (AA AH (AA AH AF))) AF)))) AF)))))
  Bu)
 (AO (Av (A2 (AA (BM (AA (BM AF) (AA (BM (AA (A2 (AA AH (AA AH AF))) AF)) (AA (BM (AA (A2 (AA AH (AA AH AF))) (AA (A2 (AA AH (AA AH AF))) AF))) (AA (BM (AA (A2 (AA AH (AA AH AF))) (AA (A2 (AA AH (AA AH AF))) (AA (A2 (AA AH (AA AH AF))) AF)))) AF))))) (AA (BM (AA (A2 (AA AH (AA AH AF))) (AA (A2 (AA AH (AA AH AF))) (AA (A2 (AA AH (AA AH AF))) (AA (A2 (AA AH (AA AH AF))) AF))))) AF)))))))))
def Uy:AZ ["_law_tree"] ["_law_tree"] (AM K8):=B5
def PC(BD:MD):DF :=
 (BW (AV MC (AB (jy (AV (LX false) (AB (Dl (Cv 1) Gk (AV BD (AB (nm 1) AG)) [none,none] (EF (nm 0))) AG)) (Vf (fC (.int 1)))) AG)))
def BD:Nat->MD
 |0=>fun _=>none
 |n+1=>C8 ["_law_tree"] ["_law_tree"] (PC (BD n))
def N3{k:Nat}(g:Fn K mg "_law_kept" K8 ["_law_tree"] f fd)(O:mg "sorted" = none)(R:mg "tuple" = none):∀n,
  AI P w K mg base Aa (k+n+1) f fd ["_law_tree"] (BH (BD n))
 |0=>EN fun _ _ _ _ ⟨_,_,_,h,_⟩=>by cases h
 |n+1=>by
  have sc:=Uy;have T:=N3 (k:=k) g O R n;refine F0 (k:=k+n+1) (F:=PC (BD n)) g sc fun cdv A outer s H E I=>?_;exact(AO (Av (Kr Uj rfl R bH (AA (mi (B6 (i3 (by have:=I.units;exact this)) rfl O PyProof.Rows.boot_sorted (AA (GD [".0","_law_bough"] 1 [none,none] (Dc (AE (pv 0))) (fun _ _ _ _ _=>G6) (fun _ _ _ _ _=>(Ag g T I rfl (AA (AE (pv 1)) AF)))) AF)) (QS AH)) AF))))
def SH:AZ ["_law_tree","_law_found","_law_k"] ["_law_tree"] (AM Ij):=B5
def Mi(BD:MD)(BZ:MD):DF :=
 (Au (Cy 1 (B7 (AB (AV BD (AB (Ax EC (nm 0) (BS (AB (BS AG) AG))) AG)) AG)))
 (Au (FV (Kf VR (AB (AV FT (AB (nm 0) AG)) AG)) (GQ 2)
  (Cy 1 (Ax EC (nm 1) (Dl (Cv 1) Gk (AV BD (AB (Ax EC (Ax EC (P0 (nm 2) ML (Mb (nm 3))) (BS (AB (nm 1) AG))) (P0 (nm 2) (Mb (Ax EC (nm 3) (fC (.int 1)))) ML)) AG)) [none,none,some 0,some 2] (EF (AV BZ (AB (Ax Ge (nm 0) (nm 2)) AG)))))))
 (BW (nm 1))))
def BZ(BD:MD):Nat->MD
 |0=>fun _=>none
 |n+1=>C8 ["_law_tree"] ["_law_tree","_law_found","_law_k"] (Mi BD (BZ BD n))
def LQ{k:Nat}{BD:MD}(R:Fn K mg "_law_longer" Ij ["_law_tree"] f fd)
 {T:AD}{U:FuncData}(O:Fn K mg "_law_kept" K8 ["_law_tree"] T U)(g:AI P w K mg base Aa k T U ["_law_tree"] (BH BD))(Z:mg "len" = none)(Y:mg "range" = none):∀n,
  AI P w K mg base Aa (k+n+1) f fd ["_law_tree"] (BH (BZ BD n))
 |0=>EN fun _ _ _ _ ⟨_,_,_,h,_⟩=>by cases h
 |n+1=>by
  have sc:=SH;have Fc:=LQ (k:=k) (BD:=BD) R O g Z Y n;have g:=g.mono (show k<=k+n+1 by lia);refine F0 (k:=k+n+1) (F:=Mi BD (BZ BD n)) R sc fun cdv A outer s H E I=>?_;exact(AQ (Bz (i:=1) sc.nd rfl (Or.inl rfl) (BM (AA (Ag O g I rfl (AA (A7 DH (AE (pv 0)) (A2 (AA (A2 AF) AF))) AF)) AF)))
 (AQ (EV aQ rfl (TC rfl Y (AA (B6 Ea rfl Z aZ (AA (AE (pv 0)) AF)) AF)) (Eu (BJ (i:=2) sc.nd rfl (Or.inr rfl)))
  (AO (Bz (i:=1) sc.nd rfl (Or.inl rfl) (A7 DH (AE (pv 1)) (GD [".0","_law_more","_law_tree","_law_k"] 1 [none,none,some 0,some 2] (Dc (Ag R Fc I rfl (AA (Ek (AE (pv 0)) (AE (pv 2)) (fun _ _=>rfl)) AF))) (fun _ _ _ _ _=>G6) (fun _ _ _ _ _=>(Ag O g I rfl (AA (A7 DH (A7 DH (Hr (AE (pv 2)) Jd (JZ (AE (pv 3)))) (A2 (AA (AE (pv 1)) AF))) (Hr (AE (pv 2)) (JZ (A7 DH (AE (pv 3)) AH)) Jd)) AF))))))))
 (AO (Av (AE (pv 1))))))
def Ms:AZ ["_law_most","_law_found","_law_row","_law_many","_law_wider","_law_tree"] ["_law_most"] (AM J9):=B5
def Ng(BZ:MD):DF :=
 (Au (Cy 1 (B7 AG))
 (Au (Cy 2 (B7 (AB (BS AG) AG)))
 (Au (FV (Kf VR (AB (nm 0) AG)) (GQ 3)
  (Au (Cy 1 (Ax EC (nm 1) (nm 2)))
  (Au (Cy 4 (B7 AG))
  (Au (FV (EF (nm 2)) (GQ 5)
   (Cy 4 (Ax EC (nm 4) (AV BZ (AB (nm 5) AG)))))
  (QA 2 (nm 4))))))
 (BW (nm 1)))))
def Cw(BZ:MD):MD:=C8 ["_law_most"] ["_law_most","_law_found","_law_row","_law_many","_law_wider","_law_tree"] (Ng BZ)
def Tj{k:Nat}{BZ:MD}(F:Fn K mg "_law_trees" J9 ["_law_most"] f fd) {I:AD}{O:FuncData}(Z:Fn K mg "_law_longer" Ij ["_law_tree"] I O)(T:AI P w K mg base Aa k I O ["_law_tree"] (BH BZ))(Y:mg "range" = none)(R:mg "set" = none)(U:mg "sorted" = none):AI P w K mg base Aa (k+1) f fd ["_law_most"] (BH (Cw BZ)):=F0 F Ms fun cdv A outer s H E g=>by
 have sc:=Ms;exact(AQ (Bz (i:=1) sc.nd rfl (Or.inl rfl) (BM AF))
 (AQ (Bz (i:=2) sc.nd rfl (Or.inl rfl) (BM (AA (A2 AF) AF)))
 (AQ (EV aQ rfl (TC rfl Y (AA (AE (pv 0)) AF)) (Eu (BJ (i:=3) sc.nd rfl (Or.inl rfl)))
  (AQ (Bz (i:=1) sc.nd rfl (Or.inl rfl) (A7 DH (AE (pv 1)) (AE (pv 2))))
  (AQ (Bz (i:=4) sc.nd rfl (Or.inl rfl) (BM AF))
  (AQ (EV aQ rfl (Dc (AE (pv 2))) (Eu (BJ (i:=5) sc.nd rfl (Or.inl rfl)))
   (AO (Bz (i:=4) sc.nd rfl (Or.inl rfl) (A7 DH (AE (pv 4)) (Ag Z T g rfl (AA (AE (pv 5)) AF))))))
  (AO (Xp (i:=2) rfl (by have:=g.units;exact this) rfl U rfl R (AE (pv 4)) sc.nd rfl (Or.inl rfl)))))))
 (AO (Av (AE (pv 1)))))))
def Th:AZ ["_law_tree"] ["_law_tree"] (AM Jz):=B5
def N0(A9:MD):DF :=
 (BW (Ax EC (fC (.int 1)) (AV YW (AB (Dl (Cv 1) Gk (AV A9 (AB (nm 1) AG)) [none,none] (EF (nm 0))) AG))))
def A9:Nat->MD
 |0=>fun _=>none
 |n+1=>C8 ["_law_tree"] ["_law_tree"] (N0 (A9 n))
def Mx{k:Nat}(g:Fn K mg "_law_knots" Jz ["_law_tree"] f fd)(I:mg "sum" = none):∀n,
  AI P w K mg base Aa (k+n+1) f fd ["_law_tree"] (BH (A9 n))
 |0=>EN fun _ _ _ _ ⟨_,_,_,h,_⟩=>by cases h
 |n+1=>by
  have sc:=Th;have R:=Mx (k:=k) g I n;refine F0 (k:=k+n+1) (F:=N0 (A9 n)) g sc fun cdv A outer s H E O=>?_;exact(AO (Av (A7 DH AH (B6 (Z8 rfl) rfl I PyProof.Rows.boot_sum (AA (GD [".0","_law_bough"] 1 [none,none] (Dc (AE (pv 0))) (fun _ _ _ _ _=>G6) (fun _ _ _ _ _=>(Ag g R O rfl (AA (AE (pv 1)) AF)))) AF)))))
def Q4:AZ ["_law_tree","_law_found","_law_bough"] ["_law_tree"] (AM Hs):=B5
def La(A9:MD)(BR:MD):DF :=
 (Au (Cy 1 (AV A9 (AB (nm 0) AG)))
 (Au (FV (EF (nm 0)) (GQ 2)
  (Cy 1 (Ax K6 (nm 1) (AV BR (AB (nm 2) AG)))))
 (BW (nm 1))))
def BR(A9:MD):Nat->MD
 |0=>fun _=>none
 |n+1=>C8 ["_law_tree"] ["_law_tree","_law_found","_law_bough"] (La A9 (BR A9 n))
def Km{k:Nat}{A9:MD}(I:Fn K mg "_law_density" Hs ["_law_tree"] f fd)
 {R:AD}{T:FuncData}(U:Fn K mg "_law_knots" Jz ["_law_tree"] R T)(g:AI P w K mg base Aa k R T ["_law_tree"] (BH A9)):∀n,
  AI P w K mg base Aa (k+n+1) f fd ["_law_tree"] (BH (BR A9 n))
 |0=>EN fun _ _ _ _ ⟨_,_,_,h,_⟩=>by cases h
 |n+1=>by
  have sc:=Q4;have Y:=Km (k:=k) (A9:=A9) I U g n;have g:=g.mono (show k<=k+n+1 by lia);refine F0 (k:=k+n+1) (F:=La A9 (BR A9 n)) I sc fun cdv A outer s H E O=>?_;exact(AQ (Bz (i:=1) sc.nd rfl (Or.inl rfl) (Ag U g O rfl (AA (AE (pv 0)) AF)))
 (AQ (EV aQ rfl (Dc (AE (pv 0))) (Eu (BJ (i:=2) sc.nd rfl (Or.inl rfl)))
  (AO (Bz (i:=1) sc.nd rfl (Or.inl rfl) (A7 KZ (AE (pv 1)) (Ag I Y O rfl (AA (AE (pv 2)) AF))))))
 (AO (Av (AE (pv 1))))))
def LZ:AZ ["_law_table_here"] ["_law_table_here"] (AM Il):=B5
def Mv:DF :=
 (BW (BS (AB (Dl (Cv 1) Gk (AV JV (AB (nm 1) AG)) [none,none] (EF (Ax Ge (nm 0) (fC (.int 0))))) (AB (AV JV (AB (Ax Ge (nm 0) (fC (.int 1))) AG)) AG))))
def CA:MD:=C8 ["_law_table_here"] ["_law_table_here"] (Mv)
def Rj{k:Nat}(F:Fn K mg "_law_copied" Il ["_law_table_here"] f fd)(g:mg "list" = none):AI P w K mg base Aa (k+1) f fd ["_law_table_here"] (BH (CA)):=F0 F LZ fun cdv A outer s H E I=>by
 have sc:=LZ;exact(AO (Av (A2 (AA (GD [".0","_law_row"] 1 [none,none] (Dc (Ek (AE (pv 0)) AH (fun _ _=>rfl))) (fun _ _ _ _ _=>G6) (fun _ _ _ _ _=>(Kr WR rfl g bR (AA (AE (pv 1)) AF)))) (AA (Kr WR rfl g bR (AA (Ek (AE (pv 0)) AH (fun _ _=>rfl)) AF)) AF)))))
def RG:AZ ["_law_found"] ["_law_found"] (AM N2):=B5
def TU:DF :=
 (Au (Fo (HA (Eg (Dw (IC Nl (nm 0)))) (CS (EJ true) (AV FT (AB (nm 0) AG)) (fC (.int 2))))
  (BW (fC (.bool false)))
  DC)
 (BW (Ax (EJ false) (AV FT (AB (Dl (Cv 1) (HA (Eg (Dw (IC Q2 (nm 1)))) (Dw (IC OD (nm 1)))) (nm 1) [none,none] (EF (nm 0))) AG)) (fC (.int 0)))))
def D7:MD:=C8 ["_law_found"] ["_law_found"] (TU)
def YM{k:Nat}(F:Fn K mg "_law_is" N2 ["_law_found"] f fd)(T:mg "bool" = none)(R:mg "int" = none)(g:mg "isinstance" = none)(O:mg "len" = none)(U:mg "tuple" = none):AI P w K mg base Aa (k+1) f fd ["_law_found"] (BH (D7)):=F0 F RG fun cdv A outer s H E I=>by
 have sc:=RG;exact(AQ (DP (DW.dt (EW (Cf (CF (Ew (L3 _) rfl g rfl U bH (AE (pv 0))))) (Dg (Bm (K3 (by have:=I.units;exact this)) (B6 Ea rfl O aZ (AA (AE (pv 0)) AF)) AH (Ay _)))))
  (AO (Av Cj))
  Bu)
 (AO (Av (LN (HW (by have:=I.units;exact this)) (B6 Ea rfl O aZ (AA (GD [".0","_law_one"] 1 [none,none] (Dc (AE (pv 0))) (fun _ _ _ _ _=>(XB (DW.dt (EW (Cf (CF (Ew (PX _) rfl g rfl R PyProof.Rows.boot_int (AE (pv 1))))) (Dg (CF (Ew (NH _) rfl g rfl T PyProof.Rows.boot_bool (AE (pv 1))))))))) (fun _ _ _ _ _=>(AE (pv 1)))) AF)) AH (Ay _)))))
def NS:AZ ["_law_found","_law_due"] ["_law_found","_law_due"] (AM LD):=B5
def O3(D7:MD):DF :=
 (Au (Fo (HA (Eg (Dw (IC Qr (nm 0)))) (CS (Fi fun i j=>decide (j<i)) (AV FT (AB (Dl (Cv 1) (Eg (Dw (AV D7 (AB (nm 1) AG)))) (nm 1) [none,none] (EF (nm 0))) AG)) (fC (.int 0))))
  (BW (fC (.bool false)))
  DC)
 (BW (Ax (EJ false) (nm 0) (nm 1))))
def Cp(D7:MD):MD:=C8 ["_law_found","_law_due"] ["_law_found","_law_due"] (O3 D7)
def VD{k:Nat}{D7:MD}(F:Fn K mg "_law_same" LD ["_law_found","_law_due"] f fd) {I:AD}{O:FuncData}(T:Fn K mg "_law_is" N2 ["_law_found"] I O)(R:AI P w K mg base Aa k I O ["_law_found"] (BH D7))(Z:mg "isinstance" = none)(Y:mg "len" = none)(U:mg "list" = none):AI P w K mg base Aa (k+1) f fd ["_law_found","_law_due"] (BH (Cp D7)):=F0 F NS fun cdv A outer s H E g=>by
 have sc:=NS;exact(AQ (DP (DW.dt (EW (Cf (CF (Ew (QB _) rfl Z rfl U bR (AE (pv 0))))) (Dg (Bm OM (B6 Ea rfl Y aZ (AA (GD [".0","_law_one"] 1 [none,none] (Dc (AE (pv 0))) (fun _ _ _ _ _=>(XB (Cf (CF (Ag T R g rfl (AA (AE (pv 1)) AF)))))) (fun _ _ _ _ _=>(AE (pv 1)))) AF)) AH (Ay _)))))
  (AO (Av Cj))
  Bu)
 (AO (Av (LN (HW (by have:=g.units;exact this)) (AE (pv 0)) (AE (pv 1)) (Ay _)))))
def Kz:AZ ["_law_table_here","_law_most","_law_kinds","_law_which","_law_kept_here","e"] ["_law_table_here","_law_most"] (AM Hw):=B5
def LV(Ak:rN)(Ao:rN)(O:AD->Option Bool)(g:AD->Option Bool)(I:AD->Option Bool):DF :=
 (Au (X1 2 AG)
 (Au (FV (EF (B7 (AB (fC (.int 0)) (AB (fC (.int 1)) AG)))) (GQ 3)
  (Au (Cy 4 (fC .none))
  (Au (YN 5
   (SJ (a7 (CS (EJ false) (nm 3) (fC (.int 0)))
   (SJ (Q8 Ak (AB (nm 0) (AB (nm 1) AG)))
    Uh)
   (SJ (Q8 Ao (AB (nm 1) AG))
    Uh))
   Uh)
   (Cy 4 (nm 5)))
  (cR 2 (B7 (AB (Uq I (nm 4)) (AB (Uq O (nm 4)) (AB (Uq g (nm 4)) AG))))))))
 (kW 2 (BW (Ax (EJ false) (nm 2) (B7 (AB (B7 (AB (fC (.bool true)) (AB (fC (.bool false)) (AB (fC (.bool false)) AG)))) (AB (B7 (AB (fC (.bool true)) (AB (fC (.bool false)) (AB (fC (.bool false)) AG)))) AG))))))))
def Bt(Ak:rN)(Ao:rN)(O:AD->Option Bool)(g:AD->Option Bool)(I:AD->Option Bool):MD:=C8 ["_law_table_here","_law_most"] ["_law_table_here","_law_most","_law_kinds","_law_which","_law_kept_here","e"] (LV Ak Ao O g I)
def Qc{k:Nat}{Ak:rN}{Ao:rN}{g:AD}{Y:AD}{R:AD}{U:AD}{kt_NoTable:AD->Option Bool}{T:AD->Option Bool}{Z:AD->Option Bool}(F:Fn K mg "_law_refused" Hw ["_law_table_here","_law_most"] f fd) {EA:AD}{Dr:FuncData}(Bs:Fn K mg "table_weighing" DL ["table","most"] EA Dr)(DK:AI P w K mg base (CD P w) k EA Dr ["table","most"] (FE Ak)) {EO:AD}{ED:FuncData}(Bx:Fn K mg "true_weighing" Dj ["most"] EO ED)(Di:AI P w K mg base (CD P w) k EO ED ["most"] (FE Ao))(AR:mg "isinstance" = none)(Jg:mg "GroveError" = some (.ref g))(K1:mg "NoTable" = some (.ref Y))(HB:mg "NoWeighing" = some (.ref R))(Kg:mg "TooMany" = some (.ref U))(kh_NoTable:∀C b,kt_NoTable C=some b->F3 K C/\PySem.W.kitOne K (.ref C) (HC (.ref Y))=some b)(kh_NoWeighing:∀C b,T C=some b->F3 K C/\PySem.W.kitOne K (.ref C) (HC (.ref R))=some b)(kh_TooMany:∀C b,Z C=some b->F3 K C/\PySem.W.kitOne K (.ref C) (HC (.ref U))=some b)(I:∀ds C,Ak ds=some (.inr C)->Es K C g true)(O:∀ds C,Ao ds=some (.inr C)->Es K C g true):AI P w K mg base Aa (k+1) f fd ["_law_table_here","_law_most"] (BH (Bt Ak Ao kt_NoTable T Z)):=F0 F Kz fun cdv A outer s H E hr=>by
 have sc:=Kz;exact(AQ (QG (i:=2) sc.nd rfl (Or.inl rfl) AF)
 (AQ (EV aQ rfl (Dc (BM (AA AH (AA AH AF)))) (Eu (BJ (i:=3) sc.nd rfl (Or.inl rfl)))
  (AQ (Bz (i:=4) sc.nd rfl (Or.inl rfl) mv)
  (AQ (gc (k:=5) (RV (oJ (Bm (HW (by have:=hr.units;exact this)) (AE (pv 3)) AH (Ay _)) (RV (WW Bs DK hr (by exact(AA (AE (pv 0)) (AA (AE (pv 1)) AF))))
    U8) (RV (WW Bx Di hr (by exact(AA (AE (pv 1)) AF)))
    U8))
   U8) sc.nd (Cg.at (P:=fun C=>Es K C g true) (Cg.seq (Cg.if (Cg.seq (Cg.call I) Cg.nil) (Cg.seq (Cg.call O) Cg.nil)) Cg.nil)) Jg (fun ea=>(AO (Bz (i:=4) sc.nd rfl (Or.inl rfl) (AE (pv 5))))))
  (AO (SW (pv 2) (BM (AA (U7 kh_TooMany (fun z=>nomatch z) rfl AR (JY (v:=.ref U) rfl Kg rfl) (AE (pv 4))) (AA (U7 kh_NoTable (fun z=>nomatch z) rfl AR (JY (v:=.ref Y) rfl K1 rfl) (AE (pv 4))) (AA (U7 kh_NoWeighing (fun z=>nomatch z) rfl AR (JY (v:=.ref R) rfl HB rfl) (AE (pv 4))) AF)))) (fun ho ha=>DJ (HJ aa az bA FH ho ha)))))))
 (AO (ZG 2 (Av (LN (HW (by have:=hr.units;exact this)) (AE (pv 2)) (BM (AA (BM (AA Cj (AA Cj (AA Cj AF)))) (AA (BM (AA Cj (AA Cj (AA Cj AF)))) AF))) (Ay _)))))))
end
abbrev oC:MD:=BD 9
abbrev Rt:MD:=BZ oC 9
abbrev Fx:MD:=Cw Rt
def Cn:Nat->List Tr
 |0=>[]
 |n+1=>Cn n++TH.tz n
abbrev Bb(n:Nat):PD:=.list (L2.BE (Tr.of (Cn n)))
def bo(n:Nat):rz:=(TH.tz n).flatMap fun t=>match Rt [.tuple (L2.BE t)]with
 |some (.list g)=>((DD g).getD .nil).bs
 |_=>[]
def eB:Lf (Tr.of (bo 6))=some .no:=by kernel_rfl
abbrev pU:MD:=A1 Am 9
abbrev J8(C:AD):List PD->Option Xr:=Aj (Dz pU C) C
abbrev Xh:DF:=Cy 4 (Ax EC (nm 4) (AV Rt (AB (nm 5) AG)))
abbrev Xk:DF:=(Au (Cy 1 (Ax EC (nm 1) (nm 2)))
  (Au (Cy 4 (B7 AG))
  (Au (FV (EF (nm 2)) (GQ 5) Xh)
  (QA 2 (nm 4)))))
def UT(set:PD->Dv->Option Dv)(F:DF):List PD->Dv->Option Dv
 |[],δ=>some δ
 |x::xs,δ=>match (set x δ).bind F with
  |some (.nx g)=>UT set F xs g
  |_=>none
def SQ{set:PD->Dv->Option Dv}{F:DF}{ys:List PD}{g:Dv}:∀ {xs:List PD} {δ:Dv},UT set F xs δ=some g->GR set F (xs++ys) δ=GR set F ys g
 |[],δ,h=>by cases h;rfl
 |x::xs,δ,h=>by
  rw[UT]at h;rw[List.cons_append,GR];split at h
  .rename_i I e;rw[e];exact SQ h
  .cases h
def proj(n:Nat)(o:Option Dv):Option (List L):=o.bind fun δ=>if δ.length=6 then some (δ.take n) else none
def Wc{n:Nat}{o:Option Dv}{ls:List L}(h:proj n o=some ls):∃δ,o=some δ/\δ.length=6/\δ.take n=ls:=by
 obtain⟨δ,I,g⟩:=aB.mp h;split at g
 .rename_i z;cases g;exact⟨δ,I,z,rfl⟩
 .cases g
def cF(a b c d e:L):proj 5 (UT (GQ 5) Xh (L2.BE (Tr.of (TH.tz 6))) [a,b,c,d,.d (.list []),e])=some [a,b,c,d,.d (.list (L2.BE (Tr.of (bo 6))))]:=by kernel_rfl
def six_is:proj 3 (UT (GQ 3) Xk (L7 0 6) [.d (.int 7),.d (.list []),.d (.list [.tuple []]),.no,.no,.no])=some [.d (.int 7),.d (Bb 6),.d (.list (L2.BE (Tr.of (TH.tz 6))))]:=by kernel_rfl
def Pf:∀t:Tr,DD (L2.BE t)=some t
 |.nil=>by rw[L2.BE,DD]
 |.cons b r=>by rw[L2.BE,DD,E9,Pf b,Pf r];rfl
def jh{δ:Dv}{a b c:L}(h:δ.length=6)(k:δ.take 3=[a,b,c]):∃d e f,δ=[a,b,c,d,e,f]:=by
 match δ,h with
 |[x,y,z,d,e,f],_=>cases k;exact⟨d,e,f,rfl⟩
def iO{δ:Dv}{a b c d e:L}(h:δ.length=6)(k:δ.take 5=[a,b,c,d,e]):∃f,δ=[a,b,c,d,e,f]:=by
 match δ,h with
 |[x,y,z,u,v,f],_=>cases k;exact⟨f,rfl⟩
def Ww{fs:rP}{set:PD->Dv->Option Dv}{F:DF}{δ:Dv}{xs:rS}(h:fs δ=some xs):FV fs set F δ=GR set F xs δ:=by
 show(fs δ).bind _=_;rw[h]
 rfl
def om:Kf VR (AB (nm 0) AG) [.d (.int 7),.d (.list []),.d (.list [.tuple []]),.no,.no,.no]=some (L7 0 6++[.int 6]):=by kernel_rfl
def eT{set:PD->Dv->Option Dv}{F:DF}{x:PD}{δ I g:Dv}(h:set x δ=some I)(k:F I=some (.nx g)):GR set F [x] δ=some (.nx g):=by
 rw[GR,h,Option.bind_some,k]
 rfl
def eC{U I:PD}{r:rS}{W:Tr}{Z Y R:L}(h6:UT (GQ 3) Xk (L7 0 6) [.d (.int 7),.d (.list []),.d (.list [.tuple []]),.no,.no,.no]=some [.d (.int 7),.d U,.d (.list r),Z,Y,R])(T:EC U (.list r)=some I) (hg:∀a b c d e:L,∃O,UT (GQ 5) Xh r [a,b,c,d,.d (.list []),e]=some [a,b,c,d,.d (.list (L2.BE W)),O])(hn:Lf W=some .no):Fx [.int 7]=some I:=by
 obtain⟨O,g1⟩:=hg (.d (.int 7)) (.d I) (.d (.list r)) (.d (.int 6)) R;have ht:Xk [.d (.int 7),.d U,.d (.list r),.d (.int 6),Y,R]=some (.nx [.d (.int 7),.d I,.no,.d (.int 6),.d (.list (L2.BE W)),O]):=by
  refine Af (δ':=[.d (.int 7),.d I,.d (.list r),.d (.int 6),Y,R]) (F6 (BL (x:=U) (y:=.list r) rfl rfl T)) (Af (δ':=[.d (.int 7),.d I,.d (.list r),.d (.int 6),.d (.list []),R]) rfl (Af (δ':=[.d (.int 7),.d I,.d (.list r),.d (.int 6),.d (.list (L2.BE W)),O]) ?_ ?_))
  .rw[Ww (xs:=r) rfl];have:=SQ (ys:=[]) g1;rw[List.append_nil]at this;rw[this]
   rfl
  .show((DD (L2.BE W)).bind fun t=>(Lf t).map fun l=>Ou.nx (List.set _ 2 l))=_;rw[Pf,Option.bind_some,hn]
   rfl
 refine C5 rfl ?_;unfold Ng;refine Af (δ':=[.d (.int 7),.d (.list []),.no,.no,.no,.no]) rfl (Af (δ':=[.d (.int 7),.d (.list []),.d (.list [.tuple []]),.no,.no,.no]) rfl (Af (δ':=[.d (.int 7),.d I,.no,.d (.int 6),.d (.list (L2.BE W)),O]) ?_ rfl));rw[Ww om,SQ h6];exact eT rfl ht
def oE:EC (Bb 6) (.list (L2.BE (Tr.of (TH.tz 6))))=some (Bb 7):=by kernel_rfl
def gA:Fx [.int 7]=some (Bb 7):=by
 obtain⟨I,U,T,R⟩:=Wc six_is;obtain⟨l3,l4,l5,rfl⟩:=jh T R;refine eC U oE (fun a b c d e=>?_) eB;obtain⟨g,g1,Z,Y⟩:=Wc (cF a b c d e);obtain⟨O,rfl⟩:=iO Z Y;exact⟨O,g1⟩
def gK:Fx [.int 0]=some (Bb 0):=by kernel_rfl
def ip:Fx [.int 1]=some (Bb 1):=by kernel_rfl
def gF:Fx [.int 2]=some (Bb 2):=by kernel_rfl
def iu:Fx [.int 3]=some (Bb 3):=by kernel_rfl
def hU:Fx [.int 4]=some (Bb 4):=by kernel_rfl
def iL:Fx [.int 5]=some (Bb 5):=by kernel_rfl
def il:Fx [.int 6]=some (Bb 6):=by kernel_rfl
def p7(C:AD):J8 C [.int 0]=some (.inl (Bb 0)):=by kernel_rfl
def qo(C:AD):J8 C [.int 1]=some (.inl (Bb 1)):=by kernel_rfl
def pf(C:AD):J8 C [.int 2]=some (.inl (Bb 2)):=by kernel_rfl
def qT(C:AD):J8 C [.int 3]=some (.inl (Bb 3)):=by kernel_rfl
def qd(C:AD):J8 C [.int 4]=some (.inl (Bb 4)):=by kernel_rfl
def qY(C:AD):J8 C [.int 5]=some (.inl (Bb 5)):=by kernel_rfl
def pq(C:AD):J8 C [.int 6]=some (.inl (Bb 6)):=by kernel_rfl
def qc(C:AD):J8 C [.int 7]=some (.inl (Bb 7)):=by kernel_rfl
def dW{n:Nat}(h:n<=7):Fx [.int (n:Nat)]=some (Bb n):=by
 rcases n with _|_|_|_|_|_|_|_|n
 .exact gK
 .exact ip
 .exact gF
 .exact iu
 .exact hU
 .exact iL
 .exact il
 .exact gA
 .lia
def fY{n:Nat}(h:n<=7)(C:AD):J8 C [.int (n:Nat)]=some (.inl (Bb n)):=by
 rcases n with _|_|_|_|_|_|_|_|n
 .exact p7 C
 .exact qo C
 .exact pf C
 .exact qT C
 .exact qd C
 .exact qY C
 .exact pq C
 .exact qc C
 .lia
def N7:Nat->Nat
 |0=>0|1=>1|2=>2|3=>4|4=>8|5=>17|6=>37|_=>85
def Vi:∀n,n<=7->(Cn n).length=N7 n:=by decide +kernel
def ZA(n:Nat):∀k,∃us,Cn (n+k)=Cn n++us
 |0=>⟨[],by rw[List.append_nil];rfl⟩
 |k+1=>by
  obtain⟨us,h⟩:=ZA n k;exact⟨us++TH.tz (n+k),by rw[<-List.append_assoc,<-h];rfl⟩
def Vd{n:Nat}(h:n<=7){t:Tr}(g:t∈Cn n):t∈Cn 7:=by
 obtain⟨us,e⟩:=ZA n (7-n);rw[show n+(7-n)=7 by lia]at e;rw[e];exact List.mem_append_left _ g
mutual
def Tu{H:Hp}:∀ {d:PD} {v:V},d.canLay0=true->Du H d v->DU H d v
 |.none,_,_,h=>by rw[Du]at h;subst h;exact .BP
 |.bool _,_,_,h=>by rw[Du]at h;subst h;exact .bool
 |.int _,_,_,h=>by rw[Du]at h;subst h;exact .int
 |.str _,_,_,h=>by rw[Du]at h;subst h;exact .str
 |.tuple _,_,c,h=>by
  rw[Du]at h;obtain⟨a,xs,rfl,I,g⟩:=h;exact .tup I (Rz (by simpa only[PyData.canLay0]using c) g)
 |.list _,_,c,h=>by
  rw[Du]at h;obtain⟨a,xs,rfl,I,g⟩:=h;exact .lst I (Rz (by simpa only[PyData.canLay0]using c) g)
 |.dict _,_,c,h=>by simp[PyData.canLay0]at c
def Rz{H:Hp}:∀ {ds:List PD} {xs:List V},PyData.canLayAll0 ds=true->An H ds xs->Bl H ds xs
 |[],_,_,h=>by rw[h.nil_eq];exact .nil
 |_::_,_,c,h=>by
  obtain⟨x,r,rfl,I,g⟩:=h.un;simp only[PyData.canLayAll0,Bool.and_eq_true]at c;exact .cons (Tu c.1 I) (Rz c.2 g)
end
def Vm{G:Hp}:∀ps:List Int,An G (ps.map .int) (ps.map V.int)
 |[]=>.nil
 |p::ps=>.cons (by rw[Du]) (Vm ps)
def YA:PD->Rat
 |.tuple [.int a,.int b]=>Rat.divInt a b
 |_=>0
def eF(r:Rat):YA (BX r)=r:=FM.Vx r
def Vn{n:Nat}{ds:rS}(h:∀d∈ds,Ok n d):Gj n ds:=by
 induction ds with
 |nil=>exact⟨by simp[PyData.canLayAll0],by simp[PyData.depthAll]⟩
 |cons d ds g=>
  obtain⟨a,b⟩:=h d (.head _);obtain⟨O,R⟩:=g fun e I=>h e (.tail _ I);exact⟨by simp only[PyData.canLayAll0];rw[a,O];rfl,by simp only[PyData.depthAll];lia⟩
def qS{n:Nat}{ds:rS}(h:∀d∈ds,Ok n d):Ok (n+1) (.list ds):=.lst (Vn h)
def pQ{n:Nat}{ds:rS}(h:∀d∈ds,Ok n d):Ok (n+1) (.tuple ds):=.tup (Vn h)
def jv(r:Rat):Ok 1 (BX r):=pQ (n:=0) fun d hd=>by
 rcases aM.mp hd with rfl|hd
 .exact .int
 .rw[List.mem_singleton.mp hd];exact .int
def ne_self{x:PD}{n:Nat}(h:Ok n x)(hn:n<=64):EJ true x x=some (.bool false):=by
 refine(if_pos ⟨h.shaped hn,h.shaped hn⟩).trans ?_;rw[MA x h.1];rfl
def UK{x:PD}{n:Nat}(h:Ok n x)(hn:n<=64):EJ false x x=some (.bool true):=by
 refine(if_pos ⟨h.shaped hn,h.shaped hn⟩).trans ?_;rw[MA x h.1];rfl
def div_is{i j:Int}(h:0<j)(g:j.natAbs<2^64):YJ (.int i) (.int j)=some (.int (i / j)):=by
 refine(if_pos ⟨by lia,Yy (aL g (bG (by decide) (by decide)))⟩).trans ?_;rw[Int.fdiv_eq_ediv_of_nonneg _ (by lia)]
def JW:∀ts:List Tr,L2.BE (Tr.of ts)=ts.map fun t=>.tuple (L2.BE t)
 |[]=>rfl
 |t::ts=>by rw[List.map_cons,<-JW ts];rfl
def gN(ns:rd)(k:Nat):∃c,Bg [Dp ns,.int (k:Nat)]=some (.int c):=by
 suffices hh:∃c,K5 [.d (Dp ns),.d (.int (k:Nat)),.no,.no]=some (.rt (.int c)) by
  obtain⟨c,h⟩:=hh;exact⟨c,C5 rfl h⟩
 unfold K5;have R:∃g,(Fo (CS (Fi fun i j=>decide (i<j)) (nm 1) (AV FT (AB (nm 0) AG))) (Cy 2 (Ax Ge (nm 0) (nm 1))) DC) [.d (Dp ns),.d (.int (k:Nat)),.d (.int 0),.no]=some (.nx [.d (Dp ns),.d (.int (k:Nat)),.d (.int g),.no]):=by
  have t:CS (Fi fun i j=>decide (i<j)) (nm 1) (AV FT (AB (nm 0) AG)) [.d (Dp ns),.d (.int (k:Nat)),.d (.int 0),.no]=some (decide ((k:Int)<((ns.map PyData.int).length:Nat))):=CL (x:=.int (k:Nat)) (y:=.int ((ns.map PyData.int).length:Nat)) rfl rfl rfl;rw[List.length_map]at t;by_cases z:k<ns.length
  .rw[decide_eq_true (show(k:Int)<(ns.length:Nat) by lia)]at t;exact⟨ns[k],OI t (F6 (BL (x:=Dp ns) (y:=.int (k:Nat)) rfl rfl (iU (by rw[List.getElem?_map,List.getElem?_eq_getElem z];rfl))))⟩
  .rw[decide_eq_false (show ¬(k:Int)<(ns.length:Nat) by lia)]at t;exact⟨0,Ci t rfl⟩
 obtain⟨g,R⟩:=R;have I:Ax NU (fC (.int 10)) (fC (.int 18)) [.d (Dp ns),.d (.int (k:Nat)),.d (.int g),.no]=some (.int ((10:Int)^18)):=BL (x:=.int 10) (y:=.int 18) rfl rfl (Yz (n:=18) (by decide) (by decide));have T:Ax NU (fC (.int 10)) (fC (.int 60)) [.d (Dp ns),.d (.int (k:Nat)),.d (.int g),.no]=some (.int ((10:Int)^60)):=BL (x:=.int 10) (y:=.int 60) rfl rfl (Yz (n:=60) (by decide) (by decide));have O:CS (Fi fun i j=>decide (j<=i)) (nm 2) (Ax NU (fC (.int 10)) (fC (.int 18))) [.d (Dp ns),.d (.int (k:Nat)),.d (.int g),.no]=some (decide ((10:Int)^18<=g)):=CL (x:=.int g) (y:=.int ((10:Int)^18)) rfl I rfl;by_cases z:(10:Int)^18<=g
 .rw[decide_eq_true z]at O;exact⟨_,Af rfl (Af R (LU (OI O (Ez (BL (x:=.int (g-(10:Int)^18)) (BL (x:=.int g) rfl I rfl) T (mod_is (Int.pow_pos (by decide))))))))⟩
 .rw[decide_eq_false z]at O;have hn:∀(a:Int) (m:Int),0<m->m<2^60->(a % m).natAbs<2^64:=fun a m h0 h1=>by
   have:=Int.emod_nonneg a (by lia:m≠0);have:=Int.emod_lt_of_pos a h0
   lia
  generalize U:(g*48271+(k:Int)*69621+11) % 2147483629=v;have Z:v.natAbs<2^64:=by rw[<-U];exact hn _ _ (by decide) (by decide)
  generalize Y:v*v % 2147483587=u;have u1:u.natAbs<2^64:=by rw[<-Y];exact hn _ _ (by decide) (by decide)
  refine⟨_,Af rfl (Af R (Af (Ci O rfl) (Af (F6 (y:=.int v) ?_) (Af (F6 (y:=.int u) ?_) (Ez (BL (x:=.int (u*2147483563)) (y:=.int (u*u % 2147483563)) (BL (x:=.int u) (y:=.int 2147483563) rfl rfl (mul_r (by decide))) (BL (x:=.int (u*u)) (y:=.int 2147483563) (BL (x:=.int u) (y:=.int u) rfl rfl (mul_r u1)) rfl (mod_is (by decide))) rfl))))))⟩
  .refine BL (x:=.int (g*48271+(k:Int)*69621+11)) (y:=.int 2147483629) (BL (x:=.int (g*48271+(k:Int)*69621)) (y:=.int 11) (BL (x:=.int (g*48271)) (y:=.int ((k:Int)*69621)) (BL (x:=.int g) (y:=.int 48271) rfl rfl (mul_r (by decide))) (BL (x:=.int (k:Nat)) (y:=.int 69621) rfl rfl (mul_r (by decide))) rfl) rfl rfl) rfl ((mod_is (by decide)).trans ?_);rw[U]
  .refine BL (x:=.int (v*v)) (y:=.int 2147483587) (BL (x:=.int v) (y:=.int v) rfl rfl (mul_r Z)) rfl ((mod_is (by decide)).trans ?_);rw[Y]
abbrev tD(t:Tr):PD:=.tuple (L2.BE t)
def Wq{ix:Nat}{f:rQ}{g:rR}{fs:rP}{fr:sF}{xs:rS}{δ:Dv}(R:fs δ=some xs)(h:∀x∈xs,g ((Dd fr δ).set ix (.d x))=some false):Dl (Cv ix) g f fr fs δ=some (.list []):=by
 unfold Dl IL;rw[R,Option.bind_some];have:∀xs:List PD,(∀x∈xs,g ((Dd fr δ).set ix (.d x))=some false)->L2.collect (LG (Cv ix) g f (Dd fr δ)) xs=some []:=fun xs=>by
  induction xs with
  |nil=>intro _;rfl
  |cons x xs I=>
   intro h;unfold L2.collect;rw[I fun y O=>h y (.tail _ O)];have e:LG (Cv ix) g f (Dd fr δ) x=some none:=by
    unfold LG Cv;rw[Option.bind_some];show(g _).bind _=_;rw[h x (.head _),Option.bind_some,if_neg (by decide)]
   rw[e];rfl
 rw[this xs h,Option.bind_some]
 rfl
def Wv(r:Rat):Prop:=FM.Fits r 3/\r.den<=6
def Tb.Sm(t:Tb):Prop:=(∀r∈t.rs,∀q∈r,Wv q)/\∀q∈t.ls,Wv q
def Oq(n:Int):Rat:=Rat.divInt (n % 13-6) (1+n / 13 % 6)
def Ua(n:Int):Wv (Oq n):=by
 refine⟨.kD (by lia) (by lia) (by lia),?_⟩;have:=FM.ZV (t:=n % 13-6) (b:=1+n / 13 % 6) (by lia);unfold Oq
 lia
def EH(ns:rd)(k:Nat):Int:=match Bg [Dp ns,.int (k:Nat)]with|some (.int c)=>c|_=>0
def UD(ns:rd)(k:Nat):Bg [Dp ns,.int (k:Nat)]=some (.int (EH ns k)):=by
 obtain⟨c,h⟩:=gN ns k;unfold EH;rw[h]
def k7:Sp:=fun vs H Q _=>∃(a:AD) (ns:List Int) (k:Nat),vs=[.ref a,.int (k:Int)]/\Rd H a (.lst (ns.map V.int))/\∀H',AJ H H'->Q (.int (EH ns k)) H'
def mI:Sp:=fun vs H Q _=>∃n:Int,vs=[.int n]/\∀(l:AD) H',AJ H H'->H' l=some (.tup (M7 (Oq n)))->Q (.ref l) H'
def U9(H H':Hp)(v:V):Prop:=∃(p R L:AD) (xs:List V),v=.ref p/\H' p=some (.tup [.ref R,.ref L])/\H' R=some (.lst xs)/\H R=none/\H L=none/\∀b,V.ref b∈xs->H b=none
def q0:Rat:=⟨0,1,by decide,by decide⟩
def q1:Rat:=⟨1,1,by decide,by decide⟩
def a6:Rat:=⟨1,2,by decide,by decide⟩
def kU:Rat:=⟨1,3,by decide,by decide⟩
def rB:Rat:=⟨2,3,by decide,by decide⟩
def rG:Rat:=⟨1,4,by decide,by decide⟩
def qw:Rat:=⟨3,4,by decide,by decide⟩
def pF:Rat:=⟨1,6,by decide,by decide⟩
def j7:Tb:=⟨[[]],[q1]⟩
def oq:Tb:=⟨[[],[a6]],[q0,q1]⟩
def pD:Tb:=⟨[[],[q1]],[a6,a6]⟩
def pC:Tb:=⟨[[],[kU],[q0,rB]],[rG,q0,qw]⟩
def o8:Tb:=⟨[[],[a6],[q0,a6],[q0,q0,q1]],[pF,kU,kU,pF]⟩
instance (r:Rat):Decidable (Wv r):=inferInstanceAs (Decidable ((r.num.natAbs<2^3/\r.den<2^3)/\r.den<=6))
def cZ(t:Tb):Bool:=decide (1<=t.rs.length)&&decide (t.rs.length<=4)&&decide (t.ls.length=t.rs.length)&&(List.range 4).all (fun i=>match t.rs[i]? with|some r=>decide (r.length=i)|none=>true)&&t.rs.all (fun r=>r.all fun q=>decide (Wv q))&&t.ls.all fun q=>decide (Wv q)
def Rn{t:Tb}(h:cZ t=true):t.Ok 4/\t.Sm:=by
 unfold cZ at h;simp only[Bool.and_eq_true,decide_eq_true_eq,List.all_eq_true,List.mem_range]at h;obtain⟨⟨⟨⟨⟨Y,U⟩,T⟩,R⟩,O⟩,I⟩:=h;refine⟨⟨Y,U,T,fun i r g=>?_⟩,O,I⟩;have:=R i (by have:=(aG.mp g).1;lia);rw[g]at this
 simpa using this
def GY(n:Int):Tb:=if n % 5=0 then j7 else if n % 5=1 then oq else if n % 5=2 then pD else if n % 5=3 then pC else o8
def kO:Sp:=fun vs H Q _=>∃(n:Int),vs=[.int n]/\∀v H',AJ H H'->DU H' (Aq (GY n)) v->U9 H H' v->Q v H'
def Ii(n:Int):Nat->Int
 |0=>n
 |j+1=>Ii n j / 78
def Ru(n:Int):Nat->Int
 |0=>n
 |i+1=>Ii (Ru n i) i
def ZM(n:Int)(i:Nat):rp:=(List.range i).map fun j=>Oq (Ii (Ru n i) j)
def Qw(g I:Int)(most:Nat):Tb :=
 if g % 4=0 then
  (if(GY (g / 4)).rs.length > most then j7
   else if g / 20 % 3=0 then⟨(GY (g / 4)).rs,(GY (g / 4)).ls.set ((g / 60).fmod ((GY (g / 4)).ls.length:Nat)).toNat (Oq I)⟩ else GY (g / 4))
 else⟨(List.range (1+(g / 4).fmod (most:Nat)).toNat).map (ZM (g / 16)),(List.range (1+(g / 4).fmod (most:Nat)).toNat).map fun i=>Oq (Ii I i)⟩
def jI:Sp:=fun vs H Q _=>∃(a:AD) (ns:List Int) (k most:Nat),vs=[.ref a,.int (k:Int),.int (most:Int)]/\Rd H a (.lst (ns.map V.int))/\1<=most/\most<=4/\∀v H',AJ H H'->DU H' (Aq (Qw (EH ns k) (EH ns (k+1)) most)) v->U9 H H' v->Q v H'
def WZ{H H':Hp}{a:AD}{u:HO}(h:Rd H a u)(e:AJ H H'):Rd H' a u:=h.elim (fun z=>.inl (e _ _ z)) fun⟨o,z⟩=>.inr ⟨o,e _ _ z⟩
section
variable{P:Program}{w:World}{K:Fg}{mg:rW}{base:Heap}{f g1:AD}{fd gd1:FuncData}
def Tf:AZ ["_law_number"] ["_law_number"] (AM KS):=B5
def Tc(F:Fn K mg "_law_entry" KS ["_law_number"] f fd)(T:Fn K mg "_law_frac" K9 ["_law_top","_law_bottom"] g1 gd1)(R:AI P w K mg base Aa 1 g1 gd1 ["_law_top","_law_bottom"] X5):AI P w K mg base Aa 2 f fd ["_law_number"] mI:=by
 have sc:=Tf;refine F.F.ok (k:=1) sc (fun vs H Q E h=>?_) (fun cdv A outer s H vs Q E g h=>?_)
 .obtain⟨n,rfl,_⟩:=h
  rfl
 obtain⟨n,rfl,q⟩:=h;refine⟨_,(A3 (Ca (Cu T R g rfl (AK (BO VS (BO Nr (pv 0) Ar) Ar) (AK (BO NK Ar (BO Nr (BO GN (pv 0) Ar) Ar)) AY))))),?_⟩;refine⟨_,rfl,_,_,rfl,rfl,(by show(0:Int)<13;decide),_,_,rfl,rfl,_,rfl,_,_,rfl,rfl,⟨by decide,by decide⟩,_,_,rfl,rfl,(by show(0:Int)<6;decide),_,_,rfl,rfl,?_⟩;exact⟨n % 13-6,1+n / 13 % 6,3,rfl,by lia,by decide,by lia,fun l U O I=>q l U O I⟩
end
def cA(n:Int):Jr [.int n]=some (Aq (GY n)):=by
 have c:∀(k:Int) (b:Bool),decide (n % 5=k)=b->CS (EJ false) (Ax HD (nm 0) (fC (.int 5))) (fC (.int k)) [.d (.int n)]=some b:=fun k b h=>CL (BL rfl rfl (mod_is (by decide))) rfl (by
  show some (PyData.bool _)=_;rw[<-h]
  rfl)
 have r:=Int.emod_nonneg n (show(5:Int)≠0 by decide);by_cases h0:n % 5=0
 .rw[show GY n=j7 by unfold GY;simp[h0]];exact C5 rfl (LU (OI (c 0 true (by simp[h0])) rfl))
 by_cases g:n % 5=1
 .rw[show GY n=oq by unfold GY;simp[h0,g]];exact C5 rfl (Af (Ci (c 0 false (by simp[h0])) rfl) (LU (OI (c 1 true (by simp[g])) rfl)))
 by_cases I:n % 5=2
 .rw[show GY n=pD by unfold GY;simp[h0,g,I]];exact C5 rfl (Af (Ci (c 0 false (by simp[h0])) rfl) (Af (Ci (c 1 false (by simp[g])) rfl) (LU (OI (c 2 true (by simp[I])) rfl))))
 by_cases O:n % 5=3
 .rw[show GY n=pC by unfold GY;simp[h0,g,I,O]];exact C5 rfl (Af (Ci (c 0 false (by simp[h0])) rfl) (Af (Ci (c 1 false (by simp[g])) rfl) (Af (Ci (c 2 false (by simp[I])) rfl) (LU (OI (c 3 true (by simp[O])) rfl)))))
 .rw[show GY n=o8 by unfold GY;simp[h0,g,I,O]];exact C5 rfl (Af (Ci (c 0 false (by simp[h0])) rfl) (Af (Ci (c 1 false (by simp[g])) rfl) (Af (Ci (c 2 false (by simp[I])) rfl) (Af (Ci (c 3 false (by simp[O])) rfl) rfl))))
def a9(n:Int):cZ (GY n)=true:=by
 unfold GY;split
 .decide +kernel
 .split
  .decide +kernel
  .split
   .decide +kernel
   .split
    .decide +kernel
    .decide +kernel
def OC(t:Tb):(Aq t).canLay0=true:=by
 have f:∀r:List Rat,PyData.canLayAll0 (BF r)=true:=fun r=>by
  induction r with
  |nil=>rfl
  |cons q r I=>show PyData.canLayAll0 (BX q::BF r)=true;simp[PyData.canLayAll0,I,BX,PyData.canLay0]
 have g:∀rs:List (List Rat),PyData.canLayAll0 (BK rs)=true:=fun rs=>by
  induction rs with
  |nil=>rfl
  |cons r rs I=>show PyData.canLayAll0 (BE r::BK rs)=true;simp[PyData.canLayAll0,I,BE,PyData.canLay0,f]
 simp[Aq,PyData.canLay0,PyData.canLayAll0,f,g]
def VQ{G H:Hp}(n:∀a xs,G a=some (.lst xs)->H a=none):∀ {rs:List (List Rat)} {xs:List V},An G (BK rs) xs->∀b,V.ref b∈xs->H b=none
 |[],xs,h,b,hb=>by
  have:=h.len;have e:xs=[]:=au (by simpa[BK]using this);rw[e]at hb;cases hb
 |r::rs,xs,h,b,hb=>by
  obtain⟨x,t,rfl,g,O⟩:=An.un (d:=BE r) (ds:=BK rs) h;rw[BE,Du]at g;obtain⟨a,ys,rfl,I,_⟩:=g;rcases aM.mp hb with e|hb
  .cases e;exact n _ _ I
  .exact VQ n O b hb
def cg{P:Program}{w:World}{K:Fg}{mg:rW}{base:Heap}{f:AD}{fd:FuncData}{k:Nat}{ps:rf}(F:AI P w K mg base Aa k f fd ps (BH Jr)):AI P w K mg base Aa k f fd ps kO :=
 F.imp fun vs H Q E z=>by
  obtain⟨n,rfl,q⟩:=z;refine⟨[.int n],Aq (GY n),fun _=>none,cA n,.cons (by rw[Du]) .nil,fun a o h=>(by cases h),fun v G' H' _ nw I e2 O=>?_⟩;refine q v H' e2 (Tu (OC _) (O.same I)) ?_;have g:∀a xs,G' a=some (.lst xs)->H a=none:=fun a xs h=>by
   rcases nw _ _ h with h|h|⟨ys,h⟩
   .cases h
   .exact h
   .cases h
  rw[Aq,Du]at O;obtain⟨a,xs,rfl,Z,g2⟩:=O;obtain⟨x,r,rfl,Y,g3⟩:=g2.un;obtain⟨y,r,rfl,U,g6⟩:=g3.un;rw[g6.nil_eq]at Z;rw[Du]at Y U;obtain⟨R,xs,rfl,T,dR⟩:=Y;obtain⟨L,ys,rfl,hL,_⟩:=U;exact⟨a,R,L,xs,rfl,I _ _ Z,I _ _ T,g _ _ T,g _ _ hL,VQ g dR⟩
def iw{P:Program}{w:World}{K:Fg}{mg:rW}{base:Heap}{f:AD}{fd:FuncData}{k:Nat}{ps:rf}(F:AI P w K mg base Aa k f fd ps (BH Bg)):AI P w K mg base Aa k f fd ps k7 :=
 F.imp fun vs H Q E z=>by
  obtain⟨a,ns,k,rfl,ha,q⟩:=z;refine⟨[Dp ns,.int (k:Nat)],.int (EH ns k),H,UD ns k,.cons (Z7 ha) (.cons (by rw[Du]) .nil),.refl _,fun v I H' _ _ _ e g=>?_⟩;rw[Du]at g;subst g;exact q H' e
def Fl(G H H':Hp):Hp:=fun b=>match H' b with
 |some (.tup xs)=>some (.tup xs)
 |some o=>if H b=none then some o else G b
 |none=>none
def Y0{G H H':Hp}{a:AD}{xs:rq}(h:H' a=some (.tup xs)):Fl G H H' a=some (.tup xs):=by unfold Fl;rw[h]
def QO{G H H':Hp}{a:AD}{xs:rq}(h:H' a=some (.lst xs))(h0:H a=none):Fl G H H' a=some (.lst xs):=by unfold Fl;rw[h];exact if_pos h0
def R8{G H H':Hp}(I:AJ G H)(e:AJ H H'):AJ G (Fl G H H')/\Nw G H (Fl G H H')/\AJ (Fl G H H') H':=by
 refine⟨fun a o h=>?_,fun a o h=>?_,fun a o h=>?_⟩
 .have g:=I _ _ h;have O:=e _ _ g;unfold Fl;rw[O];cases o with
  |tup xs=>rfl
  |_=>simp only[g];exact h
 .unfold Fl at h;split at h
  .cases h;exact .inr (.inr ⟨_,rfl⟩)
  .split at h
   .rename_i z;exact .inr (.inl z)
   .exact .inl h
  .cases h
 .unfold Fl at h;cases z:H' a with
  |none=>rw[z]at h;cases h
  |some u=>
   rw[z]at h;cases u with
   |tup xs=>exact h
   |_=>
    simp only at h;split at h
    .exact h
    .rw[<-z];exact e _ _ (I _ _ h)
def HX{G H H':Hp}:∀ {g:List Rat} {xs:List V},Bl H' (BF g) xs->An (Fl G H H') (BF g) xs
 |[],xs,h=>by
  have:=h.len;have e:xs=[]:=au (by simpa[BF]using this);rw[e];exact .nil
 |q::g,xs,h=>by
  obtain⟨x,r,rfl,R,O⟩:=Bl.Zn (d:=BX q) (ds:=BF g) h;obtain⟨p,rfl,I⟩:=R.rat;refine .cons ?_ (HX O);unfold BX;rw[Du];exact⟨p,_,rfl,Y0 I,Vm [q.num,(q.den:Int)]⟩
def S8{G H H':Hp}:∀ {rs:List (List Rat)} {xs:List V},Bl H' (BK rs) xs->(∀b,V.ref b∈xs->H b=none)->An (Fl G H H') (BK rs) xs
 |[],xs,h,_=>by
  have:=h.len;have e:xs=[]:=au (by simpa[BK]using this);rw[e];exact .nil
 |q::I,xs,h,k=>by
  obtain⟨x,r,rfl,T,R⟩:=Bl.Zn (d:=BE q) (ds:=BK I) h;obtain⟨a,g,rfl,ha,O⟩:=DU.ZE (ds:=BF q) T;refine .cons ?_ (S8 R fun b hb=>k b (.tail _ hb));unfold BE;rw[Du];exact⟨a,g,rfl,QO ha (k a (.head _)),HX O⟩
def cX{G H H':Hp}{t:Tb}{v:V}(h:DU H' (Aq t) v)(n:U9 H H' v):Du (Fl G H H') (Aq t) v:=by
 obtain⟨p,R,L,xs,rfl,T,O,h3,h4,h5⟩:=n;obtain⟨p',R',L',U,ys,e,I,g,k3,Z,Y⟩:=h.tab;cases e;rw[T]at I;cases I;rw[O]at g;cases g;unfold Aq;rw[Du];refine⟨p,_,rfl,Y0 T,.cons ?_ (.cons ?_ .nil)⟩
 .rw[Du];exact⟨R,xs,rfl,QO O h3,S8 k3 h5⟩
 .rw[Du];exact⟨L,ys,rfl,QO Z h4,HX Y⟩
def intsOf(xs:rS):rd:=xs.map fun d=>match d with|.int i=>i|_=>0
def Nh(ns:rd):intsOf (ns.map .int)=ns:=by
 unfold intsOf;rw[List.map_map];exact List.map_id'' (fun _=>rfl) ns
open Classical in
noncomputable def R9(ds:rS):rX:=match ds with
 |[.dict [(.none,.list xs)],.int k,.int most]=>if xs=(intsOf xs).map .int/\0<=k/\1<=most/\most<=4 then some (Aq (Qw (EH (intsOf xs) k.toNat) (EH (intsOf xs) (k.toNat+1)) most.toNat)) else none
 |_=>none
def gU(ns:rd)(k most:Nat)(I:1<=most)(g:most<=4):R9 [Dp ns,.int (k:Nat),.int (most:Nat)]=some (Aq (Qw (EH ns k) (EH ns (k+1)) most)):=by
 unfold R9 Dp;refine(if_pos ⟨by rw[Nh],by lia,by lia,by lia⟩).trans ?_;rw[Nh,Int.toNat_natCast,Int.toNat_natCast]
def eI{P:Program}{w:World}{K:Fg}{mg:rW}{base:Heap}{f:AD}{fd:FuncData}{k:Nat}{ps:rf}(F:AI P w K mg base Aa k f fd ps jI):AI P w K mg base Aa k f fd ps (BH R9) :=
 RS F fun ds x hm G H vs Q E d e kk=>by
  unfold R9 at hm;split at hm
  .rename_i xs k most;split at hm
   .rename_i hc;obtain⟨c1,c2,c3,c4⟩:=hc;cases hm;obtain⟨U,r1,rfl,T,d⟩:=d.un;obtain⟨v2,r2,rfl,R,d⟩:=d.un;obtain⟨v3,r3,rfl,O,d⟩:=d.un;rw[d.nil_eq];rw[Du]at R O;subst R;subst O;rw[Du]at T;have ha:∃a:AD,U=.ref a/\Rd G a (.lst ((intsOf xs).map V.int)):=by
     rcases T with h|h|h
     .obtain⟨ea,C,g,_⟩:=h;cases g
     .obtain⟨a,ns,g,e2,h⟩:=h;cases g;exact⟨a,e2,by rw[Nh];exact h⟩
     .exact absurd h (by simp[LO])
    obtain⟨a,rfl,ha⟩:=ha;refine⟨a,intsOf xs,k.toNat,most.toNat,by rw[show((k.toNat:Nat):Int)=k by lia,show((most.toNat:Nat):Int)=most by lia],WZ ha e,by lia,by lia,fun v H' I dt Y=>?_⟩;obtain⟨n1,n2,Z⟩:=R8 e I;exact kk v _ H' n1 n2 Z I (cX dt Y)
   .cases hm
  .cases hm
def XG{c:AD}{O:List V}{H:Hp}(I:H c=some (.lst O)):∀ {rs:List (List Rat)} {g:List V},Bl H (BK rs) g->(∀y∈g,y≠.ref c)->BA c H (BK rs) g
 |[],g,h,_=>by
  have:=h.len;rw[show BK []=[] from rfl,List.length_nil]at this;rw[List.eq_nil_of_length_eq_zero this];exact .nil
 |r::rs,g,h,n=>by
  obtain⟨x,t,rfl,U,T⟩:=Bl.Zn h;obtain⟨a,xs,rfl,ha,dx⟩:=DU.ZE U;exact .cons (lV I (fun z=>n (.ref a) aS (by rw[z])) ha dx) (XG I T fun y R=>n y (aO _ R))
def cU{c:AD}{I:rq}{H H':Hp}(O:H c=some (.lst I))(e:SameBut c H H'){rs:List rp}{g:rq}(h:Bl H (BK rs) g)(n:∀y∈g,y≠.ref c):Bl H' (BK rs) g:=Jy (.but e (XG O h n))
def My(H0 H:Hp)(R L:AD)(xs:rq)(rs:List rp):Prop:=xs.length=rs.length/\∀(i:Nat) (r:List Rat),rs[i]? = some r->∃(a:AD) (g:List V),xs[i]? = some (.ref a)/\H a=some (.lst g)/\Hk H g r/\a≠R/\a≠L/\H0 a=none
def My.same{H0 H H':Hp}{R L:AD}{xs:rq}{rs:List rp}(h:My H0 H R L xs rs)(e:AJ H H'):My H0 H' R L xs rs:=⟨h.1,fun i r hi=>let⟨a,g,U,T,O,I⟩:=h.2 i r hi;⟨a,g,U,e _ _ T,O.A0 (.of e),I⟩⟩
def My.upd{H0 H:Hp}{R L c:AD}{xs us vs:rq}{rs:List rp}(h:My H0 H R L xs rs)(I:H c=some (.lst us))(o:c=R\/c=L):My H0 (upd H c (.lst vs)) R L xs rs:=⟨h.1,fun i r hi=>by
 obtain⟨a,g,h3,Z,Y,U,T,O⟩:=h.2 i r hi;refine⟨a,g,h3,?_,Y.A0 (.upd I),U,T,O⟩;rw[AL (by rcases o with o|o<;>rw[o]<;>assumption)];exact Z⟩
def My.snoc{H0 H:Hp}{R L a:AD}{xs g:rq}{rs:List rp}{r:rp}(h:My H0 H R L xs rs)(ha:H a=some (.lst g))(f:Hk H g r)(T:a≠R)(U:a≠L)(Y:H0 a=none):My H0 H R L (xs++[.ref a]) (rs++[r]):=by
 refine⟨by rw[List.length_append,List.length_append,h.1];rfl,fun i O hi=>?_⟩;by_cases z:i<rs.length
 .rw[List.getElem?_append_left z]at hi;rw[List.getElem?_append_left (by rw[h.1];exact z)];exact h.2 i O hi
 .have I:i-rs.length=0:=by
   have:=(aG.mp hi).1;simp at this
   lia
  rw[List.getElem?_append_right (by lia),I]at hi;rw[List.getElem?_append_right (by rw[h.1];lia),h.1,I];cases hi;exact⟨a,g,rfl,ha,f,T,U,Y⟩
def U0{H:Hp}:∀ {rs:List (List Rat)} {xs:List V},xs.length=rs.length->(∀(i:Nat) (r:List Rat),rs[i]? = some r->∃(a:AD) (I:List V),xs[i]? = some (.ref a)/\H a=some (.lst I)/\Hk H I r)->Bl H (BK rs) xs
 |[],[],_,_=>.nil
 |[],_::_,h,_=>by cases h
 |_::_,[],h,_=>by cases h
 |r::rs,x::xs,h,g=>by
  obtain⟨a,I,T,R,O⟩:=g 0 r rfl;cases T;exact .cons (.lst R O.XF) (U0 (by simpa using h) fun i r hi=>g (i+1) r hi)
def My.XF{H0 H:Hp}{R L:AD}{xs:rq}{rs:List rp}(h:My H0 H R L xs rs):Bl H (BK rs) xs:=U0 h.1 fun i r hi=>let⟨a,g,T,O,I,_⟩:=h.2 i r hi;⟨a,g,T,O,I⟩
def Hk.same{H H':Hp}{g:rq}{I:rp}(h:Hk H g I)(e:AJ H H'):Hk H' g I:=h.A0 (.of e)
section
variable{P:Program}{w:World}{K:Fg}{mg:rW}{base:Heap}{f g1 g2 g3:AD}{fd gd1 gd2 gd3:FuncData}
def Tg:AZ ["_law_script","_law_at","_law_most","_law_number","_law_other","_law_rows","_law_last","_law_many","_law_k","_law_row","_law_j"] ["_law_script","_law_at","_law_most"] (AM J5):=B5
def Te(F:Fn K mg "_law_table" J5 ["_law_script","_law_at","_law_most"] f fd)(D6:Fn K mg "_law_cell" IK ["_law_script","_law_k"] g1 gd1)(Er:Fn K mg "_law_entry" KS ["_law_number"] g2 gd2)(HI:Fn K mg "_law_named" KQ ["_law_number"] g3 gd3) (Ee:AI P w K mg base Aa 3 g1 gd1 ["_law_script","_law_k"] k7)(KO:AI P w K mg base Aa 3 g2 gd2 ["_law_number"] mI)(KC:AI P w K mg base Aa 3 g3 gd3 ["_law_number"] kO)(Cb:mg "range" = none)(BI:mg "len" = none):AI P w K mg base Aa 4 f fd ["_law_script","_law_at","_law_most"] jI:=by
 have sc:=Tg;refine F.F.ok (k:=3) sc (fun vs H Q E h=>?_) (fun cdv A outer s H vs Q E hr h=>?_)
 .obtain⟨a,ns,k,most,rfl,_⟩:=h
  rfl
 obtain⟨a,ns,k,most,rfl,ha,m1,m4,q⟩:=h;refine⟨_,(AX (A8 (i:=3) sc.nd rfl (Or.inl rfl) (Cu D6 Ee hr rfl (AK (pv 0) (AK (pv 1) AY))))
 (AX (A8 (i:=4) sc.nd rfl (Or.inl rfl) (Cu D6 Ee hr rfl (AK (pv 0) (AK (BO NK (pv 1) Ar) AY))))
 (AX (Gi (Dk Tq (BO Nr (pv 3) Ar) Ar (Ay _))
  (AX (UN (Cu HI KC hr rfl (AK (BO GN (pv 3) Ar) AY)) (NV rfl (Ef (BJ (i:=5) sc.nd rfl (Or.inl rfl)) (Ef (BJ (i:=6) sc.nd rfl (Or.inl rfl)) LK))))
  (AX (Gi (Dk QN (Ct HK rfl BI aZ (AK (pv 5) AY)) (pv 2) (Ay _))
   (A3 (Ca (Jn (AK (FX (AK (FX AY) AY)) (AK (FX (AK (Jn (AK Ar (AK Ar AY))) AY)) AY)))))
   EL)
  (AX (Gi (Dk Tq (BO Nr (BO GN (pv 3) Ar) Ar) Ar (Ay _))
   (A3 (UN (Cu Er KO hr rfl (AK (pv 4) AY)) (Zt (pv 6) (BO Lz (BO GN (pv 3) Ar) (Ct HK rfl BI aZ (AK (pv 6) AY))) set_list)))
   EL)
  (A3 (Ca (Jn (AK (pv 5) (AK (pv 6) AY))))))))
  EL)
 (AX (A8 (i:=5) sc.nd rfl (Or.inl rfl) (FX AY))
 (AX (A8 (i:=6) sc.nd rfl (Or.inl rfl) (FX AY))
 (AX (A8 (i:=7) sc.nd rfl (Or.inl rfl) (BO NK Ar (BO Lz (BO GN (pv 3) Ar) (pv 2))))
 (AX (A8 (i:=3) sc.nd rfl (Or.inl rfl) (BO GN (pv 3) Ar))
 (AX (IP aQ rfl (NF rfl Cb (AK (pv 7) AY)) (BJ (i:=8) sc.nd rfl (Or.inl rfl))
  (AX (A8 (i:=9) sc.nd rfl (Or.inl rfl) (FX AY))
  (AX (IP aQ rfl (NF rfl Cb (AK (pv 8) AY)) (BJ (i:=10) sc.nd rfl (Or.inl rfl))
   (AX (DJ (HJ aa az bA FH (pv 9) (AK (Cu Er KO hr rfl (AK (pv 3) AY)) AY)))
   (A3 (A8 (i:=3) sc.nd rfl (Or.inl rfl) (BO GN (pv 3) Ar)))))
  (AX (DJ (HJ aa az bA FH (pv 5) (AK (pv 9) AY)))
  (AX (DJ (HJ aa az bA FH (pv 6) (AK (Cu Er KO hr rfl (AK (pv 4) AY)) AY)))
  (A3 (A8 (i:=4) sc.nd rfl (Or.inl rfl) (BO GN (pv 4) Ar))))))))
 (A3 (Ca (Jn (AK (pv 5) (AK (pv 6) AY))))))))))))),?_⟩
 refine⟨_,rfl,_,rfl,a,ns,k,rfl,ha,fun H1 e1=>?_⟩;refine⟨_,rfl,_,rfl,_,_,rfl,rfl,a,ns,k+1,rfl,WZ ha e1,fun H2 e2=>?_⟩;generalize EH ns k=I at q ⊢;generalize EH ns (k+1)=x1 at q ⊢;have E2:=e1.trans e2;refine⟨_,rfl,_,_,rfl,rfl,(by show(0:Int)<4;decide),rfl,_,rfl,KJ (fun c=>?_) (fun c=>?_)⟩
 .have c':I % 4=0:=by simpa using c
  refine⟨_,rfl,_,_,rfl,rfl,⟨by decide,by decide⟩,I / 4,rfl,fun v H3 e3 dt nt=>?_⟩;unfold Qw at q;rw[if_pos c']at q;obtain⟨ot,st⟩:=Rn (a9 (I / 4));generalize GY (I / 4)=t at dt q ot st;obtain⟨p,R,L,xs,ys,rfl,hp,hR,dR,hL,dL⟩:=dt.tab;obtain⟨p',R',L',xs',e',n1,n2,n3,n4,n5⟩:=nt;cases e';rw[hp]at n1;cases n1;rw[hR]at n2;cases n2;have hLn:H2 L=none:=n4;have hyl:ys.length=t.ls.length:=by rw[dL.len,FI]
  have hxl:xs.length=t.rs.length:=by rw[dR.len,Gn]
  have o1:=ot.one;have o2:=ot.last;have E3:=E2.trans e3;refine⟨p,_,rfl,BC.of hp,rfl,_,_,rfl,_,_,rfl,rfl,?_⟩;refine⟨_,rfl,_,_,rfl,.inl (Al.of hR),_,rfl,_,_,rfl,rfl,_,rfl,KJ (fun c2=>?_) (fun c2=>?_)⟩
  .have c2':t.rs.length > most:=by have:=aw c2;lia
   rw[if_pos c2']at q;refine⟨(by show 0<=sizeLine;decide),fun p1 hp1=>?_⟩;have f1:=Ac hp1 (.lst []);have g1:upd H3 p1 (.lst []) p1=some (.lst []):=AN;generalize upd H3 p1 (.lst [])=I1 at f1 g1;refine⟨(by show 1<=sizeLine;decide),fun Y O=>?_⟩;have f2:=Ac O (.lst [V.ref p1]);have g2:upd I1 Y (.lst [V.ref p1]) Y=some (.lst [V.ref p1]):=AN;generalize upd I1 Y (.lst [V.ref p1])=I2 at f2 g2;refine⟨Oj,fun p3 hp3=>?_⟩;have f3:=Ac hp3 (.tup [V.int 1,V.int 1]);have g3:upd I2 p3 (.tup [V.int 1,V.int 1]) p3=some (.tup (M7 q1)):=AN;generalize upd I2 p3 (.tup [V.int 1,V.int 1])=I3 at f3 g3;refine⟨(by show 1<=sizeLine;decide),fun p4 hp4=>?_⟩;have f4:=Ac hp4 (.lst [V.ref p3]);have g4:upd I3 p4 (.lst [V.ref p3]) p4=some (.lst [V.ref p3]):=AN;generalize upd I3 p4 (.lst [V.ref p3])=I4 at f4 g4;refine⟨Oj,fun p5 hp5=>?_⟩;have f5:=Ac hp5 (.tup [V.ref Y,V.ref p4]);have g5:upd I4 p5 (.tup [V.ref Y,V.ref p4]) p5=some (.tup [V.ref Y,V.ref p4]):=AN;generalize upd I4 p5 (.tup [V.ref Y,V.ref p4])=I5 at f5 g5;have F35:=(f3.trans f4).trans f5;exact q _ I5 (((E3.trans f1).trans f2).trans F35) (Qk g5 (F35 _ _ g2) (.cons (.lst ((f2.trans F35) _ _ g1) .nil) .nil) (f5 _ _ g4) (.cons (VH ((f4.trans f5) _ _ g3)) .nil)) ⟨p5,Y,p4,[V.ref p1],rfl,g5,F35 _ _ g2,EG (E3.trans f1) O,EG ((E3.trans f1).trans (f2.trans f3)) hp4,fun b hb=>by rw[List.mem_singleton]at hb;cases hb;exact EG E3 hp1⟩
  have c2':¬t.rs.length > most:=fun z=>c2 (decide_eq_true (by lia));rw[if_neg c2']at q;refine⟨_,rfl,_,_,rfl,rfl,⟨by decide,by decide⟩,_,_,rfl,rfl,(by show(0:Int)<3;decide),rfl,_,rfl,KJ (fun c3=>?_) (fun c3=>?_)⟩
  .have c3':I / 20 % 3=0:=by simpa using c3
   rw[if_pos c3',<-hyl]at q;refine⟨_,rfl,x1,rfl,fun l Z g hl4=>?_⟩;have hL4:=g _ _ hL;have hyp:(0:Int)<((ys.length:Nat):Int):=by lia
   have i1:0<=(I / 60).fmod ((ys.length:Nat):Int):=Int.fmod_nonneg_of_pos _ hyp;have i2:(I / 60).fmod ((ys.length:Nat):Int)<((ys.length:Nat):Int):=Int.fmod_lt_of_pos _ hyp;refine⟨_,rfl,_,rfl,_,_,rfl,rfl,⟨by decide,by decide⟩,_,rfl,_,_,rfl,.inl (Al.of hL4),_,_,rfl,rfl,(by show((ys.length:Nat):Int)≠0;lia),L,ys,_,((I / 60).fmod ((ys.length:Nat):Int)).toNat,rfl,rfl,hL4,(by unfold Oo;rw[if_pos i1,if_pos i2]),?_⟩;have hj:((I / 60).fmod ((ys.length:Nat):Int)).toNat<t.ls.length:=by lia
   generalize ((I / 60).fmod ((ys.length:Nat):Int)).toNat=j at hj q ⊢;generalize Oq x1=q4 at q hl4;have nR:∀y∈xs,y≠V.ref L:=fun y hy z=>by
    subst z;obtain⟨i,hi⟩:=List.getElem?_of_mem hy;have hil:i<t.rs.length:=by have:=(aG.mp hi).1;lia
    obtain⟨a',zs,k1,k2,k3⟩:=L9 dR (aN hil);rw[hi]at k1;cases k1;rw[hL]at k2;cases k2;have:=k3.len;rw[FI,ot.row i _ (aN hil)]at this
    lia
   have nRL:R≠L:=fun z=>by
    subst z;rw[hR]at hL;cases hL;obtain⟨a',zs,k1,k2,k3⟩:=L9 dR (aN (show 0<t.rs.length by lia));obtain⟨p',k4,k5⟩:=JN dL (aN (show 0<t.ls.length by lia));rw[k1]at k4;cases k4;rw[k2]at k5;cases k5
   have u:SameBut L Z (upd Z L (.lst (ys.set j (.ref l)))):=.upd;have dL':=b7 hL4 u (show Bl Z (BF (t.ls.set j q4)) (ys.set j (.ref l)) by
    rw[BF,List.map_set];exact .set (VH hl4) (dL.same g))
   have dR':=cU hL4 u (dR.same g) nR;have hR':upd Z L (.lst (ys.set j (.ref l))) R=some (.lst xs):=by rw[AL nRL];exact g _ _ hR
   have hL':upd Z L (.lst (ys.set j (.ref l))) L=some (.lst (ys.set j (.ref l))):=AN;have E5:AJ H (upd Z L (.lst (ys.set j (.ref l)))):=fun b o zz=>by
    rw[AL (AU (E2 _ _ zz) hLn)];exact g _ _ (E3 _ _ zz)
   generalize upd Z L (.lst (ys.set j (.ref l)))=H5 at dL' dR' hR' hL' E5;refine⟨_,rfl,_,rfl,Oj,fun Y O=>?_⟩;have e6:=Ac O (.tup [V.ref R,V.ref L]);exact q _ _ (E5.trans e6) (Qk AN (e6 _ _ hR') (dR'.same e6) (e6 _ _ hL') (dL'.same e6)) ⟨Y,R,L,xs,rfl,AN,e6 _ _ hR',EG E2 n3,EG E2 n4,fun b hb=>EG E2 (n5 b hb)⟩
  .refine⟨_,rfl,_,rfl,Oj,fun Y O=>?_⟩;have g:=Ac O (.tup [V.ref R,V.ref L]);have c3':¬I / 20 % 3=0:=by simpa using c3
   rw[if_neg c3']at q;exact q _ _ (E3.trans g) (Qk AN (g _ _ hR) (dR.same g) (g _ _ hL) (dL.same g)) ⟨Y,R,L,xs,rfl,AN,g _ _ hR,EG E2 n3,EG E2 n4,fun b hb=>EG E2 (n5 b hb)⟩
 .have c':¬I % 4=0:=by simpa using c
  unfold Qw at q;rw[if_neg c']at q;refine⟨(by show 0<=sizeLine;decide),fun R hR=>?_⟩;have f1:=Ac hR (.lst []);have g1:upd H2 R (.lst []) R=some (.lst []):=AN;generalize upd H2 R (.lst [])=I1 at f1 g1;refine⟨(by show 0<=sizeLine;decide),fun L hL=>?_⟩;have f2:=Ac hL (.lst []);have g2:upd I1 L (.lst []) L=some (.lst []):=AN;generalize upd I1 L (.lst [])=I2 at f2 g2;have nRL:R≠L:=AU g1 hL;have hL2:H2 L=none:=EG f1 hL;have m0:(most:Int)≠0:=by lia
  refine⟨_,rfl,_,_,rfl,rfl,⟨by decide,by decide⟩,_,rfl,_,_,rfl,rfl,m0,_,_,rfl,rfl,?_⟩;obtain⟨many,hn1,hn4,em⟩:∃many:Nat,1<=many/\many<=most/\1+(I / 4).fmod most=(many:Int):=by
   have e:=Int.fmod_eq_emod_of_nonneg (I / 4) (show(0:Int)<=(most:Int) by lia);have a:=Int.emod_nonneg (I / 4) m0;have b:=Int.emod_lt_of_pos (I / 4) (show(0:Int)<(most:Int) by lia);exact⟨(1+(I / 4).fmod most).toNat,by lia,by lia,by lia⟩
  rw[em,Int.toNat_natCast]at q;rw[show((fun i j:Int=>V.int (i+j)) 1 ((I / 4).fmod most))=V.int (many:Int) from bI V.int em];refine⟨_,rfl,_,_,rfl,rfl,⟨by decide,by decide⟩,?_⟩;refine⟨_,rfl,(many:Int),rfl,by lia,by lia,Sa (n:=(many:Int).toNat) (fun i σ H'=>∃(r8 r9 U:Option V) (xs ys:List V),σ=[some (.ref a),some (.int (k:Int)),some (.int most),some (.int (Ru (I / 16) i)),some (.int (Ii x1 i)),some (.ref R),some (.ref L),some (.int many),r8,r9,U]/\AJ H2 H'/\H' R=some (.lst xs)/\H' L=some (.lst ys)/\My H2 H' R L xs ((List.range i).map (ZM (I / 16)))/\Hk H' ys ((List.range i).map fun j=>Oq (Ii x1 j))) ?_ ?_ ?_⟩
  .exact⟨_,_,_,[],[],rfl,f1.trans f2,f2 _ _ g1,g2,⟨rfl,fun i r z=>by simp at z⟩,⟨rfl,fun i r z=>by simp at z⟩⟩
  .rintro i σ H3 hi ⟨r8,r9,U,xs,ys,rfl,e3,hR3,hL3,T,fl3⟩;have hrl:((List.range i).map (ZM (I / 16))).length=i:=by simp
   have hll:((List.range i).map fun j=>Oq (Ii x1 j)).length=i:=by simp
   refine⟨(by show 0<=sizeLine;decide),fun A hA=>?_⟩;have f3:=Ac hA (.lst []);have g3:upd H3 A (.lst []) A=some (.lst []):=AN;generalize upd H3 A (.lst [])=I3 at f3 g3;have nAR:A≠R:=(AU hR3 hA).symm;have nAL:A≠L:=(AU hL3 hA).symm;refine⟨_,rfl,0+(i:Int),rfl,by lia,by lia,Sa (n:=(0+(i:Int)).toNat) (fun j σ H'=>∃(U:Option V) (zs:List V),σ=[some (.ref a),some (.int (k:Int)),some (.int most),some (.int (Ii (Ru (I / 16) i) j)),some (.int (Ii x1 i)),some (.ref R),some (.ref L),some (.int many),some (.int (0+(i:Int))),some (.ref A),U]/\AJ H3 H'/\H' A=some (.lst zs)/\Hk H' zs ((List.range j).map fun l=>Oq (Ii (Ru (I / 16) i) l))) ?_ ?_ ?_⟩
   .exact⟨_,[],rfl,f3,g3,⟨rfl,fun i r z=>by simp at z⟩⟩
   .rintro j σ Z hj ⟨U,zs,rfl,g,hA4,fz⟩;have hl:=fz.1;rw[List.length_map,List.length_range]at hl;refine⟨_,rfl,.inl ⟨rfl,_,Al.of hA4⟩,_,rfl,Ii (Ru (I / 16) i) j,rfl,fun l H5 e5 hl5=>?_⟩;have hA5:=e5 _ _ hA4;refine⟨A,zs,_,rfl,rfl,hA5,PU (n:=60) (by lia) (by decide),?_⟩;refine⟨_,rfl,_,_,rfl,rfl,⟨by decide,by decide⟩,_,zs++[.ref l],rfl,fun b o zz=>?_,AN,?_⟩
    .rw[AL (AU zz hA)];exact e5 _ _ (g _ _ zz)
    .rw[List.range_succ,List.map_append];exact((fz.same e5).snoc hl5).A0 (.upd hA5)
   .rintro σ Z ⟨U,zs,rfl,g,hA4,fz⟩;rw[show(0+(i:Int)).toNat=i by lia]at fz ⊢;have hR4:=g _ _ hR3;have hxl:=T.1;have hyl:=fl3.1;refine⟨_,rfl,.inl ⟨rfl,_,Al.of hR4⟩,_,rfl,R,xs,_,rfl,rfl,hR4,PU (n:=60) (by lia) (by decide),?_⟩;have rw4:=((T.same g).snoc hA4 fz nAR nAL (EG e3 hA)).upd (vs:=xs++[.ref A]) hR4 (.inl rfl);have fl4:=(fl3.same g).A0 (Jx.upd (o:=.lst (xs++[.ref A])) hR4);have hR5:upd Z R (.lst (xs++[.ref A])) R=some (.lst (xs++[.ref A])):=AN;have hL5:upd Z R (.lst (xs++[.ref A])) L=some (.lst ys):=by rw[AL nRL.symm];exact g _ _ hL3
    have e5:AJ H2 (upd Z R (.lst (xs++[.ref A]))):=fun b o zz=>by rw[AL (AU zz hR)];exact g _ _ (e3 _ _ zz)
    generalize upd Z R (.lst (xs++[.ref A]))=H5 at rw4 fl4 hR5 hL5 e5;refine⟨_,rfl,.inl ⟨rfl,_,Al.of hL5⟩,_,rfl,Ii x1 i,rfl,fun l H6 e6 hl6=>?_⟩;have hL6:=e6 _ _ hL5;refine⟨L,ys,_,rfl,rfl,hL6,PU (n:=60) (by lia) (by decide),?_⟩;refine⟨_,rfl,_,_,rfl,rfl,⟨by decide,by decide⟩,_,_,_,xs++[.ref A],ys++[.ref l],rfl,fun b o zz=>?_,?_,AN,?_,?_⟩
    .rw[AL (AU zz hL2)];exact e6 _ _ (e5 _ _ zz)
    .rw[AL nRL];exact e6 _ _ hR5
    .rw[List.range_succ,List.map_append];exact(rw4.same e6).upd hL6 (.inr rfl)
    .rw[List.range_succ,List.map_append];exact((fl4.same e6).snoc hl6).A0 (.upd hL6)
  rintro σ H3 ⟨r8,r9,U,xs,ys,rfl,e3,hR3,hL3,T,fl3⟩;rw[Int.toNat_natCast]at T fl3;refine⟨_,rfl,_,rfl,Oj,fun Y O=>?_⟩;have g:=Ac O (.tup [V.ref R,V.ref L]);refine q _ _ ((E2.trans e3).trans g) (Qk AN (g _ _ hR3) (T.XF.same g) (g _ _ hL3) (fl3.XF.same g)) ⟨Y,R,L,xs,rfl,AN,g _ _ hR3,EG E2 hR,EG E2 hL2,fun b hb=>?_⟩;obtain⟨i,hi⟩:=List.getElem?_of_mem hb;have hil:=(aG.mp hi).1;have h1:=T.1;obtain⟨a',zs,k1,k2,k3,_,_,k4⟩:=T.2 i _ (aN (by lia));rw[hi]at k1;cases k1;exact EG E2 k4
end
def jd(g R:Int){most:Nat}(h1:1<=most)(h4:most<=4):(Qw g R most).Ok 4/\(Qw g R most).Sm:=by
 unfold Qw;split
 .obtain⟨I,st⟩:=Rn (a9 (g / 4));split
  .exact Rn (by decide +kernel)
  .split
   .refine⟨⟨I.one,I.most,by show(List.set _ _ _).length=_;rw[List.length_set];exact I.last,I.row⟩,st.1,fun q O=>?_⟩;rcases List.mem_or_eq_of_mem_set O with h|h
    .exact st.2 q h
    .rw[h];exact Ua R
   .exact⟨I,st⟩
 .have e:=Int.fmod_eq_emod_of_nonneg (g / 4) (show(0:Int)<=(most:Int) by lia);have a:=Int.emod_nonneg (g / 4) (show(most:Int)≠0 by lia);have b:=Int.emod_lt_of_pos (g / 4) (show(0:Int)<(most:Int) by lia);have Y:1<=(1+(g / 4).fmod (most:Nat)).toNat:=by lia
  have U:(1+(g / 4).fmod (most:Nat)).toNat<=4:=by lia
  generalize (1+(g / 4).fmod (most:Nat)).toNat=many at Y U;refine⟨⟨by show 1<=(List.map _ _).length;simpa using Y,by show(List.map _ _).length<=4;simpa using U,by show(List.map _ _).length=(List.map _ _).length;simp,fun i r hi=>?_⟩,fun r Z q O=>?_,fun q O=>?_⟩
  .have hi:((List.range many).map (ZM (g / 16)))[i]? = some r:=hi;rw[List.getElem?_map]at hi;obtain⟨j,T,rfl⟩:=aC.mp hi;have hl:=(aG.mp T).1;rw[List.getElem?_range (by simpa using hl)]at T;cases T;unfold ZM;simp
  .obtain⟨i,_,rfl⟩:=aT.mp Z;obtain⟨j,_,rfl⟩:=aT.mp O;exact Ua _
  .obtain⟨j,_,rfl⟩:=aT.mp O;exact Ua _
section
variable{P:Program}{w:World}{K:Fg}{mg:rW}{base:Heap}{f:AD}{fd:FuncData}
def O9:AZ ["thing"] ["thing"] (AM MI):=B5
def Xu:DF :=
 (BW (SU (IC Q2 (nm 0)) (qa (IC OD (nm 0)))))
def Cs:MD:=C8 ["thing"] ["thing"] (Xu)
def V5{k:Nat}(F:Fn K mg "is_whole" MI ["thing"] f fd)(O:mg "bool" = none)(I:mg "int" = none)(g:mg "isinstance" = none):AI P w K mg base Aa (k+1) f fd ["thing"] (BH (Cs)):=F0 F O9 fun cdv A outer s H E R=>by
 have sc:=O9;exact(AO (Av (Nm (Ew (PX _) rfl g rfl I PyProof.Rows.boot_int (AE (pv 0))) (RM (jt (Ew (NH _) rfl g rfl O PyProof.Rows.boot_bool (AE (pv 0))))))))
def LM:AZ ["thing"] ["thing"] (AM Ik):=B5
def Mk(g:MD)(Cs:MD):DF :=
 (Au (Fo (HA (Eg (Dw (IC Nl (nm 0)))) (CS (EJ true) (AV FT (AB (nm 0) AG)) (fC (.int 2))))
  (BW (fC (.bool false)))
  DC)
 (Au (Fo (HA (Eg (Dw (AV Cs (AB (Ax Ge (nm 0) (fC (.int 0))) AG)))) (Eg (Dw (AV Cs (AB (Ax Ge (nm 0) (fC (.int 1))) AG)))))
  (BW (fC (.bool false)))
  DC)
 (BW (SU (Ax (Fi fun i j=>decide (j<=i)) (Ax Ge (nm 0) (fC (.int 1))) (fC (.int 1))) (Ax (EJ false) (AV g (AB (Ax Ge (nm 0) (fC (.int 0))) (AB (Ax Ge (nm 0) (fC (.int 1))) AG))) (fC (.int 1)))))))
def CO(g:MD)(Cs:MD):MD:=C8 ["thing"] ["thing"] (Mk g Cs)
def Rx{k:Nat}{Z:MD}{Cs:MD}(F:Fn K mg "is_fraction" Ik ["thing"] f fd) {T:AD}{U:FuncData}(BQ:Fn K mg "greatest_divisor" DZ ["one","other"] T U)(B8:AI P w K mg base Aa k T U ["one","other"] (BH Z)) {I:AD}{O:FuncData}(Y:Fn K mg "is_whole" MI ["thing"] I O)(R:AI P w K mg base Aa k I O ["thing"] (BH Cs))(AR:mg "isinstance" = none)(BI:mg "len" = none)(B1:mg "tuple" = none):AI P w K mg base Aa (k+1) f fd ["thing"] (BH (CO Z Cs)):=F0 F LM fun cdv A outer s H E g=>by
 have sc:=LM;exact(AQ (DP (DW.dt (EW (Cf (CF (Ew (L3 _) rfl AR rfl B1 bH (AE (pv 0))))) (Dg (Bm (K3 (by have:=g.units;exact this)) (B6 Ea rfl BI aZ (AA (AE (pv 0)) AF)) AH (Ay _)))))
  (AO (Av Cj))
  Bu)
 (AQ (DP (DW.dt (EW (Cf (CF (Ag Y R g rfl (AA (Ek (AE (pv 0)) AH (fun _ _=>rfl)) AF)))) (Dg (Cf (CF (Ag Y R g rfl (AA (Ek (AE (pv 0)) AH (fun _ _=>rfl)) AF)))))))
  (AO (Av Cj))
  Bu)
 (AO (Av (Nm (LN ec (Ek (AE (pv 0)) AH (fun _ _=>rfl)) AH (Ay _)) (RM (LN (HW (by have:=g.units;exact this)) (Ag BQ B8 g rfl (AA (Ek (AE (pv 0)) AH (fun _ _=>rfl)) (AA (Ek (AE (pv 0)) AH (fun _ _=>rfl)) AF))) AH (Ay _))))))))
def Jk:AZ ["thing","part"] ["thing"] (AM EZ):=B5
def Kw(CO:MD):DF :=
 (Au (Fo (Eg (Dw (IC Qr (nm 0))))
  (BW (fC (.bool false)))
  DC)
 (Au (FV (EF (nm 0)) (GQ 1)
  (Fo (Eg (Dw (AV CO (AB (nm 1) AG))))
   (BW (fC (.bool false)))
   DC))
 (BW (fC (.bool true)))))
def Ab(CO:MD):MD:=C8 ["thing"] ["thing","part"] (Kw CO)
def Pa{k:Nat}{CO:MD}(F:Fn K mg "are_fractions" EZ ["thing"] f fd) {g:AD}{I:FuncData}(T:Fn K mg "is_fraction" Ik ["thing"] g I)(R:AI P w K mg base Aa k g I ["thing"] (BH CO))(Y:mg "isinstance" = none)(U:mg "list" = none):AI P w K mg base Aa (k+1) f fd ["thing"] (BH (Ab CO)):=F0 F Jk fun cdv A outer s H E O=>by
 have sc:=Jk;exact(AQ (DP (Cf (CF (Ew (QB _) rfl Y rfl U bR (AE (pv 0)))))
  (AO (Av Cj))
  Bu)
 (AQ (EV aQ rfl (Dc (AE (pv 0))) (Eu (BJ (i:=1) sc.nd rfl (Or.inl rfl)))
  (AO (DP (Cf (CF (Ag T R O rfl (AA (AE (pv 1)) AF))))
   (AO (Av Cj))
   Bu)))
 (AO (Av Cj))))
def Oh:AZ ["thing","k","row"] ["thing"] (AM MT):=B5
def Qa(Ab:MD):DF :=
 (Au (Fo (HA (Eg (Dw (IC Qr (nm 0)))) (HA (CS (Fi fun i j=>decide (i<j)) (AV FT (AB (nm 0) AG)) (fC (.int 1))) (CS (Fi fun i j=>decide (j<i)) (AV FT (AB (nm 0) AG)) (fC (.int 40)))))
  (BW (fC (.bool false)))
  DC)
 (Au (FV (Kf QP (AB (nm 0) AG)) (Vg 1 2)
  (Fo (HA (Eg (Dw (AV Ab (AB (nm 2) AG)))) (CS (EJ true) (AV FT (AB (nm 2) AG)) (nm 1)))
   (BW (fC (.bool false)))
   DC))
 (BW (fC (.bool true)))))
def D3(Ab:MD):MD:=C8 ["thing"] ["thing","k","row"] (Qa Ab)
def V7{k:Nat}{Ab:MD}(F:Fn K mg "are_rows" MT ["thing"] f fd) {R:AD}{T:FuncData}(Bk:Fn K mg "are_fractions" EZ ["thing"] R T)(B0:AI P w K mg base Aa k R T ["thing"] (BH Ab))(Z:mg "enumerate" = none)(AR:mg "isinstance" = none)(I:mg "len" = none)(Y:mg "list" = none){g:Tok}(U:mg "MOST_ROWS" = some (.int 40 g)):AI P w K mg base Aa (k+1) f fd ["thing"] (BH (D3 Ab)):=F0 F Oh fun cdv A outer s H E O=>by
 have sc:=Oh;exact(AQ (DP (DW.dt (EW (Cf (CF (Ew (QB _) rfl AR rfl Y bR (AE (pv 0))))) (EW (Bm Tz (B6 Ea rfl I aZ (AA (AE (pv 0)) AF)) AH (Ay _)) (Dg (Bm OM (B6 Ea rfl I aZ (AA (AE (pv 0)) AF)) (P4 rfl U) (Ay _))))))
  (AO (Av Cj))
  Bu)
 (AQ (EV aQ rfl (SK rfl Z (AA (AE (pv 0)) AF)) (VT (NV rfl (Ef (BJ (i:=1) sc.nd rfl (Or.inl rfl)) (Ef (BJ (i:=2) sc.nd rfl (Or.inl rfl)) LK))))
  (AO (DP (DW.dt (EW (Cf (CF (Ag Bk B0 O rfl (AA (AE (pv 2)) AF)))) (Dg (Bm (K3 (by have:=O.units;exact this)) (B6 Ea rfl I aZ (AA (AE (pv 2)) AF)) (AE (pv 1)) (Ay _)))))
   (AO (Av Cj))
   Bu)))
 (AO (Av Cj))))
def O7:AZ ["thing"] ["thing"] (AM MF):=B5
def RK(Ab:MD)(D3:MD):DF :=
 (Au (Fo (HA (Eg (Dw (IC Nl (nm 0)))) (CS (EJ true) (AV FT (AB (nm 0) AG)) (fC (.int 2))))
  (BW (fC (.bool false)))
  DC)
 (BW (SU (AV D3 (AB (Ax Ge (nm 0) (fC (.int 0))) AG)) (SU (AV Ab (AB (Ax Ge (nm 0) (fC (.int 1))) AG)) (Ax (EJ false) (AV FT (AB (Ax Ge (nm 0) (fC (.int 1))) AG)) (AV FT (AB (Ax Ge (nm 0) (fC (.int 0))) AG)))))))
def D0(Ab:MD)(D3:MD):MD:=C8 ["thing"] ["thing"] (RK Ab D3)
def WE{k:Nat}{Ab:MD}{D3:MD}(F:Fn K mg "is_table" MF ["thing"] f fd) {T:AD}{U:FuncData}(Bk:Fn K mg "are_fractions" EZ ["thing"] T U)(B0:AI P w K mg base Aa k T U ["thing"] (BH Ab)) {O:AD}{R:FuncData}(Z:Fn K mg "are_rows" MT ["thing"] O R)(Y:AI P w K mg base Aa k O R ["thing"] (BH D3))(AR:mg "isinstance" = none)(I:mg "len" = none)(B1:mg "tuple" = none):AI P w K mg base Aa (k+1) f fd ["thing"] (BH (D0 Ab D3)):=F0 F O7 fun cdv A outer s H E g=>by
 have sc:=O7;exact(AQ (DP (DW.dt (EW (Cf (CF (Ew (L3 _) rfl AR rfl B1 bH (AE (pv 0))))) (Dg (Bm (K3 (by have:=g.units;exact this)) (B6 Ea rfl I aZ (AA (AE (pv 0)) AF)) AH (Ay _)))))
  (AO (Av Cj))
  Bu)
 (AO (Av (Nm (Ag Z Y g rfl (AA (Ek (AE (pv 0)) AH (fun _ _=>rfl)) AF)) (Nm (Ag Bk B0 g rfl (AA (Ek (AE (pv 0)) AH (fun _ _=>rfl)) AF)) (RM (LN (HW (by have:=g.units;exact this)) (B6 Ea rfl I aZ (AA (Ek (AE (pv 0)) AH (fun _ _=>rfl)) AF)) (B6 Ea rfl I aZ (AA (Ek (AE (pv 0)) AH (fun _ _=>rfl)) AF)) (Ay _))))))))
end
def kq(ds:rS):rX:=match ds with
 |[.int a,.int b]=>some (.int (FM.gi a b))
 |_=>none
def pS{P:Program}{w:World}{K:Fg}{mg:rW}{base:Heap}{f:AD}{fd:FuncData}{k:Nat}{ps:rf}(F:AI P w K mg base Aa k f fd ps YT):AI P w K mg base Aa k f fd ps (BH kq) :=
 RS F fun U x hm G H vs Q E d e O=>by
  unfold kq at hm;split at hm
  .cases hm;obtain⟨T,R,rfl,I,g⟩:=d.Va;rw[Du]at I g;subst I g;exact⟨_,_,rfl,O _ G H (.refl _) Nw.refl e (.refl _) (by rw[Du])⟩
  .cases hm
abbrev pA:MD:=CO kq Cs
abbrev fe:MD:=Ab pA
abbrev o6:MD:=D3 fe
abbrev kx:MD:=D0 fe o6
def Qo{f g:rQ}{δ:Dv}{r:rX}(h:f δ=some (.bool true))(k:g δ=r):SU f g δ=r:=by
 show(f δ).bind _=_;rw[h];exact k
def L0(z:Int):EJ true (.int z) (.int z)=some (.bool false):=ne_self (Ok.int (n:=0)) (by decide)
def Zp(z:Int):EJ false (.int z) (.int z)=some (.bool true):=UK (Ok.int (n:=0)) (by decide)
def oX(q:Rat):pA [BX q]=some (.bool true):=by
 refine C5 rfl ?_;unfold Mk;have hd:=q.den_nz;have hg:FM.gi q.num (q.den:Int)=1:=by
  have k:=q.reduced;unfold FM.gi;unfold Nat.Coprime at k;rw[show q.num.gcd (q.den:Int)=1 from k]
  rfl
 have g:∀z:Int,Cs [.int z]=some (.bool true):=fun _=>rfl;refine Af (Ci (El rfl (CL (x:=.int 2) (y:=.int 2) rfl rfl (L0 2))) rfl) (Af (Ci (El (Fd (Ex (A4 (xs:=[.int q.num]) rfl (g _)))) (Fd (Ex (A4 (xs:=[.int (q.den:Int)]) rfl (g _))))) rfl) (Ez (Qo (BL (x:=.int (q.den:Int)) (y:=.int 1) rfl rfl ?_) (BL (x:=.int 1) (y:=.int 1) (A4 (xs:=[.int q.num,.int (q.den:Int)]) rfl ?_) rfl (Zp 1)))))
 .show some (PyData.bool (decide ((1:Int)<=(q.den:Int))))=_;rw[decide_eq_true (by lia)]
 .show some (PyData.int (FM.gi q.num (q.den:Int)))=_;rw[hg]
def Xb(g:rp):fe [.list (g.map BX)]=some (.bool true):=by
 refine C5 rfl ?_;unfold Kw;refine Af (δ':=[.d (.list (g.map BX)),.no]) (Ci rfl rfl) ?_;refine Px (xs:=g.map BX) (fun i δ=>∃l:L,δ=[.d (.list (g.map BX)),l]) rfl ⟨_,rfl⟩ ?_ ?_
 .rintro i x δ O ⟨l,rfl⟩;obtain⟨q,_,rfl⟩:=aT.mp (aW O);exact⟨_,rfl,_,Ci (Fd (Ex (A4 (xs:=[BX q]) rfl (oX q)))) rfl,_,rfl⟩
 .rintro δ ⟨l,rfl⟩
  rfl
def oU{t:Tb}{m:Nat}(o:t.Ok m)(hm:m<=40):o6 [.list (BK t.rs)]=some (.bool true):=by
 have h1:=o.one;have Z:=o.most;have Y:=Gn t.rs;refine C5 rfl ?_;unfold Qa;refine Af (δ':=[.d (.list (BK t.rs)),.no,.no]) (Ci (El rfl (El (CL (x:=.int ((BK t.rs).length:Nat)) (y:=.int 1) rfl rfl ?_) (CL (x:=.int ((BK t.rs).length:Nat)) (y:=.int 40) rfl rfl ?_))) rfl) ?_
 .show some (PyData.bool (decide (((BK t.rs).length:Int)<1)))=_;rw[decide_eq_false (by lia)]
 .show some (PyData.bool (decide ((40:Int)<((BK t.rs).length:Int))))=_;rw[decide_eq_false (by lia)]
 refine Px (xs:=JQ (BK t.rs)) (fun i δ=>∃l g:L,δ=[.d (.list (BK t.rs)),l,g]) rfl ⟨_,_,rfl⟩ ?_ ?_
 .rintro i x δ T ⟨l,g,rfl⟩;obtain⟨y,I,rfl⟩:=IT T;unfold BK at I;rw[List.getElem?_map]at I;obtain⟨r,U,rfl⟩:=aC.mp I;have O:=o.row i r U;refine⟨[.d (.list (BK t.rs)),.d (.int (i:Nat)),.d (.list (BF r))],rfl,_,Ci (El (Fd (Ex (A4 (xs:=[.list (r.map BX)]) rfl (Xb r)))) (CL (x:=.int (i:Nat)) (y:=.int (i:Nat)) ?_ rfl (L0 _))) rfl,_,_,rfl⟩;show some (PyData.int ((BF r).length:Nat))=_;rw[FI,O]
 .rintro δ ⟨l,g,rfl⟩
  rfl
def my{t:Tb}{m:Nat}(o:t.Ok m)(hm:m<=40):kx [Aq t]=some (.bool true):=by
 refine C5 rfl ?_;unfold RK;refine Af (Ci (El rfl (CL (x:=.int 2) (y:=.int 2) rfl rfl (L0 2))) rfl) (Ez (Qo (A4 (xs:=[.list (BK t.rs)]) rfl (oU o hm)) (Qo (A4 (xs:=[.list (t.ls.map BX)]) rfl (Xb t.ls)) (BL (x:=.int (t.rs.length:Nat)) (y:=.int (t.rs.length:Nat)) ?_ ?_ (Zp _)))))
 .show some (PyData.int ((BF t.ls).length:Nat))=_;rw[FI,o.last]
 .show some (PyData.int ((BK t.rs).length:Nat))=_;rw[Gn]
def Y3{F:DF}{δ:Dv}{o:Ou}(h:F δ=some o):W5 F δ=some (.inl o):=by show(F δ).map _=_;rw[h];rfl
abbrev Ec(g:List Rat):PD:=.list (g.map BX)
abbrev jW(C:AD):List PD->Option Xr:=BN fe C
abbrev Zu(C:AD):List PD->Option Xr:=Bq (jW C)
def ja{n:Nat}(hn:n<=7){g:rp}(I:g.length=N7 n)(C:AD):jW C [Ec g]=some (.inl .none):=by
 refine Rq (δ:=[.d (Ec g)]) rfl ?_;unfold HG;refine YR (El (Fd (Ex (A4 (xs:=[Ec g]) rfl (Xb g)))) ?_) rfl;refine Ex ?_;show eY true _ (.int ((g.map BX).length:Nat))=_;rw[List.length_map,I];rcases n with _|_|_|_|_|_|_|_|n<;>first|rfl|lia
def VO{n:Nat}(hn:n<=7){g:rp}(I:g.length=N7 n)(C:AD):Zu C [Ec g]=some (.inl (.int (n:Nat))):=by
 refine WQ rfl ?_;unfold KU;refine OH (MZ (ds:=[Ec g]) rfl (ja hn I C)) ?_;have e:BW (fun δ=>((AV FT (AB (nm 0) AG)) δ).bind (ZK [0,1,2,4,8,17,37,85])) [.d (Ec g)]=some (.rt (.int (n:Nat))):=by
  refine Ez ?_;show ZK _ (.int ((g.map BX).length:Nat))=_;rw[List.length_map,I];rcases n with _|_|_|_|_|_|_|_|n<;>first|rfl|lia
 exact Y3 e
def fm(g:rp):Ok 2 (Ec g):=qS fun d hd=>by obtain⟨q,_,rfl⟩:=aT.mp hd;exact jv q
def Ko(t:Tb):List rp:=t.rs++[t.ls]
def YQ(t:Tb):(Ko t)[t.rs.length]? = some t.ls:=by
 unfold Ko;rw[List.getElem?_append_right (aH _),Nat.sub_self];rfl
def ba{t:Tb}{m:Nat}(h:t.Ok m){i:Nat}{row:rp}(e:(Ko t)[i]? = some row):row.length=i/\i<=t.rs.length:=by
 by_cases z:i<t.rs.length
 .unfold Ko at e;rw[List.getElem?_append_left z]at e;exact⟨h.row i row e,by lia⟩
 .have g:=(aG.mp e).1;unfold Ko at g;rw[List.length_append,List.length_singleton]at g;have:i=t.rs.length:=by lia
  subst this;rw[YQ]at e;cases e;exact⟨h.last,Nat.le_refl _⟩
def iE{t:Tb}{n:Nat}(h:t.Fits n){m:Nat}(o:t.Ok m):1<=E1 t/\(E1 t).natAbs<2^(1+n*(m+m*m))/\∀r∈Ko t,∀q∈r,(q.den:Int) ∣ E1 t:=by
 obtain⟨U,T,R⟩:=W7 (TQ h t.rs.length);have O:=Kt o t.rs.length (aH _);have hm:=o.most;refine⟨U,Nat.lt_of_lt_of_le T (bG (by decide) ?_),fun r g q I=>R _ ?_⟩
 .have:t.rs.length+t.rs.length*t.rs.length<=m+m*m:=Nat.add_le_add hm (Nat.mul_le_mul hm hm);have:=ao n (aR O this)
  lia
 .unfold HV;rw[List.take_length];rcases bS.mp g with g|g
  .exact aY _ (List.mem_flatten.mpr ⟨FN r,List.mem_map.mpr ⟨r,g,rfl⟩,List.mem_map.mpr ⟨q,I,rfl⟩⟩)
  .rw[List.mem_singleton.mp g]at I;exact List.mem_append_left _ (aT.mpr ⟨q,I,rfl⟩)
abbrev lP(ts:List Tr):PD:=.list (L2.BE (Tr.of ts))
def Lb:∀t:Tr,DD (L2.BE t)=some t
 |.nil=>by rw[L2.BE,DD]
 |.cons b r=>by rw[L2.BE,DD,E9,Lb b,Lb r];rfl
def Hu:PD->List Rat
 |.list xs=>xs.map YA
 |_=>[]
def QJ(r:rp):Hu (.list (BF r))=r:=by
 unfold Hu BF;show List.map YA (r.map BX)=r;rw[List.map_map];exact List.map_id'' (fun q=>eF q) r
def tabOf:PD->Tb
 |.tuple [.list rs,d]=>⟨rs.map Hu,Hu d⟩
 |_=>⟨[],[]⟩
def Pc(t:Tb):tabOf (Aq t)=t:=by
 unfold Aq tabOf;have e:(BK t.rs).map Hu=t.rs:=by
  unfold BK;rw[List.map_map];exact List.map_id'' (fun r=>QJ r) t.rs
 show Tb.mk ((BK t.rs).map Hu) (Hu (.list (BF t.ls)))=t;rw[e,QJ]
def bh:((Cn 7).all fun t=>(Cn 7).all fun u=>decide (TH.Bj (some u)≠TH.Bj (some t))||decide (u=t))=true:=by decide +kernel
def ZU:∀u∈Cn 7,u.cV=true/\u.deep<8/\u.Ae<=7/\∀b∈u.bs,b∈Cn 7:=by decide +kernel
def ox:Xf (Cn 7) 1000:=⟨by decide +kernel,fun a ha b hb e=>by
 have:=List.all_eq_true.mp (List.all_eq_true.mp bh b hb) a ha;rw[Bool.or_eq_true]at this;rcases this with h|h
 .exact absurd e (aw h)
 .exact aw h,fun t g=>(ZU t g).2.2.2,fun t g=>(ZU t g).2.1,fun t g=>by have:=(ZU t g).2.2.1;lia⟩
def Tb.Wu(t:Tb):Prop:=∃m n k:Nat,t.Ok m/\m<=40/\t.Fits n/\n*(m+m*m)<=4000/\KL (Fm t) 1000/\(E1 t).natAbs<2^k/\n+k<=4000/\1<=E1 t/\k*7<=4000
def cq{t:Tb}{m n k:Nat}(o:t.Ok m)(hm:m<=40)(h:t.Fits n)(b1:1<=E1 t)(b2:(E1 t).natAbs<2^k)(Y:∀r∈Ko t,∀q∈r,(q.den:Int) ∣ E1 t)(T:n+k+6<=1000):KL (Fm t) 1000:=by
 have h4:=o.most;have Z:(Fm t).length=t.rs.length+1:=by unfold Fm;rw[List.length_map,List.length_append];rfl
 have one:∀row∈Fm t,row.length<=40/\row.length<=t.rs.length:=fun row g=>by
  unfold Fm at g;obtain⟨r,I,rfl⟩:=aT.mp g;have e:(JM r (E1 t)).length=r.length:=bN _;rw[e];obtain⟨i,hi⟩:=List.getElem?_of_mem I;have:=ba o (show(Ko t)[i]? = some r from hi)
  lia
 refine⟨by lia,fun row g=>by have:=one row g;lia,2^(n+k),fun row g x U=>?_,Nat.pow_le_pow_right (by decide) (by lia),fun row g=>aR (Nat.mul_le_mul_right _ (aR (one row g).1 (show 40<=2^6 by decide))) ?_⟩
 .unfold Fm at g;obtain⟨r,I,rfl⟩:=aT.mp g;unfold JM at U;obtain⟨q,O,rfl⟩:=aT.mp U;have f:FM.Fits q n:=by
   rcases bS.mp I with g|g
   .exact h.1 r g q O
   .rw[List.mem_singleton.mp g]at O;exact h.2 q O
  obtain⟨c,T⟩:=Y r I q O;have hd:(q.den:Int)≠0:=by have:=q.den_nz;lia
  have e:(E1 t).fdiv (q.den:Int)=c:=by rw[T,Int.mul_fdiv_cancel_left _ hd]
  have R:c.natAbs<=(E1 t).natAbs:=by
   rw[T,Int.natAbs_mul];exact Nat.le_mul_of_pos_left _ (by have:=q.den_nz;lia)
  rw[e,Int.natAbs_mul,Nat.pow_add];exact Nat.mul_le_mul (ay f.1) (aR R (ay b2))
 .rw[<-Nat.pow_add];exact bG (by decide) (by lia)
def ni{t:Tb}{m n:Nat}(o:t.Ok m)(hm:m<=40)(h:t.Fits n)(hb:n*(m+m*m)<=570)(hn:n<=300):t.Wu:=by
 obtain⟨b1,b2,g⟩:=iE h o;exact⟨m,n,1+n*(m+m*m),o,hm,h,by lia,cq o hm h b1 b2 g (by lia),b2,by lia,b1,by lia⟩
open Classical in
noncomputable def Sj(ds:rS):rX:=match ds with
 |[x,.list ys]=>if x=Aq (tabOf x)/\(tabOf x).Wu/\ys=L2.BE ((DD ys).getD .nil)/\(∀u∈((DD ys).getD .nil).bs,u∈Cn 7)/\ys.length<=1000 then some (Ec (((DD ys).getD .nil).bs.map (Jq (tabOf x)))) else none
 |_=>none
def Zs{t:Tb}(h:t.Wu){ts:rz}(I:∀u∈ts,u∈Cn 7)(O:ts.length<=1000):Sj [Aq t,lP ts]=some (Ec (ts.map (Jq t))):=by
 unfold Sj;have e:(DD (L2.BE (Tr.of ts))).getD .nil=Tr.of ts:=by rw[Lb];rfl
 refine(if_pos ⟨by rw[Pc],by rw[Pc];exact h,by rw[e],fun u g=>I u (by rw[e,Tr.N8]at g;exact g),by rw[JW,List.length_map];exact O⟩).trans ?_;rw[Pc,e,Tr.N8]
def pZ{P:Program}{w:World}{K:Fg}{mg:rW}{base:Heap}{f:AD}{fd:FuncData}{k:Nat}{ps:rf}(F:AI P w K mg base Aa k f fd ps (df (Cn 7) 1000)):AI P w K mg base Aa k f fd ps (BH Sj) :=
 RS F fun ds x hm G H vs Q E d e R=>by
  unfold Sj at hm;split at hm
  .rename_i tx ys;split at hm
   .rename_i hc;obtain⟨c1,⟨m,n,kb,w1,w2,w3,w4,w5,w6,w7,Z,w9⟩,c3,c4,c5⟩:=hc;cases hm;generalize tabOf tx=t at c1 w1 w3 w5 w6 Z R;subst c1;generalize (DD ys).getD .nil=T at c3 c4 R;subst c3;obtain⟨v1,v2,rfl,d1,d2⟩:=d.Va;rw[Du]at d2;obtain⟨L,I,rfl,hL,O⟩:=d2;have ts:=(IM O).same e;have g:I.length=T.bs.length:=ts.len;have U:T.bs.length<=1000:=by
     rw[<-g,O.len];exact c5
    refine⟨v1,t,L,I,T.bs,m,n,kb,rfl,Tu (OC t) (d1.same e),w1,w2,w3,w4,w5,w6,w7,Z,e _ _ hL,g,U,fun i x hx=>?_,fun D H' zs e' hD Y dz=>?_⟩
    .obtain⟨u,hu,tu⟩:=ts.get hx;have hm:=c4 u (aW hu);have h6:=(ZU u hm).2.2.1;exact⟨u,hu,tu,hm,by lia,Nat.le_trans (ao _ h6) w9⟩
    .obtain⟨n1,n2,n3⟩:=R8 e e';refine R (.ref D) _ H' n1 n2 n3 e' ?_;rw[Du];exact⟨D,zs,rfl,QO Y hD,HX dz⟩
   .cases hm
  .cases hm
section
variable{P:Program}{w:World}{K:Fg}{mg:rW}{base:Heap}{f:AD}{fd:FuncData}
namespace Gd
def Zr:AZ ["table","most"] ["table","most"] (AM DL):=B5
def Js(AW:MD)(Aj:MD)(g:RW):DF :=
 (Au (oP (AV AW (AB (nm 0) AG)))
 (OB g (AB (nm 0) (AB (AV Aj (AB (nm 1) AG)) AG))))
def Je(AW:MD)(Aj:MD)(g:RW):RW:=M8 ["table","most"] ["table","most"] (Js AW Aj g)
def OX{k:Nat}{AW:MD}{Aj:MD}{Z:RW}(F:Fn K mg "table_weighing" DL ["table","most"] f fd) {T:AD}{U:FuncData}(BU:Fn K mg "refuse_no_table" Ds ["thing"] T U)(Be:AI P w K mg base Aa k T U ["thing"] (BH AW)) {I:AD}{O:FuncData}(CB:Fn K mg "trees_to" GG ["most"] I O)(CP:AI P w K mg base Aa k I O ["most"] (BH Aj)) {R:AD}{Y:FuncData}(Bi:Fn K mg "weights_under" EX ["table","trees"] R Y)(CI:AI P w K mg base Aa k R Y ["table","trees"] (Mn Z)):AI P w K mg base Aa (k+1) f fd ["table","most"] (Mn (Je AW Aj Z)):=okN F Zr fun cdv A outer s H E g=>by
 have sc:=Zr;exact(AQ (gu (Ag BU Be g rfl (AA (AE (pv 0)) AF)))
 (AO (Sf Bi CI g rfl (AA (AE (pv 0)) (AA (Ag CB CP g rfl (AA (AE (pv 1)) AF)) AF)))))
def a8:AZ ["most"] ["most"] (AM Dj):=B5
def Kh(Aj:MD)(A5:RW):DF :=
 (OB A5 (AB (AV Aj (AB (nm 0) AG)) AG))
def K0(Aj:MD)(A5:RW):RW:=M8 ["most"] ["most"] (Kh Aj A5)
def Pu{k:Nat}{Aj:MD}{A5:RW}(F:Fn K mg "true_weighing" Dj ["most"] f fd) {R:AD}{T:FuncData}(CB:Fn K mg "trees_to" GG ["most"] R T)(Z:AI P w K mg base Aa k R T ["most"] (BH Aj)) {I:AD}{O:FuncData}(Y:Fn K mg "true_weights" Cd ["trees"] I O)(U:AI P w K mg base Aa k I O ["trees"] (Mn A5)):AI P w K mg base Aa (k+1) f fd ["most"] (Mn (K0 Aj A5)):=okN F a8 fun cdv A outer s H E g=>by
 have sc:=a8;exact(AO (Sf Y U g rfl (AA (Ag CB Z g rfl (AA (AE (pv 0)) AF)) AF)))
end Gd
def Zh:AZ ["_law_script","_law_table_here","_law_cell_here","_law_most","_law_handed","_law_trees_here","_law_found","_law_told","_law_some","_law_reach"] ["_law_script"] (AM fW):=B5
def fE(Bg:MD)(CA:MD)(BR:MD)(Bt:MD)(Cp:MD)(g:MD)(Cw:MD)(Ak:RW)(CC:MD)(Ao:RW)(Bq:MD):DF :=
 (Au (Cy 1 (AV g (AB (nm 0) (AB (fC (.int 0)) (AB (fC (.int 4)) AG)))))
 (Au (Cy 2 (AV Bg (AB (nm 0) (AB (fC (.int 2)) AG))))
 (Au (Cy 3 (Ax HD (nm 2) (fC (.int 8))))
 (Au (Cy 4 (AV CA (AB (nm 1) AG)))
 (Au (Cy 5 (AV Cw (AB (nm 3) AG)))
 (Au (Xm 6 Ak (AB (nm 4) (AB (nm 3) AG)))
 (Au (Xm 7 Ao (AB (nm 3) AG))
 (Au (Fo (Tt (HA (Eg (Dw (AV Cp (AB (nm 6) (AB (Dl (Cv 1) Gk (AV CC (AB (nm 2) (AB (nm 1) AG))) [none,none,some 4] (EF (nm 5))) AG))))) (CS (EJ true) (nm 4) (nm 1))))
  (BW (fC (.bool false)))
  DC)
 (Au (Fo (Tt (Eg (Dw (AV Cp (AB (nm 7) (AB (Dl (Cv 1) Gk (BS (AB (fC (.int 1)) (AB (AV BR (AB (nm 1) AG)) AG))) [none,none] (EF (nm 5))) AG))))))
  (BW (fC (.bool false)))
  DC)
 (Au (QD 6 7 8 9 (dZ 9 Bq (HA (Eg (Dw (IC Q2 (nm 9)))) (HA (Dw (IC OD (nm 9))) (CS (EJ true) (nm 9) (nm 3)))) (BS (AB (fC (.int 1)) (AB (fC (.int 1)) AG)))))
 (Au (Fo (Tt (HA (CS (EJ true) (AV (ZP Ao) (AB (nm 3) AG)) (P0 (nm 7) ML (Mb (Vf (fC (.int 1)))))) (CS (EJ true) (AV (ZP Ak) (AB (nm 4) (AB (nm 3) AG))) (P0 (nm 6) ML (Mb (Vf (fC (.int 1))))))))
  (BW (fC (.bool false)))
  DC)
 (BW (SU (AV Bt (AB (nm 4) (AB (Ax VF (Vf (fC (.int 1))) (Ax HD (Ax YJ (nm 2) (fC (.int 8))) (fC (.int 9)))) AG))) (AV Bt (AB (nm 4) (AB (Ax EC (fC (.int 8)) (Ax HD (Ax YJ (nm 2) (fC (.int 72))) (fC (.int 90)))) AG))))))))))))))))
def fX(Bg:MD)(CA:MD)(BR:MD)(Bt:MD)(Cp:MD)(g:MD)(Cw:MD)(Ak:RW)(CC:MD)(Ao:RW)(Bq:MD):MD:=C8 ["_law_script"] ["_law_script","_law_table_here","_law_cell_here","_law_most","_law_handed","_law_trees_here","_law_found","_law_told","_law_some","_law_reach"] (fE Bg CA BR Bt Cp g Cw Ak CC Ao Bq)
def lX{k:Nat}{Bg:MD}{CA:MD}{BR:MD}{Bt:MD}{Cp:MD}{Em:MD}{Cw:MD}{Ak:RW}{CC:MD}{Ao:RW}{Bq:MD}(F:Fn K mg "law" fW ["_law_script"] f fd) {O:AD}{T:FuncData}(D6:Fn K mg "_law_cell" IK ["_law_script","_law_k"] O T)(Ee:AI P w K mg base Aa k O T ["_law_script","_law_k"] (BH Bg)) {Z:AD}{LI:FuncData}(Gg:Fn K mg "_law_copied" Il ["_law_table_here"] Z LI)(Ie:AI P w K mg base Aa k Z LI ["_law_table_here"] (BH CA)) {Lu:AD}{Ks:FuncData}(Cc:Fn K mg "_law_density" Hs ["_law_tree"] Lu Ks)(E8:AI P w K mg base Aa k Lu Ks ["_law_tree"] (BH BR)) {Lv:AD}{Kp:FuncData}(FD:Fn K mg "_law_refused" Hw ["_law_table_here","_law_most"] Lv Kp)(GL:AI P w K mg base Aa k Lv Kp ["_law_table_here","_law_most"] (BH Bt)) {I:AD}{U:FuncData}(Gb:Fn K mg "_law_same" LD ["_law_found","_law_due"] I U)(II:AI P w K mg base Aa k I U ["_law_found","_law_due"] (BH Cp)) {R:AD}{Mm:FuncData}(HU:Fn K mg "_law_table" J5 ["_law_script","_law_at","_law_most"] R Mm)(J7:AI P w K mg base Aa k R Mm ["_law_script","_law_at","_law_most"] (BH Em)) {Y:AD}{Mj:FuncData}(HS:Fn K mg "_law_trees" J9 ["_law_most"] Y Mj)(Jl:AI P w K mg base Aa k Y Mj ["_law_most"] (BH Cw)) {EA:AD}{Dr:FuncData}(Bs:Fn K mg "table_weighing" DL ["table","most"] EA Dr)(DK:AI P w K mg base Aa k EA Dr ["table","most"] (Mn Ak)) {LR:AD}{K2:FuncData}(GI:Fn K mg "table_weight" IB ["table","tree"] LR K2)(Hz:AI P w K mg base Aa k LR K2 ["table","tree"] (BH CC)) {EO:AD}{ED:FuncData}(Bx:Fn K mg "true_weighing" Dj ["most"] EO ED)(Di:AI P w K mg base Aa k EO ED ["most"] (Mn Ao)) {KA:AD}{JA:FuncData}(FO:Fn K mg "weighing_reach" Gv ["weighing"] KA JA)(Gr:AI P w K mg base Aa k KA JA ["weighing"] (BH Bq))(HF:mg "bool" = none)(JK:mg "int" = none)(AR:mg "isinstance" = none):AI P w K mg base Aa (k+1) f fd ["_law_script"] (BH (fX Bg CA BR Bt Cp Em Cw Ak CC Ao Bq)):=F0 F Zh fun cdv A outer s H E g=>by
 have sc:=Zh;exact(AQ (Bz (i:=1) sc.nd rfl (Or.inl rfl) (Ag HU J7 g rfl (AA (AE (pv 0)) (AA AH (AA AH AF)))))
 (AQ (Bz (i:=2) sc.nd rfl (Or.inl rfl) (Ag D6 Ee g rfl (AA (AE (pv 0)) (AA AH AF))))
 (AQ (Bz (i:=3) sc.nd rfl (Or.inl rfl) (A7 Et (AE (pv 2)) AH))
 (AQ (Bz (i:=4) sc.nd rfl (Or.inr rfl) (Ag Gg Ie g rfl (AA (AE (pv 1)) AF)))
 (AQ (Bz (i:=5) sc.nd rfl (Or.inl rfl) (Ag HS Jl g rfl (AA (AE (pv 3)) AF)))
 (AQ (XM (i:=6) Bs DK g rfl (AA (AE (pv 4)) (AA (AE (pv 3)) AF)) sc.nd rfl (Or.inl rfl))
 (AQ (XM (i:=7) Bx Di g rfl (AA (AE (pv 3)) AF) sc.nd rfl (Or.inl rfl))
 (AQ (DP (SO (DW.dt (EW (Cf (CF (Ag Gb II g rfl (AA (AE (pv 6)) (AA (GD [".0","_law_tree","_law_handed"] 1 [none,none,some 4] (Dc (AE (pv 5))) (fun _ _ _ _ _=>G6) (fun _ _ _ _ _=>(Ag GI Hz g rfl (AA (AE (pv 2)) (AA (AE (pv 1)) AF))))) AF))))) (Dg (Bm (K3 (by have:=g.units;exact this)) (AE (pv 4)) (AE (pv 1)) (Ay _))))))
  (AO (Av Cj))
  Bu)
 (AQ (DP (SO (Cf (CF (Ag Gb II g rfl (AA (AE (pv 7)) (AA (GD [".0","_law_tree"] 1 [none,none] (Dc (AE (pv 5))) (fun _ _ _ _ _=>G6) (fun _ _ _ _ _=>(A2 (AA AH (AA (Ag Cc E8 g rfl (AA (AE (pv 1)) AF)) AF))))) AF))))))
  (AO (Av Cj))
  Bu)
 (AQ (dB (ia:=6) (ib:=7) (ix:=8) (ir:=9) aQ rfl (pv 6) (pv 7) sc.nd rfl (Or.inl rfl) (by exact gT FO Gr g rfl (fun _=>pv 8) sc.nd rfl (Or.inl rfl) (DW.dt (EW (Cf (CF (Ew (PX _) rfl AR rfl JK PyProof.Rows.boot_int (AE (pv 9))))) (EW (CF (Ew (NH _) rfl AR rfl HF PyProof.Rows.boot_bool (AE (pv 9)))) (Dg (Bm (K3 (by have:=g.units;exact this)) (AE (pv 9)) (AE (pv 3)) (Ay _)))))) (AO (Av Cj)) (A2 (AA AH (AA AH AF))) (fun ho ha=>DJ (HJ aa az bA FH ho ha))) (by decide) (by decide) (by decide) (by decide) (by decide) (by decide))
 (AQ (DP (SO (DW.dt (EW (Bm (K3 (by have:=g.units;exact this)) (Ag Bx (fq Di) g rfl (AA (AE (pv 3)) AF)) (Hr (AE (pv 7)) Jd (JZ (QS AH))) (Ay _)) (Dg (Bm (K3 (by have:=g.units;exact this)) (Ag Bs (fq DK) g rfl (AA (AE (pv 4)) (AA (AE (pv 3)) AF))) (Hr (AE (pv 6)) Jd (JZ (QS AH))) (Ay _))))))
  (AO (Av Cj))
  Bu)
 (AO (Av (Nm (Ag FD GL g rfl (AA (AE (pv 4)) (AA (A7 OL (QS AH) (A7 Et (A7 Wh (AE (pv 2)) AH) AH)) AF))) (RM (Ag FD GL g rfl (AA (AE (pv 4)) (AA (A7 DH AH (A7 Et (A7 Wh (AE (pv 2)) AH) AH)) AF))))))))))))))))))
end
noncomputable def fh(ds:rS):rO:=(Sj ds).bind fun z=>match z with
 |.list xs=>some xs
 |_=>none
def jO{t:Tb}(h:t.Wu){ts:rz}(g:∀u∈ts,u∈Cn 7)(I:ts.length<=1000):fh [Aq t,lP ts]=some ((ts.map (Jq t)).map BX):=by
 unfold fh;rw[Zs h g I]
 rfl
def dY{G H H':Hp}(I:AJ G H)(e:AJ H H'){D:AD}{g:rq}(h0:H D=none)(U:H' D=some (.lst g)):AJ G (Fl G H' H')/\Nw G H (Fl G H' H')/\AJ (Fl G H' H') H'/\Fl G H' H' D=none:=by
 obtain⟨T,R,O⟩:=R8 (G:=G) (H:=H') (H':=H') (I.trans e) (AJ.refl _);refine⟨T,fun a o h=>?_,O,?_⟩
 .rcases R a o h with k|k|k
  .exact .inl k
  .refine .inr (.inl ?_);cases q:H a with
   |none=>rfl
   |some u=>rw[e _ _ q]at k;cases k
  .exact .inr (.inr k)
 .unfold Fl;rw[U];show(if some (HO.lst g)=none then _ else G D)=none;rw[if_neg (by simp)];cases q:G D with
  |none=>rfl
  |some u=>rw[I _ _ q]at h0;cases h0
def nY{P:Program}{w:World}{K:Fg}{mg:rW}{base:Heap}{f:AD}{fd:FuncData}{k:Nat}{ps:rf}(F:AI P w K mg base Aa k f fd ps (df (Cn 7) 1000)):AI P w K mg base Aa k f fd ps (Mn fh) :=
 F.imp fun vs H Q E z=>by
  obtain⟨ds,xs,G,Z,d,e,U⟩:=z;obtain⟨x,hm,Y⟩:=aB.mp Z;unfold Sj at hm;split at hm
  .rename_i tx ys;split at hm
   .rename_i hc;obtain⟨c1,⟨m,n,kb,w1,w2,w3,w4,w5,w6,w7,w8,w9⟩,c3,c4,c5⟩:=hc;cases hm;cases Y;generalize tabOf tx=t at c1 w1 w3 w5 w6 w8 U;subst c1;generalize (DD ys).getD .nil=T at c3 c4 U;subst c3;obtain⟨v1,v2,rfl,d1,d2⟩:=d.Va;rw[Du]at d2;obtain⟨L,I,rfl,hL,R⟩:=d2;have ts:=(IM R).same e;have g:I.length=T.bs.length:=ts.len;have hll:T.bs.length<=1000:=by
     rw[<-g,R.len];exact c5
    refine⟨v1,t,L,I,T.bs,m,n,kb,rfl,Tu (OC t) (d1.same e),w1,w2,w3,w4,w5,w6,w7,w8,e _ _ hL,g,hll,fun i x Y=>?_,fun D H' zs e' hD O dz=>?_⟩
    .obtain⟨u,hu,tu⟩:=ts.get Y;have hm:=c4 u (aW hu);have h6:=(ZU u hm).2.2.1;exact⟨u,hu,tu,hm,by lia,Nat.le_trans (ao _ h6) w9⟩
    .obtain⟨n1,n2,n3,n4⟩:=dY e e' hD O;exact U D zs _ H' n1 n2 n3 e' hD n4 O (HX dz)
   .cases hm
  .cases hm
abbrev qu:MD:=A9 9
abbrev ei:MD:=BR qu 9
abbrev rM:MD:=Aw 9
abbrev ZR:MD:=Ad rM 9
def wq(t:Tr):Rat:=Rat.divInt 1 (t.NL:Int)
def Y5(t:Tr):Bool:=(match ei [tD t]with|some (.int a)=>decide (a=(t.NL:Int))|_=>false)&&(match ZR [tD t]with|some (.int a)=>decide (a=(t.NL:Int))|_=>false)&&decide ((wq t).num=1)&&decide ((wq t).den=t.NL)
def cQ:(Cn 7).all Y5=true:=by decide +kernel
def isInt{o:rX}{z:Int}(h:(match o with|some (.int a)=>decide (a=z)|_=>false)=true):o=some (.int z):=by
 split at h
 .rw[of_decide_eq_true h]
 .cases h
def Rk{t:Tr}(h:t∈Cn 7):ei [tD t]=some (.int (t.NL:Int))/\ZR [tD t]=some (.int (t.NL:Int))/\BX (wq t)=.tuple [.int 1,.int (t.NL:Int)]:=by
 have:=List.all_eq_true.mp cQ t h;unfold Y5 at this;simp only[Bool.and_eq_true]at this;obtain⟨⟨⟨R,O⟩,I⟩,g⟩:=this;refine⟨isInt R,isInt O,?_⟩;unfold BX;rw[of_decide_eq_true I,of_decide_eq_true g]
abbrev Mf(n:Nat):List Rat:=(Cn n).map wq
def Rl{n:Nat}(h:n<=7):(Mf n).length=N7 n:=by rw[List.length_map,Vi n h]
def VG{n:Nat}(h:n<=7):N7 n<=85:=by
 rcases n with _|_|_|_|_|_|_|_|n<;>first|decide|lia
def WY{m:MD}{n:Nat}(hn:n<=7)(hm:∀t∈Cn 7,m [tD t]=some (.int (t.NL:Int))){δ:Dv}{fs:rP}(R:fs δ=some (L2.BE (Tr.of (Cn n)))):IL (Cv 1) Gk (BS (AB (fC (.int 1)) (AB (AV m (AB (nm 1) AG)) AG))) [none,none] fs δ=some ((Mf n).map BX):=by
 have key:∀ts:List Tr,(∀t∈ts,t∈Cn 7)->collect (LG (Cv 1) Gk (BS (AB (fC (.int 1)) (AB (AV m (AB (nm 1) AG)) AG))) (Dd [none,none] δ)) (ts.map tD)=some ((ts.map wq).map BX):=by
  intro ts g
  induction ts with
  |nil=>rfl
  |cons t ts O=>
   have I:=g t (.head _);have U:BS (AB (fC (.int 1)) (AB (AV m (AB (nm 1) AG)) AG)) ((Dd [none,none] δ).set 1 (.d (tD t)))=some (BX (wq t)):=by
    rw[(Rk I).2.2];exact W0 (Bf rfl (Bf (A4 (xs:=[tD t]) rfl (hm t I)) rfl)) (by show(2:Nat)<=C9;decide)
   have Y:LG (Cv 1) Gk (BS (AB (fC (.int 1)) (AB (AV m (AB (nm 1) AG)) AG))) (Dd [none,none] δ) (tD t)=some (some (BX (wq t))):=by
    unfold LG Cv;rw[Option.bind_some];show(some true).bind _=_;rw[Option.bind_some,if_pos rfl,U]
    rfl
   rw[List.map_cons];unfold L2.collect;rw[Y,Option.bind_some,O fun u T=>g u (.tail _ T)]
   rfl
 unfold IL;rw[R,Option.bind_some,JW,key _ fun t I=>Vd hn I,Option.bind_some,IQ,if_pos];rw[List.length_map,Rl hn];have:=VG hn;unfold C9
 lia
def bx(n:Nat)(g:Tr->Nat):Sp:=fun vs H Q _=>∃v t,vs=[v]/\Tv H t v/\t.deep<n/\n<=60/\t.Ae<=8/\∀H',AJ H H'->Q (.int (g t)) H'
def dm{P:Program}{w:World}{K:Fg}{mg:rW}{base:Heap}{CX:Hi}{k:Nat}{f:AD}{fd:FuncData}{ps:rf}{sp:Sp}(h:∀vs H Q E,¬sp vs H Q E):AI P w K mg base CX k f fd ps sp :=
 ⟨fun _ _ _ _ z=>(h _ _ _ _ z).elim,fun _ _ _ _ _ _ _ _ _ _ _ _ _ z=>(h _ _ _ _ z).elim⟩
section
variable{P:Program}{w:World}{K:Fg}{mg:rW}{base:Heap}{f:AD}{fd:FuncData}
def QX:AZ ["tree"] ["tree"] (AM D9):=B5
def Kc(U:Fn K mg "knots_within" D9 ["tree"] f fd)(FQ:mg "sum" = none):∀n,AI P w K mg base Aa n f fd ["tree"] (bx n Tr.Ae)
 |0=>dm fun _ _ _ _ ⟨_,_,_,_,h,_⟩=>absurd h (ak _)
 |n+1=>by
  have sc:=QX;have Ba:=Kc U FQ n;refine U.F.ok (k:=n) sc (fun vs H Q E h=>?_) (fun cdv A outer s H vs Q E hr h=>?_)
  .obtain⟨v,t,rfl,_⟩:=h
   rfl
  obtain⟨v,t,rfl,⟨a,xs,rfl,ha,Y⟩,hd,hn,hk,q⟩:=h;refine⟨_,(A3 (Ca (BO NK Ar (Ct (P7 rfl) rfl FQ PyProof.Rows.boot_sum (AK (Hv [".0","bough"] 1 [none,none] (UJ (pv 0)) (fun _ _ _ _ _=>F7) (fun _ _ _ _ _=>(Cu U Ba hr rfl (AK (pv 1) AY)))) AY))))),?_⟩;have g:=Y.len;have T:xs.length<8:=by rw[g];have:=Tr.Nj t;lia
  refine⟨_,rfl,a,rfl,⟨_,BC.of ha⟩,fun D hD=>IA (n:=xs.length) (fun i ys H'=>AJ H H'/\ys=(t.bs.take i).map fun c=>V.int (c.Ae:Nat)) ?_ ?_ ?_⟩
  .exact⟨Ac hD _,by simp⟩
  .rintro i ys H0 hi ⟨O,rfl⟩ I;have hi':i<t.bs.length:=by lia
   refine⟨⟨xs,xs[i],BC.of (O _ _ ha),by simp[hi]⟩,?_,fun x H' y=>?_⟩
   .rw[List.length_map,List.length_take];exact ai (Nat.min_le_left _ _) (aL (Nat.lt_trans hi T) (by rw[sizeLine_eq];decide))
   .obtain⟨rfl,y⟩:=y;have hx:=y xs (BC.of (O _ _ ha));obtain⟨c,Z,tc⟩:=Y.get hx;have R:c∈t.bs:=aW Z;have hcd:=Tr.Uo R;have hck:=Tr.Kj R;unfold JO;refine ME ⟨_,rfl,x,c,rfl,tc.same O,by lia,by lia,by lia,fun H2 e2=>⟨e2 _ _ I,GF hi ⟨?_,?_⟩⟩⟩
    .exact fun b o z=>by
      rw[AL (AU z hD)];exact e2 _ _ (O _ _ z)
    .rw[List.take_succ,Z];simp
  .rintro ys H0 ⟨O,rfl⟩ I;refine⟨⟨xs,BC.of (O _ _ ha),Nat.le_refl _⟩,?_⟩;refine⟨D,t.bs.map fun c=>(c.Ae:Int),rfl,Al.of ?_,_,_,rfl,rfl,?_⟩
   .rw[I,g,List.take_length,List.map_map]
    rfl
   .show Q (.int (1+(t.bs.map fun c=>(c.Ae:Int)).sum)) H0;rw[Tr.Sw];exact q H0 O
end
def nG{P:Program}{w:World}{K:Fg}{mg:rW}{base:Heap}{f:AD}{fd:FuncData}{k:Nat}{ps:rf}(F:AI P w K mg base Aa k f fd ps (bx 8 Tr.Ae)):AI P w K mg base Aa k f fd ps lj :=
 F.imp fun vs H Q E z=>by
  obtain⟨v,u,rfl,g,hd,hk,q⟩:=z;exact⟨v,u,rfl,g,hd,by decide,hk,q⟩
section
variable{P:Program}{w:World}{K:Fg}{mg:rW}{base:Heap}{f:AD}{fd:FuncData}
def X9:AZ ["thing","k","bough"] ["thing"] (AM NM):=B5
def Sl(Ce:MD):DF :=
 (Au (Fo (Eg (Dw (IC Nl (nm 0))))
  (BW (fC (.bool false)))
  DC)
 (Au (FV (Kf QP (AB (nm 0) AG)) (Vg 1 2)
  (Au (Fo (mF (CS (Fi fun i j=>decide (j<i)) (nm 1) (fC (.int 0))) (CS (EJ false) (nm 2) (Ax Ge (nm 0) (Ax VF (nm 1) (fC (.int 1))))))
   nK
   DC)
  (Fo (HA (Eg (Dw (AV Ce (AB (nm 2) AG)))) (mF (CS (Fi fun i j=>decide (j<i)) (nm 1) (fC (.int 0))) (CS fP (nm 2) (Ax Ge (nm 0) (Ax VF (nm 1) (fC (.int 1)))))))
   (BW (fC (.bool false)))
   DC)))
 (BW (fC (.bool true)))))
def Ce:Nat->MD
 |0=>fun _=>none
 |n+1=>C8 ["thing"] ["thing","k","bough"] (Sl (Ce n))
def QK{k:Nat}(I:Fn K mg "is_tree" NM ["thing"] f fd)(O:mg "enumerate" = none)(T:mg "isinstance" = none)(R:mg "tuple" = none):∀n,
  AI P w K mg base Aa (k+n+1) f fd ["thing"] (BH (Ce n))
 |0=>EN fun _ _ _ _ ⟨_,_,_,h,_⟩=>by cases h
 |n+1=>by
  have sc:=X9;have U:=QK (k:=k) I O T R n;refine F0 (k:=k+n+1) (F:=Sl (Ce n)) I sc fun cdv A outer s H E g=>?_;exact(AQ (DP (Cf (CF (Ew (L3 _) rfl T rfl R bH (AE (pv 0)))))
  (AO (Av Cj))
  Bu)
 (AQ (EV aQ rfl (SK rfl O (AA (AE (pv 0)) AF)) (VT (NV rfl (Ef (BJ (i:=1) sc.nd rfl (Or.inl rfl)) (Ef (BJ (i:=2) sc.nd rfl (Or.inl rfl)) LK))))
  (AQ (DP (DW.dt (Yv (Bm OM (AE (pv 1)) AH (Ay _)) (Dg (Bm (HW (by have:=g.units;exact this)) (AE (pv 2)) (Ek (AE (pv 0)) (A7 OL (AE (pv 1)) AH) (fun _ _=>rfl)) (Ay _)))))
   (AO gE)
   Bu)
  (AO (DP (DW.dt (EW (Cf (CF (Ag I U g rfl (AA (AE (pv 2)) AF)))) (Dg (DW.dt (Yv (Bm OM (AE (pv 1)) AH (Ay _)) (Dg (Bm (gg (by have:=g.units;exact this)) (AE (pv 2)) (Ek (AE (pv 0)) (A7 OL (AE (pv 1)) AH) (fun _ _=>rfl)) (Ay _))))))))
   (AO (Av Cj))
   Bu))))
 (AO (Av Cj))))
end
abbrev js:MD:=Ce 9
def kJ:(Cn 7).map (fun u=>js [tD u])=(Cn 7).map fun _=>some (.bool true):=by kernel_rfl
abbrev jq(C:AD):List PD->Option Xr:=Bp js C
def j8{d:PD}(h:js [d]=some (.bool true))(C:AD):jq C [d]=some (.inl .none):=by
 refine Rq (δ:=[.d d]) rfl ?_;unfold J6;exact YR (Fd (Ex (A4 (xs:=[d]) rfl h))) rfl
abbrev VJ(C:AD):List PD->Option Xr:=AW kx C
def VP{t:Tb}{m:Nat}(o:t.Ok m)(hm:m<=40)(C:AD):VJ C [Aq t]=some (.inl .none):=by
 refine Rq (δ:=[.d (Aq t)]) rfl ?_;unfold Iz;exact YR (Fd (Ex (A4 (xs:=[Aq t]) rfl (my o hm)))) rfl
def RQ{T:AD->Option Bool}{C:AD}{b:Bool}{f:rQ}{δ:Dv}(g:f δ=some (LB C))(h:T C=some b):Uq T f δ=some (.bool b):=by
 show(f δ).bind _=_;rw[g];show(T ((C:Nat):Int).toNat).map PyData.bool=_;rw[Int.toNat_natCast,h];rfl
def bp{t:Tb}(o:t.Ok 4):CA [Aq t]=some (Aq t):=by
 refine C5 rfl ?_;unfold Mv;have hm:=o.most;have R:Dl (Cv 1) Gk (AV JV (AB (nm 1) AG)) [none,none] (EF (Ax Ge (nm 0) (fC (.int 0)))) [.d (Aq t)]=some (.list (BK t.rs)):=by
  refine(comp_map (xs:=BK t.rs) (g:=fun x=>x) rfl (by rw[Gn];unfold C9;lia) fun x I=>?_).trans ?_
  .obtain⟨r,_,rfl⟩:=aT.mp I
   rfl
  .rw[List.map_id']
 have O:AV JV (AB (Ax Ge (nm 0) (fC (.int 1))) AG) [.d (Aq t)]=some (.list (BF t.ls)):=by
  rfl
 exact Ez (W0 (xs:=[.list (BK t.rs),.list (BF t.ls)]) (Bf R (Bf O rfl)) (by show(2:Nat)<=C9;decide))
def jR{i:Nat}{f:rQ}{δ:Dv}{y:PD}{xs:rS}(h:f δ=some y)(o:ow i δ=some xs)(g:xs.length<C9):cR i f δ=some (.nx (δ.set i (.own (.lst (xs++[y]))))):=by
 show(f δ).bind _=_;rw[h];show(ow i δ).bind _=_;rw[o];exact if_pos g
def bw(a:AD)(x:Bool):AD->Option Bool:=fun C=>if C=a then some x else none
def X3{K:Fg}{a:AD}{x:Bool}{g:V}(I:F3 K a)(O:PySem.W.kitOne K (.ref a) (HC g)=some x):∀C u,bw a x C=some u->F3 K C/\PySem.W.kitOne K (.ref C) (HC g)=some u:=fun C u h=>by
 unfold bw at h;split at h
 .rename_i e;subst e;cases h;exact⟨I,O⟩
 .cases h
noncomputable abbrev cM(I g:AD):List PD->Option Xr:=CC (VJ I) (jq g) Sj
noncomputable abbrev lE(I g:AD):List PD->Option Xr:=Ak (VJ I) (J8 g) Sj
abbrev jo(g:AD):List PD->Option Xr:=Ao (J8 g) (A5 ZR)
noncomputable abbrev eZ(I g:AD):List PD->Option (List PD):=Gd.Je (good (VJ I)) (good (J8 g)) fh
abbrev eo(g:AD):List PD->Option (List PD):=Gd.K0 (good (J8 g)) (Hy ZR)
def Wy{n:Nat}(hn:n<=7):(Cn n).length<=1000:=by
 rw[Vi n hn];have:=VG hn;lia
def ky{t:Tb}(h:t.Wu){u:Tr}(g:u∈Cn 7)(O I:AD):cM O I [Aq t,tD u]=some (.inl (BX (Jq t u))):=by
 obtain⟨m,n,k,o,hm,_⟩:=id h;refine WQ rfl ?_;unfold Lw;refine OH (MZ (ds:=[Aq t]) rfl (VP o hm O)) (OH (MZ (ds:=[tD u]) rfl (j8 (List.map_inj_left.mp kJ u g) I)) (Y3 (Ez ?_)));refine BL (x:=Ec [Jq t u]) (y:=.int 0) (A4 (xs:=[Aq t,lP [u]]) rfl (Zs h (ts:=[u]) (fun v R=>by rw[List.mem_singleton.mp R];exact g) (by show 1<=1000;decide))) rfl rfl
def Ss{m:RW}{fs:rP}{δ:Dv}{ds xs:rS}(h:fs δ=some ds)(k:m ds=some xs):OB m fs δ=some (.rn xs):=by
 show((fs δ).bind m).map _=_;rw[h];show(m ds).map _=_;rw[k];rfl
abbrev Ls(t:Tb)(n:Nat):List Rat:=(Cn n).map (Jq t)
def Z5{t:Tb}(h:t.Wu){n:Nat}(hn:n<=7)(g I:AD):eZ g I [Aq t,.int (n:Nat)]=some ((Ls t n).map BX):=by
 obtain⟨m,_,k,o,hm,_⟩:=id h;refine Rb rfl ?_;unfold Gd.Js;refine Af (δ':=[.d (Aq t),.d (.int (n:Nat))]) ?_ (Ss (ds:=[Aq t,Bb n]) (Bf rfl (Bf (A4 (xs:=[.int (n:Nat)]) rfl (Ja (fY hn I))) rfl)) (jO h (fun u R=>Vd hn R) (Wy hn)));show(AV (good (VJ g)) (AB (nm 0) AG) [.d (Aq t),.d (.int (n:Nat))]).map _=_;rw[A4 (xs:=[Aq t]) rfl (Ja (VP o hm g))]
 rfl
def mJ{n:Nat}(hn:n<=7):Hy ZR [Bb n]=some ((Mf n).map BX):=by
 refine Rb rfl ?_;unfold GB;show(IL _ _ _ _ _ _).map _=_;have:=WY (δ:=HE ["trees"] [Bb n]) (fs:=EF (nm 0)) hn (fun t h=>(Rk h).2.1) rfl;rw[this]
 rfl
def Yp{n:Nat}(hn:n<=7)(g:AD):eo g [.int (n:Nat)]=some ((Mf n).map BX):=by
 refine Rb rfl ?_;unfold Gd.Kh;exact Ss (ds:=[Bb n]) (Bf (A4 (xs:=[.int (n:Nat)]) rfl (Ja (fY hn g))) rfl) (mJ hn)
def eh{n:Int}(h:n<0\/7<n)(g:AD):J8 g [.int n]=some (.inr g):=by
 refine Rg rfl ?_;unfold Qu;refine gn (nO ?_ rfl);by_cases z:n<0
 .exact nr (CL (x:=.int n) (y:=.int 0) rfl rfl (by show some (PyData.bool (decide (n<0)))=_;rw[decide_eq_true z]))
 .exact El (CL (x:=.int n) (y:=.int 0) rfl rfl (by show some (PyData.bool (decide (n<0)))=_;rw[decide_eq_false z])) (CL (x:=.int n) (y:=.int 7) rfl rfl (by show some (PyData.bool (decide (7<n)))=_;rw[decide_eq_true (by lia)]))
def kK{t:Tb}{m:Nat}(o:t.Ok m)(hm:m<=40){n:Int}(h:n<0\/7<n)(I g:AD):lE I g [Aq t,.int n]=some (.inr g):=by
 refine Rg rfl ?_;unfold Jo;refine OH (MZ (ds:=[Aq t]) rfl (VP o hm I)) (fi (Wg ?_));have e:Ka (Wz (AB (nm 1) AG)) (J8 g) [.d (Aq t),.d (.int n)]=some (.inr g):=XR (xs:=[.int n]) rfl (eh h g);show JS (lg (nm 0)) _ [.d (Aq t),.d (.int n)]=_;unfold JS;rw[e]
 rfl
def j6{n:Int}(h:n<0\/7<n)(g:AD):jo g [.int n]=some (.inr g):=by
 refine Rg rfl ?_;unfold Kk;exact fi (Wg (eV (XR (xs:=[.int n]) rfl (eh h g))))
noncomputable abbrev qy(I g:AD):List PD->Option Xr:=only [g] (lE I g)
abbrev rK(g:AD):List PD->Option Xr:=only [g] (jo g)
noncomputable abbrev kT(I g:AD):MD:=Bt (qy I g) (rK g) (bw g false) (bw g false) (bw g true)
abbrev lT:PD:=.list [.bool true,.bool false,.bool false]
def RD{t:Tb}{m:Nat}(o:t.Ok m)(hm:m<=40){n:Int}(h:n<0\/7<n)(Z g:AD):kT Z g [Aq t,.int n]=some (.bool true):=by
 refine C5 rfl ?_;unfold LV;refine Af (δ':=[.d (Aq t),.d (.int n),.own (.lst []),.no,.no,.no]) rfl ?_;refine Px (xs:=[.int 0,.int 1]) (fun i δ=>∃T R O:L,δ=[.d (Aq t),.d (.int n),.own (.lst (List.replicate i lT)),T,R,O]) rfl ⟨_,_,_,rfl⟩ ?_ ?_
 .rintro i y δ U ⟨T,R,O,rfl⟩;have Y:=(aG.mp U).1;have hi2:i<2:=Y;refine⟨[.d (Aq t),.d (.int n),.own (.lst (List.replicate i lT)),.d y,R,O],rfl,?_⟩;refine fk (δ':=[.d (Aq t),.d (.int n),.own (.lst (List.replicate i lT)),.d y,.d .none,O]) rfl ?_;refine fk (δ':=[.d (Aq t),.d (.int n),.own (.lst (List.replicate i lT)),.d y,.d (LB g),.no]) (eO (C:=g) (δ':=[.d (Aq t),.d (.int n),.own (.lst (List.replicate i lT)),.d y,.d (LB g),.d (LB g)]) ?_ rfl) ?_
  .refine R7 ?_;have:i=0\/i=1:=by lia
   rcases this with rfl|rfl
   .cases U;exact oh rfl (R7 (Um (ds:=[Aq t,.int n]) rfl (Ws (kK o hm h Z g) (.head _))))
   .cases U;exact oD rfl (R7 (Um (ds:=[.int n]) rfl (Ws (j6 h g) (.head _))))
  .refine⟨_,jR (y:=lT) (xs:=List.replicate i lT) (i0 (xs:=[.bool true,.bool false,.bool false]) (Bf (RQ (C:=g) rfl (if_pos rfl)) (Bf (RQ (C:=g) rfl (if_pos rfl)) (Bf (RQ (C:=g) rfl (if_pos rfl)) rfl))) (by show(3:Nat)<=C9;decide)) rfl (by rw[List.length_replicate];unfold C9;lia),.d y,.d (LB g),.no,?_⟩;rw[List.replicate_succ']
   rfl
 .rintro δ ⟨T,R,O,rfl⟩;exact Ez (BL (x:=.list [lT,lT]) (y:=.list [lT,lT]) rfl rfl (by kernel_rfl))
def eX(K:Fg)(a:AD)(ns:rd):Bool:=match K.lookup a with
 |some o=>(match o.cls with|.type n=>n == "tuple" |_=>false)&&o.dict.isNone&&(match o.data with
  |.seq g _=>decide (g.size<=1000)&&decide (g.toList.map VC=ns.map fun i=>some (V.int i))
  |_=>false)
 |none=>false
def Ul:∀ {ns:List Int} {us:List VL},us.map VC=ns.map (fun i=>some (V.int i))->Vals (ns.map V.int) us
 |[],[],_=>.nil
 |[],u::us,h=>by simp at h
 |n::ns,[],h=>by simp at h
 |n::ns,u::us,h=>by
  rw[List.map_cons,List.map_cons,List.cons.injEq]at h;refine .cons ?_ (Ul h.2);cases u with
  |int i t=>
   have:=h.1;simp[VC]at this;subst this;exact⟨t,rfl⟩
  |_=>have:=h.1;simp[VC]at this
def lD{K:Fg}{a:AD}{ns:rd}(h:eX K a ns=true):Own K a ns:=by
 unfold eX at h;split at h
 .rename_i o e;rw[Bool.and_eq_true,Bool.and_eq_true]at h;obtain⟨⟨O,U⟩,g⟩:=h;have T:o.cls=.type "tuple" := by
   split at O
   .rename_i n R;rw[R,eq_of_beq O]
   .cases O
  have Y:o.dict=none:=by simpa using U
  split at g
  .rename_i I n R;rw[Bool.and_eq_true,decide_eq_true_eq,decide_eq_true_eq]at g;exact⟨fun H=>.inr ⟨o,I,n,e,T,R,Nat.le_trans g.1 (by rw[sizeLine_eq];decide),Ul g.2⟩,o,e,T,Y⟩
  .cases g
 .cases h
def Tb.Sm.fits{t:Tb}(h:t.Sm):t.Fits 3:=⟨fun r I q g=>(h.1 r I q g).1,fun q g=>(h.2 q g).1⟩
def l0{t:Tb}(o:t.Ok 4):EJ true (Aq t) (Aq t)=some (.bool false):=by
 have g:=o.sm (show 4<=60 by decide);have I:=g.ok.shaped (by decide);refine(if_pos ⟨I,I⟩).trans ?_;rw[MA _ (OC t)];rfl
def fB(g:rp):EJ true (Ec g) (Ec g)=some (.bool false):=ne_self (fm g) (by decide)
def lH(q:Rat):D7 [BX q]=some (.bool true):=by
 refine C5 rfl ?_;unfold TU;refine Af (Ci (El rfl (CL (x:=.int 2) (y:=.int 2) rfl rfl (L0 2))) rfl) (Ez (BL (x:=.int 0) (y:=.int 0) (A4 (xs:=[.list []]) (Bf (Wq (xs:=[.int q.num,.int (q.den:Int)]) rfl fun x g=>?_) rfl) rfl) rfl (by kernel_rfl)));rcases aM.mp g with rfl|g
 .rfl
 .rw[List.mem_singleton.mp g];rfl
abbrev fG:MD:=Cp D7
def Wl(g:rp):fG [Ec g,Ec g]=some (.bool true):=by
 refine C5 rfl ?_;unfold O3;refine Af (Ci (El rfl (CL (x:=.int 0) (y:=.int 0) (A4 (xs:=[.list []]) (Bf (Wq (xs:=g.map BX) rfl fun x I=>?_) rfl) rfl) rfl rfl)) rfl) (Ez (BL (x:=Ec g) (y:=Ec g) rfl rfl (UK (fm g) (by decide))));obtain⟨q,_,rfl⟩:=aT.mp I;exact Fd (Ex (A4 (xs:=[BX q]) rfl (lH q)))
def Wd{ir:Nat}{m:MD}{g:rR}{f:rQ}{xs:rS}{δ:Dv}{z u y:PD}(U:m [.list xs]=some z)(T:Qp z=some u)(R:g (δ.set ir (.d u))=some false)(O:f (δ.set ir (.d u))=some y)(I:xs.length<C9):dZ ir m g f xs δ=some (xs++[y],u):=by
 show(m [.list xs]).bind _=_;rw[U];show(Qp z).bind _=_;rw[T];show(g _).bind _=_;rw[R];show(if false=true then none else(f _).bind _)=_;rw[if_neg (by decide),O];exact if_pos I
def eM{ia ib ix ir:Nat}{bd:List PD->Dv->Option (rS×PD)}{δ:Dv}{xs ys g I:rS}{u O:PD}(h0:¬δ.length<=ix)(Y:ow ia δ=some xs)(U:ow ib δ=some ys)(T:bd xs (δ.set ix .no)=some (g,u))(R:bd ys ((((δ.set ix .no).set ir (.d u)).set ia (.own (.lst g))).set ix .no)=some (I,O)):QD ia ib ix ir bd δ=some (.nx ((((((δ.set ix .no).set ir (.d u)).set ia (.own (.lst g))).set ix .no).set ir (.d O)).set ib (.own (.lst I)))):=by
 show(if δ.length<=ix then none else _)=_;rw[if_neg h0];show(ow ia δ).bind _=_;rw[Y];show(ow ib δ).bind _=_;rw[U];show(bd xs _).bind _=_;rw[T];show(bd ys _).map _=_;rw[R]
 rfl
def Wx{f:rQ}{δ:Dv}{xs:rS}{y:PD}(h:f δ=some (.list (xs++[y]))):P0 f ML (Mb (Vf (fC (.int 1)))) δ=some (.list xs):=by
 show(f δ).bind _=_;rw[h];show some (PyData.list (cutD (xs++[y]) none (some (-1))))=_;rw[dC,List.length_append];simp
noncomputable abbrev km(I R g O:AD):MD:=fX Bg CA ei (kT I g) fG R9 Fx (eZ I g) (good (cM I R)) (eo g) (good (Zu O))
def gG{t:Tb}(h:t.Wu){n:Nat}(hn:n<=7)(O I:AD){δ:Dv}(U:Dd [none,none,some 4] δ=[.no,.no,.d (Aq t)])(T:nm 5 δ=some (Bb n)):Dl (Cv 1) Gk (AV (good (cM O I)) (AB (nm 2) (AB (nm 1) AG))) [none,none,some 4] (EF (nm 5)) δ=some (Ec (Ls t n)):=by
 have e:(L2.BE (Tr.of (Cn n))).map (fun x=>BX (Jq t ((E9 x).getD .nil)))=(Ls t n).map BX:=by
  rw[JW,List.map_map,List.map_map];refine List.map_congr_left fun u _=>?_;show BX (Jq t ((E9 (.tuple (L2.BE u))).getD .nil))=_;rw[E9,Lb]
  rfl
 rw[show Ec (Ls t n)=.list ((Ls t n).map BX) from rfl,<-e];refine comp_map (xs:=L2.BE (Tr.of (Cn n))) (ik T rfl) (by rw[JW,List.length_map];have:=Wy hn;unfold C9;lia) fun x g=>?_;rw[JW]at g;obtain⟨u,R,rfl⟩:=aT.mp g;rw[U];refine A4 (xs:=[Aq t,tD u]) rfl ?_;rw[Ja (ky h (Vd hn R) O I),E9,Lb]
 rfl
def XO{t:Tb}{n:Nat}(h:n<=7):(Ls t n).length=N7 n:=by rw[List.length_map,Vi n h]
def jf(I Y g R:AD)(ns:rd):km I Y g R [Dp ns]=some (.bool true):=by
 obtain⟨o,s⟩:=jd (EH ns 0) (EH ns 1) (most:=4) (by decide) (by decide);have U:R9 [Dp ns,.int 0,.int 4]=_:=gU ns 0 4 (by decide) (by decide);generalize Qw (EH ns 0) (EH ns (0+1)) 4=t at U o s;have O:t.Wu:=ni o (by decide) s.fits (by decide) (by decide);have T:Bg [Dp ns,.int 2]=some (.int (EH ns 2)):=UD ns 2;generalize EH ns 2=c at T;obtain⟨n,en⟩:∃n:Nat,c % 8=(n:Int):=⟨(c % 8).toNat,by lia⟩;have hn:n<=7:=by lia
 have l85:=VG hn;have one:(0:Nat)<1:=by decide
 refine C5 rfl ?_;unfold fE;refine Af (F6 (A4 (xs:=[Dp ns,.int 0,.int 4]) rfl U)) ?_;refine Af (F6 (A4 (xs:=[Dp ns,.int 2]) rfl T)) ?_;refine Af (F6 (y:=.int (n:Nat)) (BL (x:=.int c) (y:=.int 8) rfl rfl ((mod_is (by decide)).trans (by rw[en])))) ?_;refine Af (F6 (A4 (xs:=[Aq t]) rfl (bp o))) ?_;refine Af (F6 (A4 (xs:=[.int (n:Nat)]) rfl (dW hn))) ?_;refine Af (WI (ds:=[Aq t,.int (n:Nat)]) rfl (Z5 O hn I g)) ?_;refine Af (WI (ds:=[.int (n:Nat)]) rfl (Yp hn g)) ?_;have c1:=gG O hn I Y (δ:=[.d (Dp ns),.d (Aq t),.d (.int c),.d (.int (n:Nat)),.d (Aq t),.d (Bb n),.d (Ec (Ls t n)),.d (Ec (Mf n)),.no,.no]) rfl rfl;have c2:Dl (Cv 1) Gk (BS (AB (fC (.int 1)) (AB (AV ei (AB (nm 1) AG)) AG))) [none,none] (EF (nm 5)) [.d (Dp ns),.d (Aq t),.d (.int c),.d (.int (n:Nat)),.d (Aq t),.d (Bb n),.d (Ec (Ls t n)),.d (Ec (Mf n)),.no,.no]=some (Ec (Mf n)):=by
  unfold Dl;rw[WY hn (fun t h=>(Rk h).1) rfl]
  rfl
 refine Af (Ci (El (Fd (Ex (A4 (xs:=[Ec (Ls t n),Ec (Ls t n)]) (Bf rfl (Bf c1 rfl)) (Wl _)))) (CL (x:=Aq t) (y:=Aq t) rfl rfl (l0 o))) rfl) ?_;refine Af (Ci (Fd (Ex (A4 (xs:=[Ec (Mf n),Ec (Mf n)]) (Bf rfl (Bf c2 rfl)) (Wl _)))) rfl) ?_;refine Af (δ':=[.d (Dp ns),.d (Aq t),.d (.int c),.d (.int (n:Nat)),.d (Aq t),.d (Bb n),.own (.lst ((Ls t n).map BX++[.tuple [.int 1,.int 1]])),.own (.lst ((Mf n).map BX++[.tuple [.int 1,.int 1]])),.no,.d (.int (n:Nat))]) (eM (xs:=(Ls t n).map BX) (ys:=(Mf n).map BX) (by show ¬10<=8;decide) rfl rfl (Wd (z:=.int (n:Nat)) (u:=.int (n:Nat)) (y:=.tuple [.int 1,.int 1]) (Ja (VO hn (XO hn) R)) rfl (El rfl (El rfl (CL (x:=.int (n:Nat)) (y:=.int (n:Nat)) rfl rfl (L0 _)))) rfl (by rw[List.length_map,XO hn];unfold C9;lia)) (Wd (z:=.int (n:Nat)) (u:=.int (n:Nat)) (y:=.tuple [.int 1,.int 1]) (Ja (VO hn (Rl hn) R)) rfl (El rfl (El rfl (CL (x:=.int (n:Nat)) (y:=.int (n:Nat)) rfl rfl (L0 _)))) rfl (by rw[List.length_map,Rl hn];unfold C9;lia))) ?_;have a1:ZP (eo g) [.int (n:Nat)]=some (Ec (Mf n)):=by
  show(eo g [.int (n:Nat)]).map _=_;rw[Yp hn g];rfl
 have a2:ZP (eZ I g) [Aq t,.int (n:Nat)]=some (Ec (Ls t n)):=by
  show(eZ I g [Aq t,.int (n:Nat)]).map _=_;rw[Z5 O hn I g];rfl
 refine Af (Ci (El (CL (A4 (xs:=[.int (n:Nat)]) rfl a1) (Wx rfl) (fB _)) (CL (A4 (xs:=[Aq t,.int (n:Nat)]) rfl a2) (Wx rfl) (fB _))) rfl) ?_;refine Ez (Qo (A4 (xs:=[Aq t,.int (-1-c / 8 % 9)]) (Bf rfl (Bf (BL (x:=.int (-1)) (y:=.int (c / 8 % 9)) rfl (BL (x:=.int (c / 8)) (y:=.int 9) (BL (x:=.int c) (y:=.int 8) rfl rfl (div_is (by decide) (by decide))) rfl (mod_is (by decide))) rfl) rfl)) (RD o (by decide) (by lia) I g)) ?_);exact A4 (xs:=[Aq t,.int (8+c / 72 % 90)]) (Bf rfl (Bf (BL (x:=.int 8) (y:=.int (c / 72 % 90)) rfl (BL (x:=.int (c / 72)) (y:=.int 90) (BL (x:=.int c) (y:=.int 72) rfl rfl (div_is (by decide) (by decide))) rfl (mod_is (by decide))) rfl) rfl)) (RD o (by decide) (by lia) I g)
def Yg(K:Fg):Sp:=fun vs H Q _=>∃(a:AD) (ns:List Int),vs=[.ref a]/\Al K H a (ns.map V.int)/\ns.length<=63/\∀H',Q (.bl true) H'
def m9{P:Program}{w:World}{K:Fg}{mg:rW}{base:Heap}{f:AD}{fd:FuncData}{k:Nat}{T R O I:AD}(Y:Tx K=true)(F:AI P w K mg base Aa k f fd ["_law_script"] (BH (km T R O I))):AI P w K mg base Aa k f fd ["_law_script"] (Yg K) :=
 F.imp fun vs H Q E z=>by
  obtain⟨a,ns,rfl,U,_,q⟩:=z;refine⟨[Dp ns],.bool true,H,jf T R O I ns,.cons (Z7 (j0 Y U)) .nil,.refl _,fun v Z H' _ _ _ _ g=>?_⟩;rw[Du]at g;subst g;exact q H'
section
open PySem.W PyProof.Rows PySem.Calls
abbrev FY:Program:=PySem.Challenge.pw_stepgrove_k40_weighings
abbrev EI:OpenLaw:=PySem.Challenge.rw_stepgrove_k40_weighings
noncomputable abbrev dE(P:Params)(x:String)(t:Nat)(v:VL):DictEntry:=⟨PyData.keyHash P (Str.ofString x),.str (Str.ofString x) t,v⟩
noncomputable abbrev sV(x:String)(t:Nat):VL:=.str (Str.ofString x) t
noncomputable abbrev fO(n:String)(i:Nat)(m:String)(t c:Nat):Obj:=⟨.type "function",none,.func (fnOf n n (F9 (top i)) (DM (top i)) (AM (top i)) .none .none .none (.str (Str.ofString m) t) none (.ref c) .none),#[]⟩
noncomputable abbrev cO(n:String)(t l a k r:Nat)(b:Bool)(T:Nat)(R O I v4:VL)(g:Nat):Obj:=⟨.type "code",none,.fields #[sV n t,sV n (t+1),sV "/claim/cut.py" (t+2),.int l 0,.int a 0,.int 0 0,.int 0 0,.int k 0,.ref r,.bool b,.int 181 0,.ref T,R,O,I,v4,.int g 0,.int l 0,sV "/claim/cut.py" (g+1)],#[]⟩
noncomputable def kH:Params->Frag:=fun P=>
 (nat_lit 2,⟨.none,none,(.dict #[] 0),#[]⟩) ::
 (nat_lit 3,⟨(.type "dict"),none,(.dict #[dE P "__name__" 165 (sV "law_stepgrove_k40_weighings" 537),dE P "__doc__" 166 .none,dE P "__package__" 167 .none,dE P "__loader__" 168 (.builtin "__main__.__loader__#opaque"),dE P "__spec__" 169 .none,dE P "__annotations__" 170 (.ref 6),dE P "__builtins__" 171 (.ref 4),dE P "__file__" 173 (sV "/claim/cut.py" 172),dE P "__cached__" 174 .none,dE P "GroveError" 206 (.ref 24),dE P "NoBottom" 222 (.ref 37),dE P "NoTree" 238 (.ref 49),dE P "NoTable" 254 (.ref 61),dE P "NoWeighing" 270 (.ref 73),dE P "TooMany" 286 (.ref 85),dE P "fraction_of" 297 (.ref 94),dE P "is_fraction" 304 (.ref 101),dE P "are_fractions" 312 (.ref 108),dE P "is_whole" 319 (.ref 115),dE P "greatest_divisor" 330 (.ref 122),dE P "common_bottom" 339 (.ref 129),dE P "power_of" 350 (.ref 136),dE P "MOST_ROWS" 354 (.int 40 353),dE P "is_table" 361 (.ref 143),dE P "refuse_no_table" 368 (.ref 150),dE P "are_rows" 377 (.ref 157),dE P "MOST_KNOTS" 381 (.int 7 380),dE P "is_tree" 390 (.ref 164),dE P "trees_of" 401 (.ref 171),dE P "trees_to" 410 (.ref 178),dE P "refuse_no_tree" 417 (.ref 185),dE P "in_falling_order" 424 (.ref 192),dE P "knots_within" 430 (.ref 197),dE P "density_within" 439 (.ref 204),dE P "trees_one_larger" 450 (.ref 211),dE P "tops_over" 458 (.ref 216),dE P "table_bottom" 464 (.ref 221),dE P "WEIGHING_LENGTHS" 475 (.ref 222),dE P "table_weight" 483 (.ref 229),dE P "table_weighing" 491 (.ref 236),dE P "true_weighing" 498 (.ref 243),dE P "weighing_reach" 505 (.ref 250),dE P "refuse_no_weighing" 512 (.ref 257),dE P "true_weights" 518 (.ref 262),dE P "weights_under" 524 (.ref 267),dE P "readings" 530 (.ref 272),dE P "read_by" 536 (.ref 277),dE P "_law_cell" 548 (.ref 284),dE P "_law_frac" 558 (.ref 291),dE P "_law_add" 566 (.ref 298),dE P "_law_mul" 574 (.ref 305),dE P "_law_all" 583 (.ref 312),dE P "_law_kept" 589 (.ref 317),dE P "_law_longer" 595 (.ref 322),dE P "_law_trees" 607 (.ref 329),dE P "_law_knots" 613 (.ref 334),dE P "_law_density" 622 (.ref 341),dE P "_law_entry" 629 (.ref 348),dE P "_law_named" 636 (.ref 355),dE P "_law_table" 653 (.ref 362),dE P "_law_copied" 659 (.ref 367),dE P "_law_is" 665 (.ref 372),dE P "_law_same" 671 (.ref 377),dE P "_law_refused" 683 (.ref 384),dE P "law" 689 (.ref 389)] 65),#[]⟩) ::
 (nat_lit 15,⟨(.type "tuple"),none,(.seq #[(.type "ValueError")] 0),#[]⟩) ::
 (nat_lit 22,⟨(.type "tuple"),none,(.seq #[] 0),#[]⟩) ::
 (nat_lit 23,⟨(.type "dict"),none,(.dict #[dE P "__module__" 196 (sV "stepgrove.errors" 187),dE P "__firstlineno__" 200 (.int 2 199),dE P "__static_attributes__" 201 (.ref 22),dE P "__weakref__" 203 (.ref 25),dE P "__doc__" 204 .none] 3),#[]⟩) ::
 (nat_lit 24,⟨(.type "type"),none,(.cls ⟨Str.ofString "GroveError",[(.type "ValueError")],[(.ref 24),(.type "ValueError"),(.type "Exception"),(.type "BaseException"),(.type "object")],23,Str.ofString "GroveError",true,[],[(.ref 37),(.ref 49),(.ref 61),(.ref 73),(.ref 85)],false,none,false⟩),#[some (.ref 15),none,some (sV "GroveError" 189),some (sV "GroveError" 197),some (.builtin "ValueError.__new__"),some (.bool true)]⟩) ::
 (nat_lit 25,⟨(.type "getset_descriptor"),none,(.fields #[(sV "__weakref__" 202),(.ref 24),(.builtin "ExceptionGroup.__weakref__"),.none]),#[]⟩) ::
 (nat_lit 28,⟨(.type "tuple"),none,(.seq #[(.ref 24)] 0),#[]⟩) ::
 (nat_lit 35,⟨(.type "tuple"),none,(.seq #[] 0),#[]⟩) ::
 (nat_lit 36,⟨(.type "dict"),none,(.dict #[dE P "__module__" 214 (sV "stepgrove.errors" 187),dE P "__firstlineno__" 218 (.int 4 217),dE P "__static_attributes__" 219 (.ref 35),dE P "__doc__" 220 .none] 2),#[]⟩) ::
 (nat_lit 37,⟨(.type "type"),none,(.cls ⟨Str.ofString "NoBottom",[(.ref 24)],[(.ref 37),(.ref 24),(.type "ValueError"),(.type "Exception"),(.type "BaseException"),(.type "object")],36,Str.ofString "NoBottom",true,[],[],false,none,false⟩),#[some (.ref 28),none,some (sV "NoBottom" 207),some (sV "NoBottom" 215),some (.builtin "ValueError.__new__"),some (.bool true)]⟩) ::
 (nat_lit 40,⟨(.type "tuple"),none,(.seq #[(.ref 24)] 0),#[]⟩) ::
 (nat_lit 47,⟨(.type "tuple"),none,(.seq #[] 0),#[]⟩) ::
 (nat_lit 48,⟨(.type "dict"),none,(.dict #[dE P "__module__" 230 (sV "stepgrove.errors" 187),dE P "__firstlineno__" 234 (.int 6 233),dE P "__static_attributes__" 235 (.ref 47),dE P "__doc__" 236 .none] 2),#[]⟩) ::
 (nat_lit 49,⟨(.type "type"),none,(.cls ⟨Str.ofString "NoTree",[(.ref 24)],[(.ref 49),(.ref 24),(.type "ValueError"),(.type "Exception"),(.type "BaseException"),(.type "object")],48,Str.ofString "NoTree",true,[],[],false,none,false⟩),#[some (.ref 40),none,some (sV "NoTree" 223),some (sV "NoTree" 231),some (.builtin "ValueError.__new__"),some (.bool true)]⟩) ::
 (nat_lit 52,⟨(.type "tuple"),none,(.seq #[(.ref 24)] 0),#[]⟩) ::
 (nat_lit 59,⟨(.type "tuple"),none,(.seq #[] 0),#[]⟩) ::
 (nat_lit 60,⟨(.type "dict"),none,(.dict #[dE P "__module__" 246 (sV "stepgrove.errors" 187),dE P "__firstlineno__" 250 (.int 8 249),dE P "__static_attributes__" 251 (.ref 59),dE P "__doc__" 252 .none] 2),#[]⟩) ::
 (nat_lit 61,⟨(.type "type"),none,(.cls ⟨Str.ofString "NoTable",[(.ref 24)],[(.ref 61),(.ref 24),(.type "ValueError"),(.type "Exception"),(.type "BaseException"),(.type "object")],60,Str.ofString "NoTable",true,[],[],false,none,false⟩),#[some (.ref 52),none,some (sV "NoTable" 239),some (sV "NoTable" 247),some (.builtin "ValueError.__new__"),some (.bool true)]⟩) ::
 (nat_lit 64,⟨(.type "tuple"),none,(.seq #[(.ref 24)] 0),#[]⟩) ::
 (nat_lit 71,⟨(.type "tuple"),none,(.seq #[] 0),#[]⟩) ::
 (nat_lit 72,⟨(.type "dict"),none,(.dict #[dE P "__module__" 262 (sV "stepgrove.errors" 187),dE P "__firstlineno__" 266 (.int 10 265),dE P "__static_attributes__" 267 (.ref 71),dE P "__doc__" 268 .none] 2),#[]⟩) ::
 (nat_lit 73,⟨(.type "type"),none,(.cls ⟨Str.ofString "NoWeighing",[(.ref 24)],[(.ref 73),(.ref 24),(.type "ValueError"),(.type "Exception"),(.type "BaseException"),(.type "object")],72,Str.ofString "NoWeighing",true,[],[],false,none,false⟩),#[some (.ref 64),none,some (sV "NoWeighing" 255),some (sV "NoWeighing" 263),some (.builtin "ValueError.__new__"),some (.bool true)]⟩) ::
 (nat_lit 76,⟨(.type "tuple"),none,(.seq #[(.ref 24)] 0),#[]⟩) ::
 (nat_lit 83,⟨(.type "tuple"),none,(.seq #[] 0),#[]⟩) ::
 (nat_lit 84,⟨(.type "dict"),none,(.dict #[dE P "__module__" 278 (sV "stepgrove.errors" 187),dE P "__firstlineno__" 282 (.int 12 281),dE P "__static_attributes__" 283 (.ref 83),dE P "__doc__" 284 .none] 2),#[]⟩) ::
 (nat_lit 85,⟨(.type "type"),none,(.cls ⟨Str.ofString "TooMany",[(.ref 24)],[(.ref 85),(.ref 24),(.type "ValueError"),(.type "Exception"),(.type "BaseException"),(.type "object")],84,Str.ofString "TooMany",true,[],[],false,none,false⟩),#[some (.ref 76),none,some (sV "TooMany" 271),some (sV "TooMany" 279),some (.builtin "ValueError.__new__"),some (.bool true)]⟩) ::
 (nat_lit 93,cO "fraction_of" 289 15 2 3 88 true 89 .none (.ref 90) (.ref 91) (.ref 92) 295) ::
 (nat_lit 94,fO "fraction_of" 8 "stepgrove.fracs" 287 93) ::
 (nat_lit 100,cO "is_fraction" 298 22 1 3 95 true 96 .none (.ref 97) (.ref 98) (.ref 99) 302) ::
 (nat_lit 101,fO "is_fraction" 9 "stepgrove.fracs" 287 100) ::
 (nat_lit 107,cO "are_fractions" 305 28 1 3 102 true 103 .none (.ref 104) (.ref 105) (.ref 106) 310) ::
 (nat_lit 108,fO "are_fractions" 10 "stepgrove.fracs" 287 107) ::
 (nat_lit 114,cO "is_whole" 313 35 1 3 109 true 110 .none (.ref 111) (.ref 112) (.ref 113) 317) ::
 (nat_lit 115,fO "is_whole" 11 "stepgrove.fracs" 287 114) ::
 (nat_lit 121,cO "greatest_divisor" 320 37 2 3 116 true 117 .none (.ref 118) (.ref 119) (.ref 120) 328) ::
 (nat_lit 122,fO "greatest_divisor" 12 "stepgrove.fracs" 287 121) ::
 (nat_lit 128,cO "common_bottom" 331 45 1 3 123 true 124 .none (.ref 125) (.ref 126) (.ref 127) 337) ::
 (nat_lit 129,fO "common_bottom" 13 "stepgrove.fracs" 287 128) ::
 (nat_lit 135,cO "power_of" 340 50 2 3 130 true 131 .none (.ref 132) (.ref 133) (.ref 134) 348) ::
 (nat_lit 136,fO "power_of" 14 "stepgrove.fracs" 287 135) ::
 (nat_lit 142,cO "is_table" 355 63 1 3 137 true 138 .none (.ref 139) (.ref 140) (.ref 141) 359) ::
 (nat_lit 143,fO "is_table" 17 "stepgrove.tables" 351 142) ::
 (nat_lit 149,cO "refuse_no_table" 362 67 1 3 144 true 145 .none (.ref 146) (.ref 147) (.ref 148) 366) ::
 (nat_lit 150,fO "refuse_no_table" 18 "stepgrove.tables" 351 149) ::
 (nat_lit 156,cO "are_rows" 369 70 1 3 151 true 152 .none (.ref 153) (.ref 154) (.ref 155) 375) ::
 (nat_lit 157,fO "are_rows" 19 "stepgrove.tables" 351 156) ::
 (nat_lit 163,cO "is_tree" 382 79 1 3 158 true 159 .none (.ref 160) (.ref 161) (.ref 162) 388) ::
 (nat_lit 164,fO "is_tree" 22 "stepgrove.trees" 378 163) ::
 (nat_lit 170,cO "trees_of" 391 88 1 3 165 true 166 .none (.ref 167) (.ref 168) (.ref 169) 399) ::
 (nat_lit 171,fO "trees_of" 23 "stepgrove.trees" 378 170) ::
 (nat_lit 177,cO "trees_to" 402 98 1 3 172 true 173 .none (.ref 174) (.ref 175) (.ref 176) 408) ::
 (nat_lit 178,fO "trees_to" 24 "stepgrove.trees" 378 177) ::
 (nat_lit 184,cO "refuse_no_tree" 411 105 1 3 179 true 180 .none (.ref 181) (.ref 182) (.ref 183) 415) ::
 (nat_lit 185,fO "refuse_no_tree" 25 "stepgrove.trees" 378 184) ::
 (nat_lit 191,cO "in_falling_order" 418 108 1 3 186 true 187 .none (.ref 188) (.ref 189) (.ref 190) 422) ::
 (nat_lit 192,fO "in_falling_order" 26 "stepgrove.trees" 378 191) ::
 (nat_lit 196,cO "knots_within" 425 110 1 3 193 true 194 .none .none .none (.ref 195) 428) ::
 (nat_lit 197,fO "knots_within" 27 "stepgrove.trees" 378 196) ::
 (nat_lit 203,cO "density_within" 431 112 1 3 198 true 199 .none (.ref 200) (.ref 201) (.ref 202) 437) ::
 (nat_lit 204,fO "density_within" 28 "stepgrove.trees" 378 203) ::
 (nat_lit 210,cO "trees_one_larger" 440 117 1 3 205 true 206 .none (.ref 207) (.ref 208) (.ref 209) 448) ::
 (nat_lit 211,fO "trees_one_larger" 29 "stepgrove.trees" 378 210) ::
 (nat_lit 215,cO "tops_over" 453 124 2 3 212 true 213 .none .none .none (.ref 214) 456) ::
 (nat_lit 216,fO "tops_over" 31 "stepgrove.wholes" 451 215) ::
 (nat_lit 220,cO "table_bottom" 459 126 1 3 217 true 218 .none .none .none (.ref 219) 462) ::
 (nat_lit 221,fO "table_bottom" 32 "stepgrove.wholes" 451 220) ::
 (nat_lit 222,⟨(.type "tuple"),none,(.seq #[(.int 0 467),(.int 1 468),(.int 2 469),(.int 4 470),(.int 8 471),(.int 17 472),(.int 37 473),(.int 85 474)] 0),#[]⟩) ::
 (nat_lit 228,cO "table_weight" 476 133 2 3 223 true 224 .none (.ref 225) (.ref 226) (.ref 227) 481) ::
 (nat_lit 229,fO "table_weight" 35 "stepgrove.weights" 465 228) ::
 (nat_lit 235,cO "table_weighing" 484 137 2 3 230 true 231 .none (.ref 232) (.ref 233) (.ref 234) 489) ::
 (nat_lit 236,fO "table_weighing" 36 "stepgrove.weights" 465 235) ::
 (nat_lit 242,cO "true_weighing" 492 140 1 3 237 true 238 .none (.ref 239) (.ref 240) (.ref 241) 496) ::
 (nat_lit 243,fO "true_weighing" 37 "stepgrove.weights" 465 242) ::
 (nat_lit 249,cO "weighing_reach" 499 142 1 3 244 true 245 .none (.ref 246) (.ref 247) (.ref 248) 503) ::
 (nat_lit 250,fO "weighing_reach" 38 "stepgrove.weights" 465 249) ::
 (nat_lit 256,cO "refuse_no_weighing" 506 145 1 3 251 true 252 .none (.ref 253) (.ref 254) (.ref 255) 510) ::
 (nat_lit 257,fO "refuse_no_weighing" 39 "stepgrove.weights" 465 256) ::
 (nat_lit 261,cO "true_weights" 513 148 1 3 258 true 259 .none .none .none (.ref 260) 516) ::
 (nat_lit 262,fO "true_weights" 40 "stepgrove.weights" 465 261) ::
 (nat_lit 266,cO "weights_under" 519 150 2 3 263 true 264 .none .none .none (.ref 265) 522) ::
 (nat_lit 267,fO "weights_under" 41 "stepgrove.weights" 465 266) ::
 (nat_lit 271,cO "readings" 525 158 3 3 268 true 269 .none .none .none (.ref 270) 528) ::
 (nat_lit 272,fO "readings" 42 "stepgrove.weights" 465 271) ::
 (nat_lit 276,cO "read_by" 531 165 2 3 273 true 274 .none .none .none (.ref 275) 534) ::
 (nat_lit 277,fO "read_by" 43 "stepgrove.weights" 465 276) ::
 (nat_lit 283,cO "_law_cell" 539 168 2 3 278 true 279 .none (.ref 280) (.ref 281) (.ref 282) 546) ::
 (nat_lit 284,fO "_law_cell" 45 "law_stepgrove_k40_weighings" 537 283) ::
 (nat_lit 290,cO "_law_frac" 549 177 2 3 285 true 286 .none (.ref 287) (.ref 288) (.ref 289) 556) ::
 (nat_lit 291,fO "_law_frac" 46 "law_stepgrove_k40_weighings" 537 290) ::
 (nat_lit 316,cO "_law_kept" 584 194 1 3 313 true 314 .none .none .none (.ref 315) 587) ::
 (nat_lit 317,fO "_law_kept" 50 "law_stepgrove_k40_weighings" 537 316) ::
 (nat_lit 321,cO "_law_longer" 590 196 1 3 318 true 319 .none .none .none (.ref 320) 593) ::
 (nat_lit 322,fO "_law_longer" 51 "law_stepgrove_k40_weighings" 537 321) ::
 (nat_lit 328,cO "_law_trees" 596 201 1 3 323 true 324 .none (.ref 325) (.ref 326) (.ref 327) 605) ::
 (nat_lit 329,fO "_law_trees" 52 "law_stepgrove_k40_weighings" 537 328) ::
 (nat_lit 333,cO "_law_knots" 608 211 1 3 330 true 331 .none .none .none (.ref 332) 611) ::
 (nat_lit 334,fO "_law_knots" 53 "law_stepgrove_k40_weighings" 537 333) ::
 (nat_lit 340,cO "_law_density" 614 213 1 3 335 true 336 .none (.ref 337) (.ref 338) (.ref 339) 620) ::
 (nat_lit 341,fO "_law_density" 54 "law_stepgrove_k40_weighings" 537 340) ::
 (nat_lit 347,cO "_law_entry" 623 218 1 3 342 true 343 .none (.ref 344) (.ref 345) (.ref 346) 627) ::
 (nat_lit 348,fO "_law_entry" 55 "law_stepgrove_k40_weighings" 537 347) ::
 (nat_lit 354,cO "_law_named" 630 220 1 3 349 true 350 .none (.ref 351) (.ref 352) (.ref 353) 634) ::
 (nat_lit 355,fO "_law_named" 56 "law_stepgrove_k40_weighings" 537 354) ::
 (nat_lit 361,cO "_law_table" 637 230 3 3 356 true 357 .none (.ref 358) (.ref 359) (.ref 360) 651) ::
 (nat_lit 362,fO "_law_table" 57 "law_stepgrove_k40_weighings" 537 361) ::
 (nat_lit 366,cO "_law_copied" 654 253 1 3 363 true 364 .none .none .none (.ref 365) 657) ::
 (nat_lit 367,fO "_law_copied" 58 "law_stepgrove_k40_weighings" 537 366) ::
 (nat_lit 371,cO "_law_is" 660 255 1 3 368 true 369 .none .none .none (.ref 370) 663) ::
 (nat_lit 372,fO "_law_is" 59 "law_stepgrove_k40_weighings" 537 371) ::
 (nat_lit 376,cO "_law_same" 666 259 2 3 373 true 374 .none .none .none (.ref 375) 669) ::
 (nat_lit 377,fO "_law_same" 60 "law_stepgrove_k40_weighings" 537 376) ::
 (nat_lit 383,cO "_law_refused" 672 263 2 3 378 true 379 .none (.ref 380) (.ref 381) (.ref 382) 681) ::
 (nat_lit 384,fO "_law_refused" 61 "law_stepgrove_k40_weighings" 537 383) ::
 (nat_lit 388,cO "law" 684 276 1 3 385 true 386 .none .none .none (.ref 387) 687) ::
 (nat_lit 389,fO "law" 62 "law_stepgrove_k40_weighings" 537 388)::[]
abbrev qX:Program:=view FY [1,2,3,4,5,6,8,9,10,11,12,13,14,16,17,18,19,21,22,23,24,25,26,27,28,29,31,32,34,35,36,37,38,39,40,41,42,43,45,46,47,48,49,50,51,52,53,54,55,56,57,58,59,60,61,62]
noncomputable abbrev hX:Hook:=kHook kH [nat_lit 2,nat_lit 3,nat_lit 15,nat_lit 22,nat_lit 23,nat_lit 24,nat_lit 25,nat_lit 28,nat_lit 35,nat_lit 36,nat_lit 37,nat_lit 40,nat_lit 47,nat_lit 48,nat_lit 49,nat_lit 52,nat_lit 59,nat_lit 60,nat_lit 61,nat_lit 64,nat_lit 71,nat_lit 72,nat_lit 73,nat_lit 76,nat_lit 83,nat_lit 84,nat_lit 85,nat_lit 93,nat_lit 94,nat_lit 100,nat_lit 101,nat_lit 107,nat_lit 108,nat_lit 114,nat_lit 115,nat_lit 121,nat_lit 122,nat_lit 128,nat_lit 129,nat_lit 135,nat_lit 136,nat_lit 142,nat_lit 143,nat_lit 149,nat_lit 150,nat_lit 156,nat_lit 157,nat_lit 163,nat_lit 164,nat_lit 170,nat_lit 171,nat_lit 177,nat_lit 178,nat_lit 184,nat_lit 185,nat_lit 191,nat_lit 192,nat_lit 196,nat_lit 197,nat_lit 203,nat_lit 204,nat_lit 210,nat_lit 211,nat_lit 215,nat_lit 216,nat_lit 220,nat_lit 221,nat_lit 222,nat_lit 228,nat_lit 229,nat_lit 235,nat_lit 236,nat_lit 242,nat_lit 243,nat_lit 249,nat_lit 250,nat_lit 256,nat_lit 257,nat_lit 261,nat_lit 262,nat_lit 266,nat_lit 267,nat_lit 271,nat_lit 272,nat_lit 276,nat_lit 277,nat_lit 283,nat_lit 284,nat_lit 290,nat_lit 291,nat_lit 316,nat_lit 317,nat_lit 321,nat_lit 322,nat_lit 328,nat_lit 329,nat_lit 333,nat_lit 334,nat_lit 340,nat_lit 341,nat_lit 347,nat_lit 348,nat_lit 354,nat_lit 355,nat_lit 361,nat_lit 362,nat_lit 366,nat_lit 367,nat_lit 371,nat_lit 372,nat_lit 376,nat_lit 377,nat_lit 383,nat_lit 384,nat_lit 388,nat_lit 389] (fun _=>by kernel_rfl)
noncomputable def dX:DefRec:=⟨Str.ofString "law",F9 (top 62),DM (top 62),AM (top 62),⟨276,0,295,127⟩⟩
def nu:EI.wellSaid=true:=(congrFun PySem.W.Fast.te9446332074065402090 _).trans (by kernel_rfl)
def qE(w:World)(os:OsState):topGo treeTable FY w 11 Opn.Ig 12 ⟨boot_heap w.params,#[],boot_drawn,boot_toks,os⟩ (topStub FY)=some (Opn.sA w os,⟨denote treeTable (Opn.cB FY),Opn.cB FY,Opn.q0,Opn.bB⟩):=by kernel_rfl
def qZ(w:World)(os:OsState):segRun treeTable FY w 11 Opn.Ig 1 1 (Opn.sA w os) (blockOf (behindTheImports FY) (Opn.P8 FY) (Opn.cB FY) Opn.q0 Opn.bB)=some (.next,(Opn.sB w os).abs,Opn.cB FY,Opn.q0):=by kernel_rfl
def pW(w:World)(s:SD):topRun treeTable FY w 11 Opn.Ig 2 s (restOf [] (Opn.P8 FY) (Opn.cB FY) ⟨276,0,295,127⟩ Opn.bB)=some s:=by kernel_rfl
def qC(w:World)(os:OsState):Opn.Xy FY 2735 w os=some (.next,Opn.Yj FY 2735 w os,Opn.cB FY,⟨276,0,295,127⟩):=by kernel_rfl
noncomputable abbrev sX(w:World)(os:OsState):SD:=(Opn.Yj FY 2735 w os).abs
def NR(w:World)(os:OsState):(staticsOk (importedModules FY.main.body) (boot_heap w.params) (sX w os).heap&&namesBound FY (sX w os).heap&&gensDone (sX w os)&&laidKept (boot_heap w.params) (sX w os).heap)=true:=by kernel_rfl
def oZ(w:World)(os:OsState):hX.obs (sX w os)=hX.val w:=by kernel_rfl
noncomputable abbrev lx:SD->Bool:=fun s=>xlAt qX [] s&&recOk (RowW.records EI.row.toRowW) s
def oS(w:World)(os:OsState):openSeen qX [] (importedModules FY.main.body) lx true (sX w os)=openGood qX []:=by kernel_rfl
def oG(w:World):(fencedOpening treeTable FY w 5594).map (fun s=>(s.heap,s.gens,s.drawn,s.toks))=some (boot_heap w.params,#[],boot_drawn,boot_toks):=boot_open (p:=FY) (N:=5594) (by kernel_rfl) (by kernel_rfl) (fun _=>by kernel_rfl) w
def oQ:LeftO FY qX [] lx hX.obs hX.val 5594:=Opn.iH (M:=2750) (S:=sX) oG Opn.nQ (fun w os=>Opn.jx (qE w os) (qZ w os) (qC w os) (pW w) (by kernel_rfl)) (by kernel_rfl) NR oS oZ
def qF:defOf qX EI.row.name=some (dX,[]):=by kernel_rfl
def qh:FY.theDef EI.row.name=some (dX.params,dX.body,dX.scope):=by kernel_rfl
def qz:kwWritten? dX.params.kwonlyargs dX.params.kw_defaults=some []:=by kernel_rfl
def qf:(chainsOk qX&&opensWell EI.row.prog&&(frees EI.row.toRowW&&EI.row.within.isEmpty))=true:=by kernel_rfl
def nS:FY.bare:=⟨rfl,rfl,rfl,rfl,rfl,by decide +kernel⟩
def openX(R:EI.row.toRowW.promised)(T:WalkO qX [] (XL qX []) hX.says EI.row.toRowW dX [] (fun f vs=>PySem.call f vs)):EI.Holds :=
 holds_law nu fun g=>holds_open (r:=EI.row) (q:=qX) (loose:=[]) (Xt:=lx) (XP:=XL qX []) (Yf:=hX.obs) (Ya:=hX.val) (YP:=hX.says) (d:=dX) (kwd:=[]) (N:=5594) oQ hX.of hX.keeps (fun s e=>xl_of s (Bool.and_eq_true_iff.mp e).1) XL.keeps qF qh qz (fun s e=>recFacts_of (Bool.and_eq_true_iff.mp e).2) rfl g qf nS R T
end
section
open PySem.W
def fnX{w:World}{mg:rW}{h:Heap}(X:(kH w.params).In h)(G:h.Ns mainGlobals mg)(n:String)(i:Nat)(m:String)(t c f:Nat)(ps:rf)
 (ha:nsIn (kH w.params) mainGlobals (Str.ofString n)=some (some (.ref f)):=by kernel_rfl)(g:(kH w.params).lookup f=some (fO n i m t c):=by kernel_rfl)(I:codeIn (kH w.params) (.ref c) (Str.ofString n)=true:=by kernel_rfl)(hk:keepIn (kH w.params) (.ref f)=true:=by kernel_rfl)
 (hb:∀(kV doc pm:VL) (an:Option AD) (cdv ct:VL) (us:rT),us.length=ps.length->bindArgs (fnOf (Str.ofString n) (Str.ofString n) (F9 (top i)) (DM (top i)) (AM (top i)) .none kV doc pm an cdv ct) ⟨us,[]⟩=pure (ps.zip us):=by first|(exact fun _ _ _ _ _ _ us g=>match us,g with|[_],_=>rfl)|(exact fun _ _ _ _ _ _ us g=>match us,g with|[_,_],_=>rfl)|(exact fun _ _ _ _ _ _ us g=>match us,g with|[_,_,_],_=>rfl)|(exact fun _ _ _ _ _ _ us g=>match us,g with|[_,_,_,_],_=>rfl)|(exact fun _ _ _ _ _ _ us g=>match us,g with|[_,_,_,_,_],_=>rfl)|(exact fun _ _ _ _ _ _ us g=>match us,g with|[],_=>rfl)) :
  Fn (kH w.params) mg (Str.ofString n) (top i) ps f (fnOf (Str.ofString n) (Str.ofString n) (F9 (top i)) (DM (top i)) (AM (top i)) .none .none .none (.str (Str.ofString m) t) none (.ref c) .none) :=
 ⟨ZH g I hk,(ZH (st:=top i) g I hk).binds hb,mg_of X G ha⟩
set_option maxHeartbeats 4000000 in
def qD(w:World)(mg:rW)(fa:AD)(h:Heap)(X:(kH w.params).In h)(G:h.Ns mainGlobals mg)(hfa:mg "law" = some (.ref fa)):∃fd:FuncData,(∀(s:SD) (v:VL),BindsTo s fd ⟨[v],[]⟩ [("_law_script",v)])/\∀base:Heap,(kH w.params).In base->base.Ns mainGlobals mg->AI EI.prog w (kH w.params) mg base Aa 24 fa fd ["_law_script"] (Yg (kH w.params)):=by
 have e:=hfa.symm.trans (mg_of X G (v:=.ref 389) (by kernel_rfl));cases e;have Gh:=fnX X G "fraction_of" 8 "stepgrove.fracs" 287 93 94 ["top","bottom"];have Gf:=fnX X G "is_fraction" 9 "stepgrove.fracs" 287 100 101 ["thing"];have Bk:=fnX X G "are_fractions" 10 "stepgrove.fracs" 287 107 108 ["thing"];have HZ:=fnX X G "is_whole" 11 "stepgrove.fracs" 287 114 115 ["thing"];have BQ:=fnX X G "greatest_divisor" 12 "stepgrove.fracs" 287 121 122 ["one","other"];have Fq:=fnX X G "common_bottom" 13 "stepgrove.fracs" 287 128 129 ["bottoms"];have JG:=fnX X G "power_of" 14 "stepgrove.fracs" 287 135 136 ["base","power"];have JP:=fnX X G "is_table" 17 "stepgrove.tables" 351 142 143 ["thing"];have BU:=fnX X G "refuse_no_table" 18 "stepgrove.tables" 351 149 150 ["thing"];have JT:=fnX X G "are_rows" 19 "stepgrove.tables" 351 156 157 ["thing"];have FJ:=fnX X G "is_tree" 22 "stepgrove.trees" 378 163 164 ["thing"];have JJ:=fnX X G "trees_of" 23 "stepgrove.trees" 378 170 171 ["many"];have CB:=fnX X G "trees_to" 24 "stepgrove.trees" 378 177 178 ["most"];have FP:=fnX X G "refuse_no_tree" 25 "stepgrove.trees" 378 184 185 ["thing"];have CY:=fnX X G "in_falling_order" 26 "stepgrove.trees" 378 191 192 ["boughs"];have Az:=fnX X G "knots_within" 27 "stepgrove.trees" 378 196 197 ["tree"];have BB:=fnX X G "density_within" 28 "stepgrove.trees" 378 203 204 ["tree"];have Bn:=fnX X G "trees_one_larger" 29 "stepgrove.trees" 378 210 211 ["tree"];have IH:=fnX X G "tops_over" 31 "stepgrove.wholes" 451 215 216 ["some","bottom"];have GK:=fnX X G "table_bottom" 32 "stepgrove.wholes" 451 220 221 ["table"];have GI:=fnX X G "table_weight" 35 "stepgrove.weights" 465 228 229 ["table","tree"];have Bs:=fnX X G "table_weighing" 36 "stepgrove.weights" 465 235 236 ["table","most"];have Bx:=fnX X G "true_weighing" 37 "stepgrove.weights" 465 242 243 ["most"];have FO:=fnX X G "weighing_reach" 38 "stepgrove.weights" 465 249 250 ["weighing"];have Dx:=fnX X G "refuse_no_weighing" 39 "stepgrove.weights" 465 256 257 ["thing"];have CZ:=fnX X G "true_weights" 40 "stepgrove.weights" 465 261 262 ["trees"];have Bi:=fnX X G "weights_under" 41 "stepgrove.weights" 465 266 267 ["table","trees"];have ER:=fnX X G "readings" 42 "stepgrove.weights" 465 271 272 ["rows","tree","known"];have IW:=fnX X G "read_by" 43 "stepgrove.weights" 465 276 277 ["row","shares"];have D6:=fnX X G "_law_cell" 45 "law_stepgrove_k40_weighings" 537 283 284 ["_law_script","_law_k"];have IG:=fnX X G "_law_frac" 46 "law_stepgrove_k40_weighings" 537 290 291 ["_law_top","_law_bottom"];have Co:=fnX X G "_law_kept" 50 "law_stepgrove_k40_weighings" 537 316 317 ["_law_tree"];have C7:=fnX X G "_law_longer" 51 "law_stepgrove_k40_weighings" 537 321 322 ["_law_tree"];have HS:=fnX X G "_law_trees" 52 "law_stepgrove_k40_weighings" 537 328 329 ["_law_most"];have Cz:=fnX X G "_law_knots" 53 "law_stepgrove_k40_weighings" 537 333 334 ["_law_tree"];have Cc:=fnX X G "_law_density" 54 "law_stepgrove_k40_weighings" 537 340 341 ["_law_tree"];have Er:=fnX X G "_law_entry" 55 "law_stepgrove_k40_weighings" 537 347 348 ["_law_number"]
 have HI:=fnX X G "_law_named" 56 "law_stepgrove_k40_weighings" 537 354 355 ["_law_number"];have HU:=fnX X G "_law_table" 57 "law_stepgrove_k40_weighings" 537 361 362 ["_law_script","_law_at","_law_most"];have Gg:=fnX X G "_law_copied" 58 "law_stepgrove_k40_weighings" 537 366 367 ["_law_table_here"];have Kl:=fnX X G "_law_is" 59 "law_stepgrove_k40_weighings" 537 371 372 ["_law_found"];have Gb:=fnX X G "_law_same" 60 "law_stepgrove_k40_weighings" 537 376 377 ["_law_found","_law_due"];have FD:=fnX X G "_law_refused" 61 "law_stepgrove_k40_weighings" 537 383 384 ["_law_table_here","_law_most"];have oo:=fnX X G "law" 62 "law_stepgrove_k40_weighings" 537 388 389 ["_law_script"];have BI:mg "len" = none:=mg_none_of X G (by kernel_rfl);have Cb:mg "range" = none:=mg_none_of X G (by kernel_rfl);have Kx:mg "abs" = none:=mg_none_of X G (by kernel_rfl);have AR:mg "isinstance" = none:=mg_none_of X G (by kernel_rfl);have JK:mg "int" = none:=mg_none_of X G (by kernel_rfl);have HF:mg "bool" = none:=mg_none_of X G (by kernel_rfl);have B1:mg "tuple" = none:=mg_none_of X G (by kernel_rfl);have FG:mg "list" = none:=mg_none_of X G (by kernel_rfl);have CN:mg "enumerate" = none:=mg_none_of X G (by kernel_rfl);have FQ:mg "sum" = none:=mg_none_of X G (by kernel_rfl);have L5:mg "zip" = none:=mg_none_of X G (by kernel_rfl);have Cr:mg "sorted" = none:=mg_none_of X G (by kernel_rfl);have OE:mg "set" = none:=mg_none_of X G (by kernel_rfl);have rE:mg "dict" = none:=mg_none_of X G (by kernel_rfl);have a_MR:nsIn (kH w.params) mainGlobals "MOST_ROWS" = some (some (.int 40 353)):=by kernel_rfl
 have a_MK:nsIn (kH w.params) mainGlobals "MOST_KNOTS" = some (some (.int 7 380)):=by kernel_rfl
 have a_WL:nsIn (kH w.params) mainGlobals "WEIGHING_LENGTHS" = some (some (.ref 222)):=by kernel_rfl
 have a_GroveError:PySem.W.nsIn (kH w.params) mainGlobals "GroveError" = some (some (.ref 24)):=by kernel_rfl
 have a_NoWeighing:PySem.W.nsIn (kH w.params) mainGlobals "NoWeighing" = some (some (.ref 73)):=by kernel_rfl
 have a_TooMany:PySem.W.nsIn (kH w.params) mainGlobals "TooMany" = some (some (.ref 85)):=by kernel_rfl
 have a_NoTable:PySem.W.nsIn (kH w.params) mainGlobals "NoTable" = some (some (.ref 61)):=by kernel_rfl
 have a_NoTree:PySem.W.nsIn (kH w.params) mainGlobals "NoTree" = some (some (.ref 49)):=by kernel_rfl
 have Jg:=bT X G a_GroveError;have HB:=bT X G a_NoWeighing;have Kg:=bT X G a_TooMany;have K1:=bT X G a_NoTable;have eD:=bT X G a_NoTree;have X_TooMany:Exc (kH w.params) mg "TooMany" 85:=⟨Kg,by kernel_rfl⟩;have be_TooMany:Es (kH w.params) 85 24 true:=⟨by kernel_rfl,by kernel_rfl,by kernel_rfl,by kernel_rfl⟩;have O:F3 (kH w.params) 85:=⟨by kernel_rfl,by kernel_rfl,by kernel_rfl,by kernel_rfl,by kernel_rfl,by kernel_rfl,by kernel_rfl,by kernel_rfl⟩;have tV_TooMany:PySem.W.kitOne (kH w.params) (.ref 85) (.type "ValueError")=some true:=by kernel_rfl
 have t_TooMany_GroveError:PySem.W.kitOne (kH w.params) (.ref 85) (.ref 24)=some true:=by kernel_rfl
 have I:PySem.W.kitOne (kH w.params) (.ref 85) (.ref 73)=some false:=by kernel_rfl
 have R:PySem.W.kitOne (kH w.params) (.ref 85) (.ref 85)=some true:=by kernel_rfl
 have T:PySem.W.kitOne (kH w.params) (.ref 85) (.ref 61)=some false:=by kernel_rfl
 have t_TooMany_NoTree:PySem.W.kitOne (kH w.params) (.ref 85) (.ref 49)=some false:=by kernel_rfl
 have X_NoWeighing:Exc (kH w.params) mg "NoWeighing" 73:=⟨HB,by kernel_rfl⟩;have be_NoWeighing:Es (kH w.params) 73 24 true:=⟨by kernel_rfl,by kernel_rfl,by kernel_rfl,by kernel_rfl⟩;have xk_NoWeighing:F3 (kH w.params) 73:=⟨by kernel_rfl,by kernel_rfl,by kernel_rfl,by kernel_rfl,by kernel_rfl,by kernel_rfl,by kernel_rfl,by kernel_rfl⟩;have tV_NoWeighing:PySem.W.kitOne (kH w.params) (.ref 73) (.type "ValueError")=some true:=by kernel_rfl
 have t_NoWeighing_GroveError:PySem.W.kitOne (kH w.params) (.ref 73) (.ref 24)=some true:=by kernel_rfl
 have t_NoWeighing_NoWeighing:PySem.W.kitOne (kH w.params) (.ref 73) (.ref 73)=some true:=by kernel_rfl
 have t_NoWeighing_TooMany:PySem.W.kitOne (kH w.params) (.ref 73) (.ref 85)=some false:=by kernel_rfl
 have t_NoWeighing_NoTable:PySem.W.kitOne (kH w.params) (.ref 73) (.ref 61)=some false:=by kernel_rfl
 have t_NoWeighing_NoTree:PySem.W.kitOne (kH w.params) (.ref 73) (.ref 49)=some false:=by kernel_rfl
 have X_NoTable:Exc (kH w.params) mg "NoTable" 61:=⟨K1,by kernel_rfl⟩;have be_NoTable:Es (kH w.params) 61 24 true:=⟨by kernel_rfl,by kernel_rfl,by kernel_rfl,by kernel_rfl⟩;have xk_NoTable:F3 (kH w.params) 61:=⟨by kernel_rfl,by kernel_rfl,by kernel_rfl,by kernel_rfl,by kernel_rfl,by kernel_rfl,by kernel_rfl,by kernel_rfl⟩;have tV_NoTable:PySem.W.kitOne (kH w.params) (.ref 61) (.type "ValueError")=some true:=by kernel_rfl
 have t_NoTable_GroveError:PySem.W.kitOne (kH w.params) (.ref 61) (.ref 24)=some true:=by kernel_rfl
 have t_NoTable_NoWeighing:PySem.W.kitOne (kH w.params) (.ref 61) (.ref 73)=some false:=by kernel_rfl
 have t_NoTable_TooMany:PySem.W.kitOne (kH w.params) (.ref 61) (.ref 85)=some false:=by kernel_rfl
 have t_NoTable_NoTable:PySem.W.kitOne (kH w.params) (.ref 61) (.ref 61)=some true:=by kernel_rfl
 have t_NoTable_NoTree:PySem.W.kitOne (kH w.params) (.ref 61) (.ref 49)=some false:=by kernel_rfl
 have X_NoTree:Exc (kH w.params) mg "NoTree" 49:=⟨eD,by kernel_rfl⟩;have be_NoTree:Es (kH w.params) 49 24 true:=⟨by kernel_rfl,by kernel_rfl,by kernel_rfl,by kernel_rfl⟩;have xk_NoTree:F3 (kH w.params) 49:=⟨by kernel_rfl,by kernel_rfl,by kernel_rfl,by kernel_rfl,by kernel_rfl,by kernel_rfl,by kernel_rfl,by kernel_rfl⟩;have tV_NoTree:PySem.W.kitOne (kH w.params) (.ref 49) (.type "ValueError")=some true:=by kernel_rfl
 have t_NoTree_GroveError:PySem.W.kitOne (kH w.params) (.ref 49) (.ref 24)=some true:=by kernel_rfl
 have t_NoTree_NoWeighing:PySem.W.kitOne (kH w.params) (.ref 49) (.ref 73)=some false:=by kernel_rfl
 have t_NoTree_TooMany:PySem.W.kitOne (kH w.params) (.ref 49) (.ref 85)=some false:=by kernel_rfl
 have t_NoTree_NoTable:PySem.W.kitOne (kH w.params) (.ref 49) (.ref 61)=some false:=by kernel_rfl
 have t_NoTree_NoTree:PySem.W.kitOne (kH w.params) (.ref 49) (.ref 49)=some true:=by kernel_rfl
 have hK:Tx (kH w.params)=true:=by kernel_rfl
 refine⟨fnOf (Str.ofString "law") (Str.ofString "law") (F9 (top 62)) (DM (top 62)) (AM (top 62)) .none .none .none (.str (Str.ofString "law_stepgrove_k40_weighings") 537) none (.ref 388) .none,fun s v=>.of_eq rfl,fun base _ _=>?_⟩;have LC:=bT X G a_MR;have Ep:=bT X G a_MK;have CU:=bT X G a_WL;have g:Own (kH w.params) 222 [0,1,2,4,8,17,37,85]:=lD (by kernel_rfl);have cY:=M1 (P:=EI.prog) (w:=w) (base:=base) BQ Kx;have p8:=SA Gh BQ cY;have qp:=OW Fq BQ cY;have qq:=Qt GK Fq qp;have pP:=UO (P:=EI.prog) (w:=w) (base:=base) IH;have p9:=WB (P:=EI.prog) (w:=w) (base:=base) JG;have qj:=YO (P:=EI.prog) (w:=w) (base:=base) IW FQ L5;have qL:=PB ox ER IW qj BI L5 8;have qJ:=nG (Kc (P:=EI.prog) (w:=w) (base:=base) Az FQ 8);have mh:=PR ox Bi GK IH ER JG Az Gh (qq.mono) (pP.mono) (qL.mono) (p9.mono) (qJ.mono) (p8.mono);have CI:=pZ mh;have Y:=nY mh;have B8:=pS cY;have JL:=V5 (P:=EI.prog) (w:=w) (base:=base) (k:=0) HZ HF JK AR;have Im:=Rx (k:=1) Gf BQ (B8.mono) HZ (JL.mono) AR BI B1;have B0:=Pa (k:=2) Bk Gf (Im.mono) AR FG;have MX:=V7 (k:=3) JT Bk (B0.mono) CN AR BI FG LC;have Mc:=WE (k:=4) JP Bk (B0.mono) JT (MX.mono) AR BI B1;have Ib:=QK (P:=EI.prog) (w:=w) (base:=base) (k:=0) FJ CN AR B1 9;have Be:=M6 (k:=5) BU JP (Mc.mono) X_NoTable;have Gp:=Oa (k:=13) FP FJ (Ib.mono) X_NoTree;have Ba:=Kv (P:=EI.prog) (w:=w) (base:=base) (k:=0) Az FQ 9;have Bd:=JE (k:=10) BB Az (Ba.mono) 9;have B3:=M3 (P:=EI.prog) (w:=w) (base:=base) (k:=0) CY Cr B1;have DY:=Hl (k:=1) Bn CY (B3.mono) CN 9;have L6:=V0 (k:=11) JJ Bn (DY.mono) Cb OE Cr Ep X_TooMany;have CP:=Vt (k:=12) CB JJ (L6.mono) Cb Ep X_TooMany;have FW:=Lp (k:=3) Dx Bk (B0.mono) BI CU g X_NoWeighing;have Gr:=OY (k:=4) FO Dx (FW.mono) BI CU g;have FC:=Qh (k:=20) CZ BB (Bd.mono);have N_true_weights:=RO (k:=20) CZ BB (Bd.mono);have Di:=PN (k:=21) Bx CB (CP.mono) CZ (FC.mono);have Z:=Gd.Pu (k:=21) Bx CB ((OJ CP).mono) CZ (N_true_weights.mono);have Hz:=QY (k:=14) GI BU (Be.mono) FP (Gp.mono) Bi (CI.mono);have DK:=Ob (k:=13) Bs BU (Be.mono) CB (CP.mono) Bi (CI.mono);have U:=Gd.OX (k:=13) Bs BU ((OJ Be).mono) CB ((OJ CP).mono) Bi (Y.mono);have qM:=Vh (P:=EI.prog) (w:=w) (base:=base) IG Kx;have pX:=Tc Er IG qM;have Ee:=U5 (P:=EI.prog) (w:=w) (base:=base) (k:=0) D6 BI;have KC:=Ti (P:=EI.prog) (w:=w) (base:=base) (k:=0) HI;have J7:=eI (Te HU D6 Er HI ((iw Ee).mono) (pX.mono) ((cg KC).mono) Cb BI);have DN:=N3 (P:=EI.prog) (w:=w) (base:=base) (k:=0) Co Cr B1 9;have Fc:=LQ (k:=10) C7 Co (DN.mono) BI Cb 9;have Jl:=Tj (k:=20) HS C7 (Fc.mono) Cb OE Cr;have De:=Mx (P:=EI.prog) (w:=w) (base:=base) (k:=0) Cz FQ 9;have E8:=Km (k:=10) Cc Cz (De.mono) 9;have Ie:=Rj (P:=EI.prog) (w:=w) (base:=base) (k:=0) Gg FG;have Nu:=YM (P:=EI.prog) (w:=w) (base:=base) (k:=0) Kl HF JK AR BI B1;have II:=VD (k:=1) Gb Kl (Nu.mono) AR BI FG;have GL:=Qc (k:=22) FD Bs ((Vl [_] DK).mono) Bx ((Vl [_] Di).mono) AR Jg K1 HB Kg (X3 O T) (X3 O I) (X3 O R) (fun ds C h=>by
  rw[List.mem_singleton.mp (XU h)];exact be_TooMany) (fun ds C h=>by
  rw[List.mem_singleton.mp (XU h)];exact be_TooMany)
 have nU:=lX (k:=23) oo D6 (Ee.mono) Gg (Ie.mono) Cc (E8.mono) FD (GL.mono) Gb (II.mono) HU (J7.mono) HS (Jl.mono) Bs (U.mono) GI ((OJ Hz).mono) Bx (Z.mono) FO ((OJ Gr).mono) HF JK AR;exact m9 hK nU
def walkX:WalkO qX [] (XL qX []) hX.says EI.row.toRowW dX [] (fun f vs=>PySem.call f vs) :=
 L2.Rm (l:=EI) (n:=63) (k:=24) (x := "_law_script") (CX:=fun _=>Aa) (K:=kH) (sp:=fun w=>Yg (kH w.params)) rfl (by decide) rfl ⟨rfl,by decide,by decide⟩ (fun w h Y=>kIn_of Y) qD (fun _ _ a ns g _ I=>⟨a,ns,rfl,I,g,fun _=>rfl⟩) fun _ _ _ _ _ z=>z
end
end Q40
open PySem PySem.W PyProof.Rows
set_option maxRecDepth 100000 in
theorem PySem.Challenge.cw_stepgrove_k40_weighings_holds : PySem.Challenge.rw_stepgrove_k40_weighings.Holds := by
  refine Q40.openX ?hw Q40.walkX
  w_witness2
#print axioms PySem.Challenge.cw_stepgrove_k40_weighings_holds
