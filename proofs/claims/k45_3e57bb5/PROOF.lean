import PyProof.Rows.All
import Wide.All
import OpenK.AllK
import Wide.FinOn
import Lean
import PyProof.EqAt
import PyProof.EqKinds
import PyProof.TupleCall
import PySem.Challenge.RW_stepgrove_k45_refused_sums
set_option Elab.async false
set_option linter.all false
set_option compiler.extract_closed false
set_option maxRecDepth 100000
abbrev AU:=@List.length_map
abbrev BG:=@List.getElem?_map
abbrev BR:=@List.map_cons
abbrev Ck:=@List.length_append
abbrev Bb:=@List.map_map
abbrev Cp:=@Option.bind_some
abbrev DJ:=@List.map_append
abbrev FL:=@List.length_take
abbrev Fv:=@List.take_length
abbrev Gm:=@List.length_cons
abbrev L5:=@List.getD_eq_getElem?_getD
abbrev HW:=@Bool.and_eq_true
abbrev Iu:=@List.take_add_one
abbrev K9:=@List.size_toArray
abbrev Hw:=@List.sum_cons
abbrev LD:=@List.find?_cons
abbrev LA:=@PySem.Heap.size_push
abbrev MN:=@List.append_nil
abbrev X3:=@Array.getD_eq_getD_getElem?
abbrev SR:=@Array.getElem?_toList
abbrev Sf:=@List.filterMap_cons
abbrev QI:=@List.lookup_cons
abbrev Wh:=@List.length_singleton
abbrev Sm:=@Bool.not_eq_true
abbrev Wg:=@Array.length_toList
abbrev Wz:=@List.length_reverse
abbrev MD:=List PySem.PyData->Option PySem.PyData
abbrev Fg:=PySem.W.Frag
abbrev Wb:=@PySem.wpAny_bind
abbrev PD:=PySem.PyData
abbrev SD:=PySem.Shared
abbrev VL:=PySem.Value
abbrev AD:=PySem.Addr
abbrev aA:=@Option.bind_eq_some_iff
abbrev aB:=@PySem.wpAny_pure
abbrev aC:=@Option.map_eq_some_iff
abbrev aD:=@Nat.lt_of_lt_of_le
abbrev aE:=@PySem.Heap.get?_push_of_some
abbrev aF:=@List.getElem?_eq_some_iff
abbrev aG:=@Nat.le_refl
abbrev aH:=@PySem.Heap.lt_size
abbrev aI:=@List.mem_map
abbrev aJ:=@Nat.ne_of_lt
abbrev aK:=@Bool.false_ne_true
abbrev aL:=@List.mem_of_getElem?
abbrev aM:=@Nat.pow_le_pow_right
abbrev aN:=@PySem.Heap.get?_push_size
abbrev aO:=@List.mem_cons
abbrev aP:=@Nat.lt_of_le_of_lt
abbrev aQ:=@Nat.le_trans
abbrev aR:=@List.mem_cons_self
abbrev aS:=@PySem.wpAny_holding
abbrev aT:=@PySem.wpAny_call_entry
abbrev aU:=@PySem.wpAny_mono
abbrev aV:=@Nat.mul_le_mul_left
abbrev aW:=@List.mem_cons_of_mem
abbrev aX:=@List.mem_append
abbrev aY:=@List.mem_append_right
abbrev aZ:=@PySem.Heap.SameBut.update
abbrev aa:=@PySem.wpAny_callSpecial?_slot
abbrev ae:=@congrArg
abbrev af:=@Option.some.inj
abbrev ag:=@PySem.wpAny_newObj_type
abbrev ah:=@of_decide_eq_true
abbrev ai:=@List.map_congr_left
abbrev aj:=@List.getElem?_eq_getElem
abbrev ak:=@Nat.le_of_ble_eq_true
abbrev ao:=@PySem.W.kia_one
abbrev aq:=@PySem.wpAny_rule
abbrev au:=@PySem.wpAny_setState_of
abbrev av:=@PySem.wpAny_field
abbrev ax:=@PyProof.Rows.callWith_type1
abbrev ay:=@Nat.le_of_lt
abbrev az:=@Nat.zero_le
abbrev bA:=@PySem.wpAny_seqItems
abbrev bC:=@PySem.PassesOwn.never
abbrev bE:=@Classical.choose_spec
abbrev bF:=@PySem.wpAny_Call_Name_kw
abbrev bG:=@List.all_eq_true
abbrev bH:=@Bool.eq_false_iff
abbrev bI:=@Nat.not_lt_zero
abbrev bJ:=@Nat.lt_succ_self
abbrev bK:=@PySem.Calls.spliced_cons
abbrev bL:=@of_decide_eq_false
abbrev bM:=@PyProof.Rows.slot_tuple_getitem
abbrev bN:=@PyProof.Rows.KeyOrd.kle_refl
abbrev bO:=@PySem.wpAny_ite_false
abbrev bP:=@List.getElem?_of_mem
abbrev bQ:=@PySem.wpAny_truthy_bool
abbrev bR:=@List.ext_getElem?
abbrev bS:=@Int.mul_pos
abbrev bT:=@Nat.lt_trans
abbrev bV:=@Nat.ne_of_gt
abbrev bW:=@List.mem_iff_getElem?
abbrev bX:=@PyProof.Rows.boot_abs
set_option maxHeartbeats 0
abbrev RW:=List PD->Option (List PD)
abbrev AAg:=Option (List PD)
abbrev AAl:=List PD
abbrev AAn:=List VL
abbrev AAo:=VL->SD->Prop
abbrev AAs:=PySem.Str->Option VL
abbrev AAt:=Option PD
abbrev AAx:=List Int
abbrev AAy:=List PySem.Str
abbrev AA0:=List PySem.Expr
abbrev ABA:=List Nat
abbrev ABB:=List Rat
abbrev ABF:=List AD
abbrev ABG:=List PySem.Stmt
abbrev ABK:=List (Option Nat)
abbrev F0a:=PySem.FuncData
abbrev F0b:=PySem.Program
abbrev F0c:=PySem.World
abbrev F0d:=PySem.Around
set_option hygiene false
local macro_rules
|`(AC)=>`(by decide)
|`(AS)=>`(by lia)
|`(AT)=>`(fC (.int 1))
|`(As)=>`(model prog w)
|`(BE)=>`(Inv X pins σ H s)
|`(BY)=>`(fC (.int 0))
|`(By)=>`(by simp)
|`(B7)=>`(model X.prog X.w)
|`(CH)=>`(nm 0)
|`(Ca)=>`(nm 1)
|`(Ch)=>`({ s with heap:=((s.heap.update a (Obj.mapSeq fun _ => #[])).push (seqObj "tuple" us.toArray 0)).push (seqObj "list" #[] 0) })
|`(Cl)=>`(.Call (.Name x p) (e::es) [] pos)
|`(Da)=>`(.head _)
|`(Do)=>`(fC (.bool false))
|`(EQ)=>`((false,eval e X.env))
|`(Ev)=>`(BN X scope cl N C s₀ H₀ fp)
|`(E2)=>`((by have:=hr.units;exact this))
|`(FS)=>`(nm 2)
|`(Fa)=>`(Rw G0 H0 G H σ δ ts)
|`(Fc)=>`(List (List AY))
|`(Fe)=>`(by first|exact Or.inl rfl|exact Or.inr rfl)
|`(Fk)=>`(x==("__debug__"))
|`(GE)=>`(((SetTable.insertAt ev (t.put j).2 (BD x,Value.ref xa))[·]?))
|`(GM)=>`(by grind)
|`(Go)=>`(.ref s.heap.objs.size)
|`(Hq)=>`((·.1))
|`(IF)=>`(kH w.params)
|`(IN)=>`(Or.inl rfl)
|`(IO)=>`(by kernel_rfl)
|`(IR)=>`(X.A.units+64<cLine)
|`(IS)=>`(A.deeper (envOfC x (AW st) s.heap.objs.size fA cdv))
|`(Id)=>`(CQ fun i j=>decide (j<i))
|`(Iq)=>`(by rfl)
|`(Iv)=>`(.Name x np)
|`(Ix)=>`({s with heap:=h',toks:=tk})
|`(Jl)=>`(.tup xs)
|`(KB)=>`(.lst ys)
|`(KK)=>`(.bool true)
|`(KM)=>`(.ref a)
|`(Kb)=>`(AA (nm 3) AB)
local macro_rules
|`(LE)=>`(.type "tuple")
|`(LF)=>`(.list (AH rs))
|`(LT)=>`(List (AD×Obj))
|`(L0)=>`(Dv->Option PD)
|`(M0)=>`(aG _)
|`(NE)=>`(fun z=>nomatch z)
|`(No)=>`(by assumption)
|`(OF)=>`(.lst [])
|`(OK)=>`(fun cdv A outer s H vs Q E hr h=>?_)
|`(ON)=>`(starEach es X.env)
|`(OR)=>`(∀b∈ch,(b∈X.ex\/X.s₀.heap.objs.size<=b)/\b≠X.env.locals/\(∀x c,X.env.cells.lookup x=some c->c≠b)/\∀p∈X.pn++pins,p.1≠b)
|`(Of)=>`(sh.map fun p=>pr p.1 p.2)
|`(On)=>`(fun vs H Q E h=>?_)
|`(Os)=>`(Dv->Option (List PD))
|`(PP)=>`(["one","other"])
|`(Pi)=>`(AU)
|`(Ps)=>`(nm 4)
|`(P3)=>`(∀b o,h.get? b=some o->o.cls=.type "tuple" -> h'.get? b=some o)
|`(Re)=>`(L.map fun l=>V.ref l.2)
|`(Rs)=>`(X.calm=true)
|`(SB)=>`(i+1)
|`(SC)=>`(s.heap.objs.size+1)
|`(SL)=>`(.ListComp elt [⟨tgE,iter,ifs,0⟩] scope pos)
|`(ST)=>`(((BK fr δ).set i (.d (a z))).set j (.d (b z)))
|`(SZ)=>`(.ListComp elt [⟨tg,iter,ifs,0⟩] scope pos)
|`(Sc)=>`((false,eval a X.env))
|`(TD)=>`(ha pos pins s σ H _ I h)
|`(TW)=>`(.ref C)
|`(Tk)=>`(CQ fun i j=>decide (i<j))
|`(Tl)=>`(.lst xs)
|`(Tm)=>`(BN X scope cl N l.objs.size s2 U fp)
|`(To)=>`(PD->Dv->Option Dv)
|`(Ty)=>`({s with heap:=(s.heap.push { cls:=.type "list_iterator",data:=.fields #[.ref l,.int 0 0]}).push { cls:=.type "enumerate",data:=.fields #[.none,.bool false,.ref s.heap.objs.size,rawInt 2,.none,.none]} })
|`(UF)=>`(Str.ofString n)
|`(UV)=>`(Bm false)
|`(Uf)=>`(.list (tp.map .int))
|`(WF)=>`(fun q=>decide (q.1=k))
|`(WP)=>`(SetTable.insertAt ev (t.put j).2 (BD x,.ref xa))
|`(W1)=>`(HT.Bw xs.length 0 lo=0/\HT.Bw xs.length xs.length hi=xs.length)
|`(XN)=>`(AM uss)
local macro_rules
|`(XV)=>`(wpAny_attempt (aa (name:=Str.ofString "__next__") l F.slot_dict_keyiterator_next (aT F.slot_dict_keyiterator_next l F.entry_dict_keyiterator_next ?_ (F.args_dict_keyiterator_next_1 _))))
|`(ZB)=>`(.inl rfl)
|`(am)=>`(Af X.prog X.w X.K X.mg X.base (CO X.prog X.w) k fA fd ps (FW m))
|`(ar)=>`(aB ?_)
|`(bY)=>`(aJ (aD (aH e) I.ok.above))
|`(bi)=>`(.nx δ')
|`(bm)=>`(AA CH AB)
|`(bn)=>`(AA Ca AB)
|`(bv)=>`(Aa (AA BY (AA AT AB)))
|`(ce)=>`(AA (Aa (AA AT (AA (fC (.int 2)) AB))) AB)
|`(ck)=>`(AA (CJ FS Bd (Bf (Ip AT))) (AA (AE Ez (AA FS AB)) (AA (fC .none) (AA (AF Aq (CJ FS Bd (Bf (Ip AT))) (BF (AA (Aa (AA (fC (.int 2)) (AA (fC (.int 4)) AB))) AB))) (AA (AF Aq (CJ FS Bd (Bf (Ip AT))) (BF (AA AT AB))) AB)))))
|`(cr)=>`((e::es))
|`(cx)=>`(Ay (h pos pins s σ H _ I M) fun us s1 ⟨xs,T,l,r,z,q⟩=>⟨by rw[<-r.length];lia,⟨.ref s1.heap.objs.size,upd T s1.heap.objs.size _,l.laid (fun b u e=>aE _ e) M0 ?_,rfl,q _ (l.Ae.fresh M0)⟩⟩)
|`(dL)=>`(BU I q By)
|`(dO)=>`(At.up No (by first|exact ak rfl|lia))
namespace Opn
open PySem PySem.W PyProof.Rows PySem.Calls
noncomputable def q0:Pos:=⟨0,0,0,0⟩
noncomputable def yw:Obj:={ cls:=.type "tuple",data:=.seq #[]}
noncomputable def zG:Obj:={ cls:=.none,data:=.fields #[]}
noncomputable def zA:Obj:={ cls:=.type "code",data:=.fields #[.str (Str.ofString "<module>") 182,.str (Str.ofString "<module>") 183,.str (Str.ofString "/claim/cut.py") 184,.int 1 0,.int 0 0,.int 0 0,.int 0 0,.int 0 0,.ref 11,.bool false,.int 181 0,.ref 12,.none,.none,.none,.none,.int 185 0,.int 1 0,.str (Str.ofString "/claim/cut.py") 186]}
noncomputable def zE:Obj:={ cls:=.type "frame",slots:=#[some (.ref 13),some (.ref 3),some (.ref 3),none,some (.str (Str.ofString "__main__") 164),none,some (.ref 0)]}
noncomputable def wx(P:Params):List Obj:=(boot_heap P).objs.toList++[yw,zG,zA,zE]
noncomputable def nN(P:Params)(o:Params->Obj)(l r:BT):BT:=.node (o P) l r
noncomputable def lN(P:Params)(o:Params->Obj):BT:=.node (o P) .nil .nil
noncomputable def x4(P:Params):BT :=
 nN P boot_o_0 (nN P boot_o_1 (nN P boot_o_3 (lN P boot_o_7) (.node yw .nil .nil)) (nN P boot_o_5 (lN P boot_o_9) (.node zA .nil .nil)))
  (nN P boot_o_2 (nN P boot_o_4 (lN P boot_o_8) (.node zG .nil .nil)) (nN P boot_o_6 (lN P boot_o_10) (.node zE .nil .nil)))
noncomputable def mO:Life:=Life.mk [] [] [] 0 [] [] false #[] [] 0 false false false 0 [2000,10,10] false 0 true [] [] 0 false
noncomputable def sA(w:F0c)(os:OsState):SD:=⟨⟨⟨wx w.params⟩,mO⟩,#[],boot_drawn,187,os⟩
noncomputable def sB(w:F0c)(os:OsState):SharedT:=⟨x4 w.params,15,mO,#[],boot_drawn,187,os⟩
noncomputable def QA(p:F0b):Env:={ scope:=p.main.scope,locals:=mainNs,globals:=mainNs,cells:=[],code:=.ref 13,frame:=some 14}
noncomputable def cB(p:F0b):Code:=.body (behindTheImports p) (QA p)
noncomputable abbrev Iz:Option VL:=some (.ref 6)
noncomputable abbrev bB:List Frame:=[topFrame q0]
noncomputable def Z1(p:F0b)(M:Nat)(w:F0c)(os:OsState):Option (Flow×SharedT×Code×Pos) :=
 PySem.W.Fast.tw10110043849684766642 PySem.W.Fast.tw14364793385576792824 p w 11 Iz 1 M (sB w os) (piecesOf (behindTheImports p) (QA p) (cB p) q0 bB)
noncomputable def dD(p:F0b)(M:Nat)(w:F0c)(os:OsState):SharedT:=match Z1 p M w os with|some (_,s,_)=>s|none=>sB w os
def qv{p:F0b}{M:Nat}{w:F0c}{os:OsState}{r:Option (Flow×SharedT×Code×Pos)}(h:Z1 p M w os=r):segRunT treeTable p w 11 Iz 1 M (sB w os) (piecesOf (behindTheImports p) (QA p) (cB p) q0 bB)=r:=by
 have e:segRunT treeTable=PySem.W.Fast.tw10110043849684766642 PySem.W.Fast.tw14364793385576792824:=congr PySem.W.Fast.te10110043849684766642 PySem.W.Fast.te14364793385576792824;rw[e];exact h
def v7{p:F0b}{M T:Nat}{l:Pos}{w:F0c}{os:OsState} (pre:topGo treeTable p w 11 Iz 12 ⟨boot_heap w.params,#[],boot_drawn,boot_toks,os⟩ (topStub p)=some (sA w os,⟨denote treeTable (cB p),cB p,q0,bB⟩)) (I:segRun treeTable p w 11 Iz 1 1 (sA w os) (blockOf (behindTheImports p) (QA p) (cB p) q0 bB)=some (.next,(sB w os).abs,cB p,q0)) (seg:Z1 p M w os=some (.next,dD p M w os,cB p,l)) (fin:∀s,topRun treeTable p w 11 Iz 2 s (restOf [] (QA p) (cB p) l bB)=some s)(U:T=12+(1+(M+2))):topRun treeTable p w 11 Iz T ⟨boot_heap w.params,#[],boot_drawn,boot_toks,os⟩ (topStub p)=some (dD p M w os).abs:=by
 subst U;refine go_top pre (piece_block I ?_);have h:=piece_app (rest:=[]) (segRun_of (qv seg)) (fin _);rw[(MN)]at h;exact h
def oy{p q:F0b}{loose:AAy}{Xt:SD->Bool}{α:Type}{Yf:SD->α}{Ya:F0c->α}{N M:Nat}{S:F0c->OsState->SD} (l:∀w:F0c,(fencedOpening treeTable p w N).map (fun s=>(s.heap,s.gens,s.drawn,s.toks))=some (boot_heap w.params,#[],boot_drawn,boot_toks)) (size:∀w:F0c,((boot_heap w.params).isNs mainGlobals&&(#[]:Array GenState).size==0,(boot_heap w.params).objs.size,(boot_heap w.params).nsMap mainGlobals "__annotations__")=(true,11,Iz)) (run:∀w os,topRun treeTable p w 11 Iz M ⟨boot_heap w.params,#[],boot_drawn,boot_toks,os⟩ (topStub p)=some (S w os))(le:Nat.ble M N=true) (ok:∀w os,(staticsOk (importedModules p.main.body) (boot_heap w.params) (S w os).heap&&namesBound p (S w os).heap&&gensDone (S w os)&&laidKept (boot_heap w.params) (S w os).heap)=true) (seen:∀w os,openSeen q loose (importedModules p.main.body) Xt true (S w os)=openGood q loose) (Z:∀w os,Yf (S w os)=Ya w):LeftO p q loose Xt Yf Ya N:=fun w=>by
 obtain⟨⟨h,gs,d,k,os⟩,e,e'⟩:=aC.mp (l w);obtain⟨rfl,rfl,rfl,rfl⟩:h=boot_heap w.params/\gs=#[]/\d=boot_drawn/\k=boot_toks:=by simpa using e'
 obtain⟨U,T,I⟩:_/\_/\_:=by simpa only[Prod.mk.injEq]using size w
 have Y:=ok w os;have r:=topRun_mono (N-M) _ _ _ _ (run w os);rw[show M+(N-M)=N by have:=ak le;lia]at r;have t:topFrom treeTable p w N ⟨boot_heap w.params,#[],boot_drawn,boot_toks,os⟩=some (S w os):=by
  unfold topFrom;dsimp only;rw[U,T,I,r];show(match staticsOk (importedModules p.main.body) (boot_heap w.params) (S w os).heap&&namesBound p (S w os).heap&&gensDone (S w os)&&laidKept (boot_heap w.params) (S w os).heap with|true=>_|false=>_)=_;rw[Y]
 unfold openEnds;rw[e];show(topFrom treeTable p w N _).map _=_;rw[t];exact ae some (Prod.ext (seen w os) (Z w os))
def we(w:F0c):((boot_heap w.params).isNs mainGlobals&&(#[]:Array GenState).size==0,(boot_heap w.params).objs.size,(boot_heap w.params).nsMap mainGlobals "__annotations__")=(true,11,Iz):=by kernel_rfl
end Opn
namespace Q45
open PySem
def top(i:Nat):Stmt:=PySem.Challenge.pw_stepgrove_k45_refused_sums.main.body.getD i (.Pass ⟨0,0,0,0⟩)
end Q45
namespace L2
open PySem
def Gy(s:Stmt):Arguments:=match s with
 |.FunctionDef _ a _ _ _ _ _ _ _ _=>a
 |_=>{ posonlyargs:=[],args:=[],vararg:=none,kwonlyargs:=[],kw_defaults:=[],kwarg:=none,defaults:=[]}
def CB(s:Stmt):ABG:=match s with
 |.FunctionDef _ _ b _ _ _ _ _ _ _=>b
 |_=>[]
def AW(s:Stmt):Scope:=match s with
 |.FunctionDef _ _ _ _ _ _ sc _ _ _=>sc
 |_=>{ kind:=.function,names:=[],isGenerator:=false,isCoroutine:=false}
end L2
namespace Q45
open PySem L2
section
open PySem.W PyProof.Rows PySem.Calls
abbrev Eb:F0b:=PySem.Challenge.pw_stepgrove_k45_refused_sums
abbrev D6:OpenLaw:=PySem.Challenge.rw_stepgrove_k45_refused_sums
noncomputable abbrev dE(P:Params)(x:String)(t:Nat)(v:VL):DictEntry:=⟨PyData.keyHash P (Str.ofString x),.str (Str.ofString x) t,v⟩
noncomputable abbrev sV(x:String)(t:Nat):VL:=.str (Str.ofString x) t
noncomputable abbrev fO(n:String)(i:Nat)(m:String)(t c:Nat):Obj:=⟨.type "function",none,.func (fnOf n n (Gy (top i)) (CB (top i)) (AW (top i)) .none .none .none (.str (Str.ofString m) t) none (.ref c) .none),#[]⟩
noncomputable abbrev cO(n:String)(t l a k r:Nat)(b:Bool)(Y:Nat)(U T M v4:VL)(I:Nat):Obj:=⟨.type "code",none,.fields #[sV n t,sV n (t+1),sV "/claim/cut.py" (t+2),.int l 0,.int a 0,.int 0 0,.int 0 0,.int k 0,.ref r,.bool b,.int 181 0,.ref Y,U,T,M,v4,.int I 0,.int l 0,sV "/claim/cut.py" (I+1)],#[]⟩
noncomputable abbrev E8:String×Nat:=("stepgrove.fracs",303)
noncomputable abbrev D9:String×Nat:=("stepgrove.polys",389)
noncomputable abbrev Et:String×Nat:=("stepgrove.trees",510)
noncomputable abbrev JG:String×Nat:=("stepgrove.wholes",594)
noncomputable abbrev Ih:String×Nat:=("stepgrove.changes",659)
noncomputable abbrev nJ:String×Nat:=("stepgrove.weights",711)
noncomputable abbrev UM:String×Nat:=("stepgrove.groves",736)
noncomputable abbrev Zt:String×Nat:=("stepgrove.cuts",756)
noncomputable abbrev Hn:String×Nat:=("stepgrove.follows",777)
noncomputable abbrev FP:String×Nat:=("law_stepgrove_k45_refused_sums",845)
noncomputable def oC(P:Params)(K:Frag):Nat->List String->Frag
 |_,[]=>K
 |k,x::xs=>(16+12*k,⟨.type "tuple",none,.seq #[.ref 24] 0,#[]⟩)::(23+12*k,⟨.type "tuple",none,.seq #[] 0,#[]⟩) ::
  (24+12*k,⟨.type "dict",none,.dict #[dE P "__module__" (198+16*k) (sV "stepgrove.errors" 187),dE P "__firstlineno__" (202+16*k) (.int (Int.ofNat (2+2*k)) (201+16*k)),dE P "__static_attributes__" (203+16*k) (.ref (23+12*k)),dE P "__doc__" (204+16*k) .none] 2,#[]⟩) ::
  (25+12*k,⟨.type "type",none,.cls ⟨Str.ofString x,[.ref 24],[.ref (25+12*k),.ref 24,.type "ValueError",.type "Exception",.type "BaseException",.type "object"],24+12*k,Str.ofString x,true,[],[],false,none,false⟩,#[some (.ref (16+12*k)),none,some (sV x (191+16*k)),some (sV x (199+16*k)),some (.builtin "ValueError.__new__"),some KK]⟩)::oC P K (k+1) xs
noncomputable def oW(m:String×Nat)(n:String)(t l a r I i:Nat)(K:Frag):Frag:=(r+5,cO n t l a 3 r true (r+1) .none (.ref (r+2)) (.ref (r+3)) (.ref (r+4)) I)::(r+6,fO n i m.1 m.2 (r+5))::K
noncomputable def oN(m:String×Nat)(n:String)(t l a r I i:Nat)(K:Frag):Frag:=(r+3,cO n t l a 3 r true (r+1) .none .none .none (.ref (r+2)) I)::(r+4,fO n i m.1 m.2 (r+3))::K
def eK:Nat->List Nat->List Nat
 |_,[]=>[]
 |a,d::ds=>(a+d)::eK (a+d) ds
noncomputable abbrev dR(P:Params)(x:String)(t a:Nat):DictEntry:=dE P x t KM
noncomputable def kH:Params->Frag:=fun P=>
 (nat_lit 2,⟨.none,none,(.dict #[] 0),#[]⟩) ::
 (nat_lit 3,⟨(.type "dict"),none,(.dict #[dE P "__name__" 165 (sV "law_stepgrove_k45_refused_sums" 845),dE P "__doc__" 166 .none,dE P "__package__" 167 .none,dE P "__loader__" 168 (.builtin "__main__.__loader__#opaque"),dE P "__spec__" 169 .none,dR P "__annotations__" 170 6,dR P "__builtins__" 171 4,dE P "__file__" 173 (sV "/claim/cut.py" 172),dE P "__cached__" 174 .none,dR P "GroveError" 206 24,dR P "NoBottom" 222 37,dR P "NoTree" 238 49,dR P "NoChange" 254 61,dR P "NoStart" 270 73,dR P "NoWeighing" 286 85,dR P "TooMany" 302 97,dR P "fraction_of" 313 106,dR P "frac_less" 321 113,dR P "frac_times" 329 120,dR P "is_fraction" 336 127,dR P "are_fractions" 344 134,dR P "is_whole" 351 141,dR P "greatest_divisor" 362 148,dR P "common_bottom" 371 155,dR P "frac_total" 377 160,dR P "power_of" 388 167,dR P "poly_sum" 398 174,dR P "poly_times" 411 181,dR P "poly_scaled" 417 186,dR P "poly_slope" 423 191,dR P "is_poly" 433 198,dR P "is_term" 441 205,dR P "are_powers" 450 212,dR P "refuse_no_start" 458 219,dR P "refuse_start" 464 226,dR P "one_less" 472 233,dR P "powers_joined" 478 238,dR P "gathered" 490 245,dR P "worth_at" 496 250,dR P "term_worth" 509 257,dE P "MOST_KNOTS" 513 (.int 7 512),dR P "is_tree" 522 264,dR P "trees_of" 533 271,dR P "trees_to" 542 278,dR P "refuse_no_tree" 549 285,dR P "in_falling_order" 556 292,dR P "knots_within" 562 297,dR P "turns_within" 573 304,dR P "product_up_to" 582 311,dR P "trees_one_larger" 593 318,dR P "grain_of" 601 323,dR P "pace_of" 609 330,dR P "whole_start" 615 335,dR P "tops_over" 621 340,dR P "whole_change" 627 345,dR P "whole_poly" 641 352,dR P "speeds_bottom" 647 357,dR P "greatest_power" 658 364,dR P "is_change" 668 371,dR P "refuse_no_change" 675 378,dR P "bent_polys" 681 383,dR P "along_boughs" 693 390,dR P "bent_worths" 699 395,dR P "pushed_by" 710 402,dR P "WEIGHING_LENGTHS" 721 403,dR P "weighing_reach" 728 410,dR P "refuse_no_weighing" 735 417,dR P "grove_rows" 743 422,dR P "shares_of" 749 427,dR P "shared_sums" 755 432,dR P "tree_ties" 764 439,dR P "ties_within" 776 446,dR P "followed_weighing" 784 451,dR P "followed_changes" 800 458,dR P "later_moves" 806 463,dR P "move_share" 815 470,dR P "later_weight" 821 475,dR P "shared_trees" 827 480,dR P "followed_change" 833 485,dR P "topped_sum" 844 492,dR P "_law_cell" 856 499,dR P "_law_frac" 866 506,dR P "_law_add" 874 513,dR P "_law_mul" 882 520,dR P "_law_all" 891 527,dR P "_law_gathered" 897 532,dR P "_law_powers" 903 537,dR P "_law_change" 923 544,dR P "_law_start" 935 551,dR P "_law_copy" 941 556,dR P "_law_kinds" 954 563,dR P "_law_bad_change" 969 570,dR P "law" 983 577] 93),#[]⟩) ::
 (nat_lit 15,⟨LE,none,(.seq #[(.type "ValueError")] 0),#[]⟩) ::
 (nat_lit 22,⟨LE,none,(.seq #[] 0),#[]⟩) ::
 (nat_lit 23,⟨(.type "dict"),none,(.dict #[dE P "__module__" 196 (sV "stepgrove.errors" 187),dE P "__firstlineno__" 200 (.int 2 199),dR P "__static_attributes__" 201 22,dR P "__weakref__" 203 25,dE P "__doc__" 204 .none] 3),#[]⟩) ::
 (nat_lit 24,⟨(.type "type"),none,(.cls ⟨Str.ofString "GroveError",[(.type "ValueError")],[(.ref 24),(.type "ValueError"),(.type "Exception"),(.type "BaseException"),(.type "object")],23,Str.ofString "GroveError",true,[],[(.ref 37),(.ref 49),(.ref 61),(.ref 73),(.ref 85),(.ref 97)],false,none,false⟩),#[some (.ref 15),none,some (sV "GroveError" 189),some (sV "GroveError" 197),some (.builtin "ValueError.__new__"),some KK]⟩) ::
 (nat_lit 25,⟨(.type "getset_descriptor"),none,(.fields #[(sV "__weakref__" 202),(.ref 24),(.builtin "ExceptionGroup.__weakref__"),.none]),#[]⟩) ::
 oC P (
 oW E8 "fraction_of" 305 17 2 100 311 9 (
 oW E8 "frac_less" 314 24 2 107 319 10 (
 oW E8 "frac_times" 322 26 2 114 327 11 (
 oW E8 "is_fraction" 330 28 1 121 334 12 (
 oW E8 "are_fractions" 337 34 1 128 342 13 (
 oW E8 "is_whole" 345 41 1 135 349 14 (
 oW E8 "greatest_divisor" 352 43 2 142 360 15 (
 oW E8 "common_bottom" 363 51 1 149 369 16 (
 oN E8 "frac_total" 372 56 1 156 375 17 (
 oW E8 "power_of" 378 59 2 161 386 18 (
 oW D9 "poly_sum" 391 71 2 168 396 20 (
 oW D9 "poly_times" 399 73 2 175 409 21 (
 oN D9 "poly_scaled" 412 79 2 182 415 22 (
 oN D9 "poly_slope" 418 83 2 187 421 23 (
 oW D9 "is_poly" 424 85 2 192 431 24 (
 oW D9 "is_term" 434 92 2 199 439 25 (
 oW D9 "are_powers" 442 96 2 206 448 26 (
 oW D9 "refuse_no_start" 451 103 2 213 456 27 (
 oW D9 "refuse_start" 459 106 0 220 462 28 (
 oW D9 "one_less" 465 108 2 227 470 29 (
 oN D9 "powers_joined" 473 110 2 234 476 30 (
 oW D9 "gathered" 479 112 1 239 488 31 (
 oN D9 "worth_at" 491 122 2 246 494 32 (
 oW D9 "term_worth" 497 124 3 251 507 33 (
 oW Et "is_tree" 514 133 1 258 520 36 (
 oW Et "trees_of" 523 142 1 265 531 37 (
 oW Et "trees_to" 534 152 1 272 540 38 (
 oW Et "refuse_no_tree" 543 159 1 279 547 39 (
 oW Et "in_falling_order" 550 162 1 286 554 40 (
 oN Et "knots_within" 557 164 1 293 560 41 (
 oW Et "turns_within" 563 166 1 298 571 42 (
 oW Et "product_up_to" 574 176 1 305 580 43 (
 oW Et "trees_one_larger" 583 181 1 312 591 44 (
 oN JG "grain_of" 596 188 1 319 599 46 (
 oW JG "pace_of" 602 190 2 324 607 47 (
 oN JG "whole_start" 610 192 2 331 613 48 (
 oN JG "tops_over" 616 194 2 336 619 49 (
 oN JG "whole_change" 622 196 2 341 625 50 (
 oW JG "whole_poly" 628 200 4 346 639 51 (
 oN JG "speeds_bottom" 642 206 1 353 645 52 (
 oW JG "greatest_power" 648 211 1 358 656 53 (
 oW Ih "is_change" 661 218 1 365 666 55 (
 oW Ih "refuse_no_change" 669 225 1 372 673 56 (
 oN Ih "bent_polys" 676 228 3 379 679 57 (
 oW Ih "along_boughs" 682 233 2 384 691 58 (
 oN Ih "bent_worths" 694 242 4 391 697 59 (
 oW Ih "pushed_by" 700 251 2 396 708 60 (
 (nat_lit 403,⟨LE,none,(.seq #[(.int 0 713),(.int 1 714),(.int 2 715),(.int 4 716),(.int 8 717),(.int 17 718),(.int 37 719),(.int 85 720)] 0),#[]⟩) ::
 oW nJ "weighing_reach" 722 258 1 404 726 63 (
 oW nJ "refuse_no_weighing" 729 261 1 411 733 64 (
 oN UM "grove_rows" 738 265 3 418 741 66 (
 oN UM "shares_of" 744 285 2 423 747 67 (
 oN UM "shared_sums" 750 287 3 428 753 68 (
 oW Zt "tree_ties" 758 294 1 433 762 70 (
 oW Zt "ties_within" 765 297 1 440 774 71 (
 oN Hn "followed_weighing" 779 305 1 447 782 73 (
 oW Hn "followed_changes" 785 312 2 452 798 74 (
 oN Hn "later_moves" 801 326 2 459 804 75 (
 oW Hn "move_share" 807 333 3 464 813 76 (
 oN Hn "later_weight" 816 337 1 471 819 77 (
 oN Hn "shared_trees" 822 339 2 476 825 78 (
 oN Hn "followed_change" 828 341 4 481 831 79 (
 oW Hn "topped_sum" 834 347 2 486 842 80 (
 oW FP "_law_cell" 847 353 2 493 854 82 (
 oW FP "_law_frac" 857 362 2 500 864 83 (
 oW FP "_law_add" 867 370 2 507 872 84 (
 oN FP "_law_gathered" 892 379 1 528 895 87 (
 oN FP "_law_powers" 898 384 1 533 901 88 (
 oW FP "_law_change" 904 393 3 538 921 89 (
 oW FP "_law_start" 924 414 3 545 933 90 (
 oN FP "_law_copy" 936 421 1 552 939 91 (
 oW FP "_law_kinds" 942 423 4 557 952 92 (
 oW FP "_law_bad_change" 955 436 2 564 967 93 (
 oW FP "law" 970 460 1 571 981 94 (
 [])))))))))))))))))))))))))))))))))))))))))))))))))))))))))))))))))))))))))) 1 ["NoBottom","NoTree","NoChange","NoStart","NoWeighing","TooMany"]
abbrev qX:F0b:=view Eb [1,2,3,4,5,6,7,9,10,11,12,13,14,15,16,17,18,20,21,22,23,24,25,26,27,28,29,30,31,32,33,35,36,37,38,39,40,41,42,43,44,46,47,48,49,50,51,52,53,55,56,57,58,59,60,62,63,64,66,67,68,70,71,73,74,75,76,77,78,79,80,82,83,84,85,86,87,88,89,90,91,92,93,94]
noncomputable abbrev hX:Hook:=kHook kH (eK 0 [2,1,12,7,1,1,1,3,7,1,1,3,7,1,1,3,7,1,1,3,7,1,1,3,7,1,1,3,7,1,1,8,1,6,1,6,1,6,1,6,1,6,1,6,1,6,1,4,1,6,1,6,1,6,1,4,1,4,1,6,1,6,1,6,1,6,1,6,1,6,1,4,1,6,1,4,1,6,1,6,1,6,1,6,1,6,1,6,1,4,1,6,1,6,1,6,1,4,1,6,1,4,1,4,1,4,1,6,1,4,1,6,1,6,1,6,1,4,1,6,1,4,1,6,1,1,6,1,6,1,4,1,4,1,4,1,6,1,6,1,4,1,6,1,4,1,6,1,4,1,4,1,4,1,6,1,6,1,6,1,6,1,18,1,4,1,6,1,6,1,4,1,6,1,6,1,6,1]) (fun _=>by kernel_rfl)
noncomputable def dX:DefRec:=⟨Str.ofString "law",Gy (top 94),CB (top 94),AW (top 94),⟨460,0,481,15⟩⟩
def yA:D6.wellSaid=true:=(congrFun PySem.W.Fast.te9446332074065402090 _).trans IO
def AAa(w:F0c)(os:OsState):topGo treeTable Eb w 11 Opn.Iz 12 ⟨boot_heap w.params,#[],boot_drawn,boot_toks,os⟩ (topStub Eb)=some (Opn.sA w os,⟨denote treeTable (Opn.cB Eb),Opn.cB Eb,Opn.q0,Opn.bB⟩):=by kernel_rfl
def zR(w:F0c)(os:OsState):segRun treeTable Eb w 11 Opn.Iz 1 1 (Opn.sA w os) (blockOf (behindTheImports Eb) (Opn.QA Eb) (Opn.cB Eb) Opn.q0 Opn.bB)=some (.next,(Opn.sB w os).abs,Opn.cB Eb,Opn.q0):=by kernel_rfl
def zV(w:F0c)(s:SD):topRun treeTable Eb w 11 Opn.Iz 2 s (restOf [] (Opn.QA Eb) (Opn.cB Eb) ⟨460,0,481,15⟩ Opn.bB)=some s:=by kernel_rfl
def AAH(w:F0c)(os:OsState):Opn.Z1 Eb 3843 w os=some (.next,Opn.dD Eb 3843 w os,Opn.cB Eb,⟨460,0,481,15⟩):=by kernel_rfl
noncomputable abbrev sX(w:F0c)(os:OsState):SD:=(Opn.dD Eb 3843 w os).abs
def AAV(w:F0c)(os:OsState):(staticsOk (importedModules Eb.main.body) (boot_heap w.params) (sX w os).heap&&namesBound Eb (sX w os).heap&&gensDone (sX w os)&&laidKept (boot_heap w.params) (sX w os).heap)=true:=by kernel_rfl
def w9(w:F0c)(os:OsState):hX.obs (sX w os)=hX.val w:=by kernel_rfl
noncomputable abbrev Yl:SD->Bool:=fun s=>xlAt qX [] s&&recOk (RowW.records D6.row.toRowW) s
def yH(w:F0c)(os:OsState):(openSeen qX [] (importedModules Eb.main.body) Yl true (sX w os)).1=(openGood qX []).1:=by kernel_rfl
def xV(w:F0c)(os:OsState):(openSeen qX [] (importedModules Eb.main.body) Yl true (sX w os)).2.1=(openGood qX []).2.1:=by kernel_rfl
def yW(w:F0c)(os:OsState):(openSeen qX [] (importedModules Eb.main.body) Yl true (sX w os)).2.2=(openGood qX []).2.2:=by kernel_rfl
def wt(w:F0c)(os:OsState):openSeen qX [] (importedModules Eb.main.body) Yl true (sX w os)=openGood qX []:=Prod.ext (yH w os) (Prod.ext (xV w os) (yW w os))
def xx(w:F0c):(fencedOpening treeTable Eb w 7810).map (fun s=>(s.heap,s.gens,s.drawn,s.toks))=some (boot_heap w.params,#[],boot_drawn,boot_toks):=boot_open (p:=Eb) (N:=7810) IO IO (fun _=>by kernel_rfl) w
def xC:LeftO Eb qX [] Yl hX.obs hX.val 7810:=Opn.oy (M:=3858) (S:=sX) xx Opn.we (fun w os=>Opn.v7 (AAa w os) (zR w os) (AAH w os) (zV w) IO) IO AAV wt w9
def zw:defOf qX D6.row.name=some (dX,[]):=by kernel_rfl
def ze:Eb.theDef D6.row.name=some (dX.params,dX.body,dX.scope):=by kernel_rfl
def kwX:kwWritten? dX.params.kwonlyargs dX.params.kw_defaults=some []:=by kernel_rfl
def AAU:(chainsOk qX&&opensWell D6.row.prog&&(frees D6.row.toRowW&&D6.row.within.isEmpty))=true:=by kernel_rfl
def yV:Eb.bare:=⟨rfl,rfl,rfl,rfl,rfl,by decide +kernel⟩
def openX(T:D6.row.toRowW.promised)(U:WalkO qX [] (XL qX []) hX.says D6.row.toRowW dX [] (fun f vs=>PySem.call f vs)):D6.Holds :=
 holds_law yA fun l=>holds_open (r:=D6.row) (q:=qX) (loose:=[]) (Xt:=Yl) (XP:=XL qX []) (Yf:=hX.obs) (Ya:=hX.val) (YP:=hX.says) (d:=dX) (kwd:=[]) (N:=7810) xC hX.of hX.keeps (fun s e=>xl_of s (Bool.and_eq_true_iff.mp e).1) XL.keeps zw ze kwX (fun s e=>recFacts_of (Bool.and_eq_true_iff.mp e).2) rfl l AAU yV T U
end
end Q45
namespace L2
open PySem PySem.Spec PyProof.Rows
abbrev Key:=Sum Int Str
def OU:Key->VL->Bool
 |.inl k,v=>Value.isInt k v
 |.inr x,v=>Value.isStrOf x v
def zO(w:F0c):Key->Int
 |.inl k=>hashInt k
 |.inr x=>hashStr w x
def Cu:∀ {k:Key} {v:VL},OU k v=true->(∃i t,k=Sum.inl i/\v=Value.int i t)\/(∃x t,k=Sum.inr x/\v=Value.str x t)
 |.inl i,v,h=>by
  obtain⟨t,e⟩:=Value.isInt_shape (k:=i) (v:=v) h;exact .inl ⟨i,t,rfl,e⟩
 |.inr x,v,h=>by
  obtain⟨t,e⟩:=Value.isStrOf_shape (x:=x) (v:=v) h;exact .inr ⟨x,t,rfl,e⟩
def ia(i:Int)(t:Tok):OU (.inl i) (.int i t)=true:=by simp[OU,Value.isInt]
def dm(x:Str)(t:Tok):OU (.inr x) (.str x t)=true:=by simp[OU,Value.isStrOf]
def rX(a b:Int):decide ((Sum.inl a:Key)=Sum.inl b)=(a==b):=by
 by_cases e:a=b
 .subst e;simp
 .have h:¬(Sum.inl a:Key)=Sum.inl b:=fun q=>e (Sum.inl.inj q);rw[decide_eq_false h];exact(beq_eq_false_iff_ne.mpr e).symm
def sO(a b:Str):decide ((Sum.inr a:Key)=Sum.inr b)=decide (a=b):=by
 by_cases e:a=b
 .subst e;simp
 .have h:¬(Sum.inr a:Key)=Sum.inr b:=fun q=>e (Sum.inr.inj q);rw[decide_eq_false h,decide_eq_false e]
def uR(a:Int)(b:Str):decide ((Sum.inl a:Key)=Sum.inr b)=false:=decide_eq_false (fun q=>nomatch q)
def si(a:Str)(b:Int):decide ((Sum.inr a:Key)=Sum.inl b)=false:=decide_eq_false (fun q=>nomatch q)
def EG(prog:F0b)(w:F0c):PySem.KeyKind prog w Key where
 is:=OU
 hash:=zO w
 inj:=fun v a b ha hb=>by
  rcases Cu ha with ⟨i,t,rfl,rfl⟩|⟨x,t,rfl,rfl⟩
  .rcases Cu hb with ⟨j,u,rfl,e⟩|⟨y,u,rfl,e⟩
   .injection e with e1 _;rw[e1]
   .exact nomatch e
  .rcases Cu hb with ⟨j,u,rfl,e⟩|⟨y,u,rfl,e⟩
   .exact nomatch e
   .injection e with e1 _;rw[e1]
 byValue:=fun k v h=>by
  rcases Cu h with ⟨i,t,rfl,rfl⟩|⟨x,t,rfl,rfl⟩<;>rfl
 pyHash:=fun hv h=>by
  rcases Cu hv with ⟨i,t,rfl,rfl⟩|⟨x,t,rfl,rfl⟩
  .exact wpAny_pyHash_int h
  .exact wpAny_pyHash_str h
 eqBool:=fun hu hv h=>by
  rcases Cu hu with ⟨i,t,rfl,rfl⟩|⟨x,t,rfl,rfl⟩
  .rcases Cu hv with ⟨j,u,rfl,rfl⟩|⟨y,u,rfl,rfl⟩
   .rw[rX]at h;exact wpAny_eqBool_int h
   .rw[uR]at h;exact SeqAt.EqAt.int_str i t y u _ _ _ _ h
  .rcases Cu hv with ⟨j,u,rfl,rfl⟩|⟨y,u,rfl,rfl⟩
   .rw[si]at h;exact SeqAt.EqAt.str_int x t j u _ _ _ _ h
   .rw[sO]at h;exact wpAny_eqBool_str h
 «strs»:=fun k x t v h=>by
  rcases Cu h with ⟨i,u,rfl,e⟩|⟨y,u,rfl,e⟩
  .exact nomatch e
  .injection e with e1 _
   subst e1;cases v<;>rfl
def YF(prog:F0b)(w:F0c)(i:Int)(t:Tok):(EG prog w).is (.inl i) (.int i t)=true:=ia i t
def YC prog w x t:(EG prog w).is (.inr x) (.str x t)=true:=dm x t
inductive V where
 |BV|bl (b:Bool)|int (i:Int)|str (x:Str)|NA (b:Array UInt8)|Zb (b:UInt64)|ref (a:Addr)|ty (n:String)
 deriving DecidableEq
abbrev ABC:=List V
def RelV:V->VL->Prop
 |.BV,u=>u=Value.none
 |.bl b,u=>u=Value.bool b
 |.int i,u=>∃t,u=Value.int i t
 |.str x,u=>∃t,u=Value.str x t
 |.NA b,u=>∃t,u=Value.bytes b t
 |.Zb b,u=>∃t,u=Value.float b t
 |.ref a,u=>u=Value.ref a
 |.ty n,u=>u=Value.type n
abbrev Vals:List V->List VL->Prop:=Paired RelV
def Vals.length(r:Vals xs us):xs.length=us.length:=Paired.length r
theorem Vals.get:∀ {xs} {us} {i:Nat} {x},Vals xs us->xs[i]? = some x->∃u,us[i]? = some u/\RelV x u
 |_,_,_,_,.nil,e=>by grind
 |_,_,0,_,.cons r _,e=>by grind
 |_,_,i+1,x,.cons _ t,e=>by
  obtain⟨u,I,l⟩:=Vals.get t (by simpa using e)
  grind
theorem Vals.set(r:RelV x u):∀ {xs} {us} i,Vals xs us->Vals (xs.set i x) (us.set i u)
 |_,_,_,.nil=>.nil
 |_,_,0,.cons _ t=>.cons r t
 |_,_,i+1,.cons q t=>.cons q (Vals.set r i t)
theorem Vals.append:∀ {xs ys} {us l},Vals xs us->Vals ys l->Vals (xs++ys) (us++l)
 |_,_,_,_,.nil,s=>s
 |_,_,_,_,.cons r t,s=>.cons r (Vals.append t s)
theorem Vals.take:∀ {xs} {us} n,Vals xs us->Vals (xs.take n) (us.take n)
 |_,_,0,_=>.nil
 |_,_,_+1,.nil=>.nil
 |_,_,n+1,.cons r t=>.cons r (Vals.take n t)
theorem Vals.drop:∀ {xs} {us} n,Vals xs us->Vals (xs.drop n) (us.drop n)
 |_,_,0,r=>r
 |_,_,_+1,.nil=>.nil
 |_,_,n+1,.cons _ t=>Vals.drop n t
def IM:Option V->Option VL->Prop
 |some v,some u=>RelV v u
 |none,none=>True
 |_,_=>False
def KV:List (κ×V)->List (κ×VL)->Prop:=Paired fun p q=>p.1=q.1/\RelV p.2 q.2
def kV:Key->V
 |.inl i=>.int i
 |.inr x=>.str x
inductive HO where
 |lst (xs:List V)
 |tup (xs:List V)
 |dK (kvs:List (Key×V))|dT (kvs:List (List Key×V))
 |set (S:Int->Bool) (n:Nat)
 |ins (C dx:Addr) (fs:List (Str×V))
 |own (x:Addr)
 |xd (fs:List (Str×V))
 |met (f x:Addr)
 |oB (lo hi:Int)
 |Eu (o:Obj) (u:HO)
 |Ox (ps:Array Value)
 |ext (φ:Heap->Prop)
abbrev Hp:=AD->Option HO
def upd(H:Hp)(a:AD)(o:HO):Hp:=fun b=>if b=a then some o else H b
def AR:upd H a o a=some o:=by unfold upd;lia
def AN(h:b≠a):upd H a o b=H b:=by unfold upd;lia
def nQ{H:Hp}(h:H a=some o)(h':H b=some u)(d:o≠u):a≠b:=by
 lia
def Ah{H:Hp}(h:H a=some o)(h':H b=none):a≠b:=by
 lia
section
variable(P:F0b)(w:F0c)
def C4(H:Hp)(h:Heap)(a:AD):HO->Prop
 |.lst xs=>xs.length<=sizeLine/\∃(l:List VL) (n:Nat),Vals xs l/\h.get? a=some { cls:=.type "list",data:=.seq l.toArray n}
 |.tup xs=>xs.length<=sizeLine/\∃l ,Vals xs l/\IsTup h a l.toArray
 |.dK kvs=>kvs.length<=sizeLine/\(a==sysModules)=false/\∃vs,KV kvs vs/\h.DictOf (EG P w) a vs
 |.dT kvs=>kvs.length<=sizeLine/\(a==sysModules)=false/\∃xs ,
   Paired (fun p q=>p.1=q.1/\H q.2.1=some (.tup (p.1.map kV))/\RelV p.2 q.2.2) kvs xs /\
   ∃o es ep,h.get? a=some o/\o.ExactDict/\o.data=.dict es ep/\es.toList=xs.map (entryOfKey (tupleKind (EG P w)))/\(xs.map Hq).Nodup
 |.set S n=>h.SetOf (intKind P w) a S n
 |.ins C dx fs=>H dx=some (.own a)/\fs.length<=1000/\dx≠a/\h.get? a=some (PySem.W.instObj C dx) /\
   ∃mA,h.Ns1 dx mA/\(∀f,IM (fs.lookup f) (mA f))/\PySem.Within mA (fs.map Hq)
 |.own _=>∃o,h.get? a=some o
 |.xd fs=>∃mA,h.Ns1 a mA/\∀f,IM (fs.lookup f) (mA f)
 |.oB lo hi=>∃t u v,h.get? a=some { cls:=.type "range",data:=.fields #[.int lo t,.int hi u,.int 1 v]}
 |.Eu o u=>h.get? a=some o/\C4 H h a u
 |.Ox ps=>h.get? a=some { cls:=.none,data:=.fields ps}
 |.met f x=>h.get? a=some (PySem.W.methodObj (.ref f) (.ref x))
 |.ext φ=>φ h/\(∃o,h.get? a=some o)/\∀M I ,φ M->(∀o,M.get? a=some o->I.get? a=some o)->φ I
def DZ(H:Hp)(h:Heap):Prop:=∀a o,H a=some o->C4 P w H h a o
end
section
variable{P:F0b}{w:F0c}{H H':Hp}{h h':Heap}{a:AD}{o:HO}
def C4.lt(x:C4 P w H h a o):a<h.objs.size:=by
 cases o with
 |lst xs=>obtain⟨_,_,_,_,e⟩:=x;exact aH e
 |tup xs=>obtain⟨_,_,_,p⟩:=x;exact p.lt
 |dK kvs=>obtain⟨_,_,_,_,o,_,_,e,_⟩:=x;exact aH e
 |dT kvs=>obtain⟨_,_,_,_,o,_,_,e,_⟩:=x;exact aH e
 |set S n=>obtain⟨o,_,_,_,e,_⟩:=x;exact aH e
 |ins C dx fs=>obtain⟨_,_,_,e,_⟩:=x;exact aH e
 |own y=>obtain⟨_,e⟩:=x;exact aH e
 |xd fs=>obtain⟨_,⟨_,_,_,e,_⟩,_⟩:=x;exact aH e
 |oB lo hi=>obtain⟨_,_,_,e⟩:=x;exact aH e
 |Eu ob u=>obtain⟨e,_⟩:=x;exact aH e
 |Ox ps=>exact aH x
 |met f y=>exact aH x
 |ext φ=>obtain⟨_,⟨_,e⟩,_⟩:=x;exact aH e
theorem Paired.lz:∀ {l₁} {l₂},Paired F l₁ l₂->(∀a b,F a b->G a b)->Paired G l₁ l₂
 |_,_,.nil,_=>.nil
 |_,_,.cons r t,f=>.cons (f _ _ r) (Paired.lz t f)
def C4.J9(x:C4 P w H h a o)(k:∀b u,(b=a\/H b=some (.own a))->h.get? b=some u->h'.get? b=some u) (M:∀b,H b=some (.own a)->H' b=some (.own a))(U:∀b xs,H b=some Jl->H' b=some Jl):C4 P w H' h' a o:=by
 induction o with
 |lst xs=>obtain⟨z,l,n,r,e⟩:=x;exact⟨z,l,n,r,k _ _ ZB e⟩
 |tup xs=>obtain⟨z,l,r,ob,e,c⟩:=x;exact⟨z,l,r,ob,k _ _ ZB e,c⟩
 |dK kvs=>obtain⟨z,y,vs,r,ob,es,ep,e,c⟩:=x;exact⟨z,y,vs,r,ob,es,ep,k _ _ ZB e,c⟩
 |dT kvs=>
  obtain⟨z,y,xs,r,ob,es,ep,e,c⟩:=x;exact⟨z,y,xs,Paired.lz r fun p q z=>by grind,ob,es,ep,k _ _ ZB e,c⟩
 |set S n=>obtain⟨ob,es,ep,t,e,c⟩:=x;exact⟨ob,es,ep,t,k _ _ ZB e,c⟩
 |ins C dx fs=>
  obtain⟨d,z,ne,e,mA,⟨od,es,ep,T,c⟩,r⟩:=x;exact⟨M _ d,z,ne,k _ _ ZB e,mA,⟨od,es,ep,k _ _ (.inr d) T,c⟩,r⟩
 |own y=>obtain⟨ob,e⟩:=x;exact⟨ob,k _ _ ZB e⟩
 |xd fs=>obtain⟨mA,⟨od,es,ep,e,c⟩,r⟩:=x;exact⟨mA,⟨od,es,ep,k _ _ ZB e,c⟩,r⟩
 |oB lo hi=>obtain⟨t,u,v,e⟩:=x;exact⟨t,u,v,k _ _ ZB e⟩
 |Eu ob u I=>obtain⟨e,q⟩:=x;exact⟨k _ _ ZB e,I q⟩
 |Ox ps=>
  exact k a _ ZB x
 |met f y=>
  exact k a _ ZB x
 |ext φ=>obtain⟨p,⟨o,e⟩,st⟩:=x;exact⟨st _ _ p fun o q=>by grind,⟨o,k _ _ ZB e⟩,st⟩
def DZ.lt(x:DZ P w H h)(e:H a=some o):a<h.objs.size:=(x a o e).lt
def DZ.fresh(x:DZ P w H h)(e:h.objs.size<=a):H a=none:=by
 cases q:H a with
 |none=>rfl
 |some u=>exact absurd (aD (x.lt q) e) (Nat.lt_irrefl _)
def DZ.kept(x:DZ P w H h)(k:∀b u,h.get? b=some u->h'.get? b=some u):DZ P w H h':=fun a o e=>
 (x a o e).J9 (fun b u _ q=>k b u q) (fun _ q=>q) fun _ _ q=>q
def DZ.laid(x:DZ P w H h)(k:∀b u,h.get? b=some u->h'.get? b=some u)(l:h.objs.size<=a)(new:C4 P w (upd H a o) h' a o):DZ P w (upd H a o) h':=fun b u e=>by
 have hn:=x.fresh l;by_cases hb:b=a
 .subst hb;rw[AR]at e;lia
 .rw[AN hb]at e;exact(x b u e).J9 (fun c v _ q=>k c v q) (fun c q=>by rw[AN (Ah q hn)];lia) fun c xs q=>by rw[AN (Ah q hn)];lia
end
def Rd(H:Hp)(a:AD)(u:HO):Prop:=H a=some u\/∃o,H a=some (.Eu o u)
def Rd.ok(r:Rd H a u)(x:DZ P w H h):C4 P w H h a u:=by
 rcases r with r|⟨o,r⟩
 .exact x a u r
 .obtain⟨_,q⟩:=x a _ r;exact q
def iY:Option HO->Prop
 |some (.lst _)=>True
 |some (.dK _)=>True
 |some (.dT _)=>True
 |some (.set _ _)=>True
 |some (.ins _ _ _)=>True
 |some (.ext _)=>True
 |_=>False
section
variable{P:F0b}{w:F0c}{H:Hp}{h h':Heap}{x e:AD}{o':HO}
def DZ.write(ok:DZ P w H h)(I:iY (H x))(Z:e=x\/H e=some (.own x))(k:∀b u,b≠e->h.get? b=some u->h'.get? b=some u)(M:∃u,h'.get? e=some u) (new:C4 P w (upd H x o') h' x o'):DZ P w (upd H x o') h':=fun b u q=>by
 have l:∀c y,H c=some (.own y)->c≠x:=fun c y r z=>by subst z;rw[r]at I;exact I
 by_cases hb:b=x
 .subst hb;rw[AR]at q;lia
 .rw[AN hb]at q;by_cases U:b=e
  .have T:H b=some (.own x):=by
    lia
   rw[q]at T;cases T;obtain⟨v,Y⟩:=M;exact⟨v,by lia⟩
  .refine(ok b u q).J9 (fun c v hc r=>k c v ?_ r) (fun c r=>by rw[AN (l c b r)];lia) fun c xs r=>by rw[AN ((fun c xs r z=>by subst z;rw[r]at I;exact I) c xs r)];lia
   grind
end
structure Un(fs ex:List Addr)(H H':Hp)(h h':Heap):Prop where
 keep:∀b o,h.get? b=some o->H b=none->b ∉ fs->b ∉ ex->h'.get? b=some o
 slot:∀b o,h.get? b=some o->H b=none->b∈fs->b ∉ ex->∃sl,h'.get? b=some {o with slots:=sl}
 free:∀b o,h.get? b=some o->H b=none->b ∉ ex->H' b=none
 there:∀b o,h.get? b=some o->b ∉ ex->∃o',h'.get? b=some o'
 Bi:∀b xs,H b=some Jl->H' b=some Jl
 FN:∀b o u,H b=some (.Eu o u)->H' b=some (.Eu o u)
 GO:∀b ps,H b=some (.Ox ps)->∃more,H' b=some (.Ox (ps++more))
 GL:∀b xs o,H b=some Jl->h.get? b=some o->b ∉ ex->h'.get? b=some o
section
variable{fs ex:ABF}{H H1:Hp}{h h1 h':Heap}{a x e:AD}{o:HO}
def Un.any(u:Un fs ex H H1 h h1)(q:h.get? b=some ob)(n:H b=none)(l:b ∉ ex):∃sl,h1.get? b=some {ob with slots:=sl}:=by
 by_cases hb:b∈fs
 .exact u.slot b ob q n hb l
 .exact⟨ob.slots,u.keep b ob q n hb l⟩
def Un.kept(k:∀b u,h.get? b=some u->h'.get? b=some u):Un fs ex H H h h' :=
 ⟨fun b ob q _ _ _=>k b ob q,fun b ob q _ _ _=>⟨ob.slots,k b ob q⟩,fun _ _ _ n _=>n,fun b ob q _=>by grind,fun _ _ q=>q,fun _ _ _ q=>q,fun _ ps q=>by simp_all,fun _ _ ob _ e _=>k _ ob e⟩
def Un.refl:Un fs ex H H h h:=Un.kept fun _ _ q=>q
def Un.laid(k:∀b u,h.get? b=some u->h'.get? b=some u)(hp:h.objs.size<=a)(hn:H a=none):Un fs ex H (upd H a o) h h' where
 keep:=fun b u q _ _ _=>k b u q
 slot:=fun b u q _ _ _=>⟨u.slots,k b u q⟩
 free:=fun b u q n _=>by rw[AN (aJ (aD (aH q) hp))];lia
 there:=fun b u q _=>by grind
 Bi:=fun b xs q=>by rw[AN (Ah q hn)];lia
 FN:=fun b u xs q=>by rw[AN (Ah q hn)];lia
 GO:=fun b ps q=>⟨#[],by rw[AN (Ah q hn),q];simp⟩
 GL:=fun b _ u _ e _=>k b u e
def Un.write(l:iY (H x))(T:e=x\/H e=some (.own x))(k:∀b u,b≠e->h.get? b=some u->h'.get? b=some u)(M:∃u,h'.get? e=some u):Un fs ex H (upd H x o) h h':=by
 have I:∀b,H b=none->b≠x:=fun b n z=>by subst z;rw[n]at l;exact l
 have hm:∀b u,H b=some u->¬iY (some u)->b≠x:=fun b u q nm z=>by lia
 refine⟨fun b u q n _ _=>by grind,fun b u q n _ _=>⟨u.slots,k b u ((fun b n z=>by
  lia) b n) q⟩,fun b u q n _=>by rw[AN (I b n)];lia,fun b u q _=>?_,
  fun b xs q=>by rw[AN (hm b _ q fun z=>z)];lia,fun b u xs q=>by rw[AN (hm b _ q fun z=>z)];lia,fun b ps q=>⟨#[],by rw[AN (hm b _ q fun z=>z),q];simp⟩,fun b xs u q e _=>k b u (fun z=>by
   rcases T with r|r
   .exact hm b _ q (fun z=>z) (z.trans r)
   lia) e⟩
 grind
end
def tM(h:Heap)(H:Hp):ABF:=(List.range h.objs.size).filter fun a=>(H a).isSome
def TY(h:Heap)(H:Hp):Heap:=PySem.W.hideAll h (tM h H)
def gB h H:(TY h H).objs.size=h.objs.size:=PySem.W.hideAll_size _ _
def jf(e:h.get? b=some o)(n:H b=none):(TY h H).get? b=some o :=
 PySem.W.hideAll_get _ e fun hm=>by
  have q:=(List.mem_filter.mp hm).2
  grind
def pQ(e:(TY h H).get? b=some o):h.get? b=some o/\H b=none:=by
 have l:=PySem.W.of_hideAll _ e;refine⟨l,?_⟩;cases q:H b with
 |none=>rfl
 |some x=>
  have z:(TY h H).get? b=none:=PySem.W.hideAll_none _ (List.mem_filter.mpr ⟨List.mem_range.mpr (aH l),by simp[q]⟩)
  lia
structure Mod(K:Fg)(mg:Str->Option Value)(base:Heap):Prop where
 Mj:K.In base
 glob:base.Ns mainGlobals mg
 blt:∃mb,base.Ns builtinsNs mb/\∀x:Str,x ≠ "__name__" -> mb x=bootBuiltins x
 nolimit:base.NoLimit
def tbT(d:Nat):List ABC:=[[],[.ref (d+1)],[.int 1,.int 1],[.ref (d+3)],[.ref (d+2),.ref (d+4)],[],[.int 1,.int 2],[.ref (d+7)],[.ref (d+6),.ref (d+8)],[.int 0,.int 1],[.int 1,.int 1],[.ref (d+10),.ref (d+11)],[.ref (d+9),.ref (d+12)],[],[.int 1,.int 1],[.ref (d+15)],[.ref (d+14),.ref (d+16)],[.int 1,.int 2],[.int 1,.int 2],[.ref (d+18),.ref (d+19)],[.ref (d+17),.ref (d+20)],[],[.int 1,.int 3],[.ref (d+23)],[.int 0,.int 1],[.int 2,.int 3],[.ref (d+25),.ref (d+26)],[.ref (d+22),.ref (d+24),.ref (d+27)],[.int 1,.int 4],[.int 0,.int 1],[.int 3,.int 4],[.ref (d+29),.ref (d+30),.ref (d+31)],[.ref (d+28),.ref (d+32)],[],[.int 1,.int 2],[.ref (d+35)],[.int 0,.int 1],[.int 1,.int 2],[.ref (d+37),.ref (d+38)],[.int 0,.int 1],[.int 0,.int 1],[.int 1,.int 1],[.ref (d+40),.ref (d+41),.ref (d+42)],[.ref (d+34),.ref (d+36),.ref (d+39),.ref (d+43)],[.int 1,.int 6],[.int 1,.int 3],[.int 1,.int 3],[.int 1,.int 6],[.ref (d+45),.ref (d+46),.ref (d+47),.ref (d+48)],[.ref (d+44),.ref (d+49)]]
def tbK(d:Nat):List (Key×V):=[(.inr "plain",.ref (d+5)),(.inr "middle",.ref (d+13)),(.inr "heel",.ref (d+21)),(.inr "third",.ref (d+33)),(.inr "fourth",.ref (d+50))]
def AAZ:ABC:=[.str "x",.str "y",.str "z",.str "w"]
structure KTb(mg:Str->Option Value)(H:Hp):Prop where
 nam:∀d:Addr,mg "NAMED_TABLES" = some (.ref d)->(∃o,H d=some (.Eu o (.dK (tbK d))))/\∀j xs,(tbT d)[j]? = some xs->H (d+1+j)=some Jl
 unk:∀d:Addr,mg "UNKNOWNS" = some (.ref d)->H d=some (.tup AAZ)
def KTb.un(k:KTb mg H)(u:Un fs ex H H' h h'):KTb mg H':=⟨fun d e=>
 let⟨⟨o,I⟩,l⟩:=k.nam d e
 ⟨⟨o,u.FN _ _ _ I⟩,fun j xs q=>u.Bi _ _ (l j xs q)⟩,fun d e=>u.Bi _ _ (k.unk d e)⟩
def KTb.no(I:mg "NAMED_TABLES" = none)(l:mg "UNKNOWNS" = none) H:KTb mg H:=⟨fun d e=>by lia,fun d e=>by lia⟩
structure Cx where
 prog:Program
 w:World
 K:Fg
 mg:Str->Option Value
 base:Heap
 A:Around
 N:List Str
 s₀:Shared
 H₀:Hp
 env:Env
 outer:List Env
 stack:List Env
 ex:List Addr
 fn:Str->Bool
 calm:Bool
 pn:List (Addr×Obj)
 xe:Value->Shared->Prop
def GG(l:List Env):ABF:=l.filterMap (·.frame)
abbrev Cx.fs(X:Cx):List AD:=GG X.outer
def tR(sc:Scope)(x:Str):Prop:=sc.names.lookup x=some .local\/sc.names.lookup x=some .cell\/sc.names.lookup x=some .free
def Loc(sc:Scope)(x:Str):Prop:=sc.names.lookup x=some .local\/sc.names.lookup x=some .cell
def Look(env:Env)(h:Heap)(m:AAs)(x:Str)(u:VL):Prop :=
 (env.kindOf x=some .local/\m x=some u)\/((env.kindOf x=some .cell\/env.kindOf x=some .free)/\∃c,env.cells.lookup x=some c/\h.IsCell c (some u))
structure Cx.Ok(X:Cx):Prop where
 mod:Mod X.K X.mg X.base
 kind:X.env.scope.kind=.function
 glob:X.env.globals=mainGlobals
 blt:X.env.builtins=builtinsNs
 above:X.s₀.heap.objs.size<=X.env.locals
 inj:∀x y c,X.env.cells.lookup x=some c->X.env.cells.lookup y=some c->x=y
 has:∀x,(X.env.kindOf x=some .cell\/X.env.kindOf x=some .free)->∃c,X.env.cells.lookup x=some c
 XW:∀x c,X.fn x=true->X.env.cells.lookup x=some c->X.s₀.heap.objs.size<=c
 hd:X.calm=true->X.A.handled=none
 frames:X.A.frames=some X.stack
 hW:X.stack=X.outer\/(X.stack=X.env::X.outer/\X.env.frame=some X.env.locals)
 wG:∀b∈X.ex,b≠X.env.locals/\∀x c,X.env.cells.lookup x=some c->c≠b
 bs:∀b o,X.base.get? b=some o->X.s₀.heap.get? b=some o/\X.H₀ b=none
 Rr:X.base.objs.size<=X.s₀.heap.objs.size
 SK:∀b o,X.base.get? b=some o->b ∉ X.ex
 SG:∀b∈X.ex,b ∉ X.fs
 HI:X.s₀.heap.FunFrames X.base X.outer
 Qi:∀b∈X.fs,X.H₀ b=none
 kt:KTb X.mg X.H₀
structure Inv(X:Cx)(pins:List (Addr×Obj))(σ:List (Option V))(H:Hp)(s:Shared):Prop where
 ok:X.Ok
 os:s.os=X.s₀.os
 bare:AllBare s.gens
 base:Un X.fs X.ex X.H₀ H X.s₀.heap s.heap
 loc:∃m,s.heap.Ns X.env.locals m/\∀(i:Nat) (x:Str) (v:V),X.N[i]? = some x->σ[i]? = some (some v)->tR X.env.scope x->∃u,RelV v u/\Look X.env s.heap m x u
 cell:∀x c,X.env.cells.lookup x=some c->∃v,s.heap.IsCell c v
 free:H X.env.locals=none
 FV:∀x c,X.env.cells.lookup x=some c->H c=none
 pin:∀p∈X.pn++pins,s.heap.get? p.1=some p.2/\H p.1=none/\p.1≠X.env.locals/\p.1 ∉ X.fs/\∀v,p.2.data≠.cell v
 Ae:DZ X.prog X.w H s.heap
 len:σ.length=X.N.length
def Inv.kt(I:BE):KTb X.mg H:=I.ok.kt.un I.base
section
variable{X:Cx}{pins:LT}{σ:List (Option V)}{H H':Hp}{s:SD}{h':Heap}
def Cx.Ok.zP(ok:X.Ok)(e:X.base.get? b=some o):b ∉ X.fs:=fun hb=>by
 have:=(ok.HI.mem hb).1
 lia
def Inv.bs(I:BE):∀b o,X.base.get? b=some o->s.heap.get? b=some o/\H b=none:=fun b o e=>
 ⟨I.base.keep b o (I.ok.bs b o e).1 (I.ok.bs b o e).2 (I.ok.zP e) (I.ok.SK b o e),I.base.free b o (I.ok.bs b o e).1 (I.ok.bs b o e).2 (I.ok.SK b o e)⟩
def Inv.bk(I:BE):∀b o,X.base.get? b=some o->s.heap.get? b=some o:=fun b o e=>(I.bs b o e).1
def Inv.mod(I:BE):Mod X.K X.mg X.base:=I.ok.mod
def Inv.Fb(I:BE):X.K.In s.heap:=I.ok.mod.Mj.keeps I.bk
def Inv.lt(I:BE):X.env.locals<s.heap.objs.size:=let⟨_,hn,_⟩:=I.loc;hn.lt
def Inv.sz(I:BE):X.s₀.heap.objs.size<=s.heap.objs.size:=aQ I.ok.above (ay I.lt)
def Inv.AAS(I:BE){a:AD}(h:s.heap.objs.size<=a):a ∉ X.fs:=fun hb=>let⟨_,o,l,_⟩:=I.ok.HI.mem hb;absurd (aD (aH l) (aQ I.sz h)) (Nat.lt_irrefl _)
def Inv.Qu(I:BE):∀x c,X.env.cells.lookup x=some c->c≠X.env.locals:=fun x c e z=>by
 obtain⟨v,o,T,hd⟩:=I.cell x c e;obtain⟨m,⟨o',es,ep,l,M,_⟩,_⟩:=I.loc
 lia
def Inv.HI(I:BE):s.heap.FunFrames X.base X.outer:=(show ∀l,(∀b∈GG l,b∈X.fs)->X.s₀.heap.FunFrames X.base l->s.heap.FunFrames X.base l by
  intro l
  induction l with
  |nil=>intro _ _;trivial
  |cons env r U=>
   rintro T ⟨hk,⟨L,o,hf,hn,Z,hd⟩,Y⟩;have M:=T L (by unfold GG;grind);obtain⟨sl,e⟩:=I.base.slot L o Z (I.ok.Qi L M) M fun z=>I.ok.SG L z M;exact⟨hk,⟨L,_,hf,hn,e,hd⟩,U (fun b hb=>T b (by unfold GG;rw[(Sf),hf];exact aW _ hb)) Y⟩) X.outer (fun _ hb=>hb) I.ok.HI
def Inv.stack(I:BE):s.heap.FunFrames X.base X.stack:=by
 rcases I.ok.hW with e|⟨e,hf⟩
 .rw[e];exact I.HI
 .rw[e];obtain⟨m,hn,_⟩:=I.loc;exact .cons (by rw[I.ok.kind];decide) hf hn (Heap.get?_none_of_le (aQ I.ok.Rr I.ok.above)) I.HI
def Inv.NV(I:BE):∀b∈GG X.stack,b∈X.env.locals::X.fs:=fun b hb=>by
 rcases I.ok.hW with e|⟨e,hf⟩
 .grind
 .rw[e]at hb;unfold GG at hb;rw[(Sf),hf]at hb;exact hb
def Inv.R7(I:BE):∀b∈GG X.stack,H b=none:=fun b hb=>by
 rcases aO.mp (I.NV b hb) with e|hb
 .rw[e];exact I.free
 .obtain⟨_,o,l,_⟩:=I.ok.HI.mem hb;exact I.base.free b o l (I.ok.Qi b hb) fun z=>I.ok.SG b z hb
def Inv.step{t':Nat}{d':Drawn}{ch:ABF}(I:BE) (Y:OR) (keep:∀b o,b≠X.env.locals->b ∉ X.fs->b ∉ ch->s.heap.get? b=some o->H b=none->h'.get? b=some o) (slot:∀b o,b≠X.env.locals->b∈X.fs->b ∉ ch->s.heap.get? b=some o->H b=none->∃sl,h'.get? b=some {o with slots:=sl})(free:∀b o,b ∉ ch->s.heap.get? b=some o->H b=none->H' b=none) (there:∀b o,b ∉ ch->s.heap.get? b=some o->∃o',h'.get? b=some o') (Bi:∀b xs,H b=some Jl->H' b=some Jl)(FN:∀b o u,H b=some (.Eu o u)->H' b=some (.Eu o u))(GO:∀b ps,H b=some (.Ox ps)->∃more,H' b=some (.Ox (ps++more))) (GL:∀b xs o,b ∉ ch->H b=some Jl->s.heap.get? b=some o->h'.get? b=some o) (ns:∀m,s.heap.Ns X.env.locals m->h'.Ns X.env.locals m)(Ae:DZ X.prog X.w H' h')(hg:AllBare g'):Inv X pins σ H' {s with heap:=h',gens:=g',drawn:=d',toks:=t'}:=by
 have neL:∀b o,X.s₀.heap.get? b=some o->b≠X.env.locals:=fun b o e=>aJ (aD (aH e) I.ok.above);have T:∀b o,X.s₀.heap.get? b=some o->b ∉ X.ex->b ∉ ch:=fun b o e M hb=>by
  rcases(Y b hb).1 with z|z
  .exact M z
  .exact absurd (aD (aH e) z) (Nat.lt_irrefl _)
 have cellK:∀x c,X.env.cells.lookup x=some c->∀v,s.heap.IsCell c v->h'.IsCell c v:=fun x c e v ⟨o,ho,hd⟩=>by
  have U:c ∉ ch:=fun z=>(Y c z).2.2.1 x c e rfl;by_cases hc:c∈X.fs
  .obtain⟨sl,q⟩:=slot c o (I.Qu x c e) hc U ho (I.FV x c e);exact⟨_,q,hd⟩
  .exact⟨o,keep c o (I.Qu x c e) hc U ho (I.FV x c e),hd⟩
 refine⟨I.ok,I.os,hg,⟨fun b o e n hb M=>?_,fun b o e n hb M=>?_,fun b o e n M=>?_,fun b o e M=>?_,fun b xs e=>Bi b xs (I.base.Bi b xs e),fun b o xs e=>FN b o xs (I.base.FN b o xs e),fun b ps e=>?_,fun b xs o q e M=>GL b xs o (T b o e M) (I.base.Bi b xs q) (I.base.GL b xs o q e M)⟩,?_,fun x c e=>?_,?_,fun x c e=>?_,fun p hp=>?_,Ae,I.len⟩
 .exact keep b o (neL b o e) hb (T b o e M) (I.base.keep b o e n hb M) (I.base.free b o e n M)
 .obtain⟨sl,Z⟩:=I.base.slot b o e n hb M;obtain⟨sl',e2⟩:=slot b _ (neL b o e) hb (T b o e M) Z (I.base.free b o e n M);exact⟨sl',e2⟩
 .obtain⟨o',Z⟩:=I.base.there b o e M;exact free b o' (T b o e M) Z (I.base.free b o e n M)
 .obtain⟨o',Z⟩:=I.base.there b o e M;exact there b o' (T b o e M) Z
 .obtain⟨m1,Z⟩:=I.base.GO b ps e;obtain⟨m2,e2⟩:=GO b _ Z;exact⟨m1++m2,by rw[e2,Array.append_assoc]⟩
 .obtain⟨m,hn,hl⟩:=I.loc;refine⟨m,ns m hn,fun i x v Z e2 e3=>?_⟩;obtain⟨u,r,l⟩:=hl i x v Z e2 e3;refine⟨u,r,?_⟩;rcases l with l|⟨k,c,e,z⟩
  .exact .inl l
  .exact .inr ⟨k,c,e,cellK x c e _ z⟩
 .obtain⟨v,z⟩:=I.cell x c e;exact⟨v,cellK x c e v z⟩
 .obtain⟨m,⟨o,_,_,ho,_⟩,_⟩:=I.loc;exact free _ o (fun z=>(Y _ z).2.1 rfl) ho I.free
 .obtain⟨v,o,ho,hd⟩:=I.cell x c e;exact free c o (fun z=>(Y c z).2.2.1 x c e rfl) ho (I.FV x c e)
 .obtain⟨e,n,ne,nf,d⟩:=I.pin p hp;have U:p.1 ∉ ch:=fun z=>(Y p.1 z).2.2.2 p hp rfl;exact⟨keep p.1 p.2 ne nf U e n,free p.1 p.2 U e n,ne,nf,d⟩
def Inv.un(I:BE)(u:Un X.fs [] H H' s.heap h')(Ae:DZ X.prog X.w H' h'):Inv X pins σ H' {s with heap:=h',toks:=t'}:=by
 obtain⟨m,⟨o,es,ep,U,r⟩,_⟩:=id I.loc;obtain⟨sl,Z⟩:=u.any U I.free By;exact I.step (ch:=[]) (fun _ z=>nomatch z) (fun b o _ hb _ e n=>u.keep b o e n hb By) (fun b o _ hb _ e n=>u.slot b o e n hb By) (fun b o _ e n=>u.free b o e n By) (fun b o _ e=>u.there b o e By) u.Bi u.FN u.GO (fun b xs o _ q e=>u.GL b xs o q e By) (fun m' hm=>by
  obtain⟨o',M,T,l,Y⟩:=hm;rw[U]at l;cases l;exact⟨_,M,T,Z,Y⟩) Ae I.bare
def Inv.call(I:BE)(u:Un (GG X.stack) ch H H' s.heap h')(Ae:DZ X.prog X.w H' h')(hg:AllBare g') (T:OR):Inv X pins σ H' {s with heap:=h',gens:=g',drawn:=d',toks:=t'}:=by
 obtain⟨m,⟨o,es,ep,ho,r⟩,_⟩:=id I.loc;obtain⟨sl,U⟩:=u.any ho I.free fun z=>by lia
 exact I.step T (fun b o U hb l e n=>u.keep b o e n (fun z=>(aO.mp (I.NV b z)).elim U hb) l) (fun b o _ _ l e n=>u.any e n l) (fun b o l e n=>u.free b o e n l) (fun b o l e=>u.there b o e l) u.Bi u.FN u.GO (fun b xs o l q e=>u.GL b xs o q e l) (fun m' hm=>by
  obtain⟨o',Y,Z,M,r'⟩:=hm;rw[ho]at M;cases M;exact⟨_,Y,Z,U,r'⟩) Ae hg
def Inv.turned(I:BE)(k:∀b o,b≠it->s.heap.get? b=some o->h'.get? b=some o)(hn:H it=none)(T:it≠X.env.locals) (Z:it∈X.ex\/X.s₀.heap.objs.size<=it)(Y:∀x c,X.env.cells.lookup x=some c->c≠it)(U:∀p∈X.pn++pins,p.1≠it):Inv X pins σ H {s with heap:=h',toks:=t'}:=by
 refine I.step (ch:=[it]) (fun b hb=>?_) (fun b o _ _ l e _=>by grind) (fun b o _ _ l e _=>⟨o.slots,k b o (fun z=>l (by simp[z])) e⟩) (fun _ _ _ _ n=>n)
  (fun b o l e=>by grind) (fun _ _ e=>e) (fun _ _ _ e=>e) (fun b ps e=>by simp_all) (fun b xs o l _ e=>by grind) (fun m hm=>?_) (fun b u e=>?_) I.bare
 .grind
 .obtain⟨o,es,ep,M,r⟩:=hm;exact⟨o,es,ep,k _ o (Ne.symm T) M,r⟩
 .refine(I.Ae b u e).J9 (fun c v l q=>k c v ?_ q) (fun _ q=>q) fun _ _ q=>q
  lia
def Inv.tok(I:BE) t:Inv X pins σ H {s with toks:=t}:=I.un Un.refl I.Ae
def Inv.kept(I:BE)(k:∀b u,s.heap.get? b=some u->h'.get? b=some u):Inv X pins σ H {s with heap:=h',toks:=t'}:=I.un (Un.kept k) (I.Ae.kept k)
def Inv.laid{a:AD}(I:BE)(k:∀b u,s.heap.get? b=some u->h'.get? b=some u)(l:s.heap.objs.size<=a)(new:C4 X.prog X.w (upd H a o) h' a o):Inv X pins σ (upd H a o) {s with heap:=h',toks:=t'}:=I.un (Un.laid k l (I.Ae.fresh l)) (I.Ae.laid k l new)
def Inv.write(I:BE)(M:iY (H x))(T:e=x\/H e=some (.own x))(k:∀b u,b≠e->s.heap.get? b=some u->h'.get? b=some u)(l:∃u,h'.get? e=some u) (new:C4 X.prog X.w (upd H x o) h' x o):Inv X pins σ (upd H x o) {s with heap:=h',toks:=t'}:=I.un (Un.write M T k l) (I.Ae.write M T k l new)
def Inv.Yg(I:BE)(h:∀p∈l,s.heap.get? p.1=some p.2/\H p.1=none/\p.1≠X.env.locals/\p.1 ∉ X.fs/\∀v,p.2.data≠.cell v):Inv X l σ H s :=
 ⟨I.ok,I.os,I.bare,I.base,I.loc,I.cell,I.free,I.FV,fun p M=>(aX.mp M).elim (fun z=>I.pin p (List.mem_append_left _ z)) (h p),I.Ae,I.len⟩
def P6{N:AAy}(l:N.Nodup){i j:Nat}(a:N[i]? = some x)(b:N[j]? = some x):i=j:=by
 obtain⟨U,M⟩:=aF.mp a;obtain⟨T,I⟩:=aF.mp b;exact(List.getElem_inj l).mp (M.trans I.symm)
def UP{M:Model}{A:F0d}{i:Nat}{x:Str}{v:V}{u:VL}{Q:Unit->SD->Prop}(I:BE)(hN:X.N.Nodup)(hi:X.N[i]? = some x)(T:Loc X.env.scope x)(r:RelV v u) (h:∀s',Inv X pins (σ.set i (some v)) H s'->(∃a,Heap.SameBut a s.heap s'.heap/\(a=X.env.locals\/X.env.cells.lookup x=some a))->Q () s')(hf:X.fn x=true\/X.env.scope.names.lookup x=some .local:=by first|exact .inl rfl|exact .inr rfl|assumption):wpAny M A (storeName X.env x u) Q E s:=by
 obtain⟨m,hn,hl⟩:=id I.loc;have hcls:(X.env.scope.kind==.class||(X.env.scope.kind==.module&&X.env.locals != X.env.globals))=false:=by rw[I.ok.kind];rfl
 have hiσ:i<σ.length:=by rw[I.len];exact(aF.mp hi).1
 have Qu:=I.Qu;have tracked:∀ {a:AD} {h':Heap},(∃o,s.heap.get? a=some o/\H a=none)->Heap.SameBut a s.heap h'->DZ X.prog X.w H h':=fun {a h'} ha l b ob e=>by
  obtain⟨_,_,Z⟩:=ha;refine(I.Ae b ob e).J9 (fun c w' Y q=>(l.2 c ?_).trans q) (fun _ q=>q) fun _ _ q=>q;rintro rfl;rcases Y with rfl|Y
  .rw[Z]at e;cases e
  .rw[Z]at Y;cases Y
 rcases T with hk|hk
 .refine wpAny_storeName_local hk hn (fun h' hn' l=>?_) hcls;obtain⟨oL,_,_,hoL,_⟩:=id hn;refine h _ ⟨I.ok,I.os,I.bare,⟨fun b o e n hb T=>?_,fun b o e n hb T=>?_,I.base.free,fun b o e T=>?_,I.base.Bi,I.base.FN,I.base.GO,fun b xs o q e T=>(l.2 b bY).trans (I.base.GL b xs o q e T)⟩,⟨_,hn',fun j y v' U e2 e3=>?_⟩,fun y c e=>?_,I.free,I.FV,fun p hp=>?_,tracked ⟨oL,hoL,I.free⟩ l,by simpa using I.len⟩ ⟨_,l,.inl rfl⟩
  .exact(l.2 b bY).trans (I.base.keep b o e n hb T)
  .obtain⟨sl,U⟩:=I.base.slot b o e n hb T;exact⟨sl,(l.2 b bY).trans U⟩
  .obtain⟨o',U⟩:=I.base.there b o e T;exact⟨o',(l.2 b bY).trans U⟩
  .by_cases hj:j=i
   .subst hj;rw[hi]at U;cases U;rw[List.getElem?_set_self hiσ]at e2;cases e2;exact⟨u,r,.inl ⟨hk,by simp⟩⟩
   .rw[List.getElem?_set_ne (Ne.symm hj)]at e2;obtain⟨u',r',q⟩:=hl j y v' U e2 e3;refine⟨u',r',?_⟩;rcases q with ⟨k,e⟩|⟨k,c,e,z⟩
    .refine .inl ⟨k,?_⟩;have:y≠x:=fun e=>hj (P6 hN U (e ▸ hi));simp[this,e]
    .exact .inr ⟨k,c,e,z.sameBut l (Qu y c e)⟩
  .obtain⟨w',z⟩:=I.cell y c e;exact⟨w',z.sameBut l (Qu y c e)⟩
  .obtain⟨e,n,ne,nf,d⟩:=I.pin p hp;exact⟨(l.2 p.1 ne).trans e,n,ne,nf,d⟩
 .have hfn:X.fn x=true:=by
   rcases hf with z|z
   .exact z
   .rw[z]at hk;cases hk
  obtain⟨c,Y⟩:=I.ok.has x (.inl hk);obtain⟨w',z⟩:=I.cell x c Y;refine wpAny_storeName_cell I.ok.kind hk Y z (fun h' hc' l=>?_);obtain⟨oc,hoc,hocd⟩:=id z;refine h {s with heap:=h'} ⟨I.ok,I.os,I.bare,⟨fun b o e n hb T=>?_,fun b o e n hb T=>?_,I.base.free,fun b o e T=>?_,I.base.Bi,I.base.FN,I.base.GO,fun b xs o q e T=>(l.2 b (aJ (aD (aH e) (I.ok.XW x c hfn Y)))).trans (I.base.GL b xs o q e T)⟩,⟨m,hn.sameBut l (Ne.symm (Qu x c Y)),fun j y v' U e2 e3=>?_⟩,fun y c' e=>?_,I.free,I.FV,fun p hp=>?_,tracked ⟨oc,hoc,I.FV x c Y⟩ l,by simpa using I.len⟩ ⟨c,l,.inr Y⟩
  .exact(l.2 b (aJ (aD (aH e) (I.ok.XW x c hfn Y)))).trans (I.base.keep b o e n hb T)
  .obtain⟨sl,U⟩:=I.base.slot b o e n hb T;exact⟨sl,(l.2 b (aJ (aD (aH e) (I.ok.XW x c hfn Y)))).trans U⟩
  .obtain⟨o',U⟩:=I.base.there b o e T;exact⟨o',(l.2 b (aJ (aD (aH e) (I.ok.XW x c hfn Y)))).trans U⟩
  .by_cases hj:j=i
   .subst hj;rw[hi]at U;cases U;rw[List.getElem?_set_self hiσ]at e2;cases e2;exact⟨u,r,.inr ⟨.inl hk,c,Y,hc'⟩⟩
   .rw[List.getElem?_set_ne (Ne.symm hj)]at e2;obtain⟨u',r',q⟩:=hl j y v' U e2 e3;refine⟨u',r',?_⟩;rcases q with q|⟨k,c',e,z'⟩
    .exact .inl q
    .refine .inr ⟨k,c',e,z'.sameBut l ?_⟩;rintro rfl;exact hj (P6 hN U (I.ok.inj _ _ _ e Y ▸ hi))
  .by_cases hcc:c'=c
   .subst hcc;exact⟨_,hc'⟩
   .obtain⟨w2,z2⟩:=I.cell y c' e;exact⟨w2,z2.sameBut l hcc⟩
  .obtain⟨e,n,ne,nf,d⟩:=I.pin p hp;refine⟨(l.2 p.1 ?_).trans e,n,ne,nf,d⟩;intro q;rw[q,hoc]at e;exact d w' (by rw[<-(af e)];exact hocd)
def J4(I:BE)(T:X.N.Nodup)(hi:X.N[i]? = some x)(l:Loc X.env.scope x)(r:RelV v u) (h:∀s',Inv X pins (σ.set i (some v)) H s'->Q () s')(hf:X.fn x=true\/X.env.scope.names.lookup x=some .local:=by first|exact .inl rfl|exact .inr rfl|assumption):wpAny M A (storeName X.env x u) Q E s :=
 UP I T hi l r (fun s' U _=>h s' U) hf
def Inv.nc(I:BE)(M:s'.os=s.os)(u:Un (GG X.stack) ch H H' s.heap s'.heap)(Ae:DZ X.prog X.w H' s'.heap)(hg:AllBare s'.gens) (l:OR):Inv X pins σ H' s':=by
 obtain⟨h',U,Y,T,o'⟩:=s';subst M;exact I.call u Ae hg l
end
abbrev XK:=VL->Option AD->Hp->Prop
abbrev St:=List (Option V)
abbrev VK:=V->Hp->Prop
abbrev TE:=St->Hp->VK->Prop
abbrev TT:=St->Hp->(Bool->Hp->Prop)->Prop
abbrev TA:=St->Hp->(List V->Hp->Prop)->Prop
structure Ends where
 nx:St->Hp->Prop
 rt:VK
 bk:St->Hp->Prop:=fun _ _=>False
 ct:St->Hp->Prop:=fun _ _=>False
abbrev TS:=Ends->St->Hp->Prop
def EP(X:Cx)(pins:LT)(σ:St)(Q:VK)(u:VL)(s':SD):Prop:=∃v H',Inv X pins σ H' s'/\RelV v u/\Q v H'
def TP(X:Cx)(pins:LT)(σ:St)(Q:Bool->Hp->Prop)(b:Bool)(s':SD):Prop:=∃H',Inv X pins σ H' s'/\Q b H'
def AP(X:Cx)(pins:LT)(σ:St)(Q:List V->Hp->Prop)(us:AAn)(s':SD):Prop:=∃vs H',Inv X pins σ H' s'/\Vals vs us/\Q vs H'
def SP(X:Cx)(pins:LT)(D:Ends)(f:Flow)(s':SD):Prop :=
 match f with
 |.next=>∃σ' H',Inv X pins σ' H' s'/\D.nx σ' H'
 |.brk=>∃σ' H',Inv X pins σ' H' s'/\D.bk σ' H'
 |.cont=>∃σ' H',Inv X pins σ' H' s'/\D.ct σ' H'
 |.ret u=>∃v σ' H',Inv X pins σ' H' s'/\RelV v u/\D.rt v H'
def PE(X:Cx)(e:Expr)(t:TE):Prop :=
 ∀pins s (σ:St) H Q,Inv X pins σ H s->t σ H Q->wpAny B7 X.A (eval e X.env) (EP X pins σ Q) X.xe s
def PT(X:Cx)(e:Expr)(t:TT):Prop :=
 ∀pins s (σ:St) H Q,Inv X pins σ H s->t σ H Q->wpAny B7 X.A (isTrue e X.env (eval e X.env)) (TP X pins σ Q) X.xe s
def PW(X:Cx)(e:Expr)(t:TT):Prop :=
 ∀whole pins s (σ:St) H Q,Inv X pins σ H s->t σ H Q->wpAny B7 X.A (isTrue e X.env whole) (TP X pins σ Q) X.xe s
def PW.pt(h:PW X e t):PT X e t:=h _
def PA(X:Cx)(es:AA0)(t:TA):Prop :=
 ∀pos pins s (σ:St) H Q,Inv X pins σ H s->t σ H Q->wpAny B7 X.A (spliced (backTo pos ON)) (AP X pins σ Q) X.xe s
def PS(X:Cx)(st:Stmt)(t:TS):Prop :=
 ∀pins s (σ:St) H D,Inv X pins σ H s->t D σ H->wpAny B7 X.A (exec st X.env) (SP X pins D) X.xe s
def HC(X:Cx)(st:ABG)(t:TS):Prop :=
 ∀pins s (σ:St) H D,Inv X pins σ H s->t D σ H->wpAny B7 X.A (execs st X.env) (SP X pins D) X.xe s
def Ay{t:Sem α}(h:wpAny M A t Q E s)(l:∀a s,Q a s->I a s):wpAny M A t I E s:=aU h l fun _ _ x=>x
section
variable{X:Cx}
def HV(i:Nat):TE:=fun σ H Q=>∃v,σ[i]? = some (some v)/\Q v H
def tC(v:V):TE:=fun _ H Q=>Q v H
def uA{pos}(hN:X.N[i]? = some x)(Y:tR X.env.scope x)(hd:Fk=false:=by decide)(T:(x==("__classdict__"))=false:=by decide):PE X (.Name x pos) (HV i):=by
 rintro pins s σ H Q I ⟨v,e,h⟩;obtain⟨m,hn,Z⟩:=I.loc;obtain⟨u,r,l⟩:=Z i x v hN e Y;have fin:EP X pins σ Q u s:=⟨v,H,I,r,h⟩;rcases l with ⟨hk,hm⟩|⟨hk,c,U,M⟩
 .exact wpAny_Name (wpAny_loadName_local I.ok.kind hk hn hm fin) hd
 .rcases hk with hk|hk
  .exact wpAny_Name (wpAny_loadName_cell I.ok.kind hk U M fin) hd
  .exact wpAny_Name (wpAny_loadName_free I.ok.kind hk U M fin T) hd
def Bu:PE X (.Constant (.int i) j pos) (tC (.int i)):=fun _ _ _ H _ I h=>wpAny_Constant_int ⟨.int i,H,I.tok _,⟨_,rfl⟩,h⟩
def yE:PE X (.Constant (.bool b) j pos) (tC (.bl b)):=fun _ _ _ H _ I h=>Constant_bool ⟨.bl b,H,I,rfl,h⟩
def uG:PE X (.Constant .none j pos) (tC .BV):=fun _ _ _ H _ I h=>Constant_none ⟨.BV,H,I,rfl,h⟩
def tu:PE X (.Constant (.str x) j pos) (tC (.str x)):=fun _ _ _ H _ I h=>Calls.Constant_str ⟨.str x,H,I.tok _,⟨_,rfl⟩,h⟩
def Gl(X:Cx)(x:Str):Prop:=X.env.kindOf x=some .globalImplicit
def IH{σ:St}(I:BE)(hg:Gl X x)(hm:X.mg x=some u)(h:Q u s) (hd:Fk=false:=by decide):wpAny B7 X.A (eval (.Name x pos) X.env) Q E s :=
 Calls.Name_function_global I.ok.kind hg (Calls.loadGlobal_global (by rw[I.ok.glob];exact I.mod.glob.keeps I.bk) hm h) hd
def Fi{E}{σ:St}{pos}(I:BE)(hg:Gl X x)(hm:X.mg x=none)(l:bootBuiltins x=some u)(h:Q u s) (hn:x ≠ "__name__":=by decide)(hd:Fk=false:=by decide):wpAny B7 X.A (eval (.Name x pos) X.env) Q E s:=let⟨mb,T,M⟩:=I.mod.blt;Calls.Name_function_global I.ok.kind hg (Calls.loadGlobal_builtin (by rw[I.ok.glob];exact I.mod.glob.keeps I.bk) hm (by rw[I.ok.blt];exact T.keeps I.bk) ((M x hn).trans l) h) hd
def Gs(hg:Gl X x)(hm:X.mg x=some u)(r:RelV v u)(hd:Fk=false:=by decide):PE X (.Name x pos) (tC v) :=
 fun _ _ _ H _ I h=>IH I hg hm ⟨v,H,I,r,h⟩ hd
def SA{pos}(hg:Gl X x)(hm:X.mg x=none)(l:bootBuiltins x=some u)(r:RelV v u)(hn:x ≠ "__name__":=by decide)(hd:Fk=false:=by decide):PE X (.Name x pos) (tC v) :=
 fun _ _ _ H _ I h=>Fi I hg hm l ⟨v,H,I,r,h⟩ hn hd
variable{a b:Expr}{ta tb:TE}{pos:Pos}
def tB(t:TE):TT:=fun σ H Q=>t σ H fun x l=>∃c,x=.bl c/\Q c l
def wJ(h : PE X e t)(he : ∀ whole,isTrue e X.env whole = (do let v <- whole; standAt e.pos; holding [v] (truthy v)):=by intro _; rfl):PT X e (tB t):=by
  intro pins s σ H Q I hw
  refine isTrue_plain (Ay (h pins s σ H _ I hw) fun v s1 ⟨x,H1,I1,r1,q1⟩ => ?_) (he _)
  obtain ⟨d,rfl,q⟩:=q1
  cases r1
  exact bQ ⟨H1,I1,q⟩
variable{tA tB':TT}{rest:AA0}
def zX(t u:TT):TT:=fun σ H Q=>t σ H fun c l=>if c=true then u σ l Q else Q false l
def tOr(t u:TT):TT:=fun σ H Q=>t σ H fun c l=>if c=true then Q true l else u σ l Q
def zd(t:TT):TT:=fun σ H Q=>t σ H fun c l=>Q (!c) l
def pC(ha:PT X a tA):PW X (.BoolOp .And [a] pos) tA:=by
 intro l pins s σ H Q I h;refine isTrue_and (Ay (ha pins s σ H Q I h) fun c s1 e=>?_);cases c with
 |true=>exact isTrue_and_nil e
 |false=>exact e
def uh(ha:PT X a tA):PW X (.BoolOp .Or [a] pos) tA:=by
 intro l pins s σ H Q I h;refine isTrue_or (Ay (ha pins s σ H Q I h) fun c s1 e=>?_);cases c with
 |false=>exact isTrue_or_nil e
 |true=>exact e
def vx(ha:PT X a tA)(hb:PW X (.BoolOp .And (b::rest) pos) tB'):PW X (.BoolOp .And (a::b::rest) pos) (zX tA tB'):=by
 intro U pins s σ H Q I h;refine isTrue_and (Ay (ha pins s σ H _ I h) fun c s1 ⟨T,M,l⟩=>?_);cases c with
 |true=>exact hb U pins s1 σ T Q M l
 |false=>exact⟨T,M,l⟩
def w6(ha:PT X a tA)(hb:PW X (.BoolOp .Or (b::rest) pos) tB'):PW X (.BoolOp .Or (a::b::rest) pos) (tOr tA tB'):=by
 intro U pins s σ H Q I h;refine isTrue_or (Ay (ha pins s σ H _ I h) fun c s1 ⟨T,M,l⟩=>?_);cases c with
 |true=>exact⟨T,M,l⟩
 |false=>exact hb U pins s1 σ T Q M l
def sW(ha:PT X a tA):PT X (.UnaryOp .Not a pos) (zd tA):=fun pins s σ H Q I h=>isTrue_not (ha pins s σ H _ I h)
def ye(ta tb:TE):TE:=fun σ H Q=>ta σ H fun x l=>∃c,x=.bl c/\if c=true then tb σ l Q else Q (.bl false) l
def wk(ta:TE):TE:=fun σ H Q=>ta σ H fun x l=>∃c,x=.bl c/\Q (.bl (!c)) l
def wL(h:PE X a t):PE X (.BoolOp op [a] pos) t:=fun pins s σ H Q I l=>BoolOp_one (h pins s σ H Q I l)
def ur(ha:PE X a ta)(hb:PE X (.BoolOp .And (b::rest) pos) tb):PE X (.BoolOp .And (a::b::rest) pos) (ye ta tb):=by
 intro pins s σ H Q I h;refine BoolOp_and (Ay (ha pins s σ H _ I h) fun v s1 ⟨x,T,M,U,l⟩=>?_);obtain⟨c,rfl,l⟩:=l;cases U;refine bQ ?_;cases c with
 |true=>exact hb pins s1 σ T Q M l
 |false=>exact⟨.bl false,T,M,rfl,l⟩
def tT(ha:PE X a ta):PE X (.UnaryOp .Not a pos) (wk ta):=by
 intro pins s σ H Q I h;refine UnaryOp_ (Ay (ha pins s σ H _ I h) fun v s1 ⟨x,U,T,M,l⟩=>?_);obtain⟨c,rfl,l⟩:=l;cases M;exact not_of (bQ ⟨.bl _,U,T,rfl,l⟩)
end
def Am(K:Fg)(H:Hp)(a:AD)(xs:ABC):Prop :=
 Rd H a Tl \/
  ∃(o:Obj) (l:Array VL) (n:Nat),K.lookup a=some o/\o.cls=.type "list" /\ o.dict=none/\o.data=.seq l n/\l.size<=sizeLine/\Vals xs l.toList
def A4(K:Fg)(H:Hp)(a:AD)(xs:ABC):Prop :=
 Rd H a Jl \/
  ∃(o:Obj) (l:Array VL) (n:Nat),K.lookup a=some o/\o.cls=.type "tuple" /\ o.data=.seq l n/\l.size<=sizeLine/\Vals xs l.toList
def Wx:VL->Option V
 |.none=>some .BV
 |.bool b=>some (.bl b)
 |.int i _=>some (.int i)
 |.str x _=>some (.str x)
 |.bytes b _=>some (.NA b)
 |.float b _=>some (.Zb b)
 |.ref a=>some KM
 |.type n=>some (.ty n)
 |_=>none
def RelV.abs(r:RelV x u):Wx u=some x:=by
 cases x with
 |BV=>cases r;rfl
 |bl _=>cases r;rfl
 |int _=>obtain⟨t,rfl⟩:=r;rfl
 |str _=>obtain⟨t,rfl⟩:=r;rfl
 |NA _=>obtain⟨t,rfl⟩:=r;rfl
 |Zb _=>obtain⟨t,rfl⟩:=r;rfl
 |ref _=>cases r;rfl
 |ty _=>cases r;rfl
def RelV.inj(r:RelV x u)(q:RelV y u):x=y:=af (r.abs.symm.trans q.abs)
theorem Vals.inj:∀ {xs ys} {us},Vals xs us->Vals ys us->xs=ys
 |_,_,_,.nil,.nil=>rfl
 |_,_,_,.cons r t,.cons I l=>by rw[r.inj I,Vals.inj t l]
section
variable{X:Cx}{pins:LT}{σ:St}{H:Hp}{s:SD}{a:AD}{xs ys:ABC}
def Am.of{K}(h:H a=some Tl):Am K H a xs:=.inl (.inl h)
def A4.of{K}(h:H a=some Jl):A4 K H a xs:=.inl (.inl h)
def Inv.list(I:BE)(h:Am X.K H a xs):∃l ,Vals xs l/\PlainL s.heap a l.toArray/\xs.length<=sizeLine:=by
 rcases h with h|⟨o,l,n,hk,T,hd,M,U,r⟩
 .obtain⟨z,l,n,r,e⟩:=h.ok I.Ae;exact⟨l,r,⟨_,n,e,rfl,rfl,rfl⟩,z⟩
 .refine⟨l.toList,r,⟨o,n,I.Fb a o hk,T,hd,by simpa using M⟩,?_⟩;have e:=r.length
  grind
def Inv.tuple(I:BE)(h:A4 X.K H a xs):∃l ,Vals xs l/\IsTup s.heap a l.toArray/\xs.length<=sizeLine:=by
 rcases h with h|⟨o,l,n,hk,T,M,U,r⟩
 .obtain⟨z,l,r,p⟩:=h.ok I.Ae
  grind
 .refine⟨l.toList,r,⟨o,I.Fb a o hk,T,n,by simpa using M⟩,?_⟩;have e:=r.length
  grind
def Inv.Xf(I:BE)(h:Am X.K H a xs)(h':Am X.K H a ys):xs=ys:=by
 obtain⟨Y,r,⟨o,n,e,_,_,d⟩,_⟩:=I.list h;obtain⟨l,U,⟨o',n',M,_,_,T⟩,_⟩:=I.list h';rw[e]at M;cases M;rw[d]at T
 injection T with Z _
 have:=by simpa using ae Array.toList Z
 subst this;exact r.inj U
def Inv.UT(I:BE)(h:A4 X.K H a xs)(h':A4 X.K H a ys):xs=ys:=by
 obtain⟨Y,r,⟨o,e,_,n,d⟩,_⟩:=I.tuple h;obtain⟨l,U,⟨o',M,_,n',T⟩,_⟩:=I.tuple h';rw[e]at M;cases M;rw[d]at T
 injection T with Z _
 have:=by simpa using ae Array.toList Z
 subst this;exact r.inj U
end
abbrev Cx.Ft(X:Cx)(E:VL->SD->Prop):Cx:={X with xe:=E}
abbrev Cx.Eh(X:Cx):Cx:=X.Ft fun _ _=>False
def Cx.Ok.Ft{X:Cx}(ok:X.Ok) E:(X.Ft E).Ok :=
 ⟨ok.mod,ok.kind,ok.glob,ok.blt,ok.above,ok.inj,ok.has,ok.XW,ok.hd,ok.frames,ok.hW,ok.wG,ok.bs,ok.Rr,ok.SK,ok.SG,ok.HI,ok.Qi,ok.kt⟩
def Cx.Ok.DM{X:Cx}(ok:(X.Ft E).Ok):X.Ok :=
 ⟨ok.mod,ok.kind,ok.glob,ok.blt,ok.above,ok.inj,ok.has,ok.XW,ok.hd,ok.frames,ok.hW,ok.wG,ok.bs,ok.Rr,ok.SK,ok.SG,ok.HI,ok.Qi,ok.kt⟩
section
variable{X:Cx}{pins:LT}{σ:St}{H:Hp}{s:SD}{E:AAo}
def Inv.Ft(I:BE) E:Inv (X.Ft E) pins σ H s:=⟨I.ok.Ft E,I.os,I.bare,I.base,I.loc,I.cell,I.free,I.FV,I.pin,I.Ae,I.len⟩
def Inv.DM(I:Inv (X.Ft E) pins σ H s):Inv X pins σ H s:=⟨I.ok.DM,I.os,I.bare,I.base,I.loc,I.cell,I.free,I.FV,I.pin,I.Ae,I.len⟩
def SP.DM(h:SP (X.Ft E) pins D f s'):SP X pins D f s':=by
 cases f with
 |next=>obtain⟨σ',H',I,q⟩:=h;exact⟨σ',H',I.DM,q⟩
 |brk=>obtain⟨σ',H',I,q⟩:=h;exact⟨σ',H',I.DM,q⟩
 |cont=>obtain⟨σ',H',I,q⟩:=h;exact⟨σ',H',I.DM,q⟩
 |ret u=>obtain⟨v,σ',H',I,r,q⟩:=h;exact⟨v,σ',H',I.DM,r,q⟩
def HC.Eh{st}(h:HC X.Eh st t):HC X st t:=fun pins s σ H D I l=>
 aU (h pins s σ H D (I.Ft _) l) (fun _ _ q=>q.DM) fun _ _ z=>by lia
end
section
variable{X:Cx}{st:Stmt}{rest:ABG}{t u:TS}{e:Expr}{te:TE}{pos:Pos}
def x9:TS:=fun D σ H=>D.nx σ H
def uS(t u:TS):TS:=fun D σ H=>t {D with nx:=u D} σ H
def FJ:HC X [] x9:=fun _ _ σ H _ I h=>wpAny_execs_nil ⟨σ,H,I,h⟩
def Ai(M:PS X st t)(l:HC X rest u):HC X (st::rest) (uS t u):=by
 intro pins s σ H D I h;refine wpAny_execs_cons (Ay (M pins s σ H _ I h) fun f s1 q=>?_);cases f with
 |next=>
  obtain⟨σ',H',T,q⟩:=q;exact l pins s1 σ' H' D T q
 |ret v=>exact q
 |brk=>exact q
 |cont=>exact q
def A8(l:PS X st t):HC X [st] t:=by
 intro pins s σ H D I h;refine wpAny_execs_cons (Ay (l pins s σ H D I h) fun f s1 q=>?_);cases f with
 |next=>exact wpAny_execs_nil q
 |ret v=>lia
 |brk=>lia
 |cont=>lia
def yh:TS:=fun D σ H=>D.ct σ H
def YE:PS X (.Continue pos) yh:=fun _ _ σ H _ I h=>wpAny_Continue ⟨σ,H,I,h⟩
def Inv.quiet{σ:St}(I:BE):interactive X.env=false:=by simp[interactive,I.ok.kind]
def Ry(te:TE):TS:=fun D σ H=>te σ H fun _ l=>D.nx σ l
def II(T:PE X e te)(M:swapsWith e none pos.line X.env=pure false:=by rfl):PS X (.Expr e pos) (Ry te):=fun pins s σ H D I h=>wpAny_Expr_any (Ay (T pins s σ H _ I h) fun v s1 ⟨x,Y,U,Z,l⟩=>⟨σ,Y,U,l⟩) I.quiet M
def AAT(te:TE):TS:=fun D σ H=>te σ H D.rt
def Ds(T:PE X e te):PS X (.Return (some e) pos) (AAT te):=fun pins s σ H D I h=>wpAny_Return_some (Ay (T pins s σ H _ I h) fun v s1 ⟨x,Y,U,l,M⟩=>⟨x,σ,Y,U,l,M⟩)
def AAP(c:TT)(t u:TS):TS:=fun D σ H=>c σ H fun b l=>if b=true then t D σ l else u D σ l
def IY(Y:PT X c U)(ha:HC X a t)(hb:HC X b u):PS X (.If c a b pos) (AAP U t u):=by
 intro pins s σ H D I h;refine wpAny_If (Ay (Y pins s σ H _ I h) fun d s1 ⟨T,M,l⟩=>?_);cases d with
 |true=>exact ha pins s1 σ T D M l
 |false=>exact hb pins s1 σ T D M l
def sU:TS:=fun _ _ _=>False
def jm:PS X st sU:=fun _ _ _ _ _ _ h=>h.elim
end
abbrev TG:=V->St->Hp->(St->Hp->Prop)->Prop
abbrev dh:=List V->St->Hp->(St->Hp->Prop)->Prop
def PG(X:Cx)(target:Expr)(t:TG):Prop :=
 ∀pins s (σ:St) H v u Q,Inv X pins σ H s->RelV v u->t v σ H Q ->
  wpAny B7 X.A (assign target X.env u) (fun _ s'=>∃σ' H',Inv X pins σ' H' s'/\Q σ' H') X.xe s
def nV(X:Cx)(ts:AA0)(t:dh):Prop :=
 ∀pins s (σ:St) H vs us Q,Inv X pins σ H s->Vals vs us->t vs σ H Q ->
  wpAny B7 X.A (assignInOrder ((assignEach ts X.env).map (·.2)) us) (fun _ s'=>∃σ' H',Inv X pins σ' H' s'/\Q σ' H') X.xe s
abbrev jW:=V->V->V->Hp->(Hp->Prop)->Prop
def jF(X:Cx)(t:jW):Prop :=
 ∀pins s (σ:St) H o i v l I u Q,Inv X pins σ H s->RelV o l->RelV i I->RelV v u->t o i v H Q ->
  wpAny B7 X.A (setItem l I u) (fun _ s'=>∃H',Inv X pins σ H' s'/\Q H') X.xe s
section
variable{X:Cx}{pos:Pos}
def Ct(i:Nat):TG:=fun v σ H Q=>Q (σ.set i (some v)) H
def Dj(M:X.N.Nodup)(hi:X.N[i]? = some x)(l:Loc X.env.scope x)(hf:X.fn x=true\/X.env.scope.names.lookup x=some .local:=by first|exact .inl rfl|exact .inr rfl|assumption):PG X (.Name x pos) (Ct i):=fun pins s σ H v u Q I r h=>wpAny_assign_Name (J4 I M hi l r (fun s' T=>⟨_,H,T,h⟩) hf)
def cF:dh:=fun vs σ H Q=>vs=[]/\Q σ H
def Oa(t:TG)(u:dh):dh:=fun vs σ H Q=>∃v r,vs=v::r/\t v σ H fun σ' H'=>u r σ' H' Q
def Lq:nV X [] cF:=by
 rintro pins s σ H vs us Q I r ⟨e,h⟩;exact assignInOrder_nil ⟨σ,H,I,h⟩
def EY(Z:PG X e t)(Y:nV X es u) (U:(assignEach cr X.env).map (·.2)=assign e X.env::(assignEach es X.env).map (·.2):=by rfl):nV X cr (Oa t u):=by
 rintro pins s σ H vs us Q I r ⟨v,vr,e1,h⟩;subst e1;cases r with
 |cons r M=>
  rw[U];exact assignInOrder_cons (Ay (Z pins s σ H _ _ _ I r h) fun _ s1 ⟨l,H1,I1,T⟩=>Y pins s1 l H1 _ _ Q I1 M T)
def b9(K:Fg)(n:Nat)(t:dh):TG:=fun v σ H Q=>∃a xs,v=.ref a/\A4 K H a xs/\xs.length=n/\t xs σ H Q
def NQ{k}(hc:Rs)(h:nV X es t) (hn:(assignEach es X.env).length=n:=by rfl)(l:(assignEach es X.env).findIdx? Hq=none:=by rfl):PG X (.Tuple es k pos) (b9 X.K n t):=by
 rintro pins s σ H v u Q I r ⟨a,xs,e1,hq,hl,Y⟩;subst e1;cases r;obtain⟨T,M,Z,hz⟩:=I.tuple hq;exact assign_Tuple_tuple (I.ok.hd hc) Z (by simp[hn,<-hl,M.length]) l fun h' U=>h pins _ σ H xs _ Q (I.kept fun b o e=>U b o (aJ (aH e)) e) AS Y
def lQ(l I:TE)(t:jW):TG:=fun v σ H Q=>l σ H fun o U=>I σ U fun i T=>t o i v T fun M=>Q σ M
def Qg(ho:PE X o to)(hi:PE X i ti)(hs:jF X t)
 (ha:∀v,assign (.Subscript o i pos) X.env v=(do
      let ov <-holding [v] (eval o X.env)
      let iv <-holding [v,ov] (eval i X.env)
      standAt pos
      holding [v,ov,iv] (setItem ov iv v)
      release [v,ov,iv] []):=by intro _;rfl):PG X (.Subscript o i pos) (lQ to ti t):=by
  intro pins s σ H v u Q I r h
  rw[ha]
  exact Wb (aS (Ay (ho pins s σ H _ I h) fun ov s1 ⟨x,H1,I1,r1,q1⟩=>Wb (aS (Ay (hi pins s1 σ H1 _ I1 q1) fun iv s2 ⟨y,H2,I2,r2,q2⟩=>Wb (wpAny_standAt (Wb (aS (Ay (hs pins s2 σ H2 x y v ov iv u _ I2 r1 r2 r q2) fun _ s3 ⟨H3,I3,q3⟩=>wpAny_release ⟨σ,H3,I3,q3⟩))))))))
def Wu(l:TE)(g:TG):TS:=fun D σ H=>l σ H fun x I=>g x σ I D.nx
def Rp(Z:PE X e l)(hg:PG X tg g)(Y:swapsWithSole [tg] e pos.line X.env=pure false:=by rfl)(U:swappedStores [tg] e X.env=pure none:=by rfl) (h1:(assignEach [tg] X.env).map (·.2)=[assign tg X.env]:=by rfl):PS X (.Assign [tg] e pos) (Wu l g):=by
 intro pins s σ H D I h;refine wpAny_Assign_stores (Ay (Z pins s σ H _ I h) fun v s1 ⟨x,H1,I1,M,T⟩=>?_) Y U;rw[h1];exact Ay (hg pins s1 σ H1 x v _ I1 M T) fun _ s2 q=>q
def A0(hN:X.N.Nodup)(hi:X.N[i]? = some x)(Y:Loc X.env.scope x)(he:PE X e M)(Z:swapsWith e (some (.Name x l)) pos.line X.env=pure false:=by rfl)(hf:X.fn x=true\/X.env.scope.names.lookup x=some .local:=by first|exact .inl rfl|exact .inr rfl|assumption):PS X (.Assign [.Name x l] e pos) (Wu M (Ct i)):=fun pins s σ H D I h=>wpAny_Assign_Name (Ay (he pins s σ H _ I h) fun v s1 ⟨y,H1,I1,T,U⟩=>J4 I1 hN hi Y T (fun s2 I2=>⟨_,H1,I2,U⟩) hf) Z
def zc(i j:Nat)(l:TA):TS:=fun D σ H=>l σ H fun vs I=>∃v w,vs=[v,w]/\D.nx ((σ.set i (some v)).set j (some w)) I
def ui{i j:Nat}{x y:Str}{a b:Expr}{ta:TA}{kt k2 l}(hc:Rs)(hN:X.N.Nodup)(hi:X.N[i]? = some x)(hj:X.N[j]? = some y)(hij:i≠j) (hx:X.env.scope.names.lookup x=some .local)(hy:X.env.scope.names.lookup y=some .local)(ha:PA X [a,b] ta) (hw:swappedStores [.Tuple [.Name x px,.Name y py] kt pt] (.Tuple [a,b] k2 l) X.env=pure (some [x,y])) (hs:swapsWithSole [.Tuple [.Name x px,.Name y py] kt pt] (.Tuple [a,b] k2 l) pos.line X.env=pure false:=by rfl):PS X (.Assign [.Tuple [.Name x px,.Name y py] kt pt] (.Tuple [a,b] k2 l) pos) (zc i j ta):=by
 intro pins s σ H D I h;refine Wb (wpAny_standAt ?_);rw[hs];refine Wb ar;refine Wb (Tuple_ (Ay (ha _ pins s σ H _ I h) fun us s1 ⟨vs,H1,I1,r1,Y⟩=>?_));obtain⟨v,w,e1,Y⟩:=Y;subst e1;obtain⟨T,M,rfl,rv,U⟩:∃T M,us=[T,M]/\RelV v T/\RelV w M:=by
  cases r1 with
  |cons p q=>
   cases q with
   |cons p' q'=>
    cases q';exact⟨_,_,rfl,p,p'⟩
 refine ag ?_ (by show 2<=sizeLine;decide);rw[hw];refine Wb ar;refine Wb (aq (Wb (unpackItems_tuple (items:=#[T,M]) (I.ok.hd hc) (IsTup.new s1.heap _) fun h' hx'=>?_)));have I3:=(I1.kept fun b o e=>aE _ e).kept (h':=h') (t':=s1.toks) fun b o e=>hx' b o (aJ (aH e)) e;refine Wb (assignInOrder_cons (wpAny_bindName (J4 I3 hN hj (.inl hy) U (fun s2 I4=>?_) (.inr hy))));refine assignInOrder_cons (wpAny_bindName (J4 I4 hN hi (.inl hx) rv (fun s3 I5=>assignInOrder_nil ar) (.inr hx)));rw[List.set_comm _ _ (Ne.symm hij)]at I5;exact⟨_,H1,I5,Y⟩
end
section
variable{X:Cx}{pos:Pos}
def gQ(c:TT)(tb:TS):TS:=fun D σ H=>∃W:Nat->St->Hp->Prop,(∃m,W m σ H)/\∀m σ H,W m σ H ->
 c σ H fun b I=>if b=true then ∃N ,(∀σ' H',N σ' H'->∃l,l<m/\W l σ' H')/\tb {D with nx:=N,ct:=N,bk:=D.nx} σ I else D.nx σ I
def QM(Z:PassesOwn B7 X.A X.env X.xe)(hc:PT X c tc)(hb:HC X M tb):PS X (.While c M [] pos) (gQ tc tb):=by
 rintro pins s σ H D I ⟨W,⟨m0,w0⟩,turn⟩;refine wpAny_While (codeAny_whileLoop (fun n s'=>∃σ' H',Inv X pins σ' H' s'/\W n σ' H') ?_ m0 ⟨σ,H,I,w0⟩);rintro n s1 ⟨l,H1,I1,w1⟩;refine wpAny_passesOwn Z (Ay (hc pins s1 l H1 _ I1 (turn n l H1 w1)) fun b s2 ⟨H2,I2,U⟩=>?_);cases b with
 |true=>
  obtain⟨N,hN,U⟩:=U;refine wpAny_passesOwn Z (Ay (hb pins s2 l H2 _ I2 U) fun f s3 T=>?_);cases f with
  |next=>
   obtain⟨Y,H3,I3,n3⟩:=T
   grind
  |cont=>
   obtain⟨Y,H3,I3,n3⟩:=T
   grind
  |brk=>exact T
  |ret v=>exact T
 |false=>
  exact wpAny_execs_nil ⟨l,H2,I2,U⟩
end
structure It where
 go:Nat->Hp->Prop
 E6:Nat->Hp->V->Hp->Prop
 stop:Nat->Hp->Prop
def K7(X:Cx)(pins:LT)(H:Hp)(b:AD):Prop :=
 H b=none/\b≠X.env.locals/\b ∉ X.fs/\(b∈X.ex\/X.s₀.heap.objs.size<=b)/\(∀x c,X.env.cells.lookup x=some c->c≠b)/\∀p∈X.pn++pins,p.1≠b
def Inv.Pr{σ:St}{b:AD}(I:BE)(hb:s.heap.objs.size<=b)(hn:H' b=none):K7 X pins H' b:=by
 refine⟨hn,Nat.ne_of_gt (aD I.lt hb),I.AAS hb,.inr (aQ I.sz hb),fun x c e z=>?_,fun p l z=>?_⟩
 .obtain⟨v,q⟩:=I.cell x c e;exact absurd (aD q.lt AS) (Nat.lt_irrefl _)
 .exact absurd (aD (aH (I.pin p l).1) AS) (Nat.lt_irrefl _)
structure Turn(P:Program)(w:World)(K:Fg)(tg:Expr)(J:It)(fp:List Addr)(it:Addr)(tn:Nat->Heap->Prop):Prop where
 mem:it∈fp
 obj:∀i h,tn i h->∀b∈fp,∃o,h.get? b=some o/\∀v,o.data≠.cell v
 keep:∀i h h',tn i h->(∀b∈fp,∀o,h.get? b=some o->h'.get? b=some o)->tn i h'
 item:∀(X:Cx),X.prog=P->X.w=w->X.K=K->X.calm=true->∀(i:Nat) (pins:List (Addr×Obj)) (s:Shared) (σ:St) (H:Hp) (E:Value->Shared->Prop),Inv X pins σ H s->(∀b∈fp,K7 X pins H b)->tn i s.heap->J.go i H ->
  wpAny (model P w) X.A (pyNext (.ref it)) (fun r s1=>∃u,r=some u /\
   wpAny (model P w) X.A (letOwnedTupleGo tg (.ref it) u) (fun _ s2=>∃x H',Inv X pins σ H' s2/\RelV x u/\J.E6 i H x H'/\tn SB s2.heap/\∀b∈fp,H' b=none) E s1) E s
 done:∀(X:Cx),X.prog=P->X.w=w->X.K=K->X.calm=true->∀(i:Nat) (pins:List (Addr×Obj)) (s:Shared) (σ:St) (H:Hp) (E:Value->Shared->Prop),Inv X pins σ H s->(∀b∈fp,K7 X pins H b)->tn i s.heap->J.stop i H ->
  wpAny (model P w) X.A (pyNext (.ref it)) (fun r s1=>r=none/\Inv X pins σ H s1) E s
 self:∀(A:Around) (i:Nat) (s:Shared) (Q:Value->Shared->Prop) (E:Value->Shared->Prop),tn i s.heap->Q (.ref it) s->wpAny (model P w) A (pyIter (.ref it)) Q E s
abbrev TI:=St->Hp->(It->Hp->Prop)->Prop
def y8(X:Cx)(pins:LT)(σ:St)(tg:Expr)(R:It->Hp->Prop)(l:VL)(s2:SD):Prop :=
 ∃(it:AD) (fp:List AD) (tn:Nat->Heap->Prop) (J:It) (H':Hp),l=.ref it/\Inv X pins σ H' s2/\Turn X.prog X.w X.K tg J fp it tn/\tn 0 s2.heap/\(∀b∈fp,K7 X pins H' b)/\R J H'
def PI(X:Cx)(tg iter:Expr)(wi:TI):Prop :=
 ∀pins s (σ:St) H R,Inv X pins σ H s->wi σ H R ->
  wpAny B7 X.A (eval iter X.env) (fun v s1=>wpAny B7 X.A (pyIter v) (y8 X pins σ tg R) X.xe s1) X.xe s
def bq(I:s.heap.get? it=some o)(T:o.cls=.type n)(hd:o.data=.fields vs) (hn:["enumerate","zip","dict_itemiterator","dict_reverseitemiterator","odict_iterator","itertools.zip_longest","itertools.pairwise"].contains n=false)(l:Q () s):wpAny M A (letOwnedTupleGo tg (.ref it) u) Q E s:=by
 cases tg<;>first
  |exact aB l
  |(cases u<;>first
    |exact aB l
    |(refine Wb (wpAny_load I ?_)
      rw[T,hd];show wpAny M A (if _=true then _ else _) Q E s;rw[if_neg AS];exact aB l))
def Y9(K:Fg)(a:AD):It :=
 ⟨fun i H=>∃xs x,Am K H a xs/\xs[i]? = some x,fun i H x H'=>H'=H/\∀xs,Am K H a xs->xs[i]? = some x,fun i H=>∃xs,Am K H a xs/\xs.length<=i⟩
def tN(K:Fg)(a:AD):It :=
 ⟨fun i H=>∃xs x,A4 K H a xs/\xs[i]? = some x,fun i H x H'=>H'=H/\∀xs,A4 K H a xs->xs[i]? = some x,fun i H=>∃xs,A4 K H a xs/\xs.length<=i⟩
def fR(lo:Int)(n:Nat):It:=⟨fun i _=>i<n,fun i H x H'=>H'=H/\x=.int (lo+i),fun i _=>n<=i⟩
def gu{K} a it:Turn P w K tg (Y9 K a) [it] it (fun i h=>h.IsListIter it a i) where
 mem:=by simp
 obj:=fun i h st b hb=>by
  have e:=by simpa using hb
  subst e;obtain⟨o,e,c,d⟩:=st;exact⟨o,e,fun v z=>by rw[d]at z;cases z⟩
 keep:=fun i h h' st k=>st.at fun o e=>k it By o e
 item:=by
  intro X hP hw hK hc i pins s σ H E I hf st hg;subst hP hw hK;obtain⟨xs,x,hq,hx⟩:=hg;obtain⟨its,rv,p,hz⟩:=I.list hq;obtain⟨u,hu,ru⟩:=rv.get hx;obtain⟨f0,f1,f2,f3,f4,f5⟩:=hf it By;refine wpAny_pyNext_list_item st p.isList (by simpa using hu) fun h' st' sb=>?_;obtain⟨o,e,c,d⟩:=id st';exact⟨u,rfl,bq e c d AC ⟨x,H,(I.turned (fun b o hb e=>(sb.2 b hb).trans e) f0 f1 f3 f4 f5),ru,⟨rfl,fun ys hy=>by rw[I.Xf hy hq];exact hx⟩,st',fun b hb=>(hf b hb).1⟩⟩
 done:=by
  intro X hP hw hK hc i pins s σ H E I hf st hg;subst hP hw hK;obtain⟨xs,hq,hx⟩:=hg;obtain⟨its,rv,p,hz⟩:=I.list hq;obtain⟨f0,f1,f2,f3,f4,f5⟩:=hf it By;have hl:=rv.length;exact wpAny_pyNext_list_end (I.ok.hd hc) st p.isList (by simp;lia) fun h' eb=>⟨rfl,I.turned (fun b o hb e=>eb b o hb e) f0 f1 f3 f4 f5⟩
 self:=fun _ _ _ _ _ st h=>wpAny_pyIter_listiter st h
def dQ{K} a it:Turn P w K tg (tN K a) [it] it (fun i h=>h.IsTupleIter it a i) where
 mem:=by simp
 obj:=fun i h st b hb=>by
  have e:=by simpa using hb
  subst e;obtain⟨o,e,c,d⟩:=st;exact⟨o,e,fun v z=>by rw[d]at z;cases z⟩
 keep:=fun i h h' st k=>st.at fun o e=>k it By o e
 item:=by
  intro X hP hw hK hc i pins s σ H E I hf st hg;subst hP hw hK;obtain⟨xs,x,hq,hx⟩:=hg;obtain⟨its,rv,p,hz⟩:=I.tuple hq;obtain⟨u,hu,ru⟩:=rv.get hx;obtain⟨f0,f1,f2,f3,f4,f5⟩:=hf it By;refine wpAny_pyNext_tuple_item st p (by simpa using hu) fun h' st' sb=>?_;obtain⟨o,e,c,d⟩:=id st';exact⟨u,rfl,bq e c d AC ⟨x,H,(I.turned (fun b o hb e=>(sb.2 b hb).trans e) f0 f1 f3 f4 f5),ru,⟨rfl,fun ys hy=>by rw[I.UT hy hq];exact hx⟩,st',fun b hb=>(hf b hb).1⟩⟩
 done:=by
  intro X hP hw hK hc i pins s σ H E I hf st hg;subst hP hw hK;obtain⟨xs,hq,hx⟩:=hg;obtain⟨its,rv,p,hz⟩:=I.tuple hq;obtain⟨f0,f1,f2,f3,f4,f5⟩:=hf it By;have hl:=rv.length;exact wpAny_pyNext_tuple_end (I.ok.hd hc) st p (by simp;lia) fun h' eb=>⟨rfl,I.turned (fun b o hb e=>eb b o hb e) f0 f1 f3 f4 f5⟩
 self:=fun _ _ _ _ _ st h=>wpAny_pyIter_tupleiter st h
def bx{K} it lo n:Turn P w K tg (fR lo n) [it] it (fun i h=>IsRangeIter h it (lo+i*1) (n-i) 1) where
 mem:=by simp
 obj:=fun i h st b hb=>by
  grind
 keep:=fun i h h' st k=>k it By _ st
 item:=by
  intro X hP hw hK hc i pins s σ H E I hf st hg;obtain⟨f0,f1,f2,f3,f4,f5⟩:=hf it By;refine(Walks.range (I.ok.hd hc) it lo 1 n).item i s _ _ hg st fun v h' tk hv st' kk=>?_;obtain⟨t,rfl⟩:=hv;refine⟨_,rfl,bq st' rfl rfl AC ⟨.int _,H,(I.turned (fun b o hb e=>kk b o (by simpa using hb) e) f0 f1 f3 f4 f5),⟨t,?_⟩,⟨rfl,rfl⟩,st',fun b hb=>(hf b hb).1⟩⟩;rw[Int.mul_one]
 done:=by
  intro X hP hw hK hc i pins s σ H E I hf st hg;obtain⟨f0,f1,f2,f3,f4,f5⟩:=hf it By;exact wpAny_pyNext_range_end (I.ok.hd hc) st (by have:n<=i:=hg;lia) fun h' eb=>⟨rfl,I.turned (fun b o hb e=>eb b o hb e) f0 f1 f3 f4 f5⟩
 self:=fun _ _ _ _ _ st h=>wpAny_pyIter_rangeiter st h
section
variable{X:Cx}{tg:Expr}
def xr(K:Fg)(I:TE):TI:=fun σ H R=>I σ H fun x l=>∃a,x=.ref a/\(∃xs,Am K l a xs)/\R (Y9 K a) l
def zr(K:Fg)(I:TE):TI:=fun σ H R=>I σ H fun x l=>∃a,x=.ref a/\(∃xs,A4 K l a xs)/\R (tN K a) l
def FD(hl:PE X l T):PI X tg l (xr X.K T):=by
 intro pins s σ H R I h;refine Ay (hl pins s σ H _ I h) fun v s1 ⟨x,H1,M,U,Y⟩=>?_;obtain⟨a,e,⟨xs,hq⟩,q⟩:=Y;subst e;cases U;obtain⟨Z,rv,p,hz⟩:=M.list hq;refine wpAny_pyIter_list p.isList (⟨s1.heap.objs.size,[s1.heap.objs.size],_,_,H1,rfl,M.kept fun b o e=>aE _ e,gu a _,⟨_,Heap.get?_push_size _ rfl,rfl,rfl⟩,fun b hb=>?_,q⟩);have e:=by simpa using hb
 subst e;exact M.Pr M0 (M.Ae.fresh M0)
def fj(hl:PE X l T):PI X tg l (zr X.K T):=by
 intro pins s σ H R I h;refine Ay (hl pins s σ H _ I h) fun v s1 ⟨x,H1,M,U,Y⟩=>?_;obtain⟨a,e,⟨xs,hq⟩,q⟩:=Y;subst e;cases U;obtain⟨Z,rv,p,hz⟩:=M.tuple hq;refine wpAny_pyIter_tuple p (⟨s1.heap.objs.size,[s1.heap.objs.size],_,_,H1,rfl,M.kept fun b o e=>aE _ e,dQ a _,⟨_,Heap.get?_push_size _ rfl,rfl,rfl⟩,fun b hb=>?_,q⟩);have e:=by simpa using hb
 subst e;exact M.Pr M0 (M.Ae.fresh M0)
def XM{σ:St}{lo hi}(I:BE)(Y:-(2^62)<=lo)(U:lo<2^62)(T:-(2^62)<=hi)(M:hi<2^62) (q:R (fR lo (hi-lo).toNat) H):wpAny B7 X.A (pyIter Go) (y8 X pins σ tg R) E {s with heap:=s.heap.push { cls:=.type "range",data:=.fields #[.int lo t,.int hi u,.int 1 v]},toks:=tk}:=by
 refine wpAny_pyIter_range (IsRange.new ..) (small_one Y U T M) ?_;have l:Inv X pins σ H {s with heap:=s.heap.push { cls:=.type "range",data:=.fields #[.int lo t,.int hi u,.int 1 v]},toks:=tk}:=I.kept fun b o e=>aE _ e;refine⟨(s.heap.push _).objs.size,[(s.heap.push _).objs.size],_,_,H,rfl,
  l.kept fun b o e=>aE _ e,bx _ lo (hi-lo).toNat,?_,fun b hb=>?_,q⟩
 .rw[(show lo+_*1=lo by simp),(show _-_=Builtin.Range.rangeSize lo hi 1 by rw[rangeSize_one];lia)];exact aN _ rfl
 .have e:b=(s.heap.push { cls:=.type "range",data:=.fields #[.int lo t,.int hi u,.int 1 v]}).objs.size:=by simpa using hb
  subst e;exact l.Pr M0 (l.Ae.fresh M0)
def wZ(l:TA):TI:=fun σ H R=>l σ H fun vs I=>∃j ,vs=[.int j]/\-(2^62)<=j/\j<2^62/\R (fR 0 j.toNat) I
def xg(l:TA):TI:=fun σ H R=>l σ H fun vs I=>∃i j ,vs=[.int i,.int j]/\(-(2^62)<=i/\i<2^62/\-(2^62)<=j/\j<2^62)/\R (fR i (j-i).toNat) I
def gX(hg:Gl X "range")(hm:X.mg "range" = none)(ha:PA X [a] M)(Z:starEach [a] X.env=[Sc]:=by rfl):PI X tg (.Call (.Name "range" p) [a] [] pos) (wZ M):=by
 intro pins s σ H R I h;refine Call_ (Fi I hg hm boot_range (ax (Ay TD fun us s1 ⟨vs,H1,I1,U,l⟩=>?_) Z rfl));obtain⟨j,e,l,Y,q⟩:=l;subst e;cases U with
 |cons r T=>
  cases T;obtain⟨t,rfl⟩:=r;exact call_range_1 (XM I1 AS AS l Y AS)
def eh{p pos}(hg:Gl X "range")(hm:X.mg "range" = none)(ha:PA X [a,b] U)(hs:starEach [a,b] X.env=[Sc,(false,eval b X.env)]:=by rfl)(T:starEach [b] X.env=[(false,eval b X.env)]:=by rfl):PI X tg (.Call (.Name "range" p) [a,b] [] pos) (xg U):=by
 intro pins s σ H R I h;refine Call_ (Fi I hg hm boot_range (ax (Ay TD fun us s1 ⟨vs,H1,I1,Y,M⟩=>?_) AS (by rw[T];rfl)));obtain⟨i,j,e,⟨M,q2,q3,q4⟩,q⟩:=M;subst e;cases Y with
 |cons r l=>
  cases l with
  |cons Z l=>
   cases l;obtain⟨t,rfl⟩:=r;obtain⟨t',rfl⟩:=Z;exact call_range_2 (XM I1 M q2 q3 q4 q)
def AAE(wi:TI)(g:TG)(tb:TS):TS:=fun D σ H=>wi σ H fun J T=>∃W:Nat->Nat->St->Hp->Prop,(∃m,W 0 m σ T)/\∀i m σ H,W i m σ H ->
 (J.stop i H/\D.nx σ H)\/(J.go i H/\∃N ,(∀σ' H',N σ' H'->∃I,I<m/\W SB I σ' H')/\∀x H',J.E6 i H x H'->g x σ H' fun l M=>tb {D with nx:=N,ct:=N,bk:=D.nx} l M)
def Qz(fp:ABF)(h:Heap):List (AD×Obj):=fp.filterMap fun b=>(h.get? b).map fun o=>(b,o)
def JW(hb:b∈fp)(e:h.get? b=some o):(b,o)∈Qz fp h:=List.mem_filterMap.mpr ⟨b,hb,by grind⟩
def ib(l:p∈Qz fp h):p.1∈fp/\h.get? p.1=some p.2:=by
 obtain⟨b,hb,e⟩:=List.mem_filterMap.mp l;cases q:h.get? b with
 |none=>grind
 |some o=>
  grind
def Inv.pinned{σ:St}(I:BE)(hf:∀b∈fp,K7 X pins H b)(M:∀b∈fp,∃o,s.heap.get? b=some o/\∀v,o.data≠.cell v):Inv X (pins++Qz fp s.heap) σ H s :=
 I.Yg fun p l=>(aX.mp l).elim (fun z=>I.pin p (aY _ z)) fun z=>by
  obtain⟨hb,e⟩:=ib z;obtain⟨T,f1,f2,_⟩:=hf p.1 hb
  grind
def Inv.MG{σ:St}(I:Inv X (pins++pl) σ H s):Inv X pins σ H s:=I.Yg fun p l=>I.pin p (aY _ (List.mem_append_left _ l))
def Jx{iter:Expr}{body:ABG}{wi:TI}{g:TG}{tb:TS}{pos:Pos}(hp:PassesOwn B7 X.A X.env X.xe)(hc:Rs)(hi:PI X tg iter wi)(hg:PG X tg g)(hb:HC X body tb) (hs:∀x,foldedSetIterable iter X.env x=pure x:=by intro _;rfl):PS X (.For tg iter body [] pos) (AAE wi g tb):=by
 intro pins s σ H D I h;refine wpAny_For (Ay (hi pins s σ H _ I h) fun v s1 h1=>Ay h1 fun itv s2 h2=>?_) hs;obtain⟨it,fp,tn,J,H2,e,I2,T,st2,f2,W,⟨m0,w0⟩,turn⟩:=h2;subst e;have U:∀ {H':Hp},(∀b∈fp,H' b=none)->∀b∈fp,K7 X pins H' b:=fun hn b hb=>⟨hn b hb,(f2 b hb).2⟩;refine codeAny_forLoop_any (fun n s'=>∃i σ' H',Inv X pins σ' H' s'/\tn i s'.heap/\(∀b∈fp,H' b=none)/\W i n σ' H') ?_ m0 ⟨0,σ,H2,I2,st2,fun b hb=>(f2 b hb).1,w0⟩;rintro n s3 ⟨i,M,H3,I3,st3,fr3,w3⟩;rcases turn i n M H3 w3 with ⟨stop,qn⟩|⟨go,N,hN,step⟩
 .refine wpAny_passesOwn hp (Ay (T.done X rfl rfl rfl hc i pins s3 M H3 X.xe I3 (U fr3) st3 stop) fun r s4 ⟨hr,I4⟩=>?_);subst hr;exact wpAny_execs_nil ⟨M,H3,I4,qn⟩
 .refine wpAny_passesOwn hp (Ay (T.item X rfl rfl rfl hc i pins s3 M H3 X.xe I3 (U fr3) st3 go) fun r s4 ⟨u,hr,h4⟩=>?_);subst hr;refine wpAny_passesOwn hp (Ay h4 fun _ s5 ⟨x,H5,I5,r5,y5,st5,fr5⟩=>?_);have I5':=I5.pinned (U fr5) (T.obj _ _ st5);refine wpAny_passesOwn hp (Ay (hg _ s5 M H5 x u _ I5' r5 (step x H5 y5)) fun _ s6 ⟨σ6,H6,I6,q6⟩=>?_);refine wpAny_passesOwn hp (Ay (hb _ s6 σ6 H6 _ I6 q6) fun f s7 q7=>?_);have again:∀ {l:St} {Z:Hp},Inv X _ l Z s7->N l Z->∃m,m<n/\∃i σ' H',Inv X pins σ' H' s7/\tn i s7.heap/\(∀b∈fp,H' b=none)/\W i m σ' H':=fun {l Z} Y n7=>by
   obtain⟨m',hm,w7⟩:=hN l Z n7;refine⟨m',hm,i+1,l,Z,Y.MG,T.keep _ _ _ st5 fun b hb o e=>(Y.pin (b,o) (aY _ (aY _ (JW hb e)))).1,fun b hb=>?_,w7⟩;obtain⟨o,e,d⟩:=T.obj _ _ st5 b hb;exact(Y.pin (b,o) (aY _ (aY _ (JW hb e)))).2.1
  cases f with
  |next=>obtain⟨l,Z,Y,n7⟩:=q7;exact again Y n7
  |cont=>obtain⟨l,Z,Y,n7⟩:=q7;exact again Y n7
  |brk=>obtain⟨l,Z,Y,q7⟩:=q7;exact⟨l,Z,Y.MG,q7⟩
  |ret v=>obtain⟨x7,l,Z,Y,r7,q7⟩:=q7;exact⟨x7,l,Z,Y.MG,r7,q7⟩
end
def Pz{K}{g:TG}{tb:TS}{D:Ends}(Pv:Nat->St->Hp->Prop)(h0:Pv 0 σ H)(Y:∀i σ H,i<=xs.length->Pv i σ H->Am K H a xs) (Z:∀i x σ H,xs[i]? = some x->Pv i σ H->g x σ H fun l M=>tb {D with nx:=Pv SB,ct:=Pv SB,bk:=D.nx} l M)(hd:∀σ H,Pv xs.length σ H->D.nx σ H):∃W:Nat->Nat->St->Hp->Prop,(∃m,W 0 m σ H)/\∀i m σ H,W i m σ H ->((Y9 K a).stop i H/\D.nx σ H)\/((Y9 K a).go i H/\∃N ,(∀σ' H',N σ' H'->∃T,T<m/\W SB T σ' H')/\∀x H',(Y9 K a).E6 i H x H'->g x σ H' fun l M=>tb {D with nx:=N,ct:=N,bk:=D.nx} l M):=by
 refine⟨fun i m σ H=>m=xs.length-i/\i<=xs.length/\Pv i σ H,⟨xs.length,by simp,Nat.zero_le _,h0⟩,?_⟩;rintro i m σ H ⟨rfl,hi,p⟩;have q:=Y i σ H hi p;by_cases I:i<xs.length
 .refine .inr ⟨⟨xs,xs[i],q,by simp⟩,Pv _,fun σ' H' U=>⟨xs.length-_,by lia,rfl,I,U⟩,fun x H' y=>?_⟩;obtain⟨e,y⟩:=y
  grind
 .have e:i=xs.length:=by lia
  subst e;exact .inl ⟨⟨xs,q,Nat.le_refl _⟩,hd σ H p⟩
def QO(Pv:St->Hp->Prop)(M:St->Hp->Nat)(h0:Pv σ H) (Y:∀σ H,Pv σ H->c σ H fun b I=>if b=true then tb {D with nx:=fun σ' H'=>Pv σ' H'/\M σ' H'<M σ H,ct:=fun σ' H'=>Pv σ' H'/\M σ' H'<M σ H,bk:=D.nx} σ I else D.nx σ I) (mono:∀σ H Q T,(∀b I,Q b I->T b I)->c σ H Q->c σ H T):gQ c tb D σ H:=by
 refine⟨fun m σ H=>m=M σ H/\Pv σ H,⟨_,rfl,h0⟩,?_⟩;rintro m σ H ⟨rfl,p⟩;refine mono σ H _ _ (fun b I q=>?_) (Y σ H p);cases b with
 |true=>exact⟨_,fun σ' H' ⟨U,l⟩=>⟨_,l,rfl,U⟩,q⟩
 |false=>exact q
abbrev R2:=V->V->Hp->VK->Prop
def CN(X:Cx)(f:VL->VL->Sem VL)(r:R2):Prop :=
 ∀pins s (σ:St) H x y v u Q,Inv X pins σ H s->RelV x v->RelV y u->r x y H Q ->
  wpAny B7 X.A (f v u) (EP X pins σ Q) X.xe s
def sQ(X:Cx)(f:VL->Sem VL)(r:V->Hp->VK->Prop):Prop :=
 ∀pins s (σ:St) H x v Q,Inv X pins σ H s->RelV x v->r x H Q ->
  wpAny B7 X.A (f v) (EP X pins σ Q) X.xe s
def C6(X:Cx)(f:VL)(r:List V->Hp->VK->Prop):Prop :=
 ∀pins s (σ:St) H xs us Q,Inv X pins σ H s->Vals xs us->r xs H Q ->
  wpAny B7 X.A (call f us) (EP X pins σ Q) X.xe s
def iW(r:R2)(l tb:TE):TE:=fun σ H Q=>l σ H fun x M=>tb σ M fun y I=>r x y I Q
def tUn(r:V->Hp->VK->Prop)(l:TE):TE:=fun σ H Q=>l σ H fun x I=>r x I Q
def rI(C:Int->Int->Prop)(g:Int->Int->V):R2:=fun x y H Q=>∃i j,x=.int i/\y=.int j/\C i j/\Q (g i j) H
def Tx(g:Int->Int->V):R2:=fun x y H Q=>∃i j,x=.int i/\y=.int j/\Q (g i j) H
def rU(g:Int->V):V->Hp->VK->Prop:=fun x H Q=>∃i,x=.int i/\Q (g i) H
section
variable{X:Cx}{a b:Expr}{ta tb:TE}{pos:Pos}
def la(ha:PE X a ta)(hb:PE X b tb){σ:St}{R:V->V->Hp->Prop}(I:BE) (h:ta σ H fun x U=>tb σ U fun y T=>R x y T){f:VL->VL->Sem VL} (hf:∀v u s2 x y T,Inv X pins σ T s2->RelV x v->RelV y u->R x y T->wpAny B7 X.A (f v u) Q X.xe s2):wpAny B7 X.A (eval a X.env) (fun v M=>wpAny B7 X.A (eval b X.env) (fun u l=>wpAny B7 X.A (f v u) Q X.xe l) X.xe M) X.xe s:=Ay (ha pins s σ H _ I h) fun v s1 ⟨x,U,Z,r1,Y⟩=>Ay (hb pins s1 σ U _ Z Y) fun u s2 ⟨y,T,I2,r2,q2⟩=>by grind
def DQ(T:CN X (binaryOp op) r)(ha:PE X a ta)(hb:PE X b tb):PE X (.BinOp a op b pos) (iW r ta tb):=fun pins s σ H Q I h=>wpAny_BinOp (la ha hb I h fun v u s2 x y Y U M l q=>T pins s2 σ Y x y v u Q U M l q)
def oE(T:sQ X (unaryOp op) r)(ha:PE X a ta):PE X (.UnaryOp op a pos) (tUn r ta):=fun pins s σ H Q I h=>UnaryOp_ (Ay (ha pins s σ H _ I h) fun v s1 ⟨x,Y,U,l,M⟩=>T pins s1 σ Y x v Q U l M)
def Yu{g:Int->Int->Int} (rule:∀i j t u s Q E,C i j->Q (.int (g i j) s.toks) {s with toks:=s.toks+1}->wpAny B7 X.A (f (.int i t) (.int j u)) Q E s):CN X f (rI C fun i j=>.int (g i j)):=by
 rintro pins s σ H x y v u Q I T M ⟨i,j,rfl,rfl,U,q⟩;obtain⟨t,rfl⟩:=T;obtain⟨l,rfl⟩:=M;exact rule i j t l s _ _ U ⟨.int _,H,I.tok _,⟨_,rfl⟩,q⟩
def vU{g:Int->Int->Int} (rule:∀i j t u s Q E,Q (.int (g i j) s.toks) {s with toks:=s.toks+1}->wpAny B7 X.A (f (.int i t) (.int j u)) Q E s):CN X f (Tx fun i j=>.int (g i j)):=by
 rintro pins s σ H x y v u Q I T M ⟨i,j,rfl,rfl,q⟩;obtain⟨t,rfl⟩:=T;obtain⟨l,rfl⟩:=M;exact rule i j t l s _ _ ⟨.int _,H,I.tok _,⟨_,rfl⟩,q⟩
def iz{g:Int->Int->Bool} (rule:∀i j t u s Q E,Q (.bool (g i j)) s->wpAny B7 X.A (f (.int i t) (.int j u)) Q E s):CN X f (Tx fun i j=>.bl (g i j)):=by
 rintro pins s σ H x y v u Q I T M ⟨i,j,rfl,rfl,q⟩;obtain⟨t,rfl⟩:=T;obtain⟨l,rfl⟩:=M;exact rule i j t l s _ _ ⟨.bl _,H,I,rfl,q⟩
def zf(i j:Int):Prop:=0<j/\j<1073741824
def zi(i j:Int):Prop:=0<=j/\j<=1000000/\i.natAbs<2^64
def cU(i j:Int):Prop:=(-(2^64)<i/\i<2^64)\/(-(2^64)<j/\j<2^64)
def cU.ok(h:cU i j):IntMulOk i j:=by
 rcases h with ⟨I,l⟩|⟨I,l⟩
 .exact .of_left (intBits_le_64 I l)
 .exact .of_right (intBits_le_64 I l)
def iR:CN X (binaryOp .Add) (Tx fun i j=>.int (i+j)):=vU fun _ _ _ _ _ _ _ q=>add_int q
def gP:CN X (binaryOp .Sub) (Tx fun i j=>.int (i-j)):=vU fun _ _ _ _ _ _ _ q=>sub_int q
def qh:CN X (binaryOp .FloorDiv) (rI zf fun i j=>.int (i / j)):=Yu fun i j _ _ _ _ _ l q=>by
 have M:=l.1;have I:=l.2;exact floordiv_int AS GM (.inl (PyProof.noPylong_small AS))
def tL:CN X (binaryOp .Mod) (rI (fun _ j=>0<j) fun i j=>.int (i % j)):=Yu fun i j _ _ _ _ _ l q=>mod_int' AS GM
def SN:CN X (binaryOp .Mod) (rI (fun _ j=>j≠0) fun i j=>.int (i.fmod j)):=Yu fun _ _ _ _ _ _ _ l q=>mod_int' l q
def vJ:CN X (binaryOp .Pow) (rI zi fun i j=>.int (i^j.toNat)):=Yu fun _ _ _ _ _ _ _ l q=>pow_int_small l.1 l.2.1 l.2.2 q
def unI{g:Int->Int} (rule:∀i t s Q E,Q (.int (g i) s.toks) {s with toks:=s.toks+1}->wpAny B7 X.A (f (.int i t)) Q E s):sQ X f (rU fun i=>.int (g i)):=by
 rintro pins s σ H x v Q I l ⟨i,rfl,q⟩;obtain⟨t,rfl⟩:=l;exact rule i t s _ _ ⟨.int _,H,I.tok _,⟨_,rfl⟩,q⟩
def fL:sQ X (unaryOp .USub) (rU fun i=>.int (-i)):=unI fun _ _ _ _ _ q=>neg_int q
end
def uQ:V->V->Bool
 |.BV,.BV=>true|.BV,.int _=>true|.int _,.BV=>true|.BV,.bl _=>true|.bl _,.BV=>true|.BV,.str _=>true|.str _,.BV=>true
 |.int _,.int _=>true|.bl _,.bl _=>true|.str _,.str _=>true|.NA _,.NA _=>true
 |.int _,.str _=>true|.str _,.int _=>true|.bl _,.str _=>true|.str _,.bl _=>true
 |_,_=>false
def rEq:R2:=fun x y H Q=>uQ x y=true/\Q (.bl (decide (x=y))) H
def rNe:R2:=fun x y H Q=>uQ x y=true/\Q (.bl (!decide (x=y))) H
def Zf:decide (V.int i=V.int j)=(i==j):=by
 lia
def iE:decide (V.bl i=V.bl j)=(i==j):=by
 lia
def Za:decide (V.str i=V.str j)=(i==j):=by
 lia
def ZJ:decide (V.NA i=V.NA j)=(i.toList==j.toList):=by
 rw[Bool.eq_iff_iff];simp
section
variable{X:Cx}{a b c:Expr}{ta tb:TE}{pos:Pos}
def BU{σ:St}(I:BE)(q:Q (.bl k) H)(e:k=l):EP X pins σ Q (.bool l) s:=by
 subst e;exact⟨.bl k,H,I,rfl,q⟩
def mj:CN X (compareOp .Eq) rEq:=by
 intro pins s σ H x y v u Q I U l h;obtain⟨T,q⟩:=h;cases x with
 |BV=>
  cases U;cases y with
  |BV=>cases l;exact PySem.EqNone.eq_none_none dL
  |bl j=>cases l;exact PySem.EqNone.eq_none_bool dL
  |int j=>obtain⟨M,rfl⟩:=l;exact PySem.EqNone.eq_none_int dL
  |str j=>obtain⟨M,rfl⟩:=l;exact PySem.EqNone.eq_none_str dL
  |_=>exact absurd (show false=true from T) aK
 |bl i=>
  cases U;cases y with
  |BV=>cases l;exact PySem.EqNone.eq_bool_none dL
  |bl j=>cases l;exact eq_bool (BU I q iE)
  |str j=>obtain⟨M,rfl⟩:=l;exact PySem.EqMixed.eq_bool_str dL
  |_=>exact absurd (show false=true from T) aK
 |int i=>
  obtain⟨t,rfl⟩:=U;cases y with
  |BV=>cases l;exact PySem.EqNone.eq_int_none dL
  |int j=>obtain⟨M,rfl⟩:=l;exact eq_int (BU I q Zf)
  |str j=>obtain⟨M,rfl⟩:=l;exact PySem.EqMixed.eq_int_str dL
  |_=>exact absurd (show false=true from T) aK
 |str i=>
  obtain⟨t,rfl⟩:=U;cases y with
  |BV=>cases l;exact PySem.EqNone.eq_str_none dL
  |bl j=>cases l;exact PySem.EqMixed.eq_str_bool dL
  |int j=>obtain⟨M,rfl⟩:=l;exact PySem.EqMixed.eq_str_int dL
  |str j=>obtain⟨M,rfl⟩:=l;exact eq_str (BU I q Za)
  |_=>exact absurd (show false=true from T) aK
 |NA i=>
  obtain⟨t,rfl⟩:=U;cases y with
  |NA j=>obtain⟨M,rfl⟩:=l;exact PySem.W.eq_bytes (BU I q ZJ)
  |_=>exact absurd (show false=true from T) aK
 |_=>cases y<;>exact absurd (show false=true from T) aK
def nR:CN X (compareOp .NotEq) rNe:=by
 intro pins s σ H x y v u Q I U l h;obtain⟨T,q⟩:=h;cases x with
 |BV=>
  cases U;cases y with
  |BV=>cases l;exact PySem.EqNone.ne_none_none dL
  |bl j=>cases l;exact PySem.EqNone.ne_none_bool dL
  |int j=>obtain⟨M,rfl⟩:=l;exact PySem.EqNone.ne_none_int dL
  |str j=>obtain⟨M,rfl⟩:=l;exact PySem.EqNone.ne_none_str dL
  |_=>exact absurd (show false=true from T) aK
 |bl i=>
  cases U;cases y with
  |BV=>cases l;exact PySem.EqNone.ne_bool_none dL
  |bl j=>cases l;exact ne_bool (BU I q (ae not iE))
  |str j=>obtain⟨M,rfl⟩:=l;exact PySem.EqMixed.ne_bool_str dL
  |_=>exact absurd (show false=true from T) aK
 |int i=>
  obtain⟨t,rfl⟩:=U;cases y with
  |BV=>cases l;exact PySem.EqNone.ne_int_none dL
  |int j=>obtain⟨M,rfl⟩:=l;exact ne_int (BU I q (ae not Zf))
  |str j=>obtain⟨M,rfl⟩:=l;exact PySem.EqMixed.ne_int_str dL
  |_=>exact absurd (show false=true from T) aK
 |str i=>
  obtain⟨t,rfl⟩:=U;cases y with
  |BV=>cases l;exact PySem.EqNone.ne_str_none dL
  |bl j=>cases l;exact PySem.EqMixed.ne_str_bool dL
  |int j=>obtain⟨M,rfl⟩:=l;exact PySem.EqMixed.ne_str_int dL
  |str j=>obtain⟨M,rfl⟩:=l;exact ne_str (BU I q (ae not Za))
  |_=>exact absurd (show false=true from T) aK
 |NA i=>
  obtain⟨t,rfl⟩:=U;cases y with
  |NA j=>obtain⟨M,rfl⟩:=l;exact PySem.W.ne_bytes (BU I q (ae not ZJ))
  |_=>exact absurd (show false=true from T) aK
 |_=>cases y<;>exact absurd (show false=true from T) aK
def dJ:CN X (compareOp .Lt) (Tx fun i j=>.bl (decide (i<j))):=iz fun _ _ _ _ _ _ _ q=>lt_int q
def VX:CN X (compareOp .Gt) (Tx fun i j=>.bl (decide (j<i))):=iz fun _ _ _ _ _ _ _ q=>gt_int q
def x8:CN X (compareOp .GtE) (Tx fun i j=>.bl (decide (j<=i))):=iz fun _ _ _ _ _ _ _ q=>ge_int q
def vq:CN X (compareOp .Is) (fun x y H Q=>y=.BV/\Q (.bl (decide (x=.BV))) H):=by
 rintro pins s σ H x y v u Q I M l ⟨rfl,q⟩;cases l;refine is_none_gen (BU I q ?_);cases x<;>first
  |(rfl)
  |(obtain⟨t,rfl⟩:=M;rfl)
def CN.or(h:CN X f r)(h':CN X f T):CN X f (fun x y H Q=>r x y H Q\/T x y H Q):=by
 intro pins s σ H x y v u Q I M l q;rcases q with q|q
 .exact h pins s σ H x y v u Q I M l q
 .exact h' pins s σ H x y v u Q I M l q
def FC b (h:op≠.In:=by decide) (l:op≠.NotIn:=by decide):behindInMarks op b=false:=by
 cases b<;>simp[behindInMarks,(show(op==CmpOp.In)=false by lia),(show(op==CmpOp.NotIn)=false by lia)]
def qo(T:CN X (compareOp op) r)(ha:PE X a ta)(hb:PE X b tb)(hm:behindInMarks op b=false):PE X (.Compare a [op] [b] pos) (iW r ta tb):=fun pins s σ H Q I h=>wpAny_Compare1 (la ha hb I h fun v u s2 x y Y U M l q=>T pins s2 σ Y x y v u Q U M l q) hm
def wX(t:TE):TT:=fun σ H Q=>t σ H fun x H'=>∃k,x=.bl k/\Q k H'
def Dg(ho:CN X (compareOp op) r)(ha:PE X a ta)(hb:PE X b tb)(hm:behindInMarks op b=false):PT X (.Compare a [op] [b] pos) (wX (iW r ta tb)):=by
 intro pins s σ H Q I h;refine wpAny_isTrue_Compare1 (Ay (ha pins s σ H _ I h) fun v s1 ⟨x,H1,I1,T,Z⟩=>Ay (hb pins s1 σ H1 _ I1 Z) fun u s2 ⟨y,H2,I2,M,Y⟩=>
  Ay (ho pins s2 σ H2 x y v u _ I2 T M Y) fun c s3 ⟨z,H3,I3,l,k,e,U⟩=>?_) hm
 subst e;cases l;exact bQ ⟨H3,I3,U⟩
def OC:sizeLine<2^63:=by decide
def cn:CN X (binaryOp .Add) (fun x y H Q=>∃i j,x=.str i/\y=.str j/\i.length+j.length<=sizeLine/\Q (.str (i++j)) H):=by
 rintro pins s σ H x y v u Q I T M ⟨i,j,rfl,rfl,U,q⟩;obtain⟨t,rfl⟩:=T;obtain⟨l,rfl⟩:=M;exact add_str (fun l tk=>⟨.str _,H,I.tok _,⟨_,rfl⟩,q⟩) U
def vals1(r:Vals [x] us):∃u,us=[u]/\RelV x u:=by
 cases r with
 |cons I l=>cases l;lia
def vals2(r:Vals [x,y] us):∃u l,us=[u,l]/\RelV x u/\RelV y l:=by
 cases r with
 |cons U M=>
  cases M with
  |cons T I=>cases I;lia
def L3:C6 X (.builtin "abs") (fun xs H Q=>∃i,xs=[.int i]/\Q (.int (if i<0 then -i else i)) H):=by
 rintro pins s σ H xs us Q I r ⟨i,rfl,q⟩;obtain⟨u,rfl,t,rfl⟩:=vals1 r;exact call_abs_int fun u tk=>⟨.int _,H,I.tok _,⟨_,rfl⟩,q⟩
def fW(M:Rs):C6 X (.builtin "max") (fun xs H Q=>∃i j,xs=[.int i,.int j]/\Q (.int (if j > i then j else i)) H):=by
 rintro pins s σ H xs us Q I r ⟨i,j,rfl,q⟩;obtain⟨u,T,rfl,⟨t,rfl⟩,⟨U,rfl⟩⟩:=vals2 r;refine max_two_ints (I.ok.hd M) fun h' tk k=>⟨_,H,I.kept k,?_,q⟩;by_cases l:j > i
 .rw[if_pos l,if_pos l];exact⟨_,rfl⟩
 .rw[if_neg l,if_neg l];exact⟨_,rfl⟩
end
structure lI(h:Heap)(x dx C:Addr)(mA:Str->Option Value):Prop where
 obj:h.get? x=some (PySem.W.instObj C dx)
 ns:h.Ns1 dx mA
 ne:dx≠x
def eN{h:Heap}(n:h.Ns1 dx mA):∃od,h.get? dx=some od/\∀name,PySem.W.lookIn name od=some (mA name):=by
 obtain⟨o,es,ep,M,hd,hk,_,hm⟩:=n;refine⟨o,M,fun name=>?_⟩;have e:=hm name;unfold nsFind findBy at e;unfold PySem.W.lookIn;rw[hd];dsimp only;split
 .grind
 .have a:es.toList.any (·.refKey)=false:=by
   rw[List.any_eq_false];intro y I;obtain⟨z,t,l⟩:=hk y (Array.mem_toList_iff.mp I);simp[DictEntry.refKey,l]
  grind
def lI.look(I:lI h x dx C mA):∃od,PySem.W.InstAt h x (PySem.W.instObj C dx) C (some od)/\∀name,PySem.W.lookIn name od=some (mA name) :=
 let⟨od,l,M⟩:=eN I.ns
 ⟨od,⟨I.obj,rfl,rfl,l⟩,M⟩
def IM.some_of(r:IM (some v) o):∃u,o=some u/\RelV v u:=by
 cases o with
 |none=>exact r.elim
 |some u=>exact⟨u,rfl,r⟩
section
variable{P:F0b}{w:F0c}{H:Hp}{h:Heap}{a C dx:AD}{fs:List (Str×V)}
def p8(Ae:DZ P w H h)(e:H a=some (.ins C dx fs)):∃mA,lI h a dx C mA/\(∀f,IM (fs.lookup f) (mA f))/\PySem.Within mA (fs.map Hq)/\fs.length<=1000/\H dx=some (.own a):=let⟨d,z,ne,ob,mA,n,r,q⟩:=(Ae a _ e);⟨mA,⟨ob,n,ne⟩,r,q,z,d⟩
end
structure vh(K:Fg)(C:Addr):Prop where
 pg:PySem.W.plainGet K C Str.empty=true
 hd:PySem.W.hasDictIn K C=true
 po:PySem.W.plainOver K C=true
 sa:PySem.W.findIn K TW "__setattr__" = some (some (.builtin "object.__setattr__"))
def vh.get{K}(c:vh K C) f:PySem.W.plainGet K C f=true:=c.pg
section
variable{X:Cx}{pins:LT}{σ:St}{H:Hp}{s:SD}{A:F0d}{E:AAo}{Q:AAo}{c:VL}{b:Bool}
inductive Hd(K:Fg)(H:Hp):V->Value->Prop where
 |BV:Hd K H .BV (.type "NoneType")
 |bl (x:Bool):Hd K H (.bl x) (.type "bool")
 |int (i:Int):Hd K H (.int i) (.type "int")
 |str (x:Str):Hd K H (.str x) (.type "str")
 |Zb (x:UInt64):Hd K H (.Zb x) (.type "float")
 |lst {a:Addr} {xs:List V} (e:H a=some Tl):Hd K H KM (.type "list")
 |Eu {a:Addr} {o:Obj} {xs:List V} (e:H a=some (.Eu o Tl)):Hd K H KM (.type "list")
 |tup {a:Addr} {xs:List V} (e:H a=some Jl):Hd K H KM LE
 |dK {a:Addr} {kvs:List (Key×V)} (e:H a=some (.dK kvs)):Hd K H KM (.type "dict")
 |dT {a:Addr} {kvs:List (List Key×V)} (e:H a=some (.dT kvs)):Hd K H KM (.type "dict")
 |ins {a C dx:Addr} {fs:List (Str×V)} (e:H a=some (.ins C dx fs)) (cl:vh K C) (ha:PySem.W.findIn K TW "__class__" = some (some (.builtin "object.__class__")))
   (hn:PySem.W.specialIn K (.builtin "object.__class__") "__get__" = some (some (.builtin "getset_descriptor.__get__"))) (htk:PySem.W.takesIn K (.builtin "object.__class__")=some true)
   (hm:PySem.W.mroIn K C (.type "object")=some true):Hd K H KM TW
def gc(I:BE)(l:RelV x u)(ty:Hd X.K H x t)(e:PySem.W.kitOne X.K t c=some b)(h:∀tk,Q (.bool b) {s with toks:=tk}):wpAny B7 A (call (.builtin "isinstance") [u,c]) Q E s:=by
 cases ty with
 |BV=>cases l;exact ao PySem.W.kitx_none I.Fb True.intro e NE h
 |bl y=>cases l;exact ao PySem.W.kitx_bool I.Fb True.intro e NE h
 |int i=>obtain⟨t,q⟩:=l;cases q;exact ao PySem.W.kitx_int I.Fb True.intro e NE h
 |str y=>obtain⟨t,q⟩:=l;cases q;exact ao PySem.W.kitx_str I.Fb True.intro e NE h
 |Zb y=>obtain⟨t,q⟩:=l;cases q;exact ao PySem.W.kitx_float I.Fb True.intro e NE h
 | @lst a xs ea=>
  cases (show u=Value.ref a from l);obtain⟨_,_,n,_,M⟩:=(I.Ae a _ ea);exact ao PySem.W.kitx_list I.Fb ⟨_,M,rfl⟩ e NE h
 | @Eu a ob xs ea=>
  cases (l);obtain⟨_,_,_,n,_,M⟩:=(I.Ae a _ ea);exact ao PySem.W.kitx_list I.Fb ⟨_,M,rfl⟩ e NE h
 | @tup a xs ea=>
  cases (show u=Value.ref a from l);obtain⟨_,_,_,p⟩:=(I.Ae a _ ea);obtain⟨o,M,T,_⟩:=p;exact ao PySem.W.kitx_tuple I.Fb ⟨o,M,T⟩ e NE h
 | @dK a kvs ea=>
  cases (show u=Value.ref a from l);obtain⟨_,_,vs,_,p⟩:=(I.Ae a _ ea);obtain⟨o,es,ep,M,T,_⟩:=p;exact ao PySem.W.kitx_dict I.Fb ⟨o,M,T.1⟩ e NE h
 | @dT a kvs ea=>
  cases (show u=Value.ref a from l);obtain⟨_,_,xs,_,o,es,ep,M,T,_⟩:=(I.Ae a _ ea);exact ao PySem.W.kitx_dict I.Fb ⟨o,M,T.1⟩ e NE h
 | @ins a C dx fs ea cl ha hn htk hm=>
  cases l;obtain⟨mA,O,_⟩:=p8 I.Ae ea;obtain⟨od,J,_⟩:=O.look;exact ao (PySem.W.kitx_own (cl.get _) cl.hd ha hn htk hm) I.Fb J e NE h
end
structure Bh(k:Nat)(A:Around):Prop where
 hd:A.handled=none
 dp:A.depth+3*k+5<recursionLimit
 un:A.units+16*k+200<cLine
def Bh.mono(r:Bh k A)(h:j<=k:=by decide):Bh j A:=⟨r.hd,by have:=r.dp;lia,by have:=r.un;lia⟩
def Bh.deeper(r:Bh (k+1) A) env:Bh k (A.deeper env) :=
 ⟨r.hd,by have:=r.dp;show A.depth+1+3*k+5<_;lia,by have:=r.un;show A.units+3+16*k+200<_;lia⟩
def Bh.depth(r:Bh k A):A.depth<recursionLimit:=by have:=r.dp;lia
def Bh.units(r:Bh k A):A.units+64<cLine:=by have:=r.un;lia
def uB:TA:=fun _ H Q=>Q [] H
def xm(I:TE)(l:TA):TA:=fun σ H Q=>I σ H fun x T=>l σ T fun xs M=>Q (x::xs) M
section
variable{X:Cx}{e:Expr}{es:AA0}{te:TE}{t:TA}{pos:Pos}
def Au:PA X [] uB:=fun _ _ _ _ H Q I h=>Calls.spliced_nil ⟨[],H,I,.nil,h⟩
def AV(ha:PE X e te)(Z:PA X es t)(Y:starEach cr X.env=EQ::starEach es X.env:=by rfl):PA X cr (xm te t):=by
 intro pos pins s σ H Q I h;rw[Y];exact bK (Ay (ha pins s σ H _ I h) fun u s1 ⟨x,H1,I1,M,U⟩=>Ay (Z pos pins s1 σ H1 _ I1 U) fun us s2 ⟨xs,H2,I2,l,T⟩=>⟨x::xs,H2,I2,.cons M l,T⟩)
def AAO(t:TA):TE:=fun σ H Q=>t σ H fun xs l=>xs.length<=sizeLine/\∀p,l p=none->Q (.ref p) (upd l p Jl)
def AAN(t:TA):TE:=fun σ H Q=>t σ H fun xs l=>xs.length<=sizeLine/\∀p,l p=none->Q (.ref p) (upd l p Tl)
def NR(h:PA X es t):PE X (.Tuple es U pos) (AAO t):=by
 intro pins s σ H Q I M;refine wpAny_Tuple_spliced cx;exact⟨z,us,r,⟨_,Heap.get?_push_size _ rfl,rfl,_,rfl⟩⟩
def Q8(h:PA X es t):PE X (.List es pos) (AAN t):=by
 intro pins s σ H Q I M;refine wpAny_List_spliced cx;exact⟨z,us,0,r,Heap.get?_push_size _ rfl⟩
end
abbrev Sp:=List V->Hp->VK->XK->Prop
abbrev Jr:=List Env->Hp->SD->XK->VL->SD->Prop
structure kC(P:Program)(w:World)(K:Fg)(mg:Str->Option Value)(base:Heap)(A:Around)(outer:List Env)(s:Shared)(H:Hp):Prop where
 frames:A.frames=some outer
 mod:Mod K mg base
 bs:∀b o,base.get? b=some o->s.heap.get? b=some o/\H b=none
 Rr:base.objs.size<=s.heap.objs.size
 HI:s.heap.FunFrames base outer
 Qi:∀b∈GG outer,H b=none
 Ae:DZ P w H s.heap
 bare:AllBare s.gens
 kt:KTb mg H
def CE(outer:List Env)(P:F0b)(w:F0c)(H:Hp)(s:SD)(Q:VK)(u:VL)(s':SD):Prop :=
 ∃v H',s'.os=s.os/\AllBare s'.gens/\Un (GG outer) [] H H' s.heap s'.heap/\DZ P w H' s'.heap/\RelV v u/\Q v H'
def CR(CX:Jr)(outer:List Env)(P:F0b)(w:F0c)(H:Hp)(s:SD)(Q:VK)(E:XK)(r:Result)(s':SD):Prop :=
 match r with
 |.ok (.ret u)=>CE outer P w H s Q u s'
 |.ok _=>False
 |.error e=>CX outer H s E e s'
structure Af(P:Program)(w:World)(K:Fg)(mg:Str->Option Value)(base:Heap)(CX:Jr)(k:Nat)(f:Addr)(fd:FuncData)(ps:List Str)(sp:Sp):Prop where
 len:∀vs H Q E,sp vs H Q E->vs.length=ps.length
 run:∀(A:Around) (outer:List Env) (s:Shared) (H:Hp) (args:Args) (us:List Value) (vs:List V) (Q:VK) (E:XK),Bh k A->kC P w K mg base A outer s H->BindsTo s fd args (ps.zip us)->Vals vs us->sp vs H Q E ->
  codeAny (model P w) A (.call (.ref f) args) (CR CX outer P w H s Q E) s
def Af.mono{K}(F:Af P w K mg base CX j f fd ps sp)(h:j<=k:=by decide):Af P w K mg base CX k f fd ps sp:=⟨F.len,fun A outer s H args us vs Q E l=>F.run A outer s H args us vs Q E (l.mono h)⟩
def Af.imp{K}(F:Af P w K mg base CX k f fd ps sp) (h:∀vs H Q E,l vs H Q E->sp vs H Q E):Af P w K mg base CX k f fd ps l :=
 ⟨fun vs H Q E q=>F.len vs H Q E (h _ _ _ _ q),fun A outer s H args us vs Q E T U hb I M=>F.run A outer s H args us vs Q E T U hb I (h _ _ _ _ M)⟩
section
variable{X:Cx}{pins:LT}{σ:St}{H:Hp}{s s':SD}
def Inv.ua(I:BE):kC X.prog X.w X.K X.mg X.base X.A X.stack s H :=
 ⟨I.ok.frames,I.ok.mod,I.bs,Nat.le_trans I.ok.Rr I.sz,I.stack,I.R7,I.Ae,I.bare,I.kt⟩
def Inv.after(I:BE)(h:CE X.stack X.prog X.w H s Q u s'):EP X pins σ Q u s':=by
 obtain⟨v,H',os,bare,un,Ae,r,q⟩:=h;obtain⟨M,g,d,t,l⟩:=s';obtain rfl:l=s.os:=os;exact⟨v,H',I.call un Ae bare (fun b z=>by grind),r,q⟩
end
def Ve(sp:Sp)(l:ABC)(E:XK)(t:TA):TE:=fun σ H Q=>t σ H fun vs I=>sp (vs++l) I Q E
def Binds(K:Fg)(fd:F0a)(ps:AAy)(ds:AAn):Prop :=
 ∀s us,K.In s.heap->(us++ds).length=ps.length->BindsTo s fd ⟨us,[]⟩ (ps.zip (us++ds))
def Binds.all{K}(h:∀us ,us.length=ps.length->bindArgs fd ⟨us,[]⟩=pure (ps.zip us)):Binds K fd ps []:=fun s us _ l=>by
 rw[(MN)]at l ⊢;exact .of_eq (h us l)
def Passes(CX:Jr)(X:Cx)(E:XK):Prop:=∀pins (σ:St) H s e s',Inv X pins σ H s->CX X.stack H s E e s'->X.xe e s'
section
variable{X:Cx}{CX:Jr}{k:Nat}{f:AD}{fd:F0a}{ps:AAy}{sp:Sp}{dvs:ABC}{ds:AAn}{E:XK}{x:Str}{p pos:Pos}{e:Expr}{es:AA0}{t:TA}
def fZ{σ:St}(F:Af X.prog X.w X.K X.mg X.base CX k f fd ps sp)(U:Bh k X.A)(hb:Binds X.K fd ps ds)(hd:Vals dvs ds)(T:Passes CX X E) (I:BE)(r:Vals vs us)(h:sp (vs++dvs) H Q E):wpAny B7 X.A (call (.ref f) us) (EP X pins σ Q) X.xe s:=by
 have M:=r.append hd;refine wpAny_call (codeAny_mono (F.run X.A X.stack s H _ _ _ Q E U I.ua (hb s us I.Fb (show(us++ds).length=ps.length by rw[<-M.length];exact F.len _ _ _ _ h)) M h) fun r s' l=>?_);cases r with
 |error e=>exact T pins σ H s e s' I l
 |ok fl=>
  cases fl with
  |ret u=>exact I.after l
  |next=>exact False.elim l
  |brk=>exact False.elim l
  |cont=>exact False.elim l
def Zo(F:Af X.prog X.w X.K X.mg X.base CX k f fd ps sp)(Y:Bh k X.A)(hg:Gl X x)(hm:X.mg x=some (.ref f))(hk:PySem.W.keepIn X.K (.ref f)=true)(hb:Binds X.K fd ps ds)(hd:Vals dvs ds)(U:Passes CX X E) (ha:PA X cr t)(M:Fk=false:=by decide)(Z:starEach cr X.env=EQ::starEach es X.env:=by rfl)(l:(backTo pos ON).any Hq=false:=by rfl):PE X Cl (Ve sp dvs E t):=fun pins s σ H Q I h=>bF (IH I hg hm (PySem.W.callWith_K I.ok.mod.Mj hk (Ay TD fun us s1 ⟨vs,H1,T,r,q⟩=>⟨T.Fb,fZ F Y hb hd U T r q⟩) Z l) M)
def jI(F:Af X.prog X.w X.K X.mg X.base CX k f fd ps sp)(T:Bh k X.A)(hg:Gl X x)(hm:X.mg x=some (.ref f))(hk:PySem.W.keepIn X.K (.ref f)=true)(hb:Binds X.K fd ps ds)(hd:Vals dvs ds)(M:Passes CX X E) (l:Fk=false:=by decide):PE X (.Call (.Name x p) [] [] pos) (Ve sp dvs E uB):=fun pins s σ H Q I h=>bF (IH I hg hm (PySem.W.callWith_K0 I.Fb hk (fZ F T hb hd M I .nil h)) l)
end
structure BQ(N P:List Str)(sc:Scope):Prop where
 kind:sc.kind=.function
 co:sc.isCoroutine=false
 gen:sc.isGenerator=false
 nd:N.Nodup
 pre:N.take P.length=P
 par:∀x∈P,sc.names.lookup x=some .local\/sc.names.lookup x=some .cell
 sG:∀y∈sc.names,y.2≠.free
theorem Ub{kindOf}:∀ {binds} {m},(∀v,(x,v) ∉ binds)->bindL kindOf binds m x=m x
 |[],_,_=>rfl
 |(n,v)::r,m,h=>by
  unfold bindL;rw[Ub fun w l=>by grind];split
  .grind
  .rfl
theorem Ua{kindOf}:∀ {binds} {m},(∀v,(x,v) ∉ binds)->bindC kindOf binds m x=m x
 |[],_,_=>rfl
 |(n,v)::r,m,h=>by
  unfold bindC;rw[Ua fun w l=>by grind];split
  .rfl
  grind
theorem Uo{kindOf}{x}{v}:∀ {P:List Str} {vs} {i:Nat} {m},P.Nodup->P[i]? = some x->vs[i]? = some v->kindOf x=some .local ->
  bindL kindOf (P.zip vs) m x=some v
 |[],_,_,_,_,h,_,_=>by grind
 |_::_,[],_,_,_,_,h,_=>by grind
 |p::P,w::vs,0,m,nd,l,I,hk=>by
  simp at l I;subst l;subst I;show bindL kindOf ((p,w)::P.zip vs) m p=_;unfold bindL;rw[Ub fun v M=>(List.nodup_cons.mp nd).1 (List.of_mem_zip M).1,if_pos hk];simp
 |p::P,w::vs,i+1,m,nd,l,I,hk=>by
  unfold bindL;exact Uo (List.nodup_cons.mp nd).2 (by simpa using l) GM hk
theorem Uw{kindOf}{x}{v}:∀ {P:List Str} {vs} {i:Nat} {m},P.Nodup->P[i]? = some x->vs[i]? = some v->kindOf x≠some .local ->
  bindC kindOf (P.zip vs) m x=some v
 |[],_,_,_,_,h,_,_=>by grind
 |_::_,[],_,_,_,_,h,_=>by grind
 |p::P,w::vs,0,m,nd,l,I,hk=>by
  simp at l I;subst l;subst I;show bindC kindOf ((p,w)::P.zip vs) m p=_;unfold bindC;rw[Ua fun v M=>(List.nodup_cons.mp nd).1 (List.of_mem_zip M).1,if_neg hk];simp
 |p::P,w::vs,i+1,m,nd,l,I,hk=>by
  unfold bindC;exact Uw (List.nodup_cons.mp nd).2 (by simpa using l) GM hk
def start(N:AAy)(vs:ABC):St:=vs.map some++List.replicate (N.length-vs.length) none
def B5(CX:Jr)(P:F0b)(w:F0c)(K:Fg)(mg:AAs)(base:Heap)(N:AAy)(qual:Str)(scope:Scope)(f:AD)(cd:VL)(A:F0d)(outer:List Env)(s:SD)(H:Hp)(E:XK):Cx where
 prog:=P
 w:=w
 K:=K
 mg:=mg
 base:=base
 A:=A.deeper (envOfC qual scope s.heap.objs.size f cd)
 N:=N
 s₀:=s
 H₀:=H
 env:=envOfC qual scope s.heap.objs.size f cd
 outer:=outer
 stack:=envOfC qual scope s.heap.objs.size f cd::outer
 ex:=[]
 calm:=true
 fn:=fun _=>true
 pn:=[]
 xe:=fun e s'=>wpAny (model P w) (A.deeper (envOfC qual scope s.heap.objs.size f cd)) (leaving (envOfC qual scope s.heap.objs.size f cd) e) (fun _ s''=>CX outer H s E e s'') (fun e' s''=>CX outer H s E e' s'') s'
def V6{sc:Scope}(h:sc.names.lookup x=some .cell):∃c,(cellsFrom n sc.names []).lookup x=some c:=Option.isSome_iff_exists.mp (PySem.W.cellsFrom_some sc.names n [] (.inl h))
def gH{CX:Jr}{P:F0b}{w:F0c}{K:Fg}{base:Heap}{N ps:AAy}{qual:Str}{scope:Scope}{f:AD}{cd:VL}{A:F0d}{outer:List Env}{s s1:SD}{H:Hp}{E:XK}{us:AAn}{vs:ABC} (S:BQ N ps scope)(hd:A.handled=none)(I:kC P w K mg base A outer s H)(hl:vs.length=ps.length)(r:Vals vs us) (x:InCallC s s.heap.objs.size (bindL (envOfC qual scope s.heap.objs.size f cd).kindOf (ps.zip us) fun _=>none) (cellsFrom SC scope.names []) (bindC (envOfC qual scope s.heap.objs.size f cd).kindOf (ps.zip us) fun _=>none) s1):Inv (B5 CX P w K mg base N qual scope f cd A outer s H E) [] (start N vs) H s1:=by
 have hpl:ps.length<=N.length:=by have:=ae List.length S.pre;rw[(FL)]at this;lia
 obtain⟨Z,tk,rfl,hk⟩:=x.done;have M:∀b:AD,b ∉ (B5 CX P w K mg base N qual scope f cd A outer s H E).ex:=fun b z=>absurd (show b∈([]:List AD) from z) By;refine⟨⟨I.mod,S.kind,rfl,rfl,Nat.le_refl _,fun y z c Z l=>?_,fun y U=>?_,fun y c _ h=>?_,fun _=>hd,Around.frames_deeper I.frames,.inr ⟨rfl,rfl⟩,fun b z=>absurd z (M b),I.bs,I.Rr,fun b _ _=>M b,fun b z=>absurd z (M b),I.HI,I.Qi,I.kt⟩,
  rfl,I.bare,Un.kept hk,⟨_,x.toInCall.ns,fun i y v Z l h3=>?_⟩,fun y c h=>⟨_,x.cell y c h⟩,I.Ae.fresh M0,fun y c h=>?_,fun p Y=>absurd (show p∈([]:List (AD×Obj)) from Y) By,I.Ae.kept hk,?_⟩
 .exact name_of_addr x.apart (PySem.mem_of_lookup Z) (PySem.mem_of_lookup l)
 .rcases U with U|U
  .exact V6 U
  .exact absurd rfl (S.sG _ (PySem.mem_of_lookup U))
 .exact ay (x.above y c (PySem.mem_of_lookup h))
 .have hi:i<vs.length:=by
   unfold start at l;by_cases hi:i<vs.length
   .exact hi
   .rw[List.getElem?_append_right (by simpa using hi)]at l;rw[List.getElem?_replicate]at l;split at l<;>cases l
  have ha:vs[i]? = some v:=by
   unfold start at l;rw[List.getElem?_append_left (by simpa using hi),(BG)]at l;cases e:vs[i]? with
   |none=>rw[e]at l;cases l
   |some a=>rw[e]at l;cases l;rfl
  obtain⟨u,hu,rv⟩:=r.get ha;have Y:ps[i]? = some y:=by
   rw[<-S.pre,List.getElem?_take_of_lt AS];exact Z
  have T:ps.Nodup:=by rw[<-S.pre];exact S.nd.sublist (List.take_sublist _ _)
  refine⟨u,rv,?_⟩;rcases S.par y (aL Y) with k|k
  .exact .inl ⟨k,Uo T Y hu k⟩
  .obtain⟨c,e⟩:=V6 k;refine .inr ⟨.inl k,c,e,?_⟩;have q:=x.cell y c e;rw[Uw T Y hu (by show scope.names.lookup y≠_;rw[k];decide)]at q;exact q
 .exact I.Ae.fresh (ay (x.above y c (PySem.mem_of_lookup h)))
 .unfold start;show _=N.length;rw[(Ck),Pi,List.length_replicate]
  lia
def mH{K}{dV kV doc pm cdv ct oc} (lk:K.lookup f=some ⟨oc,od,.func (PySem.W.fnOf name qual params l scope dV kV doc pm an cdv ct),osl⟩)(hcd:PySem.W.codeIn K cdv qual=true)(S:BQ N ps scope) (len:∀vs H Q E,sp vs H Q E->vs.length=ps.length) (I:∀A outer s H vs Q E,Bh k (A.deeper (envOfC qual scope s.heap.objs.size f cdv))->sp vs H Q E ->∃t,HC (B5 CX P w K mg base N qual scope f cdv A outer s H E) l t/\t { nx:=fun _ H'=>Q .BV H',rt:=Q} (start N vs) H):Af P w K mg base CX (k+1) f (PySem.W.fnOf name qual params l scope dV kV doc pm an cdv ct) ps sp:=by
 refine⟨len,fun A outer s H args us vs Q E Z U hb r T=>?_⟩;have KX:=U.mod.Mj.keeps fun b o e=>(U.bs b o e).1;refine codeAny_call_function Z.depth (KX _ _ lk) rfl S.co S.gen rfl (PySem.W.codeRec_of KX hcd) (hb _ _ _ _ (wpAny_newFunctionEnv_cells S.kind (fun⟨n,v⟩ hy=>by
  rcases S.par n (List.of_mem_zip hy).1 with q|q
  .exact .inl q
  .exact .inr ⟨q,PySem.W.cellsFrom_some _ _ _ (.inl q)⟩) fun env he s1 x=>?_))
 subst he;refine⟨(U.mod.nolimit.keeps fun b o e=>(U.bs b o e).1).keeps x.toInCall.keep,codeAny_func ?_⟩;obtain⟨t,ht,hq⟩:=I A outer s H vs Q E (Z.deeper _) T;refine aU (ht [] s1 _ H _ (gH S Z.hd U (len _ _ _ _ T) r x) hq) (fun fl s' M=>?_) fun e s' M=>M;have fin:∀ {σ':St} {H':Hp} {v:V} {u:VL},Inv (B5 CX P w K mg base N qual scope f cdv A outer s H E) [] σ' H' s'->RelV v u->Q v H'->CE outer P w H s Q u s' :=
  fun {σ' H' v u} J Y q=>⟨v,H',J.os,J.bare,J.base,J.Ae,Y,q⟩
 cases fl with
 |ret u=>
  obtain⟨v,σ',H',J,Y,q⟩:=M;exact fin J Y q
 |next=>
  obtain⟨σ',H',J,q⟩:=M;exact fin (v:=V.BV) J rfl q
 |brk=>
  obtain⟨_,_,_,q⟩:=M;exact False.elim q
 |cont=>
  obtain⟨_,_,_,q⟩:=M;exact False.elim q
section
variable{X:Cx}{x:Str}{p pos:Pos}{e:Expr}{es:AA0}{t:TA}{id T:String}{r:List V->Hp->VK->Prop}
def y7(r:List V->Hp->VK->Prop)(t:TA):TE:=fun σ H Q=>t σ H fun vs l=>r vs l Q
def EX(hc:C6 X (.builtin id) r)(hg:Gl X x)(hm:X.mg x=none)(Z:bootBuiltins x=some (.builtin id))(ha:PA X cr t)(hn:x ≠ "__name__":=by decide)(M:Fk=false:=by decide) (he:starEach cr X.env=EQ::starEach es X.env:=by rfl)(l:(backTo pos ON).any Hq=false:=by rfl):PE X Cl (y7 r t):=fun pins s σ H Q I h=>bF (Fi I hg hm Z (PyProof.Rows.callWith_builtin1 (Ay TD fun us s1 ⟨vs,H1,I1,U,Y⟩=>hc pins s1 σ H1 vs us Q I1 U Y) he l) hn M)
def Ul(hc:C6 X (.type T) r)(hg:Gl X x)(hm:X.mg x=none)(Z:bootBuiltins x=some (.type T))(ha:PA X cr t)(hn:x ≠ "__name__":=by decide)(M:Fk=false:=by decide) (he:starEach cr X.env=EQ::starEach es X.env:=by rfl)(l:(backTo pos ON).any Hq=false:=by rfl):PE X Cl (y7 r t):=fun pins s σ H Q I h=>bF (Fi I hg hm Z (ax (Ay TD fun us s1 ⟨vs,H1,I1,U,Y⟩=>hc pins s1 σ H1 vs us Q I1 U Y) he l) hn M)
end
end L2
namespace HT
open PySem PyProof.Rows
section
variable{prog:F0b}{w:F0c}{A:F0d}{E:AAo}{s:SD}
def qH(ht:IsTup s.heap t vs.toArray)(hb:IsTup s.heap b I.toArray)(hv:vs≠[]) (h1:I=[]->Q (.ref t) s)(h2:I≠[]->Q Go {s with heap:=s.heap.push { cls:=.type "tuple",data:=.seq (vs++I).toArray} }) (hsz:vs.length+I.length<=sizeLine):wpAny As A (binaryOp .Add (.ref t) (.ref b)) Q E s:=by
 obtain⟨⟨cls,dd,data,sl⟩,U,hc,n,hd⟩:=id ht;obtain⟨⟨cls2,T,data2,M⟩,l,Z,n2,Y⟩:=id hb;subst hc hd Z Y;by_cases hw:I=[]
 .exact concat_meets ⟨_,U,rfl⟩ ⟨_,l,rfl⟩ noFill_tuple_add seq_tuple_add PySem.F.slot_tuple_add PySem.F.entry_tuple_add (PySem.F.args_tuple_add_2 _ _)
   (tuple_addW1 t b vs.toArray I.toArray n n2 dd T sl M GM GM) ⟨U,l,h1 hw⟩
 .refine concat_meets ⟨_,U,rfl⟩ ⟨_,l,rfl⟩ noFill_tuple_add seq_tuple_add PySem.F.slot_tuple_add PySem.F.entry_tuple_add (PySem.F.args_tuple_add_2 _ _)
   (tuple_addW2 t b vs.toArray I.toArray n n2 dd T sl M (by simp_all) GM hsz) ⟨U,l,?_⟩
  grind
def Bw(n d:Nat):Option Int->Nat
 |none=>d
 |some v=>if v<0 then(v+n).toNat else min v.toNat n
def Ly(n d:Nat):Bw n d none=d:=rfl
def Ja(n d k:Nat):Bw n d (some k)=min k n:=by
 rfl
def uo n d (hd:d<=n) o:Bw n d o<=n:=by
 cases o with
 |none=>exact hd
 |some v=>
  show(if v<0 then(v+_).toNat else min v.toNat n)<=n
  lia
def ZG v (n d:Nat):(if v<0 then max (v+(n:Int)) 0 else min v n)=((Bw n d (some v))):=by
 show _=(((if v<0 then(v+_).toNat else min v.toNat n):Nat):Int)
 lia
def bh lo hi (n:Nat):Builtin.Slice.sliceAdjust lo hi 1 n=(((Bw n 0 lo):Int),((Bw n n hi):Int)):=by
 refine Prod.ext ?_ ?_
 .cases lo with
  |none=>rfl
  |some v=>exact ZG v n 0
 .cases hi with
  |none=>rfl
  |some v=>exact ZG v n n
def cw(i j:Nat):Builtin.Slice.slicePlaces i j 1=j-i:=by
 unfold Builtin.Slice.slicePlaces
 lia
def RZ(p:IsPart v o)(h:Q o s):wpAny As A (Builtin.Slice.slicePartIndex v) Q E s:=by
 cases p with
 |none=>exact slicePart_none h
 |int i t=>exact slicePart_int h
def KW{lo hi}{n:Nat}(Z:s.heap.IsSliceOf sl T M .none)(Y:IsPart T lo)(U:IsPart M hi) (h:Q (((Bw n 0 lo)),1,Bw n n hi-Bw n 0 lo) s):wpAny As A (Builtin.Slice.sliceApplied (.ref sl) (pure n)) Q E s:=by
 obtain⟨os,l,hcs,I⟩:=id Z;refine Wb (Wb (av l I (x:=T) rfl (Wb (av l I (x:=M) rfl (Wb (av l I (x:=.none) rfl (aB (Wb (slicePart_none (Wb (RZ Y (Wb (RZ U (Wb ar))))))))))))));show wpAny _ _ (match Builtin.Slice.sliceAdjust lo hi 1 _ with|(lo,hi)=>pure (lo,_,Builtin.Slice.slicePlaces lo hi 1)) _ _ s;rw[bh lo hi n];show wpAny _ _ (pure (_,_,Builtin.Slice.slicePlaces _ _ 1)) _ _ s;rw[cw];exact aB h
def l0(xs:Array VL)(i k:Nat):((List.range k).filterMap fun(m:Nat)=>xs[(i+(m:Int)*1).toNat]?).toArray=((xs.toList.drop i).take k).toArray:=by
 rw[(show(fun(m:Nat)=>xs[((i:Int)+m*1).toNat]?)=fun m=>xs[i+m]? by
  grind)]
 have:=pick_run xs i k;rw[List.filterMap_map,(show(_ ∘ fun x=>i+x)=fun m=>xs[i+m]? from rfl)]at this
 lia
def Ov{t sl:AD}{items:Array VL}{vl Z:VL}{lo hi:Option Int}{Q:AAo}(I:IsTup s.heap t items)(hs:s.heap.IsSliceOf sl vl Z .none)(pl:IsPart vl lo)(pu:IsPart Z hi) (hw:¬(Bw items.size 0 lo=0/\Bw items.size items.size hi=items.size)) (h:Q Go {s with heap:=s.heap.push { cls:=.type "tuple",data:=.seq ((items.toList.drop (Bw items.size 0 lo)).take (Bw items.size items.size hi-Bw items.size 0 lo)).toArray} }) (hsz:items.size<=sizeLine):wpAny As A (getItem (.ref t) (.ref sl)) Q E s:=by
 have l:=by
  show((items.toList.drop (Bw items.size 0 lo)).take (Bw items.size items.size hi-Bw items.size 0 lo)).toArray.size<=sizeLine;rw[(K9),(FL),List.length_drop,(Wg)]
  lia
 have hj:Bw items.size items.size hi<=items.size:=uo _ _ M0 hi;obtain⟨os,M,U,hds⟩:=id hs;have Y:s.TypeIs (.ref sl) "slice" := ⟨os,M,U⟩;unfold getItem
 try with_reducible refine aS ?_
 first|refine Wb ar|skip
 refine Wb (wpAny_sequenceKey I.typeIs AC ?_);refine Wb (aa (name:=Str.ofString "__getitem__") I.typeIs bM
  (aT bM I.typeIs entry_tuple_getitem ?_ (args_tuple_getitem _ _)))
 show wpAny _ _ (Builtin.Tuple.tupleItemsOf (.ref t)>>=_) _ _ s;refine Wb (tupleItemsOf_ I ?_);refine Wb (wpAny_typeOf Y ?_);rw[if_pos AC];refine Wb (KW hs pl pu ?_);have T:¬((((Bw items.size 0 lo:Nat):Int)==0&&(1:Int)==1&&(Bw items.size items.size hi-Bw items.size 0 lo)==items.size)=true):=by
  intro q;rw[(HW),(HW)]at q;have q1:((Bw items.size 0 lo:Nat):Int)=0:=eq_of_beq q.1.1;exact hw ⟨by lia,by lia⟩
 show wpAny _ _ (if _=true then _ else _) _ _ s;rw[if_neg T,l0]
 first
  |exact Wb (m:=Builtin.Tuple.tupleExact _) (ag (aB ⟨_,rfl,wpAny_pure h⟩) l)
  |exact Wb (m:=Builtin.Tuple.tupleExact _) (ag (Wb (aB (aB ⟨_,rfl,wpAny_pure h⟩))) l)
  |exact Wb _
  |exact Wb _
end
end HT
namespace L2
open PySem PySem.Spec PyProof.Rows
abbrev TO:=St->Hp->(Option Int->Hp->Prop)->Prop
def PO(X:Cx)(e:Option Expr)(t:TO):Prop :=
 ∀pins s (σ:St) H Q,Inv X pins σ H s->t σ H Q ->
  wpAny B7 X.A (evalPart e X.env) (fun u s'=>∃o H',Inv X pins σ H' s'/\IsPart u o/\Q o H') X.xe s
def oP:TO:=fun _ H Q=>Q none H
def yc(t:TE):TO:=fun σ H Q=>t σ H fun x l=>∃i,x=.int i/\Q (some i) l
def intsAre_of:∀ {us},Vals (ns.map V.int) us->IntsAre us ns:=by
 induction ns with
 |nil=>intro us r;cases r;exact .nil
 |cons n ns M=>
  intro us r;cases r with
  |cons I l=>
   obtain⟨t,e⟩:=I;subst e;exact .cons n t (M l)
section
variable{X:Cx}{e:Expr}{te:TE}{lo hi:Option Expr}{tl th:TO}{pos p2:Pos}
def ZA:PO X none oP:=fun pins s σ H Q I h=>aB ⟨none,H,I,.none,h⟩
def ZU(h:PE X e te):PO X (some e) (yc te):=by
 intro pins s σ H Q I T;refine Ay (h pins s σ H _ I T) fun u s1 ⟨x,Y,U,l,M⟩=>?_;obtain⟨i,rfl,q⟩:=M;obtain⟨t,rfl⟩:=l;exact⟨some i,Y,U,.int i t,q⟩
def Ud(X:Cx)(r:V->Option Int->Option Int->Hp->VK->Prop):Prop :=
 ∀pins s (σ:St) H x v I l lo hi sl Q,Inv X pins σ H s->RelV x v->s.heap.IsSliceOf sl I l .none->IsPart I lo->IsPart l hi->r x lo hi H Q ->
  ∃T id,typeLookup (.type T) "__getitem__" = pure (some (.builtin id))/\s.TypeIs v T/\wpAny B7 X.A (getItem v (.ref sl)) (EP X pins σ Q) X.xe s
def Ud.or(h:Ud X r)(h':Ud X r'):Ud X (fun x lo hi H Q=>r x lo hi H Q\/r' x lo hi H Q):=by
 intro pins s σ H x v M l lo hi sl Q I T Z Y U q;rcases q with q|q
 .exact h pins s σ H x v M l lo hi sl Q I T Z Y U q
 .exact h' pins s σ H x v M l lo hi sl Q I T Z Y U q
def tSl(r:V->Option Int->Option Int->Hp->VK->Prop)(te:TE)(tl th:TO):TE:=fun σ H Q=>te σ H fun x T=>tl σ T fun l M=>th σ M fun u I=>r x l u I Q
def XX(hr:Ud X r)(he:PE X e te)(hl:PO X lo tl)(hu:PO X hi th):PE X (.Subscript e (.Slice lo hi none p2) pos) (tSl r te tl th):=by
 intro pins s σ H Q I h;refine Subscript_ (Ay (he pins s σ H _ I h) fun v s1 ⟨x,H1,I1,Z,q1⟩=>wpAny_Slice (Ay (hl pins s1 σ H1 _ I1 q1) fun U s2 ⟨l,H2,I2,pl,q2⟩=>Ay (hu pins s2 σ H2 _ I2 q2) fun M Y ⟨u,H3,I3,pu,q3⟩=>aB ?_));obtain⟨T,id,hT,ht,hg⟩:=hr pins _ σ H3 x v U M l u Y.heap.objs.size Q (I3.kept fun b ob q=>aE _ q) Z (Heap.IsSliceOf.new ..) pl pu q3;exact tail_any ht hT hg Iq
def MV(xs:ABC)(lo hi:Option Int):ABC:=(xs.drop (HT.Bw xs.length 0 lo)).take (HT.Bw xs.length xs.length hi-HT.Bw xs.length 0 lo)
def O5 xs lo hi:(MV xs lo hi).length<=xs.length:=by
 unfold MV
 grind
def AAC(K:Fg):V->Option Int->Option Int->Hp->VK->Prop:=fun x lo hi H Q=>∃a xs,x=.ref a/\A4 K H a xs /\
 ¬W1/\∀p,H p=none->Q (.ref p) (upd H p (.tup (MV xs lo hi)))
def gM:Ud X (AAC X.K):=by
 rintro pins s σ H x v vl vu lo hi sl Q I U hs Z Y ⟨a,xs,rfl,hx,hw,q⟩;cases U;obtain⟨M,r,T,hz⟩:=I.tuple hx;have l:M.toArray.size=xs.length:=r.length.symm;refine⟨"tuple",_,PyProof.Rows.slot_tuple_getitem.lookup,T.typeIs,HT.Ov T hs Z Y AS ?_ AS⟩;rw[l];refine⟨.ref s.heap.objs.size,_,I.laid (fun b ob q=>aE _ q) M0 ?_,rfl,q _ (I.Ae.fresh M0)⟩;exact⟨aQ (O5 xs lo hi) hz,_,(r.drop _).take _,IsTup.new _ _⟩
def Vals.Oi(r:Vals xs us):us=[] ↔ xs=[]:=by
 cases r with
 |nil=>simp
 |cons _ _=>simp
end
def Qs(n:Nat)(i:Int):Option Nat:=if 0<=i then(if i<n then some i.toNat else none) else if -n<=i then some (i+n).toNat else none
def Fw{α:Type}(xs:List α)(i:Int):Option α:=(Qs xs.length i).bind fun j=>xs[j]?
def ZL(h:Qs n i=some j):seqIndex? i n=some j/\j<n/\-n<=i/\i<n:=by
 unfold Qs at h;by_cases h0:0<=i
 .rw[if_pos h0]at h;by_cases l:i<n
  .rw[if_pos l]at h;exact⟨by rw[seqIndex_of h0 l,(af h)],by lia,by lia,l⟩
  lia
 .rw[if_neg h0]at h;by_cases l:-n<=i
  .rw[if_pos l]at h;exact⟨by rw[seqIndex_neg AS l,(af h)],by lia,l,by lia⟩
  lia
def Td(h:Fw xs i=some v):∃j,seqIndex? i xs.length=some j/\xs[j]? = some v/\j<xs.length/\-xs.length<=i/\i<xs.length:=by
 unfold Fw at h;cases e:Qs xs.length i with
 |none=>grind
 |some j=>
  obtain⟨T,M,I,l⟩:=ZL e
  grind
def FH{j:Nat}{v}(h:xs[j]? = some v):Fw xs j=some v:=by
 unfold Fw;rw[(show Qs xs.length _=some j by
  unfold Qs
  grind)];exact h
def Ta(b:Expr):Prop:=∀o i,subscripted b false o i=operate [o,i] (getItem o i)
def PL(X:Cx)(r:R2):Prop :=
 ∀value slice pins s (σ:St) H x y v u Q,Inv X pins σ H s->RelV x v->RelV y u->r x y H Q ->
  subscripted slice false v u=operate [v,u] (getItem v u)->wpAny B7 X.A (subscriptTail value slice v u) (EP X pins σ Q) X.xe s
def zF(X:Cx)(id:String)(r:V->List V->Hp->VK->Prop):Prop :=
 ∀pins s (σ:St) H x xs v us Q,Inv X pins σ H s->RelV x v->Vals xs us->r x xs H Q ->
  wpAny B7 X.A (call (.builtin id) (v::us)) (EP X pins σ Q) X.xe s
section
variable{X:Cx}{a b:Expr}{ta tb:TE}{pos:Pos}
def PL.or(h:PL X r)(h':PL X U):PL X (fun x y H Q=>r x y H Q\/U x y H Q):=by
 intro value slice pins s σ H x y v u Q I M l q T;rcases q with q|q
 .exact h value slice pins s σ H x y v u Q I M l q T
 .exact h' value slice pins s σ H x y v u Q I M l q T
def IU(U:PL X r)(ha:PE X a ta)(hb:PE X b tb)(T:Ta b):PE X (.Subscript a b pos) (iW r ta tb):=fun pins s σ H Q I h=>Subscript_ (la ha hb I h fun v u s2 x y Z Y M l q=>U a b pins s2 σ Z x y v u Q Y M l q (T _ _))
def uf(K:Fg):R2:=fun x y H Q=>∃p xs i v,x=.ref p/\y=.int i/\Am K H p xs/\Fw xs i=some v/\Q v H
def ju(K:Fg):R2:=fun x y H Q=>∃p xs i v,x=.ref p/\y=.int i/\A4 K H p xs/\Fw xs i=some v/\Q v H
def uE:R2:=fun x y H Q=>∃z i c,x=.str z/\y=.int i/\z.length<=sizeLine/\Fw z.cps.toList i=some c/\Q (.str ⟨#[c]⟩) H
def Zs:PL X (uf X.K):=by
 intro value slice pins s σ H x y v u Q I rx ry h Y;obtain⟨p,xs,i,z,rfl,rfl,hq,he,q⟩:=h;cases rx;obtain⟨t,rfl⟩:=ry;obtain⟨T,r,M,hz⟩:=I.list hq;obtain⟨j,U,h2,h3,h4,h5⟩:=Td he;obtain⟨w,ew,l⟩:=r.get h2;have hl:=r.length;have hn:=OC;have fin:EP X pins σ Q w s:=⟨z,H,I,l,q⟩;by_cases h0:0<=i
 .have Z:=by
   rw[seqIndex_of h0 h5]at U;exact af U
  exact item_listR M.isList h0 AS GM fin Y
 .have Z:(i+T.toArray.size).toNat=j:=by
   rw[seqIndex_neg AS h4]at U
   grind
  exact subscriptTail_builtinR M.isList.typeIs slot_list_getitem.lookup
   (wpAny_getItem_list_neg M.isList AS GM AS (by rw[Z];simpa using ew) ⟨rfl,fin⟩) Y
def KI:PL X (ju X.K):=by
 intro value slice pins s σ H x y v u Q I U T h Z;obtain⟨p,xs,i,z,rfl,rfl,hq,he,q⟩:=h;cases U;obtain⟨t,rfl⟩:=T;obtain⟨Y,r,M,hz⟩:=I.tuple hq;obtain⟨j,h1,h2,h3,h4,h5⟩:=Td he;obtain⟨w,ew,l⟩:=r.get h2;have hn:=OC;exact subscriptTail_builtinR M.typeIs slot_tuple_getitem.lookup
  (getItem_tuple M AS AS (by rw[(K9),<-r.length];exact h1) GM ⟨rfl,(⟨z,H,I,l,q⟩)⟩) Z
def uP:PL X uE:=by
 intro value slice pins s σ H x y v u Q I T M h U;obtain⟨z,i,c,rfl,rfl,hz,Y,q⟩:=h;obtain⟨t,rfl⟩:=T;obtain⟨t',rfl⟩:=M;obtain⟨j,l,h2,h3,h4,Z⟩:=Td Y;rw[(show z.cps.toList.length=z.length by simp[Str.length])]at l h4 Z;have hn:=OC;exact tail_any (typeIs_str s z t) slot_str_getitem.lookup (getItem_str (by
  lia) (by rw[l];simpa using h2) ⟨.str _,H,I.tok _,⟨_,rfl⟩,q⟩) U
def rIx(K:Fg):R2:=fun x y H Q=>uf K x y H Q\/ju K x y H Q\/uE x y H Q
def rS:PL X (rIx X.K):=Zs.or (KI.or uP)
def cJ(l:AAn) n j u:Obj.mapSeq (·.setIfInBounds j u) { cls:=.type "list",data:=.seq l.toArray n}={ cls:=.type "list",data:=.seq (l.set j u).toArray n}:=by
 simp[Obj.mapSeq]
def Inv.lst{σ:St}(I:BE)(h:H p=some Tl):∃(l:AAn) (n:Nat),Vals xs l/\s.heap.get? p=some { cls:=.type "list",data:=.seq l.toArray n}/\xs.length<=sizeLine:=by
 obtain⟨z,l,n,r,e⟩:=I.Ae p _ h
 grind
def Inv.tH{σ:St}{M l:AAn}(I:BE)(h:H p=some Tl) (U:s.heap.get? p=some { cls:=.type "list",data:=.seq M.toArray n})(hf:f { cls:=.type "list",data:=.seq M.toArray n}={ cls:=.type "list",data:=.seq l.toArray T})(r:Vals ys l)(hz:ys.length<=sizeLine) t : Inv X pins σ (upd H p KB) {s with heap:=s.heap.update p f,toks:=t}:=by
 have e:(s.heap.update p f).get? p=some { cls:=.type "list",data:=.seq l.toArray T}:=by
  rw[Heap.get?_update_self f U (by rw[hf]<;>rfl),hf]
 refine I.write (by rw[h];trivial) ZB (fun b u hb q=>(Heap.get?_update_other _ _ (Ne.symm hb)).trans q) ⟨_,e⟩ ?_;exact⟨hz,l,T,r,e⟩
def my:V->V->V->Hp->(Hp->Prop)->Prop:=fun o i v H Q=>∃p xs k j,o=.ref p/\i=.int k/\H p=some Tl/\Qs xs.length k=some j/\Q (upd H p (.lst (xs.set j v)))
def set_list:jF X my:=by
 rintro pins s σ H o i v ov iv u Q I Z ri Y ⟨p,xs,k,j,rfl,rfl,U,hj,q⟩;cases Z;obtain⟨t,rfl⟩:=ri;obtain⟨l,n,r,M,hz⟩:=I.lst U;obtain⟨T,h2,h3,h4⟩:=ZL hj;have hl:=r.length;have hn:=OC;have I' :=
  I.tH U M (cJ l n j u) (r.set Y j) GM s.toks
 by_cases h0:0<=k
 .have hk:=by
   rw[seqIndex_of h0 h4]at T;exact af T
  exact PySem.W.ki_setAt M h0 AS GM (by rw[hk];exact⟨_,I',q⟩)
 .have hk:(k+l.toArray.size).toNat=j:=by
   rw[seqIndex_neg AS h3]at T
   grind
  exact PySem.W.ki_setBack M AS GM AS GM
def Wo lo hi n:(sliceBounds lo hi none n).1=((HT.Bw n 0 lo))/\(sliceBounds lo hi none n).2.1=((HT.Bw n n hi))/\(sliceBounds lo hi none n).2.2=1:=by
 refine⟨?_,?_,rfl⟩
 .cases lo with
  |none=>rfl
  |some i=>
   simp only[sliceBounds,HT.Bw,Option.getD_none]
   lia
 .cases hi with
  |none=>rfl
  |some i=>
   simp only[sliceBounds,HT.Bw]
   grind
def VF(l:AAn) lo hi:slicePick l.toArray lo hi none=((l.drop (HT.Bw l.length 0 lo)).take (HT.Bw l.length l.length hi-HT.Bw l.length 0 lo)).toArray:=by
 obtain⟨T,M,I⟩:=Wo lo hi l.toArray.size;unfold slicePick;rw[T,M,I];simp only[sliceRange_one,pick_run]<;>rfl
def AAR(K:Fg):V->Option Int->Option Int->Hp->VK->Prop:=fun x lo hi H Q=>∃a xs,x=.ref a/\Am K H a xs/\∀p,H p=none->Q (.ref p) (upd H p (.lst (MV xs lo hi)))
def qa:Ud X (AAR X.K):=by
 rintro pins s σ H x v vl vu lo hi sl Q I T hs Y U ⟨a,xs,rfl,hx,q⟩;cases T;obtain⟨Z,r,M,hz⟩:=I.list hx;have l:=r.length;refine⟨"list",_,slot_list_getitem.lookup,M.isList.typeIs,wpAny_getItem_list_slice M.isList hs Y U .none By ?_ GM⟩;rw[VF,<-l];refine⟨.ref s.heap.objs.size,_,I.laid (fun b ob q=>aE _ q) M0 ?_,rfl,q _ (I.Ae.fresh M0)⟩;exact⟨aQ (O5 xs lo hi) hz,_,0,(r.drop _).take _,Heap.get?_push_size _ rfl⟩
def JO:V->Bool
 |.BV=>true
 |.bl _=>true
 |.int _=>true
 |.str _=>true
 |_=>false
def Uq:V->V->Bool
 |.BV,.BV=>true
 |.bl a,.bl b=>a==b
 |.bl a,.int b=>(if a then 1 else 0)==b
 |.int a,.bl b=>a==(if b then 1 else 0)
 |.int a,.int b=>a==b
 |.str a,.str b=>a==b
 |_,_=>false
def uJ{A:F0d}{s:SD}{y x:V}{u v:VL}(M:RelV y u)(l:RelV x v)(U:JO y=true)(T:JO x=true):SeqAt.EqAt A s u v (Uq y x):=by
 cases y with
 |BV=>
  cases M;cases x with
  |BV=>cases l;exact SeqAt.EqAt.same _
  |bl b=>cases l;exact SeqAt.EqAt.none_bool b
  |int b=>obtain⟨t,rfl⟩:=l;exact SeqAt.EqAt.none_int b t
  |str b=>obtain⟨t,rfl⟩:=l;exact SeqAt.EqAt.none_str b t
  |_=>exact absurd (show false=true from T) aK
 |bl a=>
  cases M;cases x with
  |BV=>cases l;exact SeqAt.EqAt.bool_none a
  |bl b=>cases l;exact SeqAt.EqAt.bool_bool a b
  |int b=>obtain⟨t,rfl⟩:=l;exact SeqAt.EqAt.bool_int a b t
  |str b=>obtain⟨t,rfl⟩:=l;exact SeqAt.EqAt.bool_str a b t
  |_=>exact absurd (show false=true from T) aK
 |int a=>
  obtain⟨I,rfl⟩:=M;cases x with
  |BV=>cases l;exact SeqAt.EqAt.int_none a I
  |bl b=>cases l;exact SeqAt.EqAt.int_bool a I b
  |int b=>obtain⟨t,rfl⟩:=l;exact SeqAt.EqAt.int_int a I b t
  |str b=>obtain⟨t,rfl⟩:=l;exact SeqAt.EqAt.int_str a I b t
  |_=>exact absurd (show false=true from T) aK
 |str a=>
  obtain⟨I,rfl⟩:=M;cases x with
  |BV=>cases l;exact SeqAt.EqAt.str_none a I
  |bl b=>cases l;exact SeqAt.EqAt.str_bool a I b
  |int b=>obtain⟨t,rfl⟩:=l;exact SeqAt.EqAt.str_int a I b t
  |str b=>obtain⟨t,rfl⟩:=l;exact SeqAt.EqAt.str_str a I b t
  |_=>exact absurd (show false=true from T) aK
 |_=>exact absurd (show false=true from U) aK
def eX(x:V)(u:VL):Bool:=match u with
 |.none=>Uq .BV x
 |.bool b=>Uq (.bl b) x
 |.int i _=>Uq (.int i) x
 |.str z _=>Uq (.str z) x
 |_=>false
def gC(r:RelV y u)(f:JO y=true):eX x u=Uq y x:=by
 cases y with
 |BV=>cases r;rfl
 |bl b=>cases r;rfl
 |int i=>obtain⟨t,rfl⟩:=r;rfl
 |str z=>obtain⟨t,rfl⟩:=r;rfl
 |_=>exact absurd f aK
theorem Te:∀ {xs} {us},Vals xs us->xs.all JO=true->us.any (eX x)=xs.any fun y=>Uq y x
 |_,_,.nil,_=>rfl
 |y::xs,u::us,.cons r t,f=>by
  rw[List.all_cons,(HW)]at f;rw[List.any_cons,List.any_cons,gC r f.1,Te t f.2]
theorem QF{x}{v}(I:RelV x v)(M:JO x=true):∀ {xs} {us},Vals xs us->xs.all JO=true->∀u∈us,SeqAt.EqAt A s u v (eX x u)
 |_,_,.nil,_=>by simp
 |y::xs,u::us,.cons r t,f=>fun T l=>by
  rw[List.all_cons,(HW)]at f;rcases aO.mp l with rfl|l
  .rw[gC r f.1];exact uJ r I f.1 M
  .exact QF I M t f.2 T l
def nZ(x:V)(xs:ABC):Bool:=xs.any fun y=>Uq y x
def y0(K:Fg)(neg:Bool):R2:=fun x y H Q=>∃p xs,y=.ref p/\(Am K H p xs\/A4 K H p xs)/\JO x=true/\xs.all JO=true/\Q (.bl (if neg then !nZ x xs else nZ x xs)) H
def Vu:CN X (compareOp .NotIn) (y0 X.K true):=by
 rintro pins s σ H x y v u Q I U Z ⟨p,xs,rfl,M,Y,fs,q⟩;cases Z;rcases M with M|M
 .obtain⟨l,r,T,hz⟩:=I.list M;refine SeqAt.notIn_listAt _ T.isList (fun w hw=>QF U Y r fs w (by simp_all)) ⟨.bl _,H,I,rfl,?_⟩;rw[show l.toArray.any _=l.any (eX x) by simp,Te r fs];exact q
 .obtain⟨l,r,T,hz⟩:=I.tuple M;refine SeqAt.notIn_tupleAt _ T (fun w hw=>QF U Y r fs w GM) ⟨.bl _,H,I,rfl,?_⟩;rw[show l.toArray.any _=l.any (eX x) by simp,Te r fs];exact q
def W6:C6 X (.builtin "len") (fun xs H Q=>∃p ys,xs=[.ref p]/\(Am X.K H p ys\/A4 X.K H p ys)/\Q (.int ys.length) H):=by
 rintro pins s σ H xs us Q I r ⟨p,ys,rfl,l,q⟩;obtain⟨u,rfl,Z⟩:=vals1 r;cases Z;have hn:=OC;rcases l with l|l
 .obtain⟨Y,T,U,hz⟩:=I.list l;have M:=T.length;exact Calls.call_len_list U.isList GM ⟨.int ys.length,H,I.tok _,⟨s.toks+1,by grind⟩,q⟩
 .obtain⟨Y,T,U,hz⟩:=I.tuple l;have M:=T.length;exact len_tuple U GM ⟨.int ys.length,H,I.tok _,⟨s.toks+1,by simp_all⟩,q⟩
def C6.or(h:C6 X f r)(h':C6 X f l):C6 X f (fun xs H Q=>r xs H Q\/l xs H Q):=by
 intro pins s σ H xs us Q I rs q;rcases q with q|q
 .exact h pins s σ H xs us Q I rs q
 .exact h' pins s σ H xs us Q I rs q
def Vl:C6 X (.type "list") (fun xs H Q=>∃p ys,xs=[.ref p]/\(Am X.K H p ys\/A4 X.K H p ys)/\∀l,H l=none->Q (.ref l) (upd H l KB)):=by
 rintro pins s σ H xs us Q I r ⟨p,ys,rfl,U,q⟩;obtain⟨u,rfl,rx⟩:=vals1 r;cases rx;have fin:∀M,Vals ys M->ys.length<=sizeLine->∀(h':Heap) Z,_ ->
   h'.get? s.heap.objs.size=some _->EP X pins σ Q _ _:=fun M T hz h' Z kp e=>
  ⟨.ref s.heap.objs.size,_,I.laid (t':=s.toks) kp M0 (show C4 X.prog X.w _ h' _ KB from⟨hz,M,Z,T,e⟩),rfl,q _ (I.Ae.fresh M0)⟩
 rcases U with U|U
 .obtain⟨M,T,pl,hz⟩:=I.list U;have Y:=T.length;obtain⟨o,ho,hc,n,hd⟩:=pl.isList;exact call_list_seq p ZB ho hc hd (fun h' Z kp e=>by grind) GM
 .obtain⟨M,T,pl,hz⟩:=I.tuple U;have Y:=T.length;obtain⟨o,ho,hc,n,hd⟩:=pl;exact call_list_seq p (.inr rfl) ho hc hd (fun h' Z kp e=>by grind) GM
def VN:C6 X LE (fun xs H Q=>∃p ys,xs=[.ref p]/\((Am X.K H p ys/\∀l,H l=none->Q (.ref l) (upd H l (.tup ys)))\/(A4 X.K H p ys/\Q (.ref p) H))):=by
 rintro pins s σ H xs us Q I r ⟨p,ys,rfl,h⟩;obtain⟨u,rfl,rx⟩:=vals1 r;cases rx;rcases h with ⟨Y,q⟩|⟨Y,q⟩
 .obtain⟨M,T,U,Z⟩:=I.list Y;have hlen:=T.length;refine call_tuple_list U.isList (fun h' kp=>?_) GM;have I1:=I.kept (t':=s.toks) kp;exact⟨.ref h'.objs.size,_,(I1.laid (fun b o e=>aE _ e) M0 (show C4 X.prog X.w _ _ _ (.tup ys) from⟨Z,M,T,IsTup.new _ _⟩)),rfl,q _ (I1.Ae.fresh M0)⟩
 .obtain⟨M,T,U,Z⟩:=I.tuple Y;exact call_tuple_same U ⟨.ref p,H,I,rfl,q⟩
def zH(K:Fg)(T:String)(x:V)(H:Hp):Prop:=match x with
 |.str _=>T = "str"
 |.int _=>T = "int"
 |.ref p=>(T = "list" /\ ∃xs,Am K H p xs)\/(T = "tuple" /\ ∃o,K.lookup p=some o/\o.cls=.type "tuple" /\ o.dict=none) \/
   (T = "dict" /\((∃kvs,H p=some (.dK kvs))\/∃kvs,H p=some (.dT kvs)))\/(T = "set" /\ ∃S n,H p=some (.set S n))
 |_=>False
def tE{σ:St}(I:BE)(r:RelV x v)(ty:zH X.K T x H):s.TypeIs v T/\∀a,v=.ref a->∃ob,s.heap.get? a=some ob/\ob.dict=none:=by
 cases x with
 |str z=>
  obtain⟨t,rfl⟩:=r;cases ty;exact⟨typeIs_str s z t,fun _ e=>nomatch e⟩
 |int i=>
  obtain⟨t,rfl⟩:=r;cases ty;exact⟨typeIs_int s i t,fun _ e=>nomatch e⟩
 |ref p=>
  cases r;rcases ty with ⟨rfl,xs,Y⟩|⟨rfl,o,hk,Z,hd⟩|⟨rfl,hk⟩|⟨rfl,S,n,hk⟩
  .obtain⟨U,_,M,_⟩:=I.list Y;refine⟨M.isList.typeIs,fun a e=>?_⟩;obtain⟨o,n,e,c,hd,_⟩:=M
   grind
  .refine⟨⟨o,I.Fb p o hk,Z⟩,fun a e=>?_⟩;cases e;exact⟨o,I.Fb _ o hk,hd⟩
  .have z:∃o,s.heap.get? p=some o/\o.ExactDict:=by
    rcases hk with ⟨kvs,hk⟩|⟨kvs,hk⟩
    .obtain⟨_,_,_,_,o,_,_,e,ex,_⟩:=I.Ae p _ hk
     grind
    .obtain⟨_,_,_,_,o,_,_,e,ex,_⟩:=I.Ae p _ hk;exact⟨o,e,ex⟩
   obtain⟨o,e,ex⟩:=z;refine⟨⟨o,e,ex.1⟩,fun a l=>?_⟩;cases l;exact⟨o,e,ex.2.1⟩
  .obtain⟨o,_,_,_,e,ex,_⟩:=I.Ae p _ hk;refine⟨⟨o,e,ex.1⟩,fun a l=>?_⟩;cases l;exact⟨o,e,ex.2.1⟩
 |_=>exact False.elim ty
def vR(K:Fg)(T:String)(r:V->List V->Hp->VK->Prop)(I:TE)(t:TA):TE:=fun σ H Q=>I σ H fun x l=>zH K T x l/\t σ l fun xs M=>r x xs M Q
variable{o e:Expr}{es:AA0}{to:TE}{t:TA}{name:Str}{apos cpos:Pos}{T id:String}{r:V->List V->Hp->VK->Prop}
def Qb(pa:PlainAttrs T)(slot:Slot T name id)(Z:typeOf (.builtin id)=pure (.type "method_descriptor"))(hm:zF X id r)(ho:PE X o to)(ha:PA X cr t) (M:attributeBase o name X.env (eval o X.env)=eval o X.env:=by rfl) (U:((backTo cpos (starEach cr X.env)).all (fun x=>!x.1)&&(backToKw cpos (keywordEach [] X.env)).all (fun x=>x.1.isSome) && decide ((e::es).length+([]:List Keyword).length+(if([]:List Keyword).isEmpty then 0 else 1)<30))=true:=by rfl) (l:(apos.endLine==cpos.line)=true:=by rfl)(hs:starEach cr X.env=EQ::starEach es X.env:=by rfl)(Y:(backTo cpos ON).any Hq=false:=by rfl):PE X (.Call (.Attribute o name apos) cr [] cpos) (vR X.K T r to t):=by
 intro pins s σ H Q I h;refine wpAny_Call_method_late M U l rfl (Ay (ho pins s σ H _ I h) fun v s1 ⟨x,H1,I1,r1,ty,q1⟩=>?_);obtain⟨h1,h2⟩:=tE I1 r1 ty;refine⟨T,id,pa,slot,Z,h1,h2,?_⟩;have hA:=ha cpos pins s1 σ H1 _ I1 q1;rw[hs]at hA ⊢;exact Calls.callWith_builtin GM (Calls.evalArgs_plain (Ay hA fun us s2 ⟨vs,H2,I2,r2,q2⟩=>hm pins s2 σ H2 x vs v us Q I2 r1 r2 q2))
end
def yt(X:Cx)(id:String)(r:V->List V->Hp->VK->Prop):Prop :=
 ∀pins s (σ:St) H x xs v us Q,Inv X pins σ H s->RelV x v->Vals xs us->r x xs H Q ->
  wpAny B7 X.A (call (.builtin id) (v::us)) (EP X pins σ Q) X.xe s
def Vals.one:∀ {x} {us},Vals [x] us->∃u,us=[u]/\RelV x u
 |_,_,.cons r .nil=>by lia
def Vals.two:∀ {x y} {us},Vals [x,y] us->∃u v,us=[u,v]/\RelV x u/\RelV y v
 |_,_,_,.cons r (.cons q .nil)=>by lia
def Vals.reverse(h:Vals xs us):Vals xs.reverse us.reverse:=by
 induction h with
 |nil=>exact .nil
 |cons r t l=>rw[List.reverse_cons,List.reverse_cons];exact Vals.append l (.cons r .nil)
theorem Vals.rep(h:Vals xs us):∀k ,Vals (List.replicate k xs).flatten (List.replicate k us).flatten
 |0=>.nil
 |k+1=>Vals.append h (Vals.rep h k)
theorem foldl_rep(l:List VL):∀k I,
  List.foldl (fun T M=>T++M) I.toArray (List.replicate k l.toArray)=(I++(List.replicate k l).flatten).toArray
 |0,I=>by simp
 |k+1,I=>by
  rw[<-(show _++(List.replicate k l).flatten=I++(List.replicate _ l).flatten by
   rw[List.replicate_succ,List.flatten_cons,List.append_assoc]),<-foldl_rep l k _,<-(show I.toArray++l.toArray=(I++l).toArray by simp),List.replicate_succ,List.foldl_cons]
section
variable{X:Cx}{pins:LT}{σ:St}{H:Hp}{s:SD}{l:AD}{xs ys:ABC}
def Inv.vB{T M:AAn}(I:BE)(Z:H l=some Tl) (e:s.heap.get? l=some { cls:=.type "list",data:=.seq T.toArray n})(hf:f T.toArray=M.toArray)(U:Vals ys M)(hz:ys.length<=sizeLine):Inv X pins σ (upd H l KB) {s with heap:=s.heap.update l (Obj.mapSeq f),toks:=t'}:=by
 have q:=PySem.IsL.update e f;rw[hf]at q;refine I.write (by rw[Z];exact trivial) ZB (fun b' u hb Y=>(Heap.get?_update_other s.heap _ (Ne.symm hb)).trans Y) ⟨_,q⟩ ?_;exact⟨hz,M,_,U,q⟩
def Inv.sZ(I:BE)(T:Vals ys M)(hz:ys.length<=sizeLine):Inv X pins σ (upd H s.heap.objs.size KB) {s with heap:=s.heap.push { cls:=.type "list",data:=.seq M.toArray},toks:=t'} :=
 I.laid (fun _ _ q=>aE _ q) M0 ⟨hz,M,0,T,Heap.get?_push_size _ rfl⟩
def Inv.fresh(I:BE):H s.heap.objs.size=none:=I.Ae.fresh M0
def Inv.SH(I:BE)(T:H l=some Tl):xs.length<=sizeLine/\∃(M:AAn) (n:Nat),Vals xs M/\xs.length=M.length/\s.heap.get? l=some { cls:=.type "list",data:=.seq M.toArray n}:=let⟨z,M,n,r,e⟩:=I.Ae l _ T;⟨z,M,n,r,r.length,e⟩
def WB(h:n<=sizeLine):Builtin.List.listTooLong n=false:=decide_eq_false AS
end
section
variable{X:Cx}
def Y6:V->List V->Hp->VK->Prop:=fun x vs H Q=>∃l xs y,x=.ref l/\vs=[y]/\H l=some Tl/\xs.length<sizeLine/\Q .BV (upd H l (.lst (xs++[y])))
def Kp:yt X "list.append" Y6:=by
 rintro pins s σ H x vs v us Q I U Y ⟨l,xs,y,rfl,rfl,T,hz,q⟩;cases U;obtain⟨u,rfl,Z⟩:=Y.one;obtain⟨z,M,n,r,hl,e⟩:=I.SH T;refine call_meets F.slot_list_append ⟨_,e,rfl⟩ F.entry_list_append (F.args_list_append_2 _ _) (PySem.list_append l M.toArray n u GM) ⟨e,⟨.BV,_,I.vB T e By (r.append (.cons Z .nil)) ?_,rfl,q⟩⟩
 grind
def ZW:V->List V->Hp->VK->Prop:=fun x vs H Q=>∃l b xs I,x=.ref l/\vs=[.ref b]/\H l=some Tl/\H b=some (.lst I)/\xs.length+I.length<=sizeLine/\Q .BV (upd H l (.lst (xs++I)))
def gL:yt X "list.extend" ZW:=by
 rintro pins s σ H x vs v us Q I Z rv ⟨l,b,xs,zs,rfl,rfl,Y,hB,hz,q⟩;cases Z;obtain⟨u,rfl,ru⟩:=rv.one;cases ru;obtain⟨z,T,n,r,hl,e⟩:=I.SH Y;obtain⟨z2,M,n2,r2,hl2,e2⟩:=I.SH hB;have U:T.toArray.size+M.toArray.size<=sizeLine:=by grind
 refine call_meets F.slot_list_extend ⟨_,e,rfl⟩ F.entry_list_extend (F.args_list_extend_2 _ _)
  (AutoSeq1.list_extend_list_list_0 l T.toArray n b M.toArray n2 (show ¬_=true by
  rw[WB U]
  lia) AS AS) ⟨e,e2,⟨.BV,_,I.vB Y e By (r.append r2) ?_,rfl,q⟩⟩
 grind
def zg:R2:=fun x y H Q=>∃l b xs I,x=.ref l/\y=.ref b/\H l=some Tl/\H b=some (.lst I)/\xs.length+I.length<=sizeLine/\∀p,H p=none->Q (.ref p) (upd H p (.lst (xs++I)))
def vG:CN X (binaryOp .Add) zg:=by
 rintro pins s σ H x y v u Q I Y U ⟨l,b,xs,zs,rfl,rfl,hH,hB,hz,q⟩;cases Y;cases U;obtain⟨z,T,n,r,hl,e⟩:=I.SH hH;obtain⟨z2,M,n2,Z,hl2,e2⟩:=I.SH hB;refine PySem.P.add_list e e2 ?_ GM;rw[(show T.toArray++M.toArray=(T++M).toArray by simp)];exact⟨.ref _,_,I.sZ (r.append Z) GM,rfl,q _ I.fresh⟩
def zk:R2:=fun x y H Q=>∃l k xs,x=.ref l/\y=.int k/\H l=some Tl/\-(2^63)<=k/\k<2^63/\xs.length*k.toNat<=sizeLine /\
 ∀p,H p=none->Q (.ref p) (upd H p (.lst (List.replicate k.toNat xs).flatten))
def len_rep{α:Type}(xs:List α) k:(List.replicate k xs).flatten.length=k*xs.length:=by
 simp
def u9:CN X (binaryOp .Mult) zk:=by
 rintro pins s σ H x y v u Q I Z Y ⟨l,k,xs,rfl,rfl,hH,h1,h2,U,q⟩;cases Z;obtain⟨t,rfl⟩:=Y;obtain⟨z,M,n,r,hl,e⟩:=I.SH hH;have T:M.toArray.size*k.toNat<=sizeLine:=by rw[(K9),<-hl];exact U
 refine wpAny_binaryOp_repeat_ref AC ⟨_,e,rfl⟩ (fun s'=>typeIs_int s' k t) noFill_list_mul F.fills_int_mul F.slot_int_rmul repeat_list F.slot_int_index.lookup
  (call_meets F.slot_int_rmul (typeIs_int s k t) F.entry_int_rmul (F.args_int_rmul_2 _ _) (int___rmul___int_list k t l M.toArray n)
   ⟨e,rfl,⟨_,e,rfl⟩,call_meets F.slot_list_mul ⟨_,e,rfl⟩ F.entry_list_mul (F.args_list_mul_2 _ _) (AutoListH.list___mul___list_int_3 l M.toArray n k t (show ¬_=true by
  rw[fitsIndex_both h1 h2];exact aK) (show ¬M.toArray.size*k.toNat > _ / 8 by
  have:sizeLine<=(2^63-1) / 8:=by decide
  lia) (show ¬Builtin.List.listTooLong _=true by
  rw[WB T];exact aK)) ⟨e,?_⟩⟩)
 rw[(show List.foldl _ #[] _=(List.replicate k.toNat M).flatten.toArray by
  have f0:=fun m=>by
   have:=foldl_rep M m [];rw[List.nil_append]at this;exact this
  rw[f0];cases M with
  |nil=>simp
  |cons a r'=>rw[if_neg By])]
 exact⟨.ref _,_,I.sZ (r.rep k.toNat) (by rw[len_rep,Nat.mul_comm];exact U),rfl,q _ I.fresh⟩
end
end L2
namespace Att
open PySem PySem.W PySem.Calls PyProof.Rows
def Qw:∀ns vs,WellAll P h vs (ns.map WData.int)->IntsAre vs ns:=by
 intro ns
 induction ns with
 |nil=>
  intro vs w;cases w;exact .nil
 |cons n ns l=>
  intro vs w;cases w with
  |cons a b=>
   cases a;exact .cons _ _ (l _ b)
def eY{l:OpenLaw}(hn:l.most=some n) (I:l.row.toRowW.claim.pre args=true)(U:WellAll P h vals args):∃a vs ns,vals=[Value.ref a]/\args=[WData.list (ns.map WData.int)]/\h.get? a=some { cls:=.type "list",data:=.seq vs.toArray}/\IntsAre vs ns/\ns.length<=n:=by
 obtain⟨d,r,rfl,h1,h2⟩:=hasAllW_cons ((pre_splitW I).1);obtain rfl:=hasAllW_nil h2;obtain⟨xs,rfl,h3⟩:=hasW_list h1;obtain⟨ns,rfl⟩:=items_int h3;cases U with
 |cons Z Y=>
  cases Y;cases Z with
  |list ho M=>exact⟨_,_,ns,rfl,rfl,ho,Qw ns _ M,(show ns.length<=n by
  have T:=by
   have T:=(holds_andW ((pre_splitW I).2)).1;rw[hn]at T;exact T
  have h5:=condW_of T (w_not (w_lt w_lit (w_len_list (w_arg rfl))))
  grind)⟩
def gO(l:OpenLaw) args:l.row.toRowW.claim.post args KK args=true :=
 postW_of
  (show WShape.has [] _ .bool=true by rfl)
  (w_eq_bool (w_res rfl) w_lit) rfl
def YB{l:OpenLaw} (hn:l.most=some n)(hdf:d.params.defaults=[]) (call:∀w s₀ I mg mb Z o pm cd doc a vs ns,Ground q loose [] XP w s₀ mg mb I.heap->YP w I.heap ->I.heap.get? Z=some o->o.data=.func (docDef d.name d.params d.body d.scope pm cd doc)->I.heap.CodeRec cd d.name->mg d.name=some (.ref Z) ->I.heap.get? a=some { cls:=.type "list",data:=.seq vs.toArray}->IntsAre vs ns->ns.length<=n->I.gens=#[] ->codeAny (model l.prog w) callerA (.call (.ref Z) ⟨[.ref a],[]⟩) (fun r s'=>r=.ok (.ret KK)/\OldK I.heap s'.heap/\s'.os=I.os/\AllBare s'.gens) I):WalkO q loose XP YP l.row.toRowW d [] (fun f vs=>PySem.call f vs):=by
 intro w s₀ I mg mb G Y Z o pm cd doc dV kV ho hd hcd hD hmg hg args vals as M hlay hrd hwl hlo;obtain rfl:dV=.none:=Dflts.none hD hdf;obtain rfl:kV=.none:=Dflts.noKw hD;obtain⟨a,vs,ns,rfl,rfl,T,hints,U⟩:=eY hn M hwl;refine enter_call (codeAny_mono (call w s₀ I mg mb Z o pm cd doc a vs ns G Y ho (fd_plain hd) hcd hmg T hints U hg) fun r s' hq=>?_);obtain⟨rfl,h2,h3,h4⟩:=hq;exact⟨.inl ⟨.bool true,.bool true,[],rfl,fun _=>rfl,.bool true,gO l _,fun _=>by simp⟩,h2,h3,h4⟩
end Att
namespace L2
open PySem PySem.Spec PyProof.Rows
theorem T8:∀ {vs} {ns},IntsAre vs ns->Vals (ns.map V.int) vs
 |_,_,.nil=>.nil
 |_,_,.cons n t h=>.cons ⟨t,rfl⟩ (T8 h)
def jQ(H:Hp):Prop:=∀b,H b=none\/∃o xs,H b=some (.Eu o Tl)
def iu{P:F0b}{w:F0c}{K:Fg}{CX:Jr}{k:Nat}{fa a:AD}{fd:F0a}{x:Str}{sp:Sp}{l:SD}{vs:AAn}{ns:AAx} (KX:K.In l.heap)(Y:l.heap.Ns mainGlobals mg)(hb:l.heap.Ns builtinsNs mb)(hbb:∀x:Str,x ≠ "__name__" -> mb x=bootBuiltins x)(Z:l.heap.NoLimit)(hg:l.gens=#[]) (ha:l.heap.get? a=some { cls:=.type "list",data:=.seq vs.toArray})(hi:IntsAre vs ns)(hl:ns.length<=sizeLine)(hr:Bh k callerA)(hkt:∀H,KTb mg H) (F:∀base:Heap,K.In base->base.Ns mainGlobals mg->Af P w K mg base CX k fa fd [x] sp)(M:∀(s:SD) (u:VL),BindsTo s fd ⟨[u],[]⟩ [(x,u)]) (hsp:∀H:Hp,jQ H->Am K H a (ns.map V.int)->sp [.ref a] H (fun v _=>v=.bl true) fun _ _ _=>False) (hCX:∀H e s',CX [] H l (fun _ _ _=>False) e s'->False):codeAny (model P w) callerA (.call (.ref fa) ⟨[.ref a],[]⟩) (fun r s'=>r=.ok (.ret KK)/\OldK l.heap s'.heap/\s'.os=l.os/\AllBare s'.gens) l:=by
 have rv:=T8 hi;have T:=hi.length;have core:∀H:Hp,jQ H->Am K H a (ns.map V.int)->DZ P w H l.heap->(∀b,H b≠none->b=a)->(H a≠none->K.lookup a=none) ->
   codeAny (model P w) callerA (.call (.ref fa) ⟨[.ref a],[]⟩) (fun r s'=>r=.ok (.ret KK)/\OldK l.heap s'.heap/\s'.os=l.os/\AllBare s'.gens) l:=by
  intro H hO hS Ae hA hK;have base_of:∀ {b:AD} {o:Obj},l.heap.get? b=some o->H b=none->(TY l.heap H).get? b=some o:=fun e n=>jf e n;have noA:∀ {b:AD} {o:Obj} {es:Array DictEntry} {ep:Nat},l.heap.get? b=some o->o.data=.dict es ep->H b=none:=fun {b o es ep} e d=>by
   cases q:H b with
   |none=>rfl
   |some u=>
    have e':b=a:=hA b (by rw[q];simp);subst e';rw[ha]at e;cases e;cases d
  have I:∀ {b:AD} {m:Str->Option VL},l.heap.Ns b m->(TY l.heap H).Ns b m:=fun {b m} ⟨o,es,ep,e,d,r⟩=>⟨o,es,ep,base_of e (noA e d),d,r⟩;have hKb:=fun b o e=>base_of (KX b o e) (by
   cases q:H b with
   |none=>rfl
   |some u=>
    have e':b=a:=hA b (by rw[q];simp);subst e';rw[hK (by rw[q];simp)]at e;cases e)
  refine codeAny_mono ((F _ hKb (I Y)).run callerA [] l H ⟨[.ref a],[]⟩ [.ref a] [.ref a] _ _ hr (⟨rfl,(⟨hKb,I Y,⟨mb,I hb,hbb⟩,let⟨mc,h1,h2⟩:=Z;⟨mc,I h1,h2⟩⟩),fun b o e=>pQ e,Nat.le_of_eq (gB _ _),trivial,fun b hb=>absurd (show b∈([]:List AD) from hb) By,Ae,.of_eq hg,hkt H⟩) (M l KM) (.cons rfl .nil) (hsp H hO hS)) fun r s' h=>?_;cases r with
  |error e=>exact(hCX H e s' h).elim
  |ok fl=>
   cases fl with
   |next=>exact False.elim h
   |brk=>exact False.elim h
   |cont=>exact False.elim h
   |ret u=>
    obtain⟨v,H',os,bare,un,U,r',q⟩:=h;subst q;obtain rfl:u=Value.bool true:=r';refine⟨rfl,OldK.of_keep fun b o e=>?_,os,bare⟩;cases q:H b with
    |none=>exact un.keep b o e q (by intro z;exact absurd (show b∈([]:List AD) from z) By) By
    |some u=>
     rcases hO b with z|⟨ob,xs,z⟩
     .rw[q]at z;cases z
     .obtain⟨e1,_⟩:=Ae b _ z;obtain⟨e2,_⟩:=U b _ (un.FN b ob _ z);rw[e]at e1;cases e1;exact e2
 cases hk:K.lookup a with
 |some o=>
  have e:=KX a o hk;rw[ha]at e;cases e;refine core (fun _=>none) (fun _=>.inl rfl) (.inr ⟨_,vs.toArray,_,hk,rfl,rfl,rfl,by rw[(K9),T];exact hl,by simpa using rv⟩) (fun b u z=>by cases z) (fun b z=>absurd rfl z) fun z=>absurd rfl z
 |none=>
  refine core (fun b=>if b=a then some _ else none) (fun b=>?_) (.inl (.inr ⟨{ cls:=.type "list",data:=.seq vs.toArray},if_pos rfl⟩)) (fun b u z=>?_) (fun b z=>?_) fun _=>hk
  .by_cases hb:b=a
   .exact .inr ⟨_,_,if_pos hb⟩
   .exact .inl (if_neg hb)
  .by_cases hb:b=a
   .have z':=(if_pos hb).symm.trans z;cases z';subst hb;exact⟨ha,by rw[Pi];exact hl,vs,_,rv,ha⟩
   .have z':=(if_neg hb).symm.trans z;cases z'
  .by_cases hb:b=a
   .exact hb
   .exact absurd (if_neg hb) z
def qd{l:PySem.W.OpenLaw}{K:Params->Fg}{CX:F0c->Jr}{sp:F0c->Sp} (hn:l.most=some n)(Z:n<=sizeLine)(hdf:d.params.defaults=[])(hr:Bh k callerA)(hkt:∀(w:F0c) mg h,(K w.params).In h->h.Ns mainGlobals mg->∀H,KTb mg H) (hY:∀w h,YP w h->(K w.params).In h) (F:∀w mg U h,(K w.params).In h->h.Ns mainGlobals mg->mg d.name=some (.ref U) ->∃fd ,(∀s u,BindsTo s fd ⟨[u],[]⟩ [(x,u)]) /\∀base ,(K w.params).In base->base.Ns mainGlobals mg->Af l.prog w (K w.params) mg base (CX w) k U fd [x] (sp w)) (hsp:∀w H a (ns:AAx),ns.length<=n->jQ H->Am (K w.params) H a (ns.map V.int)->sp w [.ref a] H (fun v _=>v=.bl true) fun _ _ _=>False) (hCX:∀w H s e s',CX w [] H s (fun _ _ _=>False) e s'->False):PySem.W.WalkO q loose XP YP l.row.toRowW d [] (fun f vs=>PySem.call f vs):=by
 refine Att.YB hn hdf fun w s₀ s₁ mg mb U o pm cd doc a vs ns G Y ho hd hcd hmg I hints M hg=>?_;have KX:=hY w _ Y;obtain⟨fd,hb,hF⟩:=F w mg U _ KX G.T.g hmg;exact iu (hkt:=hkt w mg _ KX G.T.g) KX G.T.g G.T.b G.T.builtins G.T.nolimit hg I hints (aQ M Z) hr hF hb (fun H hO hS=>by grind) fun H e s'=>by grind
abbrev Ac:Jr:=fun _ _ _ _ _ _=>False
abbrev E0:XK:=fun _ _ _=>False
def xo:Passes Ac X E0:=fun _ _ _ _ _ _ _ h=>h.elim
structure Uz(K:Fg)(x qual:Str)(st:Stmt)(f:Addr)(fd:FuncData):Prop where
 ex:∃(oc:Value) (od:Option Addr) (kV doc pm:Value) (an:Option Addr) (cdv ct:Value) (osl:Array (Option Value)),
  fd=PySem.W.fnOf x qual (Gy st) (CB st) (AW st) .none kV doc pm an cdv ct/\K.lookup f=some ⟨oc,od,.func fd,osl⟩/\PySem.W.codeIn K cdv qual=true
 kp:PySem.W.keepIn K (.ref f)=true
section
variable{P:F0b}{w:F0c}{K:Fg}{mg:AAs}{base:Heap}
def Uz.ok{st}(F:Uz K x qual st f fd)(S:BQ N ps (AW st))(len:∀vs H Q E,sp vs H Q E->vs.length=ps.length) (l:∀cdv A outer s H vs Q E,Bh k (A.deeper (envOfC qual (AW st) s.heap.objs.size f cdv))->sp vs H Q E ->∃t,HC (B5 Ac P w K mg base N qual (AW st) f cdv A outer s H E).Eh (CB st) t/\t { nx:=fun _ H'=>Q .BV H',rt:=Q} (start N vs) H):Af P w K mg base Ac (k+1) f fd ps sp:=by
 obtain⟨oc,od,kV,doc,pm,an,cdv,ct,osl,rfl,lk,M⟩:=F.ex;refine mH lk M S len fun A outer s H vs Q E T I=>?_;obtain⟨t,h,q⟩:=l cdv A outer s H vs Q E T I;exact⟨t,h.Eh,q⟩
def Uz.binds{st}(F:Uz K x qual st f fd) (h:∀kV doc pm an cdv ct us,us.length=ps.length->bindArgs (PySem.W.fnOf x qual (Gy st) (CB st) (AW st) .none kV doc pm an cdv ct) ⟨us,[]⟩=pure (ps.zip us)):Binds K fd ps []:=by
 obtain⟨oc,od,kV,doc,pm,an,cdv,ct,osl,rfl,lk,l⟩:=F.ex;exact .all (h kV doc pm an cdv ct)
def iH{st}{kV doc pm cdv ct}(l:K.lookup f=some ⟨oc,od,.func (PySem.W.fnOf x qual (Gy st) (CB st) (AW st) .none kV doc pm an cdv ct),osl⟩) (c:PySem.W.codeIn K cdv qual=true)(k:PySem.W.keepIn K (.ref f)=true):Uz K x qual st f (PySem.W.fnOf x qual (Gy st) (CB st) (AW st) .none kV doc pm an cdv ct):=⟨⟨oc,od,kV,doc,pm,an,cdv,ct,osl,rfl,l,c⟩,k⟩
end
def Ux(h:n<=1000):n<sizeLine:=aP h AC
section
variable{X:Cx}
def pv i {pos} (M:X.N[i]? = some x:=by rfl) (I:tR X.env.scope x:=by first|exact Or.inl rfl|exact Or.inr IN|exact Or.inr (Or.inr rfl)) (hd:Fk=false:=by decide) (l:(x==("__classdict__"))=false:=by decide):PE X (.Name x pos) (HV i):=uA M I hd l
end
def vb{A B:Prop}(h:B):if false=true then A else B:=by
 lia
def MF{A B:Prop}(h:A):if true=true then A else B:=by
 lia
def MB{c A B:Prop}[Decidable c](I:c->A)(l:¬c->B):if c then A else B:=by
 lia
def AI(H H':Hp):Prop:=∀b o,H b=some o->H' b=some o
def AI.refl(H:Hp):AI H H:=fun _ _ h=>h
def AI.trans(a:AI H I)(b:AI I l):AI H l:=fun c o h=>b c o (a c o h)
section
variable{X:Cx}
def VV(i j:Int):Prop:=∃m ,m<=1000000/\i.natAbs<2^m/\j.natAbs<2^m
def VV.ok(h:VV i j):IntMulOk i j:=let⟨m,hm,I,l⟩:=h;IntMulOk.of_le (intBits_le_iff.mpr I) (intBits_le_iff.mpr l) AS
def IL:CN X (binaryOp .Mult) (rI (fun i j=>cU i j\/VV i j) fun i j=>.int (i*j)) :=
 Yu fun _ _ _ _ _ _ _ l q=>mul_int q (l.elim (fun z=>z.ok) fun z=>z.ok)
def yb(_i j:Int):Prop:=j≠0/\∃m ,m<=9000/\j.natAbs<2^m
def Gq:CN X (binaryOp .FloorDiv) (rI yb fun i j=>.int (i.fdiv j)):=Yu fun i j _ _ _ _ _ l q=>by
 obtain⟨h0,m,hm,I⟩:=l;refine floordiv_int h0 q (.inl (PyProof.noPylong_of_log2 ?_));have:=(Nat.log2_lt (show j.natAbs≠0 by lia)).mpr I
 lia
mutual
def Br(K:Fg)(H:Hp):PD->V->Prop
 |.none,v=>v=.BV
 |.bool b,v=>v=.bl b
 |.int i,v=>v=.int i
 |.str x,v=>v=.str x
 |.tuple ds,v=>∃a xs,v=.ref a/\A4 K H a xs/\F8 K H ds xs
 |.list ds,v=>∃a xs,v=.ref a/\Am K H a xs/\F8 K H ds xs
 |.dict _,_=>False
def F8(K:Fg)(H:Hp):List PD->List V->Prop
 |[],xs=>xs=[]
 |d::ds,xs=>∃x r,xs=x::r/\Br K H d x/\F8 K H ds r
end
mutual
theorem Br.reads{pins:LT}{σ:St}{H:Hp}{s:SD}(I:BE):∀ {d:PD} {v:V} {u:VL},Br X.K H d v->RelV v u->∃as,Reads s.heap u d as
 |.none,_,u,h,r=>by rw[Br]at h;subst h;cases r;exact⟨_,.none⟩
 |.bool b,_,u,h,r=>by rw[Br]at h;subst h;cases r;exact⟨_,.bool b⟩
 |.int i,_,u,h,r=>by rw[Br]at h;subst h;obtain⟨t,rfl⟩:=r;exact⟨_,.int i t⟩
 |.str x,_,u,h,r=>by rw[Br]at h;subst h;obtain⟨t,rfl⟩:=r;exact⟨_,.str x t⟩
 |.tuple ds,_,u,h,r=>by
  rw[Br]at h;obtain⟨a,xs,Z,Y,U⟩:=h;subst Z;cases r;obtain⟨T,l,⟨o,e,c,n,hd⟩,_⟩:=I.tuple Y;obtain⟨as,M⟩:=F8.reads I U l;exact⟨_,.tuple e c hd (by simpa using M)⟩
 |.list ds,_,u,h,r=>by
  rw[Br]at h;obtain⟨a,xs,Z,Y,U⟩:=h;subst Z;cases r;obtain⟨T,l,⟨o,n,e,c,_,hd⟩,_⟩:=I.list Y;obtain⟨as,M⟩:=F8.reads I U l;exact⟨_,.list e c hd (by simpa using M)⟩
 |.dict _,_,_,h,_=>by rw[Br]at h;exact h.elim
theorem F8.reads{pins:LT}{σ:St}{H:Hp}{s:SD}(I:BE):∀ {ds:List PD} {xs:List V} {us:List VL},F8 X.K H ds xs->Vals xs us->∃as,ReadsAll s.heap us ds as
 |[],_,us,h,r=>by rw[F8]at h;subst h;cases r;exact⟨_,.nil⟩
 |_::_,_,us,h,r=>by
  rw[F8]at h;obtain⟨x,q,e1,Z,Y⟩:=h;subst e1;cases r with
  |cons U T=>
   obtain⟨as,M⟩:=Br.reads I Z U;obtain⟨bs,l⟩:=F8.reads I Y T;exact⟨_,.cons M l⟩
end
def lL(K:Fg)(neg:Bool):R2:=fun x y H Q=>∃d e,Br K H d x/\Br K H e y/\SeqAt.shaped d=true/\SeqAt.shaped e=true/\Q (.bl (if neg then !PyData.eqv d e else PyData.eqv d e)) H
def vj(Y:IR):CN X (compareOp .Eq) (lL X.K false):=by
 rintro pins s σ H x y v u Q I M l ⟨d,e,h1,Z,s1,s2,q⟩;obtain⟨as,U⟩:=Br.reads I h1 M;obtain⟨bs,T⟩:=Br.reads I Z l;exact eq_dataH U T s1 s2 Y ⟨.bl _,H,I,rfl,q⟩
def uM(Y:IR):CN X (compareOp .NotEq) (lL X.K true):=by
 rintro pins s σ H x y v u Q I M l ⟨d,e,h1,Z,s1,s2,q⟩;obtain⟨as,U⟩:=Br.reads I h1 M;obtain⟨bs,T⟩:=Br.reads I Z l;exact ne_dataH U T s1 s2 Y ⟨.bl _,H,I,rfl,q⟩
end
def UZ(X:Cx)(l:AA0)(t:TT):Prop :=
 ∀pins s (σ:St) H Q,Inv X pins σ H s->t σ H Q ->
  wpAny B7 X.A (forIn l true fun c r=>if r=true then do let ok <-isTrue c X.env (eval c X.env);pure (ForInStep.yield ok) else pure (ForInStep.yield r)) (TP X pins σ Q) X.xe s
def Ky:TT:=fun _ H Q=>Q true H
def Gz:UZ X [] Ky:=fun _ _ σ H _ I h=>wpAny_tests_nil ⟨H,I,h⟩
def oj(h:PT X c t):UZ X [c] t:=fun pins s σ H Q I l=>Wb (Wb (Ay (h pins s σ H Q I l) fun b s1 q=>aB (aB q)))
def JC(N I:List Str)(sc l:Scope):List (Option Nat)->Nat->Bool
 |[],_=>true
 |none::r,i=>JC N I sc l r SB
 |some j::r,i=>(match N[i]?,I[j]? with
   |some n,some m=>n==m&&sc.names.lookup n==some .free&&l.names.lookup n==some .cell
   |_,_=>false)&&JC N I sc l r SB
theorem Ph:∀ {fr} {k},JC N M sc l fr k=true->∀ {i j},fr[i]? = some (some j) ->
  ∃n,N[k+i]? = some n/\M[j]? = some n/\sc.names.lookup n=some .free/\l.names.lookup n=some .cell
 |[],_,_,i,j,e=>by simp at e
 |none::r,k,h,0,j,e=>by simp at e
 |none::r,k,h,i+1,j,e=>by
  rw[(show k+_=k+1+i by lia)];exact(Ph (k:=k+1) h GM)
 |some I::r,k,h,0,j,e=>by
  have T:=by simpa using e
  rw[JC]at h
  grind
 |some I::r,k,h,i+1,j,e=>by
  rw[JC,(HW)]at h;rw[(show k+_=k+1+i by lia)];exact(Ph h.2 GM)
def carry(fr:ABK)(σ:St):St:=fr.map fun o=>match o with
 |some j=>(σ[j]?).join
 |none=>none
def iU{i:Nat}(h:(carry fr σ)[i]? = some (some v)):∃j,fr[i]? = some (some j)/\σ[j]? = some (some v):=by
 unfold carry at h
 grind
theorem Ma:∀(names:List (Str×NameKind)) cs,(∀x∈names,x.2=NameKind.free->∃c,env.cells.lookup x.1=some c)->(∀x c,cs.lookup x=some c->env.cells.lookup x=some c) ->
  ∃cl,(forIn names cs (fun(x:Str×NameKind) r=>do if(x.2==NameKind.free)=true then do let a <-cellOf env x.1;pure (ForInStep.yield ((x.1,a)::r)) else pure (ForInStep.yield r)))=pure cl /\
   (∀x c,cl.lookup x=some c->env.cells.lookup x=some c)/\(∀x,(∃c,cs.lookup x=some c)->∃c,cl.lookup x=some c)/\∀x∈names,x.2=NameKind.free->∃c,cl.lookup x.1=some c
 |[],cs,_,M=>⟨cs,rfl,M,fun _ q=>q,fun _ z=>(by cases z)⟩
 |(n,k)::r,cs,Z,M=>by
  rw[List.forIn_cons];by_cases hk:(k==NameKind.free)=true
  .obtain⟨c,hc⟩:=Z (n,k) aR (by simpa using hk);obtain⟨cl,Y,U,I,T⟩:=Ma r ((n,c)::cs) (fun x l=>Z x (aW _ l)) (fun x c' e=>by
    rw[(QI)]at e;cases l:x==n with
    |true=>have:=beq_iff_eq.mp l;subst this;simp at e;rw[<-e];exact hc
    |false=>rw[l]at e;exact M x c' e)
   refine⟨cl,?_,U,fun x l=>?_,fun x l hf=>?_⟩
   .simp only[hk,if_true];unfold cellOf;rw[hc];exact Y
   .refine I x ?_;rw[(QI)];cases hxn:x==n with
    |true=>exact⟨c,rfl⟩
    |false=>exact l
   .rcases aO.mp l with e|l
    .subst e;exact(I n ⟨c,by rw[(QI),beq_self_eq_true]⟩)
    .exact T x l hf
  .obtain⟨cl,Y,U,I,T⟩:=Ma r cs (fun x l=>Z x (aW _ l)) M;refine⟨cl,?_,U,I,fun x l hf=>?_⟩
   .simp only[hk];exact Y
   .rcases aO.mp l with e|l
    .subst e;exact absurd (by simpa using hf) hk
    .exact T x l hf
def qb{code} (h:Q (newEnv scope s.heap.objs.size globals (cellsFrom SC scope.names closure) qual func code (some l) b) {s with heap:=pushCells (s.heap.push { cls:=.type "dict",data:=.dict #[]}) scope.names}):wpAny M A (newFunctionEnv scope globals closure [] qual func code (some l) b) Q E s:=by
 refine Wb (wpAny_alloc (Wb (wpAny_layCells _ (fun name kind cells=>by lia) _ _ _ _ ?_)));rw[Heap.size_push ..];exact Wb (aB (aB h))
theorem TZ:∀names h l n,h.objs.size=n->∀ {y} {c},(cellsFrom n names l).lookup y=some c->l.lookup y=some c\/(n<=c/\(pushCells h names).IsCell c none)
 |[],h,l,n,hn,y,c,e=>.inl e
 |(m,k)::r,h,l,n,hn,y,c,e=>by
  unfold cellsFrom at e;unfold pushCells;by_cases hk:(k==.cell)=true
  .rw[if_pos hk]at e;rw[if_pos hk];rcases TZ r (h.push { cls:=.type "cell",data:=.cell none}) _ _ (by simp_all) e with z|⟨T,M⟩
   .rw[(QI)]at z;by_cases I:(y==m)=true
    .rw[I]at z;cases z;exact .inr ⟨aG _,⟨_,pushCells_keeps _ _ _ _ (hn ▸ aN _ rfl),rfl⟩⟩
    lia
   lia
  .rw[if_neg hk]at e;rw[if_neg hk];exact TZ r h l n hn e
theorem Tg:∀names l n {y},(y,NameKind.cell) ∉ names->(cellsFrom n names l).lookup y=l.lookup y
 |[],l,n,y,_=>rfl
 |(m,k)::r,l,n,y,h=>by
  unfold cellsFrom;have I:=fun z=>h (aW _ z);by_cases hk:(k==.cell)=true
  .rw[if_pos hk,Tg r _ _ I]
   grind
  .rw[if_neg hk,Tg r _ _ I]
theorem VY:∀names (l:List (Str×AD)) n {y} {I c0:Nat},l.lookup y=some c0->I<=c0->I<=n->∃c,(cellsFrom n names l).lookup y=some c/\I<=c
 |[],l,n,y,I,c0,h,M,_=>⟨c0,h,M⟩
 |(m,k)::r,l,n,y,I,c0,h,M,hn=>by
  unfold cellsFrom;by_cases hk:(k==.cell)=true
  .rw[if_pos hk];cases e:y==m with
   |true=>exact VY r _ _ GM hn AS
   |false=>exact VY r _ _ GM M AS
  .rw[if_neg hk];exact VY r _ _ h M hn
theorem OS:∀names l n {y},(y,NameKind.cell)∈names->∃c,(cellsFrom n names l).lookup y=some c/\n<=c
 |[],l,n,y,h=>by cases h
 |(m,k)::r,l,n,y,h=>by
  unfold cellsFrom;rcases aO.mp h with e|h
  .injection e with T M
   subst T M;exact VY r _ _ By M0 AS
  .by_cases hk:(k==.cell)=true
   .rw[if_pos hk];obtain⟨c,I,U⟩:=OS r _ _ h;exact⟨c,I,by lia⟩
   .rw[if_neg hk];exact OS r l n h
theorem W9:∀names (l:List (Str×AD)) (n:Nat),(∀x y c,l.lookup x=some c->l.lookup y=some c->x=y)->(∀x c,l.lookup x=some c->c<n) ->
  ∀x y c,(cellsFrom n names l).lookup x=some c->(cellsFrom n names l).lookup y=some c->x=y
 |[],l,n,h,_=>h
 |(m,k)::r,l,n,h,hb=>by
  unfold cellsFrom;by_cases hk:(k==.cell)=true
  .rw[if_pos hk];refine W9 r _ _ (fun x y c I M=>?_) fun x c I=>?_
   .grind
   grind
  .rw[if_neg hk];exact W9 r _ _ h hb
def BN(X:Cx)(scope:Scope)(cl:List (Str×AD))(N:AAy)(C:AD)(s₀:SD)(H₀:Hp)(fp:ABF):Cx where
 prog:=X.prog
 w:=X.w
 K:=X.K
 mg:=X.mg
 base:=X.base
 A:=X.A
 N:=N
 s₀:=s₀
 H₀:=H₀
 env:=compEnvC scope (cellsFrom (C+1) scope.names cl) C X.env
 outer:=X.stack
 stack:=X.stack
 ex:=fp
 fn:=fun y=>decide (scope.names.lookup y=some .cell)
 calm:=X.calm
 pn:=[]
 xe:=fun _ _=>False
def Md(g:TG)(tif:TT)(T:TE)(σ:St)(D:AD)(x:V)(ys:ABC)(H:Hp)(n:List V->Hp->Prop):Prop :=
 g x σ H fun l U=>tif l U fun b M=>if b=true then T l M fun y I=>I D=some KB/\n (ys++[y]) (upd I D (.lst (ys++[y]))) else n ys M
def Lc(wi:TI)(fr:ABK)(g:TG)(tif:TT)(T:TE):TE:=fun σ H Q=>wi σ H fun J I=>∀D,I D=none->∃W:Nat->Nat->List V->Hp->Prop,(∃m,W 0 m [] (upd I D OF)) /\
 ∀i m ys H,W i m ys H->H D=some KB/\((J.stop i H/\Q (.ref D) H)\/(J.go i H/\ys.length<sizeLine/\∀x H',J.E6 i H x H'->Md g tif T (carry fr σ) D x ys H' fun M U=>∃l,l<m/\W SB l M U))
abbrev wz(wi:TI)(fr:List (Option Nat))(ix:Nat):TT->TE->TE:=Lc wi fr (Ct ix)
structure Ie(scope:Scope):Prop where
 kind:scope.kind=.function
 names:∀y∈scope.names,y.2=.local->scope.names.lookup y.1=some .local
 free:∀y∈scope.names,y.2=.free->scope.names.lookup y.1=some .free
 cells:∀y∈scope.names,y.2=.cell->scope.names.lookup y.1=some .cell
def lookup_mem{names:List (Str×NameKind)}:names.lookup n=some k->(n,k)∈names:=by
 induction names with
 |nil=>simp
 |cons y r l=>
  grind
def XB(h:(relabel scope env).names.lookup n=some .cell\/(relabel scope env).names.lookup n=some .free):∃k,(n,k)∈scope.names/\(k=NameKind.free\/k=NameKind.cell):=by
 have key:∀l,(relabel scope env).names.lookup n=some l->(l=.cell\/l=.free)->∃k,(n,k)∈scope.names/\(k=NameKind.free\/k=NameKind.cell):=fun l h hk=>by
  obtain⟨⟨m,k⟩,I,e⟩:=aI.mp (lookup_mem h)
  lia
 grind
theorem M8{env:Env}:∀ {names:List (Str×NameKind)} {x},names.lookup x=some .cell->(names.map fun(n,k)=>if(k==.free&&env.scope.kind==.function&&env.kindOf n==some .cell) then(n,NameKind.cell) else(n,k)).lookup x=some .cell
 |(n,k)::r,x,h=>by
  rw[(BR)];rw[(QI)]at h;cases e:x==n with
  |true=>
   grind
  |false=>
   rw[e]at h;dsimp only;split<;>rw[(QI),e]<;>exact(M8 h)
section
variable{X:Cx}{elt iter:Expr}{tgE:Expr}{g:TG}{pos:Pos}{ifs:AA0}{scope:Scope}{wi:TI}{fr:ABK}{tif:TT}{te:TE}{N:AAy}
def Ka(I:Nat->SD->Prop)
 (turn:∀n s,I n s->wpAny As A (pyNext it) (fun r l=>match r with
   |none=>R (.ok .next) l
   |some v=>wpAny As A (letOwnedTupleGo target it v>>=fun _=>assign target env v) (fun _ Y=>
     wpAny As A (forIn ifs true fun c r=>if r=true then do let ok <-isTrue c env (eval c env);pure (ForInStep.yield ok) else pure (ForInStep.yield r)) (fun ok M=>
      if ok=true then wpAny As A (eval elt env) (fun x U=>
       wpAny As A (call (.builtin "list.append") [acc,x]) (fun _ T=>∃m,m<n/\I m T) (notedBy As A env fun e s'=>R (.error e) s') U) (notedBy As A env fun e s'=>R (.error e) s') M
      else ∃m,m<n/\I m M) (notedBy As A env fun e s'=>R (.error e) s') Y) (notedBy As A env fun e s'=>R (.error e) s') l) (notedBy As A env fun e s'=>R (.error e) s') s)
  n (h:I n s) :
  codeAny As A (.compLoop (.ListComp elt [⟨target,iter,ifs,0⟩] scope pos) 0 it acc env) R s:=by
 refine codeAny_loop rfl I (fun n s hI=>wpAny_noted ?_) n h;rw[compTurn_list];refine Wb (wpAny_standAt (Wb (aU (turn n s hI) (fun r l h₁=>?_) fun _ _ h'=>h')));cases r with
 |none=>exact aB h₁
 |some v=>
  show wpAny _ A (letOwnedTupleGo target it v>>=fun _=>assign target env v>>=_) _ _ l;rw[<-bind_assoc];refine Wb (aU h₁ (fun _ Y h₂=>Wb (aU h₂ (fun ok M Z=>?_) fun _ _ h'=>h')) fun _ _ h'=>h');cases ok with
  |false=>exact aB ⟨rfl,Z⟩
  |true=>
   exact Wb (Wb (aU Z (fun x U h₄=>Wb (aU h₄ (fun _ T h₅=>aB (aB ⟨rfl,h₅⟩)) fun _ _ h'=>h')) fun _ _ h'=>h'))
def dP{pins:LT}{σ:St}{U:Hp}{s2:SD}{Q:VK}{it:AD}{fp:ABF}{tn:Nat->Heap->Prop}{J:It}{cl:List (Str×AD)}{E:AAo}{RR:VL->AD->Result->SD->Prop} (S:Ie scope)(Z:Rs)(hk:∀v σ H Q,g v σ H Q->g v σ H fun σ' H'=>Q σ' H'/\∀u,g u σ'=g u σ)(hpg:∀cl C s₀ H₀ fp,PG Ev tgE g)(hfr:JC N X.N scope X.env.scope fr 0=true)(hlen:fr.length=N.length) (hif:∀cl C s₀ H₀ fp,UZ Ev ifs tif)(he:∀cl C s₀ H₀ fp,PE Ev elt te) (I:Inv X pins σ U s2)(T:Turn X.prog X.w X.K tgE J fp it tn)(st2:tn 0 s2.heap)(f2:∀b∈fp,K7 X pins U b) (c1:∀x c,cl.lookup x=some c->X.env.cells.lookup x=some c)(c2:∀x∈scope.names,x.2=NameKind.free->∃c,cl.lookup x.1=some c) (W:∀D,U D=none->∃W:Nat->Nat->List V->Hp->Prop,(∃m,W 0 m [] (upd U D OF)) /\∀i m ys H,W i m ys H->H D=some KB/\((J.stop i H/\Q (.ref D) H)\/(J.go i H/\ys.length<sizeLine/\∀x H',J.E6 i H x H'->Md g tif te (carry fr σ) D x ys H' fun zs U=>∃m',m'<m/\W SB m' zs U))) (fin:∀(D C:AD) (s':SD) (H':Hp) m,s'.heap.Ns C m->Q (.ref D) H'->(∀h',Heap.SameBut C s'.heap h'->Inv X pins σ H' { s' with heap:=h'})->C≠D->(∀b o,s2.heap.get? b=some o->b≠C)->H' C=none->s2.heap.objs.size<=C->RR (.ref D) C (.ok .next) s'):wpAny B7 X.A (newList []) (fun acc Y=>wpAny B7 X.A (newFunctionEnv scope X.env.globals cl [] X.env.qual none .none (some X.env)) (fun cenv s₄ => codeAny B7 X.A (.compStart SL 0 (.ref it) acc {cenv with scope:=relabel scope X.env}) (RR acc cenv.locals) s₄) E Y) E s2:=by
 refine ag (qb ?_);dsimp only;generalize hHp:s2.heap.push { cls:=.type "list",dict:=none,data:=.seq ([]:List VL).toArray}=l;generalize hh1:pushCells (l.push { cls:=.type "dict",data:=.dict #[]}) scope.names=M;have kq:∀b o,l.get? b=some o->M.get? b=some o:=fun b o e=>hh1 ▸ pushCells_keeps _ _ b o (aE _ e)
 have hns₁:M.Ns l.objs.size (fun _=>none):=hh1 ▸ (Heap.Ns.new l (.type "dict")).keeps (pushCells_keeps _ _)
 have hC:l.objs.size=s2.heap.objs.size+1:=by rw[<-hHp,(LA)]
 have hDC:s2.heap.objs.size≠l.objs.size:=by rw[hC];exact aJ (bJ _)
 have below:∀b,b<s2.heap.objs.size->b≠l.objs.size/\b≠s2.heap.objs.size:=fun b hb=>⟨by rw[hC];exact aJ (Nat.lt_succ_of_lt hb),Nat.ne_of_lt hb⟩;have old:∀b o,s2.heap.get? b=some o->M.get? b=some o:=fun b o e=>kq b o (hHp ▸ aE _ e);have hacc:M.get? s2.heap.objs.size=some { cls:=.type "list",data:=.seq ([]:List VL).toArray}:=kq _ _ (hHp ▸ aN _ rfl);have hD2:U s2.heap.objs.size=none:=I.Ae.fresh M0;have hC2:U l.objs.size=none:=I.Ae.fresh (by rw[hC];exact Nat.le_succ _);have fpo:∀b∈fp,b<s2.heap.objs.size:=fun b hb=>by
  obtain⟨o,e,_⟩:=T.obj _ _ st2 b hb;exact aH e
 obtain⟨W,⟨m0,w0⟩,turn⟩:=W s2.heap.objs.size hD2;have hlt:s2.heap.objs.size<l.objs.size:=by rw[hC];exact bJ _
 have sq:(l.push { cls:=.type "dict",data:=.dict #[]}).objs.size=l.objs.size+1:=Heap.size_push ..;have k1:∀y c,(cellsFrom (l.objs.size+1) scope.names cl).lookup y=some c->X.env.cells.lookup y=some c\/(l.objs.size<c/\M.IsCell c none):=fun y c e=>by
  rcases TZ scope.names (l.push { cls:=.type "dict",data:=.dict #[]}) cl (l.objs.size+1) sq e with z|z
  .exact .inl (c1 _ _ z)
  .exact .inr (hh1 ▸ z)
 have cold:∀y c,X.env.cells.lookup y=some c->c<s2.heap.objs.size:=fun y c e=>by
  obtain⟨v,o,ho,_⟩:=I.cell y c e;exact aH ho
 have kfree:∀y,scope.names.lookup y=some .free->(cellsFrom (l.objs.size+1) scope.names cl).lookup y=cl.lookup y:=fun y e=>Tg scope.names cl _ fun hm=>by
  have:=S.cells _ hm rfl;rw[e]at this;cases this
 have ok:(BN X scope cl N l.objs.size s2 U fp).Ok:=by
  refine⟨I.ok.mod,S.kind,I.ok.glob,I.ok.blt,by show s2.heap.objs.size<=l.objs.size;rw[hC];exact Nat.le_succ _,?_,?_,?_,fun _=>I.ok.hd Z,I.ok.frames,.inl rfl,?_,I.bs,Nat.le_trans I.ok.Rr I.sz,?_,?_,I.stack,I.R7,I.kt⟩
  .exact W9 scope.names cl _ (fun a b c h1 h2=>I.ok.inj a b c (c1 _ _ h1) (c1 _ _ h2)) fun a c h=>by
    exact Nat.lt_succ_of_lt (bT (cold a c (c1 _ _ h)) hlt)
  .intro y hy;obtain⟨k,hm,hk⟩:=XB hy;rcases hk with rfl|rfl
   .obtain⟨c,hc⟩:=c2 _ hm rfl;exact⟨c,by rw[show(BN X scope cl N l.objs.size s2 U fp).env.cells.lookup y=_ from kfree y (S.free _ hm rfl)];exact hc⟩
   .obtain⟨c,hc,_⟩:=OS scope.names cl (l.objs.size+1) hm;exact⟨c,hc⟩
  .intro y c hf e;obtain⟨c',hc,hge⟩:=OS scope.names cl (l.objs.size+1) (lookup_mem (ah hf));have e':(cellsFrom (l.objs.size+1) scope.names cl).lookup y=some c:=e;rw[hc]at e';cases e';exact aQ (ay hlt) (Nat.le_of_succ_le hge)
  .intro b hb;refine⟨(below b (fpo b hb)).1,fun y c e=>?_⟩;obtain⟨_,_,_,_,f5,_⟩:=f2 b hb;rcases k1 _ _ e with z|⟨z,_⟩
   .exact f5 y c z
   .exact bV (bT (fpo b hb) (bT hlt z))
  .intro b o e hb;obtain⟨_,_,_,f4,_,_⟩:=f2 b hb;rcases f4 with z|z
   .exact I.ok.SK b o e z
   .exact absurd (aD (aH e) (aQ I.ok.Rr z)) (Nat.lt_irrefl _)
  .intro b hb hs;obtain⟨_,f1,f3,_⟩:=f2 b hb;rcases aO.mp (I.NV b hs) with z|z
   .exact f1 z
   .exact f3 z
 have I4:Inv Tm [] (carry fr σ) (upd U s2.heap.objs.size OF) {s2 with heap:=M,toks:=s2.toks}:=by
  refine⟨ok,rfl,I.bare,Un.laid old M0 hD2,⟨_,hns₁,fun i y v h1 h2 h3=>?_⟩,fun y c e=>?_,?_,fun y c e=>?_,fun p hp=>(by cases hp),I.Ae.laid old M0 ⟨az _,[],0,.nil,hacc⟩,?_⟩
  .obtain⟨j,e1,e2⟩:=iU h2;obtain⟨n,n1,n2,n3,n4⟩:=Ph hfr e1;rw[Nat.zero_add]at n1;have:y=n:=by
    have h1':N[i]? = some y:=h1;rw[h1']at n1;exact af n1
   subst this;obtain⟨m,hn,hl⟩:=I.loc;obtain⟨u,ru,lk⟩:=hl j y v n2 e2 (.inr (.inl n4));refine⟨u,ru,?_⟩;obtain⟨c,hc⟩:=c2 _ (lookup_mem n3) rfl;rcases lk with ⟨k1,_⟩|⟨_,c',hc',hcell⟩
   .have k1':X.env.scope.names.lookup y=some .local:=k1;rw[n4]at k1';cases k1'
   .have:=c1 _ _ hc;rw[hc']at this;cases this;refine .inr ⟨?_,c,(kfree y n3).trans hc,hcell.keeps old⟩;rcases h3 with z|z|z
    .obtain⟨k,hm⟩:∃k,(y,k)∈scope.names/\k=NameKind.local:=by
      have hm:=lookup_mem z;have hm':(y,NameKind.local)∈(relabel scope X.env).names:=hm;unfold relabel at hm';obtain⟨⟨m',k⟩,hy,e⟩:=aI.mp hm';dsimp only at e;by_cases hcond:(k==NameKind.free&&X.env.scope.kind==.function&&X.env.kindOf m'==some .cell)=true
      .rw[if_pos hcond]at e;injection e with _ e2';cases e2'
      .rw[if_neg hcond]at e;injection e with e1' e2';subst e1' e2';exact⟨_,hy,rfl⟩
     obtain⟨hm,rfl⟩:=hm;have:=S.names _ hm rfl;rw[n3]at this;cases this
    .exact .inl z
    .exact .inr z
  .rcases k1 _ _ e with z|⟨_,z⟩
   .obtain⟨v,z⟩:=I.cell y c z;exact⟨v,z.keeps old⟩
   .exact⟨_,z⟩
  .show upd U s2.heap.objs.size _ l.objs.size=none;rw[AN (Ne.symm hDC)];exact hC2
  .rcases k1 _ _ e with z|⟨z,_⟩
   .rw[AN (below c (cold _ _ z)).2];exact I.FV y c z
   .rw[AN (bV (bT hlt z))];exact I.Ae.fresh (ay (bT hlt z))
  .show(carry fr σ).length=N.length;unfold carry;rw[Pi];exact hlen
 have fpX:∀(p:LT) (H':Hp),(∀q∈p,q.1∈fp->False)->(∀b∈fp,H' b=none)->∀b∈fp,K7 Tm p H' b:=fun p H' hp hn b hb=>by
  obtain⟨_,f1,f3,f4,f5,_⟩:=f2 b hb;refine⟨hn b hb,(below b (fpo b hb)).1,fun hs=>ok.SG b hb hs,.inl hb,fun y c e=>?_,fun q hq e=>?_⟩
  .rcases k1 _ _ e with z|⟨z,_⟩
   .exact f5 y c z
   .exact bV (bT (fpo b hb) (bT hlt z))
  exact hp q hq (e ▸ hb)
 have loop:∀Y:SD,Y={s2 with heap:=M,toks:=s2.toks} ->
   codeAny B7 X.A (.compLoop SL 0 (.ref it) (.ref s2.heap.objs.size) (compEnvC scope (cellsFrom (l.objs.size+1) scope.names cl) l.objs.size X.env)) (RR (.ref s2.heap.objs.size) l.objs.size) Y:=by
  rintro Y rfl;refine Ka (fun n s'=>∃i ys σ' H',Inv Tm [] σ' H' s'/\(∀u,g u σ'=g u (carry fr σ))/\tn i s'.heap/\(∀b∈fp,H' b=none)/\W i n ys H') ?_ m0
   ⟨0,[],carry fr σ,_,I4,fun _=>rfl,T.keep _ _ _ st2 fun b _ o e=>old b o e,fun b hb=>by rw[AN (below b (fpo b hb)).2];exact(f2 b hb).1,w0⟩
  rintro n s3 ⟨i,ys,σ3,H3,I3,hσ,st3,fr3,w3⟩;obtain⟨hD3,way⟩:=turn i n ys H3 w3;rcases way with ⟨stop,qn⟩|⟨go,hsz,step⟩
  .refine aU (T.done Tm rfl rfl rfl Z i [] s3 σ3 H3 (fun _ _=>False) I3 (fpX [] H3 (fun _ z=>by cases z) fr3) st3 stop) (fun r s4 ⟨hr,I5⟩=>?_) fun _ _ z=>z.elim;subst hr;obtain⟨m,hn,_⟩:=id I5.loc;refine fin _ _ s4 H3 m hn qn (fun h' hs'=>?_) (Ne.symm hDC) (fun b o e=>(below b (aH e)).1) I5.free (by rw[hC];exact Nat.le_succ _);have nC:∀b u,H3 b=some u->b≠l.objs.size:=fun b u e z=>by
    have:=I5.free;rw[show(BN X scope cl N l.objs.size s2 U fp).env.locals=l.objs.size from rfl,<-z,e]at this;cases this
   have keepU:Un (GG X.stack) fp U H3 s2.heap h':=by
    have u:=I5.base;refine⟨fun b o e n hb hx=>?_,fun b o e n hb hx=>?_,fun b o e n hx=>u.free b o e n hx,fun b o e hx=>?_,u.Bi,u.FN,u.GO,fun b xs o q e hx=>(hs'.2 b (below b (aH e)).1).trans (u.GL b xs o q e hx)⟩
    .exact(hs'.2 b (below b (aH e)).1).trans (u.keep b o e n hb hx)
    .obtain⟨sl,e1⟩:=u.slot b o e n hb hx;exact⟨sl,(hs'.2 b (below b (aH e)).1).trans e1⟩
    .obtain⟨o',e1⟩:=u.there b o e hx;exact⟨o',(hs'.2 b (below b (aH e)).1).trans e1⟩
   have hok':DZ X.prog X.w H3 h':=fun b u e=>(I5.Ae b u e).J9 (fun c v hc q=>(hs'.2 c (by
    rcases hc with rfl|hc
    .exact nC _ _ e
    .exact nC _ _ hc)).trans q) (fun _ q=>q) fun _ _ q=>q
   refine I.nc (s':={s4 with heap:=h'}) (ch:=fp) I5.os keepU hok' I5.bare fun b hb=>?_;obtain⟨_,f1,_,f4,f5,f6⟩:=f2 b hb;exact⟨f4,f1,f5,f6⟩
  .refine aU (T.item Tm rfl rfl rfl Z i [] s3 σ3 H3 (fun _ _=>False) I3 (fpX [] H3 (fun _ z=>by cases z) fr3) st3 go) (fun r s4 ⟨u,hr,h4⟩=>?_) fun _ _ z=>z.elim;subst hr;show wpAny B7 X.A (letOwnedTupleGo tgE (.ref it) u>>=fun _=>assign tgE (compEnvC scope (cellsFrom (l.objs.size+1) scope.names cl) l.objs.size X.env) u) _ _ s4;refine Wb (aU h4 (fun _ s5 ⟨xv,H5,I5,r5,y5,st5,fr5⟩=>?_) fun _ _ z=>z.elim);have I5':=I5.pinned (fpX [] H5 (fun _ z=>by cases z) fr5) (T.obj _ _ st5);have st5':=step xv H5 y5;unfold Md at st5';rw[<-hσ]at st5';refine aU (hpg _ _ _ _ _ _ s5 σ3 H5 xv u _ I5' r5 (hk _ _ _ _ st5')) (fun _ s6 ⟨σ6,H6,I6,step5,rv6⟩=>?_) fun _ _ z=>z.elim;refine aU (hif _ _ _ _ _ _ s6 _ H6 _ I6 step5) (fun b s7 ⟨H7,I7,q7⟩=>?_) fun _ _ z=>z.elim;have again:∀ {s8:SD} {H8:Hp} {k:Nat} {zs:List V},Inv Tm ([]++Qz fp s5.heap) σ6 H8 s8->W SB k zs H8->k<n ->
     ∃m,m<n/\∃i ys σ' H',Inv Tm [] σ' H' s8/\(∀u,g u σ'=g u (carry fr σ))/\tn i s8.heap/\(∀b∈fp,H' b=none)/\W i m ys H':=fun {s8 H8 k zs} I8 w8 hk=>by
    refine⟨k,hk,i+1,zs,_,H8,I8.MG,fun u=>(rv6 u).trans (hσ u),T.keep _ _ _ st5 fun b hb o e=>(I8.pin (b,o) (aY _ (aY _ (JW hb e)))).1,fun b hb=>?_,w8⟩;obtain⟨o,e,d⟩:=T.obj _ _ st5 b hb;exact(I8.pin (b,o) (aY _ (aY _ (JW hb e)))).2.1
   cases b with
   |false=>
    rw[if_neg aK]at q7 ⊢;obtain⟨k,hk,w7⟩:=q7;exact again I7 w7 hk
   |true=>
    rw[if_pos rfl]at q7 ⊢;refine aU (he _ _ _ _ _ _ s7 _ H7 _ I7 q7) (fun yv s8 ⟨y,H8,I8,r8,hD8,k,hk,w8⟩=>?_) fun _ _ z=>z.elim;refine aU (Kp (X:=BN X scope cl N l.objs.size s2 U fp) _ s8 _ H8 (.ref s2.heap.objs.size) [y] (.ref s2.heap.objs.size) [yv] (fun _ H9=>H9=upd H8 s2.heap.objs.size (.lst (ys++[y]))) I8 rfl (.cons r8 .nil) ⟨_,ys,y,rfl,rfl,hD8,hsz,rfl⟩) (fun _ s9 ⟨_,H9,I9,_,e9⟩=>?_) fun _ _ z=>z.elim;subst e9;exact again I9 w8 hk
 exact codeAny_compStart_list (loop _ rfl) (T.self X.A 0 _ _ _ (T.keep _ _ _ st2 fun b _ o e=>old b o e) (loop _ rfl))
def Xe(S:Ie scope)(U:Rs)(hk:∀v σ H Q,g v σ H Q->g v σ H fun σ' H'=>Q σ' H'/\∀u,g u σ'=g u σ)(hpg:∀cl C s₀ H₀ fp,PG Ev tgE g) (hfr:JC N X.N scope X.env.scope fr 0=true)(Y:fr.length=N.length)(l:∀y∈scope.names,y.2=.free->X.env.scope.names.lookup y.1=some .cell\/X.env.scope.names.lookup y.1=some .free) (hi:PI X tgE iter wi)(hif:∀cl C s₀ H₀ fp,UZ Ev ifs tif)(he:∀cl C s₀ H₀ fp,PE Ev elt te) (hs:∀x,foldedSetIterable iter X.env x=pure x){σ:St}(I:BE)(hw:Lc wi fr g tif te σ H Q) (fin:∀D C s' H' m,s'.heap.Ns C m->Q (.ref D) H'->(∀h',Heap.SameBut C s'.heap h'->Inv X pins σ H' { s' with heap:=h'})->H' C=none->C≠X.env.locals->X.s₀.heap.objs.size<=C->(∀z c,X.env.cells.lookup z=some c->c≠C)->(∀p∈X.pn++pins,p.1≠C) ->compPost B7 X.A X.xe use Z (.ref D) C (.ok .next) s'):wpAny B7 X.A (comprehension SL scope X.env ps (newList []) false (eval iter X.env) use) Z X.xe s:=by
 obtain⟨cl,M,c1,_,c2⟩:=Ma scope.names [] (fun y hy hf=>I.ok.has y.1 (l y hy hf)) (fun y c z=>by cases z);refine wpAny_comprehension_free rfl hs (show closureFor scope X.env=pure cl by
  rw[(show closureFor scope X.env=(_>>=fun cs=>pure cs) from rfl),M]
  rfl) S.kind S.names (Ay (hi pins s σ H _ I hw) fun v s1 h1=>Ay h1 fun itv s2 h2=>?_)
 obtain⟨it,fp,tn,J,H2,e,I2,T,st2,f2,W⟩:=h2;subst e;refine dP S U hk hpg hfr Y hif he I2 T st2 f2 c1 c2 W ?_;intro D C s' H' m hn q hI _ hold hfC hsz;refine fin D C s' H' m hn q hI hfC (fun z=>?_) (aQ I2.sz hsz) (fun z c e=>?_) fun p hp=>?_
 .obtain⟨_,⟨o,_,_,e,_⟩,_⟩:=I2.loc;exact hold _ _ e z.symm
 .obtain⟨_,o,ho,_⟩:=I2.cell z c e;exact hold _ _ ho
 .obtain⟨e,_⟩:=I2.pin p hp;exact hold _ _ e
section
variable(S:Ie scope)(hcalm:Rs)(hk:∀v σ H Q,g v σ H Q->g v σ H fun σ' H'=>Q σ' H'/\∀u,g u σ'=g u σ)(hpg:∀cl C s₀ H₀ fp,PG Ev tgE g)
 (hfr:JC N X.N scope X.env.scope fr 0=true)(hlen:fr.length=N.length)(hfree:∀y∈scope.names,y.2=.free->X.env.scope.names.lookup y.1=some .cell\/X.env.scope.names.lookup y.1=some .free)
 (hi:PI X tgE iter wi)(hif:∀cl C s₀ H₀ fp,UZ Ev ifs tif)(he:∀cl C s₀ H₀ fp,PE Ev elt te)
 (hs:∀x,foldedSetIterable iter X.env x=pure x)
include S hcalm hk hpg hfr hlen hfree hi hif he hs
theorem SS:PE X SL (Lc wi fr g tif te):=fun pins s σ H Q I M=>Xe S hcalm hk hpg hfr hlen hfree hi hif he hs I M fun D C s' H' m hn q T _ _ _ _ _=>⟨m,hn,fun h' l=>⟨.ref D,H',T h' l,rfl,q⟩⟩
theorem Z7(hN:X.N.Nodup)(hy:X.N[i]? = some y)(T:X.env.scope.names.lookup y=some .local) (Y:swapsWith SL (some (.Name y py)) M.line X.env=pure true):PS X (.Assign [.Name y py] SL M) (Wu (Lc wi fr g tif te) (Ct i)):=by
 intro pins s σ H D I hw;rw[exec_Assign_Name_used _ _ _ _ Y];refine Wb (wpAny_standAt (Wb (Wb (aU (Xe S hcalm hk hpg hfr hlen hfree hi hif he hs I hw ?_) (fun _ s' hq=>aB (aB hq)) fun _ _ e=>e))));intro D' C s' H' m hn q hI l hL U hcl hp;exact wpAny_assign_Name (UP (hI s'.heap (Heap.SameBut.refl ..)) hN hy (.inl T) (v:=.ref D') rfl (fun s'' I6 ⟨a,Z,ha⟩=>⟨m,hn.sameBut Z (show C≠a by
  grind),fun h' hs'=>⟨_,H',I6.turned (fun b o hb e=>(hs'.2 b hb).trans e) l hL (.inr U) hcl hp,q⟩⟩) (.inr T))
end
end
end L2
namespace FM
def gi(a b:Int):Int:=(Int.gcd a b:Int)
def XZ a b:Int.gcd b (a.fmod b)=Int.gcd a b:=by
 rw[(Int.fmod_def a b),Int.gcd_comm a b];simp
def UI(a b:Int)(hb:b≠0):(a.fmod b).natAbs<b.natAbs:=by
 rcases Int.lt_or_gt_of_ne hb with h|h
 .have M:-(a.fmod b)=(-a).fmod (-b):=by
   simp
  have I:=Int.fmod_nonneg_of_pos (-a) (show 0 < -b by lia);have l:=Int.fmod_lt_of_pos (-a) (show 0 < -b by lia)
  lia
 .have I:=Int.fmod_nonneg_of_pos a h;have l:=Int.fmod_lt_of_pos a h
  lia
def Jn(hb:b≠0):0<gi a b:=by
 have:=Int.gcd_pos_of_ne_zero_right a hb;unfold gi;lia
def dA(hb:b≠0):(gi a b).natAbs<=b.natAbs:=by
 have:=Nat.le_of_dvd (show 0<b.natAbs by lia) (Int.natAbs_dvd_natAbs.mpr (Int.gcd_dvd_right a b));unfold gi;lia
def gs(t b:Int):Int:=if b<0 then -gi t b else gi t b
def mV(hb:b≠0):gs t b≠0:=by
 have:=Jn (a:=t) hb;unfold gs;lia
def nu(hb:b≠0):(gs t b).natAbs<=b.natAbs:=by
 have:=dA (a:=t) hb;unfold gs;lia
def Hj{g x k:Int}(hg:g≠0)(e:x=g*k):x.fdiv g=k:=by
 simp_all
def LN(a b:Int):gi a b ∣ a:=Int.gcd_dvd_left a b
def N7(a b:Int):gi a b ∣ b:=Int.gcd_dvd_right a b
def Xw(hb:b≠0):t.fdiv (gs t b)=(Rat.divInt t b).num:=by
 have l:=Jn (a:=t) hb;obtain⟨k,hk⟩:=LN t b;rw[Rat.num_divInt,Int.gcd_comm b t];show t.fdiv _=b.sign*t / gi t b;unfold gs;generalize gi t b=g at l hk ⊢;rcases Int.lt_or_gt_of_ne hb with h|h
 .rw[Int.sign_eq_neg_one_of_neg h,Hj (k:=-k) AS GM,(show -1*t=g*(-k) by lia),Int.mul_ediv_cancel_left _ AS]
 grind
def Xy(hb:b≠0):b.fdiv (gs t b)=((Rat.divInt t b).den):=by
 have l:=Jn (a:=t) hb;obtain⟨k,hk⟩:=N7 t b;rw[Rat.den_divInt,if_neg hb,Int.gcd_comm b t,(show(((b.natAbs / Int.gcd t b:Nat)))=b.natAbs / gi t b by rfl)];unfold gs;generalize gi t b=g at l hk ⊢;rcases Int.lt_or_gt_of_ne hb with h|h
 .rw[if_pos h,Hj AS (by rw[Int.neg_mul_neg];exact hk),(show b.natAbs=g*(-k) by grind),Int.mul_ediv_cancel_left _ AS]
 lia
def DD(a b:Int):(a.fdiv b).natAbs<=a.natAbs:=by
 cases a with
 |ofNat n=>
  cases n with
  |zero=>
   simp
  |succ k=>
   cases b with
   |ofNat j=>exact Nat.div_le_self _ j
   |negSucc j=>exact Nat.succ_le_succ (Nat.div_le_self k _)
 |negSucc k=>
  cases b with
  |ofNat j=>
   cases j with
   |zero=>lia
   |succ j=>exact Nat.succ_le_succ (Nat.div_le_self k _)
  |negSucc j=>exact Nat.div_le_self _ _
def rT(hb:b≠0):(Rat.divInt t b).num.natAbs<=t.natAbs:=by
 rw[<-Xw hb];exact DD _ _
def iV(hb:b≠0):(Rat.divInt t b).den<=b.natAbs:=by
 have h:=DD b (gs t b);rw[Xy hb]at h
 lia
def Rn(p:Rat):(p.den:Int)≠0:=by
 have:=p.den_nz
 lia
def EZ p:Rat.divInt p.num p.den=p:=Rat.num_divInt_den p
def uc p q:Rat.divInt (p.num*q.den+q.num*p.den) (p.den*q.den)=p+q:=by
 rw[<-Rat.divInt_add_divInt _ _ (Rn p) (Rn q),EZ,EZ]
def qg(p q:Rat):(p.den:Int)*q.den≠0:=Int.mul_ne_zero (Rn p) (Rn q)
def Zr{p q:Rat}(l:p.num=q.num)(I:p.den=(q.den:Int)):p=q:=Rat.ext l AS
def Bj{x y:Int}(I:x.natAbs<2^m)(l:y.natAbs<2^n):(x*y).natAbs<2^(m+n):=by
 rw[Int.natAbs_mul,Nat.pow_add];exact Nat.mul_lt_mul'' I l
def HD(l:x<2^m)(h:m<=n):x<2^n:=aD l (aM AC h)
def Fits(p:Rat)(n:Nat):Prop:=p.num.natAbs<2^n/\p.den<2^n
def Fits.d(h:Fits p n):((p.den:Int)).natAbs<2^n:=by simpa using h.2
def Fits.wI(hb:b≠0)(I:t.natAbs<2^n)(l:b.natAbs<2^n):Fits (Rat.divInt t b) n :=
 ⟨aP (rT hb) I,Nat.lt_of_le_of_lt (iV hb) l⟩
def ZV a b:Int.gcd (if a<0 then -a else a) (if b<0 then -b else b)=Int.gcd a b:=by
 split<;>split<;>simp
def abs_nonneg a:0<=(if a<0 then -a else a):=by lia
def gJ(h:Int.gcd g 0=Int.gcd a b)(h0:0<=g):g=gi a b:=by
 unfold gi;rw[<-h,Int.gcd_zero_right]
 lia
def fmod_nonneg{g l:Int}(I:l≠0)(h:0<=l):0<=g.fmod l:=Int.fmod_nonneg_of_pos g AS
end FM
namespace L2
open PySem PySem.Spec PyProof.Rows
structure Fn(K:Fg)(mg:Str->Option Value)(x:Str)(st:Stmt)(ps:List Str)(f:Addr)(fd:FuncData):Prop where
 F:Uz K x x st f fd
 b:Binds K fd ps []
 m:mg x=some (.ref f)
section
variable{X:Cx}{k:Nat}{f:AD}{fd:F0a}{ps:AAy}{sp:Sp}{x:Str}{st:Stmt}{p pos:Pos}{e:Expr}{es:AA0}{t:TA}
def EW(T:Fn X.K X.mg x st ps f fd)(G:Af X.prog X.w X.K X.mg X.base Ac k f fd ps sp)(M:Bh k X.A)(hg:Gl X x)(ha:PA X cr t) (I:Fk=false:=by decide)(U:starEach cr X.env=EQ::starEach es X.env:=by rfl)(l:(backTo pos ON).any Hq=false:=by rfl):PE X Cl (Ve sp [] E0 t):=Zo G M hg T.m T.F.kp T.b .nil xo ha I U l
end
def Pd(P:St->Hp->Prop)(I:∀nx ,(∀σ' H',P σ' H'->nx σ' H')->t {D with nx:=nx} σ H)(l:∀σ' H',P σ' H'->u D σ' H'):uS t u D σ H:=I _ l
def oI:2<=sizeLine:=by decide
def Aj(h:H p=none) o:AI H (upd H p o):=fun b u q=>by rw[AN (Ah q h)];lia
def SameBut(l:AD)(H H':Hp):Prop:=∀b o,b≠l->H b=some o->H' b=some o
def SameBut.of(h:AI H H'):SameBut l H H':=fun b o _ q=>h b o q
def SameBut.trans(a:SameBut l H M)(b:SameBut l M I):SameBut l H I:=fun c o n h=>b c o n (a c o n h)
theorem SameBut.upd:SameBut l H (upd H l o):=fun b u n q=>by rw[AN n];lia
def MK(p:Rat):ABC:=[.int p.num,.int p.den]
def An(p:Rat):PD:=.tuple [.int p.num,.int p.den]
def R9(I:i.natAbs<2^m)(l:j.natAbs<2^n)(h:m+n<=1000000):cU i j\/VV i j :=
 .inr ⟨m+n,h,FM.HD I (Nat.le_add_right _ _),FM.HD l (Nat.le_add_left _ _)⟩
def C4.get(x:C4 P w H h a o):∃u,h.get? a=some u:=by
 cases o with
 |lst xs=>obtain⟨_,_,_,_,e⟩:=x;grind
 |tup xs=>obtain⟨_,_,_,o,e,_⟩:=x;grind
 |dK kvs=>obtain⟨_,_,_,_,o,_,_,e,_⟩:=x;grind
 |dT kvs=>obtain⟨_,_,_,_,o,_,_,e,_⟩:=x;grind
 |set S n=>obtain⟨o,_,_,_,e,_⟩:=x;grind
 |ins C dx fs=>obtain⟨_,_,_,e,_⟩:=x;grind
 |own y=>obtain⟨o,e⟩:=x;grind
 |xd fs=>obtain⟨_,⟨o,_,_,e,_⟩,_⟩:=x;grind
 |oB lo hi=>obtain⟨_,_,_,e⟩:=x;grind
 |Eu ob u=>obtain⟨e,_⟩:=x;grind
 |Ox ps=>exact⟨_,x⟩
 |met f y=>exact⟨_,x⟩
 |ext φ=>obtain⟨_,⟨o,e⟩,_⟩:=x;grind
structure bc(P:Program)(w:World)(outer:List Env)(H:Hp)(s:Shared)(ea:Addr)(cls a0:Value)(H':Hp)(s':Shared)(B:Heap):Prop where
 os:s'.os=s.os
 bare:AllBare s'.gens
 vP:Heap.FlyingW B outer ea cls a0 s'.heap
 keep:∀b o,s.heap.get? b=some o->H b=none->b ∉ GG outer->B.get? b=some o
 there:∀b o,s.heap.get? b=some o->b ∉ GG outer->∃o',B.get? b=some o'
 slot:∀b o,s.heap.get? b=some o->b∈GG outer->∃sl,s'.heap.get? b=some {o with slots:=sl}
 free:∀b o,s.heap.get? b=some o->H b=none->H' b=none
 Bi:∀b xs,H b=some Jl->H' b=some Jl
 FN:∀b o u,H b=some (.Eu o u)->H' b=some (.Eu o u)
 GO:∀b ps,H b=some (.Ox ps)->∃more,H' b=some (.Ox (ps++more))
 GL:∀b xs o,H b=some Jl->s.heap.get? b=some o->B.get? b=some o
 Ae:DZ P w H' B
 new:s.heap.get? ea=none
def CO(P:F0b)(w:F0c):Jr:=fun outer H s E e s'=>∃ea cls a0 H' B,e=.ref ea/\bc P w outer H s ea cls a0 H' s' B/\E cls none H'
def QE{base h:Heap}(F:h.FunFrames base l)(hb:b∈GG l):∃o,h.get? b=some o/\∀vs,o.data≠.fields vs:=(F.mem hb).2
section
variable{P:F0b}{w:F0c}{K:Fg}{mg:AAs}{base:Heap}{N:AAy}{qual:Str}{scope:Scope}{f:AD}{cd:VL}{A:F0d}{outer:List Env}{s:SD}{H:Hp}{E:XK}
def qy{σ:St}(I:Inv (B5 (CO P w) P w K mg base N qual scope f cd A outer s H E) pins σ H1 s1) (Y:Heap.MadeExcOf s1.heap h' ea cls args)(hE:E cls none H1):(B5 (CO P w) P w K mg base N qual scope f cd A outer s H E).xe (.ref ea) {s1 with heap:=h'}:=by
 have M:∀b o,s.heap.get? b=some o->b≠s.heap.objs.size:=fun b o e=>aJ (aH e);have out:∀b,b≠s.heap.objs.size->b ∉ GG outer->b ∉ (envOfC qual scope s.heap.objs.size f cd::outer).filterMap (·.frame):=fun b h1 h2 hm=>by
  rcases aO.mp (I.NV b hm) with z|z
  .exact h1 z
  .exact h2 z
 have l:∀b u,H1 b=some u->b ∉ (envOfC qual scope s.heap.objs.size f cd::outer).filterMap _:=fun b u e hm=>by
  have:=I.R7 b hm;rw[e]at this;cases this
 refine wpAny_leaves_madeW I.ok.frames rfl (fun b o q=>PySem.W.of_hideAll _ q) (PySem.W.funFrames_hide I.stack (fun env he b hb=>List.mem_filterMap.mpr ⟨env,he,hb⟩)) Y fun h2 t fl _ _ up=>⟨ea,cls,.ref t,H1,_,rfl,⟨I.os,I.bare,fl,fun b o e n hb=>?_,fun b o e hb=>?_,fun b o e hb=>?_,fun b o e n=>I.base.free b o e n (by simp[B5]),I.base.Bi,I.base.FN,I.base.GO,fun b xs o q e=>PySem.W.hideAll_get _ (I.base.GL b xs o q e (by simp[B5])) (l b _ (I.base.Bi b xs q)),(fun b u e=>
  (I.Ae b u e).J9 (fun c v Z q=>PySem.W.hideAll_get _ q (by
   rcases Z with rfl|Z
   .exact l _ _ e
   .exact l _ _ Z)) (fun _ q=>q) fun _ _ q=>q),?_⟩,hE⟩
 .exact PySem.W.hideAll_get _ (I.base.keep b o e n hb (by simp[B5])) (out b (M b o e) hb)
 .obtain⟨o',T⟩:=I.base.there b o e (by simp[B5]);exact⟨o',PySem.W.hideAll_get _ T (out b (M b o e) hb)⟩
 .obtain⟨sl,T⟩:=I.base.slot b o e (I.ok.Qi b hb) hb (by simp[B5]);obtain⟨o',e2,hd⟩:=QE I.HI hb;rw[T]at e2;cases e2;obtain⟨U,e3⟩:=up b _ (Y.keeps _ _ T) hd;exact⟨U,e3⟩
 .cases q:s.heap.get? ea with
  |none=>rfl
  |some o=>
   obtain⟨o',T⟩:=I.base.there ea o q (by simp[B5]);have:=Y.new;rw[T]at this;cases this
def xP(hE:∀c a H',E' c a H'->E c a H'):Passes (CO P w) (B5 (CO P w) P w K mg base N qual scope f cd A outer s H E) E':=by
 intro pins σ H1 s1 e s2 I ⟨ea,cls,a0,H2,B,ee,F,hq⟩;subst ee;have M:∀b o,s.heap.get? b=some o->b≠s.heap.objs.size:=fun b o e=>aJ (aH e);have out:∀b,b≠s.heap.objs.size->b ∉ GG outer->b ∉ GG (B5 _ P w K mg base N qual scope f cd A outer s H E).stack:=fun b h1 h2 hm=>by
  rcases aO.mp (I.NV b hm) with z|z
  .exact h1 z
  .exact h2 z
 refine wpAny_leaves_onW I.ok.frames rfl F.vP fun h3 fl up=>⟨ea,cls,a0,H2,B,rfl,⟨F.os.trans I.os,F.bare,fl,fun b o e n hb=>?_,fun b o e hb=>?_,fun b o e hb=>?_,fun b o e n=>?_,fun b xs q=>F.Bi b xs (I.base.Bi b xs q),fun b o u q=>F.FN b o u (I.base.FN b o u q),fun b ps q=>?_,fun b xs o q e=>F.GL b xs o (I.base.Bi b xs q) (I.base.GL b xs o q e (by simp[B5])),F.Ae,?_⟩,hE _ _ _ hq⟩
 .exact F.keep b o (I.base.keep b o e n hb (by simp[B5])) (I.base.free b o e n (by simp[B5])) (out b (M b o e) hb)
 .obtain⟨o',l⟩:=I.base.there b o e (by simp[B5]);exact F.there b o' l (out b (M b o e) hb)
 .obtain⟨sl,l⟩:=I.base.slot b o e (I.ok.Qi b hb) hb (by simp[B5]);have U:=by
   show b∈GG (envOfC qual scope s.heap.objs.size f cd::outer);exact aW _ hb
  obtain⟨sl2,Y⟩:=F.slot b _ l U;obtain⟨o',Z,hd⟩:=QE I.HI hb;rw[l]at Z;cases Z;obtain⟨T,e4⟩:=up b _ Y hd;exact⟨T,e4⟩
 .obtain⟨o',l⟩:=I.base.there b o e (by simp[B5]);exact F.free b o' l (I.base.free b o e n (by simp[B5]))
 .obtain⟨m1,l⟩:=I.base.GO b ps q;obtain⟨m2,Y⟩:=F.GO b _ l;exact⟨m1++m2,by rw[Y,Array.append_assoc]⟩
 .cases q:s.heap.get? ea with
  |none=>rfl
  |some o=>
   obtain⟨o',l⟩:=I.base.there ea o q (by simp[B5]);have:=F.new;rw[l]at this;cases this
def Uz.okW{st}(F:Uz K x x st f fd)(S:BQ N ps (AW st))(len:∀vs H Q E,sp vs H Q E->vs.length=ps.length) (l:∀cdv A outer s H vs Q E,Bh k (A.deeper (envOfC x (AW st) s.heap.objs.size f cdv))->sp vs H Q E ->∃t,HC (B5 (CO P w) P w K mg base N x (AW st) f cdv A outer s H E) (CB st) t/\t { nx:=fun _ H'=>Q .BV H',rt:=Q} (start N vs) H):Af P w K mg base (CO P w) (k+1) f fd ps sp:=by
 obtain⟨oc,od,kV,doc,pm,an,cdv,ct,osl,rfl,lk,M⟩:=F.ex;exact mH lk M S len fun A outer s H vs Q E T I=>l cdv A outer s H vs Q E T I
end
structure Exc(K:Fg)(mg:Str->Option Value)(x:Str)(C:Addr):Prop where
 m:mg x=some TW
 q:PySem.W.excIn K C [.type "ValueError",.type "Exception",.type "BaseException",.type "object"] "ValueError.__new__" = true
def rM{K:Fg}{h:Heap}{C:AD}{bB:AAn}{M:String}(Mj:K.In h)(I:PySem.W.excIn K C bB M=true):∃T N nm Y bs hd sn sub ab col dd k0 k1 k2 k3 k5 mN,h.get? C=some (excClassObj nm Y C N bs T hd sn sub ab col dd k0 k1 k2 k3 k5 M)/\h.Ns N mN/\mN "__init__" = none/\OwnTail h bB T:=by
 unfold PySem.W.excIn at I;split at I
 .rename_i dd cd sl lk;split at I
  .rename_i C1 T k0 k1 k2 k3 n1 k5 e1 e2;simp at I;obtain⟨⟨⟨⟨⟨y1,y2⟩,y3⟩,y4⟩,U⟩,Z⟩:=I;subst y1 y2;obtain⟨nm,bs,mro,N,Y,hd,sn,sub,ab,col,del⟩:=cd;dsimp only at e1 y3 U Z;subst e1 y3;have e3:sl=#[k0,k1,k2,k3,some (.builtin n1),k5]:=by
    cases sl with
    |mk l=>simp only at e2;rw[e2]
   subst e3;exact⟨T,N,nm,Y,bs,hd,sn,sub,ab,col,dd,k0,k1,k2,k3,k5,_,Mj _ _ lk,.of_isNs (PySem.W.isNs_of_in Mj U),PySem.W.nsMap_none_of_in Mj U Z,PySem.W.tail_of_in Mj y4⟩
  .cases I
 .cases I
section
variable{X:Cx}{x:Str}{C:AD}{np cpos pos:Pos}{e:Expr}{te:TE}{E:XK}
def Lets(X:Cx)(E:XK):Prop:=∀pins (σ:St) H s h' ea cls args,Inv X pins σ H s->Heap.MadeExcOf s.heap h' ea cls args->E cls none H->X.xe (.ref ea) {s with heap:=h'}
def vd(C:AD)(E:XK)(te:TE):TS:=fun _ σ H=>te σ H fun _ l=>E TW none l
def jB(T:Exc X.K X.mg x C)(hL:Lets X E)(M:Rs)(hg:Gl X x)(he:PE X e te)(hd:Fk=false:=by decide) (U:starEach [e] X.env=[EQ]:=by rfl):PS X (.Raise (some (.Call Iv [e] [] cpos)) none pos) (vd C E te):=by
 intro pins s σ H D I h;obtain⟨tl,N,nm,qn,bs,l,sn,sub,ab,col,dd,k0,k1,k2,k3,k5,mN,hC,hN,Z,TL⟩:=rM I.ok.mod.Mj T.q;refine wpAny_Raise_call_subT (nm:=nm) (q:=qn) (N:=N) (bs:=bs) (hdct:=l) (sn:=sn) (sub:=sub) (ab:=ab) (col:=col) (dd:=dd) (k0:=k0) (k1:=k1) (k2:=k2) (k3:=k3) (k5:=k5)
  PySem.F.excBase_ValueError (TL.hasType AC) (I.ok.hd M) (by rw[U];rfl) Z (IH I hg T.m ⟨rfl,?_⟩ hd)
 rw[U];exact Calls.evalArgs_plain (bK (Ay (he pins s σ H _ I h) fun u s1 ⟨v,H1,Y,r1,q1⟩=>Calls.spliced_nil (⟨rfl,by show 1<=sizeLine;decide,Y.bk _ _ hC,hN.keeps Y.bk,TL.keeps Y.bk,fun h' ea hm=>hL pins σ H1 s1 h' ea _ _ Y hm q1⟩)))
end
def VS(X:Cx)(pins:LT)(σ:St)(E:XK)(e:VL)(s':SD):Prop:=∃H0 s0,Inv X pins σ H0 s0/\CO X.prog X.w X.stack H0 s0 E e s'
abbrev TX:=St->Hp->VK->XK->Prop
def yx(X:Cx)(e:Expr)(t:TX):Prop :=
 ∀pins s (σ:St) H Q E,Inv X pins σ H s->t σ H Q E->wpAny B7 X.A (eval e X.env) (EP X pins σ Q) (VS X pins σ E) s
section
variable{X:Cx}{k:Nat}{f:AD}{fd:F0a}{ps:AAy}{sp:Sp}{x:Str}{st:Stmt}{p pos:Pos}{e:Expr}{es:AA0}{t:TA}
def vc(sp:Sp)(t:TA):TX:=fun σ H Q E=>t σ H fun vs l=>sp (vs++[]) l Q E
def qS{σ:St}(F:Af X.prog X.w X.K X.mg X.base (CO X.prog X.w) k f fd ps sp)(T:Bh k X.A)(hb:Binds X.K fd ps []) (I:BE)(r:Vals vs us)(h:sp (vs++[]) H Q E):wpAny B7 X.A (call (.ref f) us) (EP X pins σ Q) (VS X pins σ E) s:=by
 rw[(MN)]at h;have M:=hb s us I.Fb (show(us++[]).length=ps.length by rw[(MN),<-r.length];exact F.len _ _ _ _ h);rw[(MN)]at M;refine wpAny_call (codeAny_mono (F.run X.A X.stack s H _ us vs Q E T I.ua M r h) fun r s' l=>?_);cases r with
 |error e=>exact⟨H,s,I,l⟩
 |ok fl=>
  cases fl with
  |ret u=>exact I.after l
  |next=>exact False.elim l
  |brk=>exact False.elim l
  |cont=>exact False.elim l
def sC(T:Fn X.K X.mg x st ps f fd)(G:Af X.prog X.w X.K X.mg X.base (CO X.prog X.w) k f fd ps sp)(Y:Bh k X.A)(hg:Gl X x)(ha:PA X.Eh cr t) (M:Fk=false:=by decide)(Z:starEach cr X.env=EQ::starEach es X.env:=by rfl)(l:(backTo pos ON).any Hq=false:=by rfl):yx X Cl (vc sp t):=fun pins s σ H Q E I h=>bF (IH I hg T.m (PySem.W.callWith_K I.ok.mod.Mj T.F.kp (aU (ha pos pins s σ H _ (I.Ft _) h) (fun us s1 ⟨vs,H1,U,r,q⟩=>⟨U.Fb,qS G Y T.b U.DM r q⟩) fun _ _ z=>z.elim) Z l) M)
end
def land{σ:St}(I:Inv X pins σ H0 s0)(F:bc X.prog X.w X.stack H0 s0 ea cls a0 H' s' B) (st:B.StaysIn h')(up:s'.heap.UpToSlots h'):Inv X pins σ H' { s' with heap:=h',toks:=tk}:=by
 have M:∀b o,s0.heap.get? b=some o->b∈GG X.stack->∃sl,h'.get? b=some {o with slots:=sl}:=fun b o e hb=>by
  obtain⟨sl,l⟩:=F.slot b o e hb;obtain⟨o',T,hd⟩:=QE I.stack hb;rw[e]at T;cases T;obtain⟨U,Y⟩:=up b _ l hd
  grind
 refine I.nc (ch:=[]) F.os ⟨fun b o e n hb _=>st b o (F.keep b o e n hb),fun b o e n hb _=>by grind,fun b o e n _=>F.free b o e n,fun b o e _=>?_,F.Bi,F.FN,F.GO,fun b xs o q e _=>st b o (F.GL b xs o q e)⟩ (F.Ae.kept st) F.bare fun b z=>by grind
 by_cases hb:b∈GG X.stack
 .grind
 .obtain⟨o',l⟩:=F.there b o e hb;exact⟨o',st _ _ l⟩
def Sh(ea:AD)(cls:VL):HO:=.ext fun h=>∃o vs,h.get? ea=some o/\o.cls=cls/\o.data=.fields vs
def yL{X:Cx}{σ:St}(I:Inv X pins σ H0 s0)(F:bc X.prog X.w X.stack H0 s0 ea cls a0 H' s' B) (l:Inv X pins σ H' Z)(ho:∃o vs,Z.heap.get? ea=some o/\o.cls=cls/\o.data=.fields vs):H' ea=none/\Inv X pins σ (upd H' ea (Sh ea cls)) Z:=by
 have hn:H' ea=none:=by
  cases q:H' ea with
  |none=>rfl
  |some u=>
   obtain⟨o,e⟩:=(F.Ae ea u q).get;rw[F.vP.2.1]at e;cases e
 have ne:∀b o,s0.heap.get? b=some o->b≠ea:=fun b o e z=>by rw[z,F.new]at e;cases e
 have up:∀b,b≠ea->upd H' ea (Sh ea cls) b=H' b:=fun b z=>AN z;have neT:∀b u,H' b=some u->b≠ea:=fun b u e z=>by rw[z,hn]at e;cases e
 refine⟨hn,l.ok,l.os,l.bare,⟨l.base.keep,l.base.slot,fun b o e n hx=>?_,l.base.there,fun b xs e=>?_,fun b o u e=>?_,fun b ps e=>?_,l.base.GL⟩,l.loc,l.cell,?_,fun y c e=>?_,fun p hp=>?_,fun b u e=>?_,l.len⟩
 .obtain⟨o',M⟩:=I.base.there b o e hx;rw[up b (ne b o' M)];exact l.base.free b o e n hx
 .have:=l.base.Bi b xs e;rw[up b (neT _ _ this)];exact this
 .have:=l.base.FN b o u e;rw[up b (neT _ _ this)];exact this
 .obtain⟨m,M⟩:=l.base.GO b ps e;exact⟨m,by rw[up b (neT _ _ M)];exact M⟩
 .obtain⟨m,⟨o,_,_,e,_⟩,_⟩:=I.loc;rw[up _ (ne _ o e)];exact l.free
 .obtain⟨v,o,M,_⟩:=I.cell y c e;rw[up _ (ne _ o M)];exact l.FV y c e
 .obtain⟨M,Y,U⟩:=l.pin p hp;exact⟨M,by rw[up _ (ne _ _ ((I.pin p hp).1))];exact Y,U⟩
 .by_cases hb:b=ea
  .subst hb;rw[AR]at e;cases e;obtain⟨o,vs,M,Y,U⟩:=ho;exact⟨⟨o,vs,M,Y,U⟩,⟨o,M⟩,fun h1 h2 ⟨o1,T,q1,q2⟩ k=>⟨o1,T,k _ q1,q2⟩⟩
  .rw[up b hb]at e;exact(l.Ae b u e).J9 (fun c v _ q=>q) (fun c q=>by rw[up c (neT _ _ q)];exact q) fun c xs q=>by rw[up c (neT _ _ q)];exact q
structure El(K:Fg)(C G:Addr)(b:Bool):Prop where
 cl:(PySem.W.clsIn K G).isSome=true
 ty:PySem.W.typeIn K (.ref G)=some (.type "type")
 ex:PySem.W.subIn K (.ref G) (.type "BaseException")=some true
 sub:PySem.W.subIn K TW (.ref G)=some b
def Wy{M:Model}{A:F0d}{E:AAo}{s:SD}{K:Fg}{e C G:AD}{l:Obj}{b:Bool}{Q:Bool->SD->Prop}(X:K.In s.heap)(Z:s.heap.get? e=some l)(hc:l.cls=.ref C)(B:El K C G b) (h:Q b s):wpAny M A (excMatches (.ref e) (.ref G)) Q E s:=by
 have U:PySem.W.Looks M s.heap (isType (.ref G)) true:=by
  have z:=B.cl;unfold PySem.W.clsIn at z;split at z
  .rename_i c' d' cd' I Y;intro A' Q' E' s' k q;exact Wb (wpAny_loadPart (k _ _ (X _ _ Y)) (aB q))
  .cases z
 have T:PySem.W.Looks M s.heap (typeOf (.ref e)) TW:=hc ▸ (PySem.W.Looks.ld Z).andThen .now
 refine Wb (((PySem.W.looks_typeIn X B.ty).andThen (PySem.W.Looks.of_pure tc_notTuple)).at ?_);refine Wb ar;simp only[List.forIn_cons,List.forIn_nil];refine Wb (Wb (Wb (Wb (U.at ?_))));simp only[if_true];refine(PySem.W.looks_subIn X B.ex).at ?_;refine aB (aB (Wb (T.at (Wb (Wb (Wb ((PySem.W.looks_subIn X B.sub).at ?_)))))));cases b with
 |true=>
  simp only[if_true];exact aB (aB (aB h))
 |false=>
  exact aB (aB (aB h))
def Cx.held(X:Cx)(ea:AD):Cx:={X with A:=X.A.mark (some (.ref ea)),calm:=false,xe:=fun _ _=>False}
def Inv.held{σ:St}(I:BE) ea:Inv (X.held ea) pins σ H s :=
 ⟨⟨I.ok.mod,I.ok.kind,I.ok.glob,I.ok.blt,I.ok.above,I.ok.inj,I.ok.has,I.ok.XW,fun z=>(by cases z),I.ok.frames,I.ok.hW,I.ok.wG,I.ok.bs,I.ok.Rr,I.ok.SK,I.ok.SG,I.ok.HI,I.ok.Qi,I.ok.kt⟩,I.os,I.bare,I.base,I.loc,I.cell,I.free,I.FV,I.pin,I.Ae,I.len⟩
def Inv.tQ{σ:St}(ok:X.Ok)(I:Inv (X.held ea) pins σ H s):Inv X pins σ H s :=
 ⟨ok,I.os,I.bare,I.base,I.loc,I.cell,I.free,I.FV,I.pin,I.Ae,I.len⟩
def z9{σ:St}(I:BE)(hN:X.N.Nodup)(hi:X.N[i]? = some n)
 (hl:X.env.scope.names.lookup n=some .local)(h:∀s',Inv X pins (σ.set i none) H s'->Q () s'):wpAny M A (do bindName X.env n .none;unbindBehindTheSuite X.env n pos) Q E s:=by
 obtain⟨m,hn,hlk⟩:=id I.loc;refine wpAny_nameGoes_keeps hl hn (show _=false by rw[I.ok.kind];rfl) fun h' v hn' l=>h _ ?_;have hiS:i<σ.length:=by rw[I.len];exact(aF.mp hi).1
 refine⟨I.ok,I.os,I.bare,⟨fun b o e n hb T=>?_,fun b o e n hb T=>?_,I.base.free,fun b o e T=>?_,I.base.Bi,I.base.FN,I.base.GO,fun b xs o q e T=>(l.2 b bY).trans (I.base.GL b xs o q e T)⟩,⟨_,hn',fun j y v' Y Z e3=>?_⟩,fun y c e=>?_,I.free,I.FV,fun p hp=>?_,(fun b ob e=>(I.Ae b ob e).J9 (fun c w' U q=>(l.2 c (by
  rintro rfl;rcases U with U|U
  .rw[<-U,I.free]at e;cases e
  .rw[I.free]at U;cases U)).trans q) (fun _ q=>q) fun _ _ q=>q),by simpa using I.len⟩
 .exact(l.2 b bY).trans (I.base.keep b o e n hb T)
 .obtain⟨sl,Y⟩:=I.base.slot b o e n hb T;exact⟨sl,(l.2 b bY).trans Y⟩
 .obtain⟨o',Y⟩:=I.base.there b o e T;exact⟨o',(l.2 b bY).trans Y⟩
 .by_cases hj:j=i
  .subst hj;rw[List.getElem?_set_self hiS]at Z;cases Z
  .rw[List.getElem?_set_ne (Ne.symm hj)]at Z;obtain⟨u',r',q⟩:=hlk j y v' Y Z e3;refine⟨u',r',?_⟩;rcases q with ⟨k,e⟩|⟨k,c,e,z⟩
   .refine .inl ⟨k,?_⟩;simp[(show y≠n from fun e=>hj (P6 hN Y (e ▸ hi))),e]
   .exact .inr ⟨k,c,e,z.sameBut l (I.Qu y c e)⟩
 .obtain⟨w',z⟩:=I.cell y c e;exact⟨w',z.sameBut l (I.Qu y c e)⟩
 .obtain⟨e,n',ne,nf,d⟩:=I.pin p hp;exact⟨(l.2 p.1 ne).trans e,n',ne,nf,d⟩
open PySem PySem.Spec PyProof.Rows PySem.Builtin.ObjectAttr PySem.Builtin.Getset_descriptor
structure DN(K:Fg)(C:Addr):Prop where
 cl:(PySem.W.clsIn K C).isSome=true
 ga:PySem.W.findIn K TW "__getattribute__" = some (some (.builtin "BaseException.__getattribute__"))
 gh:PySem.W.findIn K TW "__getattr__" = some none
 at_:PySem.W.findIn K TW "__class__" = some (some (.builtin "object.__class__"))
 gt:PySem.W.specialIn K (.builtin "object.__class__") "__get__" = some (some (.builtin "getset_descriptor.__get__"))
 tk:PySem.W.takesIn K (.builtin "object.__class__")=some true
 ob:PySem.W.mroIn K C (.type "object")=some true
 be:PySem.W.mroIn K C (.type "BaseException")=some true
def excAt(x C:AD)(h:Heap):Prop:=∃o vs,h.get? x=some o/\o.cls=.ref C/\o.data=.fields vs
def excAt.ty(p:excAt x C h) M:PySem.W.Looks M h (typeOf (.ref x)) TW:=let⟨o,_,e,c,_⟩:=p;c ▸ (PySem.W.Looks.ld e).andThen .now
def lZ{K}(X:K.In h)(z:(PySem.W.clsIn K C).isSome=true) M:PySem.W.Looks M h (isType TW) true:=by
 unfold PySem.W.clsIn at z;split at z
 .rename_i Y U T l I;intro A' Z E' s' k q;exact Wb (wpAny_loadPart (k _ _ (X _ _ I)) (aB q))
 grind
section
variable{prog:F0b}{w:F0c}{A:F0d}{E:AAo}{K:Fg}{x C:AD}{h:Heap}{g:Array GenState}{d:Drawn}{t:Nat}{os:OsState}
def km(X:K.In h)(F:DN K C)(M:Model):PySem.W.Looks M h (find (.ref x) TW "__class__") (.bind (.builtin "getset_descriptor.__get__") (.builtin "object.__class__")):=by
 have a3:=PySem.W.looks_takesIn (M:=M) X F.tk;exact(PySem.W.looks_findIn (M:=M) X F.at_).andThen ((PySem.W.looks_specialIn X F.gt).andThen ((show PySem.W.Looks M h _ (some (.builtin "getset_descriptor.__get__",.builtin "object.__class__")) from a3.andThen .now).andThen (PySem.W.Looks.tag .now)))
def pf{tp:VL}(X:K.In h)(F:DN K C)(p:excAt x C h)(l:R (.ok (.ret TW)) ⟨h,g,d,t,os⟩):codeAny As A (.call (.builtin "getset_descriptor.__get__") ⟨[.builtin "object.__class__",.ref x,tp],[]⟩) R ⟨h,g,d,t,os⟩:=by
 have b0:=p.ty As;have b1:=PySem.W.looks_mroIn (M:=model prog w) X F.ob;refine codeAny_call_builtin PySem.W.KF.slot_gs.plain PySem.W.KF.entry_gs ?_;refine PySem.W.KF.slot_gs.check _ _ _ _ _ _ _ _ PySem.W.KF.type_class (PySem.W.KF.args_gs _ _ _) ?_;refine Wb ar;unfold descrGetter descrCheckInstance descrNameAndClass isInstance;simp only[PySem.W.KF.owner_class]
 repeat lk
 refine⟨Code.quiet_builtin _ (by decide +kernel),codeAny_builtin PySem.W.KF.entry_class ?_⟩
 repeat lk
 exact l
def fJ(X:K.In h)(F:DN K C)(p:excAt x C h)(l:Q (.done (.ret TW)) ⟨h,g,d,t,os⟩):wpAny As A (Builtin.«object.__getattribute__» ⟨[.ref x,.str "__class__" tk],[]⟩) Q E ⟨h,g,d,t,os⟩:=by
 have b0:=p.ty As;have b1:=km (x:=x) X F As
 repeat lk
 exact wpAny_run (pf X F p (aB (aB l)))
def eM(X:K.In h)(F:DN K C)(p:excAt x C h)(I:Q () ⟨h,g,d,t,os⟩):wpAny As A (checkBuiltinCall "BaseException.__getattribute__" ⟨[.ref x,l],[]⟩) Q E ⟨h,g,d,t,os⟩:=by
 have b0:=p.ty As;have b1:=PySem.W.looks_mroIn (M:=model prog w) X F.be;simp only[checkBuiltinCall,(show builtinKind "BaseException.__getattribute__" = some .slot by rfl),(show splitId "BaseException.__getattribute__" = some ("BaseException","__getattribute__") by rfl)]
 repeat lk
 exact I
def eL(X:K.In h)(F:DN K C)(p:excAt x C h)(l:Q (some TW) ⟨h,g,d,t+1,os⟩):wpAny As A (getAttr? (.ref x) "__class__") Q E ⟨h,g,d,t,os⟩:=by
 have b0:=p.ty As;have b1:=PySem.W.looks_findIn (M:=model prog w) X F.ga;have b2:=PySem.W.looks_findIn (M:=model prog w) X F.gh;refine Wb (wpAny_mkText (Wb (wpAny_attempt (aS (Wb (b0.at (Wb (b1.at ?_))))))));have T:(Value.builtin "BaseException.__getattribute__" == Value.builtin "object.__getattribute__")=false:=by decide +kernel
 have I:¬((onTheHeap (Value.ref C)&&Value.builtin "BaseException.__getattribute__" == Value.builtin "object.__getattribute__")=true):=by exact aK
 show wpAny _ _ (if _=true then _ else _) _ _ _;rw[if_neg I];refine Wb (b2.at ?_);refine Wb (wpAny_attempt (aS ?_));refine wpAny_call (codeAny_call_builtin (PySem.F.excAttr_ValueError).ga.plain PySem.F.entry_bexc_ga (eM X F p (fJ X F p ?_)));exact aB (aB l)
end
def kn{K}(F:DN K C):PySem.W.KitX K (.ref x) TW (excAt x C) where
 ty:=fun M h _ p=>p.ty M
 it:=fun M h X _=>lZ X F.cl M
 ne:=fun h tp dd its n sl X htp=>by
  have z:=F.cl;refine bH.mpr fun q=>?_;have e:=Value.ref.inj (beq_iff_eq.mp q);subst e;unfold PySem.W.clsIn at z;split at z
  .rename_i c' d' cd' sl' ho;cases ((X _ _ ho).symm.trans htp)
  grind
 ca:=fun {prog w A E Q s} X p k=>eL X F p k
def EB:V->VL
 |.ref C=>.ref C
 |.ty n=>.type n
 |_=>.none
def ZI(r:RelV c u)(h:EB c≠.none):u=EB c:=by
 cases c with
 |ref C=>exact r
 |ty n=>exact r
 |_=>exact absurd rfl h
section
variable{X:Cx}
def AAQ(K:Fg):List V->Hp->VK->Prop:=fun xs H Q=>∃x c t b,xs=[x,c]/\EB c≠.none/\Hd K H x t/\PySem.W.kitOne K t (EB c)=some b/\Q (.bl b) H
def jJ:C6 X (.builtin "isinstance") (AAQ X.K):=by
 rintro pins s σ H xs us Q I r ⟨x,c,t,b,rfl,T,ty,e,q⟩;obtain⟨u,v,rfl,M,l⟩:=r.two;rw[ZI l T];exact gc I M ty e fun tk=>⟨.bl b,H,I.tok tk,rfl,q⟩
def xA(K:Fg):List V->Hp->VK->Prop:=fun xs H Q=>∃ea C c b,xs=[.ref ea,c]/\EB c≠.none/\H ea=some (Sh ea TW)/\DN K C/\PySem.W.kitOne K TW (EB c)=some b/\Q (.bl b) H
def eW:C6 X (.builtin "isinstance") (xA X.K):=by
 rintro pins s σ H xs us Q I r ⟨ea,C,c,b,rfl,U,T,F,e,q⟩;obtain⟨u,v,rfl,M,l⟩:=r.two;rw[ZI l U];cases M;obtain⟨p,_,_⟩:=(I.Ae ea _ T);exact ao (kn F) I.Fb p e NE fun tk=>⟨.bl b,H,I.tok tk,rfl,q⟩
end
def AAd K:PySem.W.kitOne K LE LE=some true:=rfl
def ABQ K:PySem.W.kitOne K (.type "int") (.type "int")=some true:=rfl
def ABJ K:PySem.W.kitOne K (.type "bool") (.type "bool")=some true:=rfl
def AAe K:PySem.W.kitOne K (.type "int") (.type "bool")=some false:=by rfl
def ABN K:PySem.W.kitOne K (.type "bool") (.type "int")=some true:=by rfl
def AA3 K:PySem.W.kitOne K (.type "list") LE=some false:=by rfl
def AAr K:PySem.W.kitOne K LE (.type "list")=some false:=by rfl
def AAf K:PySem.W.kitOne K (.type "list") (.type "list")=some true:=rfl
def AA7 K:PySem.W.kitOne K (.type "int") LE=some false:=by rfl
def AAq K:PySem.W.kitOne K (.type "bool") LE=some false:=by rfl
def AA9 K:PySem.W.kitOne K (.type "NoneType") LE=some false:=by rfl
def AA8 K:PySem.W.kitOne K (.type "str") LE=some false:=by rfl
def AAj K:PySem.W.kitOne K LE (.type "int")=some false:=by rfl
def AAv K:PySem.W.kitOne K (.type "list") (.type "int")=some false:=by rfl
def AA6 K:PySem.W.kitOne K (.type "NoneType") (.type "int")=some false:=by rfl
def ABM K:PySem.W.kitOne K (.type "str") (.type "int")=some false:=by rfl
def ABU K:PySem.W.kitOne K (.type "int") (.type "list")=some false:=by rfl
def ABE K:PySem.W.kitOne K (.type "bool") (.type "list")=some false:=by rfl
def AAz K:PySem.W.kitOne K (.type "NoneType") (.type "list")=some false:=by rfl
def AAm K:PySem.W.kitOne K (.type "str") (.type "list")=some false:=by rfl
def freeOk(l:Scope)(names:List (Str×NameKind)):Bool:=names.all fun y=>y.2 != .free||l.names.lookup y.1==some .cell||l.names.lookup y.1==some .free
def Ko(h:freeOk l names=true):∀y∈names,y.2=.free->l.names.lookup y.1=some .cell\/l.names.lookup y.1=some .free:=fun y I hf=>by
 have q:=bG.mp h y I
 lia
def CZ(scope:Scope)(N:AAy)(x:Str)(ix:Nat):Bool :=
 scope.kind==.function&&(scope.names.all fun y=>scope.names.lookup y.1==some y.2)&&(scope.names.lookup x==some .local||scope.names.lookup x==some .cell)&&decide N.Nodup&&N[ix]? == some x
def Ek(h:CZ scope N x ix=true):Ie scope/\∀X I cl C s₀ H₀ fp,PG Ev (.Name x I) (Ct ix):=by
 unfold CZ at h;simp at h;obtain⟨⟨⟨⟨h1,h2⟩,l⟩,Z⟩,Y⟩:=h;refine⟨⟨h1,fun y M U=>by grind,fun y M U=>by grind,fun y M U=>by grind⟩,fun X I cl C s₀ H₀ fp=>?_⟩;rcases l with l|l
 .have T:(relabel scope X.env).names.lookup x=some .local:=lookup_relabel_local l;exact Dj Z Y (.inl T) (.inr T)
 .exact Dj Z Y (.inr (M8 l)) (.inl (decide_eq_true l))
def UJ:∀v σ H Q,Ct ix v σ H Q->Ct ix v σ H fun σ' H'=>Q σ' H'/\∀u,Ct ix u σ'=Ct ix u σ:=fun v σ H Q h=>⟨h,fun u=>by unfold Ct;simp⟩
section
variable{X:Cx}{elt iter:Expr}{x:Str}{px pos:Pos}{ifs:AA0}{scope:Scope}{wi:TI}{tif:TT}{te:TE}
def IG N ix fr (hi:PI X (.Name x px) iter wi) (l:∀cl C s₀ H₀ fp,UZ Ev ifs tif) (M:∀cl C s₀ H₀ fp,PE Ev elt te) (h1:CZ scope N x ix=true:=by decide +kernel) (Z:X.calm=true:=by rfl) (Y:JC N X.N scope X.env.scope fr 0=true:=by rfl) (U:fr.length=N.length:=by rfl) (T:freeOk X.env.scope scope.names=true:=by rfl) (I:∀x,foldedSetIterable iter X.env x=pure x:=by intro _;rfl):PE X (.ListComp elt [⟨.Name x px,iter,ifs,0⟩] scope pos) (wz wi fr ix tif te) :=
 let⟨a,b⟩:=Ek h1
 SS a Z UJ (b X px) Y U (Ko T) hi l M I
end
section
variable{X:Cx}{k:Nat}{f:AD}{fd:F0a}{ps:AAy}{sp:Sp}{x:Str}{st:Stmt}{p pos:Pos}{e:Expr}{es:AA0}{t:TA}{E:XK}
def Vn(T:Fn X.K X.mg x st ps f fd)(G:Af X.prog X.w X.K X.mg X.base (CO X.prog X.w) k f fd ps sp)(M:Bh k X.A)(hg:Gl X x)(Y:Passes (CO X.prog X.w) X E)(ha:PA X cr t) (I:Fk=false:=by decide)(U:starEach cr X.env=EQ::starEach es X.env:=by rfl)(l:(backTo pos ON).any Hq=false:=by rfl):PE X Cl (Ve sp [] E t):=Zo G M hg T.m T.F.kp T.b .nil Y ha I U l
end
end L2
inductive Tr where
 |nil
 |cons (b r:Tr)
 deriving DecidableEq
abbrev ABD:=List Tr
namespace Tr
def bs:Tr->List Tr
 |.nil=>[]
 |.cons b r=>b::r.bs
def of:List Tr->Tr
 |[]=>.nil
 |b::r=>.cons b (of r)
theorem Vh:∀t ,of t.bs=t
 |.nil=>rfl
 |.cons b r=>by rw[bs,of,Vh r]
theorem mG:∀l ,(of l).bs=l
 |[]=>rfl
 |b::r=>by rw[of,bs,mG r]
def sF{t u:Tr}(h:t.bs=u.bs):t=u:=by rw[<-Vh t,h,Vh]
def len:Tr->Nat
 |.nil=>0
 |.cons _ r=>r.len+1
theorem Ig:∀t:Tr,t.bs.length=t.len
 |.nil=>rfl
 |.cons _ r=>by rw[bs,(Gm),Ig r,len]
def F6:Tr->Nat
 |.nil=>1
 |.cons b r=>b.F6+r.F6
def deep:Tr->Nat
 |.nil=>0
 |.cons b r=>max (b.deep+1) r.deep
def lt:Tr->Tr->Bool
 |.nil,.nil=>false
 |.nil,.cons _ _=>true
 |.cons _ _,.nil=>false
 |.cons b r,.cons c q=>if b=c then lt r q else lt b c
theorem lt_irrefl:∀t ,lt t t=false
 |.nil=>rfl
 |.cons b r=>by rw[lt,if_pos rfl];exact lt_irrefl r
theorem lt_trans:∀a b c ,lt a b=true->lt b c=true->lt a c=true
 |.nil,.nil,_,h,_=>by lia
 |.nil,.cons _ _,.nil,_,h=>by cases h
 |.nil,.cons _ _,.cons _ _,_,_=>rfl
 |.cons _ _,.nil,_,h,_=>by cases h
 |.cons _ _,.cons _ _,.nil,_,h=>by cases h
 |.cons a r,.cons b s,.cons c t,I,l=>by
  rw[lt]at I l ⊢;by_cases T:a=b
  .subst T;rw[if_pos rfl]at I;by_cases M:a=c
   .subst M;rw[if_pos rfl]at l ⊢;exact lt_trans r s t I l
   lia
  .rw[if_neg T]at I;by_cases M:b=c
   .lia
   .rw[if_neg M]at l;have U:=lt_trans a b c I l;by_cases Y:a=c
    .subst Y;rw[lt_irrefl]at U;lia
    lia
theorem Dk:∀a b ,lt a b=false->lt b a=false->a=b
 |.nil,.nil,_,_=>rfl
 |.nil,.cons _ _,h,_=>by cases h
 |.cons _ _,.nil,_,h=>by cases h
 |.cons a r,.cons b s,I,l=>by
  rw[lt]at I l;by_cases e:a=b
  .subst e;rw[if_pos rfl]at I l;rw[Dk r s I l]
  .rw[if_neg e]at I;rw[if_neg (Ne.symm e)]at l;exact absurd (Dk a b I l) e
def IW a b c (h:lt a c=true):lt a b=true\/lt b c=true:=by
 cases I:lt a b with
 |true=>lia
 |false=>
  right
  cases l:lt b a with
  |true=>exact lt_trans b a c l h
  |false=>rw[<-Dk a b I l];lia
def lt_asymm(h:lt a b=true):lt b a=false:=by
 cases l:lt b a with
 |false=>rfl
 |true=>have:=lt_trans a b a h l;rw[lt_irrefl]at this;lia
def ins(x:Tr):List Tr->List Tr
 |[]=>[x]
 |y::r=>if lt x y=true then y::ins x r else x::y::r
def GV:List Tr->List Tr
 |[]=>[]
 |x::r=>ins x (GV r)
end Tr
namespace TH
open PySem PyProof.Rows PySem.SeqAt
def Vs(h:Heap):Tr->List VL->Prop
 |.nil,us=>us=[]
 |.cons b r,us=>∃(a:AD) (l rest:List VL),us=.ref a::rest/\h.IsTuple a l.toArray/\Vs h b l/\Vs h r rest
theorem Vs.length:∀ {t} {us},Vs h t us->us.length=t.len
 |.nil,us,e=>by rw[e];rfl
 |.cons b r,us,e=>by
  obtain⟨a,l,rest,rfl,_,_,q⟩:=e;rw[(Gm),Tr.len,Vs.length q]
def JM{h:Heap}(I:h.IsTuple a x)(l:h.IsTuple a y):x=y:=by
 obtain⟨o,e,_,n,d⟩:=I;obtain⟨o',T,_,M,U⟩:=l
 lia
theorem Vs.inj:∀ {t u} {us},Vs h t us->Vs h u us->t=u
 |.nil,.nil,_,_,_=>rfl
 |.nil,.cons _ _,us,e,f=>by
  obtain⟨_,_,_,f,_⟩:=f;rw[e]at f;lia
 |.cons _ _,.nil,us,e,f=>by
  obtain⟨_,_,_,e,_⟩:=e;rw[f]at e;lia
 |.cons b r,.cons c q,us,e,f=>by
  obtain⟨a,Y,rest,rfl,h1,h2,Z⟩:=e;obtain⟨a',I,l,e',U,T,M⟩:=f;cases e';have e2:=by simpa using (JM h1 U)
  subst e2;rw[Vs.inj h2 T,Vs.inj Z M]
theorem dC{s:SD}:∀(t u:Tr) (A:F0d) (us vs:List VL),Vs s.heap t us->Vs s.heap u vs->A.units+t.deep<=cLine ->
  ∀j (Y:j<us.length) (U:j<vs.length),EqAt A s us[j] vs[j] (decide (t.bs[j]? = u.bs[j]?))
 |.nil,u,A,us,vs,e,f,_,j,Y,U=>by
  rw[Vs]at e;subst e;exact absurd Y (bI _)
 |.cons b r,.nil,A,us,vs,e,f,_,j,Y,U=>by
  rw[Vs]at f;subst f;exact absurd U (bI _)
 |.cons b r,.cons c q,A,us,vs,e,f,hu,j,Y,U=>by
  rw[Vs]at e f;obtain⟨a,I,rest,rfl,k1,k2,k3⟩:=e;obtain⟨a',l,M,rfl,l1,Z,l3⟩:=f;have hd:(Tr.cons b r).deep=max (b.deep+1) r.deep:=rfl;cases j with
  |zero=>
   show EqAt A s KM (.ref a') (decide (some b=some c));by_cases ea:a=a'
   .subst ea;have:=JM k1 l1;have e2:I=l:=by simpa using this
    subst e2;rw[Vs.inj k2 Z,decide_eq_true rfl];exact EqAt.same _
   .refine EqAt.of_refs ea ?_;have key:=RcAt.tuples (s:=s) (A:=A) k1 l1 AS fun j x1 x2=>by
     have:=dC b c A.in1 I l k2 Z AS j (by simpa using x1) (by simpa using x2)
     simpa using this
    have ev:((List.range (min I.toArray.size l.toArray.size)).all (fun j=>decide (b.bs[j]? = c.bs[j]?))&&I.toArray.size==l.toArray.size)=decide (some b=some c):=by
     have z1:I.toArray.size=b.bs.length:=by rw[Tr.Ig,<-Vs.length k2];simp
     have z2:l.toArray.size=c.bs.length:=by rw[Tr.Ig,<-Vs.length Z];simp
     rw[z1,z2];by_cases T:b=c
     .subst T;simp
     .rw[decide_eq_false (fun z=>T (af z))];cases hl:b.bs.length==c.bs.length with
      |false=>rw[Bool.and_false]
      |true=>
       rw[Bool.and_true];refine bH.mpr fun z=>T (Tr.sF (bR fun i=>?_));by_cases hi:i<b.bs.length
       .have:=bG.mp z i (List.mem_range.mpr AS)
        simpa using this
       .rw[List.getElem?_eq_none AS,List.getElem?_eq_none AS]
    rw[ev]at key;exact key
  |succ j=>
   exact dC r q A rest M k3 l3 AS j (by simpa using Y) (by simpa using U)
def Vm(T:s.heap.IsTuple a I.toArray)(k1:Vs s.heap t I)(M:s.heap.IsTuple b l.toArray)(k2:Vs s.heap u l)(U:A.units+t.deep<cLine):EqAt A s KM (.ref b) (decide (t=u)):=by
 simpa[Tr.bs]using (dC (.cons t .nil) (.cons u .nil) A [.ref a] [.ref b] ⟨a,I,[],rfl,T,k1,by rfl⟩ ⟨b,l,[],rfl,M,k2,by rfl⟩ (by show A.units+max _ 0<=cLine;lia) 0 By By)
section
open PySem.AutoSeq1 (wpAny_loadPart')
open PySem.MeetsSeq PySem.MeetsSeq2 PySem.MeetsSeq3
abbrev Qq(b:Bool)(t u:Tr):Bool:=if b=true then Tr.lt u t else Tr.lt t u
abbrev mh(b:Bool):CmpOp:=if b=true then .Gt else .Lt
def kW:Qq b (.cons t x) (.cons u y)=if t=u then Qq b x y else Qq b t u:=by
 cases b
 .rfl
 .show Tr.lt _ _=_;rw[Tr.lt]
  lia
def dg(h:t=.nil\/u=.nil):Tr.lt t u=decide (t.len<u.len):=by
 rcases h with rfl|rfl
 .cases u<;>simp[Tr.lt,Tr.len]
 .cases t<;>simp[Tr.lt,Tr.len]
def Ui{bf:Bool}{F:Builtin}(hF:(F=Builtin.«tuple.__lt__»/\bf=false/\mh bf=.Lt)\/(F=Builtin.«tuple.__gt__»/\bf=true/\mh bf=.Gt))(n0:Nat)(ih:∀(t u:Tr) (A:F0d) (s:SD) (a b:AD) (its its':AAn),t.deep<n0->s.heap.IsTuple a its.toArray->Vs s.heap t its->s.heap.IsTuple b its'.toArray->Vs s.heap u its'->A.units+t.deep<cLine ->∀(prog:F0b) (w:F0c) (E:AAo) (Q:AAo),Q (.bool (Qq bf t u)) s->wpAny As A (richCompare (mh bf) KM (.ref b)) Q E s) (l b:AD)(items I:Array VL)(n n2:Nat)(dd dd2:Option AD)(sl sl2:Array (Option VL))(t u:Tr)(ht:t.deep<=n0):Meets (F ⟨[.ref l,.ref b],[]⟩) (fun A R s=>s.heap.get? l=some { cls:=.type "tuple",dict:=dd,data:=.seq items n,slots:=sl}/\s.heap.get? b=some { cls:=.type "tuple",dict:=dd2,data:=.seq I n2,slots:=sl2} /\Vs s.heap t items.toList/\Vs s.heap u I.toList/\A.units+t.deep<cLine/\R (.ok (.ret (.bool (Qq bf t u)))) s):=by
 rcases hF with ⟨rfl,hb0,ho⟩|⟨rfl,hb0,ho⟩
 all_goals
  refine .of_wp fun prog w A R s h=>?_;obtain⟨hp,g,d,tk,os⟩:=s;obtain⟨hl,hb,hi,hj,hun,h⟩:=h;have f2:=AutoSeq1.sub_tuple_tuple;have z1:items.size=t.len:=by rw[<-Vs.length hi];simp
  have z2:I.size=u.len:=by rw[<-Vs.length hj];simp
  wp_walk using wpAny_loadPart' hl,wpAny_loadPart' hb,wpAny_forIn_list _ (fun rest b s'=>b.1=none/\s'=⟨hp,g,d,tk,os⟩/\∃(vs ws:List VL) (U Y:Tr),rest=vs.zip ws /\
   Vs hp U vs/\Vs hp Y ws/\U.deep<=t.deep/\U.len+I.size=Y.len+items.size/\R (.ok (.ret (.bool (Qq bf U Y)))) ⟨hp,g,d,tk,os⟩) _
  case turn=>
   rintro⟨y,x⟩ rest b s' ⟨hb',rfl,vs,ws,U,Y,hz,T,M,hdp,hlen,Z⟩;cases U with
   |nil=>rw[Vs]at T;subst T;rw[List.zip_nil_left]at hz;cases hz
   |cons bt rt=>
    cases Y with
    |nil=>rw[Vs]at M;subst M;rw[List.zip_nil_right]at hz;cases hz
    |cons bu ru=>
     rw[Vs]at T M;obtain⟨a1,i1,v1,rfl,p1,p2,p3⟩:=T;obtain⟨a2,i2,v2,rfl,q1,q2,q3⟩:=M;rw[List.zip_cons_cons]at hz
     injection hz with hyx hrest
     injection hyx with hy hx
     subst hy hx;have hdd:(Tr.cons bt rt).deep=max (bt.deep+1) rt.deep:=rfl;rw[kW]at Z;simp only[Tr.len]at hlen;have he:=Vm (s:=⟨hp,g,d,tk,os⟩) (A:=A.in1) p1 p2 q1 q2 (by rw[show A.in1.units=A.units+1 from rfl];lia);refine Wb (he prog w _ _ ?_);cases hc:decide (bt=bu) with
     |true=>
      rw[if_pos (ah hc)]at Z
      wp_walk
      exact⟨rfl,rfl,_,_,_,_,hrest,p3,q3,by lia,by lia,Z⟩
     |false=>
      rw[if_neg (bL hc)]at Z;have hri:=ih bt bu A.in1 ⟨hp,g,d,tk,os⟩ a1 a2 i1 i2 AS p1 p2 q1 q2 (by rw[show A.in1.units=A.units+1 from rfl];lia) prog w;rw[ho]at hri
      wp_walk using hri
      exact⟨_,rfl,by simpa using Z⟩
  case fin=>
   rintro⟨b1,b2⟩ s' ⟨hb',rfl,vs,ws,U,Y,hz,T,M,hdp,hlen,Z⟩;simp only at hb';subst hb';have hn:U=.nil\/Y=.nil:=by
    cases U with
    |nil=>exact .inl rfl
    |cons bt rt=>
     cases Y with
     |nil=>exact .inr rfl
     |cons c q=>
      rw[Vs]at T M;obtain⟨_,_,_,rfl,_⟩:=T;obtain⟨_,_,_,rfl,_⟩:=M;rw[List.zip_cons_cons]at hz;cases hz
   rw[hb0]at Z
   first
    |rw[show Qq false U Y=decide (items.size<I.size) from(dg hn).trans (decide_eq_decide.mpr AS)]at Z
    |rw[show Qq true U Y=decide (I.size<items.size) from(dg hn.symm).trans (decide_eq_decide.mpr AS)]at Z
   wp_walk
   exact⟨_,rfl,by simpa[Builtin.Tuple.tupleCompareSizes]using Z⟩
  case h=>
   exact⟨rfl,rfl,items.toList,I.toList,t,u,rfl,hi,hj,Nat.le_refl _,by lia,h⟩
theorem WS(bf:Bool):∀(n0:Nat) (t u:Tr) (A:F0d) (s:SD) (a b:AD) (I l:List VL),t.deep<n0->s.heap.IsTuple a I.toArray->Vs s.heap t I->s.heap.IsTuple b l.toArray->Vs s.heap u l->A.units+t.deep<cLine ->
   ∀(prog:F0b) (w:F0c) (E:VL->SD->Prop) (Q:VL->SD->Prop),Q (.bool (Qq bf t u)) s->wpAny As A (richCompare (mh bf) KM (.ref b)) Q E s
 |0,_,_,_,_,_,_,_,_,h,_,_,_,_,_=>absurd h (bI _)
 |n0+1,t,u,A,s,a,b,I,l,hd,hl,ht,hb,Y,U=>fun prog w E Q h=>by
  obtain⟨⟨cls,dd,data,sl⟩,ho,hc,n,Z⟩:=id hl;obtain⟨⟨cls2,dd2,data2,sl2⟩,M,hc2,n2,T⟩:=id hb;simp only at hc Z hc2 T;subst hc Z hc2 T;have c:=fun {F:Builtin} hF=>Ui (bf:=bf) (F:=F) hF n0 (WS bf n0) a b I.toArray l.toArray n n2 dd dd2 sl sl2 t u AS;cases bf
  .exact richCompare_meets_room (op:=.Lt) ⟨_,ho,rfl⟩ ⟨_,M,rfl⟩ PySem.F.slot_tuple_lt PySem.F.entry_tuple_lt (PySem.F.args_tuple_lt_2 _ _) (c (.inl ⟨rfl,rfl,rfl⟩)) ⟨ho,M,by simpa using ht,by simpa using Y,U,show Value.bool _≠Value.notImplemented/\Q _ s from⟨(fun x=>nomatch x),h⟩⟩ AS
  .exact richCompare_meets_room (op:=.Gt) ⟨_,ho,rfl⟩ ⟨_,M,rfl⟩ PySem.F.slot_tuple_gt PySem.F.entry_tuple_gt (PySem.F.args_tuple_gt_2 _ _) (c (.inr ⟨rfl,rfl,rfl⟩)) ⟨ho,M,by simpa using ht,by simpa using Y,U,show Value.bool _≠Value.notImplemented/\Q _ s from⟨(fun x=>nomatch x),h⟩⟩ AS
abbrev ko:=@Ui false _ (.inl ⟨rfl,rfl,rfl⟩)
abbrev mR:=@WS false
abbrev xl:=@WS true
end
end TH
namespace SM
open PySem.W PyProof.Rows
def Wp(lt:Nat->Nat->Bool)(n:Nat):KasT α->(α->Prop)->Prop
 |.ret a,Q=>Q a
 |.ask i j k,Q=>i<n/\j<n/\Wp lt n (k (lt i j)) Q
theorem Wp.mono{Q I}(l:∀a,Q a->I a):∀t:KasT α,Wp lt n t Q->Wp lt n t I
 |.ret a,h=>l a h
 |.ask i j k,h=>⟨h.1,h.2.1,Wp.mono l _ h.2.2⟩
theorem Wp.bind{Q:β->Prop}:∀t:KasT α,Wp lt n t (fun a=>Wp lt n (f a) Q)->Wp lt n (t.bind f) Q
 |.ret _,h=>h
 |.ask i j k,h=>⟨h.1,h.2.1,Wp.bind _ h.2.2⟩
def KC(l:j<=p.size) k:(kas_rev p i j).getD k 0=if i<=k/\k<j then p.getD (i+j-1-k) 0 else p.getD k 0:=by
 unfold kas_rev;rw[(X3),(X3),(X3),(getElem?_mirror_all l k)]
 lia
def YS(l:src<p.size)(hd:d<=src) k : (bubble p src d).getD k 0=if k=src-d then p.getD src 0 else if src-d<k/\k<=src then p.getD (k-1) 0 else p.getD k 0:=by
 simp only[Array.getD_eq_getD_getElem?,(getElem?_bubble l d hd k)]
 lia
section
variable{O:KeyOrd}{key:Nat->O.α}{n:Nat}
def Key(key:Nat->O.α)(p:Array Nat)(i:Nat):O.α:=key (p.getD i 0)
def Up(key:Nat->O.α)(p:Array Nat)(m:Nat):Prop:=∀i j,i<=j->j<m->O.kle (Key key p i) (Key key p j)
def Dn(key:Nat->O.α)(p:Array Nat)(m:Nat):Prop:=∀i j,i<=j->j<m->O.kle (Key key p j) (Key key p i)
structure Pm(n:Nat)(p:Array Nat):Prop where
 perm:p.Perm (List.toArray (List.range n))
 pos:0<n
def Pm.size(h:Pm n p):p.size=n:=by rw[h.perm.size_eq];simp
def Pm.lt(h:Pm n p) i:p.getD i 0<n:=by
 rw[(X3)];by_cases hi:i<p.size
 .rw[Array.getElem?_eq_getElem hi]
  simpa using (h.perm.mem_iff.mp (Array.getElem_mem hi))
 .rw[Array.getElem?_eq_none AS];exact h.pos
def Pm.rev(h:Pm n p) i j:Pm n (kas_rev p i j):=⟨(mirror_perm _ _ _ _).trans h.perm,h.pos⟩
theorem Pm.bubble(h:Pm n p) i j:Pm n (bubble p i j):=⟨(bubble_perm _ _ _).trans h.perm,h.pos⟩
abbrev Gj(key:Nat->O.α):Nat->Nat->Bool:=fun i j=>O.blt (key i) (key j)
def Up.one:Up key p 1:=fun i j I l=>by
 have:i=j:=by lia
 subst this;exact bN _
def Up.more(h:Up key p m)(T:1<=m)(hk:O.kle (Key key p (m-1)) (Key key p m)):Up key p (m+1):=fun i j l M=>by
 by_cases e:j=m
 .subst e;by_cases I:i=j
  .subst I;exact bN _
  .exact KeyOrd.kle_trans (h i _ AS AS) hk
 .exact h i j l AS
def Dn.more(h:Dn key p m)(T:1<=m)(hk:O.kle (Key key p m) (Key key p (m-1))):Dn key p (m+1):=fun i j l M=>by
 by_cases e:j=m
 .subst e;by_cases I:i=j
  .subst I;exact bN _
  .exact KeyOrd.kle_trans hk (h i _ AS AS)
 .exact h i j l AS
theorem asc(l:Pm n p):∀f m,1<=m->Up key p m->Wp (Gj key) n (kas_asc p f m) fun r=>m<=r/\r<=m+f/\Up key p r/\(r=m+f\/O.klt (Key key p r) (Key key p (r-1)))
 |0,m,_,h=>⟨aG _,Nat.le_refl _,h,.inl rfl⟩
 |f+1,m,I,h=>by
  refine⟨l.lt _,l.lt _,?_⟩;cases c:Gj key _ _ with
  |true=>exact⟨aG _,by lia,h,.inr c⟩
  |false=>
   exact Wp.mono (fun r M=>by lia) _ (asc l f _ AS (h.more I c))
def Eq(key:Nat->O.α)(p:Array Nat)(m q:Nat):Prop:=q<m/\∀k,m-(q+1)<=k->k<m->Key key p k=Key key p (m-1)
def rev_eq(h:Eq key p m q)(hm:m<=p.size) k:Key key (kas_rev p (m-(q+1)) m) k=Key key p k:=by
 unfold Key;rw[KC hm];split
 .exact(h.2 _ AS AS).trans (h.2 k AS AS).symm
 .rfl
theorem desc:∀(f:Nat) (p:Array Nat) (m q:Nat),Pm n p->1<=m->m+f<=n->Dn key p m->Eq key p m q->Wp (Gj key) n (kas_desc f p m q) fun r=>Pm n r.1/\m<=r.2.1/\r.2.1<=m+f/\Dn key r.1 r.2.1/\Eq key r.1 r.2.1 r.2.2
 |0,p,m,q,l,_,_,h,e=>⟨l,Nat.le_refl _,Nat.le_refl _,h,e⟩
 |f+1,p,m,q,l,Y,hf,h,e=>by
  refine⟨l.lt _,l.lt _,?_⟩;have hm:m<=p.size:=by rw[l.size];lia
  cases c:Gj key (p.getD m 0) _ with
  |true=>
   have fin:∀M:Array Nat,Pm n M->(∀k,Key key M k=Key key p k)->Wp (Gj key) n (kas_desc f M (m+1) 0) fun r=>Pm n r.1/\m<=r.2.1/\r.2.1<=m+(f+1)/\Dn key r.1 r.2.1/\Eq key r.1 r.2.1 r.2.2:=fun M T hk=>Wp.mono (fun r I=>⟨I.1,by lia,by lia,I.2.2.2.1,I.2.2.2.2⟩) _ (desc f M (m+1) 0 T AS AS (fun i j U hj=>by rw[hk,hk];exact h.more Y (KeyOrd.kle_of_klt c) i j U hj) (⟨by lia,fun k Y h2=>by rw[show k=m+1-1 by lia]⟩));split
   .exact fin _ (l.rev _ _) (rev_eq e hm)
   .exact fin _ l fun _=>rfl
  |false=>
   refine⟨l.lt _,l.lt _,?_⟩;cases d:Gj key (p.getD (m-1) 0) (p.getD m 0) with
   |true=>
    exact⟨l,Nat.le_refl _,Nat.le_add_right _ _,h,e⟩
   |false=>
    have Z:Key key p m=Key key p (m-1):=KeyOrd.kle_antisymm (d) (c);refine Wp.mono (fun r I=>⟨I.1,by lia,by lia,I.2.2.2.1,I.2.2.2.2⟩) _ (desc f p (m+1) (q+1) l AS AS (h.more Y (by rw[Z];exact bN _)) ⟨by have:=e.1;lia,fun k h2 h3=>?_⟩);rw[show m+1-1=m by lia,Z];by_cases z:k=m
    .rw[z,Z]
    .exact e.2 k AS AS
def rh(h:Dn key p m)(hm:m<=p.size):Up key (kas_rev p 0 m) m:=fun i j l I=>by
 unfold Key;rw[KC hm,KC hm,if_pos ⟨az _,by lia⟩,if_pos ⟨az _,by lia⟩];exact h _ _ AS AS
def tail3(l:Pm n p)(M:1<=m)(hm:m<=n)(h:Dn key p m):Wp (Gj key) n (kas_tail3 m n p) fun r=>Pm n r.2/\1<=r.1/\r.1<=n/\Up key r.2 r.1:=Wp.bind _ (Wp.mono (fun r I=>⟨l.rev 0 m,by lia,by lia,I.2.2.1⟩) _ (asc (l.rev 0 m) _ m M (rh h (by rw[l.size];lia))))
def descPart(T:Pm n p)(Y:1<=m)(hm:m+1<=n)(h:Dn key p (m+1)):Wp (Gj key) n (kas_descPart m n p) fun r=>Pm n r.2/\1<=r.1/\r.1<=n/\Up key r.2 r.1:=by
 refine Wp.bind _ (Wp.mono (fun r M=>?_) _ (desc _ p _ 0 T AS AS h ⟨by lia,fun k Y Z=>by grind⟩));obtain⟨a,b,c,d,e⟩:=M;have I:r.2.1<=r.1.size:=by rw[a.size];lia
 split
 .refine tail3 (a.rev _ _) AS AS fun i j l U=>?_;rw[rev_eq e I,rev_eq e I];exact d i j l U
 .exact tail3 a AS AS d
def count{p:Array Nat}(l:Pm n p):Wp (Gj key) n (kas_count n p) fun r=>Pm n r.2/\1<=r.1/\r.1<=n/\Up key r.2 r.1:=by
 have hn:=l.pos;unfold kas_count;refine Wp.bind _ (Wp.mono (fun m hm=>?_) _ (asc l (n-1) 1 M0 Up.one));obtain⟨U,h2,T,h4⟩:=hm;split
 .exact⟨l,U,by lia,T⟩
 .rename_i Y;have M:m≠n:=by simpa using Y
  have hk:O.klt (Key key p m) (Key key p (m-1)):=by
   rcases h4 with z|z
   .exact absurd AS M
   .exact z
  have hz:m<=p.size:=by rw[l.size];lia
  split
  .refine⟨l.lt _,l.lt _,?_⟩;cases c:Gj key (p.getD 0 0) (p.getD (m-1) 0) with
   |true=>simp only[if_true];exact⟨l,U,by lia,T⟩
   |false=>
    have all:=fun k I=>KeyOrd.kle_antisymm (T k (m-1) AS AS) (KeyOrd.kle_trans (c) (T 0 k AS I));have ek:∀k,Key key (kas_rev p 0 m) k=Key key p k:=fun k=>by
     by_cases I:k<m
     .have:Key key (kas_rev p 0 m) k=Key key p (0+m-1-k):=by
       unfold Key;rw[KC hz,if_pos ⟨az _,I⟩]
      rw[this,all _ AS,all k I]
     .unfold Key;rw[KC hz,if_neg AS]
    refine descPart (l.rev _ _) U AS fun i j Z hj=>?_;rw[ek,ek];by_cases e:j=m
    .subst e;by_cases e2:i=j
     .subst e2;exact bN _
     .rw[all i AS];exact KeyOrd.kle_of_klt hk
    .rw[all i AS,all j AS];exact bN _
  .have:m=1:=by lia
   subst this;refine descPart l U AS fun i j Z hj=>?_;by_cases e:i=j
   .subst e;exact bN _
   .rw[show i=0 by lia,show j=1 by lia];exact KeyOrd.kle_of_klt hk
theorem place{k:Nat}(M:Pm n p)(I:Up key p k):∀(f l r:Nat),l<=r->r<=k->r-l<=f->(∀i,i<l->O.kle (Key key p i) (Key key p k))->(∀i,r<=i->i<k->O.klt (Key key p k) (Key key p i)) ->
  Wp (Gj key) n (kas_place p k f l r) fun x=>x<=k/\(∀i,i<x->O.kle (Key key p i) (Key key p k))/\∀i,x<=i->i<k->O.klt (Key key p k) (Key key p i)
 |0,l,r,h1,T,Z,a,b=>by
  have:l=r:=by lia
  subst this;exact⟨T,a,b⟩
 |f+1,l,r,h1,T,Z,a,b=>by
  unfold kas_place;split
  .have:l=r:=by lia
   subst this;exact⟨T,a,b⟩
  .refine⟨M.lt _,M.lt _,?_⟩;cases c:Gj key _ _ with
   |true=>
    exact place M I f l _ AS AS AS a fun i U Y=>KeyOrd.klt_of_klt_of_kle (c) (I _ _ U Y)
   |false=>
    exact place M I f _ r AS T AS (fun i U=>KeyOrd.kle_trans (I i _ AS AS) (c)) b
theorem bin:∀(f:Nat) p (k:Nat),Pm n p->1<=k->k+f=n->Up key p k->Wp (Gj key) n (kas_bin f p k) fun r=>Pm n r/\Up key r n
 |0,p,k,I,_,hk,h=>by
  have:k=n:=by lia
  subst this;exact⟨I,h⟩
 |f+1,p,k,I,h1,hk,h=>by
  refine Wp.bind _ (Wp.mono (fun l hl=>?_) _ (place I h k 0 k (az _) M0 AS (fun i z=>absurd z AS) fun i Y z2=>absurd Y AS));obtain⟨Z,M,T⟩:=hl;refine bin f _ (k+1) (I.bubble _ _) AS AS fun i j hij hj=>?_;have U:∀x,Key key (PyProof.Rows.bubble p k (k-l)) x=if x=l then Key key p k else if l<x/\x<=k then Key key p (x-1) else Key key p x:=fun x=>by
   unfold Key;rw[YS (show k<p.size by rw[I.size];lia) AS,show k-(k-l)=l by lia];split
   .rfl
   .split<;>rfl
  rw[U,U]
  repeat' split
  all_goals first
   |(exfalso;lia)
   |exact bN _
   |exact M _ AS
   |exact KeyOrd.kle_of_klt (T _ AS AS)
   |exact h _ _ AS AS
def sort(hn:0<n):Wp (Gj key) n (kas_sort n) fun p=>Pm n p/\Up key p n:=by
 refine Wp.bind _ (Wp.mono (fun r l=>?_) _ (count (⟨Array.Perm.refl _,hn⟩)));obtain⟨a,b,c,d⟩:=l;split
 .rw[show max r.1 1=r.1 by lia];exact bin _ _ _ a b AS d
 .rw[(show r.1=n by lia)]at d;exact⟨a,d⟩
end
end SM
namespace Tr
theorem Pn x:∀l ,(ins x l).Perm (x::l)
 |[]=>.refl _
 |y::r=>by
  rw[ins];split
  .exact((Pn x r).cons y).trans (.swap x y r)
  rfl
theorem MJ:∀l ,(GV l).Perm l
 |[]=>.refl _
 |x::r=>(Pn x _).trans ((MJ r).cons x)
abbrev Tt(l:List Tr):Prop:=l.Pairwise fun a b=>lt a b=false
theorem Xp x:∀l ,Tt l->Tt (ins x l)
 |[],_=>List.pairwise_singleton _ _
 |y::r,h=>by
  obtain⟨T,M⟩:=List.pairwise_cons.mp h;rw[ins];split
  .rename_i c;refine List.pairwise_cons.mpr ⟨fun z I=>?_,Xp x r M⟩;rcases aO.mp ((Pn x r).mem_iff.mp I) with rfl|I
   .exact lt_asymm c
   grind
  .refine List.pairwise_cons.mpr ⟨fun z I=>?_,h⟩;rcases aO.mp I with rfl|I
   .lia
   .cases e:lt x z with
    |false=>rfl
    |true=>
     rcases IW x y z e with q|q
     .lia
     grind
theorem MZ:∀l ,Tt (GV l)
 |[]=>List.Pairwise.nil
 |x::r=>Xp x _ (MZ r)
theorem LG:∀ {l m},Tt l->Tt m->l.Perm m->l=m
 |[],m,_,_,p=>by simp_all
 |x::r,[],_,_,p=>by simp_all
 |x::r,y::q,U,T,p=>by
  obtain⟨a1,a2⟩:=List.pairwise_cons.mp U;obtain⟨b1,b2⟩:=List.pairwise_cons.mp T;have M:=p.mem_iff.mp aR;have I:=p.mem_iff.mpr aR;have e:x=y:=by
   rcases aO.mp M with e|M
   .lia
   .rcases aO.mp I with e|I
    .lia
    .exact Dk x y (a1 y I) (b1 x M)
  subst e;rw[LG a2 b2 (List.Perm.cons_inv p)]
def gy(h:Tt m)(p:m.Perm l):m=GV l:=LG h (MZ l) (p.trans (MJ l).symm)
def Rt(h:m.Pairwise fun a b=>lt b a=false)(p:m.Perm l):m=(GV l).reverse:=by
 rw[<-(gy (List.pairwise_reverse.mpr h) ((List.reverse_perm m).trans p)),List.reverse_reverse]
theorem Yv n:∀l ,(of l).deep<=n ↔ ∀c∈l,c.deep+1<=n
 |[]=>by simp[of,deep]
 |b::r=>by
  rw[of,deep,List.forall_mem_cons,<-Yv n r]
  lia
def ord:PyProof.Rows.KeyOrd where
 α:=Tr
 blt:=lt
 irrefl:=lt_irrefl
 trans:=lt_trans
 negTrans:=IW
 total:=Dk
end Tr
namespace TH
open PySem PySem.W PyProof.Rows PySem.SeqAt
theorem Vs.at:∀ {t} {us} {i},Vs h t us->i<us.length->∃(a:AD) (l:List VL) (c:Tr),us.getD i Value.none=.ref a/\h.IsTuple a l.toArray/\Vs h c l/\t.bs[i]? = some c/\c.deep<t.deep
 |.nil,us,i,e,hi=>by subst e;grind
 |.cons b r,us,i,e,hi=>by
  obtain⟨a,l,rest,rfl,h1,Z,Y⟩:=e;have hd:(Tr.cons b r).deep=max _ r.deep:=rfl;cases i with
  |zero=>exact⟨a,l,b,rfl,h1,Z,rfl,by lia⟩
  |succ i=>
   obtain⟨a',I,c,q1,U,T,M,q5⟩:=Vs.at Y (by simpa using hi);exact⟨a',I,c,by grind,U,T,by simpa[Tr.bs]using M,by lia⟩
section
variable{prog:F0b}{w:F0c}{A:F0d}{E:AAo}{s:SD}{t u:Tr}{a b:AD}{its its':AAn}{Q:Bool->SD->Prop}
def Zh(M:s.heap.IsTuple a its.toArray)(k1:Vs s.heap t its)(I:s.heap.IsTuple b its'.toArray)(k2:Vs s.heap u its')(l:A.units+t.deep<cLine)(h:Q (Tr.lt t u) s):wpAny As A (oneLt' false KM (.ref b)) Q E s:=Wb (mR _ t u A s a b its its' (bJ _) M k1 I k2 l prog w E _ (bQ h))
def ot(h1:s.heap.IsTuple a its.toArray)(k1:Vs s.heap t its)(h2:s.heap.IsTuple b its'.toArray)(k2:Vs s.heap u its')(hu:A.units+t.deep<cLine)(h:Q (Tr.lt t u) s):wpAny As A (oneLt' true KM (.ref b)) Q E s:=by
 refine Wb (wpAny_cRoomFor AS ?_);obtain⟨⟨cls,dd,data,sl⟩,T,hc,n,U⟩:=id h1;obtain⟨⟨cls2,Z,data2,I⟩,M,Y,n2,l⟩:=id h2;subst hc U Y l;refine Wb (wpAny_callSpecialIfBound?_slot ⟨_,T,rfl⟩ PySem.F.slot_tuple_lt (call_meets PySem.F.slot_tuple_lt ⟨_,T,rfl⟩ PySem.F.entry_tuple_lt (PySem.F.args_tuple_lt_2 _ _)
  (ko t.deep (mR t.deep) a b its.toArray its'.toArray n n2 dd Z sl I t u M0) ⟨T,M,by lia,by lia,hu,?_⟩))
 exact bQ h
theorem ZO:∀t u us vs i,Vs s.heap t us->Vs s.heap u vs->A.units+t.deep<=cLine->Q (Tr.lt t u) s->KatLex prog w A false (decide (t.len<u.len)) Q (us.zip vs) i s
 |.nil,.nil,us,vs,i,e,f,_,h=>by
  subst e;exact kat_nil h
 |.nil,.cons c q,us,vs,i,e,f,_,h=>by
  subst e;exact h
 |.cons b r,.nil,us,vs,i,e,f,_,h=>by
  subst f;rw[List.zip_nil_right];exact h
 |.cons b r,.cons c q,us,vs,i,e,f,hu,h=>by
  obtain⟨a,its,rest,rfl,Y,U,k3⟩:=e;obtain⟨a',its',I,rfl,T,M,Z⟩:=f;have hd:(Tr.cons b r).deep=max _ r.deep:=rfl;rw[show decide _=decide (r.len<q.len) from by simp[Tr.len]];rw[Tr.lt]at h;refine kat_cons (Vm Y U T M AS prog w _ _ ?_);by_cases l:b=c
  .rw[decide_eq_true l];rw[if_pos l]at h;exact kat_yes (ZO r q rest I _ k3 Z AS h)
  .rw[decide_eq_false l];rw[if_neg l]at h;exact kat_no (Zh Y U T M AS h)
def pZ(Z:s.heap.IsTuple a its.toArray)(k1:Vs s.heap t its)(Y:s.heap.IsTuple b its'.toArray)(k2:Vs s.heap u its')(hu:A.units+t.deep<cLine)(h:Q (Tr.lt t u) s):wpAny As A (keyLt' (tuples' false) KM (.ref b)) Q E s:=by
 obtain⟨o,T,hc,n,hd⟩:=id Z;obtain⟨o2,l,U,n2,I⟩:=id Y;refine kat_lt T hd l I ?_;have M:its.toArray.size=t.len:=by rw[<-Vs.length k1];simp
 rw[M,(show its'.toArray.size=u.len by rw[<-Vs.length k2];simp)];exact ZO t u its its' 0 k1 k2 AS h
def V0(κ:SortKind):Prop:=κ=general'\/κ=oneType'\/κ=tuples' false
def p9(l:V0 κ)(T:s.heap.IsTuple a its.toArray)(k1:Vs s.heap t its)(M:s.heap.IsTuple b its'.toArray)(k2:Vs s.heap u its')(I:A.units+t.deep<cLine)(h:Q (Tr.lt t u) s):wpAny As A (keyLt' κ KM (.ref b)) Q E s:=by
 rcases l with rfl|rfl|rfl
 .exact Zh T k1 M k2 I h
 .exact ot T k1 M k2 I h
 .exact pZ T k1 M k2 I h
def K6(T:h.IsTuple a x):Looks M h (typeOf KM) LE:=let⟨o,l,I,_⟩:=T;I ▸ (Looks.ld l).andThen .now
theorem UK:∀t us {Q},Vs s.heap t us->(∀fs ,(∀v,some v∈fs->Looks M s.heap (typeOf v) LE)->Q fs s)->wpAny M A (us.mapM firstOfTuple') Q E s
 |.nil,us,Q,e,h=>by
  subst e;exact aB (h [] fun _ z=>by cases z)
 |.cons b r,us,Q,e,h=>by
  obtain⟨a,its,rest,rfl,h1,T,h3⟩:=e;obtain⟨o,I,hc,n,hd⟩:=id h1;rw[List.mapM_cons];refine Wb (Wb (Looks.here ((Looks.ld I).andThen .now) ?_));rw[hc];refine Wb (listItems_at I hd (aB (Wb (UK r rest h3 fun fs Z=>aB (h _ fun v Y=>?_)))));rcases aO.mp Y with z|z
  .cases b with
   |nil=>subst T;grind
   |cons c q=>
    obtain⟨a',its',l,rfl,U,_⟩:=T;simp at z;subst z;exact K6 U
  grind
def S6{Q}(T:∀v∈vs,Looks M s.heap (typeOf v) LE)(h0:vs=[]->Q none s)(U:Q (some LE) s):wpAny M A (oneTypeOnly' vs.toArray) Q E s:=by
 rw[oneTypeOnly'_eq,List.mapM_toArray];refine Wb (Wb (kas_mapM _ (fun v l Y I=>(T v l).here I) ar));cases vs with
 |nil=>exact aB (h0 rfl)
 |cons f r=>
  simp;exact aB U
def oQ{Q}(e:Vs s.heap t us)(h:∀κ,V0 κ->Q κ s):wpAny M A (keyKind' us.toArray) Q E s:=by
 rw[kat_kind_eq,List.mapM_toArray];refine Wb (Wb (UK t us e fun fs U=>aB ?_));split
 .refine Wb (aq ?_);rw[(show fs.toArray.filterMap id=(fs.filterMap id).toArray by simp)];refine Wb (S6 (fun v I=>by grind) (fun _=>?_) ?_)
  .exact aB (h _ (.inr (.inr rfl)))
  .exact aB (h _ (.inr (.inr rfl)))
 .split
  .exact aB (h _ ZB)
  .refine Wb (S6 (fun v I=>by
    obtain⟨i,hi,rfl⟩:=List.getElem_of_mem I;obtain⟨a,its,c,l,T,_⟩:=e.at hi;rw[(L5),List.getElem?_eq_getElem hi]at l;simp at l;rw[l];exact K6 T) (fun _=>?_) ?_)
   .exact aB (h _ ZB)
   .exact aB (h _ (.inr ZB))
theorem Vo(l:∀i j C,i<n->j<n->C (lt i j) s->cmp i j C s):∀T:KasT α,SM.Wp lt n T I->T.kasWp cmp (fun a s'=>s'=s/\I a) s
 |.ret a,h=>⟨rfl,h⟩
 |.ask i j k,h=>l i j _ h.1 h.2.1 (Vo l _ h.2.2)
end
def Vs.keeps(k:P3):∀ {t} {us},Vs h t us->Vs h' t us
 |.nil,us,e=>e
 |.cons b r,us,e=>by
  obtain⟨a,l,rest,rfl,⟨o,M,I,hd⟩,U,T⟩:=e;exact⟨a,l,rest,rfl,⟨o,k _ _ M I,I,hd⟩,U.keeps k,T.keeps k⟩
def map_getD{α:Type}(d:α) l:(List.range l.length).map (fun i=>l.getD i d)=l:=by
 refine List.ext_getElem By fun i M I=>?_
 grind
section
def eS b (us:AAn) (hz:us.length<2):(if b=true then((if b=true then(us.toArray.zip us.toArray).reverse else us.toArray.zip us.toArray).map (·.2)).reverse else(if b=true then(us.toArray.zip us.toArray).reverse else us.toArray.zip us.toArray).map (·.2))=us.toArray:=by
 grind
end
end TH
namespace ET
open PySem
section
variable{prog:F0b}{w:F0c}{A:F0d}{E:AAo}{s:SD}
def next_item(hit:s.heap.IsTupleIter it t i)(U:s.heap.IsTuple t items)(T:items[i]? = some x) (Z:∀h',h'.IsTupleIter it t SB->Heap.SameBut it s.heap h'->Q x {s with heap:=h'}):wpAny As A (Builtin.SmallTypes.nextOf (.ref it)) Q E s:=by
 obtain⟨o,l,Y,hd⟩:=id hit;obtain⟨ol,I,_,nl,M⟩:=U;refine Wb (aa hit.typeIs F.slot_tuple_iterator_next
  (aT F.slot_tuple_iterator_next hit.typeIs F.entry_tuple_iterator_next ?_ (F.args_tuple_iterator_next_1 _)))
 show wpAny _ _ (field _ 0>>=_) _ _ s;refine Wb (av l hd (x:=.ref t) rfl (Wb (av l hd rfl (Wb (bA I M ?_)))));simp only[Int.toNat_natCast,T];exact Wb (wpAny_setField l hd By (aB ⟨x,rfl,wpAny_pure (Z _ (⟨_,Heap.get?_update_self _ l (Obj.isFreed_of_fields (Obj.data_mapFields hd _)),(Obj.cls_mapFields ..).trans Y,by
  rw[Obj.data_mapFields hd];rfl⟩) (aZ ..))⟩))
def next_end{it t:AD}{i:Nat}{items}{Q:AAo}(T:A.handled=none)(hit:s.heap.IsTupleIter it t i)(Y:s.heap.IsTuple t items)(U:items[i]? = none) (Z:∀h' e,Heap.ExtBut it s.heap h'->(∃o,h'.get? e=some o/\o.cls=.type "StopIteration")->E (.ref e) {s with heap:=h'}):wpAny As A (Builtin.SmallTypes.nextOf (.ref it)) Q E s:=by
 obtain⟨o,I,hc,hd⟩:=id hit;obtain⟨ol,l,_,nl,M⟩:=Y;refine Wb (aa hit.typeIs F.slot_tuple_iterator_next
  (aT F.slot_tuple_iterator_next hit.typeIs F.entry_tuple_iterator_next ?_ (F.args_tuple_iterator_next_1 _)))
 show wpAny _ _ (field (.ref it) 0>>=_) _ _ s;refine Wb (av I hd (x:=.ref t) rfl ?_);refine Wb (av I hd (x:=.int i 0) rfl ?_);refine Wb (bA l M ?_);simp only[Int.toNat_natCast,U];refine Wb (aq (Wb (wpAny_setField I hd By ?_)));refine Wb ?_;simp only[newExc,newTuple];refine Wb (m:=firstArgMember _ _) (wpAny_of_eq (a:=Value.none) (by first|rfl|(simp only[firstArgMember];rfl)) ?_);refine ag ?_ (by size_fits);simp only[raiseNew];refine Wb (wpAny_handled ?_)
 first|rw[T]|rw[T]
 refine Wb (aB (wpAny_throw ?_));exact Z _ _ (((aZ ..).extBut.push _).push _) ⟨_,Heap.get?_push_size _ rfl,rfl⟩
end
section
open AutoSeq1 (wpAny_loadPart')
def gI(l:AD)(items:Array VL)(n:Nat)(T:Option AD)(sl:Array (Option VL)):Meets (Builtin.«enumerate.__new__» ⟨[.type "enumerate",.ref l],[]⟩) (fun _ R s=>s.heap.get? l=some { cls:=.type "tuple",dict:=T,data:=.seq items n,slots:=sl} /\R (.ok (.ret (.ref (s.heap.push { cls:=.type "tuple_iterator",data:=.fields #[.ref l,.int 0 0]}).objs.size))) {s with heap:=(s.heap.push { cls:=.type "tuple_iterator",data:=.fields #[.ref l,.int 0 0]}).push { cls:=.type "enumerate",data:=.fields #[.none,.bool false,.ref s.heap.objs.size,rawInt 0,.none,.none]} }) :=
 .of_wp fun prog w A R s h=>by
  obtain⟨Y,g,d,tk,os⟩:=s;obtain⟨I,h⟩:=h;have U:=sub_enumerate;have M:Heap.IsTuple (Shared.heap ⟨Y,g,d,tk,os⟩) l items:=⟨_,I,rfl,n,rfl⟩
  wp_walk using wpAny_loadPart' I
  refine wpAny_stack_any fun st=>aB ?_;split
  .rename_i c _ _ _ _ _;cases (c==Value.type "enumerate")
   .wp_walk using wpAny_loadPart' I,wpAny_pyIter_tuple M
    exact⟨_,rfl,h⟩
   .wp_walk using wpAny_loadPart' I,wpAny_pyIter_tuple M
    exact⟨_,rfl,h⟩
  .wp_walk using wpAny_loadPart' I,wpAny_pyIter_tuple M
   exact⟨_,rfl,h⟩
def eI{s:SD}(Z:s.heap.IsTuple l items) (h:∀h',IsEnum h' SC s.heap.objs.size 0 .none->h'.IsTupleIter s.heap.objs.size l 0->h'.objs.size=s.heap.objs.size+2 ->(∀b o,s.heap.get? b=some o->h'.get? b=some o)->Q (.ref SC) {s with heap:=h'}):wpAny As A (call (.type "enumerate") [.ref l]) Q E s:=by
 obtain⟨⟨c,M,dt,sl⟩,U,Y,n,hd⟩:=Z;subst Y hd;refine callType_new F.called_enumerate AC (F.typeCall_enumerate_1 _) (F.newCall_enumerate_1 _) (fun obj=>F.args_object_init_2 obj _) F.entry_enumerate_new
  (gI l items n M sl) ⟨U,?_⟩
 have I:(s.heap.push { cls:=.type "tuple_iterator",data:=.fields #[.ref l,.int 0 0]}).objs.size=s.heap.objs.size+1:=Heap.size_push ..;rw[I];have T:=by
  have:=aN (s.heap.push { cls:=.type "tuple_iterator",data:=.fields #[.ref l,.int 0 0]})
   (o:={ cls:=.type "enumerate",data:=.fields #[.none,.bool false,.ref s.heap.objs.size,rawInt 0,.none,.none]}) rfl
  rw[I]at this;exact this
 refine⟨⟨_,T,rfl⟩,h _ T ⟨_,Heap.get?_push_of_some _ (aN _ rfl),rfl,rfl⟩ (by rw[(LA),I]) fun b o x=>aE _ (aE _ x)⟩
end
def draws(hh:A.handled=none) it a (its:AAn) (hne:a≠it) :
  Draws prog w A it [it,a] its.length (fun i x=>its[i]? = some x) (fun i h=>h.IsTupleIter it a i/\h.IsTuple a its.toArray) where
 live:=fun i h st=>let⟨o,e,_⟩:=st.1;⟨o,e⟩
 frame:=fun i h h' st k=>let⟨⟨o,e,r⟩,o2,e2,r2⟩:=st;⟨⟨o,k it By o e,r⟩,o2,k a By o2 e2,r2⟩
 item:=fun i s Q E hi st hQ=>next_item st.1 st.2 (x:=its[i]) By fun h' st' sb=>
  hQ _ h' s.toks By ⟨st',let⟨o,e,r⟩:=st.2;⟨o,(sb.2 a hne).trans e,r⟩⟩ sb
 done:=fun s Q E st hE=>next_end hh st.1 st.2 By hE
end ET
namespace L2
open PySem PySem.Spec PyProof.Rows
section
variable{X:Cx}{pins:LT}{σ:St}{H:Hp}{s:SD}{h':Heap}{tk:Nat}{ch:ABF}
def Inv.turn(I:BE)(hf:∀b∈ch,K7 X pins H b)(keep:∀b o,b ∉ ch->s.heap.get? b=some o->h'.get? b=some o):Inv X pins σ H Ix:=by
 have tM:∀b o,H b=some o->b ∉ ch:=fun b o q hb=>by rw[(hf b hb).1]at q;lia
 refine I.step (fun b hb=>?_) (fun b o _ _ l q _=>by grind) (fun b o _ _ l q _=>⟨o.slots,keep b o l q⟩)
  (fun b o _ q n=>n) (fun b o l q=>by grind) (fun b ys q=>q) (fun b o u q=>q)
  (fun b ps q=>by simp_all) (fun b _ o l _ q=>by grind) (fun m hm=>?_) (fun b o q=>?_) I.bare
 .obtain⟨_,f1,_,Y,U,T⟩:=hf b hb
  lia
 .obtain⟨o,es,ep,M,r⟩:=hm;exact⟨o,es,ep,keep _ o (fun hb=>(hf _ hb).2.1 rfl) M,r⟩
 .refine(I.Ae b o q).J9 (fun c w l r=>keep c w ?_ r) (fun c r=>r) fun c ys r=>r
  grind
def Inv.iG(I:BE)(hf:∀b∈ch,K7 X pins H b)(keep:∀b o,b ∉ ch->s.heap.get? b=some o->h'.get? b=some o)(hz:xs.length<=sizeLine)(T:Vals xs us) (Y:h'.get? s.heap.objs.size=some { cls:=.type "tuple",data:=.seq us.toArray}):Inv X pins σ (upd H s.heap.objs.size Jl) Ix:=by
 have l:=I.Ae.fresh M0;have tM:∀b o,H b=some o->b ∉ ch:=fun b o q hb=>by rw[(hf b hb).1]at q;cases q
 refine I.step (fun b hb=>?_) (fun b o _ _ M q _=>keep b o M q) (fun b o _ _ M q _=>⟨o.slots,keep b o M q⟩)
  (fun b o _ q n=>by rw[AN ((fun b o q=>aJ (aH q)) b o q)];exact n) (fun b o M q=>⟨o,keep b o M q⟩) (fun b ys q=>by rw[AN (Ah q l)];exact q) (fun b o u q=>by rw[AN (Ah q l)];exact q)
  (fun b ps q=>⟨#[],by rw[AN (Ah q l),q];simp⟩) (fun b _ o M _ q=>keep b o M q) (fun m hm=>?_) (fun b o q=>?_) I.bare
 .obtain⟨_,f1,_,f3,f4,Z⟩:=hf b hb;exact⟨f3,f1,f4,Z⟩
 .obtain⟨o,es,ep,U,r⟩:=hm;exact⟨o,es,ep,keep _ o (fun hb=>(hf _ hb).2.1 rfl) U,r⟩
 .by_cases hb:b=s.heap.objs.size
  .subst hb;rw[AR]at q;cases q;exact⟨hz,us,T,_,Y,rfl,_,rfl⟩
  .rw[AN hb]at q;refine(I.Ae b o q).J9 (fun c w M r=>keep c w ?_ r) (fun c r=>by rw[AN (Ah r l)];exact r) fun c ys r=>by rw[AN (Ah r l)];exact r
   grind
end
end L2
namespace ZT
open PySem PyProof.Rows
structure Apart(z TI TO i1 i2:Addr)(f1 f2:List Addr):Prop where
 a1:TI≠z/\TI≠TO/\TI≠i1/\TI≠i2
 a2:TO≠z/\TO≠i1/\TO≠i2
 a3:i1≠z/\i2≠z/\i1≠i2
 b1:z ∉ f1/\TO ∉ f1/\i2 ∉ f1
 b2:z ∉ f2/\TO ∉ f2/\i1 ∉ f2
section
variable{prog:F0b}{w:F0c}{A:F0d}{E:AAo}{s:SD}{z TI TO i1 i2:AD}{f1 f2:ABF}{n1 n2 k:Nat}{P1 P2:Nat->VL->Prop}{S1 S2:Nat->Heap->Prop}{a b:VL}
def EJ{f:ABF}{x}{h h'}(l:x ∉ f)(e:Heap.SameBut x h h'):∀c∈f,∀o,h.get? c=some o->h'.get? c=some o:=fun c I o q=>(e.2 c fun y=>by lia).trans q
def item{Q:AAo}(D1:Draws prog w A i1 f1 n1 P1 S1)(D2:Draws prog w A i2 f2 n2 P2 S2)(ap:Apart z TI TO i1 i2 f1 f2)(hz:IsZip s.heap z TI TO .none)(hI:IsPair s.heap TI (.ref i1) (.ref i2))(hO:IsPair s.heap TO a b) (t1:S1 k s.heap)(t2:S2 k s.heap)(l1:k<n1)(l2:k<n2) (q:∀x y h' tk,P1 k x->P2 k y->IsZip h' z TI TO (rawInt s.heap.objs.size)->IsPair h' TO x y->S1 (k+1) h'->S2 (k+1) h'->IsPair h' s.heap.objs.size x y->h'.objs.size=s.heap.objs.size+1 ->(∀c o,c≠z->c≠TO->c≠i1->c≠i2->s.heap.get? c=some o->h'.get? c=some o)->Q Go Ix):wpAny As A (Builtin.«zip.__next__» ⟨[.ref z],[]⟩) (fun fin s'=>∃v,fin=.done (.ret v)/\Q v s') E s:=by
 obtain⟨⟨c1,c2,c3,c4⟩,⟨c5,c6,c7⟩,⟨c8,c9,c10⟩,⟨d1,d2,d3⟩,d4,d5,d6⟩:=ap;show wpAny _ _ (field (.ref z) 2>>=_) _ _ _;refine Wb (av hz rfl (x:=.bool false) rfl ?_);show wpAny _ _ (field (.ref z) 3>>=_) _ _ _;refine Wb (av hz rfl (x:=.ref TI) rfl (Wb (bA hI rfl ?_)));show wpAny _ _ (Builtin.SmallTypes.ownedTupleIsFree (.ref z)>>=_) _ _ _;unfold Builtin.SmallTypes.ownedTupleIsFree;refine Wb (Wb (av hz rfl (x:=.none) rfl ar));simp only[if_true];refine Wb (aq (Wb (av hz rfl (x:=.ref TO) rfl (Wb (wpAny_setField_rec hz By fun g1 z1 Y=>Wb ?_)))));have Y:Heap.SameBut z s.heap g1:=Y;have z1:IsZip g1 z TI TO .ellipsis:=z1;simp only[List.zipIdx_cons,List.zipIdx_nil,List.forIn_cons,List.forIn_nil];refine Wb (Wb (wpAny_onRaise ?_));show wpAny _ _ (Builtin.SmallTypes.nextOf (.ref i1)>>=_) _ _ _;refine Wb (D1.item k _ _ _ l1 (D1.frame _ _ _ t1 (EJ d1 Y)) fun x g2 tk2 p1 u1 U=>aB ?_);have o2:IsPair g2 TO a b:=(U.2 _ c6).trans ((Y.2 _ c5).trans hO);refine Wb (bA o2 rfl (Wb (wpAny_updateSeq_pair o2 fun g3 o3 T=>Wb (wpAny_letGo ar))));have o3:IsPair g3 TO x b:=o3;have t2':S2 k g3:=D2.frame _ _ _ (D2.frame _ _ _ (D2.frame _ _ _ t2 (EJ d4 Y)) (EJ d6 U)) (EJ d5 T);refine Wb (Wb (wpAny_onRaise ?_));show wpAny _ _ (Builtin.SmallTypes.nextOf (.ref i2)>>=_) _ _ _;refine Wb (D2.item k _ _ _ l2 t2' fun y g4 tk4 p2 u2 M=>aB ?_);have T:Heap.SameBut TO g2 g3:=T;have M:Heap.SameBut i2 g3 g4:=M;have o4:IsPair g4 TO x b:=(M.2 _ c7).trans o3;refine Wb (bA o4 rfl (Wb (wpAny_updateSeq_pair o4 fun l o5 I=>Wb (wpAny_letGo (aB ar)))));have I:Heap.SameBut TO g4 l:=I;have o5:IsPair l TO x y:=o5;refine Wb (bA o5 rfl (Wb (wpAny_newTuple ?_)));have U:Heap.SameBut i1 g1 g2:=U;have sz:l.objs.size=s.heap.objs.size:=by rw[I.1,M.1,T.1,U.1,Y.1]
 have z5:IsZip l z TI TO .ellipsis:=(I.2 _ c5.symm).trans ((M.2 _ c9.symm).trans ((T.2 _ c5.symm).trans ((U.2 _ c8.symm).trans z1)));have kp:∀c o,c≠z->c≠TO->c≠i1->c≠i2->s.heap.get? c=some o->l.get? c=some o:=fun c o Z e2 e3 e4 e=>(I.2 _ e2).trans ((M.2 _ e4).trans ((T.2 _ e2).trans ((U.2 _ e3).trans ((Y.2 _ Z).trans e))));have v1:S1 (k+1) l:=D1.frame _ _ _ (D1.frame _ _ _ (D1.frame _ _ _ u1 (EJ d2 T)) (EJ d3 M)) (EJ d2 I);have v2:S2 (k+1) l:=D2.frame _ _ _ u2 (EJ d5 I);show wpAny _ _ (Builtin.SmallTypes.ownedTupleHandOut (.ref z) (.ref l.objs.size)>>=_) _ _ _;unfold Builtin.SmallTypes.ownedTupleHandOut;have z6:IsZip (l.push { cls:=.type "tuple",data:=.seq #[x,y]}) z TI TO .ellipsis:=aE _ z5;refine Wb (Wb (wpAny_setField_rec z6 By fun g7 z7 m7=>wpAny_setField_rec (show IsZip g7 z TI TO (rawInt l.objs.size) from z7) By fun g8 z8 m8=>?_));have z8:IsZip g8 z TI TO (rawInt l.objs.size):=z8;have up:∀c o,c≠z->(l.push { cls:=.type "tuple",data:=.seq #[x,y]}).get? c=some o->g8.get? c=some o:=fun c o Z e=>(m8.2 _ Z).trans ((m7.2 _ Z).trans e);have zl:z<l.objs.size:=aH z5;refine aB ⟨_,rfl,?_⟩;show Q (.ref l.objs.size) _;have fin:=q x y g8 tk4 p1 p2 (by rw[<-sz];exact z8) (up _ _ c5 (aE _ o5)) (D1.frame _ _ _ v1 fun c hc o e=>up c o (fun y=>d1 (y ▸ hc)) (aE _ e)) (D2.frame _ _ _ v2 fun c hc o e=>up c o (fun y=>d4 (y ▸ hc)) (aE _ e))
  (by rw[<-sz];exact up _ _ (bV zl) (aN _ rfl)) (by rw[<-sz,m8.1,m7.1,(LA)]) fun c o Z e2 e3 e4 e=>up c o Z (aE _ (kp c o Z e2 e3 e4 e))
 rw[sz];exact fin
def ended{Q:Fin->SD->Prop}(D1:Draws prog w A i1 f1 n1 P1 S1)(D2:Draws prog w A i2 f2 n2 P2 S2)(ap:Apart z TI TO i1 i2 f1 f2)(hz:IsZip s.heap z TI TO .none)(hI:IsPair s.heap TI (.ref i1) (.ref i2))(hO:IsPair s.heap TO a b) (t1:S1 k s.heap)(t2:S2 k s.heap)(he:k=n1\/(k<n1/\k=n2)) (q:∀h' e tk,(∀c o,c≠z->c≠TO->c≠i1->c≠i2->s.heap.get? c=some o->h'.get? c=some o)->(∃o,h'.get? e=some o/\o.cls=.type "StopIteration")->E (.ref e) Ix):wpAny As A (Builtin.«zip.__next__» ⟨[.ref z],[]⟩) Q E s:=by
 obtain⟨⟨c1,c2,c3,c4⟩,⟨c5,c6,c7⟩,⟨c8,c9,c10⟩,⟨d1,d2,d3⟩,d4,d5,d6⟩:=ap;show wpAny _ _ (field (.ref z) 2>>=_) _ _ _;refine Wb (av hz rfl (x:=.bool false) rfl ?_);show wpAny _ _ (field (.ref z) 3>>=_) _ _ _;refine Wb (av hz rfl (x:=.ref TI) rfl (Wb (bA hI rfl ?_)));show wpAny _ _ (Builtin.SmallTypes.ownedTupleIsFree (.ref z)>>=_) _ _ _;unfold Builtin.SmallTypes.ownedTupleIsFree;refine Wb (Wb (av hz rfl (x:=.none) rfl ar));simp only[if_true];refine Wb (aq (Wb (av hz rfl (x:=.ref TO) rfl (Wb (wpAny_setField_rec hz By fun g1 z1 U=>Wb ?_)))));have U:Heap.SameBut z s.heap g1:=U;have z1:IsZip g1 z TI TO .ellipsis:=z1;simp only[List.zipIdx_cons,List.zipIdx_nil,List.forIn_cons,List.forIn_nil];refine Wb (Wb (wpAny_onRaise ?_));show wpAny _ _ (Builtin.SmallTypes.nextOf (.ref i1)>>=_) _ _ _;have T:=D1.frame _ _ _ t1 (EJ d1 U);rcases he with he|⟨he1,he2⟩
 .rw[he]at T;refine Wb (D1.done _ _ _ T fun g2 e I l=>?_);obtain⟨o,l,Z⟩:=l;have z2:IsZip g2 z TI TO .ellipsis:=I _ _ c8.symm z1;have ez:e≠z:=fun y=>by subst y;rw[z2]at l;cases l;simp at Z
  exact wpAny_setField_rec z2 By fun g3 _ M=>q g3 e _ (fun c o e1 e2 e3 e4 y=>(M.2 _ e1).trans (I _ _ e3 ((U.2 _ e1).trans y))) ⟨o,(M.2 _ ez).trans l,Z⟩
 .refine Wb (D1.item k _ _ _ he1 T fun x g2 tk2 p1 u1 I=>aB ?_);have o2:IsPair g2 TO a b:=(I.2 _ c6).trans ((U.2 _ c5).trans hO);refine Wb (bA o2 rfl (Wb (wpAny_updateSeq_pair o2 fun g3 o3 M=>Wb (wpAny_letGo ar))));have Y:S2 k g3:=D2.frame _ _ _ (D2.frame _ _ _ (D2.frame _ _ _ t2 (EJ d4 U)) (EJ d6 I)) (EJ d5 M);rw[he2]at Y;have I:Heap.SameBut i1 g1 g2:=I;have M:Heap.SameBut TO g2 g3:=M;refine Wb (Wb (wpAny_onRaise ?_));show wpAny _ _ (Builtin.SmallTypes.nextOf (.ref i2)>>=_) _ _ _;refine Wb (D2.done _ _ _ Y fun g4 e m4 l=>?_);obtain⟨o,l,Z⟩:=l;have z4:IsZip g4 z TI TO .ellipsis:=m4 _ _ c9.symm ((M.2 _ c5.symm).trans ((I.2 _ c8.symm).trans z1));have ez:e≠z:=fun y=>by subst y;rw[z4]at l;cases l;simp at Z
  exact wpAny_setField_rec z4 By fun g5 _ m5=>q g5 e _ (fun c o e1 e2 e3 e4 y=>(m5.2 _ e1).trans (m4 _ _ e4 ((M.2 _ e2).trans ((I.2 _ e3).trans ((U.2 _ e1).trans y))))) ⟨o,(m5.2 _ ez).trans l,Z⟩
def next_item(D1:Draws prog w A.in1 i1 f1 n1 P1 S1)(D2:Draws prog w A.in1 i2 f2 n2 P2 S2)(ap:Apart z TI TO i1 i2 f1 f2)(hz:IsZip s.heap z TI TO .none)(hI:IsPair s.heap TI (.ref i1) (.ref i2))(hO:IsPair s.heap TO a b) (t1:S1 k s.heap)(I:S2 k s.heap)(l1:k<n1)(l2:k<n2) (q:∀x y h' tk,P1 k x->P2 k y->IsZip h' z TI TO (rawInt s.heap.objs.size)->IsPair h' TO x y->S1 (k+1) h'->S2 (k+1) h'->IsPair h' s.heap.objs.size x y->h'.objs.size=s.heap.objs.size+1 ->(∀c o,c≠z->c≠TO->c≠i1->c≠i2->s.heap.get? c=some o->h'.get? c=some o)->Q (some Go) Ix):wpAny As A (pyNext (.ref z)) Q E s:=by
 have l:s.TypeIs (.ref z) "zip" := ⟨_,hz,rfl⟩;exact Wb (wpAny_attempt (aa l F.slot_zip_next
  (aT F.slot_zip_next l F.entry_zip_next (item D1 D2 ap hz hI hO t1 I l1 l2 fun x y h' tk r1 r2 r3 r4 Z Y U T M=>aB (q x y h' tk r1 r2 r3 r4 Z Y U T M)) (F.args_zip_next_1 _))))
def next_end(D1:Draws prog w A.in1 i1 f1 n1 P1 S1)(D2:Draws prog w A.in1 i2 f2 n2 P2 S2)(ap:Apart z TI TO i1 i2 f1 f2)(hz:IsZip s.heap z TI TO .none)(Z:IsPair s.heap TI (.ref i1) (.ref i2))(Y:IsPair s.heap TO a b) (t1:S1 k s.heap)(M:S2 k s.heap)(T:k=n1\/(k<n1/\k=n2)) (q:∀h' tk,(∀c o,c≠z->c≠TO->c≠i1->c≠i2->s.heap.get? c=some o->h'.get? c=some o)->Q none Ix):wpAny As A (pyNext (.ref z)) Q E s:=by
 have I:s.TypeIs (.ref z) "zip" := ⟨_,hz,rfl⟩;refine Wb (wpAny_attempt (aa I F.slot_zip_next
  (aT F.slot_zip_next I F.entry_zip_next (ended D1 D2 ap hz Z Y t1 M T fun h' e tk kp l=>?_) (F.args_zip_next_1 _))))
 obtain⟨o,l,U⟩:=l;exact Wb (wpAny_isInstance ⟨o,l,U⟩ isSubtype_stop (aB (q _ _ kp)))
end
def Sq(b:Bool)(h:Heap)(l:AD)(xs:AAn):Prop:=if b then h.IsTuple l xs.toArray else h.IsList l xs.toArray
def Ew(b:Bool)(l:AD):Obj:=if b then { cls:=.type "tuple_iterator",data:=.fields #[.ref l,.int 0 0]} else { cls:=.type "list_iterator",data:=.fields #[.ref l,.int 0 0]}
def Lf(b:Bool)(h:Heap)(it l:AD)(k:Nat):Prop:=if b then h.IsTupleIter it l k else h.IsListIter it l k
def Sq.push o (x:Sq b h l xs):Sq b (h.push o) l xs:=by
 cases b with
 |true=>obtain⟨u,e,r⟩:=x;exact(⟨u,Heap.get?_push_of_some _ e,r⟩)
 |false=>obtain⟨u,e,r⟩:=x;exact(⟨u,Heap.get?_push_of_some _ e,r⟩)
section
variable{prog:F0b}{w:F0c}{A:F0d}{E:AAo}{s:SD}
def Y5(x:Sq b s.heap l xs)(h:Q Go {s with heap:=s.heap.push (Ew b l)}):wpAny As A (pyIter (.ref l)) Q E s:=by
 cases b with
 |true=>exact wpAny_pyIter_tuple x h
 |false=>exact wpAny_pyIter_list x h
def IJ(M:A.handled=none) b it l xs (I:l≠it):Draws prog w A it [it,l] xs.length (fun i v=>xs[i]? = some v) (fun i h=>Lf b h it l i/\Sq b h l xs):=by
 cases b with
 |true=>exact ET.draws M it l xs I
 |false=>
  simpa[Lf,Sq]using (Draws.list M it l I xs.toArray)
def zh(b1 b2:Bool)(h:Heap)(l I:AD):Heap :=
 ((((h.push (Ew b1 l)).push (Ew b2 I)).push { cls:=.type "tuple",data:=.seq #[.ref h.objs.size,.ref (h.push (Ew b1 l)).objs.size]}).push { cls:=.type "tuple",data:=.seq #[.none,.none]}).push
  { cls:=.type "zip",data:=.fields #[.none,.bool false,.bool false,.ref ((h.push (Ew b1 l)).push (Ew b2 I)).objs.size,.ref (((h.push (Ew b1 l)).push (Ew b2 I)).push { cls:=.type "tuple",data:=.seq #[.ref h.objs.size,.ref (h.push (Ew b1 l)).objs.size]}).objs.size]}
def rN(b1 b2:Bool)(l M:AD)(xs ys:AAn):Meets (Builtin.«zip.__new__» ⟨[.type "zip",.ref l,.ref M],[]⟩) (fun _ R s=>Sq b1 s.heap l xs/\Sq b2 s.heap M ys /\R (.ok (.ret (.ref ((((s.heap.push (Ew b1 l)).push (Ew b2 M)).push { cls:=.type "tuple",data:=.seq #[.ref s.heap.objs.size,.ref (s.heap.push (Ew b1 l)).objs.size]}).push { cls:=.type "tuple",data:=.seq #[.none,.none]}).objs.size)) ) {s with heap:=zh b1 b2 s.heap l M}) :=
 .of_wp fun prog w A R s h=>by
  obtain⟨I,g,d,tk,os⟩:=s;obtain⟨Y,U,h⟩:=h;have T:=sub_zip;have i1:∀(A:F0d) (E:VL->SD->Prop) (Q:VL->SD->Prop),Q (.ref I.objs.size) ⟨I.push (Ew b1 l),g,d,tk,os⟩->wpAny As A (pyIter (.ref l)) Q E ⟨I,g,d,tk,os⟩:=fun A E Q q=>Y5 (s:=⟨I,g,d,tk,os⟩) Y q;have i2:∀(A:F0d) (E:VL->SD->Prop) (Q:VL->SD->Prop),Q (.ref (I.push (Ew b1 l)).objs.size) ⟨(I.push (Ew b1 l)).push (Ew b2 M),g,d,tk,os⟩->wpAny As A (pyIter (.ref M)) Q E ⟨I.push (Ew b1 l),g,d,tk,os⟩:=fun A E Q q=>Y5 (s:=⟨I.push (Ew b1 l),g,d,tk,os⟩) (U.push _) q
  wp_walk using i1,i2
  exact⟨_,rfl,h⟩
def jn{b1 b2:Bool}{I l:AD}{xs ys:AAn}{Q:AAo}(h1:Sq b1 s.heap I xs)(h2:Sq b2 s.heap l ys) (h:∀h',IsZip h' (s.heap.objs.size+4) (s.heap.objs.size+2) (s.heap.objs.size+3) .none->IsPair h' (s.heap.objs.size+2) Go (.ref SC)->IsPair h' (s.heap.objs.size+3) .none .none ->Lf b1 h' s.heap.objs.size I 0->Lf b2 h' SC l 0->(∀c o,s.heap.get? c=some o->h'.get? c=some o)->Q (.ref (s.heap.objs.size+4)) {s with heap:=h'}):wpAny As A (call (.type "zip") [.ref I,.ref l]) Q E s:=by
 refine callType_new F.called_zip AC (F.typeCall_zip_2 _ _) (F.newCall_zip_2 _ _) (fun obj=>F.args_object_init_3 obj _ _) F.entry_zip_new (rN b1 b2 I l xs ys) ⟨h1,h2,?_⟩;have n1:(s.heap.push (Ew b1 I)).objs.size=s.heap.objs.size+1:=Heap.size_push ..;have up:∀(g:Heap) (o:Obj) (c:AD) (u:Obj),g.get? c=some u->(g.push o).get? c=some u:=fun g o c u e=>aE _ e;have a0:(s.heap.push (Ew b1 I)).get? s.heap.objs.size=some (Ew b1 I):=aN _ (by cases b1<;>rfl);generalize Z:s.heap.push (Ew b1 I)=g1 at n1 a0;have k1:∀c o,s.heap.get? c=some o->g1.get? c=some o:=fun c o e=>by rw[<-Z];exact up _ _ _ _ e
 have n2:(g1.push (Ew b2 l)).objs.size=s.heap.objs.size+2:=by rw[(LA),n1]
 have a1:(g1.push (Ew b2 l)).get? SC=some (Ew b2 l):=by rw[<-n1];exact aN _ (by cases b2<;>rfl)
 generalize Y:g1.push (Ew b2 l)=g2 at n2 a1;have k2:∀c o,g1.get? c=some o->g2.get? c=some o:=fun c o e=>by rw[<-Y];exact up _ _ _ _ e
 have n3:(g2.push { cls:=.type "tuple",data:=.seq #[.ref s.heap.objs.size,.ref SC]}).objs.size=s.heap.objs.size+3:=by rw[(LA),n2]
 have a2:IsPair (g2.push { cls:=.type "tuple",data:=.seq #[.ref s.heap.objs.size,.ref SC]}) (s.heap.objs.size+2) Go (.ref SC):=by rw[<-n2];exact aN _ rfl
 generalize T:g2.push { cls:=.type "tuple",data:=.seq #[.ref s.heap.objs.size,.ref SC]}=g3 at n3 a2;have k3:∀c o,g2.get? c=some o->g3.get? c=some o:=fun c o e=>by rw[<-T];exact up _ _ _ _ e
 have n4:(g3.push { cls:=.type "tuple",data:=.seq #[.none,.none]}).objs.size=s.heap.objs.size+4:=by rw[(LA),n3]
 have a3:IsPair (g3.push { cls:=.type "tuple",data:=.seq #[.none,.none]}) (s.heap.objs.size+3) .none .none:=by rw[<-n3];exact aN _ rfl
 generalize M:g3.push { cls:=.type "tuple",data:=.seq #[.none,.none]}=g4 at n4 a3;have k4:∀c o,g3.get? c=some o->g4.get? c=some o:=fun c o e=>by rw[<-M];exact up _ _ _ _ e
 have ez:zh b1 b2 s.heap I l=g4.push { cls:=.type "zip",data:=.fields #[.none,.bool false,.bool false,.ref (s.heap.objs.size+2),.ref (s.heap.objs.size+3)]}:=by
  unfold zh;rw[Z,Y,n1,T,M,n2,n3]
 have a4:IsZip (g4.push { cls:=.type "zip",data:=.fields #[.none,.bool false,.bool false,.ref (s.heap.objs.size+2),.ref (s.heap.objs.size+3)]}) (s.heap.objs.size+4) (s.heap.objs.size+2) (s.heap.objs.size+3) .none:=by rw[<-n4];exact aN _ rfl
 rw[n1,T,M,n4,ez];show _/\_;have U:∀c o,g4.get? c=some o->(g4.push { cls:=.type "zip",data:=.fields #[.none,.bool false,.bool false,.ref (s.heap.objs.size+2),.ref (s.heap.objs.size+3)]}).get? c=some o:=fun c o e=>up _ _ _ _ e;refine⟨⟨_,a4,rfl⟩,h _ a4 (U _ _ (k4 _ _ a2)) (U _ _ a3) ?_ ?_ fun c o e=>U _ _ (k4 _ _ (k3 _ _ (k2 _ _ (k1 _ _ e))))⟩
 .have:=U _ _ (k4 _ _ (k3 _ _ (k2 _ _ a0)));cases b1 with
  |true=>exact⟨_,this,rfl,rfl⟩
  |false=>exact⟨_,this,rfl,rfl⟩
 .have:=U _ _ (k4 _ _ (k3 _ _ a1));cases b2 with
  |true=>exact⟨_,this,rfl,rfl⟩
  |false=>exact⟨_,this,rfl,rfl⟩
end
end ZT
namespace L2
open PySem PySem.Spec PyProof.Rows
def Ts(H:Hp):Tr->List V->Prop
 |.nil,xs=>xs=[]
 |.cons b r,xs=>∃(a:AD) (ys l:List V),xs=.ref a::l/\H a=some (.tup ys)/\Ts H b ys/\Ts H r l
def Tv(H:Hp)(t:Tr)(v:V):Prop:=∃(a:AD) (ys:List V),v=.ref a/\H a=some (.tup ys)/\Ts H t ys
def Ts.same(e:AI H H'):∀ {t} {xs},Ts H t xs->Ts H' t xs
 |.nil,xs,h=>h
 |.cons b r,xs,h=>let⟨a,ys,l,U,T,M,I⟩:=h;⟨a,ys,l,U,e _ _ T,M.same e,I.same e⟩
def Tv.same(h:Tv H t v)(e:AI H H'):Tv H' t v:=let⟨a,ys,M,I,l⟩:=h;⟨a,ys,M,e _ _ I,l.same e⟩
def Ts.length:∀ {t} {xs},Ts H t xs->xs.length=t.len
 |.nil,xs,h=>by rw[h];rfl
 |.cons b r,xs,h=>by
  obtain⟨a,ys,I,rfl,_,_,l⟩:=h;rw[(Gm),Tr.len,l.length]
def Ts.len(h:Ts H t xs):xs.length=t.bs.length:=by rw[h.length,Tr.Ig]
def Ts.get:∀ {t} {xs} {i:Nat} {v},Ts H t xs->xs[i]? = some v->∃c,t.bs[i]? = some c/\Tv H c v
 |.nil,xs,i,v,h,e=>by subst h;grind
 |.cons b r,xs,i,v,h,e=>by
  obtain⟨a,ys,Y,rfl,U,T,M⟩:=h;cases i with
  |zero=>simp at e;subst e;exact⟨b,rfl,a,ys,rfl,U,T⟩
  |succ i=>
   obtain⟨c,I,l⟩:=M.get (by simpa using e);exact⟨c,by simpa[Tr.bs]using I,l⟩
theorem Ts.iM:∀ts xs,xs.length=ts.length->(∀(i:Nat) v,xs[i]? = some v->∃c,ts[i]? = some c/\Tv H c v)->Ts H (Tr.of ts) xs
 |[],xs,l,_=>List.eq_nil_of_length_eq_zero GM
 |t::ts,[],l,_=>by grind
 |t::ts,x::xs,l,h=>by
  obtain⟨c,I,a,ys,rfl,T,M⟩:=h 0 x rfl;simp at I;subst I;exact⟨a,ys,xs,rfl,T,M,Ts.iM ts xs GM fun i v e=>by
   obtain⟨c,Y,U⟩:=h SB v GM
   grind⟩
def Ts.pick(h:Ts H t xs)(ix:ABA)(hi:∀i∈ix,i<xs.length):Ts H (Tr.of (ix.map fun i=>t.bs.getD i .nil)) (ix.map fun i=>xs.getD i .BV):=by
 refine Ts.iM _ _ By fun i v e=>?_;rw[(BG)]at e ⊢;cases q:ix[i]? with
 |none=>grind
 |some k=>
  rw[q]at e;simp only[Option.map_some]at e;obtain⟨c,I,l⟩:=h.get (by rw[<-e,(L5),List.getElem?_eq_getElem (hi k (aL q))];rfl)
  grind
section
variable{X:Cx}{pins:LT}{σ:St}{H:Hp}{s:SD}
theorem Ts.vs(I:BE):∀ {t} {xs} {us},Ts H t xs->Vals xs us->TH.Vs s.heap t us
 |.nil,xs,us,h,r=>by
  subst h;cases r
  rfl
 |.cons b rr,xs,us,h,r=>by
  obtain⟨a,ys,zs,rfl,h1,Z,Y⟩:=h;cases r with
  |cons U T=>
   cases U;obtain⟨l,M,p,_⟩:=I.tuple (A4.of h1);exact⟨a,l,_,rfl,p,Ts.vs I Z M,Ts.vs I Y T⟩
def Tv.at(I:BE)(h:Tv H t v)(r:RelV v u):∃(a:AD) (l:AAn),u=.ref a/\s.heap.IsTuple a l.toArray/\TH.Vs s.heap t l:=by
 obtain⟨a,ys,rfl,U,T⟩:=h;cases r;obtain⟨l,M,p,_⟩:=I.tuple (A4.of U);exact⟨a,l,rfl,p,Ts.vs I T M⟩
def xh:R2:=fun x y H Q=>∃t u,Tv H t x/\Tv H u y/\t.deep<=60/\Q (.bl (Tr.lt u t)) H
def oz(hu:IR):CN X (compareOp .Gt) xh:=by
 rintro pins s σ H x y v u' Q I U T ⟨t,u,h1,h2,hd,q⟩;obtain⟨a,M,rfl,Z,k1⟩:=h1.at I U;obtain⟨b,l,rfl,Y,k2⟩:=h2.at I T;exact TH.xl _ t u X.A s a b M l (bJ _) Z k1 Y k2 AS X.prog X.w X.xe _ ⟨.bl _,H,I,rfl,q⟩
end
def UE:Bool->Fg->Hp->AD->List V->Prop
 |true=>A4
 |false=>Am
def Inv.sq{σ:St}(I:BE):∀ {b} {a} {xs},UE b X.K H a xs->∃l,Vals xs l/\ZT.Sq b s.heap a l
 |true,_,_,h=>let⟨l,r,p,_⟩:=I.tuple h;⟨l,r,p⟩
 |false,_,_,h=>let⟨l,r,p,_⟩:=I.list h;⟨l,r,p.isList⟩
def Inv.tV{σ:St}{H}{s}(I:BE):∀ {b} {a} {xs ys},UE b X.K H a xs->UE b X.K H a ys->xs=ys
 |true,_,_,_,h,k=>I.UT h k
 |false,_,_,_,h,k=>I.Xf h k
def xu:∀ {b} {h} {a} {xs},ZT.Sq b h a xs->∃o,h.get? a=some o/\o.cls=.type (if b then "tuple" else "list")
 |true,_,_,_,⟨o,e,c,_⟩=>⟨o,e,c⟩
 |false,_,_,_,⟨o,e,c,_⟩=>⟨o,e,c⟩
def Ws:∀ {b} {h} {it a} {i},ZT.Lf b h it a i->∃o,h.get? it=some o/\o.data=.fields #[.ref a,.int i 0]
 |true,_,_,_,_,⟨o,e,_,d⟩=>⟨o,e,d⟩
 |false,_,_,_,_,⟨o,e,_,d⟩=>⟨o,e,d⟩
def IE:∀ {b} {h h'} {it a} {i},ZT.Lf b h it a i->(∀o,h.get? it=some o->h'.get? it=some o)->ZT.Lf b h' it a i
 |true,_,_,_,_,_,⟨o,e,r⟩,k=>⟨o,k o e,r⟩
 |false,_,_,_,_,_,⟨o,e,r⟩,k=>⟨o,k o e,r⟩
def ng:∀ {b} {h} {it a} {i} {xs},ZT.Sq b h a xs->ZT.Lf b h it a i->a≠it
 |true,_,_,_,_,_,⟨o,M,U,_⟩,⟨l,I,T,_⟩=>by grind
 |false,_,_,_,_,_,⟨o,M,U,_⟩,⟨l,I,T,_⟩=>by lia
def hZ{St}(D:Draws prog w A it fp n P St):Draws prog w A it fp (n+k) (fun i v=>P (i-k) v) (fun i h=>∃j,i=j+k/\St j h) where
 live:=fun i h ⟨j,_,s⟩=>D.live j h s
 frame:=fun i h h' ⟨j,e,s⟩ k=>⟨j,e,D.frame j h h' s k⟩
 item:=fun i s Q E hi ⟨j,e,st⟩ q=>D.item j s Q E AS st fun x h' tk h1 h2 h3=>by grind
 done:=fun s Q E ⟨j,e,st⟩ q=>by
  have:j=n:=by lia
  subst this;exact D.done s Q E st q
def Nx(K:Fg)(b:Bool)(k0:Nat)(a:AD):It :=
 ⟨fun i H=>∃xs x,UE b K H a xs/\xs[i]? = some x,fun i H v H'=>∃p x,v=.ref p/\H p=none/\H'=upd H p (.tup [.int ((i+k0:Nat)),x])/\∀xs,UE b K H a xs->xs[i]? = some x,fun i H=>∃xs,UE b K H a xs/\xs.length=i⟩
def Sx{b:Bool}{k0:Nat}{P:F0b}{w:F0c}{K:Fg}{elts:AA0}{x1}{pos:Pos}(a e it:AD)(hne:e≠it) :
  Turn P w K (.Tuple elts x1 pos) (Nx K b k0 a) [e,it] e (fun i h=>(∃old,IsEnum h e it ((i+k0:Nat):Int) old)/\ZT.Lf b h it a i) where
 mem:=by simp
 obj:=fun i h st c hb=>by
  rcases aO.mp hb with rfl|hb
  .obtain⟨⟨old,q⟩,_⟩:=st;exact⟨_,q,fun v z=>by cases z⟩
  .have e2:c=it:=by simpa using hb
   subst e2;obtain⟨o,q,d⟩:=Ws st.2;exact⟨o,q,fun v z=>by rw[d]at z;cases z⟩
 keep:=fun i h h' st k=>by
  obtain⟨⟨old,q⟩,q2⟩:=st;exact⟨⟨old,k e By _ q⟩,IE q2 (k it By)⟩
 item:=by
  intro X hP hw hK hc i pins s σ H E I hf st hg;subst hP hw hK;obtain⟨xs,x,hq,hx⟩:=hg;obtain⟨its,rv,p⟩:=I.sq hq;obtain⟨u,hu,ru⟩:=rv.get hx;obtain⟨⟨old,he⟩,hit⟩:=st;have hai:a≠it:=ng p hit;have hae:a≠e:=fun z=>by
   obtain⟨o,e1,c1⟩:=xu p;rw[z,he]at e1;cases e1;exact absurd (show Value.type "enumerate" = _ from c1) (by cases b<;>decide)
  have hlt:i<its.length:=(aF.mp hu).1;have hE0:=hf e By;have hI0:=hf it By;refine wpAny_pyNext_enum_itemD (hZ (k:=k0) (ZT.IJ (prog:=X.prog) (w:=X.w) (A:=X.A.in1) (I.ok.hd hc) b it a its hai)) he ⟨i,rfl,hit,p⟩ AS hne (by simp[hne,Ne.symm hae]) fun y h' tk hy ho hs' hT hsz hk=>⟨_,rfl,wpAny_letOwnedTupleGo_enum (s:={s with heap:=h',toks:=tk+1}) ho fun h'' he'' sb=>?_⟩;have hyu:y=u:=by
   have hy:its[i]? = some y:=by simpa using hy
   rw[hu]at hy;exact(af hy).symm
  have hs':ZT.Lf b h' it a SB:=by
   obtain⟨j,ej,hs1,_⟩:=hs';have:j=i+1:=by lia
   subst this;exact hs1
  subst hyu;have hTe:s.heap.objs.size≠e:=bV (aH he);have hTi:s.heap.objs.size≠it:=let⟨_,q,_⟩:=Ws hit;bV (aH q);have hTn:H s.heap.objs.size=none:=I.Ae.fresh M0;refine⟨.ref s.heap.objs.size,upd H s.heap.objs.size (.tup [.int ((i+k0:Nat):Int),x]),?_,rfl,⟨_,x,rfl,hTn,rfl,fun ys hy=>by rw[I.tV hy hq];exact hx⟩,⟨⟨_,by have:=he'';rw[show(((i+1+k0:Nat)):Int)=((i+k0:Nat):Int)+1 by lia];exact this⟩,?_⟩,fun b hb=>?_⟩
  .exact I.iG (ch:=[e,it]) hf (fun b o hb q=>(fun b o h1 h2 q=>(sb.2 b h1).trans (hk b o h1 h2 q)) b o (fun z=>hb (by simp[z])) (fun z=>hb (by simp[z])) q) oI (.cons ⟨tk,rfl⟩ (.cons ru .nil)) ((sb.2 _ hTe).trans hT)
  .exact IE hs' fun o q=>(sb.2 it (Ne.symm hne)).trans q
  .rcases aO.mp hb with rfl|hb
   .rw[AN (Ne.symm hTe)];exact hE0.1
   .have e2:b=it:=by simpa using hb
    subst e2;rw[AN (Ne.symm hTi)];exact hI0.1
 done:=by
  intro X hP hw hK hc i pins s σ H E I hf st hg;subst hP hw hK;obtain⟨xs,hq,hx⟩:=hg;obtain⟨its,rv,p⟩:=I.sq hq;obtain⟨⟨old,he⟩,hit⟩:=st;have hai:a≠it:=ng p hit;have hl:its.length=i:=by rw[<-rv.length];exact hx
  subst hl;obtain⟨f0,f1,f2,f3,f4,f5⟩:=hf it By;exact wpAny_pyNext_enum_endD (hZ (k:=k0) (ZT.IJ (prog:=X.prog) (w:=X.w) (A:=X.A.in1) (I.ok.hd hc) b it a its hai)) he ⟨_,rfl,hit,p⟩ fun h' eb=>⟨rfl,I.turned (t':=s.toks) (fun b o hb q=>eb b o hb q) f0 f1 f3 f4 f5⟩
 self:=fun _ _ _ _ _ st h=>by
  obtain⟨⟨old,he⟩,_⟩:=st;exact wpAny_pyIter_enum he h
def wB{b:Bool}{K:Fg}{a:AD}{xs:ABC}{g:TG}{tb:TS}{D:Ends}{σ:St}{H:Hp}(Pv:Nat->St->Hp->Prop)(h0:Pv 0 σ H)(hl:∀i σ H,i<=xs.length->Pv i σ H->UE b K H a xs) (Z:∀i x σ H,xs[i]? = some x->Pv i σ H->∀p,H p=none->g (.ref p) σ (upd H p (.tup [.int (i:Nat),x])) fun l M=>tb {D with nx:=Pv SB,ct:=Pv SB,bk:=D.nx} l M)(hd:∀σ H,Pv xs.length σ H->D.nx σ H):∃W:Nat->Nat->St->Hp->Prop,(∃m,W 0 m σ H)/\∀i m σ H,W i m σ H ->((Nx K b 0 a).stop i H/\D.nx σ H)\/((Nx K b 0 a).go i H/\∃N:St->Hp->Prop,(∀σ' H',N σ' H'->∃T,T<m/\W SB T σ' H')/\∀x H',(Nx K b 0 a).E6 i H x H'->g x σ H' fun l M=>tb {D with nx:=N,ct:=N,bk:=D.nx} l M):=by
 refine⟨fun i m σ H=>m=xs.length-i/\i<=xs.length/\Pv i σ H,⟨xs.length,by simp,Nat.zero_le _,h0⟩,?_⟩;rintro i m σ H ⟨rfl,hi,p⟩;have q:=hl i σ H hi p;by_cases I:i<xs.length
 .refine .inr ⟨⟨xs,xs[i],q,by simp[I]⟩,Pv SB,fun σ' H' Y=>⟨xs.length-SB,by lia,rfl,I,Y⟩,fun x H' y=>?_⟩;obtain⟨pp,U,rfl,hn,rfl,y⟩:=y;exact Z i U σ _ (y xs q) p pp hn
 .have e:i=xs.length:=by lia
  subst e;exact .inl ⟨⟨xs,q,rfl⟩,hd σ H p⟩
abbrev yp(K:Fg)(a:AD):It:=Nx K true 0 a
def yP(K:Fg)(I:TA):TI:=fun σ H R=>I σ H fun vs l=>∃a,vs=[.ref a]/\(∃xs,A4 K l a xs)/\R (yp K a) l
def Yi{X:Cx}{x1}{a:Expr}{Y:TA}(hg:Gl X "enumerate")(hm:X.mg "enumerate" = none)(ha:PA X [a] Y)(hs:starEach [a] X.env=[Sc]:=by rfl):PI X (.Tuple elts x1 U) (.Call (.Name "enumerate" p) [a] [] pos) (yP X.K Y):=by
 intro pins s σ H R I h;refine Call_ (Fi I hg hm boot_enumerate (ax (Ay TD fun us s1 ⟨vs,H1,M,r1,q1⟩=>?_) hs rfl));obtain⟨t,e,⟨xs,hq⟩,q⟩:=q1;subst e;cases r1 with
 |cons r rr=>
  cases rr;cases r;obtain⟨its,rv,p',hz⟩:=M.tuple hq;refine ET.eI (p') fun h' Z hit hsz hk=>wpAny_pyIter_enum Z (⟨s1.heap.objs.size+1,[s1.heap.objs.size+1,s1.heap.objs.size],_,_,H1,rfl,(M.kept hk),Sx (b:=true) (k0:=0) t _ _ (show s1.heap.objs.size+1≠s1.heap.objs.size by lia),⟨⟨_,Z⟩,hit⟩,fun b hb=>?_,q⟩);have l:s1.heap.objs.size<=b:=by
   have T:=by simpa using hb
   rcases T with z|z
   .rw[z];exact Nat.le_succ _
   .rw[z];exact aG _
  exact M.Pr l (M.Ae.fresh l)
abbrev kJ{K:Fg}{a:AD}{xs:List V}{g:TG}{tb:TS}{D:Ends}{σ:St}{H:Hp}:=@wB true K a xs g tb D σ H
end L2
namespace TH
open PySem PySem.W PyProof.Rows PySem.SeqAt
section
variable{prog:F0b}{w:F0c}{A:F0d}{E:AAo}{s:SD}
def pV a:Builtin.«list.sort» ⟨[.ref a],[]⟩=Builtin.«list.sort» ⟨[.ref a],[(Str.ofString "reverse",.bool false)]⟩:=by
 rfl
def PQ{l:AD}{vs:AAn}{Q:List VL->SD->Prop}(Y:s.heap.IsTuple l vs.toArray) (h:Q vs {s with heap:=(s.heap.push (seqObj "list" #[] 0)).update s.heap.objs.size (Obj.mapSeq (· ++ vs.toArray))})(hsz:vs.length<=sizeLine):wpAny As A (collect (.ref l)) Q E s:=by
 obtain⟨o,U,Z,n,hd⟩:=id Y;unfold collect;refine Wb (wpAny_runValue (codeAny_builtin entry_proto_collect' ?_));refine Wb (wpAny_newList (aB ⟨Code.quiet_builtin _ (by decide +kernel),codeAny_builtin entry_list_iadd' ?_⟩));show wpAny _ _ (Builtin.List.listExtendWith Go (.ref l) Go) _ _ _;have I:(s.heap.push (seqObj "list" #[] 0)).get? l=some o:=aE _ U;refine Wb (wpAny_typeOf (T := "tuple") ⟨o,I,Z⟩ ?_);have M:(Value.type "tuple" == Value.type "tuple")=true:=by rfl
 rw[if_pos (by rw[M];simp)];refine Wb (listItems_at I hd ?_);refine Wb (listItems_at (xs:=#[]) (n:=0) (aN _ rfl) rfl ?_);rw[if_neg By];refine Wb (listUpdate_at (xs:=#[]) (n:=0) (aN _ rfl) rfl ?_ (az _) (by simp;lia));refine aB ?_;refine Wb (wpAny_load (get?_update_seq (aN _ rfl) _) ?_);show wpAny _ _ (pure ((#[]:Array VL)++vs.toArray).toList) Q E _;rw[show((#[]:Array VL)++vs.toArray).toList=vs by simp];exact aB h
def wQ(I:s.heap.IsList l vs.toArray\/s.heap.IsTuple l vs.toArray) (h:Q vs {s with heap:=(s.heap.push (seqObj "list" #[] 0)).update s.heap.objs.size (Obj.mapSeq (· ++ vs.toArray))})(hsz:vs.length<=sizeLine):wpAny As A (collect (.ref l)) Q E s:=I.elim (fun z=>collect_list z h hsz) fun z=>PQ z h hsz
end
end TH
namespace Tim
open PySem PyProof.Rows
section pure
end pure
section
section pure
end pure
section pure
end pure
end
end Tim
namespace GS
open PySem PySem.W PyProof.Rows PySem.SeqAt
abbrev Ext(h0 h:Heap):Prop:=∀c o,h0.get? c=some o->h.get? c=some o
def Sy(O:KeyOrd)(prog:F0b)(w:F0c)(κ:SortKind)(A:F0d)(s:SD)(ks:List O.α)(us:AAn):Prop :=
 ∀E (i j:Nat) x y u v Q,us[i]? = some u->us[j]? = some v->ks[i]? = some x->ks[j]? = some y->Q (O.blt x y) s->wpAny As A (keyLt' κ u v) Q E s
structure Uu(O:KeyOrd)(prog:Program)(w:World)(h0:Heap)(r:Nat)(ks:List O.α)(us:List Value):Prop where
 len:us.length=ks.length
 go:∃ok:SortKind->Prop,(∀(A:Around) (E:Value->Shared->Prop) (s:Shared) (Q:SortKind->Shared->Prop),Ext h0 s.heap->(∀κ,ok κ->Q κ s)->wpAny As A (keyKind' us.toArray) Q E s) /\
  ∀(A:Around) (s:Shared) (κ:SortKind),Ext h0 s.heap->A.units+r<cLine->ok κ->Sy O prog w κ A s ks us
def Runs(O:KeyOrd)(prog:F0b)(w:F0c)(ks:List O.α):Prop :=
 ∀d A E s κ l,l.length=ks.length->2<=l.length->Sy O prog w κ A s ks l ->
  wpAny As A (sortRuns'.run (SortSt.mk' κ (l.toArray.zip l.toArray) #[] 7 none)) (fun r s'=>s'=s/\failedOf r.2=none/\∃I:List Nat,I.Perm (List.range l.length) /\
   (arrOf r.2).map (·.2)=(I.map fun i=>l.getD i Value.none).toArray/\(I.map fun i=>ks.getD i d).Pairwise O.kle) E s
def He(h64:ks.length<64):Runs O prog w ks:=by
 intro d A E s κ I hl h2 ask;refine kat_run (Q:=fun l s'=>s'=s/\failedOf l=none/\∃U:List Nat,U.Perm _/\(arrOf l).map _=(U.map fun i=>I.getD i Value.none).toArray/\(U.map fun i=>ks.getD i d).Pairwise O.kle)
   rfl h2 (show I.length<64 by lia) (fun p l s' hp har hf hG=>?_)
  (TH.Vo (lt:=SM.Gj fun i=>ks.getD i d) (fun i j C hi M T=>?_) _ (SM.sort AS))
 .obtain⟨rfl,Z,Y⟩:=hG;have h1:=by simpa using Array.perm_iff_toList_perm.mp Z.perm
  refine⟨rfl,hf,p.toList,h1,kat_snds rfl har,List.pairwise_iff_getElem.mpr fun i j hi M hij=>?_⟩;rw[Pi,(Wg),hp]at hi M;have e1:∀k,k<I.length->∀hk,(p.toList.map fun i=>ks.getD i d)[k]' hk=ks.getD (p.getD k 0) d:=fun k hk hk'=>by
   rw[List.getElem_map,Array.getD,dif_pos AS]
   rfl
  rw[e1 i hi,e1 j M];exact(Y i j AS M)
 .have gi:∀k,k<I.length->∃u x,I[k]? = some u/\ks[k]? = some x/\I.getD k Value.none=u/\ks.getD k d=x:=fun k hk=>by
   grind
  obtain⟨u,x,q1,q2,q3,q4⟩:=gi i hi;obtain⟨v,y,r1,r2,r3,r4⟩:=gi j M;unfold kas_ask;rw[q3,r3];refine ask _ i j x y u v C q1 r1 q2 r2 ?_;have T:C (O.blt (ks.getD i d) (ks.getD j d)) s:=T;rw[q4,r4]at T;exact T
section
variable{O:KeyOrd}{prog:F0b}{w:F0c}{A:F0d}{E:AAo}{s:SD}{h0:Heap}{r:Nat}{ks:List O.α}{us:AAn}
def Sy.rev(U:us.length=ks.length)(a:Sy O prog w κ A s ks us):Sy O prog w κ A s ks.reverse us.reverse:=fun E i j x y u v Q T M I l q=>by
 have b1:=(aF.mp T).1;have b2:=(aF.mp M).1;rw[(Wz)]at b1 b2;rw[List.getElem?_reverse AS]at T M I l;rw[<-U]at I l;exact a E _ _ x y u v Q T M I l q
def ly{α:Type}{R}:∀ {l:List α},l.length<2->l.Pairwise R
 |[],_=>.nil
 |[_],_=>by grind
 |_::_::_,h=>by grind
def OA(d : O.α){a : AD}{n : Nat}{b : Bool}{P : PySem.Fin->SD->Prop}(C : Uu O prog w h0 r ks us)(hx : Ext h0 s.heap)(ha0 : h0.objs.size<=a)(ho : s.heap.get? a = some (seqObj "list" us.toArray n))(hsz : us.length<=1000)(hr : Runs O prog w (if b then ks.reverse else ks))(hu : A.units + r < cLine) (h : ∀ ix : ABA,ix.Perm (List.range us.length)->(ix.map fun i => ks.getD i d).Pairwise (fun x y => if b = true then O.kle y x else O.kle x y)->P (.done (.ret .none)) { s with heap:=sortedHeap s.heap a us (ix.map fun i => us.getD i Value.none).toArray }):wpAny As A (Builtin.«list.sort» ⟨[.ref a],[(Str.ofString "reverse",.bool b)]⟩) P E s:=by
  rw [list_sort_rev]
  have ha : a < s.heap.objs.size:=aH ho
  refine Wb (listItems_at ho rfl ?_)
  refine Wb (listUpdate_at ho rfl ?_ (by rw [(K9),sizeLine_eq]; lia) (az _))
  obtain ⟨e1,ho1⟩ : ∃ e1,(s.heap.update a (Obj.mapSeq fun _ => #[])).get? a = some (seqObj "list" #[] e1):=⟨_,get?_update_seq ho (fun _ => #[])⟩
  refine Wb (seqEpoch_at ho1 rfl ?_)
  refine Wb (wpAny_newTuple ?_ (by show us.length<=_; rw [sizeLine_eq]; lia))
  refine Wb (wpAny_newList ?_ (az _))
  refine aS ?_
  have ho6 : (((s.heap.update a (Obj.mapSeq fun _ => #[])).push (seqObj "tuple" us.toArray 0)).push (seqObj "list" #[] 0)).get? a = some (seqObj "list" #[] e1):=by
    rw [Heap.get?_push_ne _ _ _ (by rw [size_push',Heap.size_update]; exact aJ (Nat.lt_succ_of_lt ha)),Heap.get?_push_ne _ _ _ (by rw [Heap.size_update]; exact aJ ha)]
    exact ho1
  have keep : Ext h0 (((s.heap.update a (Obj.mapSeq fun _ => #[])).push (seqObj "tuple" us.toArray 0)).push (seqObj "list" #[] 0)):=fun c o hc => by
    have hlt : c < h0.objs.size:=aH hc
    have hne : c≠a:=fun z => Nat.not_lt.mpr ha0 (z ▸ hlt)
    refine aE _ (aE _ ?_)
    rw [Heap.get?_update_ne _ _ _ _ hne]
    exact hx c o hc
  show wpAny As A _ P E Ch
  dsimp only
  have step : ∀ T : Sem PySem.Fin,wpAny As A T P E Ch ->
      wpAny As A (if b = true then (do let _ <- rule "list.sort.reverse"; T) else T) P E Ch:=by
    intro T hT
    split
    . exact Wb (aq hT)
    . exact hT
  refine step _ ?_
  obtain ⟨ok,hkind,hask⟩:=C.go
  have hl:=C.len
  by_cases h2 : us.toArray.size < 2
  . rw [if_pos h2,if_pos h2]
    refine Wb ar
    rw [StateT.run_pure]
    refine Wb ar
    dsimp only
    have hz : us.length < 2:=by simpa using h2
    have hout:=TH.eS b us hz
    refine Wb (seqEpoch_at ho6 rfl ?_)
    refine Wb (listUpdate_at ho6 rfl ?_ (az _) (by
      refine aQ (Nat.le_of_eq (ae Array.size hout)) ?_
      rw [(K9),sizeLine_eq]; lia))
    simp only [bne_self_eq_false,Bool.false_eq_true,if_false]
    have fin:=h (List.range us.length) (.refl _) (ly (by simpa using hz))
    rw [TH.map_getD] at fin
    rw [<- hout] at fin
    exact aB fin
  . rw [if_neg h2,if_neg h2]
    have hz : 2<=us.length:=by simpa using h2
    refine Wb (hkind A E Ch _ keep fun κ hκ => ?_)
    have ask:=hask A Ch κ keep hu hκ
    obtain ⟨ws,kw,aw,hwl,hwk,hws,hrw,pick⟩ : ∃ (ws : List VL) (kw : List O.α),Sy O prog w κ A { s with heap:=((s.heap.update a (Obj.mapSeq fun _ => #[])).push (seqObj "tuple" us.toArray 0)).push (seqObj "list" #[] 0) } kw ws/\ws.length = us.length/\ws.length = kw.length /\
        (if b = true then (us.toArray.zip us.toArray).reverse else us.toArray.zip us.toArray) = ws.toArray.zip ws.toArray/\Runs O prog w kw /\
        ∀ ix : List Nat,ix.Perm (List.range ws.length)->(ix.map fun i => kw.getD i d).Pairwise O.kle->∃ iy : List Nat,iy.Perm (List.range us.length)/\(iy.map fun i => ks.getD i d).Pairwise (fun x y => if b = true then O.kle y x else O.kle x y) /\
          (if b = true then ((ix.map fun i => ws.getD i Value.none).toArray).reverse else (ix.map fun i => ws.getD i Value.none).toArray) = (iy.map fun i => us.getD i Value.none).toArray:=by
      cases b with
      | false => exact ⟨us,ks,ask,rfl,hl,rfl,hr,fun ix h1 h2 => ⟨ix,h1,by simpa using h2,rfl⟩⟩
      | true=>
        refine ⟨us.reverse,ks.reverse,ask.rev hl,by simp,by simp [hl],kat_pairs (ks:=us) (vs:=us) true rfl,hr,fun ix h1 h2 => ⟨(ix.map fun i => us.length - 1 - i).reverse,?_,?_,?_⟩⟩
        . rw [(Wz)] at h1
          refine (List.reverse_perm _).trans ((h1.map fun i => us.length - 1 - i).trans ?_)
          have : (List.range us.length).map (fun i => us.length - 1 - i) = (List.range us.length).reverse:=by
            refine List.ext_getElem By fun i a1 a2 => ?_
            simp
          rw [this]
          exact List.reverse_perm _
        . have hb : ∀ i∈ix,i < us.length:=fun i hi => by simpa using h1.mem_iff.mp hi
          have e : ((ix.map fun i => us.length - 1 - i).reverse.map fun i => ks.getD i d) = (ix.map fun i => ks.reverse.getD i d).reverse:=by
            rw [List.map_reverse,(Bb)]
            congr 1
            exact ai fun i hi => by
              have:=hb i hi
              show ks.getD (us.length - 1 - i) d = _
              rw [(L5),(L5),List.getElem?_reverse AS,hl]
          rw [e,List.pairwise_reverse]
          simpa using h2
        . have hb : ∀ i∈ix,i < us.length:=fun i hi => by simpa using h1.mem_iff.mp hi
          rw [if_pos rfl,List.map_reverse,(Bb),List.reverse_toArray]
          congr 2
          exact ai fun i hi => by
            have:=hb i hi
            show us.reverse.getD i Value.none = us.getD (us.length - 1 - i) Value.none
            rw [(L5),(L5),List.getElem?_reverse AS]
    rw [hws]
    refine Wb (aU (hrw d A E Ch κ ws hwk AS aw) ?_ fun _ _ z => z)
    rintro ⟨⟨⟩,st'⟩ s' ⟨rfl,hf,ix,hix,hout,hst⟩
    dsimp only
    refine Wb (seqEpoch_at ho6 rfl ?_)
    obtain ⟨iy,y1,y2,hfin⟩ : ∃ iy : List Nat,iy.Perm (List.range us.length)/\(iy.map fun i => ks.getD i d).Pairwise (fun x y => if b = true then O.kle y x else O.kle x y) /\
        (if b = true then ((arrOf st').map (·.2)).reverse else (arrOf st').map (·.2)) = (iy.map fun i => us.getD i Value.none).toArray:=by
      rw [show (arrOf st').map (·.2) = _ from hout]
      exact pick ix hix hst
    refine Wb (listUpdate_at ho6 rfl ?_ (az _) (by
      refine aQ (Nat.le_of_eq (ae Array.size hfin)) ?_
      have:=y1.length_eq
      rw [List.length_range] at this
      rw [(K9),Pi,this,sizeLine_eq]; lia))
    rw [show failedOf st' = none from hf]
    simp only [bne_self_eq_false,Bool.false_eq_true,if_false]
    have fin:=h iy y1 y2
    rw [<- hfin] at fin
    exact aB fin
def IK(prog:F0b)(w:F0c)(A:F0d)(E:AAo)(s:SD)(v:VL)(us:AAn):Prop :=
 ∀Q ,(∀l tk,Ext s.heap l->s.heap.objs.size<=l.objs.size->Q us {s with heap:=l,toks:=tk})->wpAny As A (collect v) Q E s
def NU(M:s.heap.IsList l us.toArray)(hz:us.length<=1000):IK prog w A E s (.ref l) us:=fun Q h=>by
 refine collect_list M (h _ _ (fun c o q=>?_) ?_) (by rw[sizeLine_eq];lia)
 .have I:=aH q;rw[Heap.get?_update_ne _ _ _ _ (aJ I),Heap.get?_push_ne _ _ _ (aJ I)]
  lia
 simp
def PZ(M:s.heap.IsTuple l us.toArray)(hz:us.length<=1000):IK prog w A E s (.ref l) us:=fun Q h=>by
 refine TH.PQ M (h _ _ (fun c o q=>?_) ?_) (by rw[sizeLine_eq];lia)
 .have I:=aH q;rw[Heap.get?_update_ne _ _ _ _ (aJ I),Heap.get?_push_ne _ _ _ (aJ I)]
  lia
 simp
def O0 d {b:Bool} {Q:AAo} {T:Sem PySem.Fin} (C:Uu O prog w s.heap r ks us) (hsz:us.length<=1000) (hr:Runs O prog w (if b then ks.reverse else ks)) (I:Ext s.heap l) (Z:s.heap.objs.size<=l.objs.size) (h:∀h' D tk (ix:ABA) U,s.heap.objs.size<=D->Ext s.heap h'->h'.get? D=some (seqObj "list" (ix.map fun i=>us.getD i Value.none).toArray U)->ix.Perm (List.range us.length)->(ix.map fun i=>ks.getD i d).Pairwise (fun x y=>if b=true then O.kle y x else O.kle x y)->Q (.ref D) Ix):(l.push (seqObj "list" us.toArray 0)).get? l.objs.size=some (seqObj "list" us.toArray 0)/\Ext s.heap (l.push (seqObj "list" us.toArray 0)) /\∀ix:ABA,ix.Perm (List.range us.length)->(ix.map fun i=>ks.getD i d).Pairwise (fun x y=>if b=true then O.kle y x else O.kle x y)->Q (.ref l.objs.size) {s with heap:=sortedHeap (l.push (seqObj "list" us.toArray 0)) l.objs.size us (ix.map fun i=>us.getD i Value.none).toArray,toks:=tk}:=by
 have Y:(l.push _).get? l.objs.size=some (seqObj "list" us.toArray 0):=aN _ rfl;refine⟨Y,fun b u e=>aE _ (I b u e),fun ix p1 p2=>?_⟩;obtain⟨U,M⟩:=sortedHeap_at Y;refine h _ l.objs.size tk ix U Z (fun b u e=>?_) M p1 p2;have lb:=aH (I b u e);rw[sortedHeap_old (aJ lb) (by rw[(LA)];lia)];exact aE _ (I b u e)
def Wq(d:O.α){v:VL}(G:IK prog w A.in1 E s v us)(C:Uu O prog w s.heap r ks us)(hsz:us.length<=1000)(M:Runs O prog w ks)(hu:A.units+2+r<cLine) (h:∀(h':Heap) (D tk:Nat) (ix:ABA) (l:Nat),s.heap.objs.size<=D->Ext s.heap h'->h'.get? D=some (seqObj "list" (ix.map fun i=>us.getD i Value.none).toArray l)->ix.Perm (List.range us.length)->(ix.map fun i=>ks.getD i d).Pairwise O.kle->Q (.ref D) Ix):wpAny As A (call (.builtin "sorted") [v]) Q E s:=by
 refine Calls.call_function_entry kind_sorted plain_sorted entry_sorted (args_sorted1 _) ?_;refine Wb ar;refine Wb (G _ fun h1 tk Z I=>?_);refine Wb (wpAny_newList ?_ (by rw[sizeLine_eq];lia));obtain⟨U,Y,fin⟩:=O0 (T:=pure (.done (.ret .none))) (tk:=tk) (b:=false) d C hsz (by simpa using M) Z I (fun h' D tk ix l a1 a2 a3 a4 a5=>h h' D tk ix l a1 a2 a3 a4 (by simpa using a5));refine Wb (aS (aT slot_list_sort ⟨_,U,rfl⟩ entry_list_sort ?_ (args_list_sort _)));refine OA d C Y I U hsz (by simpa using M) AS fun ix p1 p2=>⟨_,rfl,?_⟩;exact aB ⟨_,rfl,fin ix p1 p2⟩
def Wr(d:O.α){v:VL}{b:Bool}{Q:AAo}(G:IK prog w A.in1 E s v us)(C:Uu O prog w s.heap r ks us)(hsz:us.length<=1000)(I:Runs O prog w (if b then ks.reverse else ks))(hu:A.units+2+r<cLine) (h:∀(h':Heap) (D tk:Nat) (ix:ABA) (e1:Nat),s.heap.objs.size<=D->Ext s.heap h'->h'.get? D=some (seqObj "list" (ix.map fun i=>us.getD i Value.none).toArray e1)->ix.Perm (List.range us.length)->(ix.map fun i=>ks.getD i d).Pairwise (fun x y=>if b=true then O.kle y x else O.kle x y)->Q (.ref D) Ix):wpAny As A (call (.builtin "sorted") [v] [(Str.ofString "reverse",.bool b)]) Q E s:=by
 refine call_function_entry_kw kind_sorted plain_sorted entry_sorted (args_sorted_rev _ _) ?_;unfold Builtin.«sorted»;refine Wb (m:=checkCount "sorted" 1 1 _) ar;refine Wb (G _ fun h1 tk Y l=>?_);refine Wb (wpAny_newList ?_ (by rw[sizeLine_eq];lia));obtain⟨M,U,fin⟩:=O0 (T:=pure (.done (.ret .none))) (tk:=tk) (b:=b) d C hsz I Y l h;refine Wb (aS (wpAny_call_entry_kw slot_list_sort ⟨_,M,rfl⟩ entry_list_sort ?_ (args_list_sort_rev _ _)));refine OA d C U l M hsz I AS fun ix p1 Z=>⟨_,rfl,?_⟩;exact aB ⟨_,rfl,fin ix p1 Z⟩
end
end GS
namespace TH
open PySem PySem.W PyProof.Rows PySem.SeqAt
section
variable{prog:F0b}{w:F0c}{A:F0d}{E:AAo}{s:SD}
def XS(e:Vs h0 t us):GS.Uu Tr.ord prog w h0 t.deep t.bs us:=by
 refine⟨(e.length.trans (Tr.Ig t).symm),V0,fun A E s Q x k=>oQ (e.keeps fun b o q _=>x b o q) k,fun A s κ x hu I E i j y z u v Q M Z U Y q=>?_⟩;have get:∀ {i:Nat} {u:VL} {y:Tr},us[i]? = some u->t.bs[i]? = some y->∃(a:AD) (l:List VL),u=.ref a/\s.heap.IsTuple a l.toArray/\Vs s.heap y l/\y.deep<t.deep:=fun {i u y} M U=>by
  obtain⟨a,l,c,q1,q2,q3,q4,q5⟩:=(e.keeps fun b o q _=>x b o q).at ((aF.mp M).1)
  grind
 obtain⟨a,l,rfl,a2,a3,a4⟩:=get M U;obtain⟨b,T,rfl,b2,b3,b4⟩:=get Z Y;exact p9 I a2 a3 b2 b3 AS q
def cP{t:Tr}(l:n=t.bs.length){ix:ABA}(p:ix.Perm (List.range n)):ix.length=n/\(∀i∈ix,i<n)/\(ix.map fun i=>t.bs.getD i .nil).Perm t.bs:=by
 refine⟨by rw[p.length_eq,List.length_range],fun i hi=>by grind,?_⟩;have:=p.map fun i=>t.bs.getD i Tr.nil;rw[l,map_getD]at this
 lia
def VB{h0:Heap}{a:AD}{t:Tr}{n:Nat}(Y:∀c o,h0.get? c=some o->s.heap.get? c=some o)(ha:h0.objs.size<=a)(ho:s.heap.get? a=some (seqObj "list" us.toArray n))(e:Vs h0 t us)(h64:us.length<64)(Z:A.units+t.deep<cLine) (h:∀ix:ABA,ix.length=us.length->(∀i∈ix,i<us.length)->(ix.map fun i=>t.bs.getD i .nil)=(Tr.GV t.bs).reverse->P (.done (.ret .none)) {s with heap:=sortedHeap s.heap a us (ix.map fun i=>us.getD i Value.none).toArray}):wpAny As A (Builtin.«list.sort» ⟨[.ref a],[]⟩) P E s:=by
 have hl:=e.length.trans (Tr.Ig t).symm;refine GS.OA Tr.nil (XS e) Y ha ho AS (GS.He (by show t.bs.length<64;lia)) Z fun ix U T=>?_;obtain⟨M,I,l⟩:=cP hl U;exact h ix M I (Tr.Rt (List.Pairwise.imp (fun {x y} z=>by first|exact z|(exact z)) T) l)
def Pa(G:GS.IK prog w A.in1 E s v us)(e:Vs s.heap t us)(h64:us.length<64)(Z:A.units+2+t.deep<cLine) (h:∀h' D tk (ix:ABA) l,ix.length=us.length->(∀i∈ix,i<us.length)->(ix.map fun i=>t.bs.getD i .nil)=(Tr.GV t.bs).reverse->s.heap.objs.size<=D->(∀c o,s.heap.get? c=some o->h'.get? c=some o) ->h'.get? D=some (seqObj "list" (ix.map fun i=>us.getD i Value.none).toArray l)->Q (.ref D) Ix):wpAny As A (call (.builtin "sorted") [v]) Q E s:=by
 have hl:=e.length.trans (Tr.Ig t).symm;refine GS.Wq Tr.nil G (XS e) AS (GS.He (by show t.bs.length<64;lia)) Z fun h' D tk ix l a1 a2 a3 Y U=>?_;obtain⟨T,M,I⟩:=cP hl Y;exact h h' D tk ix l T M (Tr.Rt (List.Pairwise.imp (fun {x y} z=>by first|exact z|rfl) U) I) a1 a2 a3
def N0(G:GS.IK prog w A.in1 E s v us)(e:Vs s.heap t us)(h64:us.length<64)(Z:A.units+2+t.deep<cLine) (h:∀h' D tk (ix:ABA) l,ix.length=us.length->(∀i∈ix,i<us.length)->(ix.map fun i=>t.bs.getD i .nil)=Tr.GV t.bs->s.heap.objs.size<=D->(∀c o,s.heap.get? c=some o->h'.get? c=some o) ->h'.get? D=some (seqObj "list" (ix.map fun i=>us.getD i Value.none).toArray l)->Q (.ref D) Ix):wpAny As A (call (.builtin "sorted") [v] [(Str.ofString "reverse",.bool true)]) Q E s:=by
 have hl:=e.length.trans (Tr.Ig t).symm;refine GS.Wr Tr.nil G (XS e) AS (GS.He (by show t.bs.reverse.length<64;grind)) Z fun h' D tk ix l a1 a2 a3 Y U=>?_;obtain⟨T,M,I⟩:=cP hl Y;exact h h' D tk ix l T M (Tr.gy (List.Pairwise.imp (fun {x y} z=>z) U) I) a1 a2 a3
end
end TH
namespace L2
open PySem PySem.Spec PyProof.Rows
theorem Vals.pick(r:Vals xs us):∀ix:List Nat,(∀i∈ix,i<xs.length)->Vals (ix.map fun i=>xs.getD i .BV) (ix.map fun i=>us.getD i Value.none)
 |[],_=>.nil
 |i::ix,h=>by
  refine .cons ?_ (Vals.pick r ix fun k hk=>by grind);have hi:=h i aR;obtain⟨u,I,l⟩:=r.get (i:=i) (x:=xs[i]) By
  grind
section
variable{X:Cx}
def xZ(K:Fg):List V->Hp->VK->Prop:=fun xs H Q=>∃(p:AD) (ys:List V) (t:Tr),xs=[.ref p]/\(Am K H p ys\/A4 K H p ys)/\Ts H t ys/\ys.length<64/\t.deep<=60 /\
 ∀l I,H l=none->Ts H (Tr.of (Tr.GV t.bs).reverse) I->Q (.ref l) (upd H l (.lst I))
def il(K:Fg):List V->Hp->VK->Prop:=fun xs H Q=>∃(p:AD) (ys:List V) (t:Tr),xs=[.ref p]/\(Am K H p ys\/A4 K H p ys)/\Ts H t ys/\ys.length<64/\t.deep<=60 /\
 ∀l I,H l=none->Ts H (Tr.of (Tr.GV t.bs)) I->Q (.ref l) (upd H l (.lst I))
def MR{σ:St}{ix:ABA}(I:BE)(ht:Ts H t ys)(Y:Vals ys M)(U:ys.length<64) (a1:ix.length=M.length)(a2:∀i∈ix,i<M.length)(a3:(ix.map fun i=>t.bs.getD i .nil)=ts)(Z:s.heap.objs.size<=D)(keep:∀c o,s.heap.get? c=some o->h'.get? c=some o) (hD:h'.get? D=some (seqObj "list" (ix.map fun i=>M.getD i Value.none).toArray e1))(q:∀l zs,H l=none->Ts H (Tr.of ts) zs->Q (.ref l) (upd H l (.lst zs))):EP X pins σ Q (.ref D) Ix:=by
 have hl:=Y.length;have T:∀i∈ix,i<ys.length:=fun i hi=>by grind
 refine⟨.ref D,upd H D (.lst _),I.laid keep Z ⟨?_,_,e1,Y.pick ix T,hD⟩,rfl,q _ _ (I.Ae.fresh Z) ?_⟩
 .rw[Pi,a1,<-hl];exact ay (aD U AC)
 .rw[<-a3];exact ht.pick ix T
def fm(hu:IR):C6 X (.builtin "sorted") (xZ X.K):=by
 rintro pins s σ H xs us Q I r ⟨p,ys,t,rfl,M,U,T,hd,q⟩;obtain⟨u,rfl,r1⟩:=r.one;cases r1;rcases M with M|M
 .obtain⟨its,l,Y,hz⟩:=I.list M;have hl:=l.length;exact TH.Pa (GS.NU Y.isList AS) (U.vs I l) AS AS fun h' D tk ix e1 a1 a2 a3 Z keep hD=>MR I U l T a1 a2 a3 Z keep hD q
 .obtain⟨its,l,Y,hz⟩:=I.tuple M;have hl:=l.length;exact TH.Pa (GS.PZ Y AS) (U.vs I l) AS AS fun h' D tk ix e1 a1 a2 a3 Z keep hD=>MR I U l T a1 a2 a3 Z keep hD q
def jX{p pos kp kp2}{j}(hu:IR)(hg:Gl X "sorted")(hm:X.mg "sorted" = none)(ha:PA X [e] t) (he:backTo pos (starEach [e] X.env)=EQ::backTo pos (starEach [] X.env):=by rfl)(l:(backTo pos (starEach [e] X.env)).any Hq=false:=by rfl):PE X (.Call (.Name "sorted" p) [e] [⟨some "reverse",.Constant KK j kp2,kp⟩] pos) (fun σ H Q=>t σ H fun vs H1=>il X.K vs H1 Q):=by
 intro pins s σ H Q I h;refine bF (Fi I hg hm boot_sorted (callWith_kw (Ay TD fun us s1 ⟨vs,H1,T,r1,q1⟩=>kws_cons (Constant_bool (kws_nil ?_))) he l) AC AC);obtain⟨p,ys,t,rfl,U,Z,Y,hd,q⟩:=q1;obtain⟨u,rfl,r2⟩:=r1.one;cases r2;rcases U with U|U
 .obtain⟨its,M,pl,hz⟩:=T.list U;have hl:=M.length;exact TH.N0 (GS.NU pl.isList AS) (Z.vs T M) AS AS fun h' D tk ix e1 a1 a2 a3 lD keep hD=>MR T Z M Y a1 a2 a3 lD keep hD q
 .obtain⟨its,M,pl,hz⟩:=T.tuple U;have hl:=M.length;exact TH.N0 (GS.PZ pl AS) (Z.vs T M) AS AS fun h' D tk ix e1 a1 a2 a3 lD keep hD=>MR T Z M Y a1 a2 a3 lD keep hD q
def vX{e k:Expr}{te tk:TE}(he:PE X e te)(hk:PE X k tk):PE X (.Subscript e (.Slice none none (some k) p2) pos) (fun σ H Q=>te σ H fun x Z=>tk σ Z fun z Y=>∃(a:AD) (xs:ABC),x=.ref a/\z=.int (-1)/\Am X.K Y a xs/\∀p,Y p=none->Q (.ref p) (upd Y p (.lst xs.reverse))):=by
 intro pins s σ H Q I h;refine Subscript_ (Ay (he pins s σ H _ I h) fun v s1 ⟨x,Z,I1,r1,q1⟩=>?_);refine wpAny_Slice ?_;refine aB ?_;refine aB ?_;refine Ay (hk pins s1 σ Z _ I1 q1) fun vk M ⟨z,H3,I3,r3,q3⟩=>?_;obtain⟨a,xs,rfl,rfl,hq,q⟩:=q3;cases r1;obtain⟨l,rfl⟩:=r3;have U:Inv X pins σ H3 {M with heap:=M.heap.push { cls:=.type "slice",data:=.fields #[.none,.none,.int (-1) l]} }:=I3.kept (t':=M.toks) fun b ob q=>aE _ q;obtain⟨T,rv,pl,hz⟩:=U.list hq;have hlen:=rv.length;refine tail_any pl.isList.typeIs slot_list_getitem.lookup ?_ (by with_unfolding_all rfl);refine wpAny_getItem_list_slice pl.isList (Heap.IsSliceOf.new ..) .none .none (.int (-1) l) AC ?_ (by rw[(K9)]<;>lia);rw[PySem.W.krv_pick];refine⟨.ref _,_,U.laid (fun b ob q=>aE _ q) M0 ?_,rfl,q _ (U.Ae.fresh M0)⟩;exact⟨by rw[(Wz)];exact hz,T.reverse,0,rv.reverse,Heap.get?_push_size _ rfl⟩
end
def CW(Pv:Nat->List V->Hp->Prop)(n:Nat)(D:AD):Nat->Nat->List V->Hp->Prop:=fun i m ys H=>m=n-i/\i<=n/\H D=some KB/\Pv i ys H
def G7(hi:i<n)(p:Pv SB (ys++[y]) (upd H D (.lst (ys++[y])))):∃l,l<n-i/\CW Pv n D SB l (ys++[y]) (upd H D (.lst (ys++[y]))) :=
 ⟨n-_,by lia,rfl,hi,AR,p⟩
def ou(hi:i<n)(I:H D=some KB)(p:Pv SB ys H):∃l,l<n-i/\CW Pv n D SB l ys H:=⟨n-_,by lia,rfl,hi,I,p⟩
def Pu{J:It}{G:Hp->Prop} Pv (h0:Pv 0 [] (upd Y D OF)) (U:∀i ys H,i<n->Pv i ys H->H D=some KB->J.go i H/\ys.length<sizeLine/\∀x H',J.E6 i H x H'->Md g tif T (carry fr σ) D x ys H' fun zs M=>∃l,l<n-i/\CW Pv n D SB l zs M) (I:∀ys H,Pv n ys H->H D=some KB->J.stop n H/\G H):∃W:Nat->Nat->List V->Hp->Prop,(∃m,W 0 m [] (upd Y D OF)) /\∀i m ys H,W i m ys H->H D=some KB/\((J.stop i H/\G H)\/(J.go i H/\ys.length<sizeLine/\∀x H',J.E6 i H x H'->Md g tif T (carry fr σ) D x ys H' fun zs M=>∃l,l<m/\W SB l zs M)):=by
 refine⟨CW Pv n D,⟨n,by simp,Nat.zero_le _,AR,h0⟩,?_⟩;rintro i m ys H ⟨rfl,hi,Z,p⟩
 grind
def Jb{J:It}{G:Hp->Prop} Pv (h0:Pv 0 [] (upd Z D OF)) (T:∀i ys H,i<n->Pv i ys H->H D=some KB->J.go i H/\ys.length<sizeLine/\∀x H',J.E6 i H x H' ->tif ((carry fr σ).set ix (some x)) H' fun b M=>if b=true then Y ((carry fr σ).set ix (some x)) M fun y U=>U D=some KB/\∃l,l<n-i/\CW Pv n D SB l (ys++[y]) (upd U D (.lst (ys++[y]))) else ∃l,l<n-i/\CW Pv n D SB l ys M) (I:∀ys H,Pv n ys H->H D=some KB->J.stop n H/\G H):∃W:Nat->Nat->List V->Hp->Prop,(∃m,W 0 m [] (upd Z D OF)) /\∀i m ys H,W i m ys H->H D=some KB/\((J.stop i H/\G H)\/(J.go i H/\ys.length<sizeLine/\∀x H',J.E6 i H x H'->Md (Ct ix) tif Y (carry fr σ) D x ys H' fun zs M=>∃l,l<m/\W SB l zs M)):=Pu Pv h0 T I
section
variable{X:Cx}
def Wd(hc:Rs):C6 X (.builtin "sum") (fun xs H Q=>∃(p:AD) (ns:AAx),xs=[.ref p]/\Am X.K H p (ns.map V.int)/\Q (.int ns.sum) H):=by
 rintro pins s σ H xs us Q I r ⟨p,ns,rfl,hq,q⟩;obtain⟨u,rfl,U⟩:=r.one;cases U;obtain⟨Z,T,Y,hz⟩:=I.list hq;have hi:=intsAre_of T;obtain⟨xs,l⟩:=hi.allInts.items;refine sum_intListG (I.ok.hd hc) (l ▸ Y.isList) fun h' tk M hk=>?_;rw[(show preSum _ xs.size=ns.sum by
  rw[preSum_eq,List.take_of_length_le By,(show ns=xs.toList.map _ by
  rw[<-nums_intItems,<-l];exact hi.numsOf.symm)])]
 exact⟨.int _,H,I.kept hk,⟨M,rfl⟩,q⟩
end
section
variable{X:Cx}{scope:Scope}{cl:List (Str×AD)}{N:AAy}{C:AD}{s₀:SD}{H₀:Hp}{fp:ABF}
def Sn:PL Ev (ju X.K):=KI
end
mutual
def Dt(l:AD)(H:Hp):PD->V->Prop
 |.none,v=>v=.BV
 |.bool b,v=>v=.bl b
 |.int i,v=>v=.int i
 |.str x,v=>v=.str x
 |.tuple ds,v=>∃(a:AD) (xs:List V),v=.ref a/\a≠l/\H a=some Jl/\Bz l H ds xs
 |.list ds,v=>∃(a:AD) (xs:List V),v=.ref a/\a≠l/\H a=some Tl/\Bz l H ds xs
 |.dict _,_=>False
def Bz(l:AD)(H:Hp):List PD->List V->Prop
 |[],xs=>xs=[]
 |d::ds,xs=>∃x r,xs=x::r/\Dt l H d x/\Bz l H ds r
end
mutual
theorem Dt.but{l:AD}{H H':Hp}(e:SameBut l H H'):∀ {d:PD} {v:V},Dt l H d v->Dt l H' d v
 |.none,_,h=>by rw[Dt]at h ⊢;exact h
 |.bool _,_,h=>by rw[Dt]at h ⊢;exact h
 |.int _,_,h=>by rw[Dt]at h ⊢;exact h
 |.str _,_,h=>by rw[Dt]at h ⊢;exact h
 |.tuple _,_,h=>by
  rw[Dt]at h ⊢;obtain⟨a,xs,T,n,M,I⟩:=h;exact⟨a,xs,T,n,e _ _ n M,Bz.but e I⟩
 |.list _,_,h=>by
  rw[Dt]at h ⊢;obtain⟨a,xs,T,n,M,I⟩:=h;exact⟨a,xs,T,n,e _ _ n M,Bz.but e I⟩
 |.dict _,_,h=>by rw[Dt]at h;exact h.elim
theorem Bz.but{l:AD}{H H':Hp}(e:SameBut l H H'):∀ {ds:List PD} {xs:List V},Bz l H ds xs->Bz l H' ds xs
 |[],_,h=>by rw[Bz]at h ⊢;exact h
 |_::_,_,h=>by
  rw[Bz]at h ⊢;obtain⟨x,r,T,M,I⟩:=h;exact⟨x,r,T,Dt.but e M,Bz.but e I⟩
end
def Bz.same(h:Bz l H d v)(e:AI H H'):Bz l H' d v:=Bz.but (.of e) h
theorem Bz.len:∀ {ds} {xs},Bz l H ds xs->xs.length=ds.length
 |[],_,h=>by rw[h];rfl
 |_::_,_,h=>by
  obtain⟨x,r,rfl,_,I⟩:=h;rw[(Gm),(Gm),Bz.len I]
def Bz.get:∀ {ds} {xs} {i:Nat} {v},Bz l H ds xs->xs[i]? = some v->∃d,ds[i]? = some d/\Dt l H d v
 |[],_,i,v,h,e=>by subst h;grind
 |d::ds,_,i,v,h,e=>by
  obtain⟨x,r,rfl,U,I⟩:=h;cases i with
  |zero=>grind
  |succ i=>
   obtain⟨c,T,M⟩:=I.get (by simpa using e)
   grind
def Bz.nil:Bz l H [] []:=by rfl
def Bz.cons(h:Dt l H d x)(k:Bz l H ds xs):Bz l H (d::ds) (x::xs):=⟨x,xs,rfl,h,k⟩
def Dt.int:Dt l H (.int i) (.int i):=by rfl
def Dt.bool:Dt l H (.bool b) (.bl b):=by rfl
def Dt.BV{l:AD}{H:Hp}:Dt l H .none .BV:=by rw[Dt]
def Dt.str:Dt l H (.str x) (.str x):=by rfl
def Dt.tup(n:a≠l)(h:H a=some Jl)(k:Bz l H ds xs):Dt l H (.tuple ds) KM:=by rw[Dt];grind
def Dt.lst(n:a≠l)(h:H a=some Tl)(k:Bz l H ds xs):Dt l H (.list ds) KM:=by rw[Dt];grind
def Ok(n:Nat)(d:PD):Prop:=d.canLay0=true/\d.depth<=n
def nk(n:Nat)(ds:AAl):Prop:=PyData.canLayAll0 ds=true/\PyData.depthAll ds<=n
def Ok.shaped(h:Ok n d)(hn:n<=64):SeqAt.shaped d=true:=by
 unfold SeqAt.shaped;rw[h.1];exact decide_eq_true (aQ h.2 hn)
def Ok.tup(h:nk n ds):Ok (n+1) (.tuple ds):=⟨h.1,Nat.succ_le_succ h.2⟩
def Ok.int:Ok n (.int i):=⟨by rfl,by simp[PyData.depth]⟩
def SX:PD->String
 |.none => "NoneType"
 |.bool _ => "bool"
 |.int _ => "int"
 |.str _ => "str"
 |.tuple _ => "tuple"
 |.list _ => "list"
 |.dict _ => "dict"
def DK:PD->Bool
 |.tuple _=>true
 |_=>false
def Cw:PD->Bool
 |.list _=>true
 |_=>false
def Im:PD->Bool
 |.int _=>true
 |.bool _=>true
 |_=>false
def Gw:PD->Bool
 |.bool _=>true
 |_=>false
def kP K:∀d ,(∀l,d≠.dict l)->PySem.W.kitOne K (.type (SX d)) LE=some (DK d)
 |.none,_=>rfl
 |.bool _,_=>rfl
 |.int _,_=>rfl
 |.str _,_=>rfl
 |.tuple _,_=>rfl
 |.list _,_=>rfl
 |.dict l,h=>rfl
def lg K:∀d ,(∀l,d≠.dict l)->PySem.W.kitOne K (.type (SX d)) (.type "list")=some (Cw d)
 |.none,_=>rfl
 |.bool _,_=>rfl
 |.int _,_=>rfl
 |.str _,_=>rfl
 |.tuple _,_=>rfl
 |.list _,_=>rfl
 |.dict l,h=>rfl
def ABH K:PySem.W.kitOne K (.type "NoneType") (.type "bool")=some false:=by rfl
def AA2 K:PySem.W.kitOne K (.type "str") (.type "bool")=some false:=by rfl
def AAp K:PySem.W.kitOne K LE (.type "bool")=some false:=by rfl
def AA4 K:PySem.W.kitOne K (.type "list") (.type "bool")=some false:=by rfl
def jH K:∀d ,(∀l,d≠.dict l)->PySem.W.kitOne K (.type (SX d)) (.type "int")=some (Im d)
 |.none,_=>rfl
 |.bool _,_=>rfl
 |.int _,_=>rfl
 |.str _,_=>rfl
 |.tuple _,_=>rfl
 |.list _,_=>rfl
 |.dict l,h=>rfl
def eP K:∀d ,(∀l,d≠.dict l)->PySem.W.kitOne K (.type (SX d)) (.type "bool")=some (Gw d)
 |.none,_=>rfl
 |.bool _,_=>rfl
 |.int _,_=>rfl
 |.str _,_=>rfl
 |.tuple _,_=>rfl
 |.list _,_=>rfl
 |.dict l,h=>rfl
end L2
namespace Tr
def V1{t c:Tr}(h:c∈t.bs):c.deep<t.deep:=by
 induction t with
 |nil=>cases h
 |cons b r _ l=>
  have hd:(cons b r).deep=max _ r.deep:=rfl;rcases aO.mp h with rfl|h
  .lia
  .lia
theorem N8:∀t:Tr,0<t.F6
 |.nil=>Nat.one_pos
 |.cons b r=>by rw[F6];have:=N8 b;lia
end Tr
namespace L2
open PySem PySem.Spec PyProof.Rows
mutual
def FO:PD->Option Tr
 |.tuple ds=>JY ds
 |_=>none
def JY:List PD->Option Tr
 |[]=>some .nil
 |d::ds=>(FO d).bind fun b=>(JY ds).map fun r=>.cons b r
end
section
variable{X:Cx}
def wg:R2:=fun x y H Q=>∃a b xs ys,x=.ref a/\y=.ref b/\H a=some Jl/\H b=some (.tup ys)/\xs.length+ys.length<=sizeLine/\∀p H',AI H H'->H' p=some (.tup (xs++ys))->Q (.ref p) H'
def qI:CN X (binaryOp .Add) wg:=by
 rintro pins s σ H x y v u Q I rx ry ⟨a,b,xs,ys,rfl,rfl,ha,hb,hz,q⟩;cases rx;cases ry;obtain⟨Y,U,p1,_⟩:=I.tuple (A4.of ha);obtain⟨its2,T,p2,_⟩:=I.tuple (A4.of hb);by_cases Z:Y=[]
 .have hx:=U.Oi.mp Z;subst Z hx;obtain⟨⟨cls,dd,data,sl⟩,ho,hc,n,hd⟩:=id p1;obtain⟨⟨cls2,dd2,data2,M⟩,l,hc2,n2,hd2⟩:=id p2;subst hc hd hc2 hd2;exact concat_meets ⟨_,ho,rfl⟩ ⟨_,l,rfl⟩ noFill_tuple_add seq_tuple_add PySem.F.slot_tuple_add PySem.F.entry_tuple_add (PySem.F.args_tuple_add_2 _ _)
   (tuple_addW0 a b _ _ n n2 dd dd2 sl M By) ⟨ho,l,⟨.ref b,H,I,rfl,q b H (.refl H) (by simpa using hb)⟩⟩
 .refine HT.qH p1 p2 Z (fun z=>?_) (fun z=>?_) (by rw[<-U.length,<-T.length];exact hz)
  .have hy:=T.Oi.mp z;subst hy;exact⟨.ref a,H,I,rfl,q a H (.refl H) GM⟩
  .refine⟨.ref s.heap.objs.size,_,I.laid (fun b ob q=>aE _ q) M0 ?_,rfl,q _ _ (Aj (I.Ae.fresh M0) _) AR⟩;exact⟨by grind,_,U.append T,IsTup.new _ _⟩
end
end L2
namespace TH
open PySem PySem.W PyProof.Rows PySem.SeqAt
def qQ(k:GS.Ext h h')(e:h.IsTuple a x):h'.IsTuple a x:=let⟨o,l,c,n,d⟩:=e;⟨o,k _ _ l,c,n,d⟩
section
open PySem.MeetsSeq PySem.MeetsSeq2 PySem.MeetsSeq3
variable{A:F0d}{E:AAo}{s:SD}
def dw(h:Heap)(v:VL):Prop:=∃(a b:AD) (xs:Array VL) (l:List VL),v=.ref a/\h.IsTuple a ((.ref b::l).toArray)/\h.IsTuple b xs
theorem US:∀(us:List VL) {Q},(∀v∈us,dw s.heap v)->(∀fs:List VL,fs.length=us.length->(∀v∈fs,Looks M s.heap (typeOf v) LE)->Q (fs.map some) s)->wpAny M A (us.mapM firstOfTuple') Q E s
 |[],Q,_,h=>aB (h [] rfl fun _ z=>by cases z)
 |v::us,Q,e,h=>by
  obtain⟨a,b,xs,T,rfl,h1,h2⟩:=e v aR;obtain⟨o,I,Z,n,hd⟩:=id h1;rw[List.mapM_cons];refine Wb (Wb (Looks.here ((Looks.ld I).andThen .now) ?_));rw[Z];refine Wb (listItems_at I hd (aB (Wb (US us (fun v l=>by grind) fun fs U Y=>aB ?_))))
  simpa using (h (.ref b::fs) (by simp[U]) fun v l=>by
   rcases aO.mp l with rfl|l
   .exact K6 h2
   grind)
def qK{us:AAn}(e:∀v∈us,dw s.heap v)(h:Q (tuples' false) s):wpAny M A (keyKind' us.toArray) Q E s:=by
 rw[kat_kind_eq,List.mapM_toArray];refine Wb (Wb (US us e fun fs I l=>aB ?_));rw[if_pos By];refine Wb (aq ?_);rw[(show((fs.map some).toArray.filterMap id)=fs.toArray by simp)];exact Wb (S6 l (fun _=>aB h) (aB h))
end
end TH
namespace L2
open PySem PySem.Spec PyProof.Rows
abbrev zD(x y:Str)(I l:Pos)(tk:Nat)(tp:Pos):Expr:=.Tuple [.Name x I,.Name y l] tk tp
def ql(h:ix≠l)(σ:St) a b c d:((((σ.set ix a).set l b).set ix c).set l d)=(σ.set ix c).set l d:=by
 rw[List.set_comm _ _ h.symm,List.set_set,List.set_set]
abbrev L6(K:Fg)(ix l:Nat):TG:=b9 K 2 (Oa (Ct ix) (Oa (Ct l) cF))
def Vw{K}(h:ix≠l):∀v σ H Q,L6 K ix l v σ H Q->L6 K ix l v σ H fun σ' H'=>Q σ' H'/\∀u,L6 K ix l u σ'=L6 K ix l u σ:=by
 rintro v σ H Q ⟨a,xs,e1,Z,Y,b,r,U,c,I,T,M,q⟩;refine⟨a,xs,e1,Z,Y,b,r,U,c,I,T,M,q,fun u=>?_⟩;unfold L6 b9 Oa cF Ct;simp only[ql h]
abbrev ug(K:Fg)(wi:TI)(fr:List (Option Nat))(ix l:Nat):TT->TE->TE:=Lc wi fr (L6 K ix l)
section
variable{X:Cx}{elt iter:Expr}{x y:Str}{px py tp pos:Pos}{tk:Nat}{ifs:AA0}{scope:Scope}{wi:TI}{tif:TT}{te:TE}{N:AAy}{ix iy:Nat}
def Mv(M:CZ scope N x ix=true)(l:CZ scope N y iy=true)(I:Rs):∀cl C s₀ H₀ fp,PG Ev (zD x y px py tk tp) (L6 X.K ix iy):=fun cl C s₀ H₀ fp=>
 NQ I (EY ((Ek M).2 X px cl C s₀ H₀ fp) (EY ((Ek l).2 X py cl C s₀ H₀ fp) Lq))
def eQ N ix iy fr (hi:PI X (zD x y px py tk tp) iter wi) (I:∀cl C s₀ H₀ fp,UZ Ev ifs tif) (Z:∀cl C s₀ H₀ fp,PE Ev elt te) (U:CZ scope N x ix=true:=by decide +kernel) (M:CZ scope N y iy=true:=by decide +kernel) (l:ix≠iy:=by decide) (T:X.calm=true:=by rfl) (h3:JC N X.N scope X.env.scope fr 0=true:=by rfl) (h4:fr.length=N.length:=by rfl) (h5:freeOk X.env.scope scope.names=true:=by rfl) (Y:∀x,foldedSetIterable iter X.env x=pure x:=by intro _;rfl):PE X (.ListComp elt [⟨.Tuple [.Name x px,.Name y py] tk tp,iter,ifs,0⟩] scope pos) (ug X.K wi fr ix iy tif te) :=
 SS (Ek U).1 T (Vw l) (Mv U M T) h3 h4 (Ko h5) hi I Z Y
end
def jL{K}{J:It}{G:Hp->Prop} Pv (h0:Pv 0 [] (upd H1 D OF)) (Y:∀i ys H,i<n->Pv i ys H->H D=some KB->J.go i H/\ys.length<sizeLine/\∀x H',J.E6 i H x H'->∃a T I,x=.ref a/\A4 K H' a [T,I] /\tif (((carry fr σ).set ix (some T)).set Z (some I)) H' fun b U=>if b=true then te (((carry fr σ).set ix (some T)).set Z (some I)) U fun y H3=>H3 D=some KB/\∃l,l<n-i/\CW Pv n D SB l (ys++[y]) (upd H3 D (.lst (ys++[y]))) else ∃l,l<n-i/\CW Pv n D SB l ys U) (M:∀ys H,Pv n ys H->H D=some KB->J.stop n H/\G H):∃W:Nat->Nat->List V->Hp->Prop,(∃m,W 0 m [] (upd H1 D OF)) /\∀i m ys H,W i m ys H->H D=some KB/\((J.stop i H/\G H)\/(J.go i H/\ys.length<sizeLine/\∀x H',J.E6 i H x H'->Md (L6 K ix Z) tif te (carry fr σ) D x ys H' fun zs U=>∃l,l<m/\W SB l zs U)) :=
 Pu Pv h0 (fun i ys H hi p hD=>let⟨a,b,c⟩:=Y i ys H hi p hD;⟨a,b,fun x H' hy=>let⟨a,T,I,e,s,q⟩:=c x H' hy;⟨a,[T,I],e,s,rfl,T,[I],rfl,I,[],rfl,rfl,q⟩⟩) M
def Fp(b:Bool)(H:Hp)(a:AD)(xs:ABC):Prop:=if b then H a=some Jl else H a=some Tl
def Fp.inj(h:Fp b H a xs)(k:Fp b H a ys):xs=ys:=by
 cases b with
 |true=>have k:H a=some _:=k;rw[h]at k;lia
 |false=>have k:H a=some _:=k;rw[h]at k;grind
theorem Fp.none(h:Fp b H a xs)(k:H c=none):a≠c:=fun z=>by
 cases b with
 |true=>have h:H a=some _:=h;lia
 |false=>have h:H a=some _:=h;grind
def Fp.raw{σ:St}(I:BE)(h:Fp b H a xs):∃l,Vals xs l/\ZT.Sq b s.heap a l:=by
 cases b with
 |true=>
  obtain⟨l,M,p,_⟩:=I.tuple (A4.of h);exact⟨l,M,p⟩
 |false=>
  obtain⟨l,M,p,_⟩:=I.list (Am.of h);exact⟨l,M,p.isList⟩
def sx(b1 b2:Bool)(a1 a2:AD):It :=
 ⟨fun i H=>∃xs x ys y,Fp b1 H a1 xs/\Fp b2 H a2 ys/\xs[i]? = some x/\ys[i]? = some y,
  fun i H v H'=>∃p x y,v=.ref p/\H p=none/\H'=upd H p (.tup [x,y])/\(∀xs,Fp b1 H a1 xs->xs[i]? = some x)/\∀ys,Fp b2 H a2 ys->ys[i]? = some y,
  fun i H=>∃xs ys,Fp b1 H a1 xs/\Fp b2 H a2 ys/\(i=xs.length\/(i<xs.length/\i=ys.length))⟩
def tnZ(b1 b2:Bool)(a1 a2 z TI TO i1 i2:AD):Nat->Heap->Prop:=fun i h=>IsZip h z TI TO .none/\IsPair h TI (.ref i1) (.ref i2)/\(∃a b,IsPair h TO a b)/\ZT.Lf b1 h i1 a1 i/\ZT.Lf b2 h i2 a2 i
def Oe(x:ZT.Lf b h it l k):∃o,h.get? it=some o/\∀v,o.data≠.cell v:=let⟨o,e,d⟩:=Ws x;⟨o,e,fun v z=>by lia⟩
def kA{P:F0b}{w:F0c}{K:Fg}{elts:AA0}{x1}{pos:Pos}{b1 b2:Bool}{a1 a2 z TI TO i1 i2:AD}(ne:[z,TI,TO,i1,i2].Nodup) :
  Turn P w K (.Tuple elts x1 pos) (sx b1 b2 a1 a2) [z,TI,TO,i1,i2] z (tnZ b1 b2 a1 a2 z TI TO i1 i2) where
 mem:=by simp
 obj:=fun i h st b hb=>by
  obtain⟨h1,h2,⟨u,v,h3⟩,h4,h5⟩:=st;have hb:b=z\/b=TI\/b=TO\/b=i1\/b=i2:=by simpa using hb
  rcases hb with rfl|rfl|rfl|rfl|rfl
  .exact⟨_,h1,fun v y=>by cases y⟩
  .exact⟨_,h2,fun v y=>by cases y⟩
  .exact⟨_,h3,fun v y=>by cases y⟩
  .exact Oe h4
  .exact Oe h5
 keep:=fun i h h' st k=>by
  obtain⟨h1,h2,⟨u,v,h3⟩,h4,h5⟩:=st;exact⟨k z By _ h1,k TI By _ h2,⟨u,v,k TO By _ h3⟩,IE h4 fun o e=>k i1 By o e,IE h5 fun o e=>k i2 By o e⟩
 item:=by
  intro X hP hw hK hc i pins s σ H E I hf st hg;subst hP hw hK;obtain⟨xs,x,ys,y,q1,q2,hx,hy⟩:=hg;obtain⟨us,rv1,p1⟩:=q1.raw I;obtain⟨vs,rv2,p2⟩:=q2.raw I;obtain⟨u,hu,ru⟩:=rv1.get hx;obtain⟨v,hv,rv⟩:=rv2.get hy;obtain⟨t1,t2,⟨ta,tb,t3⟩,t4,t5⟩:=st;have e1:∀b∈[z,TI,TO,i1,i2],a1≠b:=fun b hb=>q1.none (hf b hb).1;have e2:∀b∈[z,TI,TO,i1,i2],a2≠b:=fun b hb=>q2.none (hf b hb).1;simp only[List.nodup_cons,List.mem_cons,List.not_mem_nil,or_false,not_or]at ne;obtain⟨⟨n1,n2,n3,n4⟩,⟨n5,n6,n7⟩,⟨n8,n9⟩,n10,_⟩:=ne;refine ZT.next_item (ZT.IJ (prog:=X.prog) (w:=X.w) (A:=X.A.in1) (I.ok.hd hc) b1 i1 a1 us (e1 i1 By)) (ZT.IJ (prog:=X.prog) (w:=X.w) (A:=X.A.in1) (I.ok.hd hc) b2 i2 a2 vs (e2 i2 By)) (⟨⟨Ne.symm n1,n5,n6,n7⟩,⟨Ne.symm n2,n8,n9⟩,⟨Ne.symm n3,Ne.symm n4,n10⟩,
   ⟨by simp[n3,Ne.symm (e1 z By)],by simp[n8,Ne.symm (e1 TO By)],by simp[Ne.symm n10,Ne.symm (e1 i2 By)]⟩,⟨by simp[n4,Ne.symm (e2 z By)],by simp[n9,Ne.symm (e2 TO By)],by simp[n10,Ne.symm (e2 i1 By)]⟩⟩) t1 t2 t3 ⟨t4,p1⟩ ⟨t5,p2⟩ (aF.mp hu).1 (aF.mp hv).1
   fun u' v' h' tk r1 r2 r3 r4 r5 r6 r7 r8 r9=>⟨_,rfl,wpAny_letOwnedTupleGo_zip (s:={s with heap:=h',toks:=tk}) r3 fun h'' z'' sb=>?_⟩
  rw[hu]at r1;rw[hv]at r2;cases r1;cases r2;have lt:∀b∈[z,TI,TO,i1,i2],b<s.heap.objs.size:=fun b hb=>by
   have hb:b=z\/b=TI\/b=TO\/b=i1\/b=i2:=by simpa using hb
   rcases hb with rfl|rfl|rfl|rfl|rfl
   .exact aH t1
   .exact aH t2
   .exact aH t3
   .obtain⟨o,e,_⟩:=Oe t4;exact aH e
   .obtain⟨o,e,_⟩:=Oe t5;exact aH e
  have hTn:H s.heap.objs.size=none:=I.Ae.fresh M0;refine⟨.ref s.heap.objs.size,upd H s.heap.objs.size (.tup [x,y]),?_,rfl,⟨_,x,y,rfl,hTn,rfl,fun zs hz=>by rw[hz.inj q1];exact hx,fun zs hz=>by rw[hz.inj q2];exact hy⟩,⟨z'',?_,⟨u,v,?_⟩,?_,?_⟩,fun b hb=>?_⟩
  .exact I.iG hf (fun b o hb q=>by
   simp at hb;exact(sb.2 b hb.1).trans (r9 b o hb.1 hb.2.2.1 hb.2.2.2.1 hb.2.2.2.2 q)) oI (.cons ru (.cons rv .nil)) ((sb.2 _ (bV (lt z By))).trans r7)
  .exact(sb.2 _ (Ne.symm n1)).trans (r9 _ _ (Ne.symm n1) n5 n6 n7 t2)
  .exact(sb.2 _ (Ne.symm n2)).trans r4
  .exact IE r5.1 fun o e=>(sb.2 _ (Ne.symm n3)).trans e
  .exact IE r6.1 fun o e=>(sb.2 _ (Ne.symm n4)).trans e
  .rw[AN (aJ (lt b hb))];exact(hf b hb).1
 done:=by
  intro X hP hw hK hc i pins s σ H E I hf st hg;subst hP hw hK;obtain⟨xs,ys,q1,q2,he⟩:=hg;obtain⟨us,rv1,p1⟩:=q1.raw I;obtain⟨vs,rv2,p2⟩:=q2.raw I;obtain⟨t1,t2,⟨ta,tb,t3⟩,t4,t5⟩:=st;have e1:∀b∈[z,TI,TO,i1,i2],a1≠b:=fun b hb=>q1.none (hf b hb).1;have e2:∀b∈[z,TI,TO,i1,i2],a2≠b:=fun b hb=>q2.none (hf b hb).1;simp only[List.nodup_cons,List.mem_cons,List.not_mem_nil,or_false,not_or]at ne;obtain⟨⟨n1,n2,n3,n4⟩,⟨n5,n6,n7⟩,⟨n8,n9⟩,n10,_⟩:=ne;have he':i=us.length\/(i<us.length/\i=vs.length):=by rw[<-rv1.length,<-rv2.length];exact he
  refine ZT.next_end (ZT.IJ (prog:=X.prog) (w:=X.w) (A:=X.A.in1) (I.ok.hd hc) b1 i1 a1 us (e1 i1 By)) (ZT.IJ (prog:=X.prog) (w:=X.w) (A:=X.A.in1) (I.ok.hd hc) b2 i2 a2 vs (e2 i2 By)) (⟨⟨Ne.symm n1,n5,n6,n7⟩,⟨Ne.symm n2,n8,n9⟩,⟨Ne.symm n3,Ne.symm n4,n10⟩,
   ⟨by simp[n3,Ne.symm (e1 z By)],by simp[n8,Ne.symm (e1 TO By)],by simp[Ne.symm n10,Ne.symm (e1 i2 By)]⟩,⟨by simp[n4,Ne.symm (e2 z By)],by simp[n9,Ne.symm (e2 TO By)],by simp[n10,Ne.symm (e2 i1 By)]⟩⟩) t1 t2 t3 ⟨t4,p1⟩ ⟨t5,p2⟩ he' fun h' tk kp=>⟨rfl,?_⟩
  exact I.turn hf (fun b o hb q=>by
   simp at hb;exact kp b o hb.1 hb.2.2.1 hb.2.2.2.1 hb.2.2.2.2 q)
 self:=fun _ _ _ _ _ st h=>wpAny_pyIter_zip st.1 h
def zW(I:TA):TI:=fun σ H R=>I σ H fun vs l=>∃(b1 b2:Bool) (a1 a2:AD),vs=[.ref a1,.ref a2]/\(∃xs,Fp b1 l a1 xs)/\(∃ys,Fp b2 l a2 ys)/\R (sx b1 b2 a1 a2) l
def gw{X:Cx}{elts}{x1}{l:Pos}{p pos:Pos}(hg:Gl X "zip")(hm:X.mg "zip" = none)(ha:PA X [a,b] ta)(hs:starEach [a,b] X.env=[Sc,(false,eval b X.env)]:=by rfl)(M:starEach [b] X.env=[(false,eval b X.env)]:=by rfl):PI X (.Tuple elts x1 l) (.Call (.Name "zip" p) [a,b] [] pos) (zW ta):=by
 intro pins s σ H R I h;refine Call_ (Fi I hg hm boot_zip (ax (Ay TD fun us s1 ⟨vs,H1,U,r1,q1⟩=>?_) (by rw[hs,M]) (by rw[M];rfl)));obtain⟨b1,b2,l1,l2,e,⟨xs,h1⟩,⟨ys,h2⟩,q⟩:=q1;subst e;cases r1 with
 |cons r Y=>
  cases Y with
  |cons r' Y=>
   cases Y;cases r;cases r';obtain⟨us,_,p1⟩:=h1.raw U;obtain⟨vs,_,p2⟩:=h2.raw U;refine ZT.jn p1 p2 fun h' z1 z2 z3 z4 z5 hk=>wpAny_pyIter_zip z1 (⟨_,[s1.heap.objs.size+4,s1.heap.objs.size+2,s1.heap.objs.size+3,s1.heap.objs.size,s1.heap.objs.size+1],_,_,H1,rfl,(U.kept hk),kA ?_,⟨z1,z2,⟨_,_,z3⟩,z4,z5⟩,fun b hb=>?_,q⟩)
   .simp
   have T:s1.heap.objs.size<=b:=by
    have Z:=by simpa using hb
    rcases Z with h|h|h|h|h<;>rw[h]<;>first|exact aG _|exact Nat.le_add_right _ _
   exact U.Pr T (U.Ae.fresh T)
abbrev yo(K:Fg)(a:AD):It:=Nx K false 0 a
def vS(K:Fg)(I:TA):TI:=fun σ H R=>I σ H fun vs l=>∃a,vs=[.ref a]/\(∃xs,Am K l a xs)/\R (yo K a) l
def j9{X:Cx}{x1}{a:Expr}{Y:TA}(hg:Gl X "enumerate")(hm:X.mg "enumerate" = none)(ha:PA X [a] Y)(hs:starEach [a] X.env=[Sc]:=by rfl):PI X (.Tuple elts x1 U) (.Call (.Name "enumerate" p) [a] [] pos) (vS X.K Y):=by
 intro pins s σ H R I h;refine Call_ (Fi I hg hm boot_enumerate (ax (Ay TD fun us s1 ⟨vs,H1,M,r1,q1⟩=>?_) hs rfl));obtain⟨t,e,⟨xs,hq⟩,q⟩:=q1;subst e;cases r1 with
 |cons r rr=>
  cases rr;cases r;obtain⟨its,rv,p',hz⟩:=M.list hq;refine call_enumerate_list (p'.isList) fun h' Z hit hsz hk=>wpAny_pyIter_enum Z ?_;refine⟨s1.heap.objs.size+1,[s1.heap.objs.size+1,s1.heap.objs.size],_,_,H1,rfl,(M.kept hk),Sx (b:=false) (k0:=0) t _ _ (show s1.heap.objs.size+1≠s1.heap.objs.size by lia),⟨⟨_,Z⟩,hit⟩,fun b hb=>?_,q⟩;have l:s1.heap.objs.size<=b:=by
   have T:=by simpa using hb
   rcases T with z|z
   .rw[z];exact Nat.le_succ _
   .rw[z];exact aG _
  exact M.Pr l (M.Ae.fresh l)
section
variable{κ:Type}[DecidableEq κ]
def Cs(kvs:List (κ×V))(k:κ):Option V:=(kvs.find? fun l=>decide (l.1=k)).map (·.2)
def putK(kvs:List (κ×V))(k:κ)(v:V):List (κ×V) :=
 if(kvs.any fun l=>decide (l.1=k))=true then kvs.map (fun l=>if l.1=k then(l.1,v) else l) else kvs++[(k,v)]
def P7{k:κ}(e:p.1=k):Cs (p::r) k=some p.2:=by simp[Cs,e]
def Pq{k:κ}(e:¬p.1=k):Cs (p::r) k=Cs r k:=by simp[Cs,e]
theorem Pt(k:κ):∀kvs ,(kvs.any fun l=>decide (l.1=k))=(Cs kvs k).isSome
 |[]=>rfl
 |p::r=>by
  rw[List.any_cons];by_cases e:p.1=k
  .simp only[P7 e,decide_eq_true e,Bool.true_or,Option.isSome_some]
  .rw[Pq e,decide_eq_false e];exact Pt k r
def O4 kvs (k:κ) v:(putK kvs k v).length<=kvs.length+1:=by
 unfold putK
 grind
def lj{k:κ} v (h:Cs kvs k=none):putK kvs k v=kvs++[(k,v)]:=by
 unfold putK;rw[Pt,h]
 rfl
def IM.fw(r:IM o u):o.isSome=u.isSome:=by
 cases o with
 |none=>cases u with
  |none=>rfl
  |some _=>exact r.elim
 |some _=>cases u with
  |none=>exact r.elim
  |some _=>rfl
def IM.getD(r:IM o u)(l:RelV d I):RelV (o.getD d) (u.getD I):=by
 cases o with
 |none=>cases u with
  |none=>exact l
  |some _=>exact r.elim
 |some _=>cases u with
  |none=>exact r.elim
  |some _=>exact r
def KV.val(r:KV kvs vs)(k:κ):IM (Cs kvs k) (valueAt vs k):=by
 induction r with
 |nil=>exact True.intro
 | @cons p q ps I h t U=>
  obtain⟨T,M⟩:=h;by_cases e:p.1=k
  .have l:=T.symm.trans e;rw[P7 e,(show valueAt _ k=some q.2 by simp[valueAt,l])];exact M
  .have l:¬q.1=k:=fun z=>by lia
   rw[Pq e,(show valueAt _ k=valueAt I k by simp[valueAt,l])];lia
def KV.any(r:KV kvs vs)(k:κ):(kvs.any fun l=>decide (l.1=k))=vs.any fun l=>decide (l.1=k):=by
 induction r with
 |nil=>rfl
 |cons h t I=>grind
def KV.lT(r:KV kvs vs)(k:κ)(M:RelV y u):KV (kvs.map fun l=>if l.1=k then(l.1,y) else l) (vs.map fun l=>if l.1=k then(l.1,u) else l):=by
 induction r with
 |nil=>exact .nil
 | @cons p q ps T h t I=>
  refine .cons ?_ I
  lia
def KV.put(r:KV kvs vs)(k:κ)(l:RelV y u):KV (putK kvs k y) (stored vs k u):=by
 unfold putK stored;rw[r.any k];by_cases e:(vs.any fun I=>decide (I.1=k))=true
 .rw[if_pos e,if_pos e];exact r.lT k l
 .rw[if_neg e,if_neg e];exact Paired.snoc r ⟨rfl,l⟩
def KV.length{kvs:List (κ×V)}(r:KV kvs vs):kvs.length=vs.length:=Paired.length r
end
def Vc(r:RelV (kV k) u):(EG P w).is k u=true:=by
 cases k with
 |inl i=>obtain⟨t,e⟩:=r;subst e;exact YF P w i t
 |inr x=>obtain⟨t,e⟩:=r;subst e;exact YC P w x t
theorem UR:∀ {ks} {us},Vals (ks.map kV) us->ItemsAre (EG P w) ks us
 |[],_,r=>by cases r;exact .nil
 |k::ks,_,r=>by
  cases r with
  |cons h t=>exact .cons (Vc h) (UR t)
abbrev KT(H:Hp):List (List Key×V)->List (List Key×AD×VL)->Prop:=Paired fun p q=>p.1=q.1/\H q.2.1=some (.tup (p.1.map kV))/\RelV p.2 q.2.2
def KT.val(r:KT H kvs xs) k:IM (Cs kvs k) ((atKey xs k).map (·.2)):=by
 induction r with
 |nil=>exact True.intro
 | @cons p q ps l h t T=>
  obtain⟨M,_,I⟩:=h;by_cases e:p.1=k
  .rw[P7 e,(show atKey _ k=some q.2 by simp[atKey,(M.symm.trans e)])];exact I
  .rw[Pq e,(show atKey _ k=atKey l k by simp[atKey,(show ¬q.1=k from fun z=>by lia)])];lia
def KT.lT(r:KT H kvs xs) k (M:RelV y u):KT H (kvs.map fun l=>if l.1=k then(l.1,y) else l) (xs.map (putAt k u)):=by
 induction r with
 |nil=>exact .nil
 | @cons p q ps T h t I=>
  refine .cons ?_ I;unfold putAt
  lia
def KT.put(r:KT H kvs xs) k (hb:H b=some (.tup (k.map kV))) (l:RelV y u):KT H (putK kvs k y) (storedH xs k b u):=by
 unfold putK storedH;rw[(show(kvs.any fun I=>decide _)=(atKey xs k).isSome by
  rw[Pt,(r.val k).fw,Option.isSome_map])]
 by_cases q:(atKey xs k).isSome=true
 .rw[if_pos q,if_pos q];exact r.lT k l
 .rw[if_neg q,if_neg q];exact Paired.snoc r ⟨rfl,hb,l⟩
def KT.keeps(r:KT H kvs xs)(l:∀b ys,H b=some (.tup ys)->H' b=some (.tup ys)):KT H' kvs xs :=
 Paired.lz r fun _ _ z=>by grind
section
variable{P:F0b}{w:F0c}{H:Hp}{h:Heap}{a:AD}
def mf(ok:DZ P w H h)(e:Rd H a u):C4 P w H h a u:=e.ok ok
def Rk(ok:DZ P w H h)(e:Rd H a (.dK kvs)):kvs.length<=sizeLine/\(a==sysModules)=false/\∃vs,KV kvs vs/\h.DictOf (EG P w) a vs :=
 mf ok e
def yF(ok:DZ P w H h)(e:H a=some (.dK kvs)):kvs.length<=sizeLine/\(a==sysModules)=false/\∃vs,KV kvs vs/\h.DictOf (EG P w) a vs:=Rk ok (.inl e)
def NN(ok:DZ P w H h)(e:H a=some (.tup (ks.map kV))):(tupleKind (EG P w)).is h ks a:=let⟨_,l,r,o,T,M,n,I⟩:=(ok a _ e);⟨o,l.toArray,n,T,M,I,by simpa using UR r⟩
def RY(ok:DZ P w H h)(e:Rd H a (.dT kvs)):kvs.length<=sizeLine/\(a==sysModules)=false /\∃xs,KT H kvs xs/\h.DictOfH (tupleKind (EG P w)) a xs:=let⟨z,y,xs,r,o,es,ep,Z,Y,U,T,M⟩:=(mf ok e);⟨z,y,xs,r,o,es,ep,Z,Y,U,T,fun x I=>(show ∀ {l:List _} {m:List _},KT H l m->∀x∈m,(tupleKind _).is h x.1 x.2.1 by
  intro l m q
  induction q with
  |nil=>simp
  | @cons p q ps qs hq t ih=>
   intro x I;rcases aO.mp I with e|I
   .exact NN ok AS
   grind) r x I,M⟩
def Vf(ok:DZ P w H h)(e:H a=some (.dT kvs)):kvs.length<=sizeLine/\(a==sysModules)=false /\∃xs,KT H kvs xs/\h.DictOfH (tupleKind (EG P w)) a xs:=RY ok (.inl e)
end
def KH(H:Hp)(a:AD)(y:V)(r:Option V):Prop :=
 (∃kvs k,Rd H a (.dK kvs)/\y=kV k/\r=Cs kvs k)\/∃kvs k b,Rd H a (.dT kvs)/\y=.ref b/\H b=some (.tup (k.map kV))/\r=Cs kvs k
def W8(H:Hp)(a:AD)(y v:V)(H':Hp):Prop :=
 (∃kvs k,H a=some (.dK kvs)/\y=kV k/\kvs.length<sizeLine/\H'=upd H a (.dK (putK kvs k v))) \/
 ∃kvs k b,H a=some (.dT kvs)/\y=.ref b/\H b=some (.tup (k.map kV))/\kvs.length<sizeLine/\H'=upd H a (.dT (putK kvs k v))
def KH.t(e:H a=some (.dT kvs))(l:H b=some (.tup (k.map kV))):KH H a (.ref b) (Cs kvs k):=.inr ⟨kvs,k,b,.inl e,rfl,l,rfl⟩
def W8.t(e:H a=some (.dT kvs))(I:H b=some (.tup (k.map kV)))(l:kvs.length<sizeLine):W8 H a (.ref b) v (upd H a (.dT (putK kvs k v))):=.inr ⟨kvs,k,b,e,rfl,I,l,rfl⟩
section
variable{X:Cx}{pins:LT}{σ:St}{H:Hp}{s:SD}{a:AD}{y v:V}{u r:VL}{o:Option V}{A:F0d}{E:AAo}
def Inv.big(I:BE):sysModules<s.heap.objs.size:=bT AC ((I.mod.glob.keeps I.bk).lt)
def ij(hu:A.units+1<cLine)(I:BE)(g:KH H a y (some v))(ry:RelV y u)(h:∀T s',Inv X pins σ H s'->RelV v T->Q T s'):wpAny B7 A (getItem KM u) Q E s:=by
 rcases g with ⟨kvs,k,e,Z,l⟩|⟨kvs,k,b,e,Z,eb,l⟩
 .subst Z;obtain⟨z,hd,vs,rel,dd⟩:=Rk I.Ae e;obtain⟨T,U,M⟩:=IM.some_of (by rw[l];exact rel.val k);exact wpAny_getItem_of (Vc ry) dd.mapOf U (h T _ (I.tok _) M)
 .subst Z;cases ry;obtain⟨z,hd,xs,rel,dd⟩:=RY I.Ae e;obtain⟨T,U,M⟩:=IM.some_of (by rw[l];exact rel.val k);obtain⟨p,hp,Y⟩:=aC.mp U;refine wpAny_getItem_heap (tupleKind_room_in1 hu) (NN I.Ae eb) dd hp ?_;rw[Y];exact h T _ (I.tok _) M
def Sa(I:BE)(l:iY (H a))(M:Heap.SameBut a s.heap h')(T:∃q,h'.get? a=some q)(new:C4 X.prog X.w (upd H a ob) h' a ob):Inv X pins σ (upd H a ob) {s with heap:=h',toks:=t'} :=
 I.write l ZB (fun b q hb z=>(M.2 b hb).trans z) T new
def uZ(z:kvs.length<=sizeLine)(hd:(a==sysModules)=false)(rel:KV kvs vs)(dd:h'.DictOf (EG P w) a vs):C4 P w H' h' a (.dK kvs):=⟨z,hd,vs,rel,dd⟩
def fP(hu:A.units+1<cLine)(I:BE)(g:W8 H a y v H')(ry:RelV y u)(rv:RelV v r)(h:∀s',Inv X pins σ H' s'->Q () s'):wpAny B7 A (setItem KM u r) Q E s:=by
 rcases g with ⟨kvs,k,e,Z,l,eH⟩|⟨kvs,k,b,e,Z,eb,l,eH⟩
 .subst Z eH;obtain⟨z,hd,vs,rel,dd⟩:=yF I.Ae e;exact wpAny_setItem_pairs (hsz:=(show vs.length<=sizeLine by rw[<-rel.length];exact z)) (Vc ry) dd fun h' M Y=>h _ (Sa I (by rw[e];exact True.intro) Y (let⟨q,_,_,T,_⟩:=M;⟨q,T⟩) (uZ (show(putK kvs k v).length<=sizeLine by have:=O4 kvs k v;lia) hd (rel.put k rv) M))
 .subst Z eH;cases ry;obtain⟨z,hd,xs,rel,dd⟩:=Vf I.Ae e;refine wpAny_setItem_heap (hsz:=(show xs.length<=sizeLine by rw[<-Paired.length rel];exact z)) (tupleKind_room_in1 hu) (NN I.Ae eb) dd fun h' M Y=>h _ ?_;obtain⟨q,es,ep,T,h2,h3,h4,_,h5⟩:=M;refine Sa I (by rw[e];exact True.intro) Y ⟨q,T⟩ ⟨(show(putK kvs k v).length<=sizeLine by have:=O4 kvs k v;lia),hd,_,(rel.put k eb rv).keeps fun c ys ec=>?_,q,es,ep,T,h2,h3,h4,h5⟩;rw[AN (nQ ec e NE)];exact ec
end
def Wf(i:Expr):Prop:=∀l I,subscripted i false l I=operate [l,I] (getItem l I)
def Yn{T id} (hl:typeLookup (.type T) "__getitem__" = pure (some (.builtin id)))(hs:Wf slice) (h:wpAny As A (eval value env) (fun o M=>wpAny As A (eval slice env) (fun i l=>l.TypeIs o T/\wpAny As A (getItem o i) Q E l) E M) E s):wpAny As A (eval (.Subscript value slice pos) env) Q E s:=by
 refine Subscript_ (aU h (fun o M Y=>aU Y (fun i l I=>?_) fun _ _ x=>x) fun _ _ x=>x);obtain⟨hT,I⟩:=I;refine Wb (Wb (wpAny_specialOf hT hl ?_))
 first
  |exact aB (Wb (show wpAny _ A _ _ E l by
  rw[hs o i];exact wpAny_operating (aU I (fun r Z U=>Wb (wpAny_letTemporaryGo (aB U))) fun _ _ x=>x)))
  |rfl
  |rfl
def YN{σ:St}(I:BE)(g:KH H a y o):s.TypeIs KM "dict" := by
 rcases g with ⟨kvs,k,e,_,_⟩|⟨kvs,k,b,e,_,_,_⟩
 .obtain⟨_,_,vs,_,l⟩:=Rk I.Ae e;exact l.typeIs
 .obtain⟨_,_,xs,_,l⟩:=RY I.Ae e;exact l.typeIs
def wq(I ty:TE):TE:=fun σ H Q=>I σ H fun x M=>ty σ M fun y l=>∃a v,x=.ref a/\KH l a y (some v)/\Q v l
def nT(M ty I:TE):TS:=fun D σ H=>I σ H fun v Y=>M σ Y fun x U=>ty σ U fun y T=>∃a l,x=.ref a/\W8 T a y v l/\D.nx σ l
section
variable{X:Cx}{o i value:Expr}{pos pos':Pos}{td ty tv:TE}
def Yq(hu:X.A.units+1<cLine)(ho:PE X o td)(hi:PE X i ty)(hs:Wf i):PE X (.Subscript o i pos) (wq td ty):=by
 intro pins s σ H Q I h;refine Yn PySem.F.slot_dict_getitem.lookup hs (Ay (ho pins s σ H _ I h) fun u s1 ⟨x,H1,I1,U,Z⟩=>Ay (hi pins s1 σ H1 _ I1 Z) fun iv s2 ⟨y,H2,M,T,a,v,ex,g,Y⟩=>?_);subst ex;obtain rfl:u=Value.ref a:=U;exact⟨YN M g,ij hu M g T fun w' s3 I3 l=>⟨v,H2,I3,l,Y⟩⟩
def pK(hu:X.A.units+1<cLine)(ho:PE X o td)(hi:PE X i ty)(hv:PE X value tv)(hs:swapsWith value (some (.Subscript o i pos')) pos.line X.env=pure false):PS X (.Assign [.Subscript o i pos'] value pos) (nT td ty tv):=by
 intro pins s σ H D I h;refine wpAny_Assign_Subscript (Ay (hv pins s σ H _ I h) fun r s1 ⟨v,H1,I1,T,Z⟩=>Ay (ho pins s1 σ H1 _ I1 Z) fun u s2 ⟨x,H2,I2,M,Y⟩=>Ay (hi pins s2 σ H2 _ I2 Y) fun iv s3 ⟨y,H3,I3,l,a,H4,ex,g,U⟩=>?_) hs;subst ex;obtain rfl:u=Value.ref a:=M;exact fP hu I3 g l T fun s4 I4=>⟨σ,H4,I4,U⟩
end
def jk(h:Heap)(hb:sysModules<h.objs.size):C4 P w H (h.push { cls:=.type "dict",data:=.dict #[]}) h.objs.size (.dT []) :=
 ⟨az _,beq_eq_false_iff_ne.mpr (Ne.symm (aJ hb)),[],.nil,_,#[],0,Heap.get?_push_size _ rfl,⟨rfl,rfl,rfl⟩,rfl,rfl,List.nodup_nil⟩
def uW:TE:=fun _ H Q=>∀p,H p=none->Q (.ref p) (upd H p (.dT []))
section
variable{X:Cx}{pos:Pos}
def V2:PE X (.Dict [] [] pos) uW:=fun pins s σ H Q I h=>
 wpAny_Dict_empty ⟨.ref s.heap.objs.size,_,I.laid (fun _ _ q=>aE _ q) M0 (jk s.heap I.big),rfl,h _ (I.Ae.fresh M0)⟩
end
structure M2(X:Cx)(o:Expr)(m:Str)(apos:Pos)(e f:Expr)(cpos:Pos):Prop where
 base:attributeBase o m X.env (eval o X.env)=eval o X.env
 BI:((backTo cpos (starEach [e,f] X.env)).all (fun x=>!x.1)&&(backToKw cpos (keywordEach [] X.env)).all (fun x=>x.1.isSome)
  && decide (([e,f]:List Expr).length+([]:List Keyword).length+(if([]:List Keyword).isEmpty then 0 else 1)<30))=true
 line:(apos.endLine==cpos.line)=true
 trees:backTo cpos (starEach [e,f] X.env)=[EQ,(false,eval f X.env)]
def ux(H:Hp)(a:AD):Prop:=(∃kvs,Rd H a (.dK kvs))\/∃kvs,Rd H a (.dT kvs)
def iq{σ:St}(I:BE)(d:ux H a):s.TypeIs KM "dict" /\(∀b,Value.ref a=.ref b->∃ob,s.heap.get? b=some ob/\ob.dict=none)/\(a==sysModules)=false:=by
 rcases d with ⟨kvs,e⟩|⟨kvs,e⟩
 .obtain⟨_,hd,vs,_,l⟩:=Rk I.Ae e;refine⟨l.typeIs,fun b q=>?_,hd⟩;cases q;obtain⟨ob,_,_,T,M,_⟩:=l;exact⟨ob,T,M.2.1⟩
 .obtain⟨_,hd,xs,_,l⟩:=RY I.Ae e;refine⟨l.typeIs,fun b q=>?_,hd⟩;cases q;obtain⟨ob,_,_,T,M,_⟩:=l;exact⟨ob,T,M.2.1⟩
section
variable{X:Cx}{pins:LT}{σ:St}{H:Hp}{s:SD}{a:AD}{y d:V}{u r:VL}{o:Option V}{A:F0d}{E:AAo}
def vv(hu:A.units+1<cLine)(I:BE)(g:KH H a y o)(Y:RelV y u)(Z:RelV d r)(h:∀U s',Inv X pins σ H s'->RelV (o.getD d) U->Q U s'):wpAny B7 A (call (.builtin "dict.get") [.ref a,u,r]) Q E s:=by
 rcases g with ⟨kvs,k,e,T,l⟩|⟨kvs,k,b,e,T,eb,l⟩
 .subst T;obtain⟨z,hd,vs,rel,M⟩:=Rk I.Ae e;refine call_meetsIn PySem.F.slot_dict_get M.typeIs PySem.F.entry_dict_get (PySem.F.args_dict_get_3 _ _ _) (meets_dict_get_default _ a (Vc Y) hd r) ⟨_,M.mapOf,h _ _ (I.tok _) ?_⟩;rw[l];exact(rel.val k).getD Z
 .subst T;cases Y;obtain⟨z,hd,xs,rel,M⟩:=RY I.Ae e;refine call_meetsIn PySem.F.slot_dict_get M.typeIs PySem.F.entry_dict_get (PySem.F.args_dict_get_3 _ _ _) (meetsH_dict_get_default _ a b hd r) ⟨tupleKind_room_in1 hu,k,xs,NN I.Ae eb,M,h _ _ (I.tok _) ?_⟩;rw[l];exact(rel.val k).getD Z
end
def rR(T ty M:TE):TE:=fun σ H Q=>T σ H fun x I=>∃a,x=.ref a/\ux I a/\ty σ I fun y U=>M σ U fun z l=>∃o,KH l a y o/\Q (o.getD z) l
section
variable{X:Cx}{o e f:Expr}{apos cpos:Pos}{td ty tx:TE}
def ja(hu:X.A.units+1<cLine)(ho:PE X o td)(he:PE X e ty)(hf:PE X f tx)(m:M2 X o "get" apos e f cpos):PE X (.Call (.Attribute o "get" apos) [e,f] [] cpos) (rR td ty tx):=by
 intro pins s σ H Q I h;refine wpAny_Call_method m.base m.BI m.line PySem.F.plainAttrs_dict PySem.F.slot_dict_get PySem.F.type_dict_get (Ay (ho pins s σ H _ I h) fun u s1 ⟨x,H1,M,Z,a,ex,d,q1⟩=>?_);subst ex;obtain rfl:u=Value.ref a:=Z;obtain⟨t1,T,_⟩:=iq M d;refine⟨t1,T,?_⟩;rw[m.trees];exact Calls.callWith_builtin rfl (Calls.evalArgs_plain (bK (Ay (he pins s1 σ H1 _ M q1) fun iv s2 ⟨y,H2,I2,Y,q2⟩=>
  bK (Ay (hf pins s2 σ H2 _ I2 q2) fun fv s3 ⟨z,H3,I3,U,ov,g,q3⟩=>Calls.spliced_nil (vv hu I3 g Y U fun w' s4 I4 l=>⟨_,H3,I4,l,q3⟩)))))
end
end L2
namespace IT
open PySem PySem.W PyProof.Rows PySem.SeqAt
def lt:List Int->List Int->Bool
 |[],[]=>false
 |[],_::_=>true
 |_::_,[]=>false
 |a::r,b::q=>if a=b then lt r q else decide (a<b)
theorem lt_irrefl:∀a,lt a a=false
 |[]=>rfl
 |a::r=>by rw[lt,if_pos rfl,lt_irrefl r]
theorem lt_trans:∀a b c,lt a b=true->lt b c=true->lt a c=true
 |[],[],_,h,_=>by lia
 |[],_::_,[],_,h=>by cases h
 |[],_::_,_::_,_,_=>rfl
 |_::_,[],_,h,_=>by cases h
 |_::_,_::_,[],_,h=>by cases h
 |a::r,b::q,c::p,h,k=>by
  rw[lt]at h k ⊢;by_cases I:a=b
  .subst I;rw[if_pos rfl]at h;by_cases l:a=c
   .rw[if_pos l]at k ⊢;exact lt_trans r q p h k
   lia
  lia
theorem Dk:∀a b,lt a b=false->lt b a=false->a=b
 |[],[],_,_=>rfl
 |[],_::_,h,_=>by cases h
 |_::_,[],_,h=>by cases h
 |a::r,b::q,h,k=>by
  rw[lt]at h k;by_cases e:a=b
  .subst e;rw[if_pos rfl]at h k;rw[Dk r q h k]
  .lia
def IW a b c (h:lt a c=true):lt a b=true\/lt b c=true:=by
 cases k:lt a b with
 |true=>lia
 |false=>
  right
  cases m:lt b c with
  |true=>rfl
  |false=>
   cases n:lt b a with
   |true=>have:=lt_trans b a c n h;lia
   |false=>have:=Dk a b k n;lia
def ord:KeyOrd where
 α:=List Int
 blt:=lt
 irrefl:=lt_irrefl
 trans:=lt_trans
 negTrans:=IW
 total:=Dk
def Is:List Int->List VL->Prop
 |[],us=>us=[]
 |k::r,us=>∃t rest,us=.int k t::rest/\Is r rest
theorem Is.length:∀ {ks} {us},Is ks us->us.length=ks.length
 |[],us,h=>by subst h;rfl
 |k::r,us,h=>by
  obtain⟨t,rest,rfl,h⟩:=h;rw[(Gm),(Gm),Is.length h]
end IT
namespace L2
open PySem PySem.Spec PyProof.Rows
theorem RM:∀ {ps} {us},Vals (ps.map V.int) us->IT.Is ps us
 |[],_,r=>by cases r;rfl
 |p::ps,_,r=>by
  cases r with
  |cons h t=>
   obtain⟨tk,rfl⟩:=h;exact⟨tk,_,rfl,RM t⟩
def gK(ps:AAx):(ps.map Sum.inl).map kV=ps.map V.int:=by rw[(Bb)];rfl
theorem Ng:∀ {xs} {ys} {j:Nat} {x} {y},Paired F xs ys->xs[j]? = some x->ys[j]? = some y->F x y
 |_,_,j,x,y,.nil,h,_=>by grind
 |_,_,0,x,y,.cons f _,h,k=>by grind
 |_,_,j+1,x,y,.cons _ r,h,k=>Ng r (by simpa using h) GM
theorem N1:∀as:List AD,Vals (as.map V.ref) (as.map Value.ref)
 |[]=>.nil
 |a::as=>.cons rfl (N1 as)
end L2
namespace IT
open PySem PySem.W PyProof.Rows PySem.SeqAt
section
open PySem.AutoSeq1 (wpAny_loadPart')
open PySem.MeetsSeq PySem.MeetsSeq2 PySem.MeetsSeq3
def lC(l b:AD)(items I:Array VL)(n n2:Nat)(dd dd2:Option AD)(sl sl2:Array (Option VL))(t u:AAx):Meets (Builtin.«tuple.__ge__» ⟨[.ref l,.ref b],[]⟩) (fun A R s=>s.heap.get? l=some { cls:=.type "tuple",dict:=dd,data:=.seq items n,slots:=sl}/\s.heap.get? b=some { cls:=.type "tuple",dict:=dd2,data:=.seq I n2,slots:=sl2} /\Is t items.toList/\Is u I.toList/\A.units<cLine/\R (.ok (.ret (.bool (!lt t u)))) s) :=
 .of_wp fun prog w A R s h=>by
  obtain⟨hp,g,d,tk,os⟩:=s;obtain⟨hl,hb,hi,hj,hun,h⟩:=h;have f2:=AutoSeq1.sub_tuple_tuple;have z1:items.size=t.length:=by rw[<-Is.length hi];simp
  have z2:I.size=u.length:=by rw[<-Is.length hj];simp
  wp_walk using wpAny_loadPart' hl,wpAny_loadPart' hb,wpAny_forIn_list _ (fun rest b s'=>b.1=none/\s'=⟨hp,g,d,tk,os⟩/\∃(vs ws:List VL) (t' Y:List Int),rest=vs.zip ws /\
   Is t' vs/\Is Y ws/\t'.length+I.size=Y.length+items.size/\R (.ok (.ret (.bool (!lt t' Y)))) ⟨hp,g,d,tk,os⟩) _
  case turn=>
   rintro⟨y,x⟩ rest b s' ⟨hb',rfl,vs,ws,t',Y,Z,U,T,M,hR⟩;cases t' with
   |nil=>rw[Is]at U;subst U;rw[List.zip_nil_left]at Z;cases Z
   |cons bt rt=>
    cases Y with
    |nil=>rw[Is]at T;subst T;rw[List.zip_nil_right]at Z;cases Z
    |cons bu ru=>
     rw[Is]at U T;obtain⟨a1,v1,rfl,p3⟩:=U;obtain⟨a2,v2,rfl,q3⟩:=T;rw[List.zip_cons_cons]at Z
     injection Z with hyx hrest
     injection hyx with hy hx
     subst hy hx;rw[lt]at hR;simp only[List.length_cons]at M;have he:=EqAt.int_int (A:=A.in1) (s:=⟨hp,g,d,tk,os⟩) bt a1 bu a2;refine Wb (he prog w _ _ ?_);by_cases hc:bt=bu
     .rw[if_pos hc]at hR;rw[beq_iff_eq.mpr hc]
      wp_walk
      exact⟨rfl,rfl,_,_,_,_,hrest,p3,q3,by lia,hR⟩
     .rw[if_neg hc]at hR;rw[beq_eq_false_iff_ne.mpr hc];have hri:∀(E:VL->SD->Prop) (Q:VL->SD->Prop),Q (.bool (decide (bu<=bt))) ⟨hp,g,d,tk,os⟩->wpAny As A.in1 (richCompare .GtE (.int bt a1) (.int bu a2)) Q E ⟨hp,g,d,tk,os⟩:=fun E Q h=>PyProof.Rows.ge_int h;have e:(!decide (bt<bu))=decide (bu<=bt):=by rw[Bool.eq_iff_iff];simp
      rw[e]at hR
      wp_walk using hri
      exact⟨_,rfl,by simpa using hR⟩
  case fin=>
   rintro⟨b1,b2⟩ s' ⟨hb',rfl,vs,ws,t',Y,Z,U,T,M,hR⟩;simp only at hb';subst hb';have hv:lt t' Y=decide (items.size<I.size):=by
    cases t' with
    |nil=>
     cases Y with
     |nil=>
      simp only[List.length_nil]at M;exact(decide_eq_false AS).symm
     |cons c q=>
      simp only[List.length_cons,List.length_nil]at M;exact(decide_eq_true AS).symm
    |cons bt rt=>
     cases Y with
     |nil=>
      simp only[List.length_cons,List.length_nil]at M;exact(decide_eq_false AS).symm
     |cons c q=>
      rw[Is]at U T;obtain⟨_,_,rfl,_⟩:=U;obtain⟨_,_,rfl,_⟩:=T;rw[List.zip_cons_cons]at Z;cases Z
   have e:(!decide (items.size<I.size))=decide (I.size<=items.size):=by rw[Bool.eq_iff_iff];simp
   rw[hv,e]at hR
   wp_walk
   exact⟨_,rfl,by simpa[Builtin.Tuple.tupleCompareSizes]using hR⟩
  case h=>
   exact⟨rfl,rfl,items.toList,I.toList,t,u,rfl,hi,hj,by lia,h⟩
end
section
open PySem.MeetsSeq PySem.MeetsSeq2 PySem.MeetsSeq3
variable{prog:F0b}{w:F0c}{A:F0d}{E:AAo}{s:SD}{t u:AAx}{a b:AD}{its its':AAn}
def wW(h1:s.heap.IsTuple a its.toArray)(k1:Is t its)(h2:s.heap.IsTuple b its'.toArray)(k2:Is u its')(hu:A.units+1<cLine)(h:Q (.bool (!lt t u)) s):wpAny As A (richCompare .GtE KM (.ref b)) Q E s:=by
 obtain⟨⟨cls,dd,data,sl⟩,Z,hc,n,T⟩:=id h1;obtain⟨⟨cls2,Y,data2,M⟩,l,U,n2,I⟩:=id h2;subst hc T U I;exact richCompare_meets_room ⟨_,Z,rfl⟩ ⟨_,l,rfl⟩ PySem.F.slot_tuple_ge PySem.F.entry_tuple_ge (PySem.F.args_tuple_ge_2 _ _) (lC a b its.toArray its'.toArray n n2 dd Y sl M t u)
  ⟨Z,l,by lia,by lia,by lia,⟨(fun x=>nomatch x),h⟩⟩ AS
end
end IT
namespace L2
open PySem PySem.Spec PyProof.Rows
def wA(hu:IR):CN X (compareOp .GtE) (fun x y H Q=>∃(a b:AD) (ps l:AAx),x=.ref a/\y=.ref b/\H a=some (.tup (ps.map V.int))/\H b=some (.tup (l.map V.int))/\Q (.bl (!IT.lt ps l)) H):=by
 rintro pins s σ H x y v u' Q I Y U ⟨a,b,ps,l,rfl,rfl,ha,hb,q⟩;cases Y;cases U;obtain⟨i1,T,p1,_⟩:=I.tuple (A4.of ha);obtain⟨i2,M,Z,_⟩:=I.tuple (A4.of hb);exact IT.wW p1 (RM T) Z (RM M) AS ⟨.bl _,H,I,rfl,q⟩
end L2
namespace TH
open PySem PyProof.Rows PySem.SeqAt
def JL:Tr->List Int
 |.nil=>[]
 |.cons b r=>reduceHash (Builtin.Tuple.tupleHashOf (JL b))::JL r
def BD(t:Tr):Int:=reduceHash (Builtin.Tuple.tupleHashOf (JL t))
section
variable{prog:F0b}{w:F0c}{E:AAo}
def IsTuple.ty{s:SD}(e:s.heap=h)(k:h.IsTuple a x):s.TypeIs KM "tuple" := by
 subst e;obtain⟨o,l,I,_⟩:=k;exact⟨o,l,I⟩
def Yk(prog:F0b)(w:F0c)(E:AAo)(t:Tr):Prop:=∀us A s (b:Array Int) Q,Vs s.heap t us->A.units+t.deep<=cLine ->
 (∀tk l,l.toList=b.toList++JL t->Q l {s with toks:=tk})->wpAny As A (forIn us b fun x r=>do let h <-pyHash x;pure PUnit.unit;pure (ForInStep.yield (r.push h))) Q E s
def O3(row:Yk prog w E t)(I:s.heap.IsTuple a l.toArray)(T:Vs s.heap t l)(U:A.units+t.deep<cLine) (h:∀tk,Q (BD t) {s with toks:=tk}):wpAny As A (pyHash KM) Q E s:=by
 obtain⟨o,M,Y,n,hd⟩:=id I;refine PySem.W.pyHash_slot (IsTuple.ty rfl I) F.slot_tuple_hash F.entry_tuple_hash (F.args_tuple_hash_1 _) (beq_builtin_none _) (.inr AS) ?_;show wpAny _ _ (Builtin.Tuple.tupleItemsOf _>>=_) _ _ s;refine Wb (wpAny_tupleItemsOf M hd (Wb ?_));rw[<-Array.forIn_toList];refine row l A.in1 s #[] _ T AS fun tk b hb=>?_;show wpAny _ _ (retInt _) _ _ _;rw[hb];exact Wb (wpAny_mkInt (aB ⟨_,_,rfl,h _⟩))
theorem Py:∀t ,Yk prog w E t
 |.nil=>fun us A s b Q e _ h=>by subst e;exact aB (h s.toks b (by simp[JL]))
 |.cons c r=>fun us A s b Q e Z h=>by
  obtain⟨a,I,rest,rfl,U,T,M⟩:=e;have hd:(Tr.cons c r).deep=max _ r.deep:=rfl;rw[List.forIn_cons];refine Wb (Wb (O3 (Py c) U T AS fun tk=>Wb (aB ar)));exact Py r rest A _ _ Q M AS fun l Y hb=>h l Y (by simp[hb,JL,BD])
def oh(T:s.heap.IsTuple a l.toArray)(M:Vs s.heap t l)(I:A.units+t.deep<cLine) (h:∀tk,Q (BD t) {s with toks:=tk}):wpAny As A (pyHash KM) Q E s:=O3 (Py t) T M I h
def Good(h:Heap)(n:Nat)(v:VL):Prop:=∃a l t,v=.ref a/\h.IsTuple a l.toArray/\Vs h t l/\t.deep<n
theorem Mb:∀ {t} {us} {n},Vs h t us->t.deep<=n->∀v∈us,Good h n v
 |.nil,us,n,e,_,v,l=>by subst e;cases l
 |.cons c r,us,n,e,hd,v,l=>by
  obtain⟨a,I,rest,rfl,U,T,M⟩:=e;rw[Tr.deep]at hd;rcases aO.mp l with rfl|l
  .exact⟨a,I,c,rfl,U,T,by lia⟩
  .exact Mb M AS v l
theorem X1:∀n {v} {A} {s} {Q},Good s.heap n v->Q true s->wpAny As A (hashByValue n v) Q E s
 |0,v,A,s,Q,⟨_,_,_,_,_,_,z⟩,_=>by lia
 |n+1,v,A,s,Q,⟨a,U,t,e,T,h2,hd⟩,h=>by
  subst e;obtain⟨o,Z,hc,k,I⟩:=id T;refine Wb (wpAny_specialOf (IsTuple.ty rfl T) F.slot_tuple_hash.lookup (Wb (bA Z I (Wb ?_))));rw[<-Array.forIn_toList];refine wpAny_forIn_list _ (fun rest r s'=>r.1=none/\s'=s/\∀v∈rest,Good s.heap n v) _ ?_ ?_ _ _ ⟨rfl,rfl,Mb h2 AS⟩
  .rintro v rest r s' ⟨M,rfl,l⟩;exact Wb (X1 n (l v aR) (aB ⟨rfl,rfl,fun u Y=>by grind⟩))
  .rintro⟨r1,r2⟩ s' ⟨M,rfl,_⟩;subst M;exact aB h
theorem quiet:∀(n:Nat) {v:VL} {A:F0d} {s:SD} {Q},Good s.heap n v->Q true s->wpAny As A (eqIsQuiet n v) Q E s
 |0,v,A,s,Q,⟨_,_,_,_,_,_,z⟩,_=>absurd z (bI _)
 |n+1,v,A,s,Q,⟨a,Z,t,e,Y,h2,hd⟩,h=>by
  subst e;have U:=IsTuple.ty rfl Y;obtain⟨o,ho,hc,k,M⟩:=id Y;unfold eqIsQuiet;refine Wb (wpAny_specialOf U F.slot_tuple_eq.lookup (Wb (wpAny_isInstance U isSubtype_tuple_tuple (Wb (bA ho M (Wb ?_))))));rw[<-Array.forIn_toList];refine wpAny_forIn_list _ (fun rest r s'=>r.1=none/\s'=s/\∀v∈rest,Good s.heap n v) _ ?_ ?_ _ _ ⟨rfl,rfl,Mb h2 AS⟩
  .rintro v rest r s' ⟨T,rfl,l⟩;exact Wb (quiet n (l v aR) (aB ⟨rfl,rfl,fun u I=>l u (aW _ I)⟩))
  .rintro⟨r1,r2⟩ s' ⟨T,rfl,_⟩;subst T;exact aB h
theorem QL:∀(n:Nat) {v:VL} {A:F0d} {s:SD} {Q},Good s.heap n v->Q false s->wpAny As A (ofAClassStatement n v) Q E s
 |0,v,A,s,Q,⟨_,_,_,_,_,_,z⟩,_=>absurd z (bI _)
 |n+1,v,A,s,Q,⟨a,Y,t,e,U,h2,hd⟩,h=>by
  subst e;obtain⟨o,Z,hc,k,M⟩:=id U;unfold ofAClassStatement;refine Wb (wpAny_typeOf (IsTuple.ty rfl U) (Wb ar));refine Wb (bA Z M (Wb ?_));rw[<-Array.forIn_toList];refine wpAny_forIn_list _ (fun rest r s'=>r.1=none/\s'=s/\∀v∈rest,Good s.heap n v) _ ?_ ?_ _ _ ⟨rfl,rfl,Mb h2 AS⟩
  .rintro v rest r s' ⟨T,rfl,l⟩;exact Wb (QL n (l v aR) (aB ⟨rfl,rfl,fun u I=>l u (aW _ I)⟩))
  .rintro⟨r1,r2⟩ s' ⟨T,rfl,_⟩;subst T;exact aB h
def jN{x:VL}{l:AAn}{A:F0d}{s:SD}(hx:Good s.heap 8 x)(hl:∀y∈l,Good s.heap 8 y)(h:Q false s):wpAny As A (searchCouldBeSeen x l) Q E s:=by
  refine Wb ?_
  refine wpAny_forIn_list _ (fun rest r s'=>r.1=none/\s'=s/\∀v∈rest,Good s.heap 8 v) _ ?_ ?_ _ _ ⟨rfl,rfl,hl⟩
  . rintro v rest r s' ⟨hr,rfl,hall⟩
    have go:∀b:Bool,wpAny As A (if b=true then pure (ForInStep.yield (none,())) else do
        let q <-eqIsQuiet 8 x
        if(!q)=true then pure (ForInStep.done (some true,())) else do
          let q <-eqIsQuiet 8 v
          if(!q)=true then pure (ForInStep.done (some true,())) else do
            let q <-ofAClassStatement 8 x
            if q=true then pure (ForInStep.done (some true,())) else do
              let q <-ofAClassStatement 8 v
              if q=true then pure (ForInStep.done (some true,())) else pure (ForInStep.yield (none,())))
        (fun st s''=>match st with
          |ForInStep.yield r=>r.1=none/\s''=s'/\∀v∈rest,Good s'.heap 8 v
          |ForInStep.done r=>False) E s':=fun b=>by
      cases b with
      |true=>exact aB ⟨rfl,rfl,fun u hu'=>hall u (aW _ hu')⟩
      |false=>
        refine Wb (quiet 8 hx (Wb (quiet 8 (hall v aR) (Wb (QL 8 hx (Wb (QL 8 (hall v aR) ?_)))))))
        exact aB ⟨rfl,rfl,fun u hu'=>hall u (aW _ hu')⟩
    refine aU (go _) (fun st s'' z=>?_) fun _ _ z=>z
    cases st with
    |yield r=>exact z
    |done r=>exact z.elim
  . rintro⟨r1,r2⟩ s' ⟨hr,rfl,_⟩
    subst hr
    exact aB h
end
abbrev ES:=Array (Int×Tr)
def PX(l:ES)(i:Nat):Int:=(l[i]?.map Hq).getD 0
def cI(l:ES)(t:SetTable)(x:Tr)(h:Int):Option (Option Nat) :=
 if t.gaveWay then none else
 match t.probe (PX l) h (t.probeStart h) with
 |some (.empty j none)=>some (some j)
 |some (.candidate _ i _)=>match l[i]? with
  |some (_,y)=>if y=x then some none else none
  |none=>none
 |_=>none
def Zx(st:ES×SetTable)(x:Tr):Option (ES×SetTable) :=
 if(st.2.fits st.1.size&&decide (st.1.size<=1000)&&st.2.plain)=false then none else
 match cI st.1 st.2 x (BD x) with
 |none=>none
 |some none=>some st
 |some (some slot)=>
  if(st.2.put slot).1.tooFull=false then some (SetTable.insertAt st.1 (st.2.put slot).2 (BD x,x),(st.2.put slot).1) else
  if((st.2.put slot).1.fits (SetTable.insertAt st.1 (st.2.put slot).2 (BD x,x)).size&&decide (SetTable.sizeAbove (SetTable.grown (st.1.size+1))<=100000))=false then none else
  match (st.2.put slot).1.relaid ((SetTable.insertAt st.1 (st.2.put slot).2 (BD x,x)).map Hq) (SetTable.grown (st.1.size+1)) with
  |none=>none
  |some (l,order)=>
   if(order.filterMap ((SetTable.insertAt st.1 (st.2.put slot).2 (BD x,x))[·]?)).size=(SetTable.insertAt st.1 (st.2.put slot).2 (BD x,x)).size then
    some (order.filterMap ((SetTable.insertAt st.1 (st.2.put slot).2 (BD x,x))[·]?),l) else none
def Ww(G:VL->Tr->Prop)(h:Heap)(p:Int×VL)(q:Int×Tr):Prop:=p.1=q.1/\q.2.deep<8/\G p.2 q.2/\∃a l,p.2=.ref a/\h.IsTuple a l.toArray/\Vs h q.2 l
abbrev DP(G:VL->Tr->Prop)(h:Heap)(ev:Array (Int×VL))(l:ES):Prop:=Paired (Ww G h) ev.toList l.toList
variable{G:VL->Tr->Prop}
section
variable{α β:Type}{F:α->β->Prop}
theorem Paired.get:∀ {l} {m},Paired F l m->∀ {i:Nat} {y},m[i]? = some y->∃x,l[i]? = some x/\F x y
 |_,_,.nil,i,y,h=>by grind
 |_,_,.cons I r,0,y,h=>by grind
 |_,_,.cons I r,i+1,y,h=>Paired.get r GM
def Paired.none:∀ {l} {m},Paired F l m->∀ {i:Nat},m[i]? = Option.none->l[i]? = Option.none:=fun {l m} r i h=>by
 have:=r.length
 grind
theorem Paired.app(k:Paired F M I):∀ {l} {m},Paired F l m->Paired F (l++M) (m++I)
 |_,_,.nil=>k
 |_,_,.cons h r=>.cons h (Paired.app k r)
theorem Paired.take:∀ {l} {m} n,Paired F l m->Paired F (l.take n) (m.take n)
 |_,_,0,_=>by simpa using Paired.nil
 |_,_,n+1,.nil=>by simpa using Paired.nil
 |_,_,n+1,.cons h r=>.cons h (Paired.take n r)
theorem Paired.drop:∀ {l} {m} n,Paired F l m->Paired F (l.drop n) (m.drop n)
 |_,_,0,h=>h
 |_,_,n+1,.nil=>by simpa using Paired.nil
 |_,_,n+1,.cons h r=>Paired.drop n r
theorem Paired.pick(r:Paired F l m):∀(o:List Nat),Paired F (o.filterMap (l[·]?)) (o.filterMap (m[·]?))
 |[]=>.nil
 |i::o=>by
  rw[(Sf),(Sf)];cases e:m[i]? with
  |none=>rw[Paired.none r e];exact Paired.pick r o
  |some y=>
   obtain⟨x,I,h⟩:=Paired.get r e;rw[I];exact .cons h (Paired.pick r o)
theorem Paired.imp{G}(h:∀a b,F a b->G a b):∀ {l} {m},Paired F l m->Paired G l m
 |_,_,.nil=>.nil
 |_,_,.cons k r=>.cons (h _ _ k) (Paired.imp h r)
end
def Iw xs p (x:α):(SetTable.insertAt xs p x).toList=xs.toList.take p++x::xs.toList.drop p:=by
 unfold SetTable.insertAt;simp;rw[List.take_of_length_le By]
def DP.fst(r:DP G h ev M):ev.map Hq=M.map Hq:=by
 apply Array.toList_inj.mp
 simpa using (show ∀ {l:List _} {m:List _},Paired _ l m->l.map _=m.map _ from fun r=>by
  induction r with
  |nil=>rfl
  |cons k _ I=>rw[(BR),(BR),I,k.1]) r
def DP.size(r:DP G h ev l):ev.size=l.size:=by simpa using Paired.length r
theorem DP.PX(r:DP G h ev l) i:(ev[i]?.map Hq).getD 0=PX l i:=by
 have:=ae (fun a=>a[i]?) r.fst;simp at this;rw[TH.PX,this]
def DP.good(r:DP G h ev Z):∀p∈ev.toList,Good h 8 p.2:=(show ∀ {l:List _} {m:List _},Paired _ l m->∀p∈l,Good h 8 p.2 from fun r=>by
  induction r with
  |nil=>simp
  |cons k _ Y=>
   intro p M;rcases aO.mp M with rfl|M
   .obtain⟨_,hd,_,a,I,e,U,T⟩:=k;exact⟨a,I,_,e,U,T,hd⟩
   grind) r
def DP.at(r:DP G h ev I){i:Nat}(e:I[i]? = some (z,y)):∃a l,ev[i]? = some (z,.ref a)/\h.IsTuple a l.toArray/\Vs h y l/\y.deep<8:=by
 obtain⟨⟨M,v⟩,Z,Y,hd,_,a,l,e2,U,T⟩:=Paired.get r (by simpa using e)
 grind
def DP.keeps(k:P3)(r:DP G h ev Z):DP G h' ev Z :=
 Paired.imp (fun p q ⟨e,hd,hg,a,l,e2,Y,U⟩=>⟨e,hd,hg,a,l,e2,(let⟨o,T,M,n,I⟩:=Y;⟨o,k _ _ T M,M,n,I⟩),U.keeps k⟩) r
section
variable{prog:F0b}{w:F0c}{E:AAo}{A:F0d}{s:SD}{a xa:AD}{o:Obj}{ev:Array (Int×VL)}{et:ES}{ep:Nat}{t:SetTable}{x:Tr}{its:AAn}{h:Int}
def eT{r:Option Nat}{Q:SetFound->SD->Prop}(ho:s.heap.get? a=some o)(hd:o.data=.set ev ep t)(hf:t.fits et.size=true)(R:DP G s.heap ev et)(M:s.heap.IsTuple xa its.toArray)(I:Vs s.heap x its)(hxd:x.deep<8) (hu:A.units+8<cLine)(l:cI et t x h=some r)(h0:r=none->Q (.there none) s)(h1:∀j,r=some j->Q (.free j false) s):wpAny As A (setSearch a (.ref xa) h true) Q E s:=by
 have T:t.fits ev.size=true:=by rw[R.size];exact hf
 unfold cI at l;by_cases hg:t.gaveWay=true
 .rw[if_pos hg]at l;cases l
 rw[if_neg hg]at l;unfold setSearch;rw[show(100000:Nat)=99999+1 from rfl,setSearchFrom];refine Wb (au ho hd T ?_);dsimp only;rw[if_neg hg];have Z:∀f:Nat->Int,(∀i,f i=PX et i)->t.probe f h ((none:Option SetTable.Probe).getD (t.probeStart h))=t.probe (PX et) h (t.probeStart h):=fun f hf=>by
  rw[show f=PX et from funext hf];rfl
 generalize U:t.probe _ h ((none:Option SetTable.Probe).getD (t.probeStart h))=pr;have Y:pr=t.probe (PX et) h (t.probeStart h):=U.symm.trans (Z _ fun i=>R.PX i);clear U Z;subst Y;cases hp:t.probe (PX et) h (t.probeStart h) with
 |none=>rw[hp]at l;cases l
 |some met=>
  rw[hp]at l;cases met with
  |empty j dummy=>
   cases dummy with
   |none=>cases l;exact aB (h1 j rfl)
   |some d=>cases l
  |candidate j i next=>
   cases he:et[i]? with
   |none=>simp only[he]at l;cases l
   |some zy=>
    obtain⟨z,y⟩:=zy;simp only[he]at l;by_cases hy:y=x
    .rw[if_pos hy]at l;cases l;subst hy;obtain⟨b,its2,e1,e2,e3,e4⟩:=R.at he;cases hl:t.led with
     |true=>
      simp only[Bool.not_true,Bool.false_eq_true,if_false];rw[e1];refine Wb (aS (Vm e2 e3 M I AS prog w E _ ?_));rw[decide_eq_true rfl];refine Wb (au ho hd T ?_);exact aB (h0 rfl)
     |false=>
      simp only[Bool.not_false,if_true];refine Wb (jN ⟨xa,its,_,rfl,M,I,hxd⟩ (fun v hv=>?_) ?_)
      .obtain⟨p,hp1,rfl⟩:=aI.mp hv;exact R.good p (Array.mem_toList_iff.mpr (Array.mem_filter.mp (Array.mem_toList_iff.mp hp1)).1)
      simp only[Bool.false_eq_true,if_false];rw[e1];refine Wb (aS (Vm e2 e3 M I AS prog w E _ ?_));rw[decide_eq_true rfl];refine Wb (au ho hd T ?_);exact aB (h0 rfl)
    .rw[if_neg hy]at l;cases l
def HX(h:n<=100000):n<=sizeLine:=aQ h AC
def Zj{I:Heap}(M:I.get? a=some o)(hd:o.data=.set ev ep t) l t':(I.update a (Obj.putSet l t')).get? a=some {o with data:=.set l (ep+1) t'}:=by
 have:=Heap.get?_update_self (Obj.putSet l t') M (by rw[putSet_of l t' hd];rfl);rw[putSet_of l t' hd]at this
 lia
def XR{l:Heap}(M:l.get? a=some o)(T:o.cls=.type "set") g:∀b u,l.get? b=some u->u.cls=.type "tuple" ->(l.update a g).get? b=some u:=fun b u q I=>by
 rw[Heap.get?_update_other _ _ (fun z=>by
  lia)]
 lia
def sI{et' : ES}{t' : SetTable}{Q : Bool->SD->Prop}(ho : s.heap.get? a = some o)(hc : o.cls = .type "set")(hd : o.data = .set ev ep t)(R : DP G s.heap ev et)(hx1 : s.heap.IsTuple xa its.toArray)(hx2 : Vs s.heap x its)(hxd : x.deep < 8)(hxg : G (.ref xa) x) (hu : A.units + 8 < cLine)(hs : Zx (et,t) x = some (et',t')) (k : ∀ (b : Bool) (h' : Heap) (tk : Nat) (ev' : Array (Int×VL)) (ep' : Nat),Heap.SameBut a s.heap h'->h'.get? a = some { o with data:=.set ev' ep' t' }->DP G h' ev' et'->Q b { s with heap:=h',toks:=tk }):wpAny As A (setAdd a (.ref xa)) Q E s:=by
  unfold setAdd
  refine aS (Wb (oh hx1 hx2 AS fun tk => ?_))
  unfold setAddHashed
  refine aS ?_
  unfold Zx at hs
  by_cases h1 : (t.fits et.size && decide (et.size<=1000) && t.plain) = false
  . rw [if_pos h1] at hs; cases hs
  rw [if_neg h1] at hs
  simp only [Bool.not_eq_false,Bool.and_eq_true,decide_eq_true_eq] at h1
  obtain ⟨⟨hf,hz⟩,hpl⟩:=h1
  have hf' : t.fits ev.size = true:=by rw [R.size]; exact hf
  cases hsr : cI et t x (BD x) with
  | none => simp only [hsr] at hs; cases hs
  | some r=>
    simp only [hsr] at hs
    rw [show (100000 : Nat) = 99999 + 1 from rfl,setAddHashedIn]
    refine Wb (au (s:={ s with toks:=tk }) ho hd hf' ?_)
    dsimp only
    have hbs : byScan (.ref xa) ev = false:=rfl
    rw [hbs,if_neg aK]
    refine Wb (eT (s:={ s with toks:=tk }) ho hd hf R hx1 hx2 hxd hu hsr (fun hr => ?_) fun j hr => ?_)
    . subst hr
      cases hs
      exact aB (k _ s.heap tk ev ep (Heap.SameBut.refl ..) (by rw [ho,<- hd]) R)
    . subst hr
      dsimp only at hs ⊢
      refine Wb (au (s:={ s with toks:=tk }) ho hd hf' ?_)
      dsimp only
      have hpl2 : (t.put j).1.plain = true:=hpl
      rw [if_pos hpl2]
      refine Wb (X1 8 (s:={ s with toks:=tk }) ⟨xa,its,x,rfl,hx1,hx2,hxd⟩ ?_)
      simp only [if_true]
      have R1 : DP G s.heap WP (SetTable.insertAt et (t.put j).2 (BD x,x)):=by
        unfold DP
        rw [Iw,Iw]
        exact Paired.app (.cons ⟨rfl,hxd,hxg,xa,its,rfl,hx1,hx2⟩ (Paired.drop _ R)) (Paired.take _ R)
      have hz1 : (SetTable.insertAt ev (t.put j).2 (BD x,Value.ref xa)).size<=1001:=by
        have h2:=ae List.length (Iw ev (t.put j).2 (BD x,Value.ref xa))
        simp only [Array.length_toList,List.length_append,List.length_take,List.length_cons,List.length_drop] at h2
        have:=R.size
        lia
      have hz2 : (SetTable.insertAt et (t.put j).2 (BD x,x)).size = (SetTable.insertAt ev (t.put j).2 (BD x,Value.ref xa)).size:=R1.size.symm
      refine Wb (wpAny_storeSet_of (s:={ s with toks:=tk }) ho hd ?_ (HX AS))
      have g1:=Zj ho hd WP (t.put j).1
      have k1:=XR ho hc (Obj.putSet WP (t.put j).1)
      have sb1:=aZ s.heap a (Obj.putSet WP (t.put j).1)
      by_cases hfull : (t.put j).1.tooFull = false
      . rw [if_pos hfull] at hs
        cases hs
        rw [hfull]
        simp only [Bool.and_false,Bool.false_eq_true,if_false]
        exact aB (k _ _ tk _ _ sb1 g1 (R1.keeps k1))
      . rw [if_neg hfull] at hs
        have hfull : (t.put j).1.tooFull = true:=by simpa using hfull
        rw [hfull]
        simp only [Bool.not_false,Bool.and_true,if_true]
        by_cases h2 : ((t.put j).1.fits (SetTable.insertAt et (t.put j).2 (BD x,x)).size && decide (SetTable.sizeAbove (SetTable.grown (et.size + 1))<=100000)) = false
        . rw [if_pos h2] at hs; cases hs
        rw [if_neg h2] at hs
        simp only [Bool.not_eq_false,Bool.and_eq_true,decide_eq_true_eq] at h2
        obtain ⟨hfit,hsa⟩:=h2
        cases hrl : (t.put j).1.relaid ((SetTable.insertAt et (t.put j).2 (BD x,x)).map Hq) (SetTable.grown (et.size + 1)) with
        | none => simp only [hrl] at hs; cases hs
        | some to=>
          obtain ⟨t2,order⟩:=to
          simp only [hrl] at hs
          by_cases h3 : (order.filterMap ((SetTable.insertAt et (t.put j).2 (BD x,x))[·]?)).size = (SetTable.insertAt et (t.put j).2 (BD x,x)).size
          . rw [if_pos h3] at hs
            cases hs
            have R2 : DP G s.heap (order.filterMap GE) (order.filterMap ((SetTable.insertAt et (t.put j).2 (BD x,x))[·]?)):=by
              unfold DP
              have:=Paired.pick R1 order.toList
              simpa using this
            have g2:=Zj g1 rfl (order.filterMap GE) t'
            have k2:=XR g1 hc (Obj.putSet (order.filterMap GE) t')
            have sb2:=aZ (s.heap.update a (Obj.putSet WP (t.put j).1)) a (Obj.putSet (order.filterMap GE) t')
            refine Wb ?_
            unfold setRelay
            refine Wb (au g1 rfl (by rw [<- hz2]; exact hfit) ?_)
            dsimp only
            rw [R.size,if_neg (Nat.not_lt.mpr (HX hsa))]
            refine Wb ?_
            rw [R1.fst,hrl]
            have hsz : (order.filterMap GE).size = (SetTable.insertAt ev (t.put j).2 (BD x,Value.ref xa)).size:=by rw [R2.size,h3,hz2]
            have hne : ¬ ((order.filterMap GE).size != (SetTable.insertAt ev (t.put j).2 (BD x,Value.ref xa)).size) = true:=by simp [hsz]
            show wpAny _ _ (do if (order.filterMap GE).size != (SetTable.insertAt ev (t.put j).2 (BD x,Value.ref xa)).size then unsupported "internal:set-table-lost-an-element"
                               pure (order.filterMap GE,t')) _ _ _
            rw [if_neg hne]
            refine aB ?_
            refine wpAny_storeSet_of g1 rfl ?_ (HX (by rw [hsz]; lia))
            exact aB (k _ _ tk _ _ (sb1.trans sb2) g2 ((R2.keeps k1).keeps k2))
          . rw [if_neg h3] at hs; cases hs
end
end TH
namespace TH
open PySem
def Nb(st:ES×SetTable):List Tr->Option (ES×SetTable)
 |[]=>some st
 |x::r=>(Zx st x).bind fun l=>Nb l r
def LU(led:Bool):ES×SetTable:=(#[],.fresh 0 0 led)
def Qv(st:ES×SetTable):ABD:=st.1.toList.map (·.2)
end TH
namespace TH
open PySem PyProof.Rows PySem.SeqAt
def VT(G:VL->Tr->Prop)(h:Heap)(v:VL)(x:Tr):Prop:=x.deep<8/\G v x/\∃a l,v=.ref a/\h.IsTuple a l.toArray/\Vs h x l
abbrev Jc(G:VL->Tr->Prop)(h:Heap)(vs:List VL)(xs:List Tr):Prop:=Paired (VT G h) vs xs
variable{G:VL->Tr->Prop}
def VT.keeps(k:P3)(r:VT G h v x):VT G h' v x:=let⟨hd,hg,a,l,e,Y,U⟩:=r;⟨hd,hg,a,l,e,(let⟨o,T,M,n,I⟩:=Y;⟨o,k _ _ T M,M,n,I⟩),U.keeps k⟩
def Jc.keeps(k:P3)(r:Jc G h vs xs):Jc G h' vs xs:=Paired.imp (fun _ _ z=>z.keeps k) r
def MO(G:VL->Tr->Prop)(h:Heap)(S:AD)(st:ES×SetTable):Prop:=∃o ev ep,h.get? S=some o/\o.ExactSet/\o.data=.set ev ep st.2/\DP G h ev st.1
def MO.keeps{st}(x:MO G h S st)(l:∀o,h.get? S=some o->h'.get? S=some o)(k:P3):MO G h' S st:=let⟨o,ev,ep,U,T,M,I⟩:=x;⟨o,ev,ep,l _ U,T,M,I.keeps k⟩
section
variable{prog:F0b}{w:F0c}{A:F0d}{R:Result->SD->Prop}{I S:AD}{fp wr:ABF}{St:Nat->Heap->Prop}{items:Array VL}{xs:ABD}{st':ES×SetTable}
def rL(W:Walks prog w A.in1 I fp wr items.size (fun i v=>items[i]? = some v) St)(hSf:S ∉ fp)(hcl:∀i h b o,St i h->b∈wr->h.get? b=some o->o.cls≠.type "tuple")(hu:A.units+10<cLine):∀(k i:Nat) (s:SD) (st:ES×SetTable),items.size-i=k->i<=items.size->St i s.heap->MO G s.heap S st->Jc G s.heap items.toList xs->Nb st (xs.drop i)=some st' ->(∀(h':Heap) (tk:Nat),(∀b o,b≠S->b ∉ wr->s.heap.get? b=some o->h'.get? b=some o)->(∀b o,s.heap.get? b=some o->o.cls=.type "tuple" -> h'.get? b=some o)->MO G h' S st'->R (.ok (.ret .none)) Ix) ->codeAny As A (.builtin "set.update.loop" ⟨[.ref S,.ref I],[]⟩) R s:=by
 have hSw:S ∉ wr:=fun h=>hSf (W.sub _ h);intro k
 induction k with
 |zero=>
  intro i s st hk hi T hS hT l hR;have hin:i=items.size:=by lia
  subst hin;have U:=Paired.length hT;rw[List.drop_of_length_le (by rw[<-U];simp)]at l;cases l;refine codeAny_builtin F.entry_set_update_loop ?_;rw[Around.under_plainId F.plain_set_update_loop _];show wpAny _ A.in1 (pyNext (.ref I)>>=_) _ _ s;refine Wb (W.done s _ _ T fun h' tk hm=>?_);show wpAny _ A.in1 (ret Value.none) _ _ _;have kt:∀b o,s.heap.get? b=some o->o.cls=.type "tuple" -> h'.get? b=some o:=fun b o e M=>hm b o (fun hb=>hcl _ _ b o T hb e M) e;exact aB (hR h' tk (fun b o _ hb e=>hm b o hb e) kt (hS.keeps (fun o e=>hm S o hSw e) kt))
 |succ k ih=>
  intro i s st hk hi T hS hT l hR;have Z:i<items.size:=by lia
  refine codeAny_builtin F.entry_set_update_loop ?_;rw[Around.under_plainId F.plain_set_update_loop _];show wpAny _ A.in1 (pyNext (.ref I)>>=_) _ _ s;refine Wb (W.item i s _ _ Z T fun v h1 tk hP hst' hm=>?_);have kt:∀b o,s.heap.get? b=some o->o.cls=.type "tuple" -> h1.get? b=some o:=fun b o e M=>hm b o (fun hb=>hcl _ _ b o T hb e M) e;have hS1:=hS.keeps (fun o e=>hm S o hSw e) kt;have hT1:=hT.keeps kt;have U:=Paired.length hT;have hxi:i<xs.length:=by rw[<-U];simpa using Z
  have hx:xs[i]? = some xs[i]:=aj hxi;obtain⟨v',hv',hxd,hxg,xa,its,e1,e2,e3⟩:=Paired.get hT1 hx;have hvv:v'=v:=by
   have h2:items.toList[i]? = some v:=by simpa using hP
   rw[h2]at hv';exact(af hv').symm
  subst hvv;subst e1;rw[List.drop_eq_getElem_cons hxi,Nb]at l;cases Y:Zx st xs[i]with
  |none=>rw[Y]at l;cases l
  |some st1=>
   rw[Y]at l;obtain⟨o,ev,ep,g1,g2,g3,g4⟩:=hS1;obtain⟨et,t⟩:=st;obtain⟨et1,t1⟩:=st1;show wpAny _ A.in1 (holding [Value.ref xa] (setAdd S (.ref xa))>>=_) _ _ _;refine Wb (aS (sI (s:={s with heap:=h1,toks:=tk}) g1 g2.1 g3 g4 e2 e3 hxd hxg (by rw[Around.in1_units];lia) Y fun b h2 tk2 ev2 ep2 sb gS R2=>?_));have kt2:∀b o,h1.get? b=some o->o.cls=.type "tuple" -> h2.get? b=some o:=fun b o' e M=>by
    rw[sb.2 b fun z=>?_]
    .exact e
    .subst z;rw[g1]at e;cases e;rw[g2.1]at M
     injection M with M
     exact absurd M AC
   refine aB ⟨plainId_quiet F.plain_set_update_loop _,ih SB {s with heap:=h2,toks:=tk2} (et1,t1) AS Z (W.frame _ _ _ hst' fun b hb o' e=>?_) ⟨_,ev2,ep2,gS,g2,rfl,R2⟩ (hT1.keeps kt2) l fun h3 tk3 m3 kt3 S3=>?_⟩
   .rw[sb.2 b fun z=>hSf (z ▸ hb)];exact e
   .refine hR h3 tk3 (fun b o' hbS hb e=>?_) (fun b o' e M=>kt3 b o' (kt2 b o' (kt b o' e M) M) M) S3;refine m3 b o' hbS hb ?_;show h2.get? b=some o';rw[sb.2 b hbS];exact hm b o' hb e
end
end TH
namespace TH
open PySem PyProof.Rows PySem.SeqAt
section
variable{G:VL->Tr->Prop}{prog:F0b}{w:F0c}{A:F0d}{E:AAo}{s:SD}{l:AD}{us:AAn}{xs:ABD}
abbrev F5(led:Bool):Obj:={ cls:=.type "set",dict:=none,data:=.set #[] 0 (.fresh 0 0 led)}
def dY(v:VL)(k:Q1 Go {s with heap:=s.heap.push (F5 (!w.params.followText "set-order"))}):codeAny As A (.call (.builtin "set.__new__") ⟨[.type "set",v],[]⟩) (wants Q1 E) s:=by
 refine codeAny_of_tree (?_);refine Wb (wpAny_of_eq (F.newCall_set_1 v) (aB ⟨plainId_quiet F.plain_set_new _,codeAny_builtin F.entry_set_new ?_⟩));unfold Builtin.«set.__new__»;unfold Builtin.Frozenset.newClass;have q:=sub_set_self;dsimp only
 wp_walk
 refine wpAny_askSetting ar;dsimp only;simp only[newObj];exact Wb (wpAny_alloc (aB (aB k)))
def YX{Q:AAo}(hA:A.handled=none)(hL:s.heap.IsList l us.toArray)(hT:Jc G s.heap us xs)(hu:A.units+20<cLine){st:ES×SetTable}(Y:Nb (LU (!w.params.followText "set-order")) xs=some st) (k:∀(M:Heap) (tk:Nat),MO G M s.heap.objs.size st->(∀b u,s.heap.get? b=some u->M.get? b=some u)->Q Go {s with heap:=M,toks:=tk}):wpAny As A (call (.type "set") [.ref l]) Q E s:=by
 obtain⟨mc,mt,hmro⟩:=F.called_set.mro;have q1:=F.called_set.made;have q2:=F.called_set.sub;have q3:=F.called_set.notType;have q4:=F.called_set.canCreate;have q5:=F.typeCall_set_1 (.ref l);refine wpAny_call (codeAny_of_tree (show wpAny _ _ (callAny (.type "set") _) _ _ _ from ?_));refine aB ⟨Code.quiet_builtin _ (by decide +kernel),codeAny_builtin F.entry_type_call ?_⟩;rw[Around.under_plain (weight_type_call_type "set" [.ref l] []) rfl]
 repeat (any_goals (first|assumption|wp_step))
 have hnew:=dY (prog:=prog) (w:=w) (s:=s) (A:=A.in1) (E:=E) (.ref l) (Q1:=fun v s1=>v=.ref s.heap.objs.size/\s1={s with heap:=s.heap.push (F5 (!w.params.followText "set-order"))}) ⟨rfl,rfl⟩;refine codeAny_mono hnew fun r s1 Z=>?_;cases r with
 |error e=>exact Z
 |ok fl=>
  cases fl with
  |next=>exact Z.elim
  |brk=>exact Z.elim
  |cont=>exact Z.elim
  |ret obj=>
   obtain⟨rfl,rfl⟩:=Z;generalize (!w.params.followText "set-order")=led at Y;have gS:(s.heap.push (F5 led)).get? s.heap.objs.size=some (F5 led):=aN _ rfl;have tS:Shared.TypeIs {s with heap:=s.heap.push (F5 led)} Go "set" := ⟨_,gS,rfl⟩;have q6:=F.called_set.init.lookup;have q7:=F.called_set.init.bind Go
   repeat (any_goals (first|assumption|wp_step))
   have T:codeAny As A.in1 (.call (.builtin "set.__init__") ⟨[.ref s.heap.objs.size,.ref l],[]⟩)
     (wants (fun v s2=>v=.none/\∃M tk,s2={s with heap:=M,toks:=tk}/\MO G M s.heap.objs.size st/\∀b u,s.heap.get? b=some u->M.get? b=some u) E) {s with heap:=s.heap.push (F5 led)}:=by
    refine codeAny_call_builtin F.called_set.init.plain F.entry_set_init (check_set_init_1 tS ?_);obtain⟨⟨c0,d0,dt0,sl0⟩,gl,c1,n0,dt1⟩:=id hL;simp only at c1 dt1;subst c1 dt1;have gl1:(s.heap.push (F5 led)).get? l=some ⟨.type "list",d0,.seq us.toArray n0,sl0⟩:=aE _ gl;have U:(s.heap.push (F5 led)).IsList l us.toArray:=⟨_,gl1,rfl,n0,rfl⟩;have s1:=F.sub_list_set;have s2:=F.sub_list_frozenset;have s3:(Value.type "list" == Value.type "dict")=false:=by decide
    unfold Builtin.«set.__init__» noKeywords Builtin.Frozenset.updateFrom;generalize ePI:pyIter=PI
    wp_walk
    subst ePI;refine wpAny_pyIter_list U (Wb (wpAny_runValue ?_));have ll:l<s.heap.objs.size:=aH gl;have zI:(s.heap.push (F5 led)).objs.size=s.heap.objs.size+1:=Heap.size_push ..;have neI:l≠(s.heap.push (F5 led)).objs.size:=by rw[zI];exact aJ (Nat.lt_succ_of_lt ll)
    have nfp:s.heap.objs.size ∉ [(s.heap.push (F5 led)).objs.size,l]:=by
     simp only[List.mem_cons,List.not_mem_nil,or_false,not_or];exact⟨by rw[zI];exact aJ (bJ _),Nat.ne_of_gt ll⟩
    have hA3:A.in1.in1.in1.handled=none:=by simp[hA]
    refine rL (G:=G) (xs:=xs) (st':=st) (Walks.list hA3 _ l neI us.toArray) nfp (fun i h b o hit hb e hc=>?_) (by simp only[Around.in1_units];lia) _ 0 _ (LU led) rfl (az _) ⟨⟨_,Heap.get?_push_size _ rfl,rfl,rfl⟩,U.push _⟩ ?_ ?_ Y fun M tk m2 kt2 S2=>?_
    .obtain⟨⟨oi,gi,ci,_⟩,_⟩:=hit;have:b=(s.heap.push (F5 led)).objs.size:=by simpa using hb
     subst this;rw[gi]at e;cases e;rw[ci]at hc
     injection hc with hc
     exact absurd hc AC
    .exact⟨F5 led,#[],0,Heap.get?_push_of_some _ gS,⟨rfl,rfl,rfl⟩,rfl,.nil⟩
    .exact hT.keeps fun b o e _=>aE _ (aE _ e)
    .refine aB ?_;show wpAny _ _ (ret Value.none) _ _ _;refine aB ⟨rfl,M,tk,rfl,S2,fun b u e=>?_⟩;have lb:b<s.heap.objs.size:=aH e;refine m2 b u (aJ lb) ?_ (aE _ (aE _ e));simp only[List.mem_cons,List.not_mem_nil,or_false];rw[zI];exact aJ (Nat.lt_succ_of_lt lb)
   refine codeAny_mono T fun r2 s2 I=>?_;cases r2 with
   |error e=>exact I
   |ok f2=>
    cases f2 with
    |next=>exact I.elim
    |brk=>exact I.elim
    |cont=>exact I.elim
    |ret v2=>
     obtain⟨rfl,M,tk,rfl,S2,k2⟩:=I
     repeat (any_goals (first|assumption|wp_step))
     exact k M tk S2 k2
end
def Tq:entryFor table "set.__iter__" = some Builtin.«frozenset.__iter__» :=
 entryFor_alias (id' := "frozenset.__iter__") IO rfl (by decide +kernel) IO
def EK:Slot "set_iterator" "__next__" "set_iterator.__next__" :=
 .of (owner := "set_iterator") (n := "__next__") IO Iq
  (by rfl) Iq (by first|exact .inl (by decide +kernel)|lia) IO
def LX:entryFor table "set_iterator.__next__" = some Builtin.«set_iterator.__next__»:=entryFor_of_fast Iq
def Mq a:argsOk "set_iterator.__next__" ⟨[a],[]⟩:=by rfl
def Mo:Slot "set_iterator" "__iter__" "set_iterator.__iter__" :=
 .of (owner := "set_iterator") (n := "__iter__") IO Iq
  (by decide +kernel) Iq (by first|exact .inl (by decide +kernel)|lia) IO
def Se:entryFor table "set_iterator.__iter__" = some Builtin.«dict_keyiterator.__iter__» :=
 entryFor_alias (id' := "dict_keyiterator.__iter__") IO rfl (by decide +kernel) IO
def VQ a:argsOk "set_iterator.__iter__" ⟨[a],[]⟩:=by rfl
section
variable{α:Type}{next:Nat->Nat}
theorem Ys:∀n k (left:List α) out,left.length=n->(pickOrder.go next n k left out).toList.Perm (out.toList++left)
 |0,k,left,out,h=>by
  have:=List.eq_nil_of_length_eq_zero h;subst this;rw[pickOrder.go];simp
 |n+1,k,left,out,h=>by
  rw[pickOrder.go];have l:next k % left.length<left.length:=Nat.mod_lt _ AS;rw[List.getElem?_eq_getElem l];refine(Ys n _ _ _ GM).trans ?_;rw[Array.toList_push,List.append_assoc];refine List.Perm.append_left _ ?_;rw[List.eraseIdx_eq_take_drop_succ];have p:=List.perm_middle (a:=left[next k % left.length]) (l₁:=left.take (next k % left.length)) (l₂:=left.drop (next k % left.length+1));rw[(show left.take _++left[next k % left.length]::left.drop _=left by simp)]at p;exact p.symm
def gZ(xs:Array α):(pickOrder next xs).toList.Perm xs.toList:=by
 unfold pickOrder
 simpa using Ys xs.size 0 xs.toList #[] By
end
def GQ(w:F0c)(S:AD)(ep:Nat)(ev:Array (Int×VL)):Array (Int×VL):=if w.params.followText "set-order" = true then pickOrder (w.params.setOrder S ep) ev else ev
def Uc w S ep ev:(GQ w S ep ev).toList.Perm ev.toList:=by
 unfold GQ;split
 .exact gZ ev
 rfl
def Kg w S ep ev:(GQ w S ep ev).size=ev.size:=by simpa using (Uc w S ep ev).length_eq
def Jq(t:SetTable):Nat->Nat
 |0=>0
 |i+1=>t.place.getD i 0+1
def FT(w:F0c)(t:SetTable)(i:Nat):Nat:=if w.params.followText "set-order" = true then 0 else Jq t i
def RB(t:SetTable)(n:Nat):Bool:=(List.range (n+1)).all fun i=>decide (SetTable.below t.place (Jq t i)=i)
abbrev Ke(w:F0c)(S:AD)(t:SetTable)(ep n i:Nat):Obj:={ cls:=.type "set_iterator",data:=.fields #[rawInt ((FT w t i)),rawInt i,.ref S,rawInt n,rawInt ep]}
structure FA(w:World)(o:Obj)(ev:Array (Int×Value))(ep:Nat)(t:SetTable):Prop where
 ex:o.ExactSet
 dat:o.data=.set ev ep t
 fit:t.fits ev.size=true
 plain:t.plain=true
 led:t.led=!w.params.followText "set-order"
 walk:RB t ev.size=true
section
variable{prog:F0b}{w:F0c}{A:F0d}{E:AAo}{s:SD}{S I:AD}{o:Obj}{ev:Array (Int×VL)}{ep i:Nat}{t:SetTable}
def Sz(h:Q (w.params.followText "set-order") s):wpAny As A setsByText Q E s:=Wb (wpAny_askSetting (aB h))
def FA.gA(W:FA w o ev ep t):(!t.plain&&decide (ev.size > 1))=false:=by rw[W.plain];rfl
def FA.place(W:FA w o ev ep t):t.place.size=ev.size:=by
 have:=W.fit;unfold SetTable.fits at this
 lia
def WK(W:FA w o ev ep t)(Z:s.heap.get? S=some o)(hi:i<=ev.size)(h:Q ((GQ w S ep ev)[i]?.map fun e=>(e.2,FT w t SB)) s):wpAny As A (setNext S (FT w t i) i ep) Q E s:=by
 unfold setNext;refine Wb (au Z W.dat W.fit ?_);refine Wb (Sz ?_);cases hb:w.params.followText "set-order" with
 |true=>
  rw[if_pos rfl];have T:¬(ep != ep)=true:=by simp
  rw[if_neg T];unfold setWalk;refine Wb (Wb (au Z W.dat W.fit ?_));refine Wb (Sz ?_);rw[if_pos hb];refine Wb (wpAny_askSetting ar);refine aB ?_;have e:GQ w S ep ev=pickOrder (w.params.setOrder S ep) ev:=by unfold GQ;rw[if_pos hb]
  rw[e]at h;have U:FT w t i=FT w t SB:=by unfold FT;rw[if_pos hb,if_pos hb]
  rw[U];exact h
 |false=>
  rw[if_neg aK];refine wpAny_ite_split (fun hd=>?_) fun _=>?_
  .have:(!t.plain&&decide (ev.size > 1))=true:=hd;rw[W.gA]at this;cases this
  .refine Wb ?_;have hl:t.led=true:=by rw[W.led,hb];rfl
   have hn:¬(!t.led && !ev.isEmpty)=true:=by rw[hl];simp
   show wpAny _ _ (if _=true then unsupported "set:maker-not-led" else pure ()) _ _ _;rw[if_neg hn];refine aB ar;have l:=W.walk;have l:=bG.mp l i (List.mem_range.mpr AS);have l:=by simpa using l
   have e1:FT w t i=Jq t i:=by unfold FT;rw[hb];rfl
   have U:FT w t SB=Jq t SB:=by unfold FT;rw[hb];rfl
   have e3:GQ w S ep ev=ev:=by unfold GQ;rw[hb];rfl
   rw[U,e3]at h;rw[e1,l];by_cases M:i<ev.size
   .have Y:i<t.place.size:=by rw[W.place];exact M
    rw[Array.getElem?_eq_getElem M]at h ⊢;rw[Array.getElem?_eq_getElem Y];have e4:Jq t SB=t.place[i]+1:=by
     rw[Jq,(X3),Array.getElem?_eq_getElem Y]
     rfl
    rw[e4]at h;exact h
   .rw[Array.getElem?_eq_none AS]at h ⊢;exact h
def kZ{Q:Option VL->SD->Prop}{z:Int}{v:VL}(W:FA w o ev ep t)(U:s.heap.get? S=some o)(l:s.heap.get? I=some (Ke w S t ep ev.size i))(T:(GQ w S ep ev)[i]? = some (z,v)) (h:∀h',h'.get? I=some (Ke w S t ep ev.size SB)->Heap.SameBut I s.heap h'->Q (some v) {s with heap:=h'}):wpAny As A (pyNext (.ref I)) Q E s:=by
 have Y:s.TypeIs (.ref I) "set_iterator" := ⟨_,l,rfl⟩;have hlt:i<ev.size:=by
  have:=(Array.getElem?_eq_some_iff.mp T).1;rw[Kg]at this;exact this
 unfold pyNext;refine Wb (wpAny_attempt (aa (name:=Str.ofString "__next__") Y EK (aT EK Y LX ?_ (Mq _))));refine Wb (wpAny_of_eq (a:=(Value.ref I,[])) rfl ?_);refine Wb (wpAny_fieldsOf l rfl ?_);refine Wb (wpAny_setEntries_of U W.dat W.fit ?_);have M:¬((ev.size:Int) != (ev.size:Int))=true:=by simp
 dsimp only;rw[if_neg M];refine Wb ?_;show wpAny _ _ (setNext S (FT w t i) i ep) _ _ _;refine WK W U AS ?_;rw[T];refine Wb (wpAny_setField l rfl By ?_);have Z:(s.heap.update I (Obj.mapFields (·.setIfInBounds 0 (rawInt ((FT w t SB:Nat):Int))))).get? I=some _ :=
  Heap.get?_update_self _ l rfl
 refine Wb (wpAny_setField Z rfl By ?_);refine aB ⟨_,rfl,wpAny_pure (h _ ?_ ((aZ ..).trans (aZ ..)))⟩;exact Heap.get?_update_self _ Z rfl
def jM{Q:Option VL->SD->Prop}(hh:A.handled=none)(W:FA w o ev ep t)(Y:s.heap.get? S=some o)(U:s.heap.get? I=some (Ke w S t ep ev.size ev.size)) (h:∀h',Heap.ExtBut I s.heap h'->Q none {s with heap:=h'}):wpAny As A (pyNext (.ref I)) Q E s:=by
 have Z:s.TypeIs (.ref I) "set_iterator" := ⟨_,U,rfl⟩;unfold pyNext;refine Wb (wpAny_attempt (aa (name:=Str.ofString "__next__") Z EK (aT EK Z LX ?_ (Mq _))));unfold Builtin.«set_iterator.__next__»;refine Wb (wpAny_of_eq (a:=(Value.ref I,[])) rfl ?_);refine Wb (wpAny_fieldsOf U rfl ?_);show wpAny _ _ (setEntries S>>=_) _ _ s;refine Wb (wpAny_setEntries_of Y W.dat W.fit ?_);have l:¬((ev.size:Int) != (ev.size:Int))=true:=by simp
 dsimp only;rw[if_neg l];refine Wb ?_;refine WK W Y M0 ?_;rw[Array.getElem?_eq_none (by rw[Kg];exact aG _)];refine Wb (wpAny_setField U rfl By ?_);refine Wb ?_;simp only[newExc,newTuple];refine Wb (ag ?_ (by size_fits));refine Wb (m:=firstArgMember _ _) (wpAny_of_eq (a:=Value.none) (by first|rfl|(simp only[firstArgMember];rfl)) (ag ?_ (by size_fits)));simp only[raiseNew];refine Wb (wpAny_handled ?_);have M:A.in1.handled=none:=hh;rw[M];refine Wb (aB (wpAny_throw ?_));refine Wb (wpAny_isInstance (b:=true) (T := "StopIteration") ⟨_,Heap.get?_push_size _ rfl,rfl⟩ isSubtype_stop ?_);exact aB (h _ (((aZ ..).extBut.push _).push _))
def kU(M:s.heap.get? I=some (Ke w S t ep ev.size i))(h:Q (.ref I) s):wpAny As A (pyIter (.ref I)) Q E s:=by
 have l:s.TypeIs (.ref I) "set_iterator" := ⟨_,M,rfl⟩;exact wpAny_pyIter_slot l Mo (aT Mo l Se (aB ⟨_,rfl, "set_iterator",_,l,EK.lookup,h⟩) (VQ _))
def gz(hh:A.handled=none)(hne:S≠I)(W:FA w o ev ep t) :
  Walks prog w A I [I,S] [I] ev.size (fun i v=>∃z,(GQ w S ep ev)[i]? = some (z,v)) (fun i h=>h.get? I=some (Ke w S t ep ev.size i)/\h.get? S=some o) where
 sub:=fun b hb=>by grind
 frame:=fun _ _ _ x k=>by grind
 item:=fun i s Q E hi x hQ=>by
  have hi':i<(GQ w S ep ev).size:=by rw[Kg];exact hi
  obtain⟨z,v,hx⟩:∃z v,_[i]? = some (z,v):=⟨(GQ w S ep ev)[i].1,(GQ w S ep ev)[i].2,by rw[Array.getElem?_eq_getElem hi']⟩;refine kZ W x.2 x.1 hx fun h' g sb=>hQ v h' s.toks ⟨z,hx⟩ ⟨g,(sb.2 S hne).trans x.2⟩ fun b u hb e=>?_;rw[sb.2 b fun q=>by grind];exact e
 done:=fun s Q E x hQ=>jM hh W x.2 x.1 fun h' eb=>hQ h' s.toks fun b u hb e=>eb b u (fun q=>by grind) e
 self:=fun _ _ _ _ x hQ=>kU x.1 hQ
def kQ{Q:Bool->SD->Prop}(U:s.TypeIs (.ref S) "set")(h:Q false s):wpAny As A (Builtin.List.listLengthHint (.ref S)) Q E s:=by
 unfold Builtin.List.listLengthHint;refine Wb (wpAny_specialOf U PySem.F.slot_set_len.lookup ?_);generalize l:("set.__len__" : String)=M
 wp_delta
 rw[show splitId M=some ("set","__len__") from by subst l;decide +kernel];subst l;refine Wb (wpAny_isInstance (b:=true) (T := "set") U (by rw[isSubtype_type];kernel_rfl) ?_);refine wpAny_ite_split (fun z=>absurd z AC) fun _=>?_;refine wpAny_ite_split (fun _=>?_) fun z=>absurd (by decide +kernel) z;exact Wb (wpAny_typeOf U (aB h))
def kf(W:FA w o ev ep t)(l:s.heap.get? S=some o)(h:Q Go {s with heap:=s.heap.push (Ke w S t ep ev.size 0)}):wpAny As A (pyIter (.ref S)) Q E s:=by
 have M:s.TypeIs (.ref S) "set" := ⟨o,l,W.ex.1⟩;refine wpAny_pyIter_slot M PySem.F.slot_set_iter (aT PySem.F.slot_set_iter M Tq ?_ (PySem.F.args_set_iter_1 _));refine Wb (wpAny_of_eq (a:=S) rfl ?_);refine Wb (Wb (wpAny_setEntries_of l W.dat W.fit ar));refine Wb (Wb (au l W.dat W.fit (Wb (Sz ar))));have hd:(!w.params.followText "set-order" && (!t.plain&&decide (ev.size > 1)))=false:=by rw[W.gA];simp
 refine wpAny_ite_split (fun z=>?_) fun _=>?_
 .have:(!w.params.followText "set-order" && (!t.plain&&decide _))=true:=z;rw[hd]at this;cases this
 refine Wb ar;refine Wb (Wb (au l W.dat W.fit (aB (Wb (ag (aB ⟨_,rfl, "set_iterator",_,⟨_,Heap.get?_push_size _ rfl,rfl⟩,EK.lookup,?_⟩))))));unfold Ke at h;rw[(show FT w t 0=0 by unfold FT Jq;split<;>rfl)]at h;exact h
def ox(W:FA w o ev ep t):PySem.W.KdlSrc prog w "set" S S ev.size (fun i v=>∃z,(GQ w S ep ev)[i]? = some (z,v)) (fun h=>h.get? S=some o) where
 type:=fun _ ho=>⟨o,ho,W.ex.1⟩
 there:=fun _ ho=>⟨aH ho,Heap.lt_size ho⟩
 keep:=fun _ _ ho k=>by grind
 notList:=by decide
 notTuple:=by decide
 hint:=fun _ _ s _ ho h=>kQ ⟨o,ho,W.ex.1⟩ h
 iter:=fun A s hh ho=>⟨Ke w S t ep ev.size 0,_,(fun E Q h=>kf W ho h),gz hh (aJ (aH ho)) W,⟨aN _ rfl,Heap.get?_push_of_some _ ho⟩⟩
end
def Paired.perm{l Z:List α}(p:Z.Perm l):∀ {m:List β},Paired F l m->∃I,I.Perm m/\Paired F Z I:=by
 induction p with
 |nil=>intro m r;exact⟨m,.refl _,r⟩
 |cons x _ ih=>
  intro m r;cases r with
  |cons h T=>
   obtain⟨I,p',q⟩:=ih T;exact⟨_::I,p'.cons _,.cons h q⟩
 |swap x y l=>
  intro m r;cases r with
  |cons h T=>
   cases T with
   |cons h' M=>exact⟨_::_::_,List.Perm.swap ..,.cons h' (.cons h M)⟩
 |trans _ _ Y U=>
  intro m r;obtain⟨m1,p1,q1⟩:=U r;obtain⟨m2,p2,q2⟩:=Y q1;exact⟨m2,p2.trans p1,q2⟩
variable{G:VL->Tr->Prop}
theorem ZZ:∀ {l} {m},Paired (Ww G h) l m->Vs h (Tr.of (m.map (·.2))) (l.map (·.2))
 |_,_,.nil=>by rfl
 |_,_,.cons (a:=(z,v)) ⟨_,_,_,a,I,e,T,M⟩ r=>by
  subst e;exact⟨a,I,_,rfl,T,M,ZZ r⟩
theorem T9:∀ {l} {m},Paired (Ww G h) l m->∀c∈m.map (·.2),c.deep<8
 |_,_,.nil,c,I=>by cases I
 |_,_,.cons ⟨_,hd,_⟩ r,c,I=>by
  rcases aO.mp I with rfl|I
  .lia
  .exact T9 r c I
theorem gk:∀ {l} {m},Paired (Ww G h) l m->Paired G (l.map (·.2)) (m.map (·.2))
 |_,_,.nil=>.nil
 |_,_,.cons ⟨_,_,hg,_⟩ r=>.cons hg (gk r)
theorem Paired.mr{F}{l}{m}(r:Paired F l m)(d:α)(e:β):∀(ix:List Nat),(∀i∈ix,i<l.length)->Paired F (ix.map fun i=>l.getD i d) (ix.map fun i=>m.getD i e)
 |[],_=>.nil
 |i::ix,h=>by
  have I:=r.length;have hi:=h i aR;obtain⟨x,U,T⟩:=Paired.get r (show m[i]? = some m[i] from aj AS);refine .cons ?_ (Paired.mr r d e ix fun j M=>by grind)
  grind
def jU(p:l.Perm m):Tr.GV l=Tr.GV m:=Tr.LG (Tr.MZ l) (Tr.MZ m) ((Tr.MJ l).trans (p.trans (Tr.MJ m).symm))
section
variable{prog:F0b}{w:F0c}{A:F0d}{E:AAo}{s:SD}
def gather{T:String}{r d:AD}{n:Nat}{P:Nat->VL->Prop}{Y:Heap->Prop}(K:PySem.W.KdlSrc prog w T r d n P Y)(hA:A.handled=none)(Ae:Y s.heap)(hn:n<=sizeLine) (k:∀(I:Heap) (tk:Nat) (l:Array VL),s.heap.objs.size<I.objs.size->(∀b u,s.heap.get? b=some u->I.get? b=some u)->ItemsOf P l n->R l.toList {s with heap:=I,toks:=tk}):wpAny As A (collect (.ref r)) R E s:=by
 obtain⟨Z,ld⟩:=K.there _ Ae;unfold collect;refine Wb (wpAny_runValue (codeAny_builtin entry_proto_collect' ?_));refine Wb (ag (aB ⟨plainId_quiet PySem.F.plain_list_iadd _,codeAny_builtin entry_list_iadd' ?_⟩));have main:=PySem.W.kdl_extend (A:=A) (s:={s with heap:=s.heap.push _}) K hA
  (K.keep _ _ Ae fun _ _ _ e=>aE _ e) s.heap.objs.size (bV Z) (bV ld) Go 0 (aN _ rfl)
  (R:=fun q s1=>∃I tk l c,q=.ok (.ret Go)/\s1={s with heap:=I,toks:=tk}/\(∀b u,s.heap.get? b=some u->I.get? b=some u)/\I.get? s.heap.objs.size=some { cls:=.type "list",dict:=none,data:=.seq l c,slots:=#[]}/\ItemsOf P l n)
  (fun I tk l c U M ha=>⟨I,tk,l,c,rfl,rfl,fun b u e=>U b u (aJ (aH e)) (aE _ e),M,ha⟩) hn
 refine aU main (fun fin s1 x=>?_) fun e s1 x=>?_
 .cases fin with
  |done f=>
   obtain⟨I,tk,l,c,e,rfl,U,M,ha⟩:=x;cases e;exact Wb (wpAny_load M (aB (k I tk l (aH M) U ha)))
  |again c1=>
   refine⟨x.1,codeAny_mono x.2 fun q s2 y=>?_⟩;obtain⟨I,tk,l,c,rfl,rfl,U,M,ha⟩:=y;exact Wb (wpAny_load M (aB (k I tk l (aH M) U ha)))
 .obtain⟨_,_,_,_,z,_⟩:=x;cases z
end
section
variable{prog:F0b}{w:F0c}{A:F0d}{E:AAo}{s:SD}{S:AD}{o:Obj}{ev:Array (Int×VL)}{et:ES}{ep:Nat}{t:SetTable}
def Z8{Q:AAo}(hA:A.handled=none)(W:FA w o ev ep t)(ho:s.heap.get? S=some o)(R:DP G s.heap ev et)(h64:et.size<64)(hu:A.units+20<cLine) (h:∀(h':Heap) (D tk T:Nat) (us:AAn),s.heap.objs.size<=D->(∀b u,s.heap.get? b=some u->h'.get? b=some u)->h'.get? D=some (seqObj "list" us.toArray T)->Paired G us (Tr.GV (et.toList.map (·.2))).reverse->us.length<64 ->Q (.ref D) Ix):wpAny As A (call (.builtin "sorted") [.ref S]) Q E s:=by
 have hsz:=R.size;refine Calls.call_function_entry kind_sorted plain_sorted entry_sorted (args_sorted1 _) ?_;unfold Builtin.«sorted»;refine Wb (m:=checkCount "sorted" 1 1 _) ar;refine Wb (gather (A:=A.in1) (ox W) hA ho (HX AS) fun Z tk l z1 k1 I=>?_);have Y:l.toList=(GQ w S ep ev).toList.map (·.2):=by
  apply bR;intro j;rw[(BG)];by_cases hj:j<l.size
  .have T:l[j]? = some l[j]:=Array.getElem?_eq_getElem hj;obtain⟨z,e2⟩:=I.2 j _ T;rw[(SR),T,(SR),e2]
   rfl
  .have hj2:¬j<(GQ w S ep ev).size:=by rw[Kg,<-I.1];exact hj
   rw[List.getElem?_eq_none (by simpa using hj),List.getElem?_eq_none (by simpa using hj2)]
   rfl
 obtain⟨m,pm,rm⟩:=Paired.perm (Uc w S ep ev) R;have U:=ZZ rm;rw[<-Y]at U;have hd:(Tr.of (m.map (·.2))).deep<=8:=(Tr.Yv 8 _).mpr fun c hc=>by have:=T9 rm c hc;lia
 have M:l.toList.length<64:=by rw[(Wg),I.1,hsz];exact h64
 refine Wb (wpAny_newList ?_ (HX AS));have g1:(Z.push (seqObj "list" l.toList.toArray 0)).get? Z.objs.size=some (seqObj "list" l.toList.toArray 0):=aN _ rfl;have k2:∀b u,s.heap.get? b=some u->(Z.push (seqObj "list" l.toList.toArray 0)).get? b=some u:=fun b u e=>aE _ (k1 b u e);refine Wb (aS (aT slot_list_sort ⟨_,g1,rfl⟩ entry_list_sort (VB k2 (ay z1) g1 U M
  (by lia) fun ix a1 a2 a3=>⟨_,rfl,?_⟩) (args_list_sort _)))
 obtain⟨T,he1⟩:=sortedHeap_at (vs:=l.toList) g1;refine aB ⟨_,rfl,h _ Z.objs.size tk T (ix.map fun i=>l.toList.getD i Value.none) ?_ (fun b u e=>?_) he1 ?_ (by rw[Pi,a1];exact M)⟩
 .exact ay z1
 .have lb:b<Z.objs.size:=aH (k1 b u e);rw[sortedHeap_old (aJ lb) (by rw[(LA)];exact Nat.lt_succ_of_lt lb)];exact k2 b u e
 .have hg:=gk rm;rw[<-Y]at hg;have:=Paired.mr hg Value.none Tr.nil ix a2;rw[Tr.mG]at a3;rw[a3,jU (pm.map (·.2))]at this;exact this
end
end TH
namespace TH
open PySem PyProof.Rows PySem.SeqAt
section
variable{prog:F0b}{w:F0c}{E:AAo}
def Vp(prog:F0b)(w:F0c)(E:AAo)(t:Tr):Prop:=∀us A s (b:Array Int) Q,Vs s.heap t us->A.units+t.deep<=cLine ->
 (∀l,l.toList=b.toList++JL t->Q l {s with toks:=s.toks+(t.F6-1)})->wpAny As A (forIn us b fun x r=>do let h <-pyHash x;pure PUnit.unit;pure (ForInStep.yield (r.push h))) Q E s
def NP(row:Vp prog w E t)(I:s.heap.IsTuple a l.toArray)(T:Vs s.heap t l)(U:A.units+t.deep<cLine) (h:Q (BD t) {s with toks:=s.toks+t.F6}):wpAny As A (pyHash KM) Q E s:=by
 obtain⟨o,M,Y,n,hd⟩:=id I;refine PySem.W.pyHash_slot (IsTuple.ty rfl I) F.slot_tuple_hash F.entry_tuple_hash (F.args_tuple_hash_1 _) (beq_builtin_none _) (.inr AS) ?_;show wpAny _ _ (Builtin.Tuple.tupleItemsOf _>>=_) _ _ s;refine Wb (wpAny_tupleItemsOf M hd (Wb ?_));rw[<-Array.forIn_toList];refine row l A.in1 s #[] _ T AS fun b hb=>?_;show wpAny _ _ (retInt _) _ _ _;rw[hb];refine Wb (wpAny_mkInt (aB ⟨_,_,rfl,?_⟩));rw[(show s.toks+_+1=s.toks+t.F6 by have:=Tr.N8 t;lia)];exact h
theorem NG:∀t ,Vp prog w E t
 |.nil=>fun us A s b Q e _ h=>by subst e;exact aB (h b (by simp[JL]))
 |.cons c r=>fun us A s b Q e Y h=>by
  obtain⟨a,l,rest,rfl,T,M,I⟩:=e;have hd:(Tr.cons c r).deep=max _ r.deep:=rfl;have hk:(Tr.cons c r).F6=c.F6+r.F6:=rfl;have Z:=Tr.N8 r;rw[List.forIn_cons];refine Wb (Wb (NP (NG c) T M AS (Wb (aB ar))));refine NG r rest A _ _ Q I AS fun U hb=>?_;have:=h U (by simp[hb,JL,BD])
  grind
def KA prog w:HeapKind prog w Tr where
 is:=fun h t a=>t.deep<8/\∃its,h.IsTuple a its.toArray/\Vs h t its
 hash:=BD
 draws:=Tr.F6
 room:=fun A=>A.units+8<cLine
 inj:=fun⟨_,i1,a1,a2⟩ ⟨_,i2,b1,b2⟩=>by
  have e:=by simpa using (JM a1 b1)
  subst e;exact Vs.inj a2 b2
 keeps:=fun {h h' k a d o es ep} ⟨hd,its,h1,h2⟩ ho hdt sb=>by
  have kt:∀b u,h.get? b=some u->u.cls=.type "tuple" ->(∃x n,u.data=.seq x n)->h'.get? b=some u:=fun b u e _ ⟨x,n,hx⟩=>by
   rw[sb.2 b fun z=>?_]
   .exact e
   .subst z;rw[ho]at e;cases e;rw[hdt]at hx;cases hx
  obtain⟨u,hu,hc,n,hx⟩:=h1;exact⟨hd,its,⟨u,kt _ _ hu hc ⟨_,n,hx⟩,hc,n,hx⟩,(show ∀ {t:Tr} {us:List VL},Vs h t us->Vs h' t us from fun {t}=>by
   induction t with
   |nil=>intro us e;rw[Vs]at e ⊢;exact e
   |cons b r ih1 ih2=>
    intro us e;rw[Vs]at e ⊢;obtain⟨a,its,rest,e1,⟨u,hu,hc,n,hx⟩,e3,e4⟩:=e;exact⟨a,its,rest,e1,⟨u,kt _ _ hu hc ⟨_,n,hx⟩,hc,n,hx⟩,ih1 e3,ih2 e4⟩) h2⟩
 pyHash:=fun hr ⟨hd,its,h1,h2⟩ h=>NP (NG _) h1 h2 AS h
 eqBool:=fun {A E s x y a b Q} hr ⟨hd,its,h1,h2⟩ ⟨_,its2,k1,k2⟩ h=>Vm h1 h2 k1 k2 AS prog w E Q h
 quiet:=fun⟨hd,its,h1,h2⟩ h=>quiet 8 ⟨_,its,_,rfl,h1,h2,hd⟩ h
end
end TH
namespace TH
open PySem PyProof.Rows
def Bg:Option Tr->Int
 |none=>4238894112
 |some t=>BD t
def HJ:Option Tr->Nat
 |none=>1
 |some t=>t.F6
def JJ(h:Heap):Option Tr->VL->Prop
 |none,v=>v=.none
 |some t,v=>∃a,v=.ref a/\t.deep<8/\∃l,h.IsTuple a l.toArray/\Vs h t l
abbrev KE:=Option Tr×VL×VL
def EA(x:KE):DictEntry:=⟨Bg x.1,x.2.1,x.2.2⟩
theorem RQ{j}:∀ {n},j<n->p j=true->(∀i,i<n->p i=true->i=j)->(List.range n).filter p=[j]
 |0,h,_,_=>by lia
 |n+1,h,I,M=>by
  rw[List.range_succ,List.filter_append];by_cases e:j=n
  .rw[(List.filter_eq_nil_iff.mpr fun i hi l=>by
    grind)]
   grind
  .rw[RQ (show j<n by lia) I fun i hi=>by grind]
   grind
section
variable{prog:F0b}{w:F0c}{A:F0d}{E:AAo}{s:SD}{d:AD}{o:Obj}{es:Array DictEntry}{ep:Nat}{xs:List KE}{k:Option Tr}{kv:VL}
def Ld(l:es.toList=xs.map EA)(j:Nat):es[j]? = (xs[j]?).map EA:=by rw[<-(SR),l,(BG)]
def Wc(l:es.toList=xs.map EA):es.size=xs.length:=by rw[<-(Wg),l,Pi]
def Us(M:es.toList=xs.map EA)(T:∀x∈xs,Bg x.1=Bg k->x.1=k)(I:∀x∈xs,x.1≠k):placesWithHash es.size (fun i=>es[i]?.map (·.hash)) (Bg k)=[]:=by
 refine List.filter_eq_nil_iff.mpr fun i hi l=>?_;dsimp only at l;rw[Ld M]at l;cases q:xs[i]? with
 |none=>grind
 |some x=>
  rw[q]at l;have:=by simpa[EA]using l
  grind
def Rz(I:es.toList=xs.map EA)(M:∀x∈xs,Bg x.1=Bg k->x.1=k)(hn:(xs.map Hq).Nodup)(Y:xs[j]? = some x)(U:x.1=k):placesWithHash es.size (fun i=>es[i]?.map (·.hash)) (Bg k)=[j]:=by
 refine RQ (by rw[Wc I];grind) (by dsimp only;rw[Ld I,Y,<-U];simp[EA]) fun i hi l=>?_;dsimp only at l;rw[Ld I]at l;cases q:xs[i]? with
 |none=>grind
 |some y=>
  rw[q]at l;have T:(xs.map Hq)[i]? = some k:=by rw[(BG),q];show some y.1=_;rw[(M y (aL q) (by simpa[EA]using l))]
  exact(List.getElem?_inj (aF.mp T).1 hn).mp (T.trans (show _[j]? = some k by grind).symm)
def rP(h:Q true s):wpAny As A (eqBool .none .none) Q E s:=Wb (aq (aB h))
def JJ.inj(a:JJ h x v)(b:JJ h y v):x=y:=by
 cases x with
 |none=>
  cases y with
  |none=>rfl
  |some t=>
   obtain⟨_,e,_⟩:=b;rw[a]at e
   lia
 |some u=>
  cases y with
  |none=>
   obtain⟨_,e,_⟩:=a;rw[b]at e
   lia
  |some t=>
   obtain⟨a1,T,M⟩:=a;obtain⟨a2,l,I⟩:=b;rw[T]at l;cases l;obtain⟨_,i1,b1,b2⟩:=M;obtain⟨_,i2,Y,U⟩:=I;have:=by simpa using JM b1 Y
   subst this;rw[Vs.inj b2 U]
def gR{Q:Option Nat->SD->Prop}(hu:A.units+8<cLine)(hk:JJ s.heap k kv)(ho:s.heap.get? d=some o)(hd:o.data=.dict es ep)(he:es.toList=xs.map EA)(his:∀x∈xs,JJ s.heap x.1 x.2.1)(hn:(xs.map Hq).Nodup)(T:∀x∈xs,Bg x.1=Bg k->x.1=k) (hno:(∀x∈xs,x.1≠k)->Q none s)(U:∀(j:Nat) (x:KE),xs[j]? = some x->x.1=k->Q (some j) s):wpAny As A (dictFind d kv (Bg k)) Q E s:=by
 unfold dictFind
 try with_reducible refine aS ?_
 refine Wb (wpAny_dictEntries ho hd ?_);cases k with
 |none=>
  have hk:kv=.none:=hk;subst hk;dsimp only;by_cases l:∃x∈xs,x.1=none
  .obtain⟨x,hm,l⟩:=l;obtain⟨j,hj⟩:=bW.mp hm;have hp:=Rz (k:=none) he T hn hj l;have I:es[j]? = some ⟨Bg none,.none,x.2.2⟩:=by
    rw[Ld he,hj];have h1:=his x hm;rw[l]at h1;show some (EA x)=_;unfold EA;rw[l,show x.2.1=Value.none from h1]
   rw[hp];rw[if_pos (by simp[I,carriedByValue])];unfold dictWalkPlain;simp only[List.forIn_cons,List.forIn_nil,I];refine Wb (Wb ?_);rw[if_pos By];refine Wb (wpAny_dictEpoch ho hd (Wb (rP (Wb (wpAny_dictEpoch ho hd ?_)))));rw[if_neg By,if_pos rfl];exact Wb (aq (aB (aB (aB (U j x hj l)))))
  .have hp:=Us (k:=none) he T fun x hm z=>l ⟨x,hm,z⟩;rw[hp,if_pos (by simp[carriedByValue])];unfold dictWalkPlain;simp only[List.forIn_nil];exact Wb (aB (aB (hno fun x hm z=>l ⟨x,hm,z⟩)))
 |some t=>
  obtain⟨a,rfl,M⟩:=hk;dsimp only;have Z:¬(es.any fun e=>e.key==Value.ref a&&e.hash != Bg (some t))=true:=by
   intro z;rw[<-Array.any_toList,he,List.any_eq_true]at z;obtain⟨e,hm,z⟩:=z;obtain⟨x,l,rfl⟩:=aI.mp hm;rw[(HW)]at z;have h1:x.2.1=.ref a:=by simpa[EA]using z.1
   have h2:=his x l;rw[h1]at h2;have h3:=h2.inj (show JJ s.heap (some t) KM from⟨a,rfl,M⟩);have h4:=z.2;rw[EA,h3]at h4;simp at h4
  by_cases l:∃x∈xs,x.1=some t
  .obtain⟨x,hm,l⟩:=l;obtain⟨j,hj⟩:=bW.mp hm;have hp:=Rz (k:=some t) he T hn hj l;have h1:=his x hm;rw[l]at h1;obtain⟨b,hb,htb⟩:=h1;have I:es[j]? = some ⟨Bg (some t),.ref b,x.2.2⟩:=by
    rw[Ld he,hj];show some (EA x)=_;unfold EA;rw[l,hb]
   have hst:([j].filterMap fun i=>es[i]?.map (·.key))=[.ref b]:=by simp[I]
   rw[hp,hst,if_neg (by simp[carriedByValue]),if_neg Z];by_cases Y:(([Value.ref b]:List VL)==[Value.ref a])=true<;>(first|rw[if_pos Y]|rw[if_neg Y])<;>(first|refine Wb (aB ?_)|refine Wb (wpAny_tableMayTell_quiet (knd:=KA prog w) M (fun v hv=>⟨t,b,List.mem_singleton.mp hv,htb⟩) ?_))<;>(
    rw[if_neg By];simp only[List.forIn_cons,List.forIn_nil,I];refine Wb (Wb ?_);rw[if_pos By];refine Wb (wpAny_dictEpoch ho hd (Wb ((KA prog w).eqBool (x:=t) (y:=t) hu htb M (Wb (wpAny_dictEpoch ho hd ?_)))));rw[if_neg By,if_pos By,if_neg By];refine Wb (aq ?_);rw[if_pos By];exact aB (aB (aB (U j x hj l))))
  .have hp:=Us (k:=some t) he T fun x hm z=>l ⟨x,hm,z⟩;rw[hp,if_neg (by simp[carriedByValue]),if_neg Z];rw[if_neg By];refine Wb (wpAny_tableMayTell_quiet (knd:=KA prog w) M (fun v hv=>by cases hv) ?_);rw[if_neg By];simp only[List.forIn_nil];exact Wb (aB (aB (hno fun x hm z=>l ⟨x,hm,z⟩)))
def iC{Q:Int->SD->Prop}(T:A.units+8<cLine)(hk:JJ s.heap k kv)(h:Q (Bg k) {s with toks:=s.toks+HJ k}):wpAny As A (pyHash kv) Q E s:=by
 cases k with
 |some t=>
  obtain⟨a,rfl,I⟩:=hk;exact(KA prog w).pyHash T I h
 |none=>
  have hk:kv=.none:=hk;subst hk;have l:s.TypeIs .none "NoneType" := rfl;unfold pyHash pyHashByItsType;have M:[Value.none].any Value.onHeap=false:=rfl;refine Wb ?_;rw[cRoomFor,if_neg (by rw[M];exact aK)];refine aB ?_;refine Wb (wpAny_specialOf l F.slot_NoneType_hash.lookup ?_);rw[if_neg (by rw[beq_builtin_none];exact aK)];refine Wb (wpAny_specialOf l F.slot_NoneType_hash.lookup ?_);refine Wb (wpAny_callSpecialIfBoundUnlessNone?_slot l F.slot_NoneType_hash
   (aT F.slot_NoneType_hash l F.entry_NoneType_hash
    (show wpAny _ _ (do ret (<-mkInt 4238894112)) _ _ s from wpAny_ret_mkInt ?_) (F.args_NoneType_hash_1 _)))
  show wpAny _ _ (if(decide (-(2:Int)^63<=4238894112)&&decide ((4238894112:Int)<2^63))=true then _ else _) Q E _;rw[if_pos AC];exact aB h
def FU(xs:List KE)(k:Option Tr):Option KE:=xs.find? fun x=>decide (x.1=k)
def RL(hn:(xs.map Hq).Nodup){j:Nat}(M:xs[j]? = some x)(I:x.1=k):FU xs k=some x:=by
 unfold FU;cases q:xs.find? _ with
 |none=>grind
 |some y=>
  obtain⟨i,hi⟩:=bW.mp (List.mem_of_find?_eq_some q);have l:(xs.map Hq)[i]? = some k:=by grind
  have:=(List.getElem?_inj (aF.mp l).1 hn).mp (l.trans (show _[j]? = some k by grind).symm)
  lia
def QW(h:∀x∈xs,x.1≠k):FU xs k=none:=List.find?_eq_none.mpr fun x l=>by grind
structure JS(h:Heap)(d:Addr)(xs:List KE):Prop where
 ob:∃o es ep,h.get? d=some o/\o.ExactDict/\o.data=.dict es ep/\es.toList=xs.map EA
 ks:∀x∈xs,JJ h x.1 x.2.1
 nd:(xs.map Hq).Nodup
def JS.ty(hm:JS s.heap d xs):s.TypeIs (.ref d) "dict" := let⟨o,_,_,l,I,_⟩:=hm.ob;⟨o,l,I.1⟩
def nS(M:A.units+8<cLine)(hk:JJ s.heap k kv)(hm:JS s.heap d xs)(I:∀x∈xs,Bg x.1=Bg k->x.1=k)(h:Q ((FU xs k).map (·.2.2)) {s with toks:=s.toks+HJ k}):wpAny As A (dictGet d kv) Q E s:=by
 obtain⟨o,es,ep,T,_,hd,Y⟩:=hm.ob;unfold dictGet
 try with_reducible refine aS ?_
 refine Wb (iC M hk (Wb (gR M hk T hd Y hm.ks hm.nd I (fun l=>?_) fun j x U Z=>?_)))
 .rw[QW l]at h;exact aB h
 .rw[RL hm.nd U Z]at h;refine Wb (wpAny_dictEntries T hd ?_);rw[Ld Y j,U];exact aB h
def u7(M:A.in1.units+8<cLine)(hk:JJ s.heap k kv)(hm:JS s.heap d xs)(l:∀x∈xs,Bg x.1=Bg k->x.1=k)(I:FU xs k=some x)(h:Q x.2.2 {s with toks:=s.toks+HJ k}):wpAny As A (getItem (.ref d) kv) Q E s:=by
 unfold getItem
 try with_reducible refine aS ?_
 refine Wb (wpAny_sequenceKey hm.ty AC (Wb (aa hm.ty slot_dict_getitem (aT slot_dict_getitem hm.ty entry_dict_getitem ?_ (args_dict_getitem _ _)))));show wpAny _ _ (dictGet d kv>>=_) _ _ s;refine Wb (nS M hk hm l ?_);rw[I];exact aB ⟨x.2.2,rfl,wpAny_pure h⟩
def zm(I:A.in1.units+8<cLine)(hk:JJ s.heap k kv)(hd:(d==sysModules)=false)(hm:JS s.heap d xs)(l:∀x∈xs,Bg x.1=Bg k->x.1=k)(neg:Bool) (h:Q (.bool (if neg then !(FU xs k).isSome else(FU xs k).isSome)) {s with toks:=s.toks+HJ k}):wpAny As A (compareOp (if neg then .NotIn else .In) kv (.ref d)) Q E s:=by
 have key:∀ {Q:Bool->SD->Prop},Q (FU xs k).isSome _->wpAny As A (contains (.ref d) kv) Q E s:=fun {Q} h=>by
  unfold contains
  try with_reducible refine aS ?_
  refine Wb (wpAny_specialOf hm.ty slot_dict_contains.lookup ?_);refine Wb (wpAny_callSpecialUnlessNone?_slot hm.ty slot_dict_contains (aT slot_dict_contains hm.ty entry_dict_contains ?_ (args_dict_contains _ _)));show wpAny _ _ (dictGet d kv>>=_) _ _ s;refine Wb (nS I hk hm l ?_);cases hf:FU xs k with
  |some p=>
   rw[hf]at h;exact aB ⟨_,rfl,wpAny_truthy_bool h⟩
  |none=>
   rw[hf]at h;exact Wb (wpAny_pendingKey_other hd (aB ⟨_,rfl,wpAny_truthy_bool h⟩))
 cases neg with
 |false=>
  exact Wb (key (aB h))
 |true=>
  exact Wb (key (aB h))
def putN(k:Option Tr)(v:VL)(x:KE):KE:=if x.1=k then(x.1,x.2.1,v) else x
def G6(xs:List KE)(k:Option Tr)(kv v:VL):List KE:=if(FU xs k).isSome then xs.map (putN k v) else xs++[(k,kv,v)]
theorem XA v:∀xs:List KE,(xs.map (putN k v)).map Hq=xs.map Hq
 |[]=>rfl
 |x::xs=>by
  rw[(BR),(BR),XA v xs];unfold putN
  grind
theorem Ro:∀ {xs:List KE} {j} {x},(xs.map Hq).Nodup->xs[j]? = some x->x.1=k->(xs.map EA).modify j (fun e=>{e with val:=v})=(xs.map (putN k v)).map EA
 |[],_,_,_,h,_=>by simp at h
 |y::ys,0,x,hn,h,l=>by
  have:=by simpa using h
  subst this;rw[(BR),(BR),(show ys.map _=ys by
   refine(ai fun z I=>?_).trans (List.map_id _);unfold putN
   grind)]
  unfold putN;rw[if_pos l]
  rfl
 |y::ys,j+1,x,hn,h,l=>by
  have h':=by simpa using h
  rw[(BR),List.nodup_cons]at hn;rw[(BR),(BR),(BR),(show putN k v y=y by
   unfold putN
   grind)]
  show EA y::(ys.map EA).modify j _=_;rw[Ro hn.2 h' l]
def JJ.keep(a:JJ h k v)(prog:F0b)(w:F0c)(M:h.get? d=some o)(hd:o.data=.dict es ep)(l:Heap.SameBut d h h'):JJ h' k v:=by
 cases k with
 |none=>exact a
 |some t=>
  obtain⟨a1,T,I⟩:=a;exact⟨a1,T,(KA prog w).keeps I M hd l⟩
def wb{v:VL}{Q:Unit->SD->Prop}(hu:A.in1.units+8<cLine)(hk:JJ s.heap k kv)(hm:JS s.heap d xs)(hap:∀x∈xs,Bg x.1=Bg k->x.1=k)(hz:xs.length<=sizeLine) (hQ:∀h',JS h' d (G6 xs k kv v)->Heap.SameBut d s.heap h'->Q () {s with heap:=h',toks:=s.toks+HJ k}):wpAny As A (setItem (.ref d) kv v) Q E s:=by
 unfold setItem
 try with_reducible refine aS ?_
 refine Wb (wpAny_sequenceKey hm.ty AC ?_);refine Wb (aa (name:=Str.ofString "__setitem__") hm.ty slot_dict_setitem (aT slot_dict_setitem hm.ty entry_dict_setitem ?_ (args_dict_setitem _ _ _)));refine Wb (wpAny_notOrdered_dict hm.ty ?_);show wpAny _ _ (dictSet d kv v>>=_) _ _ s;refine Wb ?_;have fin:∀h',JS h' d (G6 xs k kv v)->Heap.SameBut d s.heap h'->wpAny As A.in1 (ret .none) (fun fin s'=>∃v,fin=.done (.ret v)/\wpAny As A (pure ()) Q E s') E {s with heap:=h',toks:=s.toks+HJ k}:=fun h' h1 h2=>aB ⟨.none,rfl,wpAny_pure (hQ h' h1 h2)⟩;obtain⟨o,es,ep,I,hc,hd,Y⟩:=hm.ob;unfold dictSet
 try with_reducible refine aS ?_
 refine Wb (iC hu hk ?_);unfold dictSetHashed
 try with_reducible refine aS ?_
 refine Wb (gR (s:={s with toks:=s.toks+HJ k}) hu hk I hd Y hm.ks hm.nd hap (fun U=>?_) fun j x hj hx=>?_)
 .have M:G6 xs k kv v=xs++[(k,kv,v)]:=by unfold G6;rw[QW U];rfl
  rw[M]at fin;refine Wb (aq (wpAny_updateDictKeys (hz:=by rw[Wc Y];exact hz) (s:={s with toks:=s.toks+HJ k}) I hd (fin _ ⟨⟨_,_,ep+1,Heap.get?_update_self _ I (Obj.isFreed_of_dict (Obj.data_mapDictKeys hd _)),hc.mapDictKeys _,Obj.data_mapDictKeys hd _,?_⟩,fun y T=>?_,?_⟩ (aZ ..))))
  .simp[Y,EA]
  .rcases aX.mp T with h|h
   .exact(hm.ks y h).keep prog w I hd (aZ ..)
   .rw[List.mem_singleton.mp h];exact hk.keep prog w I hd (aZ ..)
  .rw[(DJ),List.nodup_append];refine⟨hm.nd,by simp,fun a ha b hb=>?_⟩;have:b=k:=by simpa using hb
   subst this;obtain⟨y,T,rfl⟩:=aI.mp ha;exact U y T
 .have M:G6 xs k kv v=xs.map (putN k v):=by unfold G6;rw[RL hm.nd hj hx];rfl
  rw[M]at fin;refine Wb (aq (Wb (wpAny_updateDict (s:={s with toks:=s.toks+HJ k}) I hd (wpAny_point (fin _ ⟨⟨_,_,ep,Heap.get?_update_self _ I (Obj.isFreed_of_dict (Obj.data_mapDict hd _)),hc.mapDict _,Obj.data_mapDict hd _,?_⟩,fun y T=>?_,?_⟩ (aZ ..))))))
  .have:=Ro (v:=v) hm.nd hj hx;rw[<-Y]at this;obtain⟨l⟩:=es
   simpa using this
  .obtain⟨z,Z,rfl⟩:=aI.mp T;unfold putN;split<;>exact(hm.ks z Z).keep prog w I hd (aZ ..)
  .rw[XA];exact hm.nd
end
end TH
namespace L2
open PySem PySem.Spec PyProof.Rows
abbrev KR:=Option Tr×V×V
def SW(q:KR)(x:TH.KE):Prop:=x.1=q.1/\RelV q.2.1 x.2.1/\RelV q.2.2 x.2.2
def dN(d:AD)(r:List KR):HO:=.ext fun h=>(d==sysModules)=false/\∃o es ep xs,h.get? d=some o/\o.ExactDict/\o.data=.dict es ep/\es.toList=xs.map TH.EA/\PySem.Paired SW r xs
def Gh(H:Hp):Option Tr->V->Prop
 |none,v=>v=.BV
 |some t,v=>t.deep<8/\Tv H t v
def Gh.same(h:Gh H k v)(e:AI H H'):Gh H' k v:=by
 cases k with
 |none=>exact h
 |some t=>exact⟨h.1,h.2.same e⟩
structure Sb(H:Hp)(d:Addr)(r:List KR)(k:Option Tr):Prop where
 at_:H d=some (dN d r)
 ks:∀q∈r,Gh H q.1 q.2.1
 nd:(r.map Hq).Nodup
 ap:∀q∈r,TH.Bg q.1=TH.Bg k->q.1=k
def JK(h:PySem.Paired R l m):∀x∈m,∃q∈l,R q x:=by
 induction h with
 |nil=>simp
 |cons a _ I=>
  grind
def Ur(h:PySem.Paired SW r xs):xs.map Hq=r.map Hq:=by
 induction h with
 |nil=>rfl
 |cons a _ l=>rw[(BR),(BR),l,a.1]
section
variable{X:Cx}{pins:LT}{σ:St}{H:Hp}{s:SD}{pos:Pos}
def Gh.raw(I:BE)(h:Gh H k v)(r:RelV v u):TH.JJ s.heap k u:=by
 cases k with
 |none=>
  subst h;exact r
 |some t=>
  obtain⟨Y,a,ys,rfl,U,T⟩:=h;obtain⟨l,M,p,_⟩:=I.tuple (A4.of U);exact⟨a,r,Y,l,p,T.vs I M⟩
def XU(I:BE)(h:Sb H d r k):(d==sysModules)=false/\∃xs,TH.JS s.heap d xs/\PySem.Paired SW r xs/\∀x∈xs,TH.Bg x.1=TH.Bg k->x.1=k:=by
 obtain⟨Y,o,es,ep,xs,g1,g2,g3,g4,l⟩:=(I.Ae d _ h.at_).1;refine⟨Y,xs,⟨⟨o,es,ep,g1,g2,g3,g4⟩,fun x M=>?_,by rw[Ur l];exact h.nd⟩,l,fun x M=>?_⟩
 .obtain⟨q,U,T,Z,_⟩:=JK l x M;rw[T];exact(h.ks q U).raw I Z
 .obtain⟨q,U,T,_⟩:=JK l x M;rw[T];exact h.ap q U
def Pp(h:PySem.Paired SW r xs) k:match r.find? WF with
  |some q=>∃x,TH.FU xs k=some x/\RelV q.2.2 x.2.2
  |none=>TH.FU xs k=none:=by
 induction h with
 |nil=>rfl
 | @cons q x l m a _ I=>
  unfold TH.FU at I ⊢;rw[(LD),(LD),a.1];by_cases z:q.1=k
  .simp only[decide_eq_true z];exact⟨x,rfl,a.2.2⟩
  grind
def AAD:R2:=fun x y H Q=>∃d r k q,x=.ref d/\Gh H k y/\Sb H d r k/\r.find? WF=some q/\Q q.2.2 H
def WG(hu:IR)(ho:PE X o U)(hi:PE X i ty)(hs:Wf i):PE X (.Subscript o i pos) (iW AAD U ty):=by
 intro pins s σ H Q I h;refine Yn PySem.F.slot_dict_getitem.lookup hs (Ay (ho pins s σ H _ I h) fun u s1 ⟨x,H1,I1,Z,q1⟩=>Ay (hi pins s1 σ H1 _ I1 q1) fun iv s2 ⟨y,H2,M,Y,q2⟩=>?_);obtain⟨d,r,k,q,rfl,hk,hD,hf,q3⟩:=q2;obtain rfl:u=Value.ref d:=Z;obtain⟨hsm,xs,hm,hp,l⟩:=XU M hD;have T:=Pp hp k;rw[hf]at T;obtain⟨x,h1,h2⟩:=T;exact⟨hm.ty,TH.u7 AS (hk.raw M Y) hm l h1 ⟨q.2.2,H2,M.tok _,h2,q3⟩⟩
def zN(neg:Bool):R2:=fun x y H Q=>∃d r k,y=.ref d/\Gh H k x/\Sb H d r k/\Q (.bl (if neg then !(r.find? WF).isSome else(r.find? WF).isSome)) H
def eB(hu:IR)(neg:Bool):CN X (compareOp (if neg then .NotIn else .In)) (zN neg):=by
 rintro pins s σ H x y v u Q I Y U ⟨d,r,k,rfl,hk,hD,q⟩;obtain rfl:u=Value.ref d:=U;obtain⟨l,xs,hm,Z,M⟩:=XU I hD;have T:=Pp Z k;refine TH.zm AS (hk.raw I Y) l hm M neg ?_;rw[(show(TH.FU xs k).isSome=(r.find? _).isSome by
  split at T
  .rename_i q e;obtain⟨x,h1,_⟩:=T;rw[h1,e];rfl
  grind)]
 exact⟨.bl _,H,I.tok _,rfl,q⟩
def Gf(r:List KR)(k:Option Tr)(l v:V):List KR:=if(r.find? WF).isSome then r.map (fun q=>if q.1=k then(q.1,q.2.1,v) else q) else r++[(k,l,v)]
def qP(h:PySem.Paired SW r xs)(hk:RelV U Y)(M:RelV v u):PySem.Paired SW (Gf r k U v) (TH.G6 xs k Y u):=by
 have I:=Pp h k;unfold Gf TH.G6;split at I
 .rename_i q e;obtain⟨x,T,_⟩:=I;rw[T,e];clear e T hk
  induction h with
  |nil=>exact .nil
  | @cons q x l m a _ Z=>
   rw[(BR)];refine .cons ?_ Z;unfold TH.putN;rw[a.1];by_cases z:q.1=k
   .rw[if_pos z,if_pos z];exact⟨rfl,a.2.1,M⟩
   lia
 .rename_i e;rw[I,e];exact h.snoc ⟨rfl,hk,M⟩
def mQ:jW:=fun o i v H Q=>∃d r k,o=.ref d/\Gh H k i/\Sb H d r k/\r.length<=1000/\Q (upd H d (dN d (Gf r k i v)))
def WD(hu:IR):jF X mQ:=by
 rintro pins s σ H o i v ov iv u Q I ro Y rv ⟨d,r,k,rfl,hk,hD,hl,q⟩;obtain rfl:ov=Value.ref d:=ro;obtain⟨l,xs,hm,Z,T⟩:=XU I hD;have hle:=by simpa using (ae List.length (Ur Z))
 refine TH.wb AS (hk.raw I Y) hm T (aQ (by lia:xs.length<=1000) AC) fun h' M sb=>?_;obtain⟨o',es,ep,U,g2,g3,g4⟩:=M.ob;refine⟨_,I.write (by rw[hD.at_];exact trivial) ZB (fun b w' hb e=>(sb.2 b hb).trans e) ⟨o',U⟩ ?_,q⟩;exact⟨⟨l,o',es,ep,_,U,g2,g3,g4,qP Z Y rv⟩,⟨o',U⟩,fun h1 h2 _ k=>by grind⟩
def uD:TE:=fun _ H Q=>∀p,H p=none->Q (.ref p) (upd H p (dN p []))
def Xj:PE X (.Dict [] [] pos) uD:=fun pins s σ H Q I h=>by
 refine wpAny_Dict_empty ⟨.ref s.heap.objs.size,_,I.laid (fun _ _ q=>aE _ q) M0 ?_,rfl,h _ (I.Ae.fresh M0)⟩;exact⟨⟨(beq_eq_false_iff_ne.mpr (Ne.symm (aJ (bT AC (I.mod.glob.keeps I.bk).lt)))),_,#[],0,[],Heap.get?_push_size _ rfl,⟨rfl,rfl,rfl⟩,rfl,rfl,.nil⟩,⟨_,Heap.get?_push_size _ rfl⟩,fun M l _ k=>by grind⟩
def find_key{r:List KR}(h:r.find? WF=some q):q∈r/\q.1=k:=by grind
end
section
variable{X:Cx}
def gp(hc:Rs):C6 X (.builtin "sum") (fun xs H Q=>∃(p:AD) (ns:AAx),xs=[.ref p]/\A4 X.K H p (ns.map V.int)/\Q (.int ns.sum) H):=by
 rintro pins s σ H xs us Q I r ⟨p,ns,rfl,hq,q⟩;obtain⟨u,rfl,Z⟩:=r.one;cases Z;obtain⟨its,Y,pl,hz⟩:=I.tuple hq;have hi:=intsAre_of Y;obtain⟨xs,T⟩:=hi.allInts.items;have l:=T ▸ pl
 have M:p<s.heap.objs.size:=let⟨_,e,_⟩:=l;aH e;refine call_sum_walkG (wpAny_pyIter_tuple l (⟨_,[_,p],[_],_,_,_,numAt xs,rfl,Walks.tuple (A:=X.A.in1) (I.ok.hd hc) _ p (aJ M) _,
  ⟨⟨_,Heap.get?_push_size _ rfl,rfl,rfl⟩,l.push _⟩,fun c hcc=>?_,(fun _ _=>intItems_at),fun h' tk U hk=>?_⟩))
 .rw[(LA)]
  grind
 .rw[(show preSum _ (intItems xs).size=ns.sum by
   rw[<-(show preSum (numAt xs) xs.size=ns.sum by
  rw[preSum_eq,List.take_of_length_le By,(show ns=xs.toList.map _ by
  rw[<-nums_intItems,<-T];exact hi.numsOf.symm)])]
   simp[intItems])]
  exact⟨.int _,H,I.kept (PyProof.Rows.LSm.kept_iter hk),⟨U,rfl⟩,q⟩
end
def Js:fillsNumberSlot LE "mul" = pure false:=PySem.fillsNumberSlot_seq F.slot_tuple_mul.lookup Iq F.slot_tuple_rmul.lookup Iq
def N5:seqRepeat? LE=pure (some (.builtin "tuple.__mul__")):=by
 rfl
def Lk a t l items n dd sl : Meets (Builtin.«int.__rmul__» { pos:=[.int a t,.ref l]}) fun _ R s=>s.heap.get? l=some { cls:=.type "tuple",dict:=dd,data:=.seq items n,slots:=sl}/\R (.ok (.ret .notImplemented)) s :=
 Meets.of_wp fun prog w A R s h=>by
  obtain⟨I,h⟩:=h;refine Wb ?_;unfold slotArgs;exact bO Iq (bO Iq (aB (Wb (Wb (aB (aB (Wb (Wb (wpAny_load' I (aB (Wb (aq (aB ⟨_,rfl,h⟩)))))))))))))
def X5 t l items n dd sl : Meets (Builtin.«tuple.__mul__» { pos:=[.ref l,.int 1 t]}) fun _ R s=>s.heap.get? l=some { cls:=.type "tuple",dict:=dd,data:=.seq items n,slots:=sl}/\R (.ok (.ret (.ref l))) s :=
 Meets.of_wp fun prog w A R s h=>let⟨I,h⟩:=h;Wb (Wb (aB (aB (Wb (wpAny_tupleItemsOf I rfl (wpAny_ite_true By (Wb (Wb (wpAny_typeOf ⟨_,I,rfl⟩ (aB (Wb (aq (aB ⟨_,rfl,h⟩)))))))))))))
def X7(k:Int)(t:Tok)(l:AD) items (n:Nat) dd sl (hk:2<=k) (Y:k<=1000) (T:items.isEmpty=false) (Z:items.size*k.toNat<=1000) (hz:sizeOk (.seq (List.foldl (fun M I=>M++I) #[] (List.replicate k.toNat items)))):Meets (Builtin.«tuple.__mul__» { pos:=[.ref l,.int k t]}) fun _ R s=>s.heap.get? l=some { cls:=.type "tuple",dict:=dd,data:=.seq items n,slots:=sl}/\R (.ok (.ret Go)) {s with heap:=s.heap.push { cls:=.type "tuple",data:=.seq (List.foldl (fun M I=>M++I) #[] (List.replicate k.toNat items))} } :=
 Meets.of_wp fun prog w A R s h=>by
  obtain⟨U,h⟩:=h;refine Wb ?_;refine Wb (aB ar);refine bO (by simp;lia) ?_;refine Wb (wpAny_tupleItemsOf U rfl ?_);refine bO (by simp[T];lia) ?_;refine bO (by simp[T];lia) ?_;exact bO (by simp;lia) (bO (by
   unfold Builtin.Tuple.tupleTooMany;have:1000<sizeLine:=by decide
   simp;lia) (Wb (ag (aB ⟨_,rfl,h⟩) hz)))
section
variable{X:Cx}
def wy:R2:=fun x y H Q=>∃a k xs,x=.ref a/\y=.int k/\H a=some Jl/\xs≠[]/\1<=k/\k<=1000/\xs.length*k.toNat<=1000/\∀p H',AI H H'->H' p=some (.tup (List.replicate k.toNat xs).flatten)->Q (.ref p) H'
def pR:CN X (binaryOp .Mult) wy:=by
 intro pins s σ H x y v u Q I rx ry h;obtain⟨a,k,xs,rfl,rfl,ha,hne,h1,h2,hz,q⟩:=h;cases rx;obtain⟨t,rfl⟩:=ry;obtain⟨l,Y,p1,_⟩:=I.tuple (A4.of (K:=X.K) ha);have hl:=Y.length;obtain⟨⟨cls,dd,data,sl⟩,T,hc,n,hd⟩:=id p1;subst hc hd;have hie:l.toArray.isEmpty=false:=by
  cases l with
  |nil=>exact absurd (Y.Oi.mp rfl) hne
  |cons=>simp
 have Z:l.toArray.size*k.toNat<=1000:=by rw[(K9),<-hl];exact hz
 have big:1000<sizeLine:=by decide
 have M:=by
  have:=foldl_rep l k.toNat [];exact this
 refine wpAny_binaryOp_repeat_ref (U := "int") AC ⟨_,T,rfl⟩ (fun s'=>typeIs_int s' k t) Js F.fills_int_mul F.slot_int_rmul N5 F.slot_int_index.lookup
  (call_meets F.slot_int_rmul (typeIs_int s k t) F.entry_int_rmul (F.args_int_rmul_2 _ _) (Lk k t a l.toArray n dd sl) ⟨T,rfl,⟨_,T,rfl⟩,?_⟩)
 by_cases h3:k=1
 .subst h3;exact call_meets F.slot_tuple_mul ⟨_,T,rfl⟩ F.entry_tuple_mul (F.args_tuple_mul_2 _ _) (X5 t a l.toArray n dd sl) ⟨T,⟨.ref a,H,I,rfl,q a H (.refl H) (by simpa using ha)⟩⟩
 .refine call_meets F.slot_tuple_mul ⟨_,T,rfl⟩ F.entry_tuple_mul (F.args_tuple_mul_2 _ _) (X7 k t a l.toArray n dd sl AS h2 hie Z ?_) ⟨T,?_⟩
  .rw[M];show(List.replicate k.toNat l).flatten.toArray.size<=sizeLine;rw[(K9),len_rep,Nat.mul_comm]
   lia
  .rw[M];refine⟨.ref s.heap.objs.size,_,I.laid (t':=s.toks) (fun b ob q=>aE _ q) M0 ?_,rfl,q _ _ (Aj (I.Ae.fresh M0) _) AR⟩;exact⟨by rw[len_rep,Nat.mul_comm];lia,_,Y.rep k.toNat,IsTup.new _ _⟩
end
def Rd.same(e:AI H H')(h:Rd H a u):Rd H' a u:=by
 rcases h with h|⟨o,h⟩
 .exact .inl (e _ _ h)
 .exact .inr ⟨o,e _ _ h⟩
def Gg:Tr->List PD
 |.nil=>[]
 |.cons b r=>.tuple (Gg b)::Gg r
def MW:Option Tr->PD
 |none=>.none
 |some t=>.tuple (Gg t)
mutual
def Du(H:Hp):PD->V->Prop
 |.none,v=>v=.BV
 |.bool b,v=>v=.bl b
 |.int i,v=>v=.int i
 |.str x,v=>v=.str x
 |.tuple ds,v=>∃a xs,v=.ref a/\H a=some Jl/\Ad H ds xs
 |.list ds,v=>∃a xs,v=.ref a/\H a=some Tl/\Ad H ds xs
 |.dict l,v=>(∃ea C:AD,l=[(.int (C:Nat),.none)]/\v=.ref ea/\H ea=some (Sh ea TW))\/(∃(a:AD) (ns:List Int),l=[(.none,.list (ns.map .int))]/\v=.ref a/\Rd H a (.lst (ns.map V.int)))\/RO H l v
def Ad(H:Hp):List PD->List V->Prop
 |[],xs=>xs=[]
 |d::ds,xs=>∃x r,xs=x::r/\Du H d x/\Ad H ds r
def RO(H:Hp):List (PD×PD)->V->Prop
 |[],_=>False
 |(l,I)::t,v=>l=.bool true/\I=.none/\∃a r,v=.ref a/\H a=some (dN a r)/\(r.map Hq).Nodup/\KP H t r
def KP(H:Hp):List (PD×PD)->List KR->Prop
 |[],r=>r=[]
 |(k,d)::t,r=>∃q l,r=q::l/\k=MW q.1/\Gh H q.1 q.2.1/\Du H d q.2.2/\KP H t l
end
mutual
theorem Du.same{H H':Hp}(e:AI H H'):∀ {d:PD} {v:V},Du H d v->Du H' d v
 |.none,_,h=>by rw[Du]at h ⊢;exact h
 |.bool _,_,h=>by rw[Du]at h ⊢;exact h
 |.int _,_,h=>by rw[Du]at h ⊢;exact h
 |.str _,_,h=>by rw[Du]at h ⊢;exact h
 |.tuple _,_,h=>by
  rw[Du]at h ⊢;obtain⟨a,xs,I,l,M⟩:=h;exact⟨a,xs,I,e _ _ l,Ad.same e M⟩
 |.list _,_,h=>by
  rw[Du]at h ⊢;obtain⟨a,xs,I,l,M⟩:=h;exact⟨a,xs,I,e _ _ l,Ad.same e M⟩
 |.dict _,_,h=>by
  rw[Du]at h ⊢;rcases h with ⟨ea,C,I,T,l⟩|⟨a,ns,I,T,l⟩|h
  .exact .inl ⟨ea,C,I,T,e _ _ l⟩
  .exact .inr (.inl ⟨a,ns,I,T,l.same e⟩)
  .exact .inr (.inr (RO.same e h))
theorem Ad.same{H H':Hp}(e:AI H H'):∀ {ds:List PD} {xs:List V},Ad H ds xs->Ad H' ds xs
 |[],_,h=>by rw[Ad]at h ⊢;exact h
 |_::_,_,h=>by
  rw[Ad]at h ⊢;obtain⟨x,r,M,I,l⟩:=h;exact⟨x,r,M,Du.same e I,Ad.same e l⟩
theorem RO.same{H H':Hp}(e:AI H H'):∀ {l:List (PD×PD)} {v:V},RO H l v->RO H' l v
 |[],_,h=>by rw[RO]at h;exact h.elim
 |(_,_)::_,_,h=>by
  rw[RO]at h ⊢;obtain⟨Z,Y,a,r,U,T,M,I⟩:=h;exact⟨Z,Y,a,r,U,e _ _ T,M,KP.same e I⟩
theorem KP.same{H H':Hp}(e:AI H H'):∀ {l:List (PD×PD)} {r:List KR},KP H l r->KP H' l r
 |[],_,h=>by rw[KP]at h ⊢;exact h
 |(_,_)::_,_,h=>by
  rw[KP]at h ⊢;obtain⟨q,I,Z,Y,U,T,M⟩:=h;exact⟨q,I,Z,Y,U.same e,Du.same e T,KP.same e M⟩
end
mutual
theorem Du.br{K:Fg}{H:Hp}:∀ {d:PD} {v:V},d.canLay0=true->Du H d v->Br K H d v
 |.none,_,_,h=>by rw[Du]at h;rw[Br];exact h
 |.bool _,_,_,h=>by rw[Du]at h;rw[Br];exact h
 |.int _,_,_,h=>by rw[Du]at h;rw[Br];exact h
 |.str _,_,_,h=>by rw[Du]at h;rw[Br];exact h
 |.tuple _,_,c,h=>by
  rw[Du]at h;rw[Br];obtain⟨a,xs,M,I,l⟩:=h;exact⟨a,xs,M,A4.of I,Ad.br (by simp only[PyData.canLay0,Bool.and_eq_true]at c;first|exact c|exact c.2|exact c.1) l⟩
 |.list _,_,c,h=>by
  rw[Du]at h;rw[Br];obtain⟨a,xs,M,I,l⟩:=h;exact⟨a,xs,M,Am.of I,Ad.br (by simp only[PyData.canLay0,Bool.and_eq_true]at c;first|exact c|exact c.2|exact c.1) l⟩
 |.dict _,_,c,h=>by simp[PyData.canLay0]at c
theorem Ad.br{K:Fg}{H:Hp}:∀ {ds:List PD} {xs:List V},PyData.canLayAll0 ds=true->Ad H ds xs->F8 K H ds xs
 |[],_,_,h=>by rw[Ad]at h;rw[F8];exact h
 |_::_,_,c,h=>by
  rw[Ad]at h;rw[F8];obtain⟨x,r,M,I,l⟩:=h;simp only[PyData.canLayAll0,Bool.and_eq_true]at c;exact⟨x,r,M,Du.br c.1 I,Ad.br c.2 l⟩
end
def Ad.nil{H:Hp}:Ad H [] []:=by rw[Ad]
def Ad.cons(h:Du H d x)(k:Ad H ds xs):Ad H (d::ds) (x::xs):=by rw[Ad];lia
def Ad.un(h:Ad H (d::ds) xs):∃x r,xs=x::r/\Du H d x/\Ad H ds r:=h
def Ad.nil_eq(h:Ad H [] xs):xs=[]:=h
def Ad.len:∀ {ds} {xs},Ad H ds xs->xs.length=ds.length
 |[],_,h=>by rw[h.nil_eq];rfl
 |_::_,_,h=>by obtain⟨x,r,rfl,_,l⟩:=h.un;simp[l.len]
def Ad.get:∀ {ds} {xs} {i:Nat} {d},Ad H ds xs->ds[i]? = some d->∃v,xs[i]? = some v/\Du H d v
 |[],_,i,_,_,e=>by grind
 |_::_,_,0,_,h,e=>by
  obtain⟨x,r,rfl,T,_⟩:=h.un
  grind
 |_::_,_,i+1,_,h,e=>by
  obtain⟨x,r,rfl,_,l⟩:=h.un;obtain⟨v,M,I⟩:=l.get (by simpa using e)
  grind
def Ad.back{i:Nat}(h:Ad H ds xs)(e:xs[i]? = some v):∃d,ds[i]? = some d/\Du H d v:=by
 have hi:i<ds.length:=by rw[<-h.len];grind
 obtain⟨w,I,l⟩:=h.get (show ds[i]? = some ds[i] by simp)
 grind
def Ad.app:∀ {ds es} {xs ys},Ad H ds xs->Ad H es ys->Ad H (ds++es) (xs++ys)
 |[],_,_,_,h,k=>by rw[h.nil_eq];exact k
 |_::_,_,_,_,h,k=>by obtain⟨x,r,rfl,I,l⟩:=h.un;exact .cons I (l.app k)
def Ad.take:∀ {ds} {xs} i,Ad H ds xs->Ad H (ds.take i) (xs.take i)
 |_,_,0,_=>.nil
 |[],_,i+1,h=>by rw[h.nil_eq];rfl
 |_::_,_,i+1,h=>by obtain⟨x,r,rfl,I,l⟩:=h.un;exact .cons I (l.take i)
def Ad.drop:∀ {ds} {xs} i,Ad H ds xs->Ad H (ds.drop i) (xs.drop i)
 |_,_,0,h=>h
 |[],_,i+1,h=>by rw[h.nil_eq];rfl
 |_::_,_,i+1,h=>by obtain⟨x,r,rfl,I,l⟩:=h.un;exact l.drop i
def Ad.rev:∀ {ds} {xs},Ad H ds xs->Ad H ds.reverse xs.reverse
 |[],_,h=>by rw[h.nil_eq];rfl
 |_::_,_,h=>by
  obtain⟨x,r,rfl,I,l⟩:=h.un;rw[List.reverse_cons,List.reverse_cons];exact l.rev.app (.cons I .nil)
structure D8 where
 ok:Hp->Addr->HO->Prop
 same:∀ {G G':Hp} {a:Addr} {o:HO},AI G G'->ok G a o->ok G' a o
 P8:∀ {G:Hp} {a:Addr} {xs:List V},¬ok G a Jl
inductive Oc where
 |lst (xs:List PyData)|Ea (kvs:List (List Key×PyData))|Oy (kvs:List (Option Tr×PyData))|Er (g:D8) (pin:Option Addr)
inductive L where
 |no|d (x:PyData)|own (c:Oc)
abbrev Dv:=List L
abbrev AAh:=Dv->Option (List PD)
abbrev AAi:=Dv->Option PD
abbrev AAk:=Dv->Option Bool
def Cm(G:Hp):List (List Key×PD)->List (List Key×V)->Prop
 |[],r=>r=[]
 |q::t,r=>∃v l,r=(q.1,v)::l/\Du G q.2 v/\Cm G t l
theorem Cm.same(e:AI G G'):∀ {t} {r},Cm G t r->Cm G' t r
 |[],r,h=>h
 |q::t,r,h=>by
  obtain⟨v,l,rfl,M,I⟩:=h;exact⟨v,l,rfl,M.same e,Cm.same e I⟩
abbrev R5(kvs:List (Option Tr×PD)):List (PD×PD):=kvs.map fun q=>(MW q.1,q.2)
abbrev Q7(kvs:List (Option Tr×PD)):PD:=.dict ((.bool true,.none)::R5 kvs)
def IC(G:Hp)(a:AD):Oc->HO->Prop
 |.lst xs,o=>∃ys,o=.lst ys/\Ad G xs ys
 |.Ea kvs,o=>∃r,o=.dT r/\Cm G kvs r
 |.Oy kvs,o=>∃r,o=dN a r/\(r.map Hq).Nodup/\KP G (R5 kvs) r
 |.Er g p,o=>g.ok G a o/\∀q,p=some q->a=q
def IC.same(h:IC G a c o)(e:AI G G'):IC G' a c o:=by
 cases c with
 |Er g p=>exact⟨g.same e h.1,h.2⟩
 |Oy kvs=>obtain⟨r,I,l,M⟩:=h;exact⟨r,I,l,KP.same e M⟩
 |lst xs=>obtain⟨ys,I,l⟩:=h;exact⟨ys,I,l.same e⟩
 |Ea kvs=>obtain⟨ys,I,l⟩:=h;exact⟨ys,I,l.same e⟩
def IC.P8(h:IC G a c Jl):False:=by
 cases c with
 |Er g p=>exact g.P8 h.1
 |Oy kvs=>obtain⟨r,l,I,M⟩:=h;cases l
 |lst xs=>obtain⟨ys,l,I⟩:=h;lia
 |Ea kvs=>obtain⟨ys,l,I⟩:=h;lia
def Nw(G0 H0 G:Hp):Prop:=∀a o,G a=some o->G0 a=some o\/H0 a=none\/∃xs,o=HO.tup xs
structure Rw(G0 H0 G H:Hp)(σ:St)(δ:Dv)(ts:List (PyData×V)):Prop where
 ext:AI G0 G
 new:Nw G0 H0 G
 ins:AI G H
 keep:AI H0 H
 len:σ.length=δ.length
 dat:∀(i:Nat) (x:PyData),δ[i]? = some (L.d x)->∃v,σ[i]? = some (some v)/\Du G x v
 own:∀(i:Nat) (xs:Oc),δ[i]? = some (L.own xs)->∃(a:Addr) (ys:HO),σ[i]? = some (some (V.ref a))/\G a=none/\H0 a=none/\H a=some ys/\IC G a xs ys
 apart:∀(i j:Nat) (xs ys:Oc),i≠j->δ[i]? = some (L.own xs)->δ[j]? = some (L.own ys)->σ[i]?≠σ[j]?
 BC:∀p∈ts,Du G p.1 p.2
structure DE(X:Cx)(e:Expr)(f:Dv->Option PyData):Prop where
 ex:∃t,PE X e t/\∀δ x,f δ=some x->∀G0 H0 G H σ ts (Q:VK),Rw G0 H0 G H σ δ ts->(∀v G' H',Rw G0 H0 G' H' σ δ ((x,v)::ts)->Q v H')->t σ H Q
structure DA(X:Cx)(es:List Expr)(f:Dv->Option (List PyData)):Prop where
 ex:∃t,PA X es t/\∀δ xs,f δ=some xs->∀G0 H0 G H σ ts (Q:List V->Hp->Prop),Rw G0 H0 G H σ δ ts->(∀vs G' H',Rw G0 H0 G' H' σ δ (xs.zip vs++ts)->vs.length=xs.length->Q vs H')->t σ H Q
structure DT(X:Cx)(e:Expr)(f:Dv->Option Bool):Prop where
 ex:∃t,PT X e t/\∀δ b,f δ=some b->∀G0 H0 G H σ ts (Q:Bool->Hp->Prop),Rw G0 H0 G H σ δ ts->(∀G' H',Rw G0 H0 G' H' σ δ ts->Q b H')->t σ H Q
section
variable{G0 H0 G H:Hp}{σ:St}{δ:Dv}{ts:List (PD×V)}
def Rw.drop(r:Rw G0 H0 G H σ δ (p::ts)):Rw G0 H0 G H σ δ ts:={r with BC:=fun q l=>r.BC q (.tail _ l)}
def Rw.less(r:Fa)(h:∀p∈us,p∈ts):Rw G0 H0 G H σ δ us:={r with BC:=fun q l=>r.BC q (h q l)}
def Rw.put(r:Fa)(h:Du G x v):Rw G0 H0 G H σ δ ((x,v)::ts):={r with BC:=fun q l=>by rcases aO.mp l with rfl|l;exact h;exact r.BC q l}
def Rw.newObj(r:Fa)(l:H p=none):Rw G0 H0 (upd G p o) (upd H p o) σ δ ts:=by
 have h0:H0 p=none:=by
  cases q:H0 p with
  |none=>rfl
  |some u=>rw[r.keep _ _ q]at l;cases l
 have e:=Aj (show G p=none by
  cases q:G p with
  |none=>rfl
  |some u=>rw[r.ins _ _ q]at l;cases l) o
 refine⟨r.ext.trans e,fun a u h=>?_,fun a u h=>?_,r.keep.trans (Aj l o),r.len,fun i x h=>?_,fun i xs h=>?_,r.apart,fun q Z=>(r.BC q Z).same e⟩
 .by_cases ha:a=p
  .lia
  .rw[AN ha]at h;exact r.new _ _ h
 .by_cases ha:a=p
  .subst ha;rw[AR]at h ⊢;exact h
  .rw[AN ha]at h ⊢;exact r.ins _ _ h
 .obtain⟨v,M,I⟩:=r.dat i x h;exact⟨v,M,I.same e⟩
 .obtain⟨a,ys,M,I,Y,U,T⟩:=r.own i xs h;have ha:a≠p:=fun z=>by lia
  exact⟨a,ys,M,by rw[AN ha];exact I,Y,by rw[AN ha];exact U,T.same e⟩
def Rw.dr(r:Fa)(e:AI H H')(T:H' p=some Jl):Rw G0 H0 (upd G p Jl) H' σ δ ts:=by
 have l:AI G (upd G p _):=fun a o h=>by
  by_cases ha:a=p
  .subst ha;have:=e _ _ (r.ins _ _ h);rw[T]at this;rw[AR];exact this
  .rw[AN ha];exact h
 refine⟨r.ext.trans l,fun a u h=>?_,fun a u h=>?_,r.keep.trans e,r.len,fun i x h=>?_,fun i xs h=>?_,r.apart,fun q hq=>(r.BC q hq).same l⟩
 .by_cases ha:a=p
  .subst ha;rw[AR]at h;grind
  .rw[AN ha]at h;exact r.new _ _ h
 .by_cases ha:a=p
  .subst ha;rw[AR]at h;lia
  .rw[AN ha]at h;exact e _ _ (r.ins _ _ h)
 .obtain⟨v,M,I⟩:=r.dat i x h;exact⟨v,M,I.same l⟩
 .obtain⟨a,ys,M,I,Z,Y,U⟩:=r.own i xs h;exact⟨a,ys,M,by rw[AN (fun z=>by subst z;rw[e _ _ Y]at T;cases T;exact U.P8)];exact I,Z,e _ _ Y,U.same l⟩
def Rw.lift(r:Fa)(l:AI G G')(h2:Nw G H G')(Z:AI G' H')(M:AI H H'):Rw G0 H0 G' H' σ δ ts:=by
 refine⟨r.ext.trans l,fun a o h=>?_,Z,r.keep.trans M,r.len,fun i x h=>?_,fun i xs h=>?_,r.apart,fun q hq=>(r.BC q hq).same l⟩
 .rcases h2 a o h with k|k|k
  .exact r.new a o k
  .right;left
   cases q:H0 a with
   |none=>rfl
   |some u=>rw[r.keep _ _ q]at k;lia
  grind
 .obtain⟨v,I,Y⟩:=r.dat i x h;exact⟨v,I,Y.same l⟩
 .obtain⟨a,ys,I,Y,k3,U,T⟩:=r.own i xs h;refine⟨a,ys,I,?_,k3,M _ _ U,T.same l⟩;cases q:G' a with
  |none=>rfl
  |some u=>
   rcases h2 a u q with z|z|⟨xs',z⟩
   .lia
   .lia
   .have:=Z _ _ q;rw[M _ _ U,z]at this;cases this;exact T.P8.elim
end
section
variable{X:Cx}{a b e:Expr}{f g h:AAi}{pos:Pos}
def wC:DE X (.Constant (.int i) j pos) (fun _=>some (.int i)):=⟨_,Bu,fun δ x h G0 H0 G H σ ts Q r k=>by cases h;exact k _ _ _ (r.put Iq)⟩
def xY:DE X (.Constant (.bool i) j pos) (fun _=>some (.bool i)):=⟨_,yE,fun δ x h G0 H0 G H σ ts Q r k=>by cases h;exact k _ _ _ (r.put Iq)⟩
def Wv:DE X (.Constant .none j pos) (fun _=>some .none):=⟨_,uG,fun δ x h G0 H0 G H σ ts Q r k=>by cases h;exact k _ _ _ (r.put Iq)⟩
def iB:DE X (.Constant (.str i) j pos) (fun _=>some (.str i)):=⟨_,tu,fun δ x h G0 H0 G H σ ts Q r k=>by cases h;exact k _ _ _ (r.put Iq)⟩
def nm(i:Nat)(δ:Dv):AAt:=match δ[i]? with|some (.d x)=>some x|_=>none
def yU(h:nm i δ=some x):δ[i]? = some (.d x):=by
 unfold nm at h
 lia
def Dr(h:PE X (.Name x pos) (HV i)):DE X (.Name x pos) (nm i):=⟨_,h,fun δ y l G0 H0 G H σ ts Q r k=>let⟨v,M,I⟩:=r.dat _ _ (yU l);⟨v,M,k _ _ _ (r.put I)⟩⟩
def AF(o:PD->PD->Option PD)(f g:AAi)(δ:Dv):AAt:=(f δ).bind fun x=>(g δ).bind fun y=>o x y
structure Cz(X:Cx)(m:Value->Value->Sem Value)(o:PyData->PyData->Option PyData):Prop where
 ex:∃r:R2,CN X m r/\∀x y z,o x y=some z->∀G0 H0 G H σ δ ts u v (Q:VK),Rw G0 H0 G H σ δ ts->Du G x u->Du G y v->(∀w G' H',Rw G0 H0 G' H' σ δ ((z,w)::ts)->Q w H')->r u v H Q
def two{x y:PD}(h:AF o f g δ=some z):∃x y,f δ=some x/\g δ=some y/\o x y=some z:=by
 obtain⟨x,T,l⟩:=aA.mp h;obtain⟨y,M,I⟩:=aA.mp l
 grind
def nK(ho:Cz X (binaryOp op) o)(ha:DE X a f)(hb:DE X b g):DE X (.BinOp a op b pos) (AF o f g):=by
 obtain⟨r,Z,M⟩:=ho;obtain⟨ta,I,U⟩:=ha;obtain⟨tb,l,T⟩:=hb;refine⟨_,DQ Z I l,fun δ z Y G0 H0 G H σ ts Q R0 k=>?_⟩;obtain⟨x,y,h1,h2,h3⟩:=two (x:=.none) (y:=.none) Y;exact U δ x h1 G0 H0 G H σ ts _ R0 fun u G1 H1 R1=>T δ y h2 G0 H0 G1 H1 σ _ _ R1 fun v G2 H2 R2=>M x y z h3 G0 H0 G2 H2 σ δ ts u v Q R2.drop.drop (R2.BC (x,u) (.tail _ Da)) (R2.BC (y,v) Da) k
def uz(ho:Cz X (compareOp op) o)(ha:DE X a f)(hb:DE X b g)(hm:behindInMarks op b=false):DE X (.Compare a [op] [b] pos) (AF o f g):=by
 obtain⟨r,Z,M⟩:=ho;obtain⟨ta,I,U⟩:=ha;obtain⟨tb,l,T⟩:=hb;refine⟨_,qo Z I l hm,fun δ z Y G0 H0 G H σ ts Q R0 k=>?_⟩;obtain⟨x,y,h1,h2,h3⟩:=two (x:=.none) (y:=.none) Y;exact U δ x h1 G0 H0 G H σ ts _ R0 fun u G1 H1 R1=>T δ y h2 G0 H0 G1 H1 σ _ _ R1 fun v G2 H2 R2=>M x y z h3 G0 H0 G2 H2 σ δ ts u v Q R2.drop.drop (R2.BC (x,u) (.tail _ Da)) (R2.BC (y,v) Da) k
end
section
variable{X:Cx}
def PC(o o':PD->PD->Option PD)(x y:PD):AAt:=match o x y with|some z=>some z|none=>o' x y
def Cz.or(h:Cz X m o)(h':Cz X m o'):Cz X m (PC o o'):=by
 obtain⟨r,T,Y⟩:=h;obtain⟨U,l,I⟩:=h';refine⟨_,CN.or T l,fun x y z M G0 H0 G H σ δ ts u v Q R0 du Z k=>?_⟩;unfold PC at M
 grind
def OY{o:Int->Int->Option PD}(I:CN X m (rI C Y))(M:∀i j z,o i j=some z->C i j/\∀H,Du H z (Y i j)) :
  Cz X m (fun x y=>match x,y with|.int i,.int j=>o i j|_,_=>none):=by
 refine⟨_,I,fun x y z l G0 H0 G H σ δ ts u v Q R0 du Z k=>?_⟩;split at l
 .rename_i i j;obtain⟨U,T⟩:=M i j z l;exact⟨i,j,du,Z,U,k _ _ _ (R0.put (T _))⟩
 lia
def Jt{o:Int->Int->PD}(I:CN X m (Tx T))(M:∀i j H,Du H (o i j) (T i j)) :
  Cz X m (fun x y=>match x,y with|.int i,.int j=>some (o i j)|_,_=>none):=by
 refine⟨_,I,fun x y z l G0 H0 G H σ δ ts u v Q Y du U k=>?_⟩;split at l
 .rename_i i j;cases l;exact⟨i,j,du,U,k _ _ _ (Y.put (M _ _ _))⟩
 lia
def A6:Nat:=1000
def S9{n:Nat}(h:n<=A6):n<sizeLine:=Ux h
def GB(h:n<=A6):n<=sizeLine:=ay (Ux h)
def uO:PD->PD->Option PD:=fun x y=>match x,y with|.int i,.int j=>some (.int (i+j))|_,_=>none
def E3:PD->PD->Option PD:=fun x y=>match x,y with|.int i,.int j=>some (.int (i-j))|_,_=>none
def LJ(n:Nat)(i:Int):Bool:=decide (i.natAbs<2^n)
def OI(i j:Int):Bool:=LJ 64 i||LJ 64 j||(LJ 9000 i&&LJ 9000 j)
def cY:PD->PD->Option PD:=fun x y=>match x,y with|.int i,.int j=>(if OI i j=true then some (.int (i*j)) else none)|_,_=>none
def Dx:PD->PD->Option PD:=fun x y=>match x,y with|.int i,.int j=>(if j≠0/\LJ 9000 j=true then some (.int (i.fdiv j)) else none)|_,_=>none
def Cr:PD->PD->Option PD:=fun x y=>match x,y with|.int i,.int j=>(if j≠0 then some (.int (i.fmod j)) else none)|_,_=>none
def QN:PD->PD->Option PD:=fun x y=>match x,y with|.int i,.int j=>(if 0<=j/\j<=1000/\LJ 64 i=true then some (.int (i^j.toNat)) else none)|_,_=>none
def oa:Cz X (binaryOp .Add) uO:=Jt iR fun _ _ _=>by rfl
def oV:Cz X (binaryOp .Sub) E3:=Jt gP fun _ _ _=>by rfl
def mn(h:LJ 64 i=true):-(2^64)<i/\i<2^64:=by
 have:=ah h
 lia
def rB:Cz X (binaryOp .Mult) cY:=OY IL fun i j z h=>by
 split at h
 .rename_i q;cases h;refine⟨?_,fun _=>by rfl⟩;unfold OI at q;rw[Bool.or_eq_true,Bool.or_eq_true,(HW)]at q;rcases q with (q|q)|q
  .exact .inl (.inl (mn q))
  .exact .inl (.inr (mn q))
  .exact .inr ⟨9000,by decide,of_decide_eq_true q.1,of_decide_eq_true q.2⟩
 lia
def qN:Cz X (binaryOp .FloorDiv) Dx:=OY Gq fun i j z h=>by
 split at h
 .rename_i q;cases h;exact⟨⟨q.1,9000,Nat.le_refl _,of_decide_eq_true q.2⟩,fun _=>by rfl⟩
 lia
def rK:Cz X (binaryOp .Mod) Cr:=OY SN fun i j z h=>by
 split at h
 .rename_i q;cases h;exact⟨q,fun _=>by rfl⟩
 lia
def qf:Cz X (binaryOp .Pow) QN:=OY vJ fun i j z h=>by
 split at h
 .rename_i q;cases h;exact⟨⟨q.1,by lia,of_decide_eq_true q.2.2⟩,fun _=>by rfl⟩
 lia
def CQ(p:Int->Int->Bool):PD->PD->Option PD:=fun x y=>match x,y with|.int i,.int j=>some (.bool (p i j))|_,_=>none
def xq:Cz X (compareOp .Lt) Tk:=Jt dJ fun _ _ _=>by rfl
def xK:Cz X (compareOp .Gt) Id:=Jt VX fun _ _ _=>by rfl
def xb:Cz X (compareOp .GtE) (CQ fun i j=>decide (j<=i)):=Jt x8 fun _ _ _=>by rfl
def WN:PD->PD->Option PD:=fun x y=>match x,y with|.list a,.list b=>(if a.length+b.length<=A6 then some (.list (a++b)) else none)|_,_=>none
def qR:Cz X (binaryOp .Add) WN:=by
 refine⟨_,vG,fun x y z M G0 H0 G H σ δ ts u v Q T du dv k=>?_⟩;unfold WN at M;split at M
 .split at M
  .cases M;obtain⟨p,xs,rfl,h1,Y⟩:=du;obtain⟨q,ys,rfl,Z,U⟩:=dv;refine⟨p,q,xs,ys,rfl,rfl,T.ins _ _ h1,T.ins _ _ Z,GB (by rw[Y.len,U.len];lia),fun l I=>k _ _ _ ((T.newObj I).put ?_)⟩;have e:AI G (upd G l (.lst (xs++ys))):=fun a o h=>by
    rw[AN (Ah (T.ins _ _ h) I)];lia
   exact⟨l,xs++ys,rfl,AR,(Y.same e).app (U.same e)⟩
  lia
 lia
def Rl:PD->PD->Option PD:=fun x y=>match x,y with|.tuple a,.tuple b=>(if a.length+b.length<=A6 then some (.tuple (a++b)) else none)|_,_=>none
def pX:Cz X (binaryOp .Add) Rl:=by
 refine⟨_,qI,fun x y z I G0 H0 G H σ δ ts u v Q M du dv k=>?_⟩;unfold Rl at I;split at I
 .split at I
  .cases I;obtain⟨p,xs,rfl,h1,Y⟩:=du;obtain⟨q,ys,rfl,h3,U⟩:=dv;refine⟨p,q,xs,ys,rfl,rfl,M.ins _ _ h1,M.ins _ _ h3,GB (by rw[Y.len,U.len];lia),fun l H' e T=>k _ _ _ ((M.dr e T).put ?_)⟩;have Z:AI G (upd G l _):=fun a o h=>by
    by_cases ha:a=l
    .subst ha;have:=e _ _ (M.ins _ _ h);rw[T]at this;rw[AR];exact this
    .rw[AN ha];lia
   exact⟨l,xs++ys,rfl,AR,(Y.same Z).app (U.same Z)⟩
  lia
 lia
def lF:PD->PD->Option PD:=fun x y=>match x,y with|.str a,.str b=>(if a.length+b.length<=A6 then some (.str (a++b)) else none)|_,_=>none
def qM:Cz X (binaryOp .Add) lF:=by
 refine⟨_,cn,fun x y z l G0 H0 G H σ δ ts u v Q T du M k=>?_⟩;unfold lF at l;split at l
 .rename_i a b;split at l
  .rename_i I;cases l;exact⟨a,b,du,M,GB I,k _ _ _ (T.put (by rw[Du]))⟩
  .cases l
 .cases l
def Aq:PD->PD->Option PD:=PC uO (PC WN (PC Rl lF))
def f9:Cz X (binaryOp .Add) Aq:=oa.or (qR.or (pX.or qM))
def WV:PD->PD->Option PD:=fun x y=>match x,y with|.list a,.int k=>(if a.length*k.toNat<=A6/\-1000000<=k/\k<=1000000 then some (.list (List.replicate k.toNat a).flatten) else none)|_,_=>none
def Ad.rep(h:Ad H ds xs):∀n,Ad H (List.replicate n ds).flatten (List.replicate n xs).flatten
 |0=>.nil
 |n+1=>h.app (h.rep n)
def qL:Cz X (binaryOp .Mult) WV:=by
 refine⟨_,u9,fun x y z M G0 H0 G H σ δ ts u v Q T du Z k=>?_⟩;unfold WV at M;split at M
 .rename_i a n;split at M
  .rename_i hl;cases M;obtain⟨p,xs,rfl,Y,U⟩:=du;subst Z;exact⟨p,n,xs,rfl,rfl,T.ins _ _ Y,by lia,by lia,GB (by rw[U.len];lia),fun l I=>k _ _ _ ((T.newObj I).put (⟨l,_,rfl,AR,(U.same (fun a o h=>by
    rw[AN (Ah (T.ins _ _ h) I)];lia)).rep _⟩))⟩
  lia
 lia
def BL:PD->PD->Option PD:=PC cY WV
def g9:Cz X (binaryOp .Mult) BL:=rB.or qL
def Uk(h:SeqAt.shaped d=true):d.canLay0=true:=by unfold SeqAt.shaped at h;lia
def Bm(neg:Bool):PD->PD->Option PD:=fun x y=>if SeqAt.shaped x=true/\SeqAt.shaped y=true then some (.bool (if neg then !PyData.eqv x y else PyData.eqv x y)) else none
def fQ(T:CN X m (lL X.K neg)):Cz X m (Bm neg):=by
 refine⟨_,T,fun x y z I G0 H0 G H σ δ ts u v Q M du U k=>?_⟩;unfold Bm at I;split at I
 .rename_i l;cases I;exact⟨x,y,(du.same M.ins).br (Uk l.1),(U.same M.ins).br (Uk l.2),l.1,l.2,k _ _ _ (M.put Iq)⟩
 lia
def xJ(l:IR):Cz X (compareOp .Eq) UV:=fQ (vj l)
def xt(l:IR):Cz X (compareOp .NotEq) (Bm true):=fQ (uM l)
def PyData.kY:PD->Bool
 |.none=>true
 |_=>false
def sT:∀ {x} {u},Du H x u->decide (u=.BV)=PyData.kY x
 |.none,u,h=>by subst h;rfl
 |.bool _,u,h=>by subst h;rfl
 |.int _,u,h=>by subst h;rfl
 |.str _,u,h=>by subst h;rfl
 |.tuple _,u,h=>by obtain⟨a,xs,rfl,_⟩:=h;rfl
 |.list _,u,h=>by obtain⟨a,xs,rfl,_⟩:=h;rfl
 |.dict [],u,h=>by rcases h with ⟨ea,C,_,rfl,_⟩|⟨a,ns,_,rfl,_⟩|h;rfl;rfl;exact h.elim
 |.dict ((_,_)::_),u,h=>by rcases h with ⟨ea,C,_,rfl,_⟩|⟨a,ns,_,rfl,_⟩|⟨_,_,a,r,rfl,_⟩<;>rfl
def wK(neg:Bool):PD->PD->Option PD:=fun x y=>match y with
 |.none=>some (.bool (if neg then !PyData.kY x else PyData.kY x))
 |_=>none
def nE:Cz X (compareOp .Is) (wK false):=by
 refine⟨_,vq,fun x y z l G0 H0 G H σ δ ts u v Q M du I k=>?_⟩;unfold wK at l;split at l
 .cases l;refine⟨I,?_⟩;rw[sT du];exact k _ _ _ (M.put Iq)
 lia
end
section
variable{X:Cx}{a b c e:Expr}{es:AA0}{f g h:AAi}{pos p:Pos}
def Ll:PD->Option Bool
 |.bool b=>some b
 |_=>none
def Pb:PD->Option Int
 |.int b=>some b
 |_=>none
def OH{b}(h:Ll x=some b):x=.bool b:=by
 unfold Ll at h;lia
def Rm{b}(h:Pb x=some b):x=.int b:=by
 unfold Pb at h;lia
def u5(ha:DE X a f):DE X (.UnaryOp .USub a pos) (fun δ=>(f δ).bind fun x=>(Pb x).map fun i=>.int (-i)):=by
 obtain⟨ta,I,M⟩:=ha;refine⟨_,oE fL I,fun δ z T G0 H0 G H σ ts Q R0 k=>?_⟩;obtain⟨x,Z,Y⟩:=aA.mp T;obtain⟨i,U,rfl⟩:=aC.mp Y;have:=Rm U;subst this;exact M δ _ Z G0 H0 G H σ ts _ R0 fun u G1 H1 l=>⟨i,(l.BC _ Da),k _ _ _ (l.drop.put Iq)⟩
def tw(ha:DE X a f):DE X (.UnaryOp .Not a pos) (fun δ=>(f δ).bind fun x=>(Ll x).map fun i=>.bool (!i)):=by
 obtain⟨ta,I,M⟩:=ha;refine⟨_,tT I,fun δ z T G0 H0 G H σ ts Q R0 k=>?_⟩;obtain⟨x,Z,Y⟩:=aA.mp T;obtain⟨i,U,rfl⟩:=aC.mp Y;have:=OH U;subst this;exact M δ _ Z G0 H0 G H σ ts _ R0 fun u G1 H1 l=>⟨i,(l.BC _ Da),k _ _ _ (l.drop.put Iq)⟩
def wF(ha:DE X a f):DE X (.BoolOp op [a] pos) f:=let⟨M,l,I⟩:=ha;⟨_,wL l,I⟩
def uk(ha:DE X a f)(hb:DE X (.BoolOp .And (b::rest) pos) g):DE X (.BoolOp .And (a::b::rest) pos) (fun δ=>(f δ).bind fun x=>(Ll x).bind fun c=>if c=true then g δ else some (.bool false)):=by
 obtain⟨ta,U,Z⟩:=ha;obtain⟨tb,T,Y⟩:=hb;refine⟨_,ur U T,fun δ z hz G0 H0 G H σ ts Q R0 k=>?_⟩;obtain⟨x,h1,h2⟩:=aA.mp hz;obtain⟨i,h3,l⟩:=aA.mp h2;have:=OH h3;subst this;refine Z δ _ h1 G0 H0 G H σ ts _ R0 fun u G1 H1 M=>⟨i,(M.BC _ Da),?_⟩;split
 .rename_i I;rw[if_pos I]at l;exact Y δ z l G0 H0 G1 H1 σ ts Q M.drop k
 .rename_i I;rw[if_neg I]at l;cases l;exact k _ _ _ (M.drop.put Iq)
variable{fa fb:AAk}
structure DW(X:Cx)(e:Expr)(f:Dv->Option Bool):Prop where
 ex:∃t,PW X e t/\∀δ b,f δ=some b->∀G0 H0 G H σ ts (Q:Bool->Hp->Prop),Rw G0 H0 G H σ δ ts->(∀G' H',Rw G0 H0 G' H' σ δ ts->Q b H')->t σ H Q
def DW.dt(h:DW X e fa):DT X e fa:=let⟨t,p,k⟩:=h;⟨t,p.pt,k⟩
def eZ(ho:Cz X (compareOp op) o)(ha:DE X a f)(hb:DE X b g)(hm:behindInMarks op b=false):DT X (.Compare a [op] [b] pos) (fun δ=>(AF o f g δ).bind Ll):=by
 obtain⟨r,hr,T⟩:=ho;obtain⟨ta,M,Y⟩:=ha;obtain⟨tb,I,U⟩:=hb;refine⟨_,Dg hr M I hm,fun δ z Z G0 H0 G H σ ts Q R0 k=>?_⟩;obtain⟨q,h0,h4⟩:=aA.mp Z;have:=OH h4;subst this;obtain⟨x,y,h1,h2,h3⟩:=two (x:=.none) (y:=.none) h0;exact Y δ x h1 G0 H0 G H σ ts _ R0 fun u G1 H1 R1=>U δ y h2 G0 H0 G1 H1 σ _ _ R1 fun v G2 H2 R2=>T x y _ h3 G0 H0 G2 H2 σ δ ts u v _ R2.drop.drop (R2.BC (x,u) (.tail _ Da)) (R2.BC (y,v) Da) fun w G3 H3 l=>⟨z,(l.BC _ Da),k _ _ l.drop⟩
def gF(ha : DE X e f)(he : ∀ whole,isTrue e X.env whole = (do let v <- whole; standAt e.pos; holding [v] (truthy v)):=by intro _; rfl):DT X e (fun δ => (f δ).bind Ll):=by
  obtain ⟨ta,pa,ka⟩:=ha
  refine ⟨_,wJ pa he,fun δ z hz G0 H0 G H σ ts Q R0 k => ?_⟩
  obtain ⟨q,h0,h4⟩:=aA.mp hz
  have:=OH h4; subst this
  exact ka δ _ h0 G0 H0 G H σ ts _ R0 fun u G1 H1 R1 => ⟨z,(R1.BC _ Da),k _ _ R1.drop⟩
def rV(ha:DT X a fa):DT X (.UnaryOp .Not a pos) (fun δ=>(fa δ).map fun c=>!c):=by
 obtain⟨Z,l,I⟩:=ha;refine⟨_,sW l,fun δ z M G0 H0 G H σ ts Q Y k=>?_⟩;obtain⟨i,T,rfl⟩:=aC.mp M;exact I δ _ T G0 H0 G H σ ts _ Y fun G1 H1 U=>k _ _ U
def vN(ha:DT X a fa):DW X (.BoolOp op [a] pos) fa:=by
 obtain⟨M,l,I⟩:=ha;cases op
 .exact⟨_,pC l,I⟩
 .exact⟨_,uh l,I⟩
def uY(ha:DT X a fa)(hb:DW X (.BoolOp .And (b::rest) pos) fb):DW X (.BoolOp .And (a::b::rest) pos) (fun δ=>(fa δ).bind fun c=>if c=true then fb δ else some false):=by
 obtain⟨Z,I,M⟩:=ha;obtain⟨tb,l,kb⟩:=hb;refine⟨_,vx I l,fun δ z T G0 H0 G H σ ts Q Y k=>?_⟩;obtain⟨i,U,h4⟩:=aA.mp T;refine M δ _ U G0 H0 G H σ ts _ Y fun G1 H1 R1=>?_
 grind
def x6(ha:DT X a fa)(hb:DW X (.BoolOp .Or (b::rest) pos) fb):DW X (.BoolOp .Or (a::b::rest) pos) (fun δ=>(fa δ).bind fun c=>if c=true then some true else fb δ):=by
 obtain⟨Z,I,M⟩:=ha;obtain⟨tb,l,kb⟩:=hb;refine⟨_,w6 I l,fun δ z T G0 H0 G H σ ts Q Y k=>?_⟩;obtain⟨i,U,h4⟩:=aA.mp T;refine M δ _ U G0 H0 G H σ ts _ Y fun G1 H1 R1=>?_
 grind
variable{fs:AAh}
def Lw:DA X [] (fun _=>some []):=⟨_,Au,fun δ xs h G0 H0 G H σ ts Q l k=>by cases h;exact k [] G H (by simp_all) rfl⟩
def Eg(ha:DE X e f)(Y:DA X es fs)(U:starEach cr X.env=EQ::starEach es X.env:=by rfl):DA X cr (fun δ=>(f δ).bind fun x=>(fs δ).map fun xs=>x::xs):=by
 obtain⟨ta,l,M⟩:=ha;obtain⟨tr,pr,I⟩:=Y;refine⟨_,AV l pr U,fun δ z T G0 H0 G H σ ts Q R0 k=>?_⟩;obtain⟨x,h1,h2⟩:=aA.mp T;obtain⟨xs,h3,rfl⟩:=aC.mp h2;refine M δ x h1 G0 H0 G H σ ts _ R0 fun u G1 H1 R1=>I δ xs h3 G0 H0 G1 H1 σ _ _ R1 fun vs G2 H2 R2 hl=>k _ G2 H2 (R2.less fun q Z=>?_) GM;simp at Z ⊢
 lia
theorem dz:∀ {xs} {vs},vs.length=xs.length->(∀q∈xs.zip vs,Du G q.1 q.2)->Ad G xs vs
 |[],vs,l,_=>by rw[List.eq_nil_of_length_eq_zero l];rfl
 |x::xs,[],l,_=>by grind
 |x::xs,v::vs,l,h=>.cons (h (x,v) By) (dz GM fun q I=>by simp_all)
def Rw.args(r:Rw G0 H0 G H σ δ (xs.zip vs++ts))(I:vs.length=xs.length):Ad G xs vs/\Rw G0 H0 G H σ δ ts :=
 ⟨dz I fun q l=>r.BC q (List.mem_append_left _ l),r.less fun q l=>by grind⟩
def Rw.NC{p}(r:Fa)(d:Ad G xs vs)(l:H p=none):Rw G0 H0 (upd G p (.lst vs)) (upd H p (.lst vs)) σ δ ((.list xs,.ref p)::ts):=(r.newObj l).put (⟨p,vs,rfl,AR,d.same (fun a o h=>by rw[AN (Ah (r.ins _ _ h) l)];lia)⟩)
def Rw.ba{p}(r:Fa)(d:Ad G xs vs)(l:H p=none):Rw G0 H0 (upd G p (.tup vs)) (upd H p (.tup vs)) σ δ ((.tuple xs,.ref p)::ts):=(r.newObj l).put (⟨p,vs,rfl,AR,d.same (fun a o h=>by rw[AN (Ah (r.ins _ _ h) l)];lia)⟩)
def BI(xs:AAl):AAg:=if xs.length<=A6 then some xs else none
def N6(h:BI xs=some ys):xs=ys/\xs.length<=A6:=by
 unfold BI at h;lia
def tG(ha:DA X es fs):DE X (.Tuple es x1 pos) (fun δ=>((fs δ).bind BI).map .tuple):=by
 obtain⟨ta,l,I⟩:=ha;refine⟨_,NR l,fun δ z M G0 H0 G H σ ts Q R0 k=>?_⟩;obtain⟨ys,h1,rfl⟩:=aC.mp M;obtain⟨xs,Z,Y⟩:=aA.mp h1;obtain⟨rfl,hl⟩:=N6 Y;refine I δ _ Z G0 H0 G H σ ts _ R0 fun vs G1 H1 R1 T=>?_;obtain⟨d,R2⟩:=R1.args T;exact⟨GB AS,fun q U=>k _ _ _ (R2.ba d U)⟩
def Rf(ha:DA X es fs):DE X (.List es pos) (fun δ=>((fs δ).bind BI).map .list):=by
 obtain⟨ta,l,I⟩:=ha;refine⟨_,Q8 l,fun δ z M G0 H0 G H σ ts Q R0 k=>?_⟩;obtain⟨ys,h1,rfl⟩:=aC.mp M;obtain⟨xs,Z,Y⟩:=aA.mp h1;obtain⟨rfl,hl⟩:=N6 Y;refine I δ _ Z G0 H0 G H σ ts _ R0 fun vs G1 H1 R1 T=>?_;obtain⟨d,R2⟩:=R1.args T;exact⟨GB AS,fun q U=>k _ _ _ (R2.NC d U)⟩
theorem Ad.Fw(h:Ad H ds xs)(e:Fw ds i=some d):∃v,Fw xs i=some v/\Du H d v:=by
 unfold L2.Fw at e ⊢;rw[h.len];obtain⟨j,T,l⟩:=aA.mp e;obtain⟨v,M,I⟩:=h.get l
 grind
theorem NB:∀ns:List Int,Ad G (ns.map .int) (ns.map V.int)
 |[]=>.nil
 |n::ns=>.cons Iq (NB ns)
def Ak:PD->PD->Option PD:=fun x y=>match x,y with
 |.list xs,.int i=>Fw xs i
 |.tuple xs,.int i=>Fw xs i
 |.dict [(.none,.list xs)],.int i=>Fw xs i
 |.str z,.int i=>if z.length<=A6 then(Fw z.cps.toList i).map fun c=>.str ⟨#[c]⟩ else none
 |_,_=>none
def yZ(ha:DE X a f)(hb:DE X b g)(hs:Ta b):DE X (.Subscript a b pos) (AF Ak f g):=by
 obtain⟨ta,pa,ka⟩:=ha;obtain⟨tb,pb,kb⟩:=hb;refine⟨_,IU rS pa pb hs,fun δ z hz G0 H0 G H σ ts Q R0 k=>?_⟩;obtain⟨x,y,h1,h2,l⟩:=two (x:=.none) (y:=.none) hz;refine ka δ x h1 G0 H0 G H σ ts _ R0 fun u G1 H1 R1=>?_;refine kb δ y h2 G0 H0 G1 H1 σ _ _ R1 fun v G2 H2 R2=>?_;have du:=R2.BC (x,u) (.tail _ Da);have U:=R2.BC (y,v) Da;unfold Ak at l;split at l
 .obtain⟨p,xs,rfl,T,Y⟩:=du;obtain⟨w,I,M⟩:=Y.Fw l;exact .inl ⟨p,xs,_,w,rfl,U,Am.of (R2.ins _ _ T),I,k _ _ _ (R2.drop.drop.put M)⟩
 .obtain⟨p,xs,rfl,T,Y⟩:=du;obtain⟨w,I,M⟩:=Y.Fw l;exact .inr (.inl ⟨p,xs,_,w,rfl,U,A4.of (R2.ins _ _ T),I,k _ _ _ (R2.drop.drop.put M)⟩)
 .rcases du with ⟨ea,C,Z,_⟩|⟨p,ns,Z,rfl,T⟩|z
  rotate_left 2
  .cases z.1
  .simp at Z
  .obtain rfl:_=ns.map PyData.int:=by simpa using Z
   obtain⟨w,I,M⟩:=(NB (G:=_) ns).Fw l;exact .inl ⟨p,_,_,w,rfl,U,.inl (T.same R2.ins),I,k _ _ _ (R2.drop.drop.put M)⟩
 .rw[Du]at du;split at l
  .rename_i hl;obtain⟨ch,I,rfl⟩:=aC.mp l;exact .inr (.inr ⟨_,_,ch,du,U,GB hl,I,k _ _ _ (R2.drop.drop.put (by rw[Du]))⟩)
  .cases l
 .cases l
end
def Aw(g:MD):Sp:=fun vs H Q _=>∃ds x G,g ds=some x/\Ad G ds vs/\AI G H/\∀v G' H',AI G G'->Nw G H G'->AI G' H'->AI H H'->Du G' x v->Q v H'
section
variable{X:Cx}{a e:Expr}{es:AA0}{f h:AAi}{fs:AAh}{pos p:Pos}
def ZQ{st}(T:Fn X.K X.mg x st ps fA fd)(F:Af X.prog X.w X.K X.mg X.base Ac k fA fd ps (Aw m))(hr:Bh k X.A)(hg:Gl X x)(ha:DA X cr fs) (I:Fk=false:=by decide)(he:starEach cr X.env=EQ::starEach es X.env:=by rfl)(l:(backTo pos ON).any Hq=false:=by rfl):DE X Cl (fun δ=>(fs δ).bind m):=by
 obtain⟨ta,M,U⟩:=ha;refine⟨_,EW T F hr hg M I he l,fun δ z Y G0 H0 G H σ ts Q R0 k=>?_⟩;obtain⟨xs,h1,h2⟩:=aA.mp Y;refine U δ _ h1 G0 H0 G H σ ts _ R0 fun vs G1 H1 R1 Z=>?_;obtain⟨d,R2⟩:=R1.args Z;exact⟨xs,z,G1,h2,by grind,R2.ins,fun v G' H' h3 h4 h5 h6 h7=>k _ _ _ ((R2.lift h3 h4 h5 h6).put h7)⟩
structure Kj(X:Cx)(v:Value)(o:MD):Prop where
 ex:∃r,C6 X v r/\∀xs z,o xs=some z->∀G0 H0 G H σ δ ts us (Q:VK),Rw G0 H0 G H σ δ ts->Ad G xs us->(∀w G' H',Rw G0 H0 G' H' σ δ ((z,w)::ts)->Q w H')->r us H Q
def J0{id}(hc:Kj X (.builtin id) o)(hg:Gl X x)(hm:X.mg x=none)(l:bootBuiltins x=some (.builtin id))(ha:DA X cr fs)(hn:x ≠ "__name__":=by decide)(M:Fk=false:=by decide) (he:starEach cr X.env=EQ::starEach es X.env:=by rfl)(I:(backTo pos ON).any Hq=false:=by rfl):DE X Cl (fun δ=>(fs δ).bind o):=by
 obtain⟨r,Z,kr⟩:=hc;obtain⟨ta,T,U⟩:=ha;refine⟨_,EX Z hg hm l T hn M he I,fun δ z Y G0 H0 G H σ ts Q R0 k=>?_⟩;obtain⟨xs,h1,h2⟩:=aA.mp Y;refine U δ _ h1 G0 H0 G H σ ts _ R0 fun vs G1 H1 R1 l=>?_;obtain⟨d,R2⟩:=R1.args l
 grind
def UL(hc:Kj X (.type T) o)(hg:Gl X x)(hm:X.mg x=none)(l:bootBuiltins x=some (.type T))(ha:DA X cr fs)(hn:x ≠ "__name__":=by decide)(M:Fk=false:=by decide) (he:starEach cr X.env=EQ::starEach es X.env:=by rfl)(I:(backTo pos ON).any Hq=false:=by rfl):DE X Cl (fun δ=>(fs δ).bind o):=by
 obtain⟨r,hr,kr⟩:=hc;obtain⟨ta,U,Y⟩:=ha;refine⟨_,Ul hr hg hm l U hn M he I,fun δ z Z G0 H0 G H σ ts Q R0 k=>?_⟩;obtain⟨xs,h1,h2⟩:=aA.mp Z;refine Y δ _ h1 G0 H0 G H σ ts _ R0 fun vs G1 H1 R1 l=>?_;obtain⟨d,R2⟩:=R1.args l
 grind
def Ad.Il(h:Ad H [d] xs):∃x,xs=[x]/\Du H d x:=by
 obtain⟨x,r,rfl,I,l⟩:=h.un;rw[l.nil_eq];lia
def Ad.Jv{d e}(h:Ad H [d,e] xs):∃x y,xs=[x,y]/\Du H d x/\Du H e y:=by
 obtain⟨x,r,rfl,M,l⟩:=h.un;obtain⟨y,rfl,I⟩:=l.Il;lia
def BS:MD
 |[.list xs]=>some (.int xs.length)
 |[.tuple xs]=>some (.int xs.length)
 |[.dict [(.none,.list xs)]]=>some (.int xs.length)
 |_=>none
def sM:Kj X (.builtin "len") BS:=by
 refine⟨_,W6,fun xs z I G0 H0 G H σ δ ts us Q l d k=>?_⟩;unfold BS at I;split at I
 .cases I;obtain⟨u,rfl,du⟩:=d.Il;obtain⟨p,ys,rfl,M,T⟩:=du;refine⟨p,ys,rfl,.inl (Am.of (l.ins _ _ M)),?_⟩;rw[T.len];exact k _ _ _ (l.put Iq)
 .cases I;obtain⟨u,rfl,du⟩:=d.Il;rw[Du]at du;obtain⟨p,ys,rfl,M,T⟩:=du;refine⟨p,ys,rfl,.inr (A4.of (l.ins _ _ M)),?_⟩;rw[T.len];exact k _ _ _ (l.put (by rw[Du]))
 .cases I;obtain⟨u,rfl,du⟩:=d.Il;rcases du with ⟨ea,C,U,_⟩|⟨p,ns,U,rfl,M⟩|z
  rotate_left 2
  .cases z.1
  .lia
  .obtain rfl:_=ns.map PyData.int:=by simpa using U
   refine⟨p,_,rfl,.inl (.inl (M.same l.ins)),?_⟩;rw[Pi]at k ⊢;exact k _ _ _ (l.put (by rw[Du]))
 lia
def Ez:MD
 |[.list xs]=>some (.tuple xs)
 |[.tuple xs]=>some (.tuple xs)
 |_=>none
def l8:Kj X LE Ez:=by
 refine⟨_,VN,fun xs z I G0 H0 G H σ δ ts us Q M d k=>?_⟩;unfold Ez at I;split at I
 .cases I;obtain⟨u,rfl,du⟩:=d.Il;obtain⟨p,ys,rfl,T,Y⟩:=du;exact⟨p,ys,rfl,.inl ⟨Am.of (M.ins _ _ T),fun l Z=>k _ _ _ (M.ba Y Z)⟩⟩
 .cases I;obtain⟨u,rfl,du⟩:=d.Il;have U:=du;obtain⟨p,ys,rfl,T,Y⟩:=du;exact⟨p,ys,rfl,.inr ⟨A4.of (M.ins _ _ T),k _ _ _ (M.put U)⟩⟩
 lia
def OZ:MD
 |[.list xs]=>some (.list xs)
 |[.tuple xs]=>some (.list xs)
 |_=>none
def pE:Kj X (.type "list") OZ:=by
 refine⟨_,Vl,fun xs z I G0 H0 G H σ δ ts us Q M d k=>?_⟩;unfold OZ at I;split at I
 .cases I;obtain⟨u,rfl,du⟩:=d.Il;obtain⟨p,ys,rfl,Y,U⟩:=du;exact⟨p,ys,rfl,.inl (Am.of (M.ins _ _ Y)),fun l T=>k _ _ _ (M.NC U T)⟩
 .cases I;obtain⟨u,rfl,du⟩:=d.Il;obtain⟨p,ys,rfl,Y,U⟩:=du;exact⟨p,ys,rfl,.inr (A4.of (M.ins _ _ Y)),fun l T=>k _ _ _ (M.NC U T)⟩
 lia
def Du.ty{K}{H}:∀ {d} {v},(∀l,d≠.dict l)->Du H d v->Hd K H v (.type (SX d))/\∀l,d≠.dict l
 |.none,_,_,h=>by subst h;exact⟨.BV,by simp⟩
 |.bool _,_,_,h=>by subst h;exact⟨.bl _,by simp⟩
 |.int _,_,_,h=>by subst h;exact⟨.int _,by simp⟩
 |.str _,_,_,h=>by subst h;exact⟨.str _,by simp⟩
 |.tuple _,_,_,h=>by obtain⟨a,xs,rfl,I,_⟩:=h;exact⟨.tup I,by simp⟩
 |.list _,_,_,h=>by obtain⟨a,xs,rfl,I,_⟩:=h;exact⟨.lst I,by simp⟩
 |.dict _,_,n,h=>by lia
def cg(q:PD->Bool):PD->Option PD
 |.dict _=>none
 |x=>some (.bool (q x))
def og(h:cg q x=some z):(∀l,x≠.dict l)/\z=.bool (q x):=by
 unfold cg at h
 lia
def RD{p1 M}(hk:∀d ,(∀kv,d≠.dict kv)->PySem.W.kitOne X.K (.type (SX d)) (.type T)=some (q d))(hg:Gl X "isinstance")(hm:X.mg "isinstance" = none)(hgT:Gl X l)(hmT:X.mg l=none)(U:bootBuiltins l=some (.type T))(ha:DE X a f) (Z:l ≠ "__name__":=by decide)(hdT:(l==("__debug__"))=false:=by decide)(I:starEach [a,.Name l M] X.env=Sc::starEach [.Name l M] X.env:=by rfl)(Y:(backTo pos (starEach [.Name l M] X.env)).any Hq=false:=by rfl):DE X (.Call (.Name "isinstance" p1) [a,.Name l M] [] pos) (fun δ=>(f δ).bind (cg q)):=by
 obtain⟨ta,pa,ka⟩:=ha;refine⟨_,EX jJ hg hm PyProof.Rows.boot_isinstance (AV pa (AV (show PE X _ (tC (.ty T)) from SA hgT hmT U rfl Z hdT) Au) I) AC AC I Y,fun δ z hz G0 H0 G H σ ts Q R0 k=>?_⟩;obtain⟨x,h1,h2⟩:=aA.mp hz;obtain⟨n1,rfl⟩:=og h2;refine ka δ _ h1 G0 H0 G H σ ts _ R0 fun u G1 H1 R1=>?_;obtain⟨t1,t2⟩:=((R1.BC _ Da).same R1.ins).ty n1;exact⟨u,.ty T,_,q x,rfl,by simp[EB],t1,hk x t2,k _ _ _ (R1.drop.put Iq)⟩
end
inductive Ou where
 |nx (δ:Dv)|rt (x:PyData)|bk (δ:Dv)|ct (δ:Dv)|rn (xs:List PyData)
def Fin(G0 H0:Hp)(D:Ends):Ou->Prop
 |.nx δ=>∀σ G H,Rw G0 H0 G H σ δ []->D.nx σ H
 |.rt x=>∀v G H,AI G0 G->Nw G0 H0 G->AI G H->AI H0 H->Du G x v->D.rt v H
 |.bk δ=>∀σ G H,Rw G0 H0 G H σ δ []->D.bk σ H
 |.ct δ=>∀σ G H,Rw G0 H0 G H σ δ []->D.ct σ H
 |.rn xs=>∀a ys G H,AI G0 G->Nw G0 H0 G->AI G H->AI H0 H->H0 a=none->G a=none->H a=some KB->Ad G xs ys->D.rt KM H
abbrev DF:=Dv->Option Ou
structure DS(X:Cx)(st:Stmt)(F:DF):Prop where
 ex:∃t,PS X st t/\∀δ r,F δ=some r->∀G0 H0 G H σ D,Rw G0 H0 G H σ δ []->Fin G0 H0 D r->t D σ H
structure KO(X:Cx)(st:List Stmt)(F:DF):Prop where
 ex:∃t,HC X st t/\∀δ r,F δ=some r->∀G0 H0 G H σ D,Rw G0 H0 G H σ δ []->Fin G0 H0 D r->t D σ H
def AL(I l:DF)(δ:Dv):Option Ou:=match I δ with
 |some (.nx δ')=>l δ'
 |o=>o
section
variable{X:Cx}{c e:Expr}{f h:AAi}{fa:AAk}{pos p:Pos}{st:Stmt}{sts sts':ABG}{F1 F2:DF}
def ZR:KO X [] (fun δ=>some (.nx δ)):=⟨_,FJ,fun δ r h G0 H0 G H σ D R k=>by cases h;exact k _ _ _ R⟩
def KL(U:DS X st F1)(T:KO X sts F2):KO X (st::sts) (AL F1 F2):=by
 obtain⟨t1,M,l⟩:=U;obtain⟨Z,I,k2⟩:=T;refine⟨_,Ai M I,fun δ r h G0 H0 G H σ D R k=>?_⟩;unfold AL at h;split at h
 .rename_i δ' Y;exact l δ _ Y G0 H0 G H σ _ R fun σ' G' H' R'=>by grind
 .refine l δ r h G0 H0 G H σ _ R ?_;cases r with
  |nx δ'=>lia
  |rt x=>exact k
  |bk δ'=>exact k
  |ct δ'=>exact k
  |rn xs=>exact k
def OT(M:DS X st F1):KO X [st] F1:=let⟨t1,l,I⟩:=M;⟨_,A8 l,I⟩
def rA:DS X (.Continue pos) (fun δ=>some (.ct δ)):=⟨_,YE,fun δ r h G0 H0 G H σ D R k=>by cases h;exact k _ _ _ R⟩
def WA(I:DE X e f):DS X (.Return (some e) pos) (fun δ=>(f δ).map .rt):=by
 obtain⟨t,p,k⟩:=I;refine⟨_,Ds p,fun δ r h G0 H0 G H σ D R q=>?_⟩;obtain⟨x,M,rfl⟩:=aC.mp h;exact k δ x M G0 H0 G H σ [] _ R fun v G' H' l=>q v G' H' l.ext l.new l.ins l.keep (l.BC _ Da)
def pL(I:DE X e f)(l:swapsWith e none pos.line X.env=pure false:=by rfl):DS X (.Expr e pos) (fun δ=>(f δ).map fun _=>.nx δ):=by
 obtain⟨t,p,k⟩:=I;refine⟨_,II p l,fun δ r h G0 H0 G H σ D R q=>?_⟩;obtain⟨x,M,rfl⟩:=aC.mp h;exact k δ x M G0 H0 G H σ [] _ R fun v G' H' T=>q _ _ _ T.drop
def mL(T:DT X c fa)(Z:KO X sts F1)(Y:KO X sts' F2):DS X (.If c sts sts' pos) (fun δ=>(fa δ).bind fun c=>if c=true then F1 δ else F2 δ):=by
 obtain⟨tc,pc,M⟩:=T;obtain⟨t1,I,k1⟩:=Z;obtain⟨t2,l,k2⟩:=Y;refine⟨_,IY pc I l,fun δ r h G0 H0 G H σ D R q=>?_⟩;obtain⟨i,U,h4⟩:=aA.mp h;refine M δ i U G0 H0 G H σ [] _ R fun G' H' R'=>?_
 grind
end
section
variable{G0 H0 G H:Hp}{σ:St}{δ:Dv}{ts:List (PD×V)}
def Rw.HL(r:Rw G0 H0 G H σ δ ((x,v)::ts)):Rw G0 H0 G H (σ.set i (some v)) (δ.set i (.d x)) ts:=by
 have hl:=r.len;refine⟨r.ext,r.new,r.ins,r.keep,by simp[hl],fun j y h=>?_,fun j ys h=>?_,fun j l ys zs U Z Y=>?_,fun q hq=>r.BC q (.tail _ hq)⟩
 .by_cases I:i=j
  .subst I;by_cases hi:i<δ.length
   .rw[List.getElem?_set_self hi]at h;cases h;exact⟨v,by rw[List.getElem?_set_self AS],r.BC _ Da⟩
   .rw[List.getElem?_eq_none (by simp;lia)]at h;cases h
  .rw[List.getElem?_set_ne I]at h;obtain⟨w,T,M⟩:=r.dat j y h;exact⟨w,by rw[List.getElem?_set_ne I];exact T,M⟩
 .by_cases I:i=j
  .subst I;by_cases hi:i<δ.length
   .rw[List.getElem?_set_self hi]at h;cases h
   .rw[List.getElem?_eq_none (by simp;lia)]at h;cases h
  .rw[List.getElem?_set_ne I]at h;obtain⟨w,T,M,k3⟩:=r.own j ys h;exact⟨w,T,by rw[List.getElem?_set_ne I];exact M,k3⟩
 .have nj:i≠j:=fun z=>by
   grind
  have nl:i≠l:=fun z=>by
   grind
  rw[List.getElem?_set_ne nj]at Z ⊢;rw[List.getElem?_set_ne nl]at Y ⊢;exact r.apart j l ys zs U Z Y
end
section
variable{X:Cx}{e:Expr}{f:AAi}{pos p:Pos}
def RV(U:X.N.Nodup)(hi:X.N[i]? = some x)(I:Loc X.env.scope x)(T:DE X e f)(M:swapsWith e (some (.Name x l)) pos.line X.env=pure false:=by rfl)(hf:X.fn x=true\/X.env.scope.names.lookup x=some .local:=by first|exact .inl rfl|exact .inr rfl|assumption):DS X (.Assign [.Name x l] e pos) (fun δ=>(f δ).map fun y=>.nx (δ.set i (.d y))):=by
 obtain⟨t,p,k⟩:=T;refine⟨_,A0 U hi I p M hf,fun δ r h G0 H0 G H σ D R q=>?_⟩;obtain⟨y,Y,rfl⟩:=aC.mp h;exact k δ y Y G0 H0 G H σ [] _ R fun v G' H' Z=>q _ _ _ Z.HL
end
section
variable{G0 H0 G H:Hp}{σ:St}{δ:Dv}{ts:List (PD×V)}
def Rw.base(r:Fa):Rw G H0 G H σ δ ts:={r with ext:=AI.refl G,new:=fun _ _ h=>.inl h}
def Nw.trans(a:Nw G0 H0 I)(b:Nw I H0 l):Nw G0 H0 l:=fun c o h=>by
 rcases b c o h with z|z|z
 .exact a c o z
 .lia
 grind
def Rw.Lg(r:Fa)(q:Rw G H0 G' H' σ' δ' l):Rw G0 H0 G' H' σ' δ' l:={q with ext:=r.ext.trans q.ext,new:=r.new.trans q.new}
def Eu(i:Nat)(δ:Dv):Dv:=match δ[i]? with
 |some (.own (.lst xs))=>δ.set i (.d (.list xs))
 |some (.own (.Oy kvs))=>δ.set i (.d (Q7 kvs))
 |_=>δ
def Rw.letGo(r:Fa)(hi:δ[i]? = some (.own c))(hx:∀a o,G a=none->IC G a c o->Du (upd G a o) x KM):∃a o,σ[i]? = some (some KM)/\G a=none/\H0 a=none/\H a=some o/\IC G a c o/\Rw G0 H0 (upd G a o) H σ (δ.set i (.d x)) ts:=by
 obtain⟨a,o,k1,k2,k3,k4,k5⟩:=r.own i _ hi;have e:AI G (upd G a o):=Aj k2 _;have I:=(aF.mp hi).1;refine⟨a,o,k1,k2,k3,k4,k5,r.ext.trans e,fun b o' h=>?_,fun b o' h=>?_,r.keep,by simp[r.len],fun j y h=>?_,fun j zs h=>?_,fun j l us ws hjl Y U=>?_,fun q hq=>(r.BC q hq).same e⟩
 .by_cases hb:b=a
  .subst hb;exact .inr (.inl k3)
  .rw[AN hb]at h;exact r.new _ _ h
 .by_cases hb:b=a
  .subst hb;rw[AR]at h;rw[k4];exact h
  .rw[AN hb]at h;exact r.ins _ _ h
 .by_cases M:i=j
  .subst M;rw[List.getElem?_set_self I]at h;cases h;exact⟨.ref a,k1,hx a o k2 k5⟩
  .rw[List.getElem?_set_ne M]at h;obtain⟨w,T,Z⟩:=r.dat j y h;exact⟨w,T,Z.same e⟩
 .by_cases M:i=j
  .subst M;rw[List.getElem?_set_self I]at h;cases h
  .rw[List.getElem?_set_ne M]at h;obtain⟨b,us,T,Z,m3,m4,m5⟩:=r.own j zs h;exact⟨b,us,T,by rw[AN (fun z=>by subst z;exact r.apart i j _ zs M hi h (by rw[k1,T]))];exact Z,m3,m4,m5.same e⟩
 .rw[List.getElem?_set_ne (fun z=>by subst z;rw[List.getElem?_set_self I]at Y;cases Y)]at Y;rw[List.getElem?_set_ne (fun z=>by subst z;rw[List.getElem?_set_self I]at U;cases U)]at U;exact r.apart j l us ws hjl Y U
def vK(I:G a=none)(h:IC G a Tl o):Du (upd G a o) (.list xs) KM:=by
 obtain⟨ys,rfl,l⟩:=h;exact⟨a,ys,rfl,AR,l.same (Aj I _)⟩
def ig(I:G a=none)(h:IC G a (.Oy kvs) o):Du (upd G a o) (Q7 kvs) KM:=by
 obtain⟨r,rfl,n,l⟩:=h;exact .inr (.inr ⟨rfl,rfl,a,r,rfl,AR,n,KP.same (Aj I _) l⟩)
def Rw.Eu i (r:Fa):∃G',Rw G0 H0 G' H σ (L2.Eu i δ) ts:=by
 unfold L2.Eu;split
 .rename_i xs hi;obtain⟨a,o,_,_,_,_,_,R⟩:=r.letGo hi fun a o h=>vK h
  grind
 .rename_i kvs hi;obtain⟨a,o,_,_,_,_,_,R⟩:=r.letGo hi fun a o h=>ig h
  grind
 grind
def Rw.Rx{i:Nat}{xs:Oc}{ys:HO}{a:AD}(r:Fa)(d:IC G a xs ys)(ha:H a=none):Rw G0 H0 G (upd H a ys) (σ.set i (some KM)) (δ.set i (.own xs)) ts:=by
 have hG:G a=none:=by
  cases q:G a with
  |none=>rfl
  |some u=>rw[r.ins _ _ q]at ha;cases ha
 have h0:H0 a=none:=by
  cases q:H0 a with
  |none=>rfl
  |some u=>rw[r.keep _ _ q]at ha;cases ha
 have e:AI H (upd H a ys):=Aj ha _;have hl:=r.len;have other:∀(j:Nat) (M:Oc),i≠j->(δ.set i (.own xs))[j]? = some (L.own M)->δ[j]? = some (L.own M):=fun j M I h=>by rw[List.getElem?_set_ne I]at h;exact h
 have T:∀(j:Nat) (M:Oc),δ[j]? = some (L.own M)->σ[j]?≠some (some (V.ref a)):=fun j M h z=>by
  obtain⟨b,us,U,m2,m3,m4,m5⟩:=r.own j M h;rw[z]at U;cases U;rw[m4]at ha;cases ha
 refine⟨r.ext,r.new,r.ins.trans e,r.keep.trans e,by simp[hl],fun j y h=>?_,fun j M h=>?_,fun j l us ws hjl Z Y=>?_,r.BC⟩
 .by_cases I:i=j
  .subst I;by_cases hi:i<δ.length
   .rw[List.getElem?_set_self hi]at h;cases h
   .rw[List.getElem?_eq_none (by simp;lia)]at h;cases h
  .rw[List.getElem?_set_ne I]at h;obtain⟨w,U,m2⟩:=r.dat j y h;exact⟨w,by rw[List.getElem?_set_ne I];exact U,m2⟩
 .by_cases I:i=j
  .subst I;by_cases hi:i<δ.length
   .rw[List.getElem?_set_self hi]at h;cases h;exact⟨a,ys,by rw[List.getElem?_set_self AS],hG,h0,AR,d⟩
   .rw[List.getElem?_eq_none (by simp;lia)]at h;cases h
  .have h:=other j M I h;obtain⟨b,us,U,m2,m3,m4,m5⟩:=r.own j M h;exact⟨b,us,by rw[List.getElem?_set_ne I];exact U,m2,m3,e _ _ m4,m5⟩
 .by_cases I:i=j
  .subst I;have hl2:i≠l:=hjl;have Y:=other l ws hl2 Y;by_cases hi:i<δ.length
   .rw[List.getElem?_set_self AS,List.getElem?_set_ne hl2];exact fun z=>T l ws Y z.symm
   .rw[List.getElem?_eq_none (by simp;lia)]at Z;cases Z
  .have Z:=other j us I Z;by_cases hk:i=l
   .subst hk;by_cases hi:i<δ.length
    .rw[List.getElem?_set_self AS,List.getElem?_set_ne I];exact fun z=>T j us Z z
    .rw[List.getElem?_eq_none (by simp;lia)]at Y;cases Y
   .rw[List.getElem?_set_ne I,List.getElem?_set_ne hk];exact r.apart j l us ws hjl Z (other l ws hk Y)
def Rw.Qj(r:Fa)(hi:δ[i]? = some (.own xs))(ha:σ[i]? = some (some KM))(d:IC G a T ys):Rw G0 H0 G (upd H a ys) σ (δ.set i (.own T)) ts:=by
 obtain⟨a',ys0,k1,k2,k3,k4,k5⟩:=r.own i xs hi;rw[ha]at k1;cases k1;have U:=(aF.mp hi).1;refine⟨r.ext,r.new,fun b o h=>?_,fun b o h=>?_,by simp[r.len],fun j y h=>?_,fun j zs h=>?_,fun j l us ws Z h1 h2=>?_,r.BC⟩
 .rw[AN (fun z=>by subst z;rw[k2]at h;cases h)];exact r.ins _ _ h
 .rw[AN (fun z=>by subst z;rw[k3]at h;cases h)];exact r.keep _ _ h
 .by_cases I:i=j
  .subst I;rw[List.getElem?_set_self U]at h;cases h
  .rw[List.getElem?_set_ne I]at h;exact r.dat j y h
 .by_cases I:i=j
  .subst I;rw[List.getElem?_set_self U]at h;cases h;exact⟨a,ys,ha,k2,k3,AR,d⟩
  .rw[List.getElem?_set_ne I]at h;obtain⟨b,us,m1,m2,m3,m4,m5⟩:=r.own j zs h;exact⟨b,us,m1,m2,m3,by rw[AN (fun z=>by subst z;exact r.apart i j xs zs I hi h (by rw[ha,m1]))];exact m4,m5⟩
 .have f:∀j us,(δ.set i (.own T))[j]? = some _->∃M,δ[j]? = some (L.own M):=fun j us h=>by
   by_cases I:i=j
   .subst I;exact⟨xs,hi⟩
   .rw[List.getElem?_set_ne I]at h;exact⟨us,h⟩
  obtain⟨M,h1⟩:=f j us h1;obtain⟨Y,h2⟩:=f l ws h2;exact r.apart j l M Y Z h1 h2
end
section
variable{X:Cx}{a b e:Expr}{es:AA0}{f g h:AAi}{fs:AAh}{pos p:Pos}{st:Stmt}{F:DF}
def sj i (l:DS X st F):DS X st (fun δ=>F (Eu i δ)):=by
 obtain⟨t,p,k⟩:=l;refine⟨t,p,fun δ r h G0 H0 G H σ D R q=>?_⟩;obtain⟨G',I⟩:=R.Eu i
 grind
def tq(hN:X.N.Nodup)(hi:X.N[i]? = some x)(U:Loc X.env.scope x)(ha:DA X es fs)(Z:swapsWith (.List es T) (some (.Name x I)) pos.line X.env=pure false:=by rfl)(hf:X.fn x=true\/X.env.scope.names.lookup x=some .local:=by first|exact .inl rfl|exact .inr rfl|assumption):DS X (.Assign [.Name x I] (.List es T) pos) (fun δ=>((fs δ).bind BI).map fun ys=>.nx (δ.set i (.own KB))):=by
 obtain⟨t,p,k⟩:=ha;refine⟨_,A0 hN hi U (Q8 p) Z hf,fun δ r h G0 H0 G H σ D R q=>?_⟩;obtain⟨y,h1,rfl⟩:=aC.mp h;obtain⟨xs,h2,h3⟩:=aA.mp h1;obtain⟨rfl,hl⟩:=N6 h3;refine k δ _ h2 G0 H0 G H σ [] _ R fun vs G1 H1 R1 Y=>?_;obtain⟨d,R2⟩:=R1.args Y;exact⟨GB AS,fun l M=>q _ _ _ (R2.Rx ⟨_,rfl,d⟩ M)⟩
def ow(i:Nat)(δ:Dv):AAg:=match δ[i]? with
 |some (.own (.lst xs))=>some xs
 |_=>none
def Og(h:ow i δ=some xs):δ[i]? = some (.own Tl):=by
 unfold ow at h
 lia
def fK(hv:PE X Iv (HV i))(he:DE X e f) (hP:∀ {T} {t},PE X Iv T->PA X [e] t->PS X (.Expr (.Call (.Attribute Iv "append" ap) [e] [] cp) pos) (Ry (vR X.K "list" Y6 T t)))(I:starEach [e] X.env=EQ::starEach [] X.env:=by rfl):DS X (.Expr (.Call (.Attribute Iv "append" ap) [e] [] cp) pos) (fun δ=>(f δ).bind fun y=>(ow i δ).bind fun xs=>if xs.length<A6 then some (.nx (δ.set i (.own (.lst (xs++[y]))))) else none):=by
 obtain⟨t,p,k⟩:=he;refine⟨_,hP hv (AV p Au I),fun δ r h G0 H0 G H σ D R q=>?_⟩;obtain⟨y,h1,h2⟩:=aA.mp h;obtain⟨xs,h3,Z⟩:=aA.mp h2;split at Z
 .cases Z;have hi:=Og h3;obtain⟨a,_,l,k2,k3,k4,⟨ys,rfl,k5⟩⟩:=R.own i _ hi;refine⟨.ref a,l,.inl ⟨rfl,ys,Am.of k4⟩,k δ y h1 G0 H0 G H σ [] _ R fun u G1 H1 M=>?_⟩;obtain⟨a',_,Y,m2,m3,m4,⟨zs,rfl,U⟩⟩:=M.own i _ hi;rw[l]at Y;cases Y;exact⟨a,zs,u,rfl,rfl,m4,S9 (by rw[U.len];lia),q _ _ _ (M.drop.Qj hi l ⟨_,rfl,U.app (.cons (M.BC _ Da) .nil)⟩)⟩
 lia
def d7{i:Nat}{x:Str}(hv:PE X Iv (HV i))(he:DE X e f)
 (hP:∀ {U:TE} {t:TA},PE X Iv U->PA X [e] t->PS X (.Expr (.Call (.Attribute Iv "extend" ap) [e] [] cp) pos) (Ry (vR X.K "list" ZW U t)))(T:starEach [e] X.env=EQ::starEach [] X.env:=by rfl) :
  DS X (.Expr (.Call (.Attribute Iv "extend" ap) [e] [] cp) pos) (fun δ=>(f δ).bind fun y=>(ow i δ).bind fun xs=>match y with|.list zs=>(if xs.length+zs.length<=A6 then some (.nx (δ.set i (.own (.lst (xs++zs))))) else none)|_=>none):=by
 obtain⟨t,p,k⟩:=he;refine⟨_,hP hv (AV p Au T),fun δ r h G0 H0 G H σ D R q=>?_⟩;obtain⟨y,h1,h2⟩:=aA.mp h;obtain⟨xs,h3,l⟩:=aA.mp h2;split at l
 .split at l
  .rename_i hl;cases l;have hi:=Og h3;obtain⟨a,_,M,k2,k3,k4,⟨ys,rfl,k5⟩⟩:=R.own i _ hi;refine⟨.ref a,M,.inl ⟨rfl,ys,Am.of k4⟩,k δ _ h1 G0 H0 G H σ [] _ R fun u G1 H1 I=>?_⟩;obtain⟨a',_,m1,m2,m3,m4,⟨us,rfl,Z⟩⟩:=I.own i _ hi;rw[M]at m1;cases m1;obtain⟨b,ws,rfl,n1,Y⟩:=(I.BC _ Da);refine⟨a,b,us,ws,rfl,rfl,m4,I.ins _ _ n1,GB (by rw[Z.len,Y.len];exact hl),?_⟩;exact q _ _ _ (I.drop.Qj hi M ⟨_,rfl,Z.app Y⟩)
  .cases l
 .cases l
def jP(hv:PE X Iv (HV i))(hb:DE X b g)(hs:Ta b):DE X (.Subscript Iv b pos) (fun δ=>(g δ).bind fun y=>(ow i δ).bind fun xs=>(Pb y).bind fun k=>Fw xs k):=by
 obtain⟨tb,Y,kb⟩:=hb;refine⟨_,IU Zs hv Y hs,fun δ z hz G0 H0 G H σ ts Q U k=>?_⟩;obtain⟨y,h1,h2⟩:=aA.mp hz;obtain⟨xs,T,h4⟩:=aA.mp h2;obtain⟨j,h5,h6⟩:=aA.mp h4;have:=Rm h5;subst this;obtain⟨a,_,M,k2,k3,k4,⟨ys,rfl,k5⟩⟩:=U.own i _ (Og T);refine⟨.ref a,M,kb δ _ h1 G0 H0 G H σ ts _ U fun v G1 H1 l=>?_⟩;obtain⟨a',_,I,m2,m3,m4,⟨us,rfl,Z⟩⟩:=l.own i _ (Og T);rw[M]at I;cases I;obtain⟨w,h7,h8⟩:=Z.Fw h6;exact⟨a,us,j,w,rfl,(l.BC _ Da),Am.of m4,h7,k _ _ _ (l.drop.put h8)⟩
end
structure LB(J:It)(xs:List PyData)(G:Hp):Prop where
 stop:∀H,AI G H->J.stop xs.length H
 go:∀(i:Nat) (d:PyData) H,xs[i]? = some d->AI G H->J.go i H
 E6:∀(i:Nat) (d:PyData) H x H',xs[i]? = some d->AI G H->J.E6 i H x H'->∀Gc,AI G Gc->AI Gc H->∃Gc',AI Gc Gc'/\Nw Gc H Gc'/\AI Gc' H'/\AI H H'/\Du Gc' d x
def Nw.refl{G H:Hp}:Nw G H G:=fun _ _ h=>.inl h
def pq{K}(ha:G a=some KB)(d:Ad G xs ys):LB (Y9 K a) xs G where
 stop:=fun H e=>⟨ys,Am.of (e _ _ ha),by rw[d.len];lia⟩
 go:=fun i x H hx e=>let⟨v,h1,_⟩:=d.get hx;⟨ys,v,Am.of (e _ _ ha),h1⟩
 E6:=fun i x H v H' hx e y Gc e1 e2=>by
  obtain⟨rfl,y⟩:=y;obtain⟨x',h2,h3⟩:=d.back (y ys (Am.of (e _ _ ha)));rw[hx]at h2;cases h2;exact⟨Gc,AI.refl _,Nw.refl,e2,AI.refl _,h3.same e1⟩
def vE{K}(ha:G a=some (.tup ys))(d:Ad G xs ys):LB (tN K a) xs G where
 stop:=fun H e=>⟨ys,A4.of (e _ _ ha),by rw[d.len];lia⟩
 go:=fun i x H hx e=>let⟨v,h1,_⟩:=d.get hx;⟨ys,v,A4.of (e _ _ ha),h1⟩
 E6:=fun i x H v H' hx e y Gc e1 e2=>by
  obtain⟨rfl,y⟩:=y;obtain⟨x',h2,h3⟩:=d.back (y ys (A4.of (e _ _ ha)));rw[hx]at h2;cases h2;exact⟨Gc,AI.refl _,Nw.refl,e2,AI.refl _,h3.same e1⟩
def Ey(lo:Int)(n:Nat):AAl:=(List.range n).map fun k=>.int (lo+(k:Nat))
def iZ{lo}:LB (fR lo n) (Ey lo n) G where
 stop:=fun H e=>by show n<=_;simp[Ey]
 go:=fun i x H hx e=>by
  show i<n
  simpa[Ey]using ((aF.mp hx).1)
 E6:=fun i x H v H' hx e y Gc e1 e2=>by
  obtain⟨rfl,rfl⟩:=y;unfold Ey at hx;rw[(BG)]at hx;obtain⟨k,h1,rfl⟩:=aC.mp hx;have hk:k=i:=by
   grind
  subst hk;exact⟨Gc,AI.refl _,Nw.refl,e2,AI.refl _,by rfl⟩
def Pc(T:AI Gc H)(M:H p=none)(Y:Du Gc d1 I)(U:Du Gc Z l):∃Gc',AI Gc Gc'/\Nw Gc H Gc'/\AI Gc' (upd H p (.tup [I,l]))/\AI H (upd H p (.tup [I,l]))/\Du Gc' (.tuple [d1,Z]) (.ref p):=by
 have e:AI Gc (upd Gc p (.tup [I,l])):=Aj (show Gc p=none by
  cases q:Gc p with
  |none=>rfl
  |some u=>rw[T _ _ q]at M;lia) _
 refine⟨upd Gc p _,e,fun a o h=>?_,fun a o h=>?_,Aj M _,?_⟩
 .by_cases ha:a=p
  .lia
  .rw[AN ha]at h;lia
 .by_cases ha:a=p
  .subst ha;rw[AR]at h ⊢;lia
  .rw[AN ha]at h ⊢;exact T _ _ h
 .exact⟨p,[I,l],rfl,AR,.cons (Y.same e) (.cons (U.same e) .nil)⟩
def C7(xs:AAl):AAl:=xs.zipIdx.map fun q=>.tuple [.int (q.2),q.1]
def Ic{i:Nat}(h:(C7 xs)[i]? = some d):∃x,xs[i]? = some x/\d=.tuple [.int i,x]:=by
 unfold C7 at h
 grind
def mw{K}(hs:∀ {H},AI G H->UE b K H a ys)(d:Ad G xs ys):LB (Nx K b 0 a) (C7 xs) G where
 stop:=fun H e=>⟨ys,hs e,by rw[d.len];simp[C7]⟩
 go:=fun i x H hx e=>by
  obtain⟨x',h0,rfl⟩:=Ic hx;obtain⟨v,h1,_⟩:=d.get h0;exact⟨ys,v,hs e,h1⟩
 E6:=fun i x H v H' hx e y Gc e1 e2=>by
  obtain⟨x',h0,rfl⟩:=Ic hx;obtain⟨p,u,rfl,hp,rfl,y⟩:=y;obtain⟨x2,h2,h3⟩:=d.back (y ys (hs e));rw[h0]at h2;cases h2;exact Pc e2 hp Iq (h3.same e1)
def jG{K}(ha:G a=some (.tup ys))(d:Ad G xs ys):LB (yp K a) (C7 xs) G:=mw (fun e=>A4.of (e _ _ ha)) d
def lX{K}(ha:G a=some KB)(d:Ad G xs ys):LB (yo K a) (C7 xs) G:=mw (fun e=>Am.of (e _ _ ha)) d
def Gr(xs ys:AAl):AAl:=(xs.zip ys).map fun q=>.tuple [q.1,q.2]
def QQ{i:Nat}(h:(Gr xs ys)[i]? = some d):∃x y,xs[i]? = some x/\ys[i]? = some y/\d=.tuple [x,y]:=by
 unfold Gr at h
 grind
def vD{b1 b2:Bool}(h1:G a1=some (if b1 then .tup us else .lst us))(h2:G a2=some (if b2 then .tup vs else .lst vs))(d1:Ad G xs us)(d2:Ad G ys vs):LB (sx b1 b2 a1 a2) (Gr xs ys) G where
 stop:=fun H e=>by
  refine⟨us,vs,?_,?_,?_⟩
  .cases b1<;>simpa[Fp]using (e _ _ h1)
  .cases b2<;>simpa[Fp]using (e _ _ h2)
  .rw[d1.len,d2.len];simp[Gr];lia
 go:=fun i x H hx e=>by
  obtain⟨x1,x2,k1,k2,rfl⟩:=QQ hx;obtain⟨v1,k3,_⟩:=d1.get k1;obtain⟨v2,k4,_⟩:=d2.get k2;refine⟨us,v1,vs,v2,?_,?_,k3,k4⟩
  .cases b1<;>simpa[Fp]using (e _ _ h1)
  .cases b2<;>simpa[Fp]using (e _ _ h2)
 E6:=fun i x H v H' hx e y Gc e1 e2=>by
  obtain⟨x1,x2,k1,k2,rfl⟩:=QQ hx;obtain⟨p,v1,v2,rfl,hp,rfl,y1,y2⟩:=y;obtain⟨w1,n1,n2⟩:=d1.back (y1 us (by cases b1<;>simpa[Fp]using (e _ _ h1)));obtain⟨w2,n3,n4⟩:=d2.back (y2 vs (by cases b2<;>simpa[Fp]using (e _ _ h2)));rw[k1]at n1;cases n1;rw[k2]at n3;cases n3;exact Pc e2 hp (n2.same e1) (n4.same e1)
structure DI(X:Cx)(tg iter:Expr)(f:Dv->Option (List PyData)):Prop where
 ex:∃wi,PI X tg iter wi/\∀δ xs,f δ=some xs->∀G0 H0 G H σ ts (R:It->Hp->Prop),Rw G0 H0 G H σ δ ts->(∀J G' H',Rw G0 H0 G' H' σ δ ts->LB J xs G'->R J H')->wi σ H R
section
variable{X:Cx}{tg a b e:Expr}{f g h:AAi}{fs:AAh}{pos p:Pos}{sts:ABG}{F:DF}
def PI.or(h:PI X tg e wi)(h':PI X tg e l):PI X tg e (fun σ H R=>wi σ H R\/l σ H R):=fun pins s σ H R I q=>by
 rcases q with q|q
 .exact h pins s σ H R I q
 .exact h' pins s σ H R I q
def JT:PD->Option (List PD)
 |.list xs=>some xs
 |.tuple xs=>some xs
 |_=>none
def ub(Y:DE X e f):DI X tg e (fun δ=>(f δ).bind JT):=by
 obtain⟨t,p,k⟩:=Y;refine⟨_,(FD p).or (fj p),fun δ xs h G0 H0 G H σ ts R U q=>?_⟩;obtain⟨x,T,I⟩:=aA.mp h;unfold JT at I;split at I
 .cases I
  left
  refine k δ _ T G0 H0 G H σ ts _ U fun v G' H' l=>?_;have du:=l.BC _ Da;obtain⟨a,ys,rfl,n1,M⟩:=du;exact⟨a,rfl,⟨ys,Am.of (l.ins _ _ n1)⟩,q _ _ _ l.drop (pq n1 M)⟩
 .cases I
  right
  refine k δ _ T G0 H0 G H σ ts _ U fun v G' H' l=>?_;have du:=l.BC _ Da;obtain⟨a,ys,rfl,n1,M⟩:=du;exact⟨a,rfl,⟨ys,A4.of (l.ins _ _ n1)⟩,q _ _ _ l.drop (vE n1 M)⟩
 lia
def Hg:List PD->Option (List PD)
 |[.int j]=>if -1000000<=j/\j<=1000000 then some (Ey 0 j.toNat) else none
 |_=>none
def MI:List PD->Option (List PD)
 |[.int i,.int j]=>if -1000000<=i/\i<=1000000/\-1000000<=j/\j<=1000000 then some (Ey i (j-i).toNat) else none
 |_=>none
def fH(hg:Gl X "range")(hm:X.mg "range" = none)(ha:DA X [a] fs)(M:starEach [a] X.env=[Sc]:=by rfl):DI X tg (.Call (.Name "range" p) [a] [] pos) (fun δ=>(fs δ).bind Hg):=by
 obtain⟨t,p,k⟩:=ha;refine⟨_,gX hg hm p M,fun δ xs h G0 H0 G H σ ts R U q=>?_⟩;obtain⟨x,T,l⟩:=aA.mp h;refine k δ _ T G0 H0 G H σ ts _ U fun vs G' H' Y I=>?_;obtain⟨d,R2⟩:=Y.args I;unfold Hg at l;split at l
 .split at l
  .cases l;obtain⟨u,rfl,du⟩:=d.Il;subst du;exact⟨_,rfl,by lia,by lia,q _ _ _ R2 iZ⟩
  lia
 lia
def dk(hg:Gl X "range")(hm:X.mg "range" = none)(ha:DA X [a,b] fs)(T:starEach [a,b] X.env=[Sc,(false,eval b X.env)]:=by rfl)(I:starEach [b] X.env=[(false,eval b X.env)]:=by rfl):DI X tg (.Call (.Name "range" p) [a,b] [] pos) (fun δ=>(fs δ).bind MI):=by
 obtain⟨t,p,k⟩:=ha;refine⟨_,eh hg hm p T I,fun δ xs h G0 H0 G H σ ts R Z q=>?_⟩;obtain⟨x,U,l⟩:=aA.mp h;refine k δ _ U G0 H0 G H σ ts _ Z fun vs G' H' R' M=>?_;obtain⟨d,R2⟩:=R'.args M;unfold MI at l;split at l
 .split at l
  .cases l;obtain⟨u,v,rfl,du,Y⟩:=d.Jv;subst du Y;exact⟨_,_,rfl,⟨by lia,by lia,by lia,by lia⟩,q _ _ _ R2 iZ⟩
  lia
 lia
def F0:List PD->Option (List PD)
 |[.list xs]=>some (C7 xs)
 |[.tuple xs]=>some (C7 xs)
 |_=>none
def qc(hg:Gl X "enumerate")(hm:X.mg "enumerate" = none)(ha:DA X [a] fs)(Y:starEach [a] X.env=[Sc]:=by rfl):DI X (.Tuple elts x1 U) (.Call (.Name "enumerate" p) [a] [] pos) (fun δ=>(fs δ).bind F0):=by
 obtain⟨t,p,k⟩:=ha;refine⟨_,(j9 hg hm p Y).or (Yi hg hm p Y),fun δ xs h G0 H0 G H σ ts R R0 q=>?_⟩;obtain⟨x,Z,l⟩:=aA.mp h;unfold F0 at l;split at l
 .cases l
  left
  refine k δ _ Z G0 H0 G H σ ts _ R0 fun vs G' H' T M=>?_;obtain⟨d,R2⟩:=T.args M;obtain⟨u,rfl,du⟩:=d.Il;obtain⟨a,ys,rfl,n1,I⟩:=du;exact⟨a,rfl,⟨ys,Am.of (R2.ins _ _ n1)⟩,q _ _ _ R2 (lX n1 I)⟩
 .cases l
  right
  refine k δ _ Z G0 H0 G H σ ts _ R0 fun vs G' H' T M=>?_;obtain⟨d,R2⟩:=T.args M;obtain⟨u,rfl,du⟩:=d.Il;obtain⟨a,ys,rfl,n1,I⟩:=du;exact⟨a,rfl,⟨ys,A4.of (R2.ins _ _ n1)⟩,q _ _ _ R2 (jG n1 I)⟩
 lia
def zip2:List PD->Option (List PD)
 |[x,y]=>(JT x).bind fun xs=>(JT y).map fun ys=>Gr xs ys
 |_=>none
def QV(h:Du G x v)(e:JT x=some xs):∃(b:Bool) (a:AD) (ys:ABC),v=.ref a/\G a=some (if b then .tup ys else .lst ys)/\Ad G xs ys:=by
 unfold JT at e;split at e
 .cases e;obtain⟨a,ys,rfl,n1,l⟩:=h;exact⟨false,a,ys,rfl,n1,l⟩
 .cases e;obtain⟨a,ys,rfl,n1,l⟩:=h;exact⟨true,a,ys,rfl,n1,l⟩
 lia
def ud{elts}{Z}{l}(hg:Gl X "zip")(hm:X.mg "zip" = none)(ha:DA X [a,b] fs)(hs:starEach [a,b] X.env=[Sc,(false,eval b X.env)]:=by rfl)(I:starEach [b] X.env=[(false,eval b X.env)]:=by rfl):DI X (.Tuple elts Z l) (.Call (.Name "zip" p) [a,b] [] pos) (fun δ=>(fs δ).bind zip2):=by
 obtain⟨t,p,k⟩:=ha;refine⟨_,gw hg hm p hs I,fun δ xs h G0 H0 G H σ ts R R0 q=>?_⟩;obtain⟨x,h1,M⟩:=aA.mp h;refine k δ _ h1 G0 H0 G H σ ts _ R0 fun vs G' H' R' hv=>?_;obtain⟨d,R2⟩:=R'.args hv;unfold zip2 at M;split at M
 .obtain⟨Y,h3,h4⟩:=aA.mp M;obtain⟨U,h5,rfl⟩:=aC.mp h4;obtain⟨u,v,rfl,du,dv⟩:=d.Jv;obtain⟨b1,a1,us,rfl,n1,n2⟩:=QV du h3;obtain⟨b2,a2,ws,rfl,T,m2⟩:=QV dv h5;exact⟨b1,b2,a1,a2,rfl,⟨us,by cases b1<;>simpa[Fp]using (R2.ins _ _ n1)⟩,⟨ws,by cases b2<;>simpa[Fp]using (R2.ins _ _ T)⟩,q _ _ _ R2 (vD n1 T n2 m2)⟩
 lia
structure DG(X:Cx)(tg:Expr)(set:PyData->Dv->Option Dv):Prop where
 ex:∃g,PG X tg g/\∀δ x δ',set x δ=some δ'->∀G0 H0 G H σ v (Q:St->Hp->Prop),Rw G0 H0 G H σ δ [(x,v)]->(∀σ' G' H',Rw G0 H0 G' H' σ' δ' []->Q σ' H')->g v σ H Q
def rC(h:PG X (.Name x pos) (Ct i)):DG X (.Name x pos) (fun y δ=>some (δ.set i (.d y))) :=
 ⟨_,h,fun δ y δ' e G0 H0 G H σ v Q R k=>by cases e;exact k _ _ _ R.HL⟩
def BW(i j:Nat)(y:PD)(δ:Dv):Option Dv:=match y with
 |.tuple [u,v]=>some ((δ.set i (.d u)).set j (.d v))
 |_=>none
def tW(h:PG X (.Tuple [.Name x T,.Name y M] k1 pos) (b9 X.K 2 (Oa (Ct i) (Oa (Ct j) cF)))):DG X (.Tuple [.Name x T,.Name y M] k1 pos) (BW i j):=by
 refine⟨_,h,fun δ z δ' e G0 H0 G H σ v Q R k=>?_⟩;unfold BW at e;split at e
 .cases e;obtain⟨a,ys,rfl,n1,U⟩:=(R.BC _ Da);obtain⟨I,l,rfl,Z,Y⟩:=U.Jv;exact⟨a,[I,l],rfl,A4.of (R.ins _ _ n1),rfl,I,[l],rfl,l,[],rfl,rfl,k _ _ _ (((R.drop.put Y).put Z).HL.HL)⟩
 lia
def GP(set:To)(l:DF):List PD->Dv->Option Ou
 |[],δ=>some (.nx δ)
 |x::xs,δ=>match (set x δ).bind l with
  |some (.nx δ')=>GP set l xs δ'
  |some (.ct δ')=>GP set l xs δ'
  |some (.bk δ')=>some bi
  |some (.rt v)=>some (.rt v)
  |some (.rn v)=>some (.rn v)
  |none=>none
def uw{set}(hp:PassesOwn B7 X.A X.env X.xe)(hc:Rs)(hi:DI X tg e fs)(hg:DG X tg set)(hb:KO X sts F)(hs:∀x,foldedSetIterable e X.env x=pure x:=by intro _;rfl):DS X (.For tg e sts [] pos) (fun δ=>(fs δ).bind fun xs=>GP set F xs δ):=by
 obtain⟨wi,pi,ki⟩:=hi;obtain⟨g,pg,kg⟩:=hg;obtain⟨tb,pb,kb⟩:=hb;refine⟨_,Jx hp hc pi pg pb hs,fun δ r h G0 H0 G H σ D R q=>?_⟩;obtain⟨xs,h1,h2⟩:=aA.mp h;refine ki δ xs h1 G0 H0 G H σ [] _ R fun J Ga Ha Ra it=>?_;refine⟨fun i m σ' H'=>m=xs.length-i/\i<=xs.length/\∃δ' G',GP set F (xs.drop i) δ'=some r/\Rw G0 H0 G' H' σ' δ' []/\AI Ga G',⟨xs.length,by simp,Nat.zero_le _,δ,Ga,by simpa using h2,Ra,AI.refl _⟩,?_⟩;rintro i m σ1 H1 ⟨rfl,hi,δ1,G1,f1,R1,s1⟩;have sH:AI Ga H1:=s1.trans R1.ins;by_cases I:i<xs.length
 .right
  have hx:xs[i]? = some xs[i]:=by simp[I]
  refine⟨it.go i _ H1 hx sH,fun σ' H'=>i+1<=xs.length/\∃δ' G',GP set F (xs.drop SB) δ'=some r/\Rw G0 H0 G' H' σ' δ' []/\AI Ga G',fun σ' H' n=>⟨xs.length-SB,by lia,rfl,n⟩,fun x H' y=>?_⟩;obtain⟨G2,e1,e2,e3,e4,e5⟩:=it.E6 i _ H1 x H' hx sH y G1 s1 R1.ins;have R2:=(R1.lift e1 e2 e3 e4).put e5;have s2:=s1.trans e1;rw[List.drop_eq_getElem_cons I]at f1;unfold GP at f1;cases U:(set xs[i] δ1).bind F with
  |none=>rw[U]at f1;cases f1
  |some o=>
   obtain⟨δ2,k1,k2⟩:=aA.mp U;rw[U]at f1;refine kg δ1 _ δ2 k1 G2 H0 G2 H' σ1 x _ (R2.base) fun σ3 G3 H3 R3=>?_;refine kb δ2 o k2 G2 H0 G3 H3 σ3 _ R3 ?_;cases o with
   |nx l=>exact fun T M Z Y=>⟨I,l,M,f1,R2.drop.Lg Y,s2.trans Y.ext⟩
   |ct l=>exact fun T M Z Y=>⟨I,l,M,f1,R2.drop.Lg Y,s2.trans Y.ext⟩
   |bk l=>cases f1;exact fun T M Z Y=>q T M Z (R2.drop.Lg Y)
   |rt v=>cases f1;exact fun w M Z h1 h2 h3 h4 h5=>q w M Z (R2.ext.trans h1) (R2.new.trans h2) h3 h4 h5
   |rn v=>cases f1;exact fun w ys M Z h1 h2=>q w ys M Z (R2.ext.trans h1) (R2.new.trans h2)
 .left
  have e:i=xs.length:=by lia
  subst e;refine⟨it.stop H1 sH,?_⟩;rw[List.drop_length]at f1;cases f1;exact q _ _ _ R1
end
def tD(f:AAi):TE:=fun σ H Q=>∃δ x G0 H0 G ts,f δ=some x/\Rw G0 H0 G H σ δ ts/\∀v G' H',Rw G0 H0 G' H' σ δ ((x,v)::ts)->Q v H'
def rj(f:AAk):TT:=fun σ H Q=>∃δ x G0 H0 G ts,f δ=some x/\Rw G0 H0 G H σ δ ts/\∀G' H',Rw G0 H0 G' H' σ δ ts->Q x H'
def DE.pe(h:DE X e f):PE X e (tD f):=by
 obtain⟨t,p,k⟩:=h;rintro pins s σ H Q I ⟨δ,x,G0,H0,G,ts,T,M,l⟩;exact p pins s σ H Q I (k δ x T G0 H0 G H σ ts Q M l)
def DT.pt(h:DT X e f):PT X e (rj f):=by
 obtain⟨t,p,k⟩:=h;rintro pins s σ H Q I ⟨δ,x,G0,H0,G,ts,T,M,l⟩;exact p pins s σ H Q I (k δ x T G0 H0 G H σ ts Q M l)
def gT(X:Cx)(l:AA0)(f:AAk):Prop:=UZ X l (rj f)
def pU:gT X [] (fun _=>some true):=by
 rintro pins s σ H Q I ⟨δ,x,G0,H0,G,ts,T,M,l⟩;cases T;exact Gz pins s σ H Q I (l _ _ M)
def pB(h:DT X c f):gT X [c] f:=oj h.pt
def CP(i:Nat)(y:PD)(δ:Dv):Option Dv:=some (δ.set i (.d y))
def BK(fr:ABK)(δ:Dv):Dv:=fr.map fun o=>match o with
 |some j=>(match δ[j]? with|some (.d x)=>.d x|_=>.no)
 |none=>.no
def Rw.inner fr (r:Fa):Rw G H G H (carry fr σ) (BK fr δ) ts:=by
 have key:∀(i:Nat) l,(BK fr δ)[i]? = some l->∃o,fr[i]? = some o/\l=(match o with|some j=>(match δ[j]? with|some (.d x)=>.d x|_=>.no)|none=>.no):=fun i l h=>by
  unfold BK at h
  grind
 have I:∀i xs,_[i]?≠some (L.own xs):=fun i xs h=>by
  obtain⟨o,_,M⟩:=key i _ h;split at M
  .split at M<;>cases M
  .cases M
 refine⟨AI.refl _,Nw.refl,r.ins,AI.refl _,by simp[carry,BK],fun i x h=>?_,fun i xs h=>absurd h (I i xs),fun i j xs ys _ h=>absurd h (I i xs),r.BC⟩;obtain⟨o,Z,M⟩:=key i _ h;split at M
 .rename_i j;split at M
  .rename_i y Y;cases M;obtain⟨v,U,T⟩:=r.dat j _ Y;refine⟨v,?_,T⟩;unfold carry;rw[(BG),Z];simp[U]
  .cases M
 .cases M
def Rw.other(r:Fa)(Z:G D=none)(h0:H0 D=none)(Y:∀(i:Nat) xs,δ[i]? = some (L.own xs)->σ[i]?≠some (some (V.ref D))):Rw G0 H0 G (upd H D o) σ δ ts:=by
 refine⟨r.ext,r.new,fun a u h=>?_,fun a u h=>?_,r.len,r.dat,fun i xs h=>?_,r.apart,r.BC⟩
 .rw[AN (fun z=>by lia)];exact r.ins _ _ h
 .rw[AN (fun z=>by lia)];exact r.keep _ _ h
 .obtain⟨a,ys,T,M,I,U,l⟩:=r.own i xs h;exact⟨a,ys,T,M,I,by rw[AN (fun z=>by grind)];lia,l⟩
def Rw.adopt(r:Fa)(hD:H D=some KB)(hG:G D=none)(h0:H0 D=none)(ho:∀(i:Nat) xs,δ[i]? = some (L.own xs)->σ[i]?≠some (some (V.ref D))):Rw G0 H0 (upd G D KB) H σ δ ts:=by
 have e:AI G (upd G D KB):=Aj hG _;refine⟨r.ext.trans e,fun a u h=>?_,fun a u h=>?_,r.keep,r.len,fun i x h=>?_,fun i xs h=>?_,r.apart,fun q Z=>(r.BC q Z).same e⟩
 .by_cases ha:a=D
  .lia
  .rw[AN ha]at h;exact r.new _ _ h
 .by_cases ha:a=D
  .subst ha;rw[AR]at h;rw[hD];exact h
  .rw[AN ha]at h;exact r.ins _ _ h
 .obtain⟨v,I,l⟩:=r.dat i x h;exact⟨v,I,l.same e⟩
 .obtain⟨a,M,I,l,Y,U,T⟩:=r.own i xs h;exact⟨a,M,I,by rw[AN (fun z=>by grind)];exact l,Y,U,T.same e⟩
def Hz(set:To)(tif:AAk)(f:AAi)(δ:Dv)(x:PD):Option AAt :=
 (set x δ).bind fun l=>(tif l).bind fun b=>if b=true then(f l).map some else some none
def collect(one:PD->Option (Option PD)):List PD->Option (List PD)
 |[]=>some []
 |x::xs=>(one x).bind fun o=>(collect one xs).map fun r=>o.toList++r
def Bn(set:To)(tif:AAk)(f:AAi)(fr:ABK)(fs:AAh)(δ:Dv):AAg :=
 (fs δ).bind fun xs=>(collect (Hz set tif f (BK fr δ)) xs).bind BI
abbrev CT(set:To)(tif:Dv->Option Bool)(f:L0)(fr:List (Option Nat))(fs:Os)(δ:Dv):Option PD :=
 (Bn set tif f fr fs δ).map .list
structure qC(G0 H0 Ga:Hp)(σ:St)(δ:Dv)(ts:List (PyData×V))(one:PyData->Option (Option PyData))(xs full:List PyData)(D:Addr)(i:Nat)(ys:List V)(H:Hp):Prop where
 ex:∃G done rest,Rw G0 H0 G H σ δ ts/\AI Ga G/\G D=none/\collect one (xs.drop i)=some rest/\done++rest=full/\Ad G done ys
 h0:H0 D=none
 ap:∀(j:Nat) (us:Oc),δ[j]? = some (L.own us)->σ[j]?≠some (some (V.ref D))
def kO(I:G0 D=none)(l:H0 D=some KB)(n:Nw G0 H0 G)(e:AI G H)(k:AI H0 H):G D=none:=by
 cases q:G D with
 |none=>rfl
 |some o=>
  rcases n _ _ q with z|z|⟨us,z⟩
  .lia
  .lia
  .have:=e _ _ q;rw[k _ _ l]at this;lia
def less(G:Hp)(a:AD):Hp:=fun b=>if b=a then none else G b
def Cg(h:b≠a):less G a b=G b:=if_neg h
def Gu{G:Hp}{a:AD}:less G a a=none:=if_pos rfl
def WI(i:Nat)(δ:Dv):Option Oc:=match δ[i]? with
 |some (.own c)=>some c
 |_=>none
def p6(h:WI i δ=some c):δ[i]? = some (.own c):=by
 unfold WI at h
 lia
def NF(jj jo:Nat)(set:To)(tif:AAk)(f:AAi)(fr:ABK)(fs:AAh)(δ:Dv):AAg :=
 (fs δ).bind fun xs=>(WI jo δ).bind fun kvs=>(collect (Hz set tif f ((BK fr δ).set jj (.own kvs))) xs).bind BI
abbrev Hc(jj jo:Nat)(set:To)(tif:Dv->Option Bool)(f:L0)(fr:List (Option Nat))(fs:Os)(δ:Dv):Option PD :=
 (NF jj jo set tif f fr fs δ).map .list
def Vq{jj jo:Nat}(l:fr[jj]? = some (some jo))(h:σ[jo]? = some x):(carry fr σ)[jj]? = some x:=by
 unfold carry
 grind
def Uh(I:fr[jj]? = some (some jo)):((BK fr δ).set jj l)[jj]? = some l:=by
 simp[(show jj<(BK fr δ).length by
  simpa[BK]using ((aF.mp I).1))]
def Rw.uI{ad}(r:Fa)(M:fr[jj]? = some (some jo))(U:δ[jo]? = some (.own kvs))(ha:σ[jo]? = some (some (.ref ad))):Rw G (L2.less H ad) G H (carry fr σ) ((BK fr δ).set jj (.own kvs)) ts:=by
 have Y:=r.inner fr;have at_:∀i l,((BK fr δ).set jj (.own kvs))[i]? = some l->(i=jj/\l=.own kvs)\/(i≠jj/\_[i]? = some l):=fun i l h=>by
  by_cases e:i=jj
  .subst e;rw[Uh M]at h;cases h;exact .inl ⟨rfl,rfl⟩
  .rw[List.getElem?_set_ne (Ne.symm e)]at h;exact .inr ⟨e,h⟩
 have I:∀i xs,(BK fr δ)[i]?≠some (L.own xs):=fun i xs h=>by
  unfold BK at h;rw[(BG)]at h;obtain⟨o,_,T⟩:=aC.mp h;split at T
  .split at T<;>cases T
  .cases T
 obtain⟨a,oc,Z,k2,k3,k4,k5⟩:=r.own jo _ U;rw[ha]at Z;cases Z;refine⟨AI.refl _,Nw.refl,r.ins,fun b o h=>?_,by simpa using Y.len,fun i x h=>?_,fun i xs h=>?_,fun i j xs ys hij h1 T=>?_,r.BC⟩
 .unfold L2.less at h;split at h
  .cases h
  .exact h
 .rcases at_ i _ h with ⟨_,z⟩|⟨_,z⟩
  .cases z
  .exact Y.dat i x z
 .rcases at_ i _ h with ⟨rfl,z⟩|⟨_,z⟩
  .cases z;exact⟨ad,oc,Vq M ha,k2,Gu,k4,k5⟩
  .exact absurd z (I i xs)
 grind
def Rw.xy{jj jo:Nat}{ad}(r:Fa)(l:δ[jo]? = some (.own kvs))(ha:σ[jo]? = some (some (.ref ad)))(Z:M[jj]? = some (.own kvs))(Y:I[jj]? = some (some (.ref ad))) (q:Rw G (L2.less H ad) G' H' I M ti):Rw G0 H0 G' H' σ δ ts:=by
 obtain⟨a,oc,k1,k2,k3,k4,k5⟩:=r.own jo _ l;rw[ha]at k1;cases k1;obtain⟨a,oq,m1,m2,m3,m4,m5⟩:=q.own jj _ Z;rw[Y]at m1;cases m1;have hH:∀b o,b≠ad->H b=some o->H' b=some o:=fun b o n h=>q.keep _ _ (by rw[Cg n];exact h);refine⟨r.ext.trans q.ext,fun b o h=>?_,q.ins,fun b o h=>?_,r.len,fun i x h=>?_,fun i xs h=>?_,r.apart,fun p hp=>(r.BC p hp).same q.ext⟩
 .have nb:b≠ad:=fun z=>by subst z;rw[m2]at h;cases h
  rcases q.new b o h with z|z|z
  .exact r.new b o z
  .right;left
   rw[Cg nb]at z;cases w:H0 b with
   |none=>rfl
   |some u=>rw[r.keep _ _ w]at z;cases z
  .exact .inr (.inr z)
 .exact hH b o (fun z=>by subst z;rw[k3]at h;cases h) (r.keep _ _ h)
 .obtain⟨v,n1,U⟩:=r.dat i x h;exact⟨v,n1,U.same q.ext⟩
 .by_cases e:i=jo
  .subst e;rw[l]at h;cases h;exact⟨ad,oq,ha,m2,k3,m4,m5⟩
  .obtain⟨b,ys,n1,U,n3,T,n5⟩:=r.own i xs h;have nb:b≠ad:=fun z=>by subst z;exact r.apart i jo _ _ e h l (n1.trans ha.symm)
   refine⟨b,ys,n1,?_,n3,hH _ _ nb T,n5.same q.ext⟩;cases w:G' b with
   |none=>rfl
   |some u=>
    rcases q.new b u w with z|z|⟨xs',z⟩
    .rw[U]at z;cases z
    .rw[Cg nb,T]at z;cases z
    .have:=q.ins _ _ w;rw[hH _ _ nb T,z]at this;cases this;exact n5.P8.elim
def kF:Expr->List Nat
 |.Tuple [_,_] _ _=>[1,2]
 |_=>[1]
structure iI(X:Cx)(scope:Scope)(N:List Str)(tg:Expr)(set:PyData->Dv->Option Dv):Prop where
 sc:Ie scope
 ex:∃g:TG,(∀v σ H Q,g v σ H Q->g v σ H fun σ' H'=>Q σ' H'/\∀u,g u σ'=g u σ)/\(∀cl C s₀ H₀ fp,PG Ev tg g) /\
  ∀δ x δ',set x δ=some δ'->∀G0 H0 G H σ v (Q:St->Hp->Prop),Rw G0 H0 G H σ δ [(x,v)]->AI G H->(∀σ',Rw G0 H0 G H σ' δ' []->(∀j,j ∉ kF tg->σ'[j]? = σ[j]?/\δ'[j]? = δ[j]?)->Q σ' H)->g v σ H Q
def LL(X:Cx):Expr->List (Option Nat)->List Str
 |.Name x _,l=>(".0")::x::l.filterMap fun o=>o.bind fun i=>X.N[i]?
 |.Tuple es _ _,l=>(".0" : Str)::(es.filterMap fun e=>match e with|.Name x _=>some x|_=>none)++l.filterMap fun o=>o.bind fun i=>X.N[i]?
 |_,_=>[]
def RS(set:To)(tif:AAk)(f:AAi)(fr:ABK)(fs:AAh)(is:ABA)(cl:AAh):Prop:=∀δ I,cl δ=some I->∃xs l,fs δ=some xs /\
 (l=BK fr δ\/∃M T c,fr[M]? = some (some T)/\M ∉ is/\δ[T]? = some (.own c)/\l=(BK fr δ).set M (.own c))/\collect (Hz set tif f l) xs=some I/\I.length<=A6
section
variable{set:To}{tif:AAk}{f:AAi}{fr:ABK}{fs:AAh}{is:ABA}
def dH:RS set tif f fr fs is (Bn set tif f fr fs):=fun δ M h=>by
 obtain⟨xs,Y,I⟩:=aA.mp h;obtain⟨full,U,l⟩:=aA.mp I;obtain⟨rfl,T⟩:=N6 l
 grind
def vV(l:fr[jj]? = some (some jo))(M:jj ∉ is):RS set tif f fr fs is (NF jj jo set tif f fr fs):=fun δ zs h=>by
 obtain⟨xs,h1,I⟩:=aA.mp h;obtain⟨c,T,I⟩:=aA.mp I;obtain⟨full,Z,Y⟩:=aA.mp I;obtain⟨rfl,U⟩:=N6 Y;exact⟨xs,_,h1,.inr ⟨jj,jo,c,l,M,p6 T,rfl⟩,Z,U⟩
def Rw.into(r:Fa)(hd:M=BK fr δ\/∃jj jo c,fr[jj]? = some (some jo)/\jj ∉ is/\δ[jo]? = some (.own c)/\M=(BK fr δ).set jj (.own c))(hD:H D=some o)(hap:∀(j:Nat) us,δ[j]? = some (L.own us)->σ[j]?≠some (some (V.ref D))):∃Hi,Rw G Hi G H (carry fr σ) M ts/\Hi D=some o/\∀G' H' l I T,(∀j,j ∉ is->l[j]? = (carry fr σ)[j]?/\I[j]? = M[j]?)->Rw G Hi G' H' l I T->Rw G0 H0 G' H' σ δ ts:=by
 rcases hd with rfl|⟨jj,jo,c,Z,h2,Y,rfl⟩
 .exact⟨H,r.inner fr,hD,fun G' H' l I T _ q=>r.lift q.ext q.new q.ins q.keep⟩
 .obtain⟨ad,oc,U,k2,k3,k4,k5⟩:=r.own jo _ Y;refine⟨_,r.uI Z Y U,?_,fun G' H' l I T hs q=>?_⟩
  .rw[Cg fun z=>by grind];lia
  .obtain⟨m1,m2⟩:=hs jj h2;exact r.xy Y U (m2.trans (Uh Z)) (m1.trans (Vq Z U)) q
end
section
variable{fs:AAh}{tif:AAk}{f:AAi}
def Qn{wi:TI}{g:TG}{fr:ABK}{is:ABA}{set:To}{cl:AAh}(hg:∀δ x δ',set x δ=some δ'->∀G0 H0 G H σ v (Q:St->Hp->Prop),Rw G0 H0 G H σ δ [(x,v)]->AI G H->(∀σ',Rw G0 H0 G H σ' δ' []->(∀j,j ∉ is->σ'[j]? = σ[j]?/\δ'[j]? = δ[j]?)->Q σ' H)->g v σ H Q) (hc:RS set tif f fr fs is cl)(ki:∀(δ:Dv) (xs:AAl),fs δ=some xs->∀(G0 H0 G H:Hp) (σ:St) (ts:List (PD×V)) (R:It->Hp->Prop),Rw G0 H0 G H σ δ ts->(∀J G' H',Rw G0 H0 G' H' σ δ ts->LB J xs G'->R J H')->wi σ H R){δ:Dv}{zs:AAl}(hz:cl δ=some zs){G0 H0 G H:Hp}{σ:St}{ts:List (PD×V)}{Q:VK}(R0:Fa)(k:∀D ys G' H',Rw G0 H0 G' H' σ δ ts->H' D=some KB->G' D=none->H0 D=none->(∀(j:Nat) (us:Oc),δ[j]? = some (L.own us)->σ[j]?≠some (some (V.ref D)))->Ad G' zs ys->Q (.ref D) H'):Lc wi fr g (rj tif) (tD f) σ H Q:=by
 obtain⟨xs,δi,m2,hdi,m4,hfew⟩:=hc δ zs hz;refine ki δ xs m2 G0 H0 G H σ ts _ R0 fun J Ga Ha Ra it D hD=>?_;have hGD:Ga D=none:=by
  cases q:Ga D with
  |none=>rfl
  |some u=>rw[Ra.ins _ _ q]at hD;cases hD
 have I:H0 D=none:=by
  cases q:H0 D with
  |none=>rfl
  |some u=>rw[Ra.keep _ _ q]at hD;cases hD
 have l:∀(j:Nat) (us:Oc),δ[j]? = some (L.own us)->σ[j]?≠some (some (V.ref D)):=fun j us h z=>by
  obtain⟨a,ys,k1,k2,k3,k4,k5⟩:=Ra.own j us h;rw[z]at k1;cases k1;rw[k4]at hD;cases hD
 refine Pu (n:=xs.length) (qC G0 H0 Ga σ δ ts (Hz set tif f δi) xs zs D) ⟨⟨Ga,[],zs,Ra.other hGD I l,AI.refl _,hGD,by simpa using m4,rfl,.nil⟩,I,l⟩ ?_ ?_
 .rintro i ys H1 T ⟨⟨G1,done,rest,R1,s1,g1,c1,e1,d1⟩,_,_⟩ Y;have hx:xs[i]? = some xs[i]:=by simp[T]
  have sH:=s1.trans R1.ins;refine⟨it.go i _ H1 hx sH,(S9 (by
   rw[d1.len];have:done.length<=zs.length:=by rw[<-e1];simp
   lia)),fun v H' y=>?_⟩
  obtain⟨G2,n1,n2,n3,n4,n5⟩:=it.E6 i _ H1 v H' hx sH y G1 s1 R1.ins;have R2:=R1.lift n1 n2 n3 n4;have g2:G2 D=none:=kO g1 Y n2 n3 n4;rw[List.drop_eq_getElem_cons T]at c1;obtain⟨o,c2,c3⟩:=aA.mp c1;obtain⟨M,c4,rfl⟩:=aC.mp c3;obtain⟨δ1,c8,c9⟩:=aA.mp c2;obtain⟨b,c5,c6⟩:=aA.mp c9;obtain⟨Hi,Ri,U,out⟩:=R2.into hdi (n4 _ _ Y) l;refine hg _ _ _ c8 G2 Hi G2 H' _ v _ ((Ri.put n5).less fun q hq=>by rw[List.mem_singleton.mp hq];exact .head _) n3 fun σ1 R1' hs=>?_;refine⟨_,b,G2,Hi,G2,[],c5,R1',fun G3 H3 R3=>?_⟩;have R3o:=out _ _ _ _ _ hs R3;have hD3:=R3.keep _ _ U;have g3:G3 D=none:=kO g2 U R3.new R3.ins R3.keep;dsimp only;split
  .rename_i hb;rw[if_pos hb]at c6;obtain⟨w,c7,rfl⟩:=aC.mp c6;refine⟨_,w,G2,Hi,G3,[],c7,R3,fun u G4 H4 Z=>?_⟩;have R4o:=out _ _ _ _ _ hs Z;have hD4:=Z.keep _ _ U;have g4:G4 D=none:=kO g2 U Z.new Z.ins Z.keep;refine⟨hD4,G7 T ⟨⟨G4,done++[w],M,R4o.other g4 I l,s1.trans (n1.trans Z.ext),g4,c4,by simpa using e1,(d1.same (n1.trans Z.ext)).app (.cons (Z.BC _ Da) .nil)⟩,I,l⟩⟩
  .rename_i hb;rw[if_neg hb]at c6;cases c6;exact ou T hD3 ⟨⟨G3,done,M,R3o,s1.trans (n1.trans R3.ext),g3,c4,by simpa using e1,d1.same (n1.trans R3.ext)⟩,I,l⟩
 .rintro ys H1 ⟨⟨G1,done,rest,R1,s1,g1,c1,e1,d1⟩,_,_⟩ Y;refine⟨it.stop H1 (s1.trans R1.ins),?_⟩;rw[List.drop_length]at c1;cases c1;rw[(MN)]at e1;subst e1;exact k _ _ _ _ R1 Y g1 I l d1
end
def T7{α:Type}{l:List α}{a}(h:j≠i):(l.set i a)[j]? = l[j]?:=by grind
section
variable{X:Cx}{x y:Str}{px py tp:Pos}{tk:Nat}{scope:Scope}{N:AAy}
def AAX(h:CZ scope N x 1=true):iI X scope N (.Name x px) (CP 1) :=
 let⟨a,b⟩:=Ek h
 ⟨a,Ct 1,UJ,b X px,fun δ y δ' e G0 H0 G H σ v Q R _ k=>by cases e;exact k _ R.HL fun j I=>have l:=fun z=>I (by rw[z];exact .head _);⟨T7 l,T7 l⟩⟩
def za(h:CZ scope N x 1=true)(h':CZ scope N y 2=true)(Z:Rs):iI X scope N (.Tuple [.Name x px,.Name y py] tk tp) (BW 1 2):=by
 refine⟨(Ek h).1,L6 X.K 1 2,Vw AC,Mv h h' Z,fun δ z δ' e G0 H0 G H σ v Q R sm k=>?_⟩;unfold BW at e;split at e
 .cases e;obtain⟨a,ys,rfl,n1,T⟩:=(R.BC _ Da);obtain⟨I,l,rfl,Y,U⟩:=T.Jv;refine⟨a,[I,l],rfl,A4.of (sm _ _ n1),rfl,I,[l],rfl,l,[],rfl,rfl,k _ (((R.drop.put U).put Y).HL.HL) fun j M=>?_⟩;have h1:j≠1:=fun z=>M (by rw[z];exact .head _);have h2:j≠2:=fun z=>M (by rw[z];exact .tail _ Da)
  grind
 lia
end
section
variable{X:Cx}{tg elt iter:Expr}{pos:Pos}{ifs:AA0}{scope:Scope}{fs:AAh}{tif:AAk}{f:AAi}{fr:ABK}{set:To}{cl:AAh}
 (hc:RS set tif f fr fs (kF tg) cl)(ht:iI X scope (LL X tg fr) tg set)(hi:DI X tg iter fs)(hif:∀cl C s₀ H₀ fp,gT (BN X scope cl (LL X tg fr) C s₀ H₀ fp) ifs tif)(he:∀cl C s₀ H₀ fp,DE (BN X scope cl (LL X tg fr) C s₀ H₀ fp) elt f)
 (h2:Rs)(h3:JC (LL X tg fr) X.N scope X.env.scope fr 0=true)(h4:fr.length=(LL X tg fr).length)(h5:freeOk X.env.scope scope.names=true)(hs:∀x,foldedSetIterable iter X.env x=pure x)
include hc ht hi hif he h2 h3 h4 h5 hs
theorem Yt:∃t,PE X SZ t/\∀δ zs,cl δ=some zs->∀G0 H0 G H σ ts Q,Rw G0 H0 G H σ δ ts->(∀D ys G' H',Rw G0 H0 G' H' σ δ ts->H' D=some KB->G' D=none->H0 D=none->(∀(j:Nat) us,δ[j]? = some (L.own us)->σ[j]?≠some (some (V.ref D)))->Ad G' zs ys->Q (.ref D) H')->t σ H Q:=by
 obtain⟨wi,pi,l⟩:=hi;obtain⟨S,g,T,M,I⟩:=ht;exact⟨_,SS S h2 T M h3 h4 (Ko h5) pi hif (fun cl C s₀ H₀ fp=>(he cl C s₀ H₀ fp).pe) hs,fun δ zs U G0 H0 G H σ ts Q R k=>Qn I hc l U R k⟩
theorem Yp:DE X SZ (fun δ=>(cl δ).map .list):=by
 obtain⟨t,p,kt⟩:=Yt hc ht hi hif he h2 h3 h4 h5 hs;refine⟨t,p,fun δ z Z G0 H0 G H σ ts Q R0 k=>?_⟩;obtain⟨U,Y,rfl⟩:=aC.mp Z;exact kt δ U Y G0 H0 G H σ ts Q R0 fun D ys G1 H1 R1 M T I l d1=>k _ _ _ ((R1.adopt M T I l).put (⟨D,ys,rfl,AR,d1.same (Aj T _)⟩))
section
variable{i:Nat}{z:Str}{pz spos:Pos}(hN:X.N.Nodup)(hy:X.N[i]? = some z)(hly:X.env.scope.names.lookup z=some .local)(hsw:swapsWith SZ (some (.Name z pz)) spos.line X.env=pure true)
include hN hy hly hsw
theorem oZ:∃t,PS X (.Assign [.Name z pz] SZ spos) t/\∀δ zs,cl δ=some zs->∀G0 H0 G H σ D,Rw G0 H0 G H σ δ []->(∀a ys G' H',Rw G0 H0 G' H' σ δ []->H' a=some KB->G' a=none->H0 a=none->(∀(j:Nat) us,δ[j]? = some (L.own us)->σ[j]?≠some (some (V.ref a)))->Ad G' zs ys->D.nx (σ.set i (some KM)) H')->t D σ H:=by
 obtain⟨wi,pi,l⟩:=hi;obtain⟨S,g,T,M,I⟩:=ht;exact⟨_,Z7 S h2 T M h3 h4 (Ko h5) pi hif (fun cl C s₀ H₀ fp=>(he cl C s₀ H₀ fp).pe) hs hN hy hly hsw,fun δ zs U G0 H0 G H σ D R k=>Qn I hc l U R k⟩
theorem RN:DS X (.Assign [.Name z pz] SZ spos) (fun δ=>((cl δ).map PyData.list).map fun y=>.nx (δ.set i (.d y))):=by
 obtain⟨t,p,kt⟩:=oZ hc ht hi hif he h2 h3 h4 h5 hs hN hy hly hsw;refine⟨t,p,fun δ r h G0 H0 G H σ D R q=>?_⟩;obtain⟨_,Z,rfl⟩:=aC.mp h;obtain⟨U,Y,rfl⟩:=aC.mp Z;refine kt δ U Y G0 H0 G H σ D R fun a ys G1 H1 R1 M T I l d1=>q _ _ _ (((R1.adopt M T I l).put ?_).HL);exact⟨a,ys,rfl,AR,d1.same (Aj T _)⟩
end
end
def Gp(N:AAy)(ds:AAl):Dv:=ds.map .d++List.replicate (N.length-ds.length) .no
def Av(ps N:AAy)(F:DF)(ds:AAl):AAt:=if ds.length=ps.length then(match F (Gp N ds) with
 |some (.rt x)=>some x
 |some (.nx _)=>some .none
 |some (.rn xs)=>some (.list xs)
 |_=>none) else none
theorem Rw.start(d:Ad G ds vs)(e:AI G H):Rw G H G H (start N vs) (Gp N ds) []:=by
 have I:=d.len;refine⟨AI.refl _,Nw.refl,e,AI.refl _,by simp[L2.start,Gp,I],fun i x h=>?_,fun i xs h=>?_,fun i j xs ys _ h=>?_,fun q l=>by cases l⟩
 .unfold Gp at h;by_cases hi:i<ds.length
  .rw[List.getElem?_append_left (by simpa using hi),(BG)]at h;obtain⟨y,Y,U⟩:=aC.mp h;cases U;obtain⟨v,T,M⟩:=d.get Y;refine⟨v,?_,M⟩;unfold L2.start;rw[List.getElem?_append_left (by simp;lia),(BG),T];rfl
  .rw[List.getElem?_append_right (by simpa using hi),List.getElem?_replicate]at h;split at h<;>cases h
 .unfold Gp at h
  grind
 .unfold Gp at h
  grind
def md(U:AI G G')(T:Nw G H G')(M:AI G' H')(Z:H a=none)(l:G' a=none)(Y:H' a=some KB)(I:Ad G' xs ys):AI G (upd G' a KB)/\Nw G H (upd G' a KB)/\AI (upd G' a KB) H'/\Du (upd G' a KB) (.list xs) KM:=by
 refine⟨U.trans (Aj l _),fun b o hb=>?_,fun b o hb=>?_,?_⟩
 .by_cases z:b=a
  .lia
  .rw[AN z]at hb;exact T _ _ hb
 .by_cases z:b=a
  .subst z;rw[AR]at hb;lia
  .rw[AN z]at hb;exact M _ _ hb
 .exact⟨a,ys,rfl,AR,I.same (Aj l _)⟩
def okD{K}{st}(T:Fn K mg x st ps fA fd)(S:BQ N ps (AW st)) (hb:∀cdv A outer s H E,Bh k IS->KO (B5 Ac P w K mg base N x (AW st) fA cdv A outer s H E).Eh (CB st) F):Af P w K mg base Ac (k+1) fA fd ps (Aw (Av ps N F)):=by
 refine T.F.ok S On fun cdv A outer s H vs Q E hr h=>?_
 .obtain⟨ds,y,G,l,I,_⟩:=h;unfold Av at l;split at l
  .rename_i hl;rw[I.len];exact hl
  .cases l
 .obtain⟨ds,y,G,l,I,Y,h4⟩:=h;obtain⟨t,p,U⟩:=hb cdv A outer s H E hr;refine⟨t,p,?_⟩;unfold Av at l;split at l
  .split at l
   .rename_i z M;exact U _ _ M G H G H _ _ (Rw.start I Y) fun v G' H' m1 m2 m3 m4 Z=>by grind
   .rename_i δ M;cases l;exact U _ _ M G H G H _ _ (Rw.start I Y) fun σ' G' H' R=>h4 .BV G' H' R.ext R.new R.ins R.keep (by rw[Du])
   .rename_i xs M;cases l;exact U _ _ M G H G H _ _ (Rw.start I Y) fun a ys G' H' m1 m2 m3 m4 Z m6 m7 m8=>let⟨n1,n2,n3,n4⟩:=md m1 m2 m3 Z m6 m7 m8;h4 _ _ H' n1 n2 n3 m4 n4
   .cases l
  .cases l
section
variable{X:Cx}{a e:Expr}{f h:AAi}{pos p p2:Pos}   
def k8(hg:Gl X x)(hm:X.mg x=some (.int i tk))(hd:Fk=false:=by decide):DE X (.Name x pos) (fun _=>some (.int i)) :=
 ⟨_,Gs (v:=.int i) hg hm ⟨tk,rfl⟩ hd,fun δ x h G0 H0 G H σ ts Q r k=>by cases h;exact k _ _ _ (r.put Iq)⟩
structure DO(X:Cx)(o:Option Expr)(f:Dv->Option (Option Int)):Prop where
 ex:∃t,PO X o t/\∀δ x,f δ=some x->∀G0 H0 G H σ ts (Q:Option Int->Hp->Prop),Rw G0 H0 G H σ δ ts->(∀G' H',Rw G0 H0 G' H' σ δ ts->Q x H')->t σ H Q
variable{fo fu:Dv->Option (Option Int)}{lo hi:Option Expr}
def qr:DO X none (fun _=>some none):=⟨_,ZA,fun δ x h G0 H0 G H σ ts Q r k=>by cases h;exact k _ _ r⟩
def rF(I:DE X e f):DO X (some e) (fun δ=>(f δ).bind fun x=>(Pb x).map some):=by
 obtain⟨t,p,k⟩:=I;refine⟨_,ZU p,fun δ z h G0 H0 G H σ ts Q r q=>?_⟩;obtain⟨x,U,T⟩:=aA.mp h;obtain⟨i,M,rfl⟩:=aC.mp T;have:=Rm M;subst this;exact k δ _ U G0 H0 G H σ ts _ r fun v G' H' l=>⟨i,(l.BC _ Da),q _ _ l.drop⟩
def cutD(xs:AAl)(lo hi:Option Int):AAl:=(xs.drop (HT.Bw xs.length 0 lo)).take (HT.Bw xs.length xs.length hi-HT.Bw xs.length 0 lo)
def Ad.cut(h:Ad H ds xs) lo hi:Ad H (cutD ds lo hi) (MV xs lo hi):=by
 unfold cutD MV;rw[h.len];exact(h.drop _).take _
def cA(x:PD)(lo hi:Option Int):AAt:=match x with
 |.list xs=>some (.list (cutD xs lo hi))
 |.tuple xs=>if ¬W1 then some (.tuple (cutD xs lo hi)) else none
 |_=>none
def l9(he:DE X e f)(hl:DO X lo fo)(hh:DO X hi fu):DE X (.Subscript e (.Slice lo hi none p2) pos) (fun δ=>(f δ).bind fun x=>(fo δ).bind fun l=>(fu δ).bind fun u=>cA x l u):=by
 obtain⟨te,pe,ke⟩:=he;obtain⟨tl,Y,kl⟩:=hl;obtain⟨th,Z,kh⟩:=hh;refine⟨_,XX (qa.or gM) pe Y Z,fun δ z hz G0 H0 G H σ ts Q R0 k=>?_⟩;obtain⟨x,h1,h2⟩:=aA.mp hz;obtain⟨l,h3,h4⟩:=aA.mp h2;obtain⟨u,h5,I⟩:=aA.mp h4;refine ke δ x h1 G0 H0 G H σ ts _ R0 fun v G1 H1 R1=>kl δ l h3 G0 H0 G1 H1 σ _ _ R1 fun G2 H2 R2=>kh δ u h5 G0 H0 G2 H2 σ _ _ R2 fun G3 H3 M=>?_;have du:=M.BC _ Da;unfold cA at I;split at I
 .cases I;obtain⟨a,ys,rfl,n1,T⟩:=du;exact .inl ⟨a,ys,rfl,Am.of (M.ins _ _ n1),fun q U=>k _ _ _ (M.drop.NC (T.cut l u) U)⟩
 .split at I
  .rename_i hc;cases I;obtain⟨a,ys,rfl,n1,T⟩:=du;exact .inr ⟨a,ys,rfl,A4.of (M.ins _ _ n1),by rw[T.len];exact hc,fun q U=>k _ _ _ (M.drop.ba (T.cut l u) U)⟩
  .cases I
 lia
def GR:List PD->Option (List Int)
 |[]=>some []
 |.int i::r=>(GR r).map fun l=>i::l
 |_::_=>none
def Ad.ints:∀ {ds} {xs} {ns},Ad H ds xs->GR ds=some ns->xs=ns.map V.int
 |[],xs,ns,h,e=>by cases e;rw[h.nil_eq];rfl
 |.int i::r,xs,ns,h,e=>by
  obtain⟨l,T,rfl⟩:=aC.mp e;obtain⟨x,q,rfl,M,I⟩:=h.un;subst M;rw[(BR),I.ints T]
 |.none::_,_,_,_,e=>by cases e
 |.bool _::_,_,_,_,e=>by cases e
 |.str _::_,_,_,_,e=>by cases e
 |.tuple _::_,_,_,_,e=>by cases e
 |.list _::_,_,_,_,e=>by cases e
 |.dict _::_,_,_,_,e=>by cases e
def Tp:MD
 |[.list xs]=>(GR xs).map fun ns=>.int ns.sum
 |[.tuple xs]=>(GR xs).map fun ns=>.int ns.sum
 |_=>none
def vQ(Y:Rs):Kj X (.builtin "sum") Tp:=by
 refine⟨_,(Wd Y).or (gp Y),fun xs z l G0 H0 G H σ δ ts us Q I d k=>?_⟩;unfold Tp at l;split at l
 .obtain⟨ns,U,rfl⟩:=aC.mp l;obtain⟨u,rfl,du⟩:=d.Il;obtain⟨q,ys,rfl,T,M⟩:=du;refine .inl ⟨q,ns,rfl,by rw[<-M.ints U];exact Am.of (I.ins _ _ T),k _ _ _ (I.put Iq)⟩
 .obtain⟨ns,U,rfl⟩:=aC.mp l;obtain⟨u,rfl,du⟩:=d.Il;obtain⟨q,ys,rfl,T,M⟩:=du;refine .inr ⟨q,ns,rfl,by rw[<-M.ints U];exact A4.of (I.ins _ _ T),k _ _ _ (I.put Iq)⟩
 lia
def dI:MD
 |[.int i,.int j]=>some (.int (if j > i then j else i))
 |_=>none
def tf(I:Rs):Kj X (.builtin "max") dI:=by
 refine⟨_,fW I,fun xs z l G0 H0 G H σ δ ts us Q T d k=>?_⟩;unfold dI at l;split at l
 .cases l;obtain⟨u,v,rfl,du,M⟩:=d.Jv;subst du M;exact⟨_,_,rfl,k _ _ _ (T.put Iq)⟩
 lia
end
open PySem
abbrev fC(x:PD):Dv->Option PD:=fun _=>some x
abbrev Ip(f:L0):Dv->Option PD:=fun δ=>(f δ).bind fun x=>(Pb x).map fun i=>.int (-i)
abbrev ve(f:L0):Dv->Option PD:=fun δ=>(f δ).bind fun x=>(Ll x).map fun i=>.bool (!i)
abbrev Sd(f g:L0):Dv->Option PD:=fun δ=>(f δ).bind fun x=>(Ll x).bind fun c=>if c=true then g δ else some (.bool false)
abbrev AB:Dv->Option (List PD):=fun _=>some []
abbrev AA(f:L0)(fs:Os):Dv->Option (List PD):=fun δ=>(f δ).bind fun x=>(fs δ).map fun xs=>x::xs
abbrev Aa(fs:Os):Dv->Option PD:=fun δ=>((fs δ).bind BI).map .tuple
abbrev BF(fs:Os):Dv->Option PD:=fun δ=>((fs δ).bind BI).map .list
abbrev AE(m:MD)(fs:Os):Dv->Option PD:=fun δ=>(fs δ).bind m
abbrev Iy(q:PD->Bool)(f:L0):Dv->Option PD:=fun δ=>(f δ).bind (cg q)
abbrev gG(i:Nat)(g:L0):Dv->Option PD:=fun δ=>(g δ).bind fun y=>(ow i δ).bind fun xs=>(Pb y).bind fun k=>Fw xs k
abbrev Bd:Dv->Option (Option Int):=fun _=>some none
abbrev Bf(f:L0):Dv->Option (Option Int):=fun δ=>(f δ).bind fun x=>(Pb x).map some
abbrev CJ(f:L0)(M I:Dv->Option (Option Int)):Dv->Option PD:=fun δ=>(f δ).bind fun x=>(M δ).bind fun l=>(I δ).bind fun u=>cA x l u
abbrev CV(f:L0):Dv->Option Bool:=fun δ=>(f δ).bind Ll
abbrev Ap(o:PD->PD->Option PD)(f g:L0):Dv->Option Bool:=fun δ=>(AF o f g δ).bind Ll
abbrev DH(f:Dv->Option Bool):Dv->Option Bool:=fun δ=>(f δ).map fun c=>!c
abbrev NM(f g:Dv->Option Bool):Dv->Option Bool:=fun δ=>(f δ).bind fun c=>if c=true then g δ else some false
abbrev Ik(f g:Dv->Option Bool):Dv->Option Bool:=fun δ=>(f δ).bind fun c=>if c=true then some true else g δ
abbrev A5(f:L0):Dv->Option (List PD):=fun δ=>(f δ).bind JT
abbrev BJ(m:List PD->Option (List PD))(fs:Os):Dv->Option (List PD):=fun δ=>(fs δ).bind m
abbrev BX:Dv->Option Bool:=fun _=>some true
abbrev C0(i:Nat):PD->Dv->Option Dv:=fun y δ=>some (δ.set i (.d y))
abbrev A1:DF:=fun δ=>some (.nx δ)
abbrev Al(f:L0):DF:=fun δ=>(f δ).map .rt
abbrev xw(f:L0):DF:=fun δ=>(f δ).map fun _=>.nx δ
abbrev Bs(c:Dv->Option Bool)(F G:DF):DF:=fun δ=>(c δ).bind fun c=>if c=true then F δ else G δ
abbrev AZ(i:Nat)(f:L0):DF:=fun δ=>(f δ).map fun y=>.nx (δ.set i (.d y))
abbrev Ee(i:Nat)(fs:Os):DF:=fun δ=>((fs δ).bind BI).map fun ys=>.nx (δ.set i (.own KB))
abbrev Ef(i:Nat)(f:L0):DF:=fun δ=>(f δ).bind fun y=>(ow i δ).bind fun xs=>if xs.length<A6 then some (.nx (δ.set i (.own (.lst (xs++[y]))))) else none
abbrev TV(i:Nat)(f:L0):DF:=fun δ=>(f δ).bind fun y=>(ow i δ).bind fun xs=>match y with|.list l=>(if xs.length+l.length<=A6 then some (.nx (δ.set i (.own (.lst (xs++l))))) else none)|_=>none
abbrev BM(fs:Os)(set:To)(F:DF):DF:=fun δ=>(fs δ).bind fun xs=>GP set F xs δ
abbrev LC(i:Nat)(F:DF):DF:=fun δ=>F (Eu i δ)
abbrev ya:DF:=fun δ=>some (.ct δ)
def N4{K}(h:∀vs H Q E,¬sp vs H Q E):Af P w K mg base CX k f fd ps sp :=
 ⟨fun _ _ _ _ z=>by grind,fun _ _ _ _ _ _ _ _ _ _ _ _ _ z=>by grind⟩
def S8{K}(F:Af P w K mg base CX k f fd ps sp) (h:∀ds x,m ds=some x->∀G H vs Q E,Ad G ds vs->AI G H->(∀v G' H',AI G G'->Nw G H G'->AI G' H'->AI H H'->Du G' x v->Q v H')->sp vs H Q E):Af P w K mg base CX k f fd ps (Aw m) :=
 F.imp fun vs H Q E z=>by
  obtain⟨ds,x,G,T,M,I,l⟩:=z
  grind
def Bi(G H:Hp):Hp:=fun a=>match H a with
 |some (.tup xs)=>some Jl
 |_=>G a
def ir(h:H a=some Jl):Bi G H a=some Jl:=by unfold Bi;rw[h]
section
variable{G0 H0 G H:Hp}{σ:St}{δ:Dv}{ts:List (PD×V)}
def Rw.Bi(r:Fa):Rw G0 H0 (L2.Bi G H) H σ δ ts:=by
 have e:AI G (L2.Bi G H):=fun a o h=>by
  unfold L2.Bi;split
  .rename_i xs Y;rw[r.ins _ _ h]at Y;lia
  lia
 refine⟨r.ext.trans e,fun a o h=>?_,fun a o h=>?_,r.keep,r.len,fun i x h=>?_,fun i xs h=>?_,r.apart,fun q Z=>(r.BC q Z).same e⟩
 .unfold L2.Bi at h;split at h
  .grind
  .exact r.new _ _ h
 .unfold L2.Bi at h;split at h
  .lia
  .exact r.ins _ _ h
 .obtain⟨v,l,T⟩:=r.dat i x h;exact⟨v,l,T.same e⟩
 .obtain⟨a,ys,l,T,U,M,I⟩:=r.own i xs h;refine⟨a,ys,l,?_,U,M,I.same e⟩;unfold L2.Bi;rw[M];split
  .rename_i q;cases q;exact I.P8.elim
  lia
end
theorem Ln:∀ {t} {xs},Ad G (Gg t) xs->Ts G t xs
 |.nil,xs,h=>h.nil_eq
 |.cons b r,xs,h=>by
  obtain⟨x,q,rfl,T,M⟩:=h.un;obtain⟨a,ys,rfl,I,l⟩:=T;exact⟨a,ys,q,rfl,I,Ln l,Ln M⟩
theorem Qe:∀ {t} {xs},Ts H t xs->Ad (Bi G H) (Gg t) xs
 |.nil,xs,h=>by rw[h];rfl
 |.cons b r,xs,h=>by
  obtain⟨a,ys,T,rfl,M,I,l⟩:=h;exact .cons (⟨a,ys,rfl,ir M,Qe I⟩) (Qe l)
mutual
theorem Nr:∀ {ds:List PD} {t:Tr},JY ds=some t->ds=Gg t
 |[],t,h=>by rw[JY]at h;cases h;rw[Gg]
 |d::ds,t,h=>by
  rw[JY]at h;obtain⟨b,M,I⟩:=aA.mp h;obtain⟨r,l,rfl⟩:=aC.mp I;rw[Gg,<-Yx M,<-Nr l]
theorem Yx:∀ {d:PD} {t:Tr},FO d=some t->d=.tuple (Gg t)
 |.tuple ds,t,h=>by rw[FO]at h;rw[Nr h]
 |.none,_,h=>by simp[FO]at h
 |.bool _,_,h=>by simp[FO]at h
 |.int _,_,h=>by simp[FO]at h
 |.str _,_,h=>by simp[FO]at h
 |.list _,_,h=>by simp[FO]at h
 |.dict _,_,h=>by simp[FO]at h
end
def tP(rev:Bool)(t:Tr):AAt:=if t.bs.length<64/\t.deep<=60 then some (.list (Gg (Tr.of (if rev then Tr.GV t.bs else(Tr.GV t.bs).reverse)))) else none
def Na(rev:Bool):MD
 |[x]=>(JT x).bind fun ds=>(JY ds).bind (tP rev)
 |_=>none
section
variable{X:Cx}{a e:Expr}{f g h:AAi}{fs:AAh}{pos p:Pos}
def Y2{Q:VK}(U:Fa)(du:Du G x u)(hz:Na rev [x]=some z)(k:∀w G' H',Rw G0 H0 G' H' σ δ ((z,w)::ts)->Q w H'):∃(p:AD) (ys:ABC) (t:Tr),[u]=[.ref p]/\(Am X.K H p ys\/A4 X.K H p ys)/\Ts H t ys/\ys.length<64/\t.deep<=60/\∀l zs,H l=none->Ts H (Tr.of (if rev then Tr.GV t.bs else(Tr.GV t.bs).reverse)) zs->Q (.ref l) (upd H l (.lst zs)):=by
 obtain⟨ds,h1,h2⟩:=aA.mp hz;obtain⟨t,h3,I⟩:=aA.mp h2;unfold tP at I;split at I
 .rename_i hc;cases I;obtain⟨bb,a,ys,rfl,n1,Y⟩:=QV du h1;rw[(Nr h3)]at Y;have Z:=(Ln Y).same U.ins;have hl:ys.length=t.bs.length:=by rw[Z.len]
  refine⟨a,ys,t,rfl,?_,Z,by lia,hc.2,fun l zs T M=>?_⟩
  .have:=U.ins _ _ n1;cases bb
   .exact .inl (Am.of AS)
   .exact .inr (A4.of (by simpa using this))
  .exact k _ _ _ (U.Bi.NC (Qe M) T)
 .cases I
def qp(I:IR):Kj X (.builtin "sorted") (Na false):=by
 refine⟨_,fm I,fun xs z l G0 H0 G H σ δ ts us Q M d k=>?_⟩;cases xs with
 |nil=>cases l
 |cons x r=>
  cases r with
  |cons y q=>cases l
  |nil=>
   obtain⟨u,rfl,du⟩:=d.Il;exact Y2 M du l k
def lV(hu:IR)(hg:Gl X "sorted")(hm:X.mg "sorted" = none)(ha:DA X [e] fs) (Y:∀ {t},PA X [e] t->PE X (.Call (.Name "sorted" p) [e] [⟨some "reverse",.Constant KK j l,kp⟩] pos) (fun σ H Q=>t σ H fun vs M=>il X.K vs M Q)):DE X (.Call (.Name "sorted" p) [e] [⟨some "reverse",.Constant KK j l,kp⟩] pos) (AE (Na true) fs):=by
 obtain⟨t,p,k⟩:=ha;refine⟨_,Y p,fun δ z T G0 H0 G H σ ts Q R0 q=>?_⟩;obtain⟨xs,Z,I⟩:=aA.mp T;refine k δ _ Z G0 H0 G H σ ts _ R0 fun vs G1 M R1 U=>?_;obtain⟨d,R2⟩:=R1.args U;cases xs with
 |nil=>cases I
 |cons x r=>
  cases r with
  |cons y q=>cases I
  |nil=>
   obtain⟨u,rfl,du⟩:=d.Il;exact Y2 R2 du I q
def wN(x k:PD):AAt:=match x,k with
 |.list xs,.int i=>if i=-1 then some (.list xs.reverse) else none
 |_,_=>none
abbrev lH(f g:L0):Dv->Option PD:=AF wN f g
def vf(he:DE X e f)(hk:DE X k g):DE X (.Subscript e (.Slice none none (some k) p2) pos) (lH f g):=by
 obtain⟨te,pe,U⟩:=he;obtain⟨tk,I,T⟩:=hk;refine⟨_,vX pe I,fun δ z Y G0 H0 G H σ ts Q R0 k=>?_⟩;obtain⟨x,y,h1,h2,l⟩:=two (x:=.none) (y:=.none) Y;refine U δ x h1 G0 H0 G H σ ts _ R0 fun u G1 H1 R1=>T δ y h2 G0 H0 G1 H1 σ _ _ R1 fun v G2 H2 R2=>?_;have du:=R2.BC (x,u) (.tail _ Da);have dv:=R2.BC (y,v) Da;unfold wN at l;split at l
 .split at l
  .rename_i hi;cases l;subst hi;obtain⟨a,ys,rfl,n1,M⟩:=du;exact⟨a,ys,rfl,dv,Am.of (R2.ins _ _ n1),fun q Z=>k _ _ _ (R2.drop.drop.NC M.rev Z)⟩
  lia
 lia
abbrev L8(i:Nat)(f g:L0):DF:=fun δ=>(f δ).bind fun y=>(g δ).bind fun k=>(ow i δ).bind fun xs=>(Pb k).bind fun n=>(Qs xs.length n).map fun j=>.nx (δ.set i (.own (.lst (xs.set j y))))
theorem Ad.set(hd:Du H d v):∀ {ds} {xs} j,Ad H ds xs->Ad H (ds.set j d) (xs.set j v)
 |[],_,_,h=>by rw[h.nil_eq];rfl
 |_::_,_,0,h=>by obtain⟨x,r,rfl,_,l⟩:=h.un;exact .cons hd l
 |_::_,_,j+1,h=>by obtain⟨x,r,rfl,I,l⟩:=h.un;exact .cons I (Ad.set hd j l)
def uF(hv:PE X Iv (HV i))(hk:DE X a g)(he:DE X e f) (hP:∀ {l M T},PE X e l->PE X Iv M->PE X a T->PS X (.Assign [.Subscript Iv a sp] e pos) (Wu l (lQ M T my))):DS X (.Assign [.Subscript Iv a sp] e pos) (L8 i f g):=by
 obtain⟨l,pe,ke⟩:=he;obtain⟨tk,pk,kk⟩:=hk;refine⟨_,hP pe hv pk,fun δ r h G0 H0 G H σ D R q=>?_⟩;obtain⟨y,h1,h2⟩:=aA.mp h;obtain⟨n,h3,h4⟩:=aA.mp h2;obtain⟨xs,h5,h6⟩:=aA.mp h4;obtain⟨m,h7,h8⟩:=aA.mp h6;obtain⟨j,h9,rfl⟩:=aC.mp h8;have:=Rm h7;subst this;have hi:=Og h5;refine ke δ y h1 G0 H0 G H σ [] _ R fun u G1 H1 Z=>?_;obtain⟨ad,_,I,k2,k3,k4,⟨ys,rfl,k5⟩⟩:=Z.own i _ hi;refine⟨.ref ad,I,kk δ _ h3 G0 H0 G1 H1 σ _ _ Z fun v G2 H2 R2=>?_⟩;obtain⟨ad',_,Y,m2,m3,m4,⟨zs,rfl,U⟩⟩:=R2.own i _ hi;rw[I]at Y;cases Y;exact⟨ad,zs,m,j,rfl,(R2.BC (.int m,v) Da),m4,by rw[U.len];lia,q _ _ _ (R2.drop.drop.Qj hi I ⟨_,rfl,U.set (R2.BC (y,u) (.tail _ Da)) j⟩)⟩
end
def cq:PD->Option Key
 |.int i=>some (.inl i)
 |.str x=>some (.inr x)
 |_=>none
def Q3:List PD->Option (List Key)
 |[]=>some []
 |d::r=>(cq d).bind fun k=>(Q3 r).map fun q=>k::q
def MY:PD->Option (List Key)
 |.tuple ds=>Q3 ds
 |_=>none
def qG(h:Du G d v)(e:cq d=some k):v=kV k:=by
 unfold cq at e;split at e
 .cases e;exact h
 .cases e;exact h
 lia
theorem WQ:∀ {ds} {xs} {ks},Ad G ds xs->Q3 ds=some ks->xs=ks.map kV
 |[],xs,ks,h,e=>by cases e;rw[h.nil_eq];rfl
 |d::ds,xs,ks,h,e=>by
  obtain⟨k,U,T⟩:=aA.mp e;obtain⟨q,M,rfl⟩:=aC.mp T;obtain⟨x,r,rfl,I,l⟩:=h.un;rw[(BR),qG I U,WQ l M]
def SV(h:Du G d v)(e:MY d=some ks):∃b,v=.ref b/\G b=some (.tup (ks.map kV)):=by
 unfold MY at e;split at e
 .obtain⟨a,xs,rfl,I,l⟩:=h;exact⟨a,rfl,by rw[<-WQ l e];lia⟩
 lia
def LO(kvs:List (List Key×PD))(k:List Key):AAt:=(kvs.find? fun l=>decide (l.1=k)).map (·.2)
def putD(kvs:List (List Key×PD))(k:List Key)(v:PD):List (List Key×PD) :=
 if(kvs.any fun l=>decide (l.1=k))=true then kvs.map (fun l=>if l.1=k then(l.1,v) else l) else kvs++[(k,v)]
theorem Cm.val:∀ {t} {r},Cm G t r->(match LO t k with|some d=>∃v,Cs r k=some v/\Du G d v|none=>Cs r k=none)
 |[],r,h=>by subst h;rfl
 |q::t,r,h=>by
  obtain⟨v,M,rfl,T,I⟩:=h;have l:=Cm.val (k:=k) I;unfold LO Cs at l ⊢
  grind
theorem Cm.app(hd:Du G d v):∀ {t} {r},Cm G t r->Cm G (t++[(k,d)]) (r++[(k,v)])
 |[],r,h=>by subst h;exact⟨v,[],rfl,hd,rfl⟩
 |q::t,r,h=>by
  obtain⟨u,M,rfl,I,l⟩:=h;exact⟨u,_,rfl,I,Cm.app hd l⟩
theorem Cm.any:∀ {t} {r},Cm G t r->(r.any fun l=>decide (l.1=k))=(t.any fun l=>decide (l.1=k))
 |[],r,h=>by subst h;rfl
 |q::t,r,h=>by
  obtain⟨u,M,rfl,T,I⟩:=h;simp only[List.any_cons,Cm.any I]
theorem Cm.over(hd:Du G d v):∀ {t} {r},Cm G t r->Cm G (t.map fun l=>if l.1=k then(l.1,d) else l) (r.map fun l=>if l.1=k then(l.1,v) else l)
 |[],r,h=>by subst h;rfl
 |q::t,r,h=>by
  obtain⟨u,T,rfl,M,I⟩:=h;by_cases e:q.1=k
  .simp only[List.map_cons,e];exact⟨v,_,rfl,hd,Cm.over hd I⟩
  .simp only[List.map_cons,e];exact⟨u,_,rfl,M,Cm.over hd I⟩
def Cm.put(hd:Du G d v)(h:Cm G t r):Cm G (putD t k d) (putK r k v):=by
 unfold putD putK;rw[h.any ];split
 .exact h.over hd
 .exact h.app hd
def Cm.len:∀ {t} {r},Cm G t r->r.length=t.length
 |[],r,h=>by subst h;rfl
 |q::t,r,h=>by
  obtain⟨u,I,rfl,M,l⟩:=h;simp[l.len]
def Ea(i:Nat)(δ:Dv):Option (List (List Key×PD)):=match δ[i]? with
 |some (.own (.Ea kvs))=>some kvs
 |_=>none
def QU(h:Ea i δ=some kvs):δ[i]? = some (.own (.Ea kvs)):=by
 unfold Ea at h
 lia
section
variable{X:Cx}{a b e:Expr}{f g h:AAi}{pos:Pos}
abbrev jO(i:Nat):DF:=fun δ=>some (.nx (δ.set i (.own (.Ea []))))
def vC(Y:X.N.Nodup)(hi:X.N[i]? = some x)(M:Loc X.env.scope x)(T:swapsWith (.Dict [] [] dp) (some (.Name x I)) pos.line X.env=pure false:=by rfl)(hf:X.fn x=true\/X.env.scope.names.lookup x=some .local:=by first|exact .inl rfl|exact .inr rfl|assumption):DS X (.Assign [.Name x I] (.Dict [] [] dp) pos) (jO i):=by
 refine⟨_,A0 Y hi M V2 T hf,fun δ r h G0 H0 G H σ D R q=>?_⟩;cases h;exact fun l U=>q _ _ _ (R.Rx ⟨[],rfl,rfl⟩ U)
abbrev Vk(i:Nat)(f g:L0):DF:=fun δ=>(f δ).bind fun y=>(g δ).bind fun k=>(Ea i δ).bind fun kvs=>(MY k).bind fun q=>if kvs.length<A6 then some (.nx (δ.set i (.own (.Ea (putD kvs q y))))) else none
def qD(hv:PE X Iv (HV i))(hk:DE X a g)(he:DE X e f) (hP:∀ {l T U},PE X e l->PE X Iv T->PE X a U->PS X (.Assign [.Subscript Iv a sp] e pos) (nT T U l)):DS X (.Assign [.Subscript Iv a sp] e pos) (Vk i f g):=by
 obtain⟨l,pe,ke⟩:=he;obtain⟨tk,pk,kk⟩:=hk;refine⟨_,hP pe hv pk,fun δ r h G0 H0 G H σ D R q=>?_⟩;obtain⟨y,h1,h2⟩:=aA.mp h;obtain⟨k,h3,h4⟩:=aA.mp h2;obtain⟨kvs,h5,h6⟩:=aA.mp h4;obtain⟨ks,h7,M⟩:=aA.mp h6;split at M
 .cases M;have hi:=QU h5;refine ke δ y h1 G0 H0 G H σ [] _ R fun u G1 H1 R1=>?_;obtain⟨ad,_,I,k2,k3,k4,⟨r1,rfl,k5⟩⟩:=R1.own i _ hi;refine⟨.ref ad,I,kk δ _ h3 G0 H0 G1 H1 σ _ _ R1 fun v G2 H2 R2=>?_⟩;obtain⟨b,rfl,hb⟩:=SV (R2.BC (k,v) Da) h7;obtain⟨ad',_,Z,m2,m3,m4,⟨r2,rfl,Y⟩⟩:=R2.own i _ hi;rw[I]at Z;cases Z;exact⟨ad,_,rfl,W8.t m4 (R2.ins _ _ hb) (S9 (by rw[Y.len];lia)),q _ _ _ (R2.drop.drop.Qj hi I ⟨_,rfl,Y.put (R2.BC (y,u) (.tail _ Da))⟩)⟩
 .cases M
abbrev Oo(i:Nat)(g:L0):Dv->Option PD:=fun δ=>(g δ).bind fun k=>(Ea i δ).bind fun kvs=>(MY k).bind fun q=>LO kvs q
def oS(hu:X.A.units+1<cLine)(l:PE X Iv (HV i))(hk:DE X a g)(hs:Wf a):DE X (.Subscript Iv a pos) (Oo i g):=by
 obtain⟨tk,Y,kk⟩:=hk;refine⟨_,Yq hu l Y hs,fun δ z hz G0 H0 G H σ ts Q U k=>?_⟩;obtain⟨y,h1,h2⟩:=aA.mp hz;obtain⟨kvs,h3,h4⟩:=aA.mp h2;obtain⟨ks,h5,h6⟩:=aA.mp h4;have hi:=QU h3;obtain⟨ad,_,T,k2,k3,k4,⟨r1,rfl,k5⟩⟩:=U.own i _ hi;refine⟨.ref ad,T,kk δ _ h1 G0 H0 G H σ ts _ U fun v G1 H1 I=>?_⟩;obtain⟨b,rfl,hb⟩:=SV (I.BC (y,v) Da) h5;obtain⟨ad',_,M,m2,m3,m4,⟨r2,rfl,m5⟩⟩:=I.own i _ hi;rw[T]at M;cases M;have l:=m5.val (k:=ks);rw[h6]at l;obtain⟨w,n1,Z⟩:=l;exact⟨ad,w,rfl,by rw[<-n1];exact KH.t m4 (I.ins _ _ hb),k _ _ _ (I.drop.put Z)⟩
end
section
variable{G0 H0 G H:Hp}{σ:St}{δ:Dv}{ts:List (PD×V)}
def Rw.on(r:Fa)(e:AI H H'):Rw G0 H0 G H' σ δ ts:=r.lift (AI.refl _) Nw.refl (r.ins.trans e) e
def Rw.qw{xs:Oc}{ys:HO}(r:Fa)(d:IC G a xs ys)(ha:H a=some ys)(hG:G a=none)(h0:H0 a=none)(M:∀(j:Nat) (zs:Oc),δ[j]? = some (L.own zs)->σ[j]?≠some (some (V.ref a))):Rw G0 H0 G H (σ.set i (some KM)) (δ.set i (.own xs)) ts:=by
 have hl:=r.len;have other:∀(j:Nat) (zs:Oc),i≠j->(δ.set i (.own xs))[j]? = some (L.own zs)->δ[j]? = some (L.own zs):=fun j zs I h=>by rw[List.getElem?_set_ne I]at h;exact h
 refine⟨r.ext,r.new,r.ins,r.keep,by simp[hl],fun j y h=>?_,fun j zs h=>?_,fun j l us ws Z U T=>?_,r.BC⟩
 .by_cases I:i=j
  .subst I;by_cases hi:i<δ.length
   .rw[List.getElem?_set_self hi]at h;cases h
   .rw[List.getElem?_eq_none (by simp;lia)]at h;cases h
  .rw[List.getElem?_set_ne I]at h;obtain⟨w,m1,m2⟩:=r.dat j y h;exact⟨w,by rw[List.getElem?_set_ne I];exact m1,m2⟩
 .by_cases I:i=j
  .subst I;by_cases hi:i<δ.length
   .rw[List.getElem?_set_self hi]at h;cases h;exact⟨a,ys,by rw[List.getElem?_set_self AS],hG,h0,ha,d⟩
   .rw[List.getElem?_eq_none (by simp;lia)]at h;cases h
  .obtain⟨b,us,m1,m2,m3,m4,m5⟩:=r.own j zs (other j zs I h);exact⟨b,us,by rw[List.getElem?_set_ne I];exact m1,m2,m3,m4,m5⟩
 .by_cases I:i=j
  .subst I;have Y:i≠l:=Z;have T:=other l ws Y T;by_cases hi:i<δ.length
   .rw[List.getElem?_set_self AS,List.getElem?_set_ne Y];exact fun z=>M l ws T z.symm
   .rw[List.getElem?_eq_none (by simp;lia)]at U;cases U
  .have U:=other j us I U;by_cases hk:i=l
   .subst hk;by_cases hi:i<δ.length
    .rw[List.getElem?_set_self AS,List.getElem?_set_ne I];exact fun z=>M j us U z
    .rw[List.getElem?_eq_none (by simp;lia)]at T;cases T
   .rw[List.getElem?_set_ne I,List.getElem?_set_ne hk];exact r.apart j l us ws Z U (other l ws hk T)
end
def mS(g:RW):Sp:=fun vs H Q _=>∃ds xs G,g ds=some xs/\Ad G ds vs/\AI G H/\∀a ys G' H',AI G G'->Nw G H G'->AI G' H'->AI H H'->H a=none->G' a=none->H' a=some KB->Ad G' xs ys->Q KM H'
section
variable{X:Cx}{a b e:Expr}{es:AA0}{fs:AAh}{pos p:Pos}
abbrev sN(i:Nat)(m:List PD->Option (List PD))(fs:Os):DF:=fun δ=>((fs δ).bind m).map fun xs=>.nx (δ.set i (.own Tl))
def qz{st}{I l}(T:Fn X.K X.mg x st ps fA fd)(F:Af X.prog X.w X.K X.mg X.base Ac k fA fd ps (mS m))(hr:Bh k X.A)(hg:Gl X x)(ha:DA X cr fs) (hN:X.N.Nodup)(hi:X.N[i]? = some y)(hx:Loc X.env.scope y) (Y:Fk=false:=by decide)(he:starEach cr X.env=EQ::starEach es X.env:=by rfl)(U:(backTo pos ON).any Hq=false:=by rfl) (hs:swapsWith Cl (some (.Name y I)) l.line X.env=pure false:=by rfl)(hf:X.fn y=true\/X.env.scope.names.lookup y=some .local:=by first|exact .inl rfl|exact .inr rfl|assumption):DS X (.Assign [.Name y I] Cl l) (sN i m fs):=by
 obtain⟨ta,pa,ka⟩:=ha;refine⟨_,A0 hN hi hx (EW T F hr hg pa Y he U) hs hf,fun δ r hz G0 H0 G H σ D R q=>?_⟩;obtain⟨M,hy,rfl⟩:=aC.mp hz;obtain⟨xs,h1,h2⟩:=aA.mp hy;refine ka δ _ h1 G0 H0 G H σ [] _ R fun vs G1 H1 R1 hv=>?_;obtain⟨d,R2⟩:=R1.args hv;refine⟨xs,M,G1,h2,by rw[(MN)];exact d,R2.ins,fun a ys G' H' m1 m2 m3 m4 Z m6 m7 m8=>q _ _ _ ((R2.lift m1 m2 m3 m4).qw ⟨ys,rfl,m8⟩ m7 m6 ?_ fun j M hj z=>?_)⟩
 .cases q:H0 a with
  |none=>rfl
  |some u=>rw[R2.keep _ _ q]at Z;cases Z
 .obtain⟨b,us,k1,k2,k3,k4,k5⟩:=R2.own j M hj
  lia
end
section
variable{F F1 F2:DF}{δ δ':Dv}{r:Option Ou}{c:AAk}{f g:AAi}{fs:AAh}
def AO(h:F1 δ=some bi)(k:F2 δ'=r):AL F1 F2 δ=r:=by unfold AL;lia
def Co(h:F1 δ=some (.rt x)):AL F1 F2 δ=some (.rt x):=by unfold AL;rw[h]
def DR(h:c δ=some true)(k:F1 δ=r):Bs c F1 F2 δ=r:=by grind
def EU(h:c δ=some false)(k:F2 δ=r):Bs c F1 F2 δ=r:=by grind
def AX(h:f δ=some y):AZ i f δ=some (.nx (δ.set i (.d y))):=by grind
def CS(h:f δ=some y):Al f δ=some (.rt y):=by grind
def AQ(M:f δ=some x)(I:g δ=some y)(l:o x y=z):AF o f g δ=z:=by unfold AF;grind
def AJ(I:fs δ=some xs)(l:m xs=z):AE m fs δ=z:=by grind
def AK(I:f δ=some x)(l:fs δ=some xs):AA f fs δ=some (x::xs):=by grind
def ZK(h:fs δ=some xs)(l:xs.length<=A6):BF fs δ=some (.list xs):=by show((fs δ).bind BI).map _=_;unfold BI;grind
def Di(h:fs δ=some xs)(l:xs.length<=A6):Aa fs δ=some (.tuple xs):=by show((fs δ).bind BI).map _=_;unfold BI;grind
def Bx(M:f δ=some x)(I:g δ=some y)(l:o x y=some (.bool b)):Ap o f g δ=some b:=by show(AF o f g δ).bind Ll=_;rw[AQ M I l];rfl
def Ku(h:a δ=some false)(k:b δ=q):Ik a b δ=q:=by grind
def Oj(h:a δ=some true):Ik a b δ=some true:=by grind
def C8(h:a δ=some b):DH a δ=some (!b):=by grind
def C9(h:f δ=some (.bool b)):CV f δ=some b:=by show(f δ).bind Ll=_;rw[h];rfl
theorem WM{set}(M:Nat->Dv->Prop):∀xs δ n,M n δ->(∀i x δ,xs[i]? = some x->M (n+i) δ->∃I l,set x δ=some I/\F I=some (.nx l)/\M (n+i+1) l) ->
  ∃δ',GP set F xs δ=some bi/\M (n+xs.length) δ'
 |[],δ,n,h,_=>⟨δ,rfl,h⟩
 |x::xs,δ,n,h,k=>by
  obtain⟨I,l,h1,h2,T⟩:=k 0 x δ rfl h;obtain⟨δ',h4,Z⟩:=WM M xs l _ T fun i y δ U Y=>by
   have:=k SB y δ GM AS;rw[show n+_+1=n+1+i+1 by lia]at this;exact this
  unfold GP
  grind
def lW{set}(M:Nat->Dv->Prop)(T:fs δ=some xs)(h0:M 0 δ)(U:∀i x δ,xs[i]? = some x->M i δ->∃I l,set x δ=some I/\F I=some (.nx l)/\M SB l):∃δ',BM fs set F δ=some bi/\M xs.length δ':=by
 obtain⟨δ',h1,Z⟩:=WM M xs δ 0 h0 fun i x δ T Y=>by
  simpa using (U i x δ T AS)
 grind
theorem PV{g}:∀ {xs},(∀x∈xs,one x=some (some (g x)))->collect one xs=some (xs.map g)
 |[],_=>rfl
 |x::xs,h=>by
  unfold collect;rw[h x Da,PV fun y l=>h y (.tail _ l)]
  rfl
def comp_map{g}(l:fs δ=some xs)(I:xs.length<=A6)(h:∀x∈xs,f ((BK fr δ).set ix (.d x))=some (g x)):CT (CP ix) BX f fr fs δ=some (.list (xs.map g)):=by
 unfold CT Bn;rw[l,(Cp),PV fun x l=>?_,(Cp),BI,if_pos GM]
 .rfl
 .unfold Hz CP
  grind
end
def BA(l:ds.length=ps.length)(h:F (Gp N ds)=some (.rt x)):Av ps N F ds=some x:=by unfold Av;lia
def SJ{lo}(h:(Ey lo n)[i]? = some x):x=.int (lo+i)/\i<n:=by
 unfold Ey at h
 grind
def Q0(h:f δ=some (.int j))(h0:-1000000<=j)(l:j<=1000000):BJ Hg (AA f AB) δ=some (Ey 0 j.toNat):=by
 show(AA f AB δ).bind Hg=_;rw[AK h rfl];exact if_pos ⟨h0,l⟩
def LP(h:i.natAbs<2^n):LJ n i=true:=decide_eq_true h
def Wi(h:OI i j=true):BL (.int i) (.int j)=some (.int (i*j)):=by
 show PC cY WV _ _=_;unfold PC;rw[show cY (.int i) (.int j)=some _ from if_pos h]
def mul_r(h:j.natAbs<2^64):BL (.int i) (.int j)=some (.int (i*j)):=Wi (by unfold OI;rw[LP h];simp)
def Mf(h:i.natAbs<2^64):BL (.int i) (.int j)=some (.int (i*j)):=Wi (by unfold OI;rw[LP h];simp)
def mod_is(h:0<j):Cr (.int i) (.int j)=some (.int (i % j)):=by
 show(if j≠0 then some _ else none)=_
 grind
def eD{n:Nat}(hn:n<=1000)(hi:LJ 64 i=true):QN (.int i) (.int n)=some (.int (i^n)):=by
 show(if 0<=_/\_<=1000/\LJ 64 i=true then some _ else none)=_
 grind
def lM:PD->PD->Option PD:=fun x y=>match x,y with|.tuple a,.int k=>(if a.length≠0/\1<=k/\k<=1000/\a.length*k.toNat<=1000 then some (.tuple (List.replicate k.toNat a).flatten) else none)|_,_=>none
def qF:Cz X (binaryOp .Mult) lM:=by
 refine⟨_,pR,fun x y z I G0 H0 G H σ δ ts u v Q U du dv k=>?_⟩;unfold lM at I;split at I
 .rename_i a n;split at I
  .rename_i M;cases I;obtain⟨p,xs,rfl,Z,T⟩:=du;subst dv;exact⟨p,n,xs,rfl,rfl,U.ins _ _ Z,fun z=>M.1 (by rw[<-T.len,z];rfl),M.2.1,M.2.2.1,by rw[T.len];lia,fun l H' e Y=>k _ _ _ ((U.dr e Y).put (⟨l,_,rfl,AR,(T.same (fun a o h=>by
    by_cases ha:a=l
    .subst ha;have:=e _ _ (U.ins _ _ h);rw[Y]at this;rw[AR];lia
    .rw[AN ha];exact h)).rep _⟩))⟩
  lia
 lia
def ny:PD->PD->Option PD:=PC BL lM
def om:Cz X (binaryOp .Mult) ny:=g9.or qF
def cD(C:AD):PD:=.dict [(.int C,.none)]
def B2(ns:AAx):PD:=.dict [(.none,.list (ns.map .int))]
def sd(h:Rd H a (.lst (ns.map V.int))):Du H (B2 ns) KM:=.inr (.inl ⟨a,ns,rfl,rfl,h⟩)
def Zz(K:Fg):Bool:=K.all fun p=>match p.2.cls with|.type n=>n != "list" |_=>true
theorem PF:∀ {K:Fg},K.lookup a=some o->(a,o)∈K
 |[],h=>by cases h
 |(b,u)::K,h=>by
  rw[(QI)]at h;split at h
  .grind
  .exact .tail _ (PF h)
def tU{K}(l:Zz K=true)(h:Am K H a xs):Rd H a Tl:=by
 rcases h with h|⟨o,I,n,M,T,_⟩
 .lia
 .unfold Zz at l;rw[List.all_eq_true]at l;have:=l _ (PF M)
  lia
abbrev Xr:=PD ⊕ AD
abbrev rW:=List PD->Option Xr
def FW(g:rW):Sp:=fun vs H Q E=>∃ds r G,g ds=some r/\Ad G ds vs/\AI G H/\match r with
 |.inl x=>∀v G' H',AI G G'->Nw G H G'->AI G' H'->AI H H'->Du G' x v->Q v H'
 |.inr C=>∀H',AI H H'->E TW none H'
abbrev Y1:=Ou ⊕ AD
abbrev EL:=Dv->Option Y1
def um(G0 H0:Hp)(D:Ends)(E:XK):Y1->Prop
 |.inl o=>Fin G0 H0 D o
 |.inr C=>∀H',AI H0 H'->E TW none H'
structure DX(X:Cx)(E:XK)(st:Stmt)(F:EL):Prop where
 ex:∃t,PS X st t/\∀δ r,F δ=some r->∀G0 H0 G H σ D,Rw G0 H0 G H σ δ []->um G0 H0 D E r->t D σ H
structure M9(X:Cx)(E:XK)(sts:List Stmt)(F:EL):Prop where
 ex:∃t,HC X sts t/\∀δ r,F δ=some r->∀G0 H0 G H σ D,Rw G0 H0 G H σ δ []->um G0 H0 D E r->t D σ H
section
variable{X:Cx}{E:XK}{b c e:Expr}{es:AA0}{f h:AAi}{fs:AAh}{fa:AAk}{pos p:Pos}{st:Stmt}{sts sts':ABG}{F:DF}{J J1 J2:EL}
def jT(h:HC X.Eh sts t):HC X sts t:=fun pins s σ H D I k=>aU (h pins s σ H D (I.Ft _) k) (fun _ _ z=>z.DM) fun _ _ z=>z.elim
def vT(h:PS X.Eh st t):PS X st t:=fun pins s σ H D I k=>aU (h pins s σ H D (I.Ft _) k) (fun _ _ z=>z.DM) fun _ _ z=>z.elim
def va(h:PE X.Eh e t):PE X e t:=fun pins s σ H Q I k=>aU (h pins s σ H Q (I.Ft _) k) (fun _ _ ⟨v,H',l,r,q⟩=>⟨v,H',l.DM,r,q⟩) fun _ _ z=>z.elim
def tZ(h:PT X.Eh e t):PT X e t:=fun pins s σ H Q I k=>aU (h pins s σ H Q (I.Ft _) k) (fun _ _ ⟨H',l,q⟩=>⟨H',l.DM,q⟩) fun _ _ z=>z.elim
def W5(h:PA X.Eh es t):PA X es t:=fun p pins s σ H Q I k=>aU (h p pins s σ H Q (I.Ft _) k) (fun _ _ ⟨v,H',l,r,q⟩=>⟨v,H',l.DM,r,q⟩) fun _ _ z=>z.elim
abbrev Es(F:DF):EL:=fun δ=>(F δ).map .inl
def xc(h:DS X.Eh st F):DX X E st (Es F):=by
 obtain⟨t,p,k⟩:=h;refine⟨t,vT p,fun δ r h G0 H0 G H σ D R q=>?_⟩;obtain⟨o,l,rfl⟩:=aC.mp h;exact k δ o l G0 H0 G H σ D R q
def uy(h:KO X.Eh sts F):M9 X E sts (Es F):=by
 obtain⟨t,p,k⟩:=h;refine⟨t,jT p,fun δ r h G0 H0 G H σ D R q=>?_⟩;obtain⟨o,l,rfl⟩:=aC.mp h;exact k δ o l G0 H0 G H σ D R q
def B3(J1 J2:EL)(δ:Dv):Option Y1:=match J1 δ with
 |some (.inl (.nx δ'))=>J2 δ'
 |o=>o
def q9:M9 X E [] (fun δ=>some (.inl (.nx δ))):=⟨_,FJ,fun δ r h G0 H0 G H σ D R k=>by cases h;exact k _ _ _ R⟩
def qe(h:DX X E st J):M9 X E [st] J:=let⟨t,p,k⟩:=h;⟨t,A8 p,k⟩
def j8(U:DX X E st J1)(T:M9 X E sts J2):M9 X E (st::sts) (B3 J1 J2):=by
 obtain⟨t1,M,l⟩:=U;obtain⟨Z,I,k2⟩:=T;refine⟨_,Ai M I,fun δ r h G0 H0 G H σ D R q=>?_⟩;unfold B3 at h;split at h
 .rename_i δ' Y;exact l δ _ Y G0 H0 G H σ _ R fun σ' G' H' R'=>by grind
 .cases r with
  |inr C=>exact l δ _ h G0 H0 G H σ _ R q
  |inl o'=>
   cases o' with
   |nx δ'=>lia
   |rt x=>exact l δ _ h G0 H0 G H σ _ R q
   |bk x=>exact l δ _ h G0 H0 G H σ _ R q
   |ct x=>exact l δ _ h G0 H0 G H σ _ R q
   |rn x=>exact l δ _ h G0 H0 G H σ _ R q
abbrev Qo(c:Dv->Option Bool)(J1 J2:EL):EL:=fun δ=>(c δ).bind fun b=>if b=true then J1 δ else J2 δ
def xj(T:DT X.Eh c fa)(Z:M9 X E sts J1)(Y:M9 X E sts' J2):DX X E (.If c sts sts' pos) (Qo fa J1 J2):=by
 obtain⟨tc,pc,M⟩:=T;obtain⟨t1,I,k1⟩:=Z;obtain⟨t2,l,k2⟩:=Y;refine⟨_,IY (tZ pc) I l,fun δ r h G0 H0 G H σ D R q=>?_⟩;obtain⟨b,U,h4⟩:=aA.mp h;refine M δ _ U G0 H0 G H σ [] _ R fun G1 H1 R1=>?_
 grind
abbrev Jm(C:AD)(f:L0):EL:=fun δ=>(f δ).map fun _=>.inr C
def i7{np cpos}(T:Exc X.K X.mg x C)(U:Lets X E)(M:DE X.Eh e f)(l:X.calm=true:=by rfl)(hg:Gl X x:=by rfl)(hd:Fk=false:=by decide) (I:starEach [e] X.env=[EQ]:=by rfl):DX X E (.Raise (some (.Call Iv [e] [] cpos)) none pos) (Jm C f):=by
 obtain⟨t,p,k⟩:=M;refine⟨_,jB T U l hg (va p) hd I,fun δ r h G0 H0 G H σ D R q=>?_⟩;obtain⟨y,Y,rfl⟩:=aC.mp h;exact k δ y Y G0 H0 G H σ [] _ R fun v G' H' Z=>q _ Z.keep
def RP{k:Nat}{l:TA}(U:∀δ xs,fs δ=some xs->∀G0 H0 G H σ ts Q,Rw G0 H0 G H σ δ ts->(∀vs G' H',Rw G0 H0 G' H' σ δ (xs.zip vs++ts)->vs.length=xs.length->Q vs H')->l σ H Q) (hz:(fs δ).bind m=some r)(R:Rw G0 H0 G H σ δ [])(T:∀x,r=.inl x->∀v G' H',Rw G0 H0 G' H' σ δ [(x,v)]->Q v H')(M:∀C,r=.inr C->∀G' H',Rw G0 H0 G' H' σ δ []->E' TW none H'):l σ H fun vs I=>FW m (vs++[]) I Q E':=by
 obtain⟨xs,h1,h2⟩:=aA.mp hz;refine U δ _ h1 G0 H0 G H σ [] _ R fun vs G1 I R1 Y=>?_;obtain⟨d,R2⟩:=R1.args Y;refine⟨xs,r,G1,h2,by grind,R2.ins,?_⟩;cases r with
 |inl x=>exact fun v G' H' h3 h4 h5 h6 Z=>T x rfl _ _ _ ((R2.lift h3 h4 h5 h6).put Z)
 |inr C=>exact fun H' h=>M C rfl _ _ (R2.on h)
section
variable{k:Nat}{fA:AD}{fd:F0a}{ps:AAy}{m:rW}{x:Str}{st':Stmt}
abbrev Ec(m:List PD->Option Xr)(fs:Os)(nx:PD->Dv->Ou):EL:=fun δ=>((fs δ).bind m).map fun r=>match r with
 |.inl x=>.inl (nx x δ)
 |.inr C=>.inr C
def qT(T:Fn X.K X.mg x st' ps fA fd)(F:am)(hr:Bh k X.A)(hP:Passes (CO X.prog X.w) X E)(ha:DA X.Eh cr fs) (U:∀ {t},PE X Cl t->PS X (.Expr Cl l) (Ry t)) (hg:Gl X x:=by rfl)(M:Fk=false:=by decide)(he:starEach cr X.env=EQ::starEach es X.env:=by rfl)(I:(backTo pos ON).any Hq=false:=by rfl):DX X E (.Expr Cl l) (Ec m fs fun _ δ=>.nx δ):=by
 obtain⟨ta,Z,ka⟩:=ha;refine⟨_,U (Vn T F hr hg hP (W5 Z) M he I),fun δ r h G0 H0 G H σ D R q=>?_⟩;obtain⟨z,h1,rfl⟩:=aC.mp h;refine RP (k:=k) ka h1 R (fun x hx v G' H' Y=>?_) (fun C hC G' H' Y=>?_)
 .subst hx;exact q _ _ _ Y.drop
 .subst hC;exact q _ Y.keep
def j5(T:Fn X.K X.mg x st' ps fA fd)(F:am)(Z:Bh k X.A)(hP:Passes (CO X.prog X.w) X E) (M:∀ {t},PE X (.Call (.Name x p) [] [] pos) t->PS X (.Expr (.Call (.Name x p) [] [] pos) l) (Ry t))(hg:Gl X x:=by rfl)(I:Fk=false:=by decide):DX X E (.Expr (.Call (.Name x p) [] [] pos) l) (Ec m AB fun _ δ=>.nx δ):=by
 refine⟨_,M (jI F Z hg T.m T.F.kp T.b .nil hP I),fun δ r h G0 H0 G H σ D R q=>?_⟩;obtain⟨z,h1,rfl⟩:=aC.mp h;refine RP (k:=k) (fun δ xs h G0 H0 G H σ ts Q R0 k=>by cases h;exact k [] G H (by simp_all) rfl) h1 R (fun x Y v G' H' U=>?_) (fun C hC G' H' U=>?_)
 .subst Y;exact q _ _ _ U.drop
 .subst hC;exact q _ U.keep
def uX{I l}(T:Fn X.K X.mg x st' ps fA fd)(F:am)(hr:Bh k X.A)(hP:Passes (CO X.prog X.w) X E)(ha:DA X.Eh cr fs) (hN:X.N.Nodup)(M:Loc X.env.scope y)(hi:X.N[i]? = some y:=by rfl)(hg:Gl X x:=by rfl) (Y:Fk=false:=by decide)(he:starEach cr X.env=EQ::starEach es X.env:=by rfl)(U:(backTo pos ON).any Hq=false:=by rfl) (hs:swapsWith Cl (some (.Name y I)) l.line X.env=pure false:=by rfl)(hf:X.fn y=true\/X.env.scope.names.lookup y=some .local:=by first|exact .inl rfl|exact .inr rfl|assumption):DX X E (.Assign [.Name y I] (.Call (.Name x p) (e::es) [] pos) l) (Ec m fs fun z δ=>.nx (δ.set i (.d z))):=by
 obtain⟨ta,pa,ka⟩:=ha;refine⟨_,A0 hN hi M (Vn T F hr hg hP (W5 pa) Y he U) hs hf,fun δ r h G0 H0 G H σ D R q=>?_⟩;obtain⟨z,h1,rfl⟩:=aC.mp h;refine RP (k:=k) ka h1 R (fun x M v G' H' Z=>?_) (fun C hC G' H' Z=>?_)
 .subst M;exact q _ _ _ Z.HL
 .subst hC;exact q _ Z.keep
end
end
def Rw.yC k o (r:Fa):Rw G0 H0 G H (σ.set k o) (δ.set k .no) ts:=by
 have ne:∀j l,l≠.no->(δ.set k .no)[j]? = some l->k≠j/\δ[j]? = some l:=fun j l hl h=>by
  grind
 refine⟨r.ext,r.new,r.ins,r.keep,by simp[r.len],fun j y h=>?_,fun j Z h=>?_,fun j l us ws I T M=>?_,r.BC⟩
 .obtain⟨n,h⟩:=ne j _ By h;obtain⟨w,Y,U⟩:=r.dat j y h;exact⟨w,by rw[List.getElem?_set_ne n];exact Y,U⟩
 .obtain⟨n,h⟩:=ne j _ By h;obtain⟨b,us,Y,U⟩:=r.own j Z h
  grind
 .obtain⟨n1,T⟩:=ne j _ By T;obtain⟨n2,M⟩:=ne l _ By M;rw[List.getElem?_set_ne n1,List.getElem?_set_ne n2];exact r.apart j l us ws I T M
section
variable{X:Cx}{a b:Expr}{f:AAi}{pos:Pos}
def uT(T:AD->Option Bool):PD->Option PD
 |.dict [(.int C,.none)]=>(T C.toNat).map .bool
 |_=>none
abbrev SO(T:AD->Option Bool)(f:L0):Dv->Option PD:=fun δ=>(f δ).bind (uT T)
def J5{p1 l}(hk:∀C b,T C=some b->DN X.K C/\PySem.W.kitOne X.K TW (EB cv)=some b)(hn:EB cv≠.none)(hg:Gl X "isinstance")(hm:X.mg "isinstance" = none)(hT:PE X (.Name M l) (tC cv))(ha:DE X a f) (I:starEach [a,.Name M l] X.env=Sc::starEach [.Name M l] X.env:=by rfl)(Y:(backTo pos (starEach [.Name M l] X.env)).any Hq=false:=by rfl):DE X (.Call (.Name "isinstance" p1) [a,.Name M l] [] pos) (SO T f):=by
 obtain⟨ta,pa,ka⟩:=ha;refine⟨_,EX eW hg hm PyProof.Rows.boot_isinstance (AV pa (AV hT Au) I) AC AC I Y,fun δ z hz G0 H0 G H σ ts Q R0 k=>?_⟩;obtain⟨x,h1,U⟩:=aA.mp hz;unfold uT at U;split at U
 .obtain⟨bb,h3,rfl⟩:=aC.mp U;refine ka δ _ h1 G0 H0 G H σ ts _ R0 fun u G1 H1 R1=>?_;rcases(R1.BC _ Da) with ⟨ea,C',Z,rfl,h4⟩|⟨_,_,Z,_⟩|z
  rotate_left
  .simp at Z
  .cases z.1
  have:=by simpa using Z
  subst this;obtain⟨k1,k2⟩:=hk _ _ h3;exact⟨ea,C',cv,bb,rfl,hn,R1.ins _ _ h4,k1,k2,k _ _ _ (R1.drop.put (by rw[Du]))⟩
 .cases U
end
def D7(ps N:AAy)(J:EL)(ds:AAl):Option Xr:=if ds.length=ps.length then(match J (Gp N ds) with
 |some (.inl (.rt x))=>some (.inl x)
 |some (.inl (.nx _))=>some (.inl .none)
 |some (.inl (.rn xs))=>some (.inl (.list xs))
 |some (.inr C)=>some (.inr C)
 |_=>none) else none
section
variable{P:F0b}{w:F0c}{K:Fg}{mg:AAs}{base:Heap}{x:Str}{st:Stmt}{fA:AD}{fd:F0a}{N ps:AAy}{k:Nat}
def yB : Lets (B5 (CO P w) P w K mg base N qual scope fA T A outer s H E) E:=fun _ _ _ _ _ _ _ _ I l M=>qy I l M
def VU:Passes (CO P w) (B5 (CO P w) P w K mg base N qual scope fA l A outer s H E) E:=xP fun _ _ _ z=>z
def okX(T:Fn K mg x st ps fA fd)(S:BQ N ps (AW st)) (hb:∀cdv A outer s H E,Bh k IS->M9 (B5 (CO P w) P w K mg base N x (AW st) fA cdv A outer s H E) E (CB st) J):Af P w K mg base (CO P w) (k+1) fA fd ps (FW (D7 ps N J)):=by
 refine T.F.okW S On fun cdv A outer s H vs Q E hr h=>?_
 .obtain⟨ds,y,G,l,M,_⟩:=h;unfold D7 at l;split at l
  .rename_i hl;rw[M.len];exact hl
  .cases l
 .obtain⟨ds,y,G,l,M,Y,Z⟩:=h;obtain⟨t,p,U⟩:=hb cdv A outer s H E hr;refine⟨t,p,?_⟩;unfold D7 at l;split at l
  .split at l
   .rename_i z I;exact U _ _ I G H G H _ _ (Rw.start M Y) fun v G' H' m1 m2 m3 m4 m5=>by grind
   .rename_i δ I;cases l;exact U _ _ I G H G H _ _ (Rw.start M Y) fun σ' G' H' R=>Z .BV G' H' R.ext R.new R.ins R.keep (by rw[Du])
   .rename_i xs I;cases l;exact U _ _ I G H G H _ _ (Rw.start M Y) fun a ys G' H' m1 m2 m3 m4 m5 m6 m7 m8=>let⟨n1,n2,n3,n4⟩:=md m1 m2 m3 m5 m6 m7 m8;Z _ _ H' n1 n2 n3 m4 n4
   .rename_i C I;cases l;exact U _ _ I G H G H _ _ (Rw.start M Y) Z
   .cases l
  .cases l
def Af.to0(F:Af P w K mg base (CO P w) k fA fd ps sp)(h:∀vs H Q E,l vs H Q E->sp vs H Q fun _ _ _=>False):Af P w K mg base Ac k fA fd ps l :=
 ⟨fun vs H Q E z=>F.len _ _ _ _ (h _ _ _ _ z),fun A outer s H args us vs Q E T U hb I M=>codeAny_mono (F.run A outer s H args us vs Q _ T U hb I (h _ _ _ _ M)) fun r s' z=>by
  cases r with
  |ok fl=>cases fl<;>exact z
  |error e=>obtain⟨_,_,_,_,_,_,_,z⟩:=z;lia⟩
def good(m:rW)(ds:AAl):AAt:=match m ds with
 |some (.inl x)=>some x
 |_=>none
def xD(F:Af P w K mg base (CO P w) k fA fd ps (FW m)):Af P w K mg base Ac k fA fd ps (Aw (good m)):=F.to0 fun vs H Q E z=>by
 obtain⟨ds,x,G,l,T,M,I⟩:=z;unfold good at l;split at l
 .rename_i y e;cases l;exact⟨ds,.inl x,G,e,T,M,I⟩
 lia
end
abbrev HS(fs:Os):DF:=fun δ=>(fs δ).map .rn
abbrev GZ(i:Nat):DF:=fun δ=>(ow i δ).map .rn
section
variable{X:Cx}{a:Expr}{h:AAi}{pos:Pos}
def qx(Y:PE X Iv (HV i)):DS X (.Return (some Iv) pos) (GZ i):=by
 refine⟨_,Ds Y,fun δ r h G0 H0 G H σ D R q=>?_⟩;obtain⟨xs,Z,rfl⟩:=aC.mp h;obtain⟨a,_,U,T,M,I,⟨ys,rfl,l⟩⟩:=R.own i _ (Og Z);exact⟨.ref a,U,q a ys G H R.ext R.new R.ins R.keep M T I l⟩
end
section
variable{X:Cx}{tg elt iter:Expr}{pos:Pos}{ifs:AA0}{scope:Scope}{fs:AAh}{tif:AAk}{f:AAi}{fr:ABK}{set:To}{cl:AAh}
 (hc:RS set tif f fr fs (kF tg) cl)(ht:iI X scope (LL X tg fr) tg set)(hi:DI X tg iter fs)(hif:∀cl C s₀ H₀ fp,gT (BN X scope cl (LL X tg fr) C s₀ H₀ fp) ifs tif)(he:∀cl C s₀ H₀ fp,DE (BN X scope cl (LL X tg fr) C s₀ H₀ fp) elt f)
 (h2:Rs)(h3:JC (LL X tg fr) X.N scope X.env.scope fr 0=true)(h4:fr.length=(LL X tg fr).length)(h5:freeOk X.env.scope scope.names=true)(hs:∀x,foldedSetIterable iter X.env x=pure x)
include hc ht hi hif he h2 h3 h4 h5 hs
theorem pj:DS X (.Return (some SZ) I) (HS cl):=by
 obtain⟨t,p,kt⟩:=Yt hc ht hi hif he h2 h3 h4 h5 hs;refine⟨_,Ds p,fun δ r h G0 H0 G H σ D R q=>?_⟩;obtain⟨M,Y,rfl⟩:=aC.mp h;exact kt δ M Y G0 H0 G H σ [] _ R fun D' ys G' H' l n1 U n3 Z T=>q _ _ _ _ l.ext l.new l.ins l.keep n3 U n1 T
end
def Po(ps N:AAy)(F:DF)(ds:AAl):AAg:=if ds.length=ps.length then(match F (Gp N ds) with
 |some (.rn xs)=>some xs
 |_=>none) else none
section
variable{P:F0b}{w:F0c}{K:Fg}{mg:AAs}{base:Heap}{x:Str}{st:Stmt}{fA:AD}{fd:F0a}{N ps:AAy}{k:Nat}
def okN(T:Fn K mg x st ps fA fd)(S:BQ N ps (AW st)) (hb:∀cdv A outer s H E,Bh k IS->KO (B5 Ac P w K mg base N x (AW st) fA cdv A outer s H E).Eh (CB st) F):Af P w K mg base Ac (k+1) fA fd ps (mS (Po ps N F)):=by
 refine T.F.ok S On fun cdv A outer s H vs Q E U h=>?_
 .obtain⟨ds,y,G,l,I,_⟩:=h;unfold Po at l;split at l
  .rename_i Y;rw[I.len];exact Y
  lia
 .obtain⟨ds,y,G,l,I,h3,Z⟩:=h;obtain⟨t,p,M⟩:=hb cdv A outer s H E U;refine⟨t,p,?_⟩;unfold Po at l;split at l
  .split at l
   .rename_i z e1;cases l;exact M _ _ e1 G H G H _ _ (Rw.start I h3) Z
   lia
  lia
def qt(l:ds.length=ps.length)(h:F (Gp N ds)=some (.rn xs)):Po ps N F ds=some xs:=by unfold Po;lia
def ED(l:ds.length=ps.length)(h:F (Gp N ds)=some (.rn xs)):Av ps N F ds=some (.list xs):=by unfold Av;lia
def pW(l:ds.length=ps.length)(h:J (Gp N ds)=some (.inl (.rt y))):D7 ps N J ds=some (.inl y):=by unfold D7;lia
def Y7(l:ds.length=ps.length)(h:J (Gp N ds)=some (.inl (.nx δ))):D7 ps N J ds=some (.inl .none):=by unfold D7;lia
def pJ(l:ds.length=ps.length)(h:J (Gp N ds)=some (.inl (.rn xs))):D7 ps N J ds=some (.inl (.list xs)):=by unfold D7;lia
def Gv(l:ds.length=ps.length)(h:J (Gp N ds)=some (.inr C)):D7 ps N J ds=some (.inr C):=by unfold D7;lia
end
section
variable{J1 J2:EL}{δ δ':Dv}{r:Option Y1}{c:AAk}{fs:AAh}{m:rW}{ds xs:AAl}{f:AAi}{fr:ABK}{g:PD->PD}
def IP(h:J1 δ=some (.inl bi))(k:J2 δ'=r):B3 J1 J2 δ=r:=by unfold B3;lia
def LQ(h:J1 δ=some (.inr C)):B3 J1 J2 δ=some (.inr C):=by unfold B3;rw[h]
def Z4(h:c δ=some true)(k:J1 δ=r):Qo c J1 J2 δ=r:=by grind
def mi(h:c δ=some false)(k:J2 δ=r):Qo c J1 J2 δ=r:=by grind
def Dw(h:fs δ=some ds)(k:m ds=some (.inl y)):Ec m fs nx δ=some (.inl (nx y δ)):=by grind
def Gn(h:fs δ=some ds)(k:m ds=some (.inr C)):Ec m fs nx δ=some (.inr C):=by grind
def iD(l:fs δ=some xs)(I:xs.length<=A6)(h:∀x∈xs,f ((BK fr δ).set ix (.d x))=some (g x)):Bn (CP ix) BX f fr fs δ=some (xs.map g):=by
 have:=comp_map l I h
 simp_all
end
def only(cs:ABF)(m:rW)(ds:AAl):Option Xr:=match m ds with
 |some (.inr C)=>if C∈cs then some (.inr C) else none
 |r=>r
def Zu(h:only cs m ds=some (.inr C)):C∈cs:=by
 unfold only at h
 lia
def Le(h:m ds=some (.inr C))(l:C∈cs):only cs m ds=some (.inr C):=by unfold only;lia
def Zq(h:m ds=some (.inl x)):only cs m ds=some (.inl x):=by unfold only;rw[h]
def Xi{K} cs (F:Af P w K mg base CX k f fd ps (FW m)):Af P w K mg base CX k f fd ps (FW (only cs m)) :=
 F.imp fun vs H Q E z=>by
  obtain⟨ds,r,G,I,l⟩:=z;refine⟨ds,r,G,?_,l⟩;unfold only at I
  lia
section
variable{xs:AAl}
def add_l(h:a.length+b.length<=A6):Aq (.list a) (.list b)=some (.list (a++b)):=by
 show(match WN _ _ with|some z=>some z|none=>_)=_;rw[(show WN (.list a) (.list b)=some _ from if_pos h)]
def sf xs (p:Nat):cutD xs none (some p)=xs.take p:=by
 unfold cutD;rw[HT.Ly,HT.Ja];simp
def X4 xs (p:Nat):cutD xs (some p) none=xs.drop p:=by
 unfold cutD;rw[HT.Ly,HT.Ja];by_cases h:p<=xs.length
 .rw[Nat.min_eq_left h,List.take_of_length_le By]
 .rw[Nat.min_eq_right AS,Nat.sub_self,List.take_zero,List.drop_of_length_le AS]
end
section
variable{F F1 F2:DF}{δ δ':Dv}{fs:AAh}{xs:AAl}{set:To}{r:Option Ou}
def JU{Q:Dv->Prop}(h:F1 δ=some bi)(k:∃l,F2 δ'=some (.nx l)/\Q l):∃l,AL F1 F2 δ=some (.nx l)/\Q l:=let⟨l,a,b⟩:=k;⟨l,AO h a,b⟩
def Qm(M:Nat->Dv->Prop)(T:fs δ=some xs)(h0:M 0 δ)(U:∀i x δ,xs[i]? = some x->M i δ->∃I,set x δ=some I/\∃l,F I=some (.nx l)/\M SB l):∃δ',BM fs set F δ=some bi/\M xs.length δ':=lW M T h0 fun i x δ a b=>by grind
def IA(M:Nat->Dv->Prop)(T:fs δ=some xs)(h0:M 0 δ)(U:∀i x δ,xs[i]? = some x->M i δ->∃I,set x δ=some I/\∃l,F I=some (.nx l)/\M SB l) (k:∀δ',M xs.length δ'->F2 δ'=r):AL (BM fs set F) F2 δ=r:=let⟨δ',Z,Y⟩:=Qm M T h0 U;AO Z (k δ' Y)
def F7{Q:Dv->Prop}(M:Nat->Dv->Prop)(T:fs δ=some xs)(h0:M 0 δ)(U:∀i x δ,xs[i]? = some x->M i δ->∃I,set x δ=some I/\∃l,F I=some (.nx l)/\M SB l)(Y:∀δ,M xs.length δ->Q δ):∃δ',BM fs set F δ=some bi/\Q δ':=let⟨δ',a,b⟩:=Qm M T h0 U;⟨δ',a,Y _ b⟩
def rJ(h:f δ=some x)(k:JT x=some xs):A5 f δ=some xs:=by grind
end
abbrev Yw:=List PD ⊕ AD
structure oH(X:Cx)(E:XK)(e:Expr)(f:Dv->Option Xr):Prop where
 ex:∃t,PE X e t/\∀δ r,f δ=some r->∀G0 H0 G H σ ts (Q:VK),Rw G0 H0 G H σ δ ts->(∀x,r=.inl x->∀v G' H',Rw G0 H0 G' H' σ δ ((x,v)::ts)->Q v H')->(∀C,r=.inr C->∀H',AI H0 H'->E TW none H')->t σ H Q
structure iP(X:Cx)(E:XK)(es:List Expr)(f:Dv->Option Yw):Prop where
 ex:∃t,PA X es t/\∀δ r,f δ=some r->∀G0 H0 G H σ ts (Q:List V->Hp->Prop),Rw G0 H0 G H σ δ ts->(∀xs,r=.inl xs->∀vs G' H',Rw G0 H0 G' H' σ δ (xs.zip vs++ts)->vs.length=xs.length->Q vs H')->(∀C,r=.inr C->∀H',AI H0 H'->E TW none H')->t σ H Q
section
variable{X:Cx}{E:XK}{e:Expr}{es:AA0}{f:AAi}{fx:Dv->Option Xr}{gx:Dv->Option Yw}{fs:AAh}{pos p:Pos}
abbrev wH(f:Os):Dv->Option Yw:=fun δ=>(f δ).map .inl
def v8(h:DA X.Eh es fs):iP X E es (wH fs):=by
 obtain⟨t,p,k⟩:=h;refine⟨t,W5 p,fun δ r h G0 H0 G H σ ts Q R I l=>?_⟩;obtain⟨o,M,rfl⟩:=aC.mp h
 grind
def cQ(fx:Dv->Option Xr)(gx:Dv->Option Yw)(δ:Dv):Option Yw:=match fx δ with
 |some (.inl x)=>(match gx δ with
  |some (.inl xs)=>some (.inl (x::xs))
  |some (.inr C)=>some (.inr C)
  |none=>none)
 |some (.inr C)=>some (.inr C)
 |none=>none
def kE(ha:oH X E e fx)(hr:iP X E es gx)(hs:starEach cr X.env=EQ::starEach es X.env:=by rfl):iP X E cr (cQ fx gx):=by
 obtain⟨ta,pa,U⟩:=ha;obtain⟨tr,pr,kr⟩:=hr;refine⟨_,AV pa pr hs,fun δ r l G0 H0 G H σ ts Q R Z T=>?_⟩;unfold cQ at l;cases hf:fx δ with
 |none=>rw[hf]at l;cases l
 |some u=>
  rw[hf]at l;cases u with
  |inr C=>
   cases l;exact U δ _ hf G0 H0 G H σ ts _ R (fun x Y=>by cases Y) fun C' I=>by cases I;exact T C rfl
  |inl x=>
   refine U δ _ hf G0 H0 G H σ ts _ R (fun x' Y v G1 H1 R1=>?_) (fun C I=>by cases I);cases hg:gx δ with
   |none=>rw[hg]at l;cases l
   |some w=>
    rw[hg]at l;refine kr δ _ hg G0 H0 G1 H1 σ _ _ R1 (fun xs M vs G2 H2 R2 hl=>?_) (fun C I H' h'=>?_)
    .subst M;cases l;refine Z _ rfl _ G2 H2 (R2.less fun q hq=>?_) (by simp[hl]);simp at hq ⊢
     lia
    .subst I;cases l;exact T C rfl H' h'
def cX(gx:Dv->Option Yw)(m:rW)(δ:Dv):Option Xr:=match gx δ with
 |some (.inl xs)=>m xs
 |some (.inr C)=>some (.inr C)
 |none=>none
def k9(T:Fn X.K X.mg x st' ps fA fd)(F:am)(hr:Bh k X.A)(hP:Passes (CO X.prog X.w) X E)(ha:iP X E cr gx) (hg:Gl X x:=by rfl)(U:Fk=false:=by decide)(he:starEach cr X.env=EQ::starEach es X.env:=by rfl)(M:(backTo pos ON).any Hq=false:=by rfl):oH X E Cl (cX gx m):=by
 obtain⟨ta,pa,ka⟩:=ha;refine⟨_,Vn T F hr hg hP pa U he M,fun δ r l G0 H0 G H σ ts Q R Z Y=>?_⟩;unfold cX at l;cases hg:gx δ with
 |none=>lia
 |some w=>
  rw[hg]at l;refine ka δ _ hg G0 H0 G H σ ts _ R (fun xs I vs G1 H1 R1 hv=>?_) (fun C hC H' h'=>?_)
  .subst I;obtain⟨d,R2⟩:=R1.args hv;refine⟨xs,r,G1,l,by grind,R2.ins,?_⟩;cases r with
   |inl y=>exact fun v G' H' h3 h4 h5 h6 h7=>Z y rfl _ _ _ ((R2.lift h3 h4 h5 h6).put h7)
   |inr C=>exact fun H' h=>Y C rfl H' (R2.keep.trans h)
  grind
abbrev xE(fx:Dv->Option Xr)(nx:PD->Dv->Ou):EL:=fun δ=>(fx δ).map fun r=>match r with
 |.inl x=>.inl (nx x δ)
 |.inr C=>.inr C
def oO{l}(T:oH X E e fx)(U:X.N.Nodup)(I:Loc X.env.scope y)(hi:X.N[i]? = some y:=by rfl)(M:swapsWith e (some (.Name y l)) pos.line X.env=pure false:=by rfl)(hf:X.fn y=true\/X.env.scope.names.lookup y=some .local:=by first|exact .inl rfl|exact .inr rfl|assumption):DX X E (.Assign [.Name y l] e pos) (xE fx fun x δ=>.nx (δ.set i (.d x))):=by
 obtain⟨t,p,k⟩:=T;refine⟨_,A0 U hi I p M hf,fun δ r h G0 H0 G H σ D R q=>?_⟩;obtain⟨z,Z,rfl⟩:=aC.mp h;refine k δ z Z G0 H0 G H σ [] _ R (fun x I v G' H' R'=>?_) (fun C Y H' h'=>?_)
 .subst I;exact q _ _ _ R'.HL
 .subst Y;exact q _ h'
end
def J8(set:To)(J:EL):List PD->Dv->Option Y1
 |[],δ=>some (.inl (.nx δ))
 |x::xs,δ=>match (set x δ).bind J with
  |some (.inl (.nx δ'))=>J8 set J xs δ'
  |some (.inl (.ct δ'))=>J8 set J xs δ'
  |some (.inl (.bk δ'))=>some (.inl bi)
  |some (.inl (.rt v))=>some (.inl (.rt v))
  |some (.inl (.rn v))=>some (.inl (.rn v))
  |some (.inr C)=>some (.inr C)
  |none=>none
abbrev a6(fs:Os)(set:To)(J:EL):EL:=fun δ=>(fs δ).bind fun xs=>J8 set J xs δ
def ue{X:Cx}{E:XK}{tg e:Expr}{sts:ABG}{pos:Pos}{J:EL}{set}(hp:PassesOwn B7 X.A X.env X.xe)(hc:Rs)(hi:DI X tg e fs)(hg:DG X tg set)(hb:M9 X E sts J)(hs:∀x,foldedSetIterable e X.env x=pure x:=by intro _;rfl):DX X E (.For tg e sts [] pos) (a6 fs set J):=by
 obtain⟨wi,pi,ki⟩:=hi;obtain⟨g,pg,kg⟩:=hg;obtain⟨tb,pb,kb⟩:=hb;refine⟨_,Jx hp hc pi pg pb hs,fun δ r h G0 H0 G H σ D R q=>?_⟩;obtain⟨xs,h1,h2⟩:=aA.mp h;refine ki δ xs h1 G0 H0 G H σ [] _ R fun J' Ga Ha Ra it=>?_;refine⟨fun i m σ' H'=>m=xs.length-i/\i<=xs.length/\∃δ' G',J8 set J (xs.drop i) δ'=some r/\Rw G0 H0 G' H' σ' δ' []/\AI Ga G',⟨xs.length,by simp,Nat.zero_le _,δ,Ga,by simpa using h2,Ra,AI.refl _⟩,?_⟩;rintro i m σ1 H1 ⟨rfl,hi,δ1,G1,f1,R1,s1⟩;have sH:AI Ga H1:=s1.trans R1.ins;by_cases I:i<xs.length
 .right
  have hx:xs[i]? = some xs[i]:=by simp[I]
  refine⟨it.go i _ H1 hx sH,fun σ' H'=>i+1<=xs.length/\∃δ' G',J8 set J (xs.drop SB) δ'=some r/\Rw G0 H0 G' H' σ' δ' []/\AI Ga G',fun σ' H' n=>⟨xs.length-SB,by lia,rfl,n⟩,fun x H' y=>?_⟩;obtain⟨G2,e1,e2,e3,e4,e5⟩:=it.E6 i _ H1 x H' hx sH y G1 s1 R1.ins;have R2:=(R1.lift e1 e2 e3 e4).put e5;have s2:=s1.trans e1;rw[List.drop_eq_getElem_cons I]at f1;unfold J8 at f1;cases U:(set xs[i] δ1).bind J with
  |none=>rw[U]at f1;cases f1
  |some o=>
   obtain⟨δ2,k1,k2⟩:=aA.mp U;rw[U]at f1;have R2b:=R2.base;refine kg δ1 _ δ2 k1 G2 H0 G2 H' σ1 x _ R2b fun σ3 G3 H3 R3=>?_;refine kb δ2 o k2 G2 H0 G3 H3 σ3 _ R3 ?_;cases o with
   |inr C=>cases f1;exact q
   |inl o=>
    cases o with
    |nx l=>exact fun T M Z Y=>⟨I,l,M,f1,R2.drop.Lg Y,s2.trans Y.ext⟩
    |ct l=>exact fun T M Z Y=>⟨I,l,M,f1,R2.drop.Lg Y,s2.trans Y.ext⟩
    |bk l=>cases f1;exact fun T M Z Y=>q T M Z (R2.drop.Lg Y)
    |rt v=>cases f1;exact fun w M Z h1 h2 h3 h4 h5=>q w M Z (R2.ext.trans h1) (R2.new.trans h2) h3 h4 h5
    |rn v=>cases f1;exact fun w ys M Z h1 h2=>q w ys M Z (R2.ext.trans h1) (R2.new.trans h2)
 .left
  have e:i=xs.length:=by lia
  subst e;refine⟨it.stop H1 sH,?_⟩;rw[List.drop_length]at f1;cases f1;exact q _ _ _ R1
end L2
namespace L2
open PySem PySem.Spec PyProof.Rows
inductive XT(X:Cx)(C ea:Addr)(k:Nat):List ExceptHandler->TS->Prop
 |hit {x n:Str} {G:Addr} {np hpos:Pos} {b0:Stmt} {suite:List Stmt} {rest:List ExceptHandler} {t:TS} (hg:Gl X x) (hm:X.mg x=some (.ref G)) (hd:(x==("__debug__" : Str))=false) (hB:El X.K C G true) (hk:X.N[k]? = some n) (hln:X.env.scope.names.lookup n=some .local) (hb:HC (X.held ea) (b0::suite) t) :
   XT X C ea k (.ExceptHandler (some Iv) (some n) (b0::suite) hpos::rest) t
 |miss {x n:Str} {G:Addr} {np hpos:Pos} {b0:Stmt} {suite:List Stmt} {rest:List ExceptHandler} {t:TS} (hg:Gl X x) (hm:X.mg x=some (.ref G)) (hd:(x==("__debug__" : Str))=false) (hB:El X.K C G false) (r:XT X C ea k rest t) :
   XT X C ea k (.ExceptHandler (some Iv) (some n) (b0::suite) hpos::rest) t
def a9(D:Ends)(k:Nat):Ends:={ nx:=fun σ' l=>D.nx (σ'.set k none) l,rt:=fun _ _=>False}
section
variable{X:Cx}{pins:LT}{σ:St}{D:Ends}
def i5{s0 s1:SD}{ea C:AD}{a0:VL}{B:Heap}{k:Nat}{h5:Heap}(hN:X.N.Nodup)(hcalm:Rs)(I:Inv X pins σ H0 s0)(F:bc X.prog X.w X.stack H0 s0 ea TW a0 H' s1 B){l}(hrest:X.stack=X.env::l)(hfr:X.env.frame=some X.env.locals) (fl5:Heap.FlyingW B (X.env::l) ea TW a0 h5)(U:s1.heap.UpToSlots h5)(I5:Inv X pins σ H' {s1 with heap:=h5,toks:=s1.toks}):∀ {hs} {t:TS},XT X C ea k hs t->(H' ea=none->t (a9 D k) (σ.set k (some (.ref ea))) (upd H' ea (Sh ea TW)))->wpAny B7 X.A (handleBy (.ref ea) X.env hs) (SP X pins D) X.xe {s1 with heap:=h5,toks:=s1.toks}:=by
 obtain⟨ob,Y,M⟩:=fl5.there;intro hs t Ae q
 induction Ae with
 |miss hg hm hd hB r ih=>
  exact wpAny_handleBy_cons (codeAny_handlers_test (IH (I5.held ea) hg hm (Wy (K:=X.K) I5.Fb Y M hB (ih q)) hd)) (by intro q;cases q)
 | @hit x n G np hpos b0 suite rest t hg hm hd hB hk hln hb=>
  refine wpAny_handleBy_cons (codeAny_handlers_test (IH (I5.held ea) hg hm (Wy (K:=X.K) I5.Fb Y M hB (codeAny_handlers_suite_as (lands_againW fl5 fun h6 Z up6=>?_))) hd)) (by intro q;cases q);obtain⟨oe,ws,e1,e2,e3,_⟩:=Z.first
  obtain⟨T,I7⟩:=yL I F (land I F Z.1 (U.trans up6)) ⟨oe,ws,e1,e2,e3⟩;refine J4 (X:=X.held ea) (I7.held ea) hN hk (.inl hln) (v:=.ref ea) rfl (fun s8 I8=>aU (hb pins s8 _ _ (a9 D k) I8 (q T)) (fun fl s9 h9=>?_) fun _ _ z=>z.elim) (.inr hln);cases fl with
  |next=>
   obtain⟨σ9,H9,I9,e9⟩:=h9;exact z9 (I9.tQ I.ok) hN hk hln fun s' I'=>⟨_,_,I',e9⟩
  |brk=>obtain⟨_,_,_,z⟩:=h9;exact z.elim
  |cont=>obtain⟨_,_,_,z⟩:=h9;exact z.elim
  |ret v=>obtain⟨_,_,_,_,_,z⟩:=h9;exact z.elim
end
def AAF(k:Nat):Ou->Option Ou
 |.nx δ=>some (.nx (δ.set k .no))
 |_=>none
def eF(ns:AAx):(ns.map V.int).all JO=true:=by
 rw[List.all_eq_true];intro x l;obtain⟨i,_,rfl⟩:=aI.mp l
 rfl
theorem WU i:∀ns:List Int,nZ (.int i) (ns.map V.int)=ns.contains i
 |[]=>rfl
 |n::ns=>by
  have l:=WU i ns;unfold nZ at l ⊢;rw[(BR),List.any_cons]
  congr 1
  show(n==i)=_
  lia
def GT(H:Hp)(v:VL)(x:Tr):Prop:=∃a ys,v=.ref a/\H a=some (.tup ys)/\Ts H x ys
def vw(S:AD)(ev:Array (Int×VL))(ep:Nat)(t:SetTable):HO:=.ext fun h=>∃o,h.get? S=some o/\o.ExactSet/\o.data=.set ev ep t
abbrev uH(H:Hp)(p:Int×VL)(q:Int×Tr):Prop:=p.1=q.1/\q.2.deep<8/\GT H p.2 q.2
def ji(H:Hp)(S:AD)(st:TH.ES×SetTable):Prop:=∃ev ep,H S=some (vw S ev ep st.2)/\PySem.Paired (uH H) ev.toList st.1.toList
def GT.same(h:GT H v x)(e:AI H H'):GT H' v x:=let⟨a,ys,M,I,l⟩:=h;⟨a,ys,M,e _ _ I,l.same e⟩
structure nz(w:World)(st:TH.ES×SetTable):Prop where
 fit:st.2.fits st.1.size=true
 plain:st.2.plain=true
 led:st.2.led=!w.params.followText "set-order"
 walk:TH.RB st.2 st.1.size=true
 small:st.1.size<64
section
variable{X:Cx}{pins:LT}{σ:St}{H:Hp}{s:SD}
def fS(I:BE)(g:GT H v x):∃a l,v=.ref a/\s.heap.IsTuple a l.toArray/\TH.Vs s.heap x l:=by
 obtain⟨a,ys,rfl,T,M⟩:=g;obtain⟨l,r,p,_⟩:=I.tuple (A4.of T);exact⟨a,l,rfl,p,M.vs I r⟩
theorem Xm(I:BE):∀ {t} {ys} {us},Ts H t ys->Vals ys us->t.deep<=8->TH.Jc (GT H) s.heap us t.bs
 |.nil,ys,us,h,r,_=>by
  subst h;cases r;exact .nil
 |.cons b q,ys,us,h,r,hd=>by
  obtain⟨a,l,rest,rfl,Z,Y,U⟩:=h;rw[Tr.deep]at hd;cases r with
  |cons T M=>
   cases T;have g:GT H _ b:=⟨a,l,rfl,Z,Y⟩;exact .cons ⟨by lia,g,fS I g⟩ (Xm I U M AS)
def lR(I:BE)(h:PySem.Paired (uH H) l m):PySem.Paired (TH.Ww (GT H) s.heap) l m :=
 TH.Paired.imp (fun _ _ ⟨a,b,c⟩=>⟨a,b,c,fS I c⟩) h
theorem vg:∀ {us} {ts},PySem.Paired (GT H) us ts->∃zs,Vals zs us/\Ts H (Tr.of ts) zs
 |_,_,.nil=>⟨[],.nil,by rfl⟩
 |_,_,.cons ⟨a,ys,e,T,M⟩ r=>by
  obtain⟨zs,I,l⟩:=vg r;subst e;exact⟨.ref a::zs,.cons rfl I,⟨a,ys,zs,rfl,T,M,l⟩⟩
def wa(w:F0c)(K:Fg):List V->Hp->VK->Prop:=fun xs H Q=>∃p ys t st,xs=[.ref p]/\Am K H p ys/\Ts H t ys/\t.deep<=8/\TH.Nb (TH.LU (!w.params.followText "set-order")) t.bs=some st /\
 ∀S H',AI H H'->ji H' S st->Q (.ref S) H'
def gU(hc:Rs)(hu:IR):C6 X (.type "set") (wa X.w X.K):=by
 rintro pins s σ H xs us Q I r ⟨p,ys,t,st,rfl,hq,ht,hd,l,q⟩;obtain⟨u,rfl,U⟩:=r.one;cases U;obtain⟨its,T,Y,hz⟩:=I.list hq;refine TH.YX (I.ok.hd hc) Y.isList (Xm I ht T hd) AS l fun h2 tk S2 Z=>?_;obtain⟨o,ev,ep,M,g2,g3,g4⟩:=S2;have es:=Aj (I.Ae.fresh (aG s.heap.objs.size)) (vw s.heap.objs.size ev ep st.2);refine⟨.ref s.heap.objs.size,upd H s.heap.objs.size _,I.laid Z M0 ?_,rfl,q _ _ es ⟨ev,ep,AR,TH.Paired.imp (fun _ _ ⟨a,b,c,_⟩=>⟨a,b,c.same es⟩) g4⟩⟩;exact⟨⟨o,M,g2,g3⟩,⟨o,M⟩,fun h1 h2 _ k=>by grind⟩
def oU(I:BE){st}(h:ji H S st)(ok:nz X.w st):∃o ev ep,s.heap.get? S=some o/\TH.FA X.w o ev ep st.2/\TH.DP (GT H) s.heap ev st.1:=by
 obtain⟨ev,ep,T,M⟩:=h;obtain⟨⟨o,Z,Y,U⟩,_,_⟩:=(I.Ae S _ T);have R:=lR I M;have l:=TH.DP.size R;exact⟨o,ev,ep,Z,⟨Y,U,by rw[l];exact ok.fit,ok.plain,ok.led,by rw[l];exact ok.walk⟩,R⟩
def sP(w:F0c):List V->Hp->VK->Prop:=fun xs H Q=>∃S st,xs=[.ref S]/\ji H S st/\nz w st/\∀l I,H l=none->I.length<64->Ts H (Tr.of (Tr.GV (TH.Qv st)).reverse) I->Q (.ref l) (upd H l (.lst I))
def bz(hc:Rs)(hu:IR):C6 X (.builtin "sorted") (sP X.w):=by
 rintro pins s σ H xs us Q I r ⟨S,st,rfl,hS,ok,q⟩;obtain⟨u,rfl,l⟩:=r.one;cases l;obtain⟨o,ev,ep,g1,W,R⟩:=oU I hS ok;refine TH.Z8 (I.ok.hd hc) W g1 R ok.small AS fun h' D tk e1 us U Z gD hp hl=>?_;obtain⟨M,l,Y⟩:=vg hp;have T:M.length<64:=by rw[l.length];lia
 refine⟨.ref D,upd H D (.lst M),I.laid Z U ⟨ay (aD T AC),us,e1,l,gD⟩,rfl,q D M (I.Ae.fresh U) T Y⟩
end
open PySem PyProof.Rows
section
variable{prog:F0b}{w:F0c}{A:F0d}{E:AAo}{s:SD}
def rG{k:Int}{t:Tok}{Q}(xs:AAn) f
    (hf:∀i y st,xs.toArray[i]? = some y->f i st=(do
      let b <-eqBool y (.int k t)
      if b=true then do
          let r <-retInt ↑i
          pure (ForInStep.done (some r,()))
        else pure (ForInStep.yield (none,())))):∀ {vs:AAn} {ns:AAx},IntsAre vs ns->∀(pre:AAn),pre++vs=xs->k∈ns ->
    (∀t' s',s'={s with toks:=s'.toks}->s.toks<=s'.toks->Q (some (.done (.ret (.int ((pre.length+ns.idxOf k:Nat):Int) t'))),()) s') ->
    wpAny As A (forIn (List.range' pre.length vs.length) (none,()) f) Q E s:=by
  intro vs ns hi
  induction hi with
  |nil=>intro _ _ hk;cases hk
  | @cons n u vs ns r ih=>
    intro pre hx hk h
    rw[(Gm),List.range'_succ,List.forIn_cons]
    refine Wb ?_
    rw[hf pre.length (.int n u) _ (by rw[<-hx];simp)]
    refine Wb (wpAny_eqBool_int ?_)
    by_cases z:n=k
    . subst z
      rw[if_pos By]
      refine Wb ?_
      refine Wb (wpAny_mkInt ar)
      refine aB ar
      have:=h s.toks {s with toks:=s.toks+1} rfl (Nat.le_succ _)
      rw[List.idxOf_cons_self]at this
      exact this
    . rw[if_neg (by simpa using z)]
      refine aB ?_
      have:=ih (pre++[.int n u]) (by rw[<-hx,List.append_assoc];rfl) ((aO.mp hk).resolve_left fun e=>z e.symm) (fun t' s' e1 e2=>by
        have:=h t' s' e1 e2
        rw[List.idxOf_cons,show(n==k)=false by simpa using z]at this
        rw[(Ck),(Wh),Nat.add_assoc,Nat.add_comm 1]
        exact this)
      rw[(Ck),(Wh)]at this
      exact this
def Pf(I:IsTup s.heap l vs.toArray)(hi:IntsAre vs ns) (hk:k∈ns)(h:∀t' s',s'={s with toks:=s'.toks}->s.toks<=s'.toks->Q (.int (ns.idxOf k) t') s'):wpAny As A (call (.builtin "tuple.index") [.ref l,.int k t]) Q E s:=by
 refine aT F.slot_tuple_index I.typeIs F.entry_tuple_index (Wb (aB (Wb (tupleItemsOf_ I (Wb (aB (Wb (aB (Wb ?_))))))))) (F.args_tuple_index_2 _ _);rw[Nat.min_self,Std.Legacy.Range.forIn_eq_forIn_range',(show Std.Legacy.Range.size [0:vs.toArray.size]=vs.length by simp)];refine rG (t:=t) vs _ (fun i y st e=>by lia) hi [] rfl hk (fun t' s' T M=>aB ⟨_,rfl,?_⟩)
 grind
end
end L2
namespace L2
open PySem PySem.Spec PyProof.Rows
def rH(K:Fg):V->List V->Hp->VK->Prop:=fun x xs H Q=>∃(p:AD) (ns:List Int) (k:Int),x=.ref p/\xs=[.int k]/\A4 K H p (List.map V.int ns)/\k∈ns/\Q (.int (ns.idxOf k)) H
structure Own(K:Fg)(a:Addr)(ns:List Int):Prop where
 sq:∀H,A4 K H a (ns.map V.int)
 ty:∃o,K.lookup a=some o/\o.cls=.type "tuple" /\ o.dict=none
section
variable{X:Cx}{a e:Expr}{f:AAi}{pos p:Pos}
def iJ:zF X "tuple.index" (rH X.K):=by
 rintro pins s σ H x xs v us Q I M T ⟨q,ns,k,rfl,rfl,hq,hk,h⟩;cases M;obtain⟨u,rfl,t,rfl⟩:=vals1 T;obtain⟨Z,U,Y,hz⟩:=I.tuple hq;refine Pf Y (intsAre_of U) hk fun l s' e1 e2=>?_;rw[e1];exact⟨.int _,H,I.tok _,⟨l,rfl⟩,h⟩
def rq(neg:Bool)(ns:AAx)(x:PD):AAt:=match x with
 |.int i=>some (.bool (if neg then !(ns.contains i) else ns.contains i))
 |_=>none
def uu(ns:AAx)(x:PD):AAt:=match x with
 |.int i=>if i∈ns then some (.int (ns.idxOf i)) else none
 |_=>none
def fq(Y:CN X (compareOp op) (y0 X.K neg))(ha:DE X a f)(hg:Gl X x)(hm:X.mg x=some (.ref c))(hn:Own X.K c ns)(hk:behindInMarks op (.Name x p)=false:=by rfl)(hd:Fk=false:=by decide):DT X (.Compare a [op] [.Name x p] pos) (fun δ=>((f δ).bind (rq neg ns)).bind Ll):=by
 obtain⟨ta,M,T⟩:=ha;refine⟨_,Dg Y M (Gs (v:=.ref c) hg hm rfl hd) hk,fun δ z U G0 H0 G H σ ts Q R0 k=>?_⟩;obtain⟨q,h0,Z⟩:=aA.mp U;have:=OH Z;subst this;obtain⟨y,h1,l⟩:=aA.mp h0;refine T δ y h1 G0 H0 G H σ ts _ R0 fun u G1 H1 I=>?_;unfold rq at l;split at l
 .cases l;have du:=I.BC (_,u) Da;subst du;refine⟨c,_,rfl,.inr (hn.sq _),rfl,eF ns,?_⟩;rw[WU];exact⟨_,rfl,k _ _ I.drop⟩
 lia
def fB{Y ap}(ha:DE X e f)(hg:Gl X x)(hm:X.mg x=some (.ref c))(hn:Own X.K c ns)(hd:Fk=false:=by decide) (M:attributeBase (.Name x p) "index" X.env (eval (.Name x p) X.env)=eval (.Name x p) X.env:=by rfl) (T:((backTo Y (starEach [e] X.env)).all (fun x=>!x.1)&&(backToKw Y (keywordEach [] X.env)).all (fun x=>x.1.isSome) && decide (([e]).length+([]:List Keyword).length+(if([]:List Keyword).isEmpty then 0 else 1)<30))=true:=by rfl) (I:(ap.endLine==Y.line)=true:=by rfl)(Z:starEach [e] X.env=EQ::starEach [] X.env:=by rfl)(l:(backTo Y (starEach [] X.env)).any Hq=false:=by rfl):DE X (.Call (.Attribute (.Name x p) "index" ap) [e] [] Y) (fun δ=>(f δ).bind (uu ns)):=by
 obtain⟨ta,pa,ka⟩:=ha;refine⟨_,Qb PySem.F.plainAttrs_tuple PySem.F.slot_tuple_index PySem.F.type_tuple_index iJ (Gs (v:=.ref c) hg hm rfl hd) (AV pa Au Z) M T I Z l,fun δ z hz G0 H0 G H σ ts Q R0 k=>?_⟩;obtain⟨y,h1,U⟩:=aA.mp hz;refine⟨.inr (.inl ⟨rfl,hn.ty⟩),ka δ y h1 G0 H0 G H σ ts _ R0 fun u G1 H1 R1=>?_⟩;unfold uu at U;split at U
 .split at U
  .rename_i hi;cases U;have du:=R1.BC (_,u) Da;subst du;exact⟨c,ns,_,rfl,rfl,hn.sq _,hi,k _ _ _ (R1.drop.put (by rw[Du]))⟩
  .cases U
 lia
end
def QS(led:Bool)(l z:ABD):Bool:=match TH.Nb (TH.LU led) l with
 |some st=>decide ((Tr.GV (TH.Qv st)).reverse=z)&&st.2.fits st.1.size&&st.2.plain&&decide (st.2.led=led)&&TH.RB st.2 st.1.size&&decide (st.1.size<64)
 |none=>false
def kM(h:QS led l z=true):∃st,TH.Nb (TH.LU led) l=some st/\(Tr.GV (TH.Qv st)).reverse=z/\st.2.fits st.1.size=true/\st.2.plain=true/\st.2.led=led/\TH.RB st.2 st.1.size=true/\st.1.size<64:=by
 unfold QS at h
 grind
def Z3(l:ABD):ABD:=match TH.Nb (TH.LU true) l with
 |some st=>(Tr.GV (TH.Qv st)).reverse
 |none=>[]
def HL(t:Tr):AAt:=if t.deep<=8/\QS true t.bs (Z3 t.bs)=true/\QS false t.bs (Z3 t.bs)=true then some (.list (Gg (Tr.of (Z3 t.bs)))) else none
def QH:PD->Option PD
 |.list ds=>(JY ds).bind HL
 |_=>none
section
variable{X:Cx}{e:Expr}{f:AAi}{pos p p2 pos2:Pos}
def cK(hc:Rs)(hu:IR)(hg:Gl X "sorted")(hm:X.mg "sorted" = none)(hg2:Gl X "set")(hm2:X.mg "set" = none)(ha:DE X e f) (T:starEach [e] X.env=EQ::starEach [] X.env:=by rfl)(M:starEach [.Call (.Name "set" p2) [e] [] pos2] X.env=(false,eval (.Call (.Name "set" p2) [e] [] pos2) X.env)::starEach [] X.env:=by rfl) (hq1:(backTo pos2 (starEach [] X.env)).any Hq=false:=by rfl)(hq2:(backTo pos (starEach [] X.env)).any Hq=false:=by rfl):DE X (.Call (.Name "sorted" p) [.Call (.Name "set" p2) [e] [] pos2] [] pos) (fun δ=>(f δ).bind QH):=by
 obtain⟨ta,pa,ka⟩:=ha;refine⟨_,EX (bz hc hu) hg hm PyProof.Rows.boot_sorted (AV (Ul (gU hc hu) hg2 hm2 PyProof.Rows.boot_set (AV pa Au T) AC AC T hq1) Au M) AC AC M hq2,fun δ z hz G0 H0 G H σ ts Q R0 k=>?_⟩;obtain⟨y,h1,Z⟩:=aA.mp hz;refine ka δ y h1 G0 H0 G H σ ts _ R0 fun u G1 H1 R1=>?_;unfold QH at Z;split at Z
 .rename_i ds;obtain⟨t,h3,Y⟩:=aA.mp Z;unfold HL at Y;split at Y
  .rename_i hh;cases Y;have hds:=Nr h3;have du:=R1.BC (_,u) Da;obtain⟨bb,a,ys,rfl,n1,n2⟩:=QV du (rfl);have n1':H1 a=some KB:=by
    have:=R1.ins _ _ n1;cases bb
    .simpa using this
    .exact absurd n1 (by
      have U:=du;intro n1;rw[Du]at U;obtain⟨a',ys',e1,e2,_⟩:=U;cases e1;rw[e2]at n1;cases n1)
   rw[hds]at n2;have ht:=(Ln n2).same R1.ins;have both:∀led,QS led t.bs (Z3 t.bs)=true:=fun led=>by cases led;exact hh.2.2;exact hh.2.1
   obtain⟨st,r1,r2,r3,r4,r5,r6,r7⟩:=kM (both (!X.w.params.followText "set-order"));refine⟨a,ys,t,st,rfl,Am.of n1',ht,hh.1,r1,fun S H' e1 hS=>⟨S,st,rfl,hS,⟨r3,r4,r5,r6,r7⟩,fun l zs hl hz I=>?_⟩⟩;rw[r2]at I;have R2:=(R1.drop.on e1).Bi;exact k _ _ _ (R2.NC (Qe I) hl)
  .cases Y
 .cases Z
end
theorem Sk:∀t ,JY (Gg t)=some t
 |.nil=>by rfl
 |.cons b r=>by rw[Gg,JY,FO,Sk b,Sk r];rfl
def hJ t:FO (.tuple (Gg t))=some t:=Sk t
def lx(h:MW k=MW l):k=l:=by
 cases k with
 |none=>cases l with
  |none=>rfl
  |some u=>cases h
 |some t=>cases l with
  |none=>cases h
  |some u=>
   have:=ae FO h;rw[MW,MW,hJ,hJ]at this
   lia
def keyOf:PD->Option (Option Tr)
 |.none=>some none
 |d=>(FO d).map some
def P5(h:keyOf d=some k):d=MW k:=by
 unfold keyOf at h;split at h
 .cases h;rfl
 .obtain⟨t,l,rfl⟩:=aC.mp h;exact Yx l
abbrev KD:=Option Tr×PD
def Ti(kvs:List KD)(k:Option Tr):Bool:=(match k with|none=>true|some t=>decide (t.deep<8))&&kvs.all fun q=>decide (TH.Bg q.1≠TH.Bg k)||decide (q.1=k)
def look(kvs:List KD)(k:Option Tr):AAt:=(kvs.find? fun q=>decide (q.1=k)).map (·.2)
def MC(kvs:List KD)(k:Option Tr)(v:PD):List KD:=if(kvs.find? fun q=>decide (q.1=k)).isSome then kvs.map (fun q=>if q.1=k then(q.1,v) else q) else kvs++[(k,v)]
def W3:List (PD×PD)->Option (List KD)
 |[]=>some []
 |(k,d)::t=>(keyOf k).bind fun l=>(W3 t).map fun r=>(l,d)::r
theorem Zc:∀ {es} {kvs},W3 es=some kvs->es=R5 kvs
 |[],kvs,h=>by cases h;rfl
 |(k,d)::t,kvs,h=>by
  obtain⟨l,T,M⟩:=aA.mp h;obtain⟨r,I,rfl⟩:=aC.mp M;rw[P5 T,Zc I];rfl
def PR(G:Hp)(p:KD)(q:KR):Prop:=q.1=p.1/\Gh G q.1 q.2.1/\Du G p.2 q.2.2
theorem WX:∀ {kvs:List KD} {r},KP G (R5 kvs) r->PySem.Paired (PR G) kvs r
 |[],r,h=>by
  subst h;exact .nil
 |(k,d)::t,r,h=>by
  obtain⟨q,U,rfl,T,M,I,l⟩:=h;exact .cons ⟨(lx T).symm,M,I⟩ (WX l)
def gE(h:PySem.Paired (PR G) kvs r):KP G (R5 kvs) r:=by
 induction h with
 |nil=>rfl
 | @cons p q l m a _ I=>
  exact⟨q,m,rfl,by rw[a.1],a.2.1,a.2.2,I⟩
def pG(h:PySem.Paired (PR G) kvs r):r.map Hq=kvs.map Hq:=by
 induction h with
 |nil=>rfl
 |cons a _ l=>rw[(BR),(BR),l,a.1]
def Yz(h:PySem.Paired (PR G) kvs r) k:match kvs.find? WF with
  |some p=>∃q,r.find? WF=some q/\Du G p.2 q.2.2
  |none=>r.find? WF=none:=by
 induction h with
 |nil=>rfl
 | @cons p q l m a _ I=>
  rw[(LD),(LD),a.1];by_cases z:p.1=k
  .simp only[decide_eq_true z];exact⟨q,rfl,a.2.2⟩
  grind
def vp(h:PySem.Paired (PR G) kvs r)(hk:Gh G k U)(M:Du G d v):PySem.Paired (PR G) (MC kvs k d) (Gf r k U v):=by
 have I:=Yz h k;unfold MC Gf;split at I
 .rename_i p e;obtain⟨q,T,_⟩:=I;rw[T,e];clear e T hk
  induction h with
  |nil=>exact .nil
  | @cons p q l m a _ Y=>
   rw[(BR),(BR)];refine .cons ?_ Y;rw[a.1];by_cases z:p.1=k
   .rw[if_pos z,if_pos z];exact⟨rfl,a.1 ▸ a.2.1,M⟩
   lia
 .rename_i e;rw[I,e];exact h.snoc ⟨rfl,hk,M⟩
def iL(h:(r.map Hq).Nodup):((Gf r k l v).map Hq).Nodup:=by
 unfold Gf
 grind
def ip(h:Du G (MW k) v)(l:Ti kvs k=true):Gh G k v:=by
 unfold Ti at l;rw[(HW)]at l;cases k with
 |none=>exact h
 |some t=>
  obtain⟨a,ys,rfl,M,I⟩:=h;exact⟨ah l.1,a,ys,rfl,M,Ln I⟩
def mC(e:AI G H)(ha:H a=some (dN a r))(n:(r.map Hq).Nodup)(h:PySem.Paired (PR G) kvs r)(I:Ti kvs k=true):Sb H a r k:=by
 refine⟨ha,fun q l=>?_,n,fun q l Y=>?_⟩
 .obtain⟨p,_,T,M,_⟩:=JK h q l;exact M.same e
 .obtain⟨p,U,T,_⟩:=JK h q l;unfold Ti at I
  grind
def od(i:Nat)(δ:Dv):Option (List KD):=match δ[i]? with
 |some (.own (.Oy kvs))=>some kvs
 |_=>none
def ml{i:Nat}{δ:Dv}{kvs:List KD}(h:od i δ=some kvs):δ[i]? = some (.own (.Oy kvs)):=by
 unfold od at h;split at h
 .rename_i y e;cases h;exact e
 .cases h
abbrev oD(i:Nat):DF:=fun δ=>some (.nx (δ.set i (.own (.Oy []))))
abbrev vn(i:Nat)(f g:L0):DF:=fun δ=>(f δ).bind fun y=>(g δ).bind fun n=>(od i δ).bind fun kvs=>(keyOf n).bind fun k=>if Ti kvs k=true/\kvs.length<=500 then some (.nx (δ.set i (.own (.Oy (MC kvs k y))))) else none
def V8:PD->PD->Option PD:=fun x y=>match x with
 |.dict ((.bool true,.none)::es)=>(W3 es).bind fun kvs=>(keyOf y).bind fun k=>if Ti kvs k=true then look kvs k else none
 |_=>none
def oo{kvs:List KD}(h:Du G (Q7 kvs) u):∃a r,u=.ref a/\G a=some (dN a r)/\(r.map Hq).Nodup/\PySem.Paired (PR G) kvs r:=by
 rcases h with ⟨_,_,e,_⟩|⟨_,_,e,_⟩|⟨_,_,a,r,e,M,I,l⟩
 .lia
 .lia
 .exact⟨a,r,e,M,I,WX l⟩
section
variable{X:Cx}{a b e:Expr}{f g h:AAi}{pos p dp pos':Pos}
def qu(U:X.N.Nodup)(hi:X.N[i]? = some x)(I:Loc X.env.scope x)(M:swapsWith (.Dict [] [] dp) (some (.Name x pos')) pos.line X.env=pure false:=by rfl)(hf:X.fn x=true\/X.env.scope.names.lookup x=some .local:=by first|exact .inl rfl|exact .inr rfl|assumption):DS X (.Assign [.Name x pos'] (.Dict [] [] dp) pos) (oD i) :=
 ⟨_,A0 U hi I Xj M hf,fun δ r h G0 H0 G H σ D R q=>by
  cases h;exact fun l T=>q _ _ _ (R.Rx ⟨[],rfl,.nil,gE .nil⟩ T)⟩
def kG{i:Nat}{x:Str}{np sp:Pos}(hv:PE X Iv (HV i))(hk:DE X a g)(he:DE X e f) (hP:∀ {l T U:TE},PE X e l->PE X Iv T->PE X a U->PS X (.Assign [.Subscript Iv a sp] e pos) (Wu l (lQ T U mQ))):DS X (.Assign [.Subscript Iv a sp] e pos) (vn i f g):=by
 obtain⟨l,pe,ke⟩:=he;obtain⟨tk,pk,kk⟩:=hk;refine⟨_,hP pe hv pk,fun δ r h G0 H0 G H σ D R q=>?_⟩;obtain⟨y,h1,h2⟩:=aA.mp h;obtain⟨n,h3,h4⟩:=aA.mp h2;obtain⟨kvs,h5,h6⟩:=aA.mp h4;obtain⟨k,h7,M⟩:=aA.mp h6;split at M
 .rename_i hc;cases M;have:=P5 h7;subst this;have hi:=ml h5;refine ke δ y h1 G0 H0 G H σ [] _ R fun u G1 H1 R1=>?_;obtain⟨ad,_,I,k2,k3,k4,k5⟩:=R1.own i _ hi;refine⟨.ref ad,I,kk δ _ h3 G0 H0 G1 H1 σ _ _ R1 fun v G2 H2 R2=>?_⟩;have dv:=ip (R2.BC (MW k,v) Da) hc.1;obtain⟨ad',_,Z,m2,m3,m4,⟨rr,rfl,Y,m6⟩⟩:=R2.own i _ hi;rw[I]at Z;cases Z;have pr:=WX m6;have hl:=by have:=ae List.length (pG pr);simpa using this
  exact⟨ad,rr,k,rfl,dv.same R2.ins,mC R2.ins m4 Y pr hc.1,by lia,q _ _ _ (R2.drop.drop.Qj hi I ⟨_,rfl,iL Y,gE (vp pr dv (R2.BC (y,u) (.tail _ Da)))⟩)⟩
 .cases M
def jx(hu:IR)(ha:DE X a f)(hb:DE X b g)(hs:Wf b):DE X (.Subscript a b pos) (AF V8 f g):=by
 obtain⟨ta,Z,ka⟩:=ha;obtain⟨tb,Y,kb⟩:=hb;refine⟨_,WG hu Z Y hs,fun δ z hz G0 H0 G H σ ts Q R0 k=>?_⟩;obtain⟨x,y,h1,h2,l⟩:=two (x:=.none) (y:=.none) hz;refine ka δ x h1 G0 H0 G H σ ts _ R0 fun u G1 H1 R1=>kb δ y h2 G0 H0 G1 H1 σ _ _ R1 fun v G2 H2 R2=>?_;have du:=R2.BC (x,u) (.tail _ Da);have dv:=R2.BC (y,v) Da;unfold V8 at l;split at l
 .obtain⟨kvs,h4,h5⟩:=aA.mp l;obtain⟨M,h6,U⟩:=aA.mp h5;split at U
  .rename_i T;have:=Zc h4;subst this;have:=P5 h6;subst this;obtain⟨ad,r,rfl,n1,n2,n3⟩:=oo du;have hf:=Yz n3 M;obtain⟨p,h8,rfl⟩:=aC.mp U;rw[h8]at hf;obtain⟨q,h9,I⟩:=hf;exact⟨ad,r,M,q,rfl,(ip dv T).same R2.ins,mC R2.ins (R2.ins _ _ n1) n2 n3 T,h9,k _ _ _ (R2.drop.drop.put I)⟩
  lia
 lia
end
mutual
def Pg:PD->Bool
 |.tuple ds=>OL ds
 |.list ds=>OL ds
 |.dict l=>bZ l
 |_=>true
def OL:List PD->Bool
 |[]=>true
 |d::ds=>Pg d&&OL ds
def bZ:List (PD×PD)->Bool
 |[(.none,_)]=>true
 |_=>false
end
def vW:dN a r≠.tup xs:=fun h=>by cases h
def fD:dN a r≠.lst xs:=fun h=>by cases h
def wD:dN a r≠.Eu o u:=fun h=>by cases h
mutual
theorem ZH{G:Hp}{a:AD}{r:List KR}(ha:G a=some (dN a r)):∀ {d:PD} {v:V},Pg d=true->Du G d v->Du (less G a) d v
 |.none,_,_,h=>by rw[Du]at h ⊢;exact h
 |.bool _,_,_,h=>by rw[Du]at h ⊢;exact h
 |.int _,_,_,h=>by rw[Du]at h ⊢;exact h
 |.str _,_,_,h=>by rw[Du]at h ⊢;exact h
 |.tuple ds,_,n,h=>by
  rw[Du]at h ⊢;obtain⟨b,xs,I,l,M⟩:=h;exact⟨b,xs,I,by rw[Cg fun z=>by subst z;rw[ha]at l;exact vW (af l)];exact l,L7 ha (by simpa[Pg]using n) M⟩
 |.list ds,_,n,h=>by
  rw[Du]at h ⊢;obtain⟨b,xs,I,l,M⟩:=h;exact⟨b,xs,I,by rw[Cg fun z=>by subst z;rw[ha]at l;exact fD (af l)];exact l,L7 ha (by simpa[Pg]using n) M⟩
 |.dict U,v,n,h=>by
  rw[Du]at h ⊢;rcases h with ⟨ea,C,I,T,l⟩|⟨b,ns,I,T,l⟩|h
  .rw[I]at n;simp[Pg,bZ]at n
  .refine .inr (.inl ⟨b,ns,I,T,?_⟩);rcases l with l|⟨o,l⟩
   .exact .inl (by rw[Cg fun z=>by subst z;rw[ha]at l;exact fD (af l)];exact l)
   .exact .inr ⟨o,by rw[Cg fun z=>by subst z;rw[ha]at l;exact wD (af l)];exact l⟩
  .exfalso
   cases U with
   |nil=>rw[RO]at h;exact h
   |cons p t=>
    obtain⟨Y,Z⟩:=p;rw[RO]at h;rw[h.1]at n;simp[Pg,bZ]at n
theorem L7{G:Hp}{a:AD}{r:List KR}(ha:G a=some (dN a r)):∀ {ds:List PD} {xs:List V},OL ds=true->Ad G ds xs->Ad (less G a) ds xs
 |[],_,_,h=>by rw[Ad]at h ⊢;exact h
 |d::ds,_,n,h=>by
  obtain⟨x,q,rfl,I,l⟩:=h.un;simp only[OL,Bool.and_eq_true]at n;exact .cons (ZH ha n.1 I) (L7 ha n.2 l)
end
def w5:L->Bool
 |.own (.lst xs)=>OL xs
 |.own _=>false
 |_=>true
def alone(i:Nat)(δ:Dv):Bool:=(δ.set i .no).all w5
abbrev oJ(i:Nat)(f:L0):Dv->Option PD:=fun δ=>(od i δ).bind fun kvs=>(f (δ.set i (.d (Q7 kvs)))).bind fun x=>if Pg x=true/\alone i δ=true then some x else none
def qZ{X:Cx}{e:Expr}{f:AAi}(i:Nat)(h:DE X e f):DE X e (oJ i f):=by
 obtain⟨t,p,k⟩:=h;refine⟨t,p,fun δ z hz G0 H0 G H σ ts Q R q=>?_⟩;obtain⟨kvs,h1,h2⟩:=aA.mp hz;obtain⟨x,h3,Z⟩:=aA.mp h2;split at Z
 .rename_i hc;cases Z;have hi:=ml h1;obtain⟨a,o,k1,k2,k3,k4,k5,R1⟩:=R.letGo (x:=Q7 kvs) hi fun a o h=>ig h;obtain⟨r,rfl,k6,k7⟩:=k5;refine k _ _ h3 (upd G a (dN a r)) H0 _ H σ ts Q R1.base fun v G' H' R2=>q v (less G' a) H' ?_;have ha:G' a=some (dN a r):=R2.ext _ _ AR;have M:AI G (less G' a):=fun b u hb=>by
   have:b≠a:=fun z=>by subst z;rw[k2]at hb;cases hb
   rw[Cg this];exact R2.ext _ _ (by rw[AN this];exact hb)
  have of:∀b u,less G' a b=some u->b≠a/\G' b=some u:=fun b u hb=>by
   by_cases z:b=a
   .subst z;rw[Gu]at hb;cases hb
   .rw[Cg z]at hb;exact⟨z,hb⟩
  refine⟨R.ext.trans M,fun b u hb=>?_,fun b u hb=>R2.ins _ _ (of b u hb).2,R2.keep,R.len,fun j y I=>?_,fun j c I=>?_,R.apart,fun w Y=>?_⟩
  .obtain⟨nb,hb⟩:=of b u hb;rcases R2.new b u hb with z|z|z
   .rw[AN nb]at z;exact R.new _ _ z
   .exact .inr (.inl z)
   .exact .inr (.inr z)
  .obtain⟨w,U,T⟩:=R.dat j y I;exact⟨w,U,T.same M⟩
  .by_cases z:i=j
   .subst z;rw[hi]at I;cases I;exact⟨a,dN a r,k1,Gu,k3,R2.ins _ _ ha,r,rfl,k6,KP.same M k7⟩
   .obtain⟨b,us,U,T,m3,m4,m5⟩:=R2.own j c (by rw[List.getElem?_set_ne z];exact I);refine⟨b,us,U,?_,m3,m4,?_⟩
    .by_cases w:b=a
     .subst w;exact Gu
     .rw[Cg w];exact T
    .have hm:L.own c∈δ.set i .no:=bW.mpr ⟨j,by rw[List.getElem?_set_ne z];exact I⟩;have l:=bG.mp hc.2 _ hm;cases c with
     |lst xs=>
      obtain⟨ys,e1,e2⟩:=m5;exact⟨ys,e1,L7 ha l e2⟩
     |Er g p=>cases l
     |Ea xs=>cases l
     |Oy xs=>cases l
  .rcases aO.mp Y with rfl|Y
   .exact ZH ha hc.1 (R2.BC _ Da)
   .exact(R.BC w Y).same M
 .cases Z
end L2
namespace ES
open PySem PyProof.Rows
open AutoSeq1 (wpAny_loadPart')
section
variable{prog:F0b}{w:F0c}{A:F0d}{E:AAo}{s:SD}
def kx a b:checkBuiltinCall "enumerate.__new__" ⟨[.type "enumerate",a],[(Str.ofString "start",b)]⟩=pure ():=by kernel_rfl
def lK a b c:argsOk "object.__init__" ⟨[a,b],[(Str.ofString "start",c)]⟩:=by
 rfl
def gg(l:AD)(items:Array VL)(n:Nat)(T:Option AD)(sl:Array (Option VL))(t:Tok):Meets (Builtin.«enumerate.__new__» ⟨[.type "enumerate",.ref l],[(Str.ofString "start",.int 2 t)]⟩) (fun _ R s=>s.heap.get? l=some { cls:=.type "list",dict:=T,data:=.seq items n,slots:=sl} /\R (.ok (.ret (.ref (s.heap.push { cls:=.type "list_iterator",data:=.fields #[.ref l,.int 0 0]}).objs.size))) Ty) :=
 .of_wp fun prog w A R s h=>by
  obtain⟨Y,g,d,tk,os⟩:=s;obtain⟨I,h⟩:=h;have U:=sub_enumerate;have M:Heap.IsList (Shared.heap ⟨Y,g,d,tk,os⟩) l items:=⟨_,I,rfl,n,rfl⟩
  wp_walk using wpAny_loadPart' I
  refine wpAny_stack_any fun st=>aB ?_;split
  .rename_i c _ _ _ _ _;cases (c==Value.type "enumerate")
   .wp_walk using wpAny_loadPart' I,wpAny_pyIter_list M
    exact⟨_,rfl,h⟩
   .wp_walk using wpAny_loadPart' I,wpAny_pyIter_list M
    exact⟨_,rfl,h⟩
  .wp_walk using wpAny_loadPart' I,wpAny_pyIter_list M
   exact⟨_,rfl,h⟩
def dU:Meets (Builtin.«object.__init__» ⟨self::rest,kw⟩) (fun _ R s=>s.TypeIs self "enumerate" /\ R (.ok (.ret .none)) s):=by
 refine Meets.of_wp fun prog w A R s I=>?_;obtain⟨T,l⟩:=I;have M:=F.called_enumerate.init.lookup;have hm:=F.called_enumerate.made;unfold Builtin.«object.__init__»;dsimp only;split
 .repeat (any_goals (first|assumption|wp_step))
  exact⟨_,rfl,l⟩
 .exact aB ⟨_,rfl,l⟩
def cN{l:AD}{items:Array VL}{t:Tok}{Q:AAo}(hL:s.heap.IsList l items) (h:∀h',IsEnum h' SC s.heap.objs.size 2 .none->h'.IsListIter s.heap.objs.size l 0->h'.objs.size=s.heap.objs.size+2 ->(∀b o,s.heap.get? b=some o->h'.get? b=some o)->Q (.ref SC) {s with heap:=h'}):wpAny As A (call (.type "enumerate") [.ref l] [(Str.ofString "start",.int 2 t)]) Q E s:=by
 obtain⟨⟨c,dct,dt,sl⟩,hl,hc,n,hd⟩:=hL
 replace hc:c=.type "list" := hc
 replace hd:dt=.seq items n:=hd
 subst hc hd;have T:=F.called_enumerate;obtain⟨c,tl,hmro⟩:=T.mro;have hmade:=T.made;have hsub:=T.sub;have hz:(s.heap.push { cls:=.type "list_iterator",data:=.fields #[.ref l,.int 0 0]}).objs.size=s.heap.objs.size+1:=Heap.size_push ..;refine wpAny_call (codeAny_of_tree ?_);show wpAny _ _ (callAny (.type "enumerate") _) _ _ _;refine aB ⟨Code.quiet_builtin _ (by decide +kernel),(codeAny_builtin F.entry_type_call ?_)⟩;rw[Around.under_plain (weight_type_call_type "enumerate" [.ref l] [(Str.ofString "start",.int 2 t)]) (units_type_call_type _ _ _)];have h1:=T.notType;have h2:=T.canCreate
 repeat (any_goals (first|assumption|wp_step))
 have Y:wants (fun obj M=>M.TypeIs obj "enumerate" /\ Q obj M) E (.ok (.ret (.ref (s.heap.push { cls:=.type "list_iterator",data:=.fields #[.ref l,.int 0 0]}).objs.size))) Ty:=by
  show _/\_;rw[hz];have a1:IsEnum ((s.heap.push { cls:=.type "list_iterator",data:=.fields #[.ref l,.int 0 0]}).push { cls:=.type "enumerate",data:=.fields #[.none,.bool false,.ref s.heap.objs.size,rawInt 2,.none,.none]}) SC s.heap.objs.size 2 .none:=by
   rw[<-hz];exact aN _ rfl
  refine⟨⟨_,a1,rfl⟩,h _ a1 ⟨_,Heap.get?_push_of_some _ (aN _ rfl),rfl,rfl⟩ (by rw[(LA),hz]) fun b o e=>aE _ (aE _ e)⟩
 refine codeAny_mono (codeAny_call_builtin T.plain F.entry_enumerate_new (wpAny_of_eq (kx _ _) (gg l items n dct sl t prog w A.in1 _ s ⟨hl,Y⟩))) fun r M hr=>?_;cases r with
 |error e=>exact hr
 |ok fl=>
  cases fl with
  |ret obj=>
   obtain⟨hT,hq⟩:=hr;have hli:=T.init.lookup;have hbi:=T.init.bind obj
   repeat (any_goals (first|assumption|wp_step))
   refine codeAny_mono (codeAny_call_builtin T.init.plain F.entry_object_init (T.init.check _ _ _ _ _ _ _ _ hT (lK _ _ _) (dU prog w A.in1 (wants (fun r U=>r=.none/\Q obj U) E) M ⟨hT,rfl,hq⟩))) fun r₂ U I=>?_;cases r₂ with
   |error e=>exact I
   |ok Z=>
    cases Z with
    |ret r=>
     obtain⟨rfl,hq⟩:=I
     repeat (any_goals (first|assumption|wp_step))
    |_=>exact I.elim
  |_=>exact hr.elim
end
end ES
namespace L2
open PySem PySem.Spec PyProof.Rows
abbrev vY(K:Fg)(a:AD):It:=Nx K false 2 a
def XD (h:wpAny M A (spliced (backTo pos (starEach (e::rest) env))) (fun vs s1=>wpAny M A (evalAll ((backToKw pos (keywordEach l env)).map (·.2))) (fun kvs s2=>wpAny M A (call (.type T) vs (((backToKw pos (keywordEach l env)).filterMap Hq).zip kvs)) Q E s2) E s1) E s) (he:backTo pos (starEach (e::rest) env)=(false,eval e env)::backTo pos (starEach rest env):=by rfl)(I:(backTo pos (starEach (e::rest) env)).any Hq=false:=by rfl) (U:(backToKw pos (keywordEach l env)).all (·.1.isSome)=true:=by rfl)(Y:(backToKw pos (keywordEach l env)).any (·.1.isNone)=false:=by rfl):wpAny M A (callWith pos (.type T) [] (backTo pos (starEach (e::rest) env)) (backToKw pos (keywordEach l env))) Q E s:=by
 refine Wb (aS (aU (show wpAny M A _ (fun a s1=>wpAny M A (call _ ([]++a.pos) a.kw) Q E s1) E s by
  rw[he]at h ⊢;exact evalArgs_kwB U h) (fun a s1 h1=>Wb (wpAny_standAt ?_)) fun _ _ x=>x))
 simp only[I,Y];exact Wb (aB (Wb (aU h1 (fun r s2 Z=>Wb (aS (wpAny_point (aB Z)))) fun _ _ x=>x)))
def wM(K:Fg)(I:TA):TI:=fun σ H R=>I σ H fun vs l=>∃a,vs=[.ref a]/\(∃xs,Am K l a xs)/\R (vY K a) l
def i6{X:Cx}{elts:AA0}{x1}{M:Pos}{a:Expr}{ta:TA}{p pos kp Z:Pos}{j}(hg:Gl X "enumerate")(hm:X.mg "enumerate" = none)(ha:PA X [a] ta) (U:backTo pos (starEach [a] X.env)=Sc::backTo pos (starEach [] X.env):=by rfl)(l:(backTo pos (starEach [a] X.env)).any Hq=false:=by rfl):PI X (.Tuple elts x1 M) (.Call (.Name "enumerate" p) [a] [⟨some "start",.Constant (.int 2) j Z,kp⟩] pos) (wM X.K ta):=by
 intro pins s σ H R I h;refine bF (Fi I hg hm boot_enumerate ?_);refine XD (Ay TD fun us s1 ⟨vs,H1,Y,r1,q1⟩=>kws_cons (wpAny_Constant_int (kws_nil ?_))) U l;obtain⟨t,e,⟨xs,hq⟩,q⟩:=q1;subst e;cases r1 with
 |cons r rr=>
  cases rr;cases r;obtain⟨its,rv,p',hz⟩:=Y.list hq;refine ES.cN (p'.isList) fun h' U hit hsz hk=>wpAny_pyIter_enum U ?_;have hn:s1.heap.objs.size+1≠s1.heap.objs.size:=by lia
  refine⟨s1.heap.objs.size+1,[s1.heap.objs.size+1,s1.heap.objs.size],_,_,H1,rfl,(Y.kept hk),Sx (b:=false) (k0:=2) t _ _ hn,⟨⟨_,U⟩,hit⟩,fun b hb=>?_,q⟩;have T:s1.heap.objs.size<=b:=by
   have hb2:=by simpa using hb
   rcases hb2 with z|z
   .rw[z];exact Nat.le_succ _
   .rw[z];exact aG _
  exact(Y.tok (s1.toks+1)).Pr T ((Y.tok (s1.toks+1)).Ae.fresh T)
def Nk(xs:AAl):AAl:=xs.zipIdx.map fun q=>.tuple [.int ((q.2+2:Nat)),q.1]
def QZ{i:Nat}(h:(Nk xs)[i]? = some d):∃x,xs[i]? = some x/\d=.tuple [.int ((i+2:Nat)),x]:=by
 unfold Nk at h
 grind
def kI{K}(ha:G a=some KB)(d:Ad G xs ys):LB (vY K a) (Nk xs) G where
 stop:=fun H e=>⟨ys,Am.of (e _ _ ha),by rw[d.len];simp[Nk]⟩
 go:=fun i x H hx e=>by
  obtain⟨x',h0,rfl⟩:=QZ hx;obtain⟨v,h1,_⟩:=d.get h0;exact⟨ys,v,Am.of (e _ _ ha),h1⟩
 E6:=fun i x H v H' hx e y Gc e1 e2=>by
  obtain⟨x',h0,rfl⟩:=QZ hx;obtain⟨p,u,rfl,hp,rfl,y⟩:=y;obtain⟨x2,h2,h3⟩:=d.back (y ys (Am.of (e _ _ ha)));rw[h0]at h2;cases h2;exact Pc e2 hp Iq (h3.same e1)
def b6:List PD->Option (List PD)
 |[.list xs]=>some (Nk xs)
 |_=>none
def jb{p pos kp M}{j}{elts}{U}{I}(hg:Gl X "enumerate")(hm:X.mg "enumerate" = none)(ha:DA X [a] fs)(he:backTo pos (starEach [a] X.env)=Sc::backTo pos (starEach [] X.env):=by rfl)(l:(backTo pos (starEach [a] X.env)).any Hq=false:=by rfl):DI X (.Tuple elts U I) (.Call (.Name "enumerate" p) [a] [⟨some "start",.Constant (.int 2) j M,kp⟩] pos) (fun δ=>(fs δ).bind b6):=by
 obtain⟨t,Y,k⟩:=ha;refine⟨_,i6 hg hm Y he l,fun δ xs h G0 H0 G H σ ts R R0 q=>?_⟩;obtain⟨x,h1,T⟩:=aA.mp h;unfold b6 at T;split at T
 .cases T;refine k δ _ h1 G0 H0 G H σ ts _ R0 fun vs G' H' R' hv=>?_;obtain⟨d,R2⟩:=R'.args hv;obtain⟨u,rfl,du⟩:=d.Il;obtain⟨a,ys,rfl,n1,Z⟩:=du;exact⟨a,rfl,⟨ys,Am.of (R2.ins _ _ n1)⟩,q _ _ _ R2 (kI n1 Z)⟩
 lia
abbrev TB:=St->Hp->(Hp->Prop)->XK->Prop
def mX(X:Cx)(st:Stmt)(t:TB):Prop:=∀pins s (σ:St) H N E,Inv X pins σ H s->t σ H N E->wpAny B7 X.A (exec st X.env) (fun f s'=>f=.next/\∃H',Inv X pins σ H' s'/\N H') (VS X pins σ E) s
def X0(X:Cx)(sts:ABG)(t:TB):Prop:=∀pins s (σ:St) H N E,Inv X pins σ H s->t σ H N E->wpAny B7 X.A (execs sts X.env) (fun f s'=>f=.next/\∃H',Inv X pins σ H' s'/\N H') (VS X pins σ E) s
section
variable{X:Cx}{st:Stmt}{rest a b:ABG}{t u:TB}{e c:Expr}{pos:Pos}
def qW:X0 X [] (fun _ H N _=>N H):=fun _ _ _ H _ _ I h=>wpAny_execs_nil ⟨rfl,H,I,h⟩
def jr(U:mX X st t)(T:X0 X rest u):X0 X (st::rest) (fun σ H N E=>t σ H (fun l=>u σ l N E) E):=by
 intro pins s σ H N E I h;refine wpAny_execs_cons (Ay (U pins s σ H _ E I h) fun f s1 q=>?_);obtain⟨rfl,l,Y,M⟩:=q;exact T pins s1 σ l N E Y M
def pY(U:yx X e M)(T:swapsWith e none pos.line X.env=pure false:=by rfl):mX X (.Expr e pos) (fun σ H N E=>M σ H (fun _ l=>N l) E):=fun pins s σ H N E I h=>wpAny_Expr_any (Ay (U pins s σ H _ E I h) fun v s1 ⟨x,l,I1,Y,Z⟩=>by grind) I.quiet T
def yN(Y:PT X.Eh c U)(ha:X0 X a t)(hb:X0 X b u):mX X (.If c a b pos) (fun σ H N E=>U σ H fun d l=>if d=true then t σ l N E else u σ l N E):=by
 intro pins s σ H N E I h;refine wpAny_If (aU (Y pins s σ H _ (I.Ft _) h) (fun d s1 ⟨l,T,M⟩=>?_) fun _ _ z=>z.elim);cases d with
 |true=>exact ha pins s1 σ l N E T.DM M
 |false=>exact hb pins s1 σ l N E T.DM M
def xR(X:Cx)(k:Nat)(l:List ExceptHandler)(t:TB):TS:=fun D σ H=>t σ H (fun I=>D.nx σ I) fun cls _ H'=>∃C,cls=.ref C/\∀ea,∃tb,XT X C ea k l tb/\(H' ea=none->tb (a9 D k) (σ.set k (some (.ref ea))) (upd H' ea (Sh ea cls)))
def q8(he:X0 X body t)(hN:X.N.Nodup)(U:Rs)(Y:∃rest,X.stack=X.env::rest)(Z:X.env.frame=some X.env.locals):PS X (.Try body (h0::hs) [] [] pos) (xR X k (h0::hs) t):=by
 intro pins s σ H D I h;refine wpAny_Try_except (aU (he pins s σ H _ _ I h) (fun f s1 q=>?_) fun ev s1 hf=>?_)
 .obtain⟨rfl,H1,I1,q1⟩:=q;exact wpAny_execs_nil ⟨_,H1,I1,q1⟩
 .obtain⟨H0,s0,I,ea,cls,a0,H',B,ee,F,C,hc,q⟩:=hf;subst ee hc;obtain⟨rest,l⟩:=Y;have F1:=F.vP;rw[l]at F1;refine wpAny_looks_onW (show X.A.frames=some _ by rw[<-l];exact I.ok.frames) Z F1 fun h4 T up4=>wpAny_landsW T fun h5 fl5 up5=>?_;have M:=up4.trans up5;obtain⟨tb,q1,q2⟩:=q ea;exact i5 hN U I F l Z fl5 M (land I F fl5.1 M) q1 q2
end
abbrev FB:=Dv->Option (Option AD)
def vF(G0 H0:Hp)(σ:St)(δ:Dv)(N:Hp->Prop)(E:XK):Option AD->Prop
 |none=>∀G' H',Rw G0 H0 G' H' σ δ []->N H'
 |some C=>∀G' H',Rw G0 H0 G' H' σ δ []->E TW none H'
def tF(X:Cx)(st:Stmt)(F:FB):Prop:=∃t,mX X st t/\∀δ r,F δ=some r->∀G0 H0 G H σ N E,Rw G0 H0 G H σ δ []->vF G0 H0 σ δ N E r->t σ H N E
def DB(X:Cx)(sts:ABG)(F:FB):Prop:=∃t,X0 X sts t/\∀δ r,F δ=some r->∀G0 H0 G H σ N E,Rw G0 H0 G H σ δ []->vF G0 H0 σ δ N E r->t σ H N E
def MA:FB:=fun _=>some none
def Nf(I l:FB):FB:=fun δ=>(I δ).bind fun r=>match r with
 |none=>l δ
 |some C=>some (some C)
def OJ(m:rW)(fs:AAh):FB:=fun δ=>((fs δ).bind m).map fun r=>match r with
 |.inl _=>none
 |.inr C=>some C
def Zl(c:AAk)(I l:FB):FB:=fun δ=>(c δ).bind fun b=>if b=true then I δ else l δ
section
variable{X:Cx}{st:Stmt}{rest a b:ABG}{e c:Expr}{es:AA0}{fs:AAh}{fc:AAk}{F1 F2:FB}{pos p spos:Pos}
def XY:DB X [] MA:=⟨_,qW,fun δ r h G0 H0 G H σ N E R q=>by cases h;exact q _ _ R⟩
def Sv(h1:tF X st F1)(Z:DB X rest F2):DB X (st::rest) (Nf F1 F2):=by
 obtain⟨t1,M,T⟩:=h1;obtain⟨t2,I,k2⟩:=Z;refine⟨_,jr M I,fun δ r h G0 H0 G H σ N E R q=>?_⟩;obtain⟨l,Y,U⟩:=aA.mp h;refine T δ l Y G0 H0 G H σ _ E R ?_;cases l with
 |none=>exact fun G' H' R'=>by grind
 |some C=>cases U;exact q
def yT(M:DT X.Eh c fc)(ha:DB X a F1)(hb:DB X b F2):tF X (.If c a b pos) (Zl fc F1 F2):=by
 obtain⟨T,pc,Y⟩:=M;obtain⟨t1,I,k1⟩:=ha;obtain⟨U,l,Z⟩:=hb;refine⟨_,yN pc I l,fun δ r h G0 H0 G H σ N E R q=>?_⟩;obtain⟨d,h3,h4⟩:=aA.mp h
 grind
def Y4(T:Fn X.K X.mg x st' ps fA fd)(F:Af X.prog X.w X.K X.mg X.base (CO X.prog X.w) Y fA fd ps (FW m))(hr:Bh Y X.A)(ha:DA X.Eh cr fs) (hg:Gl X x:=by rfl)(M:Fk=false:=by decide)(he:starEach cr X.env=EQ::starEach es X.env:=by rfl)(I:(backTo pos ON).any Hq=false:=by rfl) (l:swapsWith Cl none spos.line X.env=pure false:=by rfl):tF X (.Expr Cl spos) (OJ m fs):=by
 obtain⟨ta,Z,ka⟩:=ha;refine⟨_,pY (sC T F hr hg Z M he I) l,fun δ r h G0 H0 G H σ N E R q=>?_⟩;obtain⟨w,h1,rfl⟩:=aC.mp h;refine RP (k:=Y) ka h1 R (fun x hx v G' H' U=>?_) (fun C hC G' H' U=>?_)
 .subst hx;exact q _ _ U.drop
 .subst hC;exact q _ _ U
end
abbrev Vg(k:Nat)(F:FB)(l:DF):DF:=fun δ=>(F δ).bind fun r=>match r with
 |none=>some (.nx δ)
 |some C=>(l (δ.set k (.d (cD C)))).bind (AAF k)
def pT{X:Cx}{k:Nat}{F:FB}{Fh:DF}{U n:Str}{np hpos tp:Pos}(hb:DB X T F)(hN:X.N.Nodup)(hB:∀δ C,F δ=some (some C)->El X.K C Gx true)(hm:X.mg U=some (.ref Gx))(hs:∀ea,KO (X.held ea) (b0::suite) Fh) (l:X.calm=true:=by rfl)(I:∃rest,X.stack=X.env::rest:=by exact⟨_,rfl⟩)(Y:X.env.frame=some X.env.locals:=by rfl)(hg:Gl X U:=by rfl)(hd:(U==("__debug__" : Str))=false:=by decide)(hk:X.N[k]? = some n:=by rfl)(hln:X.env.scope.names.lookup n=some .local:=by rfl):DS X (.Try T [.ExceptHandler (some (.Name U np)) (some n) (b0::suite) hpos] [] [] tp) (Vg k F Fh):=by
 obtain⟨tb,pb,kb⟩:=hb;refine⟨_,q8 (k:=k) pb hN l I Y,fun δ r h G0 H0 G H σ D R q=>?_⟩;obtain⟨w,h1,h2⟩:=aA.mp h;refine kb δ w h1 G0 H0 G H σ _ _ R ?_;cases w with
 |none=>cases h2;exact fun G' H' R'=>q _ _ _ R'
 |some C=>
  intro G' H' R';refine⟨C,rfl,fun ea=>?_⟩;obtain⟨th,p1,p2⟩:=hs ea;refine⟨th,.hit hg hm hd (hB δ C h1) hk hln p1,fun Z=>?_⟩;obtain⟨o,h3,M⟩:=aA.mp h2;refine p2 _ o h3 G0 H0 _ _ _ _ (((R'.newObj Z).put (show Du _ (cD C) (.ref ea) by unfold cD;exact .inl ⟨ea,C,rfl,rfl,AR⟩)).HL) ?_;cases o with
  |nx δ'=>cases M;exact fun σ4 G4 H4 R4=>q _ _ _ (R4.yC k none)
  |rt v=>cases M
  |bk v=>cases M
  |ct v=>cases M
  |rn v=>cases M
section
variable{k:Nat}{F F1 F2:FB}{Fh:DF}{δ δ':Dv}{fs:AAh}{m:rW}{ds:AAl}{c:AAk} 
def lG(h:F δ=some none):Vg k F Fh δ=some (.nx δ):=by grind
def lq(h:F δ=some (some C))(z:Fh (δ.set k (.d (cD C)))=some bi):Vg k F Fh δ=some (.nx (δ'.set k .no)):=by
 show(F δ).bind _=_;rw[h];show(Fh _).bind _=_;rw[z];rfl
def CU(P:AD->Prop)(F:FB):Prop:=∀δ C,F δ=some (some C)->P C
def CU.at(h:CU P F):∀δ C,F δ=some (some C)->P C:=h
variable{P:AD->Prop}
def CU.nil:CU P MA:=fun δ C h=>by cases h
def CU.seq(U:CU P F1)(T:CU P F2):CU P (Nf F1 F2):=fun δ C h=>by
 obtain⟨I,M,l⟩:=aA.mp h;cases I with
 |none=>exact T δ C l
 |some Y=>cases l;exact U δ _ M
def CU.if(M:CU P F1)(I:CU P F2):CU P (Zl c F1 F2):=fun δ C h=>by
 obtain⟨b,_,l⟩:=aA.mp h;cases b with
 |true=>exact M δ C l
 |false=>exact I δ C l
def CU.call(h:∀ds C,m ds=some (.inr C)->P C):CU P (OJ m fs):=fun δ C z=>by
 obtain⟨w,l,M⟩:=aC.mp z;obtain⟨ds,_,I⟩:=aA.mp l
 grind
end
def nr:PD->PD->Option PD:=fun x y=>(FO x).bind fun t=>(FO y).bind fun u=>if t.deep<=60 then some (.bool (Tr.lt u t)) else none
def Vi(h:FO x=some t)(d:Du G x v):Tv G t v:=by
 cases x with
 |tuple ds=>
  have:=Nr h;subst this;obtain⟨a,xs,rfl,I,l⟩:=d;exact⟨a,xs,rfl,I,Ln l⟩
 |_=>simp[FO]at h
def pI(M:IR):Cz X (compareOp .Gt) nr:=by
 refine⟨_,oz M,fun x y z l G0 H0 G H σ δ ts u v Q R du Y k=>?_⟩;obtain⟨t,U,l⟩:=aA.mp l;obtain⟨I,T,l⟩:=aA.mp l;split at l
 .rename_i hd;cases l;exact⟨t,I,(Vi U du).same R.ins,(Vi T Y).same R.ins,hd,k _ _ _ (R.put Iq)⟩
 lia
end L2
namespace TH
open PySem PyProof.Rows PySem.SeqAt
abbrev Ni(d:AD)(ep n i:Nat):Obj:={ cls:=.type "dict_keyiterator",data:=.fields #[.ref d,.int i 0,.int n 0,.int ep 0]}
section
variable{prog:F0b}{w:F0c}{A:F0d}{E:AAo}{s:SD}{d I:AD}{o:Obj}{es:Array DictEntry}{ep i:Nat}
def jK{Q:Option VL->SD->Prop}{e:DictEntry}(T:s.heap.get? d=some o)(hd:o.data=.dict es ep)(M:s.heap.get? I=some (Ni d ep es.size i))(hx:es[i]? = some e) (h:∀h',h'.get? I=some (Ni d ep es.size SB)->Heap.SameBut I s.heap h'->Q (some e.key) {s with heap:=h'}):wpAny As A (pyNext (.ref I)) Q E s:=by
 have l:s.TypeIs (.ref I) "dict_keyiterator" := ⟨_,M,rfl⟩;unfold pyNext;refine Wb XV;refine Wb (aB (Wb (Wb (Wb (wpAny_typeNameOfWhole_keyiter l ar)))));refine Wb (wpAny_fieldsOf M rfl ?_);have Z:¬(Value.ref d==Value.none)=true:=aK;show wpAny _ _ (if(Value.ref d==Value.none)=true then _ else _) _ _ s;rw[if_neg Z];refine Wb (aB (Wb (wpAny_dictEntries T hd ?_)));rw[if_neg By];refine Wb (aB (Wb (wpAny_dictEpoch T hd ?_)));rw[if_neg By];refine aB ?_;have Y:¬((i:Int)<0):=by lia
 simp only[Y,if_false,Int.toNat_natCast,hx];refine Wb (Wb (wpAny_typeNameOfWhole_keyiter l ar));refine Wb (wpAny_isOneOf_keyiter l ?_);show wpAny _ _ (setField (.ref I) 1 (rawInt ((i:Int)+1))>>=_) _ _ s;refine Wb (wpAny_setField M rfl By ?_);have U:(s.heap.update I (Obj.mapFields (·.setIfInBounds 1 (rawInt ((i:Int)+1))))).get? I=some (Ni d ep es.size SB):=Heap.get?_update_self _ M rfl;refine Wb (aS (Wb (wpAny_isOneOf_keyiter ⟨_,U,rfl⟩ ?_)));show wpAny _ _ (pure e.key) _ _ _;exact aB (aB ⟨_,rfl,wpAny_pure (h _ U (aZ ..))⟩)
def kj{Q:Option VL->SD->Prop}(hh:A.handled=none)(Y:s.heap.get? d=some o)(hd:o.data=.dict es ep)(U:s.heap.get? I=some (Ni d ep es.size es.size)) (h:∀h',Heap.ExtBut I s.heap h'->Q none {s with heap:=h'}):wpAny As A (pyNext (.ref I)) Q E s:=by
 have l:s.TypeIs (.ref I) "dict_keyiterator" := ⟨_,U,rfl⟩;unfold pyNext;refine Wb XV;refine Wb (aB (Wb (Wb (Wb (wpAny_typeNameOfWhole_keyiter l ar)))));refine Wb (wpAny_fieldsOf U rfl ?_);have q0:Builtin.Dict_items.ownsTuple "dict_keyiterator" = false:=by decide
 simp only[q0,Bool.false_eq_true,if_false];have q1:¬(Value.ref d==Value.none)=true:=aK;show wpAny _ _ (if(Value.ref d==Value.none)=true then _ else _) _ _ s;rw[if_neg q1];refine Wb (aB (Wb (wpAny_dictEntries Y hd ?_)));rw[if_neg By];refine Wb (aB (Wb (wpAny_dictEpoch Y hd ?_)));rw[if_neg By];refine aB ?_;have q2:¬((es.size:Int)<0):=by lia
 have Z:es[es.size]? = none:=Array.getElem?_eq_none M0;simp only[q2,if_false,Int.toNat_natCast,Z];refine Wb (Wb (wpAny_typeNameOfWhole_keyiter l ar));show wpAny _ _ (setField (.ref I) 0 .none>>=_) _ _ s;refine Wb (wpAny_setField U rfl By ?_);refine Wb ?_;simp only[newExc,newTuple];refine Wb (ag ?_ (by size_fits));refine Wb (m:=firstArgMember _ _) (wpAny_of_eq (a:=Value.none) (by first|rfl|(simp only[firstArgMember];rfl)) (ag ?_ (by size_fits)));simp only[raiseNew];refine Wb (wpAny_handled ?_);have M:A.in1.handled=none:=hh;rw[M];refine Wb (aB (wpAny_throw ?_));refine Wb (wpAny_isInstance (b:=true) (T := "StopIteration") ⟨_,Heap.get?_push_size _ rfl,rfl⟩ isSubtype_stop ?_);exact aB (h _ (((aZ ..).extBut.push _).push _))
def jl(M:s.heap.get? I=some (Ni d ep es.size i))(h:Q (.ref I) s):wpAny As A (pyIter (.ref I)) Q E s:=by
 have l:s.TypeIs (.ref I) "dict_keyiterator" := ⟨_,M,rfl⟩;exact wpAny_pyIter_slot l F.slot_dict_keyiterator_iter (aT F.slot_dict_keyiterator_iter l F.entry_dict_keyiterator_iter (aB ⟨_,rfl, "dict_keyiterator",_,l,F.slot_dict_keyiterator_next.lookup,h⟩) (F.args_dict_keyiterator_iter_1 _))
def jz(U:(d==sysModules)=false)(l:s.heap.get? d=some o)(T:o.cls=.type "dict")(hd:o.data=.dict es ep)(h:Q Go {s with heap:=s.heap.push (Ni d ep es.size 0)}):wpAny As A (pyIter (.ref d)) Q E s:=by
 have M:s.TypeIs (.ref d) "dict" := ⟨o,l,T⟩;refine wpAny_pyIter_slot M F.slot_dict_iter (aT F.slot_dict_iter M F.entry_dict_iter (Wb (Wb (wpAny_notOrdered_dict M ar))) (F.args_dict_iter_1 _));show wpAny _ _ (Builtin.Dict.showsAll d>>=_) _ _ s;unfold Builtin.Dict.showsAll;rw[if_neg (show ¬_=true by lia)];exact Wb (aB (Wb (wpAny_dictEntries l hd (Wb (wpAny_dictEpoch l hd (Wb (ag (aB ⟨_,rfl, "dict_keyiterator",_,⟨_,Heap.get?_push_size _ rfl,rfl⟩,F.slot_dict_keyiterator_next.lookup,h⟩))))))))
def cS(hh:A.handled=none)(hne:d≠I)(hd:o.data=.dict es ep) :
  Walks prog w A I [I,d] [I] es.size (fun i v=>∃e,es[i]? = some e/\v=e.key) (fun i h=>h.get? I=some (Ni d ep es.size i)/\h.get? d=some o) where
 sub:=fun b hb=>by grind
 frame:=fun _ _ _ x k=>by grind
 item:=fun i s Q E hi x hQ=>by
  have hx:=Array.getElem?_eq_getElem hi;refine jK x.2 hd x.1 hx fun h' g sb=>hQ _ h' s.toks ⟨_,hx,rfl⟩ ⟨g,(sb.2 d hne).trans x.2⟩ fun b u hb e=>?_;rw[sb.2 b fun q=>by grind]
  lia
 done:=fun s Q E x hQ=>kj hh x.2 hd x.1 fun h' eb=>hQ h' s.toks fun b u hb e=>eb b u (fun q=>by grind) e
 self:=fun _ _ _ _ x hQ=>jl x.1 hQ
def kL(hs:(d==sysModules)=false)(hc:o.cls=.type "dict")(hd:o.data=.dict es ep):PySem.W.KdlSrc prog w "dict" d d es.size (fun i v=>∃e,es[i]? = some e/\v=e.key) (fun h=>h.get? d=some o) where
 type:=fun _ ho=>⟨o,ho,hc⟩
 there:=fun _ ho=>⟨aH ho,Heap.lt_size ho⟩
 keep:=fun _ _ ho k=>by grind
 notList:=by decide
 notTuple:=by decide
 hint:=fun _ _ s _ ho h=>PySem.W.kdl_hint_dict ⟨o,ho,hc⟩ h
 iter:=fun A s hh ho=>⟨Ni d ep es.size 0,_,(fun E Q h=>jz hs ho hc hd h),cS hh (aJ (aH ho)) hd,⟨aN _ rfl,Heap.get?_push_of_some _ ho⟩⟩
end
end TH
namespace IT
open PySem PySem.W PyProof.Rows PySem.SeqAt
def Pk(h:Heap)(k:AAx)(v:VL):Prop:=∃(a:AD) (l:List VL),v=.ref a/\h.IsTuple a l.toArray/\Is k l/\k≠[]
def Pk.ext(e:GS.Ext h h')(x:Pk h k v):Pk h' k v:=by
 obtain⟨a,i1,rfl,M,I,l⟩:=x;exact⟨a,i1,rfl,TH.qQ e M,I,l⟩
section
open PySem.MeetsSeq PySem.MeetsSeq2 PySem.MeetsSeq3
variable{prog:F0b}{w:F0c}{A:F0d}{s:SD}
def lt_int(h:Q (decide (x<y)) s):wpAny As A (oneLt' b (.int x t) (.int y u)) Q E s:=by
 cases b with
 |true=>exact oneLt_int h
 |false=>
  exact Wb (wpAny_lt_int (bQ h))
theorem fk{b fin}{Q}:∀x y us vs i,Is x us->Is y vs->fin=decide (x.length<y.length)->Q (lt x y) s->KatLex prog w A b fin Q (us.zip vs) i s
 |[],y,us,vs,i,I,l,hf,q=>by
  subst I;cases y with
  |nil=>rw[hf];exact q
  |cons c y=>rw[hf];exact q
 |a::x,[],us,vs,i,I,l,hf,q=>by
  subst l;rw[List.zip_nil_right,hf];exact q
 |a::x,c::y,us,vs,i,I,l,hf,q=>by
  obtain⟨t,us,rfl,I⟩:=I;obtain⟨M,vs,rfl,l⟩:=l;refine kat_cons (EqAt.int_int a t c M prog w _ _ ?_);rw[lt]at q;by_cases e:a=c
  .rw[if_pos e]at q;rw[beq_iff_eq.mpr e];refine kat_yes (fk x y us vs _ I l (by simp_all) q)
  .rw[if_neg e]at q;rw[beq_eq_false_iff_ne.mpr e];exact kat_no (lt_int q)
def uU(h1:Pk s.heap x u)(h2:Pk s.heap y v)(h:Q (lt x y) s):wpAny As A (keyLt' (tuples' b) u v) Q E s:=by
 obtain⟨a,i1,rfl,Y,T,k3⟩:=h1;obtain⟨a',j1,rfl,U,M,m3⟩:=h2;obtain⟨o,Z,hc,n,hd⟩:=id Y;obtain⟨o2,l,hc2,n2,I⟩:=id U;exact kat_lt Z hd l I (fk x y _ _ 0 T M (by rw[<-T.length,<-M.length];simp) h)
theorem Bi:∀ {us},(∀v∈us,∃x,Pk h x v)->∃fs,KatTups h us fs/\fs.length=us.length/\∀v∈fs,∃n t,v=.int n t
 |[],_=>⟨[],KatTups.nil,rfl,fun _ h=>by cases h⟩
 |v::us,e=>by
  obtain⟨fs,Z,h2,h3⟩:=Bi fun v I=>e v (aW _ I);obtain⟨x,a,T,rfl,M,l,k3⟩:=e v aR;obtain⟨o,U,Y,n,hd⟩:=id M;cases x with
  |nil=>lia
  |cons c x=>
   obtain⟨t,rest,rfl,l⟩:=l;exact⟨.int c t::fs,KatTups.cons U Y hd rfl Z,by grind,fun v I=>by
    grind⟩
def eJ{ks:List AAx}(Z:us.length=ks.length)(Y:∀(i:Nat) x u,ks[i]? = some x->us[i]? = some u->Pk h0 x u):GS.Uu ord prog w h0 0 ks us :=
 ⟨Z,fun κ=>∃b,κ=tuples' b,fun A E s Q I h=>by
  obtain⟨fs,t1,t2,t3⟩:=Bi fun v l=>by
   obtain⟨i,hi,rfl⟩:=List.getElem_of_mem l;exact⟨_,(Y i _ _ (aj AS) (aj hi)).ext I⟩
  by_cases U:us=[]
  .subst U;exact TH.qK (fun v l=>by cases l) (h _ ⟨_,rfl⟩)
  refine kat_kind (T:=.type "int") t1 GM (fun v l=>?_) AC (h _ ⟨_,rfl⟩);obtain⟨n,t,rfl⟩:=t3 v l;exact Looks.now,
  fun A s κ I hr M E i j x y u v Q h1 h2 h3 h4 q=>by
  obtain⟨b,rfl⟩:=M;exact uU ((Y i x u h3 h1).ext I) ((Y j y v h4 h2).ext I) q⟩
end
end IT
namespace GS
open PySem PySem.W PyProof.Rows PySem.SeqAt TH
section
variable{prog:F0b}{w:F0c}{A:F0d}{E:AAo}{s:SD}{us:AAn}
def NZ(hs:(d==sysModules)=false)(ho:s.heap.get? d=some o)(hc:o.cls=.type "dict")(T:o.data=.dict es ep)(hA:A.handled=none) (U:es.toList.map (·.key)=us)(hz:us.length<=1000):IK prog w A E s (.ref d) us:=fun Q h=>by
 have hes:es.size=us.length:=by rw[<-U,Pi,(Wg)]
 refine gather (kL hs hc T) hA ho (by rw[sizeLine_eq];lia) fun h1 tk I Y Z l=>?_;rw[(show I.toList=us by
  rw[<-U];apply bR;intro j;rw[(BG)];by_cases M:j<I.size
  .obtain⟨e,e2,e3⟩:=l.2 j _ (Array.getElem?_eq_getElem M)
   grind
  .rw[List.getElem?_eq_none (by simpa using M),List.getElem?_eq_none (by simpa using (show ¬j<es.size by rw[<-l.1];exact M))]
   rfl)]
 exact h h1 tk Z (ay Y)
end
end GS
namespace L2
open PySem PySem.Spec PyProof.Rows
def nI(H:Hp)(x:V)(Q:VK):Prop:=∃(a:AD) (kvs:List _) (ps:List (List Int)),x=.ref a/\H a=some (.dT kvs)/\kvs.length<=1000/\(∀prog w,GS.Runs IT.ord prog w ps.reverse)/\(∀p∈ps,p≠[])/\kvs.map Hq=ps.map (·.map Sum.inl) /\
 ∀D (L:List (List Int×AD)),H D=none->(L.map Hq).Perm ps->L.Pairwise (fun p q=>IT.ord.kle q.1 p.1)->(∀l∈L,H l.2=some (.tup (l.1.map V.int)))->Q (.ref D) (upd H D (.lst Re))
def fh{X:Cx}{pins:LT}{σ:St}{H:Hp}{s:SD}{Q:VK}(I:BE){x:V}{v:VL}(rx:RelV x v)(hu:IR)(hc:Rs)(q:nI H x Q):wpAny B7 X.A (call (.builtin "sorted") [v] [(Str.ofString "reverse",.bool true)]) (EP X pins σ Q) X.xe s:=by
 obtain⟨a,kvs,ps,rfl,ha,hk,hr,hne,hps,q⟩:=q;cases rx;obtain⟨hz,nd,xs,kt,o,es,ep,r1,r2,r3,r4,r5,r6⟩:=Vf I.Ae ha;have U:ps.length=kvs.length:=by
  have:=ae List.length hps
  simpa using this.symm
 have T:xs.length=kvs.length:=(Paired.length kt).symm
 let M:List (List Int×AD):=ps.zip (xs.map (·.2.1))
 have hL:M.length=kvs.length:=by simp[M,U,T]
 have l1:M.map Hq=ps:=by
  show(ps.zip _).map Prod.fst=ps;exact List.map_fst_zip (by simp[U,T])
 have l2:M.map (·.2)=xs.map (·.2.1):=by
  show(ps.zip _).map Prod.snd=_;exact List.map_snd_zip (by simp[U,T])
 have hkey:es.toList.map (·.key)=M.map fun l=>Value.ref l.2:=by
  have:(M.map fun l=>Value.ref l.2)=(M.map (·.2)).map Value.ref:=by simp
  rw[this,l2];apply bR;intro j;rw[(BG),(SR),entry_at r4 j,(Bb),(BG)];cases xs[j]? <;> rfl
 have hin:∀l∈M,H l.2=some (.tup (l.1.map V.int)):=fun l hl=>by
  obtain⟨j,Z⟩:=bP hl;have h1:(M.map Hq)[j]? = some l.1:=by rw[(BG),Z];rfl
  have h2:(M.map (·.2))[j]? = some l.2:=by rw[(BG),Z];rfl
  rw[l1]at h1;rw[l2,(BG)]at h2;obtain⟨y,hy,e⟩:=aC.mp h2;have hjk:j<kvs.length:=by rw[<-T];exact(aF.mp hy).1
  obtain⟨kv,hkv⟩:∃kv,kvs[j]? = some kv:=⟨kvs[j],by simp[hjk]⟩;have Y:=Ng kt hkv hy;have h3:kv.1=l.1.map Sum.inl:=by
   have:=ae (·[j]?) hps;simp only[List.getElem?_map,hkv,h1]at this;exact af this
  have h4:H y.2.1=some (.tup (kv.1.map kV)):=Y.1 ▸ Y.2.1
  rw[e,h3,gK]at h4;exact h4
 have C:GS.Uu IT.ord X.prog X.w s.heap 0 ps (M.map fun l=>Value.ref l.2):=IT.eJ (by rw[Pi,hL,U]) fun i x u h1 h2=>by
  have h1:(M.map Hq)[i]? = some x:=by rw[l1];exact h1
  rw[(BG)]at h1 h2;obtain⟨l,e1,rfl⟩:=aC.mp h1;rw[e1]at h2;cases h2;have hm:=aL e1;obtain⟨its,v1,Y,_⟩:=I.tuple (A4.of (K:=X.K) (hin l hm));exact⟨_,its,rfl,Y,RM v1,hne _ (l1 ▸ aI.mpr ⟨l,hm,rfl⟩)⟩
 refine GS.Wr (b:=true) ([]:List Int) (GS.NZ (A:=X.A.in1) nd r1 r2.1 r3 (show X.A.in1.handled=none from I.ok.hd hc) hkey (by rw[Pi,hL];exact hk)) C (by rw[Pi,hL];exact hk) (show GS.Runs IT.ord X.prog X.w ps.reverse from hr _ _) AS fun h' D tk ix e1 hD k1 gD Y p2=>?_;rw[Pi]at Y
 let L:List (List Int×AD):=ix.map fun i=>M.getD i ([],0)
 have hix:∀i∈ix,i<M.length:=fun i hi=>List.mem_range.mp (Y.mem_iff.mp hi);have hp:L.Perm M:=by
  have:=Y.map fun i=>M.getD i ([],0);refine this.trans (List.Perm.of_eq ?_);apply bR;intro j;rw[(BG)];by_cases Z:j<M.length
  .rw[List.getElem?_range Z];simp[Z]
  .rw[List.getElem?_eq_none (by simpa using Z),List.getElem?_eq_none (by simpa using Z)]
   rfl
 have e3:ix.map (fun i=>(M.map fun l=>Value.ref l.2).getD i Value.none)=L.map fun l=>Value.ref l.2:=by
  rw[(Bb)];refine ai fun i hi=>?_;have:=hix i hi;simp[this]
 have e4:ix.map (fun i=>ps.getD i [])=L.map Hq:=by
  rw[<-l1,(Bb)];refine ai fun i hi=>?_;have:=hix i hi;simp[this]
 rw[e3]at gD;simp only[if_true]at p2;have p2:(L.map Hq).Pairwise (fun x y:List Int=>IT.ord.kle y x):=e4 ▸ (p2)
 clear_value L
 have e5:(L.map fun l=>Value.ref l.2)=(L.map (·.2)).map Value.ref:=by rw[(Bb)];rfl
 have e6:Re=(L.map (·.2)).map V.ref:=by rw[(Bb)];rfl
 exact⟨.ref D,upd H D (.lst Re),I.laid (t':=tk) k1 hD ⟨by rw[Pi,hp.length_eq,hL];exact hz,L.map (fun l=>Value.ref l.2),e1,by rw[e5,e6];exact N1 _,gD⟩,rfl,q D L (I.Ae.fresh hD) (by rw[<-l1];exact hp.map _) (List.pairwise_map.mp p2) fun l hl=>hin l (hp.mem_iff.mp hl)⟩
def v9(l:TE):TE:=fun σ H Q=>l σ H fun x I=>nI I x Q
def js{p pos kp M}{j}(hu:IR)(hc:Rs)(hg:Gl X "sorted")(hm:X.mg "sorted" = none)(ho:PE X o U) (T:backTo pos (starEach [o] X.env)=(false,eval o X.env)::backTo pos (starEach [] X.env):=by rfl)(l:(backTo pos (starEach [o] X.env)).any Hq=false:=by rfl):PE X (.Call (.Name "sorted" p) [o] [⟨some "reverse",.Constant KK j M,kp⟩] pos) (v9 U):=by
 intro pins s σ H Q I h;refine bF (Fi I hg hm boot_sorted (callWith_kw ?_ T l) AC AC);rw[T];exact bK (Ay (ho pins s σ H _ I h) fun v s1 ⟨x,H1,I1,Y,Z⟩=>Calls.spliced_nil (kws_cons (Constant_bool (kws_nil (fh I1 Y hu hc Z)))))
def nh(H:Hp)(x:V)(Q:VK):Prop:=∃(a:AD) (kvs:List _) (ps:List (List Int)),x=.ref a/\H a=some (.dT kvs)/\kvs.length<=1000/\(∀prog w,GS.Runs IT.ord prog w ps)/\(∀p∈ps,p≠[])/\kvs.map Hq=ps.map (·.map Sum.inl) /\
 ∀D (L:List (List Int×AD)),H D=none->(L.map Hq).Perm ps->L.Pairwise (fun p q=>IT.ord.kle p.1 q.1)->(∀l∈L,H l.2=some (.tup (l.1.map V.int)))->Q (.ref D) (upd H D (.lst Re))
def fX{X:Cx}{pins:LT}{σ:St}{H:Hp}{s:SD}{Q:VK}(I:BE){x:V}{v:VL}(rx:RelV x v)(hu:IR)(hc:Rs)(q:nh H x Q):wpAny B7 X.A (call (.builtin "sorted") [v]) (EP X pins σ Q) X.xe s:=by
 obtain⟨a,kvs,ps,rfl,ha,hk,hr,hne,hps,q⟩:=q;cases rx;obtain⟨hz,nd,xs,kt,o,es,ep,r1,r2,r3,r4,r5,r6⟩:=Vf I.Ae ha;have U:ps.length=kvs.length:=by
  have:=ae List.length hps
  simpa using this.symm
 have T:xs.length=kvs.length:=(Paired.length kt).symm
 let M:List (List Int×AD):=ps.zip (xs.map (·.2.1))
 have hL:M.length=kvs.length:=by simp[M,U,T]
 have l1:M.map Hq=ps:=by
  show(ps.zip _).map Prod.fst=ps;exact List.map_fst_zip (by simp[U,T])
 have l2:M.map (·.2)=xs.map (·.2.1):=by
  show(ps.zip _).map Prod.snd=_;exact List.map_snd_zip (by simp[U,T])
 have hkey:es.toList.map (·.key)=M.map fun l=>Value.ref l.2:=by
  have:(M.map fun l=>Value.ref l.2)=(M.map (·.2)).map Value.ref:=by simp
  rw[this,l2];apply bR;intro j;rw[(BG),(SR),entry_at r4 j,(Bb),(BG)];cases xs[j]? <;> rfl
 have hin:∀l∈M,H l.2=some (.tup (l.1.map V.int)):=fun l hl=>by
  obtain⟨j,Z⟩:=bP hl;have h1:(M.map Hq)[j]? = some l.1:=by rw[(BG),Z];rfl
  have h2:(M.map (·.2))[j]? = some l.2:=by rw[(BG),Z];rfl
  rw[l1]at h1;rw[l2,(BG)]at h2;obtain⟨y,hy,e⟩:=aC.mp h2;have hjk:j<kvs.length:=by rw[<-T];exact(aF.mp hy).1
  obtain⟨kv,hkv⟩:∃kv,kvs[j]? = some kv:=⟨kvs[j],by simp[hjk]⟩;have Y:=Ng kt hkv hy;have h3:kv.1=l.1.map Sum.inl:=by
   have:=ae (·[j]?) hps;simp only[List.getElem?_map,hkv,h1]at this;exact af this
  have h4:H y.2.1=some (.tup (kv.1.map kV)):=Y.1 ▸ Y.2.1
  rw[e,h3,gK]at h4;exact h4
 have C:GS.Uu IT.ord X.prog X.w s.heap 0 ps (M.map fun l=>Value.ref l.2):=IT.eJ (by rw[Pi,hL,U]) fun i x u h1 h2=>by
  have h1:(M.map Hq)[i]? = some x:=by rw[l1];exact h1
  rw[(BG)]at h1 h2;obtain⟨l,e1,rfl⟩:=aC.mp h1;rw[e1]at h2;cases h2;have hm:=aL e1;obtain⟨its,v1,Y,_⟩:=I.tuple (A4.of (K:=X.K) (hin l hm));exact⟨_,its,rfl,Y,RM v1,hne _ (l1 ▸ aI.mpr ⟨l,hm,rfl⟩)⟩
 refine GS.Wq ([]:List Int) (GS.NZ (A:=X.A.in1) nd r1 r2.1 r3 (show X.A.in1.handled=none from I.ok.hd hc) hkey (by rw[Pi,hL];exact hk)) C (by rw[Pi,hL];exact hk) (show GS.Runs IT.ord X.prog X.w ps from hr _ _) AS fun h' D tk ix e1 hD k1 gD Y p2=>?_;rw[Pi]at Y
 let L:List (List Int×AD):=ix.map fun i=>M.getD i ([],0)
 have hix:∀i∈ix,i<M.length:=fun i hi=>List.mem_range.mp (Y.mem_iff.mp hi);have hp:L.Perm M:=by
  have:=Y.map fun i=>M.getD i ([],0);refine this.trans (List.Perm.of_eq ?_);apply bR;intro j;rw[(BG)];by_cases Z:j<M.length
  .rw[List.getElem?_range Z];simp[Z]
  .rw[List.getElem?_eq_none (by simpa using Z),List.getElem?_eq_none (by simpa using Z)]
   rfl
 have e3:ix.map (fun i=>(M.map fun l=>Value.ref l.2).getD i Value.none)=L.map fun l=>Value.ref l.2:=by
  rw[(Bb)];refine ai fun i hi=>?_;have:=hix i hi;simp[this]
 have e4:ix.map (fun i=>ps.getD i [])=L.map Hq:=by
  rw[<-l1,(Bb)];refine ai fun i hi=>?_;have:=hix i hi;simp[this]
 rw[e3]at gD;have p2:(L.map Hq).Pairwise (fun x y:List Int=>IT.ord.kle x y):=e4 ▸ (p2)
 clear_value L
 have e5:(L.map fun l=>Value.ref l.2)=(L.map (·.2)).map Value.ref:=by rw[(Bb)];rfl
 have e6:Re=(L.map (·.2)).map V.ref:=by rw[(Bb)];rfl
 exact⟨.ref D,upd H D (.lst Re),I.laid (t':=tk) k1 hD ⟨by rw[Pi,hp.length_eq,hL];exact hz,L.map (fun l=>Value.ref l.2),e1,by rw[e5,e6];exact N1 _,gD⟩,rfl,q D L (I.Ae.fresh hD) (by rw[<-l1];exact hp.map _) (List.pairwise_map.mp p2) fun l hl=>hin l (hp.mem_iff.mp hl)⟩
def YQ(M:IR)(T:Rs):C6 X (.builtin "sorted") (fun xs H Q=>∃x,xs=[x]/\nh H x Q):=by
 intro pins s σ H xs us Q I r h;obtain⟨x,rfl,q⟩:=h;obtain⟨u,rfl,l⟩:=vals1 r;exact fX I l M T q
def Rg:List Key->Option (List Int)
 |[]=>some []
 |.inl i::r=>(Rg r).map (i :: ·)
 |_=>none
def La:List (List Key)->Option (List (List Int))
 |[]=>some []
 |k::r=>(Rg k).bind fun p=>(La r).map (p :: ·)
theorem Xv:∀ {k} {p},Rg k=some p->k=p.map Sum.inl
 |[],_,h=>by cases h;rfl
 |.inl i::r,p,h=>by
  obtain⟨q,l,rfl⟩:=aC.mp h;rw[Xv l];rfl
 |.inr _::_,_,h=>by cases h
theorem UQ:∀ {ks} {ps},La ks=some ps->ks=ps.map (·.map Sum.inl)
 |[],_,h=>by cases h;rfl
 |k::r,ps,h=>by
  obtain⟨p,M,I⟩:=aA.mp h;obtain⟨q,l,rfl⟩:=aC.mp I;rw[Xv M,UQ l];rfl
def NJ(p q:AAx):Bool:=!(IT.lt q p)
def sortI(ps:List AAx):List AAx:=ps.mergeSort NJ
abbrev tupI(p:List Int):PD:=.tuple (p.map .int)
def Jf(kvs:List (List Key×PD)):AAt:=(La (kvs.map Hq)).bind fun ps=>if ps.length<64/\(ps.all fun p=>decide (p≠[]))=true then some (.list ((sortI ps).map tupI)) else none
def ID:NJ p q=true ↔ IT.ord.kle p q:=by
 show(!_)=true ↔ IT.lt q p=false
 lia
def gW p q r (h:NJ p q=true) (k:NJ q r=true):NJ p r=true:=ID.mpr (KeyOrd.kle_trans (ID.mp h) (ID.mp k))
def fY p q:(NJ p q||NJ q p)=true:=by
 unfold NJ;cases h:IT.lt q p with
 |false=>rfl
 |true=>
  cases k:IT.lt p q with
  |false=>rfl
  |true=>have:=IT.lt_trans _ _ _ h k;rw[IT.lt_irrefl]at this;lia
def sortI_perm ps:(sortI ps).Perm ps:=List.mergeSort_perm ps NJ
def Nu ps:(sortI ps).Pairwise fun p q=>NJ p q=true:=List.pairwise_mergeSort gW fY ps
def kX(h:l.Perm ps)(k:l.Pairwise fun p q=>NJ p q=true):l=sortI ps :=
 (h.trans (sortI_perm ps).symm).eq_of_pairwise (fun p q _ _ M I=>IT.Dk _ _ (ID.mp I) (ID.mp M)) k (Nu ps)
def Cm.keys:∀ {t} {r},Cm G t r->r.map Hq=t.map Hq
 |[],r,h=>by subst h;rfl
 |q::t,r,h=>by
  obtain⟨u,I,rfl,M,l⟩:=h;rw[(BR),(BR),l.keys]
theorem WE:∀ {L:List (List Int×AD)},(∀l∈L,H l.2=some (.tup (l.1.map V.int)))->Ad (L2.Bi G H) (L.map fun l=>tupI l.1) Re
 |[],_=>.nil
 |l::L,h=>by
  refine .cons (⟨l.2,l.1.map V.int,rfl,?_,NB _⟩) (WE fun q I=>by grind);unfold L2.Bi
  grind
section
variable{X:Cx}{j:Nat}{y:Str}{np p pos:Pos}
def kT(hu:IR)(hc:Rs)(hg:Gl X "sorted")(hm:X.mg "sorted" = none)(hv:PE X (.Name y np) (HV j))(M:starEach [.Name y np] X.env=(false,eval (.Name y np) X.env)::starEach [] X.env:=by rfl)(hpl:(backTo pos (starEach [] X.env)).any Hq=false:=by rfl):DE X (.Call (.Name "sorted" p) [.Name y np] [] pos) (fun δ=>(Ea j δ).bind Jf):=by
 refine⟨_,EX (YQ hu hc) hg hm PyProof.Rows.boot_sorted (AV hv Au M) ,fun δ z hz G0 H0 G H σ ts Q R k=>?_⟩;obtain⟨kvs,h1,h2⟩:=aA.mp hz;obtain⟨ad,_,k1,k2,k3,k4,⟨r,rfl,U⟩⟩:=R.own j _ (QU h1);obtain⟨ps,h3,T⟩:=aA.mp h2;split at T
 case isFalse=>cases T
 rename_i I;cases T;have e:=UQ h3;have hl:r.length=ps.length:=by
  simpa[U.len]using (ae List.length e)
 refine⟨.ref ad,k1,.ref ad,rfl,ad,r,ps,rfl,k4,by lia,fun _ _=>GS.He I.1,fun p hp=>ah (bG.mp I.2 p hp),by rw[U.keys];exact e,fun D L hD p1 p2 Z=>?_⟩;have Y:=R.Bi.NC (WE Z) hD;rw[<-(show(sortI ps).map tupI=L.map fun l=>tupI l.1 by
  rw[<-kX p1 (List.pairwise_map.mpr (p2.imp fun h=>ID.mpr h)),(Bb)];rfl)]at Y
 exact k _ _ _ Y
end
def vI{n:Nat}(h:n+64<cLine):n+1<cLine:=by lia
def YO t l items n dd sl (M:items.isEmpty=false):Meets (Builtin.«tuple.__mul__» { pos:=[.ref l,.int 0 t]}) fun _ R s=>s.heap.get? l=some { cls:=.type "tuple",dict:=dd,data:=.seq items n,slots:=sl}/\R (.ok (.ret Go)) {s with heap:=s.heap.push { cls:=.type "tuple",data:=.seq #[]} } :=
 Meets.of_wp fun prog w A R s h=>let⟨I,h⟩:=h;Wb (Wb (aB (aB (Wb (wpAny_tupleItemsOf I rfl (bO AS (Wb (ag (aB ⟨_,rfl,h⟩) (az _)))))))))
section
variable{X:Cx}
def sE:R2:=fun x y H Q=>∃a xs,x=.ref a/\y=.int 0/\H a=some Jl/\xs≠[]/\∀p,H p=none->Q (.ref p) (upd H p (.tup []))
def jZ:CN X (binaryOp .Mult) sE:=by
 intro pins s σ H x y v u Q I Z Y h;obtain⟨a,xs,rfl,rfl,ha,T,q⟩:=h;cases Z;obtain⟨t,rfl⟩:=Y;obtain⟨l,r1,p1,_⟩:=I.tuple (A4.of ha);obtain⟨⟨cls,U,data,sl⟩,M,hc,n,hd⟩:=id p1;subst hc hd;refine wpAny_binaryOp_repeat_ref AC ⟨_,M,rfl⟩ (fun s'=>rfl) Js F.fills_int_mul F.slot_int_rmul N5 F.slot_int_index.lookup
  (call_meets F.slot_int_rmul (typeIs_int s 0 t) F.entry_int_rmul (F.args_int_rmul_2 _ _) (Lk 0 t a l.toArray n U sl) ⟨M,rfl,⟨_,M,rfl⟩,call_meets F.slot_tuple_mul ⟨_,M,rfl⟩ F.entry_tuple_mul (F.args_tuple_mul_2 _ _) (YO t a l.toArray n U sl (show l.toArray.isEmpty=false by
  cases l with
  |nil=>exact absurd (r1.Oi.mp rfl) T
  |cons=>simp)) ⟨M,⟨.ref s.heap.objs.size,_,I.laid (fun b ob q=>aE _ q) M0 ?_,rfl,q _ (I.Ae.fresh M0)⟩⟩⟩)
 exact⟨az _,[],.nil,IsTup.new _ _⟩
def cL:PD->PD->Option PD:=fun x y=>match x,y with|.tuple a,.int k=>(if a.length≠0/\k=0 then some (.tuple []) else none)|_,_=>none
def lE:Cz X (binaryOp .Mult) cL:=by
 refine⟨_,jZ,fun x y z I G0 H0 G H σ δ ts u v Q T du dv k=>?_⟩;unfold cL at I;split at I
 .split at I
  .rename_i U;cases I;obtain⟨p,xs,rfl,Z,Y⟩:=du;subst dv;refine⟨p,xs,rfl,by lia,T.ins _ _ Z,fun z=>U.1 (by rw[<-Y.len,z];rfl),fun l M=>k _ _ _ (T.ba .nil M)⟩
  lia
 lia
def GW:PD->PD->Option PD:=PC ny cL
def lA:Cz X (binaryOp .Mult) GW:=om.or lE
end
section
variable{prog:F0b}{w:F0c}{K:Type}[DecidableEq K]{knd:HeapKind prog w K}{A:F0d}{E:AAo}{s:SD}{d a:AD}{k:K}{xs:List (K×AD×VL)}{dflt:VL}
def Z5(h:∀(j:Nat) p,xs[j]?≠some (k,p)):atKey xs k=none:=by
 unfold atKey;rw[Option.map_eq_none_iff,List.find?_eq_none];intro x l z;obtain⟨j,I⟩:=bP l
 grind
def jC(nd:(xs.map Hq).Nodup){j:Nat}(h:xs[j]? = some (k,p)):atKey xs k=some p:=by
 unfold atKey
 induction xs generalizing j with
 |nil=>grind
 |cons x xs l=>
  grind
def Qr(hr:knd.room A)(hk:knd.is s.heap k a)(hd:s.heap.DictOfH knd d xs)(hsz:xs.length<=sizeLine) (hp:∀p,atKey xs k=some p->Q p.2 {s with toks:=s.toks+knd.draws k}) (ha:atKey xs k=none->∀h',h'.DictOfH knd d (xs++[(k,a,dflt)])->Heap.SameBut d s.heap h'->Q dflt {s with heap:=h',toks:=s.toks+knd.draws k}):wpAny As A (dictSetDefault d KM dflt) Q E s:=by
 obtain⟨o,es,ep,I,h2,U,T,h5,h6⟩:=hd;refine aS (Wb (knd.pyHash hr hk (Wb (wpAny_dictFind_heap hr hk I U T h5 h6 (fun hn=>?_) (fun j p M=>?_)))))
 .refine Wb (aq (Wb (wpAny_updateDictKeys I U ar ?_ ?_)))
  .have Y:=aZ s.heap d (Obj.mapDictKeys fun x=>x.push { hash:=knd.hash k,key:=.ref a,val:=dflt});refine ha (Z5 hn) _ ?_ Y;obtain⟨oc,od,oda,osl⟩:=o;cases U;refine⟨_,es.push _,ep+1,Heap.get?_update_self _ I rfl,h2,rfl,?_,fun x l=>?_,?_⟩
   .rw[Array.toList_push,T,(DJ)];rfl
   .rcases aX.mp l with l|l
    .exact knd.keeps (h5 x l) I rfl Y
    .rw[List.mem_singleton.mp l];exact knd.keeps hk I rfl Y
   .rw[(DJ),List.nodup_append];refine⟨h6,by simp,fun y hy z Z=>?_⟩;have Z:z=k:=by simpa using Z
    intro e;rw[e,Z]at hy;obtain⟨x,l,hxe⟩:=aI.mp hy;obtain⟨j,M⟩:=bP l;exact hn j x.2 (by rw[M,<-hxe])
  .have:=by
    have:=ae List.length T
    simpa using this
   lia
  .simp
 .have he:es[j]? = some (entryOfKey knd (k,p)):=by
   rw[<-(SR),T,(BG),M];rfl
  refine Wb (wpAny_dictEntries I U ?_);rw[he];exact Wb (aq (aB (hp p (jC h6 M))))
def Oq(M:(d==sysModules)=false):MeetsIn prog w (Builtin.«dict.setdefault» { pos:=[.ref d,.ref a,dflt]}) fun A R s => knd.room A.in1/\∃k xs,knd.is s.heap k a/\s.heap.DictOfH knd d xs/\xs.length<=sizeLine /\(∀p,atKey xs k=some p->R (.ok (.ret p.2)) {s with toks:=s.toks+knd.draws k}) /\(atKey xs k=none->∀h',h'.DictOfH knd d (xs++[(k,a,dflt)])->Heap.SameBut d s.heap h'->R (.ok (.ret dflt)) {s with heap:=h',toks:=s.toks+knd.draws k}):=by
 rintro A R s ⟨U,k,xs,hk,hd,l,Y,ha⟩;refine Wb ((fun h=>by
  exact Wb (wpAny_notOrdered_dict hd.typeIs (Wb (aB (Wb (Wb (aB (Wb (aB (aB (Wb (aB (aB h))))))))))))) ?_)
 dsimp only;rw[if_neg AS];refine Wb (Qr U hk hd l (fun p h=>?_) fun h h' I T=>?_)
 .exact aB (Y p h)
 .exact aB (ha h h' I T)
end
def jE{σ:St}(hu:A.units+1<cLine)(I:BE)(e:H a=some (.dT kvs))(eb:H b=some (.tup (k.map kV)))(hl:kvs.length<sizeLine)(rz:RelV z r) (hp:∀v Y s',Cs kvs k=some v->Inv X pins σ H s'->RelV v Y->Q Y s')(ha:Cs kvs k=none->∀s',Inv X pins σ (upd H a (.dT (kvs++[(k,z)]))) s'->Q r s'):wpAny B7 A (call (.builtin "dict.setdefault") [.ref a,.ref b,r]) Q E s:=by
 obtain⟨zz,hd,xs,rel,dd⟩:=Vf I.Ae e;have T:=rel.val k;refine call_meetsIn PySem.F.slot_dict_setdefault dd.typeIs PySem.F.entry_dict_setdefault (PySem.F.args_dict_setdefault_3 _ _ _) (Oq hd) ⟨tupleKind_room_in1 hu,k,xs,NN I.Ae eb,dd,(show xs.length<=sizeLine by rw[<-Paired.length rel];exact zz),fun p h=>?_,fun h h' U sb=>?_⟩
 .rw[h]at T;cases l:Cs kvs k with
  |none=>rw[l]at T;exact T.elim
  |some v=>rw[l]at T;exact hp v _ _ l (I.tok _) T
 .have l:Cs kvs k=none:=by
   cases l:Cs kvs k with
   |none=>rfl
   |some v=>rw[l,h]at T;exact T.elim
  refine ha l _ ?_;obtain⟨q,es,ep,Z,h2,h3,h4,_,h5⟩:=U;have M:=rel.put k eb rz;rw[lj _ l,storedH_new h]at M;refine Sa I (by rw[e];exact True.intro) sb ⟨q,Z⟩ ⟨by rw[(Ck),(Wh)];lia,hd,_,M.keeps fun c ys ec=>?_,q,es,ep,Z,h2,h3,h4,h5⟩;rw[AN (nQ ec e NE)];exact ec
def qV(T ty M:TE):TE:=fun σ H Q=>T σ H fun x I=>∃a,x=.ref a/\ux I a/\ty σ I fun y U=>M σ U fun z l=>∃kvs k b,l a=some (.dT kvs)/\y=.ref b/\l b=some (.tup (k.map kV))/\kvs.length<sizeLine /\
 (∀v,Cs kvs k=some v->Q v l)/\(Cs kvs k=none->Q z (upd l a (.dT (kvs++[(k,z)]))))
def dj(hu:X.A.units+1<cLine)(ho:PE X o td)(he:PE X e ty)(hf:PE X f Z)(m:M2 X o "setdefault" apos e f cpos):PE X (.Call (.Attribute o "setdefault" apos) [e,f] [] cpos) (qV td ty Z):=by
 intro pins s σ H Q I h;refine wpAny_Call_method m.base m.BI m.line PySem.F.plainAttrs_dict PySem.F.slot_dict_setdefault PySem.F.type_dict_setdefault (Ay (ho pins s σ H _ I h) fun u s1 ⟨x,H1,Y,rx,a,ex,d,q1⟩=>?_);subst ex;obtain rfl:u=Value.ref a:=rx;obtain⟨t1,t2,_⟩:=iq Y d;refine⟨t1,t2,?_⟩;rw[m.trees];refine Calls.callWith_builtin rfl (Calls.evalArgs_plain (bK (Ay (he pins s1 σ H1 _ Y q1) fun iv s2 ⟨y,H2,I2,ry,q2⟩=>
  bK (Ay (hf pins s2 σ H2 _ I2 q2) fun fv s3 ⟨z,H3,I3,U,kvs,k,b,ea,ey,eb,hl,q3,q4⟩=>Calls.spliced_nil ?_))))
 subst ey;obtain rfl:iv=Value.ref b:=ry;exact jE hu I3 ea eb hl U (fun v w' s4 l T M=>⟨v,H3,T,M,q3 v l⟩) fun l s4 T=>⟨z,_,T,U,q4 l⟩
end L2
namespace HT
open PySem PyProof.Rows
def M1{lo hi}(l:IsTup s.heap t items)(U:s.heap.IsSliceOf sl Z Y .none)(pl:IsPart Z lo)(pu:IsPart Y hi) (T:Bw items.size 0 lo=0/\Bw items.size items.size hi=items.size)(h:Q (.ref t) s):wpAny As A (getItem (.ref t) (.ref sl)) Q E s:=by
 obtain⟨os,I,M,hds⟩:=id U;unfold getItem
 try with_reducible refine aS ?_
 refine Wb (wpAny_sequenceKey l.typeIs AC ?_);refine Wb (aa l.typeIs bM
  (aT bM l.typeIs entry_tuple_getitem ?_ (args_tuple_getitem _ _)))
 show wpAny _ _ (Builtin.Tuple.tupleItemsOf (.ref t)>>=_) _ _ s;refine Wb (tupleItemsOf_ l ?_);refine Wb (wpAny_typeOf (⟨os,I,M⟩) (Wb (KW U pl pu ?_)));show wpAny _ _ (if _=true then _ else _) _ _ s;rw[if_pos (by rw[T.1,T.2];simp)];refine Wb ?_;refine Wb (wpAny_typeOf l.typeIs ar)
 first
  |exact Wb (aq (aB ⟨_,rfl,wpAny_pure h⟩))
  |exact Wb _
end HT
namespace L2
open PySem PySem.Spec PyProof.Rows
def nU(K:Fg):V->Option Int->Option Int->Hp->VK->Prop:=fun x lo hi H Q=>∃a xs,x=.ref a/\A4 K H a xs /\
 (W1->Q KM H)/\(¬W1->∀p,H p=none->Q (.ref p) (upd H p (.tup (MV xs lo hi))))
def pP:Ud X (nU X.K):=by
 intro pins s σ H x v vl vu lo hi sl Q I T hs Y U h;obtain⟨a,xs,rfl,Z,q1,q2⟩:=h;by_cases M:HT.Bw xs.length 0 lo=0/\HT.Bw xs.length xs.length hi=xs.length
 .cases T;obtain⟨l,r,ht,hz⟩:=I.tuple Z;exact⟨"tuple",_,PyProof.Rows.slot_tuple_getitem.lookup,ht.typeIs,HT.M1 ht hs Y U (by rw[(show l.toArray.size=xs.length by exact r.length.symm)];lia) ⟨.ref a,H,I,rfl,q1 M⟩⟩
 .exact gM pins s σ H _ v vl vu lo hi sl Q I T hs Y U ⟨a,xs,rfl,Z,M,q2 M⟩
section
variable{X:Cx}
abbrev RA(i:Nat)(g h:L0):Dv->Option PD:=fun δ=>(g δ).bind fun k=>(h δ).bind fun u=>(Ea i δ).bind fun kvs=>(MY k).map fun q=>(LO kvs q).getD u
def j6(hu:X.A.units+1<cLine)(l:PE X Iv (HV i))(hk:DE X a g)(hd:DE X c h)(m:M2 X Iv "get" ap a c cp:=by exact⟨rfl,rfl,rfl,rfl⟩):DE X (.Call (.Attribute Iv "get" ap) [a,c] [] cp) (RA i g h):=by
 obtain⟨tk,Y,kk⟩:=hk;obtain⟨td,Z,kd⟩:=hd;refine⟨_,ja hu l Y Z m,fun δ z hz G0 H0 G H σ ts Q U k=>?_⟩;obtain⟨y,h1,I⟩:=aA.mp hz;obtain⟨u,h3,I⟩:=aA.mp I;obtain⟨kvs,h4,h5⟩:=aA.mp I;obtain⟨ks,h6,rfl⟩:=aC.mp h5;have hi:=QU h4;obtain⟨ad,_,T,k2,k3,k4,⟨r1,rfl,k5⟩⟩:=U.own i _ hi;refine⟨.ref ad,T,ad,rfl,.inr ⟨_,.inl k4⟩,kk δ _ h1 G0 H0 G H σ ts _ U fun v G1 H1 R1=>kd δ _ h3 G0 H0 G1 H1 σ _ _ R1 fun w G2 H2 R2=>?_⟩;obtain⟨b,rfl,hb⟩:=SV (R2.BC (y,v) (.tail _ Da)) h6;obtain⟨ad',_,M,m2,m3,m4,⟨r2,rfl,m5⟩⟩:=R2.own i _ hi;rw[T]at M;cases M;refine⟨_,KH.t m4 (R2.ins _ _ hb),k _ _ _ (R2.drop.drop.put ?_)⟩;have l:=m5.val (k:=ks);split at l
 .rename_i d e;obtain⟨v',n1,n2⟩:=l;rw[n1,e];exact n2
 .rename_i e;rw[l,e];exact R2.BC (u,w) Da
end
def VW(i:Nat)(δ:Dv):Option D8:=match δ[i]? with
 |some (.own (.Er g _))=>some g
 |_=>none
def tI(h:VW i δ=some g):∃p,δ[i]? = some (.own (.Er g p)):=by
 unfold VW at h
 grind
def Ug(m:List PD->D8->Option PD):Sp:=fun vs H Q _=>∃ds x G d us g o,vs=us++[.ref d]/\m ds g=some x/\Ad G ds us/\AI G H/\H d=some o/\g.ok G d o/\G d=none /\
 ∀v G' H' o',AI G G'->Nw G H G'->AI G' H'->AI (less H d) H'->H' d=some o'->g.ok G' d o'->G' d=none->Du G' x v->Q v H'
structure eu(X:Cx)(i:Nat)(es:List Expr)(f:Dv->Option (List PyData)):Prop where
 ex:∃t,PA X es t/\∀δ xs,f δ=some xs->∀G0 H0 G H σ ts (Q:List V->Hp->Prop),Rw G0 H0 G H σ δ ts->(∀ad,σ[i]? = some (some (.ref ad))->∀vs G' H',Rw G0 H0 G' H' σ δ (xs.zip vs++ts)->vs.length=xs.length->Q (vs++[.ref ad]) H')->(∃ad,σ[i]? = some (some (.ref ad)))->t σ H Q
section
variable{X:Cx}{e:Expr}{es:AA0}{f:AAi}{fs:AAh}{pos p:Pos}{i:Nat}{y:Str}
def p5(l:PE X (.Name y p) (HV i))(I:starEach [.Name y p] X.env=(false,eval (.Name y p) X.env)::starEach [] X.env:=by rfl):eu X i [.Name y p] (fun _=>some []) :=
 ⟨_,AV l Au I,fun δ xs h G0 H0 G H σ ts Q M k ⟨ad,ha⟩=>by cases h;exact⟨.ref ad,ha,k ad ha [] G H (by simp_all) rfl⟩⟩
def jV(ha:DE X e f)(Z:eu X i es fs)(Y:starEach cr X.env=EQ::starEach es X.env:=by rfl):eu X i cr (fun δ=>(f δ).bind fun x=>(fs δ).map fun xs=>x::xs):=by
 obtain⟨ta,I,T⟩:=ha;obtain⟨tr,pr,M⟩:=Z;refine⟨_,AV I pr Y,fun δ z U G0 H0 G H σ ts Q R0 k hi=>?_⟩;obtain⟨x,h1,h2⟩:=aA.mp U;obtain⟨xs,h3,rfl⟩:=aC.mp h2;refine T δ x h1 G0 H0 G H σ ts _ R0 fun u G1 H1 R1=>M δ xs h3 G0 H0 G1 H1 σ _ _ R1 (fun ad l vs G2 H2 R2 hl=>k ad l (u::vs) G2 H2 (R2.less fun q hq=>?_) GM) hi;simp at hq ⊢
 lia
abbrev KQ(i:Nat)(m:List PD->D8->Option PD)(fs:Os):Dv->Option PD:=fun δ=>(fs δ).bind fun ds=>(VW i δ).bind fun g=>m ds g
def kz{k:Nat}{fA:AD}{x:Str}{st:Stmt}(T:Fn X.K X.mg x st ps fA fd)(F:Af X.prog X.w X.K X.mg X.base Ac k fA fd ps (Ug m))(hr:Bh k X.A)(hg:Gl X x)(ha:eu X i cr fs) (Z:(x==("__debug__" : Str))=false:=by decide)(he:starEach cr X.env=EQ::starEach es X.env:=by rfl)(Y:(backTo pos ON).any Hq=false:=by rfl):DE X Cl (KQ i m fs):=by
 obtain⟨ta,pa,ka⟩:=ha;refine⟨_,EW T F hr hg pa Z he Y,fun δ z hz G0 H0 G H σ ts Q R0 k=>?_⟩;obtain⟨xs,h1,h2⟩:=aA.mp hz;obtain⟨g,h3,h4⟩:=aA.mp h2;obtain⟨pn,hi⟩:=tI h3;obtain⟨a0,_,w1,_⟩:=R0.own i _ hi;refine ka δ _ h1 G0 H0 G H σ ts _ R0 (fun ad l vs G1 H1 R1 hv=>?_) ⟨a0,w1⟩;obtain⟨dv,R2⟩:=R1.args hv;obtain⟨d,o,k1,k2,k3,k4,k5⟩:=R2.own i _ hi;rw[l]at k1;cases k1;refine⟨xs,z,G1,ad,vs,g,o,List.append_nil _,h4,dv,R2.ins,k4,k5.1,k2,fun v G' H' o' I e2 e3 e4 e5 e6 e7 e8=>k _ _ _ (Rw.put ?_ e8)⟩;have hH:∀b u,b≠ad->H1 b=some u->H' b=some u:=fun b u n h=>e4 _ _ (by rw[Cg n];exact h);refine⟨R2.ext.trans I,fun b u h=>?_,e3,fun b u h=>?_,R2.len,fun j u h=>?_,fun j c h=>?_,R2.apart,fun q hq=>(R2.BC q hq).same I⟩
 .rcases e2 b u h with w|w|w
  .exact R2.new b u w
  .right;left
   cases q:H0 b with
   |none=>rfl
   |some _=>rw[R2.keep _ _ q]at w;cases w
  .exact .inr (.inr w)
 .exact hH b u (fun w=>by subst w;rw[k3]at h;cases h) (R2.keep _ _ h)
 .obtain⟨v,n1,U⟩:=R2.dat j u h;exact⟨v,n1,U.same I⟩
 .by_cases w:j=i
  .subst w;rw[hi]at h;cases h;exact⟨ad,o',l,e7,k3,e5,e6,k5.2⟩
  .obtain⟨b,ob,n1,U,n3,M,n5⟩:=R2.own j c h;have nb:b≠ad:=fun q=>by subst q;exact R2.apart j i _ _ w h hi (n1.trans l.symm)
   refine⟨b,ob,n1,?_,n3,hH _ _ nb M,n5.same I⟩;cases q:G' b with
   |none=>rfl
   |some u=>
    rcases e2 b u q with r|r|⟨us,r⟩
    .rw[U]at r;cases r
    .rw[M]at r;cases r
    .have:=e3 _ _ q;rw[hH _ _ nb M,r]at this;cases this;exact n5.P8.elim
abbrev lJ(i:Nat)(g:Dv->D8):DF:=fun δ=>some (.nx (δ.set i (.own (.Er (g δ) none))))
def qA(h0:∀δ G a,(g δ).ok G a (dN a []))(Y:X.N.Nodup)(hi:X.N[i]? = some y)(M:Loc X.env.scope y)(T:swapsWith (.Dict [] [] dp) (some (.Name y I)) pos.line X.env=pure false:=by rfl)(hf:X.fn y=true\/X.env.scope.names.lookup y=some .local:=by first|exact .inl rfl|exact .inr rfl|assumption):DS X (.Assign [.Name y I] (.Dict [] [] dp) pos) (lJ i g) :=
 ⟨_,A0 Y hi M Xj T hf,fun δ r h G0 H0 G H σ D R q=>by
  cases h;exact fun l U=>q _ _ _ (R.Rx ⟨h0 δ G l,fun _ z=>nomatch z⟩ U)⟩
end
def Wj(N:AAy)(ds:AAl)(g:D8)(d:AD):Dv:=(ds.map .d++[.own (.Er g (some d))])++List.replicate (N.length-(ds.length+1)) .no
def jq(ps N:AAy)(F:DF)(f:AAi)(ds:AAl)(g:D8)(x:PD):Prop:=ds.length+1=ps.length/\∀d,∃δ,F (Wj N ds g d)=some (.nx δ)/\δ[ds.length]? = some (.own (.Er g (some d)))/\f δ=some x
open Classical in
noncomputable def P0(ps N:AAy)(F:DF)(f:AAi)(ds:AAl)(g:D8):AAt:=if h:∃x,jq ps N F f ds g x then some (Classical.choose h) else none
def oY(h:jq ps N F f ds g x):P0 ps N F f ds g=some x:=by
 have e:∃x,jq ps N F f ds g x:=⟨x,h⟩;unfold P0;rw[dif_pos e];obtain⟨δ,T,_,M⟩:=h.2 0;obtain⟨δ',I,_,l⟩:=(bE e).2 0
 lia
def Rw.se{N:AAy}{ds:AAl}{us:ABC}{G H:Hp}{g:D8}{d:AD}{o:HO}(du:Ad G ds us)(e:AI G H)(hd:H d=some o)(hg:g.ok G d o)(hG:G d=none):Rw G (L2.less H d) G H (L2.start N (us++[.ref d])) (Wj N ds g d) []:=by
 have T:=du.len;have Y:AI (L2.less H d) H:=fun b u h=>by
  by_cases n:b=d
  .subst n;rw[Gu]at h;cases h
  .rwa [Cg n]at h
 have at_:∀(i:Nat) (l:L),(Wj N ds g d)[i]? = some l->l=.no\/(∃x v,l=.d x/\(L2.start N (us++[.ref d]))[i]? = some (some v)/\Du G x v)\/i=ds.length/\l=.own (.Er g (some d))/\(L2.start N (us++[.ref d]))[i]? = some (some (.ref d)):=fun i l h=>by
  unfold Wj at h;unfold L2.start;rw[List.getElem?_append]at h;split at h
  .rename_i I;rw[List.getElem?_append_left (by simpa[T]using I),(BG)];rw[List.getElem?_append]at h;split at h
   .rename_i M;rw[(BG)]at h;obtain⟨x,h3,rfl⟩:=aC.mp h;obtain⟨v,U,h5⟩:=du.get h3;exact .inr (.inl ⟨x,v,rfl,by rw[List.getElem?_append_left (aF.mp U).1,U];rfl,h5⟩)
   .rename_i M;have:i=ds.length:=by simp at I M;lia
    subst this;simp at h;exact .inr (.inr ⟨rfl,h.symm,by rw[<-T];simp⟩)
  .rw[List.getElem?_replicate]at h;split at h
   .cases h;exact .inl rfl
   .cases h
 refine⟨AI.refl _,Nw.refl,e,Y,by simp[L2.start,Wj,T],fun i x h=>?_,fun i c h=>?_,fun i j c c' n I M=>?_,fun q Z=>by cases Z⟩
 .rcases at_ i _ h with h|⟨y,v,h,I,M⟩|⟨_,h,_⟩
  .cases h
  .cases h;exact⟨v,I,M⟩
  .cases h
 .rcases at_ i _ h with h|⟨y,v,h,_⟩|⟨_,h,I⟩
  .cases h
  .cases h
  .cases h;exact⟨d,o,I,hG,Gu,hd,hg,fun q z=>by cases z;rfl⟩
 .rcases at_ i _ I with h|⟨y,v,h,_⟩|⟨e1,h,_⟩
  .cases h
  .cases h
  .rcases at_ j _ M with h|⟨y,v,h,_⟩|⟨e2,h,_⟩
   .cases h
   .cases h
   .exact absurd (e1.trans e2.symm) n
structure TQ(X:Cx)(sts:List Stmt)(F:DF)(f:Dv->Option PyData):Prop where
 ex:∃t,HC X sts t/\∀δ δ' x,F δ=some bi->f δ'=some x->∀G0 H0 G H σ D,Rw G0 H0 G H σ δ []->(∀σ' v G' H',Rw G0 H0 G' H' σ' δ' [(x,v)]->D.rt v H')->t D σ H
def qU(l:DE X e f):TQ X [.Return (some e) pos] (fun δ=>some (.nx δ)) f:=by
 obtain⟨t,p,k⟩:=l;refine⟨_,A8 (Ds p),fun δ δ' x h I G0 H0 G H σ D R q=>?_⟩;cases h;exact k δ x I G0 H0 G H σ [] _ R fun v G' H' M=>by grind
def jD{st}(Y:DS X st F1)(U:TQ X sts F2 f):TQ X (st::sts) (AL F1 F2) f:=by
 obtain⟨t1,M,T⟩:=Y;obtain⟨t2,I,k2⟩:=U;refine⟨_,Ai M I,fun δ δ' x h hx G0 H0 G H σ D R k=>?_⟩;unfold AL at h;split at h
 .rename_i l Z;exact T δ _ Z G0 H0 G H σ _ R fun σ' G' H' R'=>by grind
 lia
def okG{K}{st}(T:Fn K mg x st ps fA fd)(S:BQ N ps (AW st)) (hb:∀cdv A outer s H E,Bh k IS->TQ (B5 Ac P w K mg base N x (AW st) fA cdv A outer s H E).Eh (CB st) F f):Af P w K mg base Ac (k+1) fA fd ps (Ug (P0 ps N F f)):=by
 refine T.F.ok S On fun cdv A outer s H vs Q E hr h=>?_
 .obtain⟨ds,y,G,d,us,g,o,rfl,l,I,_⟩:=h;unfold P0 at l;split at l
  .rename_i e;simp[I.len,((bE e).1)]
  .cases l
 .obtain⟨ds,y,G,d,us,g,o,rfl,l,I,h3,h4,h5,h6,h7⟩:=h;obtain⟨t,p,U⟩:=hb cdv A outer s H E hr;refine⟨t,p,?_⟩;unfold P0 at l;split at l
  .rename_i e;cases l;obtain⟨δ,e1,hd,e2⟩:=(bE e).2 d;refine U _ _ _ e1 e2 G _ G H _ _ (Rw.se I h3 h4 h5 h6) fun σ' v G2 H2 R2=>?_;obtain⟨d',o',k1,M,k3,k4,Z,Y⟩:=R2.own _ _ hd;have:=Y d rfl;subst this;refine h7 v G2 H2 o' R2.ext (fun b u z=>?_) R2.ins R2.keep k4 Z M (R2.BC _ Da);by_cases n:b=d'
   .subst n;rw[M]at z;cases z
   .rcases R2.new b u z with w|w|w
    .exact .inl w
    .rw[Cg n]at w;exact .inr (.inl w)
    .exact .inr (.inr w)
  .cases l
structure At(P:Program)(w:World)(K:Fg)(mg:Str->Option Value)(base:Heap)(x:Str)(st:Stmt)(ps:List Str)(fA:Addr)(fd:FuncData)(CX:Jr)(k:Nat)(sp:Sp):Prop where
 t:Fn K mg x st ps fA fd
 f:Af P w K mg base CX k fA fd ps sp
section
variable{P:F0b}{w:F0c}{K:Fg}{mg:AAs}{base:Heap}{x:Str}{st:Stmt}{fA:AD}{fd:F0a}{N ps:AAy}{k:Nat}
def At.up(a:At P w K mg base x st ps fA fd CX j sp)(h:j<=k):Af P w K mg base CX k fA fd ps sp:=a.f.mono h
def D5{sc}(a:sc.kind=.function:=by rfl)(b:sc.isCoroutine=false:=by rfl)(c:sc.isGenerator=false:=by rfl)(d:N.Nodup:=by decide +kernel)(e:N.take ps.length=ps:=by rfl)(f:∀x∈ps,sc.names.lookup x=some .local\/sc.names.lookup x=some .cell:=by decide +kernel)(g:∀y∈sc.names,y.2≠.free:=by decide +kernel):BQ N ps sc:=⟨a,b,c,d,e,f,g⟩
def Zn(T:Fn K mg x st ps fA fd):At P w K mg base x st ps fA fd Ac (k+1) (Aw fun _=>none):=⟨T,N4 fun _ _ _ _ ⟨_,_,_,h,_⟩=>by lia⟩
variable(T:Fn K mg x st ps fA fd)(S:BQ N ps (AW st))
include T S
theorem Xb(hb:BQ N ps (AW st)->∀cdv A outer s H E,Bh k IS->KO (B5 Ac P w K mg base N x (AW st) fA cdv A outer s H E).Eh (CB st) F):At P w K mg base x st ps fA fd Ac (k+1) (Aw (Av ps N F)):=⟨T,okD T S (hb S)⟩
theorem mkN(hb:BQ N ps (AW st)->∀cdv A outer s H E,Bh k IS->KO (B5 Ac P w K mg base N x (AW st) fA cdv A outer s H E).Eh (CB st) F):At P w K mg base x st ps fA fd Ac (k+1) (mS (Po ps N F)):=⟨T,okN T S (hb S)⟩
theorem Nl(hb:BQ N ps (AW st)->∀cdv A outer s H E,Bh k IS->M9 (B5 (CO P w) P w K mg base N x (AW st) fA cdv A outer s H E) E (CB st) J):At P w K mg base x st ps fA fd (CO P w) (k+1) (FW (D7 ps N J)):=⟨T,okX T S (hb S)⟩
theorem mkG(hb:BQ N ps (AW st)->∀cdv A outer s H E,Bh k IS->TQ (B5 Ac P w K mg base N x (AW st) fA cdv A outer s H E).Eh (CB st) F f):At P w K mg base x st ps fA fd Ac (k+1) (Ug (P0 ps N F f)):=⟨T,okG T S (hb S)⟩
end
end L2
namespace Q45
open PySem L2
abbrev JB:Stmt:=top 9
abbrev ER:Stmt:=top 15
abbrev HK:Stmt:=top 16
abbrev HZ:Stmt:=top 17
abbrev L4:Stmt:=top 18
abbrev RX:Stmt:=top 31
abbrev MU:Stmt:=top 32
abbrev Jg:Stmt:=top 33
abbrev Np:Stmt:=top 57
abbrev Sj:Stmt:=top 58
abbrev Mu:Stmt:=top 59
abbrev YG:Stmt:=top 60
abbrev O6:Stmt:=top 83
def cM:Sp:=fun vs H Q _=>∃a b,vs=[.int a,.int b]/\Q (.int (FM.gi a b)) H
def cj:Sp:=fun vs H Q _=>∃t b m,vs=[.int t,.int b]/\b≠0/\m<=9000/\b.natAbs<2^m/\∀l H',AI H H'->H' l=some (.tup (MK (Rat.divInt t b)))->Q (.ref l) H'
section
variable{P:F0b}{w:F0c}{K:Fg}{mg:AAs}{base:Heap}{f g:AD}{fd gd:F0a}
def M6:BQ ["one","other","greater","lesser","rest"] PP (AW ER):=D5
def yz(σ:St):Nat:=match σ[3]? with|some (some (V.int l))=>l.natAbs|_=>0
def M3(F:Fn K mg "greatest_divisor" ER PP f fd)(JZ:mg "abs" = none):Af P w K mg base Ac 1 f fd PP cM:=by
 have sc:=M6;refine F.F.ok (k:=0) sc On (fun cdv A outer s H vs Q E Y h=>?_)
 .obtain⟨a,b,rfl,_⟩:=h
  rfl
 obtain⟨a,b,rfl,q⟩:=h;refine⟨_,(Ai (A0 (i:=2) sc.nd rfl IN (EX L3 rfl JZ bX (AV (pv 0) Au)))
 (Ai (A0 (i:=3) sc.nd rfl IN (EX L3 rfl JZ bX (AV (pv 1) Au)))
 (Ai (QM bC (Dg nR (pv 3) Bu (FC _))
  (Ai (A0 (i:=4) sc.nd rfl IN (DQ SN (pv 2) (pv 3)))
  (Ai (A0 (i:=2) sc.nd rfl IN (pv 3))
  (A8 (A0 (i:=3) sc.nd rfl IN (pv 4))))))
 (A8 (Ds (pv 2)))))),?_⟩
 refine⟨_,rfl,_,rfl,_,rfl,_,rfl,?_⟩;refine QO (fun σ H'=>∃g l r,σ=[some (.int a),some (.int b),some (.int g),some (.int l),r]/\H=H'/\Int.gcd g l=Int.gcd a b/\0<=g/\0<=l) (fun σ _=>yz σ) ?_ ?_ ?_
 .exact⟨_,_,_,rfl,rfl,FM.ZV a b,FM.abs_nonneg a,FM.abs_nonneg b⟩
 .rintro σ H' ⟨g,l,r,rfl,rfl,hg,h0,M⟩;refine⟨_,rfl,rfl,_,rfl,MB (fun c=>?_) (fun c=>?_)⟩
  .have I:l≠0:=fun z=>by subst z;simp at c
   refine⟨_,rfl,_,rfl,_,_,rfl,rfl,I,_,rfl,_,rfl,⟨_,_,_,rfl,rfl,?_,M,FM.fmod_nonneg I M⟩,?_⟩
   .rw[FM.XZ];exact hg
   .exact FM.UI g l I
  .have I:l=0:=by simpa using c
   subst I;refine⟨_,rfl,?_⟩;rw[FM.gJ hg h0];exact q
 .exact fun σ H Q Z T ⟨v,e,s,k,U,q⟩=>⟨v,e,s,k,U,T _ _ q⟩
def TN:BQ ["top","bottom","shared"] ["top","bottom"] (AW JB):=D5
def SE(F:Fn K mg "fraction_of" JB ["top","bottom"] f fd)(Bk:Fn K mg "greatest_divisor" ER PP g gd) (Y:Af P w K mg base Ac 1 g gd PP cM):Af P w K mg base Ac 2 f fd ["top","bottom"] cj:=by
 have sc:=TN;refine F.F.ok (k:=1) sc On (fun cdv A outer s H vs Q E T h=>?_)
 .obtain⟨t,b,m,rfl,_⟩:=h
  rfl
 obtain⟨t,b,m,rfl,hb,hm,M,q⟩:=h;refine⟨_,(Ai (IY (Dg mj (pv 1) Bu (FC _))
  (A8 jm)
  FJ)
 (Ai (A0 (i:=2) sc.nd rfl IN (EW Bk Y T rfl (AV (pv 0) (AV (pv 1) Au))))
 (Ai (IY (Dg dJ (pv 1) Bu (FC _))
  (A8 (A0 (i:=2) sc.nd rfl IN (oE fL (pv 2))))
  FJ)
 (A8 (Ds (NR (AV (DQ Gq (pv 0) (pv 2)) (AV (DQ Gq (pv 1) (pv 2)) Au)))))))),?_⟩
 refine⟨_,rfl,rfl,_,rfl,MB (fun c=>absurd c (by simpa using hb)) (fun _=>?_)⟩;refine⟨_,rfl,_,rfl,t,b,rfl,?_⟩
 try dsimp only[Ct]
 refine Pd (fun σ' H'=>σ'=[some (.int t),some (.int b),some (.int (FM.gs t b))]/\H=H') (fun nx hn=>?_) ?_
 .refine⟨_,rfl,_,_,rfl,rfl,_,rfl,MB (fun c=>?_) (fun c=>?_)⟩
  .have l:b<0:=ah c;refine⟨_,rfl,_,rfl,hn _ _ ⟨?_,rfl⟩⟩;unfold FM.gs;rw[if_pos l]
   rfl
  .have l:¬b<0:=bL (bH.mpr c);refine hn _ _ ⟨?_,rfl⟩;unfold FM.gs;rw[if_neg l]
   rfl
 .rintro σ' H' ⟨rfl,rfl⟩;have h0:FM.gs t b≠0:=FM.mV hb;have I:(FM.gs t b).natAbs<2^m:=aP (FM.nu hb) M;refine⟨_,rfl,_,rfl,_,_,rfl,rfl,⟨h0,m,hm,I⟩,_,rfl,_,rfl,_,_,rfl,rfl,⟨h0,m,hm,I⟩,oI,fun p U=>?_⟩;refine q p _ (Aj U _) ?_;rw[AR];show some (HO.tup [V.int (t.fdiv (FM.gs t b)),V.int (b.fdiv (FM.gs t b))])=_;rw[FM.Xw hb,FM.Xy hb]
  rfl
end
def mZ:Sp:=fun vs H Q _=>∃(a:AD) (bs:List Int) (k:Nat),vs=[.ref a]/\H a=some (.lst (bs.map V.int))/\(∀b∈bs,1<=b/\b.natAbs<2^k)/\k*bs.length<=4000 /\
 ∀c ,1<=c->c.natAbs<2^(k*bs.length+1)->(∀b∈bs,b ∣ c)->Q (.int c) H
def ME{c b:Int}(M:1<=c)(hb:1<=b):1<=c.fdiv (FM.gi c b)*b/\c ∣ c.fdiv (FM.gi c b)*b/\b ∣ c.fdiv (FM.gi c b)*b/\(c.fdiv (FM.gi c b)).natAbs<=c.natAbs:=by
 have hg:0<FM.gi c b:=FM.Jn AS;obtain⟨q,l⟩:=FM.LN c b;obtain⟨r,I⟩:=FM.N7 c b;have e:=FM.Hj (Int.ne_of_gt hg) l;refine⟨?_,?_,Int.dvd_mul_left _ _,FM.DD _ _⟩
 .rw[e];exact bS (show 0<q by
   rcases Int.lt_or_le 0 q with h|h
   .lia
   .have:=Int.mul_nonpos_of_nonneg_of_nonpos (Int.le_of_lt hg) h
    lia) AS
 .refine⟨r,?_⟩
  grind
def div_add x y (l:c≠0):Rat.divInt (x+y) c=Rat.divInt x c+Rat.divInt y c:=by
 rw[Rat.divInt_add_divInt _ _ l l,<-Int.add_mul,Rat.divInt_mul_right l]
def div_one(hb:b≠0)(l:c≠0)(h:b ∣ c):Rat.divInt (t*c.fdiv b) c=Rat.divInt t b:=by
 obtain⟨q,rfl⟩:=h;rw[FM.Hj hb rfl,Rat.divInt_mul_right (fun z=>by lia)]
theorem Zk(l:c≠0):∀ {ps:List (Int×Int)},(∀p∈ps,p.2≠0/\p.2 ∣ c)->Rat.divInt (ps.map fun p=>p.1*c.fdiv p.2).sum c=(ps.map fun p=>Rat.divInt p.1 p.2).sum
 |[],_=>by simp
 |p::ps,h=>by
  obtain⟨M,I⟩:=h p aR;rw[(BR),(Hw),(BR),(Hw),div_add _ _ l,div_one M l I,Zk l fun q T=>by grind]
def bw:Sp:=fun vs H Q _=>∃(b:Int) (p k:Nat),vs=[.int b,.int p]/\b.natAbs<2^k/\k*p<=4000/\Q (.int (b^p)) H
def J7{b:Int}(hb:b.natAbs<2^k)(I:e<=p):(b^e).natAbs<2^(k*p+1):=by
 rw[Int.natAbs_pow];have l:=Nat.pow_le_pow_left (ay hb) e;rw[<-Nat.pow_mul]at l;exact aP l (Nat.pow_lt_pow_right AC (Nat.lt_succ_of_le (aV k I)))
def mu4(σ:St):Nat:=match σ[4]? with|some (some (V.int l))=>l.natAbs|_=>0
section
variable{P:F0b}{w:F0c}{K:Fg}{mg:AAs}{base:Heap}{f g:AD}{fd gd:F0a}
def Pe:BQ ["bottoms","common","bottom"] ["bottoms"] (AW HK):=D5
def QG(F:Fn K mg "common_bottom" HK ["bottoms"] f fd)(Bk:Fn K mg "greatest_divisor" ER PP g gd) (Fl:Af P w K mg base Ac 1 g gd PP cM):Af P w K mg base Ac 2 f fd ["bottoms"] mZ:=by
 have sc:=Pe;refine F.F.ok (k:=1) sc On OK
 .obtain⟨a,bs,k,rfl,_⟩:=h
  rfl
 obtain⟨a,bs,k,rfl,ha,hb,hk,q⟩:=h;refine⟨_,(Ai (A0 (i:=1) sc.nd rfl IN Bu)
 (Ai (Jx bC rfl (FD (pv 0)) (Dj (i:=2) sc.nd rfl IN)
  (A8 (A0 (i:=1) sc.nd rfl IN (DQ IL (DQ Gq (pv 1) (EW Bk Fl hr rfl (AV (pv 1) (AV (pv 2) Au)))) (pv 2)))))
 (A8 (Ds (pv 1))))),?_⟩
 refine⟨_,rfl,a,rfl,⟨_,Am.of ha⟩,Pz (xs:=bs.map V.int) (fun i σ H'=>∃(c:Int) (r:Option V),σ=[some KM,some (.int c),r]/\H=H'/\1<=c/\c.natAbs<2^(k*i+1)/\∀j b,j<i->bs[j]? = some b->b ∣ c) ?_ ?_ ?_ ?_⟩
 .exact⟨1,_,rfl,rfl,by decide,by simp,fun j b h=>absurd h (bI _)⟩
 .rintro i σ H' _ ⟨c,r,rfl,rfl,_⟩;exact Am.of ha
 .rintro i x σ H' T ⟨c,r,rfl,rfl,Y,M,I⟩;have hi:i<bs.length:=by have:=(aF.mp T).1;simpa using this
  rw[(BG),List.getElem?_eq_getElem hi]at T;cases T;obtain⟨b1,b2⟩:=hb _ (List.getElem_mem hi);obtain⟨s1,s2,s3,Z⟩:=ME Y b1;have hg:FM.gi c bs[i]≠0:=Int.ne_of_gt (FM.Jn AS);have hki:k*i+k<=4000:=by
   have:k*SB<=k*bs.length:=aV k hi;rw[Nat.mul_succ]at this
   lia
  have n1:(c.fdiv (FM.gi c bs[i])).natAbs<2^(k*i+1):=aP Z M;refine⟨_,rfl,_,rfl,_,rfl,c,bs[i],rfl,_,_,rfl,rfl,⟨hg,k,by have:k*1<=k*bs.length:=aV k AS;lia,Nat.lt_of_le_of_lt (FM.dA AS) b2⟩,_,rfl,_,_,rfl,rfl,R9 n1 b2 AS,_,_,rfl,rfl,s1,?_,fun j b U l=>?_⟩
  .have:=FM.Bj n1 b2;rw[Nat.mul_succ,show k*i+k+1=k*i+1+k by lia];exact this
  .by_cases z:j=i
   .subst z;rw[List.getElem?_eq_getElem hi]at l;cases l;exact s3
   .exact Int.dvd_trans (I j b AS l) s2
 .rintro σ H' ⟨c,r,rfl,rfl,Y,M,I⟩;rw[Pi]at M I;refine⟨_,rfl,q c Y M fun b hb=>?_⟩;obtain⟨j,U⟩:=bP hb;exact I j b (aF.mp U).1 U
def U5:BQ ["some","bottom"] ["some"] (AW HZ):=D5
def YU:BQ ["base","power","product","square","left"] ["base","power"] (AW L4):=D5
def X8(F:Fn K mg "power_of" L4 ["base","power"] f fd):Af P w K mg base Ac 1 f fd ["base","power"] bw:=by
 have sc:=YU;refine F.F.ok (k:=0) sc On OK
 .obtain⟨b,p,k,rfl,_⟩:=h
  rfl
 obtain⟨b,p,k,rfl,hb,hk,q⟩:=h;refine⟨_,(Ai (A0 (i:=2) sc.nd rfl IN Bu)
 (Ai (A0 (i:=3) sc.nd rfl IN (pv 0))
 (Ai (A0 (i:=4) sc.nd rfl IN (pv 1))
 (Ai (QM bC (Dg VX (pv 4) Bu (FC _))
  (Ai (IY (Dg mj (DQ tL (pv 4) Bu) Bu (FC _))
   (A8 (A0 (i:=2) sc.nd rfl IN (DQ IL (pv 2) (pv 3))))
   FJ)
  (Ai (A0 (i:=4) sc.nd rfl IN (DQ qh (pv 4) Bu))
  (A8 (IY (Dg VX (pv 4) Bu (FC _))
   (A8 (A0 (i:=3) sc.nd rfl IN (DQ IL (pv 3) (pv 3))))
   FJ)))))
 (A8 (Ds (pv 2))))))),?_⟩
 refine⟨_,rfl,_,rfl,?_⟩;refine QO (fun σ H'=>∃e f l:Nat,σ=[some (.int b),some (.int p),some (.int (b^e)),some (.int (b^f)),some (.int l)]/\H=H'/\e+f*l=p) (fun σ _=>mu4 σ) ?_ ?_ ?_
 .refine⟨0,1,p,?_,rfl,by lia⟩;rw[Int.pow_zero,Int.pow_succ,Int.pow_zero,Int.one_mul]
  rfl
 .rintro σ H' ⟨e,f,l,rfl,rfl,Y⟩;refine⟨_,rfl,_,_,rfl,rfl,_,rfl,MB (fun c=>?_) (fun c=>?_)⟩
  .have Z:0<l:=by have:=ah c;lia
   have I:f<=p:=by
    have:f*1<=f*l:=aV f Z
    lia
   try dsimp only[Ct]
   refine Pd (fun σ' H'=>∃T:Nat,σ'=[some (.int b),some (.int p),some (.int (b^T)),some (.int (b^f)),some (.int l)]/\H=H'/\T+f*(2*(l / 2))=p) (fun nx U=>?_) ?_
   .refine⟨_,rfl,_,_,rfl,rfl,(by show(0:Int)<2;decide),rfl,_,rfl,MB (fun c=>?_) (fun c=>?_)⟩
    .have hodd:l % 2=1:=by
      have:((l:Int) % 2)=1:=by simpa using c
      lia
     refine⟨_,rfl,_,rfl,_,_,rfl,rfl,R9 (J7 hb (show e<=p by lia)) (J7 hb I) AS,U _ _ ⟨e+f,?_,rfl,?_⟩⟩
     .show [some (V.int b),some (V.int p),some (V.int (b^e*b^f)),some (V.int (b^f)),some (V.int l)]=_;rw[<-Int.pow_add]
     .have:l=2*(l / 2)+1:=by lia
      rw[<-Y]
      conv=>rhs;rw[this,Nat.mul_add,Nat.mul_one]
      lia
    .have hev:l % 2=0:=by
      have:¬((l:Int) % 2)=1:=by simpa using c
      lia
     refine U _ _ ⟨e,rfl,rfl,?_⟩;rw[show 2*(l / 2)=l by lia];exact Y
   .rintro σ' _ ⟨T,rfl,rfl,M⟩;refine⟨_,rfl,_,_,rfl,rfl,⟨by decide,by decide⟩,?_⟩;have el:((l:Int) / 2)=((l / 2:Nat):Int):=by lia
    refine⟨_,rfl,_,_,rfl,rfl,_,rfl,MB (fun c=>?_) (fun c=>?_)⟩
    .refine⟨_,rfl,_,rfl,_,_,rfl,rfl,R9 (J7 hb I) (J7 hb I) AS,⟨T,f+f,l / 2,?_,rfl,?_⟩,?_⟩
     .show [some (V.int b),some (V.int p),some (V.int (b^T)),some (V.int (b^f*b^f)),some (V.int ((l:Int) / 2))]=_;rw[el,<-Int.pow_add]
     .rw[<-M,<-Nat.two_mul,Nat.mul_assoc,Nat.mul_left_comm]
     .show((l:Int) / 2).natAbs<((l:Nat):Int).natAbs
      lia
    .refine⟨⟨T,f,l / 2,?_,rfl,?_⟩,?_⟩
     .show [some (V.int b),some (V.int p),some (V.int (b^T)),some (V.int (b^f)),some (V.int ((l:Int) / 2))]=_;rw[el]
     .have:l / 2=0:=by have:=bL (bH.mpr c);lia
      rw[this]at M ⊢
      simpa using M
     .show((l:Int) / 2).natAbs<((l:Nat):Int).natAbs
      lia
  .have Z:l=0:=by have:=bL (bH.mpr c);lia
   subst Z;rw[Nat.mul_zero,Nat.add_zero]at Y;subst Y;exact⟨_,rfl,q⟩
 .exact fun σ H Q Q' hq ⟨v,e,s,k,e2,e3,e4,q1,q2⟩=>⟨v,e,s,k,e2,e3,e4,q1,hq _ _ q2⟩
end
def DU(H:Hp)(d:PD)(v:V):Prop:=∃N:Nat,∀l,N<=l->Dt l H d v
def Ff(H:Hp)(ds:AAl)(xs:ABC):Prop:=∃N:Nat,∀l,N<=l->Bz l H ds xs
def Ff.same(h:Ff H d v)(e:AI H H'):Ff H' d v:=let⟨N,k⟩:=h;⟨N,fun l I=>(k l I).same e⟩
def DU.int:DU H (.int i) (.int i):=⟨0,fun _ _=>.int⟩
def DU.bool:DU H (.bool i) (.bl i):=⟨0,fun _ _=>.bool⟩
def DU.BV{H:Hp}:DU H .none .BV:=⟨0,fun _ _=>.BV⟩
def DU.str:DU H (.str x) (.str x):=⟨0,fun _ _=>.str⟩
def Ff.nil{H:Hp}:Ff H [] []:=⟨0,fun _ _=>.nil⟩
def Ff.cons(h:DU H d x)(k:Ff H ds xs):Ff H (d::ds) (x::xs) :=
 let⟨N,a⟩:=h;let⟨M,b⟩:=k;⟨max N M,fun l I=>.cons (a l AS) (b l AS)⟩
def Ff.len(h:Ff H ds xs):xs.length=ds.length:=let⟨N,a⟩:=h;(a N M0).len
def Ff.get{i:Nat}(h:Ff H ds xs)(e:ds[i]? = some d):∃v,xs[i]? = some v/\DU H d v:=by
 have M:=h.len;have hi:i<xs.length:=by grind
 have I:xs[i]? = some xs[i]:=by simp
 obtain⟨N,a⟩:=h;refine⟨xs[i],I,N,fun l M=>?_⟩;obtain⟨Y,U,T⟩:=(a l M).get I
 lia
def DU.lst(h:H a=some Tl)(k:Ff H ds xs):DU H (.list ds) KM :=
 let⟨N,b⟩:=k;⟨max N _,fun l I=>.lst (aJ (aD (bJ a) (aQ (Nat.le_max_right _ _) I))) h (b l AS)⟩
def DU.tup(h:H a=some Jl)(k:Ff H ds xs):DU H (.tuple ds) KM :=
 let⟨N,b⟩:=k;⟨max N _,fun l I=>.tup (aJ (aD (bJ a) (aQ (Nat.le_max_right _ _) I))) h (b l AS)⟩
def DU.eK(h:DU H (.list ds) v):∃a xs,v=.ref a/\H a=some Tl/\Ff H ds xs:=by
 obtain⟨N,b⟩:=h;obtain⟨a,xs,rfl,_,ha,_⟩:=(b N M0);refine⟨a,xs,rfl,ha,N,fun l T=>?_⟩;obtain⟨Y,I,e,_,U,M⟩:=(b l T)
 lia
def DU.yr(h:DU H (.tuple ds) v):∃a xs,v=.ref a/\H a=some Jl/\Ff H ds xs:=by
 obtain⟨N,b⟩:=h;obtain⟨a,xs,rfl,_,ha,_⟩:=(b N M0);refine⟨a,xs,rfl,ha,N,fun l T=>?_⟩;obtain⟨Y,I,e,_,U,M⟩:=(b l T)
 lia
def Ff.Jv(h:Ff H [d,e] xs):∃x y,xs=[x,y]/\DU H d x/\DU H e y:=by
 obtain⟨x,T,M⟩:=h.get (i:=0) rfl;obtain⟨y,I,l⟩:=h.get (i:=1) rfl
 match xs,h.len with
 |[a,b],_=>
  grind
def DU.ints{ps:AAx}(h:DU H (.tuple (ps.map .int)) v):∃a,v=.ref a/\H a=some (.tup (ps.map V.int)):=by
 obtain⟨a,xs,rfl,ha,l⟩:=h.yr;refine⟨a,rfl,?_⟩;rw[ha]
 congr 2
 obtain⟨N,b⟩:=l;have:=b N M0;clear b ha h
 induction ps generalizing xs with
 |nil=>exact this
 |cons p ps M=>
  obtain⟨x,r,rfl,I,T⟩:=this;subst I
  grind
def HR:PD->Bool
 |.tuple [.int a,.int b]=>decide (1<=b)&&(FM.gi a b==1)
 |_=>false
def Xc(h:ds.length≠2\/∃I l,ds=[I,l]/\((Im I && !Gw I)=false\/(Im l && !Gw l)=false)):HR (.tuple ds)=false:=by
 rcases h with h|⟨I,l,rfl,h⟩
 .match ds,h with
  |[],_=>rfl
  |[a],_=>cases a<;>rfl
  |[_,_],h=>grind
  |a::b::_::_,_=>cases a<;>first|rfl|(cases b<;>rfl)
 .cases I<;>first|rfl|(cases l<;>first|rfl|(rcases h with h|h<;>exact absurd h (by simp[Im,Gw])))
def Nm(h:(Im d && !Gw d)=true):∃i,d=.int i:=by
 cases d<;>first|lia|(exact absurd h (by simp[Im,Gw]))|lia
def Ii:PD->Bool
 |.list ds=>ds.all HR
 |_=>false
def gq(h:Cw d=false):Ii d=false:=by cases d<;>first|rfl|exact absurd h (by simp[Cw])
def QR(h:Cw d=true):∃ds,d=.list ds:=by cases d<;>first|lia|exact absurd h (by simp[Cw])
def QJ(h:DK d=true):∃ds,d=.tuple ds:=by cases d<;>first|lia|exact absurd h (by simp[DK])
def ic r:HR (An r)=true:=by
 have h:=r.den_nz;rw[An,HR,decide_eq_true (show _<=_ by lia)];unfold FM.gi;rw[show r.num.gcd r.den=1 from r.reduced]
 rfl
def zL(h:i<n)(hn:n<=60):i<sizeLine:=aD (show i<60 by lia) AC
def xG(hn:n<=60):n<=sizeLine:=aQ hn AC
def AH(r:ABB):AAl:=r.map An
def Um r:(AH r).length=r.length:=List.length_map _
def DU.rat(h:DU H (An q) v):∃p,v=.ref p/\H p=some (.tup (MK q)):=h.ints (ps:=[q.num,_])
section
variable{P:F0b}{w:F0c}{K:Fg}{mg:AAs}{base:Heap}{f g:AD}{fd:F0a}
def Vt:BQ ["_law_top","_law_bottom","_law_one","_law_other"] ["_law_top","_law_bottom"] (AW O6):=D5
def XQ(F:Fn K mg "_law_frac" O6 ["_law_top","_law_bottom"] f fd)(JZ:mg "abs" = none):Af P w K mg base Ac 1 f fd ["_law_top","_law_bottom"] cj:=by
 have sc:=Vt;refine F.F.ok (k:=0) sc On OK
 .obtain⟨t,b,m,rfl,_⟩:=h
  rfl
 obtain⟨t,b,m,rfl,hb,hm,Y,q⟩:=h;refine⟨_,(Ai (A0 (i:=2) sc.nd rfl IN (EX L3 rfl JZ bX (AV (pv 0) Au)))
 (Ai (A0 (i:=3) sc.nd rfl IN (EX L3 rfl JZ bX (AV (pv 1) Au)))
 (Ai (QM bC (Dg VX (pv 3) Bu (FC _))
  (A8 (ui (i:=2) (j:=3) rfl sc.nd rfl rfl AC rfl rfl (AV (pv 3) (AV (DQ SN (pv 2) (pv 3)) Au)) rfl)))
 (Ai (IY (Dg dJ (pv 1) Bu (FC _))
  (A8 (A0 (i:=2) sc.nd rfl IN (DQ gP Bu (pv 2))))
  FJ)
 (A8 (Ds (NR (AV (DQ Gq (pv 0) (pv 2)) (AV (DQ Gq (pv 1) (pv 2)) Au))))))))),?_⟩
 refine⟨_,rfl,_,rfl,_,rfl,_,rfl,?_⟩;refine QO (fun σ H'=>∃g l,σ=[some (.int t),some (.int b),some (.int g),some (.int l)]/\H=H'/\Int.gcd g l=Int.gcd t b/\0<=g/\0<=l) (fun σ _=>yz σ) ?_ ?_ ?_
 .exact⟨_,_,rfl,rfl,FM.ZV t b,FM.abs_nonneg t,FM.abs_nonneg b⟩
 .rintro σ H' ⟨g,l,rfl,rfl,hg,h0,M⟩;refine⟨_,rfl,_,_,rfl,rfl,_,rfl,MB (fun c=>?_) (fun c=>?_)⟩
  .have T:0<l:=ah c;have I:l≠0:=by lia
   refine⟨_,rfl,_,rfl,_,rfl,_,_,rfl,rfl,I,_,_,rfl,⟨_,_,rfl,rfl,?_,M,FM.fmod_nonneg I M⟩,?_⟩
   .rw[FM.XZ];exact hg
   .exact FM.UI g l I
  .have T:¬0<l:=bL (bH.mpr c);have I:l=0:=by lia
   subst I;rw[FM.gJ hg h0]
   try dsimp only[Ct]
   refine Pd (fun σ' H'=>σ'=[some (.int t),some (.int b),some (.int (FM.gs t b)),some (.int 0)]/\H=H') (fun nx hn=>?_) ?_
   .refine⟨_,rfl,_,_,rfl,rfl,_,rfl,MB (fun c=>?_) (fun c=>?_)⟩
    .have U:b<0:=ah c;refine⟨_,rfl,_,_,rfl,rfl,hn _ _ ⟨?_,rfl⟩⟩;show [some (V.int t),some (V.int b),some (V.int (0-FM.gi t b)),some (V.int 0)]=_;unfold FM.gs;rw[if_pos U,Int.zero_sub]
    .have U:¬b<0:=bL (bH.mpr c);refine hn _ _ ⟨?_,rfl⟩;unfold FM.gs;rw[if_neg U]
   .rintro σ' H' ⟨rfl,rfl⟩;have h0:FM.gs t b≠0:=FM.mV hb;have M:(FM.gs t b).natAbs<2^m:=aP (FM.nu hb) Y;refine⟨_,rfl,_,rfl,_,_,rfl,rfl,⟨h0,m,hm,M⟩,_,rfl,_,rfl,_,_,rfl,rfl,⟨h0,m,hm,M⟩,oI,fun p hp=>?_⟩;refine q p _ (Aj hp _) ?_;rw[AR];show some (HO.tup [V.int (t.fdiv (FM.gs t b)),V.int (b.fdiv (FM.gs t b))])=_;rw[FM.Xw hb,FM.Xy hb]
    rfl
 .exact fun σ H Q Q' Z ⟨v,e,i,j,e1,e2,k,e3,q⟩=>⟨v,e,i,j,e1,e2,k,e3,Z _ _ q⟩
end
def F9(c b:Int):Int:=c.fdiv (FM.gi c b)*b
def Eo(bs:AAx):Int:=bs.foldl F9 1
theorem XG:∀(bs:List Int) c n,1<=c->c.natAbs<2^n->(∀b∈bs,1<=b/\b.natAbs<2^k) ->
  1<=bs.foldl F9 c/\(bs.foldl F9 c).natAbs<2^(n+k*bs.length)/\c ∣ bs.foldl F9 c/\∀b∈bs,b ∣ bs.foldl F9 c
 |[],c,n,M,I,_=>⟨M,by simpa using I,Int.dvd_refl _,fun _ z=>(List.not_mem_nil z).elim⟩
 |b::bs,c,n,M,I,h=>by
  obtain⟨b1,b2⟩:=h b aR;obtain⟨s1,s2,Y,U⟩:=ME M b1;obtain⟨r1,r2,T,Z⟩:=XG bs _ _ s1 (FM.Bj (aP U I) b2) fun y l=>h y (aW _ l);refine⟨r1,?_,Int.dvd_trans s2 T,fun y l=>?_⟩
  .rw[(Gm),show n+_=n+k+k*bs.length by lia];exact r2
  .rcases aO.mp l with rfl|l
   .exact Int.dvd_trans Y T
   .exact Z y l
def Y8(h:∀b∈bs,1<=b/\b.natAbs<2^k):1<=Eo bs/\(Eo bs).natAbs<2^(1+k*bs.length)/\∀b∈bs,b ∣ Eo bs:=let⟨a,b,_,d⟩:=XG bs 1 1 AC AC h;⟨a,b,d⟩
def gb bs b:Eo (bs++[b])=F9 (Eo bs) b:=by
 unfold Eo;simp
def Ar(rs:ABB):Int:=Eo (rs.map fun r=>r.den)
def cH{i:Nat}(h:Ff H (AH l) xs)(I:l[i]? = some q):∃p,xs[i]? = some (.ref p)/\H p=some (.tup (MK q)):=by
 obtain⟨v,U,M⟩:=h.get (by rw[AH,(BG),I];rfl);obtain⟨p,rfl,T⟩:=M.rat
 grind
def p7{rs:ABB}(h:∀r∈rs,FM.Fits r n):∀b∈rs.map (fun r=>(r.den:Int)),1<=b/\b.natAbs<2^n:=fun b hb=>by
 obtain⟨r,l,rfl⟩:=aI.mp hb;have:=r.den_nz;exact⟨by lia,(h r l).d⟩
abbrev AY:=List Int×Rat
def A9(m:AY):PD:=.tuple [.tuple (m.1.map .int),An m.2]
def AG(us:List AY):PD:=.list (us.map A9)
def DU.mono(h:DU H (A9 m) v):∃c P F,v=.ref c/\H c=some (.tup [.ref P,.ref F])/\H P=some (.tup (m.1.map V.int))/\H F=some (.tup (MK m.2)):=by
 obtain⟨c,xs,rfl,T,M⟩:=h.yr;obtain⟨x,y,rfl,I,l⟩:=M.Jv;obtain⟨P,rfl,U⟩:=I.ints;obtain⟨F,rfl,Y⟩:=l.rat
 grind
def ky{us:List AY}{i:Nat}(d:Ff H (us.map A9) xs)(h:us[i]? = some m):∃c P F,xs[i]? = some (.ref c)/\H c=some (.tup [.ref P,.ref F])/\H P=some (.tup (m.1.map V.int))/\H F=some (.tup (MK m.2)):=by
 obtain⟨v,I,l⟩:=d.get (by rw[(BG),h];rfl);obtain⟨c,P,F,rfl,a,b,e⟩:=l.mono
 grind
def Oh(us:List AY):AAx:=us.map fun m=>(m.2.den)
def GY(uss:Fc):AAx:=(uss.map Oh).flatten
def CD(uss:Fc):Int:=Eo (GY uss)
def D3(m:AY):Int:=m.1.sum
def Fj(g:Int)(us:List AY):Int:=us.foldl (fun g m=>if D3 m > g then D3 m else g) g
def E9(uss:Fc):Int:=uss.foldl Fj 1
def kN:∀(h:∀us∈uss,us.length<=12),(GY uss).length<=12*uss.length:=by
 induction uss with
 |nil=>intro _;simp[GY]
 |cons us uss l=>
  intro h;have T:=h us aR;have I:=l fun y M=>by grind
  unfold GY at I ⊢;rw[(BR),List.flatten_cons,(Ck),(Gm)];have:(Oh us).length=us.length:=List.length_map _
  lia
def gj{uss:Fc}(h:uss[i]? = some us):GY (uss.take SB)=GY (uss.take i)++Oh us:=by
 unfold GY;rw[(Iu),h];simp
def lS(h:∀us∈uss,us.length<=12/\∀m∈us,FM.Fits m.2 n):∀b∈GY uss,1<=b/\b.natAbs<2^n:=fun b hb=>by
 obtain⟨l,M,hb⟩:=List.mem_flatten.mp hb;obtain⟨us,I,rfl⟩:=aI.mp M;obtain⟨m,hm,rfl⟩:=aI.mp hb;have:=m.2.den_nz;exact⟨by lia,((h us I).2 m hm).d⟩
def eO(B G:Int)(gr:Nat)(m:AY):AY:=(m.1,((m.2.num*B.fdiv (m.2.den)*G^(gr-(D3 m).toNat):Int)))
def Lj(B G:Int)(gr:Nat)(us:List AY):List AY:=us.map (eO B G gr)
theorem Ze:∀us g,g<=Fj g us/\(∀m∈us,D3 m<=Fj g us)/\∀c,g<=c->(∀m∈us,D3 m<=c)->Fj g us<=c
 |[],g=>⟨Int.le_refl _,fun _ z=>by grind,fun _ h _=>h⟩
 |m::us,g=>by
  obtain⟨M,I,l⟩:=Ze us (if D3 m > g then D3 m else g);have e:Fj g (m::us)=Fj _ us:=rfl
  grind
theorem Ut:∀(uss:Fc) g,g<=uss.foldl Fj g/\(∀us∈uss,∀m∈us,D3 m<=uss.foldl Fj g)/\∀c,g<=c->(∀us∈uss,∀m∈us,D3 m<=c)->uss.foldl Fj g<=c
 |[],g=>by simp
 |us::uss,g=>by
  obtain⟨a1,a2,a3⟩:=Ze us g;obtain⟨M,I,l⟩:=Ut uss (Fj g us)
  grind
def mB(l:1<=c)(h:∀us∈uss,∀m∈us,D3 m<=c):1<=E9 uss/\E9 uss<=c/\∀us∈uss,∀m∈us,D3 m<=E9 uss:=let⟨T,M,I⟩:=Ut uss 1;⟨T,I c l h,M⟩
def Cn(uss:Fc):Nat:=(E9 uss).toNat
def Cy(G:Int)(uss:Fc):List (List AY):=uss.map (Lj (CD uss) G (Cn uss))
def B1(uss:Fc)(G:Int):Int:=CD uss*G^(Cn uss-1)
def vm{J:It}{g:TG}{tb:TS}{D:Ends} n (Pv:Nat->St->Hp->Prop) (h0:Pv 0 σ H) (hs:∀i σ H,i<n->Pv i σ H->J.go i H/\∀x H',J.E6 i H x H'->g x σ H' fun l M=>tb {D with nx:=Pv SB,ct:=Pv SB,bk:=D.nx} l M) (hd:∀σ H,Pv n σ H->J.stop n H/\D.nx σ H):∃W:Nat->Nat->St->Hp->Prop,(∃m,W 0 m σ H)/\∀i m σ H,W i m σ H ->(J.stop i H/\D.nx σ H)\/(J.go i H/\∃N ,(∀σ' H',N σ' H'->∃T,T<m/\W SB T σ' H')/\∀x H',J.E6 i H x H'->g x σ H' fun l M=>tb {D with nx:=N,ct:=N,bk:=D.nx} l M):=by
 refine⟨fun i m σ H=>m=n-i/\i<=n/\Pv i σ H,⟨n,by simp,Nat.zero_le _,h0⟩,?_⟩;rintro i m σ H ⟨rfl,hi,p⟩;by_cases I:i<n
 .obtain⟨Z,Y⟩:=hs i σ H I p;exact .inr ⟨Z,Pv _,fun σ' H' U=>⟨n-_,by lia,rfl,I,U⟩,Y⟩
 grind
def L9(x:Rat):Nat->Rat
 |0=>1
 |n+1=>L9 x n*x
theorem WY x:∀n,Rat.divInt (x.num^n) (x.den^n)=L9 x n
 |0=>by rw[Int.pow_zero,Int.pow_zero];rfl
 |n+1=>by
  rw[Int.pow_succ,Int.pow_succ,L9,<-WY x n,<-Rat.divInt_mul_divInt,FM.EZ]
def GC(zs:List (Int×Rat)):Rat:=zs.foldl (fun a z=>a*L9 z.2 z.1.toNat) 1
def Zw zs z:GC (zs++[z])=GC zs*L9 z.2 z.1.toNat:=by unfold GC;simp
def jS{ps:AAx}{x:Rat}(I:ps[i]? = some p)(l:rs[i]? = some x):(ps.zip rs).take SB=(ps.zip rs).take i++[(p,x)]:=by
 rw[List.take_succ]
 grind
def lU{d:Nat}(h:d≠0) n:(1:Int)<=d^n:=by
 have:0<(d:Int)^n:=Int.pow_pos AS
 lia
def W7:Sp:=fun vs H Q _=>∃(a:AD) (xs:List V) (ps:List (Int×Int)) (kt k:Nat),vs=[.ref a]/\H a=some Tl/\xs.length=ps.length/\ps.length<=1000/\(∀(j:Nat) x p,xs[j]? = some x->ps[j]? = some p->∃c,x=.ref c/\H c=some (.tup [.int p.1,.int p.2])) /\
 (∀p∈ps,1<=p.2/\p.1.natAbs<2^kt/\p.2.natAbs<2^k)/\k*ps.length<=4000/\kt<=100000/\∀l H',AI H H'->H' l=some (.tup (MK (ps.map fun p=>Rat.divInt p.1 p.2).sum))->Q (.ref l) H'
structure dn(H:Hp)(S:Addr)(xs:List V)(rs:List Rat)(many k kd:Nat):Prop where
 at_:H S=some Tl
 du:Ff H (AH rs) xs
 len:rs.length=many
 fit:∀x∈rs,x.num.natAbs<2^k/\((x.den:Int)).natAbs<2^kd
def dn.same(s:dn H S xs rs many k kd)(e:AI H H'):dn H' S xs rs many k kd:=⟨e _ _ s.at_,s.du.same e,s.len,s.fit⟩
def ma:Sp:=fun vs H Q _=>∃(P F S:AD) (ps:List Int) (r:Rat) (rs:List Rat) (xs:List V) (many k kd n nd:Nat),vs=[.ref P,.ref F,.ref S]/\H P=some (.tup (ps.map V.int))/\H F=some (.tup (MK r))/\dn H S xs rs many k kd/\ps.length=many/\many<=4/\k<=1300/\kd<=1300/\n<=20000/\nd<=20000 /\
 (∀p∈ps,0<=p/\p<=3)/\r.num.natAbs<2^n/\((r.den:Int)).natAbs<2^nd/\∀c H' t b,AI H H'->H' c=some (.tup [.int t,.int b])->1<=b->t.natAbs<2^(n+(3*k+1)*4)->b.natAbs<2^(nd+(3*kd+1)*4)->Rat.divInt t b=r*GC (ps.zip rs)->Q (.ref c) H'
def Jj(us:List AY)(rs:ABB):Rat:=(us.map fun m=>m.2*GC (m.1.zip rs)).sum
def Xa:Sp:=fun vs H Q _=>∃(a S:AD) (xs ys:List V) (us:List AY) (rs:List Rat) (many k kd n nd:Nat),vs=[.ref a,.ref S]/\H a=some Tl/\Ff H (us.map A9) xs/\us.length<=12/\(∀m∈us,m.1.length=many/\(∀p∈m.1,0<=p/\p<=3)/\m.2.num.natAbs<2^n/\((m.2.den:Int)).natAbs<2^nd) /\
 dn H S ys rs many k kd/\many<=4/\k<=1300/\kd<=1300/\n<=20000/\(nd+(3*kd+1)*4)*12<=4000/\∀l H',AI H H'->H' l=some (.tup (MK (Jj us rs)))->Q (.ref l) H'
section
variable{P:F0b}{w:F0c}{K:Fg}{mg:AAs}{base:Heap}{f g g1 g2:AD}{fd gd gd1 gd2:F0a}
def TC(F:Fn K mg "frac_total" HZ ["some"] f fd)(FQ:Fn K mg "common_bottom" HK ["bottoms"] g1 gd1)(E7:Fn K mg "fraction_of" JB ["top","bottom"] g2 gd2) (Qc:Af P w K mg base Ac 2 g1 gd1 ["bottoms"] mZ)(U7:Af P w K mg base Ac 2 g2 gd2 ["top","bottom"] cj)(VR:mg "sum" = none):Af P w K mg base Ac 3 f fd ["some"] W7:=by
 have sc:=U5;refine F.F.ok (k:=2) sc On OK
 .obtain⟨a,xs,ps,kt,k,rfl,_⟩:=h
  rfl
 obtain⟨a,xs,ps,kt,k,rfl,ha,hl,h1000,hx,hp,hk,hkt,q⟩:=h;have hk1:ps≠[]->k<=4000:=fun hne=>by
  have:k*1<=k*ps.length:=aV k (List.length_pos_iff.mpr hne)
  lia
 have at_:∀(i:Nat) (hi:i<xs.length),∃(p:Int×Int) (c:AD),ps[i]? = some p/\xs[i]=.ref c/\H c=some (.tup [.int p.1,.int p.2]):=fun i hi=>by
  have hpi:ps[i]? = some (ps[i]' AS):=aj _;obtain⟨c,Z,h2⟩:=hx i xs[i] _ (aj hi) hpi;exact⟨_,c,hpi,Z,h2⟩
 refine⟨_,(Ai (A0 (i:=1) sc.nd rfl (Or.inr rfl) (EW FQ Qc hr rfl (AV (IG [".0","part"] 1 [none,none] (FD (pv 0)) (fun _ _ _ _ _=>Gz) (fun _ _ _ _ _=>(IU Sn (pv 1) Bu (fun _ _=>rfl)))) Au)))
 (A8 (Ds (EW E7 U7 hr rfl (AV (EX (Wd rfl) rfl VR PyProof.Rows.boot_sum (AV (IG [".0","part","bottom"] 1 [none,none,some 1] (FD (pv 0)) (fun _ _ _ _ _=>Gz) (fun _ _ _ _ _=>(DQ IL (IU Sn (pv 1) Bu (fun _ _=>rfl)) (DQ Gq (pv 2) (IU Sn (pv 1) Bu (fun _ _=>rfl)))))) Au)) (AV (pv 1) Au)))))),?_⟩
 refine⟨_,rfl,a,rfl,⟨_,Am.of ha⟩,fun D hD=>Jb (n:=xs.length) (fun i ys H'=>AI H H'/\ys=((ps.take i).map (·.2)).map V.int) ?_ ?_ ?_⟩
 .exact⟨Aj hD _,rfl⟩
 .rintro i ys H0 hi ⟨T,rfl⟩ Y;obtain⟨p,c,Z,h2,h3⟩:=at_ i hi;refine⟨⟨xs,xs[i],Am.of (T _ _ ha),by simp[hi]⟩,?_,fun x H' y=>?_⟩
  .rw[Pi,Pi,(FL)];exact aP (Nat.min_le_left _ _) (aD (show i<1000 by lia) (by rw[sizeLine_eq];decide))
  .obtain⟨rfl,y⟩:=y;have I:=y xs (Am.of (T _ _ ha));rw[List.getElem?_eq_getElem hi,h2]at I;cases I;unfold Ky;refine MF ⟨_,rfl,_,_,_,_,rfl,rfl,A4.of (T _ _ h3),rfl,Y,G7 hi ⟨fun b o z=>?_,?_⟩⟩
   .rw[AN (Ah z hD)];exact T _ _ z
   .rw[List.take_succ,Z];simp
 rintro ys H0 ⟨T,rfl⟩ Y;refine⟨⟨xs,Am.of (T _ _ ha),Nat.le_refl _⟩,?_⟩;rw[hl,(Fv)]at Y;refine⟨D,ps.map (·.2),k,rfl,Y,fun b hb=>?_,by rw[Pi];exact hk,fun c c1 c2 c3=>?_⟩
 .obtain⟨p,M,rfl⟩:=aI.mp hb;exact⟨(hp p M).1,(hp p M).2.2⟩
 rw[Pi]at c2;refine⟨_,rfl,a,rfl,⟨_,Am.of (T _ _ ha)⟩,fun D2 hD2=>Jb (n:=xs.length) (fun i ys H'=>AI H0 H'/\ys=((ps.take i).map fun p=>p.1*c.fdiv p.2).map V.int) ?_ ?_ ?_⟩
 .exact⟨Aj hD2 _,rfl⟩
 .rintro i ys H1 hi ⟨e1,rfl⟩ U;have E1:=T.trans e1;obtain⟨p,d,Z,h2,h3⟩:=at_ i hi;have hpm:=aL Z;have hkk:=hk1 (List.ne_nil_of_mem hpm);obtain⟨p1,p2,p3⟩:=hp p hpm;refine⟨⟨xs,xs[i],Am.of (E1 _ _ ha),by simp[hi]⟩,?_,fun x H' y=>?_⟩
  .rw[Pi,Pi,(FL)];exact aP (Nat.min_le_left _ _) (aD (show i<1000 by lia) (by rw[sizeLine_eq];decide))
  .obtain⟨rfl,y⟩:=y;have I:=y xs (Am.of (E1 _ _ ha));rw[List.getElem?_eq_getElem hi,h2]at I;cases I;unfold Ky;refine MF ⟨_,rfl,_,_,_,_,rfl,rfl,A4.of (E1 _ _ h3),rfl,_,rfl,_,rfl,_,_,_,_,rfl,rfl,A4.of (E1 _ _ h3),rfl,_,_,rfl,rfl,⟨by lia,k,by lia,p3⟩,_,_,rfl,rfl,R9 p2 (aP (FM.DD c p.2) c2) AS,U,G7 hi ⟨fun b o z=>?_,?_⟩⟩
   .rw[AN (Ah z hD2)];exact e1 _ _ z
   .rw[List.take_succ,Z];simp
 rintro ys H1 ⟨e1,rfl⟩ U;refine⟨⟨xs,Am.of ((T.trans e1) _ _ ha),Nat.le_refl _⟩,?_⟩;rw[hl,(Fv)]at U;refine⟨D2,_,rfl,Am.of U,_,rfl,_,c,k*ps.length+1,rfl,by lia,by lia,c2,fun l H' e2 hl'=>?_⟩;refine q l H' (T.trans (e1.trans e2)) ?_;rw[Zk AS fun p M=>⟨by have:=(hp p M).1;lia,c3 _ (List.mem_map_of_mem M)⟩]at hl';exact hl'
def VI:BQ ["powers","part","start","top","bottom","power","place"] ["powers","part","start"] (AW Jg):=D5
def TJ(F:Fn K mg "term_worth" Jg ["powers","part","start"] f fd)(Fy:Fn K mg "power_of" L4 ["base","power"] g gd) (Rb:Af P w K mg base Ac 1 g gd ["base","power"] bw)(Vd:mg "zip" = none):Af P w K mg base Ac 2 f fd ["powers","part","start"] ma:=by
 have sc:=VI;refine F.F.ok (k:=1) sc On OK
 .obtain⟨P,F,S,ps,r,rs,xs,many,k,kd,n,nd,rfl,_⟩:=h
  rfl
 obtain⟨P,F,S,ps,r,rs,xs,many,k,kd,n,nd,rfl,hP,hF,st,I,M,hk,hkd,hn,hnd,hps,rn,rd,q⟩:=h;refine⟨_,(Ai (A0 (i:=3) sc.nd rfl IN (IU KI (pv 1) Bu (fun _ _=>rfl)))
 (Ai (A0 (i:=4) sc.nd rfl IN (IU KI (pv 1) Bu (fun _ _=>rfl)))
 (Ai (Jx bC rfl (gw rfl Vd (AV (pv 0) (AV (pv 2) Au))) (NQ rfl (EY (Dj (i:=5) sc.nd rfl IN) (EY (Dj (i:=6) sc.nd rfl IN) Lq)))
  (Ai (A0 (i:=3) sc.nd rfl IN (DQ IL (pv 3) (EW Fy Rb hr rfl (AV (IU KI (pv 6) Bu (fun _ _=>rfl)) (AV (pv 5) Au)))))
  (A8 (A0 (i:=4) sc.nd rfl IN (DQ IL (pv 4) (EW Fy Rb hr rfl (AV (IU KI (pv 6) Bu (fun _ _=>rfl)) (AV (pv 5) Au))))))))
 (A8 (Ds (NR (AV (pv 3) (AV (pv 4) Au)))))))),?_⟩
 refine⟨_,rfl,_,_,_,_,rfl,rfl,A4.of hF,rfl,_,rfl,_,_,_,_,rfl,rfl,A4.of hF,rfl,?_⟩;refine⟨_,rfl,_,rfl,true,false,P,S,rfl,⟨_,hP⟩,⟨_,st.at_⟩,vm many (fun i σ H'=>∃(t b:Int) (r5 r6:Option V),σ=[some (.ref P),some (.ref F),some (.ref S),some (.int t),some (.int b),r5,r6]/\AI H H'/\1<=b/\t.natAbs<2^(n+(3*k+1)*i)/\b.natAbs<2^(nd+(3*kd+1)*i)/\Rat.divInt t b=r*GC ((ps.zip rs).take i)) ?_ ?_ ?_⟩
 .refine⟨_,_,_,_,rfl,.refl _,?_,rn,rd,?_⟩
  .have:=r.den_nz;show(1:Int)<=(r.den:Int)
   lia
  .show Rat.divInt r.num (r.den:Int)=r*1;rw[FM.EZ,Rat.mul_one]
 .rintro i σ H1 hi ⟨t,b,r5,r6,rfl,l,b1,Z,nb,hv⟩;have hp:ps[i]? = some (ps[i]' AS):=aj _;have hx:rs[i]? = some (rs[i]'(by have:=st.len;lia)):=aj _;generalize ps[i]' AS=p at hp;generalize rs[i]'(by have:=st.len;lia)=x at hx;obtain⟨c,U,T⟩:=cH st.du hx;obtain⟨p0,p3⟩:=hps p (aL hp);obtain⟨xn,xd⟩:=st.fit x (aL hx);have Y:(ps.map V.int)[i]? = some (.int p):=by rw[(BG),hp];rfl
  refine⟨⟨_,_,_,_,l _ _ hP,l _ _ st.at_,Y,U⟩,fun v H' y=>?_⟩;obtain⟨pp,x1,x2,rfl,np,rfl,q1,q2⟩:=y;have w1:=q1 _ (l _ _ hP);have w2:=q2 _ (l _ _ st.at_);rw[Y]at w1;rw[U]at w2;cases w1;cases w2;have sp:=Aj np (.tup [.int p,.ref c]);have E:=l.trans sp;obtain⟨pn,rfl⟩:∃pn:Nat,p=(pn:Int):=⟨p.toNat,by lia⟩;have n1:=J7 (k:=k) (e:=pn) (p:=3) xn AS;have n2:=J7 (k:=kd) (e:=pn) (p:=3) xd AS;have ki:(3*k+1)*i<=(3*k+1)*4:=aV _ AS;have kdi:(3*kd+1)*i<=(3*kd+1)*4:=aV _ AS;have kp:k*pn<=k*3:=aV _ AS;have kdp:kd*pn<=kd*3:=aV _ AS;refine⟨pp,_,rfl,A4.of AR,rfl,_,_,rfl,_,_,rfl,rfl,?_⟩;refine⟨_,rfl,_,rfl,_,_,_,_,rfl,rfl,A4.of (E _ _ T),rfl,_,rfl,x.num,pn,k,rfl,xn,by lia,_,_,rfl,rfl,R9 Z n1 AS,?_⟩;refine⟨_,rfl,_,rfl,_,_,_,_,rfl,rfl,A4.of (E _ _ T),rfl,_,rfl,(x.den:Int),pn,kd,rfl,xd,by lia,_,_,rfl,rfl,R9 nb n2 AS,?_⟩;refine⟨_,_,_,_,rfl,E,?_,?_,?_,?_⟩
  .have:=Int.mul_le_mul b1 (lU x.den_nz pn) AC AS
   simpa using this
  .have:=FM.Bj Z n1;refine FM.HD this ?_;have e:(3*k+1)*SB=(3*k+1)*i+(3*k+1):=Nat.mul_succ _ _
   lia
  .have:=FM.Bj nb n2;refine FM.HD this ?_;have e:(3*kd+1)*SB=(3*kd+1)*i+(3*kd+1):=Nat.mul_succ _ _
   lia
  .rw[jS hp hx,Zw,<-Rat.mul_assoc,<-hv,Int.toNat_natCast,<-WY,Rat.divInt_mul_divInt]
 .rintro σ H1 ⟨t,b,r5,r6,rfl,l,b1,Z,nb,hv⟩;refine⟨⟨_,_,l _ _ hP,l _ _ st.at_,.inl (by rw[Pi,I])⟩,_,rfl,_,rfl,xG (show 2<=60 by decide),fun c hc=>?_⟩;rw[List.take_of_length_le (by rw[List.length_zip,st.len,I,Nat.min_self];exact aG _)]at hv;have ki:(3*k+1)*many<=(3*k+1)*4:=aV _ M;have kdi:(3*kd+1)*many<=(3*kd+1)*4:=aV _ M;exact q c _ t b (l.trans (Aj hc _)) AR b1 (FM.HD Z AS) (FM.HD nb AS) hv
def YT:BQ ["some","start"] ["some","start"] (AW MU):=D5
def X2(F:Fn K mg "worth_at" MU ["some","start"] f fd)(Dl:Fn K mg "frac_total" HZ ["some"] g1 gd1)(Hb:Fn K mg "term_worth" Jg ["powers","part","start"] g2 gd2) (Jy:Af P w K mg base Ac 3 g1 gd1 ["some"] W7)(Xq:Af P w K mg base Ac 3 g2 gd2 ["powers","part","start"] ma):Af P w K mg base Ac 4 f fd ["some","start"] Xa:=by
 have sc:=YT;refine F.F.ok (k:=3) sc On OK
 .obtain⟨a,S,xs,ys,us,rs,many,k,kd,n,nd,rfl,_⟩:=h
  rfl
 obtain⟨a,S,xs,ys,us,rs,many,k,kd,n,nd,rfl,ha,dx,h12,hus,st,hm4,hk,hkd,hn,hsz,q⟩:=h;have hxl:xs.length=us.length:=by rw[dx.len,Pi]
 refine⟨_,(A8 (Ds (EW Dl Jy hr rfl (AV (eQ [".0","powers","part","start"] 1 2 [none,none,none,some 1] (FD (pv 0)) (fun _ _ _ _ _=>Gz) (fun _ _ _ _ _=>(EW Hb Xq hr rfl (AV (pv 1) (AV (pv 2) (AV (pv 3) Au)))))) Au)))),?_⟩;refine⟨_,rfl,a,rfl,⟨_,Am.of ha⟩,fun D hD=>jL (n:=xs.length) (fun i Y H'=>AI H H'/\∃T:List (Int×Int),T.length=i/\Y.length=i/\(∀(j:Nat) z p,Y[j]? = some z->T[j]? = some p->∃c,z=.ref c/\H' c=some (.tup [.int p.1,.int p.2]))/\(∀p∈T,1<=p.2/\p.1.natAbs<2^(n+(3*k+1)*4)/\p.2.natAbs<2^(nd+(3*kd+1)*4))/\T.map (fun p=>Rat.divInt p.1 p.2)=(us.take i).map fun m=>m.2*GC (m.1.zip rs)) ?_ ?_ ?_⟩
 .exact⟨Aj hD _,[],rfl,rfl,fun j z p h=>by simp at h,fun _ z=>(List.not_mem_nil z).elim,rfl⟩
 .rintro i Y H1 hi ⟨U,T,hql,hzl,hz,hb,hv⟩ M;obtain⟨t,ht⟩:∃t,us[i]? = some t:=⟨us[i]' AS,List.getElem?_eq_getElem _⟩;obtain⟨c,P,F,k1,k2,k3,k4⟩:=ky dx ht;obtain⟨u1,u2,u3,u4⟩:=hus t (aL ht);refine⟨⟨xs,xs[i],Am.of (U _ _ ha),by simp[hi]⟩,zL (n:=60) AS AC,fun x H' y=>?_⟩;obtain⟨rfl,y⟩:=y;have hx:=y xs (Am.of (U _ _ ha));rw[k1]at hx;cases hx;refine⟨c,_,_,rfl,A4.of (U _ _ k2),?_⟩;unfold Ky;refine MF ⟨_,rfl,_,rfl,_,rfl,P,F,S,t.1,t.2,rs,ys,many,k,kd,n,nd,rfl,U _ _ k3,U _ _ k4,st.same U,u1,hm4,hk,hkd,hn,by lia,u2,u3,u4,fun c' H2 tt bb e2 hc' b1 nt nb hv'=>?_⟩;refine⟨e2 _ _ M,G7 hi ⟨fun b o z=>?_,T++[(tt,bb)],by simp[hql],by simp[hzl],fun j z p Z I=>?_,fun p I=>?_,?_⟩⟩
  .rw[AN (Ah z hD)];exact e2 _ _ (U _ _ z)
  .by_cases hjl:j<Y.length
   .rw[List.getElem?_append_left hjl]at Z;rw[List.getElem?_append_left AS]at I;obtain⟨c1,rfl,hc1⟩:=hz j z p Z I;refine⟨c1,rfl,?_⟩;rw[AN (fun zz=>by rw[zz,M]at hc1;cases hc1)];exact e2 _ _ hc1
   .rw[List.getElem?_append_right AS]at Z I;have hk:j-Y.length=0:=by
     have:=(aF.mp Z).1;simp at this;lia
    rw[show j-T.length=0 by lia]at I;rw[hk]at Z;simp at Z I;subst Z I;exact⟨c',rfl,by rw[AN (fun zz=>by rw[zz,e2 _ _ M]at hc';cases hc')];exact hc'⟩
  .rcases aX.mp I with I|I
   .exact hb p I
   .rw[List.mem_singleton.mp I];exact⟨b1,nt,nb⟩
  .rw[(DJ),hv,List.take_succ,ht,(DJ)];simp only[List.map_cons,List.map_nil,Option.toList_some];rw[hv']
 .rintro Y H1 ⟨U,T,hql,hzl,hz,hb,hv⟩ M;refine⟨⟨xs,Am.of (U _ _ ha),Nat.le_refl _⟩,?_⟩;have hq12:(nd+(3*kd+1)*4)*T.length<=(nd+(3*kd+1)*4)*12:=aV _ AS;refine⟨D,Y,T,n+(3*k+1)*4,nd+(3*kd+1)*4,rfl,M,by lia,by lia,hz,hb,by lia,by lia,fun l H' e2 hl'=>q l H' (U.trans e2) ?_⟩;rw[hv,hxl,(Fv)]at hl';exact hl'
end
def snocInd{α:Type}{P:List α->Prop}(h0:P [])(M:∀l a,P l->P (l++[a])) l:P l:=by
 have:=(show ∀r ,P r.reverse from fun r=>by
  induction r with
  |nil=>exact h0
  |cons a r I=>grind) l.reverse
 grind
def Ob(e:AI H H')(h:H' p=none):H p=none:=by
 cases k:H p with
 |none=>rfl
 |some o=>rw[e _ _ k]at h;lia
abbrev T3:=List Int×Int×Int
def Cd(ts:List T3):List AAx:=ts.foldl (fun l t=>if t.1∈l then l else l++[t.1]) []
def Fx ts t:Cd (ts++[t])=if t.1∈Cd ts then Cd ts else Cd ts++[t.1]:=by unfold Cd;simp
def Pj:∀ts ,(Cd ts).Nodup:=snocInd .nil fun l t I=>by
 rw[Fx]
 grind
def N2:∀ts ,k∈Cd ts->∃t∈ts,t.1=k:=snocInd (fun h=>by cases h) fun l t I h=>by
 rw[Fx]at h;split at h
 .obtain⟨u,a,b⟩:=I h;grind
 .rcases aX.mp h with h|h
  .obtain⟨u,a,b⟩:=I h;grind
  grind
def gY ts:(Cd ts).length<=ts.length:=by
 refine snocInd (P:=fun ts=>(Cd ts).length<=ts.length) M0 (fun l t I=>?_) ts;rw[Fx]
 grind
def Kn(k:AAx)(ts:List T3):List (Int×Int):=(ts.filter fun t=>decide (t.1=k)).map (·.2)
def MQ k ts t:Kn k (ts++[t])=if t.1=k then Kn k ts++[t.2] else Kn k ts:=by
 unfold Kn
 grind
def oT(h:k ∉ Cd ts):Kn k ts=[]:=by
 revert h
 refine snocInd (P:=fun ts=>k ∉ Cd ts->Kn k ts=[]) (fun _=>rfl) (fun l t I h=>?_) ts;rw[Fx]at h;rw[MQ]
 grind
def ZE(h:p∈Kn k ts):∃t∈ts,t.2=p:=by
 obtain⟨t,I,l⟩:=aI.mp h
 grind
def Om k ts:(Kn k ts).length<=ts.length:=by unfold Kn;grind
def sumK(ts:List T3)(k:AAx):Rat:=((Kn k ts).map fun p=>Rat.divInt p.1 p.2).sum
def desc(a b:AAx):Bool:=!IT.lt a b
def JX(ts:List T3):List AAx:=(Cd ts).mergeSort desc
def OP(ts:List T3)(k:AAx):Option AY:=if sumK ts k=0 then none else some (k,sumK ts k)
def MM(ts:List T3):List AY:=(JX ts).filterMap (OP ts)
def lP(p:l.Perm (Cd ts))(s:l.Pairwise fun a b=>IT.ord.kle b a):l=JX ts:=by
 have e:∀a b ,IT.ord.kle b a ↔ desc a b=true:=fun a b=>by
  unfold desc;show IT.lt a b=false ↔ _
  lia
 refine List.Perm.eq_of_pairwise (fun a b _ _ M I=>PyProof.Rows.KeyOrd.kle_antisymm I M) s ((List.pairwise_mergeSort (le:=desc) (fun a b c M I=>(e a c).mp (PyProof.Rows.KeyOrd.kle_trans ((e b c).mpr I) ((e a b).mpr M))) (fun a b=>?_) _).imp fun h=>by grind) (p.trans (List.mergeSort_perm _ _).symm);unfold desc;cases h:IT.lt a b with
 |false=>rfl
 |true=>
  cases I:IT.lt b a with
  |false=>rfl
  |true=>have:=IT.lt_trans a b a h I;rw[IT.lt_irrefl]at this;lia
def XJ{α β:Type}{f:α->β}{l:List α}(h:(l.map f).Nodup){a b}(ha:a∈l)(hb:b∈l)(e:f a=f b):a=b:=by
 induction l with
 |nil=>cases ha
 |cons x l I=>
  grind
def Fs(H:Hp)(ps:List (Int×Int))(ys:ABC):Prop:=ys.length=ps.length/\∀(j:Nat) x p,ys[j]? = some x->ps[j]? = some p->∃c,x=.ref c/\H c=some (.tup [.int p.1,.int p.2])
def Fs.but(h:Fs H ps ys)(k:∀xs,H a≠some Jl):Fs (upd H a o) ps ys:=⟨h.1,fun j x p l I=>let⟨c,e,q⟩:=h.2 j x p l I;⟨c,e,by rw[AN (fun z=>by grind)];lia⟩⟩
def Fs.snoc(h:Fs H ps ys)(k:H F=some (.tup [.int p.1,.int p.2])):Fs H (ps++[p]) (ys++[.ref F]):=by
 refine⟨by rw[(Ck),(Ck),h.1];rfl,fun j x q l I=>?_⟩;by_cases z:j<ps.length
 .rw[List.getElem?_append_left z]at I;rw[List.getElem?_append_left (by rw[h.1];exact z)]at l;exact h.2 j x q l I
 .rw[List.getElem?_append_right (by rw[h.1];lia),h.1]at l
  grind
abbrev kvsOf(kls:List (List Int×AD)):List (List Key×V):=kls.map fun q=>(q.1.map Sum.inl,V.ref q.2)
structure GI(H0:Hp)(A:Addr)(ts:List T3)(H:Hp)(kls:List (List Int×Addr)):Prop where
 at_:H A=some (.dT (kvsOf kls))
 keys:kls.map Hq=Cd ts
 UC:∀q∈kls,∃ys,H q.2=some KB/\Fs H (Kn q.1 ts) ys
 new:∀q∈kls,H0 q.2=none
 nd:(kls.map (·.2)).Nodup
 same:AI H0 H
def qO{a b:AAx}:a.map (Sum.inl (β:=Str))=b.map Sum.inl ↔ a=b:=⟨fun h=>by
 induction a generalizing b with
 |nil=>simp_all
 |cons x a l=>cases b with
  |nil=>cases h
  |cons y b=>
   grind,fun h=>by rw[h]⟩
theorem OM:∀kls ,Cs (kvsOf kls) (k.map Sum.inl)=(kls.find? fun q=>decide (q.1=k)).map fun q=>V.ref q.2
 |[]=>rfl
 |q::kls=>by
  have l:=OM (k:=k) kls;unfold Cs at l ⊢;rw[show kvsOf _=(q.1.map Sum.inl,V.ref q.2)::kvsOf kls from rfl,(LD),(LD)];by_cases z:q.1=k
  .grind
  .rw[decide_eq_false (fun e=>z (qO.mp e))];lia
def GI.old{H0 H:Hp}{A p F:AD}{ts:List T3}{kls:List (AAx×AD)}{t:T3}{v:V}(g:GI H0 A ts H kls)(hA:H0 A=none)(hp:H p=none)(hF:H F=some (.tup [.int t.2.1,.int t.2.2]))(hv:Cs (kvsOf kls) (t.1.map Sum.inl)=some v):∃l ys,v=.ref l/\upd H p OF l=some KB/\ys.length<=ts.length/\GI H0 A (ts++[t]) (upd (upd H p OF) l (.lst (ys++[.ref F]))) kls:=by
 rw[OM]at hv;obtain⟨q,h1,rfl⟩:=aC.mp hv;have T:=List.mem_of_find?_eq_some h1;have hk:q.1=t.1:=by simpa using List.find?_some h1
 obtain⟨ys,Y,fs⟩:=g.UC q T;have npl:q.2≠p:=Ah Y hp;have Z:t.1∈Cd ts:=by rw[<-g.keys,<-hk];exact aI.mpr ⟨q,T,rfl⟩
 have M:=Aj hp OF;have U:upd H p OF q.2=some KB:=M _ _ Y;have nlA:q.2≠A:=fun z=>by rw[z,g.at_]at Y;cases Y
 refine⟨q.2,ys,rfl,U,by rw[fs.1];exact Om _ _,?_⟩;have tup:∀xs,upd H p OF q.2≠some Jl:=fun xs z=>by rw[U]at z;cases z
 have I:∀ {ps zs},Fs H ps zs->Fs (upd (upd H p OF) q.2 (.lst (ys++[.ref F]))) ps zs:=fun h=>(h.but (fun xs z=>by rw[hp]at z;cases z)).but tup;refine⟨?_,by rw[Fx,if_pos Z];exact g.keys,fun r hr=>?_,g.new,g.nd,fun b o z=>?_⟩
 .rw[AN (Ne.symm nlA)];exact M _ _ g.at_
 .obtain⟨zs,hz,fz⟩:=g.UC r hr;rw[MQ];by_cases e:r.2=q.2
  .have er:r=q:=XJ g.nd hr T e;subst er;rw[Y]at hz;cases hz;rw[if_pos hk.symm];exact⟨_,by rw[AR],(I fz).snoc (by rw[AN (fun z=>tup _ (z ▸ M _ _ hF))];exact M _ _ hF)⟩
  .rw[if_neg fun z=>e (ae Prod.snd (XJ (f:=Prod.fst) (by rw[g.keys];exact Pj ts) hr T (z.symm.trans hk.symm)))];exact⟨zs,by rw[AN e];exact M _ _ hz,I fz⟩
 .rw[AN (Ah z (g.new q T))];exact M _ _ (g.same _ _ z)
def GI.fresh{H0 H:Hp}{A p F:AD}{ts:List T3}{kls:List (AAx×AD)}{t:T3}(g:GI H0 A ts H kls)(hA:H0 A=none)(I:H p=none)(hF:H F=some (.tup [.int t.2.1,.int t.2.2]))(hv:Cs (kvsOf kls) (t.1.map Sum.inl)=none):GI H0 A (ts++[t]) (upd (upd (upd H p OF) A (.dT (kvsOf kls++[(t.1.map Sum.inl,.ref p)]))) p (.lst ([]++[.ref F]))) (kls++[(t.1,p)]):=by
 rw[OM]at hv;have hn:t.1 ∉ Cd ts:=fun z=>by
  rw[<-g.keys]at z;obtain⟨q,h1,h2⟩:=aI.mp z;rw[Option.map_eq_none_iff,List.find?_eq_none]at hv;exact hv q h1 (by simpa using h2)
 have Y:A≠p:=Ah g.at_ I;have e1:=Aj I OF;have hA1:=e1 _ _ g.at_;have M:∀xs,upd H p OF A≠some Jl:=fun xs z=>by rw[hA1]at z;cases z
 have tupP:∀xs,upd (upd H p OF) A (.dT (kvsOf kls++[(t.1.map Sum.inl,.ref p)])) p≠some Jl:=fun xs z=>by rw[AN (Ne.symm Y),AR]at z;cases z
 have Z:∀ {ps U},Fs H ps U->Fs (upd (upd (upd H p OF) A (.dT (kvsOf kls++[(t.1.map Sum.inl,.ref p)]))) p (.lst ([]++[.ref F]))) ps U:=fun h=>((h.but (fun xs z=>by rw[I]at z;cases z)).but M).but tupP;have hF3:(upd (upd (upd H p OF) A (.dT (kvsOf kls++[(t.1.map Sum.inl,.ref p)]))) p (.lst ([]++[.ref F]))) F=some (.tup [.int t.2.1,.int t.2.2]):=by
  rw[AN (fun z=>by subst z;rw[hF]at I;cases I),AN (fun z=>M _ (z ▸ e1 _ _ hF))];exact e1 _ _ hF
 refine⟨?_,?_,fun r l=>?_,fun r l=>?_,?_,fun b o z=>?_⟩
 .rw[AN Y,AR];unfold kvsOf;rw[(DJ)];rfl
 .rw[(DJ),g.keys,Fx,if_neg hn];rfl
 .rcases aX.mp l with l|l
  .obtain⟨U,T,fz⟩:=g.UC r l;have hr1:r.1∈Cd ts:=by rw[<-g.keys];exact aI.mpr ⟨r,l,rfl⟩
   rw[MQ,if_neg fun e:t.1=r.1=>hn (e ▸ hr1)];refine⟨U,?_,Z fz⟩;rw[AN (Ah T I),AN (fun e=>by rw[e,g.at_]at T;cases T)];exact e1 _ _ T
  .rw[List.mem_singleton.mp l];refine⟨[]++[.ref F],AR,?_⟩;rw[MQ,if_pos rfl,oT hn];exact Fs.snoc (ps:=[]) (ys:=[]) ⟨rfl,fun j x p hx=>by cases hx⟩ hF3
 .rcases aX.mp l with l|l
  .exact g.new r l
  .rw[List.mem_singleton.mp l];exact Ob g.same I
 .rw[(DJ),List.nodup_append];refine⟨g.nd,by simp,fun a ha b hb e=>?_⟩;obtain⟨r,l,rfl⟩:=aI.mp ha;obtain⟨U,T,_⟩:=g.UC r l;rw[(BR),List.map_nil,List.mem_singleton]at hb;rw[e,hb,I]at T;cases T
 .rw[AN (Ah z (Ob g.same I)),AN (Ah z hA)];exact e1 _ _ (g.same _ _ z)
def Xo(h:n<=1000):n<sizeLine:=aP h AC
def GI.but(g:GI H0 A ts H kls)(e:SameBut S H H')(T:A≠S)(M:∀q∈kls,q.2≠S)(hS:∀xs,H S≠some Jl)(h0:H0 S=none):GI H0 A ts H' kls :=
 ⟨e _ _ T g.at_,g.keys,fun q l=>let⟨ys,Z,I⟩:=g.UC q l;⟨ys,e _ _ (M q l) Z,I.1,fun j x p U Y=>let⟨c,a,b⟩:=I.2 j x p U Y;⟨c,a,e _ _ (fun z=>by grind) b⟩⟩,g.new,g.nd,fun b o z=>e _ _ (Ah z h0) (g.same _ _ z)⟩
def GI.up(g:GI H0 A ts H kls)(e:AI H H'):GI H0 A ts H' kls :=
 ⟨e _ _ g.at_,g.keys,fun q M=>let⟨ys,U,l⟩:=g.UC q M;⟨ys,e _ _ U,l.1,fun j x p I T=>let⟨c,a,b⟩:=l.2 j x p I T;⟨c,a,e _ _ b⟩⟩,g.new,g.nd,fun b o z=>e _ _ (g.same _ _ z)⟩
def Kh(H:Hp)(ts:List T3)(xs:ABC):Prop:=xs.length=ts.length/\∀(j:Nat) t,ts[j]? = some t->∃c P F,xs[j]? = some (.ref c)/\H c=some (.tup [.ref P,.ref F])/\H P=some (.tup (t.1.map V.int))/\H F=some (.tup [.int t.2.1,.int t.2.2])
def Uv(m:AY):T3:=(m.1,m.2.num,(m.2.den))
def Kh.but(h:Kh H ts xs)(e:SameBut S H H')(I:∀xs,H S≠some Jl):Kh H' ts xs:=⟨h.1,fun j t l=>let⟨c,P,F,a,b,d,f⟩:=h.2 j t l;⟨c,P,F,a,e _ _ (fun z=>by grind) b,e _ _ (fun z=>by grind) d,e _ _ (fun z=>by grind) f⟩⟩
def Kh.same(h:Kh H ts xs)(e:AI H H'):Kh H' ts xs:=⟨h.1,fun j t l=>let⟨c,P,F,a,b,d,f⟩:=h.2 j t l;⟨c,P,F,a,e _ _ b,e _ _ d,e _ _ f⟩⟩
def Kh.snoc(h:Kh H ts xs)(b:H c=some (.tup [.ref P,.ref F]))(d:H P=some (.tup (t.1.map V.int)))(f:H F=some (.tup [.int t.2.1,.int t.2.2])):Kh H (ts++[t]) (xs++[.ref c]):=by
 refine⟨by rw[(Ck),(Ck),h.1];rfl,fun j u l=>?_⟩;by_cases z:j<ts.length
 .rw[List.getElem?_append_left z]at l;rw[List.getElem?_append_left (by rw[h.1];exact z)];exact h.2 j u l
 .rw[List.getElem?_append_right AS]at l;have:=(aF.mp l).1;rw[(Wh)]at this;rw[show j-ts.length=0 by lia]at l;cases l;exact⟨c,P,F,by rw[List.getElem?_append_right (by rw[h.1];lia),h.1,show j-ts.length=0 by lia];rfl,b,d,f⟩
def iX:Sp:=fun vs H Q _=>∃(T:AD) (xs:List V) (ts:List T3) (kt k:Nat),vs=[.ref T]/\H T=some Tl/\Kh H ts xs/\ts.length<=1000/\(∀t∈ts,t.1≠[]/\1<=t.2.2/\t.2.1.natAbs<2^kt/\t.2.2.natAbs<2^k)/\k*ts.length<=4000/\kt<=100000/\(Cd ts).length<64 /\
 ∀D H' l,AI H H'->H D=none->H' D=some (.lst l)->Kh H' ((MM ts).map Uv) l->Q (.ref D) H'
section
variable{P:F0b}{w:F0c}{K:Fg}{mg:AAs}{base:Heap}{f g1:AD}{fd gd1:F0a}
def YD:BQ ["terms","alike","powers","part","some","total"] ["terms"] (AW RX):=D5
def Yc{k:Nat}(F:Fn K mg "gathered" RX ["terms"] f fd)(Dl:Fn K mg "frac_total" HZ ["some"] g1 gd1)(Jy:Af P w K mg base Ac k g1 gd1 ["some"] W7)(FX:mg "sorted" = none):Af P w K mg base Ac (k+1) f fd ["terms"] iX:=by
 have sc:=YD;refine F.F.ok (k:=k) sc On OK
 .obtain⟨T,xs,ts,kt,kk,rfl,_⟩:=h
  rfl
 obtain⟨T,xs,ts,kt,kk,rfl,hT,tm,h1000,Ae,hk4,hkt,h64,q⟩:=h;refine⟨_,(Ai (A0 (i:=1) sc.nd rfl IN V2)
  (Ai (Jx bC rfl (FD (pv 0)) (NQ rfl (EY (Dj (i:=2) sc.nd rfl IN) (EY (Dj (i:=3) sc.nd rfl IN) Lq)))
   (A8 (II (Qb PySem.F.plainAttrs_list PySem.F.slot_list_append PySem.F.type_list_append Kp (dj (by have:=hr.units;exact aP (Nat.add_le_add_left (show 1<=64 by decide) _) this) (pv 1) (pv 2) (Q8 Au) ⟨rfl,rfl,rfl,rfl⟩) (AV (pv 3) Au)))))
  (Ai (A0 (i:=4) sc.nd rfl IN (Q8 Au))
  (Ai (Jx bC rfl (FD (js E2 rfl rfl FX (pv 1))) (Dj (i:=2) sc.nd rfl IN)
   (Ai (A0 (i:=5) sc.nd rfl IN (EW Dl Jy hr rfl (AV (Yq (by have:=hr.units;exact aP (Nat.add_le_add_left (show 1<=64 by decide) _) this) (pv 1) (pv 2) (fun _ _=>rfl)) Au)))
   (A8 (IY (Dg nR (IU KI (pv 5) Bu (fun _ _=>rfl)) Bu (FC _))
    (A8 (II (Qb PySem.F.plainAttrs_list PySem.F.slot_list_append PySem.F.type_list_append Kp (pv 4) (AV (NR (AV (pv 2) (AV (pv 5) Au))) Au))))
    FJ))))
  (A8 (Ds (pv 4))))))),?_⟩
 refine fun A hA=>?_;have e1:=Aj hA (.dT []);have g1:GI H A [] (upd H A (.dT [])) []:=⟨AR,rfl,(fun _ z=>(List.not_mem_nil z).elim),(fun _ z=>(List.not_mem_nil z).elim),List.nodup_nil,e1⟩;generalize upd H A (.dT [])=H1 at e1 g1;refine⟨_,rfl,T,rfl,⟨_,Am.of (e1 _ _ hT)⟩,Pz (xs:=xs) (fun i σ H'=>∃(Y r3:Option V) (kls:List (List Int×AD)),σ=[some (.ref T),some (.ref A),Y,r3,none,none]/\GI H A (ts.take i) H' kls) ?_ ?_ ?_ ?_⟩
 .exact⟨_,_,[],rfl,g1⟩
 .rintro i σ H' _ ⟨Y,r3,kls,rfl,g⟩;exact Am.of (g.same _ _ hT)
 .rintro i x σ H2 hx ⟨Y,r3,kls,rfl,g⟩;have hi:i<ts.length:=by rw[<-tm.1];exact(aF.mp hx).1
  have hti:ts[i]? = some ts[i]:=by simp[hi]
  obtain⟨c,Pw,Fr,q1,q2,q3,q4⟩:=tm.2 i _ hti;have tk:ts.take SB=ts.take i++[ts[i]]:=by rw[(Iu),hti];rfl
  rw[tk];generalize ts[i]=t at q3 q4;rw[hx]at q1;cases q1;have hkl:kls.length<=i:=by
   have:=ae List.length g.keys;rw[Pi]at this;have:=gY (ts.take i);rw[(FL)]at this
   lia
  refine⟨c,_,rfl,A4.of (g.same _ _ q2),rfl,_,_,rfl,_,_,rfl,rfl,?_⟩;refine⟨_,rfl,A,rfl,.inr ⟨_,.inl g.at_⟩,_,rfl,(by show 0<=sizeLine;decide),fun p hp=>?_⟩;have nAp:A≠p:=Ah g.at_ hp;have e3:=Aj hp OF;refine⟨kvsOf kls,t.1.map Sum.inl,Pw,e3 _ _ g.at_,rfl,(by rw[(Bb)];exact e3 _ _ (g.same _ _ q3)),(by rw[Pi];exact Xo AS),fun v hv=>?_,fun hv=>?_⟩
  .obtain⟨l,ys,rfl,I,hyl,g'⟩:=g.old hA hp (g.same _ _ q4) hv;refine⟨.inl ⟨rfl,_,Am.of I⟩,_,rfl,l,ys,_,rfl,rfl,I,Xo (by rw[(FL)]at hyl;lia),?_⟩;exact⟨_,_,kls,rfl,g'⟩
  .have g':=g.fresh hA hp (g.same _ _ q4) hv;have I:upd (upd H2 p OF) A (.dT (kvsOf kls++[(t.1.map Sum.inl,.ref p)])) p=some OF:=by rw[AN (Ne.symm nAp)];exact AR
   refine⟨.inl ⟨rfl,_,Am.of I⟩,_,rfl,p,[],_,rfl,rfl,I,(by show 0<sizeLine;decide),?_⟩;exact⟨_,_,_,rfl,g'⟩
 .rintro σ H2 ⟨Y,r3,kls,rfl,g⟩;rw[tm.1,(Fv)]at g;refine⟨(by show 0<=sizeLine;decide),fun S hS=>?_⟩;have e3:=Aj hS OF;have hS3:upd H2 S OF S=some OF:=AR;have g3:=g.up e3;have nAS:A≠S:=Ah g.at_ hS;have nqS:∀q∈kls,q.2≠S:=fun q hq=>let⟨ys,h1,_⟩:=g.UC q hq;Ah h1 hS;have hS0:H S=none:=Ob g.same hS;generalize upd H2 S OF=H3 at e3 hS3 g3;have hkl:kls.length=(Cd ts).length:=by rw[<-g.keys,Pi]
  refine⟨_,rfl,A,kvsOf kls,Cd ts,rfl,g3.at_,(by rw[Pi];lia),fun prog w=>GS.He (O:=IT.ord) (ks:=(Cd ts).reverse) (aP (Nat.le_of_eq List.length_reverse) h64),fun p hp=>?_,(by rw[(Bb),<-g.keys,(Bb)];rfl),fun D L hD perm pw hL=>?_⟩
  .obtain⟨t,ht,rfl⟩:=N2 ts hp;exact(Ae t ht).1
  have e4:=Aj hD (.lst Re);have hD4:upd H3 D (.lst Re) D=some (.lst Re):=AR;have g4:=g3.up e4;have Z:=e4 _ _ hS3;have nDS:D≠S:=(Ah hS3 hD).symm;have hL4:∀l∈L,upd H3 D (.lst Re) l.2=some (.tup (l.1.map V.int)):=fun l I=>e4 _ _ (hL l I);have hLk:L.map Hq=JX ts:=lP perm (List.pairwise_map.mpr pw);generalize upd H3 D (.lst Re)=H4 at e4 hD4 g4 Z hL4;refine⟨D,rfl,⟨_,Am.of hD4⟩,Pz (xs:=L.map fun l=>V.ref l.2) (fun i σ H'=>∃(Y r5:Option V) (U:List V),σ=[some (.ref T),some (.ref A),Y,r3,some (.ref S),r5]/\SameBut S H4 H'/\GI H A ts H' kls/\H' S=some (.lst U)/\U.length<=i/\Kh H' ((((JX ts).take i).filterMap (OP ts)).map Uv) U) ?_ ?_ ?_ ?_⟩
  .exact⟨_,_,[],rfl,fun _ _ _ z=>z,g4,Z,Nat.le_refl _,rfl,fun j t ht=>by cases ht⟩
  .rintro i σ H' _ ⟨Y,r5,U,rfl,e,_⟩;exact Am.of (e _ _ nDS hD4)
  .rintro i x σ H5 hx ⟨Y,r5,U,rfl,e5,g5,hS5,hzl,tz⟩;rw[(BG)]at hx;obtain⟨l,I,rfl⟩:=aC.mp hx;have hi:i<L.length:=(aF.mp I).1;have hLm:=aL I;have hki:(JX ts)[i]? = some l.1:=by rw[<-hLk,(BG),I];rfl
   have tk:(JX ts).take SB=(JX ts).take i++[l.1]:=by rw[(Iu),hki];rfl
   have hP5:=e5 _ _ (fun z=>by rw[<-z,hL4 l hLm]at Z;cases Z) (hL4 l hLm);have hmem:l.1∈kls.map Hq:=by
    rw[g.keys];have:l.1∈L.map Hq:=aI.mpr ⟨l,hLm,rfl⟩;exact perm.mem_iff.mp this
   obtain⟨kq,hkq,M⟩:=aI.mp hmem;obtain⟨ys,hy,fs⟩:=g5.UC kq hkq;have hval:Cs (kvsOf kls) (l.1.map Sum.inl)=some (.ref kq.2):=by
    rw[OM];cases hf:kls.find? fun q=>decide (q.1=l.1) with
    |none=>
     rw[List.find?_eq_none]at hf;exact absurd (by simpa using M) (hf kq hkq)
    |some r=>
     have:=XJ (f:=Prod.fst) (by rw[g.keys];exact Pj ts) (List.mem_of_find?_eq_some hf) hkq ((show r.1=l.1 by simpa using List.find?_some hf).trans M.symm);rw[this];rfl
   have hget:KH H5 A (.ref l.2) (some (.ref kq.2)):=by
    have:=KH.t (k:=l.1.map Sum.inl) (b:=l.2) g5.at_ (by rw[(Bb)];exact hP5);rw[hval]at this;exact this
   rw[tk,List.filterMap_append,(DJ)];rw[M]at fs;refine⟨_,rfl,_,rfl,A,.ref kq.2,rfl,hget,kq.2,ys,Kn l.1 ts,kt,kk,rfl,hy,fs.1,Nat.le_trans (Om _ _) h1000,fs.2,fun p hp=>?_,Nat.le_trans (aV _ (Om _ _)) hk4,hkt,fun Fo H6 e6 hFo=>?_⟩
   .obtain⟨t,ht,rfl⟩:=ZE hp;exact(Ae t ht).2
   have hFo:H6 Fo=some (.tup (MK (sumK ts l.1))):=hFo;have g6:=g5.up e6;have tz6:=tz.same e6;have hS6:=e6 _ _ hS5;have hP6:=e6 _ _ hP5;have sb6:SameBut S H4 H6:=e5.trans (.of e6);refine⟨_,rfl,_,_,_,_,rfl,rfl,A4.of hFo,rfl,rfl,_,rfl,MB (fun cc=>?_) (fun cc=>?_)⟩
   .have hne:sumK ts l.1≠0:=fun z=>by
     rw[z]at cc;simp at cc
    have hgo:OP ts l.1=some (l.1,sumK ts l.1):=if_neg hne;rw[(Sf),hgo];refine⟨_,rfl,.inl ⟨rfl,_,Am.of hS6⟩,_,rfl,_,rfl,(by show 2<=sizeLine;decide),fun c hc=>?_⟩;have e7:=Aj hc (.tup [.ref l.2,.ref Fo]);have hc7:upd H6 c (.tup [.ref l.2,.ref Fo]) c=some (.tup [.ref l.2,.ref Fo]):=AR;generalize upd H6 c (.tup [.ref l.2,.ref Fo])=H7 at e7 hc7;have hS7:=e7 _ _ hS6;refine⟨S,U,_,rfl,rfl,hS7,Xo (by have:L.length<=1000:=(by have:=perm.length_eq;rw[Pi]at this;lia);lia),?_⟩;have hSt:∀xs,H7 S≠some Jl:=fun xs z=>by rw[hS7]at z;cases z
    refine⟨_,_,U++[.ref c],rfl,sb6.trans ((SameBut.of e7).trans .upd),(g6.up e7).but .upd nAS nqS hSt hS0,AR,by rw[(Ck)];exact Nat.add_le_add_right hzl 1,?_⟩;exact((tz6.same e7).snoc (t:=Uv (l.1,sumK ts l.1)) hc7 (e7 _ _ hP6) (e7 _ _ hFo)).but .upd hSt
   .have hz:sumK ts l.1=0:=by
     refine Rat.num_eq_zero.mp (Decidable.byContradiction fun z=>cc ?_)
     simpa using z
    have hgo:OP ts l.1=none:=if_pos hz;rw[(Sf),hgo];refine⟨_,_,U,rfl,sb6,g6,hS6,by lia,?_⟩;rw[show List.filterMap (OP ts) []=[] from rfl,List.map_nil,(MN)];exact tz6
  .rintro σ H5 ⟨Y,r5,U,rfl,e5,g5,hS5,hzl,tz⟩;have hll:(L.map fun l=>V.ref l.2).length=(JX ts).length:=by rw[<-hLk,Pi,Pi]
   rw[hll,(Fv)]at tz;exact⟨_,rfl,q S H5 U g5.same hS0 hS5 tz⟩
end
mutual
theorem Z9{H:Hp}:∀ {d:PD} {v:V},d.canLay0=true->Du H d v->DU H d v
 |.none,_,_,h=>by rw[Du]at h;subst h;exact .BV
 |.bool _,_,_,h=>by rw[Du]at h;subst h;exact .bool
 |.int _,_,_,h=>by rw[Du]at h;subst h;exact .int
 |.str _,_,_,h=>by rw[Du]at h;subst h;exact .str
 |.tuple _,_,c,h=>by
  rw[Du]at h;obtain⟨a,xs,rfl,I,l⟩:=h;exact .tup I (S4 (by simpa only[PyData.canLay0]using c) l)
 |.list _,_,c,h=>by
  rw[Du]at h;obtain⟨a,xs,rfl,I,l⟩:=h;exact .lst I (S4 (by simpa only[PyData.canLay0]using c) l)
 |.dict _,_,c,h=>by simp[PyData.canLay0]at c
theorem S4{H:Hp}:∀ {ds:List PD} {xs:List V},PyData.canLayAll0 ds=true->Ad H ds xs->Ff H ds xs
 |[],_,_,h=>by rw[h.nil_eq];exact .nil
 |_::_,_,c,h=>by
  obtain⟨x,r,rfl,I,l⟩:=h.un;simp only[PyData.canLayAll0,Bool.and_eq_true]at c;exact .cons (Z9 c.1 I) (S4 c.2 l)
end
def mI(M:AI G H)(e:AI H H')(T:H' l=some (.tup vs))(d:Ad G ds vs):∃G',AI G G'/\Nw G H G'/\AI G' H'/\Du G' (.tuple ds) (.ref l):=by
 have I:AI G (upd G l _):=fun a o h=>by
  by_cases ha:a=l
  .subst ha;have:=e _ _ (M _ _ h);rw[T]at this;rw[AR];exact this
  .rw[AN ha];lia
 refine⟨upd G l _,I,fun a u h=>?_,fun a u h=>?_,?_⟩
 .by_cases ha:a=l
  .subst ha;rw[AR]at h;grind
  .rw[AN ha]at h;lia
 .by_cases ha:a=l
  .subst ha;rw[AR]at h;lia
  .rw[AN ha]at h;exact e _ _ (M _ _ h)
 .exact⟨l,vs,rfl,AR,d.same I⟩
theorem J6:∀ps:List Int,Ad G (ps.map .int) (ps.map V.int)
 |[]=>.nil
 |p::ps=>.cons Iq (J6 ps)
theorem kK:∀ps:List Int,PyData.canLayAll0 (ps.map .int)=true
 |[]=>by rfl
 |p::ps=>by rw[(BR)];simp only[PyData.canLayAll0];rw[kK ps];rfl
def Tu(h:∀d∈ds,d.canLay0=true):PyData.canLayAll0 ds=true:=by
 induction ds with
 |nil=>rfl
 |cons d ds l=>simp only[PyData.canLayAll0];grind
def Qy(h:PyData.canLayAll0 ds=true):∀d∈ds,d.canLay0=true:=by
 induction ds with
 |nil=>simp
 |cons e ds l=>
  simp only[PyData.canLayAll0]at h
  grind
def Gb(h:∀d∈ds,d.canLay0=true):(PyData.list ds).canLay0=true:=Tu h
def VZ(h:∀d∈ds,d.canLay0=true):(PyData.tuple ds).canLay0=true:=Tu h
def Ju(G H H':Hp):Hp:=fun b=>match H' b with
 |some (.tup xs)=>some Jl
 |some o=>if H b=none then some o else G b
 |none=>none
def XI(h:H' a=some Jl):Ju G H H' a=some Jl:=by unfold Ju;rw[h]
def sD(h:H' a=some Tl)(h0:H a=none):Ju G H H' a=some Tl:=by unfold Ju;lia
def qm(l:AI G H)(e:AI H H'):AI G (Ju G H H')/\Nw G H (Ju G H H')/\AI (Ju G H H') H':=by
 refine⟨fun a o h=>?_,fun a o h=>?_,fun a o h=>?_⟩
 .unfold Ju;rw[(e _ _ (l _ _ h))]
  lia
 .unfold Ju at h
  grind
 .unfold Ju at h;cases z:H' a with
  |none=>lia
  |some u=>
   rw[z]at h;cases u with
   |tup xs=>lia
   |_=>
    simp at h;split at h
    .exact h
    .rw[<-z];exact e _ _ (l _ _ h)
open Classical in
noncomputable def Yj{α:Type}(hand:α->List PD)(ok:α->Prop)(tell:α->PD)(ds:AAl):AAt:=if h:∃a,ds=hand a/\ok a then some (tell (choose h)) else none
def dq{a}(inj:∀b,hand a=hand b->a=b)(h:ok a):Yj hand ok tell (hand a)=some (tell a):=by
 have e:∃b,hand a=hand b/\ok b:=⟨a,rfl,h⟩;unfold Yj
 grind
def uV{ok}{tell}(F:Af P w K mg base CX k f fd ps sp) (h:∀a,ok a->∀G H vs Q E,Ad G (hand a) vs->AI G H->(∀v G' H',AI G G'->Nw G H G'->AI G' H'->AI H H'->Du G' (tell a) v->Q v H')->sp vs H Q E):Af P w K mg base CX k f fd ps (Aw (Yj hand ok tell)) :=
 F.imp fun vs H Q E ⟨ds,x,G,hm,d,e,l⟩=>by
  unfold Yj at hm;split at hm
  .grind
  lia
def GH(t:T3):PD:=.tuple [.tuple (t.1.map .int),.tuple [.int t.2.1,.int t.2.2]]
theorem LI:∀ {a b:List Int},a.map PyData.int=b.map PyData.int->a=b
 |[],[],_=>rfl
 |[],_::_,h=>by cases h
 |_::_,[],h=>by cases h
 |x::a,y::b,h=>by
  injection h with l I
  injection l with l
  rw[l,LI I]
def pA(h:GH a=GH b):a=b:=by
 obtain⟨a1,a2,a3⟩:=a;unfold GH at h;simp at h;rw[LI h.1,h.2.1,h.2.2]
theorem map_inj{α β:Type}{f:α->β}(hf:∀a b,f a=f b->a=b):∀ {a b:List α},a.map f=b.map f->a=b
 |[],[],_=>rfl
 |[],_::_,h=>by cases h
 |_::_,[],h=>by cases h
 |x::a,y::b,h=>by
  injection h with I l
  rw[hf _ _ I,map_inj hf l]
structure i8(ts:List T3):Prop where
 BI:ts.length<=1000
 bnd:∃kt k,(∀t∈ts,t.1≠[]/\1<=t.2.2/\t.2.1.natAbs<2^kt/\t.2.2.natAbs<2^k)/\k*ts.length<=4000/\kt<=100000
 keys:(Cd ts).length<64
noncomputable abbrev Q2:MD:=Yj (fun ts=>[.list (ts.map GH)]) i8 fun ts=>AG (MM ts)
def XC(h:i8 ts):Q2 [.list (ts.map GH)]=some (AG (MM ts)):=dq (fun b e=>map_inj (fun _ _=>pA) AS) h
def xQ(h:Du G (GH t) v):∃c P F,v=.ref c/\G c=some (.tup [.ref P,.ref F])/\G P=some (.tup (t.1.map V.int))/\G F=some (.tup [.int t.2.1,.int t.2.2]):=by
 unfold GH at h;obtain⟨c,xs,rfl,I,d⟩:=h;obtain⟨x,y,rfl,d1,d2⟩:=d.Jv;obtain⟨P,ps,rfl,M,dp⟩:=d1;obtain⟨F,fs,rfl,T,Z⟩:=d2;obtain⟨u,v,rfl,Y,U⟩:=Z.Jv;subst Y U;refine⟨c,P,F,rfl,I,?_,T⟩;rw[<-(show ∀ {is:List Int} {us:List V},Ad G (is.map .int) us->us=is.map V.int from fun {is}=>by
  induction is with
  |nil=>intro us h;exact h.nil_eq
  |cons i is ih=>
   intro us h;obtain⟨x,r,rfl,l,m2⟩:=h.un;subst l
   grind) dp];exact M
theorem ei:∀ {ts} {xs},Ad G (ts.map GH) xs->Kh G ts xs
 |[],xs,h=>by rw[h.nil_eq];exact⟨rfl,fun j t M=>by cases M⟩
 |t::ts,xs,h=>by
  obtain⟨x,r,rfl,U,T⟩:=h.un;obtain⟨c,P,F,rfl,a,b,d⟩:=xQ U;have l:=ei T;refine⟨ae _ l.1,fun j u I=>?_⟩;cases j with
  |zero=>grind
  |succ j=>exact l.2 j u I
theorem Xk:∀ {ts} {xs},Kh H' ts xs->Ad (Ju G H H') (ts.map GH) xs
 |[],xs,h=>by rw[List.eq_nil_of_length_eq_zero h.1];rfl
 |t::ts,[],h=>by cases h.1
 |t::ts,x::xs,h=>by
  obtain⟨c,P,F,e,a,b,d⟩:=h.2 0 t rfl;cases e;refine .cons (⟨c,_,rfl,XI a,.cons ?_ (.cons ?_ .nil)⟩) (Xk ⟨by simpa using h.1,fun j u l=>h.2 (j+1) u l⟩)
  .exact⟨P,_,rfl,XI b,J6 t.1⟩
  .exact⟨F,_,rfl,XI d,J6 [t.2.1,t.2.2]⟩
def zZ(F:Af P w K mg base CX k f fd ps iX):Af P w K mg base CX k f fd ps (Aw Q2):=uV F fun ts o G H vs Q E d e Z=>by
 obtain⟨v,rfl,d1⟩:=d.Il;obtain⟨T,xs,rfl,hT,dx⟩:=d1;obtain⟨kt,l,hb,h4,ht⟩:=o.bnd;refine⟨T,xs,ts,kt,l,rfl,e _ _ hT,(ei dx).same e,o.BI,hb,h4,ht,o.keys,fun D H' U M hD I tz=>?_⟩;obtain⟨n1,Y,n3⟩:=qm e M;refine Z _ _ H' n1 Y n3 M (⟨D,U,rfl,sD I hD,?_⟩);have:=Xk (G:=G) (H:=H) tz;rw[(Bb)]at this;exact this
section
noncomputable def Ql:DF :=
 (Al (AE Ez (AA (CT (BW 1 2) BX (AF Aq Ca FS) [none,none,none] (BJ zip2 (AA CH bn))) AB)))
noncomputable def Cb:MD:=Av ["powers","more"] ["powers","more"] Ql
noncomputable def a7:DF :=
 (Al (AF Aq (AF Aq (CJ CH Bd (Bf Ca)) (Aa (AA (AF E3 (AF Ak CH Ca) AT) AB))) (CJ CH (Bf (AF Aq Ca AT)) Bd)))
noncomputable def EO:MD:=Av ["powers","k"] ["powers","k"] (a7)
noncomputable def WW(l:MD):DF :=
 (Al (AE l (AA (AF BL (AF Ak CH BY) (AF Ak Ca BY)) (AA (AF BL (AF Ak CH AT) (AF Ak Ca AT)) AB))))
noncomputable def CG(l:MD):MD:=Av PP PP (WW l)
noncomputable def Z2(l:MD):DF :=
 (Al (AE l (AA (AF Aq CH Ca) AB)))
noncomputable def Cc(l:MD):MD:=Av PP PP (Z2 l)
noncomputable def NX(l:MD)(Cb:MD):DF :=
 (AL (Ee 2 AB)
 (AL (BM (A5 CH) (BW 3 4)
  (BM (A5 Ca) (BW 5 6)
   (Ef 2 (Aa (AA (AE Cb (AA (nm 3) (AA (nm 5) AB))) (AA (Aa (AA (AF BL (AF Ak Ps BY) (AF Ak (nm 6) BY)) (AA (AF BL (AF Ak Ps AT) (AF Ak (nm 6) AT)) AB))) AB))))))
 (LC 2 (Al (AE l (AA FS AB))))))
noncomputable def Dy(l:MD)(Cb:MD):MD:=Av PP ["one","other","terms","powers","part","more","share"] (NX l Cb)
noncomputable def VE(CG:MD):DF :=
 (AL (Bs (Ap UV (AF Ak Ca BY) BY)
  (Al (BF AB))
  A1)
 (HS (Bn (BW 1 2) BX (Aa (AA Ca (AA (AE CG (AA FS Kb)) AB))) [none,none,none,some 1] (A5 CH))))
noncomputable def A7(CG:MD):MD:=Av ["some","part"] ["some","part"] (VE CG)
noncomputable def NK(CG:MD)(EO:MD):DF :=
 (HS (Bn (BW 1 2) (Ap Id (AF Ak Ca (nm 3)) BY) (Aa (AA (AE EO (AA Ca Kb)) (AA (AE CG (AA FS (AA (Aa (AA (AF Ak Ca (nm 3)) (AA AT AB))) AB))) AB))) [none,none,none,some 1] (A5 CH)))
noncomputable def B6(CG:MD)(EO:MD):MD:=Av ["some","k"] ["some","k"] (NK CG EO)
noncomputable def Hx(B6:MD)(Cc:MD)(Dy:MD)(Dc:MD):DF :=
 (AL (Bs (Ap UV (AE BS bn) BY)
  (Al CH)
  A1)
 (AL (AZ 2 (BF AB))
 (AL (BM (BJ F0 (AA (AF Ak Ca BY) AB)) (BW 3 4)
  (AL (AZ 5 (AE B6 (AA CH Kb)))
  (Bs (NM (Ap Id (AE BS (AA (nm 5) AB)) BY) (Ap Id (AE BS (AA Ps AB)) BY))
   (AZ 2 (AE Cc (AA FS (AA (AE Dy (AA (AE Dc (AA (nm 5) (AA (CJ Ca (Bf AT) Bd) AB))) (AA Ps AB))) AB))))
   A1)))
 (Al FS))))
noncomputable def Dc(B6:MD)(Cc:MD)(Dy:MD):Nat->MD
 |0=>fun _=>none
 |n+1=>Av ["some","boughs"] ["some","boughs","total","k","place","slope"] (Hx B6 Cc Dy (Dc B6 Cc Dy n))
noncomputable def YH(A7:MD)(B6:MD)(Cc:MD):DF :=
 (AL (AZ 2 (BF AB))
 (AL (BM (BJ F0 bn) (BW 3 4)
  (AZ 2 (AE Cc (AA FS (AA (AE A7 (AA (AE B6 (AA CH Kb)) (AA Ps AB))) AB)))))
 (Al FS)))
noncomputable def PJ(A7:MD)(B6:MD)(Cc:MD):MD:=Av ["some","speeds"] ["some","speeds","total","k","speed"] (YH A7 B6 Cc)
end
def My(d:AD)(H H':Hp):Prop:=∀a o,a≠d->H a=some o->H' a=some o
def My.of(e:AI H H'):My d H H':=fun a o _ h=>e a o h
def My.trans(e:My d H M)(l:My d M I):My d H I:=fun a o n h=>l a o n (e a o n h)
def W0:dN d r≠.lst xs:=by intro z;cases z
def fg:dN d r≠.tup xs:=by intro z;cases z
structure Z6(Dm:List Tr)(c:Nat):Prop where
 len:Dm.length<=1000
 inj:∀a∈Dm,∀b∈Dm,TH.Bg (some a)=TH.Bg (some b)->a=b
 bs:∀t∈Dm,∀b∈t.bs,b∈Dm
 deep:∀t∈Dm,t.deep<8
 size:∀t∈Dm,c*t.F6+1<=1000000
theorem OE{α:Type}[DecidableEq α]:∀ {a b:List α},a.Nodup->(∀x∈a,x∈b)->a.length<=b.length
 |[],_,_,_=>by simp
 |x::a,b,hn,h=>by
  obtain⟨M,I⟩:=List.nodup_cons.mp hn;have:=OE I fun y l=>(List.mem_erase_of_ne (show y≠x from fun e=>by lia)).mpr (h y (.tail _ l))
  grind
def Xs r k l v:∃q,(Gf r k l v).find? WF=some q:=by
 obtain⟨q,U,T⟩:=(show ∃q∈Gf r k l v,q.1=k by
  unfold Gf;split
  .rename_i h;obtain⟨q,M⟩:=Option.isSome_iff_exists.mp h
   grind
  .exact⟨_,List.mem_append_right _ Da,rfl⟩)
 cases z:(Gf r k l v).find? _ with
 |some I=>lia
 |none=>grind
structure Fd(Dm:List Tr)(B:Tr->PyData)(Γ H:Hp)(d:Addr)(r:List KR):Prop where
 at_:H d=some (dN d r)
 nd:(r.map Hq).Nodup
 all:∀q∈r,∃t:Tr,q.1=some t/\t∈Dm/\Tv Γ t q.2.1/\Du Γ (B t) q.2.2
 out:Γ d=none
 sm:AI Γ H
section
variable{Dm:ABD}{B:Tr->PD}{Γ Γ' H H':Hp}{d:AD}{r:List KR}{c:Nat}
def Fd.ok(h:Fd Dm B Γ H d r)(D:Z6 Dm c)(U:t∈Dm):Sb H d r (some t):=by
 refine⟨h.at_,fun q l=>?_,h.nd,fun q l T=>?_⟩
 .obtain⟨u,M,I,Y,_⟩:=h.all q l;rw[M];exact⟨D.deep u I,Y.same h.sm⟩
 .obtain⟨u,M,I,_⟩:=h.all q l;rw[M]at T ⊢;rw[D.inj u I t U T]
def Fd.len(h:Fd Dm B Γ H d r):r.length<=Dm.length:=by
 have:=OE h.nd fun x l=>by
  obtain⟨q,I,rfl⟩:=aI.mp l;obtain⟨u,T,M,_⟩:=h.all q I;rw[T];exact List.mem_map_of_mem M
 grind
def Q9(nw:Nw Γ H Γ')(sm:AI Γ' H')(h0:Γ a=none)(h:H a=some o)(h':∀xs,H' a≠some Jl):Γ' a=none:=by
 cases z:Γ' a with
 |none=>rfl
 |some u=>
  rcases nw a u z with k|k|⟨xs,rfl⟩
  .lia
  .lia
  .exact absurd (sm _ _ z) (h' xs)
def Fd.up(h:Fd Dm B Γ H d r)(e:AI Γ Γ')(nw:Nw Γ H Γ')(sm:AI Γ' H')(hd:H' d=some (dN d r)):Fd Dm B Γ' H' d r :=
 ⟨hd,h.nd,fun q l=>let⟨t,a,b,c,x⟩:=h.all q l;⟨t,a,b,c.same e,x.same e⟩,Q9 nw sm h.out h.at_ (fun xs z=>by rw[hd]at z;injection z with z;exact fg z),sm⟩
def Fq(n1:Nw Γ H I)(M:Nw I H' l)(e:My d H H')(hd:H' d=some o):Nw Γ H l:=fun a u h=>by
 rcases M a u h with k|k|k
 .exact n1 a u k
 .refine .inr (.inl ?_);cases z:H a with
  |none=>rfl
  |some v=>
   by_cases n:a=d
   .lia
   .rw[e _ _ n z]at k;lia
 grind
def W4(n1:Nw Γ H l)(I:H D=none):Nw Γ H (upd l D o):=fun a u h=>by
 by_cases z:a=D
 .lia
 .rw[AN z]at h;exact n1 a u h
def MS(h:AI Γ H)(l:H D=some o):AI (upd Γ D o) H:=fun a u k=>by
 by_cases z:a=D
 .subst z;rw[AR]at k;lia
 .rw[AN z]at k;exact h _ _ k
def Gk(h:AI Γ H)(l:Γ D=none):AI Γ (upd H D o):=fun a u k=>by
 rw[AN (Ah k l)];exact h _ _ k
def Fd.put(h:Fd Dm B Γ H d r)(T:t∈Dm)(I:Tv Γ t v)(du:Du Γ (B t) u):Fd Dm B Γ (upd H d (dN d (Gf r (some t) v u))) d (Gf r (some t) v u):=by
 refine⟨AR,?_,fun q l=>?_,h.out,Gk h.sm h.out⟩
 .unfold Gf;split
  .rw[(Bb),show(_ ∘ fun q=>if q.1=some t then(q.1,q.2.1,u) else q)=fun x=>x.1 from funext fun q=>by
    show(if q.1=some t then(q.1,q.2.1,u) else q).1=q.1;split<;>rfl]
   exact h.nd
  .rw[(DJ)];refine List.nodup_append.mpr ⟨h.nd,by simp,fun a ha b U=>?_⟩
   grind
 .unfold Gf at l;split at l
  .obtain⟨M,Y,h2⟩:=aI.mp l;obtain⟨s,k1,k2,k3,Z⟩:=h.all M Y
   grind
  .rcases aX.mp l with l|l
   .exact h.all q l
   .rw[List.mem_singleton.mp l];exact⟨t,rfl,T,I,du⟩
end
structure nW(Dm:List Tr)(m:MD)(C:List PyData)(B:Tr->PyData)(BT:Tr->List PyData):Prop where
 is:∀t,B t=.list (BT t)
 len:∀t∈Dm,(BT t).length=C.length
 at_:∀t∈Dm,∀(i:Nat) c,C[i]? = some c->∃x,(BT t)[i]? = some x/\m [c,.list (t.bs.map B)]=some x
 BI:C.length<=100
 bsl:∀t∈Dm,t.bs.length<=100
def fN(Dm:ABD)(B:Tr->PD)(C:AAl)(n:Nat):Sp:=fun vs H Q _=>∃(M v:V) (t:Tr) (d:AD) (r:List KR) (Γ:Hp),vs=[M,v,.ref d]/\Du Γ (.list C) M/\Tv Γ t v/\t∈Dm/\t.deep<n/\Fd Dm B Γ H d r /\
 ∀l H' T I,AI Γ l->Nw Γ H l->My d H H'->Fd Dm B l H' d T->Du l (B t) I->Q I H'
theorem OO:∀ {ds} {xs} {i:Nat} {x},Ad Γ ds xs->xs[i]? = some x->∃d,ds[i]? = some d/\Du Γ d x
 |[],xs,i,x,h,e=>by rw[h.nil_eq]at e;cases e
 |d::ds,xs,i,x,h,e=>by
  obtain⟨y,r,rfl,T,l⟩:=h.un;cases i with
  |zero=>grind
  |succ i=>
   obtain⟨U,M,I⟩:=OO l e
   grind
section
variable{P:F0b}{w:F0c}{K:Fg}{mg:AAs}{base:Heap}{f g1:AD}{fd gd1:F0a}
def VD:BQ ["change","tree","known","boughs"] ["change","tree","known"] (AW Np):=D5
theorem Mr{Dm:List Tr}{c k:Nat}{m:MD}{C:List PD}{B:Tr->PD}{BT:Tr->List PD}(DO:Z6 Dm c)(BO:nW Dm m C B BT)(Ej:Fn K mg "bent_polys" Np ["change","tree","known"] f fd)(Dd:Fn K mg "along_boughs" Sj ["some","boughs"] g1 gd1)(Wa:Af P w K mg base Ac k g1 gd1 ["some","boughs"] (Aw m)) :
  ∀n,Af P w K mg base Ac (k+n+1) f fd ["change","tree","known"] (fN Dm B C n)
 |0=>N4 fun _ _ _ _ ⟨_,_,_,_,_,_,_,_,_,_,h,_⟩=>absurd h (bI _)
 |n+1=>by
  have sc:=VD;have V7:=Mr DO BO Ej Dd Wa n;have S5:=Wa.mono (show k<=k+n+1 by lia);refine Ej.F.ok (k:=k+n+1) sc On OK
  .obtain⟨cv,v,t,d,r,Γ,rfl,_⟩:=h
   rfl
  obtain⟨cv,v,t,d,r,Γ,rfl,dc,tv,Z,hdp,me,q⟩:=h;refine⟨_,(Ai (IY (Dg (eB E2 true) (pv 1) (pv 2) rfl)
   (Ai (A0 (i:=3) sc.nd rfl (Or.inr rfl) (IG [".0","bough","change","known"] 1 [none,none,some 0,some 2] (fj (pv 1)) (fun _ _ _ _ _=>Gz) (fun _ _ _ _ _=>(EW Ej V7 hr rfl (AV (pv 2) (AV (pv 1) (AV (pv 3) Au)))))))
   (A8 (Rp (IG [".0","some","boughs"] 1 [none,none,some 3] (FD (pv 0)) (fun _ _ _ _ _=>Gz) (fun _ _ _ _ _=>(EW Dd S5 hr rfl (AV (pv 1) (AV (pv 2) Au))))) (Qg (pv 2) (pv 1) (WD E2)))))
   FJ)
   (A8 (Ds (WG E2 (pv 2) (pv 1) (fun _ _=>rfl))))),?_⟩
  have key:Gh H (some t) v:=⟨DO.deep t Z,tv.same me.sm⟩;cases hz:r.find? (fun q=>decide (q.1=some t)) with
  |some q'=>
   refine⟨_,rfl,_,rfl,d,r,some t,rfl,key,me.ok DO Z,false,by rw[hz];rfl,vb ?_⟩;obtain⟨hm,hk⟩:=find_key hz;obtain⟨u,h1,h2,h3,h4⟩:=me.all q' hm;rw[hk]at h1;cases h1;exact⟨_,rfl,_,rfl,d,r,some t,q',rfl,key,me.ok DO Z,hz,q Γ H r _ (.refl _) Nw.refl (fun a o _ h=>h) me h4⟩
  |none=>
   refine⟨_,rfl,_,rfl,d,r,some t,rfl,key,me.ok DO Z,true,by rw[hz];rfl,MF ?_⟩;obtain⟨a,ys,rfl,ha,hts⟩:=tv;have hyl:=hts.len;have haH:=me.sm _ _ ha;rw[Du]at dc;obtain⟨R,cs,rfl,hR,dcs⟩:=dc;refine⟨_,rfl,a,rfl,⟨_,A4.of haH⟩,fun D hD=>Jb (n:=ys.length) (fun i us H'=>∃l ρ,AI Γ l/\Nw Γ H l/\My d H H'/\Fd Dm B l H' d ρ/\Ad l ((t.bs.take i).map B) us/\l D=none) ?_ ?_ ?_⟩
   .have hDΓ:=Ob me.sm hD;exact⟨Γ,r,.refl _,Nw.refl,.of (Aj hD _),me.up (.refl _) Nw.refl (Gk me.sm hDΓ) (Aj hD _ _ _ me.at_),by rw[List.take_zero];exact .nil,hDΓ⟩
   .rintro i us H3 hi ⟨Γ3,ρ,s3,n3,b3,me3,du3,hD3Γ⟩ hD3;have ha3:=me3.sm _ _ (s3 _ _ ha);have hul:us.length<=100:=by
     have h1:=du3.len;have h2:=BO.bsl t Z;rw[Pi,(FL)]at h1
     lia
    refine⟨⟨_,_,A4.of ha3,List.getElem?_eq_getElem hi⟩,Xo AS,fun x H' y=>?_⟩;obtain⟨rfl,y⟩:=y;have hx:=y _ (A4.of ha3);obtain⟨b,hb,tb⟩:=hts.get hx;have hbm:b∈t.bs:=aL hb;have hbd:=Tr.V1 hbm;unfold Ky;refine MF ⟨_,rfl,_,rfl,_,rfl,.ref R,x,b,d,ρ,Γ3,rfl,by rw[Du];exact⟨R,cs,rfl,s3 _ _ hR,dcs.same s3⟩,tb.same s3,DO.bs t Z b hbm,by lia,me3,fun Γ4 H4 r4 v4 s4 n4 b4 me4 du4=>?_⟩;have nDd:D≠d:=fun z=>by rw[z,me3.at_]at hD3;injection hD3 with z';exact W0 z'
    have hD4:=b4 _ _ nDd hD3;have hD4Γ:=Q9 n4 me4.sm hD3Γ hD3 (fun xs z=>by rw[hD4]at z;cases z);refine⟨hD4,G7 hi ⟨Γ4,r4,s3.trans s4,Fq n3 n4 b3 me3.at_,fun c o n z=>?_,me4.up (.refl _) Nw.refl (Gk me4.sm hD4Γ) (by rw[AN (Ne.symm nDd)];exact me4.at_),?_,hD4Γ⟩⟩
    .rw[AN (Ah z hD)];exact b4 _ _ n (b3 _ _ n z)
    .rw[(Iu),hb,(DJ)];exact(du3.same s4).app (.cons du4 .nil)
   .rintro us H5 ⟨T,ρ,s5,n5,b5,U,du5,hD5Γ⟩ hD5;rw[hyl,(Fv)]at du5;have nDd:D≠d:=fun z=>by rw[z,U.at_]at hD5;injection hD5 with z';exact W0 z'
    have s6:AI T (upd T D (.lst us)):=Aj hD5Γ _;have sm6:AI (upd T D (.lst us)) H5:=MS U.sm hD5;have n6:Nw Γ H (upd T D (.lst us)):=W4 n5 hD;have duB:Du (upd T D (.lst us)) (.list (t.bs.map B)) (.ref D):=by rw[Du];exact⟨D,us,rfl,AR,du5.same s6⟩
    have me6:Fd Dm B (upd T D (.lst us)) H5 d ρ:=⟨U.at_,U.nd,fun q hq=>let⟨t,a,b,c,x⟩:=U.all q hq;⟨t,a,b,c.same s6,x.same s6⟩,by rw[AN (Ne.symm nDd)];exact U.out,sm6⟩;have s06:=s5.trans s6;generalize upd T D (.lst us)=Γ6 at s6 sm6 n6 duB me6 s06;have ha5:=sm6 _ _ (s06 _ _ ha);have hR6:=s06 _ _ hR;have dcs6:=dcs.same s06;have hcl:cs.length=C.length:=dcs.len;refine⟨⟨_,A4.of ha5,Nat.le_refl _⟩,_,rfl,R,rfl,⟨_,Am.of (sm6 _ _ hR6)⟩,fun D2 hD2=>Jb (n:=cs.length) (fun j us H'=>∃l,AI Γ6 l/\Nw Γ6 H5 l/\AI H5 H'/\AI l H'/\Ad l ((BT t).take j) us/\l D2=none) ?_ ?_ ?_⟩
    .have:=Ob sm6 hD2;exact⟨Γ6,.refl _,Nw.refl,Aj hD2 _,Gk sm6 this,by rw[List.take_zero];exact .nil,this⟩
    .rintro j us H7 hj ⟨Γ7,s7,n7,e7,sm7,du7,hD7Γ⟩ hD7;have hR7:=sm7 _ _ (s7 _ _ hR6);have hul:us.length<=100:=by
      have h1:=du7.len;have h2:=BO.BI;rw[(FL),BO.len t Z]at h1
      lia
     refine⟨⟨_,_,Am.of hR7,List.getElem?_eq_getElem hj⟩,Xo AS,fun x H' y=>?_⟩;obtain⟨rfl,y⟩:=y;have hx:=y _ (Am.of hR7);obtain⟨cd,hcd,dcd⟩:=OO dcs6 hx;obtain⟨xd,hxd,hm⟩:=BO.at_ t Z j cd hcd;unfold Ky;refine MF ⟨_,rfl,_,rfl,[cd,.list (t.bs.map B)],xd,Γ7,hm,.cons (dcd.same s7) (.cons (duB.same s7) .nil),sm7,fun v G8 H8 a1 a2 a3 a4 a5=>?_⟩;have hD8:=a4 _ _ hD7;have I:=Q9 a2 a3 hD7Γ hD7 (fun xs z=>by rw[hD8]at z;cases z);refine⟨hD8,G7 hj ⟨G8,s7.trans a1,Fq (d:=D2) n7 a2 (.of e7) hD7,fun c o z=>?_,Gk a3 I,?_,I⟩⟩
     .rw[AN (Ah z hD2)];exact a4 _ _ (e7 _ _ z)
     .rw[(Iu),hxd];exact(du7.same a1).app (.cons a5 .nil)
    .rintro us H8 ⟨M,s8,n8,e8,sm8,du8,I⟩ hD8;rw[hcl,<-BO.len t Z,(Fv)]at du8;have hd8:=e8 _ _ me6.at_;have nD2d:D2≠d:=fun z=>by rw[z,hd8]at hD8;injection hD8 with z';exact W0 z'
     have s9:AI M (upd M D2 (.lst us)):=Aj I _;have sm9:AI (upd M D2 (.lst us)) H8:=MS sm8 hD8;have n9:Nw Γ6 H5 (upd M D2 (.lst us)):=W4 n8 hD2;have duT:Du (upd M D2 (.lst us)) (B t) (.ref D2):=by rw[BO.is,Du];exact⟨D2,us,rfl,AR,du8.same s9⟩
     have me9:=me6.up (s8.trans s9) n9 sm9 hd8;have s09:=s06.trans (s8.trans s9);have n09:Nw Γ H (upd M D2 (.lst us)):=Fq n6 n9 b5 U.at_;generalize upd M D2 (.lst us)=Γ9 at s9 sm9 n9 duT me9 s09 n09;have tv9:Tv Γ9 t KM:=⟨a,ys,rfl,s09 _ _ ha,hts.same s09⟩;refine⟨⟨_,Am.of (sm8 _ _ (s8 _ _ hR6)),Nat.le_refl _⟩,_,rfl,_,rfl,d,ρ,some t,rfl,⟨DO.deep t Z,tv9.same sm9⟩,me9.ok DO Z,Nat.le_trans me9.len DO.len,?_⟩;have Y:=me9.put Z tv9 duT;obtain⟨q',hq'⟩:=Xs ρ (some t) KM (.ref D2);obtain⟨hm,hk⟩:=find_key hq';obtain⟨u,h1,h2,h3,h4⟩:=Y.all q' hm;rw[hk]at h1;cases h1;refine⟨_,rfl,_,rfl,d,_,some t,q',rfl,⟨DO.deep t Z,tv9.same Y.sm⟩,Y.ok DO Z,hq',?_⟩;exact q Γ9 _ _ _ s09 n09 (fun c o n z=>by rw[AN n];exact e8 _ _ (b5 _ _ n z)) Y h4
end
def qB xs (p:Nat):MV xs none (some p)=xs.take p:=by
 unfold MV;rw[HT.Ly,HT.Ja];simp
def slW{H:Hp}(ha:H a=some Jl)(k:∀b H',AI H H'->H' b=some (.tup (xs.take p))->(H b=none\/H b=some (.tup (xs.take p)))->Q (.ref b) H'):nU K KM none (some p) H Q:=by
 refine⟨a,xs,rfl,A4.of ha,fun l=>?_,fun l c I=>?_⟩
 .have e:xs.take p=xs:=by
   have:=l.2;rw[HT.Ja]at this;exact List.take_of_length_le AS
  exact k a H (.refl _) AS (.inr AS)
 .rw[qB];exact k c _ (Aj I _) AR (.inl I)
theorem Zp:∀ {t} {ys} i,Ts H t ys->Ts H (Tr.of (t.bs.take i)) (ys.take i)
 |.nil,ys,i,h=>by
  rw[h,Tr.bs,List.take_nil,List.take_nil]
  rfl
 |.cons b r,ys,0,h=>rfl
 |.cons b r,ys,i+1,h=>by
  obtain⟨a,us,T,rfl,M,I,l⟩:=h;exact⟨a,us,_,rfl,M,I,Zp i l⟩
structure mY(Dm:List Tr)(mP mW:MD)(C:List PyData)(S:PyData)(PT WT:Tr->List PyData):Prop where
 nil:PT .nil=C
 jw:∀t∈Dm,(PT t).length=C.length
 push:∀t∈Dm,∀(i:Nat) b,t.bs[i]? = some b->∀(j:Nat) c,(PT (Tr.of (t.bs.take i)))[j]? = some c->∃x,(PT (Tr.of (t.bs.take SB)))[j]? = some x/\mP [c,.list (WT b)]=some x
 tY:∀t∈Dm,(WT t).length=C.length
 worth:∀t∈Dm,∀(j:Nat) c,(PT t)[j]? = some c->∃x,(WT t)[j]? = some x/\mW [c,S]=some x
 BI:C.length<=100
 pre:∀t∈Dm,∀i,Tr.of (t.bs.take i)∈Dm
abbrev pD(PT:Tr->List PD)(t:Tr):PD:=.list (PT t)
def rg(Dm:ABD)(PT WT:Tr->List PD)(C:AAl)(S:PD)(n:Nat):Sp:=fun vs H Q _=>∃(T v M:V) (t:Tr) (d:AD) (r:List KR) (Γ:Hp),vs=[T,v,M,.ref d]/\Du Γ (.list C) T/\Tv Γ t v/\Du Γ S M/\t∈Dm/\t.deep<n/\Fd Dm (pD PT) Γ H d r /\
 ∀l H' U I,AI Γ l->Nw Γ H l->My d H H'->Fd Dm (pD PT) l H' d U->Du l (.list (WT t)) I->Q I H'
def fE(Γ H:Hp)(D:AD)(xs:AAl)(j:Nat)(us:ABC)(H':Hp):Prop:=∃l,AI Γ l/\Nw Γ H l/\AI H H'/\AI l H'/\Ad l (xs.take j) us/\l D=none
def mJ(sm:AI Γ H)(l:H D=none):fE Γ H D xs 0 [] (upd H D OF):=by
 have:=Ob sm l;exact⟨Γ,.refl _,Nw.refl,Aj l _,Gk sm this,.nil,this⟩
def V4(hD:H D=none)(s7:AI Γ l)(n7:Nw Γ H l)(e7:AI H H7)(Z:Ad l (xs.take j) us)(M:l D=none)(T:H7 D=some (.lst us))(a1:AI l U)(a2:Nw l H7 U)(a3:AI U H8)(a4:AI H7 H8)(a5:Du U x v)(hx:xs[j]? = some x):H8 D=some (.lst us)/\fE Γ H D xs (j+1) (us++[v]) (upd H8 D (.lst (us++[v]))):=by
 have Y:=a4 _ _ T;have I:=Q9 a2 a3 M T (fun xs z=>by lia);refine⟨Y,U,s7.trans a1,Fq n7 a2 (.of e7) T,fun c o z=>?_,Gk a3 I,?_,I⟩
 .rw[AN (Ah z hD)];exact a4 _ _ (e7 _ _ z)
 .rw[(Iu),hx];exact(Z.same a1).app (.cons a5 .nil)
def Ye(h:fE Γ H D xs j us H')(hj:xs.length<=j)(hD:H D=none)(Y:H' D=some (.lst us)):∃l,AI Γ l/\Nw Γ H l/\AI H H'/\AI l H'/\Du l (.list xs) (.ref D):=by
 obtain⟨I,s8,n8,e8,U,T,M⟩:=h;rw[List.take_of_length_le hj]at T;have Z:AI I (upd I D (.lst us)):=Aj M _;exact⟨upd I D _,s8.trans Z,W4 n8 hD,e8,MS U Y,⟨D,us,rfl,AR,T.same Z⟩⟩
section
variable{P:F0b}{w:F0c}{K:Fg}{mg:AAs}{base:Heap}{f g1 g2:AD}{fd gd1 gd2:F0a}
def Tf:BQ ["change","tree","start","known","pushed","k","bough","ahead","speeds"] ["change","tree","start","known"] (AW Mu):=D5
theorem Lo{Dm:List Tr}{c k:Nat}{mP mW:MD}{C:List PD}{S:PD}{PT WT:Tr->List PD}(DO:Z6 Dm c)(WO:mY Dm mP mW C S PT WT)(EF:Fn K mg "bent_worths" Mu ["change","tree","start","known"] f fd)(IX:Fn K mg "pushed_by" YG ["some","speeds"] g1 gd1)(GD:Fn K mg "worth_at" MU ["some","start"] g2 gd2)(Uy:Af P w K mg base Ac k g1 gd1 ["some","speeds"] (Aw mP))(WC:Af P w K mg base Ac k g2 gd2 ["some","start"] (Aw mW))(FI:mg "enumerate" = none) :
  ∀n,Af P w K mg base Ac (k+n+1) f fd ["change","tree","start","known"] (rg Dm PT WT C S n)
 |0=>N4 fun _ _ _ _ ⟨_,_,_,_,_,_,_,_,_,_,_,_,h,_⟩=>absurd h (bI _)
 |n+1=>by
  have sc:=Tf;have U9:=Lo DO WO EF IX GD Uy WC FI n;have X6:=Uy.mono (show k<=k+n+1 by lia);have cZ:=WC.mono (show k<=k+n+1 by lia);refine EF.F.ok (k:=k+n+1) sc On OK
  .obtain⟨cv,v,sv,t,d,r,Γ,rfl,_⟩:=h
   rfl
  obtain⟨cv,v,sv,t,d,r,Γ,rfl,dc,tv,ds,ht,hdp,me,q⟩:=h;refine⟨_,(Ai (A0 (i:=4) sc.nd rfl IN (pv 0))
   (Ai (Jx bC rfl (Yi rfl FI (AV (pv 1) Au)) (NQ rfl (EY (Dj (i:=5) sc.nd rfl IN) (EY (Dj (i:=6) sc.nd rfl IN) Lq)))
    (Ai (A0 (i:=7) sc.nd rfl IN (XX pP (pv 1) ZA (ZU (DQ iR (pv 5) Bu))))
    (Ai (IY (Dg (eB E2 true) (pv 7) (pv 3) rfl)
     (Ai (A0 (i:=8) sc.nd rfl (Or.inr rfl) (EW EF U9 hr rfl (AV (pv 0) (AV (pv 6) (AV (pv 2) (AV (pv 3) Au))))))
     (A8 (Rp (IG [".0","some","speeds"] 1 [none,none,some 8] (FD (pv 4)) (fun _ _ _ _ _=>Gz) (fun _ _ _ _ _=>(EW IX X6 hr rfl (AV (pv 1) (AV (pv 2) Au))))) (Qg (pv 3) (pv 7) (WD E2)))))
     FJ)
    (A8 (A0 (i:=4) sc.nd rfl IN (WG E2 (pv 3) (pv 7) (fun _ _=>rfl)))))))
   (A8 (Ds (IG [".0","some","start"] 1 [none,none,some 2] (FD (pv 4)) (fun _ _ _ _ _=>Gz) (fun _ _ _ _ _=>(EW GD cZ hr rfl (AV (pv 1) (AV (pv 2) Au))))))))),?_⟩
  obtain⟨a,ys,rfl,ha,hts⟩:=tv;have hyl:=hts.len;refine⟨_,rfl,?_⟩;refine⟨_,rfl,a,rfl,⟨_,A4.of (me.sm _ _ ha)⟩,kJ (xs:=ys) (fun i σ H'=>∃(r5 r6 r7 r8:Option V) (pw:V) (Γ':Hp) (ρ:List KR),σ=[some cv,some KM,some sv,some (.ref d),some pw,r5,r6,r7,r8]/\AI Γ Γ'/\Nw Γ H Γ'/\My d H H'/\Fd Dm (pD PT) Γ' H' d ρ/\Du Γ' (pD PT (Tr.of (t.bs.take i))) pw) ?_ ?_ ?_ ?_⟩
  .exact⟨_,_,_,_,cv,Γ,r,rfl,.refl _,Nw.refl,fun _ _ _ z=>z,me,by rw[List.take_zero];show Du Γ (.list (PT .nil)) cv;rw[WO.nil];exact dc⟩
  .rintro i σ H' _ ⟨r5,r6,r7,r8,pw,Γ',ρ,rfl,s1,n1,b1,I,d1⟩;exact A4.of (I.sm _ _ (s1 _ _ ha))
  .rintro i x σ H1 hx ⟨r5,r6,r7,r8,pw,M,ρ,rfl,s1,n1,b1,I,d1⟩ p hp;have hi:i<ys.length:=(aF.mp hx).1;obtain⟨b,hb,tb⟩:=hts.get hx;have hbm:b∈t.bs:=aL hb;have hbd:=Tr.V1 hbm;have l:=WO.pre t ht SB;have e2:=Aj hp (.tup [.int (i:Nat),x]);have hp2:upd H1 p (.tup [.int (i:Nat),x]) p=some (.tup [.int (i:Nat),x]):=AR;generalize upd H1 p (.tup [.int (i:Nat),x])=H2 at e2 hp2;have ha2:=e2 _ _ (I.sm _ _ (s1 _ _ ha));refine⟨p,_,rfl,A4.of hp2,rfl,_,_,rfl,_,_,rfl,rfl,?_⟩;refine⟨_,rfl,_,rfl,_,_,rfl,rfl,_,rfl,?_⟩;refine slW (p:=i+1) ha2 fun u H3 e3 hu hnew=>?_;have e13:=e2.trans e3;have hΓu:M u=none\/M u=some (.tup (ys.take SB)):=by
    cases z:M u with
    |none=>exact .inl rfl
    |some o=>
     have:=e13 _ _ (I.sm _ _ z);rw[hu]at this;cases this;exact .inr rfl
   have s3:AI M (upd M u (.tup (ys.take SB))):=fun c o z=>by
    by_cases n:c=u
    .subst n;rcases hΓu with k|k
     .rw[k]at z;cases z
     .rw[k]at z;cases z;exact AR
    .rw[AN n];exact z
   have n3:Nw M H1 (upd M u (.tup (ys.take SB))):=fun c o z=>by
    by_cases n:c=u
    .subst n;rw[AR]at z;cases z;exact .inr (.inr ⟨_,rfl⟩)
    .rw[AN n]at z;exact .inl z
   have sm3:AI (upd M u (.tup (ys.take SB))) H3:=MS (I.sm.trans e13) hu;have T:=I.up s3 n3 sm3 (e13 _ _ I.at_);have tvu:Tv (upd M u (.tup (ys.take SB))) (Tr.of (t.bs.take SB)) (.ref u):=⟨u,_,rfl,AR,(Zp SB hts).same (s1.trans s3)⟩;have s03:=s1.trans s3;have n03:Nw Γ H (upd M u (.tup (ys.take SB))):=Fq n1 n3 b1 I.at_;have b03:My d H H3:=b1.trans (.of e13);have d3:=d1.same s3;generalize upd M u (.tup (ys.take SB))=Γ3 at s3 n3 sm3 T tvu s03 n03 d3;have key:Gh H3 (some (Tr.of (t.bs.take SB))) (.ref u):=⟨DO.deep _ l,tvu.same sm3⟩;cases hz:ρ.find? (fun q=>decide (q.1=some (Tr.of (t.bs.take SB)))) with
   |some q'=>
    refine⟨_,rfl,_,rfl,d,ρ,some _,rfl,key,T.ok DO l,false,by rw[hz];rfl,vb ?_⟩;obtain⟨hm,hk⟩:=find_key hz;obtain⟨u',h1,h2,h3,h4⟩:=T.all q' hm;rw[hk]at h1;cases h1;exact⟨_,rfl,_,rfl,d,ρ,some _,q',rfl,key,T.ok DO l,hz,_,_,_,_,_,Γ3,ρ,rfl,s03,n03,b03,T,h4⟩
   |none=>
    refine⟨_,rfl,_,rfl,d,ρ,some _,rfl,key,T.ok DO l,true,by rw[hz];rfl,MF ?_⟩;refine⟨_,rfl,_,rfl,_,rfl,_,rfl,cv,x,sv,b,d,ρ,Γ3,rfl,dc.same s03,tb.same s03,ds.same s03,DO.bs t ht b hbm,by lia,T,fun Γ4 H4 r4 v4 s4 n4 b4 me4 d4=>?_⟩;have d34:=d3.same s4;rw[Du]at d34;obtain⟨R,cs,rfl,hR,dcs⟩:=d34;have hcl:cs.length=(PT (Tr.of (t.bs.take i))).length:=dcs.len;have hpl:(PT (Tr.of (t.bs.take i))).length=C.length:=WO.jw _ (WO.pre t ht i);have hpl':(PT (Tr.of (t.bs.take SB))).length=C.length:=WO.jw _ l;have BI:=WO.BI;refine⟨_,rfl,R,rfl,⟨_,Am.of (me4.sm _ _ hR)⟩,fun D hD=>Jb (n:=cs.length) (fE Γ4 H4 D (PT (Tr.of (t.bs.take SB)))) (mJ me4.sm hD) ?_ ?_⟩
    .rintro j us H7 hj ⟨Γ7,s7,n7,e7,sm7,du7,U⟩ hD7;have hR7:=sm7 _ _ (s7 _ _ hR);have hul:us.length<=100:=by
      have h1:=du7.len;rw[(FL)]at h1
      lia
     refine⟨⟨_,_,Am.of hR7,List.getElem?_eq_getElem hj⟩,Xo AS,fun y H' yy=>?_⟩;obtain⟨rfl,yy⟩:=yy;have hy:=yy _ (Am.of hR7);obtain⟨cd,hcd,dcd⟩:=OO dcs hy;obtain⟨xd,hxd,hm⟩:=WO.push t ht i b hb j cd hcd;unfold Ky;refine MF ⟨_,rfl,_,rfl,[cd,.list (WT b)],xd,Γ7,hm,.cons (dcd.same s7) (.cons (d4.same s7) .nil),sm7,fun v G8 H8 a1 a2 a3 a4 a5=>?_⟩;obtain⟨k1,k2⟩:=V4 hD s7 n7 e7 du7 U hD7 a1 a2 a3 a4 a5 hxd;exact⟨k1,G7 hj k2⟩
    .rintro us H8 hc hD8;obtain⟨Γ9,s9,n9,e9,Z,d9⟩:=Ye hc AS hD hD8;have hd9:=e9 _ _ me4.at_;have me9:=me4.up s9 n9 Z hd9;have s09:=s03.trans (s4.trans s9);have n09:Nw Γ H Γ9:=Fq (Fq n03 n4 b03 T.at_) n9 (b03.trans b4) me4.at_;have tv9:=tvu.same (s4.trans s9);refine⟨⟨_,Am.of (Z _ _ (s9 _ _ hR)),Nat.le_refl _⟩,_,rfl,_,rfl,d,r4,some _,rfl,⟨DO.deep _ l,tv9.same Z⟩,me9.ok DO l,Nat.le_trans me9.len DO.len,?_⟩;have Y:=me9.put l tv9 d9;obtain⟨q',hq'⟩:=Xs r4 (some (Tr.of (t.bs.take SB))) (.ref u) (.ref D);obtain⟨hm,hk⟩:=find_key hq';obtain⟨u',h1,h2,h3,h4⟩:=Y.all q' hm;rw[hk]at h1;cases h1;exact⟨_,rfl,_,rfl,d,_,some _,q',rfl,⟨DO.deep _ l,tv9.same Y.sm⟩,Y.ok DO l,hq',_,_,_,_,_,Γ9,_,rfl,s09,n09,(b03.trans (b4.trans (.of e9))).trans (fun c o n z=>by rw[AN n];exact z),Y,h4⟩
  .rintro σ H1 ⟨r5,r6,r7,r8,pw,M,ρ,rfl,s1,n1,b1,I,d1⟩;rw[hyl,(Fv),Tr.Vh]at d1;have d1':=d1;unfold pD at d1';rw[Du]at d1';obtain⟨R,cs,rfl,hR,dcs⟩:=d1';have hcl:cs.length=(PT t).length:=dcs.len;have hpl:(PT t).length=C.length:=WO.jw _ ht;have hwl:(WT t).length=C.length:=WO.tY _ ht;have BI:=WO.BI;refine⟨_,rfl,R,rfl,⟨_,Am.of (I.sm _ _ hR)⟩,fun D hD=>Jb (n:=cs.length) (fE M H1 D (WT t)) (mJ I.sm hD) ?_ ?_⟩
   .rintro j us H7 hj ⟨Γ7,s7,n7,e7,sm7,du7,U⟩ hD7;have hR7:=sm7 _ _ (s7 _ _ hR);have hul:us.length<=100:=by
     have h1:=du7.len;rw[(FL)]at h1
     lia
    refine⟨⟨_,_,Am.of hR7,List.getElem?_eq_getElem hj⟩,Xo AS,fun y H' yy=>?_⟩;obtain⟨rfl,yy⟩:=yy;have hy:=yy _ (Am.of hR7);obtain⟨cd,hcd,dcd⟩:=OO dcs hy;obtain⟨xd,hxd,hm⟩:=WO.worth t ht j cd hcd;unfold Ky;refine MF ⟨_,rfl,_,rfl,[cd,S],xd,Γ7,hm,.cons (dcd.same s7) (.cons (ds.same (s1.trans s7)) .nil),sm7,fun v G8 H8 a1 a2 a3 a4 a5=>?_⟩;obtain⟨k1,k2⟩:=V4 hD s7 n7 e7 du7 U hD7 a1 a2 a3 a4 a5 hxd;exact⟨k1,G7 hj k2⟩
   .rintro us H8 hc hD8;obtain⟨Γ9,s9,n9,e9,Z,d9⟩:=Ye hc AS hD hD8;exact⟨⟨_,Am.of (Z _ _ (s9 _ _ hR)),Nat.le_refl _⟩,q Γ9 H8 ρ (.ref D) (s1.trans s9) (Fq n1 n9 b1 I.at_) (b1.trans (.of e9)) (I.up s9 n9 Z (e9 _ _ I.at_)) d9⟩
end
def AAc r:(An r).canLay0=true:=by rfl
section
variable{P:F0b}{w:F0c}{K:Fg}{mg:AAs}{base:Heap}{CX:Jr}{k:Nat}{f:AD}{fd:F0a}{ps:AAy}
def FR(ds:AAl):AAt:=match ds with
 |[.int t,.int b]=>if b≠0/\b.natAbs<2^400 then some (An (Rat.divInt t b)) else none
 |_=>none
def rQ(F:Af P w K mg base CX k f fd ps cj):Af P w K mg base CX k f fd ps (Aw FR) :=
 S8 F fun ds x hm G H vs Q E d e Z=>by
  unfold FR at hm;split at hm
  .split at hm
   .rename_i M;cases hm;obtain⟨v1,v2,rfl,d1,d2⟩:=d.Jv;subst d1 d2;refine⟨_,_,400,rfl,M.1,by decide,M.2,fun l H' T I=>?_⟩;obtain⟨G',n1,Y,n3,U⟩:=mI e T I (J6 [(Rat.divInt _ _).num,_]);exact Z _ G' H' n1 Y n3 T U
   lia
  lia
end
def jc(h:∀d∈ds,Ok n d):nk n ds:=by
 induction ds with
 |nil=>exact⟨by rfl,by simp[PyData.depthAll]⟩
 |cons d ds l=>
  obtain⟨a,b⟩:=h d Da;obtain⟨T,M⟩:=l fun e I=>by grind
  exact⟨by simp only[PyData.canLayAll0];lia,by simp only[PyData.depthAll];lia⟩
def AAW(h:∀d∈ds,Ok n d):Ok (n+1) (.tuple ds):=.tup (jc h)
def uC r:Ok 1 (An r):=AAW fun d hd=>by
 rcases aO.mp hd with rfl|hd
 .exact .int
 .rw[List.mem_singleton.mp hd];exact .int
def Hy x y:Bm false (.int x) (.int y)=some (.bool (decide (x=y))):=by
 rfl
def Xd(I:i.natAbs<2^n)(l:j.natAbs<2^n)(hn:n<=9000):BL (.int i) (.int j)=some (.int (i*j)):=Wi (by
 unfold OI;rw[LP (aD I (aM AC hn)),LP (aD l (aM AC hn))];simp)
def div_is(h:0<j)(l:j.natAbs<2^64):Dx (.int i) (.int j)=some (.int (i / j)):=by
 refine(if_pos ⟨by lia,LP (aD l (aM AC AC))⟩).trans ?_
 grind
def Qf(h:b≠0)(l:b.natAbs<2^400):FR [.int t,.int b]=some (An (Rat.divInt t b)):=if_pos ⟨h,l⟩
abbrev tD(t:Tr):PD:=.tuple (L2.Gg t)
def E5(m:Int)(c:Nat)(q:Rat):Prop:=∃a ,q=Rat.divInt a m/\a.natAbs<=c
def E5.mono(h:E5 m c q)(l:c<=d:=by decide):E5 m d q:=let⟨a,e,k⟩:=h;⟨a,e,Nat.le_trans k l⟩
def E5.add(hm:m≠0)(h:E5 m c p)(k:E5 m d q):E5 m (c+d) (p+q):=by
 obtain⟨a,rfl,I⟩:=h;obtain⟨b,rfl,l⟩:=k;exact⟨a+b,by rw[Rat.divInt_add_divInt _ _ hm hm,<-Int.add_mul,Rat.divInt_mul_right hm],by lia⟩
def E5.zero:E5 m c 0:=⟨0,by simp,by simp⟩
def E5.fits(hm:m≠0)(h:E5 m c q)(M:c<2^n)(I:m.natAbs<2^n):FM.Fits q n:=by
 obtain⟨a,rfl,l⟩:=h;exact .wI hm (aP l M) I
def HB{α:Type}{zs:List α}{a b g:α->PD}(I:fs δ=some (zs.map fun z=>.tuple [a z,b z]))(T:zs.length<=A6) (h:∀z∈zs,f ST=some (g z)):Bn (BW i j) BX f fr fs δ=some (zs.map g):=by
 unfold Bn;rw[I,(Cp),(show ∀zs ,(∀z∈zs,f ST=some (g z))->L2.collect _ _=some (zs.map g) from fun zs=>by
  induction zs with
  |nil=>intro _;rfl
  |cons z zs l=>
   intro h;rw[(BR)];unfold L2.collect;rw[l fun y M=>by grind,(show Hz _ BX f _ _=some _ by
    unfold Hz BW;rw[(Cp),h z Da]
    rfl)];rfl) zs h,(Cp),BI,if_pos GM]
def Kf{α:Type}{zs:List α}{a g}(I:fs δ=some (zs.map a))(T:zs.length<=A6) (h:∀z∈zs,f ((BK fr δ).set i (.d (a z)))=some (g z)):Bn (CP i) BX f fr fs δ=some (zs.map g):=by
 unfold Bn;rw[I,(Cp)];rw[(show ∀zs ,(∀z∈zs,f ((BK fr δ).set i (.d (a z)))=some (g z))->L2.collect (Hz _ BX f _) (zs.map a)=some (zs.map g) from fun zs=>by
  induction zs with
  |nil=>intro _;rfl
  |cons z zs l=>
   intro h;rw[(BR)];unfold L2.collect;rw[l fun y M=>by grind];rw[(show Hz _ BX f _ _=some _ by
    unfold Hz CP;rw[(Cp)];rw[(Cp),h z Da]
    rfl)];rfl) zs h,(Cp),BI,if_pos GM]
def Uj{Q:List PD->Prop}(h:I δ=some bi)(k:∃xs,l δ'=some (.rn xs)/\Q xs):∃xs,AL I l δ=some (.rn xs)/\Q xs:=let⟨xs,a,b⟩:=k;⟨xs,AO h a,b⟩
def tJ{R:Dv->Prop}{Q:List PD->Prop}(h:∃δ',I δ=some bi/\R δ')(k:∀δ',R δ'->∃xs,l δ'=some (.rn xs)/\Q xs):∃xs,AL I l δ=some (.rn xs)/\Q xs:=let⟨δ',a,b⟩:=h;Uj a (k δ' b)
def i9 n:(List.replicate n [PyData.int 0]).flatten=(List.replicate n 0).map .int:=by
 simp
def f7(h:f δ=some (.list zs))(k:ow i δ=some xs)(l:xs.length+zs.length<=A6):TV i f δ=some (.nx (δ.set i (.own (.lst (xs++zs))))):=by
 grind
def cnt:Nat->Nat
 |0=>1|1=>4|2=>10|3=>20|4=>35|_=>56
def Pw(n D:Nat)(ps:AAx):Prop:=ps.length=n/\(∀p∈ps,0<=p)/\ps.sum<=D
theorem QY:∀ {ps:List Int},(∀p∈ps,0<=p)->0<=ps.sum
 |[],_=>by simp
 |p::ps,h=>by
  have a:=h p Da;have b:=QY fun q l=>h q (.tail _ l)
  grind
def jY(D:Nat):Nat->List (List Int)
 |0=>[[]]
 |n+1=>(List.range (D+1)).flatMap fun a=>(jY (D-a) n).map fun ps=>a::ps
theorem Xg:∀ {n D} {ps},Pw n D ps->ps∈jY D n
 |0,D,ps,h=>by rw[List.eq_nil_of_length_eq_zero h.1];exact .head _
 |n+1,D,[],h=>by cases h.1
 |n+1,D,p::ps,h=>by
  obtain⟨U,I,M⟩:=h;have T:=I p Da;have s0:=QY fun q l=>I q (.tail _ l);rw[(Hw)]at M;exact List.mem_flatMap.mpr ⟨p.toNat,List.mem_range.mpr AS,List.mem_map.mpr ⟨ps,Xg ⟨by grind,fun q l=>by grind,by lia⟩,by grind⟩⟩
def kR:∀n,n<=3->∀D,D<=5->(jY D n).length<=cnt D:=by decide +kernel
def Q4 D:cnt D<=56:=by
 unfold cnt
 lia
structure TB(n D K:Nat)(ts:List T3):Prop where
 at_:∀t∈ts,Pw n D t.1/\t.2.2=1/\t.2.1.natAbs<2^K
 BI:ts.length<=1000
structure PB(n D K L:Nat)(us:List AY):Prop where
 at_:∀m∈us,Pw n D m.1/\m.2.den=1/\m.2.num.natAbs<2^K
 BI:us.length<=L
def Pw.mono(h:Pw n D ps)(l:D<=I):Pw n I ps:=⟨h.1,h.2.1,by have:=h.2.2;lia⟩
def PB.up{n D K L I l L'}(h:PB n D K L us)(U:D<=I)(T:K<=l)(M:L<=L'):PB n I l L' us :=
 ⟨fun m hm=>let⟨a,b,c⟩:=h.at_ m hm;⟨a.mono U,b,Nat.lt_of_lt_of_le c (aM AC T)⟩,Nat.le_trans h.BI M⟩
theorem ZD:∀ {l:List (Int×Int)},(∀p∈l,p.2=1)->(l.map fun p=>Rat.divInt p.1 p.2).sum=(((l.map Prod.fst).sum))
 |[],_=>rfl
 |p::l,h=>by
  rw[(BR),(BR),(Hw),(Hw),ZD fun q I=>by grind,h p Da,Rat.intCast_add]
  congr 1
  exact FM.EZ (p.1)
theorem Zm:∀ {l:List (Int×Int)},(∀p∈l,p.1.natAbs<M)->((l.map Prod.fst).sum).natAbs<=l.length*M
 |[],_=>by simp
 |p::l,h=>by
  have a:=h p Da;have b:=Zm fun q I=>h q (.tail _ I);rw[(BR),(Hw),(Gm)]
  lia
def Ue(h:TB n D K ts)(hn:n<=3)(I:D<=5):(Cd ts).length<=cnt D :=
 aQ (OE (Pj ts) fun k hk=>by
  obtain⟨t,l,rfl⟩:=N2 ts hk;exact Xg (h.at_ t l).1) (kR n hn D I)
def TB.ga(h:TB n D K ts)(T:1<=n)(hn:n<=3)(I:D<=5)(M:K<=90000):i8 ts:=by
 have:=Ue h hn I;have:=Q4 D;refine⟨h.BI,⟨K,1,fun t l=>?_,by have:=h.BI;lia,by lia⟩,by lia⟩;obtain⟨a,b,c⟩:=h.at_ t l;have:=a.1
 grind
theorem TB.MM(h:TB n D K ts)(hn:n<=3)(U:D<=5):PB n D (K+10) (cnt D) (MM ts):=by
 have I:(JX ts).Perm _:=List.mergeSort_perm _ _;refine⟨fun m hm=>?_,?_⟩
 .obtain⟨k,hk,e⟩:=List.mem_filterMap.mp hm;unfold OP at e;split at e
  .cases e
  .cases e;obtain⟨t,T,rfl⟩:=N2 ts (I.mem_iff.mp hk);have a:∀p∈Kn t.1 ts,p.2=1/\p.1.natAbs<2^K:=fun p I=>by
    obtain⟨u,M,rfl⟩:=ZE I;exact(h.at_ u M).2
   have e:sumK ts t.1=_:=ZD fun p I=>(a p I).1;refine⟨(h.at_ t T).1,by rw[e];rfl,?_⟩;rw[e];have l:=Om t.1 ts;have f:=h.BI;refine aP (Zm fun p I=>(a p I).2) ?_;rw[Nat.pow_add]
   calc (Kn t.1 ts).length*2^K<=1000*2^K:=Nat.mul_le_mul_right _ AS
    _<2^K*2^10:=by rw[Nat.mul_comm];exact Nat.mul_lt_mul_of_pos_left AC (Nat.pow_pos AC)
 .refine aQ (List.length_filterMap_le _ _) ?_;rw[I.length_eq];exact Ue h hn U
def PB.tb{n D K L}(h:PB n D K L us)(I:L<=1000):TB n D K (us.map Uv):=by
 refine⟨fun t l=>?_,by rw[Pi];exact aQ h.BI I⟩;obtain⟨m,hm,rfl⟩:=aI.mp l;obtain⟨a,b,c⟩:=h.at_ m hm;exact⟨a,by show(m.2.den:Int)=1;lia,c⟩
def QB us:AG us=.list ((us.map Uv).map GH):=by rw[(Bb)];rfl
noncomputable abbrev TM:MD:=Cc Q2
section
variable{n D K L1 L2:Nat}{a b:List AY}(h1:1<=n)(hn:n<=3)
include h1 hn
theorem eE(ha:PB n D K L1 a)(hb:PB n D K L2 b)(T:L1+L2<=1000)(I:D<=5)(M:K<=90000):∃r,TM [AG a,AG b]=some (AG r)/\PB n D (K+10) (cnt D) r:=by
 have tb:TB n D K ((a++b).map Uv):=⟨fun t l=>by
  rw[(DJ)]at l;rcases aX.mp l with l|l
  .exact(ha.tb AS).at_ t l
  .exact(hb.tb AS).at_ t l,by rw[Pi,(Ck)];have:=ha.BI;have:=hb.BI;lia⟩
 refine⟨_,BA rfl (CS (AJ (AK ?_ rfl) (XC (tb.ga h1 hn I M)))),tb.MM hn I⟩;rw[(DJ),(DJ)];exact AQ rfl rfl ((by rw[QB,QB];exact add_l (by rw[Pi,Pi,Pi,Pi];have:=ha.BI;have:=hb.BI;unfold A6;lia)))
end
theorem UO:∀a b:List Int,Gr (a.map PyData.int) (b.map PyData.int)=(a.zip b).map fun z=>.tuple [.int z.1,.int z.2]
 |[],_=>rfl
 |_::_,[]=>rfl
 |x::a,y::b=>by
  show PyData.tuple [.int x,.int y]::Gr _ _=_;rw[UO a b];rfl
def Me(a b:AAx):AAx:=(a.zip b).map fun z=>z.1+z.2
def wm(h:a.length<=100):Cb [.tuple (a.map .int),.tuple (b.map .int)]=some (.tuple ((Me a b).map .int)):=by
 refine BA rfl (CS (AJ (xs:=[.list _]) (AK ?_ rfl) rfl));show(Bn _ _ _ _ _ _).map _=_;rw[HB (by
  show some (Gr _ _)=_;rw[UO]) (by rw[List.length_zip];unfold A6;lia) (fun z _=>rfl)]
 unfold Me;rw[(Bb)];rfl
def jR{n M I}(ha:Pw n M a)(hb:Pw n I b):Pw n (M+I) (Me a b):=by
 refine⟨?_,fun p T=>?_,?_⟩
 .unfold Me;rw[Pi,List.length_zip,ha.1,hb.1,Nat.min_self]
 .obtain⟨z,l,rfl⟩:=aI.mp T;have:=ha.2.1 z.1 (List.of_mem_zip l).1;have:=hb.2.1 z.2 (List.of_mem_zip l).2
  lia
 .rw[(show ∀ {a b:List Int},a.length=b.length->(Me a b).sum=a.sum+b.sum from fun {a}=>by
   induction a with
   |nil=>intro b hb;rw[List.eq_nil_of_length_eq_zero hb.symm];rfl
   |cons x a U=>
    intro b hb;cases b with
    |nil=>cases hb
    |cons y b=>
     show(x+y+(Me a b).sum)=_
     grind) (ha.1.trans hb.1.symm)]
  have:=ha.2.2;have:=hb.2.2
  lia
def tt(m l:AY):T3:=(Me m.1 l.1,m.2.num*l.2.num,(m.2.den)*(l.2.den))
noncomputable abbrev nB:MD:=Dy Q2 Cb
def Hk(h:f δ=some y)(o:ow i δ=some xs)(l:xs.length<A6):Ef i f δ=some (.nx (δ.set i (.own (.lst (xs++[y]))))):=by
 grind
section
variable{n D1 D2 K1 K2 L1 L2:Nat}{a b:List AY}(h1:1<=n)(hn:n<=3)
include h1 hn
theorem jd(ha:PB n D1 K1 L1 a)(hb:PB n D2 K2 L2 b)(hL:L1*L2<=1000)(hD:D1+D2<=5)(hK1:K1<=4000)(hK2:K2<=4000):∃r,nB [AG a,AG b]=some (AG r)/\PB n (D1+D2) (K1+K2+10) (cnt (D1+D2)) r:=by
 have Y:∀i,((a.take i).flatMap fun m=>b.map (tt m)).length<=i*b.length:=fun i=>by
  have:∀l:List AY,(l.flatMap fun m=>b.map (tt m)).length=l.length*b.length:=fun l=>by
   induction l with
   |nil=>simp
   |cons x l ih=>rw[List.flatMap_cons,(Ck),ih,Pi,(Gm),Nat.add_mul];lia
  rw[this,(FL)];exact Nat.mul_le_mul_right _ (Nat.min_le_left _ _)
 have hab:a.length*b.length<=1000:=aQ (Nat.mul_le_mul ha.BI hb.BI) hL;have tb:TB n (D1+D2) (K1+K2) (a.flatMap fun m=>b.map (tt m)):=by
  refine⟨fun t ht=>?_,by have:=Y a.length;rw[(Fv)]at this;lia⟩;obtain⟨m,hm,ht⟩:=List.mem_flatMap.mp ht;obtain⟨I,M,rfl⟩:=aI.mp ht;obtain⟨a1,a2,a3⟩:=ha.at_ m hm;obtain⟨b1,b2,b3⟩:=hb.at_ I M;exact⟨jR a1 b1,by show(m.2.den:Int)*(I.2.den:Int)=1;rw[a2,b2];rfl,FM.Bj a3 b3⟩
 refine⟨_,BA (N:=["one","other","terms","powers","part","more","share"]) rfl ?_,tb.MM hn hD⟩;unfold NX;refine AO rfl ?_;refine IA (xs:=a.map A9) (fun i δ=>∃l3 Z U T:L,δ=[.d (AG a),.d (AG b),.own (.lst (((a.take i).flatMap fun m=>b.map (tt m)).map GH)),l3,Z,U,T]) rfl ⟨_,_,_,_,rfl⟩ ?_ ?_
 .rintro i x δ hx ⟨l3,Z,U,T,rfl⟩;rw[(BG)]at hx;obtain⟨m,hm,rfl⟩:=aC.mp hx;have hi:i<a.length:=(aF.mp hm).1;obtain⟨a1,a2,a3⟩:=ha.at_ m (aL hm);refine⟨_,rfl,?_⟩;refine F7 (xs:=b.map A9) (fun j δ=>∃U T:L,δ=[.d (AG a),.d (AG b),.own (.lst ((((a.take i).flatMap fun m=>b.map (tt m))++(b.take j).map (tt m)).map GH)),.d (.tuple (m.1.map .int)),.d (An m.2),U,T]) rfl ⟨_,_,by rw[List.take_zero,List.map_nil,(MN)];rfl⟩ ?_ fun δ hδ=>?_
  .rintro j y δ hy ⟨U,T,rfl⟩;rw[(BG)]at hy;obtain⟨I,M,rfl⟩:=aC.mp hy;have hj:j<b.length:=(aF.mp M).1;obtain⟨b1,b2,b3⟩:=hb.at_ I (aL M);have hl:((((a.take i).flatMap fun m=>b.map (tt m))++(b.take j).map (tt m)).map GH).length<A6:=by
    rw[Pi,(Ck),Pi,(FL)];have h1:=Y i;have h2:i*b.length+b.length<=1000:=by
     have:SB*b.length<=a.length*b.length:=Nat.mul_le_mul_right _ hi;rw[Nat.add_mul]at this
     lia
    unfold A6
    lia
   refine⟨_,rfl,_,Hk (y:=GH (tt m I)) (Di (AK (AJ (xs:=[.tuple (m.1.map .int),.tuple (I.1.map .int)]) rfl (wm (by rw[a1.1];lia))) (AK (Di (AK (AQ (x:=.int m.2.num) (y:=.int I.2.num) rfl rfl (Xd (aD a3 (aM AC hK1)) (aD b3 (aM AC hK2)) AC)) (AK (AQ (x:=.int (m.2.den:Int)) (y:=.int (I.2.den:Int)) rfl rfl (Xd (n:=10) (by rw[a2];decide) (by rw[b2];decide) AC)) rfl)) (show 2<=1000 by decide)) rfl)) (show 2<=1000 by decide)) rfl hl,.d (.tuple (I.1.map .int)),.d (An I.2),?_⟩;have e:((((a.take i).flatMap fun m=>b.map (tt m))++(b.take (j+1)).map (tt m)).map GH)=((((a.take i).flatMap fun m=>b.map (tt m))++(b.take j).map (tt m)).map GH)++[GH (tt m I)]:=by
    rw[(Iu),M];simp
   rw[e]
   rfl
  .obtain⟨U,T,rfl⟩:=hδ;refine⟨.d (.tuple (m.1.map .int)),.d (An m.2),U,T,?_⟩;rw[Pi,(Fv),(Iu),hm,List.flatMap_append];simp
 .rintro δ ⟨l3,Z,U,T,rfl⟩;rw[Pi,(Fv)];exact CS (AJ (xs:=[.list ((a.flatMap fun m=>b.map (tt m)).map GH)]) rfl (XC (tb.ga h1 hn hD AS)))
end
def Vy{α:Type}{zs:List α}{a b g:α->PD} t (U:fs δ=some (zs.map fun z=>.tuple [a z,b z])) (Y:zs.length<=A6) (I:∀z∈zs,tif ST=some (t z)) (h:∀z∈zs,t z=true->f ST=some (g z)):Bn (BW i j) tif f fr fs δ=some ((zs.filter t).map g):=by
 unfold Bn;rw[U,(Cp),(show ∀zs ,(∀z∈zs,tif ST=some (t z))->(∀z∈zs,t z=true->f ST=some (g z))->L2.collect _ _=some ((zs.filter t).map g) from fun zs=>by
  induction zs with
  |nil=>intro _ _;rfl
  |cons z zs T=>
   intro I h;rw[(BR)];unfold L2.collect;rw[T (fun y M=>I y (.tail _ M)) fun y M=>h y (.tail _ M),(show Hz _ tif f _ _=some (if t z=true then some _ else none) by
    unfold Hz BW;rw[(Cp),I z Da];cases l:t z with
    |true=>rw[h z Da l];rfl
    |false=>rfl)]
   cases l:t z with
   |true=>rw[List.filter_cons_of_pos l];rfl
   |false=>rw[List.filter_cons_of_neg (by rw[l];decide)];rfl) zs I h,(Cp),BI,if_pos (by rw[Pi];exact aQ (List.length_filter_le _ _) Y)]
def Od(ps:AAx)(k:Nat):AAx:=ps.take k++[ps.getD k 0-1]++ps.drop (k+1)
def nX(h:a.length+b.length<=A6):Aq (.tuple a) (.tuple b)=some (.tuple (a++b)):=by
 show(match Rl _ _ with|some z=>some z|none=>_)=_;rw[(show Rl (.tuple a) (.tuple b)=some _ from if_pos h)]
def xN{k:Nat}(hk:k<ps.length)(T:ps.length<=100):EO [.tuple (ps.map .int),.int (k:Nat)]=some (.tuple ((Od ps k).map .int)):=by
 have l:(ps.map PyData.int)[k]? = some (.int (ps.getD k 0)):=by
  rw[(BG),(L5),List.getElem?_eq_getElem hk];rfl
 have M:CJ CH Bd (Bf Ca) [.d (.tuple (ps.map .int)),.d (.int (k:Nat))]=some (.tuple ((ps.take k).map .int)):=by
  refine(if_pos (fun z=>?_)).trans (by rw[sf,List.map_take]);have:=z.2;rw[HT.Ja,Pi]at this
  lia
 have I:CJ CH (Bf (AF Aq Ca AT)) Bd [.d (.tuple (ps.map .int)),.d (.int (k:Nat))]=some (.tuple ((ps.drop (k+1)).map .int)):=by
  show cA (.tuple (ps.map .int)) _ none=_;rw[show(k:Int)+1=((k+1:Nat):Int) from rfl];refine(if_pos (fun z=>?_)).trans (by rw[X4,List.map_drop]);have:=z.1;rw[HT.Ja,Pi]at this
  lia
 refine BA rfl (CS ?_);unfold Od;rw[(DJ),(DJ)];refine AQ (AQ M (Di (AK (AQ (y:=.int 1) (AQ rfl rfl (FH l)) rfl rfl) rfl) (show 1<=1000 by decide)) (nX ?_)) I (nX ?_)
 .rw[Pi,(FL)];show _+1<=1000;lia
 .rw[(Ck),Pi,(FL),Pi,List.length_drop];show _+1+_<=1000;lia
def pM(h:Pw n (D+1) ps)(hk:k<n)(T:0<ps.getD k 0):Pw n D (Od ps k):=by
 obtain⟨U,M,I⟩:=h;refine⟨?_,fun p l=>?_,?_⟩
 .unfold Od;rw[(Ck),(Ck),(FL),List.length_drop,(Wh)]
  lia
 .rcases aX.mp l with l|l
  .grind
  .exact M p (List.mem_of_mem_drop l)
 .rw[(show ps=ps.take k++[ps.getD k 0]++ps.drop _ by
  rw[(L5),List.getElem?_eq_getElem _];show ps=ps.take k++[ps[k]]++ps.drop _;rw[List.append_assoc,List.singleton_append,List.getElem_cons_drop,List.take_append_drop])]at I
  unfold Od;rw[List.sum_append,List.sum_append]at I ⊢;simp only[List.sum_cons]at I ⊢
  lia
noncomputable abbrev Yy:MD:=CG FR
noncomputable abbrev Y0:MD:=B6 Yy EO
def Z0(U:r.den=1)(M:r.num.natAbs<2^K)(I:t.natAbs<2^K)(hb:b≠0)(l:b.natAbs<2^400)(T:K<=9000):Yy [An r,.tuple [.int t,.int b]]=some (An (Rat.divInt (r.num*t) b)):=by
 refine BA rfl (CS (AJ (AK (AQ rfl rfl (Xd M I T)) (AK ((AQ rfl rfl (Xd AS l AC)).trans GM) rfl)) (Qf hb l)))
section
variable{n D K L:Nat}{us:List AY}(h1:1<=n)(hn:n<=3)
include h1 hn
theorem WJ(h:PB n D K L us){k:Nat}(hk:k<n)(hD:D<=5)(hK:K<=8000)(hL:L<=1000):∃r,Y0 [AG us,.int (k:Nat)]=some (AG r)/\PB n (D-1) (K+3) L r/\(D=0->r=[]):=by
 have l:∀m∈us,(m.1.map PyData.int)[k]? = some (.int (m.1.getD k 0))/\0<=m.1.getD k 0/\m.1.getD k 0<=D:=fun m hm=>by
  obtain⟨⟨a1,a2,a3⟩,_,_⟩:=h.at_ m hm;have M:k<m.1.length:=by lia
  have e:m.1.getD k 0=m.1[k]:=by rw[(L5),List.getElem?_eq_getElem M];rfl
  have mem:m.1[k]∈m.1:=List.getElem_mem M;refine⟨by rw[(BG),List.getElem?_eq_getElem M,e];rfl,by rw[e];exact a2 _ mem,?_⟩;rw[e];have:∀ {ps:List Int} {p:Int},(∀q∈ps,0<=q)->p∈ps->p<=ps.sum:=fun {ps p} U T=>by
   induction ps with
   |nil=>cases T
   |cons x ps ih=>
    rw[(Hw)];have x0:=U x Da;have s0:=QY fun q h=>U q (.tail _ h);rcases aO.mp T with rfl|T
    .lia
    .have:=ih (fun q h=>U q (.tail _ h)) T;lia
  exact Int.le_trans (this a2 mem) a3
 let g:AY->AY:=fun m=>(Od m.1 k,Rat.divInt (m.2.num*m.1.getD k 0) 1)
 let t:AY->Bool:=fun m=>decide (0<m.1.getD k 0)
 refine⟨(us.filter t).map g,ED rfl ?_,⟨fun m hm=>?_,?_⟩,fun z=>?_⟩
 .unfold NK;have:=Vy (i:=1) (j:=2) (δ:=[.d (AG us),.d (.int (k:Nat))]) (fs:=A5 CH) (fr:=[none,none,none,some 1]) (f:=(Aa (AA (AE EO (AA Ca Kb)) (AA (AE Yy (AA FS (AA (Aa (AA (AF Ak Ca (nm 3)) (AA AT AB))) AB))) AB)))) (tif:=(Ap Id (AF Ak Ca (nm 3)) BY)) (zs:=us) (a:=fun m=>.tuple (m.1.map .int)) (b:=fun m=>An m.2) (g:=fun m=>A9 (g m)) t rfl (aQ h.BI hL) (fun m hm=>?_) (fun m hm I=>?_)
  .exact(ae (Option.map Ou.rn) this).trans (by rw[Option.map_some,(Bb)];rfl)
  .exact Bx (x:=.int (m.1.getD k 0)) (y:=.int 0) (AQ (x:=.tuple (m.1.map .int)) (y:=.int (k:Nat)) rfl rfl (FH (l m hm).1)) rfl rfl
  .obtain⟨⟨a1,a2,a3⟩,b1,Z⟩:=h.at_ m hm;obtain⟨e1,e2,e3⟩:=l m hm;refine Di (AK (AJ (xs:=[.tuple (m.1.map .int),.int (k:Nat)]) rfl (xN AS AS)) (AK (AJ (xs:=[An m.2,.tuple [.int (m.1.getD k 0),.int 1]]) (AK rfl (AK (Di (AK (AQ (x:=.tuple (m.1.map .int)) (y:=.int (k:Nat)) rfl rfl (FH e1)) rfl) (show 2<=1000 by decide)) rfl)) (Z0 (K:=K+3) b1 (aD Z (aM AC AS)) ?_ AC AC AS)) rfl)) (show 2<=1000 by decide);have:(m.1.getD k 0).natAbs<2^3:=by show _<8;lia
   exact aD this (aM AC AS)
 .obtain⟨m,Y,rfl⟩:=aI.mp hm;clear hm;obtain⟨hm,I⟩:=List.mem_filter.mp Y;have I:0<m.1.getD k 0:=ah I;obtain⟨a,b1,Z⟩:=h.at_ m hm;obtain⟨_,e2,e3⟩:=l m hm;have ed:Rat.divInt (m.2.num*m.1.getD k 0) 1=((m.2.num*m.1.getD k 0:Int):Rat):=FM.EZ ((m.2.num*m.1.getD k 0:Int):Rat);refine⟨pM (D:=D-1) (a.mono AS) hk I,by show(Rat.divInt _ 1).den=1;rw[ed];rfl,?_⟩;show(Rat.divInt _ 1).num.natAbs<_;rw[ed];show(m.2.num*m.1.getD k 0).natAbs<_;exact FM.Bj Z (show(m.1.getD k 0).natAbs<2^3 by show _<8;lia)
 .rw[Pi];exact aQ (List.length_filter_le _ _) h.BI
 .rw[List.filter_eq_nil_iff.mpr fun m hm I=>?_];rfl;have I:0<m.1.getD k 0:=ah I;have:=(l m hm).2.2
  lia
end
abbrev bD(b:Fc):PD:=.list (b.map AG)
noncomputable abbrev PM(f:Nat):MD:=Dc Y0 TM nB f
structure BB(n D K:Nat)(b:Fc):Prop where
 len:b.length=n
 at_:∀p∈b,PB n D K 56 p
def eo us:PM (f+1) [AG us,.list []]=some (AG us):=by
 rfl
def wV(h:f δ=some (.list (x::R))):CJ f (Bf AT) Bd δ=some (.list R):=by
 show(f δ).bind _=_;rw[h];show some (PyData.list (cutD _ (some ((1:Nat))) none))=_;rw[X4];rfl
section
variable{n D K L:Nat}{us:List AY}(h1:1<=n)(hn:n<=3)
include h1 hn
theorem Zi{f E X L' Db I:Nat}{b:Fc}{rest:AAl}(h:PB n D K L us)(hD:D<=5)(hK:K<=8000)(hL:L<=1000)(hb:BB n Db I b) (Z:∀r,PB n (D-1) (K+3) L r->∃r',PM f [AG r,.list rest]=some (AG r')/\PB n E X L' r')(hL':L'*56<=1000)(hE:E+Db<=5)(hX:X<=4000)(hKb:I<=4000)(hrl:rest.length<=100):∃r,PM (f+1) [AG us,.list (bD b::rest)]=some (AG r)/\PB n (E+Db) (X+I+40) (cnt (E+Db)) r:=by
 suffices hh:∃r,Hx Y0 TM nB (PM f) [.d (AG us),.d (.list (bD b::rest)),.no,.no,.no,.no]=some (.rt (AG r))/\PB n (E+Db) (X+I+40) (cnt (E+Db)) r by
  obtain⟨r,e,p⟩:=hh;exact⟨r,BA rfl e,p⟩
 have loop:∃δ',BM (BJ F0 (AA (AF Ak Ca BY) AB)) (BW 3 4)
  (AL (AZ 5 (AE Y0 (AA CH Kb)))
  (Bs (NM (Ap Id (AE BS (AA (nm 5) AB)) BY) (Ap Id (AE BS (AA Ps AB)) BY))
   (AZ 2 (AE TM (AA FS (AA (AE nB (AA (AE (PM f) (AA (nm 5) (AA (CJ Ca (Bf AT) Bd) AB))) (AA Ps AB))) AB))))
   A1)) [.d (AG us),.d (.list (bD b::rest)),.d (AG []),.no,.no,.no]=some bi/\∃(l:List AY) (Y U T:L2.L),δ'=[.d (AG us),.d (.list (bD b::rest)),.d (AG l),Y,U,T]/\PB n (E+Db) (X+I+10+10*(C7 (b.map AG)).length) (cnt (E+Db)) l:=by
  have hx0:BJ F0 (AA (AF Ak Ca BY) AB) [.d (AG us),.d (.list (bD b::rest)),.d (AG []),.no,.no,.no]=some (C7 (b.map AG)):=by
   show(AA _ _ _).bind F0=_;rw[AK (AQ (x:=.list (bD b::rest)) (y:=.int ((0:Nat):Int)) rfl rfl (FH rfl)) rfl];rfl
  refine Qm (xs:=C7 (b.map AG)) (fun i δ=>∃(l:List AY) (Y U T:L2.L),δ=[.d (AG us),.d (.list (bD b::rest)),.d (AG l),Y,U,T]/\PB n (E+Db) (X+I+10+10*i) (cnt (E+Db)) l) hx0 ⟨[],_,_,_,rfl,⟨(fun m hm=>by cases hm),Nat.zero_le _⟩⟩ ?_;rintro i x δ hx ⟨l,Y,U,T,rfl,pt⟩;obtain⟨y,hy,rfl⟩:=Ic hx;rw[(BG)]at hy;obtain⟨M,hpl,rfl⟩:=aC.mp hy;have hi:i<n:=by rw[<-hb.len];exact(aF.mp hpl).1
  have pp:=hb.at_ M (aL hpl);obtain⟨sl,e1,p1,_⟩:=WJ h1 hn h hi hD hK hL;obtain⟨al,e2,p2⟩:=Z sl p1;obtain⟨ti,e3,p3⟩:=jd h1 hn p2 pp hL' hE hX hKb;obtain⟨sm,e4,p4⟩:=eE h1 hn pt (p3.up M0 (show X+I+10<=X+I+10+10*i by lia) M0) (by have:=Q4 (E+Db);lia) hE AS;have p4':=p4.up M0 (show X+I+10+10*i+10<=X+I+10+10*(i+1) by lia) M0;have ln:∀(q:List AY) (δ:Dv) (g:L0),g δ=some (AG q)->Ap Id (AE BS (AA g AB)) BY δ=some (decide (0<q.length)):=fun q δ g hg=>(Bx (x:=.int ((q.map A9).length:Nat)) (y:=.int 0) (AJ (xs:=[AG q]) (AK hg rfl) rfl) rfl rfl).trans (ae some (decide_eq_decide.mpr (by rw[Pi];lia)));refine⟨_,rfl,?_⟩;by_cases z:0<sl.length/\0<M.length
  .refine⟨_,AO (AX (AJ (xs:=[AG us,.int (i:Nat)]) rfl e1)) (DR ?_ (AX (AJ (xs:=[AG l,AG ti]) (AK rfl (AK (AJ (xs:=[AG al,AG M]) (AK (AJ (xs:=[AG sl,.list rest]) (AK rfl (AK (wV rfl) rfl)) e2) (AK rfl rfl)) e3) rfl)) e4))),sm,_,_,_,rfl,p4'⟩;show(Ap _ _ _ _).bind _=_;rw[ln sl _ _ rfl,decide_eq_true z.1];rw[(Cp),if_pos rfl];exact(ln M _ Ps rfl).trans (by rw[decide_eq_true z.2])
  .refine⟨_,AO (AX (AJ (xs:=[AG us,.int (i:Nat)]) rfl e1)) (EU ?_ rfl),l,_,_,_,rfl,pt.up M0 AS M0⟩;show(Ap _ _ _ _).bind _=_;rw[ln sl _ _ rfl];by_cases z1:0<sl.length
   .rw[decide_eq_true z1];rw[(Cp),if_pos rfl];exact(ln M _ Ps rfl).trans (by rw[decide_eq_false fun z2=>z ⟨z1,z2⟩])
   .rw[decide_eq_false z1];rfl
 obtain⟨δ',e,l,Y,U,T,rfl,pt⟩:=loop;have hel:(C7 (b.map AG)).length=n:=by unfold C7;rw[Pi,List.length_zipIdx,Pi,hb.len]
 rw[hel]at pt;refine⟨l,?_,pt.up M0 AS M0⟩;unfold Hx;refine AO (EU ?_ rfl) (AO rfl (AO e rfl));exact Bx (x:=.int ((bD b::rest).length:Nat)) (y:=.int 0) rfl rfl ((Hy _ _).trans (by rw[decide_eq_false (by rw[(Gm)];lia)]))
end
noncomputable abbrev RE:MD:=A7 Yy
noncomputable abbrev gn:MD:=PJ RE Y0 TM
def Wn(K:Nat)(r:Rat):Prop:=r.den=1/\r.num.natAbs<2^K
def eA(h:z.natAbs<2^K):Wn K (Rat.divInt z 1):=by
 rw[show Rat.divInt z 1=_ from FM.EZ z];exact⟨rfl,h⟩
def UA{n D K L Ks:Nat}{r:Rat}(h:PB n D K L us)(l:Wn Ks r)(U:L<=1000)(Y:K+Ks<=9000):∃T,RE [AG us,An r]=some (AG T)/\PB n D (K+Ks) L T:=by
 by_cases z:r.num=0
 .refine⟨[],BA rfl ?_,⟨(fun m hm=>by cases hm),Nat.zero_le _⟩⟩;exact Co (DR (Bx (x:=.int r.num) (y:=.int 0) rfl rfl ((Hy _ _).trans (by rw[decide_eq_true z]))) rfl)
 .refine⟨us.map fun m=>(m.1,Rat.divInt (m.2.num*r.num) 1),ED rfl ?_,⟨fun m' hm=>?_,by rw[Pi];exact h.BI⟩⟩
  .refine AO (EU (Bx (y:=.int 0) rfl rfl ((Hy _ _).trans (by rw[decide_eq_false z]))) rfl) ?_;have:=HB (i:=1) (j:=2) (δ:=[.d (AG us),.d (An r)]) (fs:=A5 CH) (fr:=[none,none,none,some 1]) (f:=(Aa (AA Ca (AA (AE Yy (AA FS Kb)) AB)))) (zs:=us) (g:=fun m=>A9 (m.1,Rat.divInt (m.2.num*r.num) 1)) rfl (aQ h.BI U) (fun m hm=>?_)
   .exact(ae _ this).trans (by rw[(Bb)];rfl)
   .obtain⟨_,b1,I⟩:=h.at_ m hm;have e:An r=.tuple [.int r.num,.int 1]:=by unfold An;rw[l.1];rfl
    exact Di (AK rfl (AK (AJ rfl (by rw[e];exact Z0 (K:=K+Ks) b1 (aD I (aM AC AS)) (aD l.2 (aM AC AS)) AC AC Y)) rfl)) (show 2<=1000 by decide)
  .obtain⟨m,M,rfl⟩:=aI.mp hm;obtain⟨a1,b1,I⟩:=h.at_ m M;exact⟨a1,(eA (FM.Bj I l.2)).1,(eA (FM.Bj I l.2)).2⟩
def a8{n D K L}(h:PB n D K L us)(I:L<=1000)(M:K<=9000)(T:1<=K)(hb:b≠0)(l:b.natAbs<2^400):∃x,RE [AG us,.tuple [.int 1,.int b]]=some x:=by
 refine⟨_,ED (xs:=us.map fun m=>A9 (m.1,Rat.divInt (m.2.num*1) b)) rfl ?_⟩;have:=HB (i:=1) (j:=2) (δ:=[.d (AG us),.d (.tuple [.int 1,.int b])]) (fs:=A5 CH) (fr:=[none,none,none,some 1]) (f:=(Aa (AA Ca (AA (AE Yy (AA FS Kb)) AB)))) (g:=fun m=>A9 (m.1,Rat.divInt (m.2.num*1) b)) rfl (aQ h.BI I) (fun m hm=>?_)
 .exact ae (Option.map Ou.rn) this
 .obtain⟨_,b1,U⟩:=h.at_ m hm;exact Di (AK rfl (AK (AJ rfl (Z0 b1 U (aD (show(1:Int).natAbs<2^1 by decide) (aM AC T)) hb l M)) rfl)) (show 2<=1000 by decide)
section
variable{n D K L:Nat}{us:List AY}(h1:1<=n)(hn:n<=3)
include h1 hn
theorem da{Ks:Nat}{rs:ABB}(h:PB n D K L us)(hD:D<=5)(hK:K+Ks<=4000)(hL:L<=500)(hl:rs.length=n)(hr:∀r∈rs,Wn Ks r):∃r,gn [AG us,.list (AH rs)]=some (AG r)/\PB n (D-1) (K+Ks+40) (cnt (D-1)) r:=by
 have loop:∃δ',BM (BJ F0 bn) (BW 3 4)
  (AZ 2 (AE TM (AA FS (AA (AE RE (AA (AE Y0 (AA CH Kb)) (AA Ps AB))) AB)))) [.d (AG us),.d LF,.d (AG []),.no,.no]=some bi/\∃(l:List AY) (M I:L2.L),δ'=[.d (AG us),.d LF,.d (AG l),M,I]/\PB n (D-1) (K+Ks+3+10*(C7 (AH rs)).length) (cnt (D-1)) l:=by
  refine Qm (fun i δ=>∃(l:List AY) (M I:L2.L),δ=[.d (AG us),.d LF,.d (AG l),M,I]/\PB n (D-1) (K+Ks+3+10*i) (cnt (D-1)) l) rfl ⟨[],_,_,rfl,⟨(fun m hm=>by cases hm),Nat.zero_le _⟩⟩ ?_;rintro i x δ hx ⟨l,M,I,rfl,pt⟩;have Y:i<n:=by
   have:=(aF.mp hx).1;unfold C7 at this;rw[Pi,List.length_zipIdx,Um,hl]at this;exact this
  obtain⟨y,T,rfl⟩:=Ic hx;unfold AH at T;rw[(BG)]at T;obtain⟨r,U,rfl⟩:=aC.mp T;have wr:=hr r (aL U);obtain⟨sl,e1,p1,_⟩:=WJ h1 hn h Y hD AS AS;obtain⟨sc,e2,p2⟩:=UA p1 wr AS AS;obtain⟨sm,e4,p4⟩:=eE h1 hn pt (p2.up M0 (show K+3+Ks<=K+Ks+3+10*i by lia) M0) (by have:=Q4 (D-1);lia) AS AS;exact⟨_,rfl,_,AX (AJ (AK rfl (AK (AJ (AK (AJ rfl e1) rfl) e2) rfl)) e4),sm,_,_,rfl,p4.up M0 AS M0⟩
 obtain⟨δ',e,l,M,I,rfl,pt⟩:=loop;have Z:(C7 (AH rs)).length=n:=by unfold C7;rw[Pi,List.length_zipIdx,Um,hl]
 rw[Z]at pt;exact⟨l,BA rfl (AO rfl (AO e rfl)),pt.up M0 AS M0⟩
end
theorem Zy:∀zs a,zs.foldl (fun a z=>a*L9 z.2 z.1.toNat) a=a*GC zs
 |[],a=>by unfold GC;simp
 |z::zs,a=>by
  unfold GC;rw[List.foldl_cons,List.foldl_cons,Zy zs,Zy zs _,Rat.one_mul,Rat.mul_assoc]
def bj z zs:GC (z::zs)=L9 z.2 z.1.toNat*GC zs:=by
 show(z::zs).foldl _ 1=_;rw[List.foldl_cons,Zy,Rat.one_mul]
theorem XH(b:Int):∀n,L9 b n=((b^n:Int))
 |0=>by rw[Int.pow_zero];rfl
 |n+1=>by rw[L9,XH b n,Int.pow_succ,Rat.intCast_mul]
def rD(I:1<=c)(hb:1<=b):F9 c b=(Int.lcm c b):=by
 have hg:FM.gi c b≠0:=Int.ne_of_gt (FM.Jn AS);obtain⟨q,l⟩:=FM.LN c b;unfold F9;rw[FM.Hj hg l];exact Int.eq_of_mul_eq_mul_left hg (show FM.gi c b*_=FM.gi c b*_ by
  rw[(show _*(Int.lcm c b)=c*b by
  have:((Int.gcd c b*Int.lcm c b:Nat):Int)=((c*b).natAbs):=by rw[(Int.gcd_mul_lcm c b),Int.natAbs_mul]
  rw[Int.natAbs_of_nonneg (Int.mul_nonneg AS AS)]at this;exact this),<-Int.mul_assoc,<-l])
theorem ZS{n:Nat}:∀(bs:List Int) (c:Int),1<=c->c ∣ n->(∀b∈bs,1<=b/\b ∣ n)->bs.foldl F9 c ∣ n
 |[],c,_,h,_=>h
 |b::bs,c,l,h,k=>by
  obtain⟨b1,b2⟩:=k b aR;obtain⟨s1,_,_,_⟩:=ME l b1;refine ZS bs _ s1 ?_ fun y I=>by grind
  rw[rD l b1];exact Int.ofNat_dvd.mpr (Int.lcm_dvd h b2)
def zo{d:Nat}(h0:d≠0)(l:d<=6):(d:Int) ∣ ((60:Nat)):=by
 match d,h0,l with
 |1,_,_=>lia
 |2,_,_=>lia
 |3,_,_=>lia
 |4,_,_=>lia
 |5,_,_=>lia
 |6,_,_=>lia
def nH(h:∀b∈bs,1<=b/\b<=6):1<=Eo bs/\Eo bs<=60:=⟨((Y8 (k:=3) fun b hb=>by grind).1),Int.le_of_dvd AC (ZS bs 1 AC ⟨60,by decide⟩ fun b hb=>⟨(h b hb).1,by
  obtain⟨a,c⟩:=h b hb;have:=zo (d:=b.toNat) AS AS
  lia⟩)⟩
def CL(ts:AAx):ABB:=ts.map fun t:Int=>t
def MT(ps ts:AAx):Int:=(List.zipWith (fun p t=>t^p.toNat) ps ts).foldr (· * ·) 1
theorem Vz:∀ps ts,GC (ps.zip (CL ts))=((MT ps ts))
 |[],_=>by rfl
 |_::_,[]=>by rfl
 |p::ps,t::ts=>by
  have l:=Vz ps ts;unfold CL at l ⊢;rw[(BR),List.zip_cons_cons,bj,l,XH];unfold MT;simp
theorem ZP:∀(zs:List Int),(∀z∈zs,z.natAbs<2^n)->zs.sum.natAbs<=zs.length*2^n
 |[],_=>by simp
 |z::zs,h=>by
  have I:=ZP zs fun y l=>h y (aW _ l);have M:=h z aR;rw[(Hw),(Gm)]
  lia
def fF{zs:AAx}(l:zs.length<=15)(h:∀z∈zs,z.natAbs<2^n):zs.sum.natAbs<2^(n+4):=by
 have M:=ZP zs h;have I:zs.length*2^n<=15*2^n:=Nat.mul_le_mul_right _ l
 grind
theorem P9:∀ps ts,(∀p∈ps,0<=p)->(∀t∈ts,t.natAbs<2^tb)->(MT ps ts).natAbs<2^(tb*ps.sum.toNat+ps.length+1)/\0<=ps.sum
 |[],ts,_,_=>⟨by simp[MT],by simp⟩
 |p::ps,[],I,_=>by
  have U:=(P9 (tb:=tb) ps [] (fun y l=>I y (aW _ l)) fun _ z=>(List.not_mem_nil z).elim).2;have:=I p aR;refine⟨?_,by rw[(Hw)];lia⟩;show(1:Int).natAbs<_;exact aD AC (aM AC (show 1<=_ by lia))
 |p::ps,t::ts,I,M=>by
  obtain⟨Y,U⟩:=P9 ps ts (fun y l=>I y (aW _ l)) fun y l=>M y (aW _ l);have T:=I p aR;have e:MT (p::ps) (t::ts)=t^p.toNat*MT ps ts:=rfl;rw[(Hw),(Gm)];have Z:=FM.Bj (J7 (e:=p.toNat) (M t aR) M0) Y;rw[show(p+ps.sum).toNat=p.toNat+ps.sum.toNat by lia,Nat.mul_add]
  lia
def Xu(h:An p=An q):p=q:=by
 unfold An at h;simp at h;exact FM.Zr h.1 h.2
def iw(h:A9 a=A9 b):a=b:=by
 obtain⟨a1,a2⟩:=a;unfold A9 at h;simp at h;rw[LI h.1,Xu h.2]
def W2(h:AG a=AG b):a=b:=map_inj (fun _ _=>iw) (by injection h)
def iO(h:AH a=AH b):a=b:=map_inj (fun _ _=>Xu) h
def sL(a:List AY×ABB):Prop:=∃many k kd n nd ,a.1.length<=12/\(∀m∈a.1,m.1.length=many/\(∀p∈m.1,0<=p/\p<=3)/\m.2.num.natAbs<2^n/\((m.2.den:Int)).natAbs<2^nd)/\a.2.length=many/\(∀x∈a.2,x.num.natAbs<2^k/\((x.den:Int)).natAbs<2^kd)/\many<=4/\k<=1300/\kd<=1300/\n<=20000/\(nd+(3*kd+1)*4)*12<=4000
noncomputable abbrev UD:MD:=Yj (fun a:List AY×List Rat=>[AG a.1,.list (AH a.2)]) sL fun a=>An (Jj a.1 a.2)
def vt(h:sL (us,rs)):UD [AG us,.list (AH rs)]=some (An (Jj us rs)):=dq (fun b e=>by
 injection e with I l
 injection l with l
 injection l with l
 exact Prod.ext (W2 I) (iO l)) h
def j4 m:(A9 m).canLay0=true:=VZ fun d hd=>by
 rcases aO.mp hd with rfl|hd
 .exact VZ fun d hd=>by obtain⟨p,_,rfl⟩:=aI.mp hd;rfl
 .rw[List.mem_singleton.mp hd];rfl
def Xx us:(AG us).canLay0=true:=Gb fun d hd=>by obtain⟨p,_,rfl⟩:=aI.mp hd;exact j4 p
def G5(uss:Fc):∀d∈uss.map AG,d.canLay0=true:=fun d hd=>by
 obtain⟨us,_,rfl⟩:=aI.mp hd;exact Xx us
def G9 rs:∀d∈AH rs,d.canLay0=true:=fun d hd=>by
 obtain⟨p,_,rfl⟩:=aI.mp hd
 rfl
def zj(F:Af P w K mg base CX k f fd ps Xa):Af P w K mg base CX k f fd ps (Aw UD):=uV F fun a o G H vs Q E d e kk=>by
 obtain⟨many,k,kd,n,nd,o1,o2,o3,o4,Z,Y,U,T,M⟩:=o;obtain⟨v1,v2,rfl,d1,d2⟩:=d.Jv;obtain⟨A,xs,rfl,hA,dx⟩:=(Z9 (Xx _) (d1.same e)).eK;obtain⟨S,ss,rfl,hS,dS⟩:=(Z9 (Gb (G9 _)) (d2.same e)).eK;refine⟨A,S,xs,ss,a.1,a.2,many,k,kd,n,nd,rfl,hA,dx,o1,o2,⟨hS,dS,o3,o4⟩,Z,Y,U,T,M,fun l H' I hl=>?_⟩;obtain⟨G',n1,n2,n3,n4⟩:=mI e I hl (J6 [(Jj a.1 a.2).num,_]);exact kk _ G' H' n1 n2 n3 I n4
theorem Qd:∀ {ps:List Int} {p},(∀q∈ps,0<=q)->p∈ps->p<=ps.sum
 |x::ps,p,I,l=>by
  rw[(Hw)];have M:=I x Da;have s0:=QY fun q h=>I q (.tail _ h);rcases aO.mp l with rfl|l
  .lia
  .have:=Qd (fun q h=>by grind) l;lia
def i4{n D K L tb}(h:PB n D K L us)(Y:L<=15)(hn:n<=3)(hD:D<=2)(T:∀t∈ts,t.natAbs<2^tb):Wn (K+tb*2+8) (Jj us (CL ts)):=by
 rw[(show ∀us ,(∀m∈us,m.2.den=1)->Jj us _=(((us.map fun m=>m.2.num*MT m.1 ts).sum)) from fun us=>by
  induction us with
  |nil=>intro _;rfl
  |cons m us l=>
   intro hd;unfold Jj at l ⊢;rw[(BR),(BR),(Hw),(Hw),l fun q U=>hd q (.tail _ U),Vz,Rat.intCast_add,Rat.intCast_mul]
   congr 2
   exact FM.Zr rfl (by rw[(hd m Da)];rfl)) us fun m hm=>(h.at_ m hm).2.1]
 exact⟨rfl,(fF (by rw[Pi];exact aQ h.BI Y) (fun z M=>by
  obtain⟨m,hm,rfl⟩:=aI.mp M;obtain⟨⟨a1,a2,a3⟩,_,c⟩:=h.at_ m hm;obtain⟨I,Z⟩:=P9 m.1 ts a2 T;refine FM.HD (FM.Bj c I) ?_;have h2:tb*m.1.sum.toNat<=tb*2:=aV _ (show m.1.sum.toNat<=2 by lia)
  lia))⟩
def wd{n D K L tb}(h:PB n D K L us)(Y:L<=12)(hn:n<=3)(hD:D<=2)(Z:K<=20000)(l:tb<=1300)(T:ts.length=n)(U:∀t∈ts,t.natAbs<2^tb):∃r,UD [AG us,.list (AH (CL ts))]=some (An r)/\Wn (K+tb*2+8) r:=by
 refine⟨_,vt ⟨n,tb,1,K,1,Nat.le_trans h.BI Y,fun m hm=>?_,by unfold CL;grind,fun x M=>?_,by lia,l,by decide,Z,by decide⟩,i4 h AS hn hD U⟩
 .obtain⟨⟨a1,a2,a3⟩,b,c⟩:=h.at_ m hm;refine⟨a1,fun p I=>⟨a2 p I,?_⟩,c,by lia⟩;have:=Qd a2 I
  lia
 .obtain⟨t,h1,rfl⟩:=aI.mp M
  simp_all
abbrev T0:Tr:=.nil
abbrev T1:Tr:=.cons .nil .nil
abbrev T2:Tr:=.cons .nil (.cons .nil .nil)
abbrev ZY:Tr:=.cons T1 .nil
abbrev T4:Tr:=.cons T1 (.cons .nil .nil)
abbrev Bl:List Tr:=[T0,T1,T2,ZY,T4]
def MH(h:t∈Bl):t=T0\/t=T1\/t=T2\/t=ZY\/t=T4:=by simp_all
def zK:Z6 Bl 1:=⟨by decide,fun a ha b hb e=>(show ∀a∈Bl,∀b∈Bl,TH.Bg (some a)=TH.Bg (some b)->a=b by decide +kernel) a ha b hb e,by decide +kernel,by decide +kernel,by decide +kernel⟩
def UH(v0 M I l v4:AAl)(t:Tr):AAl:=if t=T1 then M else if t=T2 then I else if t=ZY then l else if t=T4 then v4 else v0
section
variable(v0 v1 v2 v3 v4:AAl)
def lu:UH v0 v1 v2 v3 v4 T0=v0:=rfl
def cV:UH v0 v1 v2 v3 v4 T1=v1:=rfl
def bg:UH v0 v1 v2 v3 v4 T2=v2:=rfl
def cE:UH v0 v1 v2 v3 v4 ZY=v3:=rfl
def cG:UH v0 v1 v2 v3 v4 T4=v4:=rfl
end
open Classical in
def HE{P:List AY->List AY->Prop}{U:Fc}(h:∀us∈U,∃r,P us r):∃f:List AY->List AY,∀us∈U,P us (f us):=by
 refine⟨fun us=>if k:∃r,P us r then choose k else [],fun us l=>?_⟩;have k:=h us l;show P us (dite _ _ _);rw[dif_pos k];exact choose_spec k
def DL{α β:Type}{f g:α->β}{U:List α}{i:Nat}{c}(h:(U.map f)[i]? = some c):∃u∈U,c=f u/\(U.map g)[i]? = some (g u):=by
 grind
section
variable{n K:Nat}{U:Fc}(h1:1<=n)(hn:n<=3)
include h1 hn
theorem qE(hl:U.length=n)(Z:∀us∈U,PB n 2 K 12 us)(hK:K<=500):∃BT:Tr->List PD,nW Bl (PM 3) (U.map AG) (fun t=>.list (BT t)) BT/\∀t∈Bl,∃V:List (List AY),BT t=V.map AG/\∀us∈V,PB n 5 4000 56 us:=by
 have bU:BB n 2 K U:=⟨hl,fun p hp=>(Z p hp).up M0 M0 AC⟩;have one:∀ {D K' Db M:Nat} {us:List AY} {b:Fc} {f:Nat},PB n D K' 12 us->D-1+Db<=5->D<=5->K'<=3900->BB n Db M b->M<=4000->∃r,PM (f+2) [AG us,.list [bD b]]=some (AG r)/\PB n (D-1+Db) (K'+3+M+40) (cnt (D-1+Db)) r:=fun {D K' Db M us b f} h h5 hD5 hK' hb Y=>
  Zi h1 hn (f:=f+1) (E:=D-1) (X:=K'+3) (L':=12) h hD5 AS AC hb (fun r hr=>⟨r,eo r,hr⟩) AC h5 AS Y AC
 obtain⟨f1,T⟩:=HE fun us l=>one (f:=1) (Z us l) AC AC AS bU AS;have b1:BB n 3 (K+3+K+40) (U.map f1):=⟨by rw[Pi];exact hl,fun p hp=>by obtain⟨u,l,rfl⟩:=aI.mp hp;exact(T u l).2.up M0 M0 AC⟩;have two:∀ {Db M:Nat} {us:List AY} {b:Fc},PB n 2 K 12 us->2+Db<=5->BB n Db M b->M<=4000->∃r,PM 3 [AG us,.list [bD b,bD U]]=some (AG r)/\PB n (2+Db) (K+3+3+K+40+M+40) (cnt (2+Db)) r:=fun {Db M us b} h h5 hb Y=>
  Zi h1 hn (f:=2) (E:=2) (X:=K+3+3+K+40) (L':=10) h AC AS AC hb (fun r hr=>one (D:=1) (f:=0) hr AC AC AS bU AS) AC h5 AS Y (show 1<=100 by decide)
 obtain⟨f2,h_2⟩:=HE fun us l=>two (Z us l) AC bU AS;obtain⟨f3,h_3⟩:=HE fun us l=>one (f:=1) (Z us l) AC AC AS b1 AS;obtain⟨f4,h_4⟩:=HE fun us l=>two (Z us l) AC b1 AS;refine⟨UH (U.map AG) (U.map fun u=>AG (f1 u)) (U.map fun u=>AG (f2 u)) (U.map fun u=>AG (f3 u)) (U.map fun u=>AG (f4 u)),⟨fun _=>rfl,fun t ht=>?_,fun t ht i c hc=>?_,by rw[Pi];lia,by decide +kernel⟩,fun t ht=>?_⟩
 .rcases MH ht with rfl|rfl|rfl|rfl|rfl<;>simp[lu,cV,bg,cE,cG]
 .have e1:bD (U.map f1)=.list (U.map fun u=>AG (f1 u)):=by unfold bD;rw[(Bb)];rfl
  rcases MH ht with rfl|rfl|rfl|rfl|rfl
  .obtain⟨u,l,rfl,e⟩:=DL (g:=AG) hc;exact⟨_,e,eo u⟩
  .obtain⟨u,l,rfl,e⟩:=DL (g:=fun u=>AG (f1 u)) hc;exact⟨_,e,(T u l).1⟩
  .obtain⟨u,l,rfl,e⟩:=DL (g:=fun u=>AG (f2 u)) hc;exact⟨_,e,(h_2 u l).1⟩
  .obtain⟨u,l,rfl,e⟩:=DL (g:=fun u=>AG (f3 u)) hc;refine⟨_,e,?_⟩;have:=(h_3 u l).1;rw[e1]at this;exact this
  .obtain⟨u,l,rfl,e⟩:=DL (g:=fun u=>AG (f4 u)) hc;refine⟨_,e,?_⟩;have:=(h_4 u l).1;rw[e1]at this;exact this
 .rcases MH ht with rfl|rfl|rfl|rfl|rfl
  .exact⟨U,rfl,fun us l=>(Z us l).up AC AS AC⟩
  .exact⟨U.map f1,by rw[cV,(Bb)];rfl,fun us l=>by obtain⟨u,I,rfl⟩:=aI.mp l;exact(T u I).2.up AC AS AC⟩
  .exact⟨U.map f2,by rw[bg,(Bb)];rfl,fun us l=>by obtain⟨u,I,rfl⟩:=aI.mp l;exact(h_2 u I).2.up AC AS AC⟩
  .exact⟨U.map f3,by rw[cE,(Bb)];rfl,fun us l=>by obtain⟨u,I,rfl⟩:=aI.mp l;exact(h_3 u I).2.up AC AS AC⟩
  .exact⟨U.map f4,by rw[cG,(Bb)];rfl,fun us l=>by obtain⟨u,I,rfl⟩:=aI.mp l;exact(h_4 u I).2.up AC AS AC⟩
end
open Classical in
def LW{P:List AY->Rat->Prop}{U:Fc}(h:∀us∈U,∃r,P us r):∃f:List AY->Rat,∀us∈U,P us (f us):=by
 refine⟨fun us=>if k:∃r,P us r then choose k else 0,fun us l=>?_⟩;have k:=h us l;show P us (dite _ _ _);rw[dif_pos k];exact choose_spec k
def zu:∀t∈Bl,∀i,Tr.of (t.bs.take i)∈Bl:=fun t l i=>by
 have all:∀t∈Bl,∀i,i<3->Tr.of (t.bs.take i)∈Bl:=by decide +kernel
 have len:∀t∈Bl,t.bs.length<=2:=by decide +kernel
 by_cases z:i<3
 .grind
 .have:=all t l 2 AC;rw[List.take_of_length_le (len t l)]at this;rw[List.take_of_length_le GM]
  lia
section
variable{n K tb:Nat}{U:Fc}{ts:AAx}(h1:1<=n)(hn:n<=3)
include h1 hn
theorem fV(hl:U.length=n)(hU:∀us∈U,PB n 2 K 12 us)(hK:K<=200)(htb:tb<=50)(htl:ts.length=n)(M:∀t∈ts,t.natAbs<2^tb):∃PT WT:Tr->List PD,mY Bl gn UD (U.map AG) (.list (AH (CL ts))) PT WT/\∀t∈Bl,∃rs:ABB,WT t=AH rs:=by
 have wo:∀ {D T:Nat} {us:List AY},PB n D T 12 us->D<=2->T<=3000->∃r,UD [AG us,.list (AH (CL ts))]=some (An r)/\Wn (T+108) r:=fun h hD hK'=>by
  obtain⟨r,a,b⟩:=wd h AC hn hD AS AS htl M;exact⟨r,a,b.1,Nat.lt_of_lt_of_le b.2 (aM AC AS)⟩
 have pu:∀ {D T Ks:Nat} {us:List AY} {w:List AY->Rat},PB n D T 12 us->D<=2->T+Ks<=4000->(∀u∈U,Wn Ks (w u))->∃r,gn [AG us,.list (AH (U.map w))]=some (AG r)/\PB n (D-1) (T+Ks+40) 12 r:=fun {D T Ks us w} h hD hk hw=>by
  obtain⟨r,a,b⟩:=da h1 hn (rs:=U.map w) h AS hk AC (by rw[Pi];exact hl) (fun r hr=>by obtain⟨u,l,rfl⟩:=aI.mp hr;exact hw u l);refine⟨r,a,b.up M0 M0 ?_⟩;have:∀D,D<=2->cnt (D-1)<=12:=by decide
  exact this D hD
 obtain⟨Y,g0⟩:=LW fun us l=>wo (hU us l) AC AS;obtain⟨p1,q1⟩:=HE fun us l=>pu (w:=Y) (hU us l) AC AS (fun u l=>(g0 u l).2);obtain⟨w1,g1⟩:=LW fun us l=>wo (q1 us l).2 AC AS;obtain⟨p2,q2⟩:=HE fun us l=>pu (w:=Y) (q1 us l).2 AC AS (fun u l=>(g0 u l).2);obtain⟨w2,g2⟩:=LW fun us l=>wo (q2 us l).2 AC AS;obtain⟨p3,q3⟩:=HE fun us l=>pu (w:=w1) (hU us l) AC AS (fun u l=>(g1 u l).2);obtain⟨w3,g3⟩:=LW fun us l=>wo (q3 us l).2 AC AS;obtain⟨p4,q4⟩:=HE fun us l=>pu (w:=Y) (q3 us l).2 AC AS (fun u l=>(g0 u l).2);obtain⟨w4,g4⟩:=LW fun us l=>wo (q4 us l).2 AC AS;have Z:∀w:List AY->Rat,AH (U.map w)=U.map fun u=>An (w u):=fun w=>by unfold AH;rw[(Bb)];rfl
 refine⟨UH (U.map AG) (U.map fun u=>AG (p1 u)) (U.map fun u=>AG (p2 u)) (U.map fun u=>AG (p3 u)) (U.map fun u=>AG (p4 u)),UH (U.map fun u=>An (Y u)) (U.map fun u=>An (w1 u)) (U.map fun u=>An (w2 u)) (U.map fun u=>An (w3 u)) (U.map fun u=>An (w4 u)),⟨rfl,fun t M=>?_,fun t M i b hb j c I=>?_,fun t M=>?_,fun t M j c I=>?_,by rw[Pi];lia,zu⟩,fun t M=>?_⟩
 .rcases MH M with rfl|rfl|rfl|rfl|rfl<;>simp[lu,cV,bg,cE,cG]
 .simp only[Z]at q1 q2 q3 q4;rcases MH M with rfl|rfl|rfl|rfl|rfl
  .cases hb
  .match i,hb with
   |0,hb=>
    cases hb;obtain⟨u,l,rfl,e⟩:=DL (g:=fun u=>AG (p1 u)) (show(U.map AG)[j]? = some c from I);exact⟨_,e,(q1 u l).1⟩
  .match i,hb with
   |0,hb=>
    cases hb;obtain⟨u,l,rfl,e⟩:=DL (g:=fun u=>AG (p1 u)) (show(U.map AG)[j]? = some c from I);exact⟨_,e,(q1 u l).1⟩
   |1,hb=>
    cases hb;obtain⟨u,l,rfl,e⟩:=DL (g:=fun u=>AG (p2 u)) (show(U.map fun u=>AG (p1 u))[j]? = some c from I);exact⟨_,e,(q2 u l).1⟩
  .match i,hb with
   |0,hb=>
    cases hb;obtain⟨u,l,rfl,e⟩:=DL (g:=fun u=>AG (p3 u)) (show(U.map AG)[j]? = some c from I);exact⟨_,e,(q3 u l).1⟩
  .match i,hb with
   |0,hb=>
    cases hb;obtain⟨u,l,rfl,e⟩:=DL (g:=fun u=>AG (p3 u)) (show(U.map AG)[j]? = some c from I);exact⟨_,e,(q3 u l).1⟩
   |1,hb=>
    cases hb;obtain⟨u,l,rfl,e⟩:=DL (g:=fun u=>AG (p4 u)) (show(U.map fun u=>AG (p3 u))[j]? = some c from I);exact⟨_,e,(q4 u l).1⟩
 .rcases MH M with rfl|rfl|rfl|rfl|rfl<;>simp[lu,cV,bg,cE,cG]
 .rcases MH M with rfl|rfl|rfl|rfl|rfl
  .obtain⟨u,l,rfl,e⟩:=DL (g:=fun u=>An (Y u)) (show(U.map AG)[j]? = some c from I);exact⟨_,e,(g0 u l).1⟩
  .obtain⟨u,l,rfl,e⟩:=DL (g:=fun u=>An (w1 u)) (show(U.map fun u=>AG (p1 u))[j]? = some c from I);exact⟨_,e,(g1 u l).1⟩
  .obtain⟨u,l,rfl,e⟩:=DL (g:=fun u=>An (w2 u)) (show(U.map fun u=>AG (p2 u))[j]? = some c from I);exact⟨_,e,(g2 u l).1⟩
  .obtain⟨u,l,rfl,e⟩:=DL (g:=fun u=>An (w3 u)) (show(U.map fun u=>AG (p3 u))[j]? = some c from I);exact⟨_,e,(g3 u l).1⟩
  .obtain⟨u,l,rfl,e⟩:=DL (g:=fun u=>An (w4 u)) (show(U.map fun u=>AG (p4 u))[j]? = some c from I);exact⟨_,e,(g4 u l).1⟩
 .rcases MH M with rfl|rfl|rfl|rfl|rfl
  .exact⟨_,(Z Y).symm⟩
  .exact⟨_,(Z w1).symm⟩
  .exact⟨_,(Z w2).symm⟩
  .exact⟨_,(Z w3).symm⟩
  .exact⟨_,(Z w4).symm⟩
end
def Zg{ι:Type}{sp:ι->Sp}(F:∀i,Af P w K mg base CX k f fd ps (sp i)):Af P w K mg base CX k f fd ps (fun vs H Q E=>∃i,sp i vs H Q E) :=
 ⟨fun vs H Q E ⟨i,h⟩=>(F i).len _ _ _ _ h,fun A outer s H args us vs Q E I M hb l ⟨i,h⟩=>(F i).run A outer s H args us vs Q E I M hb l h⟩
section
noncomputable def XO(Ab:MD)(l:MD):DF :=
 (AL (AZ 1 (AE Ab (AA (CT (CP 1) BX (AF Ak Ca AT) [none,none] (A5 CH)) AB)))
 (Al (AE l (AA (AE Tp (AA (CT (CP 1) BX (AF BL (AF Ak Ca BY) (AF Dx FS (AF Ak Ca AT))) [none,none,some 1] (A5 CH)) AB)) bn))))
noncomputable def CI(Ab:MD)(l:MD):MD:=Av ["some"] ["some","bottom"] (XO Ab l)
noncomputable def YA(l:MD):DF :=
 (Al (AE l (AA (AF E3 (AF BL (AF Ak CH BY) (AF Ak Ca AT)) (AF BL (AF Ak Ca BY) (AF Ak CH AT))) (AA (AF BL (AF Ak CH AT) (AF Ak Ca AT)) AB))))
noncomputable def FE(l:MD):MD:=Av PP PP (YA l)
noncomputable def ie(DY:MD):DF :=
 (AL (Bs (DH (CV (Iy DK CH)))
  (Al Do)
  A1)
 (AL (BM (BJ F0 bm) (BW 1 2)
  (AL (Bs (NM (Ap Id Ca BY) (Ap UV FS (AF Ak CH (AF E3 Ca AT))))
   ya
   A1)
  (Bs (Ik (DH (CV (AE DY (AA FS AB)))) (NM (Ap Id Ca BY) (Ap nr FS (AF Ak CH (AF E3 Ca AT)))))
   (Al Do)
   A1)))
 (Al (fC KK))))
noncomputable def DY:Nat->MD
 |0=>fun _=>none
 |n+1=>Av ["thing"] ["thing","k","bough"] (ie (DY n))
noncomputable def QK(DY:MD)(l:AD):EL :=
 (Qo (DH (CV (AE DY bm)))
  (Jm l (fC (.str (Str.ofString "a tree is told by the tuple of its boughs in falling order"))))
  (fun δ=>some (.inl (.nx δ))))
noncomputable def Cq(DY:MD)(l:AD):rW:=D7 ["thing"] ["thing"] (QK DY l)
noncomputable def Sg(Bo:MD):DF :=
 (Al (AF Aq AT (AE Tp (AA (CT (CP 1) BX (AE Bo bn) [none,none] (A5 CH)) AB))))
noncomputable def Bo:Nat->MD
 |0=>fun _=>none
 |n+1=>Av ["tree"] ["tree"] (Sg (Bo n))
noncomputable def TF(Bp:MD):DF :=
 (AL (AZ 1 AT)
 (AL (AZ 2 BY)
 (AL (BM (BJ F0 bm) (BW 3 4)
  (AL (Bs (NM (Ap Id (nm 3) BY) (Ap UV Ps (AF Ak CH (AF E3 (nm 3) AT))))
   (AZ 2 (AF Aq FS AT))
   (AZ 2 AT))
  (AZ 1 (AF BL (AF BL Ca FS) (AE Bp (AA Ps AB))))))
 (Al Ca))))
noncomputable def Bp:Nat->MD
 |0=>fun _=>none
 |n+1=>Av ["tree"] ["tree","turns","alike","k","bough"] (TF (Bp n))
noncomputable def RC:DF :=
 (AL (AZ 1 AT)
 (AL (BM (BJ MI (AA (fC (.int 2)) (AA (AF Aq CH AT) AB))) (C0 2)
  (AZ 1 (AF BL Ca FS)))
 (Al Ca)))
noncomputable def C3:MD:=Av ["many"] ["many","product","factor"] (RC)
noncomputable def NH:DF :=
 (Al (AE Ez (AA (AE (Na true) bm) AB)))
noncomputable def Ao:MD:=Av ["boughs"] ["boughs"] (NH)
noncomputable def Nc(Ao:MD)(BP:MD):DF :=
 (AL (Ee 1 (AA (AE Ao (AA (AF Aq CH (Aa (AA (Aa AB) AB))) AB)) AB))
 (AL (BM (BJ F0 bm) (BW 2 3)
  (BM (A5 (AE BP Kb)) (C0 4)
   (Ef 1 (AE Ao (AA (AF Aq (AF Aq (CJ CH Bd (Bf FS)) (Aa (AA Ps AB))) (CJ CH (Bf (AF Aq FS AT)) Bd)) AB)))))
 (GZ 1)))
noncomputable def BP(Ao:MD):Nat->MD
 |0=>fun _=>none
 |n+1=>Av ["tree"] ["tree","larger","k","bough","grown"] (Nc Ao (BP Ao n))
noncomputable def dW(BP:MD)(l:AD):EL :=
 (B3 (Qo (Ik (Ap Tk CH AT) (Ap Id CH (fC (.int 7))))
  (Jm l (fC (.str (Str.ofString "trees are listed for 1 to 7 knots"))))
  (fun δ=>some (.inl (.nx δ))))
 (Es (AL (AZ 1 (BF (AA (Aa AB) AB)))
 (AL (BM (BJ MI (AA AT bm)) (C0 2)
  (AL (Ee 3 AB)
  (AL (BM (A5 Ca) (C0 4)
   (TV 3 (AE BP (AA Ps AB))))
  (LC 3 (AZ 1 (fun δ=>((nm 3) δ).bind QH))))))
 (Al Ca)))))
noncomputable def Bv(BP:MD)(l:AD):rW:=D7 ["many"] ["many","trees","knots","larger","tree"] (dW BP l)
noncomputable def cC(Bv:rW)(l:AD):EL :=
 (B3 (Qo (Ik (Ap Tk CH BY) (Ap Id CH (fC (.int 7))))
  (Jm l (fC (.str (Str.ofString "trees are listed up to 0 to 7 knots"))))
  (fun δ=>some (.inl (.nx δ))))
 (Es (AL (Ee 1 AB)
 (AL (BM (BJ MI (AA AT (AA (AF Aq CH AT) AB))) (C0 2)
  (TV 1 (AE (good Bv) (AA FS AB))))
 (GZ 1)))))
noncomputable def F4(Bv:rW)(l:AD):rW:=D7 ["most"] ["most","trees","many"] (cC Bv l)
noncomputable def YR:DF :=
 (HS (Bn (CP 1) BX (AF BL (AF Ak Ca BY) (AF Dx FS (AF Ak Ca AT))) [none,none,some 1] (A5 CH)))
noncomputable def Ag:MD:=Av ["some","bottom"] ["some","bottom"] YR
noncomputable def VG(Ag:MD):DF :=
 (HS (Bn (CP 1) BX (Aa (AA Ca (AA AT AB))) [none,none] (A5 (AE Ag (AA CH bn)))))
noncomputable def CM(Ag:MD):MD:=Av ["start","grain"] ["start","grain"] (VG Ag)
noncomputable def FZ(FF:MD)(l:AD):EL :=
 (Qo (DH (CV (AE FF bm)))
  (Jm l (fC (.str (Str.ofString "a change is a list of n polynomials in n unknowns, n from 1 on"))))
  (fun δ=>some (.inl (.nx δ))))
noncomputable def A2(FF:MD)(l:AD):rW:=D7 ["thing"] ["thing"] (FZ FF l)
noncomputable def R8(l:AD):EL :=
 (Jm l (fC (.str (Str.ofString "a start is a list of as many fractions as there are unknowns"))))
noncomputable def CC(l:AD):rW:=D7 [] [] (R8 l)
noncomputable def Ed(Bc:MD)(CC:rW):EL :=
 (Qo (Ik (DH (CV (AE Bc bm))) (Ap (Bm true) (AE BS bm) Ca))
  (Ec CC AB fun _ δ=>.nx δ)
  (fun δ=>some (.inl (.nx δ))))
noncomputable def Bt(Bc:MD)(CC:rW):rW:=D7 ["thing","unknowns"] ["thing","unknowns"] (Ed Bc CC)
noncomputable def MX(Bc:MD)(l:AD):EL :=
 (Qo (Ik (DH (CV (AE Bc bm))) (CV (fun δ=>((AE BS bm) δ).bind (rq true [0,1,2,4,8,17,37,85]))))
  (Jm l (fC (.str (Str.ofString "a weighing is a list of a fraction for each tree of at most 0 to 7 knots"))))
  (fun δ=>some (.inl (.nx δ))))
noncomputable def CA(Bc:MD)(l:AD):rW:=D7 ["thing"] ["thing"] (MX Bc l)
noncomputable def QC(CA:rW):EL :=
 (B3 (Ec CA bm fun _ δ=>.nx δ)
 (Es (Al (fun δ=>((AE BS bm) δ).bind (uu [0,1,2,4,8,17,37,85])))))
noncomputable def Az(CA:rW):rW:=D7 ["weighing"] ["weighing"] (QC CA)
noncomputable def VA(Ao:MD)(B9:MD):DF :=
 (AL (Ee 1 AB)
 (AL (BM (BJ F0 bm) (BW 2 3)
  (AL (Ef 1 (Aa (AA (AF Aq (CJ CH Bd (Bf FS)) (CJ CH (Bf (AF Aq FS AT)) Bd)) Kb)))
  (BM (A5 (AE B9 Kb)) (BW 4 5)
   (Ef 1 (Aa (AA (AE Ao (AA (AF Aq (AF Aq (CJ CH Bd (Bf FS)) (Aa (AA Ps AB))) (CJ CH (Bf (AF Aq FS AT)) Bd)) AB)) (AA (nm 5) AB)))))))
 (GZ 1)))
noncomputable def B9(Ao:MD):Nat->MD
 |0=>fun _=>none
 |n+1=>Av ["tree"] ["tree","ties","k","bough","trunk","part"] (VA Ao (B9 Ao n))
noncomputable def YJ(Cq:rW)(B9:MD):DF :=
 (AL (xw (AE (good Cq) bm))
 (Al (AE (Na false) (AA (AE B9 bm) AB))))
noncomputable def FG(Cq:rW)(B9:MD):MD:=Av ["tree"] ["tree"] (YJ Cq B9)
noncomputable def Wm:DF :=
 (AL (Bs (Ap (CQ fun i j=>decide (j<=i)) Ca (AE BS bm))
  (Al bv)
  A1)
 (Al (Aa (AA (AF BL (AF Ak (AF Ak CH Ca) BY) (AF Ak FS BY)) (AA (AF BL (AF Ak (AF Ak CH Ca) AT) (AF Ak FS AT)) AB)))))
noncomputable def Ep:MD:=Av ["trunk_moves","j","number"] ["trunk_moves","j","number"] (Wm)
noncomputable def U0(CI:MD)(Bo:MD)(Ep:MD)(FG:MD):DF :=
 (AL (AZ 2 (AE FG bm))
 (AL (Ee 3 AB)
 (AL (BM (BJ Hg (AA (AF E3 (AE Bo bm) AT) AB)) (C0 4)
  (AL (AZ 5 (CT (BW 1 2) BX (AE Ep (AA (AF V8 Ps Ca) (AA (nm 3) (AA (AF Ak (AF V8 Ps FS) BY) AB)))) [none,none,none,some 4,some 1] (A5 FS)))
  (Ef 3 (AE CI (AA (nm 5) AB)))))
 (GZ 3))))
noncomputable def EI(CI:MD)(Bo:MD)(Ep:MD)(FG:MD):MD:=Av ["tree","moves"] ["tree","moves","ties","later","j","shares"] (U0 CI Bo Ep FG)
noncomputable def Th(CI:MD)(C3:MD):DF :=
 (Al (AE CI (AA (CT (BW 1 2) BX (Aa (AA (AF Ak FS BY) (AA (AF BL (AF Ak FS AT) (AE C3 bn)) AB))) [none,none,none] (BJ b6 bm)) AB)))
noncomputable def Dh(CI:MD)(C3:MD):MD:=Av ["later"] ["later"] (Th CI C3)
noncomputable def M4(FE:MD)(EI:MD)(Dh:MD)(F4:rW)(Az:rW):EL :=
 (B3 (xE (cX (cQ (cX (wH bm) Az) (wH AB)) F4) fun x δ=>.nx (δ.set 1 (.d x)))
 (Es (AL (oD 2)
 (AL (BM (BJ zip2 (AA Ca bm)) (BW 3 4)
  (AL (AZ 5 (oJ 2 (AE EI (AA (nm 3) (AA FS AB)))))
  (vn 2 (AF Aq (BF (AA (AE FE (AA Ps (AA (AE Dh (AA (nm 5) AB)) AB))) AB)) (nm 5)) (nm 3))))
 (LC 2 (HS (Bn (CP 1) BX (AF Ak (AF V8 FS Ca) BY) [none,none,some 2] (A5 Ca))))))))
noncomputable def CF(FE:MD)(EI:MD)(Dh:MD)(F4:rW)(Az:rW):rW:=D7 ["weighing"] ["weighing","trees","moves","tree","weight","later"] (M4 FE EI Dh F4 Az)
noncomputable def YL(Bp:MD):DF :=
 (HS (Bn (BW 1 2) BX (Aa (AA (AF Ak FS BY) (AA (AF BL (AF Ak FS AT) (AE Bp bn)) AB))) [none,none,none] (BJ zip2 (AA CH bn))))
noncomputable def CY(Bp:MD):MD:=Av ["trees","weights"] ["trees","weights"] (YL Bp)
noncomputable def Ir(Ab:MD)(l:MD)(Ag:MD):DF :=
 (AL (AZ 3 (AE Ab (AA (CT (CP 1) BX (AF Ak Ca AT) [none,none] (A5 CH)) AB)))
 (AL (AZ 4 (AF BL (BF (AA BY AB)) (AE BS (AA (AF Ak Ca BY) AB))))
 (AL (BM (BJ zip2 (AA (AE Ag (AA CH Kb)) bn)) (BW 5 6)
  (AZ 4 (CT (BW 1 2) BX (AF Aq Ca (AF BL (nm 3) (AF Ak FS BY))) [none,none,none,some 5] (BJ zip2 (AA Ps (AA (nm 6) AB))))))
 (HS (Bn (CP 1) BX (AE l (AA Ca (AA (AF BL FS (nm 3)) AB))) [none,none,some 3,some 2] (A5 Ps))))))
noncomputable def EH(Ab:MD)(l:MD)(Ag:MD):MD:=Av ["shares","bends","bottom"] ["shares","bends","bottom","common","totals","top","worths"] (Ir Ab l Ag)
noncomputable def KU(I:List PD->D8->Option PD)(Fz:MD)(DV:MD)(A2:rW)(Bt:rW)(EH:MD)(CY:MD)(Bv:rW)(Az:rW)(Bq:MD)(CM:MD)(l:Dv->D8):EL :=
 (B3 (Ec A2 bm fun _ δ=>.nx δ)
 (B3 (Ec Bt (AA Ca (AA (AE BS bm) AB)) fun _ δ=>.nx δ)
 (B3 (Ec Az (AA FS AB) fun z δ=>.nx (δ.set 3 (.d z)))
 (B3 (Es (AZ 4 (AE Fz bn)))
 (B3 (Es (AZ 5 (AE Bq (AA CH (AA Ps AB)))))
 (B3 (Es (AZ 6 (AE CM (AA Ca (AA Ps AB)))))
 (B3 (Es (AZ 7 (AE DV (AA CH (AA Ps AB)))))
 (B3 (Es (AZ 8 (CT (CP 1) BX (BF bn) [none,none] (A5 Ca))))
 (B3 (Es (lJ 9 l))
 (B3 (Es (AZ 10 FS))
 (B3 (Es (AZ 11 Ps))
 (B3 (a6 (BJ MI (AA AT (AA (AF Aq (nm 3) AT) AB))) (C0 12)
  (B3 (Ec Bv (AA (nm 12) AB) fun z δ=>.nx (δ.set 13 (.d z)))
  (Es (AL (AZ 14 (Hc 4 9 (CP 1) BX (KQ 4 I (AA FS (AA Ca Kb))) [none,none,some 5,some 6,some 9] (A5 (nm 13))))
  (AL (AZ 11 (AF BL (nm 11) (nm 7)))
  (AL (AZ 15 (AE EH (AA (AE CY (AA (nm 13) (AA (nm 10) AB))) (AA (nm 14) (AA (nm 11) AB)))))
  (AL (AZ 8 (CT (BW 1 2) BX (AF Aq Ca (BF (AA FS AB))) [none,none,none] (BJ zip2 (AA (nm 8) (AA (nm 15) AB)))))
  (AZ 10 (CJ (nm 10) (Bf (AE BS (AA (nm 13) AB))) Bd)))))))))
 (Es (Al (nm 8)))))))))))))))
noncomputable def Dq(I:List PD->D8->Option PD)(Fz:MD)(DV:MD)(A2:rW)(Bt:rW)(EH:MD)(CY:MD)(Bv:rW)(Az:rW)(Bq:MD)(CM:MD)(l:Dv->D8):rW:=D7 ["change","start","weighing"] ["change","start","weighing","reach","grain","moving","begin","pace","rows","known","left","bottom","knots","trees","bends","sums"] (KU I Fz DV A2 Bt EH CY Bv Az Bq CM l)
noncomputable def TK(CY:MD):DF :=
 (HS (Bn (BW 1 2) (Ap (Bm true) (AF Ak FS BY) BY) (Aa (AA Ca (AA FS AB))) [none,none,none] (BJ zip2 (AA CH (AA (AE CY (AA CH bn)) AB)))))
noncomputable def Df(CY:MD):MD:=Av ["trees","numbers"] ["trees","numbers"] (TK CY)
noncomputable def NI(l:MD)(A7:MD):DF :=
 (AL (Ee 2 AB)
 (AL (BM (BJ zip2 (AA CH bn)) (BW 3 4)
  (TV 2 (AE A7 (AA (nm 3) (AA (Aa (AA Ps (AA AT AB))) AB)))))
 (LC 2 (Al (AE l (AA FS AB))))))
noncomputable def Cv(l:MD)(A7:MD):MD:=Av ["polys","tops"] ["polys","tops","terms","some","top"] (NI l A7)
noncomputable def GK(l:List PD->D8->Option PD)(Ab:MD)(A7:MD)(Cv:MD)(Ag:MD):DF :=
 (AL (AZ 4 (AE Ab (AA (CT (BW 1 2) BX (AF Ak FS AT) [none,none,none] (A5 Ca)) AB)))
 (AL (AZ 5 (AE Ag (AA (CT (BW 1 2) BX FS [none,none,none] (A5 Ca)) (AA Ps AB))))
 (AL (AZ 6 (Hc 4 3 (BW 1 2) BX (KQ 4 l (AA (nm 3) bn)) [none,none,none,some 0,some 3] (A5 Ca)))
 (AL (AZ 7 (Aa (AA AT (AA (AF BL Ps FS) AB))))
 (fun δ=>some (.nx δ))))))
noncomputable def Ow(l:List PD->D8->Option PD)(Ab:MD)(A7:MD)(Cv:MD)(Ag:MD):AAi:=(CT (CP 1) BX (AE A7 (AA (AE Cv (AA (CT (CP 1) BX (AF Ak Ca FS) [none,none,some 1] (A5 Ps)) Kb)) (AA FS AB))) [none,none,some 7,some 5,some 6] (BJ Hg (AA (AE BS bm) AB)))
noncomputable def Ci(l:List PD->D8->Option PD)(Ab:MD)(A7:MD)(Cv:MD)(Ag:MD):List PD->D8->Option PD:=P0 ["moving","shared","bottom","known"] ["moving","shared","bottom","known","common","tops","bends","part"] (GK l Ab A7 Cv Ag) (Ow l Ab A7 Cv Ag)
noncomputable def Fm(Ci:List PD->D8->Option PD)(CF:rW)(DV:MD)(A2:rW)(Df:MD)(Bv:rW)(Az:rW)(Bq:MD)(l:Dv->D8):EL :=
 (B3 (Ec A2 bm fun _ δ=>.nx δ)
 (B3 (Ec CF bn fun z δ=>.nx (δ.set 2 (.d z)))
 (B3 (Es (AZ 3 (AE Bq (AA CH (AA AT AB)))))
 (B3 (Es (AZ 4 (AE DV (AA CH (AA AT AB)))))
 (B3 (Es (Ee 5 AB))
 (B3 (Es (lJ 6 l))
 (B3 (Es (AZ 7 AT))
 (B3 (a6 (BJ MI (AA AT (AA (AF Aq (AE (good Az) bn) AT) AB))) (C0 8)
  (B3 (Ec Bv (AA (nm 8) AB) fun z δ=>.nx (δ.set 9 (.d z)))
  (Es (AL (AZ 7 (AF BL (nm 7) Ps))
  (AL (Ef 5 (KQ 6 Ci (AA (nm 3) (AA (AE Df (AA (nm 9) (AA FS AB))) (AA (nm 7) AB)))))
  (AZ 2 (CJ FS (Bf (AE BS (AA (nm 9) AB))) Bd)))))))
 (Es (GZ 5))))))))))
noncomputable def B4(Ci:List PD->D8->Option PD)(CF:rW)(DV:MD)(A2:rW)(Df:MD)(Bv:rW)(Az:rW)(Bq:MD)(l:Dv->D8):rW:=D7 ["change","weighing"] ["change","weighing","left","moving","pace","changes","known","bottom","knots","trees"] (Fm Ci CF DV A2 Df Bv Az Bq l)
noncomputable def LH:DF :=
 (AL (AZ 2 BY)
 (AL (Bs (Ap Tk Ca (AE BS bm))
  (AZ 2 (AF Ak CH Ca))
  A1)
 (AL (Bs (Ap (CQ fun i j=>decide (j<=i)) FS (AF QN (fC (.int 10)) (fC (.int 18))))
  (Al (AF Cr (AF E3 FS (AF QN (fC (.int 10)) (fC (.int 18)))) (AF QN (fC (.int 10)) (fC (.int 60)))))
  A1)
 (AL (AZ 3 (AF Cr (AF Aq (AF Aq (AF BL FS (fC (.int 48271))) (AF BL Ca (fC (.int 69621)))) (fC (.int 11))) (fC (.int 2147483629))))
 (AL (AZ 3 (AF Cr (AF BL (nm 3) (nm 3)) (fC (.int 2147483587))))
 (Al (AF Aq (AF BL (nm 3) (fC (.int 2147483563))) (AF Cr (AF BL (nm 3) (nm 3)) (fC (.int 2147483563))))))))))
noncomputable def A3:MD:=Av ["_law_script","_law_k"] ["_law_script","_law_k","_law_cell_here","_law_number"] (LH)
noncomputable def Qh(l:MD):DF :=
 (Al (AE l (AA (AF Aq (AF BL (AF Ak CH BY) (AF Ak Ca AT)) (AF BL (AF Ak Ca BY) (AF Ak CH AT))) (AA (AF BL (AF Ak CH AT) (AF Ak Ca AT)) AB))))
noncomputable def F3(l:MD):MD:=Av ["_law_one","_law_other"] ["_law_one","_law_other"] (Qh l)
noncomputable def K3(F3:MD):DF :=
 (AL (jO 1)
 (AL (BM (A5 CH) (BW 2 3)
  (Vk 1 (AE F3 (AA (RA 1 FS bv) Kb)) FS))
 (Al (Hc 2 1 (CP 1) (Ap (Bm true) (Oo 2 Ca) bv) (Aa (AA Ca (AA (Oo 2 Ca) AB))) [none,none,some 1] (A5 (lH (fun δ=>(Ea 1 δ).bind Jf) (Ip AT)))))))
noncomputable def DC(F3:MD):MD:=Av ["_law_terms"] ["_law_terms","_law_found","_law_powers_here","_law_worth"] (K3 F3)
noncomputable def VH:DF :=
 (AL (Ee 1 (AA (AF GW (Aa (AA BY AB)) CH) AB))
 (AL (BM (BJ Hg bm) (C0 2)
  (AL (AZ 3 (AF Aq (AF Aq (AF GW (Aa (AA BY AB)) FS) (Aa (AA AT AB))) (AF GW (Aa (AA BY AB)) (AF E3 (AF E3 CH FS) AT))))
  (AL (Ef 1 (nm 3))
  (BM (BJ MI (AA FS bm)) (C0 4)
   (AL (AZ 5 (AF Aq (AF Aq (AF GW (Aa (AA BY AB)) Ps) (Aa (AA AT AB))) (AF GW (Aa (AA BY AB)) (AF E3 (AF E3 CH Ps) AT))))
   (Ef 1 (AE Ez (AA (CT (CP 1) BX (AF Aq (AF Ak FS Ca) (AF Ak (nm 3) Ca)) [none,none,some 3,some 5] (BJ Hg bm)) AB))))))))
 (GZ 1)))
noncomputable def Cj:MD:=Av ["_law_many"] ["_law_many","_law_found","_law_k","_law_one","_law_j","_law_other"] VH
noncomputable def JA(A3:MD)(l:MD)(DC:MD)(Cj:MD):DF :=
 (AL (AZ 3 (AF Aq AT (AF Cr (AE A3 (AA CH bn)) FS)))
 (AL (AZ 4 (AE Cj Kb))
 (AL (Ee 5 AB)
 (AL (BM (BJ Hg Kb) (C0 6)
  (AL (AZ 7 (AE A3 (AA CH (AA (AF Aq (AF Aq Ca AT) (nm 6)) AB))))
  (AL (Ee 8 AB)
  (AL (AZ 9 (AF Cr (nm 7) (fC (.int 4))))
  (AL (AZ 10 (Sd (AF UV (AF Cr (AF Dx (nm 7) (fC (.int 4))) (fC (.int 4))) (fC (.int 3))) (AF Tk (nm 3) (fC (.int 3)))))
  (AL (AZ 7 (AF Dx (nm 7) (fC (.int 16))))
  (AL (Ee 11 AB)
  (AL (BM (BJ Hg (AA (nm 9) AB)) (C0 12)
   (AL (Ef 11 (AF Ak Ps (AF Cr (nm 7) (AE BS (AA Ps AB)))))
   (AZ 7 (AF Dx (nm 7) (AE BS (AA Ps AB))))))
  (AL (Bs (CV (nm 10))
   (AZ 11 Ps)
   A1)
  (AL (LC 11 (BM (A5 (nm 11)) (C0 13)
   (AL (Ef 8 (Aa (AA (nm 13) (AA (AE l (AA (AF E3 (AF Cr (nm 7) (fC (.int 9))) (fC (.int 4))) (AA (AF Aq AT (AF Cr (AF Dx (nm 7) (fC (.int 9))) (fC (.int 3)))) AB))) AB))))
   (AZ 7 (AF Dx (nm 7) (fC (.int 27)))))))
  (LC 8 (Ef 5 (AE DC (AA (nm 8) AB))))))))))))))
 (GZ 5)))))
noncomputable def EE(A3:MD)(l:MD)(DC:MD)(Cj:MD):MD:=Av ["_law_script","_law_at","_law_most"] ["_law_script","_law_at","_law_most","_law_many","_law_menu","_law_change_here","_law_k","_law_number","_law_terms","_law_count","_law_dense","_law_some","_law_j","_law_powers_here"] (JA A3 l DC Cj)
noncomputable def Jz(A3:MD)(l:MD):DF :=
 (AL (AZ 3 (AE A3 (AA CH bn)))
 (AL (Ee 4 AB)
 (AL (BM (BJ Hg (AA FS AB)) (C0 5)
  (AL (Ef 4 (AE l (AA (AF E3 (AF Cr (nm 3) (fC (.int 7))) (fC (.int 3))) (AA (AF Aq AT (AF Cr (AF Dx (nm 3) (fC (.int 7))) (fC (.int 2)))) AB))))
  (AZ 3 (AF Dx (nm 3) (fC (.int 14))))))
 (GZ 4))))
noncomputable def En(A3:MD)(l:MD):MD:=Av ["_law_script","_law_at","_law_many"] ["_law_script","_law_at","_law_many","_law_number","_law_found","_law_k"] (Jz A3 l)
noncomputable def X9:DF :=
 (HS (Bn (CP 1) BX (AE OZ bn) [none,none] (A5 CH)))
noncomputable def GU:RW:=Po ["_law_change_here"] ["_law_change_here"] (X9)
noncomputable def Xh(B4:rW)(Dq:rW)(M:AD->Option Bool)(T:AD->Option Bool)(U:AD->Option Bool)(I:AD->Option Bool)(l:AD->Option Bool):DF :=
 (AL (AZ 4 (fC .none))
 (AL (Vg 5
  (Nf (Zl (CV (nm 3))
  (Nf (OJ Dq (AA CH (AA Ca (AA FS AB))))
   MA)
  (Nf (OJ B4 (AA CH (AA FS AB)))
   MA))
  MA)
  (AZ 4 (nm 5)))
 (AL (Bs (Ap (wK false) Ps (fC .none))
  (Al (BF AB))
  A1)
 (AL (AZ 6 (BF (AA (SO M Ps) (AA (SO T Ps) (AA (SO I Ps) AB)))))
 (Al (AF Aq (nm 6) (BF (AA (SO U Ps) (AA (SO l Ps) AB)))))))))
noncomputable def CK(B4:rW)(Dq:rW)(M:AD->Option Bool)(T:AD->Option Bool)(U:AD->Option Bool)(I:AD->Option Bool)(l:AD->Option Bool):MD:=Av ["_law_change_here","_law_start_here","_law_weighing","_law_whole"] ["_law_change_here","_law_start_here","_law_weighing","_law_whole","_law_kept","e","_law_kinds_here"] (Xh B4 Dq M T U I l)
noncomputable def GN(l:RW):DF :=
 (AL (AZ 2 (AE BS bm))
 (AL (sN 3 l bm)
 (AL (AZ 4 (AF Cr (AF Dx Ca (fC (.int 16))) FS))
 (AL (AZ 5 (AF GW (Aa (AA BY AB)) FS))
 (AL (AZ 6 (Aa (AA (nm 5) ce)))
 (AL (AZ 7 (BF (AA (Aa (AA (AF Aq (nm 5) (Aa (AA BY AB))) ce)) (AA (Aa (AA (CJ (nm 5) (Bf AT) Bd) ce)) (AA (Aa (AA (nm 5) (AA (Aa (AA (fC (.int 2)) (AA (fC (.int 4)) AB))) AB))) (AA (Aa (AA (nm 5) (AA bv AB))) (AA (Aa (AA (nm 5) (AA AT AB))) (AA (Aa (AA (nm 5) AB)) AB))))))))
 (AL (AZ 7 (AF Aq (nm 7) (BF (AA (Aa (AA (AF Aq (Aa (AA (Ip AT) AB)) (CJ (nm 5) (Bf AT) Bd)) ce)) (AA (Aa (AA (AF Aq (Aa (AA (fC KK) AB)) (CJ (nm 5) (Bf AT) Bd)) ce)) (AA (Aa (AA (AE OZ (AA (nm 5) AB)) ce)) (AA (fC .none) AB)))))))
 (AL (AZ 8 (AF Cr Ca (fC (.int 16))))
 (AL (Bs (Ap Tk (nm 8) (fC (.int 10)))
  (L8 3 (BF (AA (AF Ak (nm 7) (nm 8)) AB)) Ps)
  A1)
 (AL (Bs (Ap UV (nm 8) (fC (.int 10)))
  (L8 3 (BF (AA (nm 6) (AA (nm 6) AB))) Ps)
  A1)
 (AL (Bs (Ap UV (nm 8) (fC (.int 11)))
  (L8 3 (BF (AA (nm 6) (AA (Aa (AA (AF Aq (Aa (AA AT AB)) (CJ (nm 5) (Bf AT) Bd)) (AA (Aa (AA AT (AA AT AB))) AB))) AB))) Ps)
  A1)
 (AL (Bs (Ap UV (nm 8) (fC (.int 12)))
  (Ef 3 (BF AB))
  A1)
 (AL (Bs (Ap UV (nm 8) (fC (.int 13)))
  (L8 3 (Aa (AA (nm 6) AB)) Ps)
  A1)
 (AL (Bs (Ap UV (nm 8) (fC (.int 14)))
  (LC 3 (Al (AE Ez Kb)))
  A1)
 (AL (Bs (Ap UV (nm 8) (fC (.int 15)))
  (Al (AF Ak (BF (AA (BF AB) (AA (fC .none) (AA BY (AA (fC (.str (Str.ofString "x"))) AB))))) (AF Cr (AF Dx Ca (fC (.int 16))) (fC (.int 4)))))
  A1)
 (GZ 3))))))))))))))))
noncomputable def Cf(l:RW):MD:=Av ["_law_change_here","_law_cell_here"] ["_law_change_here","_law_cell_here","_law_many","_law_some","_law_at","_law_nought","_law_term","_law_odd","_law_way"] (GN l)
noncomputable def nP(Cf:MD)(A3:MD)(EE:MD)(CK:MD)(En:MD):DF :=
 (AL (AZ 1 (AE EE (AA CH (AA BY (AA (fC (.int 3)) AB)))))
 (AL (AZ 2 (AE En (AA CH (AA (fC (.int 4)) (AA (AE BS bn) AB)))))
 (AL (AZ 3 (AE A3 (AA CH (AA (fC (.int 5)) AB))))
 (AL (AZ 4 (AE Cf (AA Ca Kb)))
 (AL (Ee 5 (AA (AF Aq FS (BF (AA bv AB))) ck))
 (AL (Ef 5 (AF Aq (CJ FS Bd (Bf (Ip AT))) (BF (AA (Aa (AA AT (AA BY AB))) AB))))
 (AL (AZ 6 (gG 5 (AF Cr (AF Dx (nm 3) (fC (.int 64))) (fC (.int 7)))))
 (AL (Bs (Ap UV (AF Cr (nm 3) (fC (.int 16))) (fC (.int 12)))
  (AZ 4 (AF Aq Ca (BF (AA (BF (AA (Aa (AA (AF GW (Aa (AA BY AB)) (AE BS bn)) (AA (Aa (AA AT (AA AT AB))) AB))) AB)) AB))))
  A1)
 (AL (Bs (Ap (Bm true) (AE CK (AA Ps (AA (nm 6) (AA (AF BL (BF (AA bv AB)) (fC (.int 3))) (AA (fC KK) AB))))) (BF (AA (fC KK) (AA Do (AA Do (AA Do (AA (fC KK) AB)))))))
  (Al Do)
  A1)
 (AL (Bs (Ap (Bm true) (AE CK (AA Ps (AA FS (AA (AF BL (BF (AA bv AB)) (fC (.int 3))) (AA Do AB))))) (BF (AA (fC KK) (AA Do (AA Do (AA Do (AA (fC KK) AB)))))))
  (Al Do)
  A1)
 (AL (Bs (Ap (Bm true) (AE CK (AA Ca (AA (nm 6) (AA (AF BL (BF (AA bv AB)) (fC (.int 3))) (AA (fC KK) AB))))) (BF (AA Do (AA (fC KK) (AA Do (AA Do (AA (fC KK) AB)))))))
  (Al Do)
  A1)
 (AL (BM (A5 (BF (AA (fC KK) (AA Do AB)))) (C0 7)
  (AL (Bs (Ap (Bm true) (AE CK (AA Ca (AA FS (AA (AF BL (BF (AA bv AB)) (fC (.int 3))) (AA (nm 7) AB))))) (BF (AA Do (AA Do (AA (fC KK) (AA Do (AA (fC KK) AB)))))))
   (Al Do)
   A1)
  (Bs (Ap (Bm true) (AE CK (AA Ca (AA FS (AA (AF BL (BF ce) (fC (.int 4))) (AA (nm 7) AB))))) (BF AB))
   (Al Do)
   A1)))
 (Al (fC KK))))))))))))))
noncomputable def mz(Cf:MD)(A3:MD)(EE:MD)(CK:MD)(En:MD):MD:=Av ["_law_script"] ["_law_script","_law_change_here","_law_start_here","_law_cell_here","_law_bad","_law_odd","_law_late","_law_whole"] (nP Cf A3 EE CK En)
end
def cW:PD->Bool
 |.int i=>decide (0<=i)
 |_=>false
def SU(n:Int):PD->Bool
 |.tuple ds=>decide (ds.length=n)&&ds.all cW
 |_=>false
def zp:PD->Int
 |.tuple (.int a::_)=>a
 |_=>0
def Ia(n:Int):PD->Bool
 |.tuple [p,f]=>SU n p&&(HR f && !decide (zp f=0))
 |_=>false
def intD:PD->Int
 |.int i=>i
 |_=>0
def yD:PD->List Int
 |.tuple ds=>ds.map intD
 |_=>[]
def Yr:PD->List Int
 |.tuple (p::_)=>yD p
 |_=>[]
def Jd(n:Int)(ds:AAl)(k:Nat):Bool:=match ds[k]? with
 |some d=>Ia n d&&(decide (k=0)||(match ds[k-1]? with
  |some e=>IT.lt (Yr d) (Yr e)
  |none=>true))
 |none=>true
def Kx(n:Int):PD->Bool
 |.list ds=>(List.range ds.length).all (Jd n ds)
 |_=>false
def Ei:PD->Bool
 |.list ds=>!decide (ds.length=0)&&ds.all (Kx ds.length)
 |_=>false
def qj(h:DK d=false):SU n d=false:=by cases d<;>first|rfl|exact absurd h (by simp[DK])
def jt(h:DK d=false):Ia n d=false:=by cases d<;>first|rfl|exact absurd h (by simp[DK])
def jy(h:Cw d=false):Kx n d=false:=by cases d<;>first|rfl|exact absurd h (by simp[Cw])
def qY(h:Cw d=false):Ei d=false:=by cases d<;>first|rfl|exact absurd h (by simp[Cw])
def ff(h:ds.length≠2):Ia n (.tuple ds)=false:=by
 match ds,h with
 |[],_=>rfl
 |[_],_=>rfl
 |[_,_],h=>grind
 |_::_::_::_,_=>rfl
def Wl(ds:AAl):AAt:=match ds with
 |[.int a,.int b]=>some (.int (FM.gi a b))
 |_=>none
def Zv:PD->PD->Option PD:=fun x y=>match x,y with
 |.tuple ds,.tuple es=>(GR ds).bind fun ps=>(GR es).map fun l=>.bool (!IT.lt ps l)
 |_,_=>none
def uv(M:IR):Cz X (compareOp .GtE) Zv:=by
 refine⟨_,wA M,fun x y z l G0 H0 G H σ δ ts u v Q R du dv k=>?_⟩;unfold Zv at l;split at l
 .obtain⟨ps,Y,U⟩:=aA.mp l;obtain⟨I,T,rfl⟩:=aC.mp U;obtain⟨a,xs,rfl,ha,dx⟩:=du;obtain⟨b,ys,rfl,hb,Z⟩:=dv;have:=dx.ints Y;subst this;have:=Z.ints T;subst this;exact⟨a,b,ps,I,rfl,rfl,R.ins _ _ ha,R.ins _ _ hb,k _ _ _ (R.put Iq)⟩
 lia
section
variable{P:F0b}{w:F0c}{K:Fg}{mg:AAs}{base:Heap}{CX:Jr}{k:Nat}{f:AD}{fd:F0a}{ps:AAy}
def AAG(F:Af P w K mg base CX k f fd ps cM):Af P w K mg base CX k f fd ps (Aw Wl) :=
 S8 F fun ds x hm G H vs Q E d e l=>by
  unfold Wl at hm;split at hm
  .cases hm;obtain⟨U,T,rfl,M,I⟩:=d.Jv;subst M I;exact⟨_,_,rfl,l _ G H (.refl _) Nw.refl e (.refl _) Iq⟩
  lia
end
section
noncomputable def dB:DF :=
 (Al (Sd (Iy Im CH) (ve (Iy Gw CH))))
noncomputable def Ce:MD:=Av ["thing"] ["thing"] dB
noncomputable def VM(l:MD)(Ce:MD):DF :=
 (AL (Bs (Ik (DH (CV (Iy DK CH))) (Ap (Bm true) (AE BS bm) (fC (.int 2))))
  (Al Do)
  A1)
 (AL (Bs (Ik (DH (CV (AE Ce (AA (AF Ak CH BY) AB)))) (DH (CV (AE Ce (AA (AF Ak CH AT) AB)))))
  (Al Do)
  A1)
 (Al (Sd (AF (CQ fun i j=>decide (j<=i)) (AF Ak CH AT) AT) (AF UV (AE l (AA (AF Ak CH BY) (AA (AF Ak CH AT) AB))) AT)))))
noncomputable def B8(l:MD)(Ce:MD):MD:=Av ["thing"] ["thing"] (VM l Ce)
noncomputable def RT(B8:MD):DF :=
 (AL (Bs (DH (CV (Iy Cw CH)))
  (Al Do)
  A1)
 (AL (BM (A5 CH) (C0 1)
  (Bs (DH (CV (AE B8 bn)))
   (Al Do)
   A1))
 (Al (fC KK))))
noncomputable def Bc(B8:MD):MD:=Av ["thing"] ["thing","part"] (RT B8)
noncomputable def Wt(Ce:MD):DF :=
 (AL (Bs (Ik (DH (CV (Iy DK CH))) (Ap (Bm true) (AE BS bm) Ca))
  (Al Do)
  A1)
 (AL (BM (A5 CH) (C0 2)
  (Bs (Ik (DH (CV (AE Ce (AA FS AB)))) (Ap Tk FS BY))
   (Al Do)
   A1))
 (Al (fC KK))))
noncomputable def Em(Ce:MD):MD:=Av ["thing","unknowns"] ["thing","unknowns","power"] (Wt Ce)
noncomputable def gV(Em:MD)(B8:MD):DF :=
 (AL (Bs (Ik (DH (CV (Iy DK CH))) (Ik (Ap (Bm true) (AE BS bm) (fC (.int 2))) (DH (CV (AE Em (AA (AF Ak CH BY) bn))))))
  (Al Do)
  A1)
 (Al (Sd (AE B8 (AA (AF Ak CH AT) AB)) (AF (Bm true) (AF Ak (AF Ak CH AT) BY) BY))))
noncomputable def HA(Em:MD)(B8:MD):MD:=Av ["thing","unknowns"] ["thing","unknowns"] (gV Em B8)
noncomputable def UB(HA:MD):DF :=
 (AL (Bs (DH (CV (Iy Cw CH)))
  (Al Do)
  A1)
 (AL (BM (BJ F0 bm) (BW 2 3)
  (Bs (Ik (DH (CV (AE HA (AA (nm 3) bn)))) (NM (Ap Id FS BY) (Ap Zv (AF Ak (nm 3) BY) (AF Ak (AF Ak CH (AF E3 FS AT)) BY))))
   (Al Do)
   A1))
 (Al (fC KK))))
noncomputable def HG(HA:MD):MD:=Av ["thing","unknowns"] ["thing","unknowns","k","term"] (UB HA)
noncomputable def YM(HG:MD):DF :=
 (AL (Bs (Ik (DH (CV (Iy Cw CH))) (Ap UV (AE BS bm) BY))
  (Al Do)
  A1)
 (AL (BM (A5 CH) (C0 1)
  (Bs (DH (CV (AE HG (AA Ca (AA (AE BS bm) AB)))))
   (Al Do)
   A1))
 (Al (fC KK))))
noncomputable def FF(HG:MD):MD:=Av ["thing"] ["thing","some"] (YM HG)
end
def Ol x y:Bm true (.int x) (.int y)=some (.bool (!decide (x=y))):=by
 rfl
def Qp(e:f δ=some x)(h:x.canLay0=true):Iy q f δ=some (.bool (q x)):=by
 show(f δ).bind _=_;rw[e];cases x<;>first|rfl|simp[PyData.canLay0]at h
def XF(h:f δ=some (.bool a))(k:a=true->g δ=some (.bool b)):Sd f g δ=some (.bool (a&&b)):=by
 show(f δ).bind _=_;rw[h];cases a
 .rfl
 .exact k rfl
def Vb{f g:AAk}{δ:Dv}{a b:Bool}(h:f δ=some a)(k:a=false->g δ=some b):Ik f g δ=some (a||b):=by
 show(f δ).bind _=_;rw[h];cases a
 .exact k rfl
 .rfl
def Zd(h:f δ=some a)(k:a=true->g δ=some b):NM f g δ=some (a&&b):=by
 grind
def vM(h:f δ=some (.bool a)):ve f δ=some (.bool (!a)):=by
 show(f δ).bind _=_;rw[h];rfl
abbrev JP(c:Dv->Option Bool):DF:=Bs c (Al Do) A1
def Su(h:c δ=some (!b))(k:b=true->F δ=some (.rt (.bool x))):AL (JP c) F δ=some (.rt (.bool (b&&x))):=by
 cases b
 .exact Co (DR h rfl)
 .exact AO (EU h rfl) (k rfl)
theorem Vj{set}{c}(ok:Nat->Bool)(M:Nat->Dv->Prop):∀xs n δ,M n δ->(∀j,j<n->ok j=true)->(∀i x δ,xs[i]? = some x->M (n+i) δ->(∀j,j<n+i->ok j=true)->∃l,set x δ=some l/\c l=some (!ok (n+i))/\M (n+i+1) l) ->
  ((∃i,i<xs.length/\ok (n+i)=false)/\GP set (JP c) xs δ=some (.rt (.bool false)))\/((∀i,i<xs.length->ok (n+i)=true)/\∃δ',GP set (JP c) xs δ=some bi)
 |[],n,δ,_,_,_=>.inr ⟨fun i hi=>absurd hi (bI _),δ,rfl⟩
 |x::xs,n,δ,h,b,k=>by
  obtain⟨l,Z,I,Y⟩:=k 0 x δ rfl h b;rw[Nat.add_zero]at I Y;cases e:ok n with
  |false=>
   rw[e]at I;refine .inl ⟨⟨0,by simp,e⟩,?_⟩;unfold GP;rw[Z,(Cp),show JP c l=some _ from DR I rfl]
  |true=>
   rw[e]at I;rw[(show GP set _ _ δ=GP set _ xs l by rw[GP,Z,(Cp),show JP c l=some _ from EU I rfl])];have r:∀i,n+1+i=n+SB:=fun i=>by lia
   rcases Vj ok M xs _ l Y (fun j hj=>if z:j=n then z ▸ e else b j AS) (fun i y δ hy U hb=>by
    rw[r]at U hb ⊢;exact k _ y δ hy U hb) with ⟨⟨i,hi,hb⟩,T⟩|⟨T,h6⟩
   .exact .inl ⟨⟨i+1,Nat.succ_lt_succ hi,by rw[<-r];exact hb⟩,T⟩
   .refine .inr ⟨fun i hi=>?_,h6⟩;cases i with
    |zero=>exact e
    |succ i=>rw[<-r];exact T i (Nat.lt_of_succ_lt_succ hi)
def ZM{set} ok (I:Nat->Dv->Prop) (Z:fs δ=some xs) (h0:I 0 δ) (U:∀i x δ,xs[i]? = some x->I i δ->(∀j,j<i->ok j=true)->∃l,set x δ=some l/\c l=some (!ok i)/\I SB l):AL (BM fs set (JP c)) (Al (fC KK)) δ=some (.rt (.bool ((List.range xs.length).all ok))):=by
 have e:BM fs set (JP c) δ=GP set (JP c) xs δ:=by grind
 rcases Vj ok I xs 0 δ h0 (fun j hj=>by lia) (fun i x δ hi M hb=>by rw[Nat.zero_add]at M hb ⊢;exact U i x δ hi M hb) with ⟨⟨i,hi,hb⟩,T⟩|⟨T,δ',Y⟩
 .rw[Nat.zero_add]at hb;rw[show(List.range xs.length).all ok=false from bH.mpr fun z=>by
   grind]
  exact Co (e.trans T)
 .rw[List.all_eq_true.mpr fun i hi=>by grind];exact AO (e.trans Y) rfl
def range_all q (ds:AAl):((List.range ds.length).all fun i=>(ds[i]?).all q)=ds.all q:=by
 refine Bool.eq_iff_iff.mpr ⟨fun h=>bG.mpr fun d hd=>?_,fun h=>bG.mpr fun i hi=>?_⟩
 .obtain⟨i,hi⟩:=bP hd
  grind
 grind
def QP q (T:fs δ=some xs) (M:∀x∈xs,∀l ,c (δ.set I l |>.set I (.d x))=some (!q x)):AL (BM fs (C0 I) (JP c)) (Al (fC KK)) δ=some (.rt (.bool (xs.all q))):=by
 refine(ZM _ (fun _ δ'=>∃l ,δ'=δ.set I l\/δ'=δ) T ⟨.no,.inr rfl⟩ fun i x δ' hi U _=>?_).trans (by rw[range_all]);rw[hi];rcases U with ⟨l,rfl|rfl⟩
 .exact⟨_,rfl,M x (aL hi) l,.d x,.inl (List.set_set ..)⟩
 .exact⟨_,rfl,by have:=M x (aL hi) (.d x);simp_all,.d x,.inl rfl⟩
abbrev HN(d:PD):Bool:=Im d && !Gw d
noncomputable abbrev fI:MD:=Ce
def cm(h:d.canLay0=true):fI [d]=some (.bool (HN d)):=BA rfl (CS (XF (Qp rfl h) fun _=>vM (Qp rfl h)))
noncomputable abbrev v5:MD:=B8 Wl fI
def QT{ds:AAl}(h:f δ=some (.int ds.length))(k:g δ=some (.int n)):Ap (Bm true) f g δ=some (!decide ((ds.length:Int)=n)):=Bx h k (Ol _ _)
def LS(e:f δ=some d)(h:d.canLay0=true):DH (CV (Iy DK f)) δ=some (!DK d):=C8 (C9 (Qp e h))
def Lv(e:f δ=some d)(h:d.canLay0=true):DH (CV (Iy Cw f)) δ=some (!Cw d):=C8 (C9 (Qp e h))
def Li(h:(PyData.tuple ds).canLay0=true):∀d∈ds,d.canLay0=true:=Qy (by simpa only[PyData.canLay0]using h)
def SI(h:(PyData.list ds).canLay0=true):∀d∈ds,d.canLay0=true:=Qy (by simpa only[PyData.canLay0]using h)
def oA(h:d.canLay0=true):v5 [d]=some (.bool (HR d)):=by
 refine BA rfl ?_;by_cases M:DK d=true
 case neg=>
  rw[show HR d=false by cases d<;>first|rfl|exact absurd rfl M];exact Co (DR (Oj ((LS rfl h).trans (by rw[(Sm)]at M;rw[M];rfl))) rfl)
 obtain⟨ds,rfl⟩:=QJ M;have a1:=LS (f:=nm 0) (δ:=[.d (.tuple ds)]) rfl h;by_cases T:ds.length=2
 case neg=>
  rw[Xc (.inl T)];exact Co (DR (Ku a1 ((QT (ds:=ds) (n:=2) rfl rfl).trans (by rw[decide_eq_false AS];rfl))) rfl)
 obtain⟨I,l,rfl⟩:∃I l,ds=[I,l]:=by
  match ds,T with
  |[a,b],_=>exact⟨a,b,rfl⟩
 refine AO (EU (Ku a1 (QT (ds:=[I,l]) (n:=2) rfl rfl)) rfl) ?_;have b0:DH (CV (AE fI (AA (AF Ak CH BY) AB))) [.d (.tuple [I,l])]=some (!HN I):=C8 (C9 (AJ (xs:=[I]) rfl (cm (Li h I Da))));have b1:DH (CV (AE fI (AA (AF Ak CH AT) AB))) [.d (.tuple [I,l])]=some (!HN l):=C8 (C9 (AJ (xs:=[l]) rfl (cm (Li h l (.tail _ Da)))));have o:=Vb b0 fun _=>b1;by_cases w:HN I=true/\HN l=true
 .obtain⟨i,rfl⟩:=Nm w.1;obtain⟨j,rfl⟩:=Nm w.2;exact AO (EU o rfl) (CS (XF (AQ rfl rfl rfl) fun _=>AQ (y:=.int 1) rfl rfl (Hy _ _)))
 .have:HN I=false\/HN l=false:=by
   cases h0:HN I<;>cases U:HN l<;>simp_all
  rw[Xc (.inr ⟨I,l,rfl,this⟩)];refine Co (DR (o.trans ?_) rfl);rcases this with e|e<;>rw[e]<;>simp
noncomputable abbrev Yo:MD:=Bc v5
def yJ(h:d.canLay0=true):Yo [d]=some (.bool (Ii d)):=by
 refine BA rfl ?_;by_cases I:Cw d=true
 case neg=>
  rw[(Sm)]at I;rw[gq I];exact Co (DR ((Lv rfl h).trans AS) rfl)
 obtain⟨ds,rfl⟩:=QR I;exact AO (EU (Lv rfl h) rfl) (QP HR rfl fun x M l=>C8 (C9 (AJ rfl (oA (SI h x M)))))
noncomputable abbrev zJ:MD:=Em fI
def yQ(h:d.canLay0=true):zJ [d,.int n]=some (.bool (SU n d)):=by
 refine BA rfl ?_;by_cases I:DK d=true
 case neg=>
  rw[(Sm)]at I;rw[qj I];exact Co (DR (Oj ((LS rfl h).trans (by rw[I];rfl))) rfl)
 obtain⟨ds,rfl⟩:=QJ I;refine Su ((Vb (LS rfl h) fun _=>rfl).trans rfl) fun _=>QP cW rfl fun x M l=>(Vb (C8 (C9 (AJ rfl (cm (Li h x M))))) (b:=!cW x) fun e=>?_).trans ?_
 .obtain⟨i,rfl⟩:=Nm (by simpa using e);show some (decide _)=some (!decide _);by_cases z:i<0
  .grind
  grind
 .cases x<;>rfl
noncomputable abbrev sY:MD:=HA zJ v5
def yG{n:Int}(h:d.canLay0=true):sY [d,.int n]=some (.bool (Ia n d)):=by
 refine BA rfl ?_;by_cases l:DK d=true
 case neg=>
  rw[(Sm)]at l;rw[jt l];exact Co (DR (Oj ((LS rfl h).trans (by rw[l];rfl))) rfl)
 obtain⟨ds,rfl⟩:=QJ l;have a1:=LS (f:=nm 0) (δ:=[.d (.tuple ds),.d (.int n)]) rfl h;by_cases I:ds.length=2
 case neg=>
  rw[ff I];exact Co (DR (Ku a1 (Oj ((QT (ds:=ds) (n:=2) rfl rfl).trans (by rw[decide_eq_false AS];rfl)))) rfl)
 obtain⟨p,f,rfl⟩:∃p f,ds=[p,f]:=by
  match ds,I with
  |[a,b],_=>exact⟨a,b,rfl⟩
 refine Su (Ku a1 (Ku (QT (ds:=[p,f]) (n:=2) rfl rfl) (C8 (C9 (AJ rfl (yQ (Li h p Da))))))) fun _=>CS (XF (AJ (xs:=[f]) rfl (oA (Li h f (.tail _ Da)))) fun e=>?_);obtain⟨i,j,rfl⟩:∃i j,f=.tuple [.int i,.int j]:=by
  unfold HR at e;split at e
  .exact⟨_,_,rfl⟩
  .cases e
 exact AQ (x:=.int i) rfl rfl (Ol _ _)
def zS(h:xs[i]? = some x):Fw xs ((i:Nat))=some x:=by
 unfold Fw Qs
 grind
noncomputable abbrev y9:MD:=HG sY
def ZF(h:Ia n d=true):∃ps f,d=.tuple [.tuple ps,f]/\GR ps=some (Yr d):=by
 unfold Ia at h;split at h
 .rename_i p f;rw[(HW)]at h;have k:=h.1;unfold SU at k;split at k
  .rename_i ps;refine⟨ps,f,rfl,?_⟩;rw[(HW)]at k;have a:=bG.mp k.2;show GR ps=some (ps.map intD);clear k h
   induction ps with
   |nil=>rfl
   |cons x ps l=>
    have:=a x Da;cases x with
    |int i=>unfold GR;rw[l fun y I=>by grind];rfl
    |_=>cases this
  lia
 lia
def wj{d:PD}{n:Int}(h:d.canLay0=true):y9 [d,.int n]=some (.bool (Kx n d)):=by
 refine BA rfl ?_;unfold UB;by_cases l:Cw d=true
 case neg=>
  rw[(Sm)]at l;rw[jy l];exact Co (DR ((Lv rfl h).trans (by rw[l];rfl)) rfl)
 obtain⟨ds,rfl⟩:=QR l;refine AO (EU (Lv rfl h) rfl) ((ZM (xs:=C7 ds) (Jd n ds) (fun _ δ=>∃k t:L,δ=[.d (.list ds),.d (.int n),k,t]) rfl ⟨_,_,rfl⟩ fun i x δ hi Y hb=>?_).trans (by rw[show(C7 ds).length=ds.length by simp[C7]];rfl));obtain⟨k,t,rfl⟩:=Y;obtain⟨y,I,rfl⟩:=Ic hi;have cy:=SI h y (aL I);refine⟨_,rfl,?_,_,_,rfl⟩;have o:∀b:Bool,(Ia n y=true->NM (Ap Id FS BY) (Ap Zv (AF Ak (nm 3) BY) (AF Ak (AF Ak CH (AF E3 FS AT)) BY)) [.d (.list ds),.d (.int n),.d (.int (i:Nat)),.d y]=some b)->Ik (DH (CV (AE sY (AA (nm 3) bn)))) _ [.d (.list ds),.d (.int n),.d (.int (i:Nat)),.d y]=some (!Ia n y||b):=fun b hb=>Vb (C8 (C9 (AJ (xs:=[y,.int n]) rfl (yG cy)))) fun e=>hb (by simpa using e);cases i with
 |zero=>
  refine(o false fun _=>(Zd (a:=false) (b:=false) rfl fun e=>nomatch e)).trans ?_;show _=some (!Jd n ds 0);unfold Jd;rw[I];simp
 |succ i=>
  have M:=hb i (bJ _);unfold Jd at M;obtain⟨e,U⟩:∃e,ds[i]? = some e:=⟨_,List.getElem?_eq_getElem (by have:=(aF.mp I).1;lia)⟩;rw[U]at M;simp only[Bool.and_eq_true]at M;obtain⟨T,g,rfl,Z⟩:=ZF M.1;refine(o (!IT.lt (Yr y) (Yr (.tuple [.tuple T,g]))) fun l=>?_).trans ?_
  .obtain⟨ps,f,rfl,hp⟩:=ZF l;refine Zd (a:=true) (Bx (x:=.int (i+1:Nat)) (y:=.int 0) rfl rfl (by show some (PyData.bool (decide ((0:Int)<((i+1:Nat):Int))))=_;rw[decide_eq_true AS])) fun _=>Bx (x:=.tuple ps) (y:=.tuple T) rfl (AQ (x:=.tuple [.tuple T,g]) (y:=.int 0) (AQ (x:=.list ds) (y:=.int (i:Nat)) rfl (by show some (PyData.int (((i+1:Nat):Int)-1))=_;congr 2;lia) (zS U)) rfl rfl) ?_;show(GR ps).bind _=_;rw[hp,(Cp),Z];rfl
  .unfold Jd;rw[I,Nat.add_sub_cancel,U];simp
noncomputable abbrev fM:MD:=FF y9
def yK(h:d.canLay0=true):fM [d]=some (.bool (Ei d)):=by
 refine BA rfl ?_;by_cases I:Cw d=true
 case neg=>
  rw[(Sm)]at I;rw[qY I];exact Co (DR (Oj ((Lv rfl h).trans AS)) rfl)
 obtain⟨ds,rfl⟩:=QR I;exact Su (Ku (Lv rfl h) ((Bx rfl rfl (Hy _ _)).trans By)) fun _=>QP _ rfl fun x M l=>C8 (C9 (AJ rfl (wj (SI h x M))))
def tj(h:d.canLay0=true)(e:Ei d=b):fM [d]=some (.bool b):=(yK h).trans (by rw[e])
def kB(h:d.canLay0=true)(e:Ii d=b):Yo [d]=some (.bool b):=(yJ h).trans (by rw[e])
structure JN(uss:Fc)(many:Nat):Prop where
 len:uss.length<=4
 NO:∀us∈uss,us.length<=12/\∀m∈us,FM.Fits m.2 8/\m.2.den<=6/\m.1.length=many/\(∀p∈m.1,(0:Int)<=p/\p<=3)/\0<=D3 m/\D3 m<=2
def JN.great(h:JN uss many):1<=Cn uss/\Cn uss<=2/\∀us∈uss,∀m∈us,(D3 m).toNat<=Cn uss:=by
 obtain⟨a,b,c⟩:=mB AC fun us l m hm=>((h.NO us l).2 m hm).2.2.2.2.2;unfold Cn
 grind
def JN.Rj(h:JN uss many):1<=CD uss/\(CD uss).natAbs<2^6:=by
 obtain⟨a,b⟩:=nH (bs:=GY uss) fun b hb=>by
  obtain⟨l,M,hb⟩:=List.mem_flatten.mp hb;obtain⟨us,I,rfl⟩:=aI.mp M;obtain⟨m,hm,rfl⟩:=aI.mp hb;have:=m.2.den_nz;have:=((h.NO us I).2 m hm).2.1
  lia
 exact⟨a,by show(Eo _).natAbs<_;lia⟩
section
noncomputable def Km(l:MD):DF :=
 (AL (AZ 1 AT)
 (AL (BM (A5 CH) (C0 2)
  (AZ 1 (AF BL (AF Dx Ca (AE l (AA Ca (AA FS AB)))) FS)))
 (Al Ca)))
noncomputable def Ab(l:MD):MD:=Av ["bottoms"] ["bottoms","common","bottom"] (Km l)
noncomputable def bp(Ab:MD):DF :=
 (Al (AE Ab (AA (CT (CP 1) BX (AF Ak Ca AT) [none,none] (A5 CH)) AB)))
noncomputable def Fz(Ab:MD):MD:=Av ["start"] ["start"] (bp Ab)
noncomputable def Kc(Ab:MD):DF :=
 (AL (Ee 1 AB)
 (AL (BM (A5 CH) (C0 2)
  (TV 1 (CT (BW 1 2) BX (AF Ak FS AT) [none,none,none] (A5 FS))))
 (LC 1 (Al (AE Ab bn)))))
noncomputable def Be(Ab:MD):MD:=Av ["change"] ["change","bottoms","some"] (Kc Ab)
noncomputable def KJ:DF :=
 (AL (AZ 1 AT)
 (AL (BM (A5 CH) (C0 2)
  (BM (A5 FS) (BW 3 4)
   (AZ 1 (AE dI (AA Ca (AA (AE Tp Kb) AB))))))
 (Al Ca)))
noncomputable def BH:MD:=Av ["change"] ["change","greatest","some","powers","part"] KJ
noncomputable def Nt(l:MD):DF :=
 (AL (Ee 4 AB)
 (AL (BM (A5 CH) (BW 5 6)
  (AL (AZ 7 (AF BL (AF BL (AF Ak (nm 6) BY) (AF Dx Ca (AF Ak (nm 6) AT))) (AE l (AA FS (AA (AF E3 (nm 3) (AE Tp (AA (nm 5) AB))) AB)))))
  (Ef 4 (Aa (AA (nm 5) (AA (Aa (AA (nm 7) (AA AT AB))) AB))))))
 (GZ 4)))
noncomputable def Dp(l:MD):MD:=Av ["some","bottom","grain","greatest"] ["some","bottom","grain","greatest","terms","powers","part","top"] (Nt l)
noncomputable def Tc(BH:MD)(Be:MD)(Dp:MD):DF :=
 (AL (AZ 2 (AE Be bm))
 (AL (AZ 3 (AE BH bm))
 (HS (Bn (CP 1) BX (AE Dp (AA Ca (AA FS (AA (nm 3) (AA Ps AB))))) [none,none,some 2,some 1,some 3] (A5 CH)))))
noncomputable def Bq(BH:MD)(Be:MD)(Dp:MD):MD:=Av ["change","grain"] ["change","grain","bottom","greatest"] (Tc BH Be Dp)
noncomputable def fi(BH:MD)(l:MD)(Be:MD):DF :=
 (Al (AF BL (AE Be bm) (AE l (AA Ca (AA (AF E3 (AE BH bm) AT) AB)))))
noncomputable def DV(BH:MD)(l:MD)(Be:MD):MD:=Av ["change","grain"] ["change","grain"] (fi BH l Be)
end
abbrev AM(uss:Fc):PD:=.list (uss.map AG)
def Tz(ds:AAl):AAt:=match ds with
 |[.int b,.int p]=>if b.natAbs<2^20/\0<=p/\p<=10 then some (.int (b^p.toNat)) else none
 |_=>none
noncomputable abbrev Mp:MD:=Ab Wl
def mU{k:Nat}{bs:AAx}(hb:∀b∈bs,1<=b/\b.natAbs<2^k)(hk:k*bs.length<=4000):Mp [.list (bs.map .int)]=some (.int (Eo bs)):=by
 refine BA rfl ?_;unfold Km;refine AO rfl (IA (xs:=bs.map .int) (fun i δ=>∃l:L,δ=[.d (.list (bs.map .int)),.d (.int (Eo (bs.take i))),l]) rfl ⟨_,rfl⟩ ?_ ?_)
 .rintro i x δ U ⟨l,rfl⟩;rw[(BG)]at U;obtain⟨b,I,rfl⟩:=aC.mp U;have hi:i<bs.length:=(aF.mp I).1;obtain⟨b1,b2⟩:=hb b (aL I);obtain⟨c1,Y,_⟩:=Y8 (k:=k) (bs:=bs.take i) fun y Z=>hb y (List.mem_of_mem_take Z);rw[(FL),Nat.min_eq_left AS]at Y;have M:k*SB<=4000:=aQ (aV k hi) hk;rw[Nat.mul_succ]at M;have hg:=FM.Jn (a:=Eo (bs.take i)) (b:=b) AS;have T:=FM.dA (a:=Eo (bs.take i)) (b:=b) AS;refine⟨_,rfl,_,AX (AQ (x:=.int ((Eo (bs.take i)).fdiv (FM.gi (Eo (bs.take i)) b))) (y:=.int b) (AQ (x:=.int (Eo (bs.take i))) (y:=.int (FM.gi (Eo (bs.take i)) b)) rfl rfl ?_) rfl (Xd (n:=4001) ?_ ?_ AC)),.d (.int b),?_⟩
  .refine if_pos ⟨by lia,LP (aP T (aD b2 (aM AC AS)))⟩
  .exact aP (ME c1 b1).2.2.2 (aD Y (aM AC AS))
  .exact aD b2 (aM AC AS)
  .rw[(Iu),I,show(some b).toList=[b] from rfl,gb];rfl
 .rintro δ ⟨l,rfl⟩;rw[Pi,(Fv)];rfl
noncomputable abbrev ni:MD:=Fz Mp
noncomputable abbrev vH:MD:=Be Mp
noncomputable abbrev Xn:MD:=Bq BH vH (Dp Tz)
noncomputable abbrev V5:MD:=DV BH Tz vH
def vZ(rs:ABB):Prop:=rs.length<=3/\∀r∈rs,FM.Fits r 3
def xW(h:vZ rs):ni [.list (AH rs)]=some (.int (Ar rs)):=by
 refine BA rfl (CS (AJ (AK ?_ rfl) (mU (p7 h.2) (by rw[Pi];have:=h.1;lia))));show(Bn _ _ _ _ _ _).map _=_;rw[Kf rfl (by have:=h.1;unfold A6;lia) fun r l=>rfl];rw[(Bb)];rfl
def lB(a:List (List AY)×Int):Prop:=(∃many,JN a.1 many)/\a.2.natAbs<2^6
section
variable{uss:Fc}{many:Nat}(o:JN uss many)
include o
theorem nv:vH [AM uss]=some (.int (CD uss)):=by
 refine BA rfl ?_;unfold Kc;have hd:∀i,(GY (uss.take i)).length<=12*i:=fun i=>by
  have:=kN (uss:=uss.take i) fun us I=>(o.NO us (List.mem_of_mem_take I)).1;rw[(FL)]at this;exact aQ this (aV _ (Nat.min_le_left _ _))
 refine AO rfl (IA (xs:=uss.map AG) (fun i δ=>∃l:L,δ=[.d XN,.own (.lst ((GY (uss.take i)).map .int)),l]) rfl ⟨_,rfl⟩ ?_ ?_)
 .rintro i x δ M ⟨l,rfl⟩;rw[(BG)]at M;obtain⟨us,I,rfl⟩:=aC.mp M;have hi:i<uss.length:=(aF.mp I).1;have U:=(o.NO us (aL I)).1;refine⟨_,rfl,_,f7 (zs:=(Oh us).map .int) ?_ rfl ?_,.d (AG us),?_⟩
  .show(Bn _ _ _ _ _ _).map _=_;rw[HB (zs:=us) (a:=fun m=>.tuple (m.1.map .int)) (b:=fun m=>An m.2) (g:=fun m=>.int (m.2.den:Int)) rfl (by unfold A6;lia) fun m hm=>rfl];unfold Oh;rw[(Bb)];rfl
  .have:=hd i;have:=o.len;unfold Oh A6;rw[Pi,Pi,Pi];lia
  .rw[gj I,(DJ)];rfl
 .rintro δ ⟨l,rfl⟩;rw[Pi,(Fv)];have hb:=lS (n:=8) (uss:=uss) fun us I=>⟨(o.NO us I).1,fun m hm=>((o.NO us I).2 m hm).1⟩;exact CS (AJ (xs:=[.list ((GY uss).map .int)]) rfl (mU (k:=8) hb (by have:=hd uss.length;rw[(Fv)]at this;have:=o.len;lia)))
omit o in
theorem nG:BH [AM uss]=some (.int (E9 uss)):=by
 have U:∀l:List Int,GR (l.map .int)=some l:=fun l=>by
  induction l with
  |nil=>rfl
  |cons x l ih=>rw[(BR)];unfold GR;rw[ih];rfl
 refine BA rfl ?_;unfold KJ;refine AO rfl (IA (xs:=uss.map AG) (fun i δ=>∃T M I:L,δ=[.d XN,.d (.int ((uss.take i).foldl Fj 1)),T,M,I]) rfl ⟨_,_,_,rfl⟩ ?_ ?_)
 .rintro i x δ Z ⟨T,M,I,rfl⟩;rw[(BG)]at Z;obtain⟨us,hu,rfl⟩:=aC.mp Z;refine⟨_,rfl,?_⟩;refine F7 (xs:=us.map A9) (fun j δ=>∃M I:L,δ=[.d XN,.d (.int (Fj ((uss.take i).foldl Fj 1) (us.take j))),.d (AG us),M,I]) rfl ⟨_,_,rfl⟩ ?_ fun δ ⟨M,I,e⟩=>⟨.d (AG us),M,I,?_⟩
  .rintro j y δ Y ⟨M,I,rfl⟩;rw[(BG)]at Y;obtain⟨m,hm,rfl⟩:=aC.mp Y;refine⟨_,rfl,_,AX (AJ (xs:=[.int (Fj ((uss.take i).foldl Fj 1) (us.take j)),.int (D3 m)]) (AK rfl (AK (AJ (xs:=[.tuple (m.1.map .int)]) rfl (by show(GR _).map _=_;rw[U];rfl)) rfl)) rfl),.d (.tuple (m.1.map .int)),.d (An m.2),?_⟩;rw[(Iu),hm,show Fj ((uss.take i).foldl Fj 1) (us.take j++(some m).toList)=_ from List.foldl_append];rfl
  .rw[e,Pi,(Fv),(Iu),hu,List.foldl_append];rfl
 .rintro δ ⟨T,M,I,rfl⟩;rw[Pi,(Fv)];rfl
theorem xB{us:List AY}{G:Int}(hu:us∈uss)(hG:G.natAbs<2^6):Dp Tz [AG us,.int (CD uss),.int G,.int (E9 uss)]=some (AG (Lj (CD uss) G (Cn uss) us)):=by
 obtain⟨l12,ht⟩:=o.NO us hu;obtain⟨s1,s2⟩:=o.Rj;obtain⟨g1,g2,g3⟩:=o.great;have ge:E9 uss=(Cn uss:Nat):=by unfold Cn at *;lia
 refine ED rfl ?_;unfold Nt;refine AO rfl (IA (xs:=us.map A9) (fun i δ=>∃U T M:L,δ=[.d (AG us),.d (.int (CD uss)),.d (.int G),.d (.int (E9 uss)),.own (.lst ((Lj (CD uss) G (Cn uss) (us.take i)).map A9)),U,T,M]) rfl ⟨_,_,_,rfl⟩ ?_ ?_)
 .rintro i x δ hx ⟨U,T,M,rfl⟩;rw[(BG)]at hx;obtain⟨m,hm,rfl⟩:=aC.mp hx;have hi:i<us.length:=(aF.mp hm).1;have I:=aL hm;obtain⟨Z,m2,m3,m4,m5,m6⟩:=ht m I;have gm:=g3 us hu m I;have hd:=m.2.den_nz;have e1:(CD uss).fdiv (m.2.den:Int)=CD uss / (m.2.den:Int):=Int.fdiv_eq_ediv_of_nonneg _ AS;have Y:GR (m.1.map .int)=some m.1:=by
   generalize m.1=l
   induction l with
   |nil=>rfl
   |cons x l ih=>rw[(BR)];unfold GR;rw[ih];rfl
  have k1:((CD uss).fdiv (m.2.den:Int)).natAbs<2^6:=aP (FM.DD _ _) s2;have k2:=FM.Bj Z.1 k1;have hp:E9 uss-D3 m=((Cn uss-(D3 m).toNat:Nat):Int):=by lia
  refine⟨_,rfl,_,AO (AX (AQ (x:=.int (m.2.num*(CD uss).fdiv (m.2.den:Int))) (y:=.int (G^(Cn uss-(D3 m).toNat))) (AQ (x:=.int m.2.num) (y:=.int ((CD uss).fdiv (m.2.den:Int))) rfl (AQ (x:=.int (CD uss)) (y:=.int (m.2.den:Int)) rfl rfl (by rw[e1];exact div_is AS (aP (show((m.2.den:Nat):Int).natAbs<=6 by lia) AC))) (Mf (aD Z.1 AC))) (AJ (xs:=[.int G,.int (E9 uss-D3 m)]) (AK rfl (AK (AQ (x:=.int (E9 uss)) (y:=.int (D3 m)) rfl (AJ (xs:=[.tuple (m.1.map .int)]) rfl (by show(GR _).map _=_;rw[Y];rfl)) rfl) rfl)) (by rw[hp];exact(if_pos ⟨aD hG AC,by lia,by lia⟩).trans (by rw[Int.toNat_natCast]))) (Mf (aD k2 AC)))) (Hk (y:=A9 (eO (CD uss) G (Cn uss) m)) ?_ rfl ?_),.d (.tuple (m.1.map .int)),.d (An m.2),.d (.int (m.2.num*(CD uss).fdiv (m.2.den:Int)*G^(Cn uss-(D3 m).toNat))),?_⟩
  .refine Di (xs:=[.tuple (m.1.map .int),.tuple [.int (m.2.num*(CD uss).fdiv (m.2.den:Int)*G^(Cn uss-(D3 m).toNat)),.int 1]]) (AK rfl (AK (Di (AK rfl (AK rfl rfl)) (show 2<=1000 by decide)) rfl)) (show 2<=1000 by decide)
  .unfold Lj A6;rw[Pi,Pi,(FL)];lia
  .rw[(Iu),hm];unfold Lj;rw[(DJ),(DJ)];rfl
 .rintro δ ⟨U,T,M,rfl⟩;rw[Pi,(Fv)];rfl
end
def nM(h:lB (uss,G)):Xn [AM uss,.int G]=some (AM (Cy G uss)):=by
 obtain⟨⟨many,(o:JN uss many)⟩,(I:G.natAbs<2^6)⟩:=h;refine ED rfl (AO (AX (AJ rfl (nv o))) (AO (AX (AJ rfl nG)) ?_));show(Bn _ _ _ _ _ _).map _=_;rw[Kf rfl (by have:=o.len;unfold A6;lia) fun us l=>AJ rfl (xB o l I)];unfold Cy;rw[(Bb)];rfl
def nO(h:lB (uss,G)):V5 [AM uss,.int G]=some (.int (B1 uss G)):=by
 obtain⟨⟨many,(o:JN uss many)⟩,(l:G.natAbs<2^6)⟩:=h;obtain⟨s1,s2⟩:=o.Rj;obtain⟨T,M,I⟩:=o.great;refine BA rfl (CS (AQ (AJ rfl (nv o)) (AJ (AK rfl (AK (AQ (AJ rfl nG) rfl rfl) rfl)) ?_) (Mf (aD s2 AC))));rw[(show E9 uss-1=((Cn uss-1:Nat)) by unfold Cn at *;lia)];exact(if_pos ⟨aD l AC,by lia,by lia⟩).trans Iq
def dM(a:List (List AY)×Tr×(Tr->List PD)):Prop:=nW Bl (PM 3) (a.1.map AG) (fun t=>.list (a.2.2 t)) a.2.2/\a.2.1∈Bl/\∃V:List (List AY),a.2.2 a.2.1=V.map AG/\V.length=a.1.length/\∀us∈V,PB a.1.length 5 4000 56 us
def x5(Dm:ABD)(B:Tr->PD)(Γ:Hp)(d:AD)(o:HO):Prop:=∃r:List KR,o=dN d r/\(r.map Hq).Nodup/\∀q∈r,∃t:Tr,q.1=some t/\t∈Dm/\Tv Γ t q.2.1/\Du Γ (B t) q.2.2
def EC(Dm:ABD)(B:Tr->PD):D8:=⟨x5 Dm B,fun {_ _ _ _} e h=>let⟨r,T,M,I⟩:=h;⟨r,T,M,fun q l=>let⟨t,a,b,c,x⟩:=I q l;⟨t,a,b,c.same e,x.same e⟩⟩,fun {_ _ _} h=>let⟨_,h,_⟩:=h;fg h.symm⟩
def de G a:(EC Dm B).ok G a (dN a []):=⟨[],rfl,List.nodup_nil,fun q l=>nomatch l⟩
open Classical in
noncomputable def Sr{α:Type}(hand:α->List PD)(gh:α->D8)(ok:α->Prop)(tell:α->PD)(ds:AAl)(g:D8):AAt:=if h:∃b,ds=hand b/\g=gh b/\ok b then some (tell (choose h)) else none
def Xz(h:ok a):∃b,hand a=hand b/\gh a=gh b/\ok b/\Sr hand gh ok tell (hand a) (gh a)=some (tell b):=by
 have e:∃b,hand a=hand b/\gh a=gh b/\ok b:=⟨a,rfl,rfl,h⟩;unfold Sr
 grind
noncomputable abbrev Mk:List PD->D8->Option PD:=Sr (fun a:List (List AY)×Tr×(Tr->List PD)=>[AM a.1,tD a.2.1]) (fun a=>EC Bl fun t=>.list (a.2.2 t)) dM fun a=>.list (a.2.2 a.2.1)
def b7(a:List (List AY)×Tr×AAx×(Tr->List PD)×(Tr->List PD)):Prop:=mY Bl gn UD (a.1.map AG) (.list (AH (CL a.2.2.1))) a.2.2.2.1 a.2.2.2.2/\a.2.1∈Bl/\∃rs ,a.2.2.2.2 a.2.1=AH rs
noncomputable abbrev O2:List PD->D8->Option PD:=Sr (fun a:List (List AY)×Tr×List Int×(Tr->List PD)×(Tr->List PD)=>[AM a.1,tD a.2.1,.list (AH (CL a.2.2.1))]) (fun a=>EC Bl (pD a.2.2.2.1)) b7 fun a=>.list (a.2.2.2.2 a.2.1)
def yk(h:t∈Bl):FO (tD t)=some t/\t.deep<3:=by
 rcases MH h with rfl|rfl|rfl|rfl|rfl<;>exact⟨by rfl,by decide⟩
section
variable{P:F0b}{w:F0c}{K:Fg}{mg:AAs}{base:Heap}{CX:Jr}{k:Nat}{f:AD}{fd:F0a}{ps:AAy}
def AAI(F:∀a,dM a->Af P w K mg base CX k f fd ps (fN Bl (fun t=>.list (a.2.2 t)) (a.1.map AG) 3)):Af P w K mg base CX k f fd ps (Ug Mk) :=
 (Zg (ι:={a // dM a}) fun i=>F i.1 i.2).imp fun vs H Q E ⟨ds,x,G,d,us,g,o,hv,hm,du,e,hd,hg,hG,M⟩=>by
  unfold Mk Sr at hm;split at hm
  .rename_i T;cases hm;have c:=bE T;generalize Classical.choose T=a at c M;refine⟨⟨a,c.2.2⟩,?_⟩;rw[c.1]at du;rw[c.2.1]at hg M;obtain⟨r,rfl,nd,al⟩:=hg;obtain⟨Y,U,rfl,d1,d2⟩:=du.Jv;obtain⟨t1,t2⟩:=yk c.2.2.2.1;exact⟨Y,U,a.2.1,d,r,G,hv,d1,Vi t1 d2,c.2.2.2.1,t2,⟨hd,nd,al,hG,e⟩,fun I H' r' Z s n b l dv=>M Z I H' _ s n l.sm (fun q u z=>by
    by_cases k:q=d
    .subst k;rw[Gu]at z;cases z
    .rw[Cg k]at z;exact b _ _ k z) l.at_ ⟨r',rfl,l.nd,l.all⟩ l.out dv⟩
  .cases hm
def AAY(F:∀a,b7 a->Af P w K mg base CX k f fd ps (rg Bl a.2.2.2.1 a.2.2.2.2 (a.1.map AG) (.list (AH (CL a.2.2.1))) 3)):Af P w K mg base CX k f fd ps (Ug O2) :=
 (Zg (ι:={a // b7 a}) fun i=>F i.1 i.2).imp fun vs H Q E ⟨ds,x,G,d,us,g,o,hv,hm,du,e,hd,hg,hG,M⟩=>by
  unfold O2 Sr at hm;split at hm
  .rename_i T;cases hm;have c:=bE T;generalize Classical.choose T=a at c M;refine⟨⟨a,c.2.2⟩,?_⟩;rw[c.1]at du;rw[c.2.1]at hg M;obtain⟨r,rfl,nd,al⟩:=hg;obtain⟨Z,r1,rfl,d1,du⟩:=du.un;obtain⟨Y,U,rfl,d2,d3⟩:=du.Jv;obtain⟨t1,t2⟩:=yk c.2.2.2.1;exact⟨Z,Y,U,a.2.1,d,r,G,hv,d1,Vi t1 d2,d3,c.2.2.2.1,t2,⟨hd,nd,al,hG,e⟩,fun I H' r' v' s n b l dv=>M v' I H' _ s n l.sm (fun q u z=>by
    by_cases k:q=d
    .subst k;rw[Gu]at z;cases z
    .rw[Cg k]at z;exact b _ _ k z) l.at_ ⟨r',rfl,l.nd,l.all⟩ l.out dv⟩
  .cases hm
def zb(F:Af P w K mg base CX k f fd ps bw):Af P w K mg base CX k f fd ps (Aw Tz) :=
 S8 F fun ds x hm G H vs Q E d e l=>by
  unfold Tz at hm;split at hm
  .split at hm
   .rename_i I;cases hm;obtain⟨Y,U,rfl,T,M⟩:=d.Jv;subst T M;rename_i b p;refine⟨b,p.toNat,20,?_,I.1,by lia,l _ G H (.refl _) Nw.refl e (.refl _) Iq⟩
    grind
   lia
  lia
end
def Rh{α:Type}{zs:List α}{a g}(l:fs δ=some (zs.map a))(M:zs.length<=A6)(h:∀z∈zs,f ((BK fr δ).set ix (.d (a z)))=some (g z)):Bn (CP ix) BX f fr fs δ=some (zs.map g):=by
 rw[iD (g:=fun x=>(f ((BK fr δ).set ix _)).getD .none) l GM fun x l=>?_,(Bb)]
 .exact ae some (ai fun z I=>by show(f _).getD _=_;rw[h z I];rfl)
 grind
structure Gd(uss:Fc)(rs:List Rat)(n:Nat):Prop where
 chg:JN uss n
 n1:1<=n
 n3:n<=3
 ul:uss.length=n
 rl:rs.length=n
 rf:∀r∈rs,FM.Fits r 3/\r.den<=6
 good:Ei XN=true
def zC{G:Int}(h:G.natAbs<2^a)(ha:1<=a):∀ {p},p<=b->(G^p).natAbs<2^(a*b+1):=fun {p} l=>by
 rw[Int.natAbs_pow];refine aP (Nat.pow_le_pow_left (ay h) p) ?_;rw[<-Nat.pow_mul];exact Nat.pow_lt_pow_right AC (Nat.lt_succ_of_le (aV a l))
section
variable{uss:Fc}{rs:ABB}{n:Nat}(g:Gd uss rs n)
include g
theorem Gd.whole(Z:G.natAbs<2^6):(Cy G uss).length=n/\∀us∈Cy G uss,PB n 2 27 12 us:=by
 obtain⟨b1,b2⟩:=g.chg.Rj;obtain⟨g1,g2,g3⟩:=g.chg.great;refine⟨by unfold Cy;rw[Pi];exact g.ul,fun us T=>?_⟩;obtain⟨vs,M,rfl⟩:=aI.mp T;obtain⟨l,U⟩:=g.chg.NO vs M;refine⟨fun m hm=>?_,by unfold Lj;rw[Pi];exact l⟩;obtain⟨m,I,rfl⟩:=aI.mp hm;obtain⟨c1,c2,c3,c4,c5,c6⟩:=U m I;refine⟨⟨c3,fun p Y=>(c4 p Y).1,?_⟩,Rat.den_intCast _,?_⟩
 .exact c6
 .exact FM.HD (FM.Bj (FM.Bj c1.1 (aP (FM.DD _ _) b2)) (show(G^(Cn uss-(D3 m).toNat)).natAbs<2^(6*2+1) from zC Z AC AS)) AC
theorem Gd.sy(I:1<=G)(l:G.natAbs<2^6):1<=B1 uss G/\(B1 uss G).natAbs<2^13:=by
 obtain⟨b1,b2⟩:=g.chg.Rj;obtain⟨U,T,M⟩:=g.chg.great;refine⟨?_,?_⟩
 .exact(bS AS (Int.pow_pos AS))
 .exact FM.Bj b2 (zC (b:=1) l AC AS)
theorem Gd.yS:1<=Ar rs/\(Ar rs).natAbs<2^6:=by
 obtain⟨a,b⟩:=nH (bs:=rs.map fun r=>r.den) fun b hb=>by
  obtain⟨r,l,rfl⟩:=aI.mp hb;have:=r.den_nz;have:=(g.rf r l).2
  lia
 exact⟨a,by show(Eo _).natAbs<_;lia⟩
theorem Gd.wc(l:G.natAbs<2^6):lB (uss,G):=⟨⟨n,g.chg⟩,l⟩
end
def Hv(rs:ABB)(G:Int):AAx:=rs.map fun r=>r.num*(G / r.den)
section
variable{uss:Fc}{rs:ABB}{n:Nat}(g:Gd uss rs n)
include g
theorem Gd.AAK G:Ag [.list (AH rs),.int G]=some (.list ((Hv rs G).map .int)):=by
 refine ED rfl ?_;have:=Rh (ix:=1) (δ:=[.d (.list _),.d (.int G)]) (fs:=A5 CH) (fr:=[none,none,some 1]) (f:=(AF BL (AF Ak Ca BY) (AF Dx FS (AF Ak Ca AT)))) (a:=An) (g:=fun r=>.int (r.num*(G / r.den))) rfl (by have:=g.rl;have:=g.n3;show rs.length<=1000;lia) (fun r l=>?_)
 .exact(ae _ this).trans (by unfold Hv;rw[(Bb)];rfl)
 .obtain⟨f1,f2⟩:=g.rf r l;have hd:=r.den_nz;exact AQ rfl (AQ rfl rfl (div_is AS (aP (show(_:Int).natAbs<=6 by lia) AC))) (Mf (aD f1.1 AC))
theorem Gd.start G:CM Ag [.list (AH rs),.int G]=some (.list (AH (CL (Hv rs G)))):=by
 refine ED rfl ?_;have:=Rh (ix:=1) (δ:=[.d LF,.d (.int G)]) (fs:=A5 (AE Ag (AA CH bn))) (fr:=[none,none]) (f:=(Aa (AA Ca (AA AT AB)))) (zs:=Hv rs G) (a:=.int) (g:=fun t=>An t) ?_ (by have:=g.rl;have:=g.n3;unfold Hv;rw[Pi];show rs.length<=1000;lia) (fun t M=>?_)
 .exact(ae _ this).trans (by unfold CL AH;rw[(Bb)];rfl)
 .show(AE Ag _ _).bind _=_;rw[AJ rfl (g.AAK G)];rfl
 rfl
theorem Gd.tsb(T:1<=G)(M:G.natAbs<2^6):∀t∈Hv rs G,t.natAbs<2^9:=fun t l=>by
 obtain⟨r,I,rfl⟩:=aI.mp l;obtain⟨f1,f2⟩:=g.rf r I;exact FM.Bj f1.1 (show(G / _).natAbs<2^6 by
  have a:=Int.ediv_nonneg (show 0<=G by lia) (show 0<=(r.den:Int) by lia);have b:=Int.ediv_le_self r.den (show 0<=G by lia)
  lia)
end
def jA(s:PD)(n:Nat):Bool:=match s with
 |.list ss=>decide (ss.length=n)
 |_=>false
def De(s:PD)(n:Nat):Bool:=Ii s&&jA s n
def NY(l:c.canLay0=true)(h:Ei c=true):A2 fM C [c]=some (.inl .none):=by
 refine Y7 (δ:=[.d c]) rfl ?_;unfold FZ;exact mi (C8 (C9 (AJ rfl (tj l h)))) rfl
def ik(l:c.canLay0=true)(h:Ei c=false):A2 fM C [c]=some (.inr C):=by
 refine Gv rfl ?_;unfold FZ;exact Z4 (C8 (C9 (AJ rfl (tj l h)))) rfl
def nL:CC C []=some (.inr C):=by
 rfl
def eV(I:s.canLay0=true)(h:De s n=true):Bt Yo (CC C) [s,.int n]=some (.inl .none):=by
 unfold De at h;rw[(HW)]at h;obtain⟨M,l⟩:=h;unfold jA at l;split at l
 .rename_i ss;refine Y7 (δ:=[.d (.list ss),.d (.int n)]) rfl ?_;unfold Ed;refine(mi (Ku (C8 (C9 (AJ rfl (kB I M)))) (Bx rfl rfl ?_)) rfl);rw[Ol,(ah l)];simp
 lia
def uq(I:s.canLay0=true)(h:De s n=false):Bt Yo (CC C) [s,.int n]=some (.inr C):=by
 unfold De at h;cases l:Ii s with
 |false=>
  refine Gv rfl ?_;unfold Ed;exact(Z4 (Oj (C8 (C9 (AJ rfl (kB I l))))) (Gn rfl nL))
 |true=>
  rw[l]at h;cases s with
  |list ss=>
   have M:=bL h;refine Gv rfl ?_;unfold Ed;refine(Z4 (Ku (C8 (C9 (AJ rfl (kB I l)))) (Bx rfl rfl ?_)) (Gn rfl nL));rw[Ol,decide_eq_false AS];rfl
  |none=>rfl
  |bool _=>rfl
  |int _=>rfl
  |str _=>rfl
  |tuple _=>rfl
  |dict _=>simp[Ii]at l
def eR{ds:AAl}(h:e∈ds)(k:q e=false):ds.all q=false:=by grind
def cz(h:e∈ds)(k:HR e=false):De (.list ds) n=false:=by
 unfold De;rw[show Ii (.list ds)=false from eR h k,Bool.false_and]
def gN(h:ds.length≠n):De (.list ds) n=false:=by
 unfold De;rw[show jA (.list ds) n=false from decide_eq_false h,Bool.and_false]
def vi(h:e∈ds)(k:Kx ds.length e=false):Ei (.list ds)=false:=by
 rw[Ei,eR h k,Bool.and_false]
noncomputable abbrev ZN:List PD->Option Xr:=A2 fM 61
noncomputable abbrev mRT:List PD->Option Xr:=Cq (DY 4) 49
noncomputable abbrev sr:List PD->Option Xr:=Bt Yo (CC 73)
noncomputable abbrev ND:List PD->Option Xr:=Az (CA Yo 85)
noncomputable abbrev mLg:MD:=BP Ao 4
noncomputable abbrev Kk:List PD->Option Xr:=Bv mLg 97
noncomputable abbrev mTt:List PD->Option Xr:=F4 Kk 97
noncomputable abbrev rY:MD:=CI Mp FR
noncomputable abbrev xi:MD:=FG mRT (B9 Ao 4)
noncomputable abbrev mLm:MD:=EI rY (Bo 4) Ep xi
noncomputable abbrev mLw:MD:=Dh rY C3
noncomputable abbrev fU:List PD->Option Xr:=CF (FE FR) mLm mLw mTt ND
noncomputable abbrev RH:MD:=CY (Bp 4)
noncomputable abbrev Tw:MD:=Df RH
abbrev pr(a b:Int):PD:=.tuple [.int a,.int b]
abbrev B0:PD:=.list [pr 1 2,pr 1 2,pr 1 2,pr 1 2]
abbrev NL:List Tr:=[T0]
abbrev Nq:List Tr:=[T1]
abbrev OD:List Tr:=[T2,ZY]
def uK:ND [B0]=some (.inl (.int 3)):=by kernel_rfl
def zt:ND [.list [pr 0 1,pr 0 1,pr 0 1]]=some (.inr 85):=by rfl
def sR:Kk [.int 1]=some (.inl (.list (NL.map tD))):=by rfl
def u0:Kk [.int 2]=some (.inl (.list (Nq.map tD))):=by rfl
def vz:Kk [.int 3]=some (.inl (.list (OD.map tD))):=by rfl
def zx:RH [.list (NL.map tD),B0]=some (.list [pr 1 2]):=by rfl
def zY:RH [.list (Nq.map tD),.list [pr 1 2,pr 1 2,pr 1 2]]=some (.list [pr 1 2]):=by rfl
def AAb:RH [.list (OD.map tD),.list [pr 1 2,pr 1 2]]=some (.list [pr 1 4,pr 1 2]):=by rfl
def z0:fU [B0]=some (.inl (.list [pr 1 2,pr 3 8,pr 13 48,pr 7 24])):=by kernel_rfl
def AAL:fU [.list [pr 0 1,pr 0 1,pr 0 1]]=some (.inr 85):=by rfl
abbrev yj:List (Tr×Int×Int):=[(T0,1,2)]
abbrev yq:List (Tr×Int×Int):=[(T1,3,8)]
abbrev yu:List (Tr×Int×Int):=[(T2,13,96),(ZY,7,24)]
abbrev O1(l:List (Tr×Int×Int)):PD:=.list (l.map fun q=>.tuple [tD q.1,pr q.2.1 q.2.2])
def zT:Tw [.list (NL.map tD),.list [pr 1 2,pr 3 8,pr 13 48,pr 7 24]]=some (O1 yj):=by rfl
def zU:Tw [.list (Nq.map tD),.list [pr 3 8,pr 13 48,pr 7 24]]=some (O1 yq):=by rfl
def zM:Tw [.list (OD.map tD),.list [pr 13 48,pr 7 24]]=some (O1 yu):=by rfl
theorem MP{P:PD->Prop}:∀ {xs},(∀x∈xs,∃y,one x=some (some y)/\P y)->∃ys,L2.collect one xs=some ys/\ys.length=xs.length/\∀y∈ys,P y
 |[],_=>⟨[],rfl,rfl,fun _ h=>nomatch h⟩
 |x::xs,h=>by
  obtain⟨y,M,Y⟩:=h x Da;obtain⟨ys,I,U,T⟩:=MP fun z l=>h z (.tail _ l);refine⟨y::ys,by rw[L2.collect,M,I];rfl,by grind,fun z l=>?_⟩
  grind
def WZ{set}(h:set x δ=some l)(k:f l=some y):Hz set BX f δ x=some (some y):=by
 show(set x δ).bind _=_
 grind
def UU{set}{P:PD->Prop}(I:fs δ=some xs)(Y:xs.length<=A6)(h:∀x∈xs,∃l y,set x (BK fr δ)=some l/\f l=some y/\P y):∃ys,Bn set BX f fr fs δ=some ys/\ys.length=xs.length/\∀y∈ys,P y:=by
 obtain⟨ys,a,b,c⟩:=MP fun x I=>let⟨_,y,U,T,M⟩:=h x I;⟨y,WZ U T,M⟩;exact⟨ys,by unfold Bn;rw[I,(Cp),a,(Cp),BI,if_pos AS],b,c⟩
def Ib{set}{P:PD->Prop}(I:fs δ=some xs)(M:xs.length<=A6)(h:∀x∈xs,∃l y,set x (BK fr δ)=some l/\f l=some y/\P y):∃ys,CT set BX f fr fs δ=some (.list ys)/\ys.length=xs.length/\∀y∈ys,P y:=let⟨ys,a,b,c⟩:=UU I M h;⟨ys,by grind,b,c⟩
def jg{set}{P:PD->Prop}(I:fs δ=some xs)(Z:xs.length<=A6)(M:WI jo δ=some c)(h:∀x∈xs,∃l y,set x ((BK fr δ).set jj (.own c))=some l/\f l=some y/\P y):∃ys,Hc jj jo set BX f fr fs δ=some (.list ys)/\ys.length=xs.length/\∀y∈ys,P y:=let⟨ys,a,b,k⟩:=MP fun x I=>let⟨_,y,Y,U,T⟩:=h x I;⟨y,WZ Y U,T⟩;⟨ys,by unfold Hc NF;rw[I,(Cp),M,(Cp),a,(Cp),BI,if_pos AS];rfl,b,k⟩
def OQ(h:d∈Gr xs ys):∃x y,x∈xs/\y∈ys/\d=.tuple [x,y]:=by
 obtain⟨i,hi⟩:=bW.mp h;obtain⟨x,y,I,l,e⟩:=QQ hi
 grind
def OX(h:xs.length=ys.length):(Gr xs ys).length=xs.length:=by
 unfold Gr
 grind
def uN(d:PD):Prop:=∃i:Int,d=.int i
def isWs(n:Nat)(d:PD):Prop:=∃rs:List Rat,d=.list (AH rs)/\rs.length=n
noncomputable abbrev iA:MD:=EH Mp FR Ag
def yR{sh:List (Int×Int)}{c b:Int}{tp:AAx}{U:AAl}{n:Nat}(hcb:Mp [.list (sh.map fun p=>.int p.2)]=some (.int c))(hto:Ag [.list Of,.int c]=some Uf)(ht:∀t∈tp,t.natAbs<2^64)(hc:c≠0)(Y:c.natAbs<2^64)(I:sh.length<=100)(hlt:tp.length<=100) (hn:n<=3)(hw:∀w∈U,isWs n w)(h1:1<=U.length)(hb:b≠0)(hb2:b.natAbs<2^150):∃zs:AAl,iA [.list Of,.list U,.int b]=some (.list zs)/\zs.length=n:=by
 obtain⟨w0,wr,rfl⟩:∃w r,U=w::r:=match U,h1 with|w::r,_=>⟨w,r,rfl⟩
 obtain⟨l,rfl,hr0⟩:=hw w0 Da;have main:∃zs:List PD,Ir Mp FR Ag [.d (.list Of),.d (.list (.list (AH l)::wr)),.d (.int b),.no,.no,.no,.no]=some (.rn zs)/\zs.length=n:=by
  unfold Ir;refine Uj (AX (y:=.int c) (AJ (xs:=[.list (sh.map fun p=>.int p.2)]) (AK ?_ rfl) hcb)) ?_
  .show(Bn _ _ _ _ _ _).map _=_;rw[Kf (zs:=sh) (a:=fun p=>pr p.1 p.2) (g:=fun p=>.int p.2) rfl (by unfold A6;lia) (fun _ _=>rfl)];rfl
  refine Uj (AX (y:=.list ((List.replicate n (0:Int)).map .int)) (AQ (x:=.list [.int 0]) (y:=.int (n:Nat)) rfl (AJ (xs:=[.list (AH l)]) (AK (AQ (x:=.list (.list (AH l)::wr)) (y:=.int ((0:Nat):Int)) rfl rfl (FH rfl)) rfl) ?_) ?_)) ?_
  .show some (PyData.int ((AH l).length:Nat))=_;rw[show(AH l).length=n by unfold AH;rw[Pi];exact hr0]
  .rw[<-i9];show WV (.list [.int 0]) (.int (n:Nat))=_;refine(if_pos ⟨?_,by lia,by lia⟩).trans (by rw[Int.toNat_natCast]);rw[Int.toNat_natCast];show 1*n<=1000
   lia
  refine tJ (R:=fun δ'=>∃(ts:List PD) (T M:L),δ'=[.d (.list Of),.d (.list (.list (AH l)::wr)),.d (.int b),.d (.int c),.d (.list ts),T,M]/\ts.length=n/\∀t∈ts,uN t) ?_ ?_
  .refine F7 (xs:=Gr (tp.map .int) (.list (AH l)::wr)) (fun _ δ=>∃(ts:List PD) (T M:L),δ=[.d (.list Of),.d (.list (.list (AH l)::wr)),.d (.int b),.d (.int c),.d (.list ts),T,M]/\ts.length=n/\∀t∈ts,uN t) ?_ ?_ ?_ ?_
   .show(AA _ _ _).bind zip2=_;rw[AK (x:=.list (tp.map .int)) (AJ (xs:=[.list Of,.int c]) rfl hto) (AK (x:=.list (.list (AH l)::wr)) rfl rfl)]
    rfl
   .exact⟨_,_,_,rfl,by simp,fun t h=>by obtain⟨i,_,rfl⟩:=aI.mp h;exact⟨i,rfl⟩⟩
   .rintro i x δ hx ⟨ts,T,M,rfl,I,hI⟩;obtain⟨x1,x2,m1,m2,rfl⟩:=OQ (aL hx);obtain⟨t,mt,rfl⟩:=aI.mp m1;obtain⟨rs,rfl,hrs⟩:=hw x2 m2;refine⟨[.d (.list Of),.d (.list (.list (AH l)::wr)),.d (.int b),.d (.int c),.d (.list ts),.d (.int t),.d LF],rfl,?_⟩;have Z:ts.length=(AH rs).length:=by unfold AH;rw[Pi,I,hrs]
    obtain⟨ys,y1,y2,y3⟩:=Ib (set:=BW 1 2) (f:=AF Aq Ca (AF BL (nm 3) (AF Ak FS BY))) (fs:=BJ zip2 (AA Ps (AA (nm 6) AB))) (fr:=[none,none,none,some 5]) (δ:=[.d (.list Of),.d (.list (.list (AH l)::wr)),.d (.int b),.d (.int c),.d (.list ts),.d (.int t),.d LF]) (P:=uN) (xs:=Gr ts (AH rs)) rfl (by rw[OX Z,I];unfold A6;lia) (fun d hd=>by
     obtain⟨u,v,mu,mv,rfl⟩:=OQ hd;obtain⟨j,rfl⟩:=hI u mu;unfold AH at mv;obtain⟨r,_,rfl⟩:=aI.mp mv;exact⟨_,.int (j+t*r.num),rfl,AQ (x:=.int j) (y:=.int (t*r.num)) rfl (AQ (x:=.int t) (y:=.int r.num) rfl rfl (Mf (ht t mt))) rfl,_,rfl⟩)
    exact⟨_,AX y1,ys,_,_,rfl,by rw[y2,OX Z,I],y3⟩
   .exact fun δ h=>h
  .rintro δ' ⟨ts,T,M,rfl,I,hI⟩;obtain⟨ys,y1,y2,_⟩:=UU (set:=CP 1) (f:=AE FR (AA Ca (AA (AF BL FS (nm 3)) AB))) (fs:=A5 Ps) (fr:=[none,none,some 3,some 2]) (δ:=[.d (.list Of),.d (.list (.list (AH l)::wr)),.d (.int b),.d (.int c),.d (.list ts),T,M]) (P:=fun _=>True) (xs:=ts) rfl (by rw[I];unfold A6;lia) (fun d hd=>by
    obtain⟨j,rfl⟩:=hI d hd;exact⟨_,_,rfl,AJ (xs:=[.int j,.int (c*b)]) (AK rfl (AK (AQ (x:=.int c) (y:=.int b) rfl rfl (Mf Y)) rfl)) (if_pos ⟨Int.mul_ne_zero hc hb,Nat.lt_of_lt_of_le (FM.Bj Y hb2) (aM AC AC)⟩),trivial⟩)
   exact⟨ys,congrArg (Option.map Ou.rn) y1,by rw[y2,I]⟩
 obtain⟨zs,e,Z⟩:=main;exact⟨zs,ED rfl e,Z⟩
theorem SF{set}{J}(M:Nat->Dv->Prop):∀ {xs} {δ} {k},M k δ->(∀i x δ,xs[i]? = some x->M (k+i) δ->∃I,set x δ=some I/\∃l,J I=some (.inl (.nx l))/\M (k+i+1) l)->∃δ',J8 set J xs δ=some (.inl bi)/\M (k+xs.length) δ'
 |[],δ,k,h0,_=>⟨δ,rfl,h0⟩
 |x::xs,δ,k,h0,T=>by
  obtain⟨I,e1,l,e2,Y⟩:=T 0 x δ rfl h0;obtain⟨δ',e3,h3⟩:=SF M Y fun i y δ U Z=>by
   have:=T SB y δ U AS;rw[show k+_+1=k+1+i+1 by lia]at this;exact this
  rw[J8]
  grind
def ZX{set}(l:fs δ=some xs)(h:J8 set J xs δ=r):a6 fs set J δ=r:=by grind
def HF{Q:Y1->Prop}(h:I δ=some (.inl bi))(k:∃x,l δ'=some x/\Q x):∃x,B3 I l δ=some x/\Q x:=let⟨x,a,b⟩:=k;⟨x,IP h a,b⟩
def D4(h:F δ=some bi):Es F δ=some (.inl bi):=by grind
def SQ(U:Fc)(ts:AAx)(PT WT:Tr->List PD):Prop:=mY Bl gn UD (U.map AG) (.list (AH (CL ts))) PT WT/\∀t∈Bl,∃rs:List Rat,WT t=AH rs
open Classical in
noncomputable def Wk(δ:Dv):D8:=EC Bl (pD (if h:∃PT U ts WT,δ[5]? = some (.d (AM U))/\δ[6]? = some (.d (.list (AH (CL ts))))/\SQ U ts PT WT then choose h else fun _=>[]))
def Kt{U V}(h:AM U=AM V):U=V:=by injection h with h;exact map_inj (fun _ _=>W2) h
def uj{δ:Dv}{U:Fc}{ts:AAx}{PT WT:Tr->List PD}(Y:δ[5]? = some (.d (AM U)))(T:δ[6]? = some (.d (.list (AH (CL ts)))))(o:SQ U ts PT WT):∃PT WT,Wk δ=EC Bl (pD PT)/\SQ U ts PT WT:=by
 have e:∃PT U ts WT,δ[5]? = some (.d (AM U))/\δ[6]? = some (.d (.list (AH (CL ts))))/\SQ U ts PT WT:=⟨PT,U,ts,WT,Y,T,o⟩;obtain⟨U',Z,M,I,l,⟨k,k7⟩⟩:=bE e;refine⟨Classical.choose e,M,?_,?_⟩
 .unfold Wk;rw[dif_pos e]
 .rw[Y]at I;injection I with I;injection I with I
  rw[T]at l;injection l with l;injection l with l
  rw[<-Kt I,<-l]at k;exact⟨k,k7⟩
def yO{PT WT}(o:SQ U ts PT WT)(Z:t∈Bl):∃y,O2 [AM U,tD t,.list (AH (CL ts))] (EC Bl (pD PT))=some y/\isWs U.length y:=by
 obtain⟨⟨U',I,ts',PT',l⟩,hh,_,ok,hm⟩:=Xz (ok:=b7) (a:=(U,t,ts,PT,WT)) ⟨o.1,Z,o.2 t Z⟩;obtain⟨T,M,rs,Y⟩:=ok;refine⟨_,hm,rs,congrArg PyData.list Y,?_⟩
 injection hh with h1 _
 have e:U=U':=Kt h1;subst e;have hl:(l I).length=(U.map AG).length:=T.tY I M;rw[(show l I=AH rs from Y)]at hl;unfold AH at hl
 grind
noncomputable abbrev fG:EL:=(B3 (Ec Kk (AA (nm 12) AB) fun z δ=>.nx (δ.set 13 (.d z)))
  (Es (AL (AZ 14 (Hc 4 9 (CP 1) BX (KQ 4 O2 (AA FS (AA Ca Kb))) [none,none,some 5,some 6,some 9] (A5 (nm 13))))
  (AL (AZ 11 (AF BL (nm 11) (nm 7)))
  (AL (AZ 15 (AE iA (AA (AE RH (AA (nm 13) (AA (nm 10) AB))) (AA (nm 14) (AA (nm 11) AB)))))
  (AL (AZ 8 (CT (BW 1 2) BX (AF Aq Ca (BF (AA FS AB))) [none,none,none] (BJ zip2 (AA (nm 8) (AA (nm 15) AB)))))
  (AZ 10 (CJ (nm 10) (Bf (AE BS (AA (nm 13) AB))) Bd))))))))
def nY(h:f δ=some (.list R))(k:g δ=some (.int (n:Nat))):CJ f (Bf g) Bd δ=some (.list (R.drop n)):=by
 show(f δ).bind _=_;rw[h];show((g δ).bind fun x=>(Pb x).map some).bind _=_;rw[k];show some _=_;rw[X4]
def iQ(m:Nat)(d:PD):Prop:=∃xs:List PD,d=.list xs/\xs.length<=m
def S7{c0 c1 c2 c3 c4 s13 s14 s15:L}{U:Fc}{ts:AAx}{PT WT:Tr->List PD}{p b K cc:Int}{rows lf:AAl}{trs:ABD}{sh:List (Int×Int)}{tp:AAx}{m B:Nat}(o:SQ U ts PT WT)(hn:U.length<=3)(hp:1<=p)(M:p.natAbs<2^13)(hb:1<=b)(hb2:b.natAbs<2^B)(hB:B+13<=150) (I:rows.length=U.length)(hr:∀r∈rows,iQ m r)(hm:m<=10)(hK:Kk [.int K]=some (.inl (.list (trs.map tD))))(htr:∀t∈trs,t∈Bl)(ht1:1<=trs.length)(ht2:trs.length<=10)(hso:RH [.list (trs.map tD),.list lf]=some (.list Of)) (hcb:Mp [.list (sh.map fun p=>.int p.2)]=some (.int cc))(hto:Ag [.list Of,.int cc]=some Uf)(ht:∀t∈tp,t.natAbs<2^64)(hc:cc≠0)(hc2:cc.natAbs<2^64)(hl:sh.length<=100)(hlt:tp.length<=100):∃l t13 t14 t15,fG [c0,c1,c2,c3,c4,.d (AM U),.d (.list (AH (CL ts))),.d (.int p),.d (.list rows),.own (.Er (EC Bl (pD PT)) none),.d (.list lf),.d (.int b),.d (.int K),s13,s14,s15]=some (.inl (.nx [c0,c1,c2,c3,c4,.d (AM U),.d (.list (AH (CL ts))),.d (.int p),.d (.list l),.own (.Er (EC Bl (pD PT)) none),.d (.list (lf.drop trs.length)),.d (.int (b*p)),.d (.int K),t13,t14,t15]))/\l.length=U.length/\∀r∈l,iQ (m+1) r:=by
 obtain⟨ws,w1,w2,w3⟩:=jg (jj:=4) (jo:=9) (set:=CP 1) (f:=KQ 4 O2 (AA FS (AA Ca Kb))) (fs:=A5 (nm 13)) (fr:=[none,none,some 5,some 6,some 9]) (δ:=[c0,c1,c2,c3,c4,.d (AM U),.d (.list (AH (CL ts))),.d (.int p),.d (.list rows),.own (.Er (EC Bl (pD PT)) none),.d (.list lf),.d (.int b),.d (.int K),.d (.list (trs.map tD)),s14,s15]) (c:=.Er (EC Bl (pD PT)) none) (xs:=trs.map tD) (P:=isWs U.length) rfl (by rw[Pi];unfold A6;lia) rfl fun x hx=>by
  obtain⟨t,mt,rfl⟩:=aI.mp hx;obtain⟨y,Z,Y⟩:=yO o (htr t mt);exact⟨_,y,rfl,Z,Y⟩
 have hbp:1<=b*p:=by have:=bS (show 0<b by lia) (show 0<p by lia);lia
 obtain⟨T,z1,z2⟩:=yR (b:=b*p) hcb hto ht hc hc2 hl hlt hn w3 (by rw[w2,Pi];exact ht1) AS (aD (FM.Bj hb2 M) (aM AC hB));have hz:rows.length=T.length:=by rw[I,z2]
 obtain⟨ys,Z,Y,y3⟩:=Ib (set:=BW 1 2) (f:=AF Aq Ca (BF (AA FS AB))) (fs:=BJ zip2 (AA (nm 8) (AA (nm 15) AB))) (fr:=[none,none,none]) (δ:=[c0,c1,c2,c3,c4,.d (AM U),.d (.list (AH (CL ts))),.d (.int p),.d (.list rows),.own (.Er (EC Bl (pD PT)) none),.d (.list lf),.d (.int (b*p)),.d (.int K),.d (.list (trs.map tD)),.d (.list ws),.d (.list T)]) (P:=iQ (m+1)) (xs:=Gr rows T) rfl (by rw[OX hz,I];unfold A6;lia) fun d hd=>by
  obtain⟨u,v,mu,mv,rfl⟩:=OQ hd;obtain⟨xs,rfl,hx⟩:=hr u mu;exact⟨_,.list (xs++[v]),rfl,AQ (x:=.list xs) (y:=.list [v]) rfl rfl (add_l (by show xs.length+1<=1000;lia)),_,rfl,by rw[(Ck)];show xs.length+1<=m+1;lia⟩
 refine⟨ys,.d (.list (trs.map tD)),.d (.list ws),.d (.list T),?_,by rw[Y,OX hz,I],y3⟩;refine IP (Dw (ds:=[.int K]) rfl hK) (D4 ?_);refine AO (AX w1) (AO (AX (AQ (x:=.int b) (y:=.int p) rfl rfl (mul_r (aD M AC)))) (AO (AX (AJ (xs:=[.list Of,.list ws,.int (b*p)]) (AK (AJ (xs:=[.list (trs.map tD),.list lf]) rfl hso) rfl) z1)) (AO (AX Z) ?_)));exact AX (nY (n:=trs.length) (R:=lf) rfl (AJ (m:=BS) (xs:=[.list (trs.map tD)]) rfl (by show some (PyData.int ((trs.map tD).length:Nat))=_;rw[Pi])))
abbrev hf:PD:=pr 1 2
def cR:Nat->List PD
 |0=>[hf,hf,hf,hf]
 |1=>[hf,hf,hf]
 |2=>[hf,hf]
 |_=>[]
section
variable{uss:Fc}{rs:ABB}{n:Nat}(g:Gd uss rs n)
include g
theorem Gd.zB:De LF (uss.map AG).length=true:=by
 unfold De;rw[show Ii (.list _)=true from bG.mpr fun d hd=>by
  obtain⟨r,_,rfl⟩:=aI.mp hd;exact ic r]
 show decide _=true;rw[(show(AH rs).length=rs.length by unfold AH;simp),Pi,g.ul,g.rl]
 lia
theorem Gd.gr:∃x,Dq O2 ni V5 ZN sr iA RH Kk ND Xn (CM Ag) Wk [AM uss,.list (AH rs),B0]=some (.inl x):=by
 obtain⟨G1,G2⟩:=g.yS;have hgr:vZ rs:=⟨by rw[g.rl];exact g.n3,fun r hr=>(g.rf r hr).1⟩;obtain⟨wl,wp⟩:=g.whole (G:=Ar rs) G2;obtain⟨p1,p2⟩:=g.sy (G:=Ar rs) G1 G2;have tl:(Hv rs (Ar rs)).length=n:=by unfold Hv;rw[Pi];exact g.rl
 obtain⟨PT,WT,WO,hV⟩:=fV (K:=27) (tb:=9) g.n1 g.n3 wl wp AC AC tl (g.tsb G1 G2);have rl:(AH rs).length=n:=by unfold AH;rw[Pi];exact g.rl
 have main:∃x,KU O2 ni V5 ZN sr iA RH Kk ND Xn (CM Ag) Wk [.d XN,.d LF,.d B0,.no,.no,.no,.no,.no,.no,.no,.no,.no,.no,.no,.no,.no]=some x/\∃y,x=.inl (.rt y):=by
  unfold KU;refine HF (Dw (ds:=[AM uss]) rfl (NY (Gb (G5 _)) g.good)) ?_;refine HF (Dw (ds:=[.list (AH rs),.int ((uss.map AG).length:Nat)]) rfl (eV (Gb (G9 _)) g.zB)) ?_;refine HF (Dw (ds:=[B0]) rfl uK) ?_;refine HF (D4 (AX (AJ (xs:=[.list (AH rs)]) rfl (xW hgr)))) ?_;refine HF (D4 (AX (AJ (xs:=[AM uss,.int (Ar rs)]) rfl (nM (g.wc G2))))) ?_;refine HF (D4 (AX (AJ (xs:=[.list (AH rs),.int (Ar rs)]) rfl (g.start _)))) ?_;refine HF (D4 (AX (AJ (xs:=[AM uss,.int (Ar rs)]) rfl (nO (g.wc G2))))) ?_;obtain⟨ys,y1,y2,y3⟩:=Ib (set:=CP 1) (f:=BF bn) (fs:=A5 Ca) (fr:=[none,none]) (δ:=[.d XN,.d LF,.d B0,.d (.int 3),.d (.int (Ar rs)),.d (AM (Cy (Ar rs) uss)),.d (.list (AH (CL (Hv rs (Ar rs))))),.d (.int (B1 uss (Ar rs))),.no,.no,.no,.no,.no,.no,.no,.no]) (P:=iQ 1) (xs:=AH rs) rfl (by rw[rl];have:=g.n3;unfold A6;lia) fun d _=>⟨_,.list [d],rfl,rfl,_,rfl,Nat.le_refl _⟩;refine HF (D4 (AX y1)) ?_;obtain⟨PT',WT',eG,oG⟩:=uj (δ:=[.d XN,.d LF,.d B0,.d (.int 3),.d (.int (Ar rs)),.d (AM (Cy (Ar rs) uss)),.d (.list (AH (CL (Hv rs (Ar rs))))),.d (.int (B1 uss (Ar rs))),.d (.list ys),.no,.no,.no,.no,.no,.no,.no]) (U:=Cy (Ar rs) uss) (ts:=Hv rs (Ar rs)) rfl rfl ⟨WO,hV⟩;refine HF (δ':=[.d XN,.d LF,.d B0,.d (.int 3),.d (.int (Ar rs)),.d (AM (Cy (Ar rs) uss)),.d (.list (AH (CL (Hv rs (Ar rs))))),.d (.int (B1 uss (Ar rs))),.d (.list ys),.own (.Er (EC Bl (pD PT')) none),.no,.no,.no,.no,.no,.no]) (D4 (by rw[<-eG];rfl)) ?_;refine HF (D4 (AX (y:=B0) rfl)) ?_;refine HF (D4 (AX (y:=.int (Ar rs)) rfl)) ?_;have fin:∃δ',J8 (C0 12) fG [.int 1,.int 2,.int 3] _=some (.inl bi)/\_:=SF (fun i δ=>∃(rows:List PD) (b:Int) (Z T M I:L),δ=[.d XN,.d LF,.d B0,.d (.int 3),.d (.int (Ar rs)),.d (AM (Cy (Ar rs) uss)),.d (.list (AH (CL (Hv rs (Ar rs))))),.d (.int (B1 uss (Ar rs))),.d (.list rows),.own (.Er (EC Bl (pD PT')) none),.d (.list (cR i)),.d (.int b),Z,T,M,I]/\rows.length=n/\(∀r∈rows,iQ SB r)/\1<=b/\b.natAbs<2^(6+13*i)) (k:=0) ⟨ys,Ar rs,.no,.no,.no,.no,rfl,by rw[y2,rl],y3,G1,G2⟩ <| by
   rintro i x δ hx ⟨rows,b,Z,T,M,I,rfl,hr,hl,hb,Y⟩;have hU:=wl;have n3:=g.n3;rcases i with _|_|_|i
   .cases hx;obtain⟨l,u13,u14,u15,e1,e2,e3⟩:=S7 (K:=1) (trs:=NL) (sh:=[(1,2)]) (tp:=[1]) (cc:=2) (lf:=cR 0) (m:=1) (B:=6) (c0:=.d XN) (c1:=.d LF) (c2:=.d B0) (c3:=.d (.int 3)) (c4:=.d (.int (Ar rs))) (s13:=T) (s14:=M) (s15:=I) oG AS p1 p2 hb Y AC (by rw[hU];exact hr) hl AC sR AC AC AC zx IO IO AC AC AC AC AC;exact⟨_,rfl,_,e1,l,b*B1 uss (Ar rs),_,_,_,_,rfl,by rw[e2,hU],e3,by have:=bS (show 0<b by lia) (show 0<B1 uss (Ar rs) by lia);lia,FM.Bj Y p2⟩
   .cases hx;obtain⟨l,u13,u14,u15,e1,e2,e3⟩:=S7 (K:=2) (trs:=Nq) (sh:=[(1,2)]) (tp:=[1]) (cc:=2) (lf:=cR 1) (m:=2) (B:=19) (c0:=.d XN) (c1:=.d LF) (c2:=.d B0) (c3:=.d (.int 3)) (c4:=.d (.int (Ar rs))) (s13:=T) (s14:=M) (s15:=I) oG AS p1 p2 hb Y AC (by rw[hU];exact hr) hl AC u0 AC AC AC zY IO IO AC AC AC AC AC;exact⟨_,rfl,_,e1,l,b*B1 uss (Ar rs),_,_,_,_,rfl,by rw[e2,hU],e3,by have:=bS (show 0<b by lia) (show 0<B1 uss (Ar rs) by lia);lia,show(b*B1 uss (Ar rs)).natAbs<2^(19+13) from FM.Bj (show b.natAbs<2^19 from Y) p2⟩
   .cases hx;obtain⟨l,u13,u14,u15,e1,e2,e3⟩:=S7 (K:=3) (trs:=OD) (sh:=[(1,4),(1,2)]) (tp:=[1,2]) (cc:=4) (lf:=cR 2) (m:=3) (B:=32) (c0:=.d XN) (c1:=.d LF) (c2:=.d B0) (c3:=.d (.int 3)) (c4:=.d (.int (Ar rs))) (s13:=T) (s14:=M) (s15:=I) oG AS p1 p2 hb Y AC (by rw[hU];exact hr) hl AC vz AC AC AC AAb IO IO AC AC AC AC AC;exact⟨_,rfl,_,e1,l,b*B1 uss (Ar rs),_,_,_,_,rfl,by rw[e2,hU],e3,by have:=bS (show 0<b by lia) (show 0<B1 uss (Ar rs) by lia);lia,show(b*B1 uss (Ar rs)).natAbs<2^(32+13) from FM.Bj (show b.natAbs<2^32 from Y) p2⟩
   .simp at hx
  obtain⟨δ',f1,rows,b,Z,T,M,I,rfl,_⟩:=fin;refine HF (ZX (xs:=[.int 1,.int 2,.int 3]) rfl f1) ?_;exact⟨_,rfl,_,rfl⟩
 obtain⟨x,e,y,rfl⟩:=main;exact⟨y,pW rfl e⟩
end
theorem PK{α:Type}{g h}:∀ {xs:List α},(∀x∈xs,one (g x)=some (some (h x)))->L2.collect one (xs.map g)=some (xs.map h)
 |[],_=>rfl
 |x::xs,k=>by
  rw[(BR),L2.collect,k x Da,PK fun y l=>k y (.tail _ l)];rfl
def eC{α:Type}{g h}{set}{xs:List α}(I:fs δ=some (xs.map g))(Y:xs.length<=A6)(M:WI jo δ=some c)(k:∀x∈xs,∃l,set (g x) ((BK fr δ).set jj (.own c))=some l/\f l=some (h x)):Hc jj jo set BX f fr fs δ=some (.list (xs.map h)):=by
 unfold Hc NF;rw[I,(Cp),M,(Cp),PK fun x I=>let⟨_,U,T⟩:=k x I;WZ U T,(Cp),BI,if_pos GM]
 rfl
def yi(n:Nat)(d:PD):Prop:=∃us,d=AG us/\PB n 5 4000 56 us
def vL(n:Nat)(d:PD):Prop:=∃V:List (List AY),d=.list (V.map AG)/\V.length=n/\∀us∈V,PB n 5 4000 56 us
noncomputable abbrev mM:MD:=Cv Q2 RE
def xO{n:Nat}(h1:1<=n)(hn:n<=3){ps:AAl}{tp:AAx}(hp:∀p∈ps,yi n p)(ht:∀t∈tp,t.natAbs<2^20)(hl:ps.length<=10):∃us,mM [.list ps,.list (tp.map .int)]=some (AG us)/\PB n 5 4040 56 us:=by
 have fin:∃δ',BM (BJ zip2 (AA CH bn)) (BW 3 4) (TV 2 (AE RE (AA (nm 3) (AA (Aa (AA Ps (AA AT AB))) AB)))) [.d (.list ps),.d Uf,.own OF,.no,.no]=some bi/\∃(ts:List T3) (I l:L),δ'=[.d (.list ps),.d Uf,.own (.lst (ts.map GH)),I,l]/\TB n 5 4020 ts:=by
  refine F7 (fun i δ=>∃(ts:List T3) (I l:L),δ=[.d (.list ps),.d Uf,.own (.lst (ts.map GH)),I,l]/\TB n 5 4020 ts/\ts.length<=56*i) rfl ⟨[],.no,.no,rfl,⟨fun _ h=>(nomatch h),Nat.zero_le _⟩,Nat.zero_le _⟩ ?_ fun δ ⟨ts,I,l,e,h,_⟩=>⟨ts,I,l,e,h⟩;rintro i x δ Y ⟨ts,I,l,rfl,tb,Z⟩;have hi:i<10:=by
   have:=(aF.mp Y).1;unfold Gr at this;rw[Pi,List.length_zip]at this
   lia
  obtain⟨p,t',m1,m2,rfl⟩:=OQ (aL Y);obtain⟨us,rfl,T⟩:=hp p m1;obtain⟨t,mt,rfl⟩:=aI.mp m2;have er:An (t:Rat)=.tuple [.int t,.int 1]:=by unfold An;rfl
  obtain⟨U,e1,e2⟩:=UA (Ks:=20) (r:=(t:Rat)) T ⟨Rat.den_intCast t,by rw[Rat.num_intCast];exact ht t mt⟩ AC AC;rw[er]at e1;have M:=e2.tb AC;have l56:(U.map Uv).length<=56:=by rw[Pi];exact e2.BI
  refine⟨[.d (.list ps),.d Uf,.own (.lst (ts.map GH)),.d (AG us),.d (.int t)],rfl,_,f7 (xs:=ts.map GH) (AJ rfl (e1.trans (by rw[QB]))) rfl (by rw[Pi,Pi];unfold A6;lia),ts++U.map Uv,_,_,by rw[(DJ)];rfl,⟨fun u hu=>?_,by rw[(Ck)];lia⟩,by rw[(Ck)];lia⟩;rcases aX.mp hu with h|h
  .exact tb.at_ u h
  .exact M.at_ u h
 obtain⟨δ',e,ts,I,l,rfl,tb⟩:=fin;refine⟨MM ts,BA rfl ?_,(tb.MM hn AC).up AC AC (Q4 5)⟩;unfold NI;refine AO (rfl) (AO e ?_);exact CS (AJ rfl (XC (tb.ga h1 hn AC AC)))
def N3(U:Fc)(BT:Tr->List PD):Prop:=nW Bl (PM 3) (U.map AG) (fun t=>.list (BT t)) BT/\∀t∈Bl,∃V:List _,BT t=V.map AG/\V.length=U.length/\∀us∈V,PB U.length 5 4000 56 us
def wR(o:N3 U BT)(l:t∈Bl):∃y,Mk [AM U,tD t] (EC Bl fun t=>.list (BT t))=some y/\vL U.length y:=by
 obtain⟨⟨U',t',BT'⟩,Y,_,ok,hm⟩:=Xz (hand:=fun a=>[AM a.1,tD a.2.1]) (ok:=dM) (a:=(U,t,BT)) ⟨o.1,l,o.2 t l⟩;obtain⟨_,_,V,T,M,I⟩:=ok
 injection Y with Z _
 have e:U=U':=Kt Z;subst e;exact⟨_,hm,V,congrArg PyData.list T,M,I⟩
noncomputable abbrev ZC:List PD->D8->Option PD:=Ci Mk Mp RE mM Ag
def xX{U:Fc}{BT:Tr->List PD}(o:N3 U BT)(h1:1<=U.length)(hn:U.length<=3){sh:List (Tr×Int×Int)}{c b:Int}{tp:AAx}(hs:∀q∈sh,q.1∈Bl)(hl:sh.length<=10)(hcb:Mp [.list (sh.map fun q=>.int q.2.2)]=some (.int c))(Z:Ag [.list (sh.map fun q=>pr q.2.1 q.2.2),.int c]=some Uf)(ht:∀t∈tp,t.natAbs<2^20)(hc:c≠0)(M:c.natAbs<2^64)(hb:b≠0)(hb2:b.natAbs<2^150):∃x,ZC [AM U,O1 sh,.int b] (EC Bl fun t=>.list (BT t))=some x:=by
 let g:D8:=EC Bl fun t=>.list (BT t)
 let l:Tr->PD:=fun t=>(Mk [AM U,tD t] g).getD .none
 have T:∀t∈Bl,Mk [AM U,tD t] g=some (l t)/\vL U.length (l t):=fun t ht=>by
  obtain⟨y,Y,y2⟩:=wR o ht;have:l t=y:=by show(Mk [AM U,tD t] g).getD .none=y;rw[show Mk [AM U,tD t] g=some y from Y];rfl
  rw[this];exact⟨Y,y2⟩
 let fin:AD->Dv:=fun d=>[.d (AM U),.d (O1 sh),.d (.int b),.own (.Er g (some d)),.d (.int c),.d Uf,.d (.list (sh.map fun q=>l q.1)),.d (.tuple [.int 1,.int (c*b)])]
 have hrg:BJ Hg (AA (AE BS bm) AB) (fin 0)=some (Ey 0 U.length):=by
  have:=Q0 (δ:=fin 0) (f:=AE BS bm) (j:=(U.length:Nat)) (by show some (PyData.int ((U.map AG).length:Nat))=_;rw[Pi]) AS AS;rw[Int.toNat_natCast]at this;exact this
 obtain⟨ys,Y,_⟩:=Ib (set:=CP 1) (f:=AE RE (AA (AE mM (AA (CT (CP 1) BX (AF Ak Ca FS) [none,none,some 1] (A5 Ps)) Kb)) (AA FS AB))) (fs:=BJ Hg (AA (AE BS bm) AB)) (fr:=[none,none,some 7,some 5,some 6]) (δ:=fin 0) (xs:=Ey 0 U.length) (P:=fun _=>True) hrg (by unfold Ey;rw[Pi,List.length_range];unfold A6;lia) fun x hx=>by
  unfold Ey at hx;obtain⟨k,hk,rfl⟩:=aI.mp hx;have hk:=List.mem_range.mp hk;rw[Int.zero_add];refine⟨[.no,.d (.int (k:Nat)),.d (.tuple [.int 1,.int (c*b)]),.d Uf,.d (.list (sh.map fun q=>l q.1))],?_⟩;obtain⟨ps,p1,p2,p3⟩:=Ib (set:=CP 1) (f:=AF Ak Ca FS) (fs:=A5 Ps) (fr:=[none,none,some 1]) (δ:=[.no,.d (.int (k:Nat)),.d (.tuple [.int 1,.int (c*b)]),.d Uf,.d (.list (sh.map fun q=>l q.1))]) (xs:=sh.map fun q=>l q.1) (P:=yi U.length) rfl (by rw[Pi];unfold A6;lia) fun y hy=>by
   obtain⟨q,hq,rfl⟩:=aI.mp hy;obtain⟨V,e,v1,v2⟩:=(T q.1 (hs q hq)).2;have I:k<V.length:=by lia
   have:(V.map AG)[k]? = some (AG V[k]):=by rw[(BG),List.getElem?_eq_getElem I];rfl
   exact⟨_,AG V[k],rfl,AQ (x:=l q.1) (y:=.int (k:Nat)) rfl rfl (by rw[e];exact FH this),V[k],rfl,v2 _ (List.getElem_mem I)⟩
  obtain⟨us,u1,u2⟩:=xO h1 hn p3 ht (by rw[p2,Pi];exact hl);obtain⟨z,hz⟩:=a8 (b:=c*b) u2 AC AC AC (Int.mul_ne_zero hc hb) (aD (FM.Bj M hb2) (aM AC AC));exact⟨z,rfl,AJ (xs:=[AG us,.tuple [.int 1,.int (c*b)]]) (AK (AJ (xs:=[.list ps,.list (tp.map .int)]) (AK p1 rfl) u1) rfl) hz,trivial⟩
 refine⟨.list ys,oY ⟨rfl,fun d=>⟨fin d,?_,rfl,Y⟩⟩⟩;show GK Mk Mp RE mM Ag [.d (AM U),.d (O1 sh),.d (.int b),.own (.Er g (some d)),.no,.no,.no,.no]=some (.nx (fin d));unfold GK;have c1:CT (BW 1 2) BX (AF Ak FS AT) [none,none,none] (A5 Ca) [.d (AM U),.d (O1 sh),.d (.int b),.own (.Er g (some d)),.no,.no,.no,.no]=some (.list (sh.map fun q=>.int q.2.2)):=by
  show(Bn _ _ _ _ _ _).map _=_;rw[HB (zs:=sh) (a:=fun q=>tD q.1) (b:=fun q=>pr q.2.1 q.2.2) (g:=fun q=>.int q.2.2) rfl (by unfold A6;lia) fun _ _=>rfl];rfl
 have c2:CT (BW 1 2) BX FS [none,none,none] (A5 Ca) [.d (AM U),.d (O1 sh),.d (.int b),.own (.Er g (some d)),.d (.int c),.no,.no,.no]=some (.list (sh.map fun q=>pr q.2.1 q.2.2)):=by
  show(Bn _ _ _ _ _ _).map _=_;rw[HB (zs:=sh) (a:=fun q=>tD q.1) (b:=fun q=>pr q.2.1 q.2.2) (g:=fun q=>pr q.2.1 q.2.2) rfl (by unfold A6;lia) fun _ _=>rfl];rfl
 refine AO (AX (y:=.int c) (AJ (xs:=[.list (sh.map fun q:Tr×Int×Int=>PyData.int q.2.2)]) (AK c1 rfl) hcb)) (AO (AX (y:=.list (tp.map .int)) (AJ (xs:=[.list (sh.map fun q:Tr×Int×Int=>pr q.2.1 q.2.2),.int c]) (AK c2 rfl) Z)) ?_);refine AO (AX (eC (c:=.Er g (some d)) (xs:=sh) (g:=fun q:Tr×Int×Int=>.tuple [tD q.1,pr q.2.1 q.2.2]) (h:=fun q:Tr×Int×Int=>l q.1) rfl (by unfold A6;lia) rfl fun(q:Tr×Int×Int) hq=>⟨[.no,.d (tD q.1),.d (pr q.2.1 q.2.2),.d (AM U),.own (.Er g (some d))],rfl,show Mk [AM U,tD q.1] g=some (l q.1) from(T q.1 (hs q hq)).1⟩)) ?_;exact AO (AX (Di (xs:=[.int 1,.int (c*b)]) (AK rfl (AK (AQ (x:=.int c) (y:=.int b) rfl rfl (Mf M)) rfl)) (by show 2<=1000;decide))) rfl
open Classical in
noncomputable def Xl(δ:Dv):D8:=EC Bl fun t=>.list ((if h:∃BT U,δ[3]? = some (.d (AM U))/\N3 U BT then choose h else fun _=>[]) t)
def vy(I:δ[3]? = some (.d (AM U)))(o:N3 U BT):∃BT,(Xl δ=EC Bl fun t=>.list (BT t))/\N3 U BT:=by
 have e:∃BT U,δ[3]? = some (.d (AM U))/\N3 U BT:=⟨BT,U,I,o⟩;obtain⟨M,l,k⟩:=bE e;refine⟨Classical.choose e,?_,?_⟩
 .unfold Xl;grind
 .rw[I]at l;injection l with l;injection l with l
  rw[Kt l];exact k
noncomputable abbrev di:EL:=(B3 (Ec Kk (AA (nm 8) AB) fun z δ=>.nx (δ.set 9 (.d z)))
  (Es (AL (AZ 7 (AF BL (nm 7) Ps))
  (AL (Ef 5 (KQ 6 ZC (AA (nm 3) (AA (AE Tw (AA (nm 9) (AA FS AB))) (AA (nm 7) AB)))))
  (AZ 2 (CJ FS (Bf (AE BS (AA (nm 9) AB))) Bd))))))
def Ss{c0 c1 s9:L}{U:Fc}{BT:Tr->List PD}{p b K cc:Int}{rows lf:AAl}{trs:ABD}{sh:List (Tr×Int×Int)}{tp:AAx}{B:Nat}(o:N3 U BT)(h1:1<=U.length)(hn:U.length<=3)(hp:1<=p)(l:p.natAbs<2^13)(hb:1<=b)(Z:b.natAbs<2^B)(hB:B+13<=150)(hrow:rows.length<100) (hK:Kk [.int K]=some (.inl (.list (trs.map tD))))(M:Tw [.list (trs.map tD),.list lf]=some (O1 sh))(hs:∀q∈sh,q.1∈Bl)(hl:sh.length<=10)(T:Mp [.list (sh.map fun q=>.int q.2.2)]=some (.int cc))(I:Ag [.list (sh.map fun q=>pr q.2.1 q.2.2),.int cc]=some Uf)(ht:∀t∈tp,t.natAbs<2^20)(hc:cc≠0)(Y:cc.natAbs<2^64):∃y,di [c0,c1,.d (.list lf),.d (AM U),.d (.int p),.own (.lst rows),.own (.Er (EC Bl fun t=>.list (BT t)) none),.d (.int b),.d (.int K),s9]=some (.inl (.nx [c0,c1,.d (.list (lf.drop trs.length)),.d (AM U),.d (.int p),.own (.lst (rows++[y])),.own (.Er (EC Bl fun t=>.list (BT t)) none),.d (.int (b*p)),.d (.int K),.d (.list (trs.map tD))])):=by
 have hbp:1<=b*p:=by have:=bS (show 0<b by lia) (show 0<p by lia);lia
 obtain⟨y,hy⟩:=xX (b:=b*p) o h1 hn hs hl T I ht hc Y AS (aD (FM.Bj Z l) (aM AC hB));refine⟨y,IP (Dw (ds:=[.int K]) rfl hK) (D4 ?_)⟩;refine AO (AX (y:=.int (b*p)) (AQ (x:=.int b) (y:=.int p) rfl rfl (mul_r (aD l AC)))) ?_;refine AO (Hk (y:=y) (xs:=rows) ?_ rfl (by show _<1000;lia)) ?_
 .show((AA (nm 3) _ _).bind fun ds=>(VW 6 _).bind fun g=>ZC ds g)=_;rw[AK (x:=AM U) rfl (AK (x:=O1 sh) (AJ (xs:=[.list (trs.map tD),.list lf]) rfl M) (AK (x:=.int (b*p)) rfl rfl))];exact hy
 .exact AX (nY (n:=trs.length) (R:=lf) rfl (AJ (m:=BS) (xs:=[.list (trs.map tD)]) rfl (by show some (PyData.int ((trs.map tD).length:Nat))=_;rw[Pi])))
def QD:Nat->List PD
 |0=>[pr 1 2,pr 3 8,pr 13 48,pr 7 24]
 |1=>[pr 3 8,pr 13 48,pr 7 24]
 |2=>[pr 13 48,pr 7 24]
 |_=>[]
section
variable{uss:Fc}{rs:ABB}{n:Nat}(g:Gd uss rs n)
include g
theorem Gd.fl:∃x,B4 ZC fU V5 ZN Tw Kk ND Xn Xl [AM uss,B0]=some (.inl x):=by
 obtain⟨wl,wp⟩:=g.whole (G:=1) AC;obtain⟨p1,M⟩:=g.sy (G:=1) AC AC;have n1:=g.n1;have n3:=g.n3;obtain⟨BT0,b1,b2⟩:=qE (K:=27) g.n1 g.n3 wl wp AC;have bo:N3 (Cy 1 uss) BT0:=⟨b1,fun t ht=>by
  obtain⟨V,v1,v2⟩:=b2 t ht;have:=b1.len t ht;rw[v1,Pi,Pi]at this;exact⟨V,v1,this,by rw[wl];exact v2⟩⟩
 have main:∃x,Fm ZC fU V5 ZN Tw Kk ND Xn Xl [.d XN,.d B0,.no,.no,.no,.no,.no,.no,.no,.no]=some x/\∃y,x=.inl (.rn y):=by
  unfold Fm;refine HF (Dw (ds:=[AM uss]) rfl (NY (Gb (G5 _)) g.good)) ?_;refine HF (Dw (ds:=[B0]) rfl z0) ?_;refine HF (D4 (AX (y:=AM (Cy 1 uss)) (AJ (xs:=[AM uss,.int 1]) rfl (nM (g.wc AC))))) ?_;refine HF (D4 (AX (y:=.int (B1 uss 1)) (AJ (xs:=[AM uss,.int 1]) rfl (nO (g.wc AC))))) ?_;refine HF (δ':=[.d XN,.d B0,.d (.list (QD 0)),.d (AM (Cy 1 uss)),.d (.int (B1 uss 1)),.own OF,.no,.no,.no,.no]) (D4 rfl) ?_;obtain⟨BT,eG,oG⟩:=vy (δ:=[.d XN,.d B0,.d (.list (QD 0)),.d (AM (Cy 1 uss)),.d (.int (B1 uss 1)),.own OF,.no,.no,.no,.no]) (U:=Cy 1 uss) rfl bo;refine HF (δ':=[.d XN,.d B0,.d (.list (QD 0)),.d (AM (Cy 1 uss)),.d (.int (B1 uss 1)),.own OF,.own (.Er (EC Bl fun t=>.list (BT t)) none),.no,.no,.no]) (D4 (by rw[<-eG];rfl)) ?_;refine HF (D4 (AX (y:=.int 1) rfl)) ?_;have fin:∃δ',J8 (C0 8) di [.int 1,.int 2,.int 3] _=some (.inl bi)/\_:=SF (fun i δ=>∃(rows:List PD) (b:Int) (t8 I:L),δ=[.d XN,.d B0,.d (.list (QD i)),.d (AM (Cy 1 uss)),.d (.int (B1 uss 1)),.own (.lst rows),.own (.Er (EC Bl fun t=>.list (BT t)) none),.d (.int b),t8,I]/\rows.length=i/\1<=b/\b.natAbs<2^(6+13*i)) (k:=0) ⟨[],1,.no,.no,rfl,rfl,by decide,by decide⟩ <| by
   rintro i x δ Z ⟨rows,b,t8,I,rfl,hr,hb,l⟩;rcases i with _|_|_|i
   .cases Z;obtain⟨y,Y⟩:=Ss (K:=1) (trs:=NL) (sh:=yj) (tp:=[1]) (cc:=2) (lf:=QD 0) (rows:=rows) (B:=6) (c0:=.d XN) (c1:=.d B0) (s9:=I) oG AS AS p1 M hb l AC AS sR zT AC AC IO IO AC AC AC;exact⟨_,rfl,_,Y,rows++[y],b*B1 uss 1,_,_,rfl,by rw[(Ck),hr];rfl,by have:=bS (show 0<b by lia) (show 0<B1 uss 1 by lia);lia,FM.Bj l M⟩
   .cases Z;obtain⟨y,Y⟩:=Ss (K:=2) (trs:=Nq) (sh:=yq) (tp:=[3]) (cc:=8) (lf:=QD 1) (rows:=rows) (B:=19) (c0:=.d XN) (c1:=.d B0) (s9:=I) oG AS AS p1 M hb l AC AS u0 zU AC AC IO IO AC AC AC;exact⟨_,rfl,_,Y,rows++[y],b*B1 uss 1,_,_,rfl,by rw[(Ck),hr];rfl,by have:=bS (show 0<b by lia) (show 0<B1 uss 1 by lia);lia,show(b*B1 uss 1).natAbs<2^(19+13) from FM.Bj (show b.natAbs<2^19 from l) M⟩
   .cases Z;obtain⟨y,Y⟩:=Ss (K:=3) (trs:=OD) (sh:=yu) (tp:=[13,28]) (cc:=96) (lf:=QD 2) (rows:=rows) (B:=32) (c0:=.d XN) (c1:=.d B0) (s9:=I) oG AS AS p1 M hb l AC AS vz zM AC AC IO IO AC AC AC;exact⟨_,rfl,_,Y,rows++[y],b*B1 uss 1,_,_,rfl,by rw[(Ck),hr];rfl,by have:=bS (show 0<b by lia) (show 0<B1 uss 1 by lia);lia,show(b*B1 uss 1).natAbs<2^(32+13) from FM.Bj (show b.natAbs<2^32 from l) M⟩
   .simp at Z
  obtain⟨δ',f1,rows,b,t8,I,rfl,_⟩:=fin;refine HF (ZX (xs:=[.int 1,.int 2,.int 3]) ?_ f1) ?_
  .show(AA AT (AA (AF Aq (AE (L2.good ND) bn) AT) AB) _).bind MI=_;rw[AK (x:=.int 1) rfl (AK (x:=.int 4) (AQ (x:=.int 3) (y:=.int 1) (AJ (xs:=[B0]) rfl (by show L2.good ND [B0]=_;unfold L2.good;rw[uK])) rfl rfl) rfl)]
   rfl
  .exact⟨_,rfl,_,rfl⟩
 obtain⟨x,e,y,rfl⟩:=main;exact⟨_,pJ rfl e⟩
end
def OV(ns:AAx)(k:Nat):∃c,A3 [B2 ns,.int (k:Nat)]=some (.int c):=by
 suffices hh:∃c,LH [.d (B2 ns),.d (.int (k:Nat)),.no,.no]=some (.rt (.int c)) by
  obtain⟨c,h⟩:=hh;exact⟨c,BA rfl h⟩
 unfold LH;have T:∃l,(Bs (Ap Tk Ca (AE BS bm)) (AZ 2 (AF Ak CH Ca)) A1) [.d (B2 ns),.d (.int (k:Nat)),.d (.int 0),.no]=some (.nx [.d (B2 ns),.d (.int (k:Nat)),.d (.int l),.no]):=by
  have t:Ap Tk Ca (AE BS bm) [.d (B2 ns),.d (.int (k:Nat)),.d (.int 0),.no]=some (decide _):=Bx (x:=.int (k:Nat)) (y:=.int ((ns.map PyData.int).length:Nat)) rfl rfl rfl;rw[Pi]at t;by_cases z:k<ns.length
  .rw[decide_eq_true (show(k:Int)<(ns.length:Nat) by lia)]at t;exact⟨ns[k],DR t (AX (AQ (x:=B2 ns) (y:=.int (k:Nat)) rfl rfl (FH (by rw[(BG),List.getElem?_eq_getElem z];rfl))))⟩
  .rw[decide_eq_false (show ¬(k:Int)<(ns.length:Nat) by lia)]at t;exact⟨0,EU t rfl⟩
 obtain⟨l,T⟩:=T;have I:AF QN (fC (.int 10)) (fC (.int 18)) [.d (B2 ns),.d (.int (k:Nat)),.d (.int l),.no]=some (.int ((10:Int)^18)):=AQ (x:=.int 10) (y:=.int 18) rfl rfl (eD (n:=18) AC AC);have M:Ap (CQ fun i j=>decide (j<=i)) FS (AF QN (fC (.int 10)) (fC (.int 18))) [.d (B2 ns),.d (.int (k:Nat)),.d (.int l),.no]=some (decide ((10:Int)^18<=l)):=Bx (x:=.int l) (y:=.int ((10:Int)^18)) rfl I rfl;by_cases z:(10:Int)^18<=l
 .rw[decide_eq_true z]at M;exact⟨_,AO rfl (AO T (Co (DR M (CS (AQ (x:=.int (l-(10:Int)^18)) (AQ (x:=.int l) rfl I rfl) (AQ (x:=.int 10) (y:=.int 60) rfl rfl (eD (n:=60) AC AC)) (mod_is (Int.pow_pos AC)))))))⟩
 .rw[decide_eq_false z]at M;have hn:∀(a:Int) (m:Int),0<m->m<2^60->(a % m).natAbs<2^64:=fun a m h0 h1=>by
   have:=Int.emod_nonneg a (by lia:m≠0);have:=Int.emod_lt_of_pos a h0
   lia
  generalize U:(l*48271+(k:Int)*69621+11) % 2147483629=v;have Z:v.natAbs<2^64:=by rw[<-U];exact hn _ _ AC AC
  generalize Y:v*v % 2147483587=u;have u1:u.natAbs<2^64:=by rw[<-Y];exact hn _ _ AC AC
  refine⟨_,AO rfl (AO T (AO (EU M rfl) (AO (AX (y:=.int v) ?_) (AO (AX (y:=.int u) ?_) (CS (AQ (x:=.int (u*2147483563)) (y:=.int (u*u % 2147483563)) (AQ (x:=.int u) (y:=.int 2147483563) rfl rfl (mul_r AC)) (AQ (x:=.int (u*u)) (y:=.int 2147483563) (AQ (x:=.int u) (y:=.int u) rfl rfl (mul_r u1)) rfl (mod_is AC)) rfl))))))⟩
  .refine AQ (y:=.int 2147483629) (AQ (x:=.int (l*48271+(k:Int)*69621)) (y:=.int 11) (AQ (x:=.int (l*48271)) (y:=.int ((k:Int)*69621)) (AQ (x:=.int l) (y:=.int 48271) rfl rfl (mul_r AC)) (AQ (x:=.int (k:Nat)) (y:=.int 69621) rfl rfl (mul_r AC)) rfl) rfl rfl) rfl ((mod_is AC).trans ?_);rw[U]
  .refine AQ (x:=.int (v*v)) (y:=.int 2147483587) (AQ (x:=.int v) (y:=.int v) rfl rfl (mul_r Z)) rfl ((mod_is AC).trans ?_);rw[Y]
def D0(ds:List AY):List (List Key×PD):=ds.map fun t=>(t.1.map Sum.inl,An t.2)
def MC(ds:List AY)(p:AAx)(a:Rat):List AY:=if(ds.any fun t=>decide (t.1=p))=true then ds.map (fun t=>if t.1=p then(t.1,a) else t) else ds++[(p,a)]
def Lx{p q:AAx}:p.map (Sum.inl:Int->Key)=q.map Sum.inl ↔ p=q:=List.map_inj_right fun _ _ h=>by lia
def pN:putD (D0 ds) (p.map Sum.inl) (An a)=D0 (MC ds p a):=by
 unfold putD MC D0;rw[(show((ds.map fun t=>(_,An t.2)).any fun l=>decide (l.1=p.map Sum.inl))=ds.any fun t=>decide (t.1=p) by
  rw[List.any_map]
  congr 1
  funext t
  simp only[Function.comp_apply,Lx])]
 split
 .rw[(Bb),(Bb)];refine ai fun t _=>?_;simp only[Function.comp_apply,Lx]
  lia
 simp
def cT ds:La ((D0 ds).map Hq)=some (ds.map Hq):=by
 induction ds with
 |nil=>rfl
 |cons t ds l=>
  show La (t.1.map Sum.inl::(D0 ds).map _)=_;rw[La,(show ∀p ,Rg _=some p from fun p=>by
  induction p with
  |nil=>rfl
  |cons i p l=>rw[(BR),Rg,l];rfl),l];rfl
theorem Rq:∀p:List Int,Q3 (p.map .int)=some (p.map Sum.inl)
 |[]=>rfl
 |i::p=>by rw[(BR),Q3,Rq p];rfl
def sg{xs:AAl}(l:xs.length=n)(ha:a<n)(h:Kx n y=false):Ei (.list (xs.set a y))=false:=by
 show(!decide _&&(xs.set a y).all _)=false;rw[Bool.and_eq_false_iff]
 right
 rw[List.all_eq_false,List.length_set,l];exact⟨y,List.mem_set AS y,by lia⟩
def R6:∀(i:Fin 9) (j:Fin 3),Rat.divInt (i.val-4) (1+j.val)=Rat.divInt ((i.val-4)*(6 / (1+j.val))) 6/\((i.val-4)*(6 / (1+(j.val:Int)))).natAbs<=24:=by decide +kernel
def lY x:E5 6 24 (Rat.divInt (x % 9-4) (1+x / 9 % 3)):=by
 obtain⟨i,I⟩:∃i:Fin 9,x % 9=i.val:=⟨⟨(x % 9).toNat,by lia⟩,by lia⟩;obtain⟨j,l⟩:∃j:Fin 3,x / 9 % 3=j.val:=⟨⟨(x / 9 % 3).toNat,by lia⟩,by lia⟩;rw[I,l];exact⟨_,(R6 i j).1,(R6 i j).2⟩
def BZ:Nat->List (List Int)
 |1=>[[0],[1],[2]]
 |2=>[[0,0],[1,0],[2,0],[1,1],[0,1],[0,2]]
 |3=>[[0,0,0],[1,0,0],[2,0,0],[1,1,0],[1,0,1],[0,1,0],[0,2,0],[0,1,1],[0,0,1],[0,0,2]]
 |_=>[]
def qq(I:1<=n)(l:n<=3):Cj [.int (n:Nat)]=some (.list ((BZ n).map tupI)):=by
 rcases(show n=1\/n=2\/n=3 by lia) with rfl|rfl|rfl<;>kernel_rfl
def OW(h:p∈BZ n):p.length=n/\(∀x∈p,0<=x/\x<=3)/\0<=p.sum/\p.sum<=2:=by
 by_cases hn:n<4
 .exact(show ∀n:Fin 4,∀p∈BZ n.val,p.length=n.val/\(∀x∈p,0<=x/\x<=3)/\0<=p.sum/\p.sum<=2 by decide) ⟨n,hn⟩ p h
 .rcases n with _|_|_|_|n
  all_goals first|lia|(simp[BZ]at h)
def Vr(I:1<=n)(l:n<=3):1<=(BZ n).length/\(BZ n).length<=10/\(n<3->(BZ n).length<=6):=by
 rcases(show n=1\/n=2\/n=3 by lia) with rfl|rfl|rfl<;>decide
structure Sw(n m:Nat)(ds:List AY):Prop where
 BI:ds.length<=m
 tm:∀t∈ds,t.1∈BZ n/\E5 6 (24*m) t.2
 nd:(ds.map Hq).Nodup
def cur(ds:List AY)(p:AAx):Rat:=((ds.find? fun t=>decide (t.1=p)).map (·.2)).getD 0
def pH ds p:(LO (D0 ds) (p.map Sum.inl)).getD (pr 0 1)=An (cur ds p):=by
 unfold LO D0 cur
 induction ds with
 |nil=>rfl
 |cons t ds l=>
  rw[(BR),(LD),(LD)];simp only[Lx]
  grind
def So(h:Sw n m ds) p:E5 6 (24*m) (cur ds p):=by
 unfold cur;cases e:ds.find? fun t=>decide (t.1=p) with
 |none=>exact E5.zero
 |some t=>exact(h.tm t (List.mem_of_find?_eq_some e)).2
def Sw.put{n m:Nat}{a:Rat}(h:Sw n m ds)(U:p∈BZ n)(ha:E5 6 (24*(m+1)) a):Sw n (m+1) (MC ds p a):=by
 unfold MC;split
 .refine⟨by rw[Pi];have:=h.BI;lia,fun q l=>?_,?_⟩
  .obtain⟨u,I,rfl⟩:=aI.mp l;by_cases e:u.1=p
   .rw[if_pos e];exact⟨(h.tm u I).1,ha⟩
   .rw[if_neg e];exact⟨(h.tm u I).1,(h.tm u I).2.mono AS⟩
  .have e:(ds.map fun t=>if t.1=p then(t.1,a) else t).map Hq=ds.map Hq:=by
    rw[(Bb)];refine ai fun t _=>?_;simp;split<;>rfl
   rw[e];exact h.nd
 .rename_i c;refine⟨by have:=h.BI;simp;lia,fun q l=>?_,?_⟩
  .rcases aX.mp l with l|l
   .exact⟨(h.tm q l).1,(h.tm q l).2.mono AS⟩
   .rw[List.mem_singleton.mp l];exact⟨U,ha⟩
  .rw[(DJ),List.nodup_append];refine⟨h.nd,by simp,fun x T y M z=>c ?_⟩;rw[List.any_eq_true];obtain⟨u,I,rfl⟩:=aI.mp T;simp at M;exact⟨u,I,by rw[z,M];simp⟩
def T5(h:E5 6 K r)(l:K<2^20):r.num.natAbs<2^20/\((r.den:Int)).natAbs<2^20:=by
 have f:=h.fits AC l AC;exact⟨f.1,f.d⟩
noncomputable abbrev m9:MD:=F3 FR
def xH{a b:Rat}{K L:Nat}(ha:E5 6 K a)(hb:E5 6 L b)(M:K<2^20)(I:L<2^20):m9 [An a,An b]=some (An (a+b)):=by
 obtain⟨a1,a2⟩:=T5 ha M;obtain⟨b1,b2⟩:=T5 hb I;have l:∀ {x:Int},x.natAbs<2^20->x.natAbs<2^64:=fun h=>aD h AC;refine BA rfl ?_;unfold Qh;refine CS (AJ (AK (AQ (AQ (x:=.int a.num) rfl rfl (mul_r (l b2))) (AQ (x:=.int b.num) rfl rfl (mul_r (l a2))) rfl) (AK (AQ rfl rfl (mul_r (l b2))) rfl)) ?_);rw[Qf (FM.qg a b) (aD (FM.Bj a2 b2) (aM AC AC)),FM.uc]
theorem Lp{α:Type}{g h}{t}:∀ {xs:List α},(∀x∈xs,one (g x)=some (if t x=true then some (h x) else none))->L2.collect one (xs.map g)=some ((xs.filter t).map h)
 |[],_=>rfl
 |x::xs,k=>by
  rw[(BR),L2.collect,k x Da,Lp fun y l=>k y (.tail _ l),List.filter_cons]
  grind
def qJ r:Bm true (An r) (pr 0 1)=some (.bool (!decide (r=0))):=by
 refine(if_pos (⟨(uC r).shaped AC,by decide⟩)).trans ?_;by_cases z:r=0
 .subst z;rfl
 .rw[decide_eq_false z];simp[PyData.eqv,PyData.eqvAll,An,(show ¬r.num=0 from fun e=>by simp_all)]
structure Kd(n:Nat)(us:List AY):Prop where
 BI:us.length<=12
 tm:∀m∈us,m.1∈BZ n/\E5 6 144 m.2/\m.2≠0
 ord:us.Pairwise fun a b=>IT.lt b.1 a.1=true
noncomputable abbrev vO:MD:=DC m9
def je(h:p∈ds.map Hq):LO (D0 ds) (p.map Sum.inl)=some (An (cur ds p)):=by
 unfold LO D0 cur
 induction ds with
 |nil=>cases h
 |cons t ds l=>
  rw[(BR),(LD),(LD)];simp only[Lx]
  grind
def key_is p:MY (tupI p)=some (p.map Sum.inl):=Rq p
def yd{n:Nat}(T:1<=n){ts:List AY}(Z:∀t∈ts,t.1∈BZ n/\E5 6 24 t.2)(hl:ts.length<=6):∃us,Kd n us/\vO [.list (ts.map A9)]=some (AG us):=by
 have fin:∃δ',BM (A5 CH) (BW 2 3) (Vk 1 (AE m9 (AA (RA 1 FS bv) Kb)) FS) [.d (.list (ts.map A9)),.own (.Ea []),.no,.no]=some bi/\∃(ds:List AY) (s2 l:L),δ'=[.d (.list (ts.map A9)),.own (.Ea (D0 ds)),s2,l]/\Sw n 6 ds:=by
  refine F7 (xs:=ts.map A9) (fun i δ=>∃(ds:List AY) (s2 l:L),δ=[.d (.list (ts.map A9)),.own (.Ea (D0 ds)),s2,l]/\Sw n i ds) rfl ⟨[],.no,.no,rfl,by simp,fun t h=>(nomatch h),by simp⟩ ?_ ?_
  .rintro i x δ M ⟨ds,s2,l,rfl,hd⟩;have hi:i<ts.length:=by have:=(aF.mp M).1;simpa using this
   rw[(BG),List.getElem?_eq_getElem hi]at M;cases M;obtain⟨q1,Y⟩:=Z ts[i] (List.getElem_mem hi);generalize ts[i]=t at q1 Y;refine⟨[.d (.list (ts.map A9)),.own (.Ea (D0 ds)),.d (tupI t.1),.d (An t.2)],rfl,[.d (.list (ts.map A9)),.own (.Ea (D0 (MC ds t.1 (cur ds t.1+t.2)))),.d (tupI t.1),.d (An t.2)],?_,_,_,_,rfl,hd.put q1 (((So hd t.1).add AC Y).mono AS)⟩;have U:RA 1 FS bv [.d (.list (ts.map A9)),.own (.Ea (D0 ds)),.d (tupI t.1),.d (An t.2)]=some (An (cur ds t.1)):=by
    show(MY (tupI t.1)).map (fun q=>(LO (D0 ds) q).getD (pr 0 1))=_;rw[key_is,Option.map_some,pH]
   show(AE m9 _ _).bind _=_;rw[(AJ (xs:=[An (cur ds t.1),An t.2]) (AK U rfl) (xH (So hd t.1) Y AS AC))];show(MY (tupI t.1)).bind _=_;rw[key_is];show(if(D0 ds).length<A6 then _ else none)=_;rw[if_pos (by unfold D0;rw[Pi];have:=hd.BI;show _<1000;lia),pN]
   rfl
  .rintro δ ⟨ds,s2,l,e,hd⟩;rw[Pi]at hd;exact⟨ds,s2,l,e,by have:=hd.BI;lia,fun t h=>⟨(hd.tm t h).1,(hd.tm t h).2.mono AS⟩,hd.nd⟩
 obtain⟨δ',e,ds,s2,l,rfl,hd⟩:=fin;have mem:∀p,p∈(sortI (ds.map Hq)).reverse->p∈ds.map Hq:=fun p I=>(sortI_perm _).mem_iff.mp (List.mem_reverse.mp I);refine⟨((sortI (ds.map Hq)).reverse.filter fun p=>!decide (cur ds p=0)).map fun p=>(p,cur ds p),⟨?_,fun m hm=>?_,?_⟩,BA rfl ?_⟩
 .rw[Pi];have:=List.length_filter_le (fun p=>!decide (cur ds p=0)) (sortI (ds.map Hq)).reverse;rw[(Wz),(sortI_perm _).length_eq,Pi]at this;have:=hd.BI
  lia
 .obtain⟨p,I,rfl⟩:=aI.mp hm;obtain⟨T,h2⟩:=List.mem_filter.mp I;obtain⟨u,hu,rfl⟩:=aI.mp (mem p T);exact⟨(hd.tm u hu).1,So hd u.1,by simpa using h2⟩
 .rw[List.pairwise_map];refine List.Pairwise.filter _ ?_;rw[List.pairwise_reverse];have nd:=(sortI_perm (ds.map Hq)).nodup_iff.mpr hd.nd;refine((Nu _).and nd).imp fun {p q} ⟨T,h2⟩=>?_;show IT.lt p q=true;cases e:IT.lt p q with
  |true=>rfl
  |false=>exact absurd (IT.Dk _ _ e (ID.mp T)) h2
 .unfold K3;refine AO (show jO 1 _=some (.nx [.d (.list (ts.map A9)),.own (.Ea []),.no,.no]) from rfl) (AO e (CS ?_));have hk:Jf (D0 ds)=some (.list ((sortI (ds.map Hq)).map tupI)):=by
   unfold Jf;rw[cT];refine if_pos ⟨by rw[Pi];have:=hd.BI;lia,List.all_eq_true.mpr fun p I=>?_⟩;obtain⟨t,Z,rfl⟩:=aI.mp I;have:=(OW (hd.tm t Z).1).1;exact decide_eq_true fun z=>by rw[z]at this;simp at this;lia
  have M:A5 (lH (fun δ=>(Ea 1 δ).bind Jf) (Ip AT)) [.d (.list (ts.map A9)),.own (.Ea (D0 ds)),s2,l]=some ((sortI (ds.map Hq)).reverse.map tupI):=by
   refine rJ (x:=.list ((sortI (ds.map Hq)).reverse.map tupI)) (AQ (x:=.list ((sortI (ds.map Hq)).map tupI)) (y:=.int (-1)) hk rfl ?_) rfl;show(if(-1:Int)=-1 then some (PyData.list ((sortI (ds.map Hq)).map tupI).reverse) else none)=_;rw[if_pos rfl,<-List.map_reverse]
  unfold Hc NF;rw[M];show(((L2.collect _ ((sortI (ds.map Hq)).reverse.map tupI)).bind BI).map PyData.list)=_;rw[Lp (h:=fun p=>A9 (p,cur ds p)) (t:=fun p=>!decide (cur ds p=0)) fun p I=>?_]
  .show((BI _).map PyData.list)=_;unfold BI;rw[if_pos ?_,Option.map_some]
   .unfold AG;rw[(Bb)];rfl
   .rw[Pi];have:=List.length_filter_le (fun p=>!decide (cur ds p=0)) (sortI (ds.map Hq)).reverse;rw[(Wz),(sortI_perm _).length_eq,Pi]at this;have:=hd.BI;unfold A6
    lia
  .have U:Oo 2 Ca [.no,.d (tupI p),.own (.Ea (D0 ds))]=some (An (cur ds p)):=by
    show(MY (tupI p)).bind (fun q=>LO (D0 ds) q)=_;rw[key_is];exact je (mem p I)
   show((Ap (Bm true) (Oo 2 Ca) bv [.no,.d (tupI p),.own (.Ea (D0 ds))]).bind fun b=>if b=true then((Aa (AA Ca (AA (Oo 2 Ca) AB))) [.no,.d (tupI p),.own (.Ea (D0 ds))]).map some else some none)=_;rw[Bx (x:=An (cur ds p)) (y:=pr 0 1) U rfl (qJ _),(Cp)];cases z:!decide (cur ds p=0) with
   |false=>rfl
   |true=>
    rw[if_pos rfl,if_pos rfl,Di (xs:=[tupI p,An (cur ds p)]) (AK rfl (AK U rfl)) (by show 2<=1000;decide)]
    rfl
noncomputable abbrev yl:MD:=EE A3 FR vO Cj
noncomputable abbrev ym:MD:=En A3 FR
def KY(h:0<b):∃j:Nat,j<b/\x % (b:Int)=j:=by
 have I:=Int.emod_nonneg x (show(b:Int)≠0 by lia);have l:=Int.emod_lt_of_pos x (show(0:Int)<b by lia);exact⟨(x % b).toNat,by lia,by lia⟩
section
variable{ns:AAx}{n:Nat}(h1:1<=n)(h3:n<=3)
abbrev GF(ns:List Int)(n:Nat)(ps:List PD)(t6 I t8 t9 t10 l t12 t13:L):Dv:=[.d (B2 ns),.d (.int 0),.d (.int 3),.d (.int (n:Nat)),.d (.list ((BZ n).map tupI)),.own (.lst ps),t6,I,t8,t9,t10,l,t12,t13]
include h1 h3
theorem rE{ps:AAl}{t6 t8 t10 t12 t13:L}{x:Int}{c:Nat}(hc:c<=3):∃δ',BM (BJ Hg (AA (nm 9) AB)) (C0 12) (AL (Ef 11 (AF Ak Ps (AF Cr (nm 7) (AE BS (AA Ps AB))))) (AZ 7 (AF Dx (nm 7) (AE BS (AA Ps AB))))) (GF ns n ps t6 (.d (.int x)) t8 (.d (.int (c:Nat))) t10 (.own OF) t12 t13)=some bi/\∃(I:Int) (l:List AAx) (t:L),δ'=GF ns n ps t6 (.d (.int I)) t8 (.d (.int (c:Nat))) t10 (.own (.lst (l.map tupI))) t t13/\(∀q∈l,q∈BZ n)/\l.length<=3:=by
 obtain⟨m1,m2,_⟩:=Vr h1 h3;refine F7 (xs:=Ey 0 c) (fun i δ=>∃(I:Int) (l:List (List Int)) (t:L),δ=GF ns n ps t6 (.d (.int I)) t8 (.d (.int (c:Nat))) t10 (.own (.lst (l.map tupI))) t t13/\(∀q∈l,q∈BZ n)/\l.length=i) ?_ ⟨x,[],t12,rfl,fun _ h=>(nomatch h),rfl⟩ ?_ ?_
 .exact Q0 (j:=(c:Int)) rfl AS AS
 .rintro i y δ hy ⟨I,l,t,rfl,T,U⟩;obtain⟨rfl,hi⟩:=SJ hy;obtain⟨j,Y,ej⟩:=KY (x:=I) (b:=(BZ n).length) AS;have em:((BZ n).map tupI)[j]? = some (tupI (BZ n)[j]):=by rw[(BG),List.getElem?_eq_getElem Y];rfl
  have Z:∀δ:Dv,nm 4 δ=some (.list ((BZ n).map tupI))->AE BS (AA Ps AB) δ=some (.int ((BZ n).length:Nat)):=fun δ h=>AJ (m:=BS) (xs:=[.list ((BZ n).map tupI)]) (AK h rfl) (by show some (PyData.int (((BZ n).map tupI).length:Nat))=_;rw[Pi]);refine⟨_,rfl,GF ns n ps t6 (.d (.int (I / ((BZ n).length:Nat)))) t8 (.d (.int (c:Nat))) t10 (.own (.lst ((l++[(BZ n)[j]]).map tupI))) (.d (.int (0+(i:Nat)))) t13,?_,_,_,_,rfl,fun q M=>?_,by rw[(Ck),U];rfl⟩
  .refine AO (Hk (y:=tupI (BZ n)[j]) (xs:=l.map tupI) (AQ (x:=.list ((BZ n).map tupI)) (y:=.int (j:Nat)) rfl (AQ (x:=.int I) (y:=.int ((BZ n).length:Nat)) rfl (Z _ rfl) (by rw[mod_is AS,ej])) (FH em)) rfl (by rw[Pi];show _<1000;lia)) ?_;rw[(DJ)];exact AX (AQ (x:=.int I) (y:=.int ((BZ n).length:Nat)) rfl (Z _ rfl) (div_is AS AS))
  .rcases aX.mp M with h|h
   .exact T q h
   .rw[List.mem_singleton.mp h];exact List.getElem_mem Y
 .rintro δ ⟨I,l,t,e,T,U⟩;exact⟨I,l,t,e,T,by rw[U];simp[Ey];exact hc⟩
theorem i3{ps:AAl}{t6 t9 t10 t12 t13:L}{x:Int}{I:List AAx}(hq:∀q∈I,q∈BZ n)(hl:I.length<=6):∃δ',BM (A5 (nm 11)) (C0 13) (AL (Ef 8 (Aa (AA (nm 13) (AA (AE FR (AA (AF E3 (AF Cr (nm 7) (fC (.int 9))) (fC (.int 4))) (AA (AF Aq AT (AF Cr (AF Dx (nm 7) (fC (.int 9))) (fC (.int 3)))) AB))) AB)))) (AZ 7 (AF Dx (nm 7) (fC (.int 27))))) (GF ns n ps t6 (.d (.int x)) (.own OF) t9 t10 (.d (.list (I.map tupI))) t12 t13)=some bi/\∃(l:Int) (ts:List AY) (t:L),δ'=GF ns n ps t6 (.d (.int l)) (.own (.lst (ts.map A9))) t9 t10 (.d (.list (I.map tupI))) t12 t/\(∀t∈ts,t.1∈BZ n/\E5 6 24 t.2)/\ts.length<=6:=by
 refine F7 (xs:=I.map tupI) (fun i δ=>∃(l:Int) (ts:List AY) (t:L),δ=GF ns n ps t6 (.d (.int l)) (.own (.lst (ts.map A9))) t9 t10 (.d (.list (I.map tupI))) t12 t/\(∀t∈ts,t.1∈BZ n/\E5 6 24 t.2)/\ts.length=i) rfl ⟨x,[],t13,rfl,fun _ h=>(nomatch h),rfl⟩ ?_ ?_
 .rintro i y δ U ⟨l,ts,t,rfl,ht,M⟩;obtain⟨q,Y,rfl⟩:=aI.mp (aL U);have hi:i<I.length:=by have:=(aF.mp U).1;simpa using this
  refine⟨_,rfl,GF ns n ps t6 (.d (.int (l / 27))) (.own (.lst ((ts++[(q,Rat.divInt (l % 9-4) (1+l / 9 % 3))]).map A9))) t9 t10 (.d (.list (I.map tupI))) t12 (.d (tupI q)),?_,_,_,_,rfl,fun u Z=>?_,by rw[(Ck),M];rfl⟩
  .refine AO (Hk (y:=A9 (q,Rat.divInt (l % 9-4) (1+l / 9 % 3))) (xs:=ts.map A9) (Di (xs:=[tupI q,An (Rat.divInt (l % 9-4) (1+l / 9 % 3))]) (AK rfl (AK (AJ (xs:=[.int (l % 9-4),.int (1+l / 9 % 3)]) (AK (AQ (x:=.int (l % 9)) (y:=.int 4) (AQ (x:=.int l) (y:=.int 9) rfl rfl (mod_is AC)) rfl rfl) (AK (AQ (x:=.int 1) (y:=.int (l / 9 % 3)) rfl (AQ (x:=.int (l / 9)) (y:=.int 3) (AQ (x:=.int l) (y:=.int 9) rfl rfl (div_is AC AC)) rfl (mod_is AC)) rfl) rfl)) (Qf AS (aD (show _<2^3 by show(1+l / 9 % 3).natAbs<8;lia) (aM AC AC)))) rfl)) (by show 2<=1000;decide)) rfl (by rw[Pi];show _<1000;lia)) ?_;rw[(DJ)];exact AX (AQ (x:=.int l) (y:=.int 27) rfl rfl (div_is AC AC))
  .rcases aX.mp Z with h|h
   .exact ht u h
   .rw[List.mem_singleton.mp h];exact⟨hq q Y,lY l⟩
 .rintro δ ⟨l,ts,t,e,h,T⟩;exact⟨l,ts,t,e,h,by rw[T,Pi];exact hl⟩
end
def iK(ns:AAx):∃(n:Nat) (uss:Fc),1<=n/\n<=3/\uss.length=n/\(∀us∈uss,Kd n us)/\yl [B2 ns,.int 0,.int 3]=some XN:=by
 obtain⟨c0,hc0⟩:=OV ns 0;obtain⟨j0,hj0,ej0⟩:=KY (x:=c0) (b:=3) AC;obtain⟨n,en,h1,h3⟩:∃n:Nat,1+(j0:Int)=(n:Int)/\1<=n/\n<=3:=⟨1+j0,by lia,by lia,by lia⟩;obtain⟨m1,m2,m3⟩:=Vr h1 h3;have main:∃xs,JA A3 FR vO Cj [.d (B2 ns),.d (.int 0),.d (.int 3),.no,.no,.no,.no,.no,.no,.no,.no,.no,.no,.no]=some (.rn xs)/\∃ps:List (List AY),xs=ps.map AG/\ps.length=n/\∀us∈ps,Kd n us:=by
  unfold JA;refine Uj (AX (y:=.int (n:Nat)) (AQ (x:=.int 1) (y:=.int (j0:Nat)) rfl (AQ (x:=.int c0) (y:=.int 3) (AJ (xs:=[B2 ns,.int ((0:Nat):Int)]) rfl hc0) rfl (by rw[mod_is AC,<-ej0];rfl)) (by show some (PyData.int (1+(j0:Int)))=_;rw[en]))) ?_;refine Uj (AX (y:=.list ((BZ n).map tupI)) (AJ (xs:=[.int (n:Nat)]) rfl (qq h1 h3))) ?_;refine Uj (show Ee 5 AB _=some (.nx (GF ns n [] .no .no .no .no .no .no .no .no)) from rfl) ?_;refine tJ (R:=fun δ'=>∃(ps:Fc) (t6 t7 t8 Z M T I l:L),δ'=GF ns n (ps.map AG) t6 t7 t8 Z M T I l/\ps.length=n/\∀us∈ps,Kd n us) ?_ fun δ' ⟨ps,t6,t7,t8,Z,M,T,I,l,e,hl,hp⟩=>⟨ps.map AG,by rw[e];rfl,ps,rfl,hl,hp⟩;refine F7 (xs:=Ey 0 n) (fun i δ=>∃(ps:Fc) (t6 t7 t8 Z M T I l:L),δ=GF ns n (ps.map AG) t6 t7 t8 Z M T I l/\ps.length=i/\∀us∈ps,Kd n us) ?_ ⟨[],.no,.no,.no,.no,.no,.no,.no,.no,rfl,rfl,fun _ h=>(nomatch h)⟩ ?_ ?_
  .exact Q0 (j:=(n:Int)) rfl AS AS
  .rintro i y δ hy ⟨ps,t6,t7,t8,Z,M,T,I,l,rfl,hl,hp⟩;obtain⟨rfl,hi⟩:=SJ hy;refine⟨_,rfl,?_⟩;obtain⟨U,hck⟩:=OV ns (1+i);obtain⟨c,hc,ec⟩:=KY (x:=U) (b:=4) AC;refine JU (δ':=GF ns n (ps.map AG) (.d (.int (0+(i:Nat)))) (.d (.int U)) t8 Z M T I l) (AX (AJ (xs:=[B2 ns,.int ((1+i:Nat):Int)]) (AK rfl (AK (by show some (PyData.int (0+1+(0+(i:Int))))=_;congr 2;lia) rfl)) hck)) ?_;refine JU (show Ee 8 AB _=some (.nx (GF ns n (ps.map AG) (.d (.int (0+(i:Nat)))) (.d (.int U)) (.own OF) Z M T I l)) from rfl) ?_;refine JU (AX (y:=.int (c:Nat)) (AQ (x:=.int U) (y:=.int 4) rfl rfl (by rw[mod_is AC,<-ec];rfl))) ?_;obtain⟨b,hb,eb⟩:∃b:Bool,(b=true->n<3)/\Sd (AF (Bm false) (AF Cr (AF Dx (nm 7) (fC (.int 4))) (fC (.int 4))) (fC (.int 3))) (AF (CQ fun i j=>decide (i<j)) (nm 3) (fC (.int 3))) (GF ns n (ps.map AG) (.d (.int (0+(i:Nat)))) (.d (.int U)) (.own (.lst [])) (.d (.int (c:Nat))) M T I l)=some (.bool b):=by
    have e1:AF UV (AF Cr (AF Dx (nm 7) (fC (.int 4))) (fC (.int 4))) (fC (.int 3)) (GF ns n (ps.map AG) (.d (.int (0+(i:Nat)))) (.d (.int U)) (.own OF) (.d (.int (c:Nat))) M T I l)=some (.bool (decide (U / 4 % 4=3))):=AQ (x:=.int (U / 4 % 4)) (y:=.int 3) (AQ (x:=.int (U / 4)) (y:=.int 4) (AQ (x:=.int U) (y:=.int 4) rfl rfl (div_is AC AC)) rfl (mod_is AC)) rfl (Hy _ _);by_cases z:U / 4 % 4=3
    .rw[decide_eq_true z]at e1;refine⟨decide ((n:Int)<3),fun h=>by have:=ah h;lia,?_⟩;show(AF UV _ _ _).bind _=_;rw[e1];rfl
    .rw[decide_eq_false z]at e1;refine⟨false,fun h=>(nomatch h),?_⟩;show(AF UV _ _ _).bind _=_;rw[e1];rfl
   refine JU (AX eb) ?_;refine JU (AX (y:=.int (U / 16)) (AQ (x:=.int U) (y:=.int 16) rfl rfl (div_is AC AC))) ?_;refine JU (show Ee 11 AB _=some (.nx (GF ns n (ps.map AG) (.d (.int (0+(i:Nat)))) (.d (.int (U / 16))) (.own OF) (.d (.int (c:Nat))) (.d (.bool b)) (.own OF) I l)) from rfl) ?_;obtain⟨δ1,e1,x1,qs,t,rfl,hq,hql⟩:=rE (ns:=ns) h1 h3 (ps:=ps.map AG) (t6:=.d (.int (0+(i:Nat)))) (t8:=.own OF) (t10:=.d (.bool b)) (t12:=I) (t13:=l) (x:=U / 16) (c:=c) AS;refine JU e1 ?_;obtain⟨Y,hq',hql',l11,e2,ef⟩:∃Y:List (List Int),(∀q∈Y,q∈BZ n)/\Y.length<=6/\∃l11,Bs (CV (nm 10)) (AZ 11 (nm 4)) A1 (GF ns n (ps.map AG) (.d (.int (0+(i:Nat)))) (.d (.int x1)) (.own (.lst [])) (.d (.int (c:Nat))) (.d (.bool b)) (.own (.lst (qs.map tupI))) t l)=some (.nx (GF ns n (ps.map AG) (.d (.int (0+(i:Nat)))) (.d (.int x1)) (.own (.lst [])) (.d (.int (c:Nat))) (.d (.bool b)) l11 t l))/\Eu 11 (GF ns n (ps.map AG) (.d (.int (0+(i:Nat)))) (.d (.int x1)) (.own (.lst [])) (.d (.int (c:Nat))) (.d (.bool b)) l11 t l)=GF ns n (ps.map AG) (.d (.int (0+(i:Nat)))) (.d (.int x1)) (.own (.lst [])) (.d (.int (c:Nat))) (.d (.bool b)) (.d (.list (Y.map tupI))) t l:=by
    cases b with
    |true=>exact⟨BZ n,fun q h=>h,m3 (hb rfl),_,rfl,rfl⟩
    |false=>exact⟨qs,hq,by lia,_,rfl,rfl⟩
   refine JU e2 ?_;obtain⟨δ2,e3,x2,ts,u,rfl,ht,htl⟩:=i3 (ns:=ns) h1 h3 (ps:=ps.map AG) (t6:=.d (.int (0+(i:Nat)))) (t9:=.d (.int (c:Nat))) (t10:=.d (.bool b)) (t12:=t) (t13:=l) (x:=x1) hq' hql';refine JU (by show BM _ _ _ (Eu 11 _)=_;rw[ef];exact e3) ?_;obtain⟨us,hus,e4⟩:=yd h1 ht htl;refine⟨GF ns n ((ps++[us]).map AG) (.d (.int (0+(i:Nat)))) (.d (.int x2)) (.d (.list (ts.map A9))) (.d (.int (c:Nat))) (.d (.bool b)) (.d (.list (Y.map tupI))) t u,?_,ps++[us],_,_,_,_,_,_,_,_,rfl,by rw[(Ck),hl];rfl,fun v hv=>?_⟩
   .rw[(DJ)];exact Hk (y:=AG us) (xs:=ps.map AG) (δ:=GF ns n (ps.map AG) (.d (.int (0+(i:Nat)))) (.d (.int x2)) (.d (.list (ts.map A9))) (.d (.int (c:Nat))) (.d (.bool b)) (.d (.list (Y.map tupI))) t u) (AJ (xs:=[.list (ts.map A9)]) rfl e4) rfl (by rw[Pi];show _<1000;lia)
   .rcases aX.mp hv with h|h
    .exact hp v h
    .rw[List.mem_singleton.mp h];exact hus
  .rintro δ ⟨ps,t6,t7,t8,Z,M,T,I,l,e,hl,hp⟩;exact⟨ps,t6,t7,t8,Z,M,T,I,l,e,by rw[hl];simp[Ey],hp⟩
 obtain⟨xs,e,ps,rfl,hl,hp⟩:=main;exact⟨n,ps,h1,h3,hl,hp,ED rfl e⟩
def YI:∀(i:Fin 7) (j:Fin 2),FM.Fits (Rat.divInt (i.val-3) (1+j.val)) 3/\(Rat.divInt (i.val-3) (1+(j.val:Int))).den<=6:=by
 have:∀(i:Fin 7) (j:Fin 2),((Rat.divInt (i.val-3) (1+j.val)).num.natAbs<8/\(Rat.divInt (i.val-3) (1+j.val)).den<8)/\(Rat.divInt (i.val-3) (1+(j.val:Int))).den<=6:=by decide +kernel
 exact fun i j=>⟨⟨(this i j).1.1,(this i j).1.2⟩,(this i j).2⟩
def jh(ns:AAx){n:Nat}(h3:n<=3):∃rs:ABB,rs.length=n/\(∀r∈rs,FM.Fits r 3/\r.den<=6)/\ym [B2 ns,.int 4,.int (n:Nat)]=some LF:=by
 obtain⟨c,U⟩:=OV ns 4;have main:∃xs,Jz A3 FR [.d (B2 ns),.d (.int 4),.d (.int (n:Nat)),.no,.no,.no]=some (.rn xs)/\∃rs:List Rat,xs=AH rs/\rs.length=n/\∀r∈rs,FM.Fits r 3/\r.den<=6:=by
  unfold Jz;refine Uj (AX (y:=.int c) (AJ (xs:=[B2 ns,.int ((4:Nat):Int)]) rfl U)) ?_;refine Uj (show Ee 4 AB _=some (.nx [.d (B2 ns),.d (.int 4),.d (.int (n:Nat)),.d (.int c),.own OF,.no]) from rfl) ?_;refine tJ (R:=fun δ'=>∃(x:Int) (rs:List Rat) (t:L),δ'=[.d (B2 ns),.d (.int 4),.d (.int (n:Nat)),.d (.int x),.own (.lst (AH rs)),t]/\rs.length=n/\∀r∈rs,FM.Fits r 3/\r.den<=6) ?_ fun δ' ⟨x,rs,t,e,I,l⟩=>⟨AH rs,by rw[e];rfl,rs,rfl,I,l⟩;refine F7 (xs:=Ey 0 n) (fun i δ=>∃(x:Int) (rs:List Rat) (t:L),δ=[.d (B2 ns),.d (.int 4),.d (.int (n:Nat)),.d (.int x),.own (.lst (AH rs)),t]/\rs.length=i/\∀r∈rs,FM.Fits r 3/\r.den<=6) ?_ ⟨c,[],.no,rfl,rfl,fun _ h=>(nomatch h)⟩ ?_ ?_
  .exact Q0 (j:=(n:Int)) rfl AS AS
  .rintro i y δ M ⟨x,rs,t,rfl,I,l⟩;obtain⟨rfl,hi⟩:=SJ M;have Y:AH (rs++[Rat.divInt (x % 7-3) (1+x / 7 % 2)])=AH rs++[An (Rat.divInt (x % 7-3) (1+x / 7 % 2))]:=by unfold AH;rw[(DJ)];rfl
   refine⟨[.d (B2 ns),.d (.int 4),.d (.int (n:Nat)),.d (.int x),.own (.lst (AH rs)),.d (.int (0+(i:Nat)))],rfl,[.d (B2 ns),.d (.int 4),.d (.int (n:Nat)),.d (.int (x / 14)),.own (.lst (AH (rs++[Rat.divInt (x % 7-3) (1+x / 7 % 2)]))),.d (.int (0+(i:Nat)))],?_,_,_,_,rfl,by rw[(Ck),I];rfl,fun r T=>?_⟩
   .refine AO (Hk (y:=An (Rat.divInt (x % 7-3) (1+x / 7 % 2))) (xs:=AH rs) (AJ (xs:=[.int (x % 7-3),.int (1+x / 7 % 2)]) (AK (AQ (x:=.int (x % 7)) (y:=.int 3) (AQ (x:=.int x) (y:=.int 7) rfl rfl (mod_is AC)) rfl rfl) (AK (AQ (x:=.int 1) (y:=.int (x / 7 % 2)) rfl (AQ (x:=.int (x / 7)) (y:=.int 2) (AQ (x:=.int x) (y:=.int 7) rfl rfl (div_is AC AC)) rfl (mod_is AC)) rfl) rfl)) (Qf AS (aD (show _<2^3 by show(1+x / 7 % 2).natAbs<8;lia) (aM AC AC)))) rfl (by unfold AH;rw[Pi];show _<1000;lia)) ?_;rw[Y];exact AX (AQ (x:=.int x) (y:=.int 14) rfl rfl (div_is AC AC))
   .rcases aX.mp T with h|h
    .exact l r h
    .rw[List.mem_singleton.mp h];obtain⟨a,e1⟩:∃a:Fin 7,x % 7=(a.val:Int):=⟨⟨(x % 7).toNat,by lia⟩,by show x % 7=((x % 7).toNat:Int);lia⟩;obtain⟨b,Z⟩:∃b:Fin 2,x / 7 % 2=(b.val:Int):=⟨⟨(x / 7 % 2).toNat,by lia⟩,by show x / 7 % 2=((x / 7 % 2).toNat:Int);lia⟩;rw[e1,Z];exact YI a b
  .rintro δ ⟨x,rs,t,e,I,l⟩;exact⟨x,rs,t,e,by rw[I];simp[Ey],l⟩
 obtain⟨xs,e,rs,rfl,I,l⟩:=main;exact⟨rs,I,l,ED rfl e⟩
structure mD(n:Nat)(t:AY):Prop where
 len:t.1.length=n
 pos:∀x∈t.1,0<=x
 ne:t.2≠0
def mD.of(h:t.1∈BZ n/\E5 6 144 t.2/\t.2≠0):mD n t:=⟨(OW h.1).1,fun x l=>((OW h.1).2.1 x l).1,h.2.2⟩
def nF t:Yr (A9 t)=t.1:=by
 show(t.1.map PyData.int).map intD=t.1;rw[(Bb)];exact(ai fun _ _=>rfl).trans (List.map_id _)
def pS(h:mD n t):Ia n (A9 t)=true:=by
 show(SU n _&&(HR _ && !decide (t.2.num=0)))=true;rw[(show SU n _=true by
  show(decide _&&(t.1.map PyData.int).all cW)=true;rw[decide_eq_true (by rw[Pi,h.len]),Bool.true_and,List.all_eq_true];intro d hd;obtain⟨i,hi,rfl⟩:=aI.mp hd;exact decide_eq_true (h.pos i hi)),ic,decide_eq_false fun z=>h.ne (Rat.num_eq_zero.mp z)];rfl
def gf{n:Nat}(h:Kd n ts):Kx n (AG ts)=true:=by
 show(List.range (ts.map A9).length).all _=true;rw[List.all_eq_true];intro k hk;have hk:=by simpa using hk
 unfold Jd;rw[(BG),List.getElem?_eq_getElem hk];show(Ia n (A9 ts[k])&&_)=true;rw[pS (mD.of (h.tm _ (List.getElem_mem hk)))];by_cases l:k=0
 .rw[decide_eq_true l];rfl
 .rw[decide_eq_false l,(BG),List.getElem?_eq_getElem _];show IT.lt _ _=true;rw[nF,nF];exact List.pairwise_iff_getElem.mp h.ord (k-1) k AS hk AS
def kD(pos:1<=ps.length)(I:∀us∈ps,Kd ps.length us):Ei (AM ps)=true:=by
 show(!decide _&&(ps.map AG).all _)=true;rw[Pi,decide_eq_false AS,Bool.not_false,Bool.true_and,List.all_eq_true];intro d hd;obtain⟨ts,l,rfl⟩:=aI.mp hd;exact gf (I ts l)
def oX(h:E5 6 K r):r.den<=6:=by
 obtain⟨a,rfl,_⟩:=h;exact FM.iV AC
def xF(h1:1<=n)(h3:n<=3)(Z:uss.length=n)(I:∀us∈uss,Kd n us)(rl:rs.length=n)(rf:∀r∈rs,FM.Fits r 3/\r.den<=6):Gd uss rs n :=
 ⟨⟨by lia,fun us l=>⟨(I us l).BI,fun m hm=>by
  obtain⟨a,b,c⟩:=(I us l).tm m hm;obtain⟨Y,U,T,M⟩:=OW a;exact⟨b.fits AC AC AC,oX b,Y,U,T,M⟩⟩⟩,h1,h3,Z,rl,rf,kD AS GM⟩
def Rv:DF :=
 (AL (Bs (Ap Tk (nm 8) (fC (.int 10)))
  (L8 3 (BF (AA (AF Ak (nm 7) (nm 8)) AB)) Ps)
  A1)
 (AL (Bs (Ap UV (nm 8) (fC (.int 10)))
  (L8 3 (BF (AA (nm 6) (AA (nm 6) AB))) Ps)
  A1)
 (AL (Bs (Ap UV (nm 8) (fC (.int 11)))
  (L8 3 (BF (AA (nm 6) (AA (Aa (AA (AF Aq (Aa (AA AT AB)) (CJ (nm 5) (Bf AT) Bd)) (AA (Aa (AA AT (AA AT AB))) AB))) AB))) Ps)
  A1)
 (AL (Bs (Ap UV (nm 8) (fC (.int 12)))
  (Ef 3 (BF AB))
  A1)
 (AL (Bs (Ap UV (nm 8) (fC (.int 13)))
  (L8 3 (Aa (AA (nm 6) AB)) Ps)
  A1)
 (AL (Bs (Ap UV (nm 8) (fC (.int 14)))
  (LC 3 (Al (AE Ez Kb)))
  A1)
 (AL (Bs (Ap UV (nm 8) (fC (.int 15)))
  (Al (AF Ak (BF (AA (BF AB) (AA (fC .none) (AA BY (AA (fC (.str (Str.ofString "x"))) AB))))) (AF Cr (AF Dx Ca (fC (.int 16))) (fC (.int 4)))))
  A1)
 (GZ 3))))))))
def xp{cs:AAl}(l:cs.length=n)(ha:a<n)(M:∀d∈cs,d.canLay0=true)(I:y.canLay0=true)(h:Kx n y=false):(PyData.list (cs.set a y)).canLay0=true/\Ei (.list (cs.set a y))=false :=
 ⟨Gb fun d hd=>by
  grind,sg l ha h⟩
abbrev FK(n:Nat):List PD:=List.replicate n (.int 0)
def mF(n:Nat):AAl:=[.tuple [.tuple (FK n++[.int 0]),pr 1 2],.tuple [.tuple (FK (n-1)),pr 1 2],.tuple [.tuple (FK n),pr 2 4],.tuple [.tuple (FK n),pr 0 1],.tuple [.tuple (FK n),.int 1],.tuple [.tuple (FK n)],.tuple [.tuple (.int (-1)::FK (n-1)),pr 1 2],.tuple [.tuple (.bool true::FK (n-1)),pr 1 2],.tuple [.list (FK n),pr 1 2],.none]
abbrev eU(n:Nat):PD:=.tuple [.tuple (FK n),pr 1 2]
def Si(n:Nat):Nat->PD
 |10=>.list [eU n,eU n]
 |11=>.list [eU n,.tuple [.tuple (.int 1::FK (n-1)),pr 1 1]]
 |13=>.tuple [eU n]
 |j=>.list [(mF n).getD j .none]
def rZ:∀(n:Fin 3) (j:Fin 14),j.val≠12->(Si (n.val+1) j.val).canLay0=true/\Kx ((n.val+1:Nat)) (Si (n.val+1) j.val)=false:=by decide
abbrev sB(c:PD)(x:Int)(n:Nat)(cs:List PD)(a j:Nat):Dv:=[.d c,.d (.int x),.d (.int (n:Nat)),.own (.lst cs),.d (.int (a:Nat)),.d (.tuple (FK n)),.d (eU n),.d (.list (mF n)),.d (.int (j:Nat))]
def qk(I:j<14)(l:j≠12):Rv (sB c x 1 [c0] 0 j)=some (.rn ([c0].set 0 (Si 1 j))):=by
 rcases j with _|_|_|_|_|_|_|_|_|_|_|_|_|_|j
 all_goals first|lia|rfl
def pO(ha:a<2)(I:j<14)(l:j≠12):Rv (sB c x 2 [c0,c1] a j)=some (.rn ([c0,c1].set a (Si 2 j))):=by
 rcases a with _|_|a
 all_goals rcases j with _|_|_|_|_|_|_|_|_|_|_|_|_|_|j
 all_goals first|lia|rfl
def pF(ha:a<3)(I:j<14)(l:j≠12):Rv (sB c x 3 [c0,c1,c2] a j)=some (.rn ([c0,c1,c2].set a (Si 3 j))):=by
 rcases a with _|_|_|a
 all_goals rcases j with _|_|_|_|_|_|_|_|_|_|_|_|_|_|j
 all_goals first|lia|rfl
def sJ(h1:1<=n)(Z:n<=3)(T:cs.length=n)(ha:a<n)(U:j<14)(I:j≠12):Rv (sB c x n cs a j)=some (.rn (cs.set a (Si n j))):=by
 rcases(show n=1\/n=2\/n=3 by lia) with rfl|rfl|rfl
 .obtain⟨l,rfl⟩:∃l,cs=[l]:=match cs,T with|[l],_=>⟨l,rfl⟩
  obtain rfl:a=0:=by lia
  exact qk U I
 .obtain⟨l,M,rfl⟩:∃l M,cs=[l,M]:=match cs,T with|[l,M],_=>by lia
  exact pO ha U I
 .obtain⟨l,M,Y,rfl⟩:∃l M Y,cs=[l,M,Y]:=match cs,T with|[l,M,Y],_=>by lia
  exact pF ha U I
def xM(l:cs.length<=3):Rv (sB c x n cs a 12)=some (.rn (cs++[.list []])):=by
 refine AO rfl (AO rfl (AO rfl (AO (DR rfl (Hk rfl rfl (by show _<1000;lia))) ?_)))
 rfl
def wU:Rv (sB c x n cs a 14)=some (.rt (.tuple cs)):=rfl
def wY:∃d,Rv (sB c x n cs a 15)=some (.rt d)/\d.canLay0=true/\Ei d=false:=by
 obtain⟨k,hk,l⟩:=KY (b:=4) AC;have e:∀d,[PyData.list [],.none,.int 0,.str _][k]? = some d->Rv (sB c x n cs a 15)=some _:=fun d hd=>by
  refine AO rfl (AO rfl (AO rfl (AO (δ':=sB c x n cs a 15) rfl (AO (δ':=sB c x n cs a 15) rfl (AO (δ':=sB c x n cs a 15) rfl (Co (DR rfl (CS (AQ (y:=.int _) rfl (AQ (AQ rfl rfl (div_is AC AC)) rfl (by rw[mod_is AC,<-l];rfl)) (FH hd))))))))))
 rcases k with _|_|_|_|k
 .exact⟨_,e _ rfl,rfl,rfl⟩
 .exact⟨_,e _ rfl,rfl,rfl⟩
 .exact⟨_,e _ rfl,rfl,rfl⟩
 .exact⟨_,e _ rfl,by kernel_rfl,rfl⟩
 .lia
noncomputable abbrev yn:MD:=Cf GU
def qi(I:uss.length<=3):GU [AM uss]=some (uss.map AG):=qt rfl (ae _ (Kf rfl (by unfold A6;lia) fun us l=>rfl))
def uL{n:Nat}{uss:Fc}(U:1<=n)(T:n<=3)(l:uss.length=n)(x:Int){a j:Nat}(ea:x / 16 % (n:Int)=(a:Nat))(M:x % 16=(j:Nat)):GN GU [.d XN,.d (.int x),.no,.no,.no,.no,.no,.no,.no]=Rv (sB XN x n (uss.map AG) a j):=by
 have I:AE BS bm [.d XN,.d (.int x),.no,.no,.no,.no,.no,.no,.no]=some (.int (n:Nat)):=AJ (m:=BS) (xs:=[AM uss]) rfl (by show some (PyData.int ((uss.map AG).length:Nat))=_;rw[Pi,l]);unfold GN;refine AO (AX I) ?_;refine AO (δ':=[.d XN,.d (.int x),.d (.int (n:Nat)),.own (.lst (uss.map AG)),.no,.no,.no,.no,.no]) (by show((some [AM uss]).bind GU).map _=_;rw[(Cp),qi AS];rfl) ?_;refine AO (AX (y:=.int (a:Nat)) (AQ (x:=.int (x / 16)) (y:=.int (n:Nat)) (AQ (x:=.int x) (y:=.int 16) rfl rfl (div_is AC AC)) rfl (by rw[mod_is AS,ea]))) ?_;rcases(show n=1\/n=2\/n=3 by lia) with rfl|rfl|rfl
 all_goals exact AO (AX rfl) (AO (AX rfl) (AO (AX rfl) (AO (AX rfl) (AO (AX (AQ (x:=.int x) (y:=.int 16) rfl rfl (by rw[mod_is AC,M]))) rfl))))
def vo{n:Nat}(Y:1<=n)(U:n<=3)(T:uss.length=n)(x:Int):∃bad,yn [AM uss,.int x]=some bad/\(x % 16≠12->bad.canLay0=true/\Ei bad=false):=by
 obtain⟨a,ha,ea⟩:=KY (x:=x / 16) (b:=n) AS;obtain⟨j,hj,Z⟩:=KY (x:=x) (b:=16) AC;have e:=uL Y U T x ea Z;have hm:(uss.map AG).length=n:=by rw[Pi];exact T
 by_cases M:j=14
 .subst M;exact⟨_,BA rfl (e.trans wU),fun _=>⟨VZ (G5 uss),rfl⟩⟩
 by_cases I:j=15
 .subst I;obtain⟨d,k1,k2,k3⟩:=wY (x:=x) (n:=n) (a:=a);exact⟨d,BA rfl (e.trans k1),fun _=>⟨k2,k3⟩⟩
 by_cases l:j=12
 .subst l;exact⟨_,ED rfl (e.trans (xM AS)),fun h=>absurd Z h⟩
 .refine⟨_,ED rfl (e.trans (sJ Y U hm ha AS l)),fun _=>?_⟩;have k:=rZ ⟨n-1,by lia⟩ ⟨j,by lia⟩ l;rw[show n-1+1=n by lia]at k;exact xp hm ha (G5 uss) k.1 k.2
def lO{n:Nat}{uss:Fc}(M:1<=n)(I:n<=3)(l:uss.length=n):(PyData.list (uss.map AG++[.list [.tuple [.tuple (FK n),pr 1 1]]])).canLay0=true/\Ei (.list (uss.map AG++[.list [.tuple [.tuple (FK n),pr 1 1]]]))=false:=by
 have hm:(uss.map AG++[PyData.list [.tuple [.tuple (FK n),pr 1 1]]]).length=n+1:=by rw[(Ck),Pi,l];rfl
 refine⟨Gb fun d hd=>?_,vi (aY _ Da) ?_⟩
 .rcases aX.mp hd with h|h
  .exact G5 uss d h
  .rw[List.mem_singleton.mp h];rcases(show n=1\/n=2\/n=3 by lia) with rfl|rfl|rfl<;>rfl
 .rw[hm];rcases(show n=1\/n=2\/n=3 by lia) with rfl|rfl|rfl<;>decide
def xf(fs:AAl):AAl:=[.list (fs++[pr 0 1]),.list fs.dropLast,.tuple fs,.none,.list (fs.dropLast++[pr 2 4]),.list (fs.dropLast++[.int 1]),.list (fs.dropLast++[pr 1 0])]
def rO(U:rs.length=n)(Z:1<=n)(Y:j<7):∃d,(xf (AH rs))[j]? = some d/\d.canLay0=true/\De d n=false:=by
 have hf:(AH rs).length=n:=by unfold AH;rw[Pi];exact U
 have hd:(AH rs).dropLast.length=n-1:=by rw[List.length_dropLast,hf]
 have M:=fun e l=>G9 rs e (List.dropLast_subset _ l);have I:∀y:PD,y.canLay0=true->(PyData.list _).canLay0=true:=fun y T=>Gb fun e l=>by
  rcases aX.mp l with h|h
  .exact M e h
  .rw[List.mem_singleton.mp h];exact T
 rcases j with _|_|_|_|_|_|_|j
 .refine⟨_,rfl,Gb fun e l=>?_,gN (by rw[(Ck),hf];show n+1≠n;lia)⟩;rcases aX.mp l with h|h
  .exact G9 rs e h
  .rw[List.mem_singleton.mp h];rfl
 .exact⟨_,rfl,Gb M,gN AS⟩
 .exact⟨_,rfl,VZ (G9 rs),by rfl⟩
 .exact⟨_,rfl,rfl,by rfl⟩
 .exact⟨_,rfl,I _ rfl,cz (aY _ Da) AC⟩
 .exact⟨_,rfl,I _ rfl,cz (aY _ Da) AC⟩
 .exact⟨_,rfl,I _ rfl,cz (aY _ Da) AC⟩
 .lia
def Kl(c:Nat):AD->Option Bool:=fun(C:Nat)=>if C=61 then some (decide (61=c)) else if C=73 then some (decide (73=c)) else if C=85 then some (decide (85=c)) else none
def fT:AD->Option Bool:=fun(C:Nat)=>if C=61\/C=73\/C=85 then some true else none
def Va(T:DN K 61)(M:DN K 73)(I:DN K 85)(k1:PySem.W.kitOne K (.ref 61) (EB l)=some (decide (61=c)):=by kernel_rfl)(k2:PySem.W.kitOne K (.ref 73) (EB l)=some (decide (73=c)):=by kernel_rfl)(k3:PySem.W.kitOne K (.ref 85) (EB l)=some (decide (85=c)):=by kernel_rfl):∀C z,Kl c C=some z->DN K C/\PySem.W.kitOne K TW (EB l)=some z:=fun C z h=>by
 unfold Kl at h
 lia
def xS(T:DN K 61)(M:DN K 73)(I:DN K 85)(k1:PySem.W.kitOne K (.ref 61) (EB l)=some true:=by kernel_rfl)(k2:PySem.W.kitOne K (.ref 73) (EB l)=some true:=by kernel_rfl)(k3:PySem.W.kitOne K (.ref 85) (EB l)=some true:=by kernel_rfl):∀C z,fT C=some z->DN K C/\PySem.W.kitOne K TW (EB l)=some z:=fun C z h=>by
 unfold fT at h
 lia
abbrev refs:List AD:=[61,73,85]
noncomputable abbrev oG:List PD->Option Xr:=only refs (Dq O2 ni V5 ZN sr iA RH Kk ND Xn (CM Ag) Wk)
noncomputable abbrev oF:List PD->Option Xr:=only refs (B4 ZC fU V5 ZN Tw Kk ND Xn Xl)
noncomputable abbrev mK:MD:=CK oF oG (Kl 61) (Kl 73) (Kl 49) (Kl 85) fT
def JH(C:Nat):PD:=.list [.bool (decide (C=61)),.bool (decide (C=73)),.bool (decide (C=85)),.bool false,.bool true]
section
variable{c s w y:PD}{C:Nat}
def Y3(h:(if wh then oG [c,s,w] else oF [c,w]).map (fun z=>match z with|.inl _=>none|.inr C=>some C)=some r):Nf (Zl (CV (nm 3)) (Nf (OJ oG (AA CH (AA Ca (AA FS AB)))) MA) (Nf (OJ oF (AA CH (AA FS AB))) MA)) MA [.d c,.d s,.d w,.d (.bool wh),.d .none,.no,.no]=some r:=by
 have hb:∀o:Option Xr,o.map _=some r->((o.map (fun z=>match z with|.inl _=>none|.inr C=>some C)).bind fun r=>match r with|none=>MA [.d c,.d s,.d w,.d (.bool wh),.d .none,.no,.no]|some C=>some (some C))=some r:=fun o e=>by
  rw[e];cases r<;>rfl
 show(Zl _ _ _ _).bind _=_;rw[(show Zl _ _ _ [.d c,.d s,.d w,.d (.bool wh),.d .none,.no,.no]=some r by
  cases wh with
  |true=>exact hb _ h
  |false=>exact hb _ h)];cases r<;>rfl
def RI{wh:Bool}(h:(if wh then oG [c,s,w] else oF [c,w])=some (.inr C))(l:C=61\/C=73\/C=85):mK [c,s,w,.bool wh]=some (JH C):=by
 refine BA rfl (AO (AX rfl) (AO (lq (Y3 (by rw[h];rfl)) rfl) ?_));rcases l with rfl|rfl|rfl<;>kernel_rfl
def oK{wh:Bool}(h:(if wh then oG [c,s,w] else oF [c,w])=some (.inl y)):mK [c,s,w,.bool wh]=some (.list []):=BA rfl (AO (AX rfl) (AO (lG (Y3 GM)) (Co (DR rfl rfl))))
abbrev w3:PD:=.list [pr 0 1,pr 0 1,pr 0 1]
def su(l:c.canLay0=true)(h:Ei c=false):oG [c,s,w]=some (.inr 61) :=
 Le (Gv rfl (LQ (Gn rfl (ik l h)))) Da
def u6(l:c.canLay0=true)(h:Ei c=false):oF [c,w]=some (.inr 61) :=
 Le (Gv rfl (LQ (Gn rfl (ik l h)))) Da
def j2(I:(PyData.list cs).canLay0=true)(h:Ei (.list cs)=true)(l:s.canLay0=true)(M:De s cs.length=false):oG [.list cs,s,w]=some (.inr 73) :=
 Le (Gv rfl (IP (Dw rfl (NY I h)) (LQ (Gn rfl (uq l M))))) (.tail _ Da)
def zv(I:(PyData.list cs).canLay0=true)(h:Ei (.list cs)=true)(l:s.canLay0=true)(M:De s cs.length=true):oG [.list cs,s,w3]=some (.inr 85) :=
 Le (Gv rfl (IP (Dw rfl (NY I h)) (IP (Dw rfl (eV l M)) (LQ (Gn rfl zt))))) (.tail _ (.tail _ Da))
def AAM(l:c.canLay0=true)(h:Ei c=true):oF [c,w3]=some (.inr 85) :=
 Le (Gv rfl (IP (Dw rfl (NY l h)) (LQ (Gn rfl AAL)))) (.tail _ (.tail _ Da))
end
def mx(K:Fg)(a:AD)(ns:AAx):Bool:=match K.lookup a with
 |some o=>(match o.cls with|.type n=>n == "tuple" |_=>false)&&o.dict.isNone&&(match o.data with
  |.seq l _=>decide (l.size<=1000)&&decide (l.toList.map Wx=ns.map fun i=>some (V.int i))
  |_=>false)
 |none=>false
theorem WH:∀ {ns:List Int} {us},us.map Wx=ns.map (fun i=>some (V.int i))->Vals (ns.map V.int) us
 |[],[],_=>.nil
 |[],u::us,h=>by grind
 |n::ns,[],h=>by grind
 |n::ns,u::us,h=>by
  rw[(BR),(BR),List.cons.injEq]at h;refine .cons ?_ (WH h.2);cases u with
  |int i t=>
   have:=h.1;simp[Wx]at this;subst this;exact⟨t,rfl⟩
  |_=>have:=h.1;simp[Wx]at this
def vA(h:mx K a ns=true):Own K a ns:=by
 unfold mx at h;split at h
 .rename_i o e;rw[(HW),(HW)]at h;obtain⟨⟨Z,T⟩,l⟩:=h;have M:o.cls=.type "tuple" := by
   lia
  have Y:=by simpa using T
  split at l
  .rename_i I n U;rw[(HW),decide_eq_true_eq,decide_eq_true_eq]at l;exact⟨fun H=>.inr ⟨o,I,n,e,M,U,Nat.le_trans l.1 AC,WH l.2⟩,o,e,M,Y⟩
  lia
 lia
def j3(h:g δ=some (.int (p:Nat)))(o:ow i δ=some xs)(k:xs[p]? = some y):gG i g δ=some y:=by
 show(g δ).bind _=_;rw[h];rw[o];exact FH k
def WR(h:f δ=some (.list R)):CJ f Bd (Bf (Ip AT)) δ=some (.list R.dropLast):=by
 show(f δ).bind _=_;rw[h];show some _=_;unfold cutD;rw[HT.Ly,List.drop_zero,Nat.sub_zero,show HT.Bw R.length R.length _=(-1+_).toNat by rfl,show(-1+(R.length:Int)).toNat=R.length-1 by lia,List.dropLast_eq_take]
noncomputable abbrev tK:MD:=mz yn A3 yl mK ym
def nD:Bm true (JH 61) (JH 61)=some (.bool false):=by rfl
def xk:Bm true (JH 73) (JH 73)=some (.bool false):=by rfl
def yI:Bm true (JH 85) (JH 85)=some (.bool false):=by rfl
def ne_nil:Bm true (.list []) (.list [])=some (.bool false):=by rfl
def sS(ns:AAx):tK [B2 ns]=some KK:=by
 obtain⟨n,uss,Z,Y,U,hu,e1⟩:=iK ns;obtain⟨rs,rl,rf,e2⟩:=jh ns Y;have g:=xF Z Y U hu rl rf;obtain⟨x,hx⟩:=OV ns 5;obtain⟨bad,e4,hb⟩:=vo Z Y U x;obtain⟨j7,hj7,ej7⟩:=KY (x:=x / 64) (b:=7) AC;obtain⟨l,e6,l1,l2⟩:=rO rl Z hj7;obtain⟨yg,eg⟩:=g.gr;obtain⟨yf,ef⟩:=g.fl;have cu:(AM uss).canLay0=true:=Gb (G5 uss);have cf:(PyData.list (AH rs)).canLay0=true:=Gb (G9 rs);have hm:(uss.map AG).length=n:=by rw[Pi];exact U
 have hf:(AH rs).length=n:=by unfold AH;rw[Pi];exact rl
 have sk:=g.zB;have en:∀δ:Dv,nm 1 δ=some XN->AE BS bn δ=some (.int (n:Nat)):=fun δ h=>AJ (m:=BS) (xs:=[AM uss]) (AK h rfl) (by show some (PyData.int ((uss.map AG).length:Nat))=_;rw[hm]);refine BA rfl ?_;unfold nP;refine AO (AX (AJ (xs:=[B2 ns,.int 0,.int 3]) rfl e1)) ?_;refine AO (AX (AJ (xs:=[B2 ns,.int 4,.int (n:Nat)]) (AK rfl (AK rfl (AK (en _ rfl) rfl))) e2)) ?_;refine AO (AX (y:=.int x) (AJ (xs:=[B2 ns,.int ((5:Nat):Int)]) rfl hx)) ?_;refine AO (AX (y:=bad) (AJ (xs:=[AM uss,.int x]) rfl e4)) ?_;have lst:∀(y:PD) (δ:Dv),nm 2 δ=some LF->∀f:Dv->Option PD,f δ=some (.list [y])->AF Aq (CJ FS Bd (Bf (Ip AT))) f δ=some (.list ((AH rs).dropLast++[y])):=fun y δ h f M=>AQ (x:=.list (AH rs).dropLast) (y:=.list [y]) (WR h) M (add_l (by rw[List.length_dropLast,hf];show n-1+1<=1000;lia));have T:Aq LF (.list [pr 0 1])=some (.list (AH rs++[pr 0 1])):=add_l (by rw[hf];show n+1<=1000;lia)
 let six:List PD:=[.list (AH rs++[pr 0 1]),.list (AH rs).dropLast,.tuple (AH rs),.none,.list ((AH rs).dropLast++[pr 2 4]),.list ((AH rs).dropLast++[.int 1])]
 refine AO (δ':=[.d (B2 ns),.d XN,.d LF,.d (.int x),.d bad,.own (.lst six),.no,.no]) ?_ ?_
 .have e5:(AA (AF Aq FS (BF (AA bv AB))) ck) [.d (B2 ns),.d XN,.d LF,.d (.int x),.d bad,.no,.no,.no]=some six :=
   AK (AQ (x:=.list (AH rs)) (y:=.list [pr 0 1]) rfl rfl T) (AK (WR rfl) (AK rfl (AK rfl (AK (lst (pr 2 4) _ rfl _ rfl) (AK (lst (.int 1) _ rfl _ rfl) rfl)))))
  exact(ae (fun o:Option (List PD)=>(o.bind BI).map fun ys=>Ou.nx (List.set [.d (B2 ns),.d XN,.d LF,.d (.int x),.d bad,.no,.no,.no] 5 (.own KB))) e5).trans rfl
 refine AO (Hk (y:=.list ((AH rs).dropLast++[pr 1 0])) (xs:=six) (lst (pr 1 0) _ rfl _ rfl) rfl (by show 6<1000;decide)) ?_;refine AO (AX (y:=l) (j3 (p:=j7) (xs:=six++[.list ((AH rs).dropLast++[pr 1 0])]) (AQ (x:=.int (x / 64)) (y:=.int 7) (AQ (x:=.int x) (y:=.int 64) rfl rfl (div_is AC AC)) rfl (by rw[mod_is AC,<-ej7];rfl)) rfl e6)) ?_;obtain⟨bd,cb,kb,eb⟩:∃bd:PD,bd.canLay0=true/\Ei bd=false/\Bs (Ap (Bm false) (AF Cr (nm 3) (fC (.int 16))) (fC (.int 12))) (AZ 4 (AF Aq (nm 1) (BF (AA (BF (AA (Aa (AA (AF GW (Aa (AA (fC (.int 0)) AB)) (AE BS (AA (nm 1) AB))) (AA (Aa (AA (fC (.int 1)) (AA (fC (.int 1)) AB))) AB))) AB)) AB)))) A1 [.d (B2 ns),.d (AM uss),.d (.list (AH rs)),.d (.int x),.d bad,.own (.lst (six++[.list ((AH rs).dropLast++[pr 1 0])])),.d l,.no]=some (.nx [.d (B2 ns),.d (AM uss),.d (.list (AH rs)),.d (.int x),.d bd,.own (.lst (six++[.list ((AH rs).dropLast++[pr 1 0])])),.d l,.no]):=by
  have ec:Ap UV (AF Cr (nm 3) (fC (.int 16))) (fC (.int 12)) [.d (B2 ns),.d XN,.d LF,.d (.int x),.d bad,.own (.lst (six++[.list ((AH rs).dropLast++[pr 1 0])])),.d l,.no]=some (decide (x % 16=12)):=Bx (x:=.int (x % 16)) (y:=.int 12) (AQ (x:=.int x) (y:=.int 16) rfl rfl (mod_is AC)) rfl (Hy _ _);by_cases z:x % 16=12
  .rw[decide_eq_true z]at ec;obtain⟨k1,k2⟩:=lO Z Y U;refine⟨_,k1,k2,DR ec (AX (AQ (x:=AM uss) (y:=.list [.list [.tuple [.tuple (FK n),pr 1 1]]]) rfl ?_ (add_l (by rw[hm];show n+1<=1000;lia))))⟩;have et:AF GW (Aa (AA BY AB)) (AE BS bn) [.d (B2 ns),.d XN,.d LF,.d (.int x),.d bad,.own (.lst (six++[.list ((AH rs).dropLast++[pr 1 0])])),.d l,.no]=some (.tuple (FK n)):=AQ (x:=.tuple [.int 0]) (y:=.int (n:Nat)) rfl (en _ rfl) (by rcases(show n=1\/n=2\/n=3 by lia) with rfl|rfl|rfl<;>rfl);exact ZK (AK (ZK (AK (Di (xs:=[.tuple (FK n),pr 1 1]) (AK et rfl) (by show 2<=1000;decide)) rfl) (by show 1<=1000;decide)) rfl) (by show 1<=1000;decide)
  .rw[decide_eq_false z]at ec;obtain⟨k1,k2⟩:=hb z;exact⟨bad,k1,k2,EU ec rfl⟩
 refine AO eb ?_;refine AO (EU (Bx (x:=JH 61) (y:=JH 61) (AJ (xs:=[bd,l,w3,.bool true]) rfl (RI (su cb kb) ZB)) rfl nD) rfl) ?_;refine AO (EU (Bx (x:=JH 61) (y:=JH 61) (AJ (xs:=[bd,.list (AH rs),w3,.bool false]) rfl (RI (wh:=false) (u6 cb kb) ZB)) rfl nD) rfl) ?_;refine AO (EU (Bx (x:=JH 73) (y:=JH 73) (AJ (xs:=[AM uss,l,w3,.bool true]) rfl (RI (j2 cu g.good l1 (by rw[hm];exact l2)) (.inr ZB))) rfl xk) rfl) ?_;refine IA (xs:=[.bool true,.bool false]) (fun _ δ=>∃t,δ=[.d (B2 ns),.d XN,.d LF,.d (.int x),.d bd,.own (.lst (six++[.list ((AH rs).dropLast++[pr 1 0])])),.d l,t]) rfl ⟨_,rfl⟩ ?_ ?_
 .rintro i y δ M ⟨t,rfl⟩;obtain⟨I,rfl⟩:∃I:Bool,y=.bool I:=by
   rcases i with _|_|i
   .cases M;exact⟨_,rfl⟩
   .cases M;exact⟨_,rfl⟩
   .simp at M
  have k85:mK [AM uss,.list (AH rs),w3,.bool I]=some (JH 85):=by
   cases I with
   |true=>exact RI (zv cu g.good cf sk) (.inr (.inr rfl))
   |false=>exact RI (wh:=false) (AAM cu g.good) (.inr (.inr rfl))
  have Mj:mK [AM uss,.list (AH rs),B0,.bool I]=some (.list []):=by
   cases I with
   |true=>exact oK (Zq eg)
   |false=>exact oK (wh:=false) (Zq ef)
  refine⟨_,rfl,_,AO (EU (Bx (x:=JH 85) (y:=JH 85) (AJ (xs:=[AM uss,.list (AH rs),w3,.bool I]) rfl k85) rfl yI) rfl) (EU (Bx (x:=.list []) (y:=.list []) (AJ (xs:=[AM uss,.list (AH rs),B0,.bool I]) rfl Mj) rfl ne_nil) rfl),_,rfl⟩
 .rintro δ ⟨t,rfl⟩
  rfl
def mT(K:Fg):Sp:=fun vs H Q _=>∃(a:AD) (ns:List Int),vs=[.ref a]/\Am K H a (ns.map V.int)/\ns.length<=63/\∀H',Q (.bl true) H'
def tX(I:Zz K=true)(F:Af P w K mg base Ac k f fd ["_law_script"] (Aw tK)):Af P w K mg base Ac k f fd ["_law_script"] (mT K) :=
 F.imp fun vs H Q E z=>by
  obtain⟨a,ns,rfl,l,hn,q⟩:=z;refine⟨[B2 ns],.bool true,H,sS ns,.cons (sd (tU I l)) .nil,.refl _,fun v G' H' _ _ _ _ M=>?_⟩;subst M
  grind
set_option hygiene false in
local macro_rules|`(tactic| walk_at "g")=>`(tactic| first
 |((with_reducible show DE _ _ _);first
  |exact Dr (pv _)
  |exact wC
  |exact xY
  |exact Wv
  |exact iB
  |refine' nK ?_ ?_ ?_
  |refine' yZ ?_ ?_ (fun _ _=>rfl)
  |refine' jP (pv _) ?_ (fun _ _=>rfl)
  |refine' jx (by have:=hr.units;exact this) ?_ ?_ (fun _ _=>rfl)
  |refine' oS (vI (by have:=hr.units;exact this)) (pv _) ?_ (fun _ _=>rfl)
  |refine' l9 ?_ ?_ ?_
  |refine' vf ?_ ?_
  |refine' tG ?_
  |refine' Rf ?_
  |refine' u5 ?_
  |refine' tw ?_
  |refine' uz ?_ ?_ ?_ (FC _)
  |refine' uk ?_ ?_
  |refine' de_or ?_ ?_
  |refine' wF ?_
  |refine' Yp dH ?_ ?_ (fun _ _ _ _ _=>?_) (fun _ _ _ _ _=>?_) rfl rfl rfl rfl (fun _=>rfl)
  |refine' Yp (vV rfl (by decide)) ?_ ?_ (fun _ _ _ _ _=>?_) (fun _ _ _ _ _=>?_) rfl rfl rfl rfl (fun _=>rfl)
  |refine' J0 sM rfl (xU O) PySem.boot_len ?_
  |refine' J0 dc_abs rfl (JZ O) bX ?_
  |refine' J0 (vQ rfl) rfl (VR O) PyProof.Rows.boot_sum ?_
  |refine' J0 (tf rfl) rfl (xI O) PyProof.Rows.boot_max ?_
  |refine' J0 (qp E2) rfl (FX O) PyProof.Rows.boot_sorted ?_
  |refine' UL l8 rfl (Yh O) PyProof.Rows.boot_tuple ?_
  |refine' UL pE rfl (iT O) PyProof.Rows.boot_list ?_
  |refine' lV (by have:=hr.units;exact this) rfl (FX O) ?_ (fun h=>jX E2 rfl (FX O) h)
  |refine' cK rfl E2 rfl (FX O) rfl (yY O) ?_
  |exact kT E2 rfl rfl (FX O) (pv _)
  |refine' j6 (vI E2) (pv _) ?_ ?_
  |refine' RD (kP _) rfl (Ba O) rfl (Yh O) PyProof.Rows.boot_tuple ?_
  |refine' RD (lg _) rfl (Ba O) rfl (iT O) PyProof.Rows.boot_list ?_
  |refine' RD (jH _) rfl (Ba O) rfl (yM O) PyProof.Rows.boot_int ?_
  |refine' RD (eP _) rfl (Ba O) rfl (wO O) PyProof.Rows.boot_bool ?_
  |refine' J5 (by assumption) (fun z=>nomatch z) rfl (Ba O) (Gs rfl No rfl) ?_
  |refine' J5 (by assumption) (fun z=>nomatch z) rfl (Ba O) (SA rfl (Hf O) PyProof.Rows.Boot.«ValueError» rfl) ?_
  |refine' fB ?_ rfl No No
  |exact k8 rfl No
  |refine' ZQ (At.t No) dO hr rfl ?_
  |refine' ZQ (At.t No) (xD dO) hr rfl ?_
  |refine' kz (At.t No) dO hr rfl ?_
  |refine' qZ _ ?_)
 |((with_reducible show DA _ _ _);first
  |exact Lw
  |refine' Eg ?_ ?_)
 |((with_reducible show eu _ _ _ _);first
  |exact p5 (pv _)
  |refine' jV ?_ ?_)
 |((with_reducible show DO _ _ _);first
  |exact qr
  |refine' rF ?_)
 |((with_reducible show Cz _ _ _);first
  |exact f9
  |exact oV
  |exact g9
  |exact rK
  |exact qN
  |exact qf
  |exact lA
  |exact xJ E2
  |exact xt E2
  |exact xK
  |exact xq
  |exact uv E2
  |exact xb
  |exact do_le
  |exact nE
  |exact do_isnot
  |exact pI E2)
 |((with_reducible show DT _ _ _);first
  |refine' eZ ?_ ?_ ?_ (FC _)
  |refine' rV ?_
  |refine' fq Vu ?_ rfl No No
  |refine' fq op_in_seq ?_ rfl No No
  |refine' gF ?_
  |refine' DW.dt ?_)
 |((with_reducible show DW _ _ _);first
  |refine' x6 ?_ ?_
  |refine' uY ?_ ?_
  |refine' vN ?_)
 |((with_reducible show gT _ _ _);first
  |exact pU
  |refine' pB ?_)
 |((with_reducible show DI _ _ _ _);first
  |refine' fH rfl (Ym O) ?_
  |refine' dk rfl (Ym O) ?_
  |refine' ud rfl (Vd O) ?_
  |refine' qc rfl (FI O) ?_
  |refine' jb rfl (FI O) ?_
  |refine' ub ?_)
 |((with_reducible show iI _ _ _ _ _);first|exact AAX IO|exact za IO IO rfl)
 |((with_reducible show DG _ _ _);first
  |exact rC (Dj sc.nd Iq Fe)
  |exact tW (NQ rfl (EY (Dj sc.nd Iq Fe) (EY (Dj sc.nd Iq Fe) Lq))))
 |((with_reducible show KO _ _ _);first
  |exact ZR
  |refine' OT ?_
  |refine' KL ?_ ?_)
 |((with_reducible show TQ _ _ _ _);first
  |refine' qU ?_
  |refine' jD ?_ ?_)
 |((with_reducible show DS _ _ (LC _ _));refine' sj _ ?_)
 |((with_reducible show DS _ _ _);first
  |refine' RV sc.nd Iq Fe ?_
  |refine' tq sc.nd Iq Fe ?_
  |refine' RN dH ?_ ?_ (fun _ _ _ _ _=>?_) (fun _ _ _ _ _=>?_) rfl rfl rfl rfl (fun _=>rfl) sc.nd Iq Iq Iq
  |refine' RN (vV rfl (by decide)) ?_ ?_ (fun _ _ _ _ _=>?_) (fun _ _ _ _ _=>?_) rfl rfl rfl rfl (fun _=>rfl) sc.nd Iq Iq Iq
  |refine' ds_ownC dH ?_ ?_ (fun _ _ _ _ _=>?_) (fun _ _ _ _ _=>?_) rfl rfl rfl rfl (fun _=>rfl) sc.nd Iq Iq Iq
  |refine' qz (At.t No) dO hr rfl ?_ sc.nd Iq Fe
  |exact qu sc.nd Iq Fe
  |exact vC sc.nd Iq Fe
  |exact qA No sc.nd Iq Fe
  |refine' uw bC rfl ?_ ?_ ?_
  |refine' mL ?_ ?_ ?_
  |refine' ds_while _ bC ?_ ?_
  |exact qx (pv _)
  |refine' pj dH ?_ ?_ (fun _ _ _ _ _=>?_) (fun _ _ _ _ _=>?_) rfl rfl rfl rfl (fun _=>rfl)
  |refine' WA ?_
  |exact rA
  |refine' fK (pv _) ?_ (fun ho ha=>II (Qb PySem.F.plainAttrs_list PySem.F.slot_list_append PySem.F.type_list_append Kp ho ha))
  |refine' d7 (pv _) ?_ (fun ho ha=>II (Qb PySem.F.plainAttrs_list PySem.F.slot_list_extend PySem.F.type_list_extend gL ho ha))
  |refine' uF (pv _) ?_ ?_ (fun h1 h2 h3=>Rp h1 (Qg h2 h3 set_list))
  |refine' kG (pv _) ?_ ?_ (fun h1 h2 h3=>Rp h1 (Qg h2 h3 (WD E2)))
  |refine' qD (pv _) ?_ ?_ (fun h1 h2 h3=>pK (vI E2) h2 h3 h1 rfl)
  |refine' pL ?_)
 |((with_reducible show M9 _ _ _ _);first
  |exact q9
  |refine' uy ?_
  |refine' qe ?_
  |refine' j8 ?_ ?_)
 |((with_reducible show DX _ _ _ _);first
  |refine' qT (At.t (by assumption)) (At.up (by assumption) (by first|exact ak rfl|lia)) hr VU ?_ (fun h=>II h)
  |exact j5 (At.t (by assumption)) (At.up (by assumption) (by first|exact ak rfl|lia)) hr VU (fun h=>II h)
  |refine' uX (At.t No) dO hr VU ?_ sc.nd Fe
  |refine' oO ?_ sc.nd Fe
  |exact i7 No yB iB
  |refine' xj ?_ ?_ ?_
  |refine' ue PassesOwn.leaving rfl ?_ ?_ ?_
  |refine' xc ?_)
 |((with_reducible show oH _ _ _ _);first
  |refine' k9 (At.t No) dO hr VU ?_)
 |((with_reducible show iP _ _ _ _);first
  |refine' kE ?_ ?_
  |refine' v8 ?_))
section
open PySem.W
noncomputable abbrev rk(n:String)(i:Nat)(m:String×Nat)(c:Nat):F0a:=fnOf UF UF (Gy (top i)) (CB (top i)) (AW (top i)) .none .none .none (.str (Str.ofString m.1) m.2) none (.ref c) .none
abbrev Op(w:F0c)(mg:Str->Option VL):Prop:=∃h:Heap,(kH w.params).In h/\h.Ns mainGlobals mg
noncomputable abbrev Ax(w:F0c)(mg:Str->Option VL)(base:Heap)(n:String)(i:Nat)(m:String×Nat)(c:Nat)(ps:List Str)(CX:Jr)(k:Nat)(sp:Sp):Prop:=At D6.prog w IF mg base UF (top i) ps (c+1) (rk n i m c) CX k sp
variable{w:F0c}{mg:AAs}{base:Heap}
def Yb:El IF 61 24 true:=by constructor<;>kernel_rfl
def GX:DN IF 61:=by constructor<;>kernel_rfl
def dZ:El IF 73 24 true:=by constructor<;>kernel_rfl
def HH:DN IF 73:=by constructor<;>kernel_rfl
def U2:El IF 85 24 true:=by constructor<;>kernel_rfl
def E4:DN IF 85:=by constructor<;>kernel_rfl
def bb:∀C ,C∈refs->El IF C 24 true:=fun C h=>by
 rcases aO.mp h with rfl|h
 .exact Yb
 rcases aO.mp h with rfl|h
 .exact dZ
 rw[List.mem_singleton.mp h];exact U2
def EM:Own IF 403 [0,1,2,4,8,17,37,85]:=vA Iq
variable(O:Op w mg)
include O
theorem fnX n i m (c:Nat) ps
  (ha:nsIn IF mainGlobals UF=some (some (.ref (c+1))):=by kernel_rfl) (l:(kH w.params).lookup (c+1)=some (fO n i m.1 m.2 c):=by kernel_rfl) (I:codeIn IF (.ref c) UF=true:=by kernel_rfl) (hk:keepIn IF (.ref (c+1))=true:=by kernel_rfl)
  (hb:∀kV doc pm an cdv ct us,us.length=ps.length->bindArgs (fnOf UF UF (Gy (top i)) (CB (top i)) (AW (top i)) .none kV doc pm an cdv ct) ⟨us,[]⟩=pure (ps.zip us):=by first|(exact fun _ _ _ _ _ _ us l=>match us,l with|[_],_=>rfl)|(exact fun _ _ _ _ _ _ us l=>match us,l with|[_,_],_=>rfl)|(exact fun _ _ _ _ _ _ us l=>match us,l with|[_,_,_],_=>rfl)|(exact fun _ _ _ _ _ _ us l=>match us,l with|[_,_,_,_],_=>rfl)|(exact fun _ _ _ _ _ _ us l=>match us,l with|[_,_,_,_,_],_=>rfl)|(exact fun _ _ _ _ _ _ us l=>match us,l with|[],_=>rfl)) :
  Fn IF mg UF (top i) ps (c+1) (rk n i m c) :=
 let⟨_,X,G⟩:=O
 ⟨iH l I hk,(iH l I hk).binds hb,mg_of X G ha⟩
theorem UN n v (e:nsIn IF mainGlobals UF=some (some v):=by kernel_rfl):mg UF=some v:=let⟨_,X,G⟩:=O;mg_of X G e
theorem KN n (e:nsIn IF mainGlobals UF=some none:=by kernel_rfl):mg UF=none:=let⟨_,X,G⟩:=O;mg_none_of X G e
theorem mE{n:String}{i:Nat}{m:String×Nat}{c:Nat}{N ps:AAy}{k:Nat}{F:DF}(hb:BQ N ps (AW (top i))->∀(cdv:VL) (A:F0d) (outer:List Env) (s:SD) (H:Hp) (E:XK),Bh k (A.deeper (PyProof.Rows.envOfC UF (AW (top i)) s.heap.objs.size (c+1) cdv))->KO (B5 Ac D6.prog w IF mg base N UF (AW (top i)) (c+1) cdv A outer s H E).Eh (CB (top i)) F) (T:Fn IF mg UF (top i) ps (c+1) (rk n i m c):=by exact fnX No _ _ _ _ _)(S:BQ N ps (AW (top i)):=by exact D5):Ax w mg base n i m c ps Ac (k+1) (Aw (Av ps N F)):=Xb T S hb
theorem xU:mg "len" = none:=KN O "len"
theorem Ym:mg "range" = none:=KN O "range"
theorem JZ:mg "abs" = none:=KN O "abs"
theorem Ba:mg "isinstance" = none:=KN O "isinstance"
theorem yM:mg "int" = none:=KN O "int"
theorem wO:mg "bool" = none:=KN O "bool"
theorem Yh:mg "tuple" = none:=KN O "tuple"
theorem iT:mg "list" = none:=KN O "list"
theorem FI:mg "enumerate" = none:=KN O "enumerate"
theorem VR:mg "sum" = none:=KN O "sum"
theorem Vd:mg "zip" = none:=KN O "zip"
theorem FX:mg "sorted" = none:=KN O "sorted"
theorem xI:mg "max" = none:=KN O "max"
theorem Hf:mg "ValueError" = none:=KN O "ValueError"
theorem yY:mg "set" = none:=KN O "set"
theorem Jo:mg "GroveError" = some (.ref 24):=UN O "GroveError" _
theorem ML:mg "NoTree" = some (.ref 49):=UN O "NoTree" _
theorem JQ:mg "NoChange" = some (.ref 61):=UN O "NoChange" _
theorem Ki:mg "NoStart" = some (.ref 73):=UN O "NoStart" _
theorem HQ:mg "NoWeighing" = some (.ref 85):=UN O "NoWeighing" _
theorem d8:mg "TooMany" = some (.ref 97):=UN O "TooMany" _
theorem HY:mg "MOST_KNOTS" = some (.int 7 512):=UN O "MOST_KNOTS" _
theorem EV:mg "WEIGHING_LENGTHS" = some (.ref 403):=UN O "WEIGHING_LENGTHS" _
theorem RF:Exc IF mg "NoChange" 61:=⟨JQ O,by kernel_rfl⟩
theorem UY:Exc IF mg "NoStart" 73:=⟨Ki O,by kernel_rfl⟩
theorem OB:Exc IF mg "NoWeighing" 85:=⟨HQ O,by kernel_rfl⟩
theorem We:Exc IF mg "NoTree" 49:=⟨ML O,by kernel_rfl⟩
theorem Kr:Exc IF mg "TooMany" 97:=⟨d8 O,by kernel_rfl⟩
def E7:=fnX O "fraction_of" 9 E8 105 ["top","bottom"]
def Bk:=fnX O "greatest_divisor" 15 E8 147 PP
def FQ:=fnX O "common_bottom" 16 E8 154 ["bottoms"]
def Dl:=fnX O "frac_total" 17 E8 159 ["some"]
def Fy:=fnX O "power_of" 18 E8 166 ["base","power"]
def Ru:=fnX O "gathered" 31 D9 244 ["terms"]
def GD:=fnX O "worth_at" 32 D9 249 ["some","start"]
def Hb:=fnX O "term_worth" 33 D9 256 ["powers","part","start"]
def T6:=fnX O "is_tree" 36 Et 263 ["thing"]
def LR:=fnX O "knots_within" 41 Et 296 ["tree"]
def Lr:=fnX O "turns_within" 42 Et 303 ["tree"]
def Io:=fnX O "trees_one_larger" 44 Et 317 ["tree"]
def Ej:=fnX O "bent_polys" 57 Ih 382 ["change","tree","known"]
def Dd:=fnX O "along_boughs" 58 Ih 389 ["some","boughs"]
def EF:=fnX O "bent_worths" 59 Ih 394 ["change","tree","start","known"]
def IX:=fnX O "pushed_by" 60 Ih 401 ["some","speeds"]
def KG:=fnX O "grove_rows" 66 UM 421 ["change","start","weighing"]
def Ml:=fnX O "ties_within" 71 Zt 445 ["tree"]
def FY:=fnX O "followed_changes" 74 Hn 457 ["change","weighing"]
def O7:=fnX O "_law_frac" 83 FP 505 ["_law_top","_law_bottom"]
def jv:=M3 (P:=D6.prog) (w:=w) (base:=base) (Bk O) (JZ O)
def rp:=SE (E7 O) (Bk O) (jv O (base:=base))
def mm:=X8 (P:=D6.prog) (w:=w) (base:=base) (Fy O)
def yX:=QG (FQ O) (Bk O) (jv O (base:=base))
def oM:=TC (Dl O) (FQ O) (E7 O) (yX O (base:=base)) (rp O (base:=base)) (VR O)
def AAJ:=TJ (Hb O) (Fy O) (mm O (base:=base)) (Vd O)
def AAB:=X2 (GD O) (Dl O) (Hb O) (oM O (base:=base)) ((AAJ O (base:=base)).mono)
def zQ:=Yc (k:=6) (Ru O) (Dl O) ((oM O (base:=base)).mono) (FX O)
def zq:=XQ (P:=D6.prog) (w:=w) (base:=base) (O7 O) (JZ O)
theorem GA:Ax w mg base "fraction_of" 9 E8 105 ["top","bottom"] Ac 3 (Aw FR):=⟨(E7 O),((rQ (rp O (base:=base))).mono)⟩
theorem J3:Ax w mg base "_law_frac" 83 FP 505 ["_law_top","_law_bottom"] Ac 2 (Aw FR):=⟨(O7 O),((rQ (zq O (base:=base))).mono)⟩
theorem K8:Ax w mg base "gathered" 31 D9 244 ["terms"] Ac 7 (Aw Q2):=⟨(Ru O),((zZ (zQ O (base:=base))).mono)⟩
theorem YK:Ax w mg base "worth_at" 32 D9 249 ["some","start"] Ac 9 (Aw UD):=⟨(GD O),((zj (AAB O (base:=base))).mono)⟩
theorem Hu:Ax w mg base "greatest_divisor" 15 E8 147 PP Ac 1 (Aw Wl):=⟨(Bk O),(AAG (jv O (base:=base)))⟩
theorem O8:Ax w mg base "power_of" 18 E8 166 ["base","power"] Ac 1 (Aw Tz):=⟨(Fy O),(zb (mm O (base:=base)))⟩
noncomputable abbrev Kz:=Cb
theorem P4:Ax w mg base "powers_joined" 30 D9 237 ["powers","more"] Ac 1 (Aw Kz):=mE O fun sc cdv A outer s H E hr=>by
 repeat' walk_at "g"
noncomputable abbrev RU:=EO
theorem YY:Ax w mg base "one_less" 29 D9 232 ["powers","k"] Ac 1 (Aw RU):=mE O fun sc cdv A outer s H E hr=>by
 repeat' walk_at "g"
noncomputable abbrev Jk:=CG FR
theorem Mt:Ax w mg base "frac_times" 11 E8 119 PP Ac 7 (Aw Jk):=mE O fun sc cdv A outer s H E hr=>by
 have a_fraction_of:=GA O (base:=base)
 repeat' walk_at "g"
noncomputable abbrev JV:=Cc Q2
theorem O9:Ax w mg base "poly_sum" 20 D9 173 PP Ac 8 (Aw JV):=mE O fun sc cdv A outer s H E hr=>by
 have a_gathered:=K8 O (base:=base)
 repeat' walk_at "g"
noncomputable abbrev Jw:=Dy Q2 Kz
theorem U1:Ax w mg base "poly_times" 21 D9 180 PP Ac 8 (Aw Jw):=mE O fun sc cdv A outer s H E hr=>by
 have a_gathered:=K8 O (base:=base);have a_powers_joined:=P4 O (base:=base)
 repeat' walk_at "g"
noncomputable abbrev Ge:=A7 Jk
theorem IQ:Ax w mg base "poly_scaled" 22 D9 185 ["some","part"] Ac 8 (Aw Ge):=mE O fun sc cdv A outer s H E hr=>by
 have a_frac_times:=Mt O (base:=base)
 repeat' walk_at "g"
noncomputable abbrev HP:=B6 Jk RU
theorem Mm:Ax w mg base "poly_slope" 23 D9 190 ["some","k"] Ac 8 (Aw HP):=mE O fun sc cdv A outer s H E hr=>by
 have a_frac_times:=Mt O (base:=base);have a_one_less:=YY O (base:=base)
 repeat' walk_at "g"
theorem K5:∀n,Ax w mg base "along_boughs" 58 Ih 389 ["some","boughs"] Ac (8+n+1) (Aw (Dc HP JV Jw n))
 |0=>Zn (Dd O)
 |n+1=>Xb (k:=8+n+1) (Dd O) D5 fun sc cdv A outer s H E hr=>by
  have a_along_boughs:=K5 n;have a_poly_slope:=Mm O (base:=base);have a_poly_sum:=O9 O (base:=base);have a_poly_times:=U1 O (base:=base)
  repeat' walk_at "g"
noncomputable abbrev Tj:=Dc HP JV Jw 3
theorem Qa:Ax w mg base "along_boughs" 58 Ih 389 ["some","boughs"] Ac 12 (Aw Tj):=K5 O 3
noncomputable abbrev Yd:=PJ Ge HP JV
theorem Vv:Ax w mg base "pushed_by" 60 Ih 401 ["some","speeds"] Ac 9 (Aw Yd):=mE O fun sc cdv A outer s H E hr=>by
 have a_poly_scaled:=IQ O (base:=base);have a_poly_slope:=Mm O (base:=base);have a_poly_sum:=O9 O (base:=base)
 repeat' walk_at "g"
noncomputable abbrev Lz:=Ce
theorem PN:Ax w mg base "is_whole" 14 E8 140 ["thing"] Ac 1 (Aw Lz):=mE O fun sc cdv A outer s H E hr=>by
 repeat' walk_at "g"
noncomputable abbrev I0:=B8 Wl Lz
theorem Ls:Ax w mg base "is_fraction" 12 E8 126 ["thing"] Ac 3 (Aw I0):=mE O fun sc cdv A outer s H E hr=>by
 have a_greatest_divisor:=Hu O (base:=base);have a_is_whole:=PN O (base:=base)
 repeat' walk_at "g"
noncomputable abbrev HM:=Bc I0
theorem Jp:Ax w mg base "are_fractions" 13 E8 133 ["thing"] Ac 4 (Aw HM):=mE O fun sc cdv A outer s H E hr=>by
 have a_is_fraction:=Ls O (base:=base)
 repeat' walk_at "g"
noncomputable abbrev Nd:=Em Lz
theorem U8:Ax w mg base "are_powers" 26 D9 211 ["thing","unknowns"] Ac 2 (Aw Nd):=mE O fun sc cdv A outer s H E hr=>by
 have a_is_whole:=PN O (base:=base)
 repeat' walk_at "g"
noncomputable abbrev UG:=HA Nd I0
theorem dF:Ax w mg base "is_term" 25 D9 204 ["thing","unknowns"] Ac 4 (Aw UG):=mE O fun sc cdv A outer s H E hr=>by
 have a_are_powers:=U8 O (base:=base);have a_is_fraction:=Ls O (base:=base)
 repeat' walk_at "g"
noncomputable abbrev UX:=HG UG
theorem dG:Ax w mg base "is_poly" 24 D9 197 ["thing","unknowns"] Ac 5 (Aw UX):=mE O fun sc cdv A outer s H E hr=>by
 have a_is_term:=dF O (base:=base)
 repeat' walk_at "g"
noncomputable abbrev PU:=FF UX
theorem V3:Ax w mg base "is_change" 55 Ih 370 ["thing"] Ac 6 (Aw PU):=mE O fun sc cdv A outer s H E hr=>by
 have a_is_poly:=dG O (base:=base)
 repeat' walk_at "g"
noncomputable abbrev C5:=Ab Wl
theorem Dz:Ax w mg base "common_bottom" 16 E8 154 ["bottoms"] Ac 3 (Aw C5):=mE O fun sc cdv A outer s H E hr=>by
 have a_greatest_divisor:=Hu O (base:=base)
 repeat' walk_at "g"
noncomputable abbrev Rc:=Fz C5
theorem YZ:Ax w mg base "grain_of" 46 JG 322 ["start"] Ac 4 (Aw Rc):=mE O fun sc cdv A outer s H E hr=>by
 have a_common_bottom:=Dz O (base:=base)
 repeat' walk_at "g"
noncomputable abbrev Hh:=Be C5
theorem KS:Ax w mg base "speeds_bottom" 52 JG 356 ["change"] Ac 4 (Aw Hh):=mE O fun sc cdv A outer s H E hr=>by
 have a_common_bottom:=Dz O (base:=base)
 repeat' walk_at "g"
noncomputable abbrev Gi:=BH
theorem JI:Ax w mg base "greatest_power" 53 JG 363 ["change"] Ac 1 (Aw Gi):=mE O fun sc cdv A outer s H E hr=>by
 repeat' walk_at "g"
noncomputable abbrev Nz:=Dp Tz
theorem U3:Ax w mg base "whole_poly" 51 JG 351 ["some","bottom","grain","greatest"] Ac 3 (Aw Nz):=mE O fun sc cdv A outer s H E hr=>by
 have a_power_of:=O8 O (base:=base)
 repeat' walk_at "g"
noncomputable abbrev IB:=Bq Gi Hh Nz
theorem K4:Ax w mg base "whole_change" 50 JG 344 ["change","grain"] Ac 5 (Aw IB):=mE O fun sc cdv A outer s H E hr=>by
 have a_greatest_power:=JI O (base:=base);have a_speeds_bottom:=KS O (base:=base);have a_whole_poly:=U3 O (base:=base)
 repeat' walk_at "g"
noncomputable abbrev Nh:=DV Gi Tz Hh
theorem RJ:Ax w mg base "pace_of" 47 JG 329 ["change","grain"] Ac 5 (Aw Nh):=mE O fun sc cdv A outer s H E hr=>by
 have a_greatest_power:=JI O (base:=base);have a_power_of:=O8 O (base:=base);have a_speeds_bottom:=KS O (base:=base)
 repeat' walk_at "g"
noncomputable abbrev KZ:=CI C5 FR
theorem Mi:Ax w mg base "frac_total" 17 E8 159 ["some"] Ac 4 (Aw KZ):=mE O fun sc cdv A outer s H E hr=>by
 have a_common_bottom:=Dz O (base:=base);have a_fraction_of:=GA O (base:=base)
 repeat' walk_at "g"
noncomputable abbrev Oz:=FE FR
theorem Vx:Ax w mg base "frac_less" 10 E8 112 PP Ac 4 (Aw Oz):=mE O fun sc cdv A outer s H E hr=>by
 have a_fraction_of:=GA O (base:=base)
 repeat' walk_at "g"
theorem Qx:∀n,Ax w mg base "is_tree" 36 Et 263 ["thing"] Ac (0+n+1) (Aw (DY n))
 |0=>Zn (T6 O)
 |n+1=>Xb (k:=0+n+1) (T6 O) D5 fun sc cdv A outer s H E hr=>by
  have a_is_tree:=Qx n
  repeat' walk_at "g"
noncomputable abbrev UW:=DY 4
theorem b8:Ax w mg base "is_tree" 36 Et 263 ["thing"] Ac 5 (Aw UW):=Qx O 4
noncomputable abbrev Je:=Cq UW 49
theorem Ot:Ax w mg base "refuse_no_tree" 39 Et 284 ["thing"] (CO D6.prog w) 7 (FW Je):=Nl (k:=6) (fnX O _ _ _ _ _) D5 fun sc cdv A outer s H E hr=>by
 have a_is_tree:=b8 O (base:=base);have We:=We O
 repeat' walk_at "g"
theorem Kq:∀n,Ax w mg base "knots_within" 41 Et 296 ["tree"] Ac (0+n+1) (Aw (Bo n))
 |0=>Zn (LR O)
 |n+1=>Xb (k:=0+n+1) (LR O) D5 fun sc cdv A outer s H E hr=>by
  have a_knots_within:=Kq n
  repeat' walk_at "g"
noncomputable abbrev LV:=Bo 4
theorem Qt:Ax w mg base "knots_within" 41 Et 296 ["tree"] Ac 5 (Aw LV):=Kq O 4
theorem K0:∀n,Ax w mg base "turns_within" 42 Et 303 ["tree"] Ac (0+n+1) (Aw (Bp n))
 |0=>Zn (Lr O)
 |n+1=>Xb (k:=0+n+1) (Lr O) D5 fun sc cdv A outer s H E hr=>by
  have a_turns_within:=K0 n
  repeat' walk_at "g"
noncomputable abbrev Lm:=Bp 4
theorem RG:Ax w mg base "turns_within" 42 Et 303 ["tree"] Ac 5 (Aw Lm):=K0 O 4
noncomputable abbrev Kw:=C3
theorem Pl:Ax w mg base "product_up_to" 43 Et 310 ["many"] Ac 1 (Aw Kw):=mE O fun sc cdv A outer s H E hr=>by
 repeat' walk_at "g"
noncomputable abbrev C2:=Ao
theorem Hr:Ax w mg base "in_falling_order" 40 Et 291 ["boughs"] Ac 1 (Aw C2):=mE O fun sc cdv A outer s H E hr=>by
 repeat' walk_at "g"
theorem Ho:∀n,Ax w mg base "trees_one_larger" 44 Et 317 ["tree"] Ac (1+n+1) (Aw (BP C2 n))
 |0=>Zn (Io O)
 |n+1=>Xb (k:=1+n+1) (Io O) D5 fun sc cdv A outer s H E hr=>by
  have a_trees_one_larger:=Ho n;have a_in_falling_order:=Hr O (base:=base)
  repeat' walk_at "g"
noncomputable abbrev Ij:=BP C2 4
theorem M5:Ax w mg base "trees_one_larger" 44 Et 317 ["tree"] Ac 6 (Aw Ij):=Ho O 4
noncomputable abbrev JR:=Bv Ij 97
theorem LK:Ax w mg base "trees_of" 37 Et 270 ["many"] (CO D6.prog w) 8 (FW JR):=Nl (k:=7) (fnX O _ _ _ _ _) D5 fun sc cdv A outer s H E hr=>by
 have a_trees_one_larger:=M5 O (base:=base);have HY:=HY O;have Kr:=Kr O
 repeat' walk_at "g"
noncomputable abbrev Q5:=F4 JR 97
theorem YW:Ax w mg base "trees_to" 38 Et 277 ["most"] (CO D6.prog w) 9 (FW Q5):=Nl (k:=8) (fnX O _ _ _ _ _) D5 fun sc cdv A outer s H E hr=>by
 have a_trees_of:=LK O (base:=base);have HY:=HY O;have Kr:=Kr O
 repeat' walk_at "g"
noncomputable abbrev IV:=Ag
theorem Jh:Ax w mg base "tops_over" 49 JG 339 ["some","bottom"] Ac 1 (Aw IV):=mE O fun sc cdv A outer s H E hr=>by
 repeat' walk_at "g"
noncomputable abbrev Mg:=CM IV
theorem Tb:Ax w mg base "whole_start" 48 JG 334 ["start","grain"] Ac 2 (Aw Mg):=mE O fun sc cdv A outer s H E hr=>by
 have a_tops_over:=Jh O (base:=base)
 repeat' walk_at "g"
noncomputable abbrev Fu:=A2 PU 61
theorem Hm:Ax w mg base "refuse_no_change" 56 Ih 377 ["thing"] (CO D6.prog w) 7 (FW Fu):=Nl (k:=6) (fnX O _ _ _ _ _) D5 fun sc cdv A outer s H E hr=>by
 have a_is_change:=V3 O (base:=base);have RF:=RF O
 repeat' walk_at "g"
noncomputable abbrev Lh:=CC 73
theorem RK:Ax w mg base "refuse_start" 28 D9 225 [] (CO D6.prog w) 6 (FW Lh):=Nl (k:=5) (fnX O _ _ _ _ _) D5 fun sc cdv A outer s H E hr=>by
 have UY:=UY O
 repeat' walk_at "g"
noncomputable abbrev JF:=Bt HM Lh
theorem Nn:Ax w mg base "refuse_no_start" 27 D9 218 ["thing","unknowns"] (CO D6.prog w) 7 (FW JF):=Nl (k:=6) (fnX O _ _ _ _ _) D5 fun sc cdv A outer s H E hr=>by
 have a_are_fractions:=Jp O (base:=base);have a_refuse_start:=RK O (base:=base)
 repeat' walk_at "g"
noncomputable abbrev HU:=CA HM 85
theorem Lb:Ax w mg base "refuse_no_weighing" 64 nJ 416 ["thing"] (CO D6.prog w) 7 (FW HU):=Nl (k:=6) (fnX O _ _ _ _ _) D5 fun sc cdv A outer s H E hr=>by
 have a_are_fractions:=Jp O (base:=base);have EV:=EV O;have EM:=EM (w:=w);have OB:=OB O
 repeat' walk_at "g"
noncomputable abbrev Ex:=Az HU
theorem GJ:Ax w mg base "weighing_reach" 63 nJ 409 ["weighing"] (CO D6.prog w) 8 (FW Ex):=Nl (k:=7) (fnX O _ _ _ _ _) D5 fun sc cdv A outer s H E hr=>by
 have a_refuse_no_weighing:=Lb O (base:=base);have EV:=EV O;have EM:=EM (w:=w)
 repeat' walk_at "g"
theorem LY:∀n,Ax w mg base "ties_within" 71 Zt 445 ["tree"] Ac (1+n+1) (Aw (B9 C2 n))
 |0=>Zn (Ml O)
 |n+1=>Xb (k:=1+n+1) (Ml O) D5 fun sc cdv A outer s H E hr=>by
  have a_ties_within:=LY n;have a_in_falling_order:=Hr O (base:=base)
  repeat' walk_at "g"
noncomputable abbrev Ms:=B9 C2 4
theorem Sl:Ax w mg base "ties_within" 71 Zt 445 ["tree"] Ac 6 (Aw Ms):=LY O 4
noncomputable abbrev PY:=FG Je Ms
theorem XE:Ax w mg base "tree_ties" 70 Zt 438 ["tree"] Ac 8 (Aw PY):=mE O fun sc cdv A outer s H E hr=>by
 have a_refuse_no_tree:=Ot O (base:=base);have a_ties_within:=Sl O (base:=base)
 repeat' walk_at "g"
noncomputable abbrev Nv:=Ep
theorem VC:Ax w mg base "move_share" 76 Hn 469 ["trunk_moves","j","number"] Ac 1 (Aw Nv):=mE O fun sc cdv A outer s H E hr=>by
 repeat' walk_at "g"
noncomputable abbrev Mh:=EI KZ LV Nv PY
theorem Tn:Ax w mg base "later_moves" 75 Hn 462 ["tree","moves"] Ac 10 (Aw Mh):=mE O fun sc cdv A outer s H E hr=>by
 have a_frac_total:=Mi O (base:=base);have a_knots_within:=Qt O (base:=base);have a_move_share:=VC O (base:=base);have a_tree_ties:=XE O (base:=base)
 repeat' walk_at "g"
noncomputable abbrev Lu:=Dh KZ Kw
theorem Q6:Ax w mg base "later_weight" 77 Hn 474 ["later"] Ac 5 (Aw Lu):=mE O fun sc cdv A outer s H E hr=>by
 have a_frac_total:=Mi O (base:=base);have a_product_up_to:=Pl O (base:=base)
 repeat' walk_at "g"
noncomputable abbrev Hs:=CF Oz Mh Lu Q5 Ex
theorem Mc:Ax w mg base "followed_weighing" 73 Hn 450 ["weighing"] (CO D6.prog w) 11 (FW Hs):=Nl (k:=10) (fnX O _ _ _ _ _) D5 fun sc cdv A outer s H E hr=>by
 have a_frac_less:=Vx O (base:=base);have a_later_moves:=Tn O (base:=base);have a_later_weight:=Q6 O (base:=base);have a_trees_to:=YW O (base:=base);have a_weighing_reach:=GJ O (base:=base)
 repeat' walk_at "g"
noncomputable abbrev LM:=CY Lm
theorem Nj:Ax w mg base "shares_of" 67 UM 426 ["trees","weights"] Ac 6 (Aw LM):=mE O fun sc cdv A outer s H E hr=>by
 have a_turns_within:=RG O (base:=base)
 repeat' walk_at "g"
noncomputable abbrev Mx:=EH C5 FR IV
theorem S0:Ax w mg base "shared_sums" 68 UM 431 ["shares","bends","bottom"] Ac 5 (Aw Mx):=mE O fun sc cdv A outer s H E hr=>by
 have a_common_bottom:=Dz O (base:=base);have a_fraction_of:=GA O (base:=base);have a_tops_over:=Jh O (base:=base)
 repeat' walk_at "g"
theorem VJ:Ax w mg base "bent_polys" 57 Ih 382 ["change","tree","known"] Ac 16 (Ug Mk):=⟨(Ej O),(AAI (fun a o=>Mr (k:=12) zK o.1 (Ej O) (Dd O) ((Qa O).up AC) 3))⟩
theorem SY:Ax w mg base "bent_worths" 59 Ih 394 ["change","tree","start","known"] Ac 13 (Ug O2):=⟨(EF O),(AAY (fun a o=>Lo (k:=9) zK o.1 (EF O) (IX O) (GD O) ((Vv O).up AC) ((YK O).up AC) (FI O) 3))⟩
noncomputable abbrev Hl:=Dq O2 Rc Nh Fu JF Mx LM JR Ex IB Mg Wk
theorem VO:Ax w mg base "grove_rows" 66 UM 421 ["change","start","weighing"] (CO D6.prog w) 17 (FW Hl):=Nl (k:=16) (fnX O _ _ _ _ _) D5 fun sc cdv A outer s H E hr=>by
 have a_bent_worths:=SY O (base:=base);have a_grain_of:=YZ O (base:=base);have a_pace_of:=RJ O (base:=base);have a_refuse_no_change:=Hm O (base:=base);have a_refuse_no_start:=Nn O (base:=base);have a_shared_sums:=S0 O (base:=base);have a_shares_of:=Nj O (base:=base);have a_trees_of:=LK O (base:=base);have a_weighing_reach:=GJ O (base:=base);have a_whole_change:=K4 O (base:=base);have a_whole_start:=Tb O (base:=base);have h_grove_rows:∀(δ:Dv) (G:Hp) (a:AD),(Wk δ).ok G a (dN a []):=fun _ G a=>de G a
 repeat' walk_at "g"
noncomputable abbrev LZ:=Df LM
theorem QX:Ax w mg base "shared_trees" 78 Hn 479 ["trees","numbers"] Ac 7 (Aw LZ):=mE O fun sc cdv A outer s H E hr=>by
 have a_shares_of:=Nj O (base:=base)
 repeat' walk_at "g"
noncomputable abbrev Ny:=Cv Q2 Ge
theorem U6:Ax w mg base "topped_sum" 80 Hn 491 ["polys","tops"] Ac 9 (Aw Ny):=mE O fun sc cdv A outer s H E hr=>by
 have a_gathered:=K8 O (base:=base);have a_poly_scaled:=IQ O (base:=base)
 repeat' walk_at "g"
noncomputable abbrev JE:=Ci Mk C5 Ge Ny IV
theorem NT:Ax w mg base "followed_change" 79 Hn 484 ["moving","shared","bottom","known"] Ac 17 (Ug JE):=mkG (k:=16) (fnX O _ _ _ _ _) D5 fun sc cdv A outer s H E hr=>by
 have a_bent_polys:=VJ O (base:=base);have a_common_bottom:=Dz O (base:=base);have a_poly_scaled:=IQ O (base:=base);have a_topped_sum:=U6 O (base:=base);have a_tops_over:=Jh O (base:=base)
 repeat' walk_at "g"
noncomputable abbrev EN:=B4 JE Hs Nh Fu LZ JR Ex IB Xl
theorem M7:Ax w mg base "followed_changes" 74 Hn 457 ["change","weighing"] (CO D6.prog w) 18 (FW EN):=Nl (k:=17) (fnX O _ _ _ _ _) D5 fun sc cdv A outer s H E hr=>by
 have a_followed_change:=NT O (base:=base);have a_followed_weighing:=Mc O (base:=base);have a_pace_of:=RJ O (base:=base);have a_refuse_no_change:=Hm O (base:=base);have a_shared_trees:=QX O (base:=base);have a_trees_of:=LK O (base:=base);have a_weighing_reach:=GJ O (base:=base);have a_whole_change:=K4 O (base:=base);have h_followed_changes:∀(δ:Dv) (G:Hp) (a:AD),(Xl δ).ok G a (dN a []):=fun _ G a=>de G a
 repeat' walk_at "g"
theorem Mz:Ax w mg base "grove_rows" 66 UM 421 ["change","start","weighing"] (CO D6.prog w) 17 (FW (only refs Hl)):=⟨(KG O),Xi refs (VO O).f⟩
theorem Ht:Ax w mg base "followed_changes" 74 Hn 457 ["change","weighing"] (CO D6.prog w) 18 (FW (only refs EN)):=⟨(FY O),Xi refs (M7 O).f⟩
noncomputable abbrev IZ:=A3
theorem Ji:Ax w mg base "_law_cell" 82 FP 498 ["_law_script","_law_k"] Ac 1 (Aw IZ):=mE O fun sc cdv A outer s H E hr=>by
 repeat' walk_at "g"
noncomputable abbrev Qk:=F3 FR
theorem YV:Ax w mg base "_law_add" 84 FP 512 ["_law_one","_law_other"] Ac 3 (Aw Qk):=mE O fun sc cdv A outer s H E hr=>by
 have l:=J3 O (base:=base)
 repeat' walk_at "g"
noncomputable abbrev Kv:=DC Qk
theorem Px:Ax w mg base "_law_gathered" 87 FP 531 ["_law_terms"] Ac 4 (Aw Kv):=mE O fun sc cdv A outer s H E hr=>by
 have l:=YV O (base:=base)
 repeat' walk_at "g"
noncomputable abbrev Mn:=Cj
theorem TR:Ax w mg base "_law_powers" 88 FP 536 ["_law_many"] Ac 1 (Aw Mn):=mE O fun sc cdv A outer s H E hr=>by
 repeat' walk_at "g"
noncomputable abbrev Mw:=EE IZ FR Kv Mn
theorem TU:Ax w mg base "_law_change" 89 FP 543 ["_law_script","_law_at","_law_most"] Ac 5 (Aw Mw):=mE O fun sc cdv A outer s H E hr=>by
 have T:=Ji O (base:=base);have M:=J3 O (base:=base);have l:=Px O (base:=base);have I:=TR O (base:=base)
 repeat' walk_at "g"
noncomputable abbrev N9:=En IZ FR
theorem VP:Ax w mg base "_law_start" 90 FP 550 ["_law_script","_law_at","_law_many"] Ac 3 (Aw N9):=mE O fun sc cdv A outer s H E hr=>by
 have I:=Ji O (base:=base);have l:=J3 O (base:=base)
 repeat' walk_at "g"
noncomputable abbrev PH:=GU
theorem WL:Ax w mg base "_law_copy" 91 FP 555 ["_law_change_here"] Ac 1 (mS PH):=mkN (fnX O "_law_copy" 91 FP 555 ["_law_change_here"]) D5 fun sc cdv A outer s H E hr=>by
 repeat' walk_at "g"
noncomputable abbrev NS:=CK (only refs EN) (only refs Hl) (Kl 61) (Kl 73) (Kl 49) (Kl 85) fT
theorem U4:Ax w mg base "_law_kinds" 92 FP 562 ["_law_change_here","_law_start_here","_law_weighing","_law_whole"] Ac 19 (Aw NS):=mE O fun sc cdv A outer s H E hr=>by
 have FY:=(Ht O (base:=base)).t;have OG:=(Ht O (base:=base)).up (show 18<=18 by decide);have KG:=(Mz O (base:=base)).t;have V9:=(Mz O (base:=base)).up (show 17<=18 by decide);have Hf:=Hf O;have Ba:=Ba O;have Jo:=Jo O;have JQ:=JQ O;have Ki:=Ki O;have ML:=ML O;have HQ:=HQ O;have U:∀(C:AD) (b:Bool),(Kl 61) C=some b->DN IF C/\kitOne IF TW (EB (.ref 61))=some b:=Va (c:=61) GX HH E4;have Y:∀(C:AD) (b:Bool),(Kl 73) C=some b->DN IF C/\kitOne IF TW (EB (.ref 73))=some b:=Va (c:=73) GX HH E4;have Z:∀(C:AD) (b:Bool),(Kl 49) C=some b->DN IF C/\kitOne IF TW (EB (.ref 49))=some b:=Va (c:=49) GX HH E4;have T:∀(C:AD) (b:Bool),(Kl 85) C=some b->DN IF C/\kitOne IF TW (EB (.ref 85))=some b:=Va (c:=85) GX HH E4;have M:∀(C:AD) (b:Bool),fT C=some b->DN IF C/\kitOne IF TW (EB (.ty "ValueError"))=some b:=xS GX HH E4;have l:∀ds C,only refs EN ds=some (.inr C)->El IF C 24 true:=fun ds C h=>bb C (Zu h);have I:∀ds C,only refs Hl ds=some (.inr C)->El IF C 24 true:=fun ds C h=>bb C (Zu h);exact(KL (RV (i:=4) sc.nd rfl IN Wv)
 (KL (pT (k:=5) (Sv (yT (gF (Dr (pv 3))) (Sv (Y4 KG V9 hr (by exact(Eg (Dr (pv 0)) (Eg (Dr (pv 1)) (Eg (Dr (pv 2)) Lw)))))
   XY) (Sv (Y4 FY OG hr (by exact(Eg (Dr (pv 0)) (Eg (Dr (pv 2)) Lw))))
   XY))
  XY) sc.nd (CU.at (P:=fun C=>El IF C 24 true) (CU.seq (CU.if (CU.seq (CU.call I) CU.nil) (CU.seq (CU.call l) CU.nil)) CU.nil)) Jo (fun ea=>(OT (RV (i:=4) sc.nd rfl IN (Dr (pv 5))))))
 (KL (mL (eZ nE (Dr (pv 4)) Wv (FC _))
  (OT (WA (Rf Lw)))
  ZR)
 (KL (RV (i:=6) sc.nd rfl IN (Rf (Eg (J5 U NE rfl Ba (Gs (v:=.ref 61) rfl JQ rfl) (Dr (pv 4))) (Eg (J5 Y NE rfl Ba (Gs (v:=.ref 73) rfl Ki rfl) (Dr (pv 4))) (Eg (J5 T NE rfl Ba (Gs (v:=.ref 85) rfl HQ rfl) (Dr (pv 4))) Lw)))))
 (OT (WA (nK f9 (Dr (pv 6)) (Rf (Eg (J5 Z NE rfl Ba (Gs (v:=.ref 49) rfl ML rfl) (Dr (pv 4))) (Eg (J5 M NE rfl Ba (SA (v:=.ty "ValueError") rfl Hf PyProof.Rows.Boot.«ValueError» rfl) (Dr (pv 4))) Lw))))))))))
noncomputable abbrev JD:=Cf PH
theorem NW:Ax w mg base "_law_bad_change" 93 FP 569 ["_law_change_here","_law_cell_here"] Ac 2 (Aw JD):=mE O fun sc cdv A outer s H E hr=>by
 have l:=WL O (base:=base)
 repeat' walk_at "g"
noncomputable abbrev wu:=mz JD IZ Mw NS N9
theorem so:Ax w mg base "law" 94 FP 576 ["_law_script"] Ac 20 (Aw wu):=mE O fun sc cdv A outer s H E hr=>by
 have l:=NW O (base:=base);have U:=Ji O (base:=base);have I:=TU O (base:=base);have T:=U4 O (base:=base);have M:=VP O (base:=base)
 repeat' walk_at "g"
end
section
open PySem.W
def AAA w mg I h (X:(kH w.params).In h) (G:h.Ns mainGlobals mg) (l:mg "law" = some (.ref I)):∃fd ,(∀s v,BindsTo s fd ⟨[v],[]⟩ [("_law_script",v)])/\∀base:Heap,(kH w.params).In base->base.Ns mainGlobals mg->Af D6.prog w IF mg base Ac 20 I fd ["_law_script"] (mT IF):=by
 have e:=l.symm.trans (mg_of X G (v:=.ref 577) IO);cases e;exact⟨_,fun s v=>.of_eq rfl,fun base _ _=>tX IO (so ⟨h,X,G⟩ ).f⟩
def walkX:WalkO qX [] (XL qX []) hX.says D6.row.toRowW dX [] (fun f vs=>PySem.call f vs) :=
 L2.qd rfl AC rfl ⟨rfl,by decide,by decide⟩ (fun w mg h X G H=>.no (mg_none_of X G Iq) (mg_none_of X G Iq) H) (fun w h Y=>kIn_of Y) AAA (fun _ _ a ns l _ I=>⟨a,ns,rfl,I,l,fun _=>rfl⟩) fun _ _ _ _ _ z=>z
end
end Q45
open PySem PySem.W PyProof.Rows
set_option maxRecDepth 100000 in
theorem PySem.Challenge.cw_stepgrove_k45_refused_sums_holds : PySem.Challenge.rw_stepgrove_k45_refused_sums.Holds := by
  refine Q45.openX ?hw Q45.walkX
  w_witness2
#print axioms PySem.Challenge.cw_stepgrove_k45_refused_sums_holds
