import PyProof.Rows.All
import Wide.All
import OpenK.AllK
import Wide.FinOn
import Lean
import PyProof.EqAt
import PyProof.EqKinds
import PyProof.TupleCall
import PySem.Challenge.RW_stepgrove_k45_refused_sums
set_option Elab.async false
set_option linter.all false
set_option compiler.extract_closed false
set_option maxRecDepth 100000
noncomputable section
abbrev AU:=@List.length_map
abbrev Ar:=@List.getElem?_map
abbrev BM:=@List.map_cons
abbrev Ca:=@List.length_append
abbrev BZ:=@List.map_map
abbrev C8:=@Option.bind_some
abbrev DC:=@List.map_append
abbrev Io:=@List.getD_eq_getElem?_getD
abbrev Ex:=@List.length_take
abbrev FU:=@List.length_cons
abbrev Fm:=@List.take_length
abbrev HW:=@List.size_toArray
abbrev HG:=@Bool.and_eq_true
abbrev GH:=@List.sum_cons
abbrev Ir:=@List.take_add_one
abbrev KP:=@List.lookup_cons
abbrev Jk:=@List.find?_cons
abbrev LJ:=@PySem.Heap.size_push
abbrev MN:=@List.append_nil
abbrev XR:=@Array.getD_eq_getD_getElem?
abbrev SO:=@Array.getElem?_toList
abbrev XB:=@List.getElem?_replicate
abbrev Sh:=@List.filterMap_cons
abbrev TM:=@Int.toNat_natCast
abbrev R8:=@Bool.not_eq_true
abbrev WY:=@Array.length_toList
abbrev VX:=@List.length_reverse
abbrev MD:=List PySem.PyData->Option PySem.PyData
abbrev Fg:=PySem.W.Frag
abbrev Wb:=@PySem.wpAny_bind
abbrev PD:=PySem.PyData
abbrev SD:=PySem.Shared
abbrev VL:=PySem.Value
abbrev AD:=PySem.Addr
abbrev aA:=@Option.bind_eq_some_iff
abbrev aB:=@PySem.wpAny_pure
abbrev aC:=@Option.map_eq_some_iff
abbrev aD:=@List.getElem?_eq_some_iff
abbrev aE:=@Nat.lt_of_lt_of_le
abbrev aF:=@PySem.Heap.get?_push_of_some
abbrev aG:=@Nat.le_refl
abbrev aH:=@PySem.Heap.lt_size
abbrev aI:=@List.mem_map
abbrev aJ:=@List.mem_of_getElem?
abbrev aK:=@Nat.le_trans
abbrev aL:=@Nat.ne_of_lt
abbrev aM:=@Nat.pow_le_pow_right
abbrev aN:=@Bool.false_ne_true
abbrev aO:=@List.mem_cons
abbrev aP:=@Nat.lt_of_le_of_lt
abbrev aQ:=@List.mem_cons_of_mem
abbrev aR:=@PySem.Heap.get?_push_size
abbrev aS:=@List.mem_cons_self
abbrev aT:=@PySem.wpAny_holding
abbrev aU:=@PySem.wpAny_call_entry
abbrev aV:=@PySem.wpAny_mono
abbrev aW:=@Nat.mul_le_mul_left
abbrev aX:=@List.mem_append
abbrev aY:=@List.mem_append_right
abbrev aZ:=@PySem.Heap.SameBut.update
abbrev aa:=@Nat.le_of_lt
abbrev ae:=@PySem.wpAny_callSpecial?_slot
abbrev af:=@congrArg
abbrev ag:=@Option.some.inj
abbrev ah:=@Classical.choose_spec
abbrev ai:=@List.map_congr_left
abbrev aj:=@PySem.wpAny_newObj_type
abbrev ak:=@of_decide_eq_true
abbrev ao:=@List.getElem?_eq_getElem
abbrev aq:=@Nat.le_of_ble_eq_true
abbrev au:=@PySem.W.kia_one
abbrev av:=@List.all_eq_true
abbrev ax:=@PySem.wpAny_rule
abbrev ay:=@PySem.wpAny_setState_of
abbrev az:=@PySem.wpAny_field
abbrev bA:=@PyProof.Rows.callWith_type1
abbrev bC:=@Nat.zero_le
abbrev bE:=@PySem.wpAny_seqItems
abbrev bF:=@PySem.PassesOwn.never
abbrev bG:=@PySem.wpAny_Call_Name_kw
abbrev bH:=@Bool.eq_false_iff
abbrev bI:=@Nat.not_lt_zero
abbrev bJ:=@Int.ne_of_gt
abbrev bK:=@Nat.lt_succ_self
abbrev bL:=@List.mem_range
abbrev bM:=@PySem.Calls.spliced_cons
abbrev bN:=@of_decide_eq_false
abbrev bO:=@List.mem_of_find?_eq_some
abbrev bP:=@PyProof.Rows.slot_tuple_getitem
abbrev bQ:=@Nat.ne_of_gt
abbrev bR:=@PyProof.Rows.KeyOrd.kle_refl
abbrev bS:=@PySem.wpAny_ite_false
abbrev bT:=@List.getElem?_of_mem
abbrev bV:=@PySem.wpAny_truthy_bool
abbrev bW:=@Nat.lt_succ_of_lt
abbrev bX:=@List.ext_getElem?
abbrev bY:=@Int.mul_pos
abbrev bZ:=@Nat.lt_trans
abbrev ba:=@List.mem_iff_getElem?
abbrev bc:=@PyProof.Rows.boot_abs
abbrev bg:=@List.length_filter_le
abbrev bh:=@Nat.lt_irrefl
set_option maxHeartbeats 0
abbrev RW:=List PD->Option (List PD)
abbrev AAB:=Option (List PD)
abbrev AAK:=List PD
abbrev AAM:=List VL
abbrev AAN:=VL->SD->Prop
abbrev AAO:=PySem.Str->Option VL
abbrev AAP:=Option PD
abbrev AAS:=List Int
abbrev AAT:=List PySem.Str
abbrev AAU:=List PySem.Expr
abbrev AAd:=List Nat
abbrev AAe:=List Rat
abbrev AAh:=List AD
abbrev AAi:=List PySem.Stmt
abbrev AAk:=List (Option Nat)
abbrev F0a:=PySem.FuncData
abbrev F0b:=PySem.Program
abbrev F0c:=PySem.World
abbrev F0d:=PySem.Around
set_option hygiene false
local macro_rules|`(AC)=>`(by decide)
local macro_rules|`(AS)=>`(by lia)
local macro_rules|`(AT)=>`(fC (.int 1))
local macro_rules|`(As)=>`(model prog w)
local macro_rules|`(BH)=>`(Inv X pins σ H s)
local macro_rules|`(BY)=>`(by simp)
local macro_rules|`(By)=>`(fC (.int 0))
local macro_rules|`(B1)=>`(model X.prog X.w)
local macro_rules|`(CF)=>`(nm 0)
local macro_rules|`(Cb)=>`(nm 1)
local macro_rules|`(Ch)=>`(.head _)
local macro_rules|`(Cl)=>`(.Call (.Name x p) (e::es) [] pos)
local macro_rules|`(Da)=>`(fC (.bool false))
local macro_rules|`(Do)=>`({ s with heap:=((s.heap.update a (Obj.mapSeq fun _ => #[])).push (seqObj "tuple" us.toArray 0)).push (seqObj "list" #[] 0) })
local macro_rules|`(EQ)=>`(nm 2)
local macro_rules|`(Eo)=>`(by kernel_rfl)
local macro_rules|`(Ev)=>`(by assumption)
local macro_rules|`(FS)=>`(BP X scope cl N C s₀ H₀ fp)
local macro_rules|`(Fa)=>`((by have:=hr.units;exact this))
local macro_rules|`(Fb)=>`(Rw G0 H0 G H σ δ ts)
local macro_rules|`(Fj)=>`((false,eval e X.env))
local macro_rules|`(Fk)=>`((·.1))
local macro_rules|`(GE)=>`(Or.inl rfl)
local macro_rules|`(GM)=>`(List (List AY))
local macro_rules|`(Go)=>`(.ref s.heap.objs.size)
local macro_rules|`(Hq)=>`(by first|exact Or.inl rfl|exact Or.inr rfl)
local macro_rules|`(IF)=>`(by rfl)
local macro_rules|`(IN)=>`(x==("__debug__"))
local macro_rules|`(IO)=>`(((SetTable.insertAt ev (t.put j).2 (BD x,Value.ref xa))[·]?))
local macro_rules|`(IR)=>`(kH w.params)
local macro_rules|`(IS)=>`(X.A.units+64<cLine)
local macro_rules|`(Id)=>`(CM fun i j=>decide (j<i))
local macro_rules|`(Iv)=>`(.Name x np)
local macro_rules|`(Ix)=>`(.lst ys)
local macro_rules|`(Iz)=>`(.bool true)
local macro_rules|`(Jc)=>`(.ref a)
local macro_rules|`(KB)=>`(AA (nm 3) AB)
local macro_rules|`(KK)=>`(.tup xs)
local macro_rules|`(KM)=>`(.type "tuple")
local macro_rules|`(Kb)=>`(.list (AH rs))
local macro_rules|`(LE)=>`(List (AD×Obj))
local macro_rules|`(LK)=>`(aG _)
local macro_rules|`(LT)=>`({s with heap:=h',toks:=tk})
local macro_rules|`(L0)=>`(Dv->Option PD)
local macro_rules|`(M0)=>`(fun z=>nomatch z)
local macro_rules|`(NE)=>`(.lst [])
local macro_rules|`(No)=>`(fun cdv A outer s H vs Q E hr h=>?_)
local macro_rules|`(OF)=>`(AU)
local macro_rules|`(OK)=>`(i+1)
local macro_rules|`(ON)=>`(nm 4)
local macro_rules|`(OR)=>`(starEach es X.env)
local macro_rules|`(Of)=>`(fun vs H Q E h=>?_)
local macro_rules|`(On)=>`(Dv->Option (List PD))
local macro_rules|`(Os)=>`(["one","other"])
local macro_rules|`(PP)=>`(X.calm=true)
local macro_rules|`(Pi)=>`(L.map fun l=>V.ref l.2)
local macro_rules|`(Ps)=>`(s.heap.objs.size+1)
local macro_rules|`(P3)=>`(sh.map fun p=>pr p.1 p.2)
local macro_rules|`(Re)=>`(.ref C)
local macro_rules|`(Rs)=>`(by simp_all)
local macro_rules|`(SB)=>`(AA CF AB)
local macro_rules|`(SC)=>`(AA Cb AB)
local macro_rules|`(SL)=>`(AA AT AB)
namespace Opn
open PySem PySem.W PyProof.Rows PySem.Calls
noncomputable def q0:Pos:=⟨0,0,0,0⟩
noncomputable def xo:Obj:={ cls:=.type "tuple",data:=.seq #[]}
noncomputable def xp:Obj:={ cls:=.none,data:=.fields #[]}
noncomputable def x9:Obj:={ cls:=.type "code",data:=.fields #[.str (Str.ofString "<module>") 182,.str (Str.ofString "<module>") 183,.str (Str.ofString "/claim/cut.py") 184,.int 1 0,.int 0 0,.int 0 0,.int 0 0,.int 0 0,.ref 11,.bool false,.int 181 0,.ref 12,.none,.none,.none,.none,.int 185 0,.int 1 0,.str (Str.ofString "/claim/cut.py") 186]}
noncomputable def xu:Obj:={ cls:=.type "frame",slots:=#[some (.ref 13),some (.ref 3),some (.ref 3),none,some (.str (Str.ofString "__main__") 164),none,some (.ref 0)]}
def wW(P:Params):List Obj:=(boot_heap P).objs.toList++[xo,xp,x9,xu]
noncomputable def nN(P:Params)(o:Params->Obj)(l r:BT):BT:=.node (o P) l r
noncomputable def lN(P:Params)(o:Params->Obj):BT:=.node (o P) .nil .nil
def vy(P:Params):BT :=
 nN P boot_o_0 (nN P boot_o_1 (nN P boot_o_3 (lN P boot_o_7) (.node xo .nil .nil)) (nN P boot_o_5 (lN P boot_o_9) (.node x9 .nil .nil)))
  (nN P boot_o_2 (nN P boot_o_4 (lN P boot_o_8) (.node xp .nil .nil)) (nN P boot_o_6 (lN P boot_o_10) (.node xu .nil .nil)))
noncomputable def nY:Life:=Life.mk [] [] [] 0 [] [] false #[] [] 0 false false false 0 [2000,10,10] false 0 true [] [] 0 false
def sA(w:F0c)(os:OsState):SD:=⟨⟨⟨wW w.params⟩,nY⟩,#[],boot_drawn,187,os⟩
def sB(w:F0c)(os:OsState):SharedT:=⟨vy w.params,15,nY,#[],boot_drawn,187,os⟩
noncomputable def XC(p:F0b):Env:={ scope:=p.main.scope,locals:=mainNs,globals:=mainNs,cells:=[],code:=.ref 13,frame:=some 14}
def cB(p:F0b):Code:=.body (behindTheImports p) (XC p)
noncomputable abbrev Mb:Option VL:=some (.ref 6)
abbrev bB:List Frame:=[topFrame q0]
def uK(p:F0b)(M:Nat)(w:F0c)(os:OsState):Option (Flow×SharedT×Code×Pos) :=
 PySem.W.Fast.tw10110043849684766642 PySem.W.Fast.tw14364793385576792824 p w 11 Mb 1 M (sB w os) (piecesOf (behindTheImports p) (XC p) (cB p) q0 bB)
def jg(p:F0b)(M:Nat)(w:F0c)(os:OsState):SharedT:=match uK p M w os with|some (_,s,_)=>s|none=>sB w os
def uR{p:F0b}{M T:Nat}{l:Pos}{w:F0c}{os:OsState} (pre:topGo treeTable p w 11 Mb 12 ⟨boot_heap w.params,#[],boot_drawn,boot_toks,os⟩ (topStub p)=some (sA w os,⟨denote treeTable (cB p),cB p,q0,bB⟩)) (I:segRun treeTable p w 11 Mb 1 1 (sA w os) (blockOf (behindTheImports p) (XC p) (cB p) q0 bB)=some (.next,(sB w os).abs,cB p,q0)) (seg:uK p M w os=some (.next,jg p M w os,cB p,l)) (fin:∀s,topRun treeTable p w 11 Mb 2 s (restOf [] (XC p) (cB p) l bB)=some s)(U:T=12+(1+(M+2))):topRun treeTable p w 11 Mb T ⟨boot_heap w.params,#[],boot_drawn,boot_toks,os⟩ (topStub p)=some (jg p M w os).abs:=by
 subst U;refine go_top pre (piece_block I ?_);have h:=piece_app (rest:=[]) (segRun_of ((by
   have e:segRunT treeTable=PySem.W.Fast.tw10110043849684766642 PySem.W.Fast.tw14364793385576792824:=congr PySem.W.Fast.te10110043849684766642 PySem.W.Fast.te14364793385576792824;rw[e];exact seg))) (fin _)
 rw[(MN)]at h;exact h
def pB{p q:F0b}{loose:AAT}{Xt:SD->Bool}{α:Type}{Yf:SD->α}{Ya:F0c->α}{N M:Nat}{S:F0c->OsState->SD} (l:∀w:F0c,(fencedOpening treeTable p w N).map (fun s=>(s.heap,s.gens,s.drawn,s.toks))=some (boot_heap w.params,#[],boot_drawn,boot_toks)) (size:∀w:F0c,((boot_heap w.params).isNs mainGlobals&&(#[]:Array GenState).size==0,(boot_heap w.params).objs.size,(boot_heap w.params).nsMap mainGlobals "__annotations__")=(true,11,Mb)) (run:∀w os,topRun treeTable p w 11 Mb M ⟨boot_heap w.params,#[],boot_drawn,boot_toks,os⟩ (topStub p)=some (S w os))(le:Nat.ble M N=true) (ok:∀w os,(staticsOk (importedModules p.main.body) (boot_heap w.params) (S w os).heap&&namesBound p (S w os).heap&&gensDone (S w os)&&laidKept (boot_heap w.params) (S w os).heap)=true) (seen:∀w os,openSeen q loose (importedModules p.main.body) Xt true (S w os)=openGood q loose) (Z:∀w os,Yf (S w os)=Ya w):LeftO p q loose Xt Yf Ya N:=fun w=>by
 obtain⟨⟨h,gs,d,k,os⟩,e,e'⟩:=aC.mp (l w);obtain⟨rfl,rfl,rfl,rfl⟩:h=boot_heap w.params/\gs=#[]/\d=boot_drawn/\k=boot_toks:=by simpa using e'
 obtain⟨U,T,I⟩:_/\_/\_:=by simpa only[Prod.mk.injEq]using size w
 have Y:=ok w os;have r:=topRun_mono (N-M) _ _ _ _ (run w os);rw[show M+(N-M)=N by have:=aq le;lia]at r;have t:topFrom treeTable p w N ⟨boot_heap w.params,#[],boot_drawn,boot_toks,os⟩=some (S w os):=by
  unfold topFrom;dsimp only;rw[U,T,I,r];show(match staticsOk (importedModules p.main.body) (boot_heap w.params) (S w os).heap&&namesBound p (S w os).heap&&gensDone (S w os)&&laidKept (boot_heap w.params) (S w os).heap with|true=>_|false=>_)=_;rw[Y]
 unfold openEnds;rw[e];show(topFrom treeTable p w N _).map _=_;rw[t];exact af some (Prod.ext (seen w os) (Z w os))
def wa(w:F0c):((boot_heap w.params).isNs mainGlobals&&(#[]:Array GenState).size==0,(boot_heap w.params).objs.size,(boot_heap w.params).nsMap mainGlobals "__annotations__")=(true,11,Mb):=by kernel_rfl
end Opn
namespace Q45
open PySem
def top(i:Nat):Stmt:=PySem.Challenge.pw_stepgrove_k45_refused_sums.main.body.getD i (.Pass ⟨0,0,0,0⟩)
end Q45
namespace L2
open PySem
def HD(s:Stmt):Arguments:=match s with
 |.FunctionDef _ a _ _ _ _ _ _ _ _=>a
 |_=>{ posonlyargs:=[],args:=[],vararg:=none,kwonlyargs:=[],kw_defaults:=[],kwarg:=none,defaults:=[]}
def CO(s:Stmt):AAi:=match s with
 |.FunctionDef _ _ b _ _ _ _ _ _ _=>b
 |_=>[]
def AZ(s:Stmt):Scope:=match s with
 |.FunctionDef _ _ _ _ _ _ sc _ _ _=>sc
 |_=>{ kind:=.function,names:=[],isGenerator:=false,isCoroutine:=false}
end L2
namespace Q45
open PySem L2
section
open PySem.W PyProof.Rows PySem.Calls
abbrev NT:F0b:=PySem.Challenge.pw_stepgrove_k45_refused_sums
abbrev Ey:OpenLaw:=PySem.Challenge.rw_stepgrove_k45_refused_sums
noncomputable abbrev dE(P:Params)(x:String)(t:Nat)(v:VL):DictEntry:=⟨PyData.keyHash P (Str.ofString x),.str (Str.ofString x) t,v⟩
noncomputable abbrev sV(x:String)(t:Nat):VL:=.str (Str.ofString x) t
noncomputable abbrev fO(n:String)(i:Nat)(m:String)(t c:Nat):Obj:=⟨.type "function",none,.func (fnOf n n (HD (top i)) (CO (top i)) (AZ (top i)) .none .none .none (.str (Str.ofString m) t) none (.ref c) .none),#[]⟩
abbrev cO(n:String)(t l a k r:Nat)(b:Bool)(Y:Nat)(U T M v4:VL)(I:Nat):Obj:=⟨.type "code",none,.fields #[sV n t,sV n (t+1),sV "/claim/cut.py" (t+2),.int l 0,.int a 0,.int 0 0,.int 0 0,.int k 0,.ref r,.bool b,.int 181 0,.ref Y,U,T,M,v4,.int I 0,.int l 0,sV "/claim/cut.py" (I+1)],#[]⟩
noncomputable abbrev Ez:String×Nat:=("stepgrove.fracs",303)
noncomputable abbrev D7:String×Nat:=("stepgrove.polys",389)
noncomputable abbrev Ek:String×Nat:=("stepgrove.trees",510)
noncomputable abbrev JE:String×Nat:=("stepgrove.wholes",594)
noncomputable abbrev Ie:String×Nat:=("stepgrove.changes",659)
noncomputable abbrev mf:String×Nat:=("stepgrove.weights",711)
noncomputable abbrev Uj:String×Nat:=("stepgrove.groves",736)
noncomputable abbrev Yv:String×Nat:=("stepgrove.cuts",756)
noncomputable abbrev Ho:String×Nat:=("stepgrove.follows",777)
noncomputable abbrev FT:String×Nat:=("law_stepgrove_k45_refused_sums",845)
def oC(P:Params)(K:Frag):Nat->List String->Frag
 |_,[]=>K
 |k,x::xs=>(16+12*k,⟨.type "tuple",none,.seq #[.ref 24] 0,#[]⟩)::(23+12*k,⟨.type "tuple",none,.seq #[] 0,#[]⟩) ::
  (24+12*k,⟨.type "dict",none,.dict #[dE P "__module__" (198+16*k) (sV "stepgrove.errors" 187),dE P "__firstlineno__" (202+16*k) (.int (Int.ofNat (2+2*k)) (201+16*k)),dE P "__static_attributes__" (203+16*k) (.ref (23+12*k)),dE P "__doc__" (204+16*k) .none] 2,#[]⟩) ::
  (25+12*k,⟨.type "type",none,.cls ⟨Str.ofString x,[.ref 24],[.ref (25+12*k),.ref 24,.type "ValueError",.type "Exception",.type "BaseException",.type "object"],24+12*k,Str.ofString x,true,[],[],false,none,false⟩,#[some (.ref (16+12*k)),none,some (sV x (191+16*k)),some (sV x (199+16*k)),some (.builtin "ValueError.__new__"),some Iz]⟩)::oC P K (k+1) xs
def oW(m:String×Nat)(n:String)(t l a r I i:Nat)(K:Frag):Frag:=(r+5,cO n t l a 3 r true (r+1) .none (.ref (r+2)) (.ref (r+3)) (.ref (r+4)) I)::(r+6,fO n i m.1 m.2 (r+5))::K
def oN(m:String×Nat)(n:String)(t l a r I i:Nat)(K:Frag):Frag:=(r+3,cO n t l a 3 r true (r+1) .none .none .none (.ref (r+2)) I)::(r+4,fO n i m.1 m.2 (r+3))::K
def fU:Nat->List Nat->List Nat
 |_,[]=>[]
 |a,d::ds=>(a+d)::fU (a+d) ds
abbrev dR(P:Params)(x:String)(t a:Nat):DictEntry:=dE P x t Jc
def kH:Params->Frag:=fun P=>
 (nat_lit 2,⟨.none,none,(.dict #[] 0),#[]⟩) ::
 (nat_lit 3,⟨(.type "dict"),none,(.dict #[dE P "__name__" 165 (sV "law_stepgrove_k45_refused_sums" 845),dE P "__doc__" 166 .none,dE P "__package__" 167 .none,dE P "__loader__" 168 (.builtin "__main__.__loader__#opaque"),dE P "__spec__" 169 .none,dR P "__annotations__" 170 6,dR P "__builtins__" 171 4,dE P "__file__" 173 (sV "/claim/cut.py" 172),dE P "__cached__" 174 .none,dR P "GroveError" 206 24,dR P "NoBottom" 222 37,dR P "NoTree" 238 49,dR P "NoChange" 254 61,dR P "NoStart" 270 73,dR P "NoWeighing" 286 85,dR P "TooMany" 302 97,dR P "fraction_of" 313 106,dR P "frac_less" 321 113,dR P "frac_times" 329 120,dR P "is_fraction" 336 127,dR P "are_fractions" 344 134,dR P "is_whole" 351 141,dR P "greatest_divisor" 362 148,dR P "common_bottom" 371 155,dR P "frac_total" 377 160,dR P "power_of" 388 167,dR P "poly_sum" 398 174,dR P "poly_times" 411 181,dR P "poly_scaled" 417 186,dR P "poly_slope" 423 191,dR P "is_poly" 433 198,dR P "is_term" 441 205,dR P "are_powers" 450 212,dR P "refuse_no_start" 458 219,dR P "refuse_start" 464 226,dR P "one_less" 472 233,dR P "powers_joined" 478 238,dR P "gathered" 490 245,dR P "worth_at" 496 250,dR P "term_worth" 509 257,dE P "MOST_KNOTS" 513 (.int 7 512),dR P "is_tree" 522 264,dR P "trees_of" 533 271,dR P "trees_to" 542 278,dR P "refuse_no_tree" 549 285,dR P "in_falling_order" 556 292,dR P "knots_within" 562 297,dR P "turns_within" 573 304,dR P "product_up_to" 582 311,dR P "trees_one_larger" 593 318,dR P "grain_of" 601 323,dR P "pace_of" 609 330,dR P "whole_start" 615 335,dR P "tops_over" 621 340,dR P "whole_change" 627 345,dR P "whole_poly" 641 352,dR P "speeds_bottom" 647 357,dR P "greatest_power" 658 364,dR P "is_change" 668 371,dR P "refuse_no_change" 675 378,dR P "bent_polys" 681 383,dR P "along_boughs" 693 390,dR P "bent_worths" 699 395,dR P "pushed_by" 710 402,dR P "WEIGHING_LENGTHS" 721 403,dR P "weighing_reach" 728 410,dR P "refuse_no_weighing" 735 417,dR P "grove_rows" 743 422,dR P "shares_of" 749 427,dR P "shared_sums" 755 432,dR P "tree_ties" 764 439,dR P "ties_within" 776 446,dR P "followed_weighing" 784 451,dR P "followed_changes" 800 458,dR P "later_moves" 806 463,dR P "move_share" 815 470,dR P "later_weight" 821 475,dR P "shared_trees" 827 480,dR P "followed_change" 833 485,dR P "topped_sum" 844 492,dR P "_law_cell" 856 499,dR P "_law_frac" 866 506,dR P "_law_add" 874 513,dR P "_law_mul" 882 520,dR P "_law_all" 891 527,dR P "_law_gathered" 897 532,dR P "_law_powers" 903 537,dR P "_law_change" 923 544,dR P "_law_start" 935 551,dR P "_law_copy" 941 556,dR P "_law_kinds" 954 563,dR P "_law_bad_change" 969 570,dR P "law" 983 577] 93),#[]⟩) ::
 (nat_lit 15,⟨KM,none,(.seq #[(.type "ValueError")] 0),#[]⟩) ::
 (nat_lit 22,⟨KM,none,(.seq #[] 0),#[]⟩) ::
 (nat_lit 23,⟨(.type "dict"),none,(.dict #[dE P "__module__" 196 (sV "stepgrove.errors" 187),dE P "__firstlineno__" 200 (.int 2 199),dR P "__static_attributes__" 201 22,dR P "__weakref__" 203 25,dE P "__doc__" 204 .none] 3),#[]⟩) ::
 (nat_lit 24,⟨(.type "type"),none,(.cls ⟨Str.ofString "GroveError",[(.type "ValueError")],[(.ref 24),(.type "ValueError"),(.type "Exception"),(.type "BaseException"),(.type "object")],23,Str.ofString "GroveError",true,[],[(.ref 37),(.ref 49),(.ref 61),(.ref 73),(.ref 85),(.ref 97)],false,none,false⟩),#[some (.ref 15),none,some (sV "GroveError" 189),some (sV "GroveError" 197),some (.builtin "ValueError.__new__"),some Iz]⟩) ::
 (nat_lit 25,⟨(.type "getset_descriptor"),none,(.fields #[(sV "__weakref__" 202),(.ref 24),(.builtin "ExceptionGroup.__weakref__"),.none]),#[]⟩) ::
 oC P (
 oW Ez "fraction_of" 305 17 2 100 311 9 (
 oW Ez "frac_less" 314 24 2 107 319 10 (
 oW Ez "frac_times" 322 26 2 114 327 11 (
 oW Ez "is_fraction" 330 28 1 121 334 12 (
 oW Ez "are_fractions" 337 34 1 128 342 13 (
 oW Ez "is_whole" 345 41 1 135 349 14 (
 oW Ez "greatest_divisor" 352 43 2 142 360 15 (
 oW Ez "common_bottom" 363 51 1 149 369 16 (
 oN Ez "frac_total" 372 56 1 156 375 17 (
 oW Ez "power_of" 378 59 2 161 386 18 (
 oW D7 "poly_sum" 391 71 2 168 396 20 (
 oW D7 "poly_times" 399 73 2 175 409 21 (
 oN D7 "poly_scaled" 412 79 2 182 415 22 (
 oN D7 "poly_slope" 418 83 2 187 421 23 (
 oW D7 "is_poly" 424 85 2 192 431 24 (
 oW D7 "is_term" 434 92 2 199 439 25 (
 oW D7 "are_powers" 442 96 2 206 448 26 (
 oW D7 "refuse_no_start" 451 103 2 213 456 27 (
 oW D7 "refuse_start" 459 106 0 220 462 28 (
 oW D7 "one_less" 465 108 2 227 470 29 (
 oN D7 "powers_joined" 473 110 2 234 476 30 (
 oW D7 "gathered" 479 112 1 239 488 31 (
 oN D7 "worth_at" 491 122 2 246 494 32 (
 oW D7 "term_worth" 497 124 3 251 507 33 (
 oW Ek "is_tree" 514 133 1 258 520 36 (
 oW Ek "trees_of" 523 142 1 265 531 37 (
 oW Ek "trees_to" 534 152 1 272 540 38 (
 oW Ek "refuse_no_tree" 543 159 1 279 547 39 (
 oW Ek "in_falling_order" 550 162 1 286 554 40 (
 oN Ek "knots_within" 557 164 1 293 560 41 (
 oW Ek "turns_within" 563 166 1 298 571 42 (
 oW Ek "product_up_to" 574 176 1 305 580 43 (
 oW Ek "trees_one_larger" 583 181 1 312 591 44 (
 oN JE "grain_of" 596 188 1 319 599 46 (
 oW JE "pace_of" 602 190 2 324 607 47 (
 oN JE "whole_start" 610 192 2 331 613 48 (
 oN JE "tops_over" 616 194 2 336 619 49 (
 oN JE "whole_change" 622 196 2 341 625 50 (
 oW JE "whole_poly" 628 200 4 346 639 51 (
 oN JE "speeds_bottom" 642 206 1 353 645 52 (
 oW JE "greatest_power" 648 211 1 358 656 53 (
 oW Ie "is_change" 661 218 1 365 666 55 (
 oW Ie "refuse_no_change" 669 225 1 372 673 56 (
 oN Ie "bent_polys" 676 228 3 379 679 57 (
 oW Ie "along_boughs" 682 233 2 384 691 58 (
 oN Ie "bent_worths" 694 242 4 391 697 59 (
 oW Ie "pushed_by" 700 251 2 396 708 60 (
 (nat_lit 403,⟨KM,none,(.seq #[(.int 0 713),(.int 1 714),(.int 2 715),(.int 4 716),(.int 8 717),(.int 17 718),(.int 37 719),(.int 85 720)] 0),#[]⟩) ::
 oW mf "weighing_reach" 722 258 1 404 726 63 (
 oW mf "refuse_no_weighing" 729 261 1 411 733 64 (
 oN Uj "grove_rows" 738 265 3 418 741 66 (
 oN Uj "shares_of" 744 285 2 423 747 67 (
 oN Uj "shared_sums" 750 287 3 428 753 68 (
 oW Yv "tree_ties" 758 294 1 433 762 70 (
 oW Yv "ties_within" 765 297 1 440 774 71 (
 oN Ho "followed_weighing" 779 305 1 447 782 73 (
 oW Ho "followed_changes" 785 312 2 452 798 74 (
 oN Ho "later_moves" 801 326 2 459 804 75 (
 oW Ho "move_share" 807 333 3 464 813 76 (
 oN Ho "later_weight" 816 337 1 471 819 77 (
 oN Ho "shared_trees" 822 339 2 476 825 78 (
 oN Ho "followed_change" 828 341 4 481 831 79 (
 oW Ho "topped_sum" 834 347 2 486 842 80 (
 oW FT "_law_cell" 847 353 2 493 854 82 (
 oW FT "_law_frac" 857 362 2 500 864 83 (
 oW FT "_law_add" 867 370 2 507 872 84 (
 oN FT "_law_gathered" 892 379 1 528 895 87 (
 oN FT "_law_powers" 898 384 1 533 901 88 (
 oW FT "_law_change" 904 393 3 538 921 89 (
 oW FT "_law_start" 924 414 3 545 933 90 (
 oN FT "_law_copy" 936 421 1 552 939 91 (
 oW FT "_law_kinds" 942 423 4 557 952 92 (
 oW FT "_law_bad_change" 955 436 2 564 967 93 (
 oW FT "law" 970 460 1 571 981 94 (
 [])))))))))))))))))))))))))))))))))))))))))))))))))))))))))))))))))))))))))) 1 ["NoBottom","NoTree","NoChange","NoStart","NoWeighing","TooMany"]
abbrev qX:F0b:=view NT [1,2,3,4,5,6,7,9,10,11,12,13,14,15,16,17,18,20,21,22,23,24,25,26,27,28,29,30,31,32,33,35,36,37,38,39,40,41,42,43,44,46,47,48,49,50,51,52,53,55,56,57,58,59,60,62,63,64,66,67,68,70,71,73,74,75,76,77,78,79,80,82,83,84,85,86,87,88,89,90,91,92,93,94]
abbrev hX:Hook:=kHook kH (fU 0 [2,1,12,7,1,1,1,3,7,1,1,3,7,1,1,3,7,1,1,3,7,1,1,3,7,1,1,3,7,1,1,8,1,6,1,6,1,6,1,6,1,6,1,6,1,6,1,4,1,6,1,6,1,6,1,4,1,4,1,6,1,6,1,6,1,6,1,6,1,6,1,4,1,6,1,4,1,6,1,6,1,6,1,6,1,6,1,6,1,4,1,6,1,6,1,6,1,4,1,6,1,4,1,4,1,4,1,6,1,4,1,6,1,6,1,6,1,4,1,6,1,4,1,6,1,1,6,1,6,1,4,1,4,1,4,1,6,1,6,1,4,1,6,1,4,1,6,1,4,1,4,1,4,1,6,1,6,1,6,1,6,1,18,1,4,1,6,1,6,1,4,1,6,1,6,1,6,1]) (fun _=>by kernel_rfl)
noncomputable def dX:DefRec:=⟨Str.ofString "law",HD (top 94),CO (top 94),AZ (top 94),⟨460,0,481,15⟩⟩
def yj(w:F0c)(s:SD):topRun treeTable NT w 11 Opn.Mb 2 s (restOf [] (Opn.XC NT) (Opn.cB NT) ⟨460,0,481,15⟩ Opn.bB)=some s:=by kernel_rfl
abbrev sX(w:F0c)(os:OsState):SD:=(Opn.jg NT 3843 w os).abs
noncomputable abbrev Yw:SD->Bool:=fun s=>xlAt qX [] s&&recOk (RowW.records Ey.row.toRowW) s
def vh(w:F0c)(os:OsState):(openSeen qX [] (importedModules NT.main.body) Yw true (sX w os)).1=(openGood qX []).1:=by kernel_rfl
def wy(w:F0c)(os:OsState):(openSeen qX [] (importedModules NT.main.body) Yw true (sX w os)).2.1=(openGood qX []).2.1:=by kernel_rfl
def w9(w:F0c)(os:OsState):(openSeen qX [] (importedModules NT.main.body) Yw true (sX w os)).2.2=(openGood qX []).2.2:=by kernel_rfl
def vw(w:F0c)(os:OsState):openSeen qX [] (importedModules NT.main.body) Yw true (sX w os)=openGood qX []:=Prod.ext (vh w os) (Prod.ext (wy w os) (w9 w os))
def xm:LeftO NT qX [] Yw hX.obs hX.val 7810:=Opn.pB (M:=3858) (S:=sX) (fun w=>boot_open (p:=NT) (N:=7810) Eo Eo (fun _=>by kernel_rfl) w) Opn.wa (fun w os=>Opn.uR (Eo) (Eo) (Eo) (yj w) Eo) Eo (by
  intro w os
  kernel_rfl) vw (by
  intro w os
  kernel_rfl)
def openX(T:Ey.row.toRowW.promised)(U:WalkO qX [] (XL qX []) hX.says Ey.row.toRowW dX [] (fun f vs=>PySem.call f vs)):Ey.Holds :=
 holds_law ((congrFun PySem.W.Fast.te9446332074065402090 _).trans Eo) fun l=>holds_open (r:=Ey.row) (q:=qX) (loose:=[]) (Xt:=Yw) (XP:=XL qX []) (Yf:=hX.obs) (Ya:=hX.val) (YP:=hX.says) (d:=dX) (kwd:=[]) (N:=7810) xm hX.of hX.keeps (fun s e=>xl_of s (Bool.and_eq_true_iff.mp e).1) XL.keeps Eo Eo Eo (fun s e=>recFacts_of (Bool.and_eq_true_iff.mp e).2) rfl l Eo ⟨rfl,rfl,rfl,rfl,rfl,by decide +kernel⟩ T U
end
end Q45
namespace L2
open PySem PySem.Spec PyProof.Rows
abbrev Key:=Sum Int Str
def OS:Key->VL->Bool
 |.inl k,v=>Value.isInt k v
 |.inr x,v=>Value.isStrOf x v
def zK(w:F0c):Key->Int
 |.inl k=>hashInt k
 |.inr x=>hashStr w x
def Cs:∀ {k:Key} {v:VL},OS k v=true->(∃i t,k=Sum.inl i/\v=Value.int i t)\/(∃x t,k=Sum.inr x/\v=Value.str x t)
 |.inl i,v,h=>by
  obtain⟨t,e⟩:=Value.isInt_shape (k:=i) (v:=v) h;exact .inl ⟨i,t,rfl,e⟩
 |.inr x,v,h=>by
  obtain⟨t,e⟩:=Value.isStrOf_shape (x:=x) (v:=v) h;exact .inr ⟨x,t,rfl,e⟩
def gL(i:Int)(t:Tok):OS (.inl i) (.int i t)=true:=by simp[OS,Value.isInt]
def g9(x:Str)(t:Tok):OS (.inr x) (.str x t)=true:=by simp[OS,Value.isStrOf]
def uA(a b:Int):decide ((Sum.inl a:Key)=Sum.inl b)=(a==b):=by
 by_cases e:a=b
 .subst e;simp
 .have h:¬(Sum.inl a:Key)=Sum.inl b:=fun q=>e (Sum.inl.inj q);rw[decide_eq_false h];exact(beq_eq_false_iff_ne.mpr e).symm
def sT(a b:Str):decide ((Sum.inr a:Key)=Sum.inr b)=decide (a=b):=by
 by_cases e:a=b
 .subst e;simp
 .have h:¬(Sum.inr a:Key)=Sum.inr b:=fun q=>e (Sum.inr.inj q);rw[decide_eq_false h,decide_eq_false e]
def ux(a:Int)(b:Str):decide ((Sum.inl a:Key)=Sum.inr b)=false:=decide_eq_false (fun q=>nomatch q)
def ur(a:Str)(b:Int):decide ((Sum.inr a:Key)=Sum.inl b)=false:=decide_eq_false (fun q=>nomatch q)
def Eg(prog:F0b)(w:F0c):PySem.KeyKind prog w Key where
 is:=OS
 hash:=zK w
 inj:=fun v a b ha hb=>by
  rcases Cs ha with ⟨i,t,rfl,rfl⟩|⟨x,t,rfl,rfl⟩
  .rcases Cs hb with ⟨j,u,rfl,e⟩|⟨y,u,rfl,e⟩
   .injection e with e1 _;rw[e1]
   .exact nomatch e
  .rcases Cs hb with ⟨j,u,rfl,e⟩|⟨y,u,rfl,e⟩
   .exact nomatch e
   .injection e with e1 _;rw[e1]
 byValue:=fun k v h=>by
  rcases Cs h with ⟨i,t,rfl,rfl⟩|⟨x,t,rfl,rfl⟩<;>rfl
 pyHash:=fun hv h=>by
  rcases Cs hv with ⟨i,t,rfl,rfl⟩|⟨x,t,rfl,rfl⟩
  .exact wpAny_pyHash_int h
  .exact wpAny_pyHash_str h
 eqBool:=fun hu hv h=>by
  rcases Cs hu with ⟨i,t,rfl,rfl⟩|⟨x,t,rfl,rfl⟩
  .rcases Cs hv with ⟨j,u,rfl,rfl⟩|⟨y,u,rfl,rfl⟩
   .rw[uA]at h;exact wpAny_eqBool_int h
   .rw[ux]at h;exact SeqAt.EqAt.int_str i t y u _ _ _ _ h
  .rcases Cs hv with ⟨j,u,rfl,rfl⟩|⟨y,u,rfl,rfl⟩
   .rw[ur]at h;exact SeqAt.EqAt.str_int x t j u _ _ _ _ h
   .rw[sT]at h;exact wpAny_eqBool_str h
 «strs»:=fun k x t v h=>by
  rcases Cs h with ⟨i,u,rfl,e⟩|⟨y,u,rfl,e⟩
  .exact nomatch e
  .injection e with e1 _
   subst e1;cases v<;>rfl
def X4 prog w x t:(Eg prog w).is (.inr x) (.str x t)=true:=g9 x t
inductive V where
 |BV|bl (b:Bool)|int (i:Int)|str (x:Str)|NQ (b:Array UInt8)|ZK (b:UInt64)|ref (a:Addr)|ty (n:String)
 deriving DecidableEq
abbrev AAf:=List V
def RelV:V->VL->Prop
 |.BV,u=>u=Value.none
 |.bl b,u=>u=Value.bool b
 |.int i,u=>∃t,u=Value.int i t
 |.str x,u=>∃t,u=Value.str x t
 |.NQ b,u=>∃t,u=Value.bytes b t
 |.ZK b,u=>∃t,u=Value.float b t
 |.ref a,u=>u=Value.ref a
 |.ty n,u=>u=Value.type n
abbrev Vals:List V->List VL->Prop:=Paired RelV
def Vals.length(r:Vals xs us):xs.length=us.length:=Paired.length r
theorem Vals.get:∀ {xs} {us} {i:Nat} {x},Vals xs us->xs[i]? = some x->∃u,us[i]? = some u/\RelV x u
 |_,_,_,_,.nil,e=>by simp at e
 |_,_,0,_,.cons r _,e=>by simp_all
 |_,_,i+1,x,.cons _ t,e=>by
  obtain⟨u,I,l⟩:=Vals.get t (by simpa using e)
  simp_all
theorem Vals.set(r:RelV x u):∀ {xs} {us} i,Vals xs us->Vals (xs.set i x) (us.set i u)
 |_,_,_,.nil=>.nil
 |_,_,0,.cons _ t=>.cons r t
 |_,_,i+1,.cons q t=>.cons q (Vals.set r i t)
theorem Vals.append:∀ {xs ys} {us l},Vals xs us->Vals ys l->Vals (xs++ys) (us++l)
 |_,_,_,_,.nil,s=>s
 |_,_,_,_,.cons r t,s=>.cons r (Vals.append t s)
theorem Vals.take:∀ {xs} {us} n,Vals xs us->Vals (xs.take n) (us.take n)
 |_,_,0,_=>.nil
 |_,_,_+1,.nil=>.nil
 |_,_,n+1,.cons r t=>.cons r (Vals.take n t)
theorem Vals.drop:∀ {xs} {us} n,Vals xs us->Vals (xs.drop n) (us.drop n)
 |_,_,0,r=>r
 |_,_,_+1,.nil=>.nil
 |_,_,n+1,.cons _ t=>Vals.drop n t
def IE:Option V->Option VL->Prop
 |some v,some u=>RelV v u
 |none,none=>True
 |_,_=>False
def KV:List (κ×V)->List (κ×VL)->Prop:=Paired fun p q=>p.1=q.1/\RelV p.2 q.2
def kV:Key->V
 |.inl i=>.int i
 |.inr x=>.str x
inductive HO where
 |lst (xs:List V)
 |tup (xs:List V)
 |dK (kvs:List (Key×V))|dT (kvs:List (List Key×V))
 |set (S:Int->Bool) (n:Nat)
 |ins (C dx:Addr) (fs:List (Str×V))
 |own (x:Addr)
 |xd (fs:List (Str×V))
 |met (f x:Addr)
 |mV (lo hi:Int)
 |En (o:Obj) (u:HO)
 |PL (ps:Array Value)
 |ext (φ:Heap->Prop)
abbrev Hp:=AD->Option HO
def upd(H:Hp)(a:AD)(o:HO):Hp:=fun b=>if b=a then some o else H b
def AR:upd H a o a=some o:=by unfold upd;lia
def AM(h:b≠a):upd H a o b=H b:=by unfold upd;simp_all
def mB{H:Hp}(h:H a=some o)(h':H b=some u)(d:o≠u):a≠b:=by
 lia
def Af{H:Hp}(h:H a=some o)(h':H b=none):a≠b:=by
 lia
section
variable(P:F0b)(w:F0c)
def Cz(H:Hp)(h:Heap)(a:AD):HO->Prop
 |.lst xs=>xs.length<=sizeLine/\∃(l:List VL) (n:Nat),Vals xs l/\h.get? a=some { cls:=.type "list",data:=.seq l.toArray n}
 |.tup xs=>xs.length<=sizeLine/\∃l ,Vals xs l/\IsTup h a l.toArray
 |.dK kvs=>kvs.length<=sizeLine/\(a==sysModules)=false/\∃vs,KV kvs vs/\h.DictOf (Eg P w) a vs
 |.dT kvs=>kvs.length<=sizeLine/\(a==sysModules)=false/\∃xs ,
   Paired (fun p q=>p.1=q.1/\H q.2.1=some (.tup (p.1.map kV))/\RelV p.2 q.2.2) kvs xs /\
   ∃o es ep,h.get? a=some o/\o.ExactDict/\o.data=.dict es ep/\es.toList=xs.map (entryOfKey (tupleKind (Eg P w)))/\(xs.map Fk).Nodup
 |.set S n=>h.SetOf (intKind P w) a S n
 |.ins C dx fs=>H dx=some (.own a)/\fs.length<=1000/\dx≠a/\h.get? a=some (PySem.W.instObj C dx) /\
   ∃mA,h.Ns1 dx mA/\(∀f,IE (fs.lookup f) (mA f))/\PySem.Within mA (fs.map Fk)
 |.own _=>∃o,h.get? a=some o
 |.xd fs=>∃mA,h.Ns1 a mA/\∀f,IE (fs.lookup f) (mA f)
 |.mV lo hi=>∃t u v,h.get? a=some { cls:=.type "range",data:=.fields #[.int lo t,.int hi u,.int 1 v]}
 |.En o u=>h.get? a=some o/\Cz H h a u
 |.PL ps=>h.get? a=some { cls:=.none,data:=.fields ps}
 |.met f x=>h.get? a=some (PySem.W.methodObj (.ref f) (.ref x))
 |.ext φ=>φ h/\(∃o,h.get? a=some o)/\∀M I ,φ M->(∀o,M.get? a=some o->I.get? a=some o)->φ I
def DZ(H:Hp)(h:Heap):Prop:=∀a o,H a=some o->Cz P w H h a o
end
section
variable{P:F0b}{w:F0c}{H H':Hp}{h h':Heap}{a:AD}{o:HO}
def Cz.lt(x:Cz P w H h a o):a<h.objs.size:=by
 cases o with
 |lst xs=>obtain⟨_,_,_,_,e⟩:=x;exact aH e
 |tup xs=>obtain⟨_,_,_,p⟩:=x;exact p.lt
 |dK kvs=>obtain⟨_,_,_,_,o,_,_,e,_⟩:=x;exact aH e
 |dT kvs=>obtain⟨_,_,_,_,o,_,_,e,_⟩:=x;exact aH e
 |set S n=>obtain⟨o,_,_,_,e,_⟩:=x;exact aH e
 |ins C dx fs=>obtain⟨_,_,_,e,_⟩:=x;exact aH e
 |own y=>obtain⟨_,e⟩:=x;exact aH e
 |xd fs=>obtain⟨_,⟨_,_,_,e,_⟩,_⟩:=x;exact aH e
 |mV lo hi=>obtain⟨_,_,_,e⟩:=x;exact aH e
 |En ob u=>obtain⟨e,_⟩:=x;exact aH e
 |PL ps=>exact aH x
 |met f y=>exact aH x
 |ext φ=>obtain⟨_,⟨_,e⟩,_⟩:=x;exact aH e
theorem Paired.lH:∀ {l₁} {l₂},Paired F l₁ l₂->(∀a b,F a b->G a b)->Paired G l₁ l₂
 |_,_,.nil,_=>.nil
 |_,_,.cons r t,f=>.cons (f _ _ r) (Paired.lH t f)
def Cz.J4(x:Cz P w H h a o)(k:∀b u,(b=a\/H b=some (.own a))->h.get? b=some u->h'.get? b=some u) (M:∀b,H b=some (.own a)->H' b=some (.own a))(U:∀b xs,H b=some KK->H' b=some KK):Cz P w H' h' a o:=by
 induction o with
 |lst xs=>obtain⟨z,l,n,r,e⟩:=x;exact⟨z,l,n,r,k _ _ (.inl rfl) e⟩
 |tup xs=>obtain⟨z,l,r,ob,e,c⟩:=x;exact⟨z,l,r,ob,k _ _ (.inl rfl) e,c⟩
 |dK kvs=>obtain⟨z,y,vs,r,ob,es,ep,e,c⟩:=x;exact⟨z,y,vs,r,ob,es,ep,k _ _ (.inl rfl) e,c⟩
 |dT kvs=>
  obtain⟨z,y,xs,r,ob,es,ep,e,c⟩:=x;exact⟨z,y,xs,Paired.lH r fun p q z=>by grind,ob,es,ep,k _ _ (.inl rfl) e,c⟩
 |set S n=>obtain⟨ob,es,ep,t,e,c⟩:=x;exact⟨ob,es,ep,t,k _ _ (.inl rfl) e,c⟩
 |ins C dx fs=>
  obtain⟨d,z,ne,e,mA,⟨od,es,ep,T,c⟩,r⟩:=x;exact⟨M _ d,z,ne,k _ _ (.inl rfl) e,mA,⟨od,es,ep,k _ _ (.inr d) T,c⟩,r⟩
 |own y=>obtain⟨ob,e⟩:=x;exact⟨ob,k _ _ (.inl rfl) e⟩
 |xd fs=>obtain⟨mA,⟨od,es,ep,e,c⟩,r⟩:=x;exact⟨mA,⟨od,es,ep,k _ _ (.inl rfl) e,c⟩,r⟩
 |mV lo hi=>obtain⟨t,u,v,e⟩:=x;exact⟨t,u,v,k _ _ (.inl rfl) e⟩
 |En ob u I=>obtain⟨e,q⟩:=x;exact⟨k _ _ (.inl rfl) e,I q⟩
 |PL ps=>
  exact k a _ (.inl rfl) x
 |met f y=>
  exact k a _ (.inl rfl) x
 |ext φ=>obtain⟨p,⟨o,e⟩,st⟩:=x;exact⟨st _ _ p fun o q=>by grind,⟨o,k _ _ (.inl rfl) e⟩,st⟩
def DZ.lt(x:DZ P w H h)(e:H a=some o):a<h.objs.size:=(x a o e).lt
def DZ.fresh(x:DZ P w H h)(e:h.objs.size<=a):H a=none:=by
 cases q:H a with
 |none=>rfl
 |some u=>exact absurd (aE (x.lt q) e) (bh _)
def DZ.kept(x:DZ P w H h)(k:∀b u,h.get? b=some u->h'.get? b=some u):DZ P w H h':=fun a o e=>
 (x a o e).J4 (fun b u _ q=>k b u q) (fun _ q=>q) fun _ _ q=>q
def DZ.laid(x:DZ P w H h)(k:∀b u,h.get? b=some u->h'.get? b=some u)(l:h.objs.size<=a)(new:Cz P w (upd H a o) h' a o):DZ P w (upd H a o) h':=fun b u e=>by
 have hn:=x.fresh l;by_cases hb:b=a
 .subst hb;rw[AR]at e;grind
 .rw[AM hb]at e;exact(x b u e).J4 (fun c v _ q=>k c v q) (fun c q=>by rw[AM (Af q hn)];exact q) fun c xs q=>by rw[AM (Af q hn)];exact q
end
def Rd(H:Hp)(a:AD)(u:HO):Prop:=H a=some u\/∃o,H a=some (.En o u)
def Rd.ok(r:Rd H a u)(x:DZ P w H h):Cz P w H h a u:=by
 rcases r with r|⟨o,r⟩
 .exact x a u r
 .obtain⟨_,q⟩:=x a _ r;exact q
def fV:Option HO->Prop
 |some (.lst _)=>True
 |some (.dK _)=>True
 |some (.dT _)=>True
 |some (.set _ _)=>True
 |some (.ins _ _ _)=>True
 |some (.ext _)=>True
 |_=>False
section
variable{P:F0b}{w:F0c}{H:Hp}{h h':Heap}{x e:AD}{o':HO}
def DZ.write(ok:DZ P w H h)(I:fV (H x))(Z:e=x\/H e=some (.own x))(k:∀b u,b≠e->h.get? b=some u->h'.get? b=some u)(M:∃u,h'.get? e=some u) (new:Cz P w (upd H x o') h' x o'):DZ P w (upd H x o') h':=fun b u q=>by
 have l:∀c y,H c=some (.own y)->c≠x:=fun c y r z=>by subst z;rw[r]at I;exact I
 by_cases hb:b=x
 .subst hb;rw[AR]at q;lia
 .rw[AM hb]at q;by_cases U:b=e
  .have T:H b=some (.own x):=by
    lia
   rw[q]at T;cases T;obtain⟨v,Y⟩:=M;exact⟨v,by lia⟩
  .refine(ok b u q).J4 (fun c v hc r=>k c v ?_ r) (fun c r=>by rw[AM (l c b r)];lia) fun c xs r=>by rw[AM ((fun c xs r z=>by subst z;rw[r]at I;exact I) c xs r)];lia
   grind
end
structure Un(fs ex:List Addr)(H H':Hp)(h h':Heap):Prop where
 keep:∀b o,h.get? b=some o->H b=none->b ∉ fs->b ∉ ex->h'.get? b=some o
 slot:∀b o,h.get? b=some o->H b=none->b∈fs->b ∉ ex->∃sl,h'.get? b=some {o with slots:=sl}
 free:∀b o,h.get? b=some o->H b=none->b ∉ ex->H' b=none
 there:∀b o,h.get? b=some o->b ∉ ex->∃o',h'.get? b=some o'
 Bi:∀b xs,H b=some KK->H' b=some KK
 FK:∀b o u,H b=some (.En o u)->H' b=some (.En o u)
 GN:∀b ps,H b=some (.PL ps)->∃more,H' b=some (.PL (ps++more))
 GP:∀b xs o,H b=some KK->h.get? b=some o->b ∉ ex->h'.get? b=some o
section
variable{fs ex:AAh}{H H1:Hp}{h h1 h':Heap}{a x e:AD}{o:HO}
def Un.any(u:Un fs ex H H1 h h1)(q:h.get? b=some ob)(n:H b=none)(l:b ∉ ex):∃sl,h1.get? b=some {ob with slots:=sl}:=by
 by_cases hb:b∈fs
 .exact u.slot b ob q n hb l
 .exact⟨ob.slots,u.keep b ob q n hb l⟩
def Un.kept(k:∀b u,h.get? b=some u->h'.get? b=some u):Un fs ex H H h h' :=
 ⟨fun b ob q _ _ _=>k b ob q,fun b ob q _ _ _=>⟨ob.slots,k b ob q⟩,fun _ _ _ n _=>n,fun b ob q _=>⟨ob,k b ob q⟩,fun _ _ q=>q,fun _ _ _ q=>q,fun _ ps q=>by simp_all,fun _ _ ob _ e _=>k _ ob e⟩
def Un.refl:Un fs ex H H h h:=Un.kept fun _ _ q=>q
def Un.laid(k:∀b u,h.get? b=some u->h'.get? b=some u)(hp:h.objs.size<=a)(hn:H a=none):Un fs ex H (upd H a o) h h' where
 keep:=fun b u q _ _ _=>k b u q
 slot:=fun b u q _ _ _=>⟨u.slots,k b u q⟩
 free:=fun b u q n _=>by rw[AM (aL (aE (aH q) hp))];exact n
 there:=fun b u q _=>⟨u,k b u q⟩
 Bi:=fun b xs q=>by rw[AM (Af q hn)];exact q
 FK:=fun b u xs q=>by rw[AM (Af q hn)];exact q
 GN:=fun b ps q=>⟨#[],by rw[AM (Af q hn),q];simp⟩
 GP:=fun b _ u _ e _=>k b u e
def Un.write(l:fV (H x))(T:e=x\/H e=some (.own x))(k:∀b u,b≠e->h.get? b=some u->h'.get? b=some u)(M:∃u,h'.get? e=some u):Un fs ex H (upd H x o) h h':=by
 have I:∀b,H b=none->b≠x:=fun b n z=>by subst z;rw[n]at l;exact l
 have hb:∀b,H b=none->b≠e:=fun b n z=>by
  grind
 have hm:∀b u,H b=some u->¬fV (some u)->b≠x:=fun b u q nm z=>by simp_all
 refine⟨fun b u q n _ _=>k b u (hb b n) q,fun b u q n _ _=>⟨u.slots,k b u (hb b n) q⟩,fun b u q n _=>by rw[AM (I b n)];exact n,fun b u q _=>?_,
  fun b xs q=>by rw[AM (hm b _ q fun z=>z)];exact q,fun b u xs q=>by rw[AM (hm b _ q fun z=>z)];exact q,fun b ps q=>⟨#[],by rw[AM (hm b _ q fun z=>z),q];simp⟩,fun b xs u q e _=>k b u (fun z=>by
   rcases T with r|r
   .exact hm b _ q (fun z=>z) (z.trans r)
   grind) e⟩
 grind
end
def dw(h:Heap)(H:Hp):AAh:=(List.range h.objs.size).filter fun a=>(H a).isSome
def SI(h:Heap)(H:Hp):Heap:=PySem.W.hideAll h (dw h H)
def iA h H:(SI h H).objs.size=h.objs.size:=PySem.W.hideAll_size _ _
def lP(e:h.get? b=some o)(n:H b=none):(SI h H).get? b=some o :=
 PySem.W.hideAll_get _ e fun hm=>by
  have q:=(List.mem_filter.mp hm).2
  grind
def qH(e:(SI h H).get? b=some o):h.get? b=some o/\H b=none:=by
 have l:=PySem.W.of_hideAll _ e;refine⟨l,?_⟩;cases q:H b with
 |none=>rfl
 |some x=>
  have z:(SI h H).get? b=none:=PySem.W.hideAll_none _ (List.mem_filter.mpr ⟨bL.mpr (aH l),by simp[q]⟩)
  lia
structure Mod(K:Fg)(mg:Str->Option Value)(base:Heap):Prop where
 Mj:K.In base
 glob:base.Ns mainGlobals mg
 blt:∃mb,base.Ns builtinsNs mb/\∀x:Str,x ≠ "__name__" -> mb x=bootBuiltins x
 nolimit:base.NoLimit
def tbT(d:Nat):List AAf:=[[],[.ref (d+1)],[.int 1,.int 1],[.ref (d+3)],[.ref (d+2),.ref (d+4)],[],[.int 1,.int 2],[.ref (d+7)],[.ref (d+6),.ref (d+8)],[.int 0,.int 1],[.int 1,.int 1],[.ref (d+10),.ref (d+11)],[.ref (d+9),.ref (d+12)],[],[.int 1,.int 1],[.ref (d+15)],[.ref (d+14),.ref (d+16)],[.int 1,.int 2],[.int 1,.int 2],[.ref (d+18),.ref (d+19)],[.ref (d+17),.ref (d+20)],[],[.int 1,.int 3],[.ref (d+23)],[.int 0,.int 1],[.int 2,.int 3],[.ref (d+25),.ref (d+26)],[.ref (d+22),.ref (d+24),.ref (d+27)],[.int 1,.int 4],[.int 0,.int 1],[.int 3,.int 4],[.ref (d+29),.ref (d+30),.ref (d+31)],[.ref (d+28),.ref (d+32)],[],[.int 1,.int 2],[.ref (d+35)],[.int 0,.int 1],[.int 1,.int 2],[.ref (d+37),.ref (d+38)],[.int 0,.int 1],[.int 0,.int 1],[.int 1,.int 1],[.ref (d+40),.ref (d+41),.ref (d+42)],[.ref (d+34),.ref (d+36),.ref (d+39),.ref (d+43)],[.int 1,.int 6],[.int 1,.int 3],[.int 1,.int 3],[.int 1,.int 6],[.ref (d+45),.ref (d+46),.ref (d+47),.ref (d+48)],[.ref (d+44),.ref (d+49)]]
def zT(d:Nat):List (Key×V):=[(.inr "plain",.ref (d+5)),(.inr "middle",.ref (d+13)),(.inr "heel",.ref (d+21)),(.inr "third",.ref (d+33)),(.inr "fourth",.ref (d+50))]
def yT:AAf:=[.str "x",.str "y",.str "z",.str "w"]
structure KTb(mg:Str->Option Value)(H:Hp):Prop where
 zx:∀d:Addr,mg "NAMED_TABLES" = some (.ref d)->(∃o,H d=some (.En o (.dK (zT d))))/\∀j xs,(tbT d)[j]? = some xs->H (d+1+j)=some KK
 unk:∀d:Addr,mg "UNKNOWNS" = some (.ref d)->H d=some (.tup yT)
def KTb.un(k:KTb mg H)(u:Un fs ex H H' h h'):KTb mg H':=⟨fun d e=>
 let⟨⟨o,I⟩,l⟩:=k.zx d e
 ⟨⟨o,u.FK _ _ _ I⟩,fun j xs q=>u.Bi _ _ (l j xs q)⟩,fun d e=>u.Bi _ _ (k.unk d e)⟩
def KTb.no(I:mg "NAMED_TABLES" = none)(l:mg "UNKNOWNS" = none) H:KTb mg H:=⟨fun d e=>by lia,fun d e=>by lia⟩
structure Cx where
 prog:Program
 w:World
 K:Fg
 mg:Str->Option Value
 base:Heap
 A:Around
 N:List Str
 s₀:Shared
 H₀:Hp
 env:Env
 outer:List Env
 stack:List Env
 ex:List Addr
 fn:Str->Bool
 calm:Bool
 pn:List (Addr×Obj)
 xe:Value->Shared->Prop
def GG(l:List Env):AAh:=l.filterMap (·.frame)
abbrev Cx.fs(X:Cx):List AD:=GG X.outer
def yJ(sc:Scope)(x:Str):Prop:=sc.names.lookup x=some .local\/sc.names.lookup x=some .cell\/sc.names.lookup x=some .free
def Loc(sc:Scope)(x:Str):Prop:=sc.names.lookup x=some .local\/sc.names.lookup x=some .cell
def Look(env:Env)(h:Heap)(m:AAO)(x:Str)(u:VL):Prop :=
 (env.kindOf x=some .local/\m x=some u)\/((env.kindOf x=some .cell\/env.kindOf x=some .free)/\∃c,env.cells.lookup x=some c/\h.IsCell c (some u))
structure Cx.Ok(X:Cx):Prop where
 mod:Mod X.K X.mg X.base
 kind:X.env.scope.kind=.function
 glob:X.env.globals=mainGlobals
 blt:X.env.builtins=builtinsNs
 above:X.s₀.heap.objs.size<=X.env.locals
 inj:∀x y c,X.env.cells.lookup x=some c->X.env.cells.lookup y=some c->x=y
 has:∀x,(X.env.kindOf x=some .cell\/X.env.kindOf x=some .free)->∃c,X.env.cells.lookup x=some c
 XJ:∀x c,X.fn x=true->X.env.cells.lookup x=some c->X.s₀.heap.objs.size<=c
 hd:X.calm=true->X.A.handled=none
 frames:X.A.frames=some X.stack
 gy:X.stack=X.outer\/(X.stack=X.env::X.outer/\X.env.frame=some X.env.locals)
 sF:∀b∈X.ex,b≠X.env.locals/\∀x c,X.env.cells.lookup x=some c->c≠b
 bs:∀b o,X.base.get? b=some o->X.s₀.heap.get? b=some o/\X.H₀ b=none
 RH:X.base.objs.size<=X.s₀.heap.objs.size
 Su:∀b o,X.base.get? b=some o->b ∉ X.ex
 Sy:∀b∈X.ex,b ∉ X.fs
 HI:X.s₀.heap.FunFrames X.base X.outer
 QR:∀b∈X.fs,X.H₀ b=none
 kt:KTb X.mg X.H₀
structure Inv(X:Cx)(pins:List (Addr×Obj))(σ:List (Option V))(H:Hp)(s:Shared):Prop where
 ok:X.Ok
 os:s.os=X.s₀.os
 bare:AllBare s.gens
 base:Un X.fs X.ex X.H₀ H X.s₀.heap s.heap
 loc:∃m,s.heap.Ns X.env.locals m/\∀(i:Nat) (x:Str) (v:V),X.N[i]? = some x->σ[i]? = some (some v)->yJ X.env.scope x->∃u,RelV v u/\Look X.env s.heap m x u
 cell:∀x c,X.env.cells.lookup x=some c->∃v,s.heap.IsCell c v
 free:H X.env.locals=none
 FR:∀x c,X.env.cells.lookup x=some c->H c=none
 pin:∀p∈X.pn++pins,s.heap.get? p.1=some p.2/\H p.1=none/\p.1≠X.env.locals/\p.1 ∉ X.fs/\∀v,p.2.data≠.cell v
 Ac:DZ X.prog X.w H s.heap
 len:σ.length=X.N.length
def Inv.kt(I:BH):KTb X.mg H:=I.ok.kt.un I.base
section
variable{X:Cx}{pins:LE}{σ:List (Option V)}{H H':Hp}{s:SD}{h':Heap}
def Cx.Ok.yq(ok:X.Ok)(e:X.base.get? b=some o):b ∉ X.fs:=fun hb=>by
 have:=(ok.HI.mem hb).1
 lia
def Inv.bs(I:BH):∀b o,X.base.get? b=some o->s.heap.get? b=some o/\H b=none:=fun b o e=>
 ⟨I.base.keep b o (I.ok.bs b o e).1 (I.ok.bs b o e).2 (I.ok.yq e) (I.ok.Su b o e),I.base.free b o (I.ok.bs b o e).1 (I.ok.bs b o e).2 (I.ok.Su b o e)⟩
def Inv.bk(I:BH):∀b o,X.base.get? b=some o->s.heap.get? b=some o:=fun b o e=>(I.bs b o e).1
def Inv.mod(I:BH):Mod X.K X.mg X.base:=I.ok.mod
def Inv.Fq(I:BH):X.K.In s.heap:=I.ok.mod.Mj.keeps I.bk
def Inv.lt(I:BH):X.env.locals<s.heap.objs.size:=let⟨_,hn,_⟩:=I.loc;hn.lt
def Inv.sz(I:BH):X.s₀.heap.objs.size<=s.heap.objs.size:=aK I.ok.above (aa I.lt)
def Inv.zF(I:BH){a:AD}(h:s.heap.objs.size<=a):a ∉ X.fs:=fun hb=>by
 obtain⟨_,o,l,_⟩:=I.ok.HI.mem hb;exact absurd (aE (aH l) (aK I.sz h)) (bh _)
def Inv.Qg(I:BH):∀x c,X.env.cells.lookup x=some c->c≠X.env.locals:=fun x c e z=>by
 obtain⟨v,o,T,hd⟩:=I.cell x c e;obtain⟨m,⟨o',es,ep,l,M,_⟩,_⟩:=I.loc
 lia
def Inv.HI(I:BH):s.heap.FunFrames X.base X.outer:=(show ∀l,(∀b∈GG l,b∈X.fs)->X.s₀.heap.FunFrames X.base l->s.heap.FunFrames X.base l by
  intro l
  induction l with
  |nil=>intro _ _;trivial
  |cons env r U=>
   rintro T ⟨hk,⟨L,o,hf,hn,Z,hd⟩,Y⟩;have M:=T L (by unfold GG;simp_all);obtain⟨sl,e⟩:=I.base.slot L o Z (I.ok.QR L M) M fun z=>I.ok.Sy L z M;exact⟨hk,⟨L,_,hf,hn,e,hd⟩,U (fun b hb=>T b (by unfold GG;rw[(Sh),hf];exact aQ _ hb)) Y⟩) X.outer (fun _ hb=>hb) I.ok.HI
def Inv.stack(I:BH):s.heap.FunFrames X.base X.stack:=by
 rcases I.ok.gy with e|⟨e,hf⟩
 .rw[e];exact I.HI
 .rw[e];obtain⟨m,hn,_⟩:=I.loc;exact .cons (by rw[I.ok.kind];decide) hf hn (Heap.get?_none_of_le (aK I.ok.RH I.ok.above)) I.HI
def Inv.NV(I:BH):∀b∈GG X.stack,b∈X.env.locals::X.fs:=fun b hb=>by
 rcases I.ok.gy with e|⟨e,hf⟩
 .simp_all
 .rw[e]at hb;unfold GG at hb;rw[(Sh),hf]at hb;exact hb
def Inv.Rx(I:BH):∀b∈GG X.stack,H b=none:=fun b hb=>by
 rcases aO.mp (I.NV b hb) with e|hb
 .rw[e];exact I.free
 .obtain⟨_,o,l,_⟩:=I.ok.HI.mem hb;exact I.base.free b o l (I.ok.QR b hb) fun z=>I.ok.Sy b z hb
def Inv.step{t':Nat}{d'}{ch:AAh}(I:BH) (Y:∀b∈ch,(b∈X.ex\/X.s₀.heap.objs.size<=b)/\b≠X.env.locals/\(∀x c,X.env.cells.lookup x=some c->c≠b)/\∀p∈X.pn++pins,p.1≠b) (keep:∀b o,b≠X.env.locals->b ∉ X.fs->b ∉ ch->s.heap.get? b=some o->H b=none->h'.get? b=some o) (slot:∀b o,b≠X.env.locals->b∈X.fs->b ∉ ch->s.heap.get? b=some o->H b=none->∃sl,h'.get? b=some {o with slots:=sl})(free:∀b o,b ∉ ch->s.heap.get? b=some o->H b=none->H' b=none) (there:∀b o,b ∉ ch->s.heap.get? b=some o->∃o',h'.get? b=some o') (Bi:∀b xs,H b=some KK->H' b=some KK)(FK:∀b o u,H b=some (.En o u)->H' b=some (.En o u))(GN:∀b ps,H b=some (.PL ps)->∃more,H' b=some (.PL (ps++more))) (GP:∀b xs o,b ∉ ch->H b=some KK->s.heap.get? b=some o->h'.get? b=some o) (ns:∀m,s.heap.Ns X.env.locals m->h'.Ns X.env.locals m)(Ac:DZ X.prog X.w H' h')(hg:AllBare g'):Inv X pins σ H' {s with heap:=h',gens:=g',drawn:=d',toks:=t'}:=by
 have neL:∀b o,X.s₀.heap.get? b=some o->b≠X.env.locals:=fun b o e=>aL (aE (aH e) I.ok.above);have T:∀b o,X.s₀.heap.get? b=some o->b ∉ X.ex->b ∉ ch:=fun b o e M hb=>by
  rcases(Y b hb).1 with z|z
  .exact M z
  .exact absurd (aE (aH e) z) (bh _)
 have cellK:∀x c,X.env.cells.lookup x=some c->∀v,s.heap.IsCell c v->h'.IsCell c v:=fun x c e v ⟨o,ho,hd⟩=>by
  have U:=fun z=>(Y c z).2.2.1 x c e rfl;by_cases hc:c∈X.fs
  .obtain⟨sl,q⟩:=slot c o (I.Qg x c e) hc U ho (I.FR x c e);exact⟨_,q,hd⟩
  .exact⟨o,keep c o (I.Qg x c e) hc U ho (I.FR x c e),hd⟩
 refine⟨I.ok,I.os,hg,⟨fun b o e n hb M=>?_,fun b o e n hb M=>?_,fun b o e n M=>?_,fun b o e M=>?_,fun b xs e=>Bi b xs (I.base.Bi b xs e),fun b o xs e=>FK b o xs (I.base.FK b o xs e),fun b ps e=>?_,fun b xs o q e M=>GP b xs o (T b o e M) (I.base.Bi b xs q) (I.base.GP b xs o q e M)⟩,?_,fun x c e=>?_,?_,fun x c e=>?_,fun p hp=>?_,Ac,I.len⟩
 .exact keep b o (neL b o e) hb (T b o e M) (I.base.keep b o e n hb M) (I.base.free b o e n M)
 .obtain⟨sl,Z⟩:=I.base.slot b o e n hb M;obtain⟨sl',e2⟩:=slot b _ (neL b o e) hb (T b o e M) Z (I.base.free b o e n M);exact⟨sl',e2⟩
 .obtain⟨o',Z⟩:=I.base.there b o e M;exact free b o' (T b o e M) Z (I.base.free b o e n M)
 .obtain⟨o',Z⟩:=I.base.there b o e M;exact there b o' (T b o e M) Z
 .obtain⟨m1,Z⟩:=I.base.GN b ps e;obtain⟨m2,e2⟩:=GN b _ Z;exact⟨m1++m2,by rw[e2,Array.append_assoc]⟩
 .obtain⟨m,hn,hl⟩:=I.loc;refine⟨m,ns m hn,fun i x v Z e2 e3=>?_⟩;obtain⟨u,r,l⟩:=hl i x v Z e2 e3;refine⟨u,r,?_⟩;rcases l with l|⟨k,c,e,z⟩
  .exact .inl l
  .exact .inr ⟨k,c,e,cellK x c e _ z⟩
 .obtain⟨v,z⟩:=I.cell x c e;exact⟨v,cellK x c e v z⟩
 .obtain⟨m,⟨o,_,_,ho,_⟩,_⟩:=I.loc;exact free _ o (fun z=>(Y _ z).2.1 rfl) ho I.free
 .obtain⟨v,o,ho,hd⟩:=I.cell x c e;exact free c o (fun z=>(Y c z).2.2.1 x c e rfl) ho (I.FR x c e)
 .obtain⟨e,n,ne,nf,d⟩:=I.pin p hp;have U:=fun z=>(Y p.1 z).2.2.2 p hp rfl;exact⟨keep p.1 p.2 ne nf U e n,free p.1 p.2 U e n,ne,nf,d⟩
def Inv.un(I:BH)(u:Un X.fs [] H H' s.heap h')(Ac:DZ X.prog X.w H' h'):Inv X pins σ H' {s with heap:=h',toks:=t'}:=by
 obtain⟨m,⟨o,es,ep,U,r⟩,_⟩:=id I.loc;obtain⟨sl,Z⟩:=u.any U I.free BY;exact I.step (ch:=[]) (fun _ z=>nomatch z) (fun b o _ hb _ e n=>u.keep b o e n hb BY) (fun b o _ hb _ e n=>u.slot b o e n hb BY) (fun b o _ e n=>u.free b o e n BY) (fun b o _ e=>u.there b o e BY) u.Bi u.FK u.GN (fun b xs o _ q e=>u.GP b xs o q e BY) (fun m' hm=>by
  obtain⟨o',M,T,l,Y⟩:=hm;rw[U]at l;cases l;exact⟨_,M,T,Z,Y⟩) Ac I.bare
def Inv.call(I:BH)(u:Un (GG X.stack) ch H H' s.heap h')(Ac:DZ X.prog X.w H' h')(hg:AllBare g') (T:∀b∈ch,(b∈X.ex\/X.s₀.heap.objs.size<=b)/\b≠X.env.locals/\(∀x c,X.env.cells.lookup x=some c->c≠b)/\∀p∈X.pn++pins,p.1≠b):Inv X pins σ H' {s with heap:=h',gens:=g',drawn:=d',toks:=t'}:=by
 obtain⟨m,⟨o,es,ep,ho,r⟩,_⟩:=id I.loc;obtain⟨sl,U⟩:=u.any ho I.free fun z=>(T _ z).2.1 rfl;exact I.step T (fun b o U hb l e n=>u.keep b o e n (fun z=>(aO.mp (I.NV b z)).elim U hb) l) (fun b o _ _ l e n=>u.any e n l) (fun b o l e n=>u.free b o e n l) (fun b o l e=>u.there b o e l) u.Bi u.FK u.GN (fun b xs o l q e=>u.GP b xs o q e l) (fun m' hm=>by
  obtain⟨o',Y,Z,M,r'⟩:=hm;rw[ho]at M;cases M;exact⟨_,Y,Z,U,r'⟩) Ac hg
def Inv.turned(I:BH)(k:∀b o,b≠it->s.heap.get? b=some o->h'.get? b=some o)(hn:H it=none)(T:it≠X.env.locals) (h1:it∈X.ex\/X.s₀.heap.objs.size<=it)(Z:∀x c,X.env.cells.lookup x=some c->c≠it)(Y:∀p∈X.pn++pins,p.1≠it):Inv X pins σ H {s with heap:=h',toks:=t'}:=by
 have M:∀b u,H b=some u->b≠it:=fun b u e z=>by grind
 refine I.step (ch:=[it]) (fun b hb=>?_) (fun b o _ _ l e _=>k b o (fun z=>l (by simp[z])) e) (fun b o _ _ l e _=>⟨o.slots,k b o (fun z=>l (by simp[z])) e⟩) (fun _ _ _ _ n=>n)
  (fun b o l e=>⟨o,k b o (fun z=>l (by simp[z])) e⟩) (fun _ _ e=>e) (fun _ _ _ e=>e) (fun b ps e=>by simp_all) (fun b xs o l _ e=>k b o (fun z=>l (by simp[z])) e) (fun m hm=>?_) (fun b u e=>?_) I.bare
 .have e:=by simpa using hb
  subst e;exact⟨h1,T,Z,Y⟩
 .obtain⟨o,es,ep,U,r⟩:=hm;exact⟨o,es,ep,k _ o (Ne.symm T) U,r⟩
 .refine(I.Ac b u e).J4 (fun c v l q=>k c v ?_ q) (fun _ q=>q) fun _ _ q=>q;rcases l with z|z
  .rw[z];exact M b u e
  .exact M c _ z
def Inv.tok(I:BH) t:Inv X pins σ H {s with toks:=t}:=I.un Un.refl I.Ac
def Inv.kept(I:BH)(k:∀b u,s.heap.get? b=some u->h'.get? b=some u):Inv X pins σ H {s with heap:=h',toks:=t'}:=I.un (Un.kept k) (I.Ac.kept k)
def Inv.laid{a:AD}(I:BH)(k:∀b u,s.heap.get? b=some u->h'.get? b=some u)(l:s.heap.objs.size<=a)(new:Cz X.prog X.w (upd H a o) h' a o):Inv X pins σ (upd H a o) {s with heap:=h',toks:=t'}:=I.un (Un.laid k l (I.Ac.fresh l)) (I.Ac.laid k l new)
def Inv.write(I:BH)(M:fV (H x))(T:e=x\/H e=some (.own x))(k:∀b u,b≠e->s.heap.get? b=some u->h'.get? b=some u)(l:∃u,h'.get? e=some u) (new:Cz X.prog X.w (upd H x o) h' x o):Inv X pins σ (upd H x o) {s with heap:=h',toks:=t'}:=I.un (Un.write M T k l) (I.Ac.write M T k l new)
def Inv.Y7(I:BH)(h:∀p∈l,s.heap.get? p.1=some p.2/\H p.1=none/\p.1≠X.env.locals/\p.1 ∉ X.fs/\∀v,p.2.data≠.cell v):Inv X l σ H s :=
 ⟨I.ok,I.os,I.bare,I.base,I.loc,I.cell,I.free,I.FR,fun p M=>(aX.mp M).elim (fun z=>I.pin p (List.mem_append_left _ z)) (h p),I.Ac,I.len⟩
def P9{N:AAT}(l:N.Nodup){i j:Nat}(a:N[i]? = some x)(b:N[j]? = some x):i=j:=by
 obtain⟨U,M⟩:=aD.mp a;obtain⟨T,I⟩:=aD.mp b;exact(List.getElem_inj l).mp (M.trans I.symm)
def UZ{M:Model}{A:F0d}{i:Nat}{x:Str}{v:V}{u:VL}{Q}(I:BH)(hN:X.N.Nodup)(hi:X.N[i]? = some x)(T:Loc X.env.scope x)(r:RelV v u) (h:∀s',Inv X pins (σ.set i (some v)) H s'->(∃a,Heap.SameBut a s.heap s'.heap/\(a=X.env.locals\/X.env.cells.lookup x=some a))->Q () s')(hf:X.fn x=true\/X.env.scope.names.lookup x=some .local:=by first|exact .inl rfl|exact .inr rfl|assumption):wpAny M A (storeName X.env x u) Q E s:=by
 obtain⟨m,hn,hl⟩:=id I.loc;have hiσ:i<σ.length:=by rw[I.len];exact(aD.mp hi).1
 have Qg:=I.Qg;have tracked:∀ {a:AD} {h':Heap},(∃o,s.heap.get? a=some o/\H a=none)->Heap.SameBut a s.heap h'->DZ X.prog X.w H h':=fun {a h'} ha l b ob e=>by
  obtain⟨_,_,Z⟩:=ha;refine(I.Ac b ob e).J4 (fun c w' Y q=>(l.2 c ?_).trans q) (fun _ q=>q) fun _ _ q=>q;rintro rfl;rcases Y with rfl|Y
  .rw[Z]at e;cases e
  .rw[Z]at Y;cases Y
 rcases T with hk|hk
 .refine wpAny_storeName_local hk hn (fun h' hn' l=>?_) (show(X.env.scope.kind==.class||(X.env.scope.kind==.module&&X.env.locals != X.env.globals))=false by rw[I.ok.kind];rfl);obtain⟨oL,_,_,hoL,_⟩:=id hn;refine h _ ⟨I.ok,I.os,I.bare,⟨fun b o e n hb T=>?_,fun b o e n hb T=>?_,I.base.free,fun b o e T=>?_,I.base.Bi,I.base.FK,I.base.GN,fun b xs o q e T=>(l.2 b (aL (aE (aH e) I.ok.above))).trans (I.base.GP b xs o q e T)⟩,⟨_,hn',fun j y v' U e2 e3=>?_⟩,fun y c e=>?_,I.free,I.FR,fun p hp=>?_,tracked ⟨oL,hoL,I.free⟩ l,by simpa using I.len⟩ ⟨_,l,.inl rfl⟩
  .exact(l.2 b (aL (aE (aH e) I.ok.above))).trans (I.base.keep b o e n hb T)
  .obtain⟨sl,U⟩:=I.base.slot b o e n hb T;exact⟨sl,(l.2 b (aL (aE (aH e) I.ok.above))).trans U⟩
  .obtain⟨o',U⟩:=I.base.there b o e T;exact⟨o',(l.2 b (aL (aE (aH e) I.ok.above))).trans U⟩
  .by_cases hj:j=i
   .subst hj;rw[hi]at U;cases U;rw[List.getElem?_set_self hiσ]at e2;cases e2;exact⟨u,r,.inl ⟨hk,by simp⟩⟩
   .rw[List.getElem?_set_ne (Ne.symm hj)]at e2;obtain⟨u',r',q⟩:=hl j y v' U e2 e3;refine⟨u',r',?_⟩;rcases q with ⟨k,e⟩|⟨k,c,e,z⟩
    .refine .inl ⟨k,?_⟩;simp[(show y≠x from fun e=>hj (P9 hN U (e ▸ hi))),e]
    .exact .inr ⟨k,c,e,z.sameBut l (Qg y c e)⟩
  .obtain⟨w',z⟩:=I.cell y c e;exact⟨w',z.sameBut l (Qg y c e)⟩
  .obtain⟨e,n,ne,nf,d⟩:=I.pin p hp;exact⟨(l.2 p.1 ne).trans e,n,ne,nf,d⟩
 .have hfn:X.fn x=true:=by
   rcases hf with z|z
   .exact z
   .rw[z]at hk;cases hk
  obtain⟨c,Y⟩:=I.ok.has x (.inl hk);obtain⟨w',z⟩:=I.cell x c Y;refine wpAny_storeName_cell I.ok.kind hk Y z (fun h' hc' l=>?_);obtain⟨oc,hoc,hocd⟩:=id z;refine h {s with heap:=h'} ⟨I.ok,I.os,I.bare,⟨fun b o e n hb T=>?_,fun b o e n hb T=>?_,I.base.free,fun b o e T=>?_,I.base.Bi,I.base.FK,I.base.GN,fun b xs o q e T=>(l.2 b (aL (aE (aH e) (I.ok.XJ x c hfn Y)))).trans (I.base.GP b xs o q e T)⟩,⟨m,hn.sameBut l (Ne.symm (Qg x c Y)),fun j y v' U e2 e3=>?_⟩,fun y c' e=>?_,I.free,I.FR,fun p hp=>?_,tracked ⟨oc,hoc,I.FR x c Y⟩ l,by simpa using I.len⟩ ⟨c,l,.inr Y⟩
  .exact(l.2 b (aL (aE (aH e) (I.ok.XJ x c hfn Y)))).trans (I.base.keep b o e n hb T)
  .obtain⟨sl,U⟩:=I.base.slot b o e n hb T;exact⟨sl,(l.2 b (aL (aE (aH e) (I.ok.XJ x c hfn Y)))).trans U⟩
  .obtain⟨o',U⟩:=I.base.there b o e T;exact⟨o',(l.2 b (aL (aE (aH e) (I.ok.XJ x c hfn Y)))).trans U⟩
  .by_cases hj:j=i
   .subst hj;rw[hi]at U;cases U;rw[List.getElem?_set_self hiσ]at e2;cases e2;exact⟨u,r,.inr ⟨.inl hk,c,Y,hc'⟩⟩
   .rw[List.getElem?_set_ne (Ne.symm hj)]at e2;obtain⟨u',r',q⟩:=hl j y v' U e2 e3;refine⟨u',r',?_⟩;rcases q with q|⟨k,c',e,z'⟩
    .exact .inl q
    .refine .inr ⟨k,c',e,z'.sameBut l ?_⟩;rintro rfl;exact hj (P9 hN U (I.ok.inj _ _ _ e Y ▸ hi))
  .by_cases hcc:c'=c
   .subst hcc;exact⟨_,hc'⟩
   .obtain⟨w2,z2⟩:=I.cell y c' e;exact⟨w2,z2.sameBut l hcc⟩
  .obtain⟨e,n,ne,nf,d⟩:=I.pin p hp;refine⟨(l.2 p.1 ?_).trans e,n,ne,nf,d⟩;intro q;rw[q,hoc]at e;exact d w' (by rw[<-(ag e)];exact hocd)
def J0(I:BH)(T:X.N.Nodup)(hi:X.N[i]? = some x)(l:Loc X.env.scope x)(r:RelV v u) (h:∀s',Inv X pins (σ.set i (some v)) H s'->Q () s')(hf:X.fn x=true\/X.env.scope.names.lookup x=some .local:=by first|exact .inl rfl|exact .inr rfl|assumption):wpAny M A (storeName X.env x u) Q E s :=
 UZ I T hi l r (fun s' U _=>h s' U) hf
def Inv.nL(I:BH)(M:s'.os=s.os)(u:Un (GG X.stack) ch H H' s.heap s'.heap)(Ac:DZ X.prog X.w H' s'.heap)(hg:AllBare s'.gens) (l:∀b∈ch,(b∈X.ex\/X.s₀.heap.objs.size<=b)/\b≠X.env.locals/\(∀x c,X.env.cells.lookup x=some c->c≠b)/\∀p∈X.pn++pins,p.1≠b):Inv X pins σ H' s':=by
 obtain⟨h',U,Y,T,o'⟩:=s';subst M;exact I.call u Ac hg l
end
abbrev XK:=VL->Option AD->Hp->Prop
abbrev St:=List (Option V)
abbrev VK:=V->Hp->Prop
abbrev TE:=St->Hp->VK->Prop
abbrev TT:=St->Hp->(Bool->Hp->Prop)->Prop
abbrev TA:=St->Hp->(List V->Hp->Prop)->Prop
structure Ends where
 nx:St->Hp->Prop
 rt:VK
 bk:St->Hp->Prop:=fun _ _=>False
 ct:St->Hp->Prop:=fun _ _=>False
abbrev TS:=Ends->St->Hp->Prop
def EP(X:Cx)(pins:LE)(σ:St)(Q:VK)(u:VL)(s':SD):Prop:=∃v H',Inv X pins σ H' s'/\RelV v u/\Q v H'
def TP(X:Cx)(pins:LE)(σ:St)(Q:Bool->Hp->Prop)(b:Bool)(s':SD):Prop:=∃H',Inv X pins σ H' s'/\Q b H'
def AP(X:Cx)(pins:LE)(σ:St)(Q:List V->Hp->Prop)(us:AAM)(s':SD):Prop:=∃vs H',Inv X pins σ H' s'/\Vals vs us/\Q vs H'
def SP(X:Cx)(pins:LE)(D:Ends)(f:Flow)(s':SD):Prop :=
 match f with
 |.next=>∃σ' H',Inv X pins σ' H' s'/\D.nx σ' H'
 |.brk=>∃σ' H',Inv X pins σ' H' s'/\D.bk σ' H'
 |.cont=>∃σ' H',Inv X pins σ' H' s'/\D.ct σ' H'
 |.ret u=>∃v σ' H',Inv X pins σ' H' s'/\RelV v u/\D.rt v H'
def PE(X:Cx)(e:Expr)(t:TE):Prop :=
 ∀pins s (σ:St) H Q,Inv X pins σ H s->t σ H Q->wpAny B1 X.A (eval e X.env) (EP X pins σ Q) X.xe s
def PT(X:Cx)(e:Expr)(t:TT):Prop :=
 ∀pins s (σ:St) H Q,Inv X pins σ H s->t σ H Q->wpAny B1 X.A (isTrue e X.env (eval e X.env)) (TP X pins σ Q) X.xe s
def PW(X:Cx)(e:Expr)(t:TT):Prop :=
 ∀whole pins s (σ:St) H Q,Inv X pins σ H s->t σ H Q->wpAny B1 X.A (isTrue e X.env whole) (TP X pins σ Q) X.xe s
def PW.pt(h:PW X e t):PT X e t:=h _
def PA(X:Cx)(es:AAU)(t:TA):Prop :=
 ∀pos pins s (σ:St) H Q,Inv X pins σ H s->t σ H Q->wpAny B1 X.A (spliced (backTo pos OR)) (AP X pins σ Q) X.xe s
def PS(X:Cx)(st:Stmt)(t:TS):Prop :=
 ∀pins s (σ:St) H D,Inv X pins σ H s->t D σ H->wpAny B1 X.A (exec st X.env) (SP X pins D) X.xe s
def Ht(X:Cx)(st:AAi)(t:TS):Prop :=
 ∀pins s (σ:St) H D,Inv X pins σ H s->t D σ H->wpAny B1 X.A (execs st X.env) (SP X pins D) X.xe s
def Aw{t:Sem α}(h:wpAny M A t Q E s)(l:∀a s,Q a s->I a s):wpAny M A t I E s:=aV h l fun _ _ x=>x
section
variable{X:Cx}
def IL(i:Nat):TE:=fun σ H Q=>∃v,σ[i]? = some (some v)/\Q v H
def tC(v:V):TE:=fun _ H Q=>Q v H
def Bt:PE X (.Constant (.int i) j pos) (tC (.int i)):=fun _ _ _ H _ I h=>wpAny_Constant_int ⟨.int i,H,I.tok _,⟨_,rfl⟩,h⟩
def wV:PE X (.Constant (.bool b) j pos) (tC (.bl b)):=fun _ _ _ H _ I h=>Constant_bool ⟨.bl b,H,I,rfl,h⟩
def vT:PE X (.Constant (.str x) j pos) (tC (.str x)):=fun _ _ _ H _ I h=>Calls.Constant_str ⟨.str x,H,I.tok _,⟨_,rfl⟩,h⟩
def Gl(X:Cx)(x:Str):Prop:=X.env.kindOf x=some .globalImplicit
def Hx{σ:St}(I:BH)(hg:Gl X x)(hm:X.mg x=some u)(h:Q u s) (hd:IN=false:=by decide):wpAny B1 X.A (eval (.Name x pos) X.env) Q E s :=
 Calls.Name_function_global I.ok.kind hg (Calls.loadGlobal_global (by rw[I.ok.glob];exact I.mod.glob.keeps I.bk) hm h) hd
def FW{E}{σ:St}{pos}(I:BH)(hg:Gl X x)(hm:X.mg x=none)(l:bootBuiltins x=some u)(h:Q u s) (hn:x ≠ "__name__":=by decide)(hd:IN=false:=by decide):wpAny B1 X.A (eval (.Name x pos) X.env) Q E s:=let⟨mb,T,M⟩:=I.mod.blt;Calls.Name_function_global I.ok.kind hg (Calls.loadGlobal_builtin (by rw[I.ok.glob];exact I.mod.glob.keeps I.bk) hm (by rw[I.ok.blt];exact T.keeps I.bk) ((M x hn).trans l) h) hd
def Gu(hg:Gl X x)(hm:X.mg x=some u)(r:RelV v u)(hd:IN=false:=by decide):PE X (.Name x pos) (tC v) :=
 fun _ _ _ H _ I h=>Hx I hg hm ⟨v,H,I,r,h⟩ hd
def SN{pos}(hg:Gl X x)(hm:X.mg x=none)(l:bootBuiltins x=some u)(r:RelV v u)(hn:x ≠ "__name__":=by decide)(hd:IN=false:=by decide):PE X (.Name x pos) (tC v) :=
 fun _ _ _ H _ I h=>FW I hg hm l ⟨v,H,I,r,h⟩ hn hd
variable{a b:Expr}{ta tb:TE}{pos:Pos}
def tB(t:TE):TT:=fun σ H Q=>t σ H fun x l=>∃c,x=.bl c/\Q c l
def u5(h : PE X e t)(he : ∀ whole,isTrue e X.env whole = (do let v <- whole; standAt e.pos; holding [v] (truthy v)):=by intro _; rfl):PT X e (tB t):=by
  intro pins s σ H Q I hw
  refine isTrue_plain (Aw (h pins s σ H _ I hw) fun v s1 ⟨x,H1,I1,r1,q1⟩ => ?_) (he _)
  obtain ⟨d,rfl,q⟩:=q1
  cases r1
  exact bV ⟨H1,I1,q⟩
variable{tA tB':TT}{rest:AAU}
def yi(t u:TT):TT:=fun σ H Q=>t σ H fun c l=>if c=true then u σ l Q else Q false l
def z9(t u:TT):TT:=fun σ H Q=>t σ H fun c l=>if c=true then Q true l else u σ l Q
def AAc(t:TT):TT:=fun σ H Q=>t σ H fun c l=>Q (!c) l
def rV(ha:PT X a tA)(hb:PW X (.BoolOp .And (b::rest) pos) tB'):PW X (.BoolOp .And (a::b::rest) pos) (yi tA tB'):=by
 intro l pins s σ H Q I h;refine isTrue_and (Aw (ha pins s σ H _ I h) fun c s1 ⟨U,T,M⟩=>?_);cases c with
 |true=>exact hb l pins s1 σ U Q T M
 |false=>assumption
def vj(ha:PT X a tA)(hb:PW X (.BoolOp .Or (b::rest) pos) tB'):PW X (.BoolOp .Or (a::b::rest) pos) (z9 tA tB'):=by
 intro l pins s σ H Q I h;refine isTrue_or (Aw (ha pins s σ H _ I h) fun c s1 ⟨U,T,M⟩=>?_);cases c with
 |true=>assumption
 |false=>exact hb l pins s1 σ U Q T M
def xO(ta tb:TE):TE:=fun σ H Q=>ta σ H fun x l=>∃c,x=.bl c/\if c=true then tb σ l Q else Q (.bl false) l
def xg(ta:TE):TE:=fun σ H Q=>ta σ H fun x l=>∃c,x=.bl c/\Q (.bl (!c)) l
def sS(ha:PE X a ta)(hb:PE X (.BoolOp .And (b::rest) pos) tb):PE X (.BoolOp .And (a::b::rest) pos) (xO ta tb):=by
 intro pins s σ H Q I h;refine BoolOp_and (Aw (ha pins s σ H _ I h) fun v s1 ⟨x,T,M,U,l⟩=>?_);obtain⟨c,rfl,l⟩:=l;cases U;refine bV ?_;cases c with
 |true=>exact hb pins s1 σ T Q M l
 |false=>exact⟨.bl false,T,M,rfl,l⟩
def rD(ha:PE X a ta):PE X (.UnaryOp .Not a pos) (xg ta):=by
 intro pins s σ H Q I h;refine UnaryOp_ (Aw (ha pins s σ H _ I h) fun v s1 ⟨x,U,T,M,l⟩=>?_);obtain⟨c,rfl,l⟩:=l;cases M;exact not_of (bV ⟨.bl _,U,T,rfl,l⟩)
end
def Am(K:Fg)(H:Hp)(a:AD)(xs:AAf):Prop :=
 Rd H a (.lst xs) \/
  ∃(o:Obj) (l:Array VL) (n:Nat),K.lookup a=some o/\o.cls=.type "list" /\ o.dict=none/\o.data=.seq l n/\l.size<=sizeLine/\Vals xs l.toList
def A5(K:Fg)(H:Hp)(a:AD)(xs:AAf):Prop :=
 Rd H a KK \/
  ∃(o:Obj) (l:Array VL) (n:Nat),K.lookup a=some o/\o.cls=.type "tuple" /\ o.data=.seq l n/\l.size<=sizeLine/\Vals xs l.toList
def WG:VL->Option V
 |.none=>some .BV
 |.bool b=>some (.bl b)
 |.int i _=>some (.int i)
 |.str x _=>some (.str x)
 |.bytes b _=>some (.NQ b)
 |.float b _=>some (.ZK b)
 |.ref a=>some Jc
 |.type n=>some (.ty n)
 |_=>none
def RelV.abs(r:RelV x u):WG u=some x:=by
 cases x with
 |BV=>cases r;rfl
 |bl _=>cases r;rfl
 |int _=>obtain⟨t,rfl⟩:=r;rfl
 |str _=>obtain⟨t,rfl⟩:=r;rfl
 |NQ _=>obtain⟨t,rfl⟩:=r;rfl
 |ZK _=>obtain⟨t,rfl⟩:=r;rfl
 |ref _=>cases r;rfl
 |ty _=>cases r;rfl
def RelV.inj(r:RelV x u)(q:RelV y u):x=y:=ag (r.abs.symm.trans q.abs)
theorem Vals.inj:∀ {xs ys} {us},Vals xs us->Vals ys us->xs=ys
 |_,_,_,.nil,.nil=>rfl
 |_,_,_,.cons r t,.cons I l=>by rw[r.inj I,Vals.inj t l]
section
variable{X:Cx}{pins:LE}{σ:St}{H:Hp}{s:SD}{a:AD}{xs ys:AAf}
def Am.of{K}(h:H a=some (.lst xs)):Am K H a xs:=.inl (.inl h)
def A5.of{K}(h:H a=some KK):A5 K H a xs:=.inl (.inl h)
def Inv.list(I:BH)(h:Am X.K H a xs):∃l ,Vals xs l/\PlainL s.heap a l.toArray/\xs.length<=sizeLine:=by
 rcases h with h|⟨o,l,n,hk,T,hd,M,U,r⟩
 .obtain⟨z,l,n,r,e⟩:=h.ok I.Ac;exact⟨l,r,⟨_,n,e,rfl,rfl,rfl⟩,z⟩
 .refine⟨l.toList,r,⟨o,n,I.Fq a o hk,T,hd,by simpa using M⟩,?_⟩;have e:=r.length
  grind
def Inv.tuple(I:BH)(h:A5 X.K H a xs):∃l ,Vals xs l/\IsTup s.heap a l.toArray/\xs.length<=sizeLine:=by
 rcases h with h|⟨o,l,n,hk,M,U,T,r⟩
 .obtain⟨z,l,r,p⟩:=h.ok I.Ac;exact⟨l,r,p,z⟩
 .refine⟨l.toList,r,⟨o,I.Fq a o hk,M,n,by assumption⟩,?_⟩;have e:=r.length
  simp_all
def Inv.XZ(I:BH)(h:Am X.K H a xs)(h':Am X.K H a ys):xs=ys:=by
 obtain⟨Y,r,⟨o,n,e,_,_,d⟩,_⟩:=I.list h;obtain⟨l,U,⟨o',n',M,_,_,T⟩,_⟩:=I.list h';rw[e]at M;cases M;rw[d]at T
 injection T with Z _
 have:=by simpa using af Array.toList Z
 subst this;exact r.inj U
def Inv.Tp(I:BH)(h:A5 X.K H a xs)(h':A5 X.K H a ys):xs=ys:=by
 obtain⟨Y,r,⟨o,e,_,n,d⟩,_⟩:=I.tuple h;obtain⟨l,U,⟨o',M,_,n',T⟩,_⟩:=I.tuple h';rw[e]at M;cases M;rw[d]at T
 injection T with Z _
 have:=by simpa using af Array.toList Z
 subst this;exact r.inj U
end
abbrev Cx.Fd(X:Cx)(E:VL->SD->Prop):Cx:={X with xe:=E}
abbrev Cx.GF(X:Cx):Cx:=X.Fd fun _ _=>False
def Cx.Ok.Fd{X:Cx}(ok:X.Ok) E:(X.Fd E).Ok :=
 ⟨ok.mod,ok.kind,ok.glob,ok.blt,ok.above,ok.inj,ok.has,ok.XJ,ok.hd,ok.frames,ok.gy,ok.sF,ok.bs,ok.RH,ok.Su,ok.Sy,ok.HI,ok.QR,ok.kt⟩
def Cx.Ok.DJ{X:Cx}(ok:(X.Fd E).Ok):X.Ok :=
 ⟨ok.mod,ok.kind,ok.glob,ok.blt,ok.above,ok.inj,ok.has,ok.XJ,ok.hd,ok.frames,ok.gy,ok.sF,ok.bs,ok.RH,ok.Su,ok.Sy,ok.HI,ok.QR,ok.kt⟩
section
variable{X:Cx}{pins:LE}{σ:St}{H:Hp}{s:SD}{E:AAN}
def Inv.Fd(I:BH) E:Inv (X.Fd E) pins σ H s:=⟨I.ok.Fd E,I.os,I.bare,I.base,I.loc,I.cell,I.free,I.FR,I.pin,I.Ac,I.len⟩
def Inv.DJ(I:Inv (X.Fd E) pins σ H s):Inv X pins σ H s:=⟨I.ok.DJ,I.os,I.bare,I.base,I.loc,I.cell,I.free,I.FR,I.pin,I.Ac,I.len⟩
def SP.DJ(h:SP (X.Fd E) pins D f s'):SP X pins D f s':=by
 cases f with
 |next=>obtain⟨σ',H',I,q⟩:=h;exact⟨σ',H',I.DJ,q⟩
 |brk=>obtain⟨σ',H',I,q⟩:=h;exact⟨σ',H',I.DJ,q⟩
 |cont=>obtain⟨σ',H',I,q⟩:=h;exact⟨σ',H',I.DJ,q⟩
 |ret u=>obtain⟨v,σ',H',I,r,q⟩:=h;exact⟨v,σ',H',I.DJ,r,q⟩
def Ht.GF{st}(h:Ht X.GF st t):Ht X st t:=fun pins s σ H D I l=>
 aV (h pins s σ H D (I.Fd _) l) (fun _ _ q=>q.DJ) fun _ _ z=>False.elim z
end
section
variable{X:Cx}{st:Stmt}{rest:AAi}{t u:TS}{e:Expr}{te:TE}{pos:Pos}
def vx:TS:=fun D σ H=>D.nx σ H
def rL(t u:TS):TS:=fun D σ H=>t {D with nx:=u D} σ H
def FC:Ht X [] vx:=fun _ _ σ H _ I h=>wpAny_execs_nil ⟨σ,H,I,h⟩
def Ai(M:PS X st t)(l:Ht X rest u):Ht X (st::rest) (rL t u):=by
 intro pins s σ H D I h;refine wpAny_execs_cons (Aw (M pins s σ H _ I h) fun f s1 q=>?_);cases f with
 |next=>
  obtain⟨σ',H',T,q⟩:=q;exact l pins s1 σ' H' D T q
 |ret v=>exact q
 |brk=>exact q
 |cont=>exact q
def A8(l:PS X st t):Ht X [st] t:=by
 intro pins s σ H D I h;refine wpAny_execs_cons (Aw (l pins s σ H D I h) fun f s1 q=>?_);cases f with
 |next=>exact wpAny_execs_nil q
 |ret v=>exact q
 |brk=>exact q
 |cont=>exact q
def AAb:TS:=fun D σ H=>D.ct σ H
def Inv.quiet{σ:St}(I:BH):interactive X.env=false:=by simp[interactive,I.ok.kind]
def RV(te:TE):TS:=fun D σ H=>te σ H fun _ l=>D.nx σ l
def Hy(T:PE X e te)(M:swapsWith e none pos.line X.env=pure false:=by rfl):PS X (.Expr e pos) (RV te):=fun pins s σ H D I h=>wpAny_Expr_any (Aw (T pins s σ H _ I h) fun v s1 ⟨x,Y,U,Z,l⟩=>⟨σ,Y,U,l⟩) I.quiet M
def yZ(te:TE):TS:=fun D σ H=>te σ H D.rt
def Dj(T:PE X e te):PS X (.Return (some e) pos) (yZ te):=fun pins s σ H D I h=>wpAny_Return_some (Aw (T pins s σ H _ I h) fun v s1 ⟨x,Y,U,l,M⟩=>⟨x,σ,Y,U,l,M⟩)
def yP(c:TT)(t u:TS):TS:=fun D σ H=>c σ H fun b l=>if b=true then t D σ l else u D σ l
def IX(Y:PT X c U)(ha:Ht X a t)(hb:Ht X b u):PS X (.If c a b pos) (yP U t u):=by
 intro pins s σ H D I h;refine wpAny_If (Aw (Y pins s σ H _ I h) fun d s1 ⟨T,M,l⟩=>?_);cases d with
 |true=>exact ha pins s1 σ T D M l
 |false=>exact hb pins s1 σ T D M l
def sW:TS:=fun _ _ _=>False
def lI:PS X st sW:=fun _ _ _ _ _ _ h=>h.elim
end
abbrev TG:=V->St->Hp->(St->Hp->Prop)->Prop
abbrev fk:=List V->St->Hp->(St->Hp->Prop)->Prop
def PG(X:Cx)(target:Expr)(t:TG):Prop :=
 ∀pins s (σ:St) H v u Q,Inv X pins σ H s->RelV v u->t v σ H Q ->
  wpAny B1 X.A (assign target X.env u) (fun _ s'=>∃σ' H',Inv X pins σ' H' s'/\Q σ' H') X.xe s
def nE(X:Cx)(ts:AAU)(t:fk):Prop :=
 ∀pins s (σ:St) H vs us Q,Inv X pins σ H s->Vals vs us->t vs σ H Q ->
  wpAny B1 X.A (assignInOrder ((assignEach ts X.env).map (·.2)) us) (fun _ s'=>∃σ' H',Inv X pins σ' H' s'/\Q σ' H') X.xe s
abbrev j6:=V->V->V->Hp->(Hp->Prop)->Prop
def jY(X:Cx)(t:j6):Prop :=
 ∀pins s (σ:St) H o i v l I u Q,Inv X pins σ H s->RelV o l->RelV i I->RelV v u->t o i v H Q ->
  wpAny B1 X.A (setItem l I u) (fun _ s'=>∃H',Inv X pins σ H' s'/\Q H') X.xe s
section
variable{X:Cx}{pos:Pos}
def Cr(i:Nat):TG:=fun v σ H Q=>Q (σ.set i (some v)) H
def Df(M:X.N.Nodup)(hi:X.N[i]? = some x)(l:Loc X.env.scope x)(hf:X.fn x=true\/X.env.scope.names.lookup x=some .local:=by first|exact .inl rfl|exact .inr rfl|assumption):PG X (.Name x pos) (Cr i):=fun pins s σ H v u Q I r h=>wpAny_assign_Name (J0 I M hi l r (fun s' T=>⟨_,H,T,h⟩) hf)
def cG:fk:=fun vs σ H Q=>vs=[]/\Q σ H
def OU(t:TG)(u:fk):fk:=fun vs σ H Q=>∃v r,vs=v::r/\t v σ H fun σ' H'=>u r σ' H' Q
def LV:nE X [] cG:=by
 rintro pins s σ H vs us Q I r ⟨e,h⟩;exact assignInOrder_nil ⟨σ,H,I,h⟩
def EU(Z:PG X e t)(Y:nE X es u) (U:(assignEach (e::es) X.env).map (·.2)=assign e X.env::(assignEach es X.env).map (·.2):=by rfl):nE X (e::es) (OU t u):=by
 rintro pins s σ H vs us Q I r ⟨v,vr,e1,h⟩;subst e1;cases r with
 |cons r M=>
  rw[U];exact assignInOrder_cons (Aw (Z pins s σ H _ _ _ I r h) fun _ s1 ⟨l,H1,I1,T⟩=>Y pins s1 l H1 _ _ Q I1 M T)
def bx(K:Fg)(n:Nat)(t:fk):TG:=fun v σ H Q=>∃a xs,v=.ref a/\A5 K H a xs/\xs.length=n/\t xs σ H Q
def Nt{k}(hc:PP)(h:nE X es t) (hn:(assignEach es X.env).length=n:=by rfl)(l:(assignEach es X.env).findIdx? Fk=none:=by rfl):PG X (.Tuple es k pos) (bx X.K n t):=by
 rintro pins s σ H v u Q I r ⟨a,xs,e1,hq,hl,Y⟩;subst e1;cases r;obtain⟨T,M,Z,hz⟩:=I.tuple hq;exact assign_Tuple_tuple (I.ok.hd hc) Z (by simp[hn,<-hl,M.length]) l fun h' U=>h pins _ σ H xs _ Q (I.kept fun b o e=>U b o (aL (aH e)) e) Ev Y
def jJ(l I:TE)(t:j6):TG:=fun v σ H Q=>l σ H fun o U=>I σ U fun i T=>t o i v T fun M=>Q σ M
def Qv(ho:PE X o to)(hi:PE X i ti)(hs:jY X t)
 (ha:∀v,assign (.Subscript o i pos) X.env v=(do
      let ov <-holding [v] (eval o X.env)
      let iv <-holding [v,ov] (eval i X.env)
      standAt pos
      holding [v,ov,iv] (setItem ov iv v)
      release [v,ov,iv] []):=by intro _;rfl):PG X (.Subscript o i pos) (jJ to ti t):=by
  intro pins s σ H v u Q I r h
  rw[ha]
  exact Wb (aT (Aw (ho pins s σ H _ I h) fun ov s1 ⟨x,H1,I1,r1,q1⟩=>Wb (aT (Aw (hi pins s1 σ H1 _ I1 q1) fun iv s2 ⟨y,H2,I2,r2,q2⟩=>Wb (wpAny_standAt (Wb (aT (Aw (hs pins s2 σ H2 x y v ov iv u _ I2 r1 r2 r q2) fun _ s3 ⟨H3,I3,q3⟩=>wpAny_release ⟨σ,H3,I3,q3⟩))))))))
def WM(l:TE)(g:TG):TS:=fun D σ H=>l σ H fun x I=>g x σ I D.nx
def QX(Z:PE X e l)(hg:PG X tg g)(Y:swapsWithSole [tg] e pos.line X.env=pure false:=by rfl)(U:swappedStores [tg] e X.env=pure none:=by rfl) (h1:(assignEach [tg] X.env).map (·.2)=[assign tg X.env]:=by rfl):PS X (.Assign [tg] e pos) (WM l g):=by
 intro pins s σ H D I h;refine wpAny_Assign_stores (Aw (Z pins s σ H _ I h) fun v s1 ⟨x,H1,I1,M,T⟩=>?_) Y U;rw[h1];exact Aw (hg pins s1 σ H1 x v _ I1 M T) fun _ s2 q=>q
def Az(hN:X.N.Nodup)(hi:X.N[i]? = some x)(Y:Loc X.env.scope x)(he:PE X e M)(Z:swapsWith e (some (.Name x l)) pos.line X.env=pure false:=by rfl)(hf:X.fn x=true\/X.env.scope.names.lookup x=some .local:=by first|exact .inl rfl|exact .inr rfl|assumption):PS X (.Assign [.Name x l] e pos) (WM M (Cr i)):=fun pins s σ H D I h=>wpAny_Assign_Name (Aw (he pins s σ H _ I h) fun v s1 ⟨y,H1,I1,T,U⟩=>J0 I1 hN hi Y T (fun s2 I2=>⟨_,H1,I2,U⟩) hf) Z
def ya(i j:Nat)(l:TA):TS:=fun D σ H=>l σ H fun vs I=>∃v w,vs=[v,w]/\D.nx ((σ.set i (some v)).set j (some w)) I
def uF{i j}{x y}{a b}{ta}{kt k2 l}(hc:PP)(hN:X.N.Nodup)(hi:X.N[i]? = some x)(hj:X.N[j]? = some y)(hij:i≠j) (hx:X.env.scope.names.lookup x=some .local)(hy:X.env.scope.names.lookup y=some .local)(ha:PA X [a,b] ta) (hw:swappedStores [.Tuple [.Name x px,.Name y py] kt pt] (.Tuple [a,b] k2 l) X.env=pure (some [x,y])) (hs:swapsWithSole [.Tuple [.Name x px,.Name y py] kt pt] (.Tuple [a,b] k2 l) pos.line X.env=pure false:=by rfl):PS X (.Assign [.Tuple [.Name x px,.Name y py] kt pt] (.Tuple [a,b] k2 l) pos) (ya i j ta):=by
 intro pins s σ H D I h;refine Wb (wpAny_standAt (Wb (aB (Wb (Tuple_ (Aw (ha _ pins s σ H _ I h) fun us s1 ⟨vs,H1,I1,r1,Y⟩=>?_))))));obtain⟨v,w,e1,Y⟩:=Y;subst e1;obtain⟨T,M,rfl,rv,U⟩:∃T M,us=[T,M]/\RelV v T/\RelV w M:=by
  cases r1 with
  |cons p q=>
   cases q with
   |cons p' q'=>
    cases q';exact⟨_,_,rfl,p,p'⟩
 refine aj ?_ (by show 2<=sizeLine;decide);rw[hw];refine Wb (aB (Wb (ax (Wb (unpackItems_tuple (items:=#[T,M]) (I.ok.hd hc) (IsTup.new s1.heap _) fun h' hx'=>Wb (assignInOrder_cons (wpAny_bindName (J0 ((I1.kept fun b o e=>aF _ e).kept fun b o e=>hx' b o (aL (aH e)) e) hN hj (.inl hy) U (fun s2 I4=>?_) (.inr hy)))))))));refine assignInOrder_cons (wpAny_bindName (J0 I4 hN hi (.inl hx) rv (fun s3 I5=>assignInOrder_nil (aB ?_)) (.inr hx)));rw[List.set_comm _ _ (Ne.symm hij)]at I5;exact⟨_,H1,I5,Y⟩
end
section
variable{X:Cx}{pos:Pos}
def fQ(c:TT)(tb:TS):TS:=fun D σ H=>∃W:Nat->St->Hp->Prop,(∃m,W m σ H)/\∀m σ H,W m σ H ->
 c σ H fun b I=>if b=true then ∃N ,(∀σ' H',N σ' H'->∃l,l<m/\W l σ' H')/\tb {D with nx:=N,ct:=N,bk:=D.nx} σ I else D.nx σ I
def P6(hp:PassesOwn B1 X.A X.env X.xe)(hc:PT X c tc)(hb:Ht X T tb):PS X (.While c T [] pos) (fQ tc tb):=by
 rintro pins s σ H D I ⟨W,⟨m0,w0⟩,turn⟩;refine wpAny_While (codeAny_whileLoop (fun n s'=>∃σ' H',Inv X pins σ' H' s'/\W n σ' H') ?_ m0 ⟨σ,H,I,w0⟩);rintro n s1 ⟨M,H1,I1,w1⟩;refine wpAny_passesOwn hp (Aw (hc pins s1 M H1 _ I1 (turn n M H1 w1)) fun b s2 ⟨H2,I2,Z⟩=>?_);cases b with
 |true=>
  obtain⟨N,hN,Z⟩:=Z;refine wpAny_passesOwn hp (Aw (hb pins s2 M H2 _ I2 Z) fun f s3 Y=>?_);cases f with
  |next=>
   obtain⟨l,U,I3,n3⟩:=Y;obtain⟨m',hm,w3⟩:=hN l U n3;exact⟨m',hm,l,U,I3,w3⟩
  |cont=>
   obtain⟨l,U,I3,n3⟩:=Y;obtain⟨m',hm,w3⟩:=hN l U n3;exact⟨m',hm,l,U,I3,w3⟩
  |brk=>exact Y
  |ret v=>exact Y
 |false=>
  exact wpAny_execs_nil ⟨M,H2,I2,Z⟩
end
structure It where
 go:Nat->Hp->Prop
 E7:Nat->Hp->V->Hp->Prop
 stop:Nat->Hp->Prop
def K7(X:Cx)(pins:LE)(H:Hp)(b:AD):Prop :=
 H b=none/\b≠X.env.locals/\b ∉ X.fs/\(b∈X.ex\/X.s₀.heap.objs.size<=b)/\(∀x c,X.env.cells.lookup x=some c->c≠b)/\∀p∈X.pn++pins,p.1≠b
def Inv.QG{σ:St}{b:AD}(I:BH)(hb:s.heap.objs.size<=b)(hn:H' b=none):K7 X pins H' b:=by
 refine⟨hn,Nat.ne_of_gt (aE I.lt hb),I.zF hb,.inr (aK I.sz hb),fun x c e z=>?_,fun p l z=>?_⟩
 .obtain⟨v,q⟩:=I.cell x c e;exact absurd (aE q.lt Rs) (bh _)
 .exact absurd (aE (aH (I.pin p l).1) Rs) (bh _)
structure Turn(P:Program)(w:World)(K:Fg)(tg:Expr)(J:It)(fp:List Addr)(it:Addr)(tn:Nat->Heap->Prop):Prop where
 mem:it∈fp
 obj:∀i h,tn i h->∀b∈fp,∃o,h.get? b=some o/\∀v,o.data≠.cell v
 keep:∀i h h',tn i h->(∀b∈fp,∀o,h.get? b=some o->h'.get? b=some o)->tn i h'
 item:∀(X:Cx),X.prog=P->X.w=w->X.K=K->X.calm=true->∀(i:Nat) (pins:List (Addr×Obj)) (s:Shared) (σ:St) (H:Hp) (E:Value->Shared->Prop),Inv X pins σ H s->(∀b∈fp,K7 X pins H b)->tn i s.heap->J.go i H ->
  wpAny (model P w) X.A (pyNext (.ref it)) (fun r s1=>∃u,r=some u /\
   wpAny (model P w) X.A (letOwnedTupleGo tg (.ref it) u) (fun _ s2=>∃x H',Inv X pins σ H' s2/\RelV x u/\J.E7 i H x H'/\tn OK s2.heap/\∀b∈fp,H' b=none) E s1) E s
 done:∀(X:Cx),X.prog=P->X.w=w->X.K=K->X.calm=true->∀(i:Nat) (pins:List (Addr×Obj)) (s:Shared) (σ:St) (H:Hp) (E:Value->Shared->Prop),Inv X pins σ H s->(∀b∈fp,K7 X pins H b)->tn i s.heap->J.stop i H ->
  wpAny (model P w) X.A (pyNext (.ref it)) (fun r s1=>r=none/\Inv X pins σ H s1) E s
 self:∀(A:Around) (i:Nat) (s:Shared) (Q:Value->Shared->Prop) (E:Value->Shared->Prop),tn i s.heap->Q (.ref it) s->wpAny (model P w) A (pyIter (.ref it)) Q E s
abbrev TI:=St->Hp->(It->Hp->Prop)->Prop
def x5(X:Cx)(pins:LE)(σ:St)(tg:Expr)(R:It->Hp->Prop)(l:VL)(s2:SD):Prop :=
 ∃(it:AD) (fp:List AD) (tn:Nat->Heap->Prop) (J:It) (H':Hp),l=.ref it/\Inv X pins σ H' s2/\Turn X.prog X.w X.K tg J fp it tn/\tn 0 s2.heap/\(∀b∈fp,K7 X pins H' b)/\R J H'
def PI(X:Cx)(tg iter:Expr)(wi:TI):Prop :=
 ∀pins s (σ:St) H R,Inv X pins σ H s->wi σ H R ->
  wpAny B1 X.A (eval iter X.env) (fun v s1=>wpAny B1 X.A (pyIter v) (x5 X pins σ tg R) X.xe s1) X.xe s
def bq(I:s.heap.get? it=some o)(T:o.cls=.type n)(hd:o.data=.fields vs) (hn:["enumerate","zip","dict_itemiterator","dict_reverseitemiterator","odict_iterator","itertools.zip_longest","itertools.pairwise"].contains n=false)(l:Q () s):wpAny M A (letOwnedTupleGo tg (.ref it) u) Q E s:=by
 cases tg<;>first
  |exact aB l
  |(cases u<;>first
    |exact aB l
    |(refine Wb (wpAny_load I ?_)
      rw[T,hd];show wpAny M A (if _=true then _ else _) Q E s;rw[if_neg AS];exact aB l))
def ZW(K:Fg)(a:AD):It :=
 ⟨fun i H=>∃xs x,Am K H a xs/\xs[i]? = some x,fun i H x H'=>H'=H/\∀xs,Am K H a xs->xs[i]? = some x,fun i H=>∃xs,Am K H a xs/\xs.length<=i⟩
def tQ(K:Fg)(a:AD):It :=
 ⟨fun i H=>∃xs x,A5 K H a xs/\xs[i]? = some x,fun i H x H'=>H'=H/\∀xs,A5 K H a xs->xs[i]? = some x,fun i H=>∃xs,A5 K H a xs/\xs.length<=i⟩
def fF(lo:Int)(n:Nat):It:=⟨fun i _=>i<n,fun i H x H'=>H'=H/\x=.int (lo+i),fun i _=>n<=i⟩
def fg{K} a it:Turn P w K tg (ZW K a) [it] it (fun i h=>h.IsListIter it a i) where
 mem:=by simp
 obj:=fun i h st b hb=>by
  have e:=by simpa using hb
  subst e;obtain⟨o,e,c,d⟩:=st;exact⟨o,e,fun v z=>by rw[d]at z;cases z⟩
 keep:=fun i h h' st k=>st.at fun o e=>k it BY o e
 item:=by
  intro X hP hw hK hc i pins s σ H E I hf st hg;subst hP hw hK;obtain⟨xs,x,hq,hx⟩:=hg;obtain⟨its,rv,p,hz⟩:=I.list hq;obtain⟨u,hu,ru⟩:=rv.get hx;obtain⟨f0,f1,f2,f3,f4,f5⟩:=hf it BY;refine wpAny_pyNext_list_item st p.isList (by simpa using hu) fun h' st' sb=>?_;obtain⟨o,e,c,d⟩:=id st';exact⟨u,rfl,bq e c d AC ⟨x,H,(I.turned (fun b o hb e=>(sb.2 b hb).trans e) f0 f1 f3 f4 f5),ru,⟨rfl,fun ys hy=>by rw[I.XZ hy hq];exact hx⟩,st',fun b hb=>(hf b hb).1⟩⟩
 done:=by
  intro X hP hw hK hc i pins s σ H E I hf st hg;subst hP hw hK;obtain⟨xs,hq,hx⟩:=hg;obtain⟨its,rv,p,hz⟩:=I.list hq;obtain⟨f0,f1,f2,f3,f4,f5⟩:=hf it BY;have hl:=rv.length;exact wpAny_pyNext_list_end (I.ok.hd hc) st p.isList (by simp;lia) fun h' eb=>⟨rfl,I.turned (fun b o hb e=>eb b o hb e) f0 f1 f3 f4 f5⟩
 self:=fun _ _ _ _ _ st h=>wpAny_pyIter_listiter st h
def dB{K} a it:Turn P w K tg (tQ K a) [it] it (fun i h=>h.IsTupleIter it a i) where
 mem:=by simp
 obj:=fun i h st b hb=>by
  have e:=by simpa using hb
  subst e;obtain⟨o,e,c,d⟩:=st;exact⟨o,e,fun v z=>by rw[d]at z;cases z⟩
 keep:=fun i h h' st k=>st.at fun o e=>k it BY o e
 item:=by
  intro X hP hw hK hc i pins s σ H E I hf st hg;subst hP hw hK;obtain⟨xs,x,hq,hx⟩:=hg;obtain⟨its,rv,p,hz⟩:=I.tuple hq;obtain⟨u,hu,ru⟩:=rv.get hx;obtain⟨f0,f1,f2,f3,f4,f5⟩:=hf it BY;refine wpAny_pyNext_tuple_item st p (by simpa using hu) fun h' st' sb=>?_;obtain⟨o,e,c,d⟩:=id st';exact⟨u,rfl,bq e c d AC ⟨x,H,(I.turned (fun b o hb e=>(sb.2 b hb).trans e) f0 f1 f3 f4 f5),ru,⟨rfl,fun ys hy=>by rw[I.Tp hy hq];exact hx⟩,st',fun b hb=>(hf b hb).1⟩⟩
 done:=by
  intro X hP hw hK hc i pins s σ H E I hf st hg;subst hP hw hK;obtain⟨xs,hq,hx⟩:=hg;obtain⟨its,rv,p,hz⟩:=I.tuple hq;obtain⟨f0,f1,f2,f3,f4,f5⟩:=hf it BY;have hl:=rv.length;exact wpAny_pyNext_tuple_end (I.ok.hd hc) st p (by simp;lia) fun h' eb=>⟨rfl,I.turned (fun b o hb e=>eb b o hb e) f0 f1 f3 f4 f5⟩
 self:=fun _ _ _ _ _ st h=>wpAny_pyIter_tupleiter st h
def cN{K} it lo n:Turn P w K tg (fF lo n) [it] it (fun i h=>IsRangeIter h it (lo+i*1) (n-i) 1) where
 mem:=by simp
 obj:=fun i h st b hb=>by
  grind
 keep:=fun i h h' st k=>k it BY _ st
 item:=by
  intro X hP hw hK hc i pins s σ H E I hf st hg;obtain⟨f0,f1,f2,f3,f4,f5⟩:=hf it BY;refine(Walks.range (I.ok.hd hc) it lo 1 n).item i s _ _ hg st fun v h' tk hv st' kk=>?_;obtain⟨t,rfl⟩:=hv;refine⟨_,rfl,bq st' rfl rfl AC ⟨.int _,H,(I.turned (fun b o hb e=>kk b o (by simpa using hb) e) f0 f1 f3 f4 f5),⟨t,?_⟩,⟨rfl,rfl⟩,st',fun b hb=>(hf b hb).1⟩⟩;rw[Int.mul_one]
 done:=by
  intro X hP hw hK hc i pins s σ H E I hf st hg;obtain⟨f0,f1,f2,f3,f4,f5⟩:=hf it BY;exact wpAny_pyNext_range_end (I.ok.hd hc) st (by have:n<=i:=hg;lia) fun h' eb=>⟨rfl,I.turned (fun b o hb e=>eb b o hb e) f0 f1 f3 f4 f5⟩
 self:=fun _ _ _ _ _ st h=>wpAny_pyIter_rangeiter st h
section
variable{X:Cx}{tg:Expr}
def xQ(K:Fg)(I:TE):TI:=fun σ H R=>I σ H fun x l=>∃a,x=.ref a/\(∃xs,Am K l a xs)/\R (ZW K a) l
def yc(K:Fg)(I:TE):TI:=fun σ H R=>I σ H fun x l=>∃a,x=.ref a/\(∃xs,A5 K l a xs)/\R (tQ K a) l
def E9(hl:PE X l T):PI X tg l (xQ X.K T):=by
 intro pins s σ H R I h;refine Aw (hl pins s σ H _ I h) fun v s1 ⟨x,H1,M,U,Y⟩=>?_;obtain⟨a,e,⟨xs,hq⟩,q⟩:=Y;subst e;cases U;obtain⟨Z,rv,p,hz⟩:=M.list hq;refine wpAny_pyIter_list p.isList (⟨s1.heap.objs.size,[s1.heap.objs.size],_,_,H1,rfl,M.kept fun b o e=>aF _ e,fg a _,⟨_,Heap.get?_push_size _ rfl,rfl,rfl⟩,fun b hb=>?_,q⟩);have e:=by simpa using hb
 subst e;exact M.QG LK (M.Ac.fresh LK)
def iP(hl:PE X l T):PI X tg l (yc X.K T):=by
 intro pins s σ H R I h;refine Aw (hl pins s σ H _ I h) fun v s1 ⟨x,H1,M,U,Y⟩=>?_;obtain⟨a,e,⟨xs,hq⟩,q⟩:=Y;subst e;cases U;obtain⟨Z,rv,p,hz⟩:=M.tuple hq;refine wpAny_pyIter_tuple p (⟨s1.heap.objs.size,[s1.heap.objs.size],_,_,H1,rfl,M.kept fun b o e=>aF _ e,dB a _,⟨_,Heap.get?_push_size _ rfl,rfl,rfl⟩,fun b hb=>?_,q⟩);have e:=by simpa using hb
 subst e;exact M.QG LK (M.Ac.fresh LK)
def WC{σ:St}{lo hi}(I:BH)(Y:-(2^62)<=lo)(U:lo<2^62)(T:-(2^62)<=hi)(M:hi<2^62) (q:R (fF lo (hi-lo).toNat) H):wpAny B1 X.A (pyIter Go) (x5 X pins σ tg R) E {s with heap:=s.heap.push { cls:=.type "range",data:=.fields #[.int lo t,.int hi u,.int 1 v]},toks:=tk}:=by
 refine wpAny_pyIter_range (IsRange.new ..) (small_one Y U T M) ?_;have l:Inv X pins σ H {s with heap:=s.heap.push { cls:=.type "range",data:=.fields #[.int lo t,.int hi u,.int 1 v]},toks:=tk}:=I.kept fun b o e=>aF _ e;refine⟨(s.heap.push _).objs.size,[(s.heap.push _).objs.size],_,_,H,rfl,
  l.kept fun b o e=>aF _ e,cN _ lo (hi-lo).toNat,?_,fun b hb=>?_,q⟩
 .rw[(show lo+_*1=lo by simp),(show _-_=Builtin.Range.rangeSize lo hi 1 by rw[rangeSize_one];lia)];exact aR _ rfl
 .have e:b=(s.heap.push { cls:=.type "range",data:=.fields #[.int lo t,.int hi u,.int 1 v]}).objs.size:=by simpa using hb
  subst e;exact l.QG LK (l.Ac.fresh LK)
def wL(l:TA):TI:=fun σ H R=>l σ H fun vs I=>∃j ,vs=[.int j]/\-(2^62)<=j/\j<2^62/\R (fF 0 j.toNat) I
def vt(l:TA):TI:=fun σ H R=>l σ H fun vs I=>∃i j ,vs=[.int i,.int j]/\(-(2^62)<=i/\i<2^62/\-(2^62)<=j/\j<2^62)/\R (fF i (j-i).toNat) I
def gg(hg:Gl X "range")(hm:X.mg "range" = none)(ha:PA X [a] M)(Z:starEach [a] X.env=[(false,eval a X.env)]:=by rfl):PI X tg (.Call (.Name "range" p) [a] [] pos) (wL M):=by
 intro pins s σ H R I h;refine Call_ (FW I hg hm boot_range (bA (Aw (ha pos pins s σ H _ I h) fun us s1 ⟨vs,H1,I1,U,l⟩=>?_) Z rfl));obtain⟨j,e,l,Y,q⟩:=l;subst e;cases U with
 |cons r T=>
  cases T;obtain⟨t,rfl⟩:=r;exact call_range_1 (WC I1 (Int.natCast_nonneg _) (Int.natCast_nonneg _) l Y Rs)
def gz{p pos}(hg:Gl X "range")(hm:X.mg "range" = none)(ha:PA X [a,b] U)(hs:starEach [a,b] X.env=[(false,eval a X.env),(false,eval b X.env)]:=by rfl)(l:starEach [b] X.env=[(false,eval b X.env)]:=by rfl):PI X tg (.Call (.Name "range" p) [a,b] [] pos) (vt U):=by
 intro pins s σ H R I h;refine Call_ (FW I hg hm boot_range (bA (Aw (ha pos pins s σ H _ I h) fun us s1 ⟨vs,H1,I1,Y,T⟩=>?_) (by rw[hs,l]) (by rw[l];rfl)));obtain⟨i,j,e,⟨T,q2,q3,q4⟩,q⟩:=T;subst e;cases Y with
 |cons r M=>
  cases M with
  |cons Z M=>
   cases M;obtain⟨t,rfl⟩:=r;obtain⟨t',rfl⟩:=Z;exact call_range_2 (WC I1 T q2 q3 q4 q)
def yw(wi:TI)(g:TG)(tb:TS):TS:=fun D σ H=>wi σ H fun J T=>∃W:Nat->Nat->St->Hp->Prop,(∃m,W 0 m σ T)/\∀i m σ H,W i m σ H ->
 (J.stop i H/\D.nx σ H)\/(J.go i H/\∃N ,(∀σ' H',N σ' H'->∃I,I<m/\W OK I σ' H')/\∀x H',J.E7 i H x H'->g x σ H' fun l M=>tb {D with nx:=N,ct:=N,bk:=D.nx} l M)
def QN(fp:AAh)(h:Heap):List (AD×Obj):=fp.filterMap fun b=>(h.get? b).map fun o=>(b,o)
def JJ(hb:b∈fp)(e:h.get? b=some o):(b,o)∈QN fp h:=List.mem_filterMap.mpr ⟨b,hb,by rw[e];rfl⟩
def f9(l:p∈QN fp h):p.1∈fp/\h.get? p.1=some p.2:=by
 obtain⟨b,hb,e⟩:=List.mem_filterMap.mp l;cases q:h.get? b with
 |none=>simp_all
 |some o=>
  rw[q]at e;have I:=ag e;subst I;exact⟨hb,q⟩
def Inv.pinned{σ:St}(I:BH)(hf:∀b∈fp,K7 X pins H b)(M:∀b∈fp,∃o,s.heap.get? b=some o/\∀v,o.data≠.cell v):Inv X (pins++QN fp s.heap) σ H s :=
 I.Y7 fun p l=>(aX.mp l).elim (fun z=>I.pin p (aY _ z)) fun z=>by
  obtain⟨hb,e⟩:=f9 z;obtain⟨T,f1,f2,_⟩:=hf p.1 hb
  grind
def Inv.MJ{σ:St}(I:Inv X (pins++pl) σ H s):Inv X pins σ H s:=I.Y7 fun p l=>I.pin p (aY _ (List.mem_append_left _ l))
def KN{iter}{body}{wi}{g}{tb}{pos}(hp:PassesOwn B1 X.A X.env X.xe)(hc:PP)(hi:PI X tg iter wi)(hg:PG X tg g)(hb:Ht X body tb) (hs:∀x,foldedSetIterable iter X.env x=pure x:=by intro _;rfl):PS X (.For tg iter body [] pos) (yw wi g tb):=by
 intro pins s σ H D I h;refine wpAny_For (Aw (hi pins s σ H _ I h) fun v s1 h1=>Aw h1 fun itv s2 h2=>?_) hs;obtain⟨it,fp,tn,J,H2,e,I2,T,st2,f2,W,⟨m0,w0⟩,turn⟩:=h2;subst e;have U:∀ {H':Hp},(∀b∈fp,H' b=none)->∀b∈fp,K7 X pins H' b:=fun hn b hb=>⟨hn b hb,(f2 b hb).2⟩;refine codeAny_forLoop_any (fun n s'=>∃i σ' H',Inv X pins σ' H' s'/\tn i s'.heap/\(∀b∈fp,H' b=none)/\W i n σ' H') ?_ m0 ⟨0,σ,H2,I2,st2,fun b hb=>(f2 b hb).1,w0⟩;rintro n s3 ⟨i,M,H3,I3,st3,fr3,w3⟩;rcases turn i n M H3 w3 with ⟨stop,qn⟩|⟨go,N,hN,step⟩
 .refine wpAny_passesOwn hp (Aw (T.done X rfl rfl rfl hc i pins s3 M H3 X.xe I3 (U fr3) st3 stop) fun r s4 ⟨hr,I4⟩=>?_);subst hr;exact wpAny_execs_nil ⟨M,H3,I4,qn⟩
 .refine wpAny_passesOwn hp (Aw (T.item X rfl rfl rfl hc i pins s3 M H3 X.xe I3 (U fr3) st3 go) fun r s4 ⟨u,hr,h4⟩=>?_);subst hr;refine wpAny_passesOwn hp (Aw h4 fun _ s5 ⟨x,H5,I5,r5,y5,st5,fr5⟩=>wpAny_passesOwn hp (Aw (hg _ s5 M H5 x u _ (I5.pinned (U fr5) (T.obj _ _ st5)) r5 (step x H5 y5)) fun _ s6 ⟨σ6,H6,I6,q6⟩=>wpAny_passesOwn hp (Aw (hb _ s6 σ6 H6 _ I6 q6) fun f s7 q7=>?_)));have again:∀ {l:St} {Z:Hp},Inv X _ l Z s7->N l Z->∃m,m<n/\∃i σ' H',Inv X pins σ' H' s7/\tn i s7.heap/\(∀b∈fp,H' b=none)/\W i m σ' H':=fun {l Z} Y n7=>by
   obtain⟨m',hm,w7⟩:=hN l Z n7;refine⟨m',hm,i+1,l,Z,Y.MJ,T.keep _ _ _ st5 fun b hb o e=>(Y.pin (b,o) (aY _ (aY _ (JJ hb e)))).1,fun b hb=>?_,w7⟩;obtain⟨o,e,d⟩:=T.obj _ _ st5 b hb;exact(Y.pin (b,o) (aY _ (aY _ (JJ hb e)))).2.1
  cases f with
  |next=>obtain⟨l,Z,Y,n7⟩:=q7;exact again Y n7
  |cont=>obtain⟨l,Z,Y,n7⟩:=q7;exact again Y n7
  |brk=>obtain⟨l,Z,Y,q7⟩:=q7;exact⟨l,Z,Y.MJ,q7⟩
  |ret v=>obtain⟨x7,l,Z,Y,r7,q7⟩:=q7;exact⟨x7,l,Z,Y.MJ,r7,q7⟩
end
def Px{K}{g:TG}{tb:TS}{D:Ends}(Pv:Nat->St->Hp->Prop)(h0:Pv 0 σ H)(Z:∀i σ H,i<=xs.length->Pv i σ H->Am K H a xs) (Y:∀i x σ H,xs[i]? = some x->Pv i σ H->g x σ H fun l M=>tb {D with nx:=Pv OK,ct:=Pv OK,bk:=D.nx} l M)(hd:∀σ H,Pv xs.length σ H->D.nx σ H):∃W:Nat->Nat->St->Hp->Prop,(∃m,W 0 m σ H)/\∀i m σ H,W i m σ H ->((ZW K a).stop i H/\D.nx σ H)\/((ZW K a).go i H/\∃N ,(∀σ' H',N σ' H'->∃T,T<m/\W OK T σ' H')/\∀x H',(ZW K a).E7 i H x H'->g x σ H' fun l M=>tb {D with nx:=N,ct:=N,bk:=D.nx} l M):=by
 refine⟨fun i m σ H=>m=xs.length-i/\i<=xs.length/\Pv i σ H,⟨xs.length,by simp,Nat.zero_le _,h0⟩,?_⟩;rintro i m σ H ⟨rfl,hi,p⟩;have q:=Z i σ H hi p;by_cases I:i<xs.length
 .refine .inr ⟨⟨xs,xs[i],q,by simp⟩,Pv _,fun σ' H' U=>⟨xs.length-_,by lia,rfl,I,U⟩,fun x H' y=>?_⟩;obtain⟨e,y⟩:=y;subst e;exact Y i x σ _ (y xs q) p
 .have e:i=xs.length:=by lia
  subst e;exact .inl ⟨⟨xs,q,Nat.le_refl _⟩,hd σ H p⟩
def Pj(Pv:St->Hp->Prop)(M:St->Hp->Nat)(h0:Pv σ H) (Y:∀σ H,Pv σ H->c σ H fun b I=>if b=true then tb {D with nx:=fun σ' H'=>Pv σ' H'/\M σ' H'<M σ H,ct:=fun σ' H'=>Pv σ' H'/\M σ' H'<M σ H,bk:=D.nx} σ I else D.nx σ I) (mono:∀σ H Q T,(∀b I,Q b I->T b I)->c σ H Q->c σ H T):fQ c tb D σ H:=by
 refine⟨fun m σ H=>m=M σ H/\Pv σ H,⟨_,rfl,h0⟩,?_⟩;rintro m σ H ⟨rfl,p⟩;refine mono σ H _ _ (fun b I q=>?_) (Y σ H p);cases b with
 |true=>exact⟨_,fun σ' H' ⟨U,l⟩=>⟨_,l,rfl,U⟩,q⟩
 |false=>exact q
abbrev R2:=V->V->Hp->VK->Prop
def Cj(X:Cx)(f:VL->VL->Sem VL)(r:R2):Prop :=
 ∀pins s (σ:St) H x y v u Q,Inv X pins σ H s->RelV x v->RelV y u->r x y H Q ->
  wpAny B1 X.A (f v u) (EP X pins σ Q) X.xe s
def rC(X:Cx)(f:VL->Sem VL)(r:V->Hp->VK->Prop):Prop :=
 ∀pins s (σ:St) H x v Q,Inv X pins σ H s->RelV x v->r x H Q ->
  wpAny B1 X.A (f v) (EP X pins σ Q) X.xe s
def C2(X:Cx)(f:VL)(r:List V->Hp->VK->Prop):Prop :=
 ∀pins s (σ:St) H xs us Q,Inv X pins σ H s->Vals xs us->r xs H Q ->
  wpAny B1 X.A (call f us) (EP X pins σ Q) X.xe s
def ni(r:R2)(l tb:TE):TE:=fun σ H Q=>l σ H fun x M=>tb σ M fun y I=>r x y I Q
def tUn(r:V->Hp->VK->Prop)(l:TE):TE:=fun σ H Q=>l σ H fun x I=>r x I Q
def rI(C:Int->Int->Prop)(g:Int->Int->V):R2:=fun x y H Q=>∃i j,x=.int i/\y=.int j/\C i j/\Q (g i j) H
def Wj(g:Int->Int->V):R2:=fun x y H Q=>∃i j,x=.int i/\y=.int j/\Q (g i j) H
def rU(g:Int->V):V->Hp->VK->Prop:=fun x H Q=>∃i,x=.int i/\Q (g i) H
section
variable{X:Cx}{a b:Expr}{ta tb:TE}{pos:Pos}
def kP(ha:PE X a ta)(hb:PE X b tb){σ:St}{R:V->V->Hp->Prop}(I:BH) (h:ta σ H fun x U=>tb σ U fun y l=>R x y l){f:VL->VL->Sem VL} (hf:∀v u s2 x y l,Inv X pins σ l s2->RelV x v->RelV y u->R x y l->wpAny B1 X.A (f v u) Q X.xe s2):wpAny B1 X.A (eval a X.env) (fun v T=>wpAny B1 X.A (eval b X.env) (fun u M=>wpAny B1 X.A (f v u) Q X.xe M) X.xe T) X.xe s:=Aw (ha pins s σ H _ I h) fun v s1 ⟨x,U,I1,Z,q1⟩=>Aw (hb pins s1 σ U _ I1 q1) fun u s2 ⟨y,l,I2,Y,q2⟩=>hf v u s2 x y l I2 Z Y q2
def DP(T:Cj X (binaryOp op) r)(ha:PE X a ta)(hb:PE X b tb):PE X (.BinOp a op b pos) (ni r ta tb):=fun pins s σ H Q I h=>wpAny_BinOp (kP ha hb I h fun v u s2 x y Y U M l q=>T pins s2 σ Y x y v u Q U M l q)
def mx(T:rC X (unaryOp op) r)(ha:PE X a ta):PE X (.UnaryOp op a pos) (tUn r ta):=fun pins s σ H Q I h=>UnaryOp_ (Aw (ha pins s σ H _ I h) fun v s1 ⟨x,Y,U,l,M⟩=>T pins s1 σ Y x v Q U l M)
def Ys{g:Int->Int->Int} (rule:∀i j t u s Q E,C i j->Q (.int (g i j) s.toks) {s with toks:=s.toks+1}->wpAny B1 X.A (f (.int i t) (.int j u)) Q E s):Cj X f (rI C fun i j=>.int (g i j)):=by
 rintro pins s σ H x y v u Q I T M ⟨i,j,rfl,rfl,U,q⟩;obtain⟨t,rfl⟩:=T;obtain⟨l,rfl⟩:=M;exact rule i j t l s _ _ U ⟨.int _,H,I.tok _,⟨_,rfl⟩,q⟩
def tw{g:Int->Int->Int} (rule:∀i j t u s Q E,Q (.int (g i j) s.toks) {s with toks:=s.toks+1}->wpAny B1 X.A (f (.int i t) (.int j u)) Q E s):Cj X f (Wj fun i j=>.int (g i j)):=by
 rintro pins s σ H x y v u Q I T M ⟨i,j,rfl,rfl,q⟩;obtain⟨t,rfl⟩:=T;obtain⟨l,rfl⟩:=M;exact rule i j t l s _ _ ⟨.int _,H,I.tok _,⟨_,rfl⟩,q⟩
def ja{g:Int->Int->Bool} (rule:∀i j t u s Q E,Q (.bool (g i j)) s->wpAny B1 X.A (f (.int i t) (.int j u)) Q E s):Cj X f (Wj fun i j=>.bl (g i j)):=by
 rintro pins s σ H x y v u Q I T M ⟨i,j,rfl,rfl,q⟩;obtain⟨t,rfl⟩:=T;obtain⟨l,rfl⟩:=M;exact rule i j t l s _ _ ⟨.bl _,H,I,rfl,q⟩
def zC(i j:Int):Prop:=0<j/\j<1073741824
def zG(i j:Int):Prop:=0<=j/\j<=1000000/\i.natAbs<2^64
def cL(i j:Int):Prop:=(-(2^64)<i/\i<2^64)\/(-(2^64)<j/\j<2^64)
def cL.ok(h:cL i j):IntMulOk i j:=by
 rcases h with ⟨I,l⟩|⟨I,l⟩
 .exact .of_left (intBits_le_64 I l)
 .exact .of_right (intBits_le_64 I l)
def gU:Cj X (binaryOp .Add) (Wj fun i j=>.int (i+j)):=tw fun _ _ _ _ _ _ _ q=>add_int q
def iH:Cj X (binaryOp .Sub) (Wj fun i j=>.int (i-j)):=tw fun _ _ _ _ _ _ _ q=>sub_int q
def qp:Cj X (binaryOp .FloorDiv) (rI zC fun i j=>.int (i / j)):=Ys fun i j _ _ _ _ _ l q=>by
 have M:=l.1;have I:=l.2;exact floordiv_int (bJ ‹_›) (by rw[Int.fdiv_eq_ediv_of_nonneg i (Int.le_of_lt ‹_›)];exact q) (.inl (PyProof.noPylong_small AS))
def tJ:Cj X (binaryOp .Mod) (rI (fun _ j=>0<j) fun i j=>.int (i % j)):=Ys fun i j _ _ _ _ _ l q=>mod_int' (bJ ‹_›) (by rw[Int.fmod_eq_emod_of_nonneg i (Int.le_of_lt ‹_›)];exact q)
def Ry:Cj X (binaryOp .Mod) (rI (fun _ j=>j≠0) fun i j=>.int (i.fmod j)):=Ys fun _ _ _ _ _ _ _ l q=>mod_int' l q
def sG:Cj X (binaryOp .Pow) (rI zG fun i j=>.int (i^j.toNat)):=Ys fun _ _ _ _ _ _ _ l q=>pow_int_small l.1 l.2.1 l.2.2 q
def unI{g:Int->Int} (rule:∀i t s Q E,Q (.int (g i) s.toks) {s with toks:=s.toks+1}->wpAny B1 X.A (f (.int i t)) Q E s):rC X f (rU fun i=>.int (g i)):=by
 rintro pins s σ H x v Q I l ⟨i,rfl,q⟩;obtain⟨t,rfl⟩:=l;exact rule i t s _ _ ⟨.int _,H,I.tok _,⟨_,rfl⟩,q⟩
def iI:rC X (unaryOp .USub) (rU fun i=>.int (-i)):=unI fun _ _ _ _ _ q=>neg_int q
end
def uH:V->V->Bool
 |.BV,.BV=>true|.BV,.int _=>true|.int _,.BV=>true|.BV,.bl _=>true|.bl _,.BV=>true|.BV,.str _=>true|.str _,.BV=>true
 |.int _,.int _=>true|.bl _,.bl _=>true|.str _,.str _=>true|.NQ _,.NQ _=>true
 |.int _,.str _=>true|.str _,.int _=>true|.bl _,.str _=>true|.str _,.bl _=>true
 |_,_=>false
def zr:R2:=fun x y H Q=>uH x y=true/\Q (.bl (decide (x=y))) H
def zR:R2:=fun x y H Q=>uH x y=true/\Q (.bl (!decide (x=y))) H
def Ym:decide (V.int i=V.int j)=(i==j):=by
 rw[Bool.eq_iff_iff];simp
def hJ:decide (V.bl i=V.bl j)=(i==j):=by
 rw[Bool.eq_iff_iff];simp
def YU:decide (V.str i=V.str j)=(i==j):=by
 rw[Bool.eq_iff_iff];simp
def Yj:decide (V.NQ i=V.NQ j)=(i.toList==j.toList):=by
 rw[Bool.eq_iff_iff];simp
section
variable{X:Cx}{a b c:Expr}{ta tb:TE}{pos:Pos}
def BR{σ:St}(I:BH)(q:Q (.bl k) H)(e:k=l):EP X pins σ Q (.bool l) s:=by
 subst e;exact⟨.bl k,H,I,rfl,q⟩
def mF:Cj X (compareOp .Eq) zr:=by
 intro pins s σ H x y v u Q I U l h;obtain⟨T,q⟩:=h;cases x with
 |BV=>
  cases U;cases y with
  |BV=>cases l;exact PySem.EqNone.eq_none_none (BR I q BY)
  |bl j=>cases l;exact PySem.EqNone.eq_none_bool (BR I q BY)
  |int j=>obtain⟨M,rfl⟩:=l;exact PySem.EqNone.eq_none_int (BR I q BY)
  |str j=>obtain⟨M,rfl⟩:=l;exact PySem.EqNone.eq_none_str (BR I q BY)
  |_=>exact absurd (show false=true from T) aN
 |bl i=>
  cases U;cases y with
  |BV=>cases l;exact PySem.EqNone.eq_bool_none (BR I q BY)
  |bl j=>cases l;exact eq_bool (BR I q hJ)
  |str j=>obtain⟨M,rfl⟩:=l;exact PySem.EqMixed.eq_bool_str (BR I q BY)
  |_=>exact absurd (show false=true from T) aN
 |int i=>
  obtain⟨t,rfl⟩:=U;cases y with
  |BV=>cases l;exact PySem.EqNone.eq_int_none (BR I q BY)
  |int j=>obtain⟨M,rfl⟩:=l;exact eq_int (BR I q Ym)
  |str j=>obtain⟨M,rfl⟩:=l;exact PySem.EqMixed.eq_int_str (BR I q BY)
  |_=>exact absurd (show false=true from T) aN
 |str i=>
  obtain⟨t,rfl⟩:=U;cases y with
  |BV=>cases l;exact PySem.EqNone.eq_str_none (BR I q BY)
  |bl j=>cases l;exact PySem.EqMixed.eq_str_bool (BR I q BY)
  |int j=>obtain⟨M,rfl⟩:=l;exact PySem.EqMixed.eq_str_int (BR I q BY)
  |str j=>obtain⟨M,rfl⟩:=l;exact eq_str (BR I q YU)
  |_=>exact absurd (show false=true from T) aN
 |NQ i=>
  obtain⟨t,rfl⟩:=U;cases y with
  |NQ j=>obtain⟨M,rfl⟩:=l;exact PySem.W.eq_bytes (BR I q Yj)
  |_=>exact absurd (show false=true from T) aN
 |_=>cases y<;>exact absurd (show false=true from T) aN
def mO:Cj X (compareOp .NotEq) zR:=by
 intro pins s σ H x y v u Q I U l h;obtain⟨T,q⟩:=h;cases x with
 |BV=>
  cases U;cases y with
  |BV=>cases l;exact PySem.EqNone.ne_none_none (BR I q BY)
  |bl j=>cases l;exact PySem.EqNone.ne_none_bool (BR I q BY)
  |int j=>obtain⟨M,rfl⟩:=l;exact PySem.EqNone.ne_none_int (BR I q BY)
  |str j=>obtain⟨M,rfl⟩:=l;exact PySem.EqNone.ne_none_str (BR I q BY)
  |_=>exact absurd (show false=true from T) aN
 |bl i=>
  cases U;cases y with
  |BV=>cases l;exact PySem.EqNone.ne_bool_none (BR I q BY)
  |bl j=>cases l;exact ne_bool (BR I q (af not hJ))
  |str j=>obtain⟨M,rfl⟩:=l;exact PySem.EqMixed.ne_bool_str (BR I q BY)
  |_=>exact absurd (show false=true from T) aN
 |int i=>
  obtain⟨t,rfl⟩:=U;cases y with
  |BV=>cases l;exact PySem.EqNone.ne_int_none (BR I q BY)
  |int j=>obtain⟨M,rfl⟩:=l;exact ne_int (BR I q (af not Ym))
  |str j=>obtain⟨M,rfl⟩:=l;exact PySem.EqMixed.ne_int_str (BR I q BY)
  |_=>exact absurd (show false=true from T) aN
 |str i=>
  obtain⟨t,rfl⟩:=U;cases y with
  |BV=>cases l;exact PySem.EqNone.ne_str_none (BR I q BY)
  |bl j=>cases l;exact PySem.EqMixed.ne_str_bool (BR I q BY)
  |int j=>obtain⟨M,rfl⟩:=l;exact PySem.EqMixed.ne_str_int (BR I q BY)
  |str j=>obtain⟨M,rfl⟩:=l;exact ne_str (BR I q (af not YU))
  |_=>exact absurd (show false=true from T) aN
 |NQ i=>
  obtain⟨t,rfl⟩:=U;cases y with
  |NQ j=>obtain⟨M,rfl⟩:=l;exact PySem.W.ne_bytes (BR I q (af not Yj))
  |_=>exact absurd (show false=true from T) aN
 |_=>cases y<;>exact absurd (show false=true from T) aN
def Z0:Cj X (compareOp .Lt) (Wj fun i j=>.bl (decide (i<j))):=ja fun _ _ _ _ _ _ _ q=>lt_int q
def VH:Cj X (compareOp .Gt) (Wj fun i j=>.bl (decide (j<i))):=ja fun _ _ _ _ _ _ _ q=>gt_int q
def rq:Cj X (compareOp .Is) (fun x y H Q=>y=.BV/\Q (.bl (decide (x=.BV))) H):=by
 rintro pins s σ H x y v u Q I M l ⟨rfl,q⟩;cases l;refine is_none_gen (BR I q ?_);cases x<;>first
  |(rfl)
  |(obtain⟨t,rfl⟩:=M;rfl)
def Cj.or(h:Cj X f r)(h':Cj X f T):Cj X f (fun x y H Q=>r x y H Q\/T x y H Q):=by
 intro pins s σ H x y v u Q I M l q;rcases q with q|q
 .exact h pins s σ H x y v u Q I M l q
 .exact h' pins s σ H x y v u Q I M l q
def E6 b (h:op≠.In:=by decide) (l:op≠.NotIn:=by decide):behindInMarks op b=false:=by
 cases b<;>simp[behindInMarks,(show(op==CmpOp.In)=false by lia),(show(op==CmpOp.NotIn)=false by lia)]
def wD(t:TE):TT:=fun σ H Q=>t σ H fun x H'=>∃k,x=.bl k/\Q k H'
def Dc(ho:Cj X (compareOp op) r)(ha:PE X a ta)(hb:PE X b tb)(hm:behindInMarks op b=false):PT X (.Compare a [op] [b] pos) (wD (ni r ta tb)):=by
 intro pins s σ H Q I h;refine wpAny_isTrue_Compare1 (Aw (ha pins s σ H _ I h) fun v s1 ⟨x,H1,I1,T,Z⟩=>Aw (hb pins s1 σ H1 _ I1 Z) fun u s2 ⟨y,H2,I2,M,Y⟩=>
  Aw (ho pins s2 σ H2 x y v u _ I2 T M Y) fun c s3 ⟨z,H3,I3,l,k,e,U⟩=>?_) hm
 subst e;cases l;exact bV ⟨H3,I3,U⟩
def NF:sizeLine<2^63:=by decide
def bz:Cj X (binaryOp .Add) (fun x y H Q=>∃i j,x=.str i/\y=.str j/\i.length+j.length<=sizeLine/\Q (.str (i++j)) H):=by
 rintro pins s σ H x y v u Q I T M ⟨i,j,rfl,rfl,U,q⟩;obtain⟨t,rfl⟩:=T;obtain⟨l,rfl⟩:=M;exact add_str (fun l tk=>⟨.str _,H,I.tok _,⟨_,rfl⟩,q⟩) U
def vals1(r:Vals [x] us):∃u,us=[u]/\RelV x u:=by
 cases r with
 |cons I l=>cases l;exact⟨_,rfl,I⟩
def vals2(r:Vals [x,y] us):∃u l,us=[u,l]/\RelV x u/\RelV y l:=by
 cases r with
 |cons U T=>
  cases T with
  |cons M I=>cases I;exact⟨_,_,rfl,U,M⟩
def MI:C2 X (.builtin "abs") (fun xs H Q=>∃i,xs=[.int i]/\Q (.int (if i<0 then -i else i)) H):=by
 rintro pins s σ H xs us Q I r ⟨i,rfl,q⟩;obtain⟨u,rfl,t,rfl⟩:=vals1 r;exact call_abs_int fun u tk=>⟨.int _,H,I.tok _,⟨_,rfl⟩,q⟩
def gb(M:PP):C2 X (.builtin "max") (fun xs H Q=>∃i j,xs=[.int i,.int j]/\Q (.int (if j > i then j else i)) H):=by
 rintro pins s σ H xs us Q I r ⟨i,j,rfl,q⟩;obtain⟨u,T,rfl,⟨t,rfl⟩,⟨U,rfl⟩⟩:=vals2 r;refine max_two_ints (I.ok.hd M) fun h' tk k=>⟨_,H,I.kept k,?_,q⟩;by_cases l:j > i
 .rw[if_pos l,if_pos l];exact⟨_,rfl⟩
 .rw[if_neg l,if_neg l];exact⟨_,rfl⟩
end
structure kZ(h:Heap)(x dx C:Addr)(mA:Str->Option Value):Prop where
 obj:h.get? x=some (PySem.W.instObj C dx)
 ns:h.Ns1 dx mA
 ne:dx≠x
def eS{h:Heap}(n:h.Ns1 dx mA):∃od,h.get? dx=some od/\∀name,PySem.W.lookIn name od=some (mA name):=by
 obtain⟨o,es,ep,M,hd,hk,_,hm⟩:=n;refine⟨o,M,fun name=>?_⟩;have e:=hm name;unfold nsFind findBy at e;unfold PySem.W.lookIn;rw[hd];dsimp only;split
 .grind
 .have a:es.toList.any (·.refKey)=false:=by
   rw[List.any_eq_false];intro y I;obtain⟨z,t,l⟩:=hk y (Array.mem_toList_iff.mp I);simp[DictEntry.refKey,l]
  grind
def kZ.look(I:kZ h x dx C mA):∃od,PySem.W.InstAt h x (PySem.W.instObj C dx) C (some od)/\∀name,PySem.W.lookIn name od=some (mA name) :=
 let⟨od,l,M⟩:=eS I.ns
 ⟨od,⟨I.obj,rfl,rfl,l⟩,M⟩
def IE.some_of(r:IE (some v) o):∃u,o=some u/\RelV v u:=by
 cases o with
 |none=>exact r.elim
 |some u=>exact⟨u,rfl,r⟩
section
variable{P:F0b}{w:F0c}{H:Hp}{h:Heap}{a C dx:AD}{fs:List (Str×V)}
def pZ(Ac:DZ P w H h)(e:H a=some (.ins C dx fs)):∃mA,kZ h a dx C mA/\(∀f,IE (fs.lookup f) (mA f))/\PySem.Within mA (fs.map Fk)/\fs.length<=1000/\H dx=some (.own a):=let⟨d,z,ne,ob,mA,n,r,q⟩:=(Ac a _ e);⟨mA,⟨ob,n,ne⟩,r,q,z,d⟩
end
structure ug(K:Fg)(C:Addr):Prop where
 pg:PySem.W.plainGet K C Str.empty=true
 hd:PySem.W.hasDictIn K C=true
 po:PySem.W.plainOver K C=true
 sa:PySem.W.findIn K Re "__setattr__" = some (some (.builtin "object.__setattr__"))
def ug.get{K}(c:ug K C) f:PySem.W.plainGet K C f=true:=c.pg
section
variable{X:Cx}{pins:LE}{σ:St}{H:Hp}{s:SD}{A:F0d}{E:AAN}{Q:AAN}{c:VL}{b:Bool}
inductive Hd(K:Fg)(H:Hp):V->Value->Prop where
 |BV:Hd K H .BV (.type "NoneType")
 |bl (x:Bool):Hd K H (.bl x) (.type "bool")
 |int (i:Int):Hd K H (.int i) (.type "int")
 |str (x:Str):Hd K H (.str x) (.type "str")
 |ZK (x:UInt64):Hd K H (.ZK x) (.type "float")
 |lst {a:Addr} {xs:List V} (e:H a=some (.lst xs)):Hd K H Jc (.type "list")
 |En {a:Addr} {o:Obj} {xs:List V} (e:H a=some (.En o (.lst xs))):Hd K H Jc (.type "list")
 |tup {a:Addr} {xs:List V} (e:H a=some KK):Hd K H Jc KM
 |dK {a:Addr} {kvs:List (Key×V)} (e:H a=some (.dK kvs)):Hd K H Jc (.type "dict")
 |dT {a:Addr} {kvs:List (List Key×V)} (e:H a=some (.dT kvs)):Hd K H Jc (.type "dict")
 |ins {a C dx:Addr} {fs:List (Str×V)} (e:H a=some (.ins C dx fs)) (cl:ug K C) (ha:PySem.W.findIn K Re "__class__" = some (some (.builtin "object.__class__")))
   (hn:PySem.W.specialIn K (.builtin "object.__class__") "__get__" = some (some (.builtin "getset_descriptor.__get__"))) (htk:PySem.W.takesIn K (.builtin "object.__class__")=some true)
   (hm:PySem.W.mroIn K C (.type "object")=some true):Hd K H Jc Re
def iX(I:BH)(l:RelV x u)(ty:Hd X.K H x t)(e:PySem.W.kitOne X.K t c=some b)(h:∀tk,Q (.bool b) {s with toks:=tk}):wpAny B1 A (call (.builtin "isinstance") [u,c]) Q E s:=by
 cases ty with
 |BV=>cases l;exact au PySem.W.kitx_none I.Fq True.intro e M0 h
 |bl y=>cases l;exact au PySem.W.kitx_bool I.Fq True.intro e M0 h
 |int i=>obtain⟨t,q⟩:=l;cases q;exact au PySem.W.kitx_int I.Fq True.intro e M0 h
 |str y=>obtain⟨t,q⟩:=l;cases q;exact au PySem.W.kitx_str I.Fq True.intro e M0 h
 |ZK y=>obtain⟨t,q⟩:=l;cases q;exact au PySem.W.kitx_float I.Fq True.intro e M0 h
 | @lst a xs ea=>
  cases (show u=Value.ref a from l);obtain⟨_,_,n,_,M⟩:=(I.Ac a _ ea);exact au PySem.W.kitx_list I.Fq ⟨_,M,rfl⟩ e M0 h
 | @En a ob xs ea=>
  cases l;obtain⟨_,_,_,n,_,M⟩:=(I.Ac a _ ea);exact au PySem.W.kitx_list I.Fq ⟨_,M,rfl⟩ e M0 h
 | @tup a xs ea=>
  cases (show u=Value.ref a from l);obtain⟨_,_,_,p⟩:=(I.Ac a _ ea);obtain⟨o,M,T,_⟩:=p;exact au PySem.W.kitx_tuple I.Fq ⟨o,M,T⟩ e M0 h
 | @dK a kvs ea=>
  cases (show u=Value.ref a from l);obtain⟨_,_,vs,_,p⟩:=(I.Ac a _ ea);obtain⟨o,es,ep,M,T,_⟩:=p;exact au PySem.W.kitx_dict I.Fq ⟨o,M,T.1⟩ e M0 h
 | @dT a kvs ea=>
  cases (show u=Value.ref a from l);obtain⟨_,_,xs,_,o,es,ep,M,T,_⟩:=(I.Ac a _ ea);exact au PySem.W.kitx_dict I.Fq ⟨o,M,T.1⟩ e M0 h
 | @ins a C dx fs ea cl ha hn htk hm=>
  cases l;obtain⟨mA,O,_⟩:=pZ I.Ac ea;obtain⟨od,J,_⟩:=O.look;exact au (PySem.W.kitx_own (cl.get _) cl.hd ha hn htk hm) I.Fq J e M0 h
end
structure Bq(k:Nat)(A:Around):Prop where
 hd:A.handled=none
 dp:A.depth+3*k+5<recursionLimit
 un:A.units+16*k+200<cLine
def Bq.mono(r:Bq k A)(h:j<=k:=by decide):Bq j A:=⟨r.hd,by have:=r.dp;lia,by have:=r.un;lia⟩
def Bq.deeper(r:Bq (k+1) A) env:Bq k (A.deeper env) :=
 ⟨r.hd,by have:=r.dp;show A.depth+1+3*k+5<_;lia,by have:=r.un;show A.units+3+16*k+200<_;lia⟩
def Bq.depth(r:Bq k A):A.depth<recursionLimit:=by have:=r.dp;lia
def Bq.units(r:Bq k A):A.units+64<cLine:=by have:=r.un;lia
def tT:TA:=fun _ H Q=>Q [] H
def wK(I:TE)(l:TA):TA:=fun σ H Q=>I σ H fun x T=>l σ T fun xs M=>Q (x::xs) M
section
variable{X:Cx}{e:Expr}{es:AAU}{te:TE}{t:TA}{pos:Pos}
def Av:PA X [] tT:=fun _ _ _ _ H Q I h=>Calls.spliced_nil ⟨[],H,I,.nil,h⟩
def AV(ha:PE X e te)(Z:PA X es t)(Y:starEach (e::es) X.env=Fj::starEach es X.env:=by rfl):PA X (e::es) (wK te t):=by
 intro pos pins s σ H Q I h;rw[Y];exact bM (Aw (ha pins s σ H _ I h) fun u s1 ⟨x,H1,I1,M,U⟩=>Aw (Z pos pins s1 σ H1 _ I1 U) fun us s2 ⟨xs,H2,I2,l,T⟩=>⟨x::xs,H2,I2,.cons M l,T⟩)
def zD(t:TA):TE:=fun σ H Q=>t σ H fun xs l=>xs.length<=sizeLine/\∀p,l p=none->Q (.ref p) (upd l p KK)
def yp(t:TA):TE:=fun σ H Q=>t σ H fun xs l=>xs.length<=sizeLine/\∀p,l p=none->Q (.ref p) (upd l p (.lst xs))
def Nr(h:PA X es t):PE X (.Tuple es U pos) (zD t):=by
 intro pins s σ H Q I M;refine wpAny_Tuple_spliced (Aw (h pos pins s σ H _ I M) fun us s1 ⟨xs,T,l,r,z,q⟩=>⟨by rw[<-r.length];assumption,⟨.ref s1.heap.objs.size,upd T s1.heap.objs.size _,l.laid (fun b u e=>aF _ e) LK ?_,rfl,q _ (l.Ac.fresh LK)⟩⟩);exact⟨z,us,r,⟨_,Heap.get?_push_size _ rfl,rfl,_,rfl⟩⟩
def Rt(h:PA X es t):PE X (.List es pos) (yp t):=by
 intro pins s σ H Q I M;refine wpAny_List_spliced (Aw (h pos pins s σ H _ I M) fun us s1 ⟨xs,T,l,r,z,q⟩=>⟨by rw[<-r.length];assumption,⟨.ref s1.heap.objs.size,upd T s1.heap.objs.size _,l.laid (fun b u e=>aF _ e) LK ?_,rfl,q _ (l.Ac.fresh LK)⟩⟩);exact⟨z,us,0,r,Heap.get?_push_size _ rfl⟩
end
abbrev Sp:=List V->Hp->VK->XK->Prop
abbrev Jo:=List Env->Hp->SD->XK->VL->SD->Prop
structure kX(P:Program)(w:World)(K:Fg)(mg:Str->Option Value)(base:Heap)(A:Around)(outer:List Env)(s:Shared)(H:Hp):Prop where
 frames:A.frames=some outer
 mod:Mod K mg base
 bs:∀b o,base.get? b=some o->s.heap.get? b=some o/\H b=none
 RH:base.objs.size<=s.heap.objs.size
 HI:s.heap.FunFrames base outer
 QR:∀b∈GG outer,H b=none
 Ac:DZ P w H s.heap
 bare:AllBare s.gens
 kt:KTb mg H
def CE(outer:List Env)(P:F0b)(w:F0c)(H:Hp)(s:SD)(Q:VK)(u:VL)(s':SD):Prop :=
 ∃v H',s'.os=s.os/\AllBare s'.gens/\Un (GG outer) [] H H' s.heap s'.heap/\DZ P w H' s'.heap/\RelV v u/\Q v H'
def CR(CX:Jo)(outer:List Env)(P:F0b)(w:F0c)(H:Hp)(s:SD)(Q:VK)(E:XK)(r:Result)(s':SD):Prop :=
 match r with
 |.ok (.ret u)=>CE outer P w H s Q u s'
 |.ok _=>False
 |.error e=>CX outer H s E e s'
structure Ah(P:Program)(w:World)(K:Fg)(mg:Str->Option Value)(base:Heap)(CX:Jo)(k:Nat)(f:Addr)(fd:FuncData)(ps:List Str)(sp:Sp):Prop where
 len:∀vs H Q E,sp vs H Q E->vs.length=ps.length
 run:∀(A:Around) (outer:List Env) (s:Shared) (H:Hp) (args:Args) (us:List Value) (vs:List V) (Q:VK) (E:XK),Bq k A->kX P w K mg base A outer s H->BindsTo s fd args (ps.zip us)->Vals vs us->sp vs H Q E ->
  codeAny (model P w) A (.call (.ref f) args) (CR CX outer P w H s Q E) s
def Ah.mono{K}(F:Ah P w K mg base CX j f fd ps sp)(h:j<=k:=by decide):Ah P w K mg base CX k f fd ps sp:=⟨F.len,fun A outer s H args us vs Q E l=>F.run A outer s H args us vs Q E (l.mono h)⟩
def Ah.imp{K}(F:Ah P w K mg base CX k f fd ps sp) (h:∀vs H Q E,l vs H Q E->sp vs H Q E):Ah P w K mg base CX k f fd ps l :=
 ⟨fun vs H Q E q=>F.len vs H Q E (h _ _ _ _ q),fun A outer s H args us vs Q E T U hb I M=>F.run A outer s H args us vs Q E T U hb I (h _ _ _ _ M)⟩
section
variable{X:Cx}{pins:LE}{σ:St}{H:Hp}{s s':SD}
def Inv.va(I:BH):kX X.prog X.w X.K X.mg X.base X.A X.stack s H :=
 ⟨I.ok.frames,I.ok.mod,I.bs,Nat.le_trans I.ok.RH I.sz,I.stack,I.Rx,I.Ac,I.bare,I.kt⟩
def Inv.after(I:BH)(h:CE X.stack X.prog X.w H s Q u s'):EP X pins σ Q u s':=by
 obtain⟨v,H',os,bare,un,Ac,r,q⟩:=h;obtain⟨M,g,d,t,l⟩:=s';obtain rfl:l=s.os:=os;exact⟨v,H',I.call un Ac bare (fun b z=>by simp_all),r,q⟩
end
def VJ(sp:Sp)(l:AAf)(E:XK)(t:TA):TE:=fun σ H Q=>t σ H fun vs I=>sp (vs++l) I Q E
def Binds(K:Fg)(fd:F0a)(ps:AAT)(ds:AAM):Prop :=
 ∀s us,K.In s.heap->(us++ds).length=ps.length->BindsTo s fd ⟨us,[]⟩ (ps.zip (us++ds))
def Binds.all{K}(h:∀us ,us.length=ps.length->bindArgs fd ⟨us,[]⟩=pure (ps.zip us)):Binds K fd ps []:=fun s us _ l=>by
 rw[(MN)]at l ⊢;exact .of_eq (h us l)
def Passes(CX:Jo)(X:Cx)(E:XK):Prop:=∀pins (σ:St) H s e s',Inv X pins σ H s->CX X.stack H s E e s'->X.xe e s'
section
variable{X:Cx}{CX:Jo}{k:Nat}{f:AD}{fd:F0a}{ps:AAT}{sp:Sp}{dvs:AAf}{ds:AAM}{E:XK}{x:Str}{p pos:Pos}{e:Expr}{es:AAU}{t:TA}
def fW{σ:St}(F:Ah X.prog X.w X.K X.mg X.base CX k f fd ps sp)(U:Bq k X.A)(hb:Binds X.K fd ps ds)(hd:Vals dvs ds)(T:Passes CX X E) (I:BH)(r:Vals vs us)(h:sp (vs++dvs) H Q E):wpAny B1 X.A (call (.ref f) us) (EP X pins σ Q) X.xe s:=by
 have M:=r.append hd;refine wpAny_call (codeAny_mono (F.run X.A X.stack s H _ _ _ Q E U I.va (hb s us I.Fq (show(us++ds).length=ps.length by rw[<-M.length];exact F.len _ _ _ _ h)) M h) fun r s' l=>?_);cases r with
 |error e=>exact T pins σ H s e s' I l
 |ok fl=>
  cases fl with
  |ret u=>exact I.after l
  |next=>exact False.elim l
  |brk=>exact False.elim l
  |cont=>exact False.elim l
def Y2(F:Ah X.prog X.w X.K X.mg X.base CX k f fd ps sp)(Y:Bq k X.A)(hg:Gl X x)(hm:X.mg x=some (.ref f))(hk:PySem.W.keepIn X.K (.ref f)=true)(hb:Binds X.K fd ps ds)(hd:Vals dvs ds)(U:Passes CX X E) (ha:PA X (e::es) t)(M:IN=false:=by decide)(Z:starEach (e::es) X.env=Fj::starEach es X.env:=by rfl)(l:(backTo pos OR).any Fk=false:=by rfl):PE X Cl (VJ sp dvs E t):=fun pins s σ H Q I h=>bG (Hx I hg hm (PySem.W.callWith_K I.ok.mod.Mj hk (Aw (ha pos pins s σ H _ I h) fun us s1 ⟨vs,H1,T,r,q⟩=>⟨T.Fq,fW F Y hb hd U T r q⟩) Z l) M)
def jz(F:Ah X.prog X.w X.K X.mg X.base CX k f fd ps sp)(T:Bq k X.A)(hg:Gl X x)(hm:X.mg x=some (.ref f))(hk:PySem.W.keepIn X.K (.ref f)=true)(hb:Binds X.K fd ps ds)(hd:Vals dvs ds)(M:Passes CX X E) (l:IN=false:=by decide):PE X (.Call (.Name x p) [] [] pos) (VJ sp dvs E tT):=fun pins s σ H Q I h=>bG (Hx I hg hm (PySem.W.callWith_K0 I.Fq hk (fW F T hb hd M I .nil h)) l)
end
structure BX(N P:List Str)(sc:Scope):Prop where
 kind:sc.kind=.function
 co:sc.isCoroutine=false
 gen:sc.isGenerator=false
 nd:N.Nodup
 pre:N.take P.length=P
 par:∀x∈P,sc.names.lookup x=some .local\/sc.names.lookup x=some .cell
 rT:∀y∈sc.names,y.2≠.free
theorem UK{kindOf}:∀ {binds} {m},(∀v,(x,v) ∉ binds)->bindL kindOf binds m x=m x
 |[],_,_=>rfl
 |(n,v)::r,m,h=>by
  unfold bindL;rw[UK fun w l=>by grind];split
  .grind
  .rfl
theorem UH{kindOf}:∀ {binds} {m},(∀v,(x,v) ∉ binds)->bindC kindOf binds m x=m x
 |[],_,_=>rfl
 |(n,v)::r,m,h=>by
  unfold bindC;rw[UH fun w l=>by grind];split
  .rfl
  grind
theorem Uc{kindOf}{x}{v}:∀ {P:List Str} {vs} {i:Nat} {m},P.Nodup->P[i]? = some x->vs[i]? = some v->kindOf x=some .local ->
  bindL kindOf (P.zip vs) m x=some v
 |[],_,_,_,_,h,_,_=>by simp at h
 |_::_,[],_,_,_,_,h,_=>by simp at h
 |p::P,w::vs,0,m,nd,I,l,hk=>by
  simp at I l;subst I;subst l;show bindL kindOf ((p,w)::P.zip vs) m p=_;unfold bindL;rw[UK fun v M=>(List.nodup_cons.mp nd).1 (List.of_mem_zip M).1,if_pos hk];simp
 |p::P,w::vs,i+1,m,nd,I,l,hk=>by
  unfold bindL;exact Uc (List.nodup_cons.mp nd).2 Ev Ev hk
theorem Ul{kindOf}{x}{v}:∀ {P:List Str} {vs} {i:Nat} {m},P.Nodup->P[i]? = some x->vs[i]? = some v->kindOf x≠some .local ->
  bindC kindOf (P.zip vs) m x=some v
 |[],_,_,_,_,h,_,_=>by simp at h
 |_::_,[],_,_,_,_,h,_=>by simp at h
 |p::P,w::vs,0,m,nd,I,l,hk=>by
  simp at I l;subst I;subst l;show bindC kindOf ((p,w)::P.zip vs) m p=_;unfold bindC;rw[UH fun v M=>(List.nodup_cons.mp nd).1 (List.of_mem_zip M).1,if_neg hk];simp
 |p::P,w::vs,i+1,m,nd,I,l,hk=>by
  unfold bindC;exact Ul (List.nodup_cons.mp nd).2 Ev Ev hk
def start(N:AAT)(vs:AAf):St:=vs.map some++List.replicate (N.length-vs.length) none
def B8(CX:Jo)(P:F0b)(w:F0c)(K:Fg)(mg:AAO)(base:Heap)(N:AAT)(qual:Str)(scope:Scope)(f:AD)(cd:VL)(A:F0d)(outer:List Env)(s:SD)(H:Hp)(E:XK):Cx where
 prog:=P
 w:=w
 K:=K
 mg:=mg
 base:=base
 A:=A.deeper (envOfC qual scope s.heap.objs.size f cd)
 N:=N
 s₀:=s
 H₀:=H
 env:=envOfC qual scope s.heap.objs.size f cd
 outer:=outer
 stack:=envOfC qual scope s.heap.objs.size f cd::outer
 ex:=[]
 calm:=true
 fn:=fun _=>true
 pn:=[]
 xe:=fun e s'=>wpAny (model P w) (A.deeper (envOfC qual scope s.heap.objs.size f cd)) (leaving (envOfC qual scope s.heap.objs.size f cd) e) (fun _ s''=>CX outer H s E e s'') (fun e' s''=>CX outer H s E e' s'') s'
def XG{sc:Scope}(h:sc.names.lookup x=some .cell):∃c,(cellsFrom n sc.names []).lookup x=some c:=Option.isSome_iff_exists.mp (PySem.W.cellsFrom_some sc.names n [] (.inl h))
def gK{CX:Jo}{P:F0b}{w:F0c}{K}{base:Heap}{N ps:AAT}{qual:Str}{scope:Scope}{f:AD}{cd:VL}{A:F0d}{outer:List Env}{s s1:SD}{H:Hp}{E:XK}{us}{vs:AAf} (S:BX N ps scope)(hd:A.handled=none)(I:kX P w K mg base A outer s H)(hl:vs.length=ps.length)(r:Vals vs us) (x:InCallC s s.heap.objs.size (bindL (envOfC qual scope s.heap.objs.size f cd).kindOf (ps.zip us) fun _=>none) (cellsFrom Ps scope.names []) (bindC (envOfC qual scope s.heap.objs.size f cd).kindOf (ps.zip us) fun _=>none) s1):Inv (B8 CX P w K mg base N qual scope f cd A outer s H E) [] (start N vs) H s1:=by
 have hpl:ps.length<=N.length:=by have:=af List.length S.pre;rw[(Ex)]at this;lia
 obtain⟨Z,tk,rfl,hk⟩:=x.done;have M:∀b:AD,b ∉ (B8 CX P w K mg base N qual scope f cd A outer s H E).ex:=fun b z=>absurd (show b∈([]:List AD) from z) BY;refine⟨⟨I.mod,S.kind,rfl,rfl,Nat.le_refl _,fun y z c Z l=>?_,fun y U=>?_,fun y c _ h=>?_,fun _=>hd,Around.frames_deeper I.frames,.inr ⟨rfl,rfl⟩,fun b z=>absurd z (M b),I.bs,I.RH,fun b _ _=>M b,fun b z=>absurd z (M b),I.HI,I.QR,I.kt⟩,
  rfl,I.bare,Un.kept hk,⟨_,x.toInCall.ns,fun i y v Z l h3=>?_⟩,fun y c h=>⟨_,x.cell y c h⟩,I.Ac.fresh LK,fun y c h=>?_,fun p Y=>absurd (show p∈([]) from Y) BY,I.Ac.kept hk,?_⟩
 .exact name_of_addr x.apart (PySem.mem_of_lookup Z) (PySem.mem_of_lookup l)
 .rcases U with U|U
  .exact XG U
  .exact absurd rfl (S.rT _ (PySem.mem_of_lookup U))
 .exact aa (x.above y c (PySem.mem_of_lookup h))
 .have hi:i<vs.length:=by
   unfold start at l;by_cases hi:i<vs.length
   .exact hi
   .rw[List.getElem?_append_right (by simpa using hi),(XB)]at l;split at l<;>cases l
  have ha:vs[i]? = some v:=by
   unfold start at l;rw[List.getElem?_append_left (by simpa using hi),(Ar)]at l;cases e:vs[i]? with
   |none=>rw[e]at l;cases l
   |some a=>rw[e]at l;cases l;rfl
  obtain⟨u,hu,rv⟩:=r.get ha;have Y:ps[i]? = some y:=by
   rw[<-S.pre,List.getElem?_take_of_lt AS];exact Z
  have T:ps.Nodup:=by rw[<-S.pre];exact S.nd.sublist (List.take_sublist _ _)
  refine⟨u,rv,?_⟩;rcases S.par y (aJ Y) with k|k
  .exact .inl ⟨k,Uc T Y hu k⟩
  .obtain⟨c,e⟩:=XG k;refine .inr ⟨.inl k,c,e,?_⟩;have q:=x.cell y c e;rw[Ul T Y hu (by show scope.names.lookup y≠_;rw[k];decide)]at q;exact q
 .exact I.Ac.fresh (aa (x.above y c (PySem.mem_of_lookup h)))
 .unfold start;show _=N.length;rw[(Ca),OF,List.length_replicate]
  lia
def nX{K}{dV kV doc pm cdv ct oc} (lk:K.lookup f=some ⟨oc,od,.func (PySem.W.fnOf name qual params l scope dV kV doc pm an cdv ct),osl⟩)(hcd:PySem.W.codeIn K cdv qual=true)(S:BX N ps scope) (len:∀vs H Q E,sp vs H Q E->vs.length=ps.length) (I:∀A outer s H vs Q E,Bq k (A.deeper (envOfC qual scope s.heap.objs.size f cdv))->sp vs H Q E ->∃t,Ht (B8 CX P w K mg base N qual scope f cdv A outer s H E) l t/\t { nx:=fun _ H'=>Q .BV H',rt:=Q} (start N vs) H):Ah P w K mg base CX (k+1) f (PySem.W.fnOf name qual params l scope dV kV doc pm an cdv ct) ps sp:=by
 refine⟨len,fun A outer s H args us vs Q E Z U hb r T=>?_⟩;have KX:=U.mod.Mj.keeps fun b o e=>(U.bs b o e).1;refine codeAny_call_function Z.depth (KX _ _ lk) rfl S.co S.gen rfl (PySem.W.codeRec_of KX hcd) (hb _ _ _ _ (wpAny_newFunctionEnv_cells S.kind (fun⟨n,v⟩ hy=>by
  rcases S.par n (List.of_mem_zip hy).1 with q|q
  .exact .inl q
  .exact .inr ⟨q,PySem.W.cellsFrom_some _ _ _ (.inl q)⟩) fun env he s1 x=>?_))
 subst he;refine⟨(U.mod.nolimit.keeps fun b o e=>(U.bs b o e).1).keeps x.toInCall.keep,codeAny_func ?_⟩;obtain⟨t,ht,hq⟩:=I A outer s H vs Q E (Z.deeper _) T;refine aV (ht [] s1 _ H _ (gK S Z.hd U (len _ _ _ _ T) r x) hq) (fun fl s' M=>?_) fun e s' M=>M;have fin:∀ {σ':St} {H':Hp} {v:V} {u:VL},Inv (B8 CX P w K mg base N qual scope f cdv A outer s H E) [] σ' H' s'->RelV v u->Q v H'->CE outer P w H s Q u s' :=
  fun {σ' H' v u} J Y q=>⟨v,H',J.os,J.bare,J.base,J.Ac,Y,q⟩
 cases fl with
 |ret u=>
  obtain⟨v,σ',H',J,Y,q⟩:=M;exact fin J Y q
 |next=>
  obtain⟨σ',H',J,q⟩:=M;exact fin (v:=V.BV) J rfl q
 |brk=>
  obtain⟨_,_,_,q⟩:=M;exact False.elim q
 |cont=>
  obtain⟨_,_,_,q⟩:=M;exact False.elim q
section
variable{X:Cx}{x:Str}{p pos:Pos}{e:Expr}{es:AAU}{t:TA}{id T:String}{r:List V->Hp->VK->Prop}
def yG(r:List V->Hp->VK->Prop)(t:TA):TE:=fun σ H Q=>t σ H fun vs l=>r vs l Q
def EW(hc:C2 X (.builtin id) r)(hg:Gl X x)(hm:X.mg x=none)(Z:bootBuiltins x=some (.builtin id))(ha:PA X (e::es) t)(hn:x ≠ "__name__":=by decide)(M:IN=false:=by decide) (he:starEach (e::es) X.env=Fj::starEach es X.env:=by rfl)(l:(backTo pos OR).any Fk=false:=by rfl):PE X Cl (yG r t):=fun pins s σ H Q I h=>bG (FW I hg hm Z (PyProof.Rows.callWith_builtin1 (Aw (ha pos pins s σ H _ I h) fun us s1 ⟨vs,H1,I1,U,Y⟩=>hc pins s1 σ H1 vs us Q I1 U Y) he l) hn M)
def T8(hc:C2 X (.type T) r)(hg:Gl X x)(hm:X.mg x=none)(Z:bootBuiltins x=some (.type T))(ha:PA X (e::es) t)(hn:x ≠ "__name__":=by decide)(M:IN=false:=by decide) (he:starEach (e::es) X.env=Fj::starEach es X.env:=by rfl)(l:(backTo pos OR).any Fk=false:=by rfl):PE X Cl (yG r t):=fun pins s σ H Q I h=>bG (FW I hg hm Z (bA (Aw (ha pos pins s σ H _ I h) fun us s1 ⟨vs,H1,I1,U,Y⟩=>hc pins s1 σ H1 vs us Q I1 U Y) he l) hn M)
end
end L2
namespace HT
open PySem PyProof.Rows
section
variable{prog:F0b}{w:F0c}{A:F0d}{E:AAN}{s:SD}
def qS(ht:IsTup s.heap t vs.toArray)(hb:IsTup s.heap b I.toArray)(hv:vs≠[]) (h1:I=[]->Q (.ref t) s)(h2:I≠[]->Q Go {s with heap:=s.heap.push { cls:=.type "tuple",data:=.seq (vs++I).toArray} }) (hsz:vs.length+I.length<=sizeLine):wpAny As A (binaryOp .Add (.ref t) (.ref b)) Q E s:=by
 obtain⟨⟨cls,dd,data,sl⟩,U,hc,n,hd⟩:=id ht;obtain⟨⟨cls2,T,data2,M⟩,l,Z,n2,Y⟩:=id hb;subst hc hd Z Y;by_cases hw:I=[]
 .exact concat_meets ⟨_,U,rfl⟩ ⟨_,l,rfl⟩ noFill_tuple_add seq_tuple_add PySem.F.slot_tuple_add PySem.F.entry_tuple_add (PySem.F.args_tuple_add_2 _ _)
   (tuple_addW1 t b vs.toArray I.toArray n n2 dd T sl M (by simpa using hv) (by simp[hw])) ⟨U,l,h1 hw⟩
 .refine concat_meets ⟨_,U,rfl⟩ ⟨_,l,rfl⟩ noFill_tuple_add seq_tuple_add PySem.F.slot_tuple_add PySem.F.entry_tuple_add (PySem.F.args_tuple_add_2 _ _)
   (tuple_addW2 t b vs.toArray I.toArray n n2 dd T sl M (by simpa using hv) Rs hsz) ⟨U,l,?_⟩
  simp_all
def CA(n d:Nat):Option Int->Nat
 |none=>d
 |some v=>if v<0 then(v+n).toNat else min v.toNat n
def MX(n d:Nat):CA n d none=d:=rfl
def JZ(n d k:Nat):CA n d (some k)=min k n:=by
 rfl
def zc n d (hd:d<=n) o:CA n d o<=n:=by
 cases o with
 |none=>exact hd
 |some v=>
  show(if v<0 then(v+n).toNat else min v.toNat n)<=n;by_cases l:v<0
  .rw[if_pos l];lia
  .rw[if_neg l];exact Nat.min_le_right _ _
def ZH v (n d:Nat):(if v<0 then max (v+(n:Int)) 0 else min v n)=((CA n d (some v))):=by
 show _=(((if v<0 then(v+_).toNat else min v.toNat n):Nat):Int)
 lia
def cn lo hi (n:Nat):Builtin.Slice.sliceAdjust lo hi 1 n=(((CA n 0 lo):Int),((CA n n hi):Int)):=by
 refine Prod.ext ?_ ?_
 .cases lo with
  |none=>rfl
  |some v=>exact ZH v n 0
 .cases hi with
  |none=>rfl
  |some v=>exact ZH v n n
def cz(i j:Nat):Builtin.Slice.slicePlaces i j 1=j-i:=by
 unfold Builtin.Slice.slicePlaces
 lia
def QM(p:IsPart v o)(h:Q o s):wpAny As A (Builtin.Slice.slicePartIndex v) Q E s:=by
 cases p with
 |none=>exact slicePart_none h
 |int i t=>exact slicePart_int h
def Jy{lo hi}{n:Nat}(Z:s.heap.IsSliceOf sl T M .none)(Y:IsPart T lo)(U:IsPart M hi) (h:Q (((CA n 0 lo)),1,CA n n hi-CA n 0 lo) s):wpAny As A (Builtin.Slice.sliceApplied (.ref sl) (pure n)) Q E s:=by
 obtain⟨os,l,hcs,I⟩:=id Z;refine Wb (Wb (az l I (x:=T) rfl (Wb (az l I (x:=M) rfl (Wb (az l I rfl (aB (Wb (slicePart_none (Wb (QM Y (Wb (QM U (Wb (aB ?_)))))))))))))));show wpAny _ _ (match Builtin.Slice.sliceAdjust lo hi 1 _ with|(lo,hi)=>pure (lo,_,Builtin.Slice.slicePlaces lo hi 1)) _ _ s;rw[cn lo hi n];show wpAny _ _ (pure (_,_,Builtin.Slice.slicePlaces _ _ 1)) _ _ s;rw[cz];exact aB h
def jq(xs:Array VL)(i k:Nat):((List.range k).filterMap fun(m:Nat)=>xs[(i+(m:Int)*1).toNat]?).toArray=((xs.toList.drop i).take k).toArray:=by
 rw[(show(fun(m:Nat)=>xs[((i:Int)+m*1).toNat]?)=fun m=>xs[i+m]? by
  funext m
  rw[(show(_+(m:Int)*1).toNat=i+m by exact(Nat.add_assoc _ _ _).symm)])]
 have:=pick_run xs i k;rw[List.filterMap_map,(show(_ ∘ fun x=>i+x)=fun m=>xs[i+m]? from rfl)]at this;rw[this]
def Ol{t sl:AD}{items}{Y U:VL}{lo hi}{Q}(I:IsTup s.heap t items)(Z:s.heap.IsSliceOf sl Y U .none)(pl:IsPart Y lo)(pu:IsPart U hi) (hw:¬(CA items.size 0 lo=0/\CA items.size items.size hi=items.size)) (h:Q Go {s with heap:=s.heap.push { cls:=.type "tuple",data:=.seq ((items.toList.drop (CA items.size 0 lo)).take (CA items.size items.size hi-CA items.size 0 lo)).toArray} }) (hsz:items.size<=sizeLine):wpAny As A (getItem (.ref t) (.ref sl)) Q E s:=by
 have l:=by
  show((items.toList.drop (CA items.size 0 lo)).take (CA items.size items.size hi-CA items.size 0 lo)).toArray.size<=sizeLine;rw[(HW),(Ex),List.length_drop,(WY)]
  lia
 obtain⟨os,M,T,hds⟩:=id Z;unfold getItem
 try with_reducible refine aT ?_
 refine Wb (wpAny_sequenceKey I.typeIs AC (Wb (ae I.typeIs bP
  (aU bP I.typeIs entry_tuple_getitem ?_ (args_tuple_getitem _ _)))))
 show wpAny _ _ (Builtin.Tuple.tupleItemsOf (.ref t)>>=_) _ _ s;refine Wb (tupleItemsOf_ I (Wb (wpAny_typeOf (⟨os,M,T⟩) (Wb (Jy Z pl pu ?_)))));show wpAny _ _ (if _=true then _ else _) _ _ s;rw[if_neg (fun q=>hw ⟨by lia,by lia⟩),jq]
 first
  |exact Wb (aj (aB ⟨_,rfl,wpAny_pure h⟩) l)
  |exact Wb (aj (Wb (aB (aB ⟨_,rfl,wpAny_pure h⟩))) l)
  |exact Wb _
  |exact Wb _
end
end HT
namespace L2
open PySem PySem.Spec PyProof.Rows
abbrev TO:=St->Hp->(Option Int->Hp->Prop)->Prop
def PO(X:Cx)(e:Option Expr)(t:TO):Prop :=
 ∀pins s (σ:St) H Q,Inv X pins σ H s->t σ H Q ->
  wpAny B1 X.A (evalPart e X.env) (fun u s'=>∃o H',Inv X pins σ H' s'/\IsPart u o/\Q o H') X.xe s
def oE:TO:=fun _ H Q=>Q none H
def xK(t:TE):TO:=fun σ H Q=>t σ H fun x l=>∃i,x=.int i/\Q (some i) l
def intsAre_of:∀ {us},Vals (ns.map V.int) us->IntsAre us ns:=by
 induction ns with
 |nil=>intro us r;cases r;exact .nil
 |cons n ns M=>
  intro us r;cases r with
  |cons I l=>
   obtain⟨t,e⟩:=I;subst e;exact .cons n t (M l)
section
variable{X:Cx}{e:Expr}{te:TE}{lo hi:Option Expr}{tl th:TO}{pos p2:Pos}
def ZI:PO X none oE:=fun pins s σ H Q I h=>aB ⟨none,H,I,.none,h⟩
def Y8(h:PE X e te):PO X (some e) (xK te):=by
 intro pins s σ H Q I T;refine Aw (h pins s σ H _ I T) fun u s1 ⟨x,Y,U,l,M⟩=>?_;obtain⟨i,rfl,q⟩:=M;obtain⟨t,rfl⟩:=l;exact⟨some i,Y,U,.int i t,q⟩
def UI(X:Cx)(r:V->Option Int->Option Int->Hp->VK->Prop):Prop :=
 ∀pins s (σ:St) H x v I l lo hi sl Q,Inv X pins σ H s->RelV x v->s.heap.IsSliceOf sl I l .none->IsPart I lo->IsPart l hi->r x lo hi H Q ->
  ∃T id,typeLookup (.type T) "__getitem__" = pure (some (.builtin id))/\s.TypeIs v T/\wpAny B1 X.A (getItem v (.ref sl)) (EP X pins σ Q) X.xe s
def UI.or(h:UI X r)(h':UI X r'):UI X (fun x lo hi H Q=>r x lo hi H Q\/r' x lo hi H Q):=by
 intro pins s σ H x v M l lo hi sl Q I T Z Y U q;rcases q with q|q
 .exact h pins s σ H x v M l lo hi sl Q I T Z Y U q
 .exact h' pins s σ H x v M l lo hi sl Q I T Z Y U q
def tSl(r:V->Option Int->Option Int->Hp->VK->Prop)(te:TE)(tl th:TO):TE:=fun σ H Q=>te σ H fun x T=>tl σ T fun l M=>th σ M fun u I=>r x l u I Q
def WH(hr:UI X r)(he:PE X e te)(hl:PO X lo tl)(hu:PO X hi th):PE X (.Subscript e (.Slice lo hi none p2) pos) (tSl r te tl th):=by
 intro pins s σ H Q I h;refine Subscript_ (Aw (he pins s σ H _ I h) fun v s1 ⟨x,H1,I1,Z,q1⟩=>wpAny_Slice (Aw (hl pins s1 σ H1 _ I1 q1) fun U s2 ⟨l,H2,I2,pl,q2⟩=>Aw (hu pins s2 σ H2 _ I2 q2) fun M Y ⟨u,H3,I3,pu,q3⟩=>aB ?_));obtain⟨T,id,hT,ht,hg⟩:=hr pins _ σ H3 x v U M l u Y.heap.objs.size Q (I3.kept fun b ob q=>aF _ q) Z (Heap.IsSliceOf.new ..) pl pu q3;exact tail_any ht hT hg IF
def L7(xs:AAf)(lo hi:Option Int):AAf:=(xs.drop (HT.CA xs.length 0 lo)).take (HT.CA xs.length xs.length hi-HT.CA xs.length 0 lo)
def PH xs lo hi:(L7 xs lo hi).length<=xs.length:=by
 unfold L7;rw[(Ex),List.length_drop]
 lia
def yu(K:Fg):V->Option Int->Option Int->Hp->VK->Prop:=fun x lo hi H Q=>∃a xs,x=.ref a/\A5 K H a xs /\
 ¬(HT.CA xs.length 0 lo=0/\HT.CA xs.length xs.length hi=xs.length)/\∀p,H p=none->Q (.ref p) (upd H p (.tup (L7 xs lo hi)))
def iE:UI X (yu X.K):=by
 rintro pins s σ H x v vl vu lo hi sl Q I Y hs pl Z ⟨a,xs,rfl,hx,hw,q⟩;cases Y;obtain⟨M,r,U,T⟩:=I.tuple hx;have l:M.toArray.size=xs.length:=r.length.symm;refine⟨"tuple",_,PyProof.Rows.slot_tuple_getitem.lookup,U.typeIs,HT.Ol U hs pl Z (by rw[l];exact hw) ?_ (by rw[l];exact T)⟩;rw[l];refine⟨.ref s.heap.objs.size,_,I.laid (fun b ob q=>aF _ q) LK ?_,rfl,q _ (I.Ac.fresh LK)⟩;exact⟨aK (PH xs lo hi) T,_,(r.drop _).take _,IsTup.new _ _⟩
def Vals.OZ(r:Vals xs us):us=[] ↔ xs=[]:=by
 cases r with
 |nil=>simp
 |cons _ _=>simp
end
def QZ(n:Nat)(i:Int):Option Nat:=if 0<=i then(if i<n then some i.toNat else none) else if -n<=i then some (i+n).toNat else none
def FX{α:Type}(xs:List α)(i:Int):Option α:=(QZ xs.length i).bind fun j=>xs[j]?
def Ze(h:QZ n i=some j):seqIndex? i n=some j/\j<n/\-n<=i/\i<n:=by
 unfold QZ at h;by_cases h0:0<=i
 .rw[if_pos h0]at h;by_cases l:i<n
  .rw[if_pos l]at h;exact⟨by rw[seqIndex_of h0 l,(ag h)],by lia,by lia,l⟩
  simp_all
 .rw[if_neg h0]at h;by_cases l:-n<=i
  .rw[if_pos l]at h;exact⟨by rw[seqIndex_neg AS l,(ag h)],by lia,l,by lia⟩
  simp_all
def Sv(h:FX xs i=some v):∃j,seqIndex? i xs.length=some j/\xs[j]? = some v/\j<xs.length/\-xs.length<=i/\i<xs.length:=by
 unfold FX at h;cases e:QZ xs.length i with
 |none=>simp_all
 |some j=>
  rw[e]at h;obtain⟨T,M,I,l⟩:=Ze e;exact⟨j,T,h,M,I,l⟩
def FF{j:Nat}{v}(h:xs[j]? = some v):FX xs j=some v:=by
 have l:=(aD.mp h).1;unfold FX;rw[(show QZ xs.length _=some j by
  unfold QZ
  simp_all)];exact h
def TR(b:Expr):Prop:=∀o i,subscripted b false o i=operate [o,i] (getItem o i)
def Qm(X:Cx)(r:R2):Prop :=
 ∀value slice pins s (σ:St) H x y v u Q,Inv X pins σ H s->RelV x v->RelV y u->r x y H Q ->
  subscripted slice false v u=operate [v,u] (getItem v u)->wpAny B1 X.A (subscriptTail value slice v u) (EP X pins σ Q) X.xe s
def x4(X:Cx)(id:String)(r:V->List V->Hp->VK->Prop):Prop :=
 ∀pins s (σ:St) H x xs v us Q,Inv X pins σ H s->RelV x v->Vals xs us->r x xs H Q ->
  wpAny B1 X.A (call (.builtin id) (v::us)) (EP X pins σ Q) X.xe s
section
variable{X:Cx}{a b:Expr}{ta tb:TE}{pos:Pos}
def Qm.or(h:Qm X r)(h':Qm X U):Qm X (fun x y H Q=>r x y H Q\/U x y H Q):=by
 intro value slice pins s σ H x y v u Q I M l q T;rcases q with q|q
 .exact h value slice pins s σ H x y v u Q I M l q T
 .exact h' value slice pins s σ H x y v u Q I M l q T
def IY(U:Qm X r)(ha:PE X a ta)(hb:PE X b tb)(T:TR b):PE X (.Subscript a b pos) (ni r ta tb):=fun pins s σ H Q I h=>Subscript_ (kP ha hb I h fun v u s2 x y Z Y M l q=>U a b pins s2 σ Z x y v u Q Y M l q (T _ _))
def ui(K:Fg):R2:=fun x y H Q=>∃p xs i v,x=.ref p/\y=.int i/\Am K H p xs/\FX xs i=some v/\Q v H
def i7(K:Fg):R2:=fun x y H Q=>∃p xs i v,x=.ref p/\y=.int i/\A5 K H p xs/\FX xs i=some v/\Q v H
def zJ:R2:=fun x y H Q=>∃z i c,x=.str z/\y=.int i/\z.length<=sizeLine/\FX z.cps.toList i=some c/\Q (.str ⟨#[c]⟩) H
def Y0:Qm X (ui X.K):=by
 intro value slice pins s σ H x y v u Q I rx ry h Z;obtain⟨p,xs,i,z,rfl,rfl,hq,he,q⟩:=h;cases rx;obtain⟨t,rfl⟩:=ry;obtain⟨T,r,M,hz⟩:=I.list hq;obtain⟨j,Y,h2,h3,h4,h5⟩:=Sv he;obtain⟨w,ew,l⟩:=r.get h2;have hl:=r.length;have hn:=NF;have fin:EP X pins σ Q w s:=⟨z,H,I,l,q⟩;by_cases h0:0<=i
 .have U:=by
   rw[seqIndex_of h0 h5]at Y;exact ag Y
  exact item_listR M.isList h0 AS (by rw[U];simpa using ew) fin Z
 .have U:(i+T.toArray.size).toNat=j:=by
   rw[seqIndex_neg AS h4]at Y
   simp_all
  exact subscriptTail_builtinR M.isList.typeIs slot_list_getitem.lookup
   (wpAny_getItem_list_neg M.isList AS (by rw[(HW)]<;>lia) AS (by rw[U];simpa using ew) ⟨rfl,fin⟩) Z
def Jp:Qm X (i7 X.K):=by
 intro value slice pins s σ H x y v u Q I U T h Z;obtain⟨p,xs,i,z,rfl,rfl,hq,he,q⟩:=h;cases U;obtain⟨t,rfl⟩:=T;obtain⟨Y,r,M,hz⟩:=I.tuple hq;obtain⟨j,h1,h2,h3,h4,h5⟩:=Sv he;obtain⟨w,ew,l⟩:=r.get h2;have hn:=NF;exact subscriptTail_builtinR M.typeIs slot_tuple_getitem.lookup
  (getItem_tuple M AS AS (by rw[(HW),<-r.length];exact h1) Rs ⟨rfl,(⟨z,H,I,l,q⟩)⟩) Z
def zS(K:Fg):R2:=fun x y H Q=>ui K x y H Q\/i7 K x y H Q\/zJ x y H Q
def rS:Qm X (zS X.K):=Y0.or (Jp.or (by
  intro value slice pins s σ H x y v u Q I T M h U;obtain⟨z,i,c,rfl,rfl,hz,Y,q⟩:=h;obtain⟨t,rfl⟩:=T;obtain⟨t',rfl⟩:=M;obtain⟨j,l,h2,h3,h4,Z⟩:=Sv Y;rw[(show z.cps.toList.length=z.length by simp[Str.length])]at l h4 Z;have hn:=NF;exact tail_any (typeIs_str s z t) slot_str_getitem.lookup (getItem_str (by
   lia) (by rw[l];simpa using h2) ⟨.str _,H,I.tok _,⟨_,rfl⟩,q⟩) U))
def Z2(l:AAM) n j u:Obj.mapSeq (·.setIfInBounds j u) { cls:=.type "list",data:=.seq l.toArray n}={ cls:=.type "list",data:=.seq (l.set j u).toArray n}:=by
 simp[Obj.mapSeq]
def Inv.lst{σ:St}(I:BH)(h:H p=some (.lst xs)):∃(l:AAM) (n:Nat),Vals xs l/\s.heap.get? p=some { cls:=.type "list",data:=.seq l.toArray n}/\xs.length<=sizeLine:=by
 obtain⟨z,l,n,r,e⟩:=I.Ac p _ h;exact⟨l,n,r,e,z⟩
def Inv.vE{σ:St}{M l:AAM}(I:BH)(h:H p=some (.lst xs)) (U:s.heap.get? p=some { cls:=.type "list",data:=.seq M.toArray n})(hf:f { cls:=.type "list",data:=.seq M.toArray n}={ cls:=.type "list",data:=.seq l.toArray T})(r:Vals ys l)(hz:ys.length<=sizeLine) t : Inv X pins σ (upd H p Ix) {s with heap:=s.heap.update p f,toks:=t}:=by
 have e:(s.heap.update p f).get? p=some { cls:=.type "list",data:=.seq l.toArray T}:=by
  rw[Heap.get?_update_self f U (by rw[hf]<;>rfl),hf]
 refine I.write (by rw[h];trivial) (.inl rfl) (fun b u hb q=>(Heap.get?_update_other _ _ (Ne.symm hb)).trans q) ⟨_,e⟩ ?_;exact⟨hz,l,T,r,e⟩
def lu:V->V->V->Hp->(Hp->Prop)->Prop:=fun o i v H Q=>∃p xs k j,o=.ref p/\i=.int k/\H p=some (.lst xs)/\QZ xs.length k=some j/\Q (upd H p (.lst (xs.set j v)))
def set_list:jY X lu:=by
 rintro pins s σ H o i v ov iv u Q I ro ri rv ⟨p,xs,k,j,rfl,rfl,U,hj,q⟩;cases ro;obtain⟨t,rfl⟩:=ri;obtain⟨l,n,r,M,hz⟩:=I.lst U;obtain⟨T,h2,Y,h4⟩:=Ze hj;have hl:=r.length;have hn:=NF;have Z :=
  I.vE U M (Z2 l n j u) (r.set rv j) (by rw[List.length_set];exact hz) s.toks
 by_cases h0:0<=k
 .have hk:=by
   rw[seqIndex_of h0 h4]at T;exact ag T
  exact PySem.W.ki_setAt M h0 AS Rs (by rw[hk];exact⟨_,Z,q⟩)
 .have hk:(k+l.toArray.size).toNat=j:=by
   rw[seqIndex_neg AS Y]at T
   simp_all
  exact PySem.W.ki_setBack M AS (by rw[(HW),<-hl];exact Y) AS (by rw[hk];exact⟨_,Z,q⟩)
def V4 lo hi n:(sliceBounds lo hi none n).1=((HT.CA n 0 lo))/\(sliceBounds lo hi none n).2.1=((HT.CA n n hi))/\(sliceBounds lo hi none n).2.2=1:=by
 refine⟨?_,?_,rfl⟩
 .cases lo with
  |none=>simp[sliceBounds,HT.CA]
  |some i=>
   simp only[sliceBounds,HT.CA,Option.getD_none,show(1:Int) > 0 by decide,if_true];by_cases h:i<0
   .simp only[h,if_true]<;>lia
   .simp only[h,if_false]<;>lia
 .cases hi with
  |none=>rfl
  |some i=>
   simp only[sliceBounds,HT.CA,Option.getD_none,show(1:Int) > 0 by decide,if_true];by_cases h:i<0
   .simp only[h,if_true]<;>lia
   .simp only[h,if_false]<;>lia
def Ur(l:AAM) lo hi:slicePick l.toArray lo hi none=((l.drop (HT.CA l.length 0 lo)).take (HT.CA l.length l.length hi-HT.CA l.length 0 lo)).toArray:=by
 obtain⟨T,M,I⟩:=V4 lo hi l.toArray.size;unfold slicePick;rw[T,M,I];simp only[sliceRange_one,pick_run]<;>rfl
def yb(K:Fg):V->Option Int->Option Int->Hp->VK->Prop:=fun x lo hi H Q=>∃a xs,x=.ref a/\Am K H a xs/\∀p,H p=none->Q (.ref p) (upd H p (.lst (L7 xs lo hi)))
def qd:UI X (yb X.K):=by
 rintro pins s σ H x v vl vu lo hi sl Q I T hs Y U ⟨a,xs,rfl,hx,q⟩;cases T;obtain⟨Z,r,M,hz⟩:=I.list hx;have l:=r.length;refine⟨"list",_,slot_list_getitem.lookup,M.isList.typeIs,wpAny_getItem_list_slice M.isList hs Y U .none BY ?_ (by grind)⟩;rw[Ur,<-l];refine⟨.ref s.heap.objs.size,_,I.laid (fun b ob q=>aF _ q) LK ?_,rfl,q _ (I.Ac.fresh LK)⟩;exact⟨aK (PH xs lo hi) hz,_,0,(r.drop _).take _,Heap.get?_push_size _ rfl⟩
def JR:V->Bool
 |.BV=>true
 |.bl _=>true
 |.int _=>true
 |.str _=>true
 |_=>false
def Tj:V->V->Bool
 |.BV,.BV=>true
 |.bl a,.bl b=>a==b
 |.bl a,.int b=>(if a then 1 else 0)==b
 |.int a,.bl b=>a==(if b then 1 else 0)
 |.int a,.int b=>a==b
 |.str a,.str b=>a==b
 |_,_=>false
def rP{A:F0d}{s:SD}{y x:V}{u v:VL}(M:RelV y u)(l:RelV x v)(U:JR y=true)(T:JR x=true):SeqAt.EqAt A s u v (Tj y x):=by
 cases y with
 |BV=>
  cases M;cases x with
  |BV=>cases l;exact SeqAt.EqAt.same _
  |bl b=>cases l;exact SeqAt.EqAt.none_bool b
  |int b=>obtain⟨t,rfl⟩:=l;exact SeqAt.EqAt.none_int b t
  |str b=>obtain⟨t,rfl⟩:=l;exact SeqAt.EqAt.none_str b t
  |_=>exact absurd (show false=true from T) aN
 |bl a=>
  cases M;cases x with
  |BV=>cases l;exact SeqAt.EqAt.bool_none a
  |bl b=>cases l;exact SeqAt.EqAt.bool_bool a b
  |int b=>obtain⟨t,rfl⟩:=l;exact SeqAt.EqAt.bool_int a b t
  |str b=>obtain⟨t,rfl⟩:=l;exact SeqAt.EqAt.bool_str a b t
  |_=>exact absurd (show false=true from T) aN
 |int a=>
  obtain⟨I,rfl⟩:=M;cases x with
  |BV=>cases l;exact SeqAt.EqAt.int_none a I
  |bl b=>cases l;exact SeqAt.EqAt.int_bool a I b
  |int b=>obtain⟨t,rfl⟩:=l;exact SeqAt.EqAt.int_int a I b t
  |str b=>obtain⟨t,rfl⟩:=l;exact SeqAt.EqAt.int_str a I b t
  |_=>exact absurd (show false=true from T) aN
 |str a=>
  obtain⟨I,rfl⟩:=M;cases x with
  |BV=>cases l;exact SeqAt.EqAt.str_none a I
  |bl b=>cases l;exact SeqAt.EqAt.str_bool a I b
  |int b=>obtain⟨t,rfl⟩:=l;exact SeqAt.EqAt.str_int a I b t
  |str b=>obtain⟨t,rfl⟩:=l;exact SeqAt.EqAt.str_str a I b t
  |_=>exact absurd (show false=true from T) aN
 |_=>exact absurd (show false=true from U) aN
def Y9(x:V)(u:VL):Bool:=match u with
 |.none=>Tj .BV x
 |.bool b=>Tj (.bl b) x
 |.int i _=>Tj (.int i) x
 |.str z _=>Tj (.str z) x
 |_=>false
def gW(r:RelV y u)(f:JR y=true):Y9 x u=Tj y x:=by
 cases y with
 |BV=>cases r;rfl
 |bl b=>cases r;rfl
 |int i=>obtain⟨t,rfl⟩:=r;rfl
 |str z=>obtain⟨t,rfl⟩:=r;rfl
 |_=>exact absurd f aN
theorem TZ:∀ {xs} {us},Vals xs us->xs.all JR=true->us.any (Y9 x)=xs.any fun y=>Tj y x
 |_,_,.nil,_=>rfl
 |y::xs,u::us,.cons r t,f=>by
  rw[List.all_cons,(HG)]at f;rw[List.any_cons,List.any_cons,gW r f.1,TZ t f.2]
theorem P4{x}{v}(I:RelV x v)(M:JR x=true):∀ {xs} {us},Vals xs us->xs.all JR=true->∀u∈us,SeqAt.EqAt A s u v (Y9 x u)
 |_,_,.nil,_=>by simp
 |y::xs,u::us,.cons r t,f=>fun T l=>by
  rw[List.all_cons,(HG)]at f;rcases aO.mp l with rfl|l
  .rw[gW r f.1];exact rP r I f.1 M
  .exact P4 I M t f.2 T l
def nM(x:V)(xs:AAf):Bool:=xs.any fun y=>Tj y x
def xt(K:Fg)(neg:Bool):R2:=fun x y H Q=>∃p xs,y=.ref p/\(Am K H p xs\/A5 K H p xs)/\JR x=true/\xs.all JR=true/\Q (.bl (if neg then !nM x xs else nM x xs)) H
def WS:Cj X (compareOp .NotIn) (xt X.K true):=by
 rintro pins s σ H x y v u Q I U ry ⟨p,xs,rfl,M,Z,fs,q⟩;cases ry;rcases M with M|M
 .obtain⟨l,r,T,hz⟩:=I.list M;refine SeqAt.notIn_listAt _ T.isList (fun w Y=>P4 U Z r fs w (by simpa using Y)) ⟨.bl _,H,I,rfl,?_⟩;rw[show l.toArray.any _=l.any (Y9 x) by simp,TZ r fs];exact q
 .obtain⟨l,r,T,hz⟩:=I.tuple M;refine SeqAt.notIn_tupleAt _ T (fun w Y=>P4 U Z r fs w Rs) ⟨.bl _,H,I,rfl,?_⟩;rw[show l.toArray.any (Y9 x)=l.any (Y9 x) by simp,TZ r fs];exact q
def Vt:C2 X (.builtin "len") (fun xs H Q=>∃p ys,xs=[.ref p]/\(Am X.K H p ys\/A5 X.K H p ys)/\Q (.int ys.length) H):=by
 rintro pins s σ H xs us Q I r ⟨p,ys,rfl,M,q⟩;obtain⟨u,rfl,Z⟩:=vals1 r;cases Z;have hn:=NF;rcases M with M|M
 .obtain⟨Y,T,U,hz⟩:=I.list M;have l:=T.length;exact Calls.call_len_list U.isList (by simp only[List.size_toArray]<;>lia) ⟨.int ys.length,H,I.tok _,⟨s.toks+1,by rw[(HW),l]⟩,q⟩
 .obtain⟨Y,T,U,hz⟩:=I.tuple M;have l:=T.length;exact len_tuple U (by simp only[List.size_toArray]<;>lia) ⟨.int ys.length,H,I.tok _,⟨s.toks+1,by rw[(HW),l]⟩,q⟩
def C2.or(h:C2 X f r)(h':C2 X f l):C2 X f (fun xs H Q=>r xs H Q\/l xs H Q):=by
 intro pins s σ H xs us Q I rs q;rcases q with q|q
 .exact h pins s σ H xs us Q I rs q
 .exact h' pins s σ H xs us Q I rs q
def Xa:C2 X (.type "list") (fun xs H Q=>∃p ys,xs=[.ref p]/\(Am X.K H p ys\/A5 X.K H p ys)/\∀l,H l=none->Q (.ref l) (upd H l Ix)):=by
 rintro pins s σ H xs us Q I r ⟨p,ys,rfl,Z,q⟩;obtain⟨u,rfl,rx⟩:=vals1 r;cases rx;have fin:∀M,Vals ys M->ys.length<=sizeLine->∀(h':Heap) U,_ ->
   h'.get? s.heap.objs.size=some _->EP X pins σ Q _ _:=fun M T Y h' U kp e=>
  ⟨.ref s.heap.objs.size,_,I.laid (t':=s.toks) kp LK (show Cz X.prog X.w _ h' _ Ix from⟨Y,M,U,T,e⟩),rfl,q _ (I.Ac.fresh LK)⟩
 rcases Z with Z|Z
 .obtain⟨M,T,pl,Y⟩:=I.list Z;have hlen:=T.length;obtain⟨o,ho,hc,n,hd⟩:=pl.isList;exact call_list_seq p (.inl rfl) ho hc hd (fun h' U kp e=>fin M T Y h' U kp e) Rs
 .obtain⟨M,T,pl,Y⟩:=I.tuple Z;have hlen:=T.length;obtain⟨o,ho,hc,n,hd⟩:=pl;exact call_list_seq p (.inr rfl) ho hc hd (fun h' U kp e=>fin M T Y h' U kp e) Rs
def VB:C2 X KM (fun xs H Q=>∃p ys,xs=[.ref p]/\((Am X.K H p ys/\∀l,H l=none->Q (.ref l) (upd H l (.tup ys)))\/(A5 X.K H p ys/\Q (.ref p) H))):=by
 rintro pins s σ H xs us Q I r ⟨p,ys,rfl,h⟩;obtain⟨u,rfl,rx⟩:=vals1 r;cases rx;rcases h with ⟨Y,q⟩|⟨Y,q⟩
 .obtain⟨M,T,U,Z⟩:=I.list Y;have hlen:=T.length;refine call_tuple_list U.isList (fun h' kp=>?_) (by grind);have I1:=I.kept (t':=s.toks) kp;exact⟨.ref h'.objs.size,_,(I1.laid (fun b o e=>aF _ e) LK (show Cz X.prog X.w _ _ _ (.tup ys) from⟨Z,M,T,IsTup.new _ _⟩)),rfl,q _ (I1.Ac.fresh LK)⟩
 .obtain⟨M,T,U,Z⟩:=I.tuple Y;exact call_tuple_same U ⟨.ref p,H,I,rfl,q⟩
def yA(K:Fg)(T:String)(x:V)(H:Hp):Prop:=match x with
 |.str _=>T = "str"
 |.int _=>T = "int"
 |.ref p=>(T = "list" /\ ∃xs,Am K H p xs)\/(T = "tuple" /\ ∃o,K.lookup p=some o/\o.cls=.type "tuple" /\ o.dict=none) \/
   (T = "dict" /\((∃kvs,H p=some (.dK kvs))\/∃kvs,H p=some (.dT kvs)))\/(T = "set" /\ ∃S n,H p=some (.set S n))
 |_=>False
def rk{σ:St}(I:BH)(r:RelV x v)(ty:yA X.K T x H):s.TypeIs v T/\∀a,v=.ref a->∃ob,s.heap.get? a=some ob/\ob.dict=none:=by
 cases x with
 |str z=>
  obtain⟨t,rfl⟩:=r;cases ty;exact⟨typeIs_str s z t,fun _ e=>nomatch e⟩
 |int i=>
  obtain⟨t,rfl⟩:=r;cases (ty);exact⟨typeIs_int s i t,fun _ e=>nomatch e⟩
 |ref p=>
  cases r;rcases ty with ⟨rfl,xs,Y⟩|⟨rfl,o,hk,Z,hd⟩|⟨rfl,hk⟩|⟨rfl,S,n,hk⟩
  .obtain⟨U,_,M,_⟩:=I.list Y;refine⟨M.isList.typeIs,fun a e=>?_⟩;cases e;obtain⟨o,n,e,c,hd,_⟩:=M;exact⟨o,e,hd⟩
  .refine⟨⟨o,I.Fq p o hk,Z⟩,fun a e=>?_⟩;cases e;exact⟨o,I.Fq _ o hk,hd⟩
  .have z:∃o,s.heap.get? p=some o/\o.ExactDict:=by
    rcases hk with ⟨kvs,hk⟩|⟨kvs,hk⟩
    .obtain⟨_,_,_,_,o,_,_,e,ex,_⟩:=I.Ac p _ hk;exact⟨o,e,ex⟩
    .obtain⟨_,_,_,_,o,_,_,e,ex,_⟩:=I.Ac p _ hk;exact⟨o,e,ex⟩
   obtain⟨o,e,ex⟩:=z;refine⟨⟨o,e,ex.1⟩,fun a l=>?_⟩;cases l;exact⟨o,e,ex.2.1⟩
  .obtain⟨o,_,_,_,e,ex,_⟩:=I.Ac p _ hk;refine⟨⟨o,e,ex.1⟩,fun a l=>?_⟩;cases l;exact⟨o,e,ex.2.1⟩
 |_=>exact False.elim ty
def uW(K:Fg)(T:String)(r:V->List V->Hp->VK->Prop)(I:TE)(t:TA):TE:=fun σ H Q=>I σ H fun x l=>yA K T x l/\t σ l fun xs M=>r x xs M Q
variable{o e:Expr}{es:AAU}{to:TE}{t:TA}{name:Str}{apos cpos:Pos}{T id:String}{r:V->List V->Hp->VK->Prop}
def Qu(pa:PlainAttrs T)(slot:Slot T name id)(Z:typeOf (.builtin id)=pure (.type "method_descriptor"))(hm:x4 X id r)(ho:PE X o to)(ha:PA X (e::es) t) (M:attributeBase o name X.env (eval o X.env)=eval o X.env:=by rfl) (U:((backTo cpos (starEach (e::es) X.env)).all (fun x=>!x.1)&&(backToKw cpos (keywordEach [] X.env)).all (fun x=>x.1.isSome) && decide ((e::es).length+([]:List Keyword).length+(if([]:List Keyword).isEmpty then 0 else 1)<30))=true:=by rfl) (l:(apos.endLine==cpos.line)=true:=by rfl)(hs:starEach (e::es) X.env=Fj::starEach es X.env:=by rfl)(Y:(backTo cpos OR).any Fk=false:=by rfl):PE X (.Call (.Attribute o name apos) (e::es) [] cpos) (uW X.K T r to t):=by
 intro pins s σ H Q I h;refine wpAny_Call_method_late M U l rfl (Aw (ho pins s σ H _ I h) fun v s1 ⟨x,H1,I1,r1,ty,q1⟩=>?_);obtain⟨h1,h2⟩:=rk I1 r1 ty;refine⟨T,id,pa,slot,Z,h1,h2,?_⟩;have hA:=ha cpos pins s1 σ H1 _ I1 q1;rw[hs]at hA ⊢;exact Calls.callWith_builtin Ev (Calls.evalArgs_plain (Aw hA fun us s2 ⟨vs,H2,I2,r2,q2⟩=>hm pins s2 σ H2 x vs v us Q I2 r1 r2 q2))
end
def yD(X:Cx)(id:String)(r:V->List V->Hp->VK->Prop):Prop :=
 ∀pins s (σ:St) H x xs v us Q,Inv X pins σ H s->RelV x v->Vals xs us->r x xs H Q ->
  wpAny B1 X.A (call (.builtin id) (v::us)) (EP X pins σ Q) X.xe s
def Vals.one:∀ {x} {us},Vals [x] us->∃u,us=[u]/\RelV x u
 |_,_,.cons r .nil=>⟨_,rfl,r⟩
def Vals.two:∀ {x y} {us},Vals [x,y] us->∃u v,us=[u,v]/\RelV x u/\RelV y v
 |_,_,_,.cons r (.cons q .nil)=>⟨_,_,rfl,r,q⟩
def Vals.reverse(h:Vals xs us):Vals xs.reverse us.reverse:=by
 induction h with
 |nil=>exact .nil
 |cons r t l=>rw[List.reverse_cons,List.reverse_cons];exact Vals.append l (.cons r .nil)
theorem Vals.rep(h:Vals xs us):∀k ,Vals (List.replicate k xs).flatten (List.replicate k us).flatten
 |0=>.nil
 |k+1=>Vals.append h (Vals.rep h k)
theorem foldl_rep(l:List VL):∀k I,
  List.foldl (fun T M=>T++M) I.toArray (List.replicate k l.toArray)=(I++(List.replicate k l).flatten).toArray
 |0,I=>by simp
 |k+1,I=>by
  rw[<-(show _++(List.replicate k l).flatten=I++(List.replicate _ l).flatten by
   rw[List.replicate_succ,List.flatten_cons,List.append_assoc]),<-foldl_rep l k _,<-(show I.toArray++l.toArray=(I++l).toArray by simp),List.replicate_succ,List.foldl_cons]
section
variable{X:Cx}{pins:LE}{σ:St}{H:Hp}{s:SD}{l:AD}{xs ys:AAf}
def Inv.tZ{T M:AAM}(I:BH)(Z:H l=some (.lst xs)) (e:s.heap.get? l=some { cls:=.type "list",data:=.seq T.toArray n})(hf:f T.toArray=M.toArray)(U:Vals ys M)(hz:ys.length<=sizeLine):Inv X pins σ (upd H l Ix) {s with heap:=s.heap.update l (Obj.mapSeq f),toks:=t'}:=by
 have q:=PySem.IsL.update e f;rw[hf]at q;refine I.write (by rw[Z];exact trivial) (.inl rfl) (fun b' u hb Y=>(Heap.get?_update_other s.heap _ (Ne.symm hb)).trans Y) ⟨_,q⟩ ?_;exact⟨hz,M,_,U,q⟩
def Inv.rX(I:BH)(T:Vals ys M)(hz:ys.length<=sizeLine):Inv X pins σ (upd H s.heap.objs.size Ix) {s with heap:=s.heap.push { cls:=.type "list",data:=.seq M.toArray},toks:=t'} :=
 I.laid (fun _ _ q=>aF _ q) LK ⟨hz,M,0,T,Heap.get?_push_size _ rfl⟩
def Inv.fresh(I:BH):H s.heap.objs.size=none:=I.Ac.fresh LK
def Inv.S7(I:BH)(T:H l=some (.lst xs)):xs.length<=sizeLine/\∃(M:AAM) (n:Nat),Vals xs M/\xs.length=M.length/\s.heap.get? l=some { cls:=.type "list",data:=.seq M.toArray n}:=by
 obtain⟨z,M,n,r,e⟩:=I.Ac l _ T;exact⟨z,M,n,r,r.length,e⟩
def Vf(h:n<=sizeLine):Builtin.List.listTooLong n=false:=decide_eq_false (Nat.not_lt_of_le ‹_›)
end
section
variable{X:Cx}
def Y4:V->List V->Hp->VK->Prop:=fun x vs H Q=>∃l xs y,x=.ref l/\vs=[y]/\H l=some (.lst xs)/\xs.length<sizeLine/\Q .BV (upd H l (.lst (xs++[y])))
def Kl:yD X "list.append" Y4:=by
 rintro pins s σ H x vs v us Q I U Y ⟨l,xs,y,rfl,rfl,T,hz,q⟩;cases U;obtain⟨u,rfl,Z⟩:=Y.one;obtain⟨z,M,n,r,hl,e⟩:=I.S7 T;refine call_meets F.slot_list_append ⟨_,e,rfl⟩ F.entry_list_append (F.args_list_append_2 _ _) (PySem.list_append l M.toArray n u (by grind)) ⟨e,⟨.BV,_,I.tZ T e BY (r.append (.cons Z .nil)) ?_,rfl,q⟩⟩
 grind
def Zi:V->List V->Hp->VK->Prop:=fun x vs H Q=>∃l b xs I,x=.ref l/\vs=[.ref b]/\H l=some (.lst xs)/\H b=some (.lst I)/\xs.length+I.length<=sizeLine/\Q .BV (upd H l (.lst (xs++I)))
def f7:yD X "list.extend" Zi:=by
 rintro pins s σ H x vs v us Q I Z rv ⟨l,b,xs,zs,rfl,rfl,Y,hB,hz,q⟩;cases Z;obtain⟨u,rfl,ru⟩:=rv.one;cases ru;obtain⟨z,T,n,r,hl,e⟩:=I.S7 Y;obtain⟨z2,M,n2,r2,hl2,e2⟩:=I.S7 hB;have U:T.toArray.size+M.toArray.size<=sizeLine:=by grind
 refine call_meets F.slot_list_extend ⟨_,e,rfl⟩ F.entry_list_extend (F.args_list_extend_2 _ _)
  (AutoSeq1.list_extend_list_list_0 l T.toArray n b M.toArray n2 (show ¬_=true by
  rw[Vf U]
  lia) AS AS) ⟨e,e2,⟨.BV,_,I.tZ Y e BY (r.append r2) ?_,rfl,q⟩⟩
 grind
def zB:R2:=fun x y H Q=>∃l b xs I,x=.ref l/\y=.ref b/\H l=some (.lst xs)/\H b=some (.lst I)/\xs.length+I.length<=sizeLine/\∀p,H p=none->Q (.ref p) (upd H p (.lst (xs++I)))
def ub:Cj X (binaryOp .Add) zB:=by
 rintro pins s σ H x y v u Q I Y U ⟨l,b,xs,zs,rfl,rfl,hH,hB,hz,q⟩;cases Y;cases U;obtain⟨z,T,n,r,hl,e⟩:=I.S7 hH;obtain⟨z2,M,n2,Z,hl2,e2⟩:=I.S7 hB;refine PySem.P.add_list e e2 ?_ (by grind);rw[(show T.toArray++M.toArray=(T++M).toArray by simp)];exact⟨.ref _,_,I.rX (r.append Z) (by grind),rfl,q _ I.fresh⟩
def yO:R2:=fun x y H Q=>∃l k xs,x=.ref l/\y=.int k/\H l=some (.lst xs)/\-(2^63)<=k/\k<2^63/\xs.length*k.toNat<=sizeLine /\
 ∀p,H p=none->Q (.ref p) (upd H p (.lst (List.replicate k.toNat xs).flatten))
def len_rep{α:Type}(xs:List α) k:(List.replicate k xs).flatten.length=k*xs.length:=by
 simp
def uc:Cj X (binaryOp .Mult) yO:=by
 rintro pins s σ H x y v u Q I Z Y ⟨l,k,xs,rfl,rfl,hH,h1,h2,U,q⟩;cases Z;obtain⟨t,rfl⟩:=Y;obtain⟨z,M,n,r,hl,e⟩:=I.S7 hH;have T:M.toArray.size*k.toNat<=sizeLine:=by rw[(HW),<-hl];exact U
 refine wpAny_binaryOp_repeat_ref AC ⟨_,e,rfl⟩ (fun s'=>typeIs_int s' k t) noFill_list_mul F.fills_int_mul F.slot_int_rmul repeat_list F.slot_int_index.lookup
  (call_meets F.slot_int_rmul (typeIs_int s k t) F.entry_int_rmul (F.args_int_rmul_2 _ _) (int___rmul___int_list k t l M.toArray n)
   ⟨e,rfl,⟨_,e,rfl⟩,call_meets F.slot_list_mul ⟨_,e,rfl⟩ F.entry_list_mul (F.args_list_mul_2 _ _) (AutoListH.list___mul___list_int_3 l M.toArray n k t (show ¬_=true by
  rw[fitsIndex_both h1 h2];exact aN) (show ¬M.toArray.size*k.toNat > _ / 8 by
  have:sizeLine<=(2^63-1) / 8:=by decide
  lia) (show ¬Builtin.List.listTooLong _=true by
  rw[Vf T];exact aN)) ⟨e,?_⟩⟩)
 rw[(show List.foldl _ #[] _=(List.replicate k.toNat M).flatten.toArray by
  have f0:=fun m=>by
   have:=foldl_rep M m [];rw[List.nil_append]at this;exact this
  rw[f0];cases M with
  |nil=>simp
  |cons a r'=>rw[if_neg BY])]
 exact⟨.ref _,_,I.rX (r.rep k.toNat) (by rw[len_rep,Nat.mul_comm];exact U),rfl,q _ I.fresh⟩
end
end L2
namespace Att
open PySem PySem.W PySem.Calls PyProof.Rows
def Rm:∀ns vs,WellAll P h vs (ns.map WData.int)->IntsAre vs ns:=by
 intro ns
 induction ns with
 |nil=>
  intro vs w;cases w;exact .nil
 |cons n ns l=>
  intro vs w;cases w with
  |cons a b=>
   cases a;exact .cons _ _ (l _ b)
def dU{l:OpenLaw}(hn:l.most=some n) (I:l.row.toRowW.claim.pre args=true)(U:WellAll P h vals args):∃a vs ns,vals=[Value.ref a]/\args=[WData.list (ns.map WData.int)]/\h.get? a=some { cls:=.type "list",data:=.seq vs.toArray}/\IntsAre vs ns/\ns.length<=n:=by
 obtain⟨d,r,rfl,h1,h2⟩:=hasAllW_cons ((pre_splitW I).1);obtain rfl:=hasAllW_nil h2;obtain⟨xs,rfl,h3⟩:=hasW_list h1;obtain⟨ns,rfl⟩:=items_int h3;cases U with
 |cons Z Y=>
  cases Y;cases Z with
  |list ho M=>exact⟨_,_,ns,rfl,rfl,ho,Rm ns _ M,(show ns.length<=n by
  have T:=by
   have T:=(holds_andW ((pre_splitW I).2)).1;rw[hn]at T;exact T
  have h5:=condW_of T (w_not (w_lt w_lit (w_len_list (w_arg rfl))))
  grind)⟩
def eu(l:OpenLaw) args:l.row.toRowW.claim.post args Iz args=true :=
 postW_of
  (show WShape.has [] _ .bool=true by rfl)
  (w_eq_bool (w_res rfl) w_lit) rfl
def X0{l:OpenLaw} (hn:l.most=some n)(hdf:d.params.defaults=[]) (call:∀w s₀ I mg mb Z o pm cd doc a vs ns,Ground q loose [] XP w s₀ mg mb I.heap->YP w I.heap ->I.heap.get? Z=some o->o.data=.func (docDef d.name d.params d.body d.scope pm cd doc)->I.heap.CodeRec cd d.name->mg d.name=some (.ref Z) ->I.heap.get? a=some { cls:=.type "list",data:=.seq vs.toArray}->IntsAre vs ns->ns.length<=n->I.gens=#[] ->codeAny (model l.prog w) callerA (.call (.ref Z) ⟨[.ref a],[]⟩) (fun r s'=>r=.ok (.ret Iz)/\OldK I.heap s'.heap/\s'.os=I.os/\AllBare s'.gens) I):WalkO q loose XP YP l.row.toRowW d [] (fun f vs=>PySem.call f vs):=by
 intro w s₀ I mg mb G Y Z o pm cd doc dV kV ho hd hcd hD hmg hg args vals as M hlay hrd hwl hlo;obtain rfl:dV=.none:=Dflts.none hD hdf;obtain rfl:kV=.none:=Dflts.noKw hD;obtain⟨a,vs,ns,rfl,rfl,T,hints,U⟩:=dU hn M hwl;refine enter_call (codeAny_mono (call w s₀ I mg mb Z o pm cd doc a vs ns G Y ho (fd_plain hd) hcd hmg T hints U hg) fun r s' hq=>?_);obtain⟨rfl,h2,h3,h4⟩:=hq;exact⟨.inl ⟨.bool true,.bool true,[],rfl,fun _=>rfl,.bool true,eu l _,fun _=>by simp⟩,h2,h3,h4⟩
end Att
namespace L2
open PySem PySem.Spec PyProof.Rows
theorem UB:∀ {vs} {ns},IntsAre vs ns->Vals (ns.map V.int) vs
 |_,_,.nil=>.nil
 |_,_,.cons n t h=>.cons ⟨t,rfl⟩ (UB h)
def kI(H:Hp):Prop:=∀b,H b=none\/∃o xs,H b=some (.En o (.lst xs))
def kB{P}{w}{K}{CX:Jo}{k:Nat}{fa a}{fd}{x:Str}{sp:Sp}{l}{vs}{ns} (KX:K.In l.heap)(U:l.heap.Ns mainGlobals mg)(hb:l.heap.Ns builtinsNs mb)(hbb:∀x:Str,x ≠ "__name__" -> mb x=bootBuiltins x)(Y:l.heap.NoLimit)(hg:l.gens=#[]) (ha:l.heap.get? a=some { cls:=.type "list",data:=.seq vs.toArray})(hi:IntsAre vs ns)(hl:ns.length<=sizeLine)(hr:Bq k callerA)(hkt:∀H,KTb mg H) (F:∀base:Heap,K.In base->base.Ns mainGlobals mg->Ah P w K mg base CX k fa fd [x] sp)(M:∀s u,BindsTo s fd ⟨[u],[]⟩ [(x,u)]) (hsp:∀H:Hp,kI H->Am K H a (ns.map V.int)->sp [.ref a] H (fun v _=>v=.bl true) fun _ _ _=>False) (hCX:∀H e s',CX [] H l (fun _ _ _=>False) e s'->False):codeAny (model P w) callerA (.call (.ref fa) ⟨[.ref a],[]⟩) (fun r s'=>r=.ok (.ret Iz)/\OldK l.heap s'.heap/\s'.os=l.os/\AllBare s'.gens) l:=by
 have rv:=UB hi;have core:∀H:Hp,kI H->Am K H a (ns.map V.int)->DZ P w H l.heap->(∀b,H b≠none->b=a)->(H a≠none->K.lookup a=none) ->
   codeAny (model P w) callerA (.call (.ref fa) ⟨[.ref a],[]⟩) (fun r s'=>r=.ok (.ret Iz)/\OldK l.heap s'.heap/\s'.os=l.os/\AllBare s'.gens) l:=by
  intro H hO hS Ac hA hK;have base_of:∀ {b:AD} {o:Obj},l.heap.get? b=some o->H b=none->(SI l.heap H).get? b=some o:=fun e n=>lP e n;have I:∀ {b:AD} {m:Str->Option VL},l.heap.Ns b m->(SI l.heap H).Ns b m:=fun {b m} ⟨o,es,ep,e,d,r⟩=>⟨o,es,ep,base_of e ((show ∀ {b:AD} {o:Obj} {es:Array DictEntry} {ep:Nat},l.heap.get? b=some o->o.data=.dict es ep->H b=none from fun {b o es ep} e d=>by
   cases q:H b with
   |none=>rfl
   |some u=>
    have e':b=a:=hA b (by rw[q];simp);subst e';rw[ha]at e;cases e;cases d) e d),d,r⟩
  have Z:=fun b o e=>base_of (KX b o e) (by
   cases q:H b with
   |none=>rfl
   |some u=>
    have e':=hA b (by rw[q];simp);subst e';rw[hK (by rw[q];simp)]at e;cases e)
  refine codeAny_mono ((F _ Z (I U)).run callerA [] l H ⟨[.ref a],[]⟩ [.ref a] [.ref a] _ _ hr (⟨rfl,(⟨Z,I U,⟨mb,I hb,hbb⟩,let⟨mc,h1,h2⟩:=Y;⟨mc,I h1,h2⟩⟩),fun b o e=>qH e,Nat.le_of_eq (iA _ _),trivial,fun b hb=>absurd (show b∈([]) from hb) BY,Ac,.of_eq hg,hkt H⟩) (M l Jc) (.cons rfl .nil) (hsp H hO hS)) fun r s' h=>?_;cases r with
  |error e=>exact(hCX H e s' h).elim
  |ok fl=>
   cases fl with
   |next=>exact False.elim h
   |brk=>exact False.elim h
   |cont=>exact False.elim h
   |ret u=>
    obtain⟨v,H',os,bare,un,T,r',q⟩:=h;subst q;obtain rfl:u=Value.bool true:=r';refine⟨rfl,OldK.of_keep fun b o e=>?_,os,bare⟩;cases q:H b with
    |none=>exact un.keep b o e q (fun z=>absurd (show b∈([]) from z) BY) BY
    |some u=>
     rcases hO b with z|⟨ob,xs,z⟩
     .rw[q]at z;cases z
     .obtain⟨e1,_⟩:=Ac b _ z;obtain⟨e2,_⟩:=T b _ (un.FK b ob _ z);rw[e]at e1;cases e1;exact e2
 cases hk:K.lookup a with
 |some o=>
  have e:=KX a o hk;rw[ha]at e;cases e;refine core (fun _=>none) (fun _=>.inl rfl) (.inr ⟨_,vs.toArray,_,hk,rfl,rfl,rfl,by rw[(HW),(hi.length)];exact hl,by simpa using rv⟩) (fun b u z=>by cases z) (fun b z=>absurd rfl z) fun z=>absurd rfl z
 |none=>
  refine core (fun b=>if b=a then some _ else none) (fun b=>?_) (.inl (.inr ⟨{ cls:=.type "list",data:=.seq vs.toArray},if_pos rfl⟩)) (fun b u z=>?_) (fun b z=>?_) fun _=>hk
  .by_cases hb:b=a
   .exact .inr ⟨_,_,if_pos hb⟩
   .exact .inl (if_neg hb)
  .by_cases hb:b=a
   .have z':=(if_pos hb).symm.trans z;cases z';subst hb;exact⟨ha,by rw[OF];exact hl,vs,_,rv,ha⟩
   .have z':=(if_neg hb).symm.trans z;cases z'
  .by_cases hb:b=a
   .exact hb
   .exact absurd (if_neg hb) z
def oh{l:PySem.W.OpenLaw}{K:Params->Fg}{CX:F0c->Jo}{sp:F0c->Sp} (hn:l.most=some n)(Z:n<=sizeLine)(hdf:d.params.defaults=[])(hr:Bq k callerA)(hkt:∀(w:F0c) mg h,(K w.params).In h->h.Ns mainGlobals mg->∀H,KTb mg H) (hY:∀w h,YP w h->(K w.params).In h) (F:∀w mg U h,(K w.params).In h->h.Ns mainGlobals mg->mg d.name=some (.ref U) ->∃fd ,(∀s u,BindsTo s fd ⟨[u],[]⟩ [(x,u)]) /\∀base ,(K w.params).In base->base.Ns mainGlobals mg->Ah l.prog w (K w.params) mg base (CX w) k U fd [x] (sp w)) (hsp:∀w H a (ns:AAS),ns.length<=n->kI H->Am (K w.params) H a (ns.map V.int)->sp w [.ref a] H (fun v _=>v=.bl true) fun _ _ _=>False) (hCX:∀w H s e s',CX w [] H s (fun _ _ _=>False) e s'->False):PySem.W.WalkO q loose XP YP l.row.toRowW d [] (fun f vs=>PySem.call f vs):=by
 refine Att.X0 hn hdf fun w s₀ s₁ mg mb U o pm cd doc a vs ns G Y ho hd hcd hmg I hints M hg=>?_;have KX:=hY w _ Y;obtain⟨fd,hb,hF⟩:=F w mg U _ KX G.T.g hmg;exact kB (hkt:=hkt w mg _ KX G.T.g) KX G.T.g G.T.b G.T.builtins G.T.nolimit hg I hints (aK M Z) hr hF hb (fun H hO hS=>by grind) fun H e s'=>by grind
abbrev Ag:Jo:=fun _ _ _ _ _ _=>False
abbrev E0:XK:=fun _ _ _=>False
structure UA(K:Fg)(x qual:Str)(st:Stmt)(f:Addr)(fd:FuncData):Prop where
 ex:∃(oc:Value) (od:Option Addr) (kV doc pm:Value) (an:Option Addr) (cdv ct:Value) (osl:Array (Option Value)),
  fd=PySem.W.fnOf x qual (HD st) (CO st) (AZ st) .none kV doc pm an cdv ct/\K.lookup f=some ⟨oc,od,.func fd,osl⟩/\PySem.W.codeIn K cdv qual=true
 kp:PySem.W.keepIn K (.ref f)=true
section
variable{P:F0b}{w:F0c}{K:Fg}{mg:AAO}{base:Heap}
def UA.ok{st}(F:UA K x qual st f fd)(S:BX N ps (AZ st))(len:∀vs H Q E,sp vs H Q E->vs.length=ps.length) (l:∀cdv A outer s H vs Q E,Bq k (A.deeper (envOfC qual (AZ st) s.heap.objs.size f cdv))->sp vs H Q E ->∃t,Ht (B8 Ag P w K mg base N qual (AZ st) f cdv A outer s H E).GF (CO st) t/\t { nx:=fun _ H'=>Q .BV H',rt:=Q} (start N vs) H):Ah P w K mg base Ag (k+1) f fd ps sp:=by
 obtain⟨oc,od,kV,doc,pm,an,cdv,ct,osl,rfl,lk,M⟩:=F.ex;refine nX lk M S len fun A outer s H vs Q E T I=>?_;obtain⟨t,h,q⟩:=l cdv A outer s H vs Q E T I;exact⟨t,h.GF,q⟩
def UA.binds{st}(F:UA K x qual st f fd) (h:∀kV doc pm an cdv ct us,us.length=ps.length->bindArgs (PySem.W.fnOf x qual (HD st) (CO st) (AZ st) .none kV doc pm an cdv ct) ⟨us,[]⟩=pure (ps.zip us)):Binds K fd ps []:=by
 obtain⟨oc,od,kV,doc,pm,an,cdv,ct,osl,rfl,lk,l⟩:=F.ex;exact .all (h kV doc pm an cdv ct)
def eI{st}{kV doc pm cdv ct}(l:K.lookup f=some ⟨oc,od,.func (PySem.W.fnOf x qual (HD st) (CO st) (AZ st) .none kV doc pm an cdv ct),osl⟩) (c:PySem.W.codeIn K cdv qual=true)(k:PySem.W.keepIn K (.ref f)=true):UA K x qual st f (PySem.W.fnOf x qual (HD st) (CO st) (AZ st) .none kV doc pm an cdv ct):=⟨⟨oc,od,kV,doc,pm,an,cdv,ct,osl,rfl,l,c⟩,k⟩
end
def UX(h:n<=1000):n<sizeLine:=aP h AC
section
variable{X:Cx}
def pv i {pos} (hN:X.N[i]? = some x:=by rfl) (Y:yJ X.env.scope x:=by first|exact Or.inl rfl|exact Or.inr GE|exact Or.inr (Or.inr rfl)) (hd:IN=false:=by decide) (T:(x==("__classdict__"))=false:=by decide):PE X (.Name x pos) (IL i):=(by
    rintro pins s σ H Q I ⟨v,e,h⟩;obtain⟨m,hn,Z⟩:=I.loc;obtain⟨u,r,l⟩:=Z i x v hN e Y;have fin:EP X pins σ Q u s:=⟨v,H,I,r,h⟩;rcases l with ⟨hk,hm⟩|⟨hk,c,U,M⟩
    .exact wpAny_Name (wpAny_loadName_local I.ok.kind hk hn hm fin) hd
    .rcases hk with hk|hk
     .exact wpAny_Name (wpAny_loadName_cell I.ok.kind hk U M fin) hd
     .exact wpAny_Name (wpAny_loadName_free I.ok.kind hk U M fin T) hd)
end
def u7{A B:Prop}(h:B):if false=true then A else B:=by
 assumption
def MF{A B:Prop}(h:A):if true=true then A else B:=by
 simp_all
def MP{c A B:Prop}[Decidable c](I:c->A)(l:¬c->B):if c then A else B:=by
 lia
def AI(H H':Hp):Prop:=∀b o,H b=some o->H' b=some o
def AI.refl(H:Hp):AI H H:=fun _ _ h=>h
def AI.trans(a:AI H I)(b:AI I l):AI H l:=fun c o h=>b c o (a c o h)
section
variable{X:Cx}
def VN(i j:Int):Prop:=∃m ,m<=1000000/\i.natAbs<2^m/\j.natAbs<2^m
def VN.ok(h:VN i j):IntMulOk i j:=let⟨m,hm,I,l⟩:=h;IntMulOk.of_le (intBits_le_iff.mpr I) (intBits_le_iff.mpr l) AS
def IM:Cj X (binaryOp .Mult) (rI (fun i j=>cL i j\/VN i j) fun i j=>.int (i*j)) :=
 Ys fun _ _ _ _ _ _ _ l q=>mul_int q (l.elim (fun z=>z.ok) fun z=>z.ok)
def xf(_i j:Int):Prop:=j≠0/\∃m ,m<=9000/\j.natAbs<2^m
def Gq:Cj X (binaryOp .FloorDiv) (rI xf fun i j=>.int (i.fdiv j)):=Ys fun i j _ _ _ _ _ l q=>by
 obtain⟨h0,m,hm,I⟩:=l;refine floordiv_int h0 q (.inl (PyProof.noPylong_of_log2 ?_));have:=(Nat.log2_lt (show j.natAbs≠0 by lia)).mpr I
 lia
mutual
def Br(K:Fg)(H:Hp):PD->V->Prop
 |.none,v=>v=.BV
 |.bool b,v=>v=.bl b
 |.int i,v=>v=.int i
 |.str x,v=>v=.str x
 |.tuple ds,v=>∃a xs,v=.ref a/\A5 K H a xs/\F9 K H ds xs
 |.list ds,v=>∃a xs,v=.ref a/\Am K H a xs/\F9 K H ds xs
 |.dict _,_=>False
def F9(K:Fg)(H:Hp):List PD->List V->Prop
 |[],xs=>xs=[]
 |d::ds,xs=>∃x r,xs=x::r/\Br K H d x/\F9 K H ds r
end
mutual
theorem Br.reads{pins:LE}{σ:St}{H:Hp}{s:SD}(I:BH):∀ {d:PD} {v:V} {u:VL},Br X.K H d v->RelV v u->∃as,Reads s.heap u d as
 |.none,_,u,h,r=>by rw[Br]at h;subst h;cases r;exact⟨_,.none⟩
 |.bool b,_,u,h,r=>by rw[Br]at h;subst h;cases r;exact⟨_,.bool b⟩
 |.int i,_,u,h,r=>by rw[Br]at h;subst h;obtain⟨t,rfl⟩:=r;exact⟨_,.int i t⟩
 |.str x,_,u,h,r=>by rw[Br]at h;subst h;obtain⟨t,rfl⟩:=r;exact⟨_,.str x t⟩
 |.tuple ds,_,u,h,r=>by
  rw[Br]at h;obtain⟨a,xs,Z,Y,U⟩:=h;subst Z;cases r;obtain⟨T,l,⟨o,e,c,n,hd⟩,_⟩:=I.tuple Y;obtain⟨as,M⟩:=F9.reads I U l;exact⟨_,.tuple e c hd (by simpa using M)⟩
 |.list ds,_,u,h,r=>by
  rw[Br]at h;obtain⟨a,xs,Z,Y,U⟩:=h;subst Z;cases r;obtain⟨T,l,⟨o,n,e,c,_,hd⟩,_⟩:=I.list Y;obtain⟨as,M⟩:=F9.reads I U l;exact⟨_,.list e c hd (by simpa using M)⟩
 |.dict _,_,_,h,_=>by rw[Br]at h;exact h.elim
theorem F9.reads{pins:LE}{σ:St}{H:Hp}{s:SD}(I:BH):∀ {ds:List PD} {xs:List V} {us:List VL},F9 X.K H ds xs->Vals xs us->∃as,ReadsAll s.heap us ds as
 |[],_,us,h,r=>by rw[F9]at h;subst h;cases r;exact⟨_,.nil⟩
 |_::_,_,us,h,r=>by
  rw[F9]at h;obtain⟨x,q,e1,Z,Y⟩:=h;subst e1;cases r with
  |cons U T=>
   obtain⟨as,M⟩:=Br.reads I Z U;obtain⟨bs,l⟩:=F9.reads I Y T;exact⟨_,.cons M l⟩
end
def yM(K:Fg)(neg:Bool):R2:=fun x y H Q=>∃d e,Br K H d x/\Br K H e y/\SeqAt.shaped d=true/\SeqAt.shaped e=true/\Q (.bl (if neg then !PyData.eqv d e else PyData.eqv d e)) H
end
def Vk(X:Cx)(l:AAU)(t:TT):Prop :=
 ∀pins s (σ:St) H Q,Inv X pins σ H s->t σ H Q ->
  wpAny B1 X.A (forIn l true fun c r=>if r=true then do let ok <-isTrue c X.env (eval c X.env);pure (ForInStep.yield ok) else pure (ForInStep.yield r)) (TP X pins σ Q) X.xe s
def Kt:TT:=fun _ H Q=>Q true H
def HB:Vk X [] Kt:=fun _ _ σ H _ I h=>wpAny_tests_nil ⟨H,I,h⟩
def Iy(N I:List Str)(sc l:Scope):List (Option Nat)->Nat->Bool
 |[],_=>true
 |none::r,i=>Iy N I sc l r OK
 |some j::r,i=>(match N[i]?,I[j]? with
   |some n,some m=>n==m&&sc.names.lookup n==some .free&&l.names.lookup n==some .cell
   |_,_=>false)&&Iy N I sc l r OK
theorem PY:∀ {fr} {k},Iy N Z sc I fr k=true->∀ {i j},fr[i]? = some (some j) ->
  ∃n,N[k+i]? = some n/\Z[j]? = some n/\sc.names.lookup n=some .free/\I.names.lookup n=some .cell
 |[],_,_,i,j,e=>by simp at e
 |none::r,k,h,0,j,e=>by simp at e
 |none::r,k,h,i+1,j,e=>by
  rw[(show k+_=k+1+i by lia)];exact(PY (fr:=r) h (by simpa using e))
 |some M::r,k,h,0,j,e=>by
  have Y:=by simpa using e
  subst Y;rw[Iy,(HG)]at h;have l:=h.1;split at l
  .rename_i n m hn hm;simp at l;obtain⟨⟨rfl,U⟩,T⟩:=l;exact⟨n,by simpa using hn,hm,U,T⟩
  .cases l
 |some M::r,k,h,i+1,j,e=>by
  rw[Iy,(HG)]at h;have z:k+OK=k+1+i:=by lia
  rw[z];exact(PY h.2 (by simpa using e))
def carry(fr:AAk)(σ:St):St:=fr.map fun o=>match o with
 |some j=>(σ[j]?).join
 |none=>none
def eJ{i:Nat}(h:(carry fr σ)[i]? = some (some v)):∃j,fr[i]? = some (some j)/\σ[j]? = some (some v):=by
 unfold carry at h;rw[(Ar)]at h;cases e:fr[i]? with
 |none=>simp_all
 |some o=>
  rw[e]at h;cases o with
  |none=>simp at h
  |some j=>
   refine⟨j,rfl,?_⟩;simp at h;cases q:σ[j]? with
   |none=>simp_all
   |some w=>simp_all
theorem MM:∀(names:List (Str×NameKind)) cs,(∀x∈names,x.2=NameKind.free->∃c,env.cells.lookup x.1=some c)->(∀x c,cs.lookup x=some c->env.cells.lookup x=some c) ->
  ∃cl,(forIn names cs (fun(x:Str×NameKind) r=>do if(x.2==NameKind.free)=true then do let a <-cellOf env x.1;pure (ForInStep.yield ((x.1,a)::r)) else pure (ForInStep.yield r)))=pure cl /\
   (∀x c,cl.lookup x=some c->env.cells.lookup x=some c)/\(∀x,(∃c,cs.lookup x=some c)->∃c,cl.lookup x=some c)/\∀x∈names,x.2=NameKind.free->∃c,cl.lookup x.1=some c
 |[],cs,_,M=>⟨cs,rfl,M,fun _ q=>q,fun _ z=>(by cases z)⟩
 |(n,k)::r,cs,Z,M=>by
  rw[List.forIn_cons];by_cases hk:(k==NameKind.free)=true
  .obtain⟨c,hc⟩:=Z (n,k) aS (by simpa using hk);obtain⟨cl,Y,U,I,T⟩:=MM r ((n,c)::cs) (fun x l=>Z x (aQ _ l)) (fun x c' e=>by
    rw[(KP)]at e;cases l:x==n with
    |true=>have:=beq_iff_eq.mp l;subst this;simp at e;rw[<-e];exact hc
    |false=>rw[l]at e;exact M x c' e)
   refine⟨cl,?_,U,fun x l=>?_,fun x l hf=>?_⟩
   .simp only[hk,if_true];unfold cellOf;rw[hc];exact Y
   .refine I x ?_;rw[(KP)];cases hxn:x==n with
    |true=>exact⟨c,rfl⟩
    |false=>exact l
   .rcases aO.mp l with e|l
    .subst e;exact(I n ⟨c,by rw[(KP),beq_self_eq_true]⟩)
    .exact T x l hf
  .obtain⟨cl,Y,U,I,T⟩:=MM r cs (fun x l=>Z x (aQ _ l)) M;refine⟨cl,?_,U,I,fun x l hf=>?_⟩
   .simp only[hk];exact Y
   .rcases aO.mp l with e|l
    .subst e;exact absurd (by simpa using hf) hk
    .exact T x l hf
def oI{code} (h:Q (newEnv scope s.heap.objs.size globals (cellsFrom Ps scope.names closure) qual func code (some l) b) {s with heap:=pushCells (s.heap.push { cls:=.type "dict",data:=.dict #[]}) scope.names}):wpAny M A (newFunctionEnv scope globals closure [] qual func code (some l) b) Q E s:=by
 refine Wb (wpAny_alloc (Wb (wpAny_layCells _ (fun name kind cells=>by rfl) _ _ _ _ ?_)));rw[Heap.size_push ..];exact Wb (aB (aB h))
theorem Sx:∀names h l n,h.objs.size=n->∀ {y} {c},(cellsFrom n names l).lookup y=some c->l.lookup y=some c\/(n<=c/\(pushCells h names).IsCell c none)
 |[],h,l,n,hn,y,c,e=>.inl e
 |(m,k)::r,h,l,n,hn,y,c,e=>by
  unfold cellsFrom at e;unfold pushCells;by_cases hk:(k==.cell)=true
  .rw[if_pos hk]at e;rw[if_pos hk];rcases Sx r (h.push { cls:=.type "cell",data:=.cell none}) _ _ Rs e with z|⟨T,I⟩
   .rw[(KP)]at z;by_cases M:(y==m)=true
    .rw[M]at z;cases z;exact .inr ⟨aG _,⟨_,pushCells_keeps _ _ _ _ (hn ▸ aR _ rfl),rfl⟩⟩
    simp_all
   .exact .inr ⟨aa ‹_›,I⟩
  .rw[if_neg hk]at e;rw[if_neg hk];exact Sx r h l n hn e
theorem SS:∀names l n {y},(y,NameKind.cell) ∉ names->(cellsFrom n names l).lookup y=l.lookup y
 |[],l,n,y,_=>rfl
 |(m,k)::r,l,n,y,h=>by
  unfold cellsFrom;have I:=fun z=>h (aQ _ z);by_cases hk:(k==.cell)=true
  .rw[if_pos hk,SS r _ _ I]
   grind
  .rw[if_neg hk,SS r _ _ I]
theorem VS:∀names (l:List (Str×AD)) n {y} {I c0:Nat},l.lookup y=some c0->I<=c0->I<=n->∃c,(cellsFrom n names l).lookup y=some c/\I<=c
 |[],l,n,y,I,c0,h,M,_=>⟨c0,h,M⟩
 |(m,k)::r,l,n,y,I,c0,h,M,hn=>by
  unfold cellsFrom;by_cases hk:(k==.cell)=true
  .rw[if_pos hk];cases e:y==m with
   |true=>exact VS r _ _ (by rw[(KP),e]) hn AS
   |false=>exact VS r _ _ (by rw[(KP),e];exact h) M AS
  .rw[if_neg hk];exact VS r _ _ h M hn
theorem Oa:∀names l n {y},(y,NameKind.cell)∈names->∃c,(cellsFrom n names l).lookup y=some c/\n<=c
 |[],l,n,y,h=>by cases h
 |(m,k)::r,l,n,y,h=>by
  unfold cellsFrom;rcases aO.mp h with e|h
  .injection e with T M
   subst T M;exact VS r _ _ BY LK (Nat.le_succ _)
  .by_cases hk:(k==.cell)=true
   .rw[if_pos hk];obtain⟨c,I,U⟩:=Oa r _ _ h;exact⟨c,I,Nat.le_of_lt ‹_›⟩
   .rw[if_neg hk];exact Oa r l n h
theorem We:∀names (l:List (Str×AD)) (n:Nat),(∀x y c,l.lookup x=some c->l.lookup y=some c->x=y)->(∀x c,l.lookup x=some c->c<n) ->
  ∀x y c,(cellsFrom n names l).lookup x=some c->(cellsFrom n names l).lookup y=some c->x=y
 |[],l,n,h,_=>h
 |(m,k)::r,l,n,h,hb=>by
  unfold cellsFrom;by_cases hk:(k==.cell)=true
  .rw[if_pos hk];refine We r _ _ (fun x y c I M=>?_) fun x c I=>?_
   .rw[(KP)]at I M;cases T:x==m<;>cases U:y==m<;>rw[T]at I<;>rw[U]at M
    .exact h x y c I M
    .cases M;exact absurd (hb _ _ I) (bh _)
    .cases I;exact absurd (hb _ _ M) (bh _)
    simp_all
   .rw[(KP)]at I;cases T:x==m<;>rw[T]at I
    .exact bW (hb _ _ I)
    simp_all
  .rw[if_neg hk];exact We r _ _ h hb
def BP(X:Cx)(scope:Scope)(cl:List (Str×AD))(N:AAT)(C:AD)(s₀:SD)(H₀:Hp)(fp:AAh):Cx where
 prog:=X.prog
 w:=X.w
 K:=X.K
 mg:=X.mg
 base:=X.base
 A:=X.A
 N:=N
 s₀:=s₀
 H₀:=H₀
 env:=compEnvC scope (cellsFrom (C+1) scope.names cl) C X.env
 outer:=X.stack
 stack:=X.stack
 ex:=fp
 fn:=fun y=>decide (scope.names.lookup y=some .cell)
 calm:=X.calm
 pn:=[]
 xe:=fun _ _=>False
def L6(g:TG)(tif:TT)(T:TE)(σ:St)(D:AD)(x:V)(ys:AAf)(H:Hp)(n:List V->Hp->Prop):Prop :=
 g x σ H fun l U=>tif l U fun b M=>if b=true then T l M fun y I=>I D=some Ix/\n (ys++[y]) (upd I D (.lst (ys++[y]))) else n ys M
def Ls(wi:TI)(fr:AAk)(g:TG)(tif:TT)(T:TE):TE:=fun σ H Q=>wi σ H fun J I=>∀D,I D=none->∃W:Nat->Nat->List V->Hp->Prop,(∃m,W 0 m [] (upd I D NE)) /\
 ∀i m ys H,W i m ys H->H D=some Ix/\((J.stop i H/\Q (.ref D) H)\/(J.go i H/\ys.length<sizeLine/\∀x H',J.E7 i H x H'->L6 g tif T (carry fr σ) D x ys H' fun M U=>∃l,l<m/\W OK l M U))
abbrev w6(wi:TI)(fr:List (Option Nat))(ix:Nat):TT->TE->TE:=Ls wi fr (Cr ix)
structure Ig(scope:Scope):Prop where
 kind:scope.kind=.function
 names:∀y∈scope.names,y.2=.local->scope.names.lookup y.1=some .local
 free:∀y∈scope.names,y.2=.free->scope.names.lookup y.1=some .free
 cells:∀y∈scope.names,y.2=.cell->scope.names.lookup y.1=some .cell
def lookup_mem{names:List (Str×NameKind)}:names.lookup n=some k->(n,k)∈names:=by
 induction names with
 |nil=>simp
 |cons y r l=>
  grind
def Wy(h:(relabel scope env).names.lookup n=some .cell\/(relabel scope env).names.lookup n=some .free):∃k,(n,k)∈scope.names/\(k=NameKind.free\/k=NameKind.cell):=by
 have key:∀l,(relabel scope env).names.lookup n=some l->(l=.cell\/l=.free)->∃k,(n,k)∈scope.names/\(k=NameKind.free\/k=NameKind.cell):=fun l h hk=>by
  obtain⟨⟨m,k⟩,I,e⟩:=aI.mp (lookup_mem h)
  grind
 rcases h with h|h
 .exact key _ h (.inl rfl)
 .exact key _ h (.inr rfl)
theorem Nj{env:Env}:∀ {names:List (Str×NameKind)} {x},names.lookup x=some .cell->(names.map fun(n,k)=>if(k==.free&&env.scope.kind==.function&&env.kindOf n==some .cell) then(n,NameKind.cell) else(n,k)).lookup x=some .cell
 |(n,k)::r,x,h=>by
  rw[(BM)];rw[(KP)]at h;cases e:x==n with
  |true=>
   simp_all
  |false=>
   rw[e]at h;dsimp only;split<;>rw[(KP),e]<;>exact(Nj h)
section
variable{X:Cx}{elt iter:Expr}{tgE:Expr}{g:TG}{pos:Pos}{ifs:AAU}{scope:Scope}{wi:TI}{fr:AAk}{tif:TT}{te:TE}{N:AAT}
def KY(I:Nat->SD->Prop)
 (turn:∀n s,I n s->wpAny As A (pyNext it) (fun r l=>match r with
   |none=>R (.ok .next) l
   |some v=>wpAny As A (letOwnedTupleGo target it v>>=fun _=>assign target env v) (fun _ Y=>
     wpAny As A (forIn ifs true fun c r=>if r=true then do let ok <-isTrue c env (eval c env);pure (ForInStep.yield ok) else pure (ForInStep.yield r)) (fun ok M=>
      if ok=true then wpAny As A (eval elt env) (fun x U=>
       wpAny As A (call (.builtin "list.append") [acc,x]) (fun _ T=>∃m,m<n/\I m T) (notedBy As A env fun e s'=>R (.error e) s') U) (notedBy As A env fun e s'=>R (.error e) s') M
      else ∃m,m<n/\I m M) (notedBy As A env fun e s'=>R (.error e) s') Y) (notedBy As A env fun e s'=>R (.error e) s') l) (notedBy As A env fun e s'=>R (.error e) s') s)
  n (h:I n s) :
  codeAny As A (.compLoop (.ListComp elt [⟨target,iter,ifs,0⟩] scope pos) 0 it acc env) R s:=by
 refine codeAny_loop rfl I (fun n s hI=>wpAny_noted ?_) n h;rw[compTurn_list];refine Wb (wpAny_standAt (Wb (aV (turn n s hI) (fun r l h₁=>?_) fun _ _ h'=>h')));cases r with
 |none=>exact aB h₁
 |some v=>
  show wpAny _ A (letOwnedTupleGo target it v>>=fun _=>assign target env v>>=_) _ _ l;rw[<-bind_assoc];refine Wb (aV h₁ (fun _ Y h₂=>Wb (aV h₂ (fun ok M Z=>?_) fun _ _ h'=>h')) fun _ _ h'=>h');cases ok with
  |false=>exact aB ⟨rfl,Z⟩
  |true=>
   exact Wb (Wb (aV Z (fun x U h₄=>Wb (aV h₄ (fun _ T h₅=>aB (aB ⟨rfl,h₅⟩)) fun _ _ h'=>h')) fun _ _ h'=>h'))
def cT{pins:LE}{σ:St}{U:Hp}{s2:SD}{Q:VK}{it:AD}{fp:AAh}{tn:Nat->Heap->Prop}{J:It}{cl:List (Str×AD)}{E:AAN}{RR:VL->AD->Result->SD->Prop} (S:Ig scope)(Z:PP)(hk:∀v σ H Q,g v σ H Q->g v σ H fun σ' H'=>Q σ' H'/\∀u,g u σ'=g u σ)(hpg:∀cl C s₀ H₀ fp,PG FS tgE g)(hfr:Iy N X.N scope X.env.scope fr 0=true)(hlen:fr.length=N.length) (hif:∀cl C s₀ H₀ fp,Vk FS ifs tif)(he:∀cl C s₀ H₀ fp,PE FS elt te) (I:Inv X pins σ U s2)(T:Turn X.prog X.w X.K tgE J fp it tn)(st2:tn 0 s2.heap)(f2:∀b∈fp,K7 X pins U b) (c1:∀x c,cl.lookup x=some c->X.env.cells.lookup x=some c)(c2:∀x∈scope.names,x.2=NameKind.free->∃c,cl.lookup x.1=some c) (W:∀D,U D=none->∃W:Nat->Nat->List V->Hp->Prop,(∃m,W 0 m [] (upd U D NE)) /\∀i m ys H,W i m ys H->H D=some Ix/\((J.stop i H/\Q (.ref D) H)\/(J.go i H/\ys.length<sizeLine/\∀x H',J.E7 i H x H'->L6 g tif te (carry fr σ) D x ys H' fun zs U=>∃m',m'<m/\W OK m' zs U))) (fin:∀(D C:AD) (s':SD) (H':Hp) m,s'.heap.Ns C m->Q (.ref D) H'->(∀h',Heap.SameBut C s'.heap h'->Inv X pins σ H' { s' with heap:=h'})->C≠D->(∀b o,s2.heap.get? b=some o->b≠C)->H' C=none->s2.heap.objs.size<=C->RR (.ref D) C (.ok .next) s'):wpAny B1 X.A (newList []) (fun acc Y=>wpAny B1 X.A (newFunctionEnv scope X.env.globals cl [] X.env.qual none .none (some X.env)) (fun cenv s₄ => codeAny B1 X.A (.compStart (.ListComp elt [⟨tgE,iter,ifs,0⟩] scope pos) 0 (.ref it) acc {cenv with scope:=relabel scope X.env}) (RR acc cenv.locals) s₄) E Y) E s2:=by
 refine aj (oI ?_);dsimp only;generalize hHp:s2.heap.push { cls:=.type "list",dict:=none,data:=.seq ([]:List VL).toArray}=l;generalize hh1:pushCells (l.push { cls:=.type "dict",data:=.dict #[]}) scope.names=M;have kq:∀b o,l.get? b=some o->M.get? b=some o:=fun b o e=>hh1 ▸ pushCells_keeps _ _ b o (aF _ e)
 have hns₁:M.Ns l.objs.size (fun _=>none):=hh1 ▸ (Heap.Ns.new l (.type "dict")).keeps (pushCells_keeps _ _)
 have hC:l.objs.size=s2.heap.objs.size+1:=by rw[<-hHp,(LJ)]
 have hDC:s2.heap.objs.size≠l.objs.size:=by rw[hC];exact aL (bK _)
 have below:∀b,b<s2.heap.objs.size->b≠l.objs.size/\b≠s2.heap.objs.size:=fun b hb=>⟨by rw[hC];exact aL (bW hb),Nat.ne_of_lt hb⟩;have old:∀b o,s2.heap.get? b=some o->M.get? b=some o:=fun b o e=>kq b o (hHp ▸ aF _ e);have hacc:M.get? s2.heap.objs.size=some { cls:=.type "list",data:=.seq ([]:List VL).toArray}:=kq _ _ (hHp ▸ aR _ rfl);have hD2:U s2.heap.objs.size=none:=I.Ac.fresh LK;have hC2:U l.objs.size=none:=I.Ac.fresh (by rw[hC];exact Nat.le_succ _);have fpo:∀b∈fp,b<s2.heap.objs.size:=fun b hb=>by
  obtain⟨o,e,_⟩:=T.obj _ _ st2 b hb;exact aH e
 obtain⟨W,⟨m0,w0⟩,turn⟩:=W s2.heap.objs.size hD2;have hlt:s2.heap.objs.size<l.objs.size:=by rw[hC];exact bK _
 have sq:(l.push { cls:=.type "dict",data:=.dict #[]}).objs.size=l.objs.size+1:=Heap.size_push ..;have k1:∀y c,(cellsFrom (l.objs.size+1) scope.names cl).lookup y=some c->X.env.cells.lookup y=some c\/(l.objs.size<c/\M.IsCell c none):=fun y c e=>by
  rcases Sx scope.names (l.push { cls:=.type "dict",data:=.dict #[]}) cl (l.objs.size+1) sq e with z|z
  .exact .inl (c1 _ _ z)
  .exact .inr (hh1 ▸ z)
 have cold:∀y c,X.env.cells.lookup y=some c->c<s2.heap.objs.size:=fun y c e=>by
  obtain⟨v,o,ho,_⟩:=I.cell y c e;exact aH ho
 have kfree:∀y,scope.names.lookup y=some .free->(cellsFrom (l.objs.size+1) scope.names cl).lookup y=cl.lookup y:=fun y e=>SS scope.names cl _ fun hm=>by
  have:=S.cells _ hm rfl;rw[e]at this;cases this
 have ok:(BP X scope cl N l.objs.size s2 U fp).Ok:=by
  refine⟨I.ok.mod,S.kind,I.ok.glob,I.ok.blt,by show s2.heap.objs.size<=l.objs.size;rw[hC];exact Nat.le_succ _,?_,?_,?_,fun _=>I.ok.hd Z,I.ok.frames,.inl rfl,?_,I.bs,Nat.le_trans I.ok.RH I.sz,?_,?_,I.stack,I.Rx,I.kt⟩
  .exact We scope.names cl _ (fun a b c h1 h2=>I.ok.inj a b c (c1 _ _ h1) (c1 _ _ h2)) fun a c h=>by
    exact bW (bZ (cold a c (c1 _ _ h)) hlt)
  .intro y hy;obtain⟨k,hm,hk⟩:=Wy hy;rcases hk with rfl|rfl
   .obtain⟨c,hc⟩:=c2 _ hm rfl;exact⟨c,by rw[show(BP X scope cl N l.objs.size s2 U fp).env.cells.lookup y=_ from kfree y (S.free _ hm rfl)];exact hc⟩
   .obtain⟨c,hc,_⟩:=Oa scope.names cl (l.objs.size+1) hm;exact⟨c,hc⟩
  .intro y c hf e;obtain⟨c',hc,hge⟩:=Oa scope.names cl (l.objs.size+1) (lookup_mem (ak hf));have e':(cellsFrom (l.objs.size+1) scope.names cl).lookup y=some c:=e;rw[hc]at e';cases e';exact aK (aa hlt) (Nat.le_of_succ_le hge)
  .intro b hb;refine⟨(below b (fpo b hb)).1,fun y c e=>?_⟩;obtain⟨_,_,_,_,f5,_⟩:=f2 b hb;rcases k1 _ _ e with z|⟨z,_⟩
   .exact f5 y c z
   .exact bQ (bZ (fpo b hb) (bZ hlt z))
  .intro b o e hb;obtain⟨_,_,_,f4,_,_⟩:=f2 b hb;rcases f4 with z|z
   .exact I.ok.Su b o e z
   .exact absurd (aE (aH e) (aK I.ok.RH z)) (bh _)
  .intro b hb hs;obtain⟨_,f1,f3,_⟩:=f2 b hb;rcases aO.mp (I.NV b hs) with z|z
   .exact f1 z
   .exact f3 z
 have I4:Inv (BP X scope cl N l.objs.size s2 U fp) [] (carry fr σ) (upd U s2.heap.objs.size NE) {s2 with heap:=M,toks:=s2.toks}:=by
  refine⟨ok,rfl,I.bare,Un.laid old LK hD2,⟨_,hns₁,fun i y v h1 h2 h3=>?_⟩,fun y c e=>?_,?_,fun y c e=>?_,fun p hp=>(by cases hp),I.Ac.laid old LK ⟨bC _,[],0,.nil,hacc⟩,?_⟩
  .obtain⟨j,e1,e2⟩:=eJ h2;obtain⟨n,n1,n2,n3,n4⟩:=PY hfr e1;rw[Nat.zero_add]at n1;have:y=n:=by
    have h1':N[i]? = some y:=h1;rw[h1']at n1;exact ag n1
   subst this;obtain⟨m,hn,hl⟩:=I.loc;obtain⟨u,ru,lk⟩:=hl j y v n2 e2 (.inr (.inl n4));refine⟨u,ru,?_⟩;obtain⟨c,hc⟩:=c2 _ (lookup_mem n3) rfl;rcases lk with ⟨k1,_⟩|⟨_,c',hc',hcell⟩
   .have k1':X.env.scope.names.lookup y=some .local:=k1;rw[n4]at k1';cases k1'
   .have:=c1 _ _ hc;rw[hc']at this;cases this;refine .inr ⟨?_,c,(kfree y n3).trans hc,hcell.keeps old⟩;rcases h3 with z|z|z
    .obtain⟨k,hm⟩:∃k,(y,k)∈scope.names/\k=NameKind.local:=by
      have hm:=lookup_mem z;have hm':(y,NameKind.local)∈(relabel scope X.env).names:=hm;unfold relabel at hm';obtain⟨⟨m',k⟩,hy,e⟩:=aI.mp hm';dsimp only at e;by_cases hcond:(k==NameKind.free&&X.env.scope.kind==.function&&X.env.kindOf m'==some .cell)=true
      .rw[if_pos hcond]at e;injection e with _ e2';cases e2'
      .rw[if_neg hcond]at e;injection e with e1' e2';subst e1' e2';exact⟨_,hy,rfl⟩
     obtain⟨hm,rfl⟩:=hm;have:=S.names _ hm rfl;rw[n3]at this;cases this
    .exact .inl z
    .exact .inr z
  .rcases k1 _ _ e with z|⟨_,z⟩
   .obtain⟨v,z⟩:=I.cell y c z;exact⟨v,z.keeps old⟩
   .exact⟨_,z⟩
  .show upd U s2.heap.objs.size _ l.objs.size=none;rw[AM (Ne.symm hDC)];exact hC2
  .rcases k1 _ _ e with z|⟨z,_⟩
   .rw[AM (below c (cold _ _ z)).2];exact I.FR y c z
   .rw[AM (bQ (bZ hlt z))];exact I.Ac.fresh (aa (bZ hlt z))
  .show(carry fr σ).length=N.length;unfold carry;rw[OF];exact hlen
 have fpX:∀(p:LE) (H':Hp),(∀q∈p,q.1∈fp->False)->(∀b∈fp,H' b=none)->∀b∈fp,K7 (BP X scope cl N l.objs.size s2 U fp) p H' b:=fun p H' hp hn b hb=>by
  obtain⟨_,f1,f3,f4,f5,_⟩:=f2 b hb;refine⟨hn b hb,(below b (fpo b hb)).1,fun hs=>ok.Sy b hb hs,.inl hb,fun y c e=>?_,fun q hq e=>?_⟩
  .rcases k1 _ _ e with z|⟨z,_⟩
   .exact f5 y c z
   .exact bQ (bZ (fpo b hb) (bZ hlt z))
  exact hp q hq (e ▸ hb)
 have loop:∀Y:SD,Y={s2 with heap:=M,toks:=s2.toks} ->
   codeAny B1 X.A (.compLoop (.ListComp elt [⟨tgE,iter,ifs,0⟩] scope pos) 0 (.ref it) (.ref s2.heap.objs.size) (compEnvC scope (cellsFrom (l.objs.size+1) scope.names cl) l.objs.size X.env)) (RR (.ref s2.heap.objs.size) l.objs.size) Y:=by
  rintro Y rfl;refine KY (fun n s'=>∃i ys σ' H',Inv (BP X scope cl N l.objs.size s2 U fp) [] σ' H' s'/\(∀u,g u σ'=g u (carry fr σ))/\tn i s'.heap/\(∀b∈fp,H' b=none)/\W i n ys H') ?_ m0
   ⟨0,[],carry fr σ,_,I4,fun _=>rfl,T.keep _ _ _ st2 fun b _ o e=>old b o e,fun b hb=>by rw[AM (below b (fpo b hb)).2];exact(f2 b hb).1,w0⟩
  rintro n s3 ⟨i,ys,σ3,H3,I3,hσ,st3,fr3,w3⟩;obtain⟨hD3,way⟩:=turn i n ys H3 w3;rcases way with ⟨stop,qn⟩|⟨go,hsz,step⟩
  .refine aV (T.done (BP X scope cl N l.objs.size s2 U fp) rfl rfl rfl Z i [] s3 σ3 H3 (fun _ _=>False) I3 (fpX [] H3 (fun _ z=>by cases z) fr3) st3 stop) (fun r s4 ⟨hr,I5⟩=>?_) fun _ _ z=>z.elim;subst hr;obtain⟨m,hn,_⟩:=id I5.loc;refine fin _ _ s4 H3 m hn qn (fun h' hs'=>?_) (Ne.symm hDC) (fun b o e=>(below b (aH e)).1) I5.free (by rw[hC];exact Nat.le_succ _);have nC:∀b u,H3 b=some u->b≠l.objs.size:=fun b u e z=>by
    have:=I5.free;rw[show(BP X scope cl N l.objs.size s2 U fp).env.locals=l.objs.size from rfl,<-z,e]at this;cases this
   have keepU:Un (GG X.stack) fp U H3 s2.heap h':=by
    have u:=I5.base;refine⟨fun b o e n hb hx=>?_,fun b o e n hb hx=>?_,fun b o e n hx=>u.free b o e n hx,fun b o e hx=>?_,u.Bi,u.FK,u.GN,fun b xs o q e hx=>(hs'.2 b (below b (aH e)).1).trans (u.GP b xs o q e hx)⟩
    .exact(hs'.2 b (below b (aH e)).1).trans (u.keep b o e n hb hx)
    .obtain⟨sl,e1⟩:=u.slot b o e n hb hx;exact⟨sl,(hs'.2 b (below b (aH e)).1).trans e1⟩
    .obtain⟨o',e1⟩:=u.there b o e hx;exact⟨o',(hs'.2 b (below b (aH e)).1).trans e1⟩
   have hok':DZ X.prog X.w H3 h':=fun b u e=>(I5.Ac b u e).J4 (fun c v hc q=>(hs'.2 c (by
    rcases hc with rfl|hc
    .exact nC _ _ e
    .exact nC _ _ hc)).trans q) (fun _ q=>q) fun _ _ q=>q
   refine I.nL (s':={s4 with heap:=h'}) (ch:=fp) I5.os keepU hok' I5.bare fun b hb=>?_;obtain⟨_,f1,_,f4,f5,f6⟩:=f2 b hb;exact⟨f4,f1,f5,f6⟩
  .refine aV (T.item (BP X scope cl N l.objs.size s2 U fp) rfl rfl rfl Z i [] s3 σ3 H3 (fun _ _=>False) I3 (fpX [] H3 (fun _ z=>by cases z) fr3) st3 go) (fun r s4 ⟨u,hr,h4⟩=>?_) fun _ _ z=>z.elim;subst hr;show wpAny B1 X.A (letOwnedTupleGo tgE (.ref it) u>>=fun _=>assign tgE (compEnvC scope (cellsFrom (l.objs.size+1) scope.names cl) l.objs.size X.env) u) _ _ s4;refine Wb (aV h4 (fun _ s5 ⟨xv,H5,I5,r5,y5,st5,fr5⟩=>?_) fun _ _ z=>z.elim);have I5':=I5.pinned (fpX [] H5 (fun _ z=>by cases z) fr5) (T.obj _ _ st5);have st5':=step xv H5 y5;unfold L6 at st5';rw[<-hσ]at st5';refine aV (hpg _ _ _ _ _ _ s5 σ3 H5 xv u _ I5' r5 (hk _ _ _ _ st5')) (fun _ s6 ⟨σ6,H6,I6,step5,rv6⟩=>?_) fun _ _ z=>z.elim;refine aV (hif _ _ _ _ _ _ s6 _ H6 _ I6 step5) (fun b s7 ⟨H7,I7,q7⟩=>?_) fun _ _ z=>z.elim;have again:∀ {s8:SD} {H8:Hp} {k:Nat} {zs:List V},Inv (BP X scope cl N l.objs.size s2 U fp) ([]++QN fp s5.heap) σ6 H8 s8->W OK k zs H8->k<n ->
     ∃m,m<n/\∃i ys σ' H',Inv (BP X scope cl N l.objs.size s2 U fp) [] σ' H' s8/\(∀u,g u σ'=g u (carry fr σ))/\tn i s8.heap/\(∀b∈fp,H' b=none)/\W i m ys H':=fun {s8 H8 k zs} I8 w8 hk=>by
    refine⟨k,hk,i+1,zs,_,H8,I8.MJ,fun u=>(rv6 u).trans (hσ u),T.keep _ _ _ st5 fun b hb o e=>(I8.pin (b,o) (aY _ (aY _ (JJ hb e)))).1,fun b hb=>?_,w8⟩;obtain⟨o,e,d⟩:=T.obj _ _ st5 b hb;exact(I8.pin (b,o) (aY _ (aY _ (JJ hb e)))).2.1
   cases b with
   |false=>
    rw[if_neg aN]at q7 ⊢;obtain⟨k,hk,w7⟩:=q7;exact again I7 w7 hk
   |true=>
    rw[if_pos rfl]at q7 ⊢;refine aV (he _ _ _ _ _ _ s7 _ H7 _ I7 q7) (fun yv s8 ⟨y,H8,I8,r8,hD8,k,hk,w8⟩=>?_) fun _ _ z=>z.elim;refine aV (Kl (X:=BP X scope cl N l.objs.size s2 U fp) _ s8 _ H8 (.ref s2.heap.objs.size) [y] (.ref s2.heap.objs.size) [yv] (fun _ H9=>H9=upd H8 s2.heap.objs.size (.lst (ys++[y]))) I8 rfl (.cons r8 .nil) ⟨_,ys,y,rfl,rfl,hD8,hsz,rfl⟩) (fun _ s9 ⟨_,H9,I9,_,e9⟩=>?_) fun _ _ z=>z.elim;subst e9;exact again I9 w8 hk
 exact codeAny_compStart_list (loop _ rfl) (T.self X.A 0 _ _ _ (T.keep _ _ _ st2 fun b _ o e=>old b o e) (loop _ rfl))
def XO(S:Ig scope)(U:PP)(hk:∀v σ H Q,g v σ H Q->g v σ H fun σ' H'=>Q σ' H'/\∀u,g u σ'=g u σ)(hpg:∀cl C s₀ H₀ fp,PG FS tgE g) (hfr:Iy N X.N scope X.env.scope fr 0=true)(Y:fr.length=N.length)(l:∀y∈scope.names,y.2=.free->X.env.scope.names.lookup y.1=some .cell\/X.env.scope.names.lookup y.1=some .free) (hi:PI X tgE iter wi)(hif:∀cl C s₀ H₀ fp,Vk FS ifs tif)(he:∀cl C s₀ H₀ fp,PE FS elt te) (hs:∀x,foldedSetIterable iter X.env x=pure x){σ:St}(I:BH)(hw:Ls wi fr g tif te σ H Q) (fin:∀D C s' H' m,s'.heap.Ns C m->Q (.ref D) H'->(∀h',Heap.SameBut C s'.heap h'->Inv X pins σ H' { s' with heap:=h'})->H' C=none->C≠X.env.locals->X.s₀.heap.objs.size<=C->(∀z c,X.env.cells.lookup z=some c->c≠C)->(∀p∈X.pn++pins,p.1≠C) ->compPost B1 X.A X.xe use Z (.ref D) C (.ok .next) s'):wpAny B1 X.A (comprehension (.ListComp elt [⟨tgE,iter,ifs,0⟩] scope pos) scope X.env ps (newList []) false (eval iter X.env) use) Z X.xe s:=by
 obtain⟨cl,M,c1,_,c2⟩:=MM scope.names [] (fun y hy hf=>I.ok.has y.1 (l y hy hf)) (fun y c z=>by cases z);refine wpAny_comprehension_free rfl hs (show closureFor scope X.env=pure cl by
  rw[(show closureFor scope X.env=(_>>=fun cs=>pure cs) from rfl),M]
  rfl) S.kind S.names (Aw (hi pins s σ H _ I hw) fun v s1 h1=>Aw h1 fun itv s2 h2=>?_)
 obtain⟨it,fp,tn,J,H2,e,I2,T,st2,f2,W⟩:=h2;subst e;refine cT S U hk hpg hfr Y hif he I2 T st2 f2 c1 c2 W ?_;intro D C s' H' m hn q hI _ hold hfC hsz;refine fin D C s' H' m hn q hI hfC (fun z=>?_) (aK I2.sz hsz) (fun z c e=>?_) fun p hp=>?_
 .obtain⟨_,⟨o,_,_,e,_⟩,_⟩:=I2.loc;exact hold _ _ e z.symm
 .obtain⟨_,o,ho,_⟩:=I2.cell z c e;exact hold _ _ ho
 .obtain⟨e,_⟩:=I2.pin p hp;exact hold _ _ e
section
variable(S:Ig scope)(hcalm:PP)(hk:∀v σ H Q,g v σ H Q->g v σ H fun σ' H'=>Q σ' H'/\∀u,g u σ'=g u σ)(hpg:∀cl C s₀ H₀ fp,PG FS tgE g)
 (hfr:Iy N X.N scope X.env.scope fr 0=true)(hlen:fr.length=N.length)(hfree:∀y∈scope.names,y.2=.free->X.env.scope.names.lookup y.1=some .cell\/X.env.scope.names.lookup y.1=some .free)
 (hi:PI X tgE iter wi)(hif:∀cl C s₀ H₀ fp,Vk FS ifs tif)(he:∀cl C s₀ H₀ fp,PE FS elt te)
 (hs:∀x,foldedSetIterable iter X.env x=pure x)
include S hcalm hk hpg hfr hlen hfree hi hif he hs
theorem SJ:PE X (.ListComp elt [⟨tgE,iter,ifs,0⟩] scope pos) (Ls wi fr g tif te):=fun pins s σ H Q I M=>XO S hcalm hk hpg hfr hlen hfree hi hif he hs I M fun D C s' H' m hn q T _ _ _ _ _=>⟨m,hn,fun h' l=>⟨.ref D,H',T h' l,rfl,q⟩⟩
theorem dC(hN:X.N.Nodup)(hy:X.N[i]? = some y)(T:X.env.scope.names.lookup y=some .local) (Y:swapsWith (.ListComp elt [⟨tgE,iter,ifs,0⟩] scope pos) (some (.Name y py)) M.line X.env=pure true):PS X (.Assign [.Name y py] (.ListComp elt [⟨tgE,iter,ifs,0⟩] scope pos) M) (WM (Ls wi fr g tif te) (Cr i)):=by
 intro pins s σ H D I hw;rw[exec_Assign_Name_used _ _ _ _ Y];refine Wb (wpAny_standAt (Wb (Wb (aV (XO S hcalm hk hpg hfr hlen hfree hi hif he hs I hw ?_) (fun _ s' hq=>aB (aB hq)) fun _ _ e=>e))));intro D' C s' H' m hn q hI l hL U hcl hp;exact wpAny_assign_Name (UZ (hI s'.heap (Heap.SameBut.refl ..)) hN hy (.inl T) (v:=.ref D') rfl (fun s'' I6 ⟨a,Z,ha⟩=>⟨m,hn.sameBut Z (show C≠a by
  grind),fun h' hs'=>⟨_,H',I6.turned (fun b o hb e=>(hs'.2 b hb).trans e) l hL (.inr U) hcl hp,q⟩⟩) (.inr T))
end
end
end L2
namespace FM
def gi(a b:Int):Int:=(Int.gcd a b:Int)
def V8 a b:Int.gcd b (a.fmod b)=Int.gcd a b:=by
 rw[(Int.fmod_def a b),Int.gcd_comm a b];simp
def UJ(a b:Int)(hb:b≠0):(a.fmod b).natAbs<b.natAbs:=by
 rcases Int.lt_or_gt_of_ne hb with h|h
 .have M:-(a.fmod b)=(-a).fmod (-b):=by
   simp
  have I:=Int.fmod_nonneg_of_pos (-a) (show 0 < -b by lia);have l:=Int.fmod_lt_of_pos (-a) (show 0 < -b by lia)
  lia
 .have I:=Int.fmod_nonneg_of_pos a h;have l:=Int.fmod_lt_of_pos a h
  lia
def KI(hb:b≠0):0<gi a b:=by
 have:=Int.gcd_pos_of_ne_zero_right a hb;unfold gi;lia
def cy(hb:b≠0):(gi a b).natAbs<=b.natAbs:=by
 have:=Nat.le_of_dvd (show 0<b.natAbs by lia) (Int.natAbs_dvd_natAbs.mpr (Int.gcd_dvd_right a b));unfold gi;lia
def gs(t b:Int):Int:=if b<0 then -gi t b else gi t b
def nT(hb:b≠0):gs t b≠0:=by
 have:=KI (a:=t) hb;unfold gs;lia
def l8(hb:b≠0):(gs t b).natAbs<=b.natAbs:=by
 have:=cy (a:=t) hb;unfold gs;split<;>lia
def F7{g x k:Int}(hg:g≠0)(e:x=g*k):x.fdiv g=k:=by
 simp_all
def K6(a b:Int):gi a b ∣ a:=Int.gcd_dvd_left a b
def NK(a b:Int):gi a b ∣ b:=Int.gcd_dvd_right a b
def Vn(hb:b≠0):t.fdiv (gs t b)=(Rat.divInt t b).num:=by
 have l:=KI (a:=t) hb;obtain⟨k,hk⟩:=K6 t b;rw[Rat.num_divInt,Int.gcd_comm b t];show t.fdiv _=b.sign*t / gi t b;unfold gs;generalize gi t b=g at l hk ⊢;rcases Int.lt_or_gt_of_ne hb with h|h
 .rw[if_pos h,Int.sign_eq_neg_one_of_neg h,F7 (k:=-k) AS (by rw[hk];simp[Int.mul_neg,Int.neg_mul]),(show -1*t=g*(-k) by rw[hk];simp[Int.mul_neg]),Int.mul_ediv_cancel_left _ AS]
 .rw[if_neg AS,Int.sign_eq_one_of_pos h,F7 AS hk,Int.one_mul,hk,Int.mul_ediv_cancel_left _ AS]
def Wc(hb:b≠0):b.fdiv (gs t b)=((Rat.divInt t b).den):=by
 have l:=KI (a:=t) hb;obtain⟨k,hk⟩:=NK t b;rw[Rat.den_divInt,if_neg hb,Int.gcd_comm b t,(show(((b.natAbs / Int.gcd t b:Nat)))=b.natAbs / gi t b by rfl)];unfold gs;generalize gi t b=g at l hk ⊢;rcases Int.lt_or_gt_of_ne hb with h|h
 .rw[if_pos h,F7 AS (by rw[Int.neg_mul_neg];exact hk),(show b.natAbs=g*(-k) by grind),Int.mul_ediv_cancel_left _ AS]
 lia
def C6(a b:Int):(a.fdiv b).natAbs<=a.natAbs:=by
 cases a with
 |ofNat n=>
  cases n with
  |zero=>
   simp
  |succ k=>
   cases b with
   |ofNat j=>exact Nat.div_le_self _ j
   |negSucc j=>exact Nat.succ_le_succ (Nat.div_le_self k _)
 |negSucc k=>
  cases b with
  |ofNat j=>
   cases j with
   |zero=>simp
   |succ j=>exact Nat.succ_le_succ (Nat.div_le_self k (j+1))
  |negSucc j=>exact Nat.div_le_self _ _
def fq(hb:b≠0):(Rat.divInt t b).den<=b.natAbs:=by
 have h:=C6 b (gs t b);rw[Wc hb]at h
 simp_all
def Qp(p:Rat):(p.den:Int)≠0:=by
 have:=p.den_nz
 lia
def EV p:Rat.divInt p.num p.den=p:=Rat.num_divInt_den p
def sO p q:Rat.divInt (p.num*q.den+q.num*p.den) (p.den*q.den)=p+q:=by
 rw[<-Rat.divInt_add_divInt _ _ (Qp p) (Qp q),EV,EV]
def pq(p q:Rat):(p.den:Int)*q.den≠0:=Int.mul_ne_zero (Qp p) (Qp q)
def ZN{p q:Rat}(l:p.num=q.num)(I:p.den=(q.den:Int)):p=q:=Rat.ext l AS
def Bh{x y:Int}(I:x.natAbs<2^m)(l:y.natAbs<2^n):(x*y).natAbs<2^(m+n):=by
 rw[Int.natAbs_mul,Nat.pow_add];exact Nat.mul_lt_mul'' I l
def Fv(l:x<2^m)(h:m<=n):x<2^n:=aE l (aM AC h)
def Fits(p:Rat)(n:Nat):Prop:=p.num.natAbs<2^n/\p.den<2^n
def Fits.d(h:Fits p n):((p.den:Int)).natAbs<2^n:=by simpa using h.2
def Fits.uZ(hb:b≠0)(I:t.natAbs<2^n)(l:b.natAbs<2^n):Fits (Rat.divInt t b) n :=
 ⟨aP ((by rw[<-Vn hb];exact C6 _ _)) I,Nat.lt_of_le_of_lt (fq hb) l⟩
end FM
namespace FM
def ZG a b:Int.gcd (if a<0 then -a else a) (if b<0 then -b else b)=Int.gcd a b:=by
 split<;>split<;>simp
def abs_nonneg a:0<=(if a<0 then -a else a):=by lia
def iG(h:Int.gcd g 0=Int.gcd a b)(h0:0<=g):g=gi a b:=by
 unfold gi;rw[<-h,Int.gcd_zero_right]
 lia
def fmod_nonneg{g l:Int}(I:l≠0)(h:0<=l):0<=g.fmod l:=Int.fmod_nonneg_of_pos g AS
end FM
namespace L2
open PySem PySem.Spec PyProof.Rows
structure Fn(K:Fg)(mg:Str->Option Value)(x:Str)(st:Stmt)(ps:List Str)(f:Addr)(fd:FuncData):Prop where
 F:UA K x x st f fd
 b:Binds K fd ps []
 m:mg x=some (.ref f)
section
variable{X:Cx}{k:Nat}{f:AD}{fd:F0a}{ps:AAT}{sp:Sp}{x:Str}{st:Stmt}{p pos:Pos}{e:Expr}{es:AAU}{t:TA}
def EJ(T:Fn X.K X.mg x st ps f fd)(G:Ah X.prog X.w X.K X.mg X.base Ag k f fd ps sp)(M:Bq k X.A)(hg:Gl X x)(ha:PA X (e::es) t) (I:IN=false:=by decide)(U:starEach (e::es) X.env=Fj::starEach es X.env:=by rfl)(l:(backTo pos OR).any Fk=false:=by rfl):PE X Cl (VJ sp [] E0 t):=Y2 G M hg T.m T.F.kp T.b .nil (fun _ _ _ _ _ _ _ h=>h.elim) ha I U l
end
def Po(P:St->Hp->Prop)(I:∀nx ,(∀σ' H',P σ' H'->nx σ' H')->t {D with nx:=nx} σ H)(l:∀σ' H',P σ' H'->u D σ' H'):rL t u D σ H:=I _ l
def mr:2<=sizeLine:=by decide
def Aj(h:H p=none) o:AI H (upd H p o):=fun b u q=>by rw[AM (Af q h)];exact q
def SameBut(l:AD)(H H':Hp):Prop:=∀b o,b≠l->H b=some o->H' b=some o
def SameBut.of(h:AI H H'):SameBut l H H':=fun b o _ q=>h b o q
def SameBut.trans(a:SameBut l H M)(b:SameBut l M I):SameBut l H I:=fun c o n h=>b c o n (a c o n h)
theorem SameBut.upd:SameBut l H (upd H l o):=fun b u n q=>by rw[AM n];exact q
def ML(p:Rat):AAf:=[.int p.num,.int p.den]
def Aq(p:Rat):PD:=.tuple [.int p.num,.int p.den]
def S4(I:i.natAbs<2^m)(l:j.natAbs<2^n)(h:m+n<=1000000):cL i j\/VN i j :=
 .inr ⟨m+n,h,FM.Fv I (Nat.le_add_right _ _),FM.Fv l (Nat.le_add_left _ _)⟩
def Cz.get(x:Cz P w H h a o):∃u,h.get? a=some u:=by
 cases o with
 |lst xs=>obtain⟨_,_,_,_,e⟩:=x;exact⟨_,e⟩
 |tup xs=>obtain⟨_,_,_,o,e,_⟩:=x;exact⟨o,e⟩
 |dK kvs=>obtain⟨_,_,_,_,o,_,_,e,_⟩:=x;exact⟨o,e⟩
 |dT kvs=>obtain⟨_,_,_,_,o,_,_,e,_⟩:=x;exact⟨o,e⟩
 |set S n=>obtain⟨o,_,_,_,e,_⟩:=x;exact⟨o,e⟩
 |ins C dx fs=>obtain⟨_,_,_,e,_⟩:=x;exact⟨_,e⟩
 |own y=>assumption
 |xd fs=>obtain⟨_,⟨o,_,_,e,_⟩,_⟩:=x;exact⟨o,e⟩
 |mV lo hi=>obtain⟨_,_,_,e⟩:=x;exact⟨_,e⟩
 |En ob u=>obtain⟨e,_⟩:=x;exact⟨_,e⟩
 |PL ps=>exact⟨_,x⟩
 |met f y=>exact⟨_,x⟩
 |ext φ=>obtain⟨_,⟨o,e⟩,_⟩:=x;exact⟨o,e⟩
structure cH(P:Program)(w:World)(outer:List Env)(H:Hp)(s:Shared)(ea:Addr)(cls a0:Value)(H':Hp)(s':Shared)(B:Heap):Prop where
 os:s'.os=s.os
 bare:AllBare s'.gens
 rO:Heap.FlyingW B outer ea cls a0 s'.heap
 keep:∀b o,s.heap.get? b=some o->H b=none->b ∉ GG outer->B.get? b=some o
 there:∀b o,s.heap.get? b=some o->b ∉ GG outer->∃o',B.get? b=some o'
 slot:∀b o,s.heap.get? b=some o->b∈GG outer->∃sl,s'.heap.get? b=some {o with slots:=sl}
 free:∀b o,s.heap.get? b=some o->H b=none->H' b=none
 Bi:∀b xs,H b=some KK->H' b=some KK
 FK:∀b o u,H b=some (.En o u)->H' b=some (.En o u)
 GN:∀b ps,H b=some (.PL ps)->∃more,H' b=some (.PL (ps++more))
 GP:∀b xs o,H b=some KK->s.heap.get? b=some o->B.get? b=some o
 Ac:DZ P w H' B
 new:s.heap.get? ea=none
def CP(P:F0b)(w:F0c):Jo:=fun outer H s E e s'=>∃ea cls a0 H' B,e=.ref ea/\cH P w outer H s ea cls a0 H' s' B/\E cls none H'
def Pc{base h:Heap}(F:h.FunFrames base l)(hb:b∈GG l):∃o,h.get? b=some o/\∀vs,o.data≠.fields vs:=(F.mem hb).2
section
variable{P:F0b}{w:F0c}{K:Fg}{mg:AAO}{base:Heap}{N:AAT}{qual:Str}{scope:Scope}{f:AD}{cd:VL}{A:F0d}{outer:List Env}{s:SD}{H:Hp}{E:XK}
def qi{σ:St}(I:Inv (B8 (CP P w) P w K mg base N qual scope f cd A outer s H E) pins σ H1 s1) (Y:Heap.MadeExcOf s1.heap h' ea cls args)(hE:E cls none H1):(B8 (CP P w) P w K mg base N qual scope f cd A outer s H E).xe (.ref ea) {s1 with heap:=h'}:=by
 have M:∀b o,s.heap.get? b=some o->b≠s.heap.objs.size:=fun b o e=>aL (aH e);have out:∀b,b≠s.heap.objs.size->b ∉ GG outer->b ∉ (envOfC qual scope s.heap.objs.size f cd::outer).filterMap (·.frame):=fun b h1 h2 hm=>by
  rcases aO.mp (I.NV b hm) with z|z
  .exact h1 z
  .exact h2 z
 have l:∀b u,H1 b=some u->b ∉ (envOfC qual scope s.heap.objs.size f cd::outer).filterMap _:=fun b u e hm=>by
  have:=I.Rx b hm;rw[e]at this;cases this
 refine wpAny_leaves_madeW I.ok.frames rfl (fun b o q=>PySem.W.of_hideAll _ q) (PySem.W.funFrames_hide I.stack (fun env he b hb=>List.mem_filterMap.mpr ⟨env,he,hb⟩)) Y fun h2 t fl _ _ up=>⟨ea,cls,.ref t,H1,_,rfl,⟨I.os,I.bare,fl,fun b o e n hb=>?_,fun b o e hb=>?_,fun b o e hb=>?_,fun b o e n=>I.base.free b o e n (by simp[B8]),I.base.Bi,I.base.FK,I.base.GN,fun b xs o q e=>PySem.W.hideAll_get _ (I.base.GP b xs o q e (by simp[B8])) (l b _ (I.base.Bi b xs q)),(fun b u e=>
  (I.Ac b u e).J4 (fun c v Z q=>PySem.W.hideAll_get _ q (by
   rcases Z with rfl|Z
   .exact l _ _ e
   .exact l _ _ Z)) (fun _ q=>q) fun _ _ q=>q),?_⟩,hE⟩
 .exact PySem.W.hideAll_get _ (I.base.keep b o e n hb (by simp[B8])) (out b (M b o e) hb)
 .obtain⟨o',T⟩:=I.base.there b o e (by simp[B8]);exact⟨o',PySem.W.hideAll_get _ T (out b (M b o e) hb)⟩
 .obtain⟨sl,T⟩:=I.base.slot b o e (I.ok.QR b hb) hb (by simp[B8]);obtain⟨o',e2,hd⟩:=Pc I.HI hb;rw[T]at e2;cases e2;obtain⟨U,e3⟩:=up b _ (Y.keeps _ _ T) hd;exact⟨U,e3⟩
 .cases q:s.heap.get? ea with
  |none=>rfl
  |some o=>
   obtain⟨o',T⟩:=I.base.there ea o q (by simp[B8]);have:=Y.new;rw[T]at this;cases this
def wu(hE:∀c a H',E' c a H'->E c a H'):Passes (CP P w) (B8 (CP P w) P w K mg base N qual scope f cd A outer s H E) E':=by
 intro pins σ H1 s1 e s2 I ⟨ea,cls,a0,H2,B,ee,F,hq⟩;subst ee;have M:∀b o,s.heap.get? b=some o->b≠s.heap.objs.size:=fun b o e=>aL (aH e);have out:∀b,b≠s.heap.objs.size->b ∉ GG outer->b ∉ GG (B8 _ P w K mg base N qual scope f cd A outer s H E).stack:=fun b h1 h2 hm=>by
  rcases aO.mp (I.NV b hm) with z|z
  .exact h1 z
  .exact h2 z
 refine wpAny_leaves_onW I.ok.frames rfl F.rO fun h3 fl up=>⟨ea,cls,a0,H2,B,rfl,⟨F.os.trans I.os,F.bare,fl,fun b o e n hb=>?_,fun b o e hb=>?_,fun b o e hb=>?_,fun b o e n=>?_,fun b xs q=>F.Bi b xs (I.base.Bi b xs q),fun b o u q=>F.FK b o u (I.base.FK b o u q),fun b ps q=>?_,fun b xs o q e=>F.GP b xs o (I.base.Bi b xs q) (I.base.GP b xs o q e (by simp[B8])),F.Ac,?_⟩,hE _ _ _ hq⟩
 .exact F.keep b o (I.base.keep b o e n hb (by simp[B8])) (I.base.free b o e n (by simp[B8])) (out b (M b o e) hb)
 .obtain⟨o',l⟩:=I.base.there b o e (by simp[B8]);exact F.there b o' l (out b (M b o e) hb)
 .obtain⟨sl,l⟩:=I.base.slot b o e (I.ok.QR b hb) hb (by simp[B8]);have U:=by
   show b∈GG (envOfC qual scope s.heap.objs.size f cd::outer);exact aQ _ hb
  obtain⟨sl2,Y⟩:=F.slot b _ l U;obtain⟨o',Z,hd⟩:=Pc I.HI hb;rw[l]at Z;cases Z;obtain⟨T,e4⟩:=up b _ Y hd;exact⟨T,e4⟩
 .obtain⟨o',l⟩:=I.base.there b o e (by simp[B8]);exact F.free b o' l (I.base.free b o e n (by simp[B8]))
 .obtain⟨m1,l⟩:=I.base.GN b ps q;obtain⟨m2,Y⟩:=F.GN b _ l;exact⟨m1++m2,by rw[Y,Array.append_assoc]⟩
 .cases q:s.heap.get? ea with
  |none=>rfl
  |some o=>
   obtain⟨o',l⟩:=I.base.there ea o q (by simp[B8]);have:=F.new;rw[l]at this;cases this
def UA.okW{st}(F:UA K x x st f fd)(S:BX N ps (AZ st))(len:∀vs H Q E,sp vs H Q E->vs.length=ps.length) (l:∀cdv A outer s H vs Q E,Bq k (A.deeper (envOfC x (AZ st) s.heap.objs.size f cdv))->sp vs H Q E ->∃t,Ht (B8 (CP P w) P w K mg base N x (AZ st) f cdv A outer s H E) (CO st) t/\t { nx:=fun _ H'=>Q .BV H',rt:=Q} (start N vs) H):Ah P w K mg base (CP P w) (k+1) f fd ps sp:=by
 obtain⟨oc,od,kV,doc,pm,an,cdv,ct,osl,rfl,lk,M⟩:=F.ex;exact nX lk M S len fun A outer s H vs Q E T I=>l cdv A outer s H vs Q E T I
end
structure Exc(K:Fg)(mg:Str->Option Value)(x:Str)(C:Addr):Prop where
 m:mg x=some Re
 q:PySem.W.excIn K C [.type "ValueError",.type "Exception",.type "BaseException",.type "object"] "ValueError.__new__" = true
def pf{K}{h}{C}{bB}{M}(Mj:K.In h)(I:PySem.W.excIn K C bB M=true):∃T N nm Y bs hd sn sub ab col dd k0 k1 k2 k3 k5 mN,h.get? C=some (excClassObj nm Y C N bs T hd sn sub ab col dd k0 k1 k2 k3 k5 M)/\h.Ns N mN/\mN "__init__" = none/\OwnTail h bB T:=by
 unfold PySem.W.excIn at I;split at I
 .rename_i dd cd sl lk;split at I
  .rename_i C1 T k0 k1 k2 k3 n1 k5 e1 e2;simp at I;obtain⟨⟨⟨⟨⟨y1,y2⟩,y3⟩,y4⟩,U⟩,Z⟩:=I;subst y1 y2;obtain⟨nm,bs,mro,N,Y,hd,sn,sub,ab,col,del⟩:=cd;dsimp only at e1 y3 U Z;subst e1 y3;have e3:sl=#[k0,k1,k2,k3,some (.builtin n1),k5]:=by
    cases sl with
    |mk l=>simp only at e2;rw[e2]
   subst e3;exact⟨T,N,nm,Y,bs,hd,sn,sub,ab,col,dd,k0,k1,k2,k3,k5,_,Mj _ _ lk,.of_isNs (PySem.W.isNs_of_in Mj U),PySem.W.nsMap_none_of_in Mj U Z,PySem.W.tail_of_in Mj y4⟩
  .cases I
 .cases I
section
variable{X:Cx}{x:Str}{C:AD}{np cpos pos:Pos}{e:Expr}{te:TE}{E:XK}
def Lets(X:Cx)(E:XK):Prop:=∀pins (σ:St) H s h' ea cls args,Inv X pins σ H s->Heap.MadeExcOf s.heap h' ea cls args->E cls none H->X.xe (.ref ea) {s with heap:=h'}
def AAC(C:AD)(E:XK)(te:TE):TS:=fun _ σ H=>te σ H fun _ l=>E Re none l
end
def VM(X:Cx)(pins:LE)(σ:St)(E:XK)(e:VL)(s':SD):Prop:=∃H0 s0,Inv X pins σ H0 s0/\CP X.prog X.w X.stack H0 s0 E e s'
abbrev TX:=St->Hp->VK->XK->Prop
def zd(X:Cx)(e:Expr)(t:TX):Prop :=
 ∀pins s (σ:St) H Q E,Inv X pins σ H s->t σ H Q E->wpAny B1 X.A (eval e X.env) (EP X pins σ Q) (VM X pins σ E) s
section
variable{X:Cx}{k:Nat}{f:AD}{fd:F0a}{ps:AAT}{sp:Sp}{x:Str}{st:Stmt}{p pos:Pos}{e:Expr}{es:AAU}{t:TA}
def AAE(sp:Sp)(t:TA):TX:=fun σ H Q E=>t σ H fun vs l=>sp (vs++[]) l Q E
def pM{σ:St}(F:Ah X.prog X.w X.K X.mg X.base (CP X.prog X.w) k f fd ps sp)(T:Bq k X.A)(hb:Binds X.K fd ps []) (I:BH)(r:Vals vs us)(h:sp (vs++[]) H Q E):wpAny B1 X.A (call (.ref f) us) (EP X pins σ Q) (VM X pins σ E) s:=by
 rw[(MN)]at h;have M:=hb s us I.Fq (show(us++[]).length=ps.length by rw[(MN),<-r.length];exact F.len _ _ _ _ h);rw[(MN)]at M;refine wpAny_call (codeAny_mono (F.run X.A X.stack s H _ us vs Q E T I.va M r h) fun r s' l=>?_);cases r with
 |error e=>exact⟨H,s,I,l⟩
 |ok fl=>
  cases fl with
  |ret u=>exact I.after l
  |next=>exact False.elim l
  |brk=>exact False.elim l
  |cont=>exact False.elim l
end
def land{σ:St}(I:Inv X pins σ H0 s0)(F:cH X.prog X.w X.stack H0 s0 ea cls a0 H' s' B) (st:B.StaysIn h')(up:s'.heap.UpToSlots h'):Inv X pins σ H' { s' with heap:=h',toks:=tk}:=by
 have l:∀b o,s0.heap.get? b=some o->b∈GG X.stack->∃sl,h'.get? b=some {o with slots:=sl}:=fun b o e hb=>by
  obtain⟨sl,M⟩:=F.slot b o e hb;obtain⟨o',U,hd⟩:=Pc I.stack hb;rw[e]at U;cases U;obtain⟨T,Y⟩:=up b _ M hd;exact⟨T,Y⟩
 refine I.nL (ch:=[]) F.os ⟨fun b o e n hb _=>st b o (F.keep b o e n hb),fun b o e n hb _=>l b o e hb,fun b o e n _=>F.free b o e n,fun b o e _=>?_,F.Bi,F.FK,F.GN,fun b xs o q e _=>st b o (F.GP b xs o q e)⟩ (F.Ac.kept st) F.bare fun b z=>by simp_all
 by_cases hb:b∈GG X.stack
 .obtain⟨sl,M⟩:=l b o e hb;exact⟨_,M⟩
 .obtain⟨o',M⟩:=F.there b o e hb;exact⟨o',st _ _ M⟩
def Sd(ea:AD)(cls:VL):HO:=.ext fun h=>∃o vs,h.get? ea=some o/\o.cls=cls/\o.data=.fields vs
def xV{X}{σ:St}(I:Inv X pins σ H0 s0)(F:cH X.prog X.w X.stack H0 s0 ea cls a0 H' s' B) (l:Inv X pins σ H' Z)(ho:∃o vs,Z.heap.get? ea=some o/\o.cls=cls/\o.data=.fields vs):H' ea=none/\Inv X pins σ (upd H' ea (Sd ea cls)) Z:=by
 have hn:H' ea=none:=by
  cases q:H' ea with
  |none=>rfl
  |some u=>
   obtain⟨o,e⟩:=(F.Ac ea u q).get;rw[F.rO.2.1]at e;cases e
 have ne:∀b o,s0.heap.get? b=some o->b≠ea:=fun b o e z=>by rw[z,F.new]at e;cases e
 have up:∀b,b≠ea->upd H' ea (Sd ea cls) b=H' b:=fun b z=>AM z;have neT:∀b u,H' b=some u->b≠ea:=fun b u e z=>by rw[z,hn]at e;cases e
 refine⟨hn,l.ok,l.os,l.bare,⟨l.base.keep,l.base.slot,fun b o e n hx=>?_,l.base.there,fun b xs e=>?_,fun b o u e=>?_,fun b ps e=>?_,l.base.GP⟩,l.loc,l.cell,?_,fun y c e=>?_,fun p hp=>?_,fun b u e=>?_,l.len⟩
 .obtain⟨o',M⟩:=I.base.there b o e hx;rw[up b (ne b o' M)];exact l.base.free b o e n hx
 .have:=l.base.Bi b xs e;rw[up b (neT _ _ this)];exact this
 .have:=l.base.FK b o u e;rw[up b (neT _ _ this)];exact this
 .obtain⟨m,M⟩:=l.base.GN b ps e;exact⟨m,by rw[up b (neT _ _ M)];exact M⟩
 .obtain⟨m,⟨o,_,_,e,_⟩,_⟩:=I.loc;rw[up _ (ne _ o e)];exact l.free
 .obtain⟨v,o,M,_⟩:=I.cell y c e;rw[up _ (ne _ o M)];exact l.FR y c e
 .obtain⟨M,Y,U⟩:=l.pin p hp;exact⟨M,by rw[up _ (ne _ _ ((I.pin p hp).1))];exact Y,U⟩
 .by_cases hb:b=ea
  .subst hb;rw[AR]at e;cases e;obtain⟨o,vs,M,Y,U⟩:=ho;exact⟨⟨o,vs,M,Y,U⟩,⟨o,M⟩,fun h1 h2 ⟨o1,T,q1,q2⟩ k=>⟨o1,T,k _ q1,q2⟩⟩
  .rw[up b hb]at e;exact(l.Ac b u e).J4 (fun c v _ q=>q) (fun c q=>by rw[up c (neT _ _ q)];exact q) fun c xs q=>by rw[up c (neT _ _ q)];exact q
structure HE(K:Fg)(C G:Addr)(b:Bool):Prop where
 cl:(PySem.W.clsIn K G).isSome=true
 ty:PySem.W.typeIn K (.ref G)=some (.type "type")
 ex:PySem.W.subIn K (.ref G) (.type "BaseException")=some true
 sub:PySem.W.subIn K Re (.ref G)=some b
def Wr{M:Model}{A:F0d}{E}{s:SD}{K:Fg}{e C G:AD}{l:Obj}{b:Bool}{Q}(X:K.In s.heap)(Z:s.heap.get? e=some l)(hc:l.cls=.ref C)(B:HE K C G b) (h:Q b s):wpAny M A (excMatches (.ref e) (.ref G)) Q E s:=by
 have U:PySem.W.Looks M s.heap (isType (.ref G)) true:=by
  have z:=B.cl;unfold PySem.W.clsIn at z;split at z
  .rename_i c' d' cd' I Y;intro A' Q' E' s' k q;exact Wb (wpAny_loadPart (k _ _ (X _ _ Y)) (aB q))
  .cases z
 have T:PySem.W.Looks M s.heap (typeOf (.ref e)) Re:=hc ▸ (PySem.W.Looks.ld Z).andThen .now
 refine Wb (((PySem.W.looks_typeIn X B.ty).andThen (PySem.W.Looks.of_pure tc_notTuple)).at ?_);refine Wb (aB ?_);refine Wb (Wb (Wb (Wb (U.at ?_))));refine(PySem.W.looks_subIn X B.ex).at ?_;refine aB (aB (Wb (T.at (Wb (Wb (Wb ((PySem.W.looks_subIn X B.sub).at ?_)))))));cases b with
 |true=>
  exact aB (aB (aB h))
 |false=>
  exact aB (aB (aB h))
def Cx.held(X:Cx)(ea:AD):Cx:={X with A:=X.A.mark (some (.ref ea)),calm:=false,xe:=fun _ _=>False}
def Inv.held{σ:St}(I:BH) ea:Inv (X.held ea) pins σ H s :=
 ⟨⟨I.ok.mod,I.ok.kind,I.ok.glob,I.ok.blt,I.ok.above,I.ok.inj,I.ok.has,I.ok.XJ,fun z=>(by cases z),I.ok.frames,I.ok.gy,I.ok.sF,I.ok.bs,I.ok.RH,I.ok.Su,I.ok.Sy,I.ok.HI,I.ok.QR,I.ok.kt⟩,I.os,I.bare,I.base,I.loc,I.cell,I.free,I.FR,I.pin,I.Ac,I.len⟩
def Inv.si{σ:St}(ok:X.Ok)(I:Inv (X.held ea) pins σ H s):Inv X pins σ H s :=
 ⟨ok,I.os,I.bare,I.base,I.loc,I.cell,I.free,I.FR,I.pin,I.Ac,I.len⟩
def y8{σ:St}(I:BH)(hN:X.N.Nodup)(hi:X.N[i]? = some n)
 (hl:X.env.scope.names.lookup n=some .local)(h:∀s',Inv X pins (σ.set i none) H s'->Q () s'):wpAny M A (do bindName X.env n .none;unbindBehindTheSuite X.env n pos) Q E s:=by
 obtain⟨m,hn,hlk⟩:=id I.loc;refine wpAny_nameGoes_keeps hl hn (show _=false by rw[I.ok.kind];rfl) fun h' v hn' l=>h _ ?_;have hiS:i<σ.length:=by rw[I.len];exact(aD.mp hi).1
 refine⟨I.ok,I.os,I.bare,⟨fun b o e n hb T=>?_,fun b o e n hb T=>?_,I.base.free,fun b o e T=>?_,I.base.Bi,I.base.FK,I.base.GN,fun b xs o q e T=>(l.2 b (aL (aE (aH e) I.ok.above))).trans (I.base.GP b xs o q e T)⟩,⟨_,hn',fun j y v' Y Z e3=>?_⟩,fun y c e=>?_,I.free,I.FR,fun p hp=>?_,(fun b ob e=>(I.Ac b ob e).J4 (fun c w' U q=>(l.2 c (by
  rintro rfl;rcases U with U|U
  .rw[<-U,I.free]at e;cases e
  .rw[I.free]at U;cases U)).trans q) (fun _ q=>q) fun _ _ q=>q),by simpa using I.len⟩
 .exact(l.2 b (aL (aE (aH e) I.ok.above))).trans (I.base.keep b o e n hb T)
 .obtain⟨sl,Y⟩:=I.base.slot b o e n hb T;exact⟨sl,(l.2 b (aL (aE (aH e) I.ok.above))).trans Y⟩
 .obtain⟨o',Y⟩:=I.base.there b o e T;exact⟨o',(l.2 b (aL (aE (aH e) I.ok.above))).trans Y⟩
 .by_cases hj:j=i
  .subst hj;rw[List.getElem?_set_self hiS]at Z;cases Z
  .rw[List.getElem?_set_ne (Ne.symm hj)]at Z;obtain⟨u',r',q⟩:=hlk j y v' Y Z e3;refine⟨u',r',?_⟩;rcases q with ⟨k,e⟩|⟨k,c,e,z⟩
   .refine .inl ⟨k,?_⟩;simp[(show y≠n from fun e=>hj (P9 hN Y (e ▸ hi))),e]
   .exact .inr ⟨k,c,e,z.sameBut l (I.Qg y c e)⟩
 .obtain⟨w',z⟩:=I.cell y c e;exact⟨w',z.sameBut l (I.Qg y c e)⟩
 .obtain⟨e,n',ne,nf,d⟩:=I.pin p hp;exact⟨(l.2 p.1 ne).trans e,n',ne,nf,d⟩
open PySem PySem.Spec PyProof.Rows PySem.Builtin.ObjectAttr PySem.Builtin.Getset_descriptor
structure DQ(K:Fg)(C:Addr):Prop where
 cl:(PySem.W.clsIn K C).isSome=true
 ga:PySem.W.findIn K Re "__getattribute__" = some (some (.builtin "BaseException.__getattribute__"))
 gh:PySem.W.findIn K Re "__getattr__" = some none
 at_:PySem.W.findIn K Re "__class__" = some (some (.builtin "object.__class__"))
 gt:PySem.W.specialIn K (.builtin "object.__class__") "__get__" = some (some (.builtin "getset_descriptor.__get__"))
 tk:PySem.W.takesIn K (.builtin "object.__class__")=some true
 ob:PySem.W.mroIn K C (.type "object")=some true
 be:PySem.W.mroIn K C (.type "BaseException")=some true
def excAt(x C:AD)(h:Heap):Prop:=∃o vs,h.get? x=some o/\o.cls=.ref C/\o.data=.fields vs
def excAt.ty(p:excAt x C h) M:PySem.W.Looks M h (typeOf (.ref x)) Re:=let⟨o,_,e,c,_⟩:=p;c ▸ (PySem.W.Looks.ld e).andThen .now
def kN{K}(X:K.In h)(z:(PySem.W.clsIn K C).isSome=true) M:PySem.W.Looks M h (isType Re) true:=by
 unfold PySem.W.clsIn at z;split at z
 .rename_i Y U T l I;intro A' Z E' s' k q;exact Wb (wpAny_loadPart (k _ _ (X _ _ I)) (aB q))
 contradiction
section
variable{prog:F0b}{w:F0c}{A:F0d}{E:AAN}{K:Fg}{x C:AD}{h:Heap}{g:Array GenState}{d:Drawn}{t:Nat}{os:OsState}
def jE(X:K.In h)(F:DQ K C) M:PySem.W.Looks M h (find (.ref x) Re "__class__") (.bind (.builtin "getset_descriptor.__get__") (.builtin "object.__class__")):=(PySem.W.looks_findIn X F.at_).andThen ((PySem.W.looks_specialIn X F.gt).andThen ((show PySem.W.Looks M h _ (some (.builtin "getset_descriptor.__get__",.builtin "object.__class__")) from(PySem.W.looks_takesIn X F.tk).andThen .now).andThen (PySem.W.Looks.tag .now)))
def oB{tp:VL}(X:K.In h)(F:DQ K C)(p:excAt x C h)(l:R (.ok (.ret Re)) ⟨h,g,d,t,os⟩):codeAny As A (.call (.builtin "getset_descriptor.__get__") ⟨[.builtin "object.__class__",.ref x,tp],[]⟩) R ⟨h,g,d,t,os⟩:=by
 have b0:=p.ty As;have b1:=PySem.W.looks_mroIn (M:=model prog w) X F.ob;refine codeAny_call_builtin PySem.W.KF.slot_gs.plain PySem.W.KF.entry_gs (PySem.W.KF.slot_gs.check _ _ _ _ _ _ _ _ PySem.W.KF.type_class (PySem.W.KF.args_gs _ _ _) (Wb (aB ?_)));unfold descrGetter descrCheckInstance descrNameAndClass isInstance;simp only[PySem.W.KF.owner_class]
 repeat lk
 refine⟨Code.quiet_builtin _ (by decide +kernel),codeAny_builtin PySem.W.KF.entry_class ?_⟩
 repeat lk
 exact l
def gQ(X:K.In h)(F:DQ K C)(p:excAt x C h)(l:Q (.done (.ret Re)) ⟨h,g,d,t,os⟩):wpAny As A (Builtin.«object.__getattribute__» ⟨[.ref x,.str "__class__" tk],[]⟩) Q E ⟨h,g,d,t,os⟩:=by
 have b0:=p.ty As;have b1:=jE (x:=x) X F As
 repeat lk
 exact wpAny_run (oB X F p (aB (aB l)))
def gj(X:K.In h)(F:DQ K C)(p:excAt x C h)(I:Q () ⟨h,g,d,t,os⟩):wpAny As A (checkBuiltinCall "BaseException.__getattribute__" ⟨[.ref x,l],[]⟩) Q E ⟨h,g,d,t,os⟩:=by
 have b0:=p.ty As;have b1:=PySem.W.looks_mroIn (M:=model prog w) X F.be;simp only[checkBuiltinCall,(show builtinKind "BaseException.__getattribute__" = some .slot by rfl),(show splitId "BaseException.__getattribute__" = some ("BaseException","__getattribute__") by rfl)]
 repeat lk
 exact I
def eB(X:K.In h)(F:DQ K C)(p:excAt x C h)(l:Q (some Re) ⟨h,g,d,t+1,os⟩):wpAny As A (getAttr? (.ref x) "__class__") Q E ⟨h,g,d,t,os⟩:=Wb (wpAny_mkText (Wb (wpAny_attempt (aT (Wb ((p.ty As).at (Wb ((PySem.W.looks_findIn (M:=model prog w) X F.ga).at (Wb ((PySem.W.looks_findIn X F.gh).at (Wb (wpAny_attempt (aT (wpAny_call (codeAny_call_builtin (PySem.F.excAttr_ValueError).ga.plain PySem.F.entry_bexc_ga (gj X F p (gQ X F p (aB (aB l)))))))))))))))))))
end
def jw{K}(F:DQ K C):PySem.W.KitX K (.ref x) Re (excAt x C) where
 ty:=fun M h _ p=>p.ty M
 it:=fun M h X _=>kN X F.cl M
 ne:=fun h tp dd its n sl X htp=>by
  have z:=F.cl;refine bH.mpr fun q=>?_;have e:=Value.ref.inj (beq_iff_eq.mp q);subst e;unfold PySem.W.clsIn at z;split at z
  .rename_i c' d' cd' sl' ho;cases ((X _ _ ho).symm.trans htp)
  contradiction
 ca:=fun {prog w A E Q s} X p k=>eB X F p k
def D9:V->VL
 |.ref C=>.ref C
 |.ty n=>.type n
 |_=>.none
def YZ(r:RelV c u)(h:D9 c≠.none):u=D9 c:=by
 cases c with
 |ref C=>exact r
 |ty n=>exact r
 |_=>exact absurd rfl h
section
variable{X:Cx}
def yt(K:Fg):List V->Hp->VK->Prop:=fun xs H Q=>∃x c t b,xs=[x,c]/\D9 c≠.none/\Hd K H x t/\PySem.W.kitOne K t (D9 c)=some b/\Q (.bl b) H
def km:C2 X (.builtin "isinstance") (yt X.K):=by
 rintro pins s σ H xs us Q I r ⟨x,c,t,b,rfl,T,ty,e,q⟩;obtain⟨u,v,rfl,M,l⟩:=r.two;rw[YZ l T];exact iX I M ty e fun tk=>⟨.bl b,H,I.tok tk,rfl,q⟩
def vn(K:Fg):List V->Hp->VK->Prop:=fun xs H Q=>∃ea C c b,xs=[.ref ea,c]/\D9 c≠.none/\H ea=some (Sd ea Re)/\DQ K C/\PySem.W.kitOne K Re (D9 c)=some b/\Q (.bl b) H
def fY:C2 X (.builtin "isinstance") (vn X.K):=by
 rintro pins s σ H xs us Q I r ⟨ea,C,c,b,rfl,U,T,F,e,q⟩;obtain⟨u,v,rfl,M,l⟩:=r.two;rw[YZ l U];cases M;obtain⟨p,_,_⟩:=(I.Ac ea _ T);exact au (jw F) I.Fq p e M0 fun tk=>⟨.bl b,H,I.tok tk,rfl,q⟩
end
def za K:PySem.W.kitOne K KM KM=some true:=rfl
def AAH K:PySem.W.kitOne K (.type "int") (.type "int")=some true:=rfl
def zZ K:PySem.W.kitOne K (.type "bool") (.type "bool")=some true:=rfl
def zV K:PySem.W.kitOne K (.type "int") (.type "bool")=some false:=by rfl
def zt K:PySem.W.kitOne K (.type "bool") (.type "int")=some true:=by rfl
def AAJ K:PySem.W.kitOne K (.type "list") KM=some false:=by rfl
def zW K:PySem.W.kitOne K KM (.type "list")=some false:=by rfl
def ze K:PySem.W.kitOne K (.type "list") (.type "list")=some true:=rfl
def AAA K:PySem.W.kitOne K (.type "int") KM=some false:=by rfl
def zg K:PySem.W.kitOne K (.type "bool") KM=some false:=by rfl
def zY K:PySem.W.kitOne K (.type "NoneType") KM=some false:=by rfl
def AAa K:PySem.W.kitOne K (.type "str") KM=some false:=by rfl
def zq K:PySem.W.kitOne K KM (.type "int")=some false:=by rfl
def zw K:PySem.W.kitOne K (.type "list") (.type "int")=some false:=by rfl
def AAZ K:PySem.W.kitOne K (.type "NoneType") (.type "int")=some false:=by rfl
def zf K:PySem.W.kitOne K (.type "str") (.type "int")=some false:=by rfl
def zi K:PySem.W.kitOne K (.type "int") (.type "list")=some false:=by rfl
def AAY K:PySem.W.kitOne K (.type "bool") (.type "list")=some false:=by rfl
def zm K:PySem.W.kitOne K (.type "NoneType") (.type "list")=some false:=by rfl
def AAI K:PySem.W.kitOne K (.type "str") (.type "list")=some false:=by rfl
def freeOk(l:Scope)(names:List (Str×NameKind)):Bool:=names.all fun y=>y.2 != .free||l.names.lookup y.1==some .cell||l.names.lookup y.1==some .free
def Km(h:freeOk l names=true):∀y∈names,y.2=.free->l.names.lookup y.1=some .cell\/l.names.lookup y.1=some .free:=fun y I hf=>by
 have q:=av.mp h y I
 lia
def CV(scope:Scope)(N:AAT)(x:Str)(ix:Nat):Bool :=
 scope.kind==.function&&(scope.names.all fun y=>scope.names.lookup y.1==some y.2)&&(scope.names.lookup x==some .local||scope.names.lookup x==some .cell)&&decide N.Nodup&&N[ix]? == some x
def Eb(h:CV scope N x ix=true):Ig scope/\∀X U cl C s₀ H₀ fp,PG FS (.Name x U) (Cr ix):=by
 unfold CV at h;simp only[Bool.and_eq_true,beq_iff_eq,decide_eq_true_eq,List.all_eq_true,Bool.or_eq_true]at h;obtain⟨⟨⟨⟨h1,T⟩,l⟩,h4⟩,Z⟩:=h;refine⟨⟨h1,fun y I M=>M ▸ T y I,fun y I M=>M ▸ T y I,fun y I M=>M ▸ T y I⟩,fun X U cl C s₀ H₀ fp=>?_⟩;rcases l with l|l
 .have Y:(relabel scope X.env).names.lookup x=some .local:=lookup_relabel_local l;exact Df h4 Z (.inl Y) (.inr Y)
 .exact Df h4 Z (.inr (Nj l)) (.inl (decide_eq_true l))
def UQ:∀v σ H Q,Cr ix v σ H Q->Cr ix v σ H fun σ' H'=>Q σ' H'/\∀u,Cr ix u σ'=Cr ix u σ:=fun v σ H Q h=>⟨h,fun u=>by unfold Cr;simp⟩
section
variable{X:Cx}{elt iter:Expr}{x:Str}{px pos:Pos}{ifs:AAU}{scope:Scope}{wi:TI}{tif:TT}{te:TE}
def IJ N ix fr (hi:PI X (.Name x px) iter wi) (l:∀cl C s₀ H₀ fp,Vk FS ifs tif) (M:∀cl C s₀ H₀ fp,PE FS elt te) (h1:CV scope N x ix=true:=by decide +kernel) (Z:X.calm=true:=by rfl) (Y:Iy N X.N scope X.env.scope fr 0=true:=by rfl) (U:fr.length=N.length:=by rfl) (T:freeOk X.env.scope scope.names=true:=by rfl) (I:∀x,foldedSetIterable iter X.env x=pure x:=by intro _;rfl):PE X (.ListComp elt [⟨.Name x px,iter,ifs,0⟩] scope pos) (w6 wi fr ix tif te) :=
 let⟨a,b⟩:=Eb h1
 SJ a Z UQ (b X px) Y U (Km T) hi l M I
end
section
variable{X:Cx}{k:Nat}{f:AD}{fd:F0a}{ps:AAT}{sp:Sp}{x:Str}{st:Stmt}{p pos:Pos}{e:Expr}{es:AAU}{t:TA}{E:XK}
def WX(T:Fn X.K X.mg x st ps f fd)(G:Ah X.prog X.w X.K X.mg X.base (CP X.prog X.w) k f fd ps sp)(M:Bq k X.A)(hg:Gl X x)(Y:Passes (CP X.prog X.w) X E)(ha:PA X (e::es) t) (I:IN=false:=by decide)(U:starEach (e::es) X.env=Fj::starEach es X.env:=by rfl)(l:(backTo pos OR).any Fk=false:=by rfl):PE X Cl (VJ sp [] E t):=Y2 G M hg T.m T.F.kp T.b .nil Y ha I U l
end
end L2
inductive Tr where
 |nil
 |cons (b r:Tr)
 deriving DecidableEq
abbrev AAg:=List Tr
namespace Tr
def bs:Tr->List Tr
 |.nil=>[]
 |.cons b r=>b::r.bs
def of:List Tr->Tr
 |[]=>.nil
 |b::r=>.cons b (of r)
theorem VT:∀t ,of t.bs=t
 |.nil=>rfl
 |.cons b r=>by rw[bs,of,VT r]
theorem nJ:∀l ,(of l).bs=l
 |[]=>rfl
 |b::r=>by rw[of,bs,nJ r]
def vN{t u:Tr}(h:t.bs=u.bs):t=u:=by rw[<-VT t,h,VT]
def len:Tr->Nat
 |.nil=>0
 |.cons _ r=>r.len+1
theorem Ic:∀t:Tr,t.bs.length=t.len
 |.nil=>rfl
 |.cons _ r=>by rw[bs,(FU),Ic r,len]
def Fy:Tr->Nat
 |.nil=>1
 |.cons b r=>b.Fy+r.Fy
def deep:Tr->Nat
 |.nil=>0
 |.cons b r=>max (b.deep+1) r.deep
def lt:Tr->Tr->Bool
 |.nil,.nil=>false
 |.nil,.cons _ _=>true
 |.cons _ _,.nil=>false
 |.cons b r,.cons c q=>if b=c then lt r q else lt b c
theorem lt_irrefl:∀t ,lt t t=false
 |.nil=>rfl
 |.cons b r=>by rw[lt,if_pos rfl];exact lt_irrefl r
theorem lt_trans:∀a b c ,lt a b=true->lt b c=true->lt a c=true
 |.nil,.nil,_,h,_=>by cases h
 |.nil,.cons _ _,.nil,_,h=>by cases h
 |.nil,.cons _ _,.cons _ _,_,_=>rfl
 |.cons _ _,.nil,_,h,_=>by cases h
 |.cons _ _,.cons _ _,.nil,_,h=>by cases h
 |.cons a r,.cons b s,.cons c t,I,l=>by
  rw[lt]at I l ⊢;by_cases U:a=b
  .subst U;rw[if_pos rfl]at I;by_cases M:a=c
   .subst M;rw[if_pos rfl]at l ⊢;exact lt_trans r s t I l
   simp_all
  .rw[if_neg U]at I;by_cases M:b=c
   .simp_all
   .rw[if_neg M]at l;have T:=lt_trans a b c I l;by_cases Y:a=c
    .subst Y;rw[lt_irrefl]at T;cases T
    simp_all
theorem D3:∀a b ,lt a b=false->lt b a=false->a=b
 |.nil,.nil,_,_=>rfl
 |.nil,.cons _ _,h,_=>by cases h
 |.cons _ _,.nil,_,h=>by cases h
 |.cons a r,.cons b s,I,l=>by
  rw[lt]at I l;by_cases e:a=b
  .subst e;rw[if_pos rfl]at I l;rw[D3 r s I l]
  .rw[if_neg e]at I;rw[if_neg (Ne.symm e)]at l;exact absurd (D3 a b I l) e
def IU a b c (h:lt a c=true):lt a b=true\/lt b c=true:=by
 cases I:lt a b with
 |true=>simp
 |false=>
  right
  cases l:lt b a with
  |true=>exact lt_trans b a c l h
  |false=>rw[<-D3 a b I l];exact h
def lt_asymm(h:lt a b=true):lt b a=false:=by
 cases l:lt b a with
 |false=>rfl
 |true=>have:=lt_trans a b a h l;rw[lt_irrefl]at this;contradiction
def ins(x:Tr):List Tr->List Tr
 |[]=>[x]
 |y::r=>if lt x y=true then y::ins x r else x::y::r
def GV:List Tr->List Tr
 |[]=>[]
 |x::r=>ins x (GV r)
end Tr
namespace TH
open PySem PyProof.Rows PySem.SeqAt
def Vs(h:Heap):Tr->List VL->Prop
 |.nil,us=>us=[]
 |.cons b r,us=>∃(a:AD) (l rest:List VL),us=.ref a::rest/\h.IsTuple a l.toArray/\Vs h b l/\Vs h r rest
theorem Vs.length:∀ {t} {us},Vs h t us->us.length=t.len
 |.nil,us,e=>by rw[e];rfl
 |.cons b r,us,e=>by
  obtain⟨a,l,rest,rfl,_,_,q⟩:=e;rw[(FU),Tr.len,Vs.length q]
def JL{h:Heap}(I:h.IsTuple a x)(l:h.IsTuple a y):x=y:=by
 obtain⟨o,e,_,n,d⟩:=I;obtain⟨o',T,_,M,U⟩:=l
 lia
theorem Vs.inj:∀ {t u} {us},Vs h t us->Vs h u us->t=u
 |.nil,.nil,_,_,_=>rfl
 |.nil,.cons _ _,us,e,f=>by
  obtain⟨_,_,_,f,_⟩:=f;rw[e]at f;contradiction
 |.cons _ _,.nil,us,e,f=>by
  obtain⟨_,_,_,e,_⟩:=e;rw[f]at e;contradiction
 |.cons b r,.cons c q,us,e,f=>by
  obtain⟨a,Y,rest,rfl,h1,h2,Z⟩:=e;obtain⟨a',I,l,e',U,T,M⟩:=f;cases e';have e2:=by simpa using (JL h1 U)
  subst e2;rw[Vs.inj h2 T,Vs.inj Z M]
theorem dF{s:SD}:∀(t u:Tr) (A:F0d) (us vs:List VL),Vs s.heap t us->Vs s.heap u vs->A.units+t.deep<=cLine ->
  ∀j (Y:j<us.length) (U:j<vs.length),EqAt A s us[j] vs[j] (decide (t.bs[j]? = u.bs[j]?))
 |.nil,u,A,us,vs,e,f,_,j,Y,U=>by
  rw[Vs]at e;subst e;exact absurd Y (bI _)
 |.cons b r,.nil,A,us,vs,e,f,_,j,Y,U=>by
  rw[Vs]at f;subst f;exact absurd U (bI _)
 |.cons b r,.cons c q,A,us,vs,e,f,hu,j,Y,U=>by
  obtain⟨a,I,rest,rfl,k1,k2,k3⟩:=e;obtain⟨a',l,M,rfl,l1,Z,l3⟩:=f;have hd:(Tr.cons b r).deep=max (b.deep+1) r.deep:=rfl;cases j with
  |zero=>
   show EqAt A s Jc (.ref a') (decide (some b=some c));by_cases ea:a=a'
   .subst ea;have:=JL k1 l1;have e2:I=l:=by simpa using this
    subst e2;rw[Vs.inj k2 Z,decide_eq_true rfl];exact EqAt.same _
   .refine EqAt.of_refs ea ?_;have key:=RcAt.tuples (s:=s) (A:=A) k1 l1 AS fun j x1 x2=>by
     simpa using (dF b c A.in1 I l k2 Z AS j (by simpa using x1) (by simpa using x2))
    have ev:((List.range (min I.toArray.size l.toArray.size)).all (fun j=>decide (b.bs[j]? = c.bs[j]?))&&I.toArray.size==l.toArray.size)=decide (some b=some c):=by
     rw[(show I.toArray.size=b.bs.length by rw[Tr.Ic,<-Vs.length k2];simp),(show l.toArray.size=c.bs.length by rw[Tr.Ic,<-Vs.length Z];simp)];by_cases T:b=c
     .subst T;simp
     .rw[decide_eq_false (fun z=>T (ag z))];cases hl:b.bs.length==c.bs.length with
      |false=>rw[Bool.and_false]
      |true=>
       rw[Bool.and_true];refine bH.mpr fun z=>T (Tr.vN (bX fun i=>?_));by_cases hi:i<b.bs.length
       .simpa using (av.mp z i (bL.mpr AS))
       .rw[List.getElem?_eq_none AS,List.getElem?_eq_none AS]
    rw[ev]at key;exact key
  |succ j=>
   exact dF r q A rest M k3 l3 AS j (by simpa using Y) (by simpa using U)
def W0(T:s.heap.IsTuple a I.toArray)(k1:Vs s.heap t I)(M:s.heap.IsTuple b l.toArray)(k2:Vs s.heap u l)(U:A.units+t.deep<cLine):EqAt A s Jc (.ref b) (decide (t=u)):=by
 simpa[Tr.bs]using (dF (.cons t .nil) (.cons u .nil) A [.ref a] [.ref b] ⟨a,I,[],rfl,T,k1,by rfl⟩ ⟨b,l,[],rfl,M,k2,by rfl⟩ Ev 0 BY BY)
section
open PySem.AutoSeq1 (wpAny_loadPart')
open PySem.MeetsSeq PySem.MeetsSeq2 PySem.MeetsSeq3
abbrev Q8(b:Bool)(t u:Tr):Bool:=if b=true then Tr.lt u t else Tr.lt t u
abbrev mJ(b:Bool):CmpOp:=if b=true then .Gt else .Lt
def kn:Q8 b (.cons t x) (.cons u y)=if t=u then Q8 b x y else Q8 b t u:=by
 cases b
 .rfl
 .show Tr.lt _ _=_;rw[Tr.lt]
  lia
def de(h:t=.nil\/u=.nil):Tr.lt t u=decide (t.len<u.len):=by
 rcases h with rfl|rfl
 .cases u<;>simp[Tr.lt,Tr.len]
 .cases t<;>simp[Tr.lt,Tr.len]
def Ue{bf:Bool}{F:Builtin}(hF:(F=Builtin.«tuple.__lt__»/\bf=false/\mJ bf=.Lt)\/(F=Builtin.«tuple.__gt__»/\bf=true/\mJ bf=.Gt))(n0:Nat)(ih:∀(t u:Tr) (A:F0d) (s:SD) (a b:AD) (its its':AAM),t.deep<n0->s.heap.IsTuple a its.toArray->Vs s.heap t its->s.heap.IsTuple b its'.toArray->Vs s.heap u its'->A.units+t.deep<cLine ->∀(prog:F0b) (w:F0c) (E:AAN) (Q:AAN),Q (.bool (Q8 bf t u)) s->wpAny As A (richCompare (mJ bf) Jc (.ref b)) Q E s) (l b:AD)(items I:Array VL)(n n2:Nat)(dd dd2:Option AD)(sl sl2:Array (Option VL))(t u:Tr)(ht:t.deep<=n0):Meets (F ⟨[.ref l,.ref b],[]⟩) (fun A R s=>s.heap.get? l=some { cls:=.type "tuple",dict:=dd,data:=.seq items n,slots:=sl}/\s.heap.get? b=some { cls:=.type "tuple",dict:=dd2,data:=.seq I n2,slots:=sl2} /\Vs s.heap t items.toList/\Vs s.heap u I.toList/\A.units+t.deep<cLine/\R (.ok (.ret (.bool (Q8 bf t u)))) s):=by
 rcases hF with ⟨rfl,hb0,ho⟩|⟨rfl,hb0,ho⟩
 all_goals
  refine .of_wp fun prog w A R s h=>?_;obtain⟨hp,g,d,tk,os⟩:=s;obtain⟨hl,hb,hi,hj,hun,h⟩:=h;have f2:=AutoSeq1.sub_tuple_tuple;have z1:items.size=t.len:=by rw[<-Vs.length hi];simp
  have z2:I.size=u.len:=by rw[<-Vs.length hj];simp
  wp_walk using wpAny_loadPart' hl,wpAny_loadPart' hb,wpAny_forIn_list _ (fun rest b s'=>b.1=none/\s'=⟨hp,g,d,tk,os⟩/\∃(vs ws:List VL) (U Y:Tr),rest=vs.zip ws /\
   Vs hp U vs/\Vs hp Y ws/\U.deep<=t.deep/\U.len+I.size=Y.len+items.size/\R (.ok (.ret (.bool (Q8 bf U Y)))) ⟨hp,g,d,tk,os⟩) _
  case turn=>
   rintro⟨y,x⟩ rest b s' ⟨hb',rfl,vs,ws,U,Y,hz,T,M,hdp,hlen,Z⟩;cases U with
   |nil=>rw[Vs]at T;subst T;rw[List.zip_nil_left]at hz;cases hz
   |cons bt rt=>
    cases Y with
    |nil=>rw[Vs]at M;subst M;rw[List.zip_nil_right]at hz;cases hz
    |cons bu ru=>
     rw[Vs]at T M;obtain⟨a1,i1,v1,rfl,p1,p2,p3⟩:=T;obtain⟨a2,i2,v2,rfl,q1,q2,q3⟩:=M;rw[List.zip_cons_cons]at hz
     injection hz with hyx hrest
     injection hyx with hy hx
     subst hy hx;have hdd:(Tr.cons bt rt).deep=max (bt.deep+1) rt.deep:=rfl;rw[kn]at Z;simp only[Tr.len]at hlen;have he:=W0 (s:=⟨hp,g,d,tk,os⟩) (A:=A.in1) p1 p2 q1 q2 (by rw[show A.in1.units=A.units+1 from rfl];lia);refine Wb (he prog w _ _ ?_);cases hc:decide (bt=bu) with
     |true=>
      rw[if_pos (ak hc)]at Z
      wp_walk
      exact⟨rfl,rfl,_,_,_,_,hrest,p3,q3,by lia,by lia,Z⟩
     |false=>
      rw[if_neg (bN hc)]at Z;have hri:=ih bt bu A.in1 ⟨hp,g,d,tk,os⟩ a1 a2 i1 i2 AS p1 p2 q1 q2 (by rw[show A.in1.units=A.units+1 from rfl];lia) prog w;rw[ho]at hri
      wp_walk using hri
      exact⟨_,rfl,by simpa using Z⟩
  case fin=>
   rintro⟨b1,b2⟩ s' ⟨hb',rfl,vs,ws,U,Y,hz,T,M,hdp,hlen,Z⟩;simp only at hb';subst hb';have hn:U=.nil\/Y=.nil:=by
    cases U with
    |nil=>exact .inl rfl
    |cons bt rt=>
     cases Y with
     |nil=>exact .inr rfl
     |cons c q=>
      rw[Vs]at T M;obtain⟨_,_,_,rfl,_⟩:=T;obtain⟨_,_,_,rfl,_⟩:=M;rw[List.zip_cons_cons]at hz;cases hz
   rw[hb0]at Z
   first
    |rw[show Q8 false U Y=decide (items.size<I.size) from(de hn).trans (decide_eq_decide.mpr AS)]at Z
    |rw[show Q8 true U Y=decide (I.size<items.size) from(de hn.symm).trans (decide_eq_decide.mpr AS)]at Z
   wp_walk
   exact⟨_,rfl,by simpa[Builtin.Tuple.tupleCompareSizes]using Z⟩
  case h=>
   exact⟨rfl,rfl,items.toList,I.toList,t,u,rfl,hi,hj,Nat.le_refl _,by lia,h⟩
theorem XM(bf:Bool):∀(n0:Nat) (t u:Tr) (A:F0d) (s:SD) (a b:AD) (I l:List VL),t.deep<n0->s.heap.IsTuple a I.toArray->Vs s.heap t I->s.heap.IsTuple b l.toArray->Vs s.heap u l->A.units+t.deep<cLine ->
   ∀(prog:F0b) (w:F0c) (E:VL->SD->Prop) (Q:VL->SD->Prop),Q (.bool (Q8 bf t u)) s->wpAny As A (richCompare (mJ bf) Jc (.ref b)) Q E s
 |0,_,_,_,_,_,_,_,_,h,_,_,_,_,_=>absurd h (bI _)
 |n0+1,t,u,A,s,a,b,I,l,hd,hl,ht,hb,Y,U=>fun prog w E Q h=>by
  obtain⟨⟨cls,dd,data,sl⟩,ho,hc,n,Z⟩:=id hl;obtain⟨⟨cls2,dd2,data2,sl2⟩,M,hc2,n2,T⟩:=id hb;simp only at hc Z hc2 T;subst hc Z hc2 T;have c:=fun {F:Builtin} hF=>Ue (bf:=bf) (F:=F) hF n0 (XM bf n0) a b I.toArray l.toArray n n2 dd dd2 sl sl2 t u AS;cases bf
  .exact richCompare_meets_room (op:=.Lt) ⟨_,ho,rfl⟩ ⟨_,M,rfl⟩ PySem.F.slot_tuple_lt PySem.F.entry_tuple_lt (PySem.F.args_tuple_lt_2 _ _) (c (.inl ⟨rfl,rfl,rfl⟩)) ⟨ho,M,by simpa using ht,by simpa using Y,U,show Value.bool _≠Value.notImplemented/\Q _ s from⟨(fun x=>nomatch x),h⟩⟩ AS
  .exact richCompare_meets_room (op:=.Gt) ⟨_,ho,rfl⟩ ⟨_,M,rfl⟩ PySem.F.slot_tuple_gt PySem.F.entry_tuple_gt (PySem.F.args_tuple_gt_2 _ _) (c (.inr ⟨rfl,rfl,rfl⟩)) ⟨ho,M,by simpa using ht,by simpa using Y,U,show Value.bool _≠Value.notImplemented/\Q _ s from⟨(fun x=>nomatch x),h⟩⟩ AS
abbrev i3:=@Ue false _ (.inl ⟨rfl,rfl,rfl⟩)
abbrev mT:=@XM false
abbrev wN:=@XM true
end
end TH
namespace SM
open PySem.W PyProof.Rows
def Wp(lt:Nat->Nat->Bool)(n:Nat):KasT α->(α->Prop)->Prop
 |.ret a,Q=>Q a
 |.ask i j k,Q=>i<n/\j<n/\Wp lt n (k (lt i j)) Q
theorem Wp.mono{Q I}(l:∀a,Q a->I a):∀t:KasT α,Wp lt n t Q->Wp lt n t I
 |.ret a,h=>l a h
 |.ask i j k,h=>⟨h.1,h.2.1,Wp.mono l _ h.2.2⟩
theorem Wp.bind{Q:β->Prop}:∀t:KasT α,Wp lt n t (fun a=>Wp lt n (f a) Q)->Wp lt n (t.bind f) Q
 |.ret _,h=>h
 |.ask i j k,h=>⟨h.1,h.2.1,Wp.bind _ h.2.2⟩
def Jr(l:j<=p.size) k:(kas_rev p i j).getD k 0=if i<=k/\k<j then p.getD (i+j-1-k) 0 else p.getD k 0:=by
 unfold kas_rev;rw[(XR),(XR),(XR),(getElem?_mirror_all l k)];split<;>rfl
def YN(l:src<p.size)(hd:d<=src) k : (bubble p src d).getD k 0=if k=src-d then p.getD src 0 else if src-d<k/\k<=src then p.getD (k-1) 0 else p.getD k 0:=by
 simp only[Array.getD_eq_getD_getElem?,(getElem?_bubble l d hd k)];split
 .rfl
 .split<;>rfl
section
variable{O:KeyOrd}{key:Nat->O.α}{n:Nat}
def Key(key:Nat->O.α)(p:Array Nat)(i:Nat):O.α:=key (p.getD i 0)
def Up(key:Nat->O.α)(p:Array Nat)(m:Nat):Prop:=∀i j,i<=j->j<m->O.kle (Key key p i) (Key key p j)
def Dn(key:Nat->O.α)(p:Array Nat)(m:Nat):Prop:=∀i j,i<=j->j<m->O.kle (Key key p j) (Key key p i)
structure Pm(n:Nat)(p:Array Nat):Prop where
 perm:p.Perm (List.toArray (List.range n))
 pos:0<n
def Pm.size(h:Pm n p):p.size=n:=by rw[h.perm.size_eq];simp
def Pm.lt(h:Pm n p) i:p.getD i 0<n:=by
 rw[(XR)];by_cases hi:i<p.size
 .rw[Array.getElem?_eq_getElem hi]
  simpa using (h.perm.mem_iff.mp (Array.getElem_mem hi))
 .rw[Array.getElem?_eq_none (Nat.le_of_not_lt ‹_›)];exact h.pos
def Pm.rev(h:Pm n p) i j:Pm n (kas_rev p i j):=⟨(mirror_perm _ _ _ _).trans h.perm,h.pos⟩
theorem Pm.bubble(h:Pm n p) i j:Pm n (bubble p i j):=⟨(bubble_perm _ _ _).trans h.perm,h.pos⟩
abbrev Gp(key:Nat->O.α):Nat->Nat->Bool:=fun i j=>O.blt (key i) (key j)
def Up.one:Up key p 1:=fun i j I l=>by
 have:i=j:=by lia
 subst this;exact bR _
def Up.more(h:Up key p m)(T:1<=m)(hk:O.kle (Key key p (m-1)) (Key key p m)):Up key p (m+1):=fun i j l M=>by
 by_cases e:j=m
 .subst e;by_cases I:i=j
  .subst I;exact bR _
  .exact KeyOrd.kle_trans (h i _ AS AS) hk
 .exact h i j l AS
def Dn.more(h:Dn key p m)(T:1<=m)(hk:O.kle (Key key p m) (Key key p (m-1))):Dn key p (m+1):=fun i j l M=>by
 by_cases e:j=m
 .subst e;by_cases I:i=j
  .subst I;exact bR _
  .exact KeyOrd.kle_trans hk (h i _ AS AS)
 .exact h i j l AS
theorem asc(l:Pm n p):∀f m,1<=m->Up key p m->Wp (Gp key) n (kas_asc p f m) fun r=>m<=r/\r<=m+f/\Up key p r/\(r=m+f\/O.klt (Key key p r) (Key key p (r-1)))
 |0,m,_,h=>⟨aG _,Nat.le_refl _,h,.inl rfl⟩
 |f+1,m,I,h=>by
  refine⟨l.lt _,l.lt _,?_⟩;cases c:Gp key _ _ with
  |true=>exact⟨aG _,Nat.le_add_right _ _,h,.inr c⟩
  |false=>
   exact Wp.mono (fun r M=>by lia) _ (asc l f _ (Nat.succ_pos _) (h.more I c))
def Eq(key:Nat->O.α)(p:Array Nat)(m q:Nat):Prop:=q<m/\∀k,m-(q+1)<=k->k<m->Key key p k=Key key p (m-1)
def rev_eq(h:Eq key p m q)(hm:m<=p.size) k:Key key (kas_rev p (m-(q+1)) m) k=Key key p k:=by
 unfold Key;rw[Jr hm];split
 .exact(h.2 _ AS AS).trans (h.2 k AS AS).symm
 .rfl
theorem desc:∀f p m q,Pm n p->1<=m->m+f<=n->Dn key p m->Eq key p m q->Wp (Gp key) n (kas_desc f p m q) fun r=>Pm n r.1/\m<=r.2.1/\r.2.1<=m+f/\Dn key r.1 r.2.1/\Eq key r.1 r.2.1 r.2.2
 |0,p,m,q,l,_,_,h,e=>⟨l,Nat.le_refl _,Nat.le_refl _,h,e⟩
 |f+1,p,m,q,l,Y,hf,h,e=>by
  refine⟨l.lt _,l.lt _,?_⟩;cases c:Gp key (p.getD m 0) _ with
  |true=>
   have fin:∀M ,Pm n M->(∀k,Key key M k=Key key p k)->Wp (Gp key) n (kas_desc f M (m+1) 0) fun r=>Pm n r.1/\m<=r.2.1/\r.2.1<=m+(f+1)/\Dn key r.1 r.2.1/\Eq key r.1 r.2.1 r.2.2:=fun M T hk=>Wp.mono (fun r I=>⟨I.1,by lia,by lia,I.2.2.2.1,I.2.2.2.2⟩) _ (desc f M (m+1) 0 T AS AS (fun i j U hj=>by rw[hk,hk];exact h.more Y (KeyOrd.kle_of_klt c) i j U hj) (⟨by lia,fun k Y h2=>by rw[show k=m+1-1 by lia]⟩));split
   .exact fin _ (l.rev _ _) (rev_eq e (show m<=p.size by rw[l.size];lia))
   .exact fin _ l fun _=>rfl
  |false=>
   refine⟨l.lt _,l.lt _,?_⟩;cases d:Gp key (p.getD (m-1) 0) (p.getD m 0) with
   |true=>
    exact⟨l,Nat.le_refl _,Nat.le_add_right _ _,h,e⟩
   |false=>
    have Z:Key key p m=Key key p (m-1):=KeyOrd.kle_antisymm d c;refine Wp.mono (fun r I=>⟨I.1,by lia,by lia,I.2.2.2.1,I.2.2.2.2⟩) _ (desc f p (m+1) (q+1) l AS AS (h.more Y (by rw[Z];exact bR _)) ⟨by have:=e.1;lia,fun k h2 h3=>?_⟩);rw[show m+1-1=m by lia,Z];by_cases z:k=m
    .rw[z,Z]
    .exact e.2 k AS AS
def sg(h:Dn key p m)(hm:m<=p.size):Up key (kas_rev p 0 m) m:=fun i j l I=>by
 unfold Key;rw[Jr hm,Jr hm,if_pos ⟨bC _,by lia⟩,if_pos ⟨bC _,by lia⟩];exact h _ _ AS AS
def tail3(l:Pm n p)(M:1<=m)(hm:m<=n)(h:Dn key p m):Wp (Gp key) n (kas_tail3 m n p) fun r=>Pm n r.2/\1<=r.1/\r.1<=n/\Up key r.2 r.1:=Wp.bind _ (Wp.mono (fun r I=>⟨l.rev 0 m,by lia,by lia,I.2.2.1⟩) _ (asc (l.rev 0 m) _ m M (sg h (by rw[l.size];exact hm))))
def descPart(T:Pm n p)(Y:1<=m)(hm:m+1<=n)(h:Dn key p (m+1)):Wp (Gp key) n (kas_descPart m n p) fun r=>Pm n r.2/\1<=r.1/\r.1<=n/\Up key r.2 r.1:=by
 refine Wp.bind _ (Wp.mono (fun r M=>?_) _ (desc _ p _ 0 T AS AS h ⟨by lia,fun k Y Z=>by grind⟩));obtain⟨a,b,c,d,e⟩:=M;have I:r.2.1<=r.1.size:=by rw[a.size];lia
 split
 .refine tail3 (a.rev _ _) AS AS fun i j l U=>?_;rw[rev_eq e I,rev_eq e I];exact d i j l U
 .exact tail3 a AS AS d
def count{p:Array Nat}(l:Pm n p):Wp (Gp key) n (kas_count n p) fun r=>Pm n r.2/\1<=r.1/\r.1<=n/\Up key r.2 r.1:=by
 have hn:=l.pos;unfold kas_count;refine Wp.bind _ (Wp.mono (fun m hm=>?_) _ (asc l (n-1) 1 LK Up.one));obtain⟨U,h2,T,h4⟩:=hm;split
 .exact⟨l,U,by lia,T⟩
 .rename_i Y;have M:m≠n:=by simpa using Y
  have hk:O.klt (Key key p m) (Key key p (m-1)):=by
   rcases h4 with z|z
   .exact absurd AS M
   .exact z
  have hz:m<=p.size:=by rw[l.size];lia
  split
  .refine⟨l.lt _,l.lt _,?_⟩;cases c:Gp key (p.getD 0 0) (p.getD (m-1) 0) with
   |true=>exact⟨l,U,by lia,T⟩
   |false=>
    have all:=fun k I=>KeyOrd.kle_antisymm (T k (m-1) AS AS) (KeyOrd.kle_trans (c) (T 0 k AS I));have ek:∀k,Key key (kas_rev p 0 m) k=Key key p k:=fun k=>by
     by_cases I:k<m
     .rw[(show Key key (kas_rev p 0 m) k=Key key p (0+m-1-k) by
       unfold Key;rw[Jr hz,if_pos ⟨bC _,I⟩]),all _ AS,all k I]
     .unfold Key;rw[Jr hz,if_neg AS]
    refine descPart (l.rev _ _) U AS fun i j Z hj=>?_;rw[ek,ek];by_cases e:j=m
    .subst e;by_cases e2:i=j
     .subst e2;exact bR _
     .rw[all i AS];exact KeyOrd.kle_of_klt hk
    .rw[all i AS,all j AS];exact bR _
  .have:m=1:=by lia
   subst this;refine descPart l U AS fun i j Z hj=>?_;by_cases e:i=j
   .subst e;exact bR _
   .rw[show i=0 by lia,show j=1 by lia];exact KeyOrd.kle_of_klt hk
theorem place{k}(M:Pm n p)(I:Up key p k):∀f l r,l<=r->r<=k->r-l<=f->(∀i,i<l->O.kle (Key key p i) (Key key p k))->(∀i,r<=i->i<k->O.klt (Key key p k) (Key key p i)) ->
  Wp (Gp key) n (kas_place p k f l r) fun x=>x<=k/\(∀i,i<x->O.kle (Key key p i) (Key key p k))/\∀i,x<=i->i<k->O.klt (Key key p k) (Key key p i)
 |0,l,r,h1,T,Z,a,b=>by
  have:l=r:=by lia
  subst this;exact⟨T,a,b⟩
 |f+1,l,r,h1,T,Z,a,b=>by
  unfold kas_place;split
  .have:l=r:=by lia
   subst this;exact⟨T,a,b⟩
  .refine⟨M.lt _,M.lt _,?_⟩;cases c:Gp key _ _ with
   |true=>
    exact place M I f l _ AS AS AS a fun i U Y=>KeyOrd.klt_of_klt_of_kle c (I _ _ U Y)
   |false=>
    exact place M I f _ r AS T AS (fun i U=>KeyOrd.kle_trans (I i _ AS AS) c) b
theorem bin:∀f p k,Pm n p->1<=k->k+f=n->Up key p k->Wp (Gp key) n (kas_bin f p k) fun r=>Pm n r/\Up key r n
 |0,p,k,I,_,hk,h=>by
  have:k=n:=by lia
  subst this;exact⟨I,h⟩
 |f+1,p,k,I,h1,hk,h=>by
  refine Wp.bind _ (Wp.mono (fun l hl=>?_) _ (place I h k 0 k (bC _) LK AS (fun i z=>absurd z AS) fun i Y z2=>absurd Y AS));obtain⟨Z,M,T⟩:=hl;refine bin f _ (k+1) (I.bubble _ _) AS AS fun i j hij hj=>?_;have U:∀x,Key key (PyProof.Rows.bubble p k (k-l)) x=if x=l then Key key p k else if l<x/\x<=k then Key key p (x-1) else Key key p x:=fun x=>by
   unfold Key;rw[YN (show k<p.size by rw[I.size];lia) AS,show k-(k-l)=l by lia];split
   .rfl
   .split<;>rfl
  rw[U,U]
  repeat' split
  all_goals first
   |(exfalso;lia)
   |exact bR _
   |exact M _ AS
   |exact KeyOrd.kle_of_klt (T _ AS AS)
   |exact h _ _ AS AS
def sort(hn:0<n):Wp (Gp key) n (kas_sort n) fun p=>Pm n p/\Up key p n:=by
 refine Wp.bind _ (Wp.mono (fun r l=>?_) _ (count (⟨Array.Perm.refl _,hn⟩)));obtain⟨a,b,c,d⟩:=l;split
 .rw[show max r.1 1=r.1 by lia];exact bin _ _ _ a b (Nat.add_sub_cancel' ‹_›) d
 .rw[(show r.1=n by lia)]at d;exact⟨a,d⟩
end
end SM
namespace Tr
theorem QA x:∀l ,(ins x l).Perm (x::l)
 |[]=>.refl _
 |y::r=>by
  rw[ins];split
  .exact((QA x r).cons y).trans (.swap x y r)
  rfl
theorem L4:∀l ,(GV l).Perm l
 |[]=>.refl _
 |x::r=>(QA x _).trans ((L4 r).cons x)
abbrev R5(l:List Tr):Prop:=l.Pairwise fun a b=>lt a b=false
theorem Ws x:∀l ,R5 l->R5 (ins x l)
 |[],_=>List.pairwise_singleton _ _
 |y::r,h=>by
  obtain⟨T,M⟩:=List.pairwise_cons.mp h;rw[ins];split
  .rename_i c;refine List.pairwise_cons.mpr ⟨fun z I=>?_,Ws x r M⟩;rcases aO.mp ((QA x r).mem_iff.mp I) with rfl|I
   .exact lt_asymm c
   .exact T z I
  .rename_i c;have U:=by simpa using c
   refine List.pairwise_cons.mpr ⟨fun z I=>?_,h⟩;rcases aO.mp I with rfl|I
   .exact U
   .cases e:lt x z with
    |false=>rfl
    |true=>
     rcases IU x y z e with q|q
     .grind
     simp_all
theorem MY:∀l ,R5 (GV l)
 |[]=>List.Pairwise.nil
 |x::r=>Ws x _ (MY r)
theorem LF:∀ {l m},R5 l->R5 m->l.Perm m->l=m
 |[],m,_,_,p=>by simp_all
 |x::r,[],_,_,p=>by simp_all
 |x::r,y::q,U,T,p=>by
  obtain⟨a1,a2⟩:=List.pairwise_cons.mp U;obtain⟨b1,b2⟩:=List.pairwise_cons.mp T;have M:=p.mem_iff.mp aS;have I:=p.mem_iff.mpr aS;have e:x=y:=by
   rcases aO.mp M with e|M
   .assumption
   .rcases aO.mp I with e|I
    .exact Eq.symm ‹_›
    .exact D3 x y (a1 y I) (b1 x M)
  subst e;rw[LF a2 b2 (List.Perm.cons_inv p)]
def di(h:R5 m)(p:m.Perm l):m=GV l:=LF h (MY l) (p.trans (L4 l).symm)
def Qw(h:m.Pairwise fun a b=>lt b a=false)(p:m.Perm l):m=(GV l).reverse:=by
 rw[<-(di (List.pairwise_reverse.mpr h) ((List.reverse_perm m).trans p)),List.reverse_reverse]
theorem ZC n:∀l ,(of l).deep<=n ↔ ∀c∈l,c.deep+1<=n
 |[]=>by simp[of,deep]
 |b::r=>by
  rw[of,deep,List.forall_mem_cons,<-ZC n r]
  lia
def ord:PyProof.Rows.KeyOrd where
 α:=Tr
 blt:=lt
 irrefl:=lt_irrefl
 trans:=lt_trans
 negTrans:=IU
 total:=D3
end Tr
namespace TH
open PySem PySem.W PyProof.Rows PySem.SeqAt
theorem Vs.at:∀ {t} {us} {i},Vs h t us->i<us.length->∃(a:AD) (l:List VL) (c:Tr),us.getD i Value.none=.ref a/\h.IsTuple a l.toArray/\Vs h c l/\t.bs[i]? = some c/\c.deep<t.deep
 |.nil,us,i,e,hi=>by subst e;simp_all
 |.cons b r,us,i,e,hi=>by
  obtain⟨a,l,rest,rfl,Z,Y,U⟩:=e;have hd:(Tr.cons b r).deep=max _ r.deep:=rfl;cases i with
  |zero=>exact⟨a,l,b,rfl,Z,Y,rfl,by lia⟩
  |succ i=>
   obtain⟨a',I,c,q1,T,M,q4,q5⟩:=Vs.at U (by simpa using hi);exact⟨a',I,c,by assumption,T,M,by assumption,by lia⟩
section
variable{prog:F0b}{w:F0c}{A:F0d}{E:AAN}{s:SD}{t u:Tr}{a b:AD}{its its':AAM}{Q:Bool->SD->Prop}
def Y3(M:s.heap.IsTuple a its.toArray)(k1:Vs s.heap t its)(I:s.heap.IsTuple b its'.toArray)(k2:Vs s.heap u its')(l:A.units+t.deep<cLine)(h:Q (Tr.lt t u) s):wpAny As A (oneLt' false Jc (.ref b)) Q E s:=Wb (mT _ t u A s a b its its' (bK _) M k1 I k2 l prog w E _ (bV h))
def qx(h1:s.heap.IsTuple a its.toArray)(k1:Vs s.heap t its)(h2:s.heap.IsTuple b its'.toArray)(k2:Vs s.heap u its')(hu:A.units+t.deep<cLine)(h:Q (Tr.lt t u) s):wpAny As A (oneLt' true Jc (.ref b)) Q E s:=by
 refine Wb (wpAny_cRoomFor AS ?_);obtain⟨⟨cls,dd,data,sl⟩,T,hc,n,U⟩:=id h1;obtain⟨⟨cls2,Z,data2,I⟩,M,Y,n2,l⟩:=id h2;subst hc U Y l;refine Wb (wpAny_callSpecialIfBound?_slot ⟨_,T,rfl⟩ PySem.F.slot_tuple_lt (call_meets PySem.F.slot_tuple_lt ⟨_,T,rfl⟩ PySem.F.entry_tuple_lt (PySem.F.args_tuple_lt_2 _ _)
  (i3 t.deep (mT t.deep) a b its.toArray its'.toArray n n2 dd Z sl I t u LK) ⟨T,M,by lia,by lia,hu,?_⟩))
 exact bV h
theorem Yi:∀t u us vs i,Vs s.heap t us->Vs s.heap u vs->A.units+t.deep<=cLine->Q (Tr.lt t u) s->KatLex prog w A false (decide (t.len<u.len)) Q (us.zip vs) i s
 |.nil,.nil,us,vs,i,e,f,_,h=>by
  subst e;exact kat_nil h
 |.nil,.cons c q,us,vs,i,e,f,_,h=>by
  subst e;exact h
 |.cons b r,.nil,us,vs,i,e,f,_,h=>by
  subst f;rw[List.zip_nil_right];exact h
 |.cons b r,.cons c q,us,vs,i,e,f,hu,h=>by
  obtain⟨a,its,rest,rfl,Y,U,k3⟩:=e;obtain⟨a',its',I,rfl,T,M,Z⟩:=f;have hd:(Tr.cons b r).deep=max _ r.deep:=rfl;rw[show decide _=decide (r.len<q.len) from by simp[Tr.len]];rw[Tr.lt]at h;refine kat_cons (W0 Y U T M AS prog w _ _ ?_);by_cases l:b=c
  .rw[decide_eq_true l];rw[if_pos l]at h;exact kat_yes (Yi r q rest I _ k3 Z AS h)
  .rw[decide_eq_false l];rw[if_neg l]at h;exact kat_no (Y3 Y U T M AS h)
def qE(Y:s.heap.IsTuple a its.toArray)(k1:Vs s.heap t its)(U:s.heap.IsTuple b its'.toArray)(k2:Vs s.heap u its')(hu:A.units+t.deep<cLine)(h:Q (Tr.lt t u) s):wpAny As A (keyLt' (tuples' false) Jc (.ref b)) Q E s:=by
 obtain⟨o,M,hc,n,hd⟩:=id Y;obtain⟨Z,l,T,n2,I⟩:=id U;refine kat_lt M hd l I ?_;rw[(show its.toArray.size=t.len by rw[<-Vs.length k1];simp),(show its'.toArray.size=u.len by rw[<-Vs.length k2];simp)];exact Yi t u its its' 0 k1 k2 (aa ‹_›) h
def Xx(κ:SortKind):Prop:=κ=general'\/κ=oneType'\/κ=tuples' false
def p8(l:Xx κ)(T:s.heap.IsTuple a its.toArray)(k1:Vs s.heap t its)(M:s.heap.IsTuple b its'.toArray)(k2:Vs s.heap u its')(I:A.units+t.deep<cLine)(h:Q (Tr.lt t u) s):wpAny As A (keyLt' κ Jc (.ref b)) Q E s:=by
 rcases l with rfl|rfl|rfl
 .exact Y3 T k1 M k2 I h
 .exact qx T k1 M k2 I h
 .exact qE T k1 M k2 I h
def LH(T:h.IsTuple a x):Looks M h (typeOf Jc) KM:=let⟨o,l,I,_⟩:=T;I ▸ (Looks.ld l).andThen .now
theorem UN:∀t us {Q},Vs s.heap t us->(∀fs ,(∀v,some v∈fs->Looks M s.heap (typeOf v) KM)->Q fs s)->wpAny M A (us.mapM firstOfTuple') Q E s
 |.nil,us,Q,e,h=>by
  subst e;exact aB (h [] fun _ z=>by cases z)
 |.cons b r,us,Q,e,h=>by
  obtain⟨a,its,rest,rfl,h1,T,h3⟩:=e;obtain⟨o,I,hc,n,hd⟩:=id h1;rw[List.mapM_cons];refine Wb (Wb (Looks.here ((Looks.ld I).andThen .now) ?_));rw[hc];refine Wb (listItems_at I hd (aB (Wb (UN r rest h3 fun fs Z=>aB (h _ fun v Y=>?_)))));rcases aO.mp Y with z|z
  .cases b with
   |nil=>subst T;contradiction
   |cons c q=>
    obtain⟨a',its',l,rfl,U,_⟩:=T;simp at z;subst z;exact LH U
  grind
def SF{Q}(T:∀v∈vs,Looks M s.heap (typeOf v) KM)(h0:vs=[]->Q none s)(U:Q (some KM) s):wpAny M A (oneTypeOnly' vs.toArray) Q E s:=by
 rw[oneTypeOnly'_eq,List.mapM_toArray];refine Wb (Wb (kas_mapM _ (fun v l Y I=>(T v l).here I) (aB ?_)));cases vs with
 |nil=>exact aB (h0 rfl)
 |cons f r=>
  simp;exact aB U
def pK{Q}(e:Vs s.heap t us)(h:∀κ,Xx κ->Q κ s):wpAny M A (keyKind' us.toArray) Q E s:=by
 rw[kat_kind_eq,List.mapM_toArray];refine Wb (Wb (UN t us e fun fs U=>aB ?_));split
 .refine Wb (ax ?_);rw[(show fs.toArray.filterMap id=(fs.filterMap id).toArray by simp)];refine Wb (SF (fun v I=>by grind) (fun _=>?_) ?_)
  .exact aB (h _ (.inr (.inr rfl)))
  .exact aB (h _ (.inr (.inr rfl)))
 .split
  .exact aB (h _ (.inl rfl))
  .refine Wb (SF (fun v I=>by
    obtain⟨i,hi,rfl⟩:=List.getElem_of_mem I;obtain⟨a,its,c,l,T,_⟩:=e.at hi;rw[(Io),List.getElem?_eq_getElem hi]at l;simp at l;rw[l];exact LH T) (fun _=>?_) ?_)
   .exact aB (h _ (.inl rfl))
   .exact aB (h _ (.inr (.inl rfl)))
theorem Xj(l:∀i j C,i<n->j<n->C (lt i j) s->cmp i j C s):∀T:KasT α,SM.Wp lt n T I->T.kasWp cmp (fun a s'=>s'=s/\I a) s
 |.ret a,h=>⟨rfl,h⟩
 |.ask i j k,h=>l i j _ h.1 h.2.1 (Xj l _ h.2.2)
end
end TH
namespace TH
open PySem PySem.W PyProof.Rows PySem.SeqAt
def Vs.keeps(k:∀b o,h.get? b=some o->o.cls=.type "tuple" -> h'.get? b=some o):∀ {t} {us},Vs h t us->Vs h' t us
 |.nil,us,e=>e
 |.cons b r,us,e=>by
  obtain⟨a,l,rest,rfl,⟨o,M,I,hd⟩,U,T⟩:=e;exact⟨a,l,rest,rfl,⟨o,k _ _ M I,I,hd⟩,U.keeps k,T.keeps k⟩
def map_getD{α:Type}(d:α) l:(List.range l.length).map (fun i=>l.getD i d)=l:=by
 refine List.ext_getElem BY fun i M I=>?_;simp[I]
section
def eD b (us:AAM) (hz:us.length<2):(if b=true then((if b=true then(us.toArray.zip us.toArray).reverse else us.toArray.zip us.toArray).map (·.2)).reverse else(if b=true then(us.toArray.zip us.toArray).reverse else us.toArray.zip us.toArray).map (·.2))=us.toArray:=by
 match us,hz with
 |[],_=>simp
 |[x],_=>simp
end
end TH
namespace ET
open PySem
section
variable{prog:F0b}{w:F0c}{A:F0d}{E:AAN}{s:SD}
def next_item(hit:s.heap.IsTupleIter it t i)(U:s.heap.IsTuple t items)(T:items[i]? = some x) (Z:∀h',h'.IsTupleIter it t OK->Heap.SameBut it s.heap h'->Q x {s with heap:=h'}):wpAny As A (Builtin.SmallTypes.nextOf (.ref it)) Q E s:=by
 obtain⟨o,l,Y,hd⟩:=id hit;obtain⟨ol,I,_,nl,M⟩:=U;refine Wb (ae hit.typeIs F.slot_tuple_iterator_next
  (aU F.slot_tuple_iterator_next hit.typeIs F.entry_tuple_iterator_next ?_ (F.args_tuple_iterator_next_1 _)))
 show wpAny _ _ (field _ 0>>=_) _ _ s;refine Wb (az l hd rfl (Wb (az l hd rfl (Wb (bE I M ?_)))));simp only[Int.toNat_natCast,T];exact Wb (wpAny_setField l hd BY (aB ⟨x,rfl,wpAny_pure (Z _ (⟨_,Heap.get?_update_self _ l (Obj.isFreed_of_fields (Obj.data_mapFields hd _)),(Obj.cls_mapFields ..).trans Y,by
  rw[Obj.data_mapFields hd];rfl⟩) (aZ ..))⟩))
def next_end{it t}{i}{items}{Q}(T:A.handled=none)(hit:s.heap.IsTupleIter it t i)(Y:s.heap.IsTuple t items)(U:items[i]? = none) (Z:∀h' e,Heap.ExtBut it s.heap h'->(∃o,h'.get? e=some o/\o.cls=.type "StopIteration")->E (.ref e) {s with heap:=h'}):wpAny As A (Builtin.SmallTypes.nextOf (.ref it)) Q E s:=by
 obtain⟨o,I,hc,hd⟩:=id hit;obtain⟨ol,l,_,nl,M⟩:=Y;refine Wb (ae hit.typeIs F.slot_tuple_iterator_next
  (aU F.slot_tuple_iterator_next hit.typeIs F.entry_tuple_iterator_next ?_ (F.args_tuple_iterator_next_1 _)))
 show wpAny _ _ (field (.ref it) 0>>=_) _ _ s;refine Wb (az I hd rfl (Wb (az I hd rfl (Wb (bE l M ?_)))));simp only[Int.toNat_natCast,U];refine Wb (ax (Wb (wpAny_setField I hd BY (Wb (Wb (m:=firstArgMember _ _) (wpAny_of_eq (by first|rfl|(rfl)) (aj (Wb (wpAny_handled ?_)) (by size_fits))))))))
 first|rw[T]|rw[T]
 exact Wb (aB (wpAny_throw (Z _ _ (((aZ ..).extBut.push _).push _) ⟨_,Heap.get?_push_size _ rfl,rfl⟩)))
end
section
open AutoSeq1 (wpAny_loadPart')
def iC(l:AD)(items:Array VL)(n:Nat)(T:Option AD)(sl:Array (Option VL)):Meets (Builtin.«enumerate.__new__» ⟨[.type "enumerate",.ref l],[]⟩) (fun _ R s=>s.heap.get? l=some { cls:=.type "tuple",dict:=T,data:=.seq items n,slots:=sl} /\R (.ok (.ret (.ref (s.heap.push { cls:=.type "tuple_iterator",data:=.fields #[.ref l,.int 0 0]}).objs.size))) {s with heap:=(s.heap.push { cls:=.type "tuple_iterator",data:=.fields #[.ref l,.int 0 0]}).push { cls:=.type "enumerate",data:=.fields #[.none,.bool false,.ref s.heap.objs.size,rawInt 0,.none,.none]} }) :=
 .of_wp fun prog w A R s h=>by
  obtain⟨Y,g,d,tk,os⟩:=s;obtain⟨I,h⟩:=h;have U:=sub_enumerate;have M:Heap.IsTuple (Shared.heap ⟨Y,g,d,tk,os⟩) l items:=⟨_,I,rfl,n,rfl⟩
  wp_walk using wpAny_loadPart' I
  refine wpAny_stack_any fun st=>aB ?_;split
  .rename_i c _ _ _ _ _;cases (c==Value.type "enumerate")
   .wp_walk using wpAny_loadPart' I,wpAny_pyIter_tuple M
    exact⟨_,rfl,h⟩
   .wp_walk using wpAny_loadPart' I,wpAny_pyIter_tuple M
    exact⟨_,rfl,h⟩
  .wp_walk using wpAny_loadPart' I,wpAny_pyIter_tuple M
   exact⟨_,rfl,h⟩
def gN{s:SD}(Z:s.heap.IsTuple l items) (h:∀h',IsEnum h' Ps s.heap.objs.size 0 .none->h'.IsTupleIter s.heap.objs.size l 0->h'.objs.size=s.heap.objs.size+2 ->(∀b o,s.heap.get? b=some o->h'.get? b=some o)->Q (.ref Ps) {s with heap:=h'}):wpAny As A (call (.type "enumerate") [.ref l]) Q E s:=by
 obtain⟨⟨c,M,dt,sl⟩,U,Y,n,hd⟩:=Z;subst Y hd;refine callType_new F.called_enumerate AC (F.typeCall_enumerate_1 _) (F.newCall_enumerate_1 _) (fun obj=>F.args_object_init_2 obj _) F.entry_enumerate_new
  (iC l items n M sl) ⟨U,?_⟩
 have I:(s.heap.push { cls:=.type "tuple_iterator",data:=.fields #[.ref l,.int 0 0]}).objs.size=s.heap.objs.size+1:=Heap.size_push ..;rw[I];have T:=by
  have:=aR (s.heap.push { cls:=.type "tuple_iterator",data:=.fields #[.ref l,.int 0 0]})
   (o:={ cls:=.type "enumerate",data:=.fields #[.none,.bool false,.ref s.heap.objs.size,rawInt 0,.none,.none]}) rfl
  rw[I]at this;exact this
 refine⟨⟨_,T,rfl⟩,h _ T ⟨_,Heap.get?_push_of_some _ (aR _ rfl),rfl,rfl⟩ (by rw[(LJ),I]) fun b o x=>aF _ (aF _ x)⟩
end
def draws(hh:A.handled=none) it a (its:AAM) (hne:a≠it) :
  Draws prog w A it [it,a] its.length (fun i x=>its[i]? = some x) (fun i h=>h.IsTupleIter it a i/\h.IsTuple a its.toArray) where
 live:=fun i h st=>let⟨o,e,_⟩:=st.1;⟨o,e⟩
 frame:=fun i h h' st k=>let⟨⟨o,e,r⟩,o2,e2,r2⟩:=st;⟨⟨o,k it BY o e,r⟩,o2,k a BY o2 e2,r2⟩
 item:=fun i s Q E hi st hQ=>next_item st.1 st.2 (x:=its[i]) BY fun h' st' sb=>
  hQ _ h' s.toks BY ⟨st',let⟨o,e,r⟩:=st.2;⟨o,(sb.2 a hne).trans e,r⟩⟩ sb
 done:=fun s Q E st hE=>next_end hh st.1 st.2 BY hE
end ET
namespace L2
open PySem PySem.Spec PyProof.Rows
section
variable{X:Cx}{pins:LE}{σ:St}{H:Hp}{s:SD}{h':Heap}{tk:Nat}{ch:AAh}
def Inv.turn(I:BH)(hf:∀b∈ch,K7 X pins H b)(keep:∀b o,b ∉ ch->s.heap.get? b=some o->h'.get? b=some o):Inv X pins σ H LT:=by
 have dw:∀b o,H b=some o->b ∉ ch:=fun b o q hb=>by rw[(hf b hb).1]at q;cases q
 refine I.step (fun b hb=>?_) (fun b o _ _ l q _=>keep b o l q) (fun b o _ _ l q _=>⟨o.slots,keep b o l q⟩)
  (fun b o _ q n=>n) (fun b o l q=>⟨o,keep b o l q⟩) (fun b ys q=>q) (fun b o u q=>q)
  (fun b ps q=>by simp_all) (fun b _ o l _ q=>keep b o l q) (fun m hm=>?_) (fun b o q=>?_) I.bare
 .obtain⟨_,f1,_,Y,U,T⟩:=hf b hb;exact⟨Y,f1,U,T⟩
 .obtain⟨o,es,ep,M,r⟩:=hm;exact⟨o,es,ep,keep _ o (fun hb=>(hf _ hb).2.1 rfl) M,r⟩
 .refine(I.Ac b o q).J4 (fun c w l r=>keep c w ?_ r) (fun c r=>r) fun c ys r=>r;rcases l with rfl|l
  .exact dw _ _ q
  .exact dw _ _ l
def Inv.fT(I:BH)(hf:∀b∈ch,K7 X pins H b)(keep:∀b o,b ∉ ch->s.heap.get? b=some o->h'.get? b=some o)(hz:xs.length<=sizeLine)(T:Vals xs us) (Y:h'.get? s.heap.objs.size=some { cls:=.type "tuple",data:=.seq us.toArray}):Inv X pins σ (upd H s.heap.objs.size KK) LT:=by
 have l:=I.Ac.fresh LK;have dw:∀b o,H b=some o->b ∉ ch:=fun b o q hb=>by rw[(hf b hb).1]at q;cases q
 refine I.step (fun b hb=>?_) (fun b o _ _ M q _=>keep b o M q) (fun b o _ _ M q _=>⟨o.slots,keep b o M q⟩)
  (fun b o _ q n=>by rw[AM ((fun b o q=>aL (aH q)) b o q)];exact n) (fun b o M q=>⟨o,keep b o M q⟩) (fun b ys q=>by rw[AM (Af q l)];exact q) (fun b o u q=>by rw[AM (Af q l)];exact q)
  (fun b ps q=>⟨#[],by rw[AM (Af q l),q];simp⟩) (fun b _ o M _ q=>keep b o M q) (fun m hm=>?_) (fun b o q=>?_) I.bare
 .obtain⟨_,f1,_,f3,f4,Z⟩:=hf b hb;exact⟨f3,f1,f4,Z⟩
 .obtain⟨o,es,ep,U,r⟩:=hm;exact⟨o,es,ep,keep _ o (fun hb=>(hf _ hb).2.1 rfl) U,r⟩
 .by_cases hb:b=s.heap.objs.size
  .subst hb;rw[AR]at q;cases q;exact⟨hz,us,T,_,Y,rfl,_,rfl⟩
  .rw[AM hb]at q;refine(I.Ac b o q).J4 (fun c w M r=>keep c w ?_ r) (fun c r=>by rw[AM (Af r l)];exact r) fun c ys r=>by rw[AM (Af r l)];exact r
   grind
end
end L2
namespace ZT
open PySem PyProof.Rows
structure Apart(z TI TO i1 i2:Addr)(f1 f2:List Addr):Prop where
 a1:TI≠z/\TI≠TO/\TI≠i1/\TI≠i2
 a2:TO≠z/\TO≠i1/\TO≠i2
 a3:i1≠z/\i2≠z/\i1≠i2
 b1:z ∉ f1/\TO ∉ f1/\i2 ∉ f1
 b2:z ∉ f2/\TO ∉ f2/\i1 ∉ f2
section
variable{prog:F0b}{w:F0c}{A:F0d}{E:AAN}{s:SD}{z TI TO i1 i2:AD}{f1 f2:AAh}{n1 n2 k:Nat}{P1 P2:Nat->VL->Prop}{S1 S2:Nat->Heap->Prop}{a b:VL}
def EE{f:AAh}{x}{h h'}(l:x ∉ f)(e:Heap.SameBut x h h'):∀c∈f,∀o,h.get? c=some o->h'.get? c=some o:=fun c I o q=>(e.2 c fun y=>l (y ▸ I)).trans q
def item{Q:AAN}(D1:Draws prog w A i1 f1 n1 P1 S1)(D2:Draws prog w A i2 f2 n2 P2 S2)(ap:Apart z TI TO i1 i2 f1 f2)(hz:IsZip s.heap z TI TO .none)(hI:IsPair s.heap TI (.ref i1) (.ref i2))(hO:IsPair s.heap TO a b) (t1:S1 k s.heap)(t2:S2 k s.heap)(l1:k<n1)(l2:k<n2) (q:∀x y h' tk,P1 k x->P2 k y->IsZip h' z TI TO (rawInt s.heap.objs.size)->IsPair h' TO x y->S1 (k+1) h'->S2 (k+1) h'->IsPair h' s.heap.objs.size x y->h'.objs.size=s.heap.objs.size+1 ->(∀c o,c≠z->c≠TO->c≠i1->c≠i2->s.heap.get? c=some o->h'.get? c=some o)->Q Go LT):wpAny As A (Builtin.«zip.__next__» ⟨[.ref z],[]⟩) (fun fin s'=>∃v,fin=.done (.ret v)/\Q v s') E s:=by
 obtain⟨⟨c1,c2,c3,c4⟩,⟨c5,c6,c7⟩,⟨c8,c9,c10⟩,⟨d1,d2,d3⟩,d4,d5,d6⟩:=ap;show wpAny _ _ (field (.ref z) 2>>=_) _ _ _;refine Wb (az hz rfl (x:=.bool false) rfl ?_);show wpAny _ _ (field (.ref z) 3>>=_) _ _ _;refine Wb (az hz rfl (x:=.ref TI) rfl (Wb (bE hI rfl ?_)));show wpAny _ _ (Builtin.SmallTypes.ownedTupleIsFree (.ref z)>>=_) _ _ _;unfold Builtin.SmallTypes.ownedTupleIsFree;refine Wb (Wb (az hz rfl (x:=.none) rfl (aB ?_)));simp only[if_true];refine Wb (ax (Wb (az hz rfl (x:=.ref TO) rfl (Wb (wpAny_setField_rec hz BY fun g1 z1 Y=>Wb ?_)))));have Y:Heap.SameBut z s.heap g1:=Y;have z1:IsZip g1 z TI TO .ellipsis:=z1;simp only[List.zipIdx_cons,List.zipIdx_nil,List.forIn_cons,List.forIn_nil];refine Wb (Wb (wpAny_onRaise ?_));show wpAny _ _ (Builtin.SmallTypes.nextOf (.ref i1)>>=_) _ _ _;refine Wb (D1.item k _ _ _ l1 (D1.frame _ _ _ t1 (EE d1 Y)) fun x g2 tk2 p1 u1 U=>aB ?_);have o2:IsPair g2 TO a b:=(U.2 _ c6).trans ((Y.2 _ c5).trans hO);refine Wb (bE o2 rfl (Wb (wpAny_updateSeq_pair o2 fun g3 o3 T=>Wb (wpAny_letGo (aB ?_)))));have o3:IsPair g3 TO x b:=o3;have t2':S2 k g3:=D2.frame _ _ _ (D2.frame _ _ _ (D2.frame _ _ _ t2 (EE d4 Y)) (EE d6 U)) (EE d5 T);refine Wb (Wb (wpAny_onRaise ?_));show wpAny _ _ (Builtin.SmallTypes.nextOf (.ref i2)>>=_) _ _ _;refine Wb (D2.item k _ _ _ l2 t2' fun y g4 tk4 p2 u2 M=>aB ?_);have T:Heap.SameBut TO g2 g3:=T;have M:Heap.SameBut i2 g3 g4:=M;have o4:IsPair g4 TO x b:=(M.2 _ c7).trans o3;refine Wb (bE o4 rfl (Wb (wpAny_updateSeq_pair o4 fun l o5 I=>Wb (wpAny_letGo (aB (aB ?_))))));have I:Heap.SameBut TO g4 l:=I;have o5:IsPair l TO x y:=o5;refine Wb (bE o5 rfl (Wb (wpAny_newTuple ?_)));have U:Heap.SameBut i1 g1 g2:=U;have sz:l.objs.size=s.heap.objs.size:=by rw[I.1,M.1,T.1,U.1,Y.1]
 have z5:IsZip l z TI TO .ellipsis:=(I.2 _ c5.symm).trans ((M.2 _ c9.symm).trans ((T.2 _ c5.symm).trans ((U.2 _ c8.symm).trans z1)));have kp:∀c o,c≠z->c≠TO->c≠i1->c≠i2->s.heap.get? c=some o->l.get? c=some o:=fun c o Z e2 e3 e4 e=>(I.2 _ e2).trans ((M.2 _ e4).trans ((T.2 _ e2).trans ((U.2 _ e3).trans ((Y.2 _ Z).trans e))));have v1:S1 (k+1) l:=D1.frame _ _ _ (D1.frame _ _ _ (D1.frame _ _ _ u1 (EE d2 T)) (EE d3 M)) (EE d2 I);have v2:S2 (k+1) l:=D2.frame _ _ _ u2 (EE d5 I);show wpAny _ _ (Builtin.SmallTypes.ownedTupleHandOut (.ref z) (.ref l.objs.size)>>=_) _ _ _;unfold Builtin.SmallTypes.ownedTupleHandOut;have z6:IsZip (l.push { cls:=.type "tuple",data:=.seq #[x,y]}) z TI TO .ellipsis:=aF _ z5;refine Wb (Wb (wpAny_setField_rec z6 BY fun g7 z7 m7=>wpAny_setField_rec (show IsZip g7 z TI TO (rawInt l.objs.size) from z7) BY fun g8 z8 m8=>?_));have z8:IsZip g8 z TI TO (rawInt l.objs.size):=z8;have up:∀c o,c≠z->(l.push { cls:=.type "tuple",data:=.seq #[x,y]}).get? c=some o->g8.get? c=some o:=fun c o Z e=>(m8.2 _ Z).trans ((m7.2 _ Z).trans e);have zl:z<l.objs.size:=aH z5;refine aB ⟨_,rfl,?_⟩;show Q (.ref l.objs.size) _;have fin:=q x y g8 tk4 p1 p2 (by rw[<-sz];exact z8) (up _ _ c5 (aF _ o5)) (D1.frame _ _ _ v1 fun c hc o e=>up c o (fun y=>d1 (y ▸ hc)) (aF _ e)) (D2.frame _ _ _ v2 fun c hc o e=>up c o (fun y=>d4 (y ▸ hc)) (aF _ e))
  (by rw[<-sz];exact up _ _ (bQ zl) (aR _ rfl)) (by rw[<-sz,m8.1,m7.1,(LJ)]) fun c o Z e2 e3 e4 e=>up c o Z (aF _ (kp c o Z e2 e3 e4 e))
 rw[sz];exact fin
def ended{Q:Fin->SD->Prop}(D1:Draws prog w A i1 f1 n1 P1 S1)(D2:Draws prog w A i2 f2 n2 P2 S2)(ap:Apart z TI TO i1 i2 f1 f2)(hz:IsZip s.heap z TI TO .none)(hI:IsPair s.heap TI (.ref i1) (.ref i2))(hO:IsPair s.heap TO a b) (t1:S1 k s.heap)(t2:S2 k s.heap)(he:k=n1\/(k<n1/\k=n2)) (q:∀h' e tk,(∀c o,c≠z->c≠TO->c≠i1->c≠i2->s.heap.get? c=some o->h'.get? c=some o)->(∃o,h'.get? e=some o/\o.cls=.type "StopIteration")->E (.ref e) LT):wpAny As A (Builtin.«zip.__next__» ⟨[.ref z],[]⟩) Q E s:=by
 obtain⟨⟨c1,c2,c3,c4⟩,⟨c5,c6,c7⟩,⟨c8,c9,c10⟩,⟨d1,d2,d3⟩,d4,d5,d6⟩:=ap;show wpAny _ _ (field (.ref z) 2>>=_) _ _ _;refine Wb (az hz rfl (x:=.bool false) rfl ?_);show wpAny _ _ (field (.ref z) 3>>=_) _ _ _;refine Wb (az hz rfl (x:=.ref TI) rfl (Wb (bE hI rfl ?_)));show wpAny _ _ (Builtin.SmallTypes.ownedTupleIsFree (.ref z)>>=_) _ _ _;unfold Builtin.SmallTypes.ownedTupleIsFree;refine Wb (Wb (az hz rfl (x:=.none) rfl (aB ?_)));simp only[if_true];refine Wb (ax (Wb (az hz rfl (x:=.ref TO) rfl (Wb (wpAny_setField_rec hz BY fun g1 z1 U=>Wb ?_)))));have U:Heap.SameBut z s.heap g1:=U;have z1:IsZip g1 z TI TO .ellipsis:=z1;simp only[List.zipIdx_cons,List.zipIdx_nil,List.forIn_cons,List.forIn_nil];refine Wb (Wb (wpAny_onRaise ?_));show wpAny _ _ (Builtin.SmallTypes.nextOf (.ref i1)>>=_) _ _ _;have T:=D1.frame _ _ _ t1 (EE d1 U);rcases he with he|⟨he1,he2⟩
 .rw[he]at T;refine Wb (D1.done _ _ _ T fun g2 e I l=>?_);obtain⟨o,l,Z⟩:=l;have z2:IsZip g2 z TI TO .ellipsis:=I _ _ c8.symm z1;have ez:e≠z:=fun y=>by subst y;rw[z2]at l;cases l;simp at Z
  exact wpAny_setField_rec z2 BY fun g3 _ M=>q g3 e _ (fun c o e1 e2 e3 e4 y=>(M.2 _ e1).trans (I _ _ e3 ((U.2 _ e1).trans y))) ⟨o,(M.2 _ ez).trans l,Z⟩
 .refine Wb (D1.item k _ _ _ he1 T fun x g2 tk2 p1 u1 I=>aB ?_);have o2:IsPair g2 TO a b:=(I.2 _ c6).trans ((U.2 _ c5).trans hO);refine Wb (bE o2 rfl (Wb (wpAny_updateSeq_pair o2 fun g3 o3 M=>Wb (wpAny_letGo (aB ?_)))));have Y:S2 k g3:=D2.frame _ _ _ (D2.frame _ _ _ (D2.frame _ _ _ t2 (EE d4 U)) (EE d6 I)) (EE d5 M);rw[he2]at Y;have I:Heap.SameBut i1 g1 g2:=I;have M:Heap.SameBut TO g2 g3:=M;refine Wb (Wb (wpAny_onRaise ?_));show wpAny _ _ (Builtin.SmallTypes.nextOf (.ref i2)>>=_) _ _ _;refine Wb (D2.done _ _ _ Y fun g4 e m4 l=>?_);obtain⟨o,l,Z⟩:=l;have z4:IsZip g4 z TI TO .ellipsis:=m4 _ _ c9.symm ((M.2 _ c5.symm).trans ((I.2 _ c8.symm).trans z1));have ez:e≠z:=fun y=>by subst y;rw[z4]at l;cases l;simp at Z
  exact wpAny_setField_rec z4 BY fun g5 _ m5=>q g5 e _ (fun c o e1 e2 e3 e4 y=>(m5.2 _ e1).trans (m4 _ _ e4 ((M.2 _ e2).trans ((I.2 _ e3).trans ((U.2 _ e1).trans y))))) ⟨o,(m5.2 _ ez).trans l,Z⟩
def next_item(D1:Draws prog w A.in1 i1 f1 n1 P1 S1)(D2:Draws prog w A.in1 i2 f2 n2 P2 S2)(ap:Apart z TI TO i1 i2 f1 f2)(hz:IsZip s.heap z TI TO .none)(hI:IsPair s.heap TI (.ref i1) (.ref i2))(hO:IsPair s.heap TO a b) (t1:S1 k s.heap)(I:S2 k s.heap)(l1:k<n1)(l2:k<n2) (q:∀x y h' tk,P1 k x->P2 k y->IsZip h' z TI TO (rawInt s.heap.objs.size)->IsPair h' TO x y->S1 (k+1) h'->S2 (k+1) h'->IsPair h' s.heap.objs.size x y->h'.objs.size=s.heap.objs.size+1 ->(∀c o,c≠z->c≠TO->c≠i1->c≠i2->s.heap.get? c=some o->h'.get? c=some o)->Q (some Go) LT):wpAny As A (pyNext (.ref z)) Q E s:=by
 have l:s.TypeIs (.ref z) "zip" := ⟨_,hz,rfl⟩;exact Wb (wpAny_attempt (ae l F.slot_zip_next
  (aU F.slot_zip_next l F.entry_zip_next (item D1 D2 ap hz hI hO t1 I l1 l2 fun x y h' tk r1 r2 r3 r4 Z Y U T M=>aB (q x y h' tk r1 r2 r3 r4 Z Y U T M)) (F.args_zip_next_1 _))))
def next_end(D1:Draws prog w A.in1 i1 f1 n1 P1 S1)(D2:Draws prog w A.in1 i2 f2 n2 P2 S2)(ap:Apart z TI TO i1 i2 f1 f2)(hz:IsZip s.heap z TI TO .none)(Z:IsPair s.heap TI (.ref i1) (.ref i2))(Y:IsPair s.heap TO a b) (t1:S1 k s.heap)(M:S2 k s.heap)(T:k=n1\/(k<n1/\k=n2)) (q:∀h' tk,(∀c o,c≠z->c≠TO->c≠i1->c≠i2->s.heap.get? c=some o->h'.get? c=some o)->Q none LT):wpAny As A (pyNext (.ref z)) Q E s:=by
 have I:s.TypeIs (.ref z) "zip" := ⟨_,hz,rfl⟩;refine Wb (wpAny_attempt (ae I F.slot_zip_next
  (aU F.slot_zip_next I F.entry_zip_next (ended D1 D2 ap hz Z Y t1 M T fun h' e tk kp l=>?_) (F.args_zip_next_1 _))))
 obtain⟨o,l,U⟩:=l;exact Wb (wpAny_isInstance ⟨o,l,U⟩ isSubtype_stop (aB (q _ _ kp)))
end
end ZT
namespace ZT
open PySem PyProof.Rows
def Sq(b:Bool)(h:Heap)(l:AD)(xs:AAM):Prop:=if b then h.IsTuple l xs.toArray else h.IsList l xs.toArray
def Em(b:Bool)(l:AD):Obj:=if b then { cls:=.type "tuple_iterator",data:=.fields #[.ref l,.int 0 0]} else { cls:=.type "list_iterator",data:=.fields #[.ref l,.int 0 0]}
def Lg(b:Bool)(h:Heap)(it l:AD)(k:Nat):Prop:=if b then h.IsTupleIter it l k else h.IsListIter it l k
def Sq.push o (x:Sq b h l xs):Sq b (h.push o) l xs:=by
 cases b with
 |true=>obtain⟨u,e,r⟩:=x;exact(⟨u,Heap.get?_push_of_some _ e,r⟩)
 |false=>obtain⟨u,e,r⟩:=x;exact(⟨u,Heap.get?_push_of_some _ e,r⟩)
section
variable{prog:F0b}{w:F0c}{A:F0d}{E:AAN}{s:SD}
def ZY(x:Sq b s.heap l xs)(h:Q Go {s with heap:=s.heap.push (Em b l)}):wpAny As A (pyIter (.ref l)) Q E s:=by
 cases b with
 |true=>exact wpAny_pyIter_tuple x h
 |false=>exact wpAny_pyIter_list x h
def Hw(M:A.handled=none) b it l xs (I:l≠it):Draws prog w A it [it,l] xs.length (fun i v=>xs[i]? = some v) (fun i h=>Lg b h it l i/\Sq b h l xs):=by
 cases b with
 |true=>exact ET.draws M it l xs I
 |false=>
  simpa[Lg,Sq]using (Draws.list M it l I xs.toArray)
def zh(b1 b2:Bool)(h:Heap)(l I:AD):Heap :=
 ((((h.push (Em b1 l)).push (Em b2 I)).push { cls:=.type "tuple",data:=.seq #[.ref h.objs.size,.ref (h.push (Em b1 l)).objs.size]}).push { cls:=.type "tuple",data:=.seq #[.none,.none]}).push
  { cls:=.type "zip",data:=.fields #[.none,.bool false,.bool false,.ref ((h.push (Em b1 l)).push (Em b2 I)).objs.size,.ref (((h.push (Em b1 l)).push (Em b2 I)).push { cls:=.type "tuple",data:=.seq #[.ref h.objs.size,.ref (h.push (Em b1 l)).objs.size]}).objs.size]}
def qP(b1 b2:Bool)(l M:AD)(xs ys:AAM):Meets (Builtin.«zip.__new__» ⟨[.type "zip",.ref l,.ref M],[]⟩) (fun _ R s=>Sq b1 s.heap l xs/\Sq b2 s.heap M ys /\R (.ok (.ret (.ref ((((s.heap.push (Em b1 l)).push (Em b2 M)).push { cls:=.type "tuple",data:=.seq #[.ref s.heap.objs.size,.ref (s.heap.push (Em b1 l)).objs.size]}).push { cls:=.type "tuple",data:=.seq #[.none,.none]}).objs.size)) ) {s with heap:=zh b1 b2 s.heap l M}) :=
 .of_wp fun prog w A R s h=>by
  obtain⟨I,g,d,tk,os⟩:=s;obtain⟨Y,U,h⟩:=h;have T:=sub_zip;have i1:∀(A:F0d) (E:VL->SD->Prop) (Q:VL->SD->Prop),Q (.ref I.objs.size) ⟨I.push (Em b1 l),g,d,tk,os⟩->wpAny As A (pyIter (.ref l)) Q E ⟨I,g,d,tk,os⟩:=fun A E Q q=>ZY (s:=⟨I,g,d,tk,os⟩) Y q;have i2:∀(A:F0d) (E:VL->SD->Prop) (Q:VL->SD->Prop),Q (.ref (I.push (Em b1 l)).objs.size) ⟨(I.push (Em b1 l)).push (Em b2 M),g,d,tk,os⟩->wpAny As A (pyIter (.ref M)) Q E ⟨I.push (Em b1 l),g,d,tk,os⟩:=fun A E Q q=>ZY (s:=⟨I.push (Em b1 l),g,d,tk,os⟩) (U.push _) q
  wp_walk using i1,i2
  exact⟨_,rfl,h⟩
def kW{b1 b2:Bool}{I l:AD}{xs ys:AAM}{Q:AAN}(h1:Sq b1 s.heap I xs)(h2:Sq b2 s.heap l ys) (h:∀h',IsZip h' (s.heap.objs.size+4) (s.heap.objs.size+2) (s.heap.objs.size+3) .none->IsPair h' (s.heap.objs.size+2) Go (.ref Ps)->IsPair h' (s.heap.objs.size+3) .none .none ->Lg b1 h' s.heap.objs.size I 0->Lg b2 h' Ps l 0->(∀c o,s.heap.get? c=some o->h'.get? c=some o)->Q (.ref (s.heap.objs.size+4)) {s with heap:=h'}):wpAny As A (call (.type "zip") [.ref I,.ref l]) Q E s:=by
 refine callType_new F.called_zip AC (F.typeCall_zip_2 _ _) (F.newCall_zip_2 _ _) (fun obj=>F.args_object_init_3 obj _ _) F.entry_zip_new (qP b1 b2 I l xs ys) ⟨h1,h2,?_⟩;have n1:(s.heap.push (Em b1 I)).objs.size=s.heap.objs.size+1:=Heap.size_push ..;have up:∀(g:Heap) (o:Obj) (c:AD) (u:Obj),g.get? c=some u->(g.push o).get? c=some u:=fun g o c u e=>aF _ e;have a0:(s.heap.push (Em b1 I)).get? s.heap.objs.size=some (Em b1 I):=aR _ (by cases b1<;>rfl);generalize Z:s.heap.push (Em b1 I)=g1 at n1 a0;have k1:∀c o,s.heap.get? c=some o->g1.get? c=some o:=fun c o e=>by rw[<-Z];exact up _ _ _ _ e
 have n2:(g1.push (Em b2 l)).objs.size=s.heap.objs.size+2:=by rw[(LJ),n1]
 have a1:(g1.push (Em b2 l)).get? Ps=some (Em b2 l):=by rw[<-n1];exact aR _ (by cases b2<;>rfl)
 generalize Y:g1.push (Em b2 l)=g2 at n2 a1;have k2:∀c o,g1.get? c=some o->g2.get? c=some o:=fun c o e=>by rw[<-Y];exact up _ _ _ _ e
 have n3:(g2.push { cls:=.type "tuple",data:=.seq #[.ref s.heap.objs.size,.ref Ps]}).objs.size=s.heap.objs.size+3:=by rw[(LJ),n2]
 have a2:IsPair (g2.push { cls:=.type "tuple",data:=.seq #[.ref s.heap.objs.size,.ref Ps]}) (s.heap.objs.size+2) Go (.ref Ps):=by rw[<-n2];exact aR _ rfl
 generalize T:g2.push { cls:=.type "tuple",data:=.seq #[.ref s.heap.objs.size,.ref Ps]}=g3 at n3 a2;have k3:∀c o,g2.get? c=some o->g3.get? c=some o:=fun c o e=>by rw[<-T];exact up _ _ _ _ e
 have n4:(g3.push { cls:=.type "tuple",data:=.seq #[.none,.none]}).objs.size=s.heap.objs.size+4:=by rw[(LJ),n3]
 have a3:IsPair (g3.push { cls:=.type "tuple",data:=.seq #[.none,.none]}) (s.heap.objs.size+3) .none .none:=by rw[<-n3];exact aR _ rfl
 generalize M:g3.push { cls:=.type "tuple",data:=.seq #[.none,.none]}=g4 at n4 a3;have k4:∀c o,g3.get? c=some o->g4.get? c=some o:=fun c o e=>by rw[<-M];exact up _ _ _ _ e
 have ez:zh b1 b2 s.heap I l=g4.push { cls:=.type "zip",data:=.fields #[.none,.bool false,.bool false,.ref (s.heap.objs.size+2),.ref (s.heap.objs.size+3)]}:=by
  unfold zh;rw[Z,Y,n1,T,M,n2,n3]
 have a4:IsZip (g4.push { cls:=.type "zip",data:=.fields #[.none,.bool false,.bool false,.ref (s.heap.objs.size+2),.ref (s.heap.objs.size+3)]}) (s.heap.objs.size+4) (s.heap.objs.size+2) (s.heap.objs.size+3) .none:=by rw[<-n4];exact aR _ rfl
 rw[n1,T,M,n4,ez];show _/\_;have U:∀c o,g4.get? c=some o->(g4.push { cls:=.type "zip",data:=.fields #[.none,.bool false,.bool false,.ref (s.heap.objs.size+2),.ref (s.heap.objs.size+3)]}).get? c=some o:=fun c o e=>up _ _ _ _ e;refine⟨⟨_,a4,rfl⟩,h _ a4 (U _ _ (k4 _ _ a2)) (U _ _ a3) ?_ ?_ fun c o e=>U _ _ (k4 _ _ (k3 _ _ (k2 _ _ (k1 _ _ e))))⟩
 .have:=U _ _ (k4 _ _ (k3 _ _ (k2 _ _ a0)));cases b1 with
  |true=>exact⟨_,this,rfl,rfl⟩
  |false=>exact⟨_,this,rfl,rfl⟩
 .have:=U _ _ (k4 _ _ (k3 _ _ a1));cases b2 with
  |true=>exact⟨_,this,rfl,rfl⟩
  |false=>exact⟨_,this,rfl,rfl⟩
end
end ZT
namespace L2
open PySem PySem.Spec PyProof.Rows
def Ts(H:Hp):Tr->List V->Prop
 |.nil,xs=>xs=[]
 |.cons b r,xs=>∃(a:AD) (ys l:List V),xs=.ref a::l/\H a=some (.tup ys)/\Ts H b ys/\Ts H r l
def Tv(H:Hp)(t:Tr)(v:V):Prop:=∃(a:AD) (ys:List V),v=.ref a/\H a=some (.tup ys)/\Ts H t ys
def Ts.same(e:AI H H'):∀ {t} {xs},Ts H t xs->Ts H' t xs
 |.nil,xs,h=>h
 |.cons b r,xs,h=>let⟨a,ys,l,U,T,M,I⟩:=h;⟨a,ys,l,U,e _ _ T,M.same e,I.same e⟩
def Tv.same(h:Tv H t v)(e:AI H H'):Tv H' t v:=let⟨a,ys,M,I,l⟩:=h;⟨a,ys,M,e _ _ I,l.same e⟩
def Ts.length:∀ {t} {xs},Ts H t xs->xs.length=t.len
 |.nil,xs,h=>by rw[h];rfl
 |.cons b r,xs,h=>by
  obtain⟨a,ys,I,rfl,_,_,l⟩:=h;rw[(FU),Tr.len,l.length]
def Ts.len(h:Ts H t xs):xs.length=t.bs.length:=by rw[h.length,Tr.Ic]
def Ts.get:∀ {t} {xs} {i:Nat} {v},Ts H t xs->xs[i]? = some v->∃c,t.bs[i]? = some c/\Tv H c v
 |.nil,xs,i,v,h,e=>by subst h;contradiction
 |.cons b r,xs,i,v,h,e=>by
  obtain⟨a,ys,Y,rfl,U,T,M⟩:=h;cases i with
  |zero=>simp at e;subst e;exact⟨b,rfl,a,ys,rfl,U,T⟩
  |succ i=>
   obtain⟨c,I,l⟩:=M.get (by simpa using e);exact⟨c,by simpa[Tr.bs]using I,l⟩
theorem Ts.gk:∀ts xs,xs.length=ts.length->(∀(i:Nat) v,xs[i]? = some v->∃c,ts[i]? = some c/\Tv H c v)->Ts H (Tr.of ts) xs
 |[],xs,l,_=>List.eq_nil_of_length_eq_zero Ev
 |t::ts,[],l,_=>by simp at l
 |t::ts,x::xs,l,h=>by
  obtain⟨c,I,a,ys,rfl,T,M⟩:=h 0 x rfl;simp at I;subst I;exact⟨a,ys,xs,rfl,T,M,Ts.gk ts xs (by simpa using l) fun i v e=>by
   obtain⟨c,Y,U⟩:=h OK v (by simpa using e)
   simp_all⟩
def Ts.pick(h:Ts H t xs)(ix:AAd)(hi:∀i∈ix,i<xs.length):Ts H (Tr.of (ix.map fun i=>t.bs.getD i .nil)) (ix.map fun i=>xs.getD i .BV):=by
 refine Ts.gk _ _ BY fun i v e=>?_;rw[(Ar)]at e ⊢;cases q:ix[i]? with
 |none=>simp_all
 |some k=>
  rw[q]at e;simp only[Option.map_some]at e;obtain⟨c,I,l⟩:=h.get (by rw[<-e,(Io),List.getElem?_eq_getElem (hi k (aJ q))];rfl)
  simp_all
section
variable{X:Cx}{pins:LE}{σ:St}{H:Hp}{s:SD}
theorem Ts.vs(I:BH):∀ {t} {xs} {us},Ts H t xs->Vals xs us->TH.Vs s.heap t us
 |.nil,xs,us,h,r=>by
  subst h;cases r
  rfl
 |.cons b rr,xs,us,h,r=>by
  obtain⟨a,ys,zs,rfl,h1,Z,Y⟩:=h;cases r with
  |cons U T=>
   cases U;obtain⟨l,M,p,_⟩:=I.tuple (A5.of h1);exact⟨a,l,_,rfl,p,Ts.vs I Z M,Ts.vs I Y T⟩
def Tv.at(I:BH)(h:Tv H t v)(r:RelV v u):∃(a:AD) (l:AAM),u=.ref a/\s.heap.IsTuple a l.toArray/\TH.Vs s.heap t l:=by
 obtain⟨a,ys,rfl,U,T⟩:=h;cases r;obtain⟨l,M,p,_⟩:=I.tuple (A5.of U);exact⟨a,l,rfl,p,Ts.vs I T M⟩
def wx:R2:=fun x y H Q=>∃t u,Tv H t x/\Tv H u y/\t.deep<=60/\Q (.bl (Tr.lt u t)) H
def oA(hu:IS):Cj X (compareOp .Gt) wx:=by
 rintro pins s σ H x y v u' Q I U T ⟨t,u,h1,h2,hd,q⟩;obtain⟨a,M,rfl,Z,k1⟩:=h1.at I U;obtain⟨b,l,rfl,Y,k2⟩:=h2.at I T;exact TH.wN _ t u X.A s a b M l (bK _) Z k1 Y k2 AS X.prog X.w X.xe _ ⟨.bl _,H,I,rfl,q⟩
end
def Uh:Bool->Fg->Hp->AD->List V->Prop
 |true=>A5
 |false=>Am
def Inv.sq{σ:St}(I:BH):∀ {b} {a} {xs},Uh b X.K H a xs->∃l,Vals xs l/\ZT.Sq b s.heap a l
 |true,_,_,h=>let⟨l,r,p,_⟩:=I.tuple h;⟨l,r,p⟩
 |false,_,_,h=>let⟨l,r,p,_⟩:=I.list h;⟨l,r,p.isList⟩
def Inv.vW{σ:St}{H}{s}(I:BH):∀ {b} {a} {xs ys},Uh b X.K H a xs->Uh b X.K H a ys->xs=ys
 |true,_,_,_,h,k=>I.Tp h k
 |false,_,_,_,h,k=>I.XZ h k
def wq:∀ {b} {h} {a} {xs},ZT.Sq b h a xs->∃o,h.get? a=some o/\o.cls=.type (if b then "tuple" else "list")
 |true,_,_,_,⟨o,e,c,_⟩=>⟨o,e,c⟩
 |false,_,_,_,⟨o,e,c,_⟩=>⟨o,e,c⟩
def Wu:∀ {b} {h} {it a} {i},ZT.Lg b h it a i->∃o,h.get? it=some o/\o.data=.fields #[.ref a,.int i 0]
 |true,_,_,_,_,⟨o,e,_,d⟩=>⟨o,e,d⟩
 |false,_,_,_,_,⟨o,e,_,d⟩=>⟨o,e,d⟩
def Hu:∀ {b} {h h'} {it a} {i},ZT.Lg b h it a i->(∀o,h.get? it=some o->h'.get? it=some o)->ZT.Lg b h' it a i
 |true,_,_,_,_,_,⟨o,e,r⟩,k=>⟨o,k o e,r⟩
 |false,_,_,_,_,_,⟨o,e,r⟩,k=>⟨o,k o e,r⟩
def mR:∀ {b} {h} {it a} {i} {xs},ZT.Sq b h a xs->ZT.Lg b h it a i->a≠it
 |true,_,_,_,_,_,⟨o,M,U,_⟩,⟨l,I,T,_⟩=>by grind
 |false,_,_,_,_,_,⟨o,M,U,_⟩,⟨l,I,T,_⟩=>by lia
def gu{St}(D:Draws prog w A it fp n P St):Draws prog w A it fp (n+k) (fun i v=>P (i-k) v) (fun i h=>∃j,i=j+k/\St j h) where
 live:=fun i h ⟨j,_,s⟩=>D.live j h s
 frame:=fun i h h' ⟨j,e,s⟩ k=>⟨j,e,D.frame j h h' s k⟩
 item:=fun i s Q E hi ⟨j,e,st⟩ q=>by
  subst e;exact D.item j s Q E AS st fun x h' tk h1 h2 h3=>q x h' tk Rs ⟨j+1,by lia,h2⟩ h3
 done:=fun s Q E ⟨j,e,st⟩ q=>by
  have:j=n:=by lia
  subst this;exact D.done s Q E st q
def Nz(K:Fg)(b:Bool)(k0:Nat)(a:AD):It :=
 ⟨fun i H=>∃xs x,Uh b K H a xs/\xs[i]? = some x,fun i H v H'=>∃p x,v=.ref p/\H p=none/\H'=upd H p (.tup [.int ((i+k0:Nat)),x])/\∀xs,Uh b K H a xs->xs[i]? = some x,fun i H=>∃xs,Uh b K H a xs/\xs.length=i⟩
def Sn{b:Bool}{k0:Nat}{P:F0b}{w:F0c}{K:Fg}{elts:AAU}{x1}{pos:Pos}(a e it:AD)(hne:e≠it) :
  Turn P w K (.Tuple elts x1 pos) (Nz K b k0 a) [e,it] e (fun i h=>(∃old,IsEnum h e it ((i+k0:Nat):Int) old)/\ZT.Lg b h it a i) where
 mem:=by simp
 obj:=fun i h st c hb=>by
  rcases aO.mp hb with rfl|hb
  .obtain⟨⟨old,q⟩,_⟩:=st;exact⟨_,q,fun v z=>by cases z⟩
  .have e2:c=it:=by simpa using hb
   subst e2;obtain⟨o,q,d⟩:=Wu st.2;exact⟨o,q,fun v z=>by rw[d]at z;cases z⟩
 keep:=fun i h h' st k=>by
  obtain⟨⟨old,q⟩,q2⟩:=st;exact⟨⟨old,k e BY _ q⟩,Hu q2 (k it BY)⟩
 item:=by
  intro X hP hw hK hc i pins s σ H E I hf st hg;subst hP hw hK;obtain⟨xs,x,hq,hx⟩:=hg;obtain⟨its,rv,p⟩:=I.sq hq;obtain⟨u,hu,ru⟩:=rv.get hx;obtain⟨⟨old,he⟩,hit⟩:=st;have hai:a≠it:=mR p hit;have hae:a≠e:=fun z=>by
   obtain⟨o,e1,c1⟩:=wq p;rw[z,he]at e1;cases e1;exact absurd (show Value.type "enumerate" = _ from c1) (by cases b<;>decide)
  have hlt:i<its.length:=(aD.mp hu).1;have hE0:=hf e BY;have hI0:=hf it BY;refine wpAny_pyNext_enum_itemD (gu (k:=k0) (ZT.Hw (prog:=X.prog) (w:=X.w) (A:=X.A.in1) (I.ok.hd hc) b it a its hai)) he ⟨i,rfl,hit,p⟩ AS hne (by simp[hne,Ne.symm hae]) fun y h' tk hy ho hs' hT hsz hk=>⟨_,rfl,wpAny_letOwnedTupleGo_enum ho fun h'' he'' sb=>?_⟩;have hyu:y=u:=by
   have hy:its[i]? = some y:=by simpa using hy
   rw[hu]at hy;exact(ag hy).symm
  have hs':ZT.Lg b h' it a OK:=by
   obtain⟨j,ej,hs1,_⟩:=hs';have:j=i+1:=by lia
   subst this;exact hs1
  subst hyu;have hTe:s.heap.objs.size≠e:=bQ (aH he);refine⟨.ref s.heap.objs.size,upd H s.heap.objs.size (.tup [.int ((i+k0:Nat):Int),x]),?_,rfl,⟨_,x,rfl,(I.Ac.fresh LK),rfl,fun ys hy=>by rw[I.vW hy hq];exact hx⟩,⟨⟨_,by have:=he'';rw[show(((i+1+k0:Nat)):Int)=((i+k0:Nat):Int)+1 by lia];exact this⟩,?_⟩,fun b hb=>?_⟩
  .exact I.fT (ch:=[e,it]) hf (fun b o hb q=>(fun b o h1 h2 q=>(sb.2 b h1).trans (hk b o h1 h2 q)) b o (fun z=>hb (by simp[z])) (fun z=>hb (by simp[z])) q) mr (.cons ⟨tk,rfl⟩ (.cons ru .nil)) ((sb.2 _ hTe).trans hT)
  .exact Hu hs' fun o q=>(sb.2 it (Ne.symm hne)).trans q
  .rcases aO.mp hb with rfl|hb
   .rw[AM (Ne.symm hTe)];exact hE0.1
   .have e2:b=it:=by simpa using hb
    subst e2;rw[AM (Ne.symm (let⟨_,q,_⟩:=Wu hit;bQ (aH q)))];exact hI0.1
 done:=by
  intro X hP hw hK hc i pins s σ H E I hf st hg;subst hP hw hK;obtain⟨xs,hq,hx⟩:=hg;obtain⟨its,rv,p⟩:=I.sq hq;obtain⟨⟨old,he⟩,hit⟩:=st;have hl:its.length=i:=by rw[<-rv.length];exact hx
  subst hl;obtain⟨f0,f1,f2,f3,f4,f5⟩:=hf it BY;exact wpAny_pyNext_enum_endD (gu (k:=k0) (ZT.Hw (prog:=X.prog) (w:=X.w) (A:=X.A.in1) (I.ok.hd hc) b it a its (mR p hit))) he ⟨_,rfl,hit,p⟩ fun h' eb=>⟨rfl,I.turned (t':=s.toks) (fun b o hb q=>eb b o hb q) f0 f1 f3 f4 f5⟩
 self:=fun _ _ _ _ _ st h=>by
  obtain⟨⟨old,he⟩,_⟩:=st;exact wpAny_pyIter_enum he h
def q8{b:Bool}{K:Fg}{a:AD}{xs:AAf}{g:TG}{tb:TS}{D:Ends}{σ:St}{H:Hp}(Pv:Nat->St->Hp->Prop)(h0:Pv 0 σ H)(hl:∀i σ H,i<=xs.length->Pv i σ H->Uh b K H a xs) (Z:∀i x σ H,xs[i]? = some x->Pv i σ H->∀p,H p=none->g (.ref p) σ (upd H p (.tup [.int (i:Nat),x])) fun l M=>tb {D with nx:=Pv OK,ct:=Pv OK,bk:=D.nx} l M)(hd:∀σ H,Pv xs.length σ H->D.nx σ H):∃W:Nat->Nat->St->Hp->Prop,(∃m,W 0 m σ H)/\∀i m σ H,W i m σ H ->((Nz K b 0 a).stop i H/\D.nx σ H)\/((Nz K b 0 a).go i H/\∃N:St->Hp->Prop,(∀σ' H',N σ' H'->∃T,T<m/\W OK T σ' H')/\∀x H',(Nz K b 0 a).E7 i H x H'->g x σ H' fun l M=>tb {D with nx:=N,ct:=N,bk:=D.nx} l M):=by
 refine⟨fun i m σ H=>m=xs.length-i/\i<=xs.length/\Pv i σ H,⟨xs.length,by simp,Nat.zero_le _,h0⟩,?_⟩;rintro i m σ H ⟨rfl,hi,p⟩;have q:=hl i σ H hi p;by_cases I:i<xs.length
 .refine .inr ⟨⟨xs,xs[i],q,by simp[I]⟩,Pv OK,fun σ' H' Y=>⟨xs.length-OK,by lia,rfl,I,Y⟩,fun x H' y=>?_⟩;obtain⟨pp,U,rfl,hn,rfl,y⟩:=y;exact Z i U σ _ (y xs q) p pp hn
 .have e:i=xs.length:=by lia
  subst e;exact .inl ⟨⟨xs,q,rfl⟩,hd σ H p⟩
abbrev x6(K:Fg)(a:AD):It:=Nz K true 0 a
def xk(K:Fg)(I:TA):TI:=fun σ H R=>I σ H fun vs l=>∃a,vs=[.ref a]/\(∃xs,A5 K l a xs)/\R (x6 K a) l
def Zc{X}{x1}{a}{Y}(hg:Gl X "enumerate")(hm:X.mg "enumerate" = none)(ha:PA X [a] Y)(hs:starEach [a] X.env=[(false,eval a X.env)]:=by rfl):PI X (.Tuple elts x1 U) (.Call (.Name "enumerate" p) [a] [] pos) (xk X.K Y):=by
 intro pins s σ H R I h;refine Call_ (FW I hg hm boot_enumerate (bA (Aw (ha pos pins s σ H _ I h) fun us s1 ⟨vs,H1,M,r1,q1⟩=>?_) hs rfl));obtain⟨t,e,⟨xs,hq⟩,q⟩:=q1;subst e;cases r1 with
 |cons r rr=>
  cases rr;cases r;obtain⟨its,rv,p',hz⟩:=M.tuple hq;refine ET.gN p' fun h' Z hit hsz hk=>wpAny_pyIter_enum Z (⟨s1.heap.objs.size+1,[s1.heap.objs.size+1,s1.heap.objs.size],_,_,H1,rfl,(M.kept hk),Sn (b:=true) t _ _ (show s1.heap.objs.size+1≠s1.heap.objs.size by simp),⟨⟨_,Z⟩,hit⟩,fun b hb=>?_,q⟩);have l:s1.heap.objs.size<=b:=by
   have T:=by simpa using hb
   rcases T with z|z
   .rw[z];exact Nat.le_succ _
   .rw[z];exact aG _
  exact M.QG l (M.Ac.fresh l)
abbrev iu{K}{a}{xs}{g}{tb}{D}{σ}{H}:=@q8 true K a xs g tb D σ H
end L2
namespace TH
open PySem PySem.W PyProof.Rows PySem.SeqAt
section
variable{prog:F0b}{w:F0c}{A:F0d}{E:AAN}{s:SD}
def oU a:Builtin.«list.sort» ⟨[.ref a],[]⟩=Builtin.«list.sort» ⟨[.ref a],[(Str.ofString "reverse",.bool false)]⟩:=by
 rfl
def O9{l}{vs}{Q}(T:s.heap.IsTuple l vs.toArray) (h:Q vs {s with heap:=(s.heap.push (seqObj "list" #[] 0)).update s.heap.objs.size (Obj.mapSeq (· ++ vs.toArray))})(hsz:vs.length<=sizeLine):wpAny As A (collect (.ref l)) Q E s:=by
 obtain⟨o,M,U,n,hd⟩:=id T;refine Wb (wpAny_runValue (codeAny_builtin entry_proto_collect' (Wb (wpAny_newList (aB ⟨Code.quiet_builtin _ (by decide +kernel),codeAny_builtin entry_list_iadd' ?_⟩)))));show wpAny _ _ (Builtin.List.listExtendWith Go (.ref l) Go) _ _ _;have I:(s.heap.push (seqObj "list" #[] 0)).get? l=some o:=aF _ M;refine Wb (wpAny_typeOf ⟨o,I,U⟩ ?_);rw[if_pos BY];refine Wb (listItems_at I hd (Wb (listItems_at (aR _ rfl) rfl ?_)));refine Wb (listUpdate_at (aR _ rfl) rfl ?_ (bC _) (by simp;exact Nat.le_succ_of_le ‹_›));refine aB (Wb (wpAny_load (get?_update_seq (aR _ rfl) _) ?_));show wpAny _ _ (pure ((#[])++vs.toArray).toList) Q E _;rw[show((#[]:Array VL)++vs.toArray).toList=vs by simp];exact aB h
def vd(I:s.heap.IsList l vs.toArray\/s.heap.IsTuple l vs.toArray) (h:Q vs {s with heap:=(s.heap.push (seqObj "list" #[] 0)).update s.heap.objs.size (Obj.mapSeq (· ++ vs.toArray))})(hsz:vs.length<=sizeLine):wpAny As A (collect (.ref l)) Q E s:=I.elim (fun z=>collect_list z h hsz) fun z=>O9 z h hsz
end
end TH
namespace Tim
open PySem PyProof.Rows
section pure
end pure
section
section pure
end pure
section pure
end pure
end
end Tim
namespace GS
open PySem PySem.W PyProof.Rows PySem.SeqAt
abbrev Ext(h0 h:Heap):Prop:=∀c o,h0.get? c=some o->h.get? c=some o
def Sl(O:KeyOrd)(prog:F0b)(w:F0c)(κ:SortKind)(A:F0d)(s:SD)(ks:List O.α)(us:AAM):Prop :=
 ∀E (i j:Nat) x y u v Q,us[i]? = some u->us[j]? = some v->ks[i]? = some x->ks[j]? = some y->Q (O.blt x y) s->wpAny As A (keyLt' κ u v) Q E s
structure ZJ(O:KeyOrd)(prog:Program)(w:World)(h0:Heap)(r:Nat)(ks:List O.α)(us:List Value):Prop where
 len:us.length=ks.length
 go:∃ok:SortKind->Prop,(∀(A:Around) (E:Value->Shared->Prop) (s:Shared) (Q:SortKind->Shared->Prop),Ext h0 s.heap->(∀κ,ok κ->Q κ s)->wpAny As A (keyKind' us.toArray) Q E s) /\
  ∀(A:Around) (s:Shared) (κ:SortKind),Ext h0 s.heap->A.units+r<cLine->ok κ->Sl O prog w κ A s ks us
def Runs(O:KeyOrd)(prog:F0b)(w:F0c)(ks:List O.α):Prop :=
 ∀d A E s κ l,l.length=ks.length->2<=l.length->Sl O prog w κ A s ks l ->
  wpAny As A (sortRuns'.run (SortSt.mk' κ (l.toArray.zip l.toArray) #[] 7 none)) (fun r s'=>s'=s/\failedOf r.2=none/\∃I:List Nat,I.Perm (List.range l.length) /\
   (arrOf r.2).map (·.2)=(I.map fun i=>l.getD i Value.none).toArray/\(I.map fun i=>ks.getD i d).Pairwise O.kle) E s
def Hb(h64:ks.length<64):Runs O prog w ks:=by
 intro d A E s κ l hl h2 ask;refine kat_run (Q:=fun I s'=>s'=s/\failedOf I=none/\∃U:List Nat,U.Perm _/\(arrOf I).map _=(U.map fun i=>l.getD i Value.none).toArray/\(U.map fun i=>ks.getD i d).Pairwise O.kle)
   rfl h2 (show l.length<64 by lia) (fun p I s' hp har hf hG=>?_)
  (TH.Xj (lt:=SM.Gp fun i=>ks.getD i d) (fun i j C hi M T=>?_) _ (SM.sort (aa ‹_›)))
 .obtain⟨rfl,Z,Y⟩:=hG;have h1:=by simpa using Array.perm_iff_toList_perm.mp Z.perm
  refine⟨rfl,hf,p.toList,h1,kat_snds rfl har,List.pairwise_iff_getElem.mpr fun i j hi M hij=>?_⟩;rw[OF,(WY),hp]at hi M;have e1:∀k,k<l.length->∀hk,(p.toList.map fun i=>ks.getD i d)[k]' hk=ks.getD (p.getD k 0) d:=fun k hk hk'=>by
   rw[List.getElem_map,Array.getD,dif_pos AS]
   rfl
  rw[e1 i hi,e1 j M];exact(Y i j (aa ‹_›) M)
 .have gi:∀k,k<l.length->∃u x,l[k]? = some u/\ks[k]? = some x/\l.getD k Value.none=u/\ks.getD k d=x:=fun k hk=>by
   refine⟨l[k],ks[k]' AS,List.getElem?_eq_getElem hk,List.getElem?_eq_getElem AS,?_,?_⟩
   .rw[(Io),List.getElem?_eq_getElem hk];rfl
   .rw[(Io),List.getElem?_eq_getElem AS];rfl
  obtain⟨u,x,q1,q2,q3,q4⟩:=gi i hi;obtain⟨v,y,r1,r2,r3,r4⟩:=gi j M;unfold kas_ask;rw[q3,r3];refine ask _ i j x y u v C q1 r1 q2 r2 ?_;have T:C (O.blt (ks.getD i d) (ks.getD j d)) s:=T;rw[q4,r4]at T;exact T
section
variable{O:KeyOrd}{prog:F0b}{w:F0c}{A:F0d}{E:AAN}{s:SD}{h0:Heap}{r:Nat}{ks:List O.α}{us:AAM}
def Sl.rev(U:us.length=ks.length)(a:Sl O prog w κ A s ks us):Sl O prog w κ A s ks.reverse us.reverse:=fun E i j x y u v Q T M I l q=>by
 have b1:=(aD.mp T).1;have b2:=(aD.mp M).1;rw[(VX)]at b1 b2;rw[List.getElem?_reverse AS]at T M I l;rw[<-U]at I l;exact a E _ _ x y u v Q T M I l q
def i6{α:Type}{R}:∀ {l:List α},l.length<2->l.Pairwise R
 |[],_=>.nil
 |[_],_=>List.pairwise_singleton ..
 |_::_::_,h=>by simp at h;lia
def Nb(d : O.α){a : AD}{n : Nat}{b : Bool}{P : PySem.Fin->SD->Prop}(C : ZJ O prog w h0 r ks us)(hx : Ext h0 s.heap)(ha0 : h0.objs.size<=a)(ho : s.heap.get? a = some (seqObj "list" us.toArray n))(hsz : us.length<=1000)(hr : Runs O prog w (if b then ks.reverse else ks))(hu : A.units + r < cLine) (h : ∀ ix : AAd,ix.Perm (List.range us.length)->(ix.map fun i => ks.getD i d).Pairwise (fun x y => if b = true then O.kle y x else O.kle x y)->P (.done (.ret .none)) { s with heap:=sortedHeap s.heap a us (ix.map fun i => us.getD i Value.none).toArray }):wpAny As A (Builtin.«list.sort» ⟨[.ref a],[(Str.ofString "reverse",.bool b)]⟩) P E s:=by
  rw [list_sort_rev]
  have ha : a < s.heap.objs.size:=aH ho
  refine Wb (listItems_at ho rfl ?_)
  refine Wb (listUpdate_at ho rfl ?_ (by rw [(HW),sizeLine_eq]; lia) (bC _))
  obtain ⟨e1,ho1⟩ : ∃ e1,(s.heap.update a (Obj.mapSeq fun _ => #[])).get? a = some (seqObj "list" #[] e1):=⟨_,get?_update_seq ho (fun _ => #[])⟩
  refine Wb (seqEpoch_at ho1 rfl ?_)
  refine Wb (wpAny_newTuple ?_ (by show us.length<=_; rw [sizeLine_eq]; lia))
  refine Wb (wpAny_newList ?_ (bC _))
  refine aT ?_
  have ho6 : (((s.heap.update a (Obj.mapSeq fun _ => #[])).push (seqObj "tuple" us.toArray 0)).push (seqObj "list" #[] 0)).get? a = some (seqObj "list" #[] e1):=by
    rw [Heap.get?_push_ne _ _ _ (by rw [size_push',Heap.size_update]; exact aL (bW ha)),Heap.get?_push_ne _ _ _ (by rw [Heap.size_update]; exact aL ha)]
    exact ho1
  have keep : Ext h0 (((s.heap.update a (Obj.mapSeq fun _ => #[])).push (seqObj "tuple" us.toArray 0)).push (seqObj "list" #[] 0)):=fun c o hc => by
    have hlt : c < h0.objs.size:=aH hc
    have hne : c≠a:=fun z => Nat.not_lt.mpr ha0 (z ▸ hlt)
    refine aF _ (aF _ ?_)
    rw [Heap.get?_update_ne _ _ _ _ hne]
    exact hx c o hc
  show wpAny As A _ P E Do
  dsimp only
  have step : ∀ T : Sem PySem.Fin,wpAny As A T P E Do ->
      wpAny As A (if b = true then (do let _ <- rule "list.sort.reverse"; T) else T) P E Do:=by
    intro T hT
    split
    . exact Wb (ax hT)
    . exact hT
  refine step _ ?_
  obtain ⟨ok,hkind,hask⟩:=C.go
  have hl:=C.len
  by_cases h2 : us.toArray.size < 2
  . rw [if_pos h2,if_pos h2]
    refine Wb (aB ?_)
    rw [StateT.run_pure]
    refine Wb (aB ?_)
    dsimp only
    have hz : us.length < 2:=by simpa using h2
    have hout:=TH.eD b us hz
    refine Wb (seqEpoch_at ho6 rfl ?_)
    refine Wb (listUpdate_at ho6 rfl ?_ (bC _) (by
      refine aK (Nat.le_of_eq (af Array.size hout)) ?_
      rw [(HW),sizeLine_eq]; exact aK ‹_› AC))
    simp only [bne_self_eq_false,Bool.false_eq_true,if_false]
    have fin:=h (List.range us.length) (.refl _) (i6 (by simpa using hz))
    rw [TH.map_getD] at fin
    rw [<- hout] at fin
    exact aB fin
  . rw [if_neg h2,if_neg h2]
    have hz : 2<=us.length:=by simpa using h2
    refine Wb (hkind A E Do _ keep fun κ hκ => ?_)
    have ask:=hask A Do κ keep hu hκ
    obtain ⟨ws,kw,aw,hwl,hwk,hws,hrw,pick⟩ : ∃ (ws : List VL) (kw : List O.α),Sl O prog w κ A { s with heap:=((s.heap.update a (Obj.mapSeq fun _ => #[])).push (seqObj "tuple" us.toArray 0)).push (seqObj "list" #[] 0) } kw ws/\ws.length = us.length/\ws.length = kw.length /\
        (if b = true then (us.toArray.zip us.toArray).reverse else us.toArray.zip us.toArray) = ws.toArray.zip ws.toArray/\Runs O prog w kw /\
        ∀ ix : List Nat,ix.Perm (List.range ws.length)->(ix.map fun i => kw.getD i d).Pairwise O.kle->∃ iy : List Nat,iy.Perm (List.range us.length)/\(iy.map fun i => ks.getD i d).Pairwise (fun x y => if b = true then O.kle y x else O.kle x y) /\
          (if b = true then ((ix.map fun i => ws.getD i Value.none).toArray).reverse else (ix.map fun i => ws.getD i Value.none).toArray) = (iy.map fun i => us.getD i Value.none).toArray:=by
      cases b with
      | false => exact ⟨us,ks,ask,rfl,hl,rfl,hr,fun ix h1 h2 => ⟨ix,h1,by simpa using h2,rfl⟩⟩
      | true=>
        refine ⟨us.reverse,ks.reverse,ask.rev hl,by simp,by simp [hl],kat_pairs (ks:=us) (vs:=us) true rfl,hr,fun ix h1 h2 => ⟨(ix.map fun i => us.length - 1 - i).reverse,?_,?_,?_⟩⟩
        . rw [(VX)] at h1
          refine (List.reverse_perm _).trans ((h1.map fun i => us.length - 1 - i).trans ?_)
          have : (List.range us.length).map (fun i => us.length - 1 - i) = (List.range us.length).reverse:=by
            refine List.ext_getElem BY fun i a1 a2 => ?_
            simp
          rw [this]
          exact List.reverse_perm _
        . have hb : ∀ i∈ix,i < us.length:=fun i hi => by simpa using h1.mem_iff.mp hi
          have e : ((ix.map fun i => us.length - 1 - i).reverse.map fun i => ks.getD i d) = (ix.map fun i => ks.reverse.getD i d).reverse:=by
            rw [List.map_reverse,(BZ)]
            congr 1
            exact ai fun i hi => by
              have:=hb i hi
              show ks.getD (us.length - 1 - i) d = _
              rw [(Io),(Io),List.getElem?_reverse AS,hl]
          rw [e,List.pairwise_reverse]
          simpa using h2
        . have hb : ∀ i∈ix,i < us.length:=fun i hi => by simpa using h1.mem_iff.mp hi
          rw [if_pos rfl,List.map_reverse,(BZ),List.reverse_toArray]
          congr 2
          exact ai fun i hi => by
            have:=hb i hi
            show us.reverse.getD i Value.none = us.getD (us.length - 1 - i) Value.none
            rw [(Io),(Io),List.getElem?_reverse Ev]
    rw [hws]
    refine Wb (aV (hrw d A E Do κ ws hwk AS aw) ?_ fun _ _ z => z)
    rintro ⟨⟨⟩,st'⟩ s' ⟨rfl,hf,ix,hix,hout,hst⟩
    dsimp only
    refine Wb (seqEpoch_at ho6 rfl ?_)
    obtain ⟨iy,y1,y2,hfin⟩ : ∃ iy : List Nat,iy.Perm (List.range us.length)/\(iy.map fun i => ks.getD i d).Pairwise (fun x y => if b = true then O.kle y x else O.kle x y) /\
        (if b = true then ((arrOf st').map (·.2)).reverse else (arrOf st').map (·.2)) = (iy.map fun i => us.getD i Value.none).toArray:=by
      rw [show (arrOf st').map (·.2) = _ from hout]
      exact pick ix hix hst
    refine Wb (listUpdate_at ho6 rfl ?_ (bC _) (by
      refine aK (Nat.le_of_eq (af Array.size hfin)) ?_
      have:=y1.length_eq
      rw [List.length_range] at this
      rw [(HW),OF,this,sizeLine_eq]; exact aK ‹_› AC))
    rw [show failedOf st' = none from hf]
    simp only [bne_self_eq_false,Bool.false_eq_true,if_false]
    have fin:=h iy y1 y2
    rw [<- hfin] at fin
    exact aB fin
def ID(prog:F0b)(w:F0c)(A:F0d)(E:AAN)(s:SD)(v:VL)(us:AAM):Prop :=
 ∀Q ,(∀l tk,Ext s.heap l->s.heap.objs.size<=l.objs.size->Q us {s with heap:=l,toks:=tk})->wpAny As A (collect v) Q E s
def Na(M:s.heap.IsList l us.toArray)(hz:us.length<=1000):ID prog w A E s (.ref l) us:=fun Q h=>by
 refine collect_list M (h _ _ (fun c o q=>?_) ?_) (aK ‹_› AC)
 .have I:=aH q;rw[Heap.get?_update_ne _ _ _ _ (aL I),Heap.get?_push_ne _ _ _ (aL I)]
  assumption
 simp
def O4(M:s.heap.IsTuple l us.toArray)(hz:us.length<=1000):ID prog w A E s (.ref l) us:=fun Q h=>by
 refine TH.O9 M (h _ _ (fun c o q=>?_) ?_) (aK ‹_› AC)
 .have I:=aH q;rw[Heap.get?_update_ne _ _ _ _ (aL I),Heap.get?_push_ne _ _ _ (aL I)]
  assumption
 simp
def O1 d {b:Bool} {Q:AAN} {T:Sem PySem.Fin} (C:ZJ O prog w s.heap r ks us) (hsz:us.length<=1000) (hr:Runs O prog w (if b then ks.reverse else ks)) (I:Ext s.heap l) (Z:s.heap.objs.size<=l.objs.size) (h:∀h' D tk (ix:AAd) U,s.heap.objs.size<=D->Ext s.heap h'->h'.get? D=some (seqObj "list" (ix.map fun i=>us.getD i Value.none).toArray U)->ix.Perm (List.range us.length)->(ix.map fun i=>ks.getD i d).Pairwise (fun x y=>if b=true then O.kle y x else O.kle x y)->Q (.ref D) LT):(l.push (seqObj "list" us.toArray 0)).get? l.objs.size=some (seqObj "list" us.toArray 0)/\Ext s.heap (l.push (seqObj "list" us.toArray 0)) /\∀ix:AAd,ix.Perm (List.range us.length)->(ix.map fun i=>ks.getD i d).Pairwise (fun x y=>if b=true then O.kle y x else O.kle x y)->Q (.ref l.objs.size) {s with heap:=sortedHeap (l.push (seqObj "list" us.toArray 0)) l.objs.size us (ix.map fun i=>us.getD i Value.none).toArray,toks:=tk}:=by
 have Y:(l.push _).get? l.objs.size=some (seqObj "list" us.toArray 0):=aR _ rfl;refine⟨Y,fun b u e=>aF _ (I b u e),fun ix p1 p2=>?_⟩;obtain⟨U,M⟩:=sortedHeap_at Y;refine h _ l.objs.size tk ix U Z (fun b u e=>?_) M p1 p2;have lb:=aH (I b u e);rw[sortedHeap_old (aL lb) (by rw[(LJ)];exact Nat.le_succ_of_le ‹_›)];exact aF _ (I b u e)
def Vc(d:O.α){v:VL}(G:ID prog w A.in1 E s v us)(C:ZJ O prog w s.heap r ks us)(hsz:us.length<=1000)(M:Runs O prog w ks)(hu:A.units+2+r<cLine) (h:∀(h':Heap) (D tk:Nat) (ix:AAd) (l:Nat),s.heap.objs.size<=D->Ext s.heap h'->h'.get? D=some (seqObj "list" (ix.map fun i=>us.getD i Value.none).toArray l)->ix.Perm (List.range us.length)->(ix.map fun i=>ks.getD i d).Pairwise O.kle->Q (.ref D) LT):wpAny As A (call (.builtin "sorted") [v]) Q E s:=by
 refine Calls.call_function_entry kind_sorted plain_sorted entry_sorted (args_sorted1 _) ?_;refine Wb (aB ?_);refine Wb (G _ fun h1 tk Z I=>?_);refine Wb (wpAny_newList ?_ (by exact aK ‹_› AC));obtain⟨U,Y,fin⟩:=O1 (T:=pure (.done (.ret .none))) (tk:=tk) (b:=false) d C hsz (by simpa using M) Z I (fun h' D tk ix l a1 a2 a3 a4 a5=>h h' D tk ix l a1 a2 a3 a4 (by simpa using a5));refine Wb (aT (aU slot_list_sort ⟨_,U,rfl⟩ entry_list_sort ?_ (args_list_sort _)));refine Nb d C Y I U hsz (by simpa using M) Ev fun ix p1 p2=>⟨_,rfl,?_⟩;exact aB ⟨_,rfl,fin ix p1 p2⟩
def XD(d:O.α){v:VL}{b:Bool}{Q:AAN}(G:ID prog w A.in1 E s v us)(C:ZJ O prog w s.heap r ks us)(hsz:us.length<=1000)(I:Runs O prog w (if b then ks.reverse else ks))(hu:A.units+2+r<cLine) (h:∀(h':Heap) (D tk:Nat) (ix:AAd) (e1:Nat),s.heap.objs.size<=D->Ext s.heap h'->h'.get? D=some (seqObj "list" (ix.map fun i=>us.getD i Value.none).toArray e1)->ix.Perm (List.range us.length)->(ix.map fun i=>ks.getD i d).Pairwise (fun x y=>if b=true then O.kle y x else O.kle x y)->Q (.ref D) LT):wpAny As A (call (.builtin "sorted") [v] [(Str.ofString "reverse",.bool b)]) Q E s:=by
 refine call_function_entry_kw kind_sorted plain_sorted entry_sorted (args_sorted_rev _ _) ?_;unfold Builtin.«sorted»;refine Wb (m:=checkCount "sorted" 1 1 _) (aB ?_);refine Wb (G _ fun h1 tk Y l=>?_);refine Wb (wpAny_newList ?_ (by rw[sizeLine_eq];exact aK ‹_› AC));obtain⟨M,U,fin⟩:=O1 (T:=pure (.done (.ret .none))) (tk:=tk) (b:=b) d C hsz I Y l h;refine Wb (aT (wpAny_call_entry_kw slot_list_sort ⟨_,M,rfl⟩ entry_list_sort ?_ (args_list_sort_rev _ _)));refine Nb d C U l M hsz I Ev fun ix p1 Z=>⟨_,rfl,?_⟩;exact aB ⟨_,rfl,fin ix p1 Z⟩
end
end GS
namespace TH
open PySem PySem.W PyProof.Rows PySem.SeqAt
section
variable{prog:F0b}{w:F0c}{A:F0d}{E:AAN}{s:SD}
def Vp(e:Vs h0 t us):GS.ZJ Tr.ord prog w h0 t.deep t.bs us:=by
 refine⟨(e.length.trans (Tr.Ic t).symm),Xx,fun A E s Q x k=>pK (e.keeps fun b o q _=>x b o q) k,fun A s κ x hu M E i j y z u v Q I h2 T h4 q=>?_⟩;have get:∀ {i:Nat} {u:VL} {y:Tr},us[i]? = some u->t.bs[i]? = some y->∃(a:AD) (l:List VL),u=.ref a/\s.heap.IsTuple a l.toArray/\Vs s.heap y l/\y.deep<t.deep:=fun {i u y} I T=>by
  obtain⟨a,l,c,Y,q2,q3,U,q5⟩:=(e.keeps fun b o q _=>x b o q).at ((aD.mp I).1);rw[(Io),I]at Y;rw[T]at U;cases U;exact⟨a,l,Y,q2,q3,q5⟩
 obtain⟨a,l,rfl,a2,a3,a4⟩:=get I T;obtain⟨b,Z,rfl,b2,b3,b4⟩:=get h2 h4;exact p8 M a2 a3 b2 b3 AS q
def Zv{t:Tr}(l:n=t.bs.length){ix:AAd}(p:ix.Perm (List.range n)):ix.length=n/\(∀i∈ix,i<n)/\(ix.map fun i=>t.bs.getD i .nil).Perm t.bs:=by
 refine⟨by rw[p.length_eq,List.length_range],fun i hi=>bL.mp (p.mem_iff.mp hi),?_⟩;have:=p.map fun i=>t.bs.getD i Tr.nil;rw[l,map_getD]at this;exact this
def U6{h0:Heap}{a:AD}{t:Tr}{n}(Y:∀c o,h0.get? c=some o->s.heap.get? c=some o)(ha:h0.objs.size<=a)(ho:s.heap.get? a=some (seqObj "list" us.toArray n))(e:Vs h0 t us)(h64:us.length<64)(Z:A.units+t.deep<cLine) (h:∀ix:AAd,ix.length=us.length->(∀i∈ix,i<us.length)->(ix.map fun i=>t.bs.getD i .nil)=(Tr.GV t.bs).reverse->P (.done (.ret .none)) {s with heap:=sortedHeap s.heap a us (ix.map fun i=>us.getD i Value.none).toArray}):wpAny As A (Builtin.«list.sort» ⟨[.ref a],[]⟩) P E s:=by
 have hl:=e.length.trans (Tr.Ic t).symm;refine GS.Nb Tr.nil (Vp e) Y ha ho AS (GS.Hb (by show t.bs.length<64;lia)) Z fun ix U T=>?_;obtain⟨M,I,l⟩:=Zv hl U;exact h ix M I (Tr.Qw (List.Pairwise.imp (fun {x y} z=>by first|exact z|(exact z)) T) l)
def Ov(G:GS.ID prog w A.in1 E s v us)(e:Vs s.heap t us)(h64:us.length<64)(Z:A.units+2+t.deep<cLine) (h:∀h' D tk (ix:AAd) l,ix.length=us.length->(∀i∈ix,i<us.length)->(ix.map fun i=>t.bs.getD i .nil)=(Tr.GV t.bs).reverse->s.heap.objs.size<=D->(∀c o,s.heap.get? c=some o->h'.get? c=some o) ->h'.get? D=some (seqObj "list" (ix.map fun i=>us.getD i Value.none).toArray l)->Q (.ref D) LT):wpAny As A (call (.builtin "sorted") [v]) Q E s:=by
 have hl:=e.length.trans (Tr.Ic t).symm;refine GS.Vc Tr.nil G (Vp e) AS (GS.Hb (by show t.bs.length<64;lia)) Z fun h' D tk ix l a1 a2 a3 Y U=>?_;obtain⟨T,M,I⟩:=Zv hl Y;exact h h' D tk ix l T M (Tr.Qw (List.Pairwise.imp (fun {x y} z=>by first|exact z|rfl) U) I) a1 a2 a3
def N4(G:GS.ID prog w A.in1 E s v us)(e:Vs s.heap t us)(h64:us.length<64)(Z:A.units+2+t.deep<cLine) (h:∀h' D tk (ix:AAd) l,ix.length=us.length->(∀i∈ix,i<us.length)->(ix.map fun i=>t.bs.getD i .nil)=Tr.GV t.bs->s.heap.objs.size<=D->(∀c o,s.heap.get? c=some o->h'.get? c=some o) ->h'.get? D=some (seqObj "list" (ix.map fun i=>us.getD i Value.none).toArray l)->Q (.ref D) LT):wpAny As A (call (.builtin "sorted") [v] [(Str.ofString "reverse",.bool true)]) Q E s:=by
 have hl:=e.length.trans (Tr.Ic t).symm;refine GS.XD Tr.nil G (Vp e) AS (GS.Hb (by show t.bs.reverse.length<64;grind)) Z fun h' D tk ix l a1 a2 a3 Y U=>?_;obtain⟨T,M,I⟩:=Zv hl Y;exact h h' D tk ix l T M (Tr.di (List.Pairwise.imp (fun {x y} z=>z) U) I) a1 a2 a3
end
end TH
namespace L2
open PySem PySem.Spec PyProof.Rows
theorem Vals.pick(r:Vals xs us):∀ix:List Nat,(∀i∈ix,i<xs.length)->Vals (ix.map fun i=>xs.getD i .BV) (ix.map fun i=>us.getD i Value.none)
 |[],_=>.nil
 |i::ix,h=>by
  refine .cons ?_ (Vals.pick r ix fun k hk=>h k (aQ _ hk));have hi:=h i aS;obtain⟨u,I,l⟩:=r.get (i:=i) (x:=xs[i]) BY
  simp_all
section
variable{X:Cx}
def xZ(K:Fg):List V->Hp->VK->Prop:=fun xs H Q=>∃(p:AD) (ys:List V) (t:Tr),xs=[.ref p]/\(Am K H p ys\/A5 K H p ys)/\Ts H t ys/\ys.length<64/\t.deep<=60 /\
 ∀l I,H l=none->Ts H (Tr.of (Tr.GV t.bs).reverse) I->Q (.ref l) (upd H l (.lst I))
def gH(K:Fg):List V->Hp->VK->Prop:=fun xs H Q=>∃(p:AD) (ys:List V) (t:Tr),xs=[.ref p]/\(Am K H p ys\/A5 K H p ys)/\Ts H t ys/\ys.length<64/\t.deep<=60 /\
 ∀l I,H l=none->Ts H (Tr.of (Tr.GV t.bs)) I->Q (.ref l) (upd H l (.lst I))
def Lx{σ:St}{ix:AAd}(I:BH)(ht:Ts H t ys)(Y:Vals ys M)(U:ys.length<64) (a1:ix.length=M.length)(a2:∀i∈ix,i<M.length)(a3:(ix.map fun i=>t.bs.getD i .nil)=ts)(Z:s.heap.objs.size<=D)(keep:∀c o,s.heap.get? c=some o->h'.get? c=some o) (hD:h'.get? D=some (seqObj "list" (ix.map fun i=>M.getD i Value.none).toArray e1))(q:∀l zs,H l=none->Ts H (Tr.of ts) zs->Q (.ref l) (upd H l (.lst zs))):EP X pins σ Q (.ref D) LT:=by
 have hl:=Y.length;have T:∀i∈ix,i<ys.length:=fun i hi=>by grind
 refine⟨.ref D,upd H D (.lst _),I.laid keep Z ⟨?_,_,e1,Y.pick ix T,hD⟩,rfl,q _ _ (I.Ac.fresh Z) ?_⟩
 .rw[OF,a1,<-hl];exact aa (aE U AC)
 .rw[<-a3];exact ht.pick ix T
def eQ(hu:IS):C2 X (.builtin "sorted") (xZ X.K):=by
 rintro pins s σ H xs us Q I r ⟨p,ys,t,rfl,M,U,T,hd,q⟩;obtain⟨u,rfl,r1⟩:=r.one;cases r1;rcases M with M|M
 .obtain⟨its,l,Y,hz⟩:=I.list M;have hl:=l.length;exact TH.Ov (GS.Na Y.isList AS) (U.vs I l) AS AS fun h' D tk ix e1 a1 a2 a3 Z keep hD=>Lx I U l T a1 a2 a3 Z keep hD q
 .obtain⟨its,l,Y,hz⟩:=I.tuple M;have hl:=l.length;exact TH.Ov (GS.O4 Y AS) (U.vs I l) AS AS fun h' D tk ix e1 a1 a2 a3 Z keep hD=>Lx I U l T a1 a2 a3 Z keep hD q
def jG{p pos kp kp2}{j}(hu:IS)(hg:Gl X "sorted")(hm:X.mg "sorted" = none)(ha:PA X [e] t) (he:backTo pos (starEach [e] X.env)=Fj::backTo pos (starEach [] X.env):=by rfl)(l:(backTo pos (starEach [e] X.env)).any Fk=false:=by rfl):PE X (.Call (.Name "sorted" p) [e] [⟨some "reverse",.Constant Iz j kp2,kp⟩] pos) (fun σ H Q=>t σ H fun vs H1=>gH X.K vs H1 Q):=by
 intro pins s σ H Q I h;refine bG (FW I hg hm boot_sorted (callWith_kw (Aw (ha pos pins s σ H _ I h) fun us s1 ⟨vs,H1,T,r1,q1⟩=>kws_cons (Constant_bool (kws_nil ?_))) he l) AC AC);obtain⟨p,ys,t,rfl,U,Z,Y,hd,q⟩:=q1;obtain⟨u,rfl,r2⟩:=r1.one;cases r2;rcases U with U|U
 .obtain⟨its,M,pl,hz⟩:=T.list U;have hl:=M.length;exact TH.N4 (GS.Na pl.isList AS) (Z.vs T M) AS AS fun h' D tk ix e1 a1 a2 a3 lD keep hD=>Lx T Z M Y a1 a2 a3 lD keep hD q
 .obtain⟨its,M,pl,hz⟩:=T.tuple U;have hl:=M.length;exact TH.N4 (GS.O4 pl AS) (Z.vs T M) AS AS fun h' D tk ix e1 a1 a2 a3 lD keep hD=>Lx T Z M Y a1 a2 a3 lD keep hD q
def vb{e k}{Z tk}(he:PE X e Z)(hk:PE X k tk):PE X (.Subscript e (.Slice none none (some k) p2) pos) (fun σ H Q=>Z σ H fun x Y=>tk σ Y fun z U=>∃(a:AD) (xs:AAf),x=.ref a/\z=.int (-1)/\Am X.K U a xs/\∀p,U p=none->Q (.ref p) (upd U p (.lst xs.reverse))):=by
 intro pins s σ H Q I h;refine Subscript_ (Aw (he pins s σ H _ I h) fun v s1 ⟨x,Y,I1,r1,q1⟩=>wpAny_Slice (aB (aB (Aw (hk pins s1 σ Y _ I1 q1) fun vk s3 ⟨z,H3,I3,r3,q3⟩=>?_))));obtain⟨a,xs,rfl,rfl,hq,q⟩:=q3;cases r1;obtain⟨l,rfl⟩:=r3;have T:Inv X pins σ H3 {s3 with heap:=s3.heap.push { cls:=.type "slice",data:=.fields #[.none,.none,.int (-1) l]} }:=I3.kept fun b ob q=>aF _ q;obtain⟨M,rv,pl,hz⟩:=T.list hq;have hlen:=rv.length;refine tail_any pl.isList.typeIs slot_list_getitem.lookup (wpAny_getItem_list_slice pl.isList (Heap.IsSliceOf.new ..) .none .none (.int (-1) l) AC ?_ (by rw[(HW)]<;>lia)) (by with_unfolding_all rfl);rw[PySem.W.krv_pick];refine⟨.ref _,_,T.laid (fun b ob q=>aF _ q) LK ?_,rfl,q _ (T.Ac.fresh LK)⟩;exact⟨by rw[(VX)];exact hz,M.reverse,0,rv.reverse,Heap.get?_push_size _ rfl⟩
end
def CW(Pv:Nat->List V->Hp->Prop)(n:Nat)(D:AD):Nat->Nat->List V->Hp->Prop:=fun i m ys H=>m=n-i/\i<=n/\H D=some Ix/\Pv i ys H
def Gs(hi:i<n)(p:Pv OK (ys++[y]) (upd H D (.lst (ys++[y])))):∃l,l<n-i/\CW Pv n D OK l (ys++[y]) (upd H D (.lst (ys++[y]))) :=
 ⟨n-_,by lia,rfl,hi,AR,p⟩
def qM(hi:i<n)(I:H D=some Ix)(p:Pv OK ys H):∃l,l<n-i/\CW Pv n D OK l ys H:=⟨n-_,by lia,rfl,hi,I,p⟩
def P5{J:It}{G:Hp->Prop} Pv (h0:Pv 0 [] (upd H1 D NE)) (T:∀i ys H,i<n->Pv i ys H->H D=some Ix->J.go i H/\ys.length<sizeLine/\∀x H',J.E7 i H x H'->L6 g tif Z (carry fr σ) D x ys H' fun zs Y=>∃I,I<n-i/\CW Pv n D OK I zs Y) (l:∀ys H,Pv n ys H->H D=some Ix->J.stop n H/\G H):∃W:Nat->Nat->List V->Hp->Prop,(∃m,W 0 m [] (upd H1 D NE)) /\∀i m ys H,W i m ys H->H D=some Ix/\((J.stop i H/\G H)\/(J.go i H/\ys.length<sizeLine/\∀x H',J.E7 i H x H'->L6 g tif Z (carry fr σ) D x ys H' fun zs Y=>∃I,I<m/\W OK I zs Y)):=by
 refine⟨CW Pv n D,⟨n,by simp,Nat.zero_le _,AR,h0⟩,?_⟩;rintro i m ys H ⟨rfl,hi,U,p⟩;refine⟨U,?_⟩;by_cases M:i<n
 .exact .inr (T i ys H M p U)
 .have e:i=n:=by lia
  subst e;exact .inl (l ys H p U)
def Ja{J:It}{G:Hp->Prop} Pv (h0:Pv 0 [] (upd Z D NE)) (T:∀i ys H,i<n->Pv i ys H->H D=some Ix->J.go i H/\ys.length<sizeLine/\∀x H',J.E7 i H x H' ->tif ((carry fr σ).set ix (some x)) H' fun b M=>if b=true then Y ((carry fr σ).set ix (some x)) M fun y U=>U D=some Ix/\∃l,l<n-i/\CW Pv n D OK l (ys++[y]) (upd U D (.lst (ys++[y]))) else ∃l,l<n-i/\CW Pv n D OK l ys M) (I:∀ys H,Pv n ys H->H D=some Ix->J.stop n H/\G H):∃W:Nat->Nat->List V->Hp->Prop,(∃m,W 0 m [] (upd Z D NE)) /\∀i m ys H,W i m ys H->H D=some Ix/\((J.stop i H/\G H)\/(J.go i H/\ys.length<sizeLine/\∀x H',J.E7 i H x H'->L6 (Cr ix) tif Y (carry fr σ) D x ys H' fun zs M=>∃l,l<m/\W OK l zs M)):=P5 Pv h0 T I
section
variable{X:Cx}
def Wo(hc:PP):C2 X (.builtin "sum") (fun xs H Q=>∃(p:AD) (ns:AAS),xs=[.ref p]/\Am X.K H p (ns.map V.int)/\Q (.int ns.sum) H):=by
 rintro pins s σ H xs us Q I r ⟨p,ns,rfl,hq,q⟩;obtain⟨u,rfl,U⟩:=r.one;cases U;obtain⟨Z,T,Y,hz⟩:=I.list hq;have hi:=intsAre_of T;obtain⟨xs,l⟩:=hi.allInts.items;refine sum_intListG (I.ok.hd hc) (l ▸ Y.isList) fun h' tk M hk=>?_;rw[(show preSum _ xs.size=ns.sum by
  rw[preSum_eq,List.take_of_length_le BY,(show ns=xs.toList.map _ by
  rw[<-nums_intItems,<-l];exact hi.numsOf.symm)])]
 exact⟨.int _,H,I.kept hk,⟨M,rfl⟩,q⟩
end
section
variable{X:Cx}{scope:Scope}{cl:List (Str×AD)}{N:AAT}{C:AD}{s₀:SD}{H₀:Hp}{fp:AAh}
def SA:Qm FS (i7 X.K):=Jp
end
mutual
def Dt(l:AD)(H:Hp):PD->V->Prop
 |.none,v=>v=.BV
 |.bool b,v=>v=.bl b
 |.int i,v=>v=.int i
 |.str x,v=>v=.str x
 |.tuple ds,v=>∃(a:AD) (xs:List V),v=.ref a/\a≠l/\H a=some KK/\Bz l H ds xs
 |.list ds,v=>∃(a:AD) (xs:List V),v=.ref a/\a≠l/\H a=some (.lst xs)/\Bz l H ds xs
 |.dict _,_=>False
def Bz(l:AD)(H:Hp):List PD->List V->Prop
 |[],xs=>xs=[]
 |d::ds,xs=>∃x r,xs=x::r/\Dt l H d x/\Bz l H ds r
end
mutual
theorem Dt.but{l:AD}{H H':Hp}(e:SameBut l H H'):∀ {d:PD} {v:V},Dt l H d v->Dt l H' d v
 |.none,_,h=>by rw[Dt]at h ⊢;exact h
 |.bool _,_,h=>by rw[Dt]at h ⊢;exact h
 |.int _,_,h=>by rw[Dt]at h ⊢;exact h
 |.str _,_,h=>by rw[Dt]at h ⊢;exact h
 |.tuple _,_,h=>by
  rw[Dt]at h ⊢;obtain⟨a,xs,T,n,M,I⟩:=h;exact⟨a,xs,T,n,e _ _ n M,Bz.but e I⟩
 |.list _,_,h=>by
  rw[Dt]at h ⊢;obtain⟨a,xs,T,n,M,I⟩:=h;exact⟨a,xs,T,n,e _ _ n M,Bz.but e I⟩
 |.dict _,_,h=>by rw[Dt]at h;exact h.elim
theorem Bz.but{l:AD}{H H':Hp}(e:SameBut l H H'):∀ {ds:List PD} {xs:List V},Bz l H ds xs->Bz l H' ds xs
 |[],_,h=>by rw[Bz]at h ⊢;exact h
 |_::_,_,h=>by
  rw[Bz]at h ⊢;obtain⟨x,r,T,M,I⟩:=h;exact⟨x,r,T,Dt.but e M,Bz.but e I⟩
end
def Bz.same(h:Bz l H d v)(e:AI H H'):Bz l H' d v:=Bz.but (.of e) h
theorem Bz.len:∀ {ds} {xs},Bz l H ds xs->xs.length=ds.length
 |[],_,h=>by rw[h];rfl
 |_::_,_,h=>by
  obtain⟨x,r,rfl,_,I⟩:=h;rw[(FU),(FU),Bz.len I]
def Bz.get:∀ {ds} {xs} {i:Nat} {v},Bz l H ds xs->xs[i]? = some v->∃d,ds[i]? = some d/\Dt l H d v
 |[],_,i,v,h,e=>by subst h;simp at e
 |d::ds,_,i,v,h,e=>by
  obtain⟨x,r,rfl,U,I⟩:=h;cases i with
  |zero=>simp_all
  |succ i=>
   obtain⟨c,T,M⟩:=I.get (by simpa using e)
   simp_all
def Bz.nil:Bz l H [] []:=by rfl
def Bz.cons(h:Dt l H d x)(k:Bz l H ds xs):Bz l H (d::ds) (x::xs):=⟨x,xs,rfl,h,k⟩
def Dt.int:Dt l H (.int i) (.int i):=by rfl
def Dt.bool:Dt l H (.bool b) (.bl b):=by rfl
def Dt.BV{l:AD}{H:Hp}:Dt l H .none .BV:=by rw[Dt]
def Dt.str:Dt l H (.str x) (.str x):=by rfl
def Dt.tup(n:a≠l)(h:H a=some KK)(k:Bz l H ds xs):Dt l H (.tuple ds) Jc:=⟨a,xs,rfl,n,h,k⟩
def Dt.lst(n:a≠l)(h:H a=some (.lst xs))(k:Bz l H ds xs):Dt l H (.list ds) Jc:=⟨a,xs,rfl,n,h,k⟩
def Ok(n:Nat)(d:PD):Prop:=d.canLay0=true/\d.depth<=n
def nO(n:Nat)(ds:AAK):Prop:=PyData.canLayAll0 ds=true/\PyData.depthAll ds<=n
def Ok.shaped(h:Ok n d)(hn:n<=64):SeqAt.shaped d=true:=by
 unfold SeqAt.shaped;rw[h.1];exact decide_eq_true (aK h.2 hn)
def Ok.tup(h:nO n ds):Ok (n+1) (.tuple ds):=⟨h.1,Nat.succ_le_succ h.2⟩
def Ok.int:Ok n (.int i):=⟨by rfl,by simp[PyData.depth]⟩
def Sr:PD->String
 |.none => "NoneType"
 |.bool _ => "bool"
 |.int _ => "int"
 |.str _ => "str"
 |.tuple _ => "tuple"
 |.list _ => "list"
 |.dict _ => "dict"
def DK:PD->Bool
 |.tuple _=>true
 |_=>false
def Ct:PD->Bool
 |.list _=>true
 |_=>false
def Ij:PD->Bool
 |.int _=>true
 |.bool _=>true
 |_=>false
def HF:PD->Bool
 |.bool _=>true
 |_=>false
def jO K:∀d ,(∀l,d≠.dict l)->PySem.W.kitOne K (.type (Sr d)) KM=some (DK d)
 |.none,_=>rfl
 |.bool _,_=>rfl
 |.int _,_=>rfl
 |.str _,_=>rfl
 |.tuple _,_=>rfl
 |.list _,_=>rfl
 |.dict l,h=>rfl
def j9 K:∀d ,(∀l,d≠.dict l)->PySem.W.kitOne K (.type (Sr d)) (.type "list")=some (Ct d)
 |.none,_=>rfl
 |.bool _,_=>rfl
 |.int _,_=>rfl
 |.str _,_=>rfl
 |.tuple _,_=>rfl
 |.list _,_=>rfl
 |.dict l,h=>rfl
def AAX K:PySem.W.kitOne K (.type "NoneType") (.type "bool")=some false:=by rfl
def AAL K:PySem.W.kitOne K (.type "str") (.type "bool")=some false:=by rfl
def zv K:PySem.W.kitOne K KM (.type "bool")=some false:=by rfl
def zb K:PySem.W.kitOne K (.type "list") (.type "bool")=some false:=by rfl
def jS K:∀d ,(∀l,d≠.dict l)->PySem.W.kitOne K (.type (Sr d)) (.type "int")=some (Ij d)
 |.none,_=>rfl
 |.bool _,_=>rfl
 |.int _,_=>rfl
 |.str _,_=>rfl
 |.tuple _,_=>rfl
 |.list _,_=>rfl
 |.dict l,h=>rfl
def dj K:∀d ,(∀l,d≠.dict l)->PySem.W.kitOne K (.type (Sr d)) (.type "bool")=some (HF d)
 |.none,_=>rfl
 |.bool _,_=>rfl
 |.int _,_=>rfl
 |.str _,_=>rfl
 |.tuple _,_=>rfl
 |.list _,_=>rfl
 |.dict l,h=>rfl
end L2
namespace Tr
def Vz{t c:Tr}(h:c∈t.bs):c.deep<t.deep:=by
 induction t with
 |nil=>cases h
 |cons b r _ l=>
  have hd:(cons b r).deep=max _ r.deep:=rfl;rcases aO.mp h with rfl|h
  .lia
  .lia
theorem OB:∀t:Tr,0<t.Fy
 |.nil=>Nat.one_pos
 |.cons b r=>by rw[Fy];have:=OB b;lia
end Tr
namespace L2
open PySem PySem.Spec PyProof.Rows
mutual
def FH:PD->Option Tr
 |.tuple ds=>JQ ds
 |_=>none
def JQ:List PD->Option Tr
 |[]=>some .nil
 |d::ds=>(FH d).bind fun b=>(JQ ds).map fun r=>.cons b r
end
section
variable{X:Cx}
def we:R2:=fun x y H Q=>∃a b xs ys,x=.ref a/\y=.ref b/\H a=some KK/\H b=some (.tup ys)/\xs.length+ys.length<=sizeLine/\∀p H',AI H H'->H' p=some (.tup (xs++ys))->Q (.ref p) H'
def oj:Cj X (binaryOp .Add) we:=by
 rintro pins s σ H x y v u Q I rx ry ⟨a,b,xs,ys,rfl,rfl,ha,hb,hz,q⟩;cases rx;cases ry;obtain⟨Y,U,p1,_⟩:=I.tuple (A5.of ha);obtain⟨its2,T,p2,_⟩:=I.tuple (A5.of hb);by_cases Z:Y=[]
 .have hx:=U.OZ.mp Z;subst Z hx;obtain⟨⟨cls,dd,data,sl⟩,ho,hc,n,hd⟩:=id p1;obtain⟨⟨cls2,dd2,data2,M⟩,l,hc2,n2,hd2⟩:=id p2;subst hc hd hc2 hd2;exact concat_meets ⟨_,ho,rfl⟩ ⟨_,l,rfl⟩ noFill_tuple_add seq_tuple_add PySem.F.slot_tuple_add PySem.F.entry_tuple_add (PySem.F.args_tuple_add_2 _ _)
   (tuple_addW0 a b _ _ n n2 dd dd2 sl M BY) ⟨ho,l,⟨.ref b,H,I,rfl,q b H (.refl H) (by simpa using hb)⟩⟩
 .refine HT.qS p1 p2 Z (fun z=>?_) (fun z=>?_) (by rw[<-U.length,<-T.length];exact hz)
  .have hy:=T.OZ.mp z;subst hy;exact⟨.ref a,H,I,rfl,q a H (.refl H) (by simpa using ha)⟩
  .refine⟨.ref s.heap.objs.size,_,I.laid (fun b ob q=>aF _ q) LK ?_,rfl,q _ _ (Aj (I.Ac.fresh LK) _) AR⟩;exact⟨by grind,_,U.append T,IsTup.new _ _⟩
end
end L2
namespace TH
open PySem PySem.W PyProof.Rows PySem.SeqAt
def om(k:GS.Ext h h')(e:h.IsTuple a x):h'.IsTuple a x:=let⟨o,l,c,n,d⟩:=e;⟨o,k _ _ l,c,n,d⟩
section
open PySem.MeetsSeq PySem.MeetsSeq2 PySem.MeetsSeq3
variable{A:F0d}{E:AAN}{s:SD}
def dg(h:Heap)(v:VL):Prop:=∃(a b:AD) (xs:Array VL) (l:List VL),v=.ref a/\h.IsTuple a ((.ref b::l).toArray)/\h.IsTuple b xs
theorem Ua:∀(us:List VL) {Q},(∀v∈us,dg s.heap v)->(∀fs:List VL,fs.length=us.length->(∀v∈fs,Looks M s.heap (typeOf v) KM)->Q (fs.map some) s)->wpAny M A (us.mapM firstOfTuple') Q E s
 |[],Q,_,h=>aB (h [] rfl fun _ z=>by cases z)
 |v::us,Q,e,h=>by
  obtain⟨a,b,xs,T,rfl,h1,h2⟩:=e v aS;obtain⟨o,I,Z,n,hd⟩:=id h1;rw[List.mapM_cons];refine Wb (Wb (Looks.here ((Looks.ld I).andThen .now) ?_));rw[Z];refine Wb (listItems_at I hd (aB (Wb (Ua us (fun v l=>by grind) fun fs U Y=>aB ?_))))
  simpa using (h (.ref b::fs) (by simp[U]) fun v l=>by
   rcases aO.mp l with rfl|l
   .exact LH h2
   grind)
def oo{us:AAM}(e:∀v∈us,dg s.heap v)(h:Q (tuples' false) s):wpAny M A (keyKind' us.toArray) Q E s:=by
 rw[kat_kind_eq,List.mapM_toArray];refine Wb (Wb (Ua us e fun fs I l=>aB ?_));rw[if_pos BY];refine Wb (ax ?_);rw[(show((fs.map some).toArray.filterMap id)=fs.toArray by simp)];exact Wb (SF l (fun _=>aB h) (aB h))
end
end TH
namespace L2
open PySem PySem.Spec PyProof.Rows
abbrev yI(x y:Str)(I l:Pos)(tk:Nat)(tp:Pos):Expr:=.Tuple [.Name x I,.Name y l] tk tp
def qF(h:ix≠l)(σ:St) a b c d:((((σ.set ix a).set l b).set ix c).set l d)=(σ.set ix c).set l d:=by
 rw[List.set_comm _ _ h.symm,List.set_set,List.set_set]
abbrev MC(K:Fg)(ix l:Nat):TG:=bx K 2 (OU (Cr ix) (OU (Cr l) cG))
def Vw{K}(h:ix≠l):∀v σ H Q,MC K ix l v σ H Q->MC K ix l v σ H fun σ' H'=>Q σ' H'/\∀u,MC K ix l u σ'=MC K ix l u σ:=by
 rintro v σ H Q ⟨a,xs,e1,Z,Y,b,r,U,c,I,T,M,q⟩;refine⟨a,xs,e1,Z,Y,b,r,U,c,I,T,M,q,fun u=>?_⟩;unfold MC bx OU cG Cr;simp only[qF h]
abbrev uq(K:Fg)(wi:TI)(fr:List (Option Nat))(ix l:Nat):TT->TE->TE:=Ls wi fr (MC K ix l)
section
variable{X:Cx}{elt iter:Expr}{x y:Str}{px py tp pos:Pos}{tk:Nat}{ifs:AAU}{scope:Scope}{wi:TI}{tif:TT}{te:TE}{N:AAT}{ix iy:Nat}
def Mq(M:CV scope N x ix=true)(l:CV scope N y iy=true)(I:PP):∀cl C s₀ H₀ fp,PG FS (yI x y px py tk tp) (MC X.K ix iy):=fun cl C s₀ H₀ fp=>
 Nt I (EU ((Eb M).2 X px cl C s₀ H₀ fp) (EU ((Eb l).2 X py cl C s₀ H₀ fp) LV))
def iJ N ix iy fr (hi:PI X (yI x y px py tk tp) iter wi) (I:∀cl C s₀ H₀ fp,Vk FS ifs tif) (Z:∀cl C s₀ H₀ fp,PE FS elt te) (U:CV scope N x ix=true:=by decide +kernel) (M:CV scope N y iy=true:=by decide +kernel) (l:ix≠iy:=by decide) (T:X.calm=true:=by rfl) (h3:Iy N X.N scope X.env.scope fr 0=true:=by rfl) (h4:fr.length=N.length:=by rfl) (h5:freeOk X.env.scope scope.names=true:=by rfl) (Y:∀x,foldedSetIterable iter X.env x=pure x:=by intro _;rfl):PE X (.ListComp elt [⟨.Tuple [.Name x px,.Name y py] tk tp,iter,ifs,0⟩] scope pos) (uq X.K wi fr ix iy tif te) :=
 SJ (Eb U).1 T (Vw l) (Mq U M T) h3 h4 (Km h5) hi I Z Y
end
def kR{K}{J:It}{G:Hp->Prop} Pv (h0:Pv 0 [] (upd H1 D NE)) (Y:∀i ys H,i<n->Pv i ys H->H D=some Ix->J.go i H/\ys.length<sizeLine/\∀x H',J.E7 i H x H'->∃a T I,x=.ref a/\A5 K H' a [T,I] /\tif (((carry fr σ).set ix (some T)).set Z (some I)) H' fun b U=>if b=true then te (((carry fr σ).set ix (some T)).set Z (some I)) U fun y H3=>H3 D=some Ix/\∃l,l<n-i/\CW Pv n D OK l (ys++[y]) (upd H3 D (.lst (ys++[y]))) else ∃l,l<n-i/\CW Pv n D OK l ys U) (M:∀ys H,Pv n ys H->H D=some Ix->J.stop n H/\G H):∃W:Nat->Nat->List V->Hp->Prop,(∃m,W 0 m [] (upd H1 D NE)) /\∀i m ys H,W i m ys H->H D=some Ix/\((J.stop i H/\G H)\/(J.go i H/\ys.length<sizeLine/\∀x H',J.E7 i H x H'->L6 (MC K ix Z) tif te (carry fr σ) D x ys H' fun zs U=>∃l,l<m/\W OK l zs U)) :=
 P5 Pv h0 (fun i ys H hi p hD=>let⟨a,b,c⟩:=Y i ys H hi p hD;⟨a,b,fun x H' hy=>let⟨a,T,I,e,s,q⟩:=c x H' hy;⟨a,[T,I],e,s,rfl,T,[I],rfl,I,[],rfl,rfl,q⟩⟩) M
def Fc(b:Bool)(H:Hp)(a:AD)(xs:AAf):Prop:=if b then H a=some KK else H a=some (.lst xs)
def Fc.inj(h:Fc b H a xs)(k:Fc b H a ys):xs=ys:=by
 cases b with
 |true=>have k:H a=some _:=k;rw[h]at k;lia
 |false=>have k:H a=some _:=k;rw[h]at k;grind
theorem Fc.none(h:Fc b H a xs)(k:H c=none):a≠c:=fun z=>by
 cases b with
 |true=>have h:H a=some _:=h;lia
 |false=>have h:H a=some _:=h;grind
def Fc.raw{σ:St}(I:BH)(h:Fc b H a xs):∃l,Vals xs l/\ZT.Sq b s.heap a l:=by
 cases b with
 |true=>
  obtain⟨l,M,p,_⟩:=I.tuple (A5.of h);exact⟨l,M,p⟩
 |false=>
  obtain⟨l,M,p,_⟩:=I.list (Am.of h);exact⟨l,M,p.isList⟩
def uG(b1 b2:Bool)(a1 a2:AD):It :=
 ⟨fun i H=>∃xs x ys y,Fc b1 H a1 xs/\Fc b2 H a2 ys/\xs[i]? = some x/\ys[i]? = some y,
  fun i H v H'=>∃p x y,v=.ref p/\H p=none/\H'=upd H p (.tup [x,y])/\(∀xs,Fc b1 H a1 xs->xs[i]? = some x)/\∀ys,Fc b2 H a2 ys->ys[i]? = some y,
  fun i H=>∃xs ys,Fc b1 H a1 xs/\Fc b2 H a2 ys/\(i=xs.length\/(i<xs.length/\i=ys.length))⟩
def z0(b1 b2:Bool)(a1 a2 z TI TO i1 i2:AD):Nat->Heap->Prop:=fun i h=>IsZip h z TI TO .none/\IsPair h TI (.ref i1) (.ref i2)/\(∃a b,IsPair h TO a b)/\ZT.Lg b1 h i1 a1 i/\ZT.Lg b2 h i2 a2 i
def OO(x:ZT.Lg b h it l k):∃o,h.get? it=some o/\∀v,o.data≠.cell v:=let⟨o,e,d⟩:=Wu x;⟨o,e,fun v z=>by lia⟩
def lS{P:F0b}{w:F0c}{K:Fg}{elts:AAU}{x1}{pos:Pos}{b1 b2:Bool}{a1 a2 z TI TO i1 i2:AD}(ne:[z,TI,TO,i1,i2].Nodup) :
  Turn P w K (.Tuple elts x1 pos) (uG b1 b2 a1 a2) [z,TI,TO,i1,i2] z (z0 b1 b2 a1 a2 z TI TO i1 i2) where
 mem:=by simp
 obj:=fun i h st b hb=>by
  obtain⟨h1,h2,⟨u,v,h3⟩,h4,h5⟩:=st;have hb:=by simpa using hb
  rcases hb with rfl|rfl|rfl|rfl|rfl
  .exact⟨_,h1,fun v y=>by cases y⟩
  .exact⟨_,h2,fun v y=>by cases y⟩
  .exact⟨_,h3,fun v y=>by cases y⟩
  .exact OO h4
  .exact OO h5
 keep:=fun i h h' st k=>by
  obtain⟨h1,h2,⟨u,v,h3⟩,h4,h5⟩:=st;exact⟨k z BY _ h1,k TI BY _ h2,⟨u,v,k TO BY _ h3⟩,Hu h4 fun o e=>k i1 BY o e,Hu h5 fun o e=>k i2 BY o e⟩
 item:=by
  intro X hP hw hK hc i pins s σ H E I hf st hg;subst hP hw hK;obtain⟨xs,x,ys,y,q1,q2,hx,hy⟩:=hg;obtain⟨us,rv1,p1⟩:=q1.raw I;obtain⟨vs,rv2,p2⟩:=q2.raw I;obtain⟨u,hu,ru⟩:=rv1.get hx;obtain⟨v,hv,rv⟩:=rv2.get hy;obtain⟨t1,t2,⟨ta,tb,t3⟩,t4,t5⟩:=st;have e1:∀b∈[z,TI,TO,i1,i2],a1≠b:=fun b hb=>q1.none (hf b hb).1;have e2:∀b∈[z,TI,TO,i1,i2],a2≠b:=fun b hb=>q2.none (hf b hb).1;simp only[List.nodup_cons,List.mem_cons,List.not_mem_nil,or_false,not_or]at ne;obtain⟨⟨n1,n2,n3,n4⟩,⟨n5,n6,n7⟩,⟨n8,n9⟩,n10,_⟩:=ne;refine ZT.next_item (ZT.Hw (prog:=X.prog) (w:=X.w) (A:=X.A.in1) (I.ok.hd hc) b1 i1 a1 us (e1 i1 BY)) (ZT.Hw (prog:=X.prog) (w:=X.w) (A:=X.A.in1) (I.ok.hd hc) b2 i2 a2 vs (e2 i2 BY)) (⟨⟨Ne.symm n1,n5,n6,n7⟩,⟨Ne.symm n2,n8,n9⟩,⟨Ne.symm n3,Ne.symm n4,n10⟩,
   ⟨by simp[n3,Ne.symm (e1 z BY)],by simp[n8,Ne.symm (e1 TO BY)],by simp[Ne.symm n10,Ne.symm (e1 i2 BY)]⟩,⟨by simp[n4,Ne.symm (e2 z BY)],by simp[n9,Ne.symm (e2 TO BY)],by simp[n10,Ne.symm (e2 i1 BY)]⟩⟩) t1 t2 t3 ⟨t4,p1⟩ ⟨t5,p2⟩ (aD.mp hu).1 (aD.mp hv).1
   fun u' v' h' tk r1 r2 r3 r4 r5 r6 r7 r8 r9=>⟨_,rfl,wpAny_letOwnedTupleGo_zip (s:={s with heap:=h',toks:=tk}) r3 fun h'' z'' sb=>?_⟩
  rw[hu]at r1;rw[hv]at r2;cases r1;cases r2;have lt:∀b∈[z,TI,TO,i1,i2],b<s.heap.objs.size:=fun b hb=>by
   have hb:=by simpa using hb
   rcases hb with rfl|rfl|rfl|rfl|rfl
   .exact aH t1
   .exact aH t2
   .exact aH t3
   .obtain⟨o,e,_⟩:=OO t4;exact aH e
   .obtain⟨o,e,_⟩:=OO t5;exact aH e
  refine⟨.ref s.heap.objs.size,upd H s.heap.objs.size (.tup [x,y]),?_,rfl,⟨_,x,y,rfl,(I.Ac.fresh LK),rfl,fun zs hz=>by rw[hz.inj q1];exact hx,fun zs hz=>by rw[hz.inj q2];exact hy⟩,⟨z'',?_,⟨u,v,?_⟩,?_,?_⟩,fun b hb=>?_⟩
  .exact I.fT hf (fun b o hb q=>by
   simp at hb;exact(sb.2 b hb.1).trans (r9 b o hb.1 hb.2.2.1 hb.2.2.2.1 hb.2.2.2.2 q)) mr (.cons ru (.cons rv .nil)) ((sb.2 _ (bQ (lt z BY))).trans r7)
  .exact(sb.2 _ (Ne.symm n1)).trans (r9 _ _ (Ne.symm n1) n5 n6 n7 t2)
  .exact(sb.2 _ (Ne.symm n2)).trans r4
  .exact Hu r5.1 fun o e=>(sb.2 _ (Ne.symm n3)).trans e
  .exact Hu r6.1 fun o e=>(sb.2 _ (Ne.symm n4)).trans e
  .rw[AM (aL (lt b hb))];exact(hf b hb).1
 done:=by
  intro X hP hw hK hc i pins s σ H E I hf st hg;subst hP hw hK;obtain⟨xs,ys,q1,q2,he⟩:=hg;obtain⟨us,rv1,p1⟩:=q1.raw I;obtain⟨vs,rv2,p2⟩:=q2.raw I;obtain⟨t1,t2,⟨ta,tb,t3⟩,t4,t5⟩:=st;have e1:∀b∈[z,TI,TO,i1,i2],a1≠b:=fun b hb=>q1.none (hf b hb).1;have e2:∀b∈[z,TI,TO,i1,i2],a2≠b:=fun b hb=>q2.none (hf b hb).1;simp only[List.nodup_cons,List.mem_cons,List.not_mem_nil,or_false,not_or]at ne;obtain⟨⟨n1,n2,n3,n4⟩,⟨n5,n6,n7⟩,⟨n8,n9⟩,n10,_⟩:=ne;have he':i=us.length\/(i<us.length/\i=vs.length):=by rw[<-rv1.length,<-rv2.length];exact he
  refine ZT.next_end (ZT.Hw (prog:=X.prog) (w:=X.w) (A:=X.A.in1) (I.ok.hd hc) b1 i1 a1 us (e1 i1 BY)) (ZT.Hw (prog:=X.prog) (w:=X.w) (A:=X.A.in1) (I.ok.hd hc) b2 i2 a2 vs (e2 i2 BY)) (⟨⟨Ne.symm n1,n5,n6,n7⟩,⟨Ne.symm n2,n8,n9⟩,⟨Ne.symm n3,Ne.symm n4,n10⟩,
   ⟨by simp[n3,Ne.symm (e1 z BY)],by simp[n8,Ne.symm (e1 TO BY)],by simp[Ne.symm n10,Ne.symm (e1 i2 BY)]⟩,⟨by simp[n4,Ne.symm (e2 z BY)],by simp[n9,Ne.symm (e2 TO BY)],by simp[n10,Ne.symm (e2 i1 BY)]⟩⟩) t1 t2 t3 ⟨t4,p1⟩ ⟨t5,p2⟩ he' fun h' tk kp=>⟨rfl,?_⟩
  exact I.turn hf (fun b o hb q=>by
   simp at hb;exact kp b o hb.1 hb.2.2.1 hb.2.2.2.1 hb.2.2.2.2 q)
 self:=fun _ _ _ _ _ st h=>wpAny_pyIter_zip st.1 h
def yd(I:TA):TI:=fun σ H R=>I σ H fun vs l=>∃(b1 b2:Bool) (a1 a2:AD),vs=[.ref a1,.ref a2]/\(∃xs,Fc b1 l a1 xs)/\(∃ys,Fc b2 l a2 ys)/\R (uG b1 b2 a1 a2) l
def ei{X}{elts}{x1}{l}{p pos}(hg:Gl X "zip")(hm:X.mg "zip" = none)(ha:PA X [a,b] ta)(hs:starEach [a,b] X.env=[(false,eval a X.env),(false,eval b X.env)]:=by rfl)(M:starEach [b] X.env=[(false,eval b X.env)]:=by rfl):PI X (.Tuple elts x1 l) (.Call (.Name "zip" p) [a,b] [] pos) (yd ta):=by
 intro pins s σ H R I h;refine Call_ (FW I hg hm boot_zip (bA (Aw (ha pos pins s σ H _ I h) fun us s1 ⟨vs,H1,U,r1,q1⟩=>?_) (by rw[hs,M]) (by rw[M];rfl)));obtain⟨b1,b2,l1,l2,e,⟨xs,h1⟩,⟨ys,h2⟩,q⟩:=q1;subst e;cases r1 with
 |cons r Y=>
  cases Y with
  |cons r' Y=>
   cases Y;cases r;cases r';obtain⟨us,_,p1⟩:=h1.raw U;obtain⟨vs,_,p2⟩:=h2.raw U;refine ZT.kW p1 p2 fun h' z1 z2 z3 z4 z5 hk=>wpAny_pyIter_zip z1 (⟨_,[s1.heap.objs.size+4,s1.heap.objs.size+2,s1.heap.objs.size+3,s1.heap.objs.size,s1.heap.objs.size+1],_,_,H1,rfl,(U.kept hk),lS ?_,⟨z1,z2,⟨_,_,z3⟩,z4,z5⟩,fun b hb=>?_,q⟩)
   .simp
   have T:s1.heap.objs.size<=b:=by
    have Z:=by simpa using hb
    rcases Z with h|h|h|h|h<;>rw[h]<;>first|exact aG _|exact Nat.le_add_right _ _
   exact U.QG T (U.Ac.fresh T)
abbrev xr(K:Fg)(a:AD):It:=Nz K false 0 a
def sP(K:Fg)(I:TA):TI:=fun σ H R=>I σ H fun vs l=>∃a,vs=[.ref a]/\(∃xs,Am K l a xs)/\R (xr K a) l
def j8{X}{x1}{a}{Y}(hg:Gl X "enumerate")(hm:X.mg "enumerate" = none)(ha:PA X [a] Y)(hs:starEach [a] X.env=[(false,eval a X.env)]:=by rfl):PI X (.Tuple elts x1 U) (.Call (.Name "enumerate" p) [a] [] pos) (sP X.K Y):=by
 intro pins s σ H R I h;refine Call_ (FW I hg hm boot_enumerate (bA (Aw (ha pos pins s σ H _ I h) fun us s1 ⟨vs,H1,M,r1,q1⟩=>?_) hs rfl));obtain⟨t,e,⟨xs,hq⟩,q⟩:=q1;subst e;cases r1 with
 |cons r rr=>
  cases rr;cases r;obtain⟨its,rv,p',hz⟩:=M.list hq;refine call_enumerate_list p'.isList fun h' Z hit hsz hk=>wpAny_pyIter_enum Z (⟨s1.heap.objs.size+1,[s1.heap.objs.size+1,s1.heap.objs.size],_,_,H1,rfl,(M.kept hk),Sn (b:=false) t _ _ (show s1.heap.objs.size+1≠s1.heap.objs.size by simp),⟨⟨_,Z⟩,hit⟩,fun b hb=>?_,q⟩);have l:s1.heap.objs.size<=b:=by
   have T:=by simpa using hb
   rcases T with z|z
   .rw[z];exact Nat.le_succ _
   .rw[z];exact aG _
  exact M.QG l (M.Ac.fresh l)
section
variable{κ:Type}[DecidableEq κ]
def Co(kvs:List (κ×V))(k:κ):Option V:=(kvs.find? fun l=>decide (l.1=k)).map (·.2)
def putK(kvs:List (κ×V))(k:κ)(v:V):List (κ×V) :=
 if(kvs.any fun l=>decide (l.1=k))=true then kvs.map (fun l=>if l.1=k then(l.1,v) else l) else kvs++[(k,v)]
def QD{k:κ}(e:p.1=k):Co (p::r) k=some p.2:=by simp[Co,e]
def Pt{k:κ}(e:¬p.1=k):Co (p::r) k=Co r k:=by simp[Co,e]
theorem Pp(k:κ):∀kvs ,(kvs.any fun l=>decide (l.1=k))=(Co kvs k).isSome
 |[]=>rfl
 |p::r=>by
  rw[List.any_cons];by_cases e:p.1=k
  .simp only[QD e,decide_eq_true e,Bool.true_or,Option.isSome_some]
  .rw[Pt e,decide_eq_false e];exact Pp k r
def O5 kvs (k:κ) v:(putK kvs k v).length<=kvs.length+1:=by
 unfold putK
 grind
def ir{k:κ} v (h:Co kvs k=none):putK kvs k v=kvs++[(k,v)]:=by
 unfold putK;rw[Pp,h]
 rfl
def IE.eX(r:IE o u):o.isSome=u.isSome:=by
 cases o with
 |none=>cases u with
  |none=>rfl
  |some _=>exact r.elim
 |some _=>cases u with
  |none=>exact r.elim
  |some _=>rfl
def IE.getD(r:IE o u)(l:RelV d I):RelV (o.getD d) (u.getD I):=by
 cases o with
 |none=>cases u with
  |none=>exact l
  |some _=>exact r.elim
 |some _=>cases u with
  |none=>exact r.elim
  |some _=>exact r
def KV.val(r:KV kvs vs)(k:κ):IE (Co kvs k) (valueAt vs k):=by
 induction r with
 |nil=>exact True.intro
 | @cons p q ps I h t M=>
  obtain⟨l,T⟩:=h;by_cases e:p.1=k
  .rw[QD e,(show valueAt _ k=some q.2 by simp[valueAt,(l.symm.trans e)])];exact T
  .rw[Pt e,(show valueAt _ k=valueAt I k by simp[valueAt,(show ¬q.1=k from fun z=>e (l.trans z))])];exact M
def KV.any(r:KV kvs vs)(k:κ):(kvs.any fun l=>decide (l.1=k))=vs.any fun l=>decide (l.1=k):=by
 induction r with
 |nil=>rfl
 |cons h t I=>simp_all
def KV.kC(r:KV kvs vs)(k:κ)(M:RelV y u):KV (kvs.map fun l=>if l.1=k then(l.1,y) else l) (vs.map fun l=>if l.1=k then(l.1,u) else l):=by
 induction r with
 |nil=>exact .nil
 | @cons p q ps T h t I=>
  refine .cons ?_ I
  lia
def KV.put(r:KV kvs vs)(k:κ)(l:RelV y u):KV (putK kvs k y) (stored vs k u):=by
 unfold putK stored;rw[r.any k];by_cases e:(vs.any fun I=>decide (I.1=k))=true
 .rw[if_pos e,if_pos e];exact r.kC k l
 .rw[if_neg e,if_neg e];exact Paired.snoc r ⟨rfl,l⟩
def KV.length{kvs:List (κ×V)}(r:KV kvs vs):kvs.length=vs.length:=Paired.length r
end
def VQ(r:RelV (kV k) u):(Eg P w).is k u=true:=by
 cases k with
 |inl i=>obtain⟨t,e⟩:=r;subst e;exact gL i t
 |inr x=>obtain⟨t,e⟩:=r;subst e;exact X4 P w x t
theorem UD:∀ {ks} {us},Vals (ks.map kV) us->ItemsAre (Eg P w) ks us
 |[],_,r=>by cases r;exact .nil
 |k::ks,_,r=>by
  cases r with
  |cons h t=>exact .cons (VQ h) (UD t)
abbrev KT(H:Hp):List (List Key×V)->List (List Key×AD×VL)->Prop:=Paired fun p q=>p.1=q.1/\H q.2.1=some (.tup (p.1.map kV))/\RelV p.2 q.2.2
def KT.val(r:KT H kvs xs) k:IE (Co kvs k) ((atKey xs k).map (·.2)):=by
 induction r with
 |nil=>exact True.intro
 | @cons p q ps I h t M=>
  obtain⟨l,_,T⟩:=h;by_cases e:p.1=k
  .rw[QD e,(show atKey _ k=some q.2 by simp[atKey,(l.symm.trans e)])];exact T
  .rw[Pt e,(show atKey _ k=atKey I k by simp[atKey,(show ¬q.1=k from fun z=>e (l.trans z))])];exact M
def KT.kC(r:KT H kvs xs) k (M:RelV y u):KT H (kvs.map fun l=>if l.1=k then(l.1,y) else l) (xs.map (putAt k u)):=by
 induction r with
 |nil=>exact .nil
 | @cons p q ps T h t I=>
  refine .cons ?_ I;unfold putAt
  lia
def KT.put(r:KT H kvs xs) k (hb:H b=some (.tup (k.map kV))) (l:RelV y u):KT H (putK kvs k y) (storedH xs k b u):=by
 unfold putK storedH;rw[(show(kvs.any fun I=>decide _)=(atKey xs k).isSome by
  rw[Pp,(r.val k).eX,Option.isSome_map])]
 by_cases q:(atKey xs k).isSome=true
 .rw[if_pos q,if_pos q];exact r.kC k l
 .rw[if_neg q,if_neg q];exact Paired.snoc r ⟨rfl,hb,l⟩
def KT.keeps(r:KT H kvs xs)(l:∀b ys,H b=some (.tup ys)->H' b=some (.tup ys)):KT H' kvs xs :=
 Paired.lH r fun _ _ z=>⟨z.1,l _ _ z.2.1,z.2.2⟩
section
variable{P:F0b}{w:F0c}{H:Hp}{h:Heap}{a:AD}
def nD(ok:DZ P w H h)(e:Rd H a u):Cz P w H h a u:=e.ok ok
def Rp(ok:DZ P w H h)(e:Rd H a (.dK kvs)):kvs.length<=sizeLine/\(a==sysModules)=false/\∃vs,KV kvs vs/\h.DictOf (Eg P w) a vs :=
 nD ok e
def wX(ok:DZ P w H h)(e:H a=some (.dK kvs)):kvs.length<=sizeLine/\(a==sysModules)=false/\∃vs,KV kvs vs/\h.DictOf (Eg P w) a vs:=Rp ok (.inl e)
def N2(ok:DZ P w H h)(e:H a=some (.tup (ks.map kV))):(tupleKind (Eg P w)).is h ks a:=let⟨_,l,r,o,T,M,n,I⟩:=(ok a _ e);⟨o,l.toArray,n,T,M,I,by simpa using UD r⟩
def Qz(ok:DZ P w H h)(e:Rd H a (.dT kvs)):kvs.length<=sizeLine/\(a==sysModules)=false /\∃xs,KT H kvs xs/\h.DictOfH (tupleKind (Eg P w)) a xs:=by
 obtain⟨z,y,xs,r,o,es,ep,h1,Z,Y,U,T⟩:=(nD ok e);exact⟨z,y,xs,r,o,es,ep,h1,Z,Y,U,fun x I=>(show ∀ {l:List _} {m:List _},KT H l m->∀x∈m,(tupleKind _).is h x.1 x.2.1 by
  intro l m q
  induction q with
  |nil=>simp
  | @cons p q ps qs hq t M=>
   intro x I;rcases aO.mp I with e|I
   .subst e;exact N2 ok Rs
   .exact M x I) r x I,T⟩
def VP(ok:DZ P w H h)(e:H a=some (.dT kvs)):kvs.length<=sizeLine/\(a==sysModules)=false /\∃xs,KT H kvs xs/\h.DictOfH (tupleKind (Eg P w)) a xs:=Qz ok (.inl e)
end
def LC(H:Hp)(a:AD)(y:V)(r:Option V):Prop :=
 (∃kvs k,Rd H a (.dK kvs)/\y=kV k/\r=Co kvs k)\/∃kvs k b,Rd H a (.dT kvs)/\y=.ref b/\H b=some (.tup (k.map kV))/\r=Co kvs k
def Xw(H:Hp)(a:AD)(y v:V)(H':Hp):Prop :=
 (∃kvs k,H a=some (.dK kvs)/\y=kV k/\kvs.length<sizeLine/\H'=upd H a (.dK (putK kvs k v))) \/
 ∃kvs k b,H a=some (.dT kvs)/\y=.ref b/\H b=some (.tup (k.map kV))/\kvs.length<sizeLine/\H'=upd H a (.dT (putK kvs k v))
def LC.t(e:H a=some (.dT kvs))(l:H b=some (.tup (k.map kV))):LC H a (.ref b) (Co kvs k):=.inr ⟨kvs,k,b,.inl e,rfl,l,rfl⟩
def Xw.t(e:H a=some (.dT kvs))(I:H b=some (.tup (k.map kV)))(l:kvs.length<sizeLine):Xw H a (.ref b) v (upd H a (.dT (putK kvs k v))):=.inr ⟨kvs,k,b,e,rfl,I,l,rfl⟩
section
variable{X:Cx}{pins:LE}{σ:St}{H:Hp}{s:SD}{a:AD}{y v:V}{u r:VL}{o:Option V}{A:F0d}{E:AAN}
def Inv.big(I:BH):sysModules<s.heap.objs.size:=bZ AC ((I.mod.glob.keeps I.bk).lt)
def iV(hu:A.units+1<cLine)(I:BH)(g:LC H a y (some v))(ry:RelV y u)(h:∀T s',Inv X pins σ H s'->RelV v T->Q T s'):wpAny B1 A (getItem Jc u) Q E s:=by
 rcases g with ⟨kvs,k,e,Z,l⟩|⟨kvs,k,b,e,Z,eb,l⟩
 .subst Z;obtain⟨z,hd,vs,rel,dd⟩:=Rp I.Ac e;obtain⟨T,U,M⟩:=IE.some_of (by rw[l];exact rel.val k);exact wpAny_getItem_of (VQ ry) dd.mapOf U (h T _ (I.tok _) M)
 .subst Z;cases ry;obtain⟨z,hd,xs,rel,dd⟩:=Qz I.Ac e;obtain⟨T,U,M⟩:=IE.some_of (by rw[l];exact rel.val k);obtain⟨p,hp,Y⟩:=aC.mp U;refine wpAny_getItem_heap (tupleKind_room_in1 hu) (N2 I.Ac eb) dd hp ?_;rw[Y];exact h T _ (I.tok _) M
def SY(I:BH)(l:fV (H a))(M:Heap.SameBut a s.heap h')(T:∃q,h'.get? a=some q)(new:Cz X.prog X.w (upd H a ob) h' a ob):Inv X pins σ (upd H a ob) {s with heap:=h',toks:=t'} :=
 I.write l (.inl rfl) (fun b q hb z=>(M.2 b hb).trans z) T new
def sI(z:kvs.length<=sizeLine)(hd:(a==sysModules)=false)(rel:KV kvs vs)(dd:h'.DictOf (Eg P w) a vs):Cz P w H' h' a (.dK kvs):=⟨z,hd,vs,rel,dd⟩
def dk(hu:A.units+1<cLine)(I:BH)(g:Xw H a y v H')(ry:RelV y u)(rv:RelV v r)(h:∀s',Inv X pins σ H' s'->Q () s'):wpAny B1 A (setItem Jc u r) Q E s:=by
 rcases g with ⟨kvs,k,e,Z,l,eH⟩|⟨kvs,k,b,e,Z,eb,l,eH⟩
 .subst Z eH;obtain⟨z,hd,vs,rel,dd⟩:=wX I.Ac e;exact wpAny_setItem_pairs (hsz:=(show vs.length<=sizeLine by rw[<-rel.length];exact z)) (VQ ry) dd fun h' M Y=>h _ (SY I (by rw[e];exact True.intro) Y (let⟨q,_,_,T,_⟩:=M;⟨q,T⟩) (sI (show(putK kvs k v).length<=sizeLine by have:=O5 kvs k v;exact aK ‹_› ‹_›) hd (rel.put k rv) M))
 .subst Z eH;cases ry;obtain⟨z,hd,xs,rel,dd⟩:=VP I.Ac e;refine wpAny_setItem_heap (hsz:=(show xs.length<=sizeLine by rw[<-Paired.length rel];exact z)) (tupleKind_room_in1 hu) (N2 I.Ac eb) dd fun h' M Y=>h _ ?_;obtain⟨q,es,ep,T,h2,h3,h4,_,h5⟩:=M;refine SY I (by rw[e];exact True.intro) Y ⟨q,T⟩ ⟨(show(putK kvs k v).length<=sizeLine by have:=O5 kvs k v;exact aK ‹_› ‹_›),hd,_,(rel.put k eb rv).keeps fun c ys ec=>?_,q,es,ep,T,h2,h3,h4,h5⟩;rw[AM (mB ec e M0)];exact ec
end
def Xk(i:Expr):Prop:=∀l I,subscripted i false l I=operate [l,I] (getItem l I)
def Yh{T id} (hl:typeLookup (.type T) "__getitem__" = pure (some (.builtin id)))(hs:Xk slice) (h:wpAny As A (eval value env) (fun o M=>wpAny As A (eval slice env) (fun i l=>l.TypeIs o T/\wpAny As A (getItem o i) Q E l) E M) E s):wpAny As A (eval (.Subscript value slice pos) env) Q E s:=by
 refine Subscript_ (aV h (fun o M Y=>aV Y (fun i l I=>?_) fun _ _ x=>x) fun _ _ x=>x);obtain⟨hT,I⟩:=I;refine Wb (Wb (wpAny_specialOf hT hl ?_))
 first
  |exact aB (Wb (show wpAny _ A _ _ E l by
  rw[hs o i];exact wpAny_operating (aV I (fun r Z U=>Wb (wpAny_letTemporaryGo (aB U))) fun _ _ x=>x)))
  |rfl
  |rfl
def xY(I ty:TE):TE:=fun σ H Q=>I σ H fun x M=>ty σ M fun y l=>∃a v,x=.ref a/\LC l a y (some v)/\Q v l
def mU(M ty I:TE):TS:=fun D σ H=>I σ H fun v Y=>M σ Y fun x U=>ty σ U fun y T=>∃a l,x=.ref a/\Xw T a y v l/\D.nx σ l
section
variable{X:Cx}{o i value:Expr}{pos pos':Pos}{td ty tv:TE}
def Yg(hu:X.A.units+1<cLine)(ho:PE X o td)(hi:PE X i ty)(hs:Xk i):PE X (.Subscript o i pos) (xY td ty):=by
 intro pins s σ H Q I h;refine Yh PySem.F.slot_dict_getitem.lookup hs (Aw (ho pins s σ H _ I h) fun u s1 ⟨x,H1,I1,Y,q1⟩=>Aw (hi pins s1 σ H1 _ I1 q1) fun iv s2 ⟨y,H2,T,U,a,v,ex,g,Z⟩=>?_);subst ex;obtain rfl:u=Value.ref a:=Y;exact⟨(by
   rcases g with ⟨kvs,k,e,_,_⟩|⟨kvs,k,b,e,_,_,_⟩
   .obtain⟨_,_,vs,_,M⟩:=Rp T.Ac e;exact M.typeIs
   .obtain⟨_,_,xs,_,M⟩:=Qz T.Ac e;exact M.typeIs),iV hu T g U fun w' s3 I3 l=>⟨v,H2,I3,l,Z⟩⟩
def qT(hu:X.A.units+1<cLine)(ho:PE X o td)(hi:PE X i ty)(hv:PE X value tv)(hs:swapsWith value (some (.Subscript o i pos')) pos.line X.env=pure false):PS X (.Assign [.Subscript o i pos'] value pos) (mU td ty tv):=by
 intro pins s σ H D I h;refine wpAny_Assign_Subscript (Aw (hv pins s σ H _ I h) fun r s1 ⟨v,H1,I1,T,Z⟩=>Aw (ho pins s1 σ H1 _ I1 Z) fun u s2 ⟨x,H2,I2,M,Y⟩=>Aw (hi pins s2 σ H2 _ I2 Y) fun iv s3 ⟨y,H3,I3,l,a,H4,ex,g,U⟩=>?_) hs;subst ex;obtain rfl:u=Value.ref a:=M;exact dk hu I3 g l T fun s4 I4=>⟨σ,H4,I4,U⟩
end
def jM(h:Heap)(hb:sysModules<h.objs.size):Cz P w H (h.push { cls:=.type "dict",data:=.dict #[]}) h.objs.size (.dT []) :=
 ⟨bC _,beq_eq_false_iff_ne.mpr (Ne.symm (aL hb)),[],.nil,_,#[],0,Heap.get?_push_size _ rfl,⟨rfl,rfl,rfl⟩,rfl,rfl,List.nodup_nil⟩
def vJ:TE:=fun _ H Q=>∀p,H p=none->Q (.ref p) (upd H p (.dT []))
section
variable{X:Cx}{pos:Pos}
def Xd:PE X (.Dict [] [] pos) vJ:=fun pins s σ H Q I h=>
 wpAny_Dict_empty ⟨.ref s.heap.objs.size,_,I.laid (fun _ _ q=>aF _ q) LK (jM s.heap I.big),rfl,h _ (I.Ac.fresh LK)⟩
end
structure M2(X:Cx)(o:Expr)(m:Str)(apos:Pos)(e f:Expr)(cpos:Pos):Prop where
 base:attributeBase o m X.env (eval o X.env)=eval o X.env
 BA:((backTo cpos (starEach [e,f] X.env)).all (fun x=>!x.1)&&(backToKw cpos (keywordEach [] X.env)).all (fun x=>x.1.isSome)
  && decide (([e,f]:List Expr).length+([]:List Keyword).length+(if([]:List Keyword).isEmpty then 0 else 1)<30))=true
 line:(apos.endLine==cpos.line)=true
 trees:backTo cpos (starEach [e,f] X.env)=[Fj,(false,eval f X.env)]
def rG(H:Hp)(a:AD):Prop:=(∃kvs,Rd H a (.dK kvs))\/∃kvs,Rd H a (.dT kvs)
def iK{σ:St}(I:BH)(d:rG H a):s.TypeIs Jc "dict" /\(∀b,Value.ref a=.ref b->∃ob,s.heap.get? b=some ob/\ob.dict=none)/\(a==sysModules)=false:=by
 rcases d with ⟨kvs,e⟩|⟨kvs,e⟩
 .obtain⟨_,hd,vs,_,l⟩:=Rp I.Ac e;refine⟨l.typeIs,fun b q=>?_,hd⟩;cases q;obtain⟨ob,_,_,T,M,_⟩:=l;exact⟨ob,T,M.2.1⟩
 .obtain⟨_,hd,xs,_,l⟩:=Qz I.Ac e;refine⟨l.typeIs,fun b q=>?_,hd⟩;cases q;obtain⟨ob,_,_,T,M,_⟩:=l;exact⟨ob,T,M.2.1⟩
section
variable{X:Cx}{pins:LE}{σ:St}{H:Hp}{s:SD}{a:AD}{y d:V}{u r:VL}{o:Option V}{A:F0d}{E:AAN}
def tG(hu:A.units+1<cLine)(I:BH)(g:LC H a y o)(Y:RelV y u)(Z:RelV d r)(h:∀U s',Inv X pins σ H s'->RelV (o.getD d) U->Q U s'):wpAny B1 A (call (.builtin "dict.get") [.ref a,u,r]) Q E s:=by
 rcases g with ⟨kvs,k,e,T,l⟩|⟨kvs,k,b,e,T,eb,l⟩
 .subst T;obtain⟨z,hd,vs,rel,M⟩:=Rp I.Ac e;refine call_meetsIn PySem.F.slot_dict_get M.typeIs PySem.F.entry_dict_get (PySem.F.args_dict_get_3 _ _ _) (meets_dict_get_default _ a (VQ Y) hd r) ⟨_,M.mapOf,h _ _ (I.tok _) ?_⟩;rw[l];exact(rel.val k).getD Z
 .subst T;cases Y;obtain⟨z,hd,xs,rel,M⟩:=Qz I.Ac e;refine call_meetsIn PySem.F.slot_dict_get M.typeIs PySem.F.entry_dict_get (PySem.F.args_dict_get_3 _ _ _) (meetsH_dict_get_default _ a b hd r) ⟨tupleKind_room_in1 hu,k,xs,N2 I.Ac eb,M,h _ _ (I.tok _) ?_⟩;rw[l];exact(rel.val k).getD Z
end
def tE(T ty M:TE):TE:=fun σ H Q=>T σ H fun x I=>∃a,x=.ref a/\rG I a/\ty σ I fun y U=>M σ U fun z l=>∃o,LC l a y o/\Q (o.getD z) l
section
variable{X:Cx}{o e f:Expr}{apos cpos:Pos}{td ty tx:TE}
def jA(hu:X.A.units+1<cLine)(ho:PE X o td)(he:PE X e ty)(hf:PE X f tx)(m:M2 X o "get" apos e f cpos):PE X (.Call (.Attribute o "get" apos) [e,f] [] cpos) (tE td ty tx):=by
 intro pins s σ H Q I h;refine wpAny_Call_method m.base m.BA m.line PySem.F.plainAttrs_dict PySem.F.slot_dict_get PySem.F.type_dict_get (Aw (ho pins s σ H _ I h) fun u s1 ⟨x,H1,M,Z,a,ex,d,q1⟩=>?_);subst ex;obtain rfl:u=Value.ref a:=Z;obtain⟨t1,T,_⟩:=iK M d;refine⟨t1,T,?_⟩;rw[m.trees];exact Calls.callWith_builtin rfl (Calls.evalArgs_plain (bM (Aw (he pins s1 σ H1 _ M q1) fun iv s2 ⟨y,H2,I2,Y,q2⟩=>
  bM (Aw (hf pins s2 σ H2 _ I2 q2) fun fv s3 ⟨z,H3,I3,U,ov,g,q3⟩=>Calls.spliced_nil (tG hu I3 g Y U fun w' s4 I4 l=>⟨_,H3,I4,l,q3⟩)))))
end
end L2
namespace IT
open PySem PySem.W PyProof.Rows PySem.SeqAt
def lt:List Int->List Int->Bool
 |[],[]=>false
 |[],_::_=>true
 |_::_,[]=>false
 |a::r,b::q=>if a=b then lt r q else decide (a<b)
theorem lt_irrefl:∀a,lt a a=false
 |[]=>rfl
 |a::r=>by rw[lt,if_pos rfl,lt_irrefl r]
theorem lt_trans:∀a b c,lt a b=true->lt b c=true->lt a c=true
 |[],[],_,h,_=>by lia
 |[],_::_,[],_,h=>by cases h
 |[],_::_,_::_,_,_=>rfl
 |_::_,[],_,h,_=>by cases h
 |_::_,_::_,[],_,h=>by cases h
 |a::r,b::q,c::p,h,k=>by
  rw[lt]at h k ⊢;by_cases I:a=b
  .subst I;rw[if_pos rfl]at h;by_cases l:a=c
   .rw[if_pos l]at k ⊢;exact lt_trans r q p h k
   lia
  lia
theorem D3:∀a b,lt a b=false->lt b a=false->a=b
 |[],[],_,_=>rfl
 |[],_::_,h,_=>by cases h
 |_::_,[],_,h=>by cases h
 |a::r,b::q,h,k=>by
  rw[lt]at h k;by_cases e:a=b
  .subst e;rw[if_pos rfl]at h k;rw[D3 r q h k]
  .lia
def IU a b c (h:lt a c=true):lt a b=true\/lt b c=true:=by
 cases k:lt a b with
 |true=>lia
 |false=>
  right
  cases m:lt b c with
  |true=>rfl
  |false=>
   cases n:lt b a with
   |true=>have:=lt_trans b a c n h;lia
   |false=>have:=D3 a b k n;lia
def ord:KeyOrd where
 α:=List Int
 blt:=lt
 irrefl:=lt_irrefl
 trans:=lt_trans
 negTrans:=IU
 total:=D3
def Is:List Int->List VL->Prop
 |[],us=>us=[]
 |k::r,us=>∃t rest,us=.int k t::rest/\Is r rest
theorem Is.length:∀ {ks} {us},Is ks us->us.length=ks.length
 |[],us,h=>by subst h;rfl
 |k::r,us,h=>by
  obtain⟨t,rest,rfl,h⟩:=h;rw[(FU),(FU),Is.length h]
end IT
namespace L2
open PySem PySem.Spec PyProof.Rows
theorem RL:∀ {ps} {us},Vals (ps.map V.int) us->IT.Is ps us
 |[],_,r=>by cases r;rfl
 |p::ps,_,r=>by
  cases r with
  |cons h t=>
   obtain⟨tk,rfl⟩:=h;exact⟨tk,_,rfl,RL t⟩
def fZ(ps:AAS):(ps.map Sum.inl).map kV=ps.map V.int:=by rw[(BZ)];rfl
theorem Np:∀ {xs:List α} {ys} {j:Nat} {x} {y:β},Paired F xs ys->xs[j]? = some x->ys[j]? = some y->F x y
 |_,_,j,x,y,.nil,h,_=>by simp at h
 |_,_,0,x,y,.cons f _,h,k=>by simp_all
 |_,_,j+1,x,y,.cons _ r,h,k=>Np r (by simpa using h) (by simpa using k)
theorem NO:∀as:List AD,Vals (as.map V.ref) (as.map Value.ref)
 |[]=>.nil
 |a::as=>.cons rfl (NO as)
end L2
namespace IT
open PySem PySem.W PyProof.Rows PySem.SeqAt
section
open PySem.AutoSeq1 (wpAny_loadPart')
open PySem.MeetsSeq PySem.MeetsSeq2 PySem.MeetsSeq3
def jZ(l b:AD)(items I:Array VL)(n n2:Nat)(dd dd2:Option AD)(sl sl2:Array (Option VL))(t u:AAS):Meets (Builtin.«tuple.__ge__» ⟨[.ref l,.ref b],[]⟩) (fun A R s=>s.heap.get? l=some { cls:=.type "tuple",dict:=dd,data:=.seq items n,slots:=sl}/\s.heap.get? b=some { cls:=.type "tuple",dict:=dd2,data:=.seq I n2,slots:=sl2} /\Is t items.toList/\Is u I.toList/\A.units<cLine/\R (.ok (.ret (.bool (!lt t u)))) s) :=
 .of_wp fun prog w A R s h=>by
  obtain⟨hp,g,d,tk,os⟩:=s;obtain⟨hl,hb,hi,hj,hun,h⟩:=h;have f2:=AutoSeq1.sub_tuple_tuple;have z1:items.size=t.length:=by rw[<-Is.length hi];simp
  have z2:I.size=u.length:=by rw[<-Is.length hj];simp
  wp_walk using wpAny_loadPart' hl,wpAny_loadPart' hb,wpAny_forIn_list _ (fun rest b s'=>b.1=none/\s'=⟨hp,g,d,tk,os⟩/\∃(vs ws:List VL) (t' Y:List Int),rest=vs.zip ws /\
   Is t' vs/\Is Y ws/\t'.length+I.size=Y.length+items.size/\R (.ok (.ret (.bool (!lt t' Y)))) ⟨hp,g,d,tk,os⟩) _
  case turn=>
   rintro⟨y,x⟩ rest b s' ⟨hb',rfl,vs,ws,t',Y,Z,U,T,M,hR⟩;cases t' with
   |nil=>rw[Is]at U;subst U;rw[List.zip_nil_left]at Z;cases Z
   |cons bt rt=>
    cases Y with
    |nil=>rw[Is]at T;subst T;rw[List.zip_nil_right]at Z;cases Z
    |cons bu ru=>
     rw[Is]at U T;obtain⟨a1,v1,rfl,p3⟩:=U;obtain⟨a2,v2,rfl,q3⟩:=T;rw[List.zip_cons_cons]at Z
     injection Z with hyx hrest
     injection hyx with hy hx
     subst hy hx;rw[lt]at hR;simp only[List.length_cons]at M;have he:=EqAt.int_int (A:=A.in1) (s:=⟨hp,g,d,tk,os⟩) bt a1 bu a2;refine Wb (he prog w _ _ ?_);by_cases hc:bt=bu
     .rw[if_pos hc]at hR;rw[beq_iff_eq.mpr hc]
      wp_walk
      exact⟨rfl,rfl,_,_,_,_,hrest,p3,q3,by lia,hR⟩
     .rw[if_neg hc]at hR;rw[beq_eq_false_iff_ne.mpr hc];have hri:∀(E:VL->SD->Prop) (Q:VL->SD->Prop),Q (.bool (decide (bu<=bt))) ⟨hp,g,d,tk,os⟩->wpAny As A.in1 (richCompare .GtE (.int bt a1) (.int bu a2)) Q E ⟨hp,g,d,tk,os⟩:=fun E Q h=>PyProof.Rows.ge_int h;have e:(!decide (bt<bu))=decide (bu<=bt):=by rw[Bool.eq_iff_iff];simp
      rw[e]at hR
      wp_walk using hri
      exact⟨_,rfl,by simpa using hR⟩
  case fin=>
   rintro⟨b1,b2⟩ s' ⟨hb',rfl,vs,ws,t',Y,Z,U,T,M,hR⟩;simp only at hb';subst hb';have hv:lt t' Y=decide (items.size<I.size):=by
    cases t' with
    |nil=>
     cases Y with
     |nil=>
      simp only[List.length_nil]at M;exact(decide_eq_false AS).symm
     |cons c q=>
      simp only[List.length_cons,List.length_nil]at M;exact(decide_eq_true AS).symm
    |cons bt rt=>
     cases Y with
     |nil=>
      simp only[List.length_cons,List.length_nil]at M;exact(decide_eq_false AS).symm
     |cons c q=>
      rw[Is]at U T;obtain⟨_,_,rfl,_⟩:=U;obtain⟨_,_,rfl,_⟩:=T;rw[List.zip_cons_cons]at Z;cases Z
   have e:(!decide (items.size<I.size))=decide (I.size<=items.size):=by rw[Bool.eq_iff_iff];simp
   rw[hv,e]at hR
   wp_walk
   exact⟨_,rfl,by simpa[Builtin.Tuple.tupleCompareSizes]using hR⟩
  case h=>
   exact⟨rfl,rfl,items.toList,I.toList,t,u,rfl,hi,hj,by lia,h⟩
end
section
open PySem.MeetsSeq PySem.MeetsSeq2 PySem.MeetsSeq3
variable{prog:F0b}{w:F0c}{A:F0d}{E:AAN}{s:SD}{t u:AAS}{a b:AD}{its its':AAM}
def xh(h1:s.heap.IsTuple a its.toArray)(k1:Is t its)(h2:s.heap.IsTuple b its'.toArray)(k2:Is u its')(hu:A.units+1<cLine)(h:Q (.bool (!lt t u)) s):wpAny As A (richCompare .GtE Jc (.ref b)) Q E s:=by
 obtain⟨⟨cls,dd,data,sl⟩,Z,hc,n,T⟩:=id h1;obtain⟨⟨cls2,Y,data2,M⟩,l,U,n2,I⟩:=id h2;subst hc T U I;exact richCompare_meets_room ⟨_,Z,rfl⟩ ⟨_,l,rfl⟩ PySem.F.slot_tuple_ge PySem.F.entry_tuple_ge (PySem.F.args_tuple_ge_2 _ _) (jZ a b its.toArray its'.toArray n n2 dd Y sl M t u)
  ⟨Z,l,by lia,by lia,by lia,⟨(fun x=>nomatch x),h⟩⟩ AS
end
end IT
namespace L2
open PySem PySem.Spec PyProof.Rows
def sM(hu:IS):Cj X (compareOp .GtE) (fun x y H Q=>∃(a b:AD) (ps l:AAS),x=.ref a/\y=.ref b/\H a=some (.tup (ps.map V.int))/\H b=some (.tup (l.map V.int))/\Q (.bl (!IT.lt ps l)) H):=by
 rintro pins s σ H x y v u' Q I Y U ⟨a,b,ps,l,rfl,rfl,ha,hb,q⟩;cases Y;cases U;obtain⟨i1,T,p1,_⟩:=I.tuple (A5.of ha);obtain⟨i2,M,Z,_⟩:=I.tuple (A5.of hb);exact IT.xh p1 (RL T) Z (RL M) AS ⟨.bl _,H,I,rfl,q⟩
end L2
namespace TH
open PySem PyProof.Rows PySem.SeqAt
def JX:Tr->List Int
 |.nil=>[]
 |.cons b r=>reduceHash (Builtin.Tuple.tupleHashOf (JX b))::JX r
def BD(t:Tr):Int:=reduceHash (Builtin.Tuple.tupleHashOf (JX t))
section
variable{prog:F0b}{w:F0c}{E:AAN}
def IsTuple.ty{s:SD}(e:s.heap=h)(k:h.IsTuple a x):s.TypeIs Jc "tuple" := by
 subst e;obtain⟨o,l,I,_⟩:=k;exact⟨o,l,I⟩
def Yp(prog:F0b)(w:F0c)(E:AAN)(t:Tr):Prop:=∀us A s (b:Array Int) Q,Vs s.heap t us->A.units+t.deep<=cLine ->
 (∀tk l,l.toList=b.toList++JX t->Q l {s with toks:=tk})->wpAny As A (forIn us b fun x r=>do let h <-pyHash x;pure PUnit.unit;pure (ForInStep.yield (r.push h))) Q E s
def O0(row:Yp prog w E t)(I:s.heap.IsTuple a l.toArray)(T:Vs s.heap t l)(U:A.units+t.deep<cLine) (h:∀tk,Q (BD t) {s with toks:=tk}):wpAny As A (pyHash Jc) Q E s:=by
 obtain⟨o,M,Y,n,hd⟩:=id I;refine PySem.W.pyHash_slot (IsTuple.ty rfl I) F.slot_tuple_hash F.entry_tuple_hash (F.args_tuple_hash_1 _) (beq_builtin_none _) (.inr AS) ?_;show wpAny _ _ (Builtin.Tuple.tupleItemsOf _>>=_) _ _ s;refine Wb (wpAny_tupleItemsOf M hd (Wb ?_));rw[<-Array.forIn_toList];refine row l A.in1 s #[] _ T AS fun tk b hb=>?_;show wpAny _ _ (retInt _) _ _ _;rw[hb];exact Wb (wpAny_mkInt (aB ⟨_,_,rfl,h _⟩))
theorem P0:∀t ,Yp prog w E t
 |.nil=>fun us A s b Q e _ h=>by subst e;exact aB (h s.toks b (by simp[JX]))
 |.cons c r=>fun us A s b Q e Z h=>by
  obtain⟨a,I,rest,rfl,U,T,M⟩:=e;have hd:(Tr.cons c r).deep=max _ r.deep:=rfl;rw[List.forIn_cons];refine Wb (Wb (O0 (P0 c) U T AS fun tk=>Wb (aB (aB ?_))));exact P0 r rest A _ _ Q M AS fun l Y hb=>h l Y (by simp[hb,JX,BD])
def qQ(T:s.heap.IsTuple a l.toArray)(M:Vs s.heap t l)(I:A.units+t.deep<cLine) (h:∀tk,Q (BD t) {s with toks:=tk}):wpAny As A (pyHash Jc) Q E s:=O0 (P0 t) T M I h
def Good(h:Heap)(n:Nat)(v:VL):Prop:=∃a l t,v=.ref a/\h.IsTuple a l.toArray/\Vs h t l/\t.deep<n
theorem MK:∀ {t} {us} {n},Vs h t us->t.deep<=n->∀v∈us,Good h n v
 |.nil,us,n,e,_,v,l=>by subst e;cases l
 |.cons c r,us,n,e,hd,v,l=>by
  obtain⟨a,I,rest,rfl,U,T,M⟩:=e;rw[Tr.deep]at hd;rcases aO.mp l with rfl|l
  .exact⟨a,I,c,rfl,U,T,by lia⟩
  .exact MK M AS v l
theorem WU:∀n {v} {A} {s} {Q},Good s.heap n v->Q true s->wpAny As A (hashByValue n v) Q E s
 |0,v,A,s,Q,⟨_,_,_,_,_,_,z⟩,_=>by contradiction
 |n+1,v,A,s,Q,⟨a,U,t,e,T,h2,hd⟩,h=>by
  subst e;obtain⟨o,Z,hc,k,I⟩:=id T;refine Wb (wpAny_specialOf (IsTuple.ty rfl T) F.slot_tuple_hash.lookup (Wb (bE Z I (Wb ?_))));rw[<-Array.forIn_toList];refine wpAny_forIn_list _ (fun rest r s'=>r.1=none/\s'=s/\∀v∈rest,Good s.heap n v) _ ?_ ?_ _ _ ⟨rfl,rfl,MK h2 (Nat.le_of_lt_succ ‹_›)⟩
  .rintro v rest r s' ⟨M,rfl,l⟩;exact Wb (WU n (l v aS) (aB ⟨rfl,rfl,fun u Y=>by grind⟩))
  .rintro⟨r1,r2⟩ s' ⟨M,rfl,_⟩;subst M;exact aB h
theorem quiet:∀n {v} {A} {s} {Q},Good s.heap n v->Q true s->wpAny As A (eqIsQuiet n v) Q E s
 |0,v,A,s,Q,⟨_,_,_,_,_,_,z⟩,_=>absurd z (bI _)
 |n+1,v,A,s,Q,⟨a,Z,t,e,Y,h2,hd⟩,h=>by
  subst e;have U:=IsTuple.ty rfl Y;obtain⟨o,ho,hc,k,M⟩:=id Y;unfold eqIsQuiet;refine Wb (wpAny_specialOf U F.slot_tuple_eq.lookup (Wb (wpAny_isInstance U isSubtype_tuple_tuple (Wb (bE ho M (Wb ?_))))));rw[<-Array.forIn_toList];refine wpAny_forIn_list _ (fun rest r s'=>r.1=none/\s'=s/\∀v∈rest,Good s.heap n v) _ ?_ ?_ _ _ ⟨rfl,rfl,MK h2 (Nat.le_of_lt_succ ‹_›)⟩
  .rintro v rest r s' ⟨T,rfl,l⟩;exact Wb (quiet n (l v aS) (aB ⟨rfl,rfl,fun u I=>l u (aQ _ I)⟩))
  .rintro⟨r1,r2⟩ s' ⟨T,rfl,_⟩;subst T;exact aB h
theorem Py:∀n {v} {A} {s} {Q},Good s.heap n v->Q false s->wpAny As A (ofAClassStatement n v) Q E s
 |0,v,A,s,Q,⟨_,_,_,_,_,_,z⟩,_=>absurd z (bI _)
 |n+1,v,A,s,Q,⟨a,Y,t,e,U,h2,hd⟩,h=>by
  subst e;obtain⟨o,Z,hc,k,M⟩:=id U;unfold ofAClassStatement;refine Wb (wpAny_typeOf (IsTuple.ty rfl U) (Wb (aB (Wb (bE Z M (Wb ?_))))));rw[<-Array.forIn_toList];refine wpAny_forIn_list _ (fun rest r s'=>r.1=none/\s'=s/\∀v∈rest,Good s.heap n v) _ ?_ ?_ _ _ ⟨rfl,rfl,MK h2 (Nat.le_of_lt_succ ‹_›)⟩
  .rintro v rest r s' ⟨T,rfl,l⟩;exact Wb (Py n (l v aS) (aB ⟨rfl,rfl,fun u I=>l u (aQ _ I)⟩))
  .rintro⟨r1,r2⟩ s' ⟨T,rfl,_⟩;subst T;exact aB h
def lX{x}{l}{A}{s}(hx:Good s.heap 8 x)(hl:∀y∈l,Good s.heap 8 y)(h:Q false s):wpAny As A (searchCouldBeSeen x l) Q E s:=by
  refine Wb (wpAny_forIn_list _ (fun rest r s'=>r.1=none/\s'=s/\∀v∈rest,Good s.heap 8 v) _ ?_ ?_ _ _ ⟨rfl,rfl,hl⟩)
  . rintro v rest r s' ⟨hr,rfl,hall⟩
    refine aV ((show ∀b ,wpAny As A (if b=true then pure (ForInStep.yield (none,())) else do
        let q <-eqIsQuiet 8 x
        if(!q)=true then pure (ForInStep.done (some true,())) else do
          let q <-eqIsQuiet 8 v
          if(!q)=true then pure (ForInStep.done (some true,())) else do
            let q <-ofAClassStatement 8 x
            if q=true then pure (ForInStep.done (some true,())) else do
              let q <-ofAClassStatement 8 v
              if q=true then pure (ForInStep.done (some true,())) else pure (ForInStep.yield (none,())))
        (fun st s''=>match st with
          |ForInStep.yield r=>r.1=none/\s''=s'/\∀v∈rest,Good s'.heap 8 v
          |ForInStep.done r=>False) E s' from fun b=>by
      cases b with
      |true=>exact aB ⟨rfl,rfl,fun u hu'=>hall u (aQ _ hu')⟩
      |false=>
        exact Wb (quiet 8 hx (Wb (quiet 8 (hall v aS) (Wb (Py 8 hx (Wb (Py 8 (hall v aS) (aB ⟨rfl,rfl,fun u hu'=>hall u (aQ _ hu')⟩))))))))) _) (fun st s'' z=>?_) fun _ _ z=>z
    cases st with
    |yield r=>exact z
    |done r=>exact z.elim
  . rintro⟨r1,r2⟩ s' ⟨hr,rfl,_⟩
    subst hr
    exact aB h
end
end TH
namespace TH
open PySem PyProof.Rows PySem.SeqAt
abbrev ES:=Array (Int×Tr)
def Oz(l:ES)(i:Nat):Int:=(l[i]?.map Fk).getD 0
def bj(l:ES)(t:SetTable)(x:Tr)(h:Int):Option (Option Nat) :=
 if t.gaveWay then none else
 match t.probe (Oz l) h (t.probeStart h) with
 |some (.empty j none)=>some (some j)
 |some (.candidate _ i _)=>match l[i]? with
  |some (_,y)=>if y=x then some none else none
  |none=>none
 |_=>none
def dI(st:ES×SetTable)(x:Tr):Option (ES×SetTable) :=
 if(st.2.fits st.1.size&&decide (st.1.size<=1000)&&st.2.plain)=false then none else
 match bj st.1 st.2 x (BD x) with
 |none=>none
 |some none=>some st
 |some (some slot)=>
  if(st.2.put slot).1.tooFull=false then some (SetTable.insertAt st.1 (st.2.put slot).2 (BD x,x),(st.2.put slot).1) else
  if((st.2.put slot).1.fits (SetTable.insertAt st.1 (st.2.put slot).2 (BD x,x)).size&&decide (SetTable.sizeAbove (SetTable.grown (st.1.size+1))<=100000))=false then none else
  match (st.2.put slot).1.relaid ((SetTable.insertAt st.1 (st.2.put slot).2 (BD x,x)).map Fk) (SetTable.grown (st.1.size+1)) with
  |none=>none
  |some (l,order)=>
   if(order.filterMap ((SetTable.insertAt st.1 (st.2.put slot).2 (BD x,x))[·]?)).size=(SetTable.insertAt st.1 (st.2.put slot).2 (BD x,x)).size then
    some (order.filterMap ((SetTable.insertAt st.1 (st.2.put slot).2 (BD x,x))[·]?),l) else none
def Vo(G:VL->Tr->Prop)(h:Heap)(p:Int×VL)(q:Int×Tr):Prop:=p.1=q.1/\q.2.deep<8/\G p.2 q.2/\∃a l,p.2=.ref a/\h.IsTuple a l.toArray/\Vs h q.2 l
abbrev DN(G:VL->Tr->Prop)(h:Heap)(ev:Array (Int×VL))(l:ES):Prop:=Paired (Vo G h) ev.toList l.toList
variable{G:VL->Tr->Prop}
section
variable{α β:Type}{F:α->β->Prop}
theorem Paired.get:∀ {l} {m},Paired F l m->∀ {i:Nat} {y},m[i]? = some y->∃x,l[i]? = some x/\F x y
 |_,_,.nil,i,y,h=>by simp at h
 |_,_,.cons I r,0,y,h=>by simp_all
 |_,_,.cons I r,i+1,y,h=>Paired.get r (by simpa using h)
def Paired.none:∀ {l} {m},Paired F l m->∀ {i:Nat},m[i]? = Option.none->l[i]? = Option.none:=fun {l m} r i h=>by
 have:=r.length
 simp_all
theorem Paired.app(k:Paired F M I):∀ {l} {m},Paired F l m->Paired F (l++M) (m++I)
 |_,_,.nil=>k
 |_,_,.cons h r=>.cons h (Paired.app k r)
theorem Paired.take:∀ {l} {m} n,Paired F l m->Paired F (l.take n) (m.take n)
 |_,_,0,_=>by simpa using Paired.nil
 |_,_,n+1,.nil=>by simpa using Paired.nil
 |_,_,n+1,.cons h r=>.cons h (Paired.take n r)
theorem Paired.drop:∀ {l} {m} n,Paired F l m->Paired F (l.drop n) (m.drop n)
 |_,_,0,h=>h
 |_,_,n+1,.nil=>by simpa using Paired.nil
 |_,_,n+1,.cons h r=>Paired.drop n r
theorem Paired.pick(r:Paired F l m):∀(o:List Nat),Paired F (o.filterMap (l[·]?)) (o.filterMap (m[·]?))
 |[]=>.nil
 |i::o=>by
  rw[(Sh),(Sh)];cases e:m[i]? with
  |none=>rw[Paired.none r e];exact Paired.pick r o
  |some y=>
   obtain⟨x,I,h⟩:=Paired.get r e;rw[I];exact .cons h (Paired.pick r o)
theorem Paired.imp{G}(h:∀a b,F a b->G a b):∀ {l} {m},Paired F l m->Paired G l m
 |_,_,.nil=>.nil
 |_,_,.cons k r=>.cons (h _ _ k) (Paired.imp h r)
end
def I0 xs p (x:α):(SetTable.insertAt xs p x).toList=xs.toList.take p++x::xs.toList.drop p:=by
 unfold SetTable.insertAt;simp;rw[List.take_of_length_le BY]
def DN.fst(r:DN G h ev M):ev.map Fk=M.map Fk:=by
 apply Array.toList_inj.mp
 simpa using (show ∀ {l:List _} {m:List _},Paired _ l m->l.map _=m.map _ from fun r=>by
  induction r with
  |nil=>rfl
  |cons k _ I=>rw[(BM),(BM),I,k.1]) r
def DN.size(r:DN G h ev l):ev.size=l.size:=by simpa using Paired.length r
theorem DN.Oz(r:DN G h ev l) i:(ev[i]?.map Fk).getD 0=Oz l i:=by
 have:=af (fun a=>a[i]?) r.fst;simp at this;rw[TH.Oz,this]
def DN.good(r:DN G h ev Z):∀p∈ev.toList,Good h 8 p.2:=(show ∀ {l:List _} {m:List _},Paired _ l m->∀p∈l,Good h 8 p.2 from fun r=>by
  induction r with
  |nil=>simp
  |cons k _ Y=>
   intro p M;rcases aO.mp M with rfl|M
   .obtain⟨_,hd,_,a,I,e,U,T⟩:=k;exact⟨a,I,_,e,U,T,hd⟩
   grind) r
def DN.at(r:DN G h ev Y){i:Nat}(e:Y[i]? = some (z,y)):∃a l,ev[i]? = some (z,.ref a)/\h.IsTuple a l.toArray/\Vs h y l/\y.deep<8:=by
 obtain⟨⟨z',v⟩,U,T,hd,_,a,l,Z,M,I⟩:=Paired.get r (by simpa using e);subst T Z;exact⟨a,l,by simpa using U,M,I,hd⟩
def DN.keeps(k:∀b o,h.get? b=some o->o.cls=.type "tuple" -> h'.get? b=some o)(r:DN G h ev Z):DN G h' ev Z :=
 Paired.imp (fun p q ⟨e,hd,hg,a,l,e2,Y,U⟩=>⟨e,hd,hg,a,l,e2,(let⟨o,T,M,n,I⟩:=Y;⟨o,k _ _ T M,M,n,I⟩),U.keeps k⟩) r
section
variable{prog:F0b}{w:F0c}{E:AAN}{A:F0d}{s:SD}{a xa:AD}{o:Obj}{ev:Array (Int×VL)}{et:ES}{ep:Nat}{t:SetTable}{x:Tr}{its:AAM}{h:Int}
def fS{r:Option Nat}{Q:SetFound->SD->Prop}(ho:s.heap.get? a=some o)(hd:o.data=.set ev ep t)(hf:t.fits et.size=true)(R:DN G s.heap ev et)(M:s.heap.IsTuple xa its.toArray)(I:Vs s.heap x its)(hxd:x.deep<8) (hu:A.units+8<cLine)(l:bj et t x h=some r)(h0:r=none->Q (.there none) s)(h1:∀j,r=some j->Q (.free j false) s):wpAny As A (setSearch a (.ref xa) h true) Q E s:=by
 have T:t.fits ev.size=true:=by rw[R.size];exact hf
 unfold bj at l;by_cases hg:t.gaveWay=true
 .rw[if_pos hg]at l;cases l
 rw[if_neg hg]at l;unfold setSearch;rw[show(100000:Nat)=99999+1 from rfl,setSearchFrom];refine Wb (ay ho hd T ?_);dsimp only;rw[if_neg hg];have Z:∀f:Nat->Int,(∀i,f i=Oz et i)->t.probe f h ((none:Option SetTable.Probe).getD (t.probeStart h))=t.probe (Oz et) h (t.probeStart h):=fun f hf=>by
  rw[show f=Oz et from funext hf];rfl
 generalize U:t.probe _ h ((none:Option SetTable.Probe).getD (t.probeStart h))=pr;have Y:pr=t.probe (Oz et) h (t.probeStart h):=U.symm.trans (Z _ fun i=>R.Oz i);clear U Z;subst Y;cases hp:t.probe (Oz et) h (t.probeStart h) with
 |none=>rw[hp]at l;cases l
 |some met=>
  rw[hp]at l;cases met with
  |empty j dummy=>
   cases dummy with
   |none=>cases l;exact aB (h1 j rfl)
   |some d=>cases l
  |candidate j i next=>
   cases he:et[i]? with
   |none=>simp only[he]at l;cases l
   |some zy=>
    obtain⟨z,y⟩:=zy;simp only[he]at l;by_cases hy:y=x
    .rw[if_pos hy]at l;cases l;subst hy;obtain⟨b,its2,e1,e2,e3,e4⟩:=R.at he;cases hl:t.led with
     |true=>
      simp only[Bool.not_true,Bool.false_eq_true,if_false];rw[e1];refine Wb (aT (W0 e2 e3 M I AS prog w E _ ?_));rw[decide_eq_true rfl];refine Wb (ay ho hd T ?_);exact aB (h0 rfl)
     |false=>
      simp only[Bool.not_false,if_true];refine Wb (lX ⟨xa,its,_,rfl,M,I,hxd⟩ (fun v hv=>?_) ?_)
      .obtain⟨p,hp1,rfl⟩:=aI.mp hv;exact R.good p (Array.mem_toList_iff.mpr (Array.mem_filter.mp (Array.mem_toList_iff.mp hp1)).1)
      simp only[Bool.false_eq_true,if_false];rw[e1];refine Wb (aT (W0 e2 e3 M I AS prog w E _ ?_));rw[decide_eq_true rfl];refine Wb (ay ho hd T ?_);exact aB (h0 rfl)
    .rw[if_neg hy]at l;cases l
def HQ(h:n<=100000):n<=sizeLine:=aK h AC
def Zg{I:Heap}(M:I.get? a=some o)(hd:o.data=.set ev ep t) l t':(I.update a (Obj.putSet l t')).get? a=some {o with data:=.set l (ep+1) t'}:=by
 have:=Heap.get?_update_self (Obj.putSet l t') M (by rw[putSet_of l t' hd];rfl);rw[putSet_of l t' hd]at this;exact this
def Vv{l:Heap}(M:l.get? a=some o)(T:o.cls=.type "set") g:∀b u,l.get? b=some u->u.cls=.type "tuple" ->(l.update a g).get? b=some u:=fun b u q I=>by
 rw[Heap.get?_update_other _ _ (fun z=>by
  lia)]
 assumption
def tY{et' : ES}{t' : SetTable}{Q : Bool->SD->Prop}(ho : s.heap.get? a = some o)(hc : o.cls = .type "set")(hd : o.data = .set ev ep t)(R : DN G s.heap ev et)(hx1 : s.heap.IsTuple xa its.toArray)(hx2 : Vs s.heap x its)(hxd : x.deep < 8)(hxg : G (.ref xa) x) (hu : A.units + 8 < cLine)(hs : dI (et,t) x = some (et',t')) (k : ∀ (b : Bool) (h' : Heap) (tk : Nat) (ev' : Array (Int×VL)) (ep' : Nat),Heap.SameBut a s.heap h'->h'.get? a = some { o with data:=.set ev' ep' t' }->DN G h' ev' et'->Q b { s with heap:=h',toks:=tk }):wpAny As A (setAdd a (.ref xa)) Q E s:=by
  unfold setAdd
  refine aT (Wb (qQ hx1 hx2 AS fun tk => ?_))
  unfold setAddHashed
  refine aT ?_
  unfold dI at hs
  by_cases h1 : (t.fits et.size && decide (et.size<=1000) && t.plain) = false
  . rw [if_pos h1] at hs; cases hs
  rw [if_neg h1] at hs
  simp only [Bool.not_eq_false,Bool.and_eq_true,decide_eq_true_eq] at h1
  obtain ⟨⟨hf,hz⟩,hpl⟩:=h1
  have hf' : t.fits ev.size = true:=by rw [R.size]; exact hf
  cases hsr : bj et t x (BD x) with
  | none => simp only [hsr] at hs; cases hs
  | some r=>
    simp only [hsr] at hs
    rw [show (100000 : Nat) = 99999 + 1 from rfl,setAddHashedIn]
    refine Wb (ay (s:={ s with toks:=tk }) ho hd hf' ?_)
    dsimp only
    have hbs : byScan (.ref xa) ev = false:=rfl
    rw [hbs,if_neg aN]
    refine Wb (fS (s:={ s with toks:=tk }) ho hd hf R hx1 hx2 hxd hu hsr (fun hr => ?_) fun j hr => ?_)
    . subst hr
      cases hs
      exact aB (k _ s.heap tk ev ep (Heap.SameBut.refl ..) (by rw [ho,<- hd]) R)
    . subst hr
      dsimp only at hs ⊢
      refine Wb (ay (s:={ s with toks:=tk }) ho hd hf' ?_)
      dsimp only
      have hpl2 : (t.put j).1.plain = true:=hpl
      rw [if_pos hpl2]
      refine Wb (WU 8 (s:={ s with toks:=tk }) ⟨xa,its,x,rfl,hx1,hx2,hxd⟩ ?_)
      simp only [if_true]
      have R1 : DN G s.heap (SetTable.insertAt ev (t.put j).2 (BD x,.ref xa)) (SetTable.insertAt et (t.put j).2 (BD x,x)):=by
        unfold DN
        rw [I0,I0]
        exact Paired.app (.cons ⟨rfl,hxd,hxg,xa,its,rfl,hx1,hx2⟩ (Paired.drop _ R)) (Paired.take _ R)
      have hz1 : (SetTable.insertAt ev (t.put j).2 (BD x,Value.ref xa)).size<=1001:=by
        have h2:=af List.length (I0 ev (t.put j).2 (BD x,Value.ref xa))
        simp only [Array.length_toList,List.length_append,List.length_take,List.length_cons,List.length_drop] at h2
        have:=R.size
        lia
      have hz2 : (SetTable.insertAt et (t.put j).2 (BD x,x)).size = (SetTable.insertAt ev (t.put j).2 (BD x,Value.ref xa)).size:=R1.size.symm
      refine Wb (wpAny_storeSet_of (s:={ s with toks:=tk }) ho hd ?_ (HQ AS))
      have g1:=Zg ho hd (SetTable.insertAt ev (t.put j).2 (BD x,.ref xa)) (t.put j).1
      have k1:=Vv ho hc (Obj.putSet (SetTable.insertAt ev (t.put j).2 (BD x,.ref xa)) (t.put j).1)
      have sb1:=aZ s.heap a (Obj.putSet (SetTable.insertAt ev (t.put j).2 (BD x,.ref xa)) (t.put j).1)
      by_cases hfull : (t.put j).1.tooFull = false
      . rw [if_pos hfull] at hs
        cases hs
        rw [hfull]
        simp only [Bool.and_false,Bool.false_eq_true,if_false]
        exact aB (k _ _ tk _ _ sb1 g1 (R1.keeps k1))
      . rw [if_neg hfull] at hs
        have hfull : (t.put j).1.tooFull = true:=by simpa using hfull
        rw [hfull]
        simp only [Bool.not_false,Bool.and_true,if_true]
        by_cases h2 : ((t.put j).1.fits (SetTable.insertAt et (t.put j).2 (BD x,x)).size && decide (SetTable.sizeAbove (SetTable.grown (et.size + 1))<=100000)) = false
        . rw [if_pos h2] at hs; cases hs
        rw [if_neg h2] at hs
        simp only [Bool.not_eq_false,Bool.and_eq_true,decide_eq_true_eq] at h2
        obtain ⟨hfit,hsa⟩:=h2
        cases hrl : (t.put j).1.relaid ((SetTable.insertAt et (t.put j).2 (BD x,x)).map Fk) (SetTable.grown (et.size + 1)) with
        | none => simp only [hrl] at hs; cases hs
        | some to=>
          obtain ⟨t2,order⟩:=to
          simp only [hrl] at hs
          by_cases h3 : (order.filterMap ((SetTable.insertAt et (t.put j).2 (BD x,x))[·]?)).size = (SetTable.insertAt et (t.put j).2 (BD x,x)).size
          . rw [if_pos h3] at hs
            cases hs
            have R2 : DN G s.heap (order.filterMap IO) (order.filterMap ((SetTable.insertAt et (t.put j).2 (BD x,x))[·]?)):=by
              unfold DN
              have:=Paired.pick R1 order.toList
              simpa using this
            have g2:=Zg g1 rfl (order.filterMap IO) t'
            have k2:=Vv g1 hc (Obj.putSet (order.filterMap IO) t')
            have sb2:=aZ (s.heap.update a (Obj.putSet (SetTable.insertAt ev (t.put j).2 (BD x,.ref xa)) (t.put j).1)) a (Obj.putSet (order.filterMap IO) t')
            refine Wb ?_
            unfold setRelay
            refine Wb (ay g1 rfl (by rw [<- hz2]; exact hfit) ?_)
            dsimp only
            rw [R.size,if_neg (Nat.not_lt.mpr (HQ hsa))]
            refine Wb ?_
            rw [R1.fst,hrl]
            have hsz : (order.filterMap IO).size = (SetTable.insertAt ev (t.put j).2 (BD x,Value.ref xa)).size:=by rw [R2.size,h3,hz2]
            have hne : ¬ ((order.filterMap IO).size != (SetTable.insertAt ev (t.put j).2 (BD x,Value.ref xa)).size) = true:=by simp [hsz]
            show wpAny _ _ (do if (order.filterMap IO).size != (SetTable.insertAt ev (t.put j).2 (BD x,Value.ref xa)).size then unsupported "internal:set-table-lost-an-element"
                               pure (order.filterMap IO,t')) _ _ _
            rw [if_neg hne]
            refine aB ?_
            refine wpAny_storeSet_of g1 rfl ?_ (HQ (by rw [hsz]; lia))
            exact aB (k _ _ tk _ _ (sb1.trans sb2) g2 ((R2.keeps k1).keeps k2))
          . rw [if_neg h3] at hs; cases hs
end
end TH
namespace TH
open PySem
def NI(st:ES×SetTable):List Tr->Option (ES×SetTable)
 |[]=>some st
 |x::r=>(dI st x).bind fun l=>NI l r
def LW(led:Bool):ES×SetTable:=(#[],.fresh 0 0 led)
def Rl(st:ES×SetTable):AAg:=st.1.toList.map (·.2)
end TH
namespace TH
open PySem PyProof.Rows PySem.SeqAt
def VE(G:VL->Tr->Prop)(h:Heap)(v:VL)(x:Tr):Prop:=x.deep<8/\G v x/\∃a l,v=.ref a/\h.IsTuple a l.toArray/\Vs h x l
abbrev Jb(G:VL->Tr->Prop)(h:Heap)(vs:List VL)(xs:List Tr):Prop:=Paired (VE G h) vs xs
variable{G:VL->Tr->Prop}
def VE.keeps(k:∀b o,h.get? b=some o->o.cls=.type "tuple" -> h'.get? b=some o)(r:VE G h v x):VE G h' v x:=let⟨hd,hg,a,l,e,Y,U⟩:=r;⟨hd,hg,a,l,e,(let⟨o,T,M,n,I⟩:=Y;⟨o,k _ _ T M,M,n,I⟩),U.keeps k⟩
def Jb.keeps(k:∀b o,h.get? b=some o->o.cls=.type "tuple" -> h'.get? b=some o)(r:Jb G h vs xs):Jb G h' vs xs:=Paired.imp (fun _ _ z=>z.keeps k) r
def MB(G:VL->Tr->Prop)(h:Heap)(S:AD)(st:ES×SetTable):Prop:=∃o ev ep,h.get? S=some o/\o.ExactSet/\o.data=.set ev ep st.2/\DN G h ev st.1
def MB.keeps{st}(x:MB G h S st)(l:∀o,h.get? S=some o->h'.get? S=some o)(k:∀b o,h.get? b=some o->o.cls=.type "tuple" -> h'.get? b=some o):MB G h' S st:=let⟨o,ev,ep,U,T,M,I⟩:=x;⟨o,ev,ep,l _ U,T,M,I.keeps k⟩
section
variable{prog:F0b}{w:F0c}{A:F0d}{R:Result->SD->Prop}{I S:AD}{fp wr:AAh}{St:Nat->Heap->Prop}{items:Array VL}{xs:AAg}{st':ES×SetTable}
def ot(W:Walks prog w A.in1 I fp wr items.size (fun i v=>items[i]? = some v) St)(hSf:S ∉ fp)(hcl:∀i h b o,St i h->b∈wr->h.get? b=some o->o.cls≠.type "tuple")(hu:A.units+10<cLine):∀(k i:Nat) (s:SD) (st:ES×SetTable),items.size-i=k->i<=items.size->St i s.heap->MB G s.heap S st->Jb G s.heap items.toList xs->NI st (xs.drop i)=some st' ->(∀(h':Heap) (tk:Nat),(∀b o,b≠S->b ∉ wr->s.heap.get? b=some o->h'.get? b=some o)->(∀b o,s.heap.get? b=some o->o.cls=.type "tuple" -> h'.get? b=some o)->MB G h' S st'->R (.ok (.ret .none)) LT) ->codeAny As A (.builtin "set.update.loop" ⟨[.ref S,.ref I],[]⟩) R s:=by
 have hSw:S ∉ wr:=fun h=>hSf (W.sub _ h);intro k
 induction k with
 |zero=>
  intro i s st hk hi T hS hT l hR;have hin:i=items.size:=by lia
  subst hin;have U:=Paired.length hT;rw[List.drop_of_length_le (by rw[<-U];simp)]at l;cases l;refine codeAny_builtin F.entry_set_update_loop ?_;rw[Around.under_plainId F.plain_set_update_loop _];show wpAny _ A.in1 (pyNext (.ref I)>>=_) _ _ s;refine Wb (W.done s _ _ T fun h' tk hm=>?_);show wpAny _ A.in1 (ret Value.none) _ _ _;have kt:∀b o,s.heap.get? b=some o->o.cls=.type "tuple" -> h'.get? b=some o:=fun b o e M=>hm b o (fun hb=>hcl _ _ b o T hb e M) e;exact aB (hR h' tk (fun b o _ hb e=>hm b o hb e) kt (hS.keeps (fun o e=>hm S o hSw e) kt))
 |succ k ih=>
  intro i s st hk hi T hS hT l hR;have Z:i<items.size:=by lia
  refine codeAny_builtin F.entry_set_update_loop ?_;rw[Around.under_plainId F.plain_set_update_loop _];show wpAny _ A.in1 (pyNext (.ref I)>>=_) _ _ s;refine Wb (W.item i s _ _ Z T fun v h1 tk hP hst' hm=>?_);have kt:∀b o,s.heap.get? b=some o->o.cls=.type "tuple" -> h1.get? b=some o:=fun b o e M=>hm b o (fun hb=>hcl _ _ b o T hb e M) e;have hS1:=hS.keeps (fun o e=>hm S o hSw e) kt;have hT1:=hT.keeps kt;have U:=Paired.length hT;have hxi:i<xs.length:=by rw[<-U];simpa using Z
  have hx:xs[i]? = some xs[i]:=ao hxi;obtain⟨v',hv',hxd,hxg,xa,its,e1,e2,e3⟩:=Paired.get hT1 hx;have hvv:v'=v:=by
   have h2:items.toList[i]? = some v:=by simpa using hP
   rw[h2]at hv';exact(ag hv').symm
  subst hvv;subst e1;rw[List.drop_eq_getElem_cons hxi,NI]at l;cases Y:dI st xs[i]with
  |none=>rw[Y]at l;cases l
  |some st1=>
   rw[Y]at l;obtain⟨o,ev,ep,g1,g2,g3,g4⟩:=hS1;obtain⟨et,t⟩:=st;obtain⟨et1,t1⟩:=st1;show wpAny _ A.in1 (holding [Value.ref xa] (setAdd S (.ref xa))>>=_) _ _ _;refine Wb (aT (tY (s:={s with heap:=h1,toks:=tk}) g1 g2.1 g3 g4 e2 e3 hxd hxg (by rw[Around.in1_units];exact aa ‹_›) Y fun b h2 tk2 ev2 ep2 sb gS R2=>?_));have kt2:∀b o,h1.get? b=some o->o.cls=.type "tuple" -> h2.get? b=some o:=fun b o' e M=>by
    rw[sb.2 b fun z=>?_]
    .exact e
    .subst z;rw[g1]at e;cases e;rw[g2.1]at M
     injection M with M
     exact absurd M AC
   refine aB ⟨plainId_quiet F.plain_set_update_loop _,ih OK {s with heap:=h2,toks:=tk2} (et1,t1) AS Z (W.frame _ _ _ hst' fun b hb o' e=>?_) ⟨_,ev2,ep2,gS,g2,rfl,R2⟩ (hT1.keeps kt2) l fun h3 tk3 m3 kt3 S3=>?_⟩
   .rw[sb.2 b fun z=>hSf (z ▸ hb)];exact e
   .refine hR h3 tk3 (fun b o' hbS hb e=>?_) (fun b o' e M=>kt3 b o' (kt2 b o' (kt b o' e M) M) M) S3;refine m3 b o' hbS hb ?_;show h2.get? b=some o';rw[sb.2 b hbS];exact hm b o' hb e
end
end TH
namespace TH
open PySem PyProof.Rows PySem.SeqAt
section
variable{G:VL->Tr->Prop}{prog:F0b}{w:F0c}{A:F0d}{E:AAN}{s:SD}{l:AD}{us:AAM}{xs:AAg}
abbrev GC(led:Bool):Obj:={ cls:=.type "set",dict:=none,data:=.set #[] 0 (.fresh 0 0 led)}
def bp(v:VL)(k:Q1 Go {s with heap:=s.heap.push (GC (!w.params.followText "set-order"))}):codeAny As A (.call (.builtin "set.__new__") ⟨[.type "set",v],[]⟩) (wants Q1 E) s:=by
 refine codeAny_of_tree (?_);refine Wb (wpAny_of_eq (F.newCall_set_1 v) (aB ⟨plainId_quiet F.plain_set_new _,codeAny_builtin F.entry_set_new ?_⟩));unfold Builtin.«set.__new__»;unfold Builtin.Frozenset.newClass;have q:=sub_set_self
 wp_walk
 refine wpAny_askSetting (aB ?_);exact Wb (wpAny_alloc (aB (aB k)))
def YK{Q:AAN}(hA:A.handled=none)(hL:s.heap.IsList l us.toArray)(hT:Jb G s.heap us xs)(hu:A.units+20<cLine){st:ES×SetTable}(Y:NI (LW (!w.params.followText "set-order")) xs=some st) (k:∀(M:Heap) (tk:Nat),MB G M s.heap.objs.size st->(∀b u,s.heap.get? b=some u->M.get? b=some u)->Q Go {s with heap:=M,toks:=tk}):wpAny As A (call (.type "set") [.ref l]) Q E s:=by
 obtain⟨mc,mt,hmro⟩:=F.called_set.mro;have q1:=F.called_set.made;have q2:=F.called_set.sub;have q3:=F.called_set.notType;have q4:=F.called_set.canCreate;have q5:=F.typeCall_set_1 (.ref l);refine wpAny_call (codeAny_of_tree (show wpAny _ _ (callAny (.type "set") _) _ _ _ from ?_));refine aB ⟨Code.quiet_builtin _ (by decide +kernel),codeAny_builtin F.entry_type_call ?_⟩;rw[Around.under_plain (weight_type_call_type "set" [.ref l] []) rfl]
 repeat (any_goals (first|assumption|wp_step))
 have hnew:=bp (prog:=prog) (w:=w) (s:=s) (A:=A.in1) (E:=E) (.ref l) (Q1:=fun v s1=>v=.ref s.heap.objs.size/\s1={s with heap:=s.heap.push (GC (!w.params.followText "set-order"))}) ⟨rfl,rfl⟩;refine codeAny_mono hnew fun r s1 Z=>?_;cases r with
 |error e=>exact Z
 |ok fl=>
  cases fl with
  |next=>exact Z.elim
  |brk=>exact Z.elim
  |cont=>exact Z.elim
  |ret obj=>
   obtain⟨rfl,rfl⟩:=Z;generalize (!w.params.followText "set-order")=led at Y;have gS:(s.heap.push (GC led)).get? s.heap.objs.size=some (GC led):=aR _ rfl;have tS:Shared.TypeIs {s with heap:=s.heap.push (GC led)} Go "set" := ⟨_,gS,rfl⟩;have q6:=F.called_set.init.lookup;have q7:=F.called_set.init.bind Go
   repeat (any_goals (first|assumption|wp_step))
   have T:codeAny As A.in1 (.call (.builtin "set.__init__") ⟨[.ref s.heap.objs.size,.ref l],[]⟩)
     (wants (fun v s2=>v=.none/\∃M tk,s2={s with heap:=M,toks:=tk}/\MB G M s.heap.objs.size st/\∀b u,s.heap.get? b=some u->M.get? b=some u) E) {s with heap:=s.heap.push (GC led)}:=by
    refine codeAny_call_builtin F.called_set.init.plain F.entry_set_init (check_set_init_1 tS ?_);obtain⟨⟨c0,d0,dt0,sl0⟩,gl,c1,n0,dt1⟩:=id hL;simp only at c1 dt1;subst c1 dt1;have gl1:(s.heap.push (GC led)).get? l=some ⟨.type "list",d0,.seq us.toArray n0,sl0⟩:=aF _ gl;have U:(s.heap.push (GC led)).IsList l us.toArray:=⟨_,gl1,rfl,n0,rfl⟩;have s1:=F.sub_list_set;have s2:=F.sub_list_frozenset;have s3:(Value.type "list" == Value.type "dict")=false:=by decide
    unfold Builtin.«set.__init__» noKeywords Builtin.Frozenset.updateFrom;generalize ePI:pyIter=PI
    wp_walk
    subst ePI;refine wpAny_pyIter_list U (Wb (wpAny_runValue ?_));have ll:l<s.heap.objs.size:=aH gl;have zI:(s.heap.push (GC led)).objs.size=s.heap.objs.size+1:=Heap.size_push ..;have neI:l≠(s.heap.push (GC led)).objs.size:=by rw[zI];exact aL (bW ll)
    have nfp:s.heap.objs.size ∉ [(s.heap.push (GC led)).objs.size,l]:=by
     simp only[List.mem_cons,List.not_mem_nil,or_false,not_or];exact⟨by rw[zI];exact aL (bK _),Nat.ne_of_gt ll⟩
    have hA3:A.in1.in1.in1.handled=none:=by simp[hA]
    refine ot (G:=G) (xs:=xs) (st':=st) (Walks.list hA3 _ l neI us.toArray) nfp (fun i h b o hit hb e hc=>?_) (by simp only[Around.in1_units];lia) _ 0 _ (LW led) rfl (bC _) ⟨⟨_,Heap.get?_push_size _ rfl,rfl,rfl⟩,U.push _⟩ ?_ ?_ Y fun M tk m2 kt2 S2=>?_
    .obtain⟨⟨oi,gi,ci,_⟩,_⟩:=hit;have:b=(s.heap.push (GC led)).objs.size:=by simpa using hb
     subst this;rw[gi]at e;cases e;rw[ci]at hc
     injection hc with hc
     exact absurd hc AC
    .exact⟨GC led,#[],0,Heap.get?_push_of_some _ gS,⟨rfl,rfl,rfl⟩,rfl,.nil⟩
    .exact hT.keeps fun b o e _=>aF _ (aF _ e)
    .refine aB ?_;show wpAny _ _ (ret Value.none) _ _ _;refine aB ⟨rfl,M,tk,rfl,S2,fun b u e=>?_⟩;have lb:b<s.heap.objs.size:=aH e;refine m2 b u (aL lb) ?_ (aF _ (aF _ e));simp only[List.mem_cons,List.not_mem_nil,or_false];rw[zI];exact aL (bW lb)
   refine codeAny_mono T fun r2 s2 I=>?_;cases r2 with
   |error e=>exact I
   |ok f2=>
    cases f2 with
    |next=>exact I.elim
    |brk=>exact I.elim
    |cont=>exact I.elim
    |ret v2=>
     obtain⟨rfl,M,tk,rfl,S2,k2⟩:=I
     repeat (any_goals (first|assumption|wp_step))
     exact k M tk S2 k2
end
end TH
namespace TH
open PySem PyProof.Rows PySem.SeqAt
def TN:entryFor table "set.__iter__" = some Builtin.«frozenset.__iter__» :=
 entryFor_alias (id' := "frozenset.__iter__") Eo rfl (by decide +kernel) Eo
def EB:Slot "set_iterator" "__next__" "set_iterator.__next__" :=
 .of (owner := "set_iterator") (n := "__next__") Eo IF
  (by rfl) IF (by first|exact .inl (by decide +kernel)|lia) Eo
def Lq:entryFor table "set_iterator.__next__" = some Builtin.«set_iterator.__next__»:=entryFor_of_fast IF
def Mk a:argsOk "set_iterator.__next__" ⟨[a],[]⟩:=by rfl
def Ml:Slot "set_iterator" "__iter__" "set_iterator.__iter__" :=
 .of (owner := "set_iterator") (n := "__iter__") Eo IF
  (by decide +kernel) IF (by first|exact .inl (by decide +kernel)|lia) Eo
def Sf:entryFor table "set_iterator.__iter__" = some Builtin.«dict_keyiterator.__iter__» :=
 entryFor_alias (id' := "dict_keyiterator.__iter__") Eo rfl (by decide +kernel) Eo
def U1 a:argsOk "set_iterator.__iter__" ⟨[a],[]⟩:=by rfl
section
variable{α:Type}{next:Nat->Nat}
theorem ZD:∀n k (left:List α) out,left.length=n->(pickOrder.go next n k left out).toList.Perm (out.toList++left)
 |0,k,left,out,h=>by
  have:=List.eq_nil_of_length_eq_zero h;subst this;rw[pickOrder.go];simp
 |n+1,k,left,out,h=>by
  rw[pickOrder.go];have l:next k % left.length<left.length:=Nat.mod_lt _ AS;rw[List.getElem?_eq_getElem l];refine(ZD n _ _ _ (by grind)).trans ?_;rw[Array.toList_push,List.append_assoc];refine List.Perm.append_left _ ?_;rw[List.eraseIdx_eq_take_drop_succ];have p:=List.perm_middle (a:=left[next k % left.length]) (l₁:=left.take (next k % left.length)) (l₂:=left.drop (next k % left.length+1));rw[(show left.take _++left[next k % left.length]::left.drop _=left by simp)]at p;exact p.symm
end
end TH
namespace TH
open PySem PyProof.Rows PySem.SeqAt
def GQ(w:F0c)(S:AD)(ep:Nat)(ev:Array (Int×VL)):Array (Int×VL):=if w.params.followText "set-order" = true then pickOrder (w.params.setOrder S ep) ev else ev
def Tt w S ep ev:(GQ w S ep ev).toList.Perm ev.toList:=by
 unfold GQ;split
 .unfold pickOrder
  simpa using ZD ev.size 0 ev.toList #[] BY
 rfl
def Kx w S ep ev:(GQ w S ep ev).size=ev.size:=by simpa using (Tt w S ep ev).length_eq
def J5(t:SetTable):Nat->Nat
 |0=>0
 |i+1=>t.place.getD i 0+1
def FQ(w:F0c)(t:SetTable)(i:Nat):Nat:=if w.params.followText "set-order" = true then 0 else J5 t i
def Qj(t:SetTable)(n:Nat):Bool:=(List.range (n+1)).all fun i=>decide (SetTable.below t.place (J5 t i)=i)
abbrev Kz(w:F0c)(S:AD)(t:SetTable)(ep n i:Nat):Obj:={ cls:=.type "set_iterator",data:=.fields #[rawInt ((FQ w t i)),rawInt i,.ref S,rawInt n,rawInt ep]}
structure E5(w:World)(o:Obj)(ev:Array (Int×Value))(ep:Nat)(t:SetTable):Prop where
 ex:o.ExactSet
 dat:o.data=.set ev ep t
 fit:t.fits ev.size=true
 plain:t.plain=true
 led:t.led=!w.params.followText "set-order"
 walk:Qj t ev.size=true
section
variable{prog:F0b}{w:F0c}{A:F0d}{E:AAN}{s:SD}{S I:AD}{o:Obj}{ev:Array (Int×VL)}{ep i:Nat}{t:SetTable}
def SH(h:Q (w.params.followText "set-order") s):wpAny As A setsByText Q E s:=Wb (wpAny_askSetting (aB h))
def E5.fL(W:E5 w o ev ep t):(!t.plain&&decide (ev.size > 1))=false:=by rw[W.plain];rfl
def E5.place(W:E5 w o ev ep t):t.place.size=ev.size:=by
 have:=W.fit;unfold SetTable.fits at this
 lia
def Xl(W:E5 w o ev ep t)(U:s.heap.get? S=some o)(hi:i<=ev.size)(h:Q ((GQ w S ep ev)[i]?.map fun e=>(e.2,FQ w t OK)) s):wpAny As A (setNext S (FQ w t i) i ep) Q E s:=by
 refine Wb (ay U W.dat W.fit (Wb (SH ?_)));cases hb:w.params.followText "set-order" with
 |true=>
  rw[if_neg (show ¬(ep != ep)=true by simp)];refine Wb (Wb (ay U W.dat W.fit (Wb (SH ?_))));rw[if_pos hb];refine Wb (wpAny_askSetting (aB (aB ?_)));rw[(show GQ w S ep ev=pickOrder (w.params.setOrder S ep) ev by unfold GQ;rw[if_pos hb])]at h;rw[(show FQ w t i=FQ w t OK by unfold FQ;rw[if_pos hb,if_pos hb])];exact h
 |false=>
  rw[if_neg aN];refine wpAny_ite_split (fun hd=>?_) fun _=>?_
  .have:(!t.plain&&decide (ev.size > 1))=true:=hd;rw[W.fL]at this;cases this
  .refine Wb ?_;show wpAny _ _ (if _=true then unsupported "set:maker-not-led" else pure ()) _ _ _;rw[if_neg (show ¬(!t.led && !ev.isEmpty)=true by rw[(show t.led=true by rw[W.led,hb];rfl)];simp)];refine aB (aB ?_);have l:=W.walk;have l:=av.mp l i (bL.mpr (Nat.lt_succ_of_le ‹_›));have l:=by simpa using l
   rw[(show FQ w t OK=J5 t OK by unfold FQ;rw[hb];rfl),(show GQ w S ep ev=ev by unfold GQ;rw[hb];rfl)]at h;rw[(show FQ w t i=J5 t i by unfold FQ;rw[hb];rfl),l];by_cases M:i<ev.size
   .have T:i<t.place.size:=by rw[W.place];exact M
    rw[Array.getElem?_eq_getElem M]at h ⊢;rw[Array.getElem?_eq_getElem T];rw[(show J5 t OK=t.place[i]+1 by
     rw[J5,(XR),Array.getElem?_eq_getElem T]
     rfl)]at h
    exact h
   .rw[Array.getElem?_eq_none (Nat.le_of_not_lt ‹_›)]at h ⊢;exact h
def jt{Q}{z}{v}(W:E5 w o ev ep t)(T:s.heap.get? S=some o)(l:s.heap.get? I=some (Kz w S t ep ev.size i))(M:(GQ w S ep ev)[i]? = some (z,v)) (h:∀h',h'.get? I=some (Kz w S t ep ev.size OK)->Heap.SameBut I s.heap h'->Q (some v) {s with heap:=h'}):wpAny As A (pyNext (.ref I)) Q E s:=by
 have U:s.TypeIs (.ref I) "set_iterator" := ⟨_,l,rfl⟩;have Z:=by
  have:=(Array.getElem?_eq_some_iff.mp M).1;rw[Kx]at this;exact this
 refine Wb (wpAny_attempt (ae U EB (aU EB U Lq ?_ (Mk _))));refine Wb (wpAny_of_eq rfl (Wb (wpAny_fieldsOf l rfl (Wb (wpAny_setEntries_of T W.dat W.fit ?_)))));rw[if_neg (show ¬(ev.size != (ev.size:Int))=true by simp)];refine Wb ?_;show wpAny _ _ (setNext S (FQ w t i) i ep) _ _ _;refine Xl W T (aa ‹_›) ?_;rw[M];refine Wb (wpAny_setField l rfl BY ?_);have Y:(s.heap.update I (Obj.mapFields (·.setIfInBounds 0 (rawInt ((FQ w t OK)))))).get? I=some _ :=
  Heap.get?_update_self _ l rfl
 exact Wb (wpAny_setField Y rfl BY (aB ⟨_,rfl,wpAny_pure (h _ (Heap.get?_update_self _ Y rfl) ((aZ ..).trans (aZ ..)))⟩))
def kQ{Q}(Y:A.handled=none)(W:E5 w o ev ep t)(T:s.heap.get? S=some o)(M:s.heap.get? I=some (Kz w S t ep ev.size ev.size)) (h:∀h',Heap.ExtBut I s.heap h'->Q none {s with heap:=h'}):wpAny As A (pyNext (.ref I)) Q E s:=by
 have U:s.TypeIs (.ref I) "set_iterator" := ⟨_,M,rfl⟩;unfold pyNext;refine Wb (wpAny_attempt (ae U EB (aU EB U Lq ?_ (Mk _))));refine Wb (wpAny_of_eq rfl ?_);refine Wb (wpAny_fieldsOf M rfl ?_);refine Wb (wpAny_setEntries_of T W.dat W.fit ?_);have l:¬((ev.size:Int) != (ev.size:Int))=true:=by simp
 dsimp only;rw[if_neg l];refine Wb ?_;refine Xl W T LK ?_;rw[Array.getElem?_eq_none (by rw[Kx];exact aG _)];refine Wb (wpAny_setField M rfl BY ?_);refine Wb ?_;refine Wb (m:=firstArgMember _ _) (wpAny_of_eq (a:=Value.none) (by first|rfl|(rfl)) (aj ?_ (by size_fits)));refine Wb (wpAny_handled ?_);rw[Y];refine Wb (aB (wpAny_throw ?_));refine Wb (wpAny_isInstance (b:=true) ⟨_,Heap.get?_push_size _ rfl,rfl⟩ isSubtype_stop ?_);exact aB (h _ (((aZ ..).extBut.push _).push _))
def lU(M:s.heap.get? I=some (Kz w S t ep ev.size i))(h:Q (.ref I) s):wpAny As A (pyIter (.ref I)) Q E s:=by
 have l:s.TypeIs (.ref I) "set_iterator" := ⟨_,M,rfl⟩;exact wpAny_pyIter_slot l Ml (aU Ml l Sf (aB ⟨_,rfl, "set_iterator",_,l,EB.lookup,h⟩) (U1 _))
def hZ(hh:A.handled=none)(hne:S≠I)(W:E5 w o ev ep t) :
  Walks prog w A I [I,S] [I] ev.size (fun i v=>∃z,(GQ w S ep ev)[i]? = some (z,v)) (fun i h=>h.get? I=some (Kz w S t ep ev.size i)/\h.get? S=some o) where
 sub:=fun b hb=>by simp_all
 frame:=fun _ _ _ x k=>⟨k I BY _ x.1,k S BY _ x.2⟩
 item:=fun i s Q E hi x hQ=>by
  have hi':i<(GQ w S ep ev).size:=by rw[Kx];exact hi
  obtain⟨z,v,hx⟩:∃z v,_[i]? = some (z,v):=⟨(GQ w S ep ev)[i].1,(GQ w S ep ev)[i].2,by rw[Array.getElem?_eq_getElem hi']⟩;refine jt W x.2 x.1 hx fun h' g sb=>hQ v h' s.toks ⟨z,hx⟩ ⟨g,(sb.2 S hne).trans x.2⟩ fun b u hb e=>?_;rw[sb.2 b fun q=>hb (by simp[q])];exact e
 done:=fun s Q E x hQ=>kQ hh W x.2 x.1 fun h' eb=>hQ h' s.toks fun b u hb e=>eb b u (fun q=>hb (by simp[q])) e
 self:=fun _ _ _ _ x hQ=>lU x.1 hQ
def i8{Q:Bool->SD->Prop}(M:s.TypeIs (.ref S) "set")(h:Q false s):wpAny As A (Builtin.List.listLengthHint (.ref S)) Q E s:=by
 unfold Builtin.List.listLengthHint;refine Wb (wpAny_specialOf M PySem.F.slot_set_len.lookup ?_);generalize l:("set.__len__" : String)=U
 wp_delta
 subst l;refine Wb (wpAny_isInstance (b:=true) (T := "set") M (by rw[isSubtype_type];kernel_rfl) ?_);refine wpAny_ite_split (fun z=>absurd z AC) fun _=>?_;refine wpAny_ite_split (fun _=>?_) fun z=>absurd (by decide +kernel) z;exact Wb (wpAny_typeOf M (aB h))
def jy(W:E5 w o ev ep t)(l:s.heap.get? S=some o)(h:Q Go {s with heap:=s.heap.push (Kz w S t ep ev.size 0)}):wpAny As A (pyIter (.ref S)) Q E s:=by
 have M:s.TypeIs (.ref S) "set" := ⟨o,l,W.ex.1⟩;refine wpAny_pyIter_slot M PySem.F.slot_set_iter (aU PySem.F.slot_set_iter M TN (Wb (wpAny_of_eq rfl (Wb (Wb (wpAny_setEntries_of l W.dat W.fit (aB (Wb (Wb (ay l W.dat W.fit (Wb (SH (aB ?_)))))))))))) (PySem.F.args_set_iter_1 _));have hd:(!w.params.followText "set-order" && (!t.plain&&decide (ev.size > 1)))=false:=by rw[W.fL];simp
 refine wpAny_ite_split (fun z=>?_) fun _=>?_
 .have:(!w.params.followText "set-order" && (!t.plain&&decide _))=true:=z;rw[hd]at this;cases this
 refine Wb (aB (Wb (Wb (ay l W.dat W.fit (aB (Wb (aj (aB ⟨_,rfl, "set_iterator",_,⟨_,Heap.get?_push_size _ rfl,rfl⟩,EB.lookup,?_⟩))))))));unfold Kz at h;rw[(show FQ w t 0=0 by unfold FQ J5;split<;>rfl)]at h;exact h
def qK(W:E5 w o ev ep t):PySem.W.KdlSrc prog w "set" S S ev.size (fun i v=>∃z,(GQ w S ep ev)[i]? = some (z,v)) (fun h=>h.get? S=some o) where
 type:=fun _ ho=>⟨o,ho,W.ex.1⟩
 there:=fun _ ho=>⟨aH ho,Heap.lt_size ho⟩
 keep:=fun _ _ ho k=>k S (.inl rfl) _ ho
 notList:=by decide
 notTuple:=by decide
 hint:=fun _ _ s _ ho h=>i8 ⟨o,ho,W.ex.1⟩ h
 iter:=fun A s hh ho=>⟨Kz w S t ep ev.size 0,_,(fun E Q h=>jy W ho h),hZ hh (aL (aH ho)) W,⟨aR _ rfl,Heap.get?_push_of_some _ ho⟩⟩
end
end TH
namespace TH
open PySem PyProof.Rows PySem.SeqAt
def Paired.perm{l Z:List α}(p:Z.Perm l):∀ {m:List β},Paired F l m->∃I,I.Perm m/\Paired F Z I:=by
 induction p with
 |nil=>intro m r;exact⟨m,.refl _,r⟩
 |cons x _ ih=>
  intro m r;cases r with
  |cons h T=>
   obtain⟨I,p',q⟩:=ih T;exact⟨_::I,p'.cons _,.cons h q⟩
 |swap x y l=>
  intro m r;cases r with
  |cons h T=>
   cases T with
   |cons h' M=>exact⟨_::_::_,List.Perm.swap ..,.cons h' (.cons h M)⟩
 |trans _ _ Y U=>
  intro m r;obtain⟨m1,p1,q1⟩:=U r;obtain⟨m2,p2,q2⟩:=Y q1;exact⟨m2,p2.trans p1,q2⟩
variable{G:VL->Tr->Prop}
theorem ZZ:∀ {l} {m},Paired (Vo G h) l m->Vs h (Tr.of (m.map (·.2))) (l.map (·.2))
 |_,_,.nil=>by rfl
 |_,_,.cons (a:=(z,v)) ⟨_,_,_,a,I,e,T,M⟩ r=>by
  subst e;exact⟨a,I,_,rfl,T,M,ZZ r⟩
theorem UT:∀ {l} {m},Paired (Vo G h) l m->∀c∈m.map (·.2),c.deep<8
 |_,_,.nil,c,I=>by cases I
 |_,_,.cons ⟨_,hd,_⟩ r,c,I=>by
  rcases aO.mp I with rfl|I
  .exact hd
  .exact UT r c I
theorem dZ:∀ {l} {m},Paired (Vo G h) l m->Paired G (l.map (·.2)) (m.map (·.2))
 |_,_,.nil=>.nil
 |_,_,.cons ⟨_,_,hg,_⟩ r=>.cons hg (dZ r)
theorem Paired.l9{F}{l}{m}(r:Paired F l m)(d:α)(e:β):∀(ix:List Nat),(∀i∈ix,i<l.length)->Paired F (ix.map fun i=>l.getD i d) (ix.map fun i=>m.getD i e)
 |[],_=>.nil
 |i::ix,h=>by
  have M:=r.length;have hi:=h i aS;obtain⟨x,U,T⟩:=Paired.get r (show m[i]? = some m[i] from ao AS);refine .cons ?_ (Paired.l9 r d e ix fun j I=>h j (aQ _ I))
  simp_all
def jR(p:l.Perm m):Tr.GV l=Tr.GV m:=Tr.LF (Tr.MY l) (Tr.MY m) ((Tr.L4 l).trans (p.trans (Tr.L4 m).symm))
section
variable{prog:F0b}{w:F0c}{A:F0d}{E:AAN}{s:SD}
def gather{T}{r d}{n:Nat}{P}{Y}(K:PySem.W.KdlSrc prog w T r d n P Y)(hA:A.handled=none)(Ac:Y s.heap)(hn:n<=sizeLine) (k:∀I tk l,s.heap.objs.size<I.objs.size->(∀b u,s.heap.get? b=some u->I.get? b=some u)->ItemsOf P l n->R l.toList {s with heap:=I,toks:=tk}):wpAny As A (collect (.ref r)) R E s:=by
 obtain⟨Z,ld⟩:=K.there _ Ac;refine Wb (wpAny_runValue (codeAny_builtin entry_proto_collect' (Wb (aj (aB ⟨plainId_quiet PySem.F.plain_list_iadd _,codeAny_builtin entry_list_iadd' (aV (PySem.W.kdl_extend (A:=A) K hA
  (K.keep _ _ Ac fun _ _ _ e=>aF _ e) s.heap.objs.size (bQ Z) (bQ ld) Go 0 (aR _ rfl)
  (R:=fun q s1=>∃I tk l c,q=.ok (.ret Go)/\s1={s with heap:=I,toks:=tk}/\(∀b u,s.heap.get? b=some u->I.get? b=some u)/\I.get? s.heap.objs.size=some { cls:=.type "list",dict:=none,data:=.seq l c,slots:=#[]}/\ItemsOf P l n)
  (fun I tk l c U M ha=>⟨I,tk,l,c,rfl,rfl,fun b u e=>U b u (aL (aH e)) (aF _ e),M,ha⟩) hn) (fun fin s1 x=>?_) fun e s1 x=>?_)⟩)))))
 .cases fin with
  |done f=>
   obtain⟨I,tk,l,c,e,rfl,U,M,ha⟩:=x;cases e;exact Wb (wpAny_load M (aB (k I tk l (aH M) U ha)))
  |again c1=>
   refine⟨x.1,codeAny_mono x.2 fun q s2 y=>?_⟩;obtain⟨I,tk,l,c,rfl,rfl,U,M,ha⟩:=y;exact Wb (wpAny_load M (aB (k I tk l (aH M) U ha)))
 .obtain⟨_,_,_,_,z,_⟩:=x;cases z
end
section
variable{prog:F0b}{w:F0c}{A:F0d}{E:AAN}{s:SD}{S:AD}{o:Obj}{ev:Array (Int×VL)}{et:ES}{ep:Nat}{t:SetTable}
def dH{Q}(hA:A.handled=none)(W:E5 w o ev ep t)(ho:s.heap.get? S=some o)(R:DN G s.heap ev et)(h64:et.size<64)(hu:A.units+20<cLine) (h:∀(h':Heap) (D tk T:Nat) (us:AAM),s.heap.objs.size<=D->(∀b u,s.heap.get? b=some u->h'.get? b=some u)->h'.get? D=some (seqObj "list" us.toArray T)->Paired G us (Tr.GV (et.toList.map (·.2))).reverse->us.length<64 ->Q (.ref D) LT):wpAny As A (call (.builtin "sorted") [.ref S]) Q E s:=by
 have hsz:=R.size;refine Calls.call_function_entry kind_sorted plain_sorted entry_sorted (args_sorted1 _) ?_;refine Wb (aB ?_);refine Wb (gather (A:=A.in1) (qK W) hA ho (HQ AS) fun Z tk l z1 k1 I=>?_);have Y:l.toList=(GQ w S ep ev).toList.map (·.2):=by
  apply bX;intro j;rw[(Ar)];by_cases hj:j<l.size
  .have T:=Array.getElem?_eq_getElem hj;obtain⟨z,e2⟩:=I.2 j _ T;rw[(SO),T,(SO),e2]
   rfl
  .have hj2:¬j<(GQ w S ep ev).size:=by rw[Kx,<-I.1];exact hj
   rw[List.getElem?_eq_none (by simpa using hj),List.getElem?_eq_none (by simpa using hj2)]
   rfl
 obtain⟨m,pm,rm⟩:=Paired.perm (Tt w S ep ev) R;have U:=ZZ rm;rw[<-Y]at U;have hd:=(Tr.ZC 8 _).mpr fun c hc=>by have:=UT rm c hc;lia
 have M:l.toList.length<64:=by rw[(WY),I.1,hsz];exact h64
 refine Wb (wpAny_newList ?_ (HQ AS));have g1:(Z.push (seqObj "list" l.toList.toArray 0)).get? Z.objs.size=some (seqObj "list" l.toList.toArray 0):=aR _ rfl;have k2:∀b u,s.heap.get? b=some u->(Z.push (seqObj "list" l.toList.toArray 0)).get? b=some u:=fun b u e=>aF _ (k1 b u e);refine Wb (aT (aU slot_list_sort ⟨_,g1,rfl⟩ entry_list_sort (U6 k2 (aa z1) g1 U M
  (by lia) fun ix a1 a2 a3=>⟨_,rfl,?_⟩) (args_list_sort _)))
 obtain⟨T,he1⟩:=sortedHeap_at (vs:=l.toList) g1;refine aB ⟨_,rfl,h _ Z.objs.size tk T (ix.map fun i=>l.toList.getD i Value.none) ?_ (fun b u e=>?_) he1 ?_ (by rw[OF,a1];exact M)⟩
 .exact aa z1
 .have lb:=aH (k1 b u e);rw[sortedHeap_old (aL lb) (by rw[(LJ)];exact bW lb)];exact k2 b u e
 .have hg:=dZ rm;rw[<-Y]at hg;have:=Paired.l9 hg Value.none Tr.nil ix a2;rw[Tr.nJ]at a3;rw[a3,jR (pm.map (·.2))]at this;exact this
end
end TH
namespace TH
open PySem PyProof.Rows PySem.SeqAt
section
variable{prog:F0b}{w:F0c}{E:AAN}
def Wh(prog:F0b)(w:F0c)(E:AAN)(t:Tr):Prop:=∀us A s (b:Array Int) Q,Vs s.heap t us->A.units+t.deep<=cLine ->
 (∀l,l.toList=b.toList++JX t->Q l {s with toks:=s.toks+(t.Fy-1)})->wpAny As A (forIn us b fun x r=>do let h <-pyHash x;pure PUnit.unit;pure (ForInStep.yield (r.push h))) Q E s
def NG(row:Wh prog w E t)(I:s.heap.IsTuple a l.toArray)(T:Vs s.heap t l)(U:A.units+t.deep<cLine) (h:Q (BD t) {s with toks:=s.toks+t.Fy}):wpAny As A (pyHash Jc) Q E s:=by
 obtain⟨o,M,Y,n,hd⟩:=id I;refine PySem.W.pyHash_slot (IsTuple.ty rfl I) F.slot_tuple_hash F.entry_tuple_hash (F.args_tuple_hash_1 _) (beq_builtin_none _) (.inr AS) ?_;show wpAny _ _ (Builtin.Tuple.tupleItemsOf _>>=_) _ _ s;refine Wb (wpAny_tupleItemsOf M hd (Wb ?_));rw[<-Array.forIn_toList];refine row l A.in1 s #[] _ T AS fun b hb=>?_;show wpAny _ _ (retInt _) _ _ _;rw[hb];refine Wb (wpAny_mkInt (aB ⟨_,_,rfl,?_⟩));rw[(show s.toks+_+1=s.toks+t.Fy by have:=Tr.OB t;lia)];exact h
theorem NL:∀t ,Wh prog w E t
 |.nil=>fun us A s b Q e _ h=>by subst e;exact aB (h b (by simp[JX]))
 |.cons c r=>fun us A s b Q e Y h=>by
  obtain⟨a,l,rest,rfl,T,M,I⟩:=e;have hd:(Tr.cons c r).deep=max _ r.deep:=rfl;have hk:(Tr.cons c r).Fy=c.Fy+r.Fy:=rfl;have Z:=Tr.OB r;rw[List.forIn_cons];refine Wb (Wb (NG (NL c) T M AS (Wb (aB (aB ?_)))));refine NL r rest A _ _ Q I AS fun U hb=>?_;have:=h U (by simp[hb,JX,BD])
  grind
def Jv prog w:HeapKind prog w Tr where
 is:=fun h t a=>t.deep<8/\∃its,h.IsTuple a its.toArray/\Vs h t its
 hash:=BD
 draws:=Tr.Fy
 room:=fun A=>A.units+8<cLine
 inj:=fun⟨_,i1,a1,a2⟩ ⟨_,i2,b1,b2⟩=>by
  have e:=by simpa using (JL a1 b1)
  subst e;exact Vs.inj a2 b2
 keeps:=fun {h h' k a d o es ep} ⟨hd,its,h1,h2⟩ ho hdt sb=>by
  have kt:∀b u,h.get? b=some u->u.cls=.type "tuple" ->(∃x n,u.data=.seq x n)->h'.get? b=some u:=fun b u e _ ⟨x,n,hx⟩=>by
   rw[sb.2 b fun z=>?_]
   .exact e
   .subst z;rw[ho]at e;cases e;rw[hdt]at hx;cases hx
  obtain⟨u,hu,hc,n,hx⟩:=h1;exact⟨hd,its,⟨u,kt _ _ hu hc ⟨_,n,hx⟩,hc,n,hx⟩,(show ∀ {t:Tr} {us:List VL},Vs h t us->Vs h' t us from fun {t}=>by
   induction t with
   |nil=>intro us e;rw[Vs]at e ⊢;exact e
   |cons b r ih1 ih2=>
    intro us e;rw[Vs]at e ⊢;obtain⟨a,its,rest,e1,⟨u,hu,hc,n,hx⟩,e3,e4⟩:=e;exact⟨a,its,rest,e1,⟨u,kt _ _ hu hc ⟨_,n,hx⟩,hc,n,hx⟩,ih1 e3,ih2 e4⟩) h2⟩
 pyHash:=fun hr ⟨hd,its,h1,h2⟩ h=>NG (NL _) h1 h2 AS h
 eqBool:=fun {A E s x y a b Q} hr ⟨hd,its,h1,h2⟩ ⟨_,its2,k1,k2⟩ h=>W0 h1 h2 k1 k2 AS prog w E Q h
 quiet:=fun⟨hd,its,h1,h2⟩ h=>quiet 8 ⟨_,its,_,rfl,h1,h2,hd⟩ h
end
end TH
namespace TH
open PySem PyProof.Rows
def Bb:Option Tr->Int
 |none=>4238894112
 |some t=>BD t
def LO:Option Tr->Nat
 |none=>1
 |some t=>t.Fy
def JD(h:Heap):Option Tr->VL->Prop
 |none,v=>v=.none
 |some t,v=>∃a,v=.ref a/\t.deep<8/\∃l,h.IsTuple a l.toArray/\Vs h t l
abbrev KE:=Option Tr×VL×VL
def D8(x:KE):DictEntry:=⟨Bb x.1,x.2.1,x.2.2⟩
theorem QS{j}:∀ {n},j<n->p j=true->(∀i,i<n->p i=true->i=j)->(List.range n).filter p=[j]
 |0,h,_,_=>by simp_all
 |n+1,h,M,l=>by
  rw[List.range_succ,List.filter_append];by_cases e:j=n
  .subst e;rw[(List.filter_eq_nil_iff.mpr fun i hi I=>by
    have:=bL.mp hi;have:=l i AS I
    lia)]
   simp[M]
  .rw[QS (show j<n by lia) M fun i hi=>l i AS];simp[(show p n=false by
    cases q:p n with
    |false=>rfl
    |true=>exact absurd (l n LK q).symm e)]
section
variable{prog:F0b}{w:F0c}{A:F0d}{E:AAN}{s:SD}{d:AD}{o:Obj}{es:Array DictEntry}{ep:Nat}{xs:List KE}{k:Option Tr}{kv:VL}
def La(l:es.toList=xs.map D8)(j:Nat):es[j]? = (xs[j]?).map D8:=by rw[<-(SO),l,(Ar)]
def W7(l:es.toList=xs.map D8):es.size=xs.length:=by rw[<-(WY),l,OF]
def Ud(U:es.toList=xs.map D8)(M:∀x∈xs,Bb x.1=Bb k->x.1=k)(I:∀x∈xs,x.1≠k):placesWithHash es.size (fun i=>es[i]?.map (·.hash)) (Bb k)=[]:=by
 refine List.filter_eq_nil_iff.mpr fun i hi l=>?_;dsimp only at l;rw[La U]at l;cases q:xs[i]? with
 |none=>simp_all
 |some x=>
  rw[q]at l;have T:=aJ q;have:=by simpa[D8]using l
  exact I x T (M x T this)
def Rh(I:es.toList=xs.map D8)(M:∀x∈xs,Bb x.1=Bb k->x.1=k)(hn:(xs.map Fk).Nodup)(T:xs[j]? = some x)(Y:x.1=k):placesWithHash es.size (fun i=>es[i]?.map (·.hash)) (Bb k)=[j]:=by
 refine QS (by rw[W7 I];exact((aD.mp T).1)) (by dsimp only;rw[La I,T,<-Y];simp[D8]) fun i hi l=>?_;dsimp only at l;rw[La I]at l;cases q:xs[i]? with
 |none=>simp_all
 |some y=>
  rw[q]at l;have U:(xs.map Fk)[i]? = some k:=by rw[(Ar),q];show some y.1=_;rw[(M y (aJ q) (by simpa[D8]using l))]
  exact(List.getElem?_inj (aD.mp U).1 hn).mp (U.trans (show _[j]? = some k by simp_all).symm)
def JD.inj(a:JD h x v)(b:JD h y v):x=y:=by
 cases x with
 |none=>
  cases y with
  |none=>rfl
  |some t=>
   obtain⟨_,e,_⟩:=b;rw[a]at e
   contradiction
 |some u=>
  cases y with
  |none=>
   obtain⟨_,e,_⟩:=a;rw[b]at e
   contradiction
  |some t=>
   obtain⟨a1,T,M⟩:=a;obtain⟨a2,l,I⟩:=b;rw[T]at l;cases l;obtain⟨_,i1,b1,b2⟩:=M;obtain⟨_,i2,Y,U⟩:=I;have:=by simpa using JL b1 Y
   subst this;rw[Vs.inj b2 U]
def fP{Q:Option Nat->SD->Prop}(hu:A.units+8<cLine)(hk:JD s.heap k kv)(ho:s.heap.get? d=some o)(hd:o.data=.dict es ep)(he:es.toList=xs.map D8)(his:∀x∈xs,JD s.heap x.1 x.2.1)(hn:(xs.map Fk).Nodup)(T:∀x∈xs,Bb x.1=Bb k->x.1=k) (hno:(∀x∈xs,x.1≠k)->Q none s)(U:∀(j:Nat) (x:KE),xs[j]? = some x->x.1=k->Q (some j) s):wpAny As A (dictFind d kv (Bb k)) Q E s:=by
 unfold dictFind
 try with_reducible refine aT ?_
 refine Wb (wpAny_dictEntries ho hd ?_);cases k with
 |none=>
  have hk:kv=.none:=hk;subst hk;dsimp only;by_cases l:∃x∈xs,x.1=none
  .obtain⟨x,hm,l⟩:=l;obtain⟨j,hj⟩:=ba.mp hm;have hp:=Rh (k:=none) he T hn hj l;have I:es[j]? = some ⟨Bb none,.none,x.2.2⟩:=by
    rw[La he,hj];have h1:=his x hm;rw[l]at h1;show some (D8 x)=_;unfold D8;rw[l,show x.2.1=Value.none from h1]
   rw[hp];rw[if_pos (by simp[I,carriedByValue])];unfold dictWalkPlain;simp only[List.forIn_cons,List.forIn_nil,I];refine Wb (Wb ?_);rw[if_pos BY];refine Wb (wpAny_dictEpoch ho hd (Wb (Wb (ax (aB (Wb (wpAny_dictEpoch ho hd ?_)))))));rw[if_neg BY,if_pos rfl];exact Wb (ax (aB (aB (aB (U j x hj l)))))
  .have hp:=Ud (k:=none) he T fun x hm z=>l ⟨x,hm,z⟩;rw[hp,if_pos (by simp[carriedByValue])];unfold dictWalkPlain;simp only[List.forIn_nil];exact Wb (aB (aB (hno fun x hm z=>l ⟨x,hm,z⟩)))
 |some t=>
  obtain⟨a,rfl,M⟩:=hk;dsimp only;have Z:¬(es.any fun e=>e.key==Value.ref a&&e.hash != Bb (some t))=true:=by
   intro z;rw[<-Array.any_toList,he,List.any_eq_true]at z;obtain⟨e,hm,z⟩:=z;obtain⟨x,l,rfl⟩:=aI.mp hm;rw[(HG)]at z;have h1:x.2.1=.ref a:=by simpa[D8]using z.1
   have h2:=his x l;rw[h1]at h2;have h3:=h2.inj (show JD s.heap (some t) Jc from⟨a,rfl,M⟩);have h4:=z.2;rw[D8,h3]at h4;simp at h4
  by_cases l:∃x∈xs,x.1=some t
  .obtain⟨x,hm,l⟩:=l;obtain⟨j,hj⟩:=ba.mp hm;have hp:=Rh (k:=some t) he T hn hj l;have h1:=his x hm;rw[l]at h1;obtain⟨b,hb,htb⟩:=h1;have I:es[j]? = some ⟨Bb (some t),.ref b,x.2.2⟩:=by
    rw[La he,hj];show some (D8 x)=_;unfold D8;rw[l,hb]
   have hst:([j].filterMap fun i=>es[i]?.map (·.key))=[.ref b]:=by simp[I]
   rw[hp,hst,if_neg (by simp[carriedByValue]),if_neg Z];by_cases Y:(([Value.ref b]:List VL)==[Value.ref a])=true<;>(first|rw[if_pos Y]|rw[if_neg Y])<;>(first|refine Wb (aB ?_)|refine Wb (wpAny_tableMayTell_quiet (knd:=Jv prog w) M (fun v hv=>⟨t,b,List.mem_singleton.mp hv,htb⟩) ?_))<;>(
    rw[if_neg BY];simp only[List.forIn_cons,List.forIn_nil,I];refine Wb (Wb ?_);rw[if_pos BY];refine Wb (wpAny_dictEpoch ho hd (Wb ((Jv prog w).eqBool (x:=t) (y:=t) hu htb M (Wb (wpAny_dictEpoch ho hd ?_)))));rw[if_neg BY,if_pos BY,if_neg BY];refine Wb (ax ?_);rw[if_pos BY];exact aB (aB (aB (U j x hj l))))
  .have hp:=Ud (k:=some t) he T fun x hm z=>l ⟨x,hm,z⟩;rw[hp,if_neg (by simp[carriedByValue]),if_neg Z];rw[if_neg BY];refine Wb (wpAny_tableMayTell_quiet (knd:=Jv prog w) M (fun v hv=>by cases hv) ?_);rw[if_neg BY];simp only[List.forIn_nil];exact Wb (aB (aB (hno fun x hm z=>l ⟨x,hm,z⟩)))
def eY{Q}(M:A.units+8<cLine)(hk:JD s.heap k kv)(h:Q (Bb k) {s with toks:=s.toks+LO k}):wpAny As A (pyHash kv) Q E s:=by
 cases k with
 |some t=>
  obtain⟨a,rfl,I⟩:=hk;exact(Jv prog w).pyHash M I h
 |none=>
  subst hk;have l:s.TypeIs .none "NoneType" := rfl;refine Wb (aB ?_);refine Wb (wpAny_specialOf l F.slot_NoneType_hash.lookup (Wb (wpAny_specialOf l F.slot_NoneType_hash.lookup (Wb (wpAny_callSpecialIfBoundUnlessNone?_slot l F.slot_NoneType_hash
   (aU F.slot_NoneType_hash l F.entry_NoneType_hash
    (wpAny_ret_mkInt ?_) (F.args_NoneType_hash_1 _)))))))
  exact aB h
def FL(xs:List KE)(k:Option Tr):Option KE:=xs.find? fun x=>decide (x.1=k)
def RP(hn:(xs.map Fk).Nodup){j:Nat}(M:xs[j]? = some x)(I:x.1=k):FL xs k=some x:=by
 unfold FL;cases q:xs.find? _ with
 |none=>exact absurd (decide_eq_true I) (List.find?_eq_none.mp q x (aJ M))
 |some y=>
  obtain⟨i,hi⟩:=ba.mp (bO q);have l:(xs.map Fk)[i]? = some k:=by rw[(Ar),hi];show some y.1=_;rw[(show y.1=k by simpa using List.find?_some q)]
  have:=(List.getElem?_inj (aD.mp l).1 hn).mp (l.trans (show _[j]? = some k by simp_all).symm)
  simp_all
def RK(h:∀x∈xs,x.1≠k):FL xs k=none:=List.find?_eq_none.mpr fun x l=>by simpa using h x l
structure JY(h:Heap)(d:Addr)(xs:List KE):Prop where
 ob:∃o es ep,h.get? d=some o/\o.ExactDict/\o.data=.dict es ep/\es.toList=xs.map D8
 ks:∀x∈xs,JD h x.1 x.2.1
 nd:(xs.map Fk).Nodup
def JY.ty(hm:JY s.heap d xs):s.TypeIs (.ref d) "dict" := let⟨o,_,_,l,I,_⟩:=hm.ob;⟨o,l,I.1⟩
def mH(M:A.units+8<cLine)(hk:JD s.heap k kv)(hm:JY s.heap d xs)(I:∀x∈xs,Bb x.1=Bb k->x.1=k)(h:Q ((FL xs k).map (·.2.2)) {s with toks:=s.toks+LO k}):wpAny As A (dictGet d kv) Q E s:=by
 obtain⟨o,es,ep,T,_,hd,Y⟩:=hm.ob;unfold dictGet
 try with_reducible refine aT ?_
 refine Wb (eY M hk (Wb (fP M hk T hd Y hm.ks hm.nd I (fun l=>?_) fun j x U Z=>?_)))
 .rw[RK l]at h;exact aB h
 .rw[RP hm.nd U Z]at h;refine Wb (wpAny_dictEntries T hd ?_);rw[La Y j,U];exact aB h
def tq(M:A.in1.units+8<cLine)(hk:JD s.heap k kv)(hm:JY s.heap d xs)(l:∀x∈xs,Bb x.1=Bb k->x.1=k)(I:FL xs k=some x)(h:Q x.2.2 {s with toks:=s.toks+LO k}):wpAny As A (getItem (.ref d) kv) Q E s:=by
 unfold getItem
 try with_reducible refine aT ?_
 refine Wb (wpAny_sequenceKey hm.ty AC (Wb (ae hm.ty slot_dict_getitem (aU slot_dict_getitem hm.ty entry_dict_getitem ?_ (args_dict_getitem _ _)))));show wpAny _ _ (dictGet d kv>>=_) _ _ s;refine Wb (mH M hk hm l ?_);rw[I];exact aB ⟨x.2.2,rfl,wpAny_pure h⟩
def yn(I:A.in1.units+8<cLine)(hk:JD s.heap k kv)(hd:(d==sysModules)=false)(hm:JY s.heap d xs)(l:∀x∈xs,Bb x.1=Bb k->x.1=k)(neg:Bool) (h:Q (.bool (if neg then !(FL xs k).isSome else(FL xs k).isSome)) {s with toks:=s.toks+LO k}):wpAny As A (compareOp (if neg then .NotIn else .In) kv (.ref d)) Q E s:=by
 have key:∀ {Q:Bool->SD->Prop},Q (FL xs k).isSome _->wpAny As A (contains (.ref d) kv) Q E s:=fun {Q} h=>by
  unfold contains
  try with_reducible refine aT ?_
  refine Wb (wpAny_specialOf hm.ty slot_dict_contains.lookup (Wb (wpAny_callSpecialUnlessNone?_slot hm.ty slot_dict_contains (aU slot_dict_contains hm.ty entry_dict_contains ?_ (args_dict_contains _ _)))));show wpAny _ _ (dictGet d kv>>=_) _ _ s;refine Wb (mH I hk hm l ?_);cases hf:FL xs k with
  |some p=>
   rw[hf]at h;exact aB ⟨_,rfl,wpAny_truthy_bool h⟩
  |none=>
   rw[hf]at h;exact Wb (wpAny_pendingKey_other hd (aB ⟨_,rfl,wpAny_truthy_bool h⟩))
 cases neg with
 |false=>
  exact Wb (key (aB h))
 |true=>
  exact Wb (key (aB h))
def putN(k:Option Tr)(v:VL)(x:KE):KE:=if x.1=k then(x.1,x.2.1,v) else x
def Gw(xs:List KE)(k:Option Tr)(kv v:VL):List KE:=if(FL xs k).isSome then xs.map (putN k v) else xs++[(k,kv,v)]
theorem Xb v:∀xs:List KE,(xs.map (putN k v)).map Fk=xs.map Fk
 |[]=>rfl
 |x::xs=>by
  rw[(BM),(BM),Xb v xs];unfold putN;split<;>rfl
theorem RA:∀ {xs:List KE} {j} {x},(xs.map Fk).Nodup->xs[j]? = some x->x.1=k->(xs.map D8).modify j (fun e=>{e with val:=v})=(xs.map (putN k v)).map D8
 |[],_,_,_,h,_=>by simp
 |y::ys,0,x,hn,h,l=>by
  have:=by simpa using h
  subst this;rw[(BM),List.nodup_cons]at hn;rw[(BM),(BM),(show ys.map _=ys by
   refine(ai fun z I=>?_).trans (List.map_id _);unfold putN;rw[if_neg fun e=>hn.1 (by rw[l,<-e];exact List.mem_map_of_mem I)]
   rfl)]
  unfold putN;rw[if_pos l]
  rfl
 |y::ys,j+1,x,hn,h,l=>by
  have h':=by simpa using h
  rw[(BM),List.nodup_cons]at hn;rw[(BM),(BM),(BM),(show putN k v y=y by
   unfold putN;rw[if_neg fun e=>hn.1 (by rw[e,<-l];exact List.mem_map_of_mem (aJ h'))])]
  show D8 y::(ys.map D8).modify j _=_;rw[RA hn.2 h' l]
def JD.keep(a:JD h k v)(prog:F0b)(w:F0c)(M:h.get? d=some o)(hd:o.data=.dict es ep)(l:Heap.SameBut d h h'):JD h' k v:=by
 cases k with
 |none=>exact a
 |some t=>
  obtain⟨a1,T,I⟩:=a;exact⟨a1,T,(Jv prog w).keeps I M hd l⟩
def vo{v:VL}{Q}(hu:A.in1.units+8<cLine)(hk:JD s.heap k kv)(hm:JY s.heap d xs)(Y:∀x∈xs,Bb x.1=Bb k->x.1=k)(hz:xs.length<=sizeLine) (hQ:∀h',JY h' d (Gw xs k kv v)->Heap.SameBut d s.heap h'->Q () {s with heap:=h',toks:=s.toks+LO k}):wpAny As A (setItem (.ref d) kv v) Q E s:=by
 unfold setItem
 try with_reducible refine aT ?_
 refine Wb (wpAny_sequenceKey hm.ty AC ?_);refine Wb (ae hm.ty slot_dict_setitem (aU slot_dict_setitem hm.ty entry_dict_setitem ?_ (args_dict_setitem _ _ _)));refine Wb (wpAny_notOrdered_dict hm.ty ?_);show wpAny _ _ (dictSet d kv v>>=_) _ _ s;refine Wb ?_;have fin:∀h',JY h' d (Gw xs k kv v)->Heap.SameBut d s.heap h'->wpAny As A.in1 (ret .none) (fun fin s'=>∃v,fin=.done (.ret v)/\wpAny As A (pure ()) Q E s') E {s with heap:=h',toks:=s.toks+LO k}:=fun h' h1 h2=>aB ⟨.none,rfl,wpAny_pure (hQ h' h1 h2)⟩;obtain⟨o,es,ep,l,hc,hd,T⟩:=hm.ob;unfold dictSet
 try with_reducible refine aT ?_
 refine Wb (eY hu hk ?_);unfold dictSetHashed
 try with_reducible refine aT ?_
 refine Wb (fP hu hk l hd T hm.ks hm.nd Y (fun M=>?_) fun j x hj Z=>?_)
 .rw[(show Gw xs k kv v=xs++[(k,kv,v)] by unfold Gw;rw[RK M];rfl)]at fin;refine Wb (ax (wpAny_updateDictKeys (hz:=by rw[W7 T];exact hz) l hd (fin _ ⟨⟨_,_,ep+1,Heap.get?_update_self _ l (Obj.isFreed_of_dict (Obj.data_mapDictKeys hd _)),hc.mapDictKeys _,Obj.data_mapDictKeys hd _,?_⟩,fun y I=>?_,?_⟩ (aZ ..))))
  .simp[T,D8]
  .rcases aX.mp I with h|h
   .exact(hm.ks y h).keep prog w l hd (aZ ..)
   .rw[List.mem_singleton.mp h];exact hk.keep prog w l hd (aZ ..)
  .rw[(DC),List.nodup_append];refine⟨hm.nd,by simp,fun a ha b hb=>?_⟩;have:b=k:=by simpa using hb
   subst this;obtain⟨y,I,rfl⟩:=aI.mp ha;exact M y I
 .rw[(show Gw xs k kv v=xs.map (putN k v) by unfold Gw;rw[RP hm.nd hj Z];rfl)]at fin;refine Wb (ax (Wb (wpAny_updateDict l hd (wpAny_point (fin _ ⟨⟨_,_,ep,Heap.get?_update_self _ l (Obj.isFreed_of_dict (Obj.data_mapDict hd _)),hc.mapDict _,Obj.data_mapDict hd _,?_⟩,fun y I=>?_,?_⟩ (aZ ..))))))
  .have:=RA (v:=v) hm.nd hj Z;rw[<-T]at this
   simpa using this
  .obtain⟨z,U,rfl⟩:=aI.mp I;unfold putN;split<;>exact(hm.ks z U).keep prog w l hd (aZ ..)
  .rw[Xb];exact hm.nd
end
end TH
namespace L2
open PySem PySem.Spec PyProof.Rows
abbrev KR:=Option Tr×V×V
def S8(q:KR)(x:TH.KE):Prop:=x.1=q.1/\RelV q.2.1 x.2.1/\RelV q.2.2 x.2.2
def dN(d:AD)(r:List KR):HO:=.ext fun h=>(d==sysModules)=false/\∃o es ep xs,h.get? d=some o/\o.ExactDict/\o.data=.dict es ep/\es.toList=xs.map TH.D8/\PySem.Paired S8 r xs
def Ge(H:Hp):Option Tr->V->Prop
 |none,v=>v=.BV
 |some t,v=>t.deep<8/\Tv H t v
def Ge.same(h:Ge H k v)(e:AI H H'):Ge H' k v:=by
 cases k with
 |none=>exact h
 |some t=>exact⟨h.1,h.2.same e⟩
structure Sk(H:Hp)(d:Addr)(r:List KR)(k:Option Tr):Prop where
 at_:H d=some (dN d r)
 ks:∀q∈r,Ge H q.1 q.2.1
 nd:(r.map Fk).Nodup
 ap:∀q∈r,TH.Bb q.1=TH.Bb k->q.1=k
def JV(h:PySem.Paired R l m):∀x∈m,∃q∈l,R q x:=by
 induction h with
 |nil=>simp
 |cons a _ I=>
  grind
def UO(h:PySem.Paired S8 r xs):xs.map Fk=r.map Fk:=by
 induction h with
 |nil=>rfl
 |cons a _ l=>rw[(BM),(BM),l,a.1]
section
variable{X:Cx}{pins:LE}{σ:St}{H:Hp}{s:SD}{pos:Pos}
def Ge.raw(I:BH)(h:Ge H k v)(r:RelV v u):TH.JD s.heap k u:=by
 cases k with
 |none=>
  subst h;exact r
 |some t=>
  obtain⟨Y,a,ys,rfl,U,T⟩:=h;obtain⟨l,M,p,_⟩:=I.tuple (A5.of U);exact⟨a,r,Y,l,p,T.vs I M⟩
def V5(I:BH)(h:Sk H d r k):(d==sysModules)=false/\∃xs,TH.JY s.heap d xs/\PySem.Paired S8 r xs/\∀x∈xs,TH.Bb x.1=TH.Bb k->x.1=k:=by
 obtain⟨Y,o,es,ep,xs,g1,g2,g3,g4,l⟩:=(I.Ac d _ h.at_).1;refine⟨Y,xs,⟨⟨o,es,ep,g1,g2,g3,g4⟩,fun x M=>?_,by rw[UO l];exact h.nd⟩,l,fun x M=>?_⟩
 .obtain⟨q,U,T,Z,_⟩:=JV l x M;rw[T];exact(h.ks q U).raw I Z
 .obtain⟨q,U,T,_⟩:=JV l x M;rw[T];exact h.ap q U
def Pu(h:PySem.Paired S8 r xs) k:match r.find? (fun q=>decide (q.1=k)) with
  |some q=>∃x,TH.FL xs k=some x/\RelV q.2.2 x.2.2
  |none=>TH.FL xs k=none:=by
 induction h with
 |nil=>rfl
 | @cons q x l m a _ I=>
  unfold TH.FL at I ⊢;rw[(Jk),(Jk),a.1];by_cases z:q.1=k
  .simp only[decide_eq_true z];exact⟨x,rfl,a.2.2⟩
  .simp only[decide_eq_false z];exact I
def zN:R2:=fun x y H Q=>∃d r k q,x=.ref d/\Ge H k y/\Sk H d r k/\r.find? (fun q=>decide (q.1=k))=some q/\Q q.2.2 H
def Vx(hu:IS)(ho:PE X o U)(hi:PE X i ty)(hs:Xk i):PE X (.Subscript o i pos) (ni zN U ty):=by
 intro pins s σ H Q I h;refine Yh PySem.F.slot_dict_getitem.lookup hs (Aw (ho pins s σ H _ I h) fun u s1 ⟨x,H1,I1,Z,q1⟩=>Aw (hi pins s1 σ H1 _ I1 q1) fun iv s2 ⟨y,H2,M,Y,q2⟩=>?_);obtain⟨d,r,k,q,rfl,hk,hD,hf,q3⟩:=q2;obtain rfl:u=Value.ref d:=Z;obtain⟨hsm,xs,hm,hp,l⟩:=V5 M hD;have T:=Pu hp k;rw[hf]at T;obtain⟨x,h1,h2⟩:=T;exact⟨hm.ty,TH.tq AS (hk.raw M Y) hm l h1 ⟨q.2.2,H2,M.tok _,h2,q3⟩⟩
def y0(neg:Bool):R2:=fun x y H Q=>∃d r k,y=.ref d/\Ge H k x/\Sk H d r k/\Q (.bl (if neg then !(r.find? (fun q=>decide (q.1=k))).isSome else(r.find? (fun q=>decide (q.1=k))).isSome)) H
def fB(hu:IS)(neg:Bool):Cj X (compareOp (if neg then .NotIn else .In)) (y0 neg):=by
 rintro pins s σ H x y v u Q I Y U ⟨d,r,k,rfl,hk,hD,q⟩;obtain rfl:u=Value.ref d:=U;obtain⟨l,xs,hm,Z,M⟩:=V5 I hD;have T:=Pu Z k;refine TH.yn AS (hk.raw I Y) l hm M neg ?_;rw[(show(TH.FL xs k).isSome=(r.find? _).isSome by
  split at T
  .rename_i q e;obtain⟨x,h1,_⟩:=T;rw[h1,e];rfl
  grind)]
 exact⟨.bl _,H,I.tok _,rfl,q⟩
def Gg(r:List KR)(k:Option Tr)(l v:V):List KR:=if(r.find? (fun q=>decide (q.1=k))).isSome then r.map (fun q=>if q.1=k then(q.1,q.2.1,v) else q) else r++[(k,l,v)]
def qk(h:PySem.Paired S8 r xs)(hk:RelV U Y)(M:RelV v u):PySem.Paired S8 (Gg r k U v) (TH.Gw xs k Y u):=by
 have I:=Pu h k;unfold Gg TH.Gw;split at I
 .rename_i q e;obtain⟨x,T,_⟩:=I;rw[T,e];clear e T hk
  induction h with
  |nil=>exact .nil
  | @cons q x l m a _ Z=>
   rw[(BM)];refine .cons ?_ Z;unfold TH.putN;rw[a.1];by_cases z:q.1=k
   .rw[if_pos z,if_pos z];exact⟨rfl,a.2.1,M⟩
   lia
 .rename_i e;rw[I,e];exact h.snoc ⟨rfl,hk,M⟩
def ml:j6:=fun o i v H Q=>∃d r k,o=.ref d/\Ge H k i/\Sk H d r k/\r.length<=1000/\Q (upd H d (dN d (Gg r k i v)))
def XH(hu:IS):jY X ml:=by
 rintro pins s σ H o i v ov iv u Q I ro Y rv ⟨d,r,k,rfl,hk,hD,hl,q⟩;obtain rfl:ov=Value.ref d:=ro;obtain⟨l,xs,hm,Z,T⟩:=V5 I hD;have hle:=by simpa using (af List.length (UO Z))
 refine TH.vo AS (hk.raw I Y) hm T (aK (by lia:xs.length<=1000) AC) fun h' M sb=>?_;obtain⟨o',es,ep,U,g2,g3,g4⟩:=M.ob;refine⟨_,I.write (by rw[hD.at_];exact trivial) (.inl rfl) (fun b w' hb e=>(sb.2 b hb).trans e) ⟨o',U⟩ ?_,q⟩;exact⟨⟨l,o',es,ep,_,U,g2,g3,g4,qk Z Y rv⟩,⟨o',U⟩,fun h1 h2 _ k=>by grind⟩
def ud:TE:=fun _ H Q=>∀p,H p=none->Q (.ref p) (upd H p (dN p []))
def W6:PE X (.Dict [] [] pos) ud:=fun pins s σ H Q I h=>by
 refine wpAny_Dict_empty ⟨.ref s.heap.objs.size,_,I.laid (fun _ _ q=>aF _ q) LK ?_,rfl,h _ (I.Ac.fresh LK)⟩;exact⟨⟨(beq_eq_false_iff_ne.mpr (Ne.symm (aL (bZ AC (I.mod.glob.keeps I.bk).lt)))),_,#[],0,[],Heap.get?_push_size _ rfl,⟨rfl,rfl,rfl⟩,rfl,rfl,.nil⟩,⟨_,Heap.get?_push_size _ rfl⟩,fun M l ⟨a,o,es,ep,xs,q,r⟩ k=>⟨a,o,es,ep,xs,k _ q,r⟩⟩
def find_key{r:List KR}(h:r.find? (fun q=>decide (q.1=k))=some q):q∈r/\q.1=k:=⟨bO h,by simpa using List.find?_some h⟩
end
section
variable{X:Cx}
def gG(hc:PP):C2 X (.builtin "sum") (fun xs H Q=>∃(p:AD) (ns:AAS),xs=[.ref p]/\A5 X.K H p (ns.map V.int)/\Q (.int ns.sum) H):=by
 rintro pins s σ H xs us Q I r ⟨p,ns,rfl,hq,q⟩;obtain⟨u,rfl,Z⟩:=r.one;cases Z;obtain⟨its,Y,pl,hz⟩:=I.tuple hq;have hi:=intsAre_of Y;obtain⟨xs,T⟩:=hi.allInts.items;have l:=T ▸ pl
 have M:=let⟨_,e,_⟩:=l;aH e;refine call_sum_walkG (wpAny_pyIter_tuple l (⟨_,[_,p],[_],_,_,_,numAt xs,rfl,Walks.tuple (A:=X.A.in1) (I.ok.hd hc) _ p (aL M) _,
  ⟨⟨_,Heap.get?_push_size _ rfl,rfl,rfl⟩,l.push _⟩,fun c hcc=>?_,(fun _ _=>intItems_at),fun h' tk U hk=>?_⟩))
 .rw[(LJ)]
  grind
 .rw[(show preSum _ (intItems xs).size=ns.sum by
   rw[<-(show preSum (numAt xs) xs.size=ns.sum by
  rw[preSum_eq,List.take_of_length_le BY,(show ns=xs.toList.map _ by
  rw[<-nums_intItems,<-T];exact hi.numsOf.symm)])]
   simp[intItems])]
  exact⟨.int _,H,I.kept (PyProof.Rows.LSm.kept_iter hk),⟨U,rfl⟩,q⟩
end
end L2
namespace L2
open PySem PySem.Spec PyProof.Rows
def KC:fillsNumberSlot KM "mul" = pure false:=PySem.fillsNumberSlot_seq F.slot_tuple_mul.lookup IF F.slot_tuple_rmul.lookup IF
def ND:seqRepeat? KM=pure (some (.builtin "tuple.__mul__")):=by
 rfl
def Lu a t l items n dd sl : Meets (Builtin.«int.__rmul__» { pos:=[.int a t,.ref l]}) fun _ R s=>s.heap.get? l=some { cls:=.type "tuple",dict:=dd,data:=.seq items n,slots:=sl}/\R (.ok (.ret .notImplemented)) s :=
 Meets.of_wp fun prog w A R s h=>by
  obtain⟨I,h⟩:=h;refine Wb ?_;unfold slotArgs;exact bS IF (bS IF (aB (Wb (Wb (aB (aB (Wb (Wb (wpAny_load' I (aB (Wb (ax (aB ⟨_,rfl,h⟩)))))))))))))
def YQ t l items n dd sl : Meets (Builtin.«tuple.__mul__» { pos:=[.ref l,.int 1 t]}) fun _ R s=>s.heap.get? l=some { cls:=.type "tuple",dict:=dd,data:=.seq items n,slots:=sl}/\R (.ok (.ret (.ref l))) s :=
 Meets.of_wp fun prog w A R s h=>let⟨I,h⟩:=h;Wb (Wb (aB (aB (Wb (wpAny_tupleItemsOf I rfl (wpAny_ite_true BY (Wb (Wb (wpAny_typeOf ⟨_,I,rfl⟩ (aB (Wb (ax (aB ⟨_,rfl,h⟩)))))))))))))
def YF k t l items n dd sl (hk:2<=k) (Y:k<=1000) (T:items.isEmpty=false) (Z:items.size*k.toNat<=1000) (hz:sizeOk (.seq (List.foldl (fun M I=>M++I) #[] (List.replicate k.toNat items)))):Meets (Builtin.«tuple.__mul__» { pos:=[.ref l,.int k t]}) fun _ R s=>s.heap.get? l=some { cls:=.type "tuple",dict:=dd,data:=.seq items n,slots:=sl}/\R (.ok (.ret Go)) {s with heap:=s.heap.push { cls:=.type "tuple",data:=.seq (List.foldl (fun M I=>M++I) #[] (List.replicate k.toNat items))} } :=
 Meets.of_wp fun prog w A R s h=>by
  obtain⟨U,h⟩:=h;exact Wb (Wb (aB (aB (bS AS (Wb (wpAny_tupleItemsOf U rfl (bS (by simp[T];exact bJ ‹_›) (bS (by simp[T];exact Int.le_of_lt ‹_›) (bS (by simp;lia) (bS (by
   unfold Builtin.Tuple.tupleTooMany;have:1000<sizeLine:=by decide
   lia) (Wb (aj (aB ⟨_,rfl,h⟩) hz))))))))))))
section
variable{X:Cx}
def wM:R2:=fun x y H Q=>∃a k xs,x=.ref a/\y=.int k/\H a=some KK/\xs≠[]/\1<=k/\k<=1000/\xs.length*k.toNat<=1000/\∀p H',AI H H'->H' p=some (.tup (List.replicate k.toNat xs).flatten)->Q (.ref p) H'
def oZ:Cj X (binaryOp .Mult) wM:=by
 rintro pins s σ H x y v u Q I rx ry ⟨a,k,xs,rfl,rfl,ha,Z,h1,h2,hz,q⟩;cases rx;obtain⟨t,rfl⟩:=ry;obtain⟨l,U,p1,_⟩:=I.tuple (A5.of ha);obtain⟨⟨cls,dd,data,sl⟩,T,hc,n,hd⟩:=id p1;subst hc hd;have hie:l.toArray.isEmpty=false:=by
  cases l with
  |nil=>exact absurd (U.OZ.mp rfl) Z
  |cons=>simp
 have Y:l.toArray.size*k.toNat<=1000:=by rw[(HW),<-U.length];exact hz
 have M:=(foldl_rep l k.toNat []);refine wpAny_binaryOp_repeat_ref AC ⟨_,T,rfl⟩ (fun s'=>typeIs_int s' k t) KC F.fills_int_mul F.slot_int_rmul ND F.slot_int_index.lookup
  (call_meets F.slot_int_rmul (typeIs_int s k t) F.entry_int_rmul (F.args_int_rmul_2 _ _) (Lu k t a l.toArray n dd sl) ⟨T,rfl,⟨_,T,rfl⟩,?_⟩)
 by_cases h3:k=1
 .subst h3;exact call_meets F.slot_tuple_mul ⟨_,T,rfl⟩ F.entry_tuple_mul (F.args_tuple_mul_2 _ _) (YQ t a l.toArray n dd sl) ⟨T,⟨.ref a,H,I,rfl,q a H (.refl H) (by simpa using ha)⟩⟩
 .refine call_meets F.slot_tuple_mul ⟨_,T,rfl⟩ F.entry_tuple_mul (F.args_tuple_mul_2 _ _) (YF k t a l.toArray n dd sl AS h2 hie Y ?_) ⟨T,?_⟩
  .rw[M];show(List.replicate k.toNat l).flatten.toArray.size<=sizeLine;rw[(HW),len_rep,Nat.mul_comm];exact aK ‹_› AC
  .rw[M];refine⟨.ref s.heap.objs.size,_,I.laid (fun b ob q=>aF _ q) LK ?_,rfl,q _ _ (Aj (I.Ac.fresh LK) _) AR⟩;exact⟨by rw[len_rep,Nat.mul_comm];exact aK ‹_› AC,_,U.rep k.toNat,IsTup.new _ _⟩
end
def Rd.same(e:AI H H')(h:Rd H a u):Rd H' a u:=by
 rcases h with h|⟨o,h⟩
 .exact .inl (e _ _ h)
 .exact .inr ⟨o,e _ _ h⟩
def Gi:Tr->List PD
 |.nil=>[]
 |.cons b r=>.tuple (Gi b)::Gi r
def MU:Option Tr->PD
 |none=>.none
 |some t=>.tuple (Gi t)
mutual
def Du(H:Hp):PD->V->Prop
 |.none,v=>v=.BV
 |.bool b,v=>v=.bl b
 |.int i,v=>v=.int i
 |.str x,v=>v=.str x
 |.tuple ds,v=>∃a xs,v=.ref a/\H a=some KK/\Ad H ds xs
 |.list ds,v=>∃a xs,v=.ref a/\H a=some (.lst xs)/\Ad H ds xs
 |.dict l,v=>(∃ea C:AD,l=[(.int (C:Nat),.none)]/\v=.ref ea/\H ea=some (Sd ea Re))\/(∃(a:AD) (ns:List Int),l=[(.none,.list (ns.map .int))]/\v=.ref a/\Rd H a (.lst (ns.map V.int)))\/Qt H l v
def Ad(H:Hp):List PD->List V->Prop
 |[],xs=>xs=[]
 |d::ds,xs=>∃x r,xs=x::r/\Du H d x/\Ad H ds r
def Qt(H:Hp):List (PD×PD)->V->Prop
 |[],_=>False
 |(l,I)::t,v=>l=.bool true/\I=.none/\∃a r,v=.ref a/\H a=some (dN a r)/\(r.map Fk).Nodup/\J8 H t r
def J8(H:Hp):List (PD×PD)->List KR->Prop
 |[],r=>r=[]
 |(k,d)::t,r=>∃q l,r=q::l/\k=MU q.1/\Ge H q.1 q.2.1/\Du H d q.2.2/\J8 H t l
end
mutual
theorem Du.same{H H':Hp}(e:AI H H'):∀ {d:PD} {v:V},Du H d v->Du H' d v
 |.none,_,h=>by rw[Du]at h ⊢;exact h
 |.bool _,_,h=>by rw[Du]at h ⊢;exact h
 |.int _,_,h=>by rw[Du]at h ⊢;exact h
 |.str _,_,h=>by rw[Du]at h ⊢;exact h
 |.tuple _,_,h=>by
  rw[Du]at h ⊢;obtain⟨a,xs,I,l,M⟩:=h;exact⟨a,xs,I,e _ _ l,Ad.same e M⟩
 |.list _,_,h=>by
  rw[Du]at h ⊢;obtain⟨a,xs,I,l,M⟩:=h;exact⟨a,xs,I,e _ _ l,Ad.same e M⟩
 |.dict _,_,h=>by
  rw[Du]at h ⊢;rcases h with ⟨ea,C,I,T,l⟩|⟨a,ns,I,T,l⟩|h
  .exact .inl ⟨ea,C,I,T,e _ _ l⟩
  .exact .inr (.inl ⟨a,ns,I,T,l.same e⟩)
  .exact .inr (.inr (Qt.same e h))
theorem Ad.same{H H':Hp}(e:AI H H'):∀ {ds:List PD} {xs:List V},Ad H ds xs->Ad H' ds xs
 |[],_,h=>by rw[Ad]at h ⊢;exact h
 |_::_,_,h=>by
  rw[Ad]at h ⊢;obtain⟨x,r,M,I,l⟩:=h;exact⟨x,r,M,Du.same e I,Ad.same e l⟩
theorem Qt.same{H H':Hp}(e:AI H H'):∀ {l:List (PD×PD)} {v:V},Qt H l v->Qt H' l v
 |[],_,h=>by rw[Qt]at h;exact h.elim
 |(_,_)::_,_,h=>by
  rw[Qt]at h ⊢;obtain⟨Z,Y,a,r,U,T,M,I⟩:=h;exact⟨Z,Y,a,r,U,e _ _ T,M,J8.same e I⟩
theorem J8.same{H H':Hp}(e:AI H H'):∀ {l:List (PD×PD)} {r:List KR},J8 H l r->J8 H' l r
 |[],_,h=>by rw[J8]at h ⊢;exact h
 |(_,_)::_,_,h=>by
  rw[J8]at h ⊢;obtain⟨q,I,Z,Y,U,T,M⟩:=h;exact⟨q,I,Z,Y,U.same e,Du.same e T,J8.same e M⟩
end
mutual
theorem Du.br{K:Fg}{H:Hp}:∀ {d:PD} {v:V},d.canLay0=true->Du H d v->Br K H d v
 |.none,_,_,h=>by rw[Du]at h;rw[Br];exact h
 |.bool _,_,_,h=>by rw[Du]at h;rw[Br];exact h
 |.int _,_,_,h=>by rw[Du]at h;rw[Br];exact h
 |.str _,_,_,h=>by rw[Du]at h;rw[Br];exact h
 |.tuple _,_,c,h=>by
  rw[Du]at h;rw[Br];obtain⟨a,xs,M,I,l⟩:=h;exact⟨a,xs,M,A5.of I,Ad.br (by simp only[PyData.canLay0,Bool.and_eq_true]at c;first|exact c|exact c.2|exact c.1) l⟩
 |.list _,_,c,h=>by
  rw[Du]at h;rw[Br];obtain⟨a,xs,M,I,l⟩:=h;exact⟨a,xs,M,Am.of I,Ad.br (by simp only[PyData.canLay0,Bool.and_eq_true]at c;first|exact c|exact c.2|exact c.1) l⟩
 |.dict _,_,c,h=>by simp[PyData.canLay0]at c
theorem Ad.br{K:Fg}{H:Hp}:∀ {ds:List PD} {xs:List V},PyData.canLayAll0 ds=true->Ad H ds xs->F9 K H ds xs
 |[],_,_,h=>by rw[Ad]at h;rw[F9];exact h
 |_::_,_,c,h=>by
  rw[Ad]at h;rw[F9];obtain⟨x,r,M,I,l⟩:=h;simp only[PyData.canLayAll0,Bool.and_eq_true]at c;exact⟨x,r,M,Du.br c.1 I,Ad.br c.2 l⟩
end
def Ad.nil{H:Hp}:Ad H [] []:=by rw[Ad]
def Ad.cons(h:Du H d x)(k:Ad H ds xs):Ad H (d::ds) (x::xs):=⟨x,xs,rfl,h,k⟩
def Ad.un(h:Ad H (d::ds) xs):∃x r,xs=x::r/\Du H d x/\Ad H ds r:=h
def Ad.nil_eq(h:Ad H [] xs):xs=[]:=h
def Ad.len:∀ {ds} {xs},Ad H ds xs->xs.length=ds.length
 |[],_,h=>by rw[h.nil_eq];rfl
 |_::_,_,h=>by obtain⟨x,r,rfl,_,l⟩:=h.un;simp[l.len]
def Ad.get:∀ {ds} {xs} {i:Nat} {d},Ad H ds xs->ds[i]? = some d->∃v,xs[i]? = some v/\Du H d v
 |[],_,i,_,_,e=>by simp at e
 |_::_,_,0,_,h,e=>by
  obtain⟨x,r,rfl,T,_⟩:=h.un
  simp_all
 |_::_,_,i+1,_,h,e=>by
  obtain⟨x,r,rfl,_,l⟩:=h.un;obtain⟨v,M,I⟩:=l.get (by simpa using e)
  simp_all
def Ad.back{i:Nat}(h:Ad H ds xs)(e:xs[i]? = some v):∃d,ds[i]? = some d/\Du H d v:=by
 have hi:i<ds.length:=by rw[<-h.len];exact(aD.mp e).1
 obtain⟨w,I,l⟩:=h.get (show ds[i]? = some ds[i] by simp)
 simp_all
def Ad.app:∀ {ds es} {xs ys},Ad H ds xs->Ad H es ys->Ad H (ds++es) (xs++ys)
 |[],_,_,_,h,k=>by rw[h.nil_eq];exact k
 |_::_,_,_,_,h,k=>by obtain⟨x,r,rfl,I,l⟩:=h.un;exact .cons I (l.app k)
def Ad.take:∀ {ds} {xs} i,Ad H ds xs->Ad H (ds.take i) (xs.take i)
 |_,_,0,_=>.nil
 |[],_,i+1,h=>by rw[h.nil_eq];rfl
 |_::_,_,i+1,h=>by obtain⟨x,r,rfl,I,l⟩:=h.un;exact .cons I (l.take i)
def Ad.drop:∀ {ds} {xs} i,Ad H ds xs->Ad H (ds.drop i) (xs.drop i)
 |_,_,0,h=>h
 |[],_,i+1,h=>by rw[h.nil_eq];rfl
 |_::_,_,i+1,h=>by obtain⟨x,r,rfl,I,l⟩:=h.un;exact l.drop i
def Ad.rev:∀ {ds} {xs},Ad H ds xs->Ad H ds.reverse xs.reverse
 |[],_,h=>by rw[h.nil_eq];rfl
 |_::_,_,h=>by
  obtain⟨x,r,rfl,I,l⟩:=h.un;rw[List.reverse_cons,List.reverse_cons];exact l.rev.app (.cons I .nil)
structure D6 where
 ok:Hp->Addr->HO->Prop
 same:∀ {G G':Hp} {a:Addr} {o:HO},AI G G'->ok G a o->ok G' a o
 QH:∀ {G:Hp} {a:Addr} {xs:List V},¬ok G a KK
inductive Oc where
 |lst (xs:List PyData)|Ei (kvs:List (List Key×PyData))|Ox (kvs:List (Option Tr×PyData))|Ej (g:D6) (pin:Option Addr)
inductive L where
 |no|d (x:PyData)|own (c:Oc)
abbrev Dv:=List L
abbrev AAD:=Dv->Option (List PD)
abbrev AAF:=Dv->Option PD
abbrev AAG:=Dv->Option Bool
def Ck(G:Hp):List (List Key×PD)->List (List Key×V)->Prop
 |[],r=>r=[]
 |q::t,r=>∃v l,r=(q.1,v)::l/\Du G q.2 v/\Ck G t l
theorem Ck.same(e:AI G G'):∀ {t} {r},Ck G t r->Ck G' t r
 |[],r,h=>h
 |q::t,r,h=>by
  obtain⟨v,l,rfl,M,I⟩:=h;exact⟨v,l,rfl,M.same e,Ck.same e I⟩
abbrev QW(kvs:List (Option Tr×PD)):List (PD×PD):=kvs.map fun q=>(MU q.1,q.2)
abbrev VV(kvs:List (Option Tr×PD)):PD:=.dict ((.bool true,.none)::QW kvs)
def IH(G:Hp)(a:AD):Oc->HO->Prop
 |.lst xs,o=>∃ys,o=.lst ys/\Ad G xs ys
 |.Ei kvs,o=>∃r,o=.dT r/\Ck G kvs r
 |.Ox kvs,o=>∃r,o=dN a r/\(r.map Fk).Nodup/\J8 G (QW kvs) r
 |.Ej g p,o=>g.ok G a o/\∀q,p=some q->a=q
def IH.same(h:IH G a c o)(e:AI G G'):IH G' a c o:=by
 cases c with
 |Ej g p=>exact⟨g.same e h.1,h.2⟩
 |Ox kvs=>obtain⟨r,I,l,M⟩:=h;exact⟨r,I,l,J8.same e M⟩
 |lst xs=>obtain⟨ys,I,l⟩:=h;exact⟨ys,I,l.same e⟩
 |Ei kvs=>obtain⟨ys,I,l⟩:=h;exact⟨ys,I,l.same e⟩
def IH.QH(h:IH G a c KK):False:=by
 cases c with
 |Ej g p=>exact g.QH h.1
 |Ox kvs=>obtain⟨r,l,I,M⟩:=h;cases l
 |lst xs=>obtain⟨ys,l,I⟩:=h;contradiction
 |Ei kvs=>obtain⟨ys,l,I⟩:=h;contradiction
def Nw(G0 H0 G:Hp):Prop:=∀a o,G a=some o->G0 a=some o\/H0 a=none\/∃xs,o=HO.tup xs
structure Rw(G0 H0 G H:Hp)(σ:St)(δ:Dv)(ts:List (PyData×V)):Prop where
 ext:AI G0 G
 new:Nw G0 H0 G
 ins:AI G H
 keep:AI H0 H
 len:σ.length=δ.length
 dat:∀(i:Nat) (x:PyData),δ[i]? = some (L.d x)->∃v,σ[i]? = some (some v)/\Du G x v
 own:∀(i:Nat) (xs:Oc),δ[i]? = some (L.own xs)->∃(a:Addr) (ys:HO),σ[i]? = some (some (V.ref a))/\G a=none/\H0 a=none/\H a=some ys/\IH G a xs ys
 apart:∀(i j:Nat) (xs ys:Oc),i≠j->δ[i]? = some (L.own xs)->δ[j]? = some (L.own ys)->σ[i]?≠σ[j]?
 BE:∀p∈ts,Du G p.1 p.2
structure DE(X:Cx)(e:Expr)(f:Dv->Option PyData):Prop where
 ex:∃t,PE X e t/\∀δ x,f δ=some x->∀G0 H0 G H σ ts (Q:VK),Rw G0 H0 G H σ δ ts->(∀v G' H',Rw G0 H0 G' H' σ δ ((x,v)::ts)->Q v H')->t σ H Q
structure DA(X:Cx)(es:List Expr)(f:Dv->Option (List PyData)):Prop where
 ex:∃t,PA X es t/\∀δ xs,f δ=some xs->∀G0 H0 G H σ ts (Q:List V->Hp->Prop),Rw G0 H0 G H σ δ ts->(∀vs G' H',Rw G0 H0 G' H' σ δ (xs.zip vs++ts)->vs.length=xs.length->Q vs H')->t σ H Q
structure DT(X:Cx)(e:Expr)(f:Dv->Option Bool):Prop where
 ex:∃t,PT X e t/\∀δ b,f δ=some b->∀G0 H0 G H σ ts (Q:Bool->Hp->Prop),Rw G0 H0 G H σ δ ts->(∀G' H',Rw G0 H0 G' H' σ δ ts->Q b H')->t σ H Q
section
variable{G0 H0 G H:Hp}{σ:St}{δ:Dv}{ts:List (PD×V)}
def Rw.drop(r:Rw G0 H0 G H σ δ (p::ts)):Rw G0 H0 G H σ δ ts:={r with BE:=fun q l=>r.BE q (.tail _ l)}
def Rw.less(r:Fb)(h:∀p∈us,p∈ts):Rw G0 H0 G H σ δ us:={r with BE:=fun q l=>r.BE q (h q l)}
def Rw.put(r:Fb)(h:Du G x v):Rw G0 H0 G H σ δ ((x,v)::ts):={r with BE:=fun q l=>by rcases aO.mp l with rfl|l;exact h;exact r.BE q l}
def Rw.newObj(r:Fb)(l:H p=none):Rw G0 H0 (upd G p o) (upd H p o) σ δ ts:=by
 have h0:H0 p=none:=by
  cases q:H0 p with
  |none=>rfl
  |some u=>rw[r.keep _ _ q]at l;cases l
 have e:=Aj (show G p=none by
  cases q:G p with
  |none=>rfl
  |some u=>rw[r.ins _ _ q]at l;cases l) o
 refine⟨r.ext.trans e,fun a u h=>?_,fun a u h=>?_,r.keep.trans (Aj l o),r.len,fun i x h=>?_,fun i xs h=>?_,r.apart,fun q Z=>(r.BE q Z).same e⟩
 .by_cases ha:a=p
  .lia
  .rw[AM ha]at h;exact r.new _ _ h
 .by_cases ha:a=p
  .subst ha;rw[AR]at h ⊢;exact h
  .rw[AM ha]at h ⊢;exact r.ins _ _ h
 .obtain⟨v,M,I⟩:=r.dat i x h;exact⟨v,M,I.same e⟩
 .obtain⟨a,ys,M,I,Y,U,T⟩:=r.own i xs h;have ha:a≠p:=fun z=>by lia
  exact⟨a,ys,M,by rw[AM ha];exact I,Y,by rw[AM ha];exact U,T.same e⟩
def Rw.eN(r:Fb)(e:AI H H')(T:H' p=some KK):Rw G0 H0 (upd G p KK) H' σ δ ts:=by
 have l:AI G (upd G p _):=fun a o h=>by
  by_cases ha:a=p
  .subst ha;have:=e _ _ (r.ins _ _ h);rw[T]at this;rw[AR];exact this
  .rw[AM ha];exact h
 refine⟨r.ext.trans l,fun a u h=>?_,fun a u h=>?_,r.keep.trans e,r.len,fun i x h=>?_,fun i xs h=>?_,r.apart,fun q hq=>(r.BE q hq).same l⟩
 .by_cases ha:a=p
  .subst ha;rw[AR]at h;grind
  .rw[AM ha]at h;exact r.new _ _ h
 .by_cases ha:a=p
  .subst ha;rw[AR]at h;lia
  .rw[AM ha]at h;exact e _ _ (r.ins _ _ h)
 .obtain⟨v,M,I⟩:=r.dat i x h;exact⟨v,M,I.same l⟩
 .obtain⟨a,ys,M,I,Z,Y,U⟩:=r.own i xs h;exact⟨a,ys,M,by rw[AM (fun z=>by subst z;rw[e _ _ Y]at T;cases T;exact U.QH)];exact I,Z,e _ _ Y,U.same l⟩
def Rw.lift(r:Fb)(l:AI G G')(h2:Nw G H G')(Z:AI G' H')(M:AI H H'):Rw G0 H0 G' H' σ δ ts:=by
 refine⟨r.ext.trans l,fun a o h=>?_,Z,r.keep.trans M,r.len,fun i x h=>?_,fun i xs h=>?_,r.apart,fun q hq=>(r.BE q hq).same l⟩
 .rcases h2 a o h with k|k|k
  .exact r.new a o k
  .right;left
   cases q:H0 a with
   |none=>rfl
   |some u=>rw[r.keep _ _ q]at k;cases k
  simp_all
 .obtain⟨v,I,Y⟩:=r.dat i x h;exact⟨v,I,Y.same l⟩
 .obtain⟨a,ys,I,Y,k3,U,T⟩:=r.own i xs h;refine⟨a,ys,I,?_,k3,M _ _ U,T.same l⟩;cases q:G' a with
  |none=>rfl
  |some u=>
   rcases h2 a u q with z|z|⟨xs',z⟩
   .grind
   .simp_all
   .have:=Z _ _ q;rw[M _ _ U,z]at this;cases this;exact T.QH.elim
end
section
variable{X:Cx}{a b e:Expr}{f g h:AAF}{pos:Pos}
def q9:DE X (.Constant (.int i) j pos) (fun _=>some (.int i)):=⟨_,Bt,fun δ x h G0 H0 G H σ ts Q r k=>by cases h;exact k _ _ _ (r.put IF)⟩
def wY:DE X (.Constant (.bool i) j pos) (fun _=>some (.bool i)):=⟨_,wV,fun δ x h G0 H0 G H σ ts Q r k=>by cases h;exact k _ _ _ (r.put IF)⟩
def WD:DE X (.Constant .none j pos) (fun _=>some .none):=⟨_,fun _ _ _ H _ I h=>Constant_none ⟨.BV,H,I,rfl,h⟩,fun δ x h G0 H0 G H σ ts Q r k=>by cases h;exact k _ _ _ (r.put IF)⟩
def gf:DE X (.Constant (.str i) j pos) (fun _=>some (.str i)):=⟨_,vT,fun δ x h G0 H0 G H σ ts Q r k=>by cases h;exact k _ _ _ (r.put IF)⟩
noncomputable def nm(i:Nat)(δ:Dv):AAP:=match δ[i]? with|some (.d x)=>some x|_=>none
def wj(h:nm i δ=some x):δ[i]? = some (.d x):=by
 unfold nm at h;split at h
 .simp_all
 .cases h
def Dp(h:PE X (.Name x pos) (IL i)):DE X (.Name x pos) (nm i):=⟨_,h,fun δ y l G0 H0 G H σ ts Q r k=>let⟨v,M,I⟩:=r.dat _ _ (wj l);⟨v,M,k _ _ _ (r.put I)⟩⟩
noncomputable def AF(o:PD->PD->Option PD)(f g:AAF)(δ:Dv):AAP:=(f δ).bind fun x=>(g δ).bind fun y=>o x y
structure DH(X:Cx)(m:Value->Value->Sem Value)(o:PyData->PyData->Option PyData):Prop where
 ex:∃r:R2,Cj X m r/\∀x y z,o x y=some z->∀G0 H0 G H σ δ ts u v (Q:VK),Rw G0 H0 G H σ δ ts->Du G x u->Du G y v->(∀w G' H',Rw G0 H0 G' H' σ δ ((z,w)::ts)->Q w H')->r u v H Q
def two{x y:PD}(h:AF o f g δ=some z):∃x y,f δ=some x/\g δ=some y/\o x y=some z:=by
 obtain⟨x,T,M⟩:=aA.mp h;obtain⟨y,I,l⟩:=aA.mp M;exact⟨x,y,T,I,l⟩
def mh(ho:DH X (binaryOp op) o)(ha:DE X a f)(hb:DE X b g):DE X (.BinOp a op b pos) (AF o f g):=by
 obtain⟨r,Z,M⟩:=ho;obtain⟨ta,I,U⟩:=ha;obtain⟨tb,l,T⟩:=hb;refine⟨_,DP Z I l,fun δ z Y G0 H0 G H σ ts Q R0 k=>?_⟩;obtain⟨x,y,h1,h2,h3⟩:=two (x:=.none) (y:=.none) Y;exact U δ x h1 G0 H0 G H σ ts _ R0 fun u G1 H1 R1=>T δ y h2 G0 H0 G1 H1 σ _ _ R1 fun v G2 H2 R2=>M x y z h3 G0 H0 G2 H2 σ δ ts u v Q R2.drop.drop (R2.BE (x,u) (.tail _ Ch)) (R2.BE (y,v) Ch) k
def vL(ho:DH X (compareOp op) o)(ha:DE X a f)(hb:DE X b g)(hm:behindInMarks op b=false):DE X (.Compare a [op] [b] pos) (AF o f g):=by
 obtain⟨r,hr,Z⟩:=ho;obtain⟨ta,Y,ka⟩:=ha;obtain⟨tb,U,kb⟩:=hb;refine⟨_,fun pins s σ H Q I h=>wpAny_Compare1 (kP Y U I h fun v u s2 x y l I2 T M q=>hr pins s2 σ l x y v u Q I2 T M q) hm,fun δ z hz G0 H0 G H σ ts Q R0 k=>?_⟩;obtain⟨x,y,h1,h2,h3⟩:=two (x:=.none) (y:=.none) hz;exact ka δ x h1 G0 H0 G H σ ts _ R0 fun u G1 H1 R1=>kb δ y h2 G0 H0 G1 H1 σ _ _ R1 fun v G2 l R2=>Z x y z h3 G0 H0 G2 l σ δ ts u v Q R2.drop.drop (R2.BE (x,u) (.tail _ Ch)) (R2.BE (y,v) Ch) k
end
section
variable{X:Cx}
def PV(o o':PD->PD->Option PD)(x y:PD):AAP:=match o x y with|some z=>some z|none=>o' x y
def DH.or(h:DH X m o)(h':DH X m o'):DH X m (PV o o'):=by
 obtain⟨r,Z,Y⟩:=h;obtain⟨r',M,I⟩:=h';refine⟨_,Cj.or Z M,fun x y z l G0 H0 G H σ δ ts u v Q U du T k=>?_⟩;unfold PV at l;split at l
 .rename_i z' e;cases l;exact .inl (Y x y z e G0 H0 G H σ δ ts u v Q U du T k)
 .exact .inr (I x y z l G0 H0 G H σ δ ts u v Q U du T k)
def Oe{o:Int->Int->Option PD}(I:Cj X m (rI C Y))(M:∀i j z,o i j=some z->C i j/\∀H,Du H z (Y i j)) :
  DH X m (fun x y=>match x,y with|.int i,.int j=>o i j|_,_=>none):=by
 refine⟨_,I,fun x y z l G0 H0 G H σ δ ts u v Q R0 du Z k=>?_⟩;split at l
 .rename_i i j;obtain⟨U,T⟩:=M i j z l;exact⟨i,j,du,Z,U,k _ _ _ (R0.put (T _))⟩
 contradiction
def Jd{o:Int->Int->PD}(I:Cj X m (Wj T))(M:∀i j H,Du H (o i j) (T i j)) :
  DH X m (fun x y=>match x,y with|.int i,.int j=>some (o i j)|_,_=>none):=by
 refine⟨_,I,fun x y z l G0 H0 G H σ δ ts u v Q Y du U k=>?_⟩;split at l
 .rename_i i j;cases l;exact⟨i,j,du,U,k _ _ _ (Y.put (M _ _ _))⟩
 contradiction
def A9:Nat:=1000
def S6{n:Nat}(h:n<=A9):n<sizeLine:=UX h
def F5(h:n<=A9):n<=sizeLine:=aa (UX h)
def uE:PD->PD->Option PD:=fun x y=>match x,y with|.int i,.int j=>some (.int (i+j))|_,_=>none
def Ep:PD->PD->Option PD:=fun x y=>match x,y with|.int i,.int j=>some (.int (i-j))|_,_=>none
def LL(n:Nat)(i:Int):Bool:=decide (i.natAbs<2^n)
def OQ(i j:Int):Bool:=LL 64 i||LL 64 j||(LL 9000 i&&LL 9000 j)
def Zr:PD->PD->Option PD:=fun x y=>match x,y with|.int i,.int j=>(if OQ i j=true then some (.int (i*j)) else none)|_,_=>none
def Ds:PD->PD->Option PD:=fun x y=>match x,y with|.int i,.int j=>(if j≠0/\LL 9000 j=true then some (.int (i.fdiv j)) else none)|_,_=>none
def Cp:PD->PD->Option PD:=fun x y=>match x,y with|.int i,.int j=>(if j≠0 then some (.int (i.fmod j)) else none)|_,_=>none
def Pl:PD->PD->Option PD:=fun x y=>match x,y with|.int i,.int j=>(if 0<=j/\j<=1000/\LL 64 i=true then some (.int (i^j.toNat)) else none)|_,_=>none
def qb:DH X (binaryOp .Add) uE:=Jd gU fun _ _ _=>by rfl
def pT:DH X (binaryOp .Sub) Ep:=Jd iH fun _ _ _=>by rfl
def ng(h:LL 64 i=true):-(2^64)<i/\i<2^64:=by
 have:=ak h
 lia
def pA:DH X (binaryOp .Mult) Zr:=Oe IM fun i j z h=>by
 split at h
 .rename_i q;cases h;refine⟨?_,fun _=>by rfl⟩;unfold OQ at q;rw[Bool.or_eq_true,Bool.or_eq_true,(HG)]at q;rcases q with (q|q)|q
  .exact .inl (.inl (ng q))
  .exact .inl (.inr (ng q))
  .exact .inr ⟨9000,by decide,of_decide_eq_true q.1,of_decide_eq_true q.2⟩
 contradiction
def qy:DH X (binaryOp .FloorDiv) Ds:=Oe Gq fun i j z h=>by
 split at h
 .rename_i q;cases h;exact⟨⟨q.1,9000,Nat.le_refl _,of_decide_eq_true q.2⟩,fun _=>by rfl⟩
 contradiction
def qv:DH X (binaryOp .Mod) Cp:=Oe Ry fun i j z h=>by
 split at h
 .rename_i q;cases h;exact⟨q,fun _=>by rfl⟩
 contradiction
def oM:DH X (binaryOp .Pow) Pl:=Oe sG fun i j z h=>by
 split at h
 .rename_i q;cases h;exact⟨⟨q.1,by lia,of_decide_eq_true q.2.2⟩,fun _=>by rfl⟩
 contradiction
def CM(p:Int->Int->Bool):PD->PD->Option PD:=fun x y=>match x,y with|.int i,.int j=>some (.bool (p i j))|_,_=>none
def wI:DH X (compareOp .Lt) (CM fun i j=>decide (i<j)):=Jd Z0 fun _ _ _=>by rfl
def wg:DH X (compareOp .Gt) Id:=Jd VH fun _ _ _=>by rfl
def xc:DH X (compareOp .GtE) (CM fun i j=>decide (j<=i)):=Jd (ja fun _ _ _ _ _ _ _ q=>ge_int q) fun _ _ _=>by rfl
def Vu:PD->PD->Option PD:=fun x y=>match x,y with|.list a,.list b=>(if a.length+b.length<=A9 then some (.list (a++b)) else none)|_,_=>none
def oK:DH X (binaryOp .Add) Vu:=by
 refine⟨_,ub,fun x y z M G0 H0 G H σ δ ts u v Q T du dv k=>?_⟩;unfold Vu at M;split at M
 .split at M
  .cases M;obtain⟨p,xs,rfl,h1,Y⟩:=du;obtain⟨q,ys,rfl,Z,U⟩:=dv;refine⟨p,q,xs,ys,rfl,rfl,T.ins _ _ h1,T.ins _ _ Z,F5 (by rw[Y.len,U.len];assumption),fun l I=>k _ _ _ ((T.newObj I).put ?_)⟩;have e:AI G (upd G l (.lst (xs++ys))):=fun a o h=>by
    rw[AM (Af (T.ins _ _ h) I)];assumption
   exact⟨l,xs++ys,rfl,AR,(Y.same e).app (U.same e)⟩
  lia
 lia
def QU:PD->PD->Option PD:=fun x y=>match x,y with|.tuple a,.tuple b=>(if a.length+b.length<=A9 then some (.tuple (a++b)) else none)|_,_=>none
def pY:DH X (binaryOp .Add) QU:=by
 refine⟨_,oj,fun x y z I G0 H0 G H σ δ ts u v Q M du dv k=>?_⟩;unfold QU at I;split at I
 .split at I
  .cases I;obtain⟨p,xs,rfl,h1,Y⟩:=du;obtain⟨q,ys,rfl,h3,U⟩:=dv;refine⟨p,q,xs,ys,rfl,rfl,M.ins _ _ h1,M.ins _ _ h3,F5 (by rw[Y.len,U.len];assumption),fun l H' e T=>k _ _ _ ((M.eN e T).put ?_)⟩;have Z:AI G (upd G l _):=fun a o h=>by
    by_cases ha:a=l
    .subst ha;have:=e _ _ (M.ins _ _ h);rw[T]at this;rw[AR];exact this
    .rw[AM ha];assumption
   exact⟨l,xs++ys,rfl,AR,(Y.same Z).app (U.same Z)⟩
  lia
 lia
def sJ:PD->PD->Option PD:=fun x y=>match x,y with|.str a,.str b=>(if a.length+b.length<=A9 then some (.str (a++b)) else none)|_,_=>none
def Ap:PD->PD->Option PD:=PV uE (PV Vu (PV QU sJ))
def hW:DH X (binaryOp .Add) Ap:=qb.or (oK.or (pY.or (by
  refine⟨_,bz,fun x y z l G0 H0 G H σ δ ts u v Q T du M k=>?_⟩;unfold sJ at l;split at l
  .rename_i a b;split at l
   .rename_i I;cases l;exact⟨a,b,du,M,F5 I,k _ _ _ (T.put (by rw[Du]))⟩
   .cases l
  .cases l)))
def VZ:PD->PD->Option PD:=fun x y=>match x,y with|.list a,.int k=>(if a.length*k.toNat<=A9/\-1000000<=k/\k<=1000000 then some (.list (List.replicate k.toNat a).flatten) else none)|_,_=>none
def Ad.rep(h:Ad H ds xs):∀n,Ad H (List.replicate n ds).flatten (List.replicate n xs).flatten
 |0=>.nil
 |n+1=>h.app (h.rep n)
def qc:DH X (binaryOp .Mult) VZ:=by
 refine⟨_,uc,fun x y z M G0 H0 G H σ δ ts u v Q T du Z k=>?_⟩;unfold VZ at M;split at M
 .rename_i a n;split at M
  .cases M;obtain⟨p,xs,rfl,Y,U⟩:=du;subst Z;exact⟨p,n,xs,rfl,rfl,T.ins _ _ Y,by lia,by lia,F5 (by rw[U.len];lia),fun l I=>k _ _ _ ((T.newObj I).put (⟨l,_,rfl,AR,(U.same (fun a o h=>by
    rw[AM (Af (T.ins _ _ h) I)];lia)).rep _⟩))⟩
  lia
 lia
def BJ:PD->PD->Option PD:=PV Zr VZ
def dq:DH X (binaryOp .Mult) BJ:=pA.or qc
def T7(h:SeqAt.shaped d=true):d.canLay0=true:=by unfold SeqAt.shaped at h;simp_all
def Bv(neg:Bool):PD->PD->Option PD:=fun x y=>if SeqAt.shaped x=true/\SeqAt.shaped y=true then some (.bool (if neg then !PyData.eqv x y else PyData.eqv x y)) else none
def fM(T:Cj X m (yM X.K neg)):DH X m (Bv neg):=by
 refine⟨_,T,fun x y z I G0 H0 G H σ δ ts u v Q M du U k=>?_⟩;unfold Bv at I;split at I
 .rename_i l;cases I;exact⟨x,y,(du.same M.ins).br (T7 l.1),(U.same M.ins).br (T7 l.2),l.1,l.2,k _ _ _ (M.put IF)⟩
 contradiction
def xM(Y:IS):DH X (compareOp .Eq) (Bv false):=fM ((by
  rintro pins s σ H x y v u Q I M l ⟨d,e,h1,Z,s1,s2,q⟩;obtain⟨as,U⟩:=Br.reads I h1 M;obtain⟨bs,T⟩:=Br.reads I Z l;exact eq_dataH U T s1 s2 Y ⟨.bl _,H,I,rfl,q⟩))
def xb(Y:IS):DH X (compareOp .NotEq) (Bv true):=fM ((by
  rintro pins s σ H x y v u Q I M l ⟨d,e,h1,Z,s1,s2,q⟩;obtain⟨as,U⟩:=Br.reads I h1 M;obtain⟨bs,T⟩:=Br.reads I Z l;exact ne_dataH U T s1 s2 Y ⟨.bl _,H,I,rfl,q⟩))
def PyData.kj:PD->Bool
 |.none=>true
 |_=>false
def so:∀ {x} {u},Du H x u->decide (u=.BV)=PyData.kj x
 |.none,u,h=>by subst h;rfl
 |.bool _,u,h=>by subst h;rfl
 |.int _,u,h=>by subst h;rfl
 |.str _,u,h=>by subst h;rfl
 |.tuple _,u,h=>by obtain⟨a,xs,rfl,_⟩:=h;rfl
 |.list _,u,h=>by obtain⟨a,xs,rfl,_⟩:=h;rfl
 |.dict [],u,h=>by rcases h with ⟨ea,C,_,rfl,_⟩|⟨a,ns,_,rfl,_⟩|h;rfl;rfl;exact h.elim
 |.dict ((_,_)::_),u,h=>by rcases h with ⟨ea,C,_,rfl,_⟩|⟨a,ns,_,rfl,_⟩|⟨_,_,a,r,rfl,_⟩<;>rfl
def tH(neg:Bool):PD->PD->Option PD:=fun x y=>match y with
 |.none=>some (.bool (if neg then !PyData.kj x else PyData.kj x))
 |_=>none
def nZ:DH X (compareOp .Is) (tH false):=by
 refine⟨_,rq,fun x y z l G0 H0 G H σ δ ts u v Q M du I k=>?_⟩;unfold tH at l;split at l
 .cases l;refine⟨I,?_⟩;rw[so du];exact k _ _ _ (M.put IF)
 contradiction
end
section
variable{X:Cx}{a b c e:Expr}{es:AAU}{f g h:AAF}{pos p:Pos}
def Lm:PD->Option Bool
 |.bool b=>some b
 |_=>none
def PN:PD->Option Int
 |.int b=>some b
 |_=>none
def M9{b}(h:Lm x=some b):x=.bool b:=by
 unfold Lm at h;split at h
 .simp_all
 .cases h
def Rb{b}(h:PN x=some b):x=.int b:=by
 unfold PN at h;split at h
 .simp_all
 .cases h
def ue(ha:DE X a f):DE X (.UnaryOp .USub a pos) (fun δ=>(f δ).bind fun x=>(PN x).map fun i=>.int (-i)):=by
 obtain⟨ta,I,M⟩:=ha;refine⟨_,mx iI I,fun δ z T G0 H0 G H σ ts Q R0 k=>?_⟩;obtain⟨x,Z,Y⟩:=aA.mp T;obtain⟨i,U,rfl⟩:=aC.mp Y;have:=Rb U;subst this;exact M δ _ Z G0 H0 G H σ ts _ R0 fun u G1 H1 l=>⟨i,(l.BE _ Ch),k _ _ _ (l.drop.put IF)⟩
def su(ha:DE X a f):DE X (.UnaryOp .Not a pos) (fun δ=>(f δ).bind fun x=>(Lm x).map fun i=>.bool (!i)):=by
 obtain⟨ta,I,M⟩:=ha;refine⟨_,rD I,fun δ z T G0 H0 G H σ ts Q R0 k=>?_⟩;obtain⟨x,Z,Y⟩:=aA.mp T;obtain⟨i,U,rfl⟩:=aC.mp Y;have:=M9 U;subst this;exact M δ _ Z G0 H0 G H σ ts _ R0 fun u G1 H1 l=>⟨i,(l.BE _ Ch),k _ _ _ (l.drop.put IF)⟩
def ua(ha:DE X a f):DE X (.BoolOp op [a] pos) f:=let⟨U,l,M⟩:=ha;⟨_,fun pins s σ H Q I T=>BoolOp_one (l pins s σ H Q I T),M⟩
def uz(ha:DE X a f)(hb:DE X (.BoolOp .And (b::rest) pos) g):DE X (.BoolOp .And (a::b::rest) pos) (fun δ=>(f δ).bind fun x=>(Lm x).bind fun c=>if c=true then g δ else some (.bool false)):=by
 obtain⟨ta,U,Z⟩:=ha;obtain⟨tb,T,Y⟩:=hb;refine⟨_,sS U T,fun δ z hz G0 H0 G H σ ts Q R0 k=>?_⟩;obtain⟨x,h1,h2⟩:=aA.mp hz;obtain⟨i,h3,l⟩:=aA.mp h2;have:=M9 h3;subst this;refine Z δ _ h1 G0 H0 G H σ ts _ R0 fun u G1 H1 M=>⟨i,(M.BE _ Ch),?_⟩;split
 .rename_i I;rw[if_pos I]at l;exact Y δ z l G0 H0 G1 H1 σ ts Q M.drop k
 .rename_i I;rw[if_neg I]at l;cases l;exact k _ _ _ (M.drop.put IF)
variable{fa fb:AAG}
structure DW(X:Cx)(e:Expr)(f:Dv->Option Bool):Prop where
 ex:∃t,PW X e t/\∀δ b,f δ=some b->∀G0 H0 G H σ ts (Q:Bool->Hp->Prop),Rw G0 H0 G H σ δ ts->(∀G' H',Rw G0 H0 G' H' σ δ ts->Q b H')->t σ H Q
def DW.dt(h:DW X e fa):DT X e fa:=let⟨t,p,k⟩:=h;⟨t,p.pt,k⟩
def ia(ho:DH X (compareOp op) o)(ha:DE X a f)(hb:DE X b g)(hm:behindInMarks op b=false):DT X (.Compare a [op] [b] pos) (fun δ=>(AF o f g δ).bind Lm):=by
 obtain⟨r,hr,T⟩:=ho;obtain⟨ta,M,Y⟩:=ha;obtain⟨tb,I,U⟩:=hb;refine⟨_,Dc hr M I hm,fun δ z Z G0 H0 G H σ ts Q R0 k=>?_⟩;obtain⟨q,h0,h4⟩:=aA.mp Z;have:=M9 h4;subst this;obtain⟨x,y,h1,h2,h3⟩:=two (x:=.none) (y:=.none) h0;exact Y δ x h1 G0 H0 G H σ ts _ R0 fun u G1 H1 R1=>U δ y h2 G0 H0 G1 H1 σ _ _ R1 fun v G2 H2 R2=>T x y _ h3 G0 H0 G2 H2 σ δ ts u v _ R2.drop.drop (R2.BE (x,u) (.tail _ Ch)) (R2.BE (y,v) Ch) fun w G3 H3 l=>⟨z,(l.BE _ Ch),k _ _ l.drop⟩
def dr(ha : DE X e f)(he : ∀ whole,isTrue e X.env whole = (do let v <- whole; standAt e.pos; holding [v] (truthy v)):=by intro _; rfl):DT X e (fun δ => (f δ).bind Lm):=by
  obtain ⟨ta,pa,ka⟩:=ha
  refine ⟨_,u5 pa he,fun δ z hz G0 H0 G H σ ts Q R0 k => ?_⟩
  obtain ⟨q,h0,h4⟩:=aA.mp hz
  have:=M9 h4; subst this
  exact ka δ _ h0 G0 H0 G H σ ts _ R0 fun u G1 H1 R1 => ⟨z,(R1.BE _ Ch),k _ _ R1.drop⟩
def uO(ha:DT X a fa):DT X (.UnaryOp .Not a pos) (fun δ=>(fa δ).map fun c=>!c):=by
 obtain⟨ta,l,M⟩:=ha;refine⟨_,fun pins s σ H Q I h=>isTrue_not (l pins s σ H _ I h),fun δ z T G0 H0 G H σ ts Q Z k=>?_⟩;obtain⟨i,U,rfl⟩:=aC.mp T;exact M δ _ U G0 H0 G H σ ts _ Z fun G1 H1 Y=>k _ _ Y
def um(ha:DT X a fa):DW X (.BoolOp op [a] pos) fa:=by
 obtain⟨U,l,M⟩:=ha;cases op
 .exact⟨_,(by
   intro T pins s σ H Q I h;refine isTrue_and (Aw (l pins s σ H Q I h) fun c s1 e=>?_);cases c with
   |true=>exact isTrue_and_nil e
   |false=>exact e),M⟩
 .exact⟨_,(by
   intro T pins s σ H Q I h;refine isTrue_or (Aw (l pins s σ H Q I h) fun c s1 e=>?_);cases c with
   |false=>exact isTrue_or_nil e
   |true=>exact e),M⟩
def sx(ha:DT X a fa)(hb:DW X (.BoolOp .And (b::rest) pos) fb):DW X (.BoolOp .And (a::b::rest) pos) (fun δ=>(fa δ).bind fun c=>if c=true then fb δ else some false):=by
 obtain⟨ta,U,Z⟩:=ha;obtain⟨tb,T,Y⟩:=hb;refine⟨_,rV U T,fun δ z hz G0 H0 G H σ ts Q R0 k=>?_⟩;obtain⟨i,h3,l⟩:=aA.mp hz;refine Z δ _ h3 G0 H0 G H σ ts _ R0 fun G1 H1 M=>?_;split
 .rename_i I;rw[if_pos I]at l;exact Y δ z l G0 H0 G1 H1 σ ts Q M k
 .rename_i I;rw[if_neg I]at l;cases l;exact k _ _ M
def wt(ha:DT X a fa)(hb:DW X (.BoolOp .Or (b::rest) pos) fb):DW X (.BoolOp .Or (a::b::rest) pos) (fun δ=>(fa δ).bind fun c=>if c=true then some true else fb δ):=by
 obtain⟨ta,M,U⟩:=ha;obtain⟨tb,I,T⟩:=hb;refine⟨_,vj M I,fun δ z Y G0 H0 G H σ ts Q R0 k=>?_⟩;obtain⟨i,h3,l⟩:=aA.mp Y;refine U δ _ h3 G0 H0 G H σ ts _ R0 fun G1 H1 R1=>?_;split
 .grind
 .rename_i Z;rw[if_neg Z]at l;exact T δ z l G0 H0 G1 H1 σ ts Q R1 k
variable{fs:AAD}
def Lv:DA X [] (fun _=>some []):=⟨_,Av,fun δ xs h G0 H0 G H σ ts Q l k=>by cases h;exact k [] G H Rs rfl⟩
def Ea(ha:DE X e f)(Y:DA X es fs)(U:starEach (e::es) X.env=Fj::starEach es X.env:=by rfl):DA X (e::es) (fun δ=>(f δ).bind fun x=>(fs δ).map fun xs=>x::xs):=by
 obtain⟨ta,l,M⟩:=ha;obtain⟨tr,pr,I⟩:=Y;refine⟨_,AV l pr U,fun δ z T G0 H0 G H σ ts Q R0 k=>?_⟩;obtain⟨x,h1,h2⟩:=aA.mp T;obtain⟨xs,h3,rfl⟩:=aC.mp h2;refine M δ x h1 G0 H0 G H σ ts _ R0 fun u G1 H1 R1=>I δ xs h3 G0 H0 G1 H1 σ _ _ R1 fun vs G2 H2 R2 hl=>k _ G2 H2 (R2.less fun q Z=>?_) (by grind);simp at Z ⊢
 lia
theorem iW:∀ {xs} {vs},vs.length=xs.length->(∀q∈xs.zip vs,Du G q.1 q.2)->Ad G xs vs
 |[],vs,l,_=>by rw[List.eq_nil_of_length_eq_zero l];rfl
 |x::xs,[],l,_=>by simp at l
 |x::xs,v::vs,l,h=>.cons (h (x,v) BY) (iW (by simpa using l) fun q I=>h q (by simp[I]))
def Rw.args(r:Rw G0 H0 G H σ δ (xs.zip vs++ts))(I:vs.length=xs.length):Ad G xs vs/\Rw G0 H0 G H σ δ ts :=
 ⟨iW I fun q l=>r.BE q (List.mem_append_left _ l),r.less fun q l=>by grind⟩
def Rw.N1{p}(r:Fb)(d:Ad G xs vs)(l:H p=none):Rw G0 H0 (upd G p (.lst vs)) (upd H p (.lst vs)) σ δ ((.list xs,.ref p)::ts):=(r.newObj l).put (⟨p,vs,rfl,AR,d.same (fun a o h=>by rw[AM (Af (r.ins _ _ h) l)];lia)⟩)
def Rw.cW{p}(r:Fb)(d:Ad G xs vs)(l:H p=none):Rw G0 H0 (upd G p (.tup vs)) (upd H p (.tup vs)) σ δ ((.tuple xs,.ref p)::ts):=(r.newObj l).put (⟨p,vs,rfl,AR,d.same (fun a o h=>by rw[AM (Af (r.ins _ _ h) l)];lia)⟩)
def BA(xs:AAK):AAB:=if xs.length<=A9 then some xs else none
def Ng(h:BA xs=some ys):xs=ys/\xs.length<=A9:=by
 unfold BA at h;lia
def tK(ha:DA X es fs):DE X (.Tuple es x1 pos) (fun δ=>((fs δ).bind BA).map .tuple):=by
 obtain⟨ta,l,I⟩:=ha;refine⟨_,Nr l,fun δ z M G0 H0 G H σ ts Q R0 k=>?_⟩;obtain⟨ys,h1,rfl⟩:=aC.mp M;obtain⟨xs,Z,Y⟩:=aA.mp h1;obtain⟨rfl,hl⟩:=Ng Y;refine I δ _ Z G0 H0 G H σ ts _ R0 fun vs G1 H1 R1 T=>?_;obtain⟨d,R2⟩:=R1.args T;exact⟨F5 Rs,fun q U=>k _ _ _ (R2.cW d U)⟩
def RG(ha:DA X es fs):DE X (.List es pos) (fun δ=>((fs δ).bind BA).map .list):=by
 obtain⟨ta,l,I⟩:=ha;refine⟨_,Rt l,fun δ z M G0 H0 G H σ ts Q R0 k=>?_⟩;obtain⟨ys,h1,rfl⟩:=aC.mp M;obtain⟨xs,Z,Y⟩:=aA.mp h1;obtain⟨rfl,hl⟩:=Ng Y;refine I δ _ Z G0 H0 G H σ ts _ R0 fun vs G1 H1 R1 T=>?_;obtain⟨d,R2⟩:=R1.args T;exact⟨F5 Rs,fun q U=>k _ _ _ (R2.N1 d U)⟩
theorem Ad.FX(h:Ad H ds xs)(e:FX ds i=some d):∃v,FX xs i=some v/\Du H d v:=by
 unfold L2.FX at e ⊢;rw[h.len];obtain⟨j,T,l⟩:=aA.mp e;obtain⟨v,M,I⟩:=h.get l
 simp_all
theorem M8:∀ns:List Int,Ad G (ns.map .int) (ns.map V.int)
 |[]=>.nil
 |n::ns=>.cons IF (M8 ns)
def Ak:PD->PD->Option PD:=fun x y=>match x,y with
 |.list xs,.int i=>FX xs i
 |.tuple xs,.int i=>FX xs i
 |.dict [(.none,.list xs)],.int i=>FX xs i
 |.str z,.int i=>if z.length<=A9 then(FX z.cps.toList i).map fun c=>.str ⟨#[c]⟩ else none
 |_,_=>none
def xS(ha:DE X a f)(hb:DE X b g)(hs:TR b):DE X (.Subscript a b pos) (AF Ak f g):=by
 obtain⟨ta,pa,ka⟩:=ha;obtain⟨tb,pb,kb⟩:=hb;refine⟨_,IY rS pa pb hs,fun δ z hz G0 H0 G H σ ts Q R0 k=>?_⟩;obtain⟨x,y,h1,h2,l⟩:=two (x:=.none) (y:=.none) hz;refine ka δ x h1 G0 H0 G H σ ts _ R0 fun u G1 H1 R1=>kb δ y h2 G0 H0 G1 H1 σ _ _ R1 fun v G2 H2 R2=>?_;have du:=R2.BE (x,u) (.tail _ Ch);have U:=R2.BE (y,v) Ch;unfold Ak at l;split at l
 .obtain⟨p,xs,rfl,T,Y⟩:=du;obtain⟨w,I,M⟩:=Y.FX l;exact .inl ⟨p,xs,_,w,rfl,U,Am.of (R2.ins _ _ T),I,k _ _ _ (R2.drop.drop.put M)⟩
 .obtain⟨p,xs,rfl,T,Y⟩:=du;obtain⟨w,I,M⟩:=Y.FX l;exact .inr (.inl ⟨p,xs,_,w,rfl,U,A5.of (R2.ins _ _ T),I,k _ _ _ (R2.drop.drop.put M)⟩)
 .rcases du with ⟨ea,C,Z,_⟩|⟨p,ns,Z,rfl,T⟩|z
  rotate_left 2
  .cases z.1
  .simp at Z
  .obtain rfl:_=ns.map PyData.int:=by simpa using Z
   obtain⟨w,I,M⟩:=(M8 ns).FX l;exact .inl ⟨p,_,_,w,rfl,U,.inl (T.same R2.ins),I,k _ _ _ (R2.drop.drop.put M)⟩
 .split at l
  .rename_i hl;obtain⟨ch,I,rfl⟩:=aC.mp l;exact .inr (.inr ⟨_,_,ch,du,U,F5 hl,I,k _ _ _ (R2.drop.drop.put (by rw[Du]))⟩)
  .cases l
 .cases l
end
def A1(g:MD):Sp:=fun vs H Q _=>∃ds x G,g ds=some x/\Ad G ds vs/\AI G H/\∀v G' H',AI G G'->Nw G H G'->AI G' H'->AI H H'->Du G' x v->Q v H'
section
variable{X:Cx}{a e:Expr}{es:AAU}{f h:AAF}{fs:AAD}{pos p:Pos}
def ZM{st}(T:Fn X.K X.mg x st ps fA fd)(F:Ah X.prog X.w X.K X.mg X.base Ag k fA fd ps (A1 m))(hr:Bq k X.A)(hg:Gl X x)(ha:DA X (e::es) fs) (I:IN=false:=by decide)(he:starEach (e::es) X.env=Fj::starEach es X.env:=by rfl)(l:(backTo pos OR).any Fk=false:=by rfl):DE X Cl (fun δ=>(fs δ).bind m):=by
 obtain⟨ta,M,U⟩:=ha;refine⟨_,EJ T F hr hg M I he l,fun δ z Y G0 H0 G H σ ts Q R0 k=>?_⟩;obtain⟨xs,h1,h2⟩:=aA.mp Y;refine U δ _ h1 G0 H0 G H σ ts _ R0 fun vs G1 H1 R1 Z=>?_;obtain⟨d,R2⟩:=R1.args Z;exact⟨xs,z,G1,h2,by grind,R2.ins,fun v G' H' h3 h4 h5 h6 h7=>k _ _ _ ((R2.lift h3 h4 h5 h6).put h7)⟩
structure K0(X:Cx)(v:Value)(o:MD):Prop where
 ex:∃r,C2 X v r/\∀xs z,o xs=some z->∀G0 H0 G H σ δ ts us (Q:VK),Rw G0 H0 G H σ δ ts->Ad G xs us->(∀w G' H',Rw G0 H0 G' H' σ δ ((z,w)::ts)->Q w H')->r us H Q
def Jt{id}(hc:K0 X (.builtin id) o)(hg:Gl X x)(hm:X.mg x=none)(l:bootBuiltins x=some (.builtin id))(ha:DA X (e::es) fs)(hn:x ≠ "__name__":=by decide)(M:IN=false:=by decide) (he:starEach (e::es) X.env=Fj::starEach es X.env:=by rfl)(I:(backTo pos OR).any Fk=false:=by rfl):DE X Cl (fun δ=>(fs δ).bind o):=by
 obtain⟨r,hr,U⟩:=hc;obtain⟨ta,T,Y⟩:=ha;refine⟨_,EW hr hg hm l T hn M he I,fun δ z Z G0 H0 G H σ ts Q R0 k=>?_⟩;obtain⟨xs,h1,h2⟩:=aA.mp Z;refine Y δ _ h1 G0 H0 G H σ ts _ R0 fun vs G1 H1 R1 l=>?_;obtain⟨d,R2⟩:=R1.args l;exact U xs z h2 G0 H0 G1 H1 σ δ ts vs Q R2 d k
def Tq(hc:K0 X (.type T) o)(hg:Gl X x)(hm:X.mg x=none)(l:bootBuiltins x=some (.type T))(ha:DA X (e::es) fs)(hn:x ≠ "__name__":=by decide)(M:IN=false:=by decide) (he:starEach (e::es) X.env=Fj::starEach es X.env:=by rfl)(I:(backTo pos OR).any Fk=false:=by rfl):DE X Cl (fun δ=>(fs δ).bind o):=by
 obtain⟨r,hr,Y⟩:=hc;obtain⟨ta,U,Z⟩:=ha;refine⟨_,T8 hr hg hm l U hn M he I,fun δ z hz G0 H0 G H σ ts Q R0 k=>?_⟩;obtain⟨xs,h1,h2⟩:=aA.mp hz;refine Z δ _ h1 G0 H0 G H σ ts _ R0 fun vs G1 H1 R1 l=>?_;obtain⟨d,R2⟩:=R1.args l;exact Y xs z h2 G0 H0 G1 H1 σ δ ts vs Q R2 d k
def Ad.Im(h:Ad H [d] xs):∃x,xs=[x]/\Du H d x:=by
 obtain⟨x,r,rfl,I,l⟩:=h.un;rw[l.nil_eq];exact⟨x,rfl,I⟩
def Ad.Jg{d e}(h:Ad H [d,e] xs):∃x y,xs=[x,y]/\Du H d x/\Du H e y:=by
 obtain⟨x,r,rfl,M,I⟩:=h.un;obtain⟨y,rfl,l⟩:=I.Im;exact⟨x,y,rfl,M,l⟩
def BS:MD
 |[.list xs]=>some (.int xs.length)
 |[.tuple xs]=>some (.int xs.length)
 |[.dict [(.none,.list xs)]]=>some (.int xs.length)
 |_=>none
def sf:K0 X (.builtin "len") BS:=by
 refine⟨_,Vt,fun xs z l G0 H0 G H σ δ ts us Q I d k=>?_⟩;unfold BS at l;split at l
 .cases l;obtain⟨u,rfl,du⟩:=d.Im;rw[Du]at du;obtain⟨p,ys,rfl,M,T⟩:=du;refine⟨p,ys,rfl,.inl (Am.of (I.ins _ _ M)),?_⟩;rw[T.len];exact k _ _ _ (I.put (by rw[Du]))
 .cases l;obtain⟨u,rfl,du⟩:=d.Im;obtain⟨p,ys,rfl,M,T⟩:=du;refine⟨p,ys,rfl,.inr (A5.of (I.ins _ _ M)),?_⟩;rw[T.len];exact k _ _ _ (I.put IF)
 .cases l;obtain⟨u,rfl,du⟩:=d.Im;rw[Du]at du;rcases du with ⟨ea,C,U,_⟩|⟨p,ns,U,rfl,M⟩|z
  rotate_left 2
  .cases z.1
  .simp at U
  .obtain rfl:_=ns.map PyData.int:=by simpa using U
   refine⟨p,_,rfl,.inl (.inl (M.same I.ins)),?_⟩;rw[OF]at k ⊢;exact k _ _ _ (I.put (by rw[Du]))
 .cases l
def Er:MD
 |[.list xs]=>some (.tuple xs)
 |[.tuple xs]=>some (.tuple xs)
 |_=>none
def jd:K0 X KM Er:=by
 refine⟨_,VB,fun xs z I G0 H0 G H σ δ ts us Q M d k=>?_⟩;unfold Er at I;split at I
 .cases I;obtain⟨u,rfl,du⟩:=d.Im;obtain⟨p,ys,rfl,T,Y⟩:=du;exact⟨p,ys,rfl,.inl ⟨Am.of (M.ins _ _ T),fun l Z=>k _ _ _ (M.cW Y Z)⟩⟩
 .cases I;obtain⟨u,rfl,du⟩:=d.Im;have U:=du;obtain⟨p,ys,rfl,T,Y⟩:=du;exact⟨p,ys,rfl,.inr ⟨A5.of (M.ins _ _ T),k _ _ _ (M.put U)⟩⟩
 contradiction
def OI:MD
 |[.list xs]=>some (.list xs)
 |[.tuple xs]=>some (.list xs)
 |_=>none
def oJ:K0 X (.type "list") OI:=by
 refine⟨_,Xa,fun xs z I G0 H0 G H σ δ ts us Q M d k=>?_⟩;unfold OI at I;split at I
 .cases I;obtain⟨u,rfl,du⟩:=d.Im;obtain⟨p,ys,rfl,Y,U⟩:=du;exact⟨p,ys,rfl,.inl (Am.of (M.ins _ _ Y)),fun l T=>k _ _ _ (M.N1 U T)⟩
 .cases I;obtain⟨u,rfl,du⟩:=d.Im;obtain⟨p,ys,rfl,Y,U⟩:=du;exact⟨p,ys,rfl,.inr (A5.of (M.ins _ _ Y)),fun l T=>k _ _ _ (M.N1 U T)⟩
 contradiction
def Du.ty{K}{H}:∀ {d} {v},(∀l,d≠.dict l)->Du H d v->Hd K H v (.type (Sr d))/\∀l,d≠.dict l
 |.none,_,_,h=>by subst h;exact⟨.BV,by simp⟩
 |.bool _,_,_,h=>by subst h;exact⟨.bl _,by simp⟩
 |.int _,_,_,h=>by subst h;exact⟨.int _,by simp⟩
 |.str _,_,_,h=>by subst h;exact⟨.str _,by simp⟩
 |.tuple _,_,_,h=>by obtain⟨a,xs,rfl,I,_⟩:=h;exact⟨.tup I,by simp⟩
 |.list _,_,_,h=>by obtain⟨a,xs,rfl,I,_⟩:=h;exact⟨.lst I,by simp⟩
 |.dict _,_,n,h=>by lia
def Z5(q:PD->Bool):PD->Option PD
 |.dict _=>none
 |x=>some (.bool (q x))
def oV(h:Z5 q x=some z):(∀l,x≠.dict l)/\z=.bool (q x):=by
 unfold Z5 at h;split at h
 .cases h
 grind
def Qx{p1 M}(hk:∀d ,(∀kv,d≠.dict kv)->PySem.W.kitOne X.K (.type (Sr d)) (.type T)=some (q d))(hg:Gl X "isinstance")(hm:X.mg "isinstance" = none)(hgT:Gl X l)(hmT:X.mg l=none)(U:bootBuiltins l=some (.type T))(ha:DE X a f) (Z:l ≠ "__name__":=by decide)(hdT:(l==("__debug__"))=false:=by decide)(I:starEach [a,.Name l M] X.env=(false,eval a X.env)::starEach [.Name l M] X.env:=by rfl)(Y:(backTo pos (starEach [.Name l M] X.env)).any Fk=false:=by rfl):DE X (.Call (.Name "isinstance" p1) [a,.Name l M] [] pos) (fun δ=>(f δ).bind (Z5 q)):=by
 obtain⟨ta,pa,ka⟩:=ha;refine⟨_,EW km hg hm PyProof.Rows.boot_isinstance (AV pa (AV (show PE X _ (tC (.ty T)) from SN hgT hmT U rfl Z hdT) Av) I) AC AC I Y,fun δ z hz G0 H0 G H σ ts Q R0 k=>?_⟩;obtain⟨x,h1,h2⟩:=aA.mp hz;obtain⟨n1,rfl⟩:=oV h2;refine ka δ _ h1 G0 H0 G H σ ts _ R0 fun u G1 H1 R1=>?_;obtain⟨t1,t2⟩:=((R1.BE _ Ch).same R1.ins).ty n1;exact⟨u,.ty T,_,q x,rfl,by simp[D9],t1,hk x t2,k _ _ _ (R1.drop.put IF)⟩
end
inductive Ou where
 |nx (δ:Dv)|rt (x:PyData)|bk (δ:Dv)|ct (δ:Dv)|rn (xs:List PyData)
def Fin(G0 H0:Hp)(D:Ends):Ou->Prop
 |.nx δ=>∀σ G H,Rw G0 H0 G H σ δ []->D.nx σ H
 |.rt x=>∀v G H,AI G0 G->Nw G0 H0 G->AI G H->AI H0 H->Du G x v->D.rt v H
 |.bk δ=>∀σ G H,Rw G0 H0 G H σ δ []->D.bk σ H
 |.ct δ=>∀σ G H,Rw G0 H0 G H σ δ []->D.ct σ H
 |.rn xs=>∀a ys G H,AI G0 G->Nw G0 H0 G->AI G H->AI H0 H->H0 a=none->G a=none->H a=some Ix->Ad G xs ys->D.rt Jc H
abbrev DF:=Dv->Option Ou
structure DS(X:Cx)(st:Stmt)(F:DF):Prop where
 ex:∃t,PS X st t/\∀δ r,F δ=some r->∀G0 H0 G H σ D,Rw G0 H0 G H σ δ []->Fin G0 H0 D r->t D σ H
structure Ku(X:Cx)(st:List Stmt)(F:DF):Prop where
 ex:∃t,Ht X st t/\∀δ r,F δ=some r->∀G0 H0 G H σ D,Rw G0 H0 G H σ δ []->Fin G0 H0 D r->t D σ H
noncomputable def AL(I l:DF)(δ:Dv):Option Ou:=match I δ with
 |some (.nx δ')=>l δ'
 |o=>o
section
variable{X:Cx}{c e:Expr}{f h:AAF}{fa:AAG}{pos p:Pos}{st:Stmt}{sts sts':AAi}{F1 F2:DF}
def ZF:Ku X [] (fun δ=>some (.nx δ)):=⟨_,FC,fun δ r h G0 H0 G H σ D R k=>by cases h;exact k _ _ _ R⟩
def Ju(Z:DS X st F1)(Y:Ku X sts F2):Ku X (st::sts) (AL F1 F2):=by
 obtain⟨t1,T,I⟩:=Z;obtain⟨t2,M,U⟩:=Y;refine⟨_,Ai T M,fun δ r h G0 H0 G H σ D R k=>?_⟩;unfold AL at h;split at h
 .rename_i δ' e1;exact I δ _ e1 G0 H0 G H σ _ R fun σ' G' H' R'=>U δ' r h G0 H0 G' H' σ' D R' k
 .rename_i l;refine I δ r h G0 H0 G H σ _ R ?_;cases r with
  |nx δ'=>exact absurd h (l δ')
  |rt x=>exact k
  |bk δ'=>exact k
  |ct δ'=>exact k
  |rn xs=>exact k
def OG(M:DS X st F1):Ku X [st] F1:=by
 obtain⟨t1,l,I⟩:=M;exact⟨_,A8 l,I⟩
def pG:DS X (.Continue pos) (fun δ=>some (.ct δ)):=⟨_,fun _ _ σ H _ I h=>wpAny_Continue ⟨σ,H,I,h⟩,fun δ r h G0 H0 G H σ D R k=>by cases h;exact k _ _ _ R⟩
def Vd(I:DE X e f):DS X (.Return (some e) pos) (fun δ=>(f δ).map .rt):=by
 obtain⟨t,p,k⟩:=I;refine⟨_,Dj p,fun δ r h G0 H0 G H σ D R q=>?_⟩;obtain⟨x,M,rfl⟩:=aC.mp h;exact k δ x M G0 H0 G H σ [] _ R fun v G' H' l=>q v G' H' l.ext l.new l.ins l.keep (l.BE _ Ch)
def qt(I:DE X e f)(l:swapsWith e none pos.line X.env=pure false:=by rfl):DS X (.Expr e pos) (fun δ=>(f δ).map fun _=>.nx δ):=by
 obtain⟨t,p,k⟩:=I;refine⟨_,Hy p l,fun δ r h G0 H0 G H σ D R q=>?_⟩;obtain⟨x,M,rfl⟩:=aC.mp h;exact k δ x M G0 H0 G H σ [] _ R fun v G' H' T=>q _ _ _ T.drop
def nI(l:DT X c fa)(h1:Ku X sts F1)(h2:Ku X sts' F2):DS X (.If c sts sts' pos) (fun δ=>(fa δ).bind fun c=>if c=true then F1 δ else F2 δ):=by
 obtain⟨tc,pc,Y⟩:=l;obtain⟨t1,U,k1⟩:=h1;obtain⟨t2,T,Z⟩:=h2;refine⟨_,IX pc U T,fun δ r h G0 H0 G H σ D R q=>?_⟩;obtain⟨i,h3,I⟩:=aA.mp h;refine Y δ i h3 G0 H0 G H σ [] _ R fun G' H' M=>?_;split
 .rename_i l;rw[if_pos l]at I;exact k1 δ r I G0 H0 G' H' σ D M q
 .rename_i l;rw[if_neg l]at I;exact Z δ r I G0 H0 G' H' σ D M q
end
section
variable{G0 H0 G H:Hp}{σ:St}{δ:Dv}{ts:List (PD×V)}
def Rw.HR(r:Rw G0 H0 G H σ δ ((x,v)::ts)):Rw G0 H0 G H (σ.set i (some v)) (δ.set i (.d x)) ts:=by
 have hl:=r.len;refine⟨r.ext,r.new,r.ins,r.keep,by simp[hl],fun j y h=>?_,fun j ys h=>?_,fun j l ys zs Z T M=>?_,fun q hq=>r.BE q (.tail _ hq)⟩
 .by_cases I:i=j
  .subst I;by_cases hi:i<δ.length
   .rw[List.getElem?_set_self hi]at h;cases h;exact⟨v,by rw[List.getElem?_set_self AS],r.BE _ Ch⟩
   .rw[List.getElem?_eq_none (by simp;lia)]at h;cases h
  .rw[List.getElem?_set_ne I]at h;obtain⟨w,Y,U⟩:=r.dat j y h;exact⟨w,by rw[List.getElem?_set_ne I];exact Y,U⟩
 .by_cases I:i=j
  .subst I;by_cases hi:i<δ.length
   .rw[List.getElem?_set_self hi]at h;cases h
   .rw[List.getElem?_eq_none (by simp;lia)]at h;cases h
  .rw[List.getElem?_set_ne I]at h;obtain⟨w,Y,U,k3⟩:=r.own j ys h;exact⟨w,Y,by rw[List.getElem?_set_ne I];exact U,k3⟩
 .have nj:i≠j:=fun z=>by
   subst z;by_cases hi:i<δ.length
   .rw[List.getElem?_set_self hi]at T;cases T
   .rw[List.getElem?_eq_none (by simp;lia)]at T;cases T
  have nl:i≠l:=fun z=>by
   subst z;by_cases hi:i<δ.length
   .rw[List.getElem?_set_self hi]at M;cases M
   .rw[List.getElem?_eq_none (by simp;lia)]at M;cases M
  rw[List.getElem?_set_ne nj]at T ⊢;rw[List.getElem?_set_ne nl]at M ⊢;exact r.apart j l ys zs Z T M
end
section
variable{X:Cx}{e:Expr}{f:AAF}{pos p:Pos}
def QK(U:X.N.Nodup)(hi:X.N[i]? = some x)(I:Loc X.env.scope x)(T:DE X e f)(M:swapsWith e (some (.Name x l)) pos.line X.env=pure false:=by rfl)(hf:X.fn x=true\/X.env.scope.names.lookup x=some .local:=by first|exact .inl rfl|exact .inr rfl|assumption):DS X (.Assign [.Name x l] e pos) (fun δ=>(f δ).map fun y=>.nx (δ.set i (.d y))):=by
 obtain⟨t,p,k⟩:=T;refine⟨_,Az U hi I p M hf,fun δ r h G0 H0 G H σ D R q=>?_⟩;obtain⟨y,Y,rfl⟩:=aC.mp h;exact k δ y Y G0 H0 G H σ [] _ R fun v G' H' Z=>q _ _ _ Z.HR
end
section
variable{G0 H0 G H:Hp}{σ:St}{δ:Dv}{ts:List (PD×V)}
def Rw.base(r:Fb):Rw G H0 G H σ δ ts:={r with ext:=AI.refl G,new:=fun _ _ h=>.inl h}
def Nw.trans(a:Nw G0 H0 I)(b:Nw I H0 l):Nw G0 H0 l:=fun c o h=>by
 rcases b c o h with z|z|z
 .exact a c o z
 .exact .inr (.inl z)
 simp_all
def Rw.LN(r:Fb)(q:Rw G H0 G' H' σ' δ' l):Rw G0 H0 G' H' σ' δ' l:={q with ext:=r.ext.trans q.ext,new:=r.new.trans q.new}
def En(i:Nat)(δ:Dv):Dv:=match δ[i]? with
 |some (.own (.lst xs))=>δ.set i (.d (.list xs))
 |some (.own (.Ox kvs))=>δ.set i (.d (VV kvs))
 |_=>δ
def Rw.letGo(r:Fb)(hi:δ[i]? = some (.own c))(hx:∀a o,G a=none->IH G a c o->Du (upd G a o) x Jc):∃a o,σ[i]? = some (some Jc)/\G a=none/\H0 a=none/\H a=some o/\IH G a c o/\Rw G0 H0 (upd G a o) H σ (δ.set i (.d x)) ts:=by
 obtain⟨a,o,k1,k2,k3,k4,k5⟩:=r.own i _ hi;have e:AI G (upd G a o):=Aj k2 _;have I:=(aD.mp hi).1;refine⟨a,o,k1,k2,k3,k4,k5,r.ext.trans e,fun b o' h=>?_,fun b o' h=>?_,r.keep,by simp[r.len],fun j y h=>?_,fun j zs h=>?_,fun j l us ws hjl Y U=>?_,fun q hq=>(r.BE q hq).same e⟩
 .by_cases hb:b=a
  .subst hb;exact .inr (.inl k3)
  .rw[AM hb]at h;exact r.new _ _ h
 .by_cases hb:b=a
  .subst hb;rw[AR]at h;rw[k4];exact h
  .rw[AM hb]at h;exact r.ins _ _ h
 .by_cases M:i=j
  .subst M;rw[List.getElem?_set_self I]at h;cases h;exact⟨.ref a,k1,hx a o k2 k5⟩
  .rw[List.getElem?_set_ne M]at h;obtain⟨w,T,Z⟩:=r.dat j y h;exact⟨w,T,Z.same e⟩
 .by_cases M:i=j
  .subst M;rw[List.getElem?_set_self I]at h;cases h
  .rw[List.getElem?_set_ne M]at h;obtain⟨b,us,T,Z,m3,m4,m5⟩:=r.own j zs h;exact⟨b,us,T,by rw[AM (fun z=>by subst z;exact r.apart i j _ zs M hi h (by rw[k1,T]))];exact Z,m3,m4,m5.same e⟩
 .rw[List.getElem?_set_ne (fun z=>by subst z;rw[List.getElem?_set_self I]at Y;cases Y)]at Y;rw[List.getElem?_set_ne (fun z=>by subst z;rw[List.getElem?_set_self I]at U;cases U)]at U;exact r.apart j l us ws hjl Y U
def rj(I:G a=none)(h:IH G a (.lst xs) o):Du (upd G a o) (.list xs) Jc:=by
 obtain⟨ys,rfl,l⟩:=h;exact⟨a,ys,rfl,AR,l.same (Aj I _)⟩
def gq(I:G a=none)(h:IH G a (.Ox kvs) o):Du (upd G a o) (VV kvs) Jc:=by
 obtain⟨r,rfl,n,l⟩:=h;exact .inr (.inr ⟨rfl,rfl,a,r,rfl,AR,n,J8.same (Aj I _) l⟩)
def Rw.En i (r:Fb):∃G',Rw G0 H0 G' H σ (L2.En i δ) ts:=by
 unfold L2.En;split
 .rename_i xs hi;obtain⟨a,o,_,_,_,_,_,R⟩:=r.letGo hi fun a o h=>rj h;exact⟨_,R⟩
 .rename_i kvs hi;obtain⟨a,o,_,_,_,_,_,R⟩:=r.letGo hi fun a o h=>gq h;exact⟨_,R⟩
 .exact⟨G,r⟩
def Rw.Qf{i:Nat}{xs:Oc}{ys:HO}{a:AD}(r:Fb)(d:IH G a xs ys)(ha:H a=none):Rw G0 H0 G (upd H a ys) (σ.set i (some Jc)) (δ.set i (.own xs)) ts:=by
 have e:AI H (upd H a ys):=Aj ha _;have hl:=r.len;have other:∀(j:Nat) (M:Oc),i≠j->(δ.set i (.own xs))[j]? = some (L.own M)->δ[j]? = some (L.own M):=fun j M I h=>by rw[List.getElem?_set_ne I]at h;exact h
 have T:∀(j:Nat) (M:Oc),δ[j]? = some (L.own M)->σ[j]?≠some (some (V.ref a)):=fun j M h z=>by
  obtain⟨b,us,U,m2,m3,m4,m5⟩:=r.own j M h;rw[z]at U;cases U;rw[m4]at ha;cases ha
 refine⟨r.ext,r.new,r.ins.trans e,r.keep.trans e,by simp[hl],fun j y h=>?_,fun j M h=>?_,fun j l us ws hjl Z Y=>?_,r.BE⟩
 .by_cases I:i=j
  .subst I;by_cases hi:i<δ.length
   .rw[List.getElem?_set_self hi]at h;cases h
   .rw[List.getElem?_eq_none (by simp;lia)]at h;cases h
  .rw[List.getElem?_set_ne I]at h;obtain⟨w,U,m2⟩:=r.dat j y h;exact⟨w,by rw[List.getElem?_set_ne I];exact U,m2⟩
 .by_cases I:i=j
  .subst I;by_cases hi:i<δ.length
   .rw[List.getElem?_set_self hi]at h;cases h;exact⟨a,ys,by rw[List.getElem?_set_self AS],(show G a=none by
  cases q:G a with
  |none=>rfl
  |some u=>rw[r.ins _ _ q]at ha;cases ha),(show H0 a=none by
  cases q:H0 a with
  |none=>rfl
  |some u=>rw[r.keep _ _ q]at ha;cases ha),AR,d⟩
   .rw[List.getElem?_eq_none (by simp;lia)]at h;cases h
  .obtain⟨b,us,U,m2,m3,m4,m5⟩:=r.own j M (other j M I h);exact⟨b,us,by rw[List.getElem?_set_ne I];exact U,m2,m3,e _ _ m4,m5⟩
 .by_cases I:i=j
  .subst I;have hl2:i≠l:=hjl;have Y:=other l ws hl2 Y;by_cases hi:i<δ.length
   .rw[List.getElem?_set_self AS,List.getElem?_set_ne hl2];exact fun z=>T l ws Y z.symm
   .rw[List.getElem?_eq_none (by simp;lia)]at Z;cases Z
  .have Z:=other j us I Z;by_cases hk:i=l
   .subst hk;by_cases hi:i<δ.length
    .rw[List.getElem?_set_self AS,List.getElem?_set_ne I];exact fun z=>T j us Z z
    .rw[List.getElem?_eq_none (by simp;lia)]at Y;cases Y
   .rw[List.getElem?_set_ne I,List.getElem?_set_ne hk];exact r.apart j l us ws hjl Z (other l ws hk Y)
def Rw.RT(r:Fb)(hi:δ[i]? = some (.own xs))(ha:σ[i]? = some (some Jc))(d:IH G a T ys):Rw G0 H0 G (upd H a ys) σ (δ.set i (.own T)) ts:=by
 obtain⟨a',ys0,k1,k2,k3,k4,k5⟩:=r.own i xs hi;rw[ha]at k1;cases k1;have U:=(aD.mp hi).1;refine⟨r.ext,r.new,fun b o h=>?_,fun b o h=>?_,by simp[r.len],fun j y h=>?_,fun j zs h=>?_,fun j l us ws Z h1 h2=>?_,r.BE⟩
 .rw[AM (fun z=>by subst z;rw[k2]at h;cases h)];exact r.ins _ _ h
 .rw[AM (fun z=>by subst z;rw[k3]at h;cases h)];exact r.keep _ _ h
 .by_cases I:i=j
  .subst I;rw[List.getElem?_set_self U]at h;cases h
  .rw[List.getElem?_set_ne I]at h;exact r.dat j y h
 .by_cases I:i=j
  .subst I;rw[List.getElem?_set_self U]at h;cases h;exact⟨a,ys,ha,k2,k3,AR,d⟩
  .rw[List.getElem?_set_ne I]at h;obtain⟨b,us,m1,m2,m3,m4,m5⟩:=r.own j zs h;exact⟨b,us,m1,m2,m3,by rw[AM (fun z=>by subst z;exact r.apart i j xs zs I hi h (by rw[ha,m1]))];exact m4,m5⟩
 .have f:∀j us,(δ.set i (.own T))[j]? = some _->∃M,δ[j]? = some (L.own M):=fun j us h=>by
   by_cases I:i=j
   .subst I;exact⟨xs,hi⟩
   .rw[List.getElem?_set_ne I]at h;exact⟨us,h⟩
  obtain⟨M,h1⟩:=f j us h1;obtain⟨Y,h2⟩:=f l ws h2;exact r.apart j l M Y Z h1 h2
end
section
variable{X:Cx}{a b e:Expr}{es:AAU}{f g h:AAF}{fs:AAD}{pos p:Pos}{st:Stmt}{F:DF}
def uQ i (l:DS X st F):DS X st (fun δ=>F (En i δ)):=by
 obtain⟨t,p,k⟩:=l;refine⟨t,p,fun δ r h G0 H0 G H σ D R q=>?_⟩;obtain⟨G',I⟩:=R.En i;exact k _ r h G0 H0 G' H σ D I q
def sD(hN:X.N.Nodup)(hi:X.N[i]? = some x)(U:Loc X.env.scope x)(ha:DA X es fs)(Z:swapsWith (.List es T) (some (.Name x I)) pos.line X.env=pure false:=by rfl)(hf:X.fn x=true\/X.env.scope.names.lookup x=some .local:=by first|exact .inl rfl|exact .inr rfl|assumption):DS X (.Assign [.Name x I] (.List es T) pos) (fun δ=>((fs δ).bind BA).map fun ys=>.nx (δ.set i (.own Ix))):=by
 obtain⟨t,p,k⟩:=ha;refine⟨_,Az hN hi U (Rt p) Z hf,fun δ r h G0 H0 G H σ D R q=>?_⟩;obtain⟨y,h1,rfl⟩:=aC.mp h;obtain⟨xs,h2,h3⟩:=aA.mp h1;obtain⟨rfl,hl⟩:=Ng h3;refine k δ _ h2 G0 H0 G H σ [] _ R fun vs G1 H1 R1 Y=>?_;obtain⟨d,R2⟩:=R1.args Y;exact⟨F5 Rs,fun l M=>q _ _ _ (R2.Qf ⟨_,rfl,d⟩ M)⟩
def ow(i:Nat)(δ:Dv):AAB:=match δ[i]? with
 |some (.own (.lst xs))=>some xs
 |_=>none
def OL(h:ow i δ=some xs):δ[i]? = some (.own (.lst xs)):=by
 unfold ow at h;split at h
 .simp_all
 .cases h
def fE(hv:PE X Iv (IL i))(he:DE X e f) (hP:∀ {T} {t},PE X Iv T->PA X [e] t->PS X (.Expr (.Call (.Attribute Iv "append" ap) [e] [] cp) pos) (RV (uW X.K "list" Y4 T t)))(I:starEach [e] X.env=Fj::starEach [] X.env:=by rfl):DS X (.Expr (.Call (.Attribute Iv "append" ap) [e] [] cp) pos) (fun δ=>(f δ).bind fun y=>(ow i δ).bind fun xs=>if xs.length<A9 then some (.nx (δ.set i (.own (.lst (xs++[y]))))) else none):=by
 obtain⟨t,p,k⟩:=he;refine⟨_,hP hv (AV p Av I),fun δ r h G0 H0 G H σ D R q=>?_⟩;obtain⟨y,h1,h2⟩:=aA.mp h;obtain⟨xs,h3,Z⟩:=aA.mp h2;split at Z
 .cases Z;have hi:=OL h3;obtain⟨a,_,l,k2,k3,k4,⟨ys,rfl,k5⟩⟩:=R.own i _ hi;refine⟨.ref a,l,.inl ⟨rfl,ys,Am.of k4⟩,k δ y h1 G0 H0 G H σ [] _ R fun u G1 H1 M=>?_⟩;obtain⟨a',_,Y,m2,m3,m4,⟨zs,rfl,U⟩⟩:=M.own i _ hi;rw[l]at Y;cases Y;exact⟨a,zs,u,rfl,rfl,m4,S6 (by rw[U.len];exact aa ‹_›),q _ _ _ (M.drop.RT hi l ⟨_,rfl,U.app (.cons (M.BE _ Ch) .nil)⟩)⟩
 contradiction
def gc{i}{x}(hv:PE X Iv (IL i))(he:DE X e f)
 (hP:∀ {U} {t},PE X Iv U->PA X [e] t->PS X (.Expr (.Call (.Attribute Iv "extend" ap) [e] [] cp) pos) (RV (uW X.K "list" Zi U t)))(T:starEach [e] X.env=Fj::starEach [] X.env:=by rfl) :
  DS X (.Expr (.Call (.Attribute Iv "extend" ap) [e] [] cp) pos) (fun δ=>(f δ).bind fun y=>(ow i δ).bind fun xs=>match y with|.list zs=>(if xs.length+zs.length<=A9 then some (.nx (δ.set i (.own (.lst (xs++zs))))) else none)|_=>none):=by
 obtain⟨t,p,k⟩:=he;refine⟨_,hP hv (AV p Av T),fun δ r h G0 H0 G H σ D R q=>?_⟩;obtain⟨y,h1,h2⟩:=aA.mp h;obtain⟨xs,h3,l⟩:=aA.mp h2;split at l
 .split at l
  .rename_i hl;cases l;have hi:=OL h3;obtain⟨a,_,M,k2,k3,k4,⟨ys,rfl,k5⟩⟩:=R.own i _ hi;refine⟨.ref a,M,.inl ⟨rfl,ys,Am.of k4⟩,k δ _ h1 G0 H0 G H σ [] _ R fun u G1 H1 I=>?_⟩;obtain⟨a',_,m1,m2,m3,m4,⟨us,rfl,Z⟩⟩:=I.own i _ hi;rw[M]at m1;cases m1;obtain⟨b,ws,rfl,n1,Y⟩:=(I.BE _ Ch);exact⟨a,b,us,ws,rfl,rfl,m4,I.ins _ _ n1,F5 (by rw[Z.len,Y.len];exact hl),q _ _ _ (I.drop.RT hi M ⟨_,rfl,Z.app Y⟩)⟩
  .cases l
 .cases l
def jI(hv:PE X Iv (IL i))(hb:DE X b g)(hs:TR b):DE X (.Subscript Iv b pos) (fun δ=>(g δ).bind fun y=>(ow i δ).bind fun xs=>(PN y).bind fun k=>FX xs k):=by
 obtain⟨tb,Y,kb⟩:=hb;refine⟨_,IY Y0 hv Y hs,fun δ z hz G0 H0 G H σ ts Q U k=>?_⟩;obtain⟨y,h1,h2⟩:=aA.mp hz;obtain⟨xs,T,h4⟩:=aA.mp h2;obtain⟨j,h5,h6⟩:=aA.mp h4;have:=Rb h5;subst this;obtain⟨a,_,M,k2,k3,k4,⟨ys,rfl,k5⟩⟩:=U.own i _ (OL T);refine⟨.ref a,M,kb δ _ h1 G0 H0 G H σ ts _ U fun v G1 H1 l=>?_⟩;obtain⟨a',_,I,m2,m3,m4,⟨us,rfl,Z⟩⟩:=l.own i _ (OL T);rw[M]at I;cases I;obtain⟨w,h7,h8⟩:=Z.FX h6;exact⟨a,us,j,w,rfl,(l.BE _ Ch),Am.of m4,h7,k _ _ _ (l.drop.put h8)⟩
end
structure LI(J:It)(xs:List PyData)(G:Hp):Prop where
 stop:∀H,AI G H->J.stop xs.length H
 go:∀(i:Nat) (d:PyData) H,xs[i]? = some d->AI G H->J.go i H
 E7:∀(i:Nat) (d:PyData) H x H',xs[i]? = some d->AI G H->J.E7 i H x H'->∀Gc,AI G Gc->AI Gc H->∃Gc',AI Gc Gc'/\Nw Gc H Gc'/\AI Gc' H'/\AI H H'/\Du Gc' d x
def Nw.refl{G H:Hp}:Nw G H G:=fun _ _ h=>.inl h
def qV{K}(ha:G a=some Ix)(d:Ad G xs ys):LI (ZW K a) xs G where
 stop:=fun H e=>⟨ys,Am.of (e _ _ ha),by rw[d.len];simp⟩
 go:=fun i x H hx e=>by
  obtain⟨v,h1,_⟩:=d.get hx;exact⟨ys,v,Am.of (e _ _ ha),h1⟩
 E7:=fun i x H v H' hx e y Gc e1 e2=>by
  obtain⟨rfl,y⟩:=y;obtain⟨x',h2,h3⟩:=d.back (y ys (Am.of (e _ _ ha)));rw[hx]at h2;cases h2;exact⟨Gc,AI.refl _,Nw.refl,e2,AI.refl _,h3.same e1⟩
def uB{K}(ha:G a=some (.tup ys))(d:Ad G xs ys):LI (tQ K a) xs G where
 stop:=fun H e=>⟨ys,A5.of (e _ _ ha),by rw[d.len];simp⟩
 go:=fun i x H hx e=>by
  obtain⟨v,h1,_⟩:=d.get hx;exact⟨ys,v,A5.of (e _ _ ha),h1⟩
 E7:=fun i x H v H' hx e y Gc e1 e2=>by
  obtain⟨rfl,y⟩:=y;obtain⟨x',h2,h3⟩:=d.back (y ys (A5.of (e _ _ ha)));rw[hx]at h2;cases h2;exact⟨Gc,AI.refl _,Nw.refl,e2,AI.refl _,h3.same e1⟩
def Ew(lo:Int)(n:Nat):AAK:=(List.range n).map fun k=>.int (lo+(k:Nat))
def iZ{lo}:LI (fF lo n) (Ew lo n) G where
 stop:=fun H e=>by show n<=_;simp[Ew]
 go:=fun i x H hx e=>by
  show i<n
  simpa[Ew]using ((aD.mp hx).1)
 E7:=fun i x H v H' hx e y Gc e1 e2=>by
  obtain⟨rfl,rfl⟩:=y;unfold Ew at hx;rw[(Ar)]at hx;obtain⟨k,h1,rfl⟩:=aC.mp hx;have hk:k=i:=by
   rw[List.getElem?_range (by simpa using ((aD.mp h1).1))]at h1
   grind
  subst hk;exact⟨Gc,AI.refl _,Nw.refl,e2,AI.refl _,by rfl⟩
def Pz(T:AI Gc H)(M:H p=none)(Y:Du Gc d1 I)(U:Du Gc Z l):∃Gc',AI Gc Gc'/\Nw Gc H Gc'/\AI Gc' (upd H p (.tup [I,l]))/\AI H (upd H p (.tup [I,l]))/\Du Gc' (.tuple [d1,Z]) (.ref p):=by
 have e:AI Gc (upd Gc p (.tup [I,l])):=Aj (show Gc p=none by
  cases q:Gc p with
  |none=>rfl
  |some u=>rw[T _ _ q]at M;cases M) _
 refine⟨upd Gc p _,e,fun a o h=>?_,fun a o h=>?_,Aj M _,?_⟩
 .by_cases ha:a=p
  .simp_all
  .rw[AM ha]at h;exact .inl h
 .by_cases ha:a=p
  .subst ha;rw[AR]at h ⊢;exact h
  .rw[AM ha]at h ⊢;exact T _ _ h
 .exact⟨p,[I,l],rfl,AR,.cons (Y.same e) (.cons (U.same e) .nil)⟩
def DM(xs:AAK):AAK:=xs.zipIdx.map fun q=>.tuple [.int (q.2),q.1]
def Ia{i:Nat}(h:(DM xs)[i]? = some d):∃x,xs[i]? = some x/\d=.tuple [.int i,x]:=by
 unfold DM at h;rw[(Ar)]at h;obtain⟨q,l,rfl⟩:=aC.mp h
 simp_all
def nR{K}(hs:∀ {H},AI G H->Uh b K H a ys)(d:Ad G xs ys):LI (Nz K b 0 a) (DM xs) G where
 stop:=fun H e=>⟨ys,hs e,by rw[d.len];simp[DM]⟩
 go:=fun i x H hx e=>by
  obtain⟨x',h0,rfl⟩:=Ia hx;obtain⟨v,h1,_⟩:=d.get h0;exact⟨ys,v,hs e,h1⟩
 E7:=fun i x H v H' hx e y Gc e1 e2=>by
  obtain⟨x',h0,rfl⟩:=Ia hx;obtain⟨p,u,rfl,hp,rfl,y⟩:=y;obtain⟨x2,h2,h3⟩:=d.back (y ys (hs e));rw[h0]at h2;cases h2;exact Pz e2 hp IF (h3.same e1)
def j3{K}(ha:G a=some (.tup ys))(d:Ad G xs ys):LI (x6 K a) (DM xs) G:=nR (fun e=>A5.of (e _ _ ha)) d
def jh{K}(ha:G a=some Ix)(d:Ad G xs ys):LI (xr K a) (DM xs) G:=nR (fun e=>Am.of (e _ _ ha)) d
def Gj(xs ys:AAK):AAK:=(xs.zip ys).map fun q=>.tuple [q.1,q.2]
def Pe{i:Nat}(h:(Gj xs ys)[i]? = some d):∃x y,xs[i]? = some x/\ys[i]? = some y/\d=.tuple [x,y]:=by
 unfold Gj at h;rw[(Ar)]at h;obtain⟨q,M,rfl⟩:=aC.mp h;obtain⟨I,l⟩:=List.getElem?_zip_eq_some.mp M;exact⟨q.1,q.2,I,l,rfl⟩
def rY{b1 b2:Bool}(h1:G a1=some (if b1 then .tup us else .lst us))(h2:G a2=some (if b2 then .tup vs else .lst vs))(d1:Ad G xs us)(d2:Ad G ys vs):LI (uG b1 b2 a1 a2) (Gj xs ys) G where
 stop:=fun H e=>by
  refine⟨us,vs,?_,?_,?_⟩
  .cases b1<;>simpa[Fc]using (e _ _ h1)
  .cases b2<;>simpa[Fc]using (e _ _ h2)
  .rw[d1.len,d2.len];simp[Gj];lia
 go:=fun i x H hx e=>by
  obtain⟨x1,x2,k1,k2,rfl⟩:=Pe hx;obtain⟨v1,k3,_⟩:=d1.get k1;obtain⟨v2,k4,_⟩:=d2.get k2;refine⟨us,v1,vs,v2,?_,?_,k3,k4⟩
  .cases b1<;>simpa[Fc]using (e _ _ h1)
  .cases b2<;>simpa[Fc]using (e _ _ h2)
 E7:=fun i x H v H' hx e y Gc e1 e2=>by
  obtain⟨x1,x2,k1,k2,rfl⟩:=Pe hx;obtain⟨p,v1,v2,rfl,hp,rfl,y1,y2⟩:=y;obtain⟨w1,n1,n2⟩:=d1.back (y1 us (by cases b1<;>simpa[Fc]using (e _ _ h1)));obtain⟨w2,n3,n4⟩:=d2.back (y2 vs (by cases b2<;>simpa[Fc]using (e _ _ h2)));rw[k1]at n1;cases n1;rw[k2]at n3;cases n3;exact Pz e2 hp (n2.same e1) (n4.same e1)
structure DI(X:Cx)(tg iter:Expr)(f:Dv->Option (List PyData)):Prop where
 ex:∃wi,PI X tg iter wi/\∀δ xs,f δ=some xs->∀G0 H0 G H σ ts (R:It->Hp->Prop),Rw G0 H0 G H σ δ ts->(∀J G' H',Rw G0 H0 G' H' σ δ ts->LI J xs G'->R J H')->wi σ H R
section
variable{X:Cx}{tg a b e:Expr}{f g h:AAF}{fs:AAD}{pos p:Pos}{sts:AAi}{F:DF}
def PI.or(h:PI X tg e wi)(h':PI X tg e l):PI X tg e (fun σ H R=>wi σ H R\/l σ H R):=fun pins s σ H R I q=>by
 rcases q with q|q
 .exact h pins s σ H R I q
 .exact h' pins s σ H R I q
def JS:PD->Option (List PD)
 |.list xs=>some xs
 |.tuple xs=>some xs
 |_=>none
def rE(Y:DE X e f):DI X tg e (fun δ=>(f δ).bind JS):=by
 obtain⟨t,p,k⟩:=Y;refine⟨_,(E9 p).or (iP p),fun δ xs h G0 H0 G H σ ts R U q=>?_⟩;obtain⟨x,T,I⟩:=aA.mp h;unfold JS at I;split at I
 .cases I
  left
  refine k δ _ T G0 H0 G H σ ts _ U fun v G' H' l=>?_;obtain⟨a,ys,rfl,n1,M⟩:=(l.BE _ Ch);exact⟨a,rfl,⟨ys,Am.of (l.ins _ _ n1)⟩,q _ _ _ l.drop (qV n1 M)⟩
 .cases I
  right
  refine k δ _ T G0 H0 G H σ ts _ U fun v G' H' l=>?_;obtain⟨a,ys,rfl,n1,M⟩:=(l.BE _ Ch);exact⟨a,rfl,⟨ys,A5.of (l.ins _ _ n1)⟩,q _ _ _ l.drop (uB n1 M)⟩
 contradiction
def HM:List PD->Option (List PD)
 |[.int j]=>if -1000000<=j/\j<=1000000 then some (Ew 0 j.toNat) else none
 |_=>none
def Md:List PD->Option (List PD)
 |[.int i,.int j]=>if -1000000<=i/\i<=1000000/\-1000000<=j/\j<=1000000 then some (Ew i (j-i).toNat) else none
 |_=>none
def ib(hg:Gl X "range")(hm:X.mg "range" = none)(ha:DA X [a] fs)(M:starEach [a] X.env=[(false,eval a X.env)]:=by rfl):DI X tg (.Call (.Name "range" p) [a] [] pos) (fun δ=>(fs δ).bind HM):=by
 obtain⟨t,p,k⟩:=ha;refine⟨_,gg hg hm p M,fun δ xs h G0 H0 G H σ ts R U q=>?_⟩;obtain⟨x,T,l⟩:=aA.mp h;refine k δ _ T G0 H0 G H σ ts _ U fun vs G' H' Y I=>?_;obtain⟨d,R2⟩:=Y.args I;unfold HM at l;split at l
 .split at l
  .cases l;obtain⟨u,rfl,du⟩:=d.Im;subst du;exact⟨_,rfl,by lia,by lia,q _ _ _ R2 iZ⟩
  .cases l
 .cases l
def eh(hg:Gl X "range")(hm:X.mg "range" = none)(ha:DA X [a,b] fs)(T:starEach [a,b] X.env=[(false,eval a X.env),(false,eval b X.env)]:=by rfl)(I:starEach [b] X.env=[(false,eval b X.env)]:=by rfl):DI X tg (.Call (.Name "range" p) [a,b] [] pos) (fun δ=>(fs δ).bind Md):=by
 obtain⟨t,p,k⟩:=ha;refine⟨_,gz hg hm p T I,fun δ xs h G0 H0 G H σ ts R Z q=>?_⟩;obtain⟨x,U,l⟩:=aA.mp h;refine k δ _ U G0 H0 G H σ ts _ Z fun vs G' H' R' M=>?_;obtain⟨d,R2⟩:=R'.args M;unfold Md at l;split at l
 .split at l
  .cases l;obtain⟨u,v,rfl,du,Y⟩:=d.Jg;subst du Y;exact⟨_,_,rfl,⟨by lia,by lia,by lia,by lia⟩,q _ _ _ R2 iZ⟩
  .cases l
 .cases l
def Fu:List PD->Option (List PD)
 |[.list xs]=>some (DM xs)
 |[.tuple xs]=>some (DM xs)
 |_=>none
def qh(hg:Gl X "enumerate")(hm:X.mg "enumerate" = none)(ha:DA X [a] fs)(Y:starEach [a] X.env=[(false,eval a X.env)]:=by rfl):DI X (.Tuple elts x1 U) (.Call (.Name "enumerate" p) [a] [] pos) (fun δ=>(fs δ).bind Fu):=by
 obtain⟨t,p,k⟩:=ha;refine⟨_,(j8 hg hm p Y).or (Zc hg hm p Y),fun δ xs h G0 H0 G H σ ts R R0 q=>?_⟩;obtain⟨x,Z,l⟩:=aA.mp h;unfold Fu at l;split at l
 .cases l
  left
  refine k δ _ Z G0 H0 G H σ ts _ R0 fun vs G' H' T M=>?_;obtain⟨d,R2⟩:=T.args M;obtain⟨u,rfl,du⟩:=d.Im;obtain⟨a,ys,rfl,n1,I⟩:=du;exact⟨a,rfl,⟨ys,Am.of (R2.ins _ _ n1)⟩,q _ _ _ R2 (jh n1 I)⟩
 .cases l
  right
  refine k δ _ Z G0 H0 G H σ ts _ R0 fun vs G' H' T M=>?_;obtain⟨d,R2⟩:=T.args M;obtain⟨u,rfl,du⟩:=d.Im;obtain⟨a,ys,rfl,n1,I⟩:=du;exact⟨a,rfl,⟨ys,A5.of (R2.ins _ _ n1)⟩,q _ _ _ R2 (j3 n1 I)⟩
 contradiction
def zip2:List PD->Option (List PD)
 |[x,y]=>(JS x).bind fun xs=>(JS y).map fun ys=>Gj xs ys
 |_=>none
def Rn(h:Du G x v)(e:JS x=some xs):∃(b:Bool) (a:AD) (ys:AAf),v=.ref a/\G a=some (if b then .tup ys else .lst ys)/\Ad G xs ys:=by
 unfold JS at e;split at e
 .cases e;obtain⟨a,ys,rfl,n1,l⟩:=h;exact⟨false,a,ys,rfl,n1,l⟩
 .cases e;obtain⟨a,ys,rfl,n1,l⟩:=h;exact⟨true,a,ys,rfl,n1,l⟩
 contradiction
def sN{elts}{Z}{l}(hg:Gl X "zip")(hm:X.mg "zip" = none)(ha:DA X [a,b] fs)(hs:starEach [a,b] X.env=[(false,eval a X.env),(false,eval b X.env)]:=by rfl)(I:starEach [b] X.env=[(false,eval b X.env)]:=by rfl):DI X (.Tuple elts Z l) (.Call (.Name "zip" p) [a,b] [] pos) (fun δ=>(fs δ).bind zip2):=by
 obtain⟨t,p,k⟩:=ha;refine⟨_,ei hg hm p hs I,fun δ xs h G0 H0 G H σ ts R R0 q=>?_⟩;obtain⟨x,h1,M⟩:=aA.mp h;refine k δ _ h1 G0 H0 G H σ ts _ R0 fun vs G' H' R' hv=>?_;obtain⟨d,R2⟩:=R'.args hv;unfold zip2 at M;split at M
 .obtain⟨Y,h3,h4⟩:=aA.mp M;obtain⟨U,h5,rfl⟩:=aC.mp h4;obtain⟨u,v,rfl,du,dv⟩:=d.Jg;obtain⟨b1,a1,us,rfl,n1,n2⟩:=Rn du h3;obtain⟨b2,a2,ws,rfl,T,m2⟩:=Rn dv h5;exact⟨b1,b2,a1,a2,rfl,⟨us,by cases b1<;>simpa[Fc]using (R2.ins _ _ n1)⟩,⟨ws,by cases b2<;>simpa[Fc]using (R2.ins _ _ T)⟩,q _ _ _ R2 (rY n1 T n2 m2)⟩
 contradiction
structure DG(X:Cx)(tg:Expr)(set:PyData->Dv->Option Dv):Prop where
 ex:∃g,PG X tg g/\∀δ x δ',set x δ=some δ'->∀G0 H0 G H σ v (Q:St->Hp->Prop),Rw G0 H0 G H σ δ [(x,v)]->(∀σ' G' H',Rw G0 H0 G' H' σ' δ' []->Q σ' H')->g v σ H Q
def qG(h:PG X (.Name x pos) (Cr i)):DG X (.Name x pos) (fun y δ=>some (δ.set i (.d y))) :=
 ⟨_,h,fun δ y δ' e G0 H0 G H σ v Q R k=>by cases e;exact k _ _ _ R.HR⟩
def BU(i j:Nat)(y:PD)(δ:Dv):Option Dv:=match y with
 |.tuple [u,v]=>some ((δ.set i (.d u)).set j (.d v))
 |_=>none
def vP(h:PG X (.Tuple [.Name x T,.Name y M] k1 pos) (bx X.K 2 (OU (Cr i) (OU (Cr j) cG)))):DG X (.Tuple [.Name x T,.Name y M] k1 pos) (BU i j):=by
 refine⟨_,h,fun δ z δ' e G0 H0 G H σ v Q R k=>?_⟩;unfold BU at e;split at e
 .cases e;obtain⟨a,ys,rfl,n1,U⟩:=(R.BE _ Ch);obtain⟨I,l,rfl,Z,Y⟩:=U.Jg;exact⟨a,[I,l],rfl,A5.of (R.ins _ _ n1),rfl,I,[l],rfl,l,[],rfl,rfl,k _ _ _ (((R.drop.put Y).put Z).HR.HR)⟩
 contradiction
def GL(set:PD->Dv->Option Dv)(l:DF):List PD->Dv->Option Ou
 |[],δ=>some (.nx δ)
 |x::xs,δ=>match (set x δ).bind l with
  |some (.nx δ')=>GL set l xs δ'
  |some (.ct δ')=>GL set l xs δ'
  |some (.bk δ')=>some (.nx δ')
  |some (.rt v)=>some (.rt v)
  |some (.rn v)=>some (.rn v)
  |none=>none
def rH{set}(hp:PassesOwn B1 X.A X.env X.xe)(hc:PP)(hi:DI X tg e fs)(hg:DG X tg set)(hb:Ku X sts F)(hs:∀x,foldedSetIterable e X.env x=pure x:=by intro _;rfl):DS X (.For tg e sts [] pos) (fun δ=>(fs δ).bind fun xs=>GL set F xs δ):=by
 obtain⟨wi,pi,ki⟩:=hi;obtain⟨g,pg,kg⟩:=hg;obtain⟨tb,pb,kb⟩:=hb;refine⟨_,KN hp hc pi pg pb hs,fun δ r h G0 H0 G H σ D R q=>?_⟩;obtain⟨xs,h1,h2⟩:=aA.mp h;refine ki δ xs h1 G0 H0 G H σ [] _ R fun J Ga Ha Ra it=>⟨fun i m σ' H'=>m=xs.length-i/\i<=xs.length/\∃δ' G',GL set F (xs.drop i) δ'=some r/\Rw G0 H0 G' H' σ' δ' []/\AI Ga G',⟨xs.length,by simp,Nat.zero_le _,δ,Ga,by simpa using h2,Ra,AI.refl _⟩,?_⟩;rintro i m σ1 H1 ⟨rfl,hi,δ1,G1,f1,R1,s1⟩;have sH:=s1.trans R1.ins;by_cases I:i<xs.length
 .right
  have hx:xs[i]? = some xs[i]:=by simp[I]
  refine⟨it.go i _ H1 hx sH,fun σ' H'=>i+1<=xs.length/\∃δ' G',GL set F (xs.drop OK) δ'=some r/\Rw G0 H0 G' H' σ' δ' []/\AI Ga G',fun σ' H' n=>⟨xs.length-OK,by lia,rfl,n⟩,fun x H' y=>?_⟩;obtain⟨G2,e1,e2,e3,e4,e5⟩:=it.E7 i _ H1 x H' hx sH y G1 s1 R1.ins;have R2:=(R1.lift e1 e2 e3 e4).put e5;have s2:=s1.trans e1;rw[List.drop_eq_getElem_cons I]at f1;unfold GL at f1;cases U:(set xs[i] δ1).bind F with
  |none=>rw[U]at f1;cases f1
  |some o=>
   obtain⟨δ2,k1,k2⟩:=aA.mp U;rw[U]at f1;refine kg δ1 _ δ2 k1 G2 H0 G2 H' σ1 x _ R2.base fun σ3 G3 H3 R3=>kb δ2 o k2 G2 H0 G3 H3 σ3 _ R3 ?_;cases o with
   |nx l=>exact fun T M Z Y=>⟨I,l,M,f1,R2.drop.LN Y,s2.trans Y.ext⟩
   |ct l=>exact fun T M Z Y=>⟨I,l,M,f1,R2.drop.LN Y,s2.trans Y.ext⟩
   |bk l=>cases f1;exact fun T M Z Y=>q T M Z (R2.drop.LN Y)
   |rt v=>cases f1;exact fun w M Z h1 h2 h3 h4 h5=>q w M Z (R2.ext.trans h1) (R2.new.trans h2) h3 h4 h5
   |rn v=>cases f1;exact fun w ys M Z h1 h2=>q w ys M Z (R2.ext.trans h1) (R2.new.trans h2)
 .left
  have e:i=xs.length:=by lia
  subst e;refine⟨it.stop H1 sH,?_⟩;rw[List.drop_length]at f1;cases f1;exact q _ _ _ R1
end
def tD(f:AAF):TE:=fun σ H Q=>∃δ x G0 H0 G ts,f δ=some x/\Rw G0 H0 G H σ δ ts/\∀v G' H',Rw G0 H0 G' H' σ δ ((x,v)::ts)->Q v H'
def vQ(f:AAG):TT:=fun σ H Q=>∃δ x G0 H0 G ts,f δ=some x/\Rw G0 H0 G H σ δ ts/\∀G' H',Rw G0 H0 G' H' σ δ ts->Q x H'
def DE.pe(h:DE X e f):PE X e (tD f):=by
 obtain⟨t,p,k⟩:=h;rintro pins s σ H Q I ⟨δ,x,G0,H0,G,ts,T,M,l⟩;exact p pins s σ H Q I (k δ x T G0 H0 G H σ ts Q M l)
def DT.pt(h:DT X e f):PT X e (vQ f):=by
 obtain⟨t,p,k⟩:=h;rintro pins s σ H Q I ⟨δ,x,G0,H0,G,ts,T,M,l⟩;exact p pins s σ H Q I (k δ x T G0 H0 G H σ ts Q M l)
def eO(X:Cx)(l:AAU)(f:AAG):Prop:=Vk X l (vQ f)
def qw:eO X [] (fun _=>some true):=by
 rintro pins s σ H Q I ⟨δ,x,G0,H0,G,ts,T,M,l⟩;cases T;exact HB pins s σ H Q I (l _ _ M)
def qW(h:DT X c f):eO X [c] f:=fun pins s σ H Q I l=>Wb (Wb (Aw ((h.pt) pins s σ H Q I l) fun b s1 q=>aB (aB q)))
noncomputable def CL(i:Nat)(y:PD)(δ:Dv):Option Dv:=some (δ.set i (.d y))
def BK(fr:AAk)(δ:Dv):Dv:=fr.map fun o=>match o with
 |some j=>(match δ[j]? with|some (.d x)=>.d x|_=>.no)
 |none=>.no
def Rw.inner fr (r:Fb):Rw G H G H (carry fr σ) (BK fr δ) ts:=by
 have key:∀(i:Nat) l,(BK fr δ)[i]? = some l->∃o,fr[i]? = some o/\l=(match o with|some j=>(match δ[j]? with|some (.d x)=>.d x|_=>.no)|none=>.no):=fun i l h=>by
  unfold BK at h;rw[(Ar)]at h;obtain⟨o,T,rfl⟩:=aC.mp h;exact⟨o,T,rfl⟩
 have I:∀i xs,_[i]?≠some (L.own xs):=fun i xs h=>by
  obtain⟨o,_,M⟩:=key i _ h;split at M
  .split at M<;>cases M
  .cases M
 refine⟨AI.refl _,Nw.refl,r.ins,AI.refl _,by simp[carry,BK],fun i x h=>?_,fun i xs h=>absurd h (I i xs),fun i j xs ys _ h=>absurd h (I i xs),r.BE⟩;obtain⟨o,T,M⟩:=key i _ h;split at M
 .rename_i j;split at M
  .rename_i y Z;cases M;obtain⟨v,Y,U⟩:=r.dat j _ Z;refine⟨v,?_,U⟩;unfold carry;rw[(Ar),T];simp[Y]
  .cases M
 .cases M
def Rw.other(r:Fb)(Z:G D=none)(h0:H0 D=none)(Y:∀(i:Nat) xs,δ[i]? = some (L.own xs)->σ[i]?≠some (some (V.ref D))):Rw G0 H0 G (upd H D o) σ δ ts:=by
 refine⟨r.ext,r.new,fun a u h=>?_,fun a u h=>?_,r.len,r.dat,fun i xs h=>?_,r.apart,r.BE⟩
 .rw[AM (fun z=>by lia)];exact r.ins _ _ h
 .rw[AM (fun z=>by lia)];exact r.keep _ _ h
 .obtain⟨a,ys,T,M,I,U,l⟩:=r.own i xs h;exact⟨a,ys,T,M,I,by rw[AM (fun z=>by grind)];lia,l⟩
def Rw.adopt{δ:Dv}(r:Fb)(hD:H D=some Ix)(hG:G D=none)(h0:H0 D=none)(ho:∀(i:Nat) (xs:Oc),δ[i]? = some (L.own xs)->σ[i]?≠some (some (V.ref D))):Rw G0 H0 (upd G D Ix) H σ δ ts:=by
 have e:AI G (upd G D Ix):=Aj hG _;refine⟨r.ext.trans e,fun a u h=>?_,fun a u h=>?_,r.keep,r.len,fun i x h=>?_,fun i xs h=>?_,r.apart,fun q Z=>(r.BE q Z).same e⟩
 .by_cases ha:a=D
  .subst ha;exact .inr (.inl h0)
  .rw[AM ha]at h;exact r.new _ _ h
 .by_cases ha:a=D
  .subst ha;rw[AR]at h;rw[hD];exact h
  .rw[AM ha]at h;exact r.ins _ _ h
 .obtain⟨v,l,I⟩:=r.dat i x h;exact⟨v,l,I.same e⟩
 .obtain⟨a,M,l,I,Y,U,T⟩:=r.own i xs h;exact⟨a,M,l,by rw[AM (fun z=>by subst z;exact ho i xs h l)];exact I,Y,U,T.same e⟩
def IP(set:PD->Dv->Option Dv)(tif:AAG)(f:AAF)(δ:Dv)(x:PD):Option AAP :=
 (set x δ).bind fun l=>(tif l).bind fun b=>if b=true then(f l).map some else some none
def collect(one:PD->Option (Option PD)):List PD->Option (List PD)
 |[]=>some []
 |x::xs=>(one x).bind fun o=>(collect one xs).map fun r=>o.toList++r
def Bk(set:PD->Dv->Option Dv)(tif:AAG)(f:AAF)(fr:AAk)(fs:AAD)(δ:Dv):AAB :=
 (fs δ).bind fun xs=>(collect (IP set tif f (BK fr δ)) xs).bind BA
abbrev CT(set:PD->Dv->Option Dv)(tif:Dv->Option Bool)(f:L0)(fr:List (Option Nat))(fs:On)(δ:Dv):Option PD :=
 (Bk set tif f fr fs δ).map .list
structure qo(G0 H0 Ga:Hp)(σ:St)(δ:Dv)(ts:List (PyData×V))(one:PyData->Option (Option PyData))(xs full:List PyData)(D:Addr)(i:Nat)(ys:List V)(H:Hp):Prop where
 ex:∃G done rest,Rw G0 H0 G H σ δ ts/\AI Ga G/\G D=none/\collect one (xs.drop i)=some rest/\done++rest=full/\Ad G done ys
 h0:H0 D=none
 ap:∀(j:Nat) (us:Oc),δ[j]? = some (L.own us)->σ[j]?≠some (some (V.ref D))
def jU(I:G0 D=none)(l:H0 D=some Ix)(n:Nw G0 H0 G)(e:AI G H)(k:AI H0 H):G D=none:=by
 cases q:G D with
 |none=>rfl
 |some o=>
  rcases n _ _ q with z|z|⟨us,z⟩
  .lia
  .lia
  .have:=e _ _ q;rw[k _ _ l]at this;lia
def less(G:Hp)(a:AD):Hp:=fun b=>if b=a then none else G b
def Cf(h:b≠a):less G a b=G b:=if_neg h
def Gz{G:Hp}{a:AD}:less G a a=none:=if_pos rfl
def WW(i:Nat)(δ:Dv):Option Oc:=match δ[i]? with
 |some (.own c)=>some c
 |_=>none
def pW(h:WW i δ=some c):δ[i]? = some (.own c):=by
 unfold WW at h;split at h
 .simp_all
 .cases h
def N9(jj jo:Nat)(set:PD->Dv->Option Dv)(tif:AAG)(f:AAF)(fr:AAk)(fs:AAD)(δ:Dv):AAB :=
 (fs δ).bind fun xs=>(WW jo δ).bind fun kvs=>(collect (IP set tif f ((BK fr δ).set jj (.own kvs))) xs).bind BA
abbrev HX(jj jo:Nat)(set:PD->Dv->Option Dv)(tif:Dv->Option Bool)(f:L0)(fr:List (Option Nat))(fs:On)(δ:Dv):Option PD :=
 (N9 jj jo set tif f fr fs δ).map .list
def Vi{jj jo:Nat}(l:fr[jj]? = some (some jo))(h:σ[jo]? = some x):(carry fr σ)[jj]? = some x:=by
 unfold carry
 simp_all
def Ub(I:fr[jj]? = some (some jo)):((BK fr δ).set jj l)[jj]? = some l:=by
 simp[(show jj<(BK fr δ).length by
  simpa[BK]using ((aD.mp I).1))]
def Rw.uf{ad}(r:Fb)(T:fr[jj]? = some (some jo))(U:δ[jo]? = some (.own kvs))(ha:σ[jo]? = some (some (.ref ad))):Rw G (L2.less H ad) G H (carry fr σ) ((BK fr δ).set jj (.own kvs)) ts:=by
 have Z:=r.inner fr;have at_:∀i l,((BK fr δ).set jj (.own kvs))[i]? = some l->(i=jj/\l=.own kvs)\/(i≠jj/\_[i]? = some l):=fun i l h=>by
  by_cases e:i=jj
  .subst e;rw[Ub T]at h;cases h;exact .inl ⟨rfl,rfl⟩
  .rw[List.getElem?_set_ne (Ne.symm e)]at h;exact .inr ⟨e,h⟩
 have I:∀i xs,(BK fr δ)[i]?≠some (L.own xs):=fun i xs h=>by
  unfold BK at h;rw[(Ar)]at h;obtain⟨o,_,M⟩:=aC.mp h;split at M
  .split at M<;>cases M
  .cases M
 obtain⟨a,oc,k1,k2,k3,k4,k5⟩:=r.own jo _ U;rw[ha]at k1;cases k1;refine⟨AI.refl _,Nw.refl,r.ins,fun b o h=>?_,by simpa using Z.len,fun i x h=>?_,fun i xs h=>?_,fun i j xs ys Y h1 M=>?_,r.BE⟩
 .unfold L2.less at h;split at h
  .cases h
  .exact h
 .rcases at_ i _ h with ⟨_,z⟩|⟨_,z⟩
  .cases z
  .exact Z.dat i x z
 .rcases at_ i _ h with ⟨rfl,z⟩|⟨_,z⟩
  .cases z;exact⟨ad,oc,Vi T ha,k2,Gz,k4,k5⟩
  .exact absurd z (I i xs)
 .rcases at_ i _ h1 with ⟨rfl,_⟩|⟨_,z⟩
  .rcases at_ j _ M with ⟨rfl,_⟩|⟨_,z⟩
   .exact absurd rfl Y
   .exact absurd z (I j ys)
  .exact absurd z (I i xs)
def Rw.xH{jj jo:Nat}{ad}(r:Fb)(l:δ[jo]? = some (.own kvs))(ha:σ[jo]? = some (some (.ref ad)))(Z:M[jj]? = some (.own kvs))(Y:I[jj]? = some (some (.ref ad))) (q:Rw G (L2.less H ad) G' H' I M ti):Rw G0 H0 G' H' σ δ ts:=by
 obtain⟨a,oc,k1,k2,k3,k4,k5⟩:=r.own jo _ l;rw[ha]at k1;cases k1;obtain⟨a,oq,m1,m2,m3,m4,m5⟩:=q.own jj _ Z;rw[Y]at m1;cases m1;have hH:∀b o,b≠ad->H b=some o->H' b=some o:=fun b o n h=>q.keep _ _ (by rw[Cf n];exact h);refine⟨r.ext.trans q.ext,fun b o h=>?_,q.ins,fun b o h=>?_,r.len,fun i x h=>?_,fun i xs h=>?_,r.apart,fun p hp=>(r.BE p hp).same q.ext⟩
 .have nb:b≠ad:=fun z=>by subst z;rw[m2]at h;cases h
  rcases q.new b o h with z|z|z
  .exact r.new b o z
  .right;left
   rw[Cf nb]at z;cases w:H0 b with
   |none=>rfl
   |some u=>rw[r.keep _ _ w]at z;cases z
  .exact .inr (.inr z)
 .exact hH b o (fun z=>by subst z;rw[k3]at h;cases h) (r.keep _ _ h)
 .obtain⟨v,n1,U⟩:=r.dat i x h;exact⟨v,n1,U.same q.ext⟩
 .by_cases e:i=jo
  .subst e;rw[l]at h;cases h;exact⟨ad,oq,ha,m2,k3,m4,m5⟩
  .obtain⟨b,ys,n1,U,n3,T,n5⟩:=r.own i xs h;have nb:b≠ad:=fun z=>by subst z;exact r.apart i jo _ _ e h l (n1.trans ha.symm)
   refine⟨b,ys,n1,?_,n3,hH _ _ nb T,n5.same q.ext⟩;cases w:G' b with
   |none=>rfl
   |some u=>
    rcases q.new b u w with z|z|⟨xs',z⟩
    .rw[U]at z;cases z
    .rw[Cf nb,T]at z;cases z
    .have:=q.ins _ _ w;rw[hH _ _ nb T,z]at this;cases this;exact n5.QH.elim
def kD:Expr->List Nat
 |.Tuple [_,_] _ _=>[1,2]
 |_=>[1]
structure iD(X:Cx)(scope:Scope)(N:List Str)(tg:Expr)(set:PyData->Dv->Option Dv):Prop where
 sc:Ig scope
 ex:∃g:TG,(∀v σ H Q,g v σ H Q->g v σ H fun σ' H'=>Q σ' H'/\∀u,g u σ'=g u σ)/\(∀cl C s₀ H₀ fp,PG FS tg g) /\
  ∀δ x δ',set x δ=some δ'->∀G0 H0 G H σ v (Q:St->Hp->Prop),Rw G0 H0 G H σ δ [(x,v)]->AI G H->(∀σ',Rw G0 H0 G H σ' δ' []->(∀j,j ∉ kD tg->σ'[j]? = σ[j]?/\δ'[j]? = δ[j]?)->Q σ' H)->g v σ H Q
def LG(X:Cx):Expr->List (Option Nat)->List Str
 |.Name x _,l=>(".0")::x::l.filterMap fun o=>o.bind fun i=>X.N[i]?
 |.Tuple es _ _,l=>(".0" : Str)::(es.filterMap fun e=>match e with|.Name x _=>some x|_=>none)++l.filterMap fun o=>o.bind fun i=>X.N[i]?
 |_,_=>[]
def Qh(set:PD->Dv->Option Dv)(tif:AAG)(f:AAF)(fr:AAk)(fs:AAD)(is:AAd)(cl:AAD):Prop:=∀δ I,cl δ=some I->∃xs l,fs δ=some xs /\
 (l=BK fr δ\/∃M T c,fr[M]? = some (some T)/\M ∉ is/\δ[T]? = some (.own c)/\l=(BK fr δ).set M (.own c))/\collect (IP set tif f l) xs=some I/\I.length<=A9
section
variable{set:PD->Dv->Option Dv}{tif:AAG}{f:AAF}{fr:AAk}{fs:AAD}{is:AAd}
def Z9:Qh set tif f fr fs is (Bk set tif f fr fs):=fun δ Y h=>by
 obtain⟨xs,U,T⟩:=aA.mp h;obtain⟨full,M,I⟩:=aA.mp T;obtain⟨rfl,l⟩:=Ng I;exact⟨xs,_,U,.inl rfl,M,l⟩
def uP(l:fr[jj]? = some (some jo))(M:jj ∉ is):Qh set tif f fr fs is (N9 jj jo set tif f fr fs):=fun δ zs h=>by
 obtain⟨xs,h1,I⟩:=aA.mp h;obtain⟨c,T,I⟩:=aA.mp I;obtain⟨full,Z,Y⟩:=aA.mp I;obtain⟨rfl,U⟩:=Ng Y;exact⟨xs,_,h1,.inr ⟨jj,jo,c,l,M,pW T,rfl⟩,Z,U⟩
def Rw.into(r:Fb)(hd:M=BK fr δ\/∃jj jo c,fr[jj]? = some (some jo)/\jj ∉ is/\δ[jo]? = some (.own c)/\M=(BK fr δ).set jj (.own c))(hD:H D=some o)(Z:∀(j:Nat) us,δ[j]? = some (L.own us)->σ[j]?≠some (some (V.ref D))):∃Hi,Rw G Hi G H (carry fr σ) M ts/\Hi D=some o/\∀G' H' l I Y,(∀j,j ∉ is->l[j]? = (carry fr σ)[j]?/\I[j]? = M[j]?)->Rw G Hi G' H' l I Y->Rw G0 H0 G' H' σ δ ts:=by
 rcases hd with rfl|⟨jj,jo,c,h1,h2,U,rfl⟩
 .exact⟨H,r.inner fr,hD,fun G' H' l I Y _ q=>r.lift q.ext q.new q.ins q.keep⟩
 .obtain⟨ad,oc,T,k2,k3,k4,k5⟩:=r.own jo _ U;refine⟨_,r.uf h1 U T,?_,fun G' H' l I Y hs q=>?_⟩
  .rw[Cf fun z=>Z jo _ U (by rw[z];exact T)];exact hD
  .obtain⟨m1,m2⟩:=hs jj h2;exact r.xH U T (m2.trans (Ub h1)) (m1.trans (Vi h1 T)) q
end
section
variable{fs:AAD}{tif:AAG}{f:AAF}
def Q3{wi:TI}{g:TG}{fr}{is:AAd}{set}{cl}(hg:∀δ x δ',set x δ=some δ'->∀G0 H0 G H σ v Q,Rw G0 H0 G H σ δ [(x,v)]->AI G H->(∀σ',Rw G0 H0 G H σ' δ' []->(∀j,j ∉ is->σ'[j]? = σ[j]?/\δ'[j]? = δ[j]?)->Q σ' H)->g v σ H Q) (hc:Qh set tif f fr fs is cl)(ki:∀(δ:Dv) xs,fs δ=some xs->∀(G0 H0 G H:Hp) (σ:St) ts R,Rw G0 H0 G H σ δ ts->(∀J G' H',Rw G0 H0 G' H' σ δ ts->LI J xs G'->R J H')->wi σ H R){δ:Dv}{zs}(hz:cl δ=some zs){G0 H0 G H:Hp}{σ:St}{ts}{Q:VK}(R0:Fb)(k:∀D ys G' H',Rw G0 H0 G' H' σ δ ts->H' D=some Ix->G' D=none->H0 D=none->(∀(j:Nat) (us:Oc),δ[j]? = some (L.own us)->σ[j]?≠some (some (V.ref D)))->Ad G' zs ys->Q (.ref D) H'):Ls wi fr g (vQ tif) (tD f) σ H Q:=by
 obtain⟨xs,δi,m2,hdi,m4,hfew⟩:=hc δ zs hz;refine ki δ xs m2 G0 H0 G H σ ts _ R0 fun J Ga Ha Ra it D hD=>?_;have hGD:Ga D=none:=by
  cases q:Ga D with
  |none=>rfl
  |some u=>rw[Ra.ins _ _ q]at hD;cases hD
 have I:H0 D=none:=by
  cases q:H0 D with
  |none=>rfl
  |some u=>rw[Ra.keep _ _ q]at hD;cases hD
 have l:∀(j:Nat) (us:Oc),δ[j]? = some (L.own us)->σ[j]?≠some (some (V.ref D)):=fun j us h z=>by
  obtain⟨a,ys,k1,k2,k3,k4,k5⟩:=Ra.own j us h;rw[z]at k1;cases k1;rw[k4]at hD;cases hD
 refine P5 (n:=xs.length) (qo G0 H0 Ga σ δ ts (IP set tif f δi) xs zs D) ⟨⟨Ga,[],zs,Ra.other hGD I l,AI.refl _,hGD,by simpa using m4,rfl,.nil⟩,I,l⟩ ?_ ?_
 .rintro i ys H1 T ⟨⟨G1,done,rest,R1,s1,g1,c1,e1,d1⟩,_,_⟩ Y;have hx:xs[i]? = some xs[i]:=by simp[T]
  have sH:=s1.trans R1.ins;refine⟨it.go i _ H1 hx sH,(S6 (by
   rw[d1.len];have:done.length<=zs.length:=by rw[<-e1];simp
   exact aK ‹_› ‹_›)),fun v H' y=>?_⟩
  obtain⟨G2,n1,n2,n3,n4,n5⟩:=it.E7 i _ H1 v H' hx sH y G1 s1 R1.ins;have g2:=jU g1 Y n2 n3 n4;rw[List.drop_eq_getElem_cons T]at c1;obtain⟨o,c2,c3⟩:=aA.mp c1;obtain⟨M,c4,rfl⟩:=aC.mp c3;obtain⟨δ1,c8,c9⟩:=aA.mp c2;obtain⟨b,c5,c6⟩:=aA.mp c9;obtain⟨Hi,Ri,U,out⟩:=(R1.lift n1 n2 n3 n4).into hdi (n4 _ _ Y) l;refine hg _ _ _ c8 G2 Hi G2 H' _ v _ ((Ri.put n5).less fun q hq=>by rw[List.mem_singleton.mp hq];exact .head _) n3 fun σ1 R1' hs=>⟨_,b,G2,Hi,G2,[],c5,R1',fun G3 H3 R3=>?_⟩;dsimp only;split
  .rename_i hb;rw[if_pos hb]at c6;obtain⟨w,c7,rfl⟩:=aC.mp c6;refine⟨_,w,G2,Hi,G3,[],c7,R3,fun u G4 H4 Z=>?_⟩;have g4:=jU g2 U Z.new Z.ins Z.keep;refine⟨(Z.keep _ _ U),Gs T ⟨⟨G4,done++[w],M,(out _ _ _ _ _ hs Z).other g4 I l,s1.trans (n1.trans Z.ext),g4,c4,by simpa using e1,(d1.same (n1.trans Z.ext)).app (.cons (Z.BE _ Ch) .nil)⟩,I,l⟩⟩
  .rename_i hb;rw[if_neg hb]at c6;cases c6;exact qM T (R3.keep _ _ U) ⟨⟨G3,done,M,(out _ _ _ _ _ hs R3),s1.trans (n1.trans R3.ext),(jU g2 U R3.new R3.ins R3.keep),c4,by simpa using e1,d1.same (n1.trans R3.ext)⟩,I,l⟩
 .rintro ys H1 ⟨⟨G1,done,rest,R1,s1,g1,c1,e1,d1⟩,_,_⟩ Y;refine⟨it.stop H1 (s1.trans R1.ins),?_⟩;rw[List.drop_length]at c1;cases c1;rw[(MN)]at e1;subst e1;exact k _ _ _ _ R1 Y g1 I l d1
end
def HA{α:Type}{l:List α}{a}(h:j≠i):(l.set i a)[j]? = l[j]?:=List.getElem?_set_ne (Ne.symm h)
section
variable{X:Cx}{x y:Str}{px py tp:Pos}{tk:Nat}{scope:Scope}{N:AAT}
def zO(h:CV scope N x 1=true):iD X scope N (.Name x px) (CL 1) :=
 let⟨a,b⟩:=Eb h
 ⟨a,Cr 1,UQ,b X px,fun δ y δ' e G0 H0 G H σ v Q R _ k=>by cases e;exact k _ R.HR fun j I=>have l:=fun z=>I (by rw[z];exact .head _);⟨HA l,HA l⟩⟩
def yS(h:CV scope N x 1=true)(h':CV scope N y 2=true)(hc:PP):iD X scope N (.Tuple [.Name x px,.Name y py] tk tp) (BU 1 2):=by
 refine⟨(Eb h).1,MC X.K 1 2,Vw AC,Mq h h' hc,fun δ z δ' e G0 H0 G H σ v Q R sm k=>?_⟩;unfold BU at e;split at e
 .cases e;obtain⟨a,ys,rfl,n1,Y⟩:=(R.BE _ Ch);obtain⟨I,l,rfl,m1,Z⟩:=Y.Jg;refine⟨a,[I,l],rfl,A5.of (sm _ _ n1),rfl,I,[l],rfl,l,[],rfl,rfl,k _ (((R.drop.put Z).put m1).HR.HR) fun j M=>?_⟩;have U:j≠1:=fun z=>M (by rw[z];exact .head _);have T:j≠2:=fun z=>M (by rw[z];exact .tail _ Ch);exact⟨(HA T).trans (HA U),(HA T).trans (HA U)⟩
 .cases e
end
section
variable{X:Cx}{tg elt iter:Expr}{pos:Pos}{ifs:AAU}{scope:Scope}{fs:AAD}{tif:AAG}{f:AAF}{fr:AAk}{set:PD->Dv->Option Dv}{cl:AAD}
 (hc:Qh set tif f fr fs (kD tg) cl)(ht:iD X scope (LG X tg fr) tg set)(hi:DI X tg iter fs)(hif:∀cl C s₀ H₀ fp,eO (BP X scope cl (LG X tg fr) C s₀ H₀ fp) ifs tif)(he:∀cl C s₀ H₀ fp,DE (BP X scope cl (LG X tg fr) C s₀ H₀ fp) elt f)
 (h2:PP)(h3:Iy (LG X tg fr) X.N scope X.env.scope fr 0=true)(h4:fr.length=(LG X tg fr).length)(h5:freeOk X.env.scope scope.names=true)(hs:∀x,foldedSetIterable iter X.env x=pure x)
include hc ht hi hif he h2 h3 h4 h5 hs
theorem Yb:∃t,PE X (.ListComp elt [⟨tg,iter,ifs,0⟩] scope pos) t/\∀δ zs,cl δ=some zs->∀G0 H0 G H σ ts Q,Rw G0 H0 G H σ δ ts->(∀D ys G' H',Rw G0 H0 G' H' σ δ ts->H' D=some Ix->G' D=none->H0 D=none->(∀(j:Nat) us,δ[j]? = some (L.own us)->σ[j]?≠some (some (V.ref D)))->Ad G' zs ys->Q (.ref D) H')->t σ H Q:=by
 obtain⟨wi,pi,l⟩:=hi;obtain⟨S,g,T,M,I⟩:=ht;exact⟨_,SJ S h2 T M h3 h4 (Km h5) pi hif (fun cl C s₀ H₀ fp=>(he cl C s₀ H₀ fp).pe) hs,fun δ zs U G0 H0 G H σ ts Q R k=>Q3 I hc l U R k⟩
theorem Y1:DE X (.ListComp elt [⟨tg,iter,ifs,0⟩] scope pos) (fun δ=>(cl δ).map .list):=by
 obtain⟨t,p,kt⟩:=Yb hc ht hi hif he h2 h3 h4 h5 hs;refine⟨t,p,fun δ z Z G0 H0 G H σ ts Q R0 k=>?_⟩;obtain⟨U,Y,rfl⟩:=aC.mp Z;exact kt δ U Y G0 H0 G H σ ts Q R0 fun D ys G1 H1 R1 M T I l d1=>k _ _ _ ((R1.adopt M T I l).put (⟨D,ys,rfl,AR,d1.same (Aj T _)⟩))
section
variable{i:Nat}{z:Str}{pz spos:Pos}(hN:X.N.Nodup)(hy:X.N[i]? = some z)(hly:X.env.scope.names.lookup z=some .local)(hsw:swapsWith (.ListComp elt [⟨tg,iter,ifs,0⟩] scope pos) (some (.Name z pz)) spos.line X.env=pure true)
include hN hy hly hsw
theorem oO:∃t,PS X (.Assign [.Name z pz] (.ListComp elt [⟨tg,iter,ifs,0⟩] scope pos) spos) t/\∀δ zs,cl δ=some zs->∀G0 H0 G H σ D,Rw G0 H0 G H σ δ []->(∀a ys G' H',Rw G0 H0 G' H' σ δ []->H' a=some Ix->G' a=none->H0 a=none->(∀(j:Nat) us,δ[j]? = some (L.own us)->σ[j]?≠some (some (V.ref a)))->Ad G' zs ys->D.nx (σ.set i (some Jc)) H')->t D σ H:=by
 obtain⟨wi,pi,l⟩:=hi;obtain⟨S,g,T,M,I⟩:=ht;exact⟨_,dC S h2 T M h3 h4 (Km h5) pi hif (fun cl C s₀ H₀ fp=>(he cl C s₀ H₀ fp).pe) hs hN hy hly hsw,fun δ zs U G0 H0 G H σ D R k=>Q3 I hc l U R k⟩
theorem Rk:DS X (.Assign [.Name z pz] (.ListComp elt [⟨tg,iter,ifs,0⟩] scope pos) spos) (fun δ=>((cl δ).map PyData.list).map fun y=>.nx (δ.set i (.d y))):=by
 obtain⟨t,p,kt⟩:=oO hc ht hi hif he h2 h3 h4 h5 hs hN hy hly hsw;refine⟨t,p,fun δ r h G0 H0 G H σ D R q=>?_⟩;obtain⟨_,Z,rfl⟩:=aC.mp h;obtain⟨U,Y,rfl⟩:=aC.mp Z;refine kt δ U Y G0 H0 G H σ D R fun a ys G1 H1 R1 M T I l d1=>q _ _ _ (((R1.adopt M T I l).put ?_).HR);exact⟨a,ys,rfl,AR,d1.same (Aj T _)⟩
end
end
def Gh(N:AAT)(ds:AAK):Dv:=ds.map .d++List.replicate (N.length-ds.length) .no
noncomputable def A0(ps N:AAT)(F:DF)(ds:AAK):AAP:=if ds.length=ps.length then(match F (Gh N ds) with
 |some (.rt x)=>some x
 |some (.nx _)=>some .none
 |some (.rn xs)=>some (.list xs)
 |_=>none) else none
theorem Rw.start(d:Ad G ds vs)(e:AI G H):Rw G H G H (start N vs) (Gh N ds) []:=by
 have T:=d.len;refine⟨AI.refl _,Nw.refl,e,AI.refl _,by simp[L2.start,Gh,T],fun i x h=>?_,fun i xs h=>?_,fun i j xs ys _ h=>?_,fun q M=>by cases M⟩
 .unfold Gh at h;by_cases hi:i<ds.length
  .rw[List.getElem?_append_left (by simpa using hi),(Ar)]at h;obtain⟨y,I,l⟩:=aC.mp h;cases l;obtain⟨v,Y,U⟩:=d.get I;refine⟨v,?_,U⟩;unfold L2.start;rw[List.getElem?_append_left (by simp;lia),(Ar),Y];rfl
  .rw[List.getElem?_append_right (by simpa using hi),(XB)]at h
   simp_all
 .unfold Gh at h;by_cases hi:i<ds.length
  .rw[List.getElem?_append_left (by simpa using hi),(Ar)]at h
   simp_all
  .rw[List.getElem?_append_right (by simpa using hi),(XB)]at h;split at h<;>cases h
 .unfold Gh at h;by_cases hi:i<ds.length
  .rw[List.getElem?_append_left (by simpa using hi),(Ar)]at h;obtain⟨y,I,l⟩:=aC.mp h;cases l
  .rw[List.getElem?_append_right (by simpa using hi),(XB)]at h;split at h<;>cases h
def m9(U:AI G G')(T:Nw G H G')(M:AI G' H')(Z:H a=none)(l:G' a=none)(Y:H' a=some Ix)(I:Ad G' xs ys):AI G (upd G' a Ix)/\Nw G H (upd G' a Ix)/\AI (upd G' a Ix) H'/\Du (upd G' a Ix) (.list xs) Jc:=by
 refine⟨U.trans (Aj l _),fun b o hb=>?_,fun b o hb=>?_,?_⟩
 .by_cases z:b=a
  .simp_all
  .rw[AM z]at hb;exact T _ _ hb
 .by_cases z:b=a
  .subst z;rw[AR]at hb;simp_all
  .rw[AM z]at hb;exact M _ _ hb
 .exact⟨a,ys,rfl,AR,I.same (Aj l _)⟩
section
variable{X:Cx}{a e:Expr}{f h:AAF}{pos p p2:Pos}   
def jk(hg:Gl X x)(hm:X.mg x=some (.int i tk))(hd:IN=false:=by decide):DE X (.Name x pos) (fun _=>some (.int i)) :=
 ⟨_,Gu (v:=.int i) hg hm ⟨tk,rfl⟩ hd,fun δ x h G0 H0 G H σ ts Q r k=>by cases h;exact k _ _ _ (r.put IF)⟩
structure DO(X:Cx)(o:Option Expr)(f:Dv->Option (Option Int)):Prop where
 ex:∃t,PO X o t/\∀δ x,f δ=some x->∀G0 H0 G H σ ts (Q:Option Int->Hp->Prop),Rw G0 H0 G H σ δ ts->(∀G' H',Rw G0 H0 G' H' σ δ ts->Q x H')->t σ H Q
variable{fo fu:Dv->Option (Option Int)}{lo hi:Option Expr}
def qr:DO X none (fun _=>some none):=⟨_,ZI,fun δ x h G0 H0 G H σ ts Q r k=>by cases h;exact k _ _ r⟩
def oz(I:DE X e f):DO X (some e) (fun δ=>(f δ).bind fun x=>(PN x).map some):=by
 obtain⟨t,p,k⟩:=I;refine⟨_,Y8 p,fun δ z h G0 H0 G H σ ts Q r q=>?_⟩;obtain⟨x,U,T⟩:=aA.mp h;obtain⟨i,M,rfl⟩:=aC.mp T;have:=Rb M;subst this;exact k δ _ U G0 H0 G H σ ts _ r fun v G' H' l=>⟨i,(l.BE _ Ch),q _ _ l.drop⟩
def cutD(xs:AAK)(lo hi:Option Int):AAK:=(xs.drop (HT.CA xs.length 0 lo)).take (HT.CA xs.length xs.length hi-HT.CA xs.length 0 lo)
def Ad.cut(h:Ad H ds xs) lo hi:Ad H (cutD ds lo hi) (L7 xs lo hi):=by
 unfold cutD L7;rw[h.len];exact(h.drop _).take _
def b8(x:PD)(lo hi:Option Int):AAP:=match x with
 |.list xs=>some (.list (cutD xs lo hi))
 |.tuple xs=>if ¬(HT.CA xs.length 0 lo=0/\HT.CA xs.length xs.length hi=xs.length) then some (.tuple (cutD xs lo hi)) else none
 |_=>none
def lE(he:DE X e f)(hl:DO X lo fo)(hh:DO X hi fu):DE X (.Subscript e (.Slice lo hi none p2) pos) (fun δ=>(f δ).bind fun x=>(fo δ).bind fun l=>(fu δ).bind fun u=>b8 x l u):=by
 obtain⟨te,pe,ke⟩:=he;obtain⟨tl,Y,kl⟩:=hl;obtain⟨th,Z,kh⟩:=hh;refine⟨_,WH (qd.or iE) pe Y Z,fun δ z hz G0 H0 G H σ ts Q R0 k=>?_⟩;obtain⟨x,h1,h2⟩:=aA.mp hz;obtain⟨l,h3,h4⟩:=aA.mp h2;obtain⟨u,h5,I⟩:=aA.mp h4;refine ke δ x h1 G0 H0 G H σ ts _ R0 fun v G1 H1 R1=>kl δ l h3 G0 H0 G1 H1 σ _ _ R1 fun G2 H2 R2=>kh δ u h5 G0 H0 G2 H2 σ _ _ R2 fun G3 H3 M=>?_;have du:=M.BE _ Ch;unfold b8 at I;split at I
 .cases I;obtain⟨a,ys,rfl,n1,T⟩:=du;exact .inl ⟨a,ys,rfl,Am.of (M.ins _ _ n1),fun q U=>k _ _ _ (M.drop.N1 (T.cut l u) U)⟩
 .split at I
  .rename_i hc;cases I;obtain⟨a,ys,rfl,n1,T⟩:=du;exact .inr ⟨a,ys,rfl,A5.of (M.ins _ _ n1),by rw[T.len];exact hc,fun q U=>k _ _ _ (M.drop.cW (T.cut l u) U)⟩
  .cases I
 contradiction
def Gf:List PD->Option (List Int)
 |[]=>some []
 |.int i::r=>(Gf r).map fun l=>i::l
 |_::_=>none
def Ad.ints:∀ {ds} {xs} {ns},Ad H ds xs->Gf ds=some ns->xs=ns.map V.int
 |[],xs,ns,h,e=>by cases e;rw[h.nil_eq];rfl
 |.int i::r,xs,ns,h,e=>by
  obtain⟨l,T,rfl⟩:=aC.mp e;obtain⟨x,q,rfl,M,I⟩:=h.un;subst M;rw[(BM),I.ints T]
 |.none::_,_,_,_,e=>by cases e
 |.bool _::_,_,_,_,e=>by cases e
 |.str _::_,_,_,_,e=>by cases e
 |.tuple _::_,_,_,_,e=>by cases e
 |.list _::_,_,_,_,e=>by cases e
 |.dict _::_,_,_,_,e=>by cases e
def Ta:MD
 |[.list xs]=>(Gf xs).map fun ns=>.int ns.sum
 |[.tuple xs]=>(Gf xs).map fun ns=>.int ns.sum
 |_=>none
def rK(Y:PP):K0 X (.builtin "sum") Ta:=by
 refine⟨_,(Wo Y).or (gG Y),fun xs z l G0 H0 G H σ δ ts us Q I d k=>?_⟩;unfold Ta at l;split at l
 .obtain⟨ns,U,rfl⟩:=aC.mp l;obtain⟨u,rfl,du⟩:=d.Im;obtain⟨q,ys,rfl,T,M⟩:=du;refine .inl ⟨q,ns,rfl,by rw[<-M.ints U];exact Am.of (I.ins _ _ T),k _ _ _ (I.put IF)⟩
 .obtain⟨ns,U,rfl⟩:=aC.mp l;obtain⟨u,rfl,du⟩:=d.Im;obtain⟨q,ys,rfl,T,M⟩:=du;refine .inr ⟨q,ns,rfl,by rw[<-M.ints U];exact A5.of (I.ins _ _ T),k _ _ _ (I.put IF)⟩
 contradiction
def Z4:MD
 |[.int i,.int j]=>some (.int (if j > i then j else i))
 |_=>none
def uV(I:PP):K0 X (.builtin "max") Z4:=by
 refine⟨_,gb I,fun xs z l G0 H0 G H σ δ ts us Q T d k=>?_⟩;unfold Z4 at l;split at l
 .cases l;obtain⟨u,v,rfl,du,M⟩:=d.Jg;subst du M;exact⟨_,_,rfl,k _ _ _ (T.put IF)⟩
 .cases l
end
open PySem
noncomputable abbrev fC(x:PD):Dv->Option PD:=fun _=>some x
abbrev Iu(f:L0):Dv->Option PD:=fun δ=>(f δ).bind fun x=>(PN x).map fun i=>.int (-i)
abbrev sd(f:L0):Dv->Option PD:=fun δ=>(f δ).bind fun x=>(Lm x).map fun i=>.bool (!i)
abbrev Td(f g:L0):Dv->Option PD:=fun δ=>(f δ).bind fun x=>(Lm x).bind fun c=>if c=true then g δ else some (.bool false)
noncomputable abbrev AB:Dv->Option (List PD):=fun _=>some []
abbrev AA(f:L0)(fs:On):Dv->Option (List PD):=fun δ=>(f δ).bind fun x=>(fs δ).map fun xs=>x::xs
abbrev Aa(fs:On):Dv->Option PD:=fun δ=>((fs δ).bind BA).map .tuple
abbrev BG(fs:On):Dv->Option PD:=fun δ=>((fs δ).bind BA).map .list
abbrev AE(m:MD)(fs:On):Dv->Option PD:=fun δ=>(fs δ).bind m
abbrev Ip(q:PD->Bool)(f:L0):Dv->Option PD:=fun δ=>(f δ).bind (Z5 q)
abbrev gJ(i:Nat)(g:L0):Dv->Option PD:=fun δ=>(g δ).bind fun y=>(ow i δ).bind fun xs=>(PN y).bind fun k=>FX xs k
abbrev Bd:Dv->Option (Option Int):=fun _=>some none
abbrev Be(f:L0):Dv->Option (Option Int):=fun δ=>(f δ).bind fun x=>(PN x).map some
abbrev CG(f:L0)(M I:Dv->Option (Option Int)):Dv->Option PD:=fun δ=>(f δ).bind fun x=>(M δ).bind fun l=>(I δ).bind fun u=>b8 x l u
abbrev CU(f:L0):Dv->Option Bool:=fun δ=>(f δ).bind Lm
abbrev Ao(o:PD->PD->Option PD)(f g:L0):Dv->Option Bool:=fun δ=>(AF o f g δ).bind Lm
abbrev DD(f:Dv->Option Bool):Dv->Option Bool:=fun δ=>(f δ).map fun c=>!c
abbrev Nx(f g:Dv->Option Bool):Dv->Option Bool:=fun δ=>(f δ).bind fun c=>if c=true then g δ else some false
abbrev Ik(f g:Dv->Option Bool):Dv->Option Bool:=fun δ=>(f δ).bind fun c=>if c=true then some true else g δ
abbrev A6(f:L0):Dv->Option (List PD):=fun δ=>(f δ).bind JS
abbrev BI(m:List PD->Option (List PD))(fs:On):Dv->Option (List PD):=fun δ=>(fs δ).bind m
abbrev BW:Dv->Option Bool:=fun _=>some true
abbrev Cw(i:Nat):PD->Dv->Option Dv:=fun y δ=>some (δ.set i (.d y))
abbrev A2:DF:=fun δ=>some (.nx δ)
noncomputable abbrev Al(f:L0):DF:=fun δ=>(f δ).map .rt
abbrev wQ(f:L0):DF:=fun δ=>(f δ).map fun _=>.nx δ
abbrev Bp(c:Dv->Option Bool)(F G:DF):DF:=fun δ=>(c δ).bind fun c=>if c=true then F δ else G δ
noncomputable abbrev AX(i:Nat)(f:L0):DF:=fun δ=>(f δ).map fun y=>.nx (δ.set i (.d y))
abbrev Et(i:Nat)(fs:On):DF:=fun δ=>((fs δ).bind BA).map fun ys=>.nx (δ.set i (.own Ix))
abbrev Ed(i:Nat)(f:L0):DF:=fun δ=>(f δ).bind fun y=>(ow i δ).bind fun xs=>if xs.length<A9 then some (.nx (δ.set i (.own (.lst (xs++[y]))))) else none
abbrev SW(i:Nat)(f:L0):DF:=fun δ=>(f δ).bind fun y=>(ow i δ).bind fun xs=>match y with|.list l=>(if xs.length+l.length<=A9 then some (.nx (δ.set i (.own (.lst (xs++l))))) else none)|_=>none
abbrev BL(fs:On)(set:PD->Dv->Option Dv)(F:DF):DF:=fun δ=>(fs δ).bind fun xs=>GL set F xs δ
abbrev LB(i:Nat)(F:DF):DF:=fun δ=>F (En i δ)
abbrev wR:DF:=fun δ=>some (.ct δ)
def N5{K}(h:∀vs H Q E,¬sp vs H Q E):Ah P w K mg base CX k f fd ps sp :=
 ⟨fun _ _ _ _ z=>by grind,fun _ _ _ _ _ _ _ _ _ _ _ _ _ z=>by grind⟩
def SQ{K}(F:Ah P w K mg base CX k f fd ps sp) (h:∀ds x,m ds=some x->∀G H vs Q E,Ad G ds vs->AI G H->(∀v G' H',AI G G'->Nw G H G'->AI G' H'->AI H H'->Du G' x v->Q v H')->sp vs H Q E):Ah P w K mg base CX k f fd ps (A1 m) :=
 F.imp fun vs H Q E z=>by
  obtain⟨ds,x,G,T,M,I,l⟩:=z;exact h ds x T G H vs Q E M I l
def Bi(G H:Hp):Hp:=fun a=>match H a with
 |some (.tup xs)=>some KK
 |_=>G a
section
variable{G0 H0 G H:Hp}{σ:St}{δ:Dv}{ts:List (PD×V)}
def Rw.Bi(r:Fb):Rw G0 H0 (L2.Bi G H) H σ δ ts:=by
 have e:AI G (L2.Bi G H):=fun a o h=>by
  unfold L2.Bi;split
  .rename_i xs Y;rw[r.ins _ _ h]at Y;simp_all
  grind
 refine⟨r.ext.trans e,fun a o h=>?_,fun a o h=>?_,r.keep,r.len,fun i x h=>?_,fun i xs h=>?_,r.apart,fun q Z=>(r.BE q Z).same e⟩
 .unfold L2.Bi at h;split at h
  .cases h;simp
  .exact r.new _ _ h
 .unfold L2.Bi at h;split at h
  .simp_all
  .exact r.ins _ _ h
 .obtain⟨v,I,l⟩:=r.dat i x h;exact⟨v,I,l.same e⟩
 .obtain⟨a,ys,I,l,U,T,M⟩:=r.own i xs h;refine⟨a,ys,I,?_,U,T,M.same e⟩;unfold L2.Bi;rw[T];split
  .rename_i q;cases q;exact M.QH.elim
  .exact l
end
theorem Lk:∀ {t} {xs},Ad G (Gi t) xs->Ts G t xs
 |.nil,xs,h=>h.nil_eq
 |.cons b r,xs,h=>by
  obtain⟨x,q,rfl,T,M⟩:=h.un;obtain⟨a,ys,rfl,I,l⟩:=T;exact⟨a,ys,q,rfl,I,Lk l,Lk M⟩
theorem QY:∀ {t} {xs},Ts H t xs->Ad (Bi G H) (Gi t) xs
 |.nil,xs,h=>by rw[h];rfl
 |.cons b r,xs,h=>by
  obtain⟨a,ys,T,rfl,M,I,l⟩:=h;exact .cons (⟨a,ys,rfl,(by unfold Bi;rw[M]),QY I⟩) (QY l)
mutual
theorem Nl:∀ {ds:List PD} {t:Tr},JQ ds=some t->ds=Gi t
 |[],t,h=>by rw[JQ]at h;cases h;rw[Gi]
 |d::ds,t,h=>by
  rw[JQ]at h;obtain⟨b,M,I⟩:=aA.mp h;obtain⟨r,l,rfl⟩:=aC.mp I;rw[Gi,<-Zl M,<-Nl l]
theorem Zl:∀ {d:PD} {t:Tr},FH d=some t->d=.tuple (Gi t)
 |.tuple ds,t,h=>by rw[FH]at h;rw[Nl h]
 |.none,_,h=>by simp[FH]at h
 |.bool _,_,h=>by simp[FH]at h
 |.int _,_,h=>by simp[FH]at h
 |.str _,_,h=>by simp[FH]at h
 |.list _,_,h=>by simp[FH]at h
 |.dict _,_,h=>by simp[FH]at h
end
def uY(rev:Bool)(t:Tr):AAP:=if t.bs.length<64/\t.deep<=60 then some (.list (Gi (Tr.of (if rev then Tr.GV t.bs else(Tr.GV t.bs).reverse)))) else none
def NC(rev:Bool):MD
 |[x]=>(JS x).bind fun ds=>(JQ ds).bind (uY rev)
 |_=>none
section
variable{X:Cx}{a e:Expr}{f g h:AAF}{fs:AAD}{pos p:Pos}
def ZA{Q:VK}(U:Fb)(du:Du G x u)(hz:NC rev [x]=some z)(k:∀w G' H',Rw G0 H0 G' H' σ δ ((z,w)::ts)->Q w H'):∃(p:AD) (ys:AAf) (t:Tr),[u]=[.ref p]/\(Am X.K H p ys\/A5 X.K H p ys)/\Ts H t ys/\ys.length<64/\t.deep<=60/\∀l zs,H l=none->Ts H (Tr.of (if rev then Tr.GV t.bs else(Tr.GV t.bs).reverse)) zs->Q (.ref l) (upd H l (.lst zs)):=by
 obtain⟨ds,h1,h2⟩:=aA.mp hz;obtain⟨t,h3,I⟩:=aA.mp h2;unfold uY at I;split at I
 .rename_i hc;cases I;obtain⟨bb,a,ys,rfl,n1,Y⟩:=Rn du h1;rw[(Nl h3)]at Y;have Z:=(Lk Y).same U.ins;have hl:ys.length=t.bs.length:=by rw[Z.len]
  refine⟨a,ys,t,rfl,?_,Z,by lia,hc.2,fun l zs T M=>?_⟩
  .have:=U.ins _ _ n1;cases bb
   .exact .inl (Am.of Ev)
   .exact .inr (A5.of (by simpa using this))
  .exact k _ _ _ (U.Bi.N1 (QY M) T)
 .cases I
def pj(I:IS):K0 X (.builtin "sorted") (NC false):=by
 refine⟨_,eQ I,fun xs z l G0 H0 G H σ δ ts us Q M d k=>?_⟩;cases xs with
 |nil=>cases l
 |cons x r=>
  cases r with
  |cons y q=>cases l
  |nil=>
   obtain⟨u,rfl,du⟩:=d.Im;exact ZA M du l k
def ky(hu:IS)(hg:Gl X "sorted")(hm:X.mg "sorted" = none)(ha:DA X [e] fs) (Y:∀ {t},PA X [e] t->PE X (.Call (.Name "sorted" p) [e] [⟨some "reverse",.Constant Iz j l,kp⟩] pos) (fun σ H Q=>t σ H fun vs M=>gH X.K vs M Q)):DE X (.Call (.Name "sorted" p) [e] [⟨some "reverse",.Constant Iz j l,kp⟩] pos) (AE (NC true) fs):=by
 obtain⟨t,p,k⟩:=ha;refine⟨_,Y p,fun δ z T G0 H0 G H σ ts Q R0 q=>?_⟩;obtain⟨xs,Z,I⟩:=aA.mp T;refine k δ _ Z G0 H0 G H σ ts _ R0 fun vs G1 M R1 U=>?_;obtain⟨d,R2⟩:=R1.args U;cases xs with
 |nil=>cases I
 |cons x r=>
  cases r with
  |cons y q=>cases I
  |nil=>
   obtain⟨u,rfl,du⟩:=d.Im;exact ZA R2 du I q
def vI(x k:PD):AAP:=match x,k with
 |.list xs,.int i=>if i=-1 then some (.list xs.reverse) else none
 |_,_=>none
abbrev ie(f g:L0):Dv->Option PD:=AF vI f g
def rB(he:DE X e f)(hk:DE X k g):DE X (.Subscript e (.Slice none none (some k) p2) pos) (ie f g):=by
 obtain⟨te,pe,U⟩:=he;obtain⟨tk,I,T⟩:=hk;refine⟨_,vb pe I,fun δ z Y G0 H0 G H σ ts Q R0 k=>?_⟩;obtain⟨x,y,h1,h2,l⟩:=two (x:=.none) (y:=.none) Y;refine U δ x h1 G0 H0 G H σ ts _ R0 fun u G1 H1 R1=>T δ y h2 G0 H0 G1 H1 σ _ _ R1 fun v G2 H2 R2=>?_;have du:=R2.BE (x,u) (.tail _ Ch);have dv:=R2.BE (y,v) Ch;unfold vI at l;split at l
 .split at l
  .rename_i hi;cases l;subst hi;obtain⟨a,ys,rfl,n1,M⟩:=du;exact⟨a,ys,rfl,dv,Am.of (R2.ins _ _ n1),fun q Z=>k _ _ _ (R2.drop.drop.N1 M.rev Z)⟩
  lia
 lia
abbrev MV(i:Nat)(f g:L0):DF:=fun δ=>(f δ).bind fun y=>(g δ).bind fun k=>(ow i δ).bind fun xs=>(PN k).bind fun n=>(QZ xs.length n).map fun j=>.nx (δ.set i (.own (.lst (xs.set j y))))
theorem Ad.set(hd:Du H d v):∀ {ds} {xs} j,Ad H ds xs->Ad H (ds.set j d) (xs.set j v)
 |[],_,_,h=>by rw[h.nil_eq];rfl
 |_::_,_,0,h=>by obtain⟨x,r,rfl,_,l⟩:=h.un;exact .cons hd l
 |_::_,_,j+1,h=>by obtain⟨x,r,rfl,I,l⟩:=h.un;exact .cons I (Ad.set hd j l)
def sY(hv:PE X Iv (IL i))(hk:DE X a g)(he:DE X e f) (hP:∀ {l M T},PE X e l->PE X Iv M->PE X a T->PS X (.Assign [.Subscript Iv a sp] e pos) (WM l (jJ M T lu))):DS X (.Assign [.Subscript Iv a sp] e pos) (MV i f g):=by
 obtain⟨l,pe,ke⟩:=he;obtain⟨tk,pk,kk⟩:=hk;refine⟨_,hP pe hv pk,fun δ r h G0 H0 G H σ D R q=>?_⟩;obtain⟨y,h1,h2⟩:=aA.mp h;obtain⟨n,h3,h4⟩:=aA.mp h2;obtain⟨xs,h5,h6⟩:=aA.mp h4;obtain⟨m,h7,h8⟩:=aA.mp h6;obtain⟨j,h9,rfl⟩:=aC.mp h8;have:=Rb h7;subst this;have hi:=OL h5;refine ke δ y h1 G0 H0 G H σ [] _ R fun u G1 H1 Z=>?_;obtain⟨ad,_,I,k2,k3,k4,⟨ys,rfl,k5⟩⟩:=Z.own i _ hi;refine⟨.ref ad,I,kk δ _ h3 G0 H0 G1 H1 σ _ _ Z fun v G2 H2 R2=>?_⟩;obtain⟨ad',_,Y,m2,m3,m4,⟨zs,rfl,U⟩⟩:=R2.own i _ hi;rw[I]at Y;cases Y;exact⟨ad,zs,m,j,rfl,(R2.BE (.int m,v) Ch),m4,by rw[U.len];assumption,q _ _ _ (R2.drop.drop.RT hi I ⟨_,rfl,U.set (R2.BE (y,u) (.tail _ Ch)) j⟩)⟩
end
def Z6:PD->Option Key
 |.int i=>some (.inl i)
 |.str x=>some (.inr x)
 |_=>none
def Q2:List PD->Option (List Key)
 |[]=>some []
 |d::r=>(Z6 d).bind fun k=>(Q2 r).map fun q=>k::q
def MO:PD->Option (List Key)
 |.tuple ds=>Q2 ds
 |_=>none
def p5(h:Du G d v)(e:Z6 d=some k):v=kV k:=by
 unfold Z6 at e;split at e
 .cases e;exact h
 .cases e;exact h
 contradiction
theorem Xn:∀ {ds} {xs} {ks},Ad G ds xs->Q2 ds=some ks->xs=ks.map kV
 |[],xs,ks,h,e=>by cases e;rw[h.nil_eq];rfl
 |d::ds,xs,ks,h,e=>by
  obtain⟨k,U,T⟩:=aA.mp e;obtain⟨q,M,rfl⟩:=aC.mp T;obtain⟨x,r,rfl,I,l⟩:=h.un;rw[(BM),p5 I U,Xn l M]
def Tg(h:Du G d v)(e:MO d=some ks):∃b,v=.ref b/\G b=some (.tup (ks.map kV)):=by
 unfold MO at e;split at e
 .obtain⟨a,xs,rfl,I,l⟩:=h;exact⟨a,rfl,by rw[<-Xn l e];exact I⟩
 .cases e
def LD(kvs:List (List Key×PD))(k:List Key):AAP:=(kvs.find? fun l=>decide (l.1=k)).map (·.2)
def putD(kvs:List (List Key×PD))(k:List Key)(v:PD):List (List Key×PD) :=
 if(kvs.any fun l=>decide (l.1=k))=true then kvs.map (fun l=>if l.1=k then(l.1,v) else l) else kvs++[(k,v)]
theorem Ck.val:∀ {t} {r},Ck G t r->(match LD t k with|some d=>∃v,Co r k=some v/\Du G d v|none=>Co r k=none)
 |[],r,h=>by subst h;rfl
 |q::t,r,h=>by
  obtain⟨v,M,rfl,T,I⟩:=h;have l:=Ck.val (k:=k) I;unfold LD Co at l ⊢;by_cases e:q.1=k
  .simp_all
  .simp only[List.find?_cons,e,decide_false];exact l
theorem Ck.app(hd:Du G d v):∀ {t} {r},Ck G t r->Ck G (t++[(k,d)]) (r++[(k,v)])
 |[],r,h=>by subst h;exact⟨v,[],rfl,hd,rfl⟩
 |q::t,r,h=>by
  obtain⟨u,M,rfl,I,l⟩:=h;exact⟨u,_,rfl,I,Ck.app hd l⟩
theorem Ck.any:∀ {t} {r},Ck G t r->(r.any fun l=>decide (l.1=k))=(t.any fun l=>decide (l.1=k))
 |[],r,h=>by subst h;rfl
 |q::t,r,h=>by
  obtain⟨u,M,rfl,T,I⟩:=h;simp only[List.any_cons,Ck.any I]
theorem Ck.over(hd:Du G d v):∀ {t} {r},Ck G t r->Ck G (t.map fun l=>if l.1=k then(l.1,d) else l) (r.map fun l=>if l.1=k then(l.1,v) else l)
 |[],r,h=>by subst h;rfl
 |q::t,r,h=>by
  obtain⟨u,T,rfl,M,I⟩:=h;by_cases e:q.1=k
  .simp only[List.map_cons,e];exact⟨v,_,rfl,hd,Ck.over hd I⟩
  .simp only[List.map_cons,e];exact⟨u,_,rfl,M,Ck.over hd I⟩
def Ck.put(hd:Du G d v)(h:Ck G t r):Ck G (putD t k d) (putK r k v):=by
 unfold putD putK;rw[h.any ];split
 .exact h.over hd
 .exact h.app hd
def Ck.len:∀ {t} {r},Ck G t r->r.length=t.length
 |[],r,h=>by subst h;rfl
 |q::t,r,h=>by
  obtain⟨u,I,rfl,M,l⟩:=h;simp[l.len]
def Ei(i:Nat)(δ:Dv):Option (List (List Key×PD)):=match δ[i]? with
 |some (.own (.Ei kvs))=>some kvs
 |_=>none
def RB(h:Ei i δ=some kvs):δ[i]? = some (.own (.Ei kvs)):=by
 unfold Ei at h;split at h
 .simp_all
 .cases h
section
variable{X:Cx}{a b e:Expr}{f g h:AAF}{pos:Pos}
abbrev uC(i:Nat):DF:=fun δ=>some (.nx (δ.set i (.own (.Ei []))))
def sQ(Y:X.N.Nodup)(hi:X.N[i]? = some x)(M:Loc X.env.scope x)(T:swapsWith (.Dict [] [] dp) (some (.Name x I)) pos.line X.env=pure false:=by rfl)(hf:X.fn x=true\/X.env.scope.names.lookup x=some .local:=by first|exact .inl rfl|exact .inr rfl|assumption):DS X (.Assign [.Name x I] (.Dict [] [] dp) pos) (uC i):=by
 refine⟨_,Az Y hi M Xd T hf,fun δ r h G0 H0 G H σ D R q=>?_⟩;cases h;exact fun l U=>q _ _ _ (R.Qf ⟨[],rfl,rfl⟩ U)
abbrev Wq(i:Nat)(f g:L0):DF:=fun δ=>(f δ).bind fun y=>(g δ).bind fun k=>(Ei i δ).bind fun kvs=>(MO k).bind fun q=>if kvs.length<A9 then some (.nx (δ.set i (.own (.Ei (putD kvs q y))))) else none
def qD(hv:PE X Iv (IL i))(hk:DE X a g)(he:DE X e f) (hP:∀ {l T U},PE X e l->PE X Iv T->PE X a U->PS X (.Assign [.Subscript Iv a sp] e pos) (mU T U l)):DS X (.Assign [.Subscript Iv a sp] e pos) (Wq i f g):=by
 obtain⟨l,pe,ke⟩:=he;obtain⟨tk,pk,kk⟩:=hk;refine⟨_,hP pe hv pk,fun δ r h G0 H0 G H σ D R q=>?_⟩;obtain⟨y,h1,h2⟩:=aA.mp h;obtain⟨k,h3,h4⟩:=aA.mp h2;obtain⟨kvs,h5,h6⟩:=aA.mp h4;obtain⟨ks,h7,M⟩:=aA.mp h6;split at M
 .cases M;have hi:=RB h5;refine ke δ y h1 G0 H0 G H σ [] _ R fun u G1 H1 R1=>?_;obtain⟨ad,_,I,k2,k3,k4,⟨r1,rfl,k5⟩⟩:=R1.own i _ hi;refine⟨.ref ad,I,kk δ _ h3 G0 H0 G1 H1 σ _ _ R1 fun v G2 H2 R2=>?_⟩;obtain⟨b,rfl,hb⟩:=Tg (R2.BE (k,v) Ch) h7;obtain⟨ad',_,Z,m2,m3,m4,⟨r2,rfl,Y⟩⟩:=R2.own i _ hi;rw[I]at Z;cases Z;exact⟨ad,_,rfl,Xw.t m4 (R2.ins _ _ hb) (S6 (by rw[Y.len];exact aa ‹_›)),q _ _ _ (R2.drop.drop.RT hi I ⟨_,rfl,Y.put (R2.BE (y,u) (.tail _ Ch))⟩)⟩
 .cases M
abbrev OE(i:Nat)(g:L0):Dv->Option PD:=fun δ=>(g δ).bind fun k=>(Ei i δ).bind fun kvs=>(MO k).bind fun q=>LD kvs q
def pE(hu:X.A.units+1<cLine)(l:PE X Iv (IL i))(hk:DE X a g)(hs:Xk a):DE X (.Subscript Iv a pos) (OE i g):=by
 obtain⟨tk,Y,kk⟩:=hk;refine⟨_,Yg hu l Y hs,fun δ z hz G0 H0 G H σ ts Q U k=>?_⟩;obtain⟨y,h1,h2⟩:=aA.mp hz;obtain⟨kvs,h3,h4⟩:=aA.mp h2;obtain⟨ks,h5,h6⟩:=aA.mp h4;have hi:=RB h3;obtain⟨ad,_,T,k2,k3,k4,⟨r1,rfl,k5⟩⟩:=U.own i _ hi;refine⟨.ref ad,T,kk δ _ h1 G0 H0 G H σ ts _ U fun v G1 H1 I=>?_⟩;obtain⟨b,rfl,hb⟩:=Tg (I.BE (y,v) Ch) h5;obtain⟨ad',_,M,m2,m3,m4,⟨r2,rfl,m5⟩⟩:=I.own i _ hi;rw[T]at M;cases M;have l:=m5.val (k:=ks);rw[h6]at l;obtain⟨w,n1,Z⟩:=l;exact⟨ad,w,rfl,by rw[<-n1];exact LC.t m4 (I.ins _ _ hb),k _ _ _ (I.drop.put Z)⟩
end
section
variable{G0 H0 G H:Hp}{σ:St}{δ:Dv}{ts:List (PD×V)}
def Rw.on(r:Fb)(e:AI H H'):Rw G0 H0 G H' σ δ ts:=r.lift (AI.refl _) Nw.refl (r.ins.trans e) e
def Rw.pU{xs}{ys}(r:Fb)(d:IH G a xs ys)(ha:H a=some ys)(hG:G a=none)(h0:H0 a=none)(M:∀(j:Nat) zs,δ[j]? = some (L.own zs)->σ[j]?≠some (some (V.ref a))):Rw G0 H0 G H (σ.set i (some Jc)) (δ.set i (.own xs)) ts:=by
 have hl:=r.len;have other:∀j zs,i≠j->(δ.set i (.own xs))[j]? = some (L.own zs)->δ[j]? = some (L.own zs):=fun j zs I h=>by rw[List.getElem?_set_ne I]at h;exact h
 refine⟨r.ext,r.new,r.ins,r.keep,by simp[hl],fun j y h=>?_,fun j zs h=>?_,fun j l us ws Z U T=>?_,r.BE⟩
 .by_cases I:i=j
  .subst I;by_cases hi:i<δ.length
   .rw[List.getElem?_set_self hi]at h;cases h
   .rw[List.getElem?_eq_none (by simp;lia)]at h;cases h
  .rw[List.getElem?_set_ne I]at h;obtain⟨w,m1,m2⟩:=r.dat j y h;exact⟨w,by rw[List.getElem?_set_ne I];exact m1,m2⟩
 .by_cases I:i=j
  .subst I;by_cases hi:i<δ.length
   .rw[List.getElem?_set_self hi]at h;cases h;exact⟨a,ys,by rw[List.getElem?_set_self AS],hG,h0,ha,d⟩
   .rw[List.getElem?_eq_none (by simp;lia)]at h;cases h
  .obtain⟨b,us,m1,m2,m3,m4,m5⟩:=r.own j zs (other j zs I h);exact⟨b,us,by rw[List.getElem?_set_ne I];exact m1,m2,m3,m4,m5⟩
 .by_cases I:i=j
  .subst I;have Y:=Z;have T:=other l ws Y T;by_cases hi:i<δ.length
   .rw[List.getElem?_set_self AS,List.getElem?_set_ne Y];exact fun z=>M l ws T z.symm
   .rw[List.getElem?_eq_none (by simp;lia)]at U;cases U
  .have U:=other j us I U;by_cases hk:i=l
   .subst hk;by_cases hi:i<δ.length
    .rw[List.getElem?_set_self AS,List.getElem?_set_ne I];exact fun z=>M j us U z
    .rw[List.getElem?_eq_none (by simp;lia)]at T;cases T
   .rw[List.getElem?_set_ne I,List.getElem?_set_ne hk];exact r.apart j l us ws Z U (other l ws hk T)
end
def mw(g:RW):Sp:=fun vs H Q _=>∃ds xs G,g ds=some xs/\Ad G ds vs/\AI G H/\∀a ys G' H',AI G G'->Nw G H G'->AI G' H'->AI H H'->H a=none->G' a=none->H' a=some Ix->Ad G' xs ys->Q Jc H'
section
variable{X:Cx}{a b e:Expr}{es:AAU}{fs:AAD}{pos p:Pos}
abbrev uh(i:Nat)(m:List PD->Option (List PD))(fs:On):DF:=fun δ=>((fs δ).bind m).map fun xs=>.nx (δ.set i (.own (.lst xs)))
def oT{st}{I l}(T:Fn X.K X.mg x st ps fA fd)(F:Ah X.prog X.w X.K X.mg X.base Ag k fA fd ps (mw m))(hr:Bq k X.A)(hg:Gl X x)(ha:DA X (e::es) fs) (hN:X.N.Nodup)(hi:X.N[i]? = some y)(hx:Loc X.env.scope y) (Y:IN=false:=by decide)(he:starEach (e::es) X.env=Fj::starEach es X.env:=by rfl)(U:(backTo pos OR).any Fk=false:=by rfl) (hs:swapsWith Cl (some (.Name y I)) l.line X.env=pure false:=by rfl)(hf:X.fn y=true\/X.env.scope.names.lookup y=some .local:=by first|exact .inl rfl|exact .inr rfl|assumption):DS X (.Assign [.Name y I] Cl l) (uh i m fs):=by
 obtain⟨ta,pa,ka⟩:=ha;refine⟨_,Az hN hi hx (EJ T F hr hg pa Y he U) hs hf,fun δ r hz G0 H0 G H σ D R q=>?_⟩;obtain⟨M,hy,rfl⟩:=aC.mp hz;obtain⟨xs,h1,h2⟩:=aA.mp hy;refine ka δ _ h1 G0 H0 G H σ [] _ R fun vs G1 H1 R1 hv=>?_;obtain⟨d,R2⟩:=R1.args hv;refine⟨xs,M,G1,h2,by rw[(MN)];exact d,R2.ins,fun a ys G' H' m1 m2 m3 m4 Z m6 m7 m8=>q _ _ _ ((R2.lift m1 m2 m3 m4).pU ⟨ys,rfl,m8⟩ m7 m6 ?_ fun j M hj z=>?_)⟩
 .cases q:H0 a with
  |none=>rfl
  |some u=>rw[R2.keep _ _ q]at Z;cases Z
 .obtain⟨b,us,k1,k2,k3,k4,k5⟩:=R2.own j M hj
  lia
end
section
variable{F F1 F2:DF}{δ δ':Dv}{r:Option Ou}{c:AAG}{f g:AAF}{fs:AAD}
def AN(h:F1 δ=some (.nx δ'))(k:F2 δ'=r):AL F1 F2 δ=r:=by unfold AL;rw[h];exact k
def Cq(h:F1 δ=some (.rt x)):AL F1 F2 δ=some (.rt x):=by unfold AL;rw[h]
def DR(h:c δ=some true)(k:F1 δ=r):Bp c F1 F2 δ=r:=by show(c δ).bind _=r;rw[h];exact k
def EI(h:c δ=some false)(k:F2 δ=r):Bp c F1 F2 δ=r:=by show(c δ).bind _=r;rw[h];exact k
def AW(h:f δ=some y):AX i f δ=some (.nx (δ.set i (.d y))):=by grind
def CN(h:f δ=some y):Al f δ=some (.rt y):=by grind
def AQ(M:f δ=some x)(I:g δ=some y)(l:o x y=z):AF o f g δ=z:=by unfold AF;grind
def AJ(I:fs δ=some xs)(l:m xs=z):AE m fs δ=z:=by grind
def AK(I:f δ=some x)(l:fs δ=some xs):AA f fs δ=some (x::xs):=by grind
def Yo(h:fs δ=some xs)(l:xs.length<=A9):BG fs δ=some (.list xs):=by show((fs δ).bind BA).map _=_;rw[h];show(BA xs).map _=_;unfold BA;simp_all
def Dg(h:fs δ=some xs)(l:xs.length<=A9):Aa fs δ=some (.tuple xs):=by show((fs δ).bind BA).map _=_;rw[h];show(BA xs).map _=_;unfold BA;simp_all
def Bu(M:f δ=some x)(I:g δ=some y)(l:o x y=some (.bool b)):Ao o f g δ=some b:=by show(AF o f g δ).bind Lm=_;rw[AQ M I l];rfl
def Ka(h:a δ=some false)(k:b δ=q):Ik a b δ=q:=by grind
def Og(h:a δ=some true):Ik a b δ=some true:=by grind
def C3(h:a δ=some b):DD a δ=some (!b):=by grind
def C7(h:f δ=some (.bool b)):CU f δ=some b:=by show(f δ).bind Lm=_;rw[h];rfl
theorem Wv{set}(M:Nat->Dv->Prop):∀xs δ n,M n δ->(∀i x δ,xs[i]? = some x->M (n+i) δ->∃I l,set x δ=some I/\F I=some (.nx l)/\M (n+i+1) l) ->
  ∃δ',GL set F xs δ=some (.nx δ')/\M (n+xs.length) δ'
 |[],δ,n,h,_=>⟨δ,rfl,h⟩
 |x::xs,δ,n,h,k=>by
  obtain⟨I,l,h1,h2,U⟩:=k 0 x δ rfl h;obtain⟨δ',h4,T⟩:=Wv M xs l _ U fun i y δ Y Z=>by
   have:=k OK y δ Ev (by grind);rw[show n+_+1=n+1+i+1 by lia]at this;exact this
  refine⟨δ',?_,by rw[(FU),show n+_=n+1+xs.length by lia];exact T⟩;unfold GL
  simp_all
def jn{set}(M:Nat->Dv->Prop)(T:fs δ=some xs)(h0:M 0 δ)(U:∀i x δ,xs[i]? = some x->M i δ->∃I l,set x δ=some I/\F I=some (.nx l)/\M OK l):∃δ',BL fs set F δ=some (.nx δ')/\M xs.length δ':=by
 obtain⟨δ',h1,Z⟩:=Wv M xs δ 0 h0 fun i x δ T Y=>by
  simpa using (U i x δ T AS)
 grind
theorem Oo{g}:∀ {xs},(∀x∈xs,one x=some (some (g x)))->collect one xs=some (xs.map g)
 |[],_=>rfl
 |x::xs,h=>by
  unfold collect;rw[h x Ch,Oo fun y l=>h y (.tail _ l)]
  rfl
def comp_map{g}(l:fs δ=some xs)(I:xs.length<=A9)(h:∀x∈xs,f ((BK fr δ).set ix (.d x))=some (g x)):CT (CL ix) BW f fr fs δ=some (.list (xs.map g)):=by
 unfold CT Bk;rw[l,(C8),Oo (g:=g) fun x l=>?_,(C8),BA,if_pos Rs]
 .rfl
 .unfold IP CL
  simp_all
end
def BC(l:ds.length=ps.length)(h:F (Gh N ds)=some (.rt x)):A0 ps N F ds=some x:=by unfold A0;simp_all
def Tc{lo}(h:(Ew lo n)[i]? = some x):x=.int (lo+i)/\i<n:=by
 unfold Ew at h;rw[(Ar)]at h;obtain⟨j,l,rfl⟩:=aC.mp h;have I:=(aD.mp l).1
 simp_all
def QJ(h:f δ=some (.int j))(h0:-1000000<=j)(l:j<=1000000):BI HM (AA f AB) δ=some (Ew 0 j.toNat):=by
 show(AA f AB δ).bind HM=_;rw[AK h rfl];exact if_pos ⟨h0,l⟩
def LY(h:i.natAbs<2^n):LL n i=true:=decide_eq_true h
def Wi(h:OQ i j=true):BJ (.int i) (.int j)=some (.int (i*j)):=by
 show PV Zr VZ _ _=_;unfold PV;rw[show Zr (.int i) (.int j)=some _ from if_pos h]
def mul_r(h:j.natAbs<2^64):BJ (.int i) (.int j)=some (.int (i*j)):=Wi (by unfold OQ;rw[LY h];simp)
def L8(h:i.natAbs<2^64):BJ (.int i) (.int j)=some (.int (i*j)):=Wi (by unfold OQ;rw[LY h];simp)
def mod_is(h:0<j):Cp (.int i) (.int j)=some (.int (i % j)):=by
 show(if j≠0 then some _ else none)=_;rw[if_pos (bJ ‹_›),Int.fmod_eq_emod_of_nonneg _ (Int.le_of_lt ‹_›)]
def fD{n:Nat}(hn:n<=1000)(hi:LL 64 i=true):Pl (.int i) (.int n)=some (.int (i^n)):=by
 show(if 0<=_/\_<=1000/\LL 64 i=true then some _ else none)=_;rw[if_pos ⟨Int.natCast_nonneg _,by lia,hi⟩,(TM)]
def kT:PD->PD->Option PD:=fun x y=>match x,y with|.tuple a,.int k=>(if a.length≠0/\1<=k/\k<=1000/\a.length*k.toNat<=1000 then some (.tuple (List.replicate k.toNat a).flatten) else none)|_,_=>none
def qO:DH X (binaryOp .Mult) kT:=by
 refine⟨_,oZ,fun x y z I G0 H0 G H σ δ ts u v Q U du dv k=>?_⟩;unfold kT at I;split at I
 .rename_i a n;split at I
  .rename_i M;cases I;obtain⟨p,xs,rfl,Z,T⟩:=du;subst dv;exact⟨p,n,xs,rfl,rfl,U.ins _ _ Z,fun z=>M.1 (by rw[<-T.len,z];rfl),M.2.1,M.2.2.1,by rw[T.len];lia,fun l H' e Y=>k _ _ _ ((U.eN e Y).put (⟨l,_,rfl,AR,(T.same (fun a o h=>by
    by_cases ha:a=l
    .subst ha;have:=e _ _ (U.ins _ _ h);rw[Y]at this;rw[AR];assumption
    .rw[AM ha];exact h)).rep _⟩))⟩
  lia
 lia
def nV:PD->PD->Option PD:=PV BJ kT
def qq:DH X (binaryOp .Mult) nV:=dq.or qO
def j5(C:AD):PD:=.dict [(.int C,.none)]
def B7(ns:AAS):PD:=.dict [(.none,.list (ns.map .int))]
def tf(h:Rd H a (.lst (ns.map V.int))):Du H (B7 ns) Jc:=.inr (.inl ⟨a,ns,rfl,rfl,h⟩)
def cS(K:Fg):Bool:=K.all fun p=>match p.2.cls with|.type n=>n != "list" |_=>true
theorem O6:∀ {K:Fg},K.lookup a=some o->(a,o)∈K
 |[],h=>by cases h
 |(b,u)::K,h=>by
  rw[(KP)]at h;split at h
  .grind
  .exact .tail _ (O6 h)
def uI{K}(l:cS K=true)(h:Am K H a xs):Rd H a (.lst xs):=by
 rcases h with h|⟨o,I,n,T,M,_⟩
 .exact h
 .unfold cS at l;rw[List.all_eq_true]at l;have:=l _ (O6 T);rw[M]at this;exact absurd this AC
abbrev Xr:=PD ⊕ AD
abbrev rW:=List PD->Option Xr
def FN(g:rW):Sp:=fun vs H Q E=>∃ds r G,g ds=some r/\Ad G ds vs/\AI G H/\match r with
 |.inl x=>∀v G' H',AI G G'->Nw G H G'->AI G' H'->AI H H'->Du G' x v->Q v H'
 |.inr C=>∀H',AI H H'->E Re none H'
abbrev Yk:=Ou ⊕ AD
abbrev EX:=Dv->Option Yk
def tW(G0 H0:Hp)(D:Ends)(E:XK):Yk->Prop
 |.inl o=>Fin G0 H0 D o
 |.inr C=>∀H',AI H0 H'->E Re none H'
structure DX(X:Cx)(E:XK)(st:Stmt)(F:EX):Prop where
 ex:∃t,PS X st t/\∀δ r,F δ=some r->∀G0 H0 G H σ D,Rw G0 H0 G H σ δ []->tW G0 H0 D E r->t D σ H
structure N7(X:Cx)(E:XK)(sts:List Stmt)(F:EX):Prop where
 ex:∃t,Ht X sts t/\∀δ r,F δ=some r->∀G0 H0 G H σ D,Rw G0 H0 G H σ δ []->tW G0 H0 D E r->t D σ H
section
variable{X:Cx}{E:XK}{b c e:Expr}{es:AAU}{f h:AAF}{fs:AAD}{fa:AAG}{pos p:Pos}{st:Stmt}{sts sts':AAi}{F:DF}{J J1 J2:EX}
def tM(h:PE X.GF e t):PE X e t:=fun pins s σ H Q I k=>aV (h pins s σ H Q (I.Fd _) k) (fun _ _ ⟨v,H',l,r,q⟩=>⟨v,H',l.DJ,r,q⟩) fun _ _ z=>z.elim
def tV(h:PT X.GF e t):PT X e t:=fun pins s σ H Q I k=>aV (h pins s σ H Q (I.Fd _) k) (fun _ _ ⟨H',l,q⟩=>⟨H',l.DJ,q⟩) fun _ _ z=>z.elim
def WE(h:PA X.GF es t):PA X es t:=fun p pins s σ H Q I k=>aV (h p pins s σ H Q (I.Fd _) k) (fun _ _ ⟨v,H',l,r,q⟩=>⟨v,H',l.DJ,r,q⟩) fun _ _ z=>z.elim
abbrev El(F:DF):EX:=fun δ=>(F δ).map .inl
def v5(h:DS X.GF st F):DX X E st (El F):=by
 obtain⟨t,p,k⟩:=h;refine⟨t,fun pins s σ H D I k=>aV (p pins s σ H D (I.Fd _) k) (fun _ _ z=>z.DJ) fun _ _ z=>z.elim,fun δ r h G0 H0 G H σ D R q=>?_⟩;obtain⟨o,l,rfl⟩:=aC.mp h;exact k δ o l G0 H0 G H σ D R q
def sj(h:Ku X.GF sts F):N7 X E sts (El F):=by
 obtain⟨t,p,k⟩:=h;refine⟨t,fun pins s σ H D I k=>aV (p pins s σ H D (I.Fd _) k) (fun _ _ z=>z.DJ) fun _ _ z=>z.elim,fun δ r h G0 H0 G H σ D R q=>?_⟩;obtain⟨o,l,rfl⟩:=aC.mp h;exact k δ o l G0 H0 G H σ D R q
noncomputable def B0(J1 J2:EX)(δ:Dv):Option Yk:=match J1 δ with
 |some (.inl (.nx δ'))=>J2 δ'
 |o=>o
def oQ:N7 X E [] (fun δ=>some (.inl (.nx δ))):=⟨_,FC,fun δ r h G0 H0 G H σ D R k=>by cases h;exact k _ _ _ R⟩
def qA(h:DX X E st J):N7 X E [st] J:=by
 obtain⟨t,p,k⟩:=h;exact⟨t,A8 p,k⟩
def jK(Y:DX X E st J1)(U:N7 X E sts J2):N7 X E (st::sts) (B0 J1 J2):=by
 obtain⟨t1,M,l⟩:=Y;obtain⟨t2,I,T⟩:=U;refine⟨_,Ai M I,fun δ r h G0 H0 G H σ D R q=>?_⟩;unfold B0 at h;split at h
 .rename_i δ' Z;exact l δ _ Z G0 H0 G H σ _ R fun σ' G' H' R'=>T δ' r h G0 H0 G' H' σ' D R' q
 .rename_i o hn;cases r with
  |inr C=>exact l δ _ h G0 H0 G H σ _ R q
  |inl o'=>
   cases o' with
   |nx δ'=>exact absurd h (hn δ')
   |rt x=>exact l δ _ h G0 H0 G H σ _ R q
   |bk x=>exact l δ _ h G0 H0 G H σ _ R q
   |ct x=>exact l δ _ h G0 H0 G H σ _ R q
   |rn x=>exact l δ _ h G0 H0 G H σ _ R q
abbrev Qb(c:Dv->Option Bool)(J1 J2:EX):EX:=fun δ=>(c δ).bind fun b=>if b=true then J1 δ else J2 δ
def v7(hc:DT X.GF c fa)(h1:N7 X E sts J1)(h2:N7 X E sts' J2):DX X E (.If c sts sts' pos) (Qb fa J1 J2):=by
 obtain⟨tc,pc,Z⟩:=hc;obtain⟨t1,Y,k1⟩:=h1;obtain⟨t2,U,k2⟩:=h2;refine⟨_,IX (tV pc) Y U,fun δ r h G0 H0 G H σ D R q=>?_⟩;obtain⟨b,h3,l⟩:=aA.mp h;refine Z δ _ h3 G0 H0 G H σ [] _ R fun T M I=>?_;split
 .rename_i hb;rw[if_pos hb]at l;exact k1 δ r l G0 H0 T M σ D I q
 .rename_i hb;rw[if_neg hb]at l;exact k2 δ r l G0 H0 T M σ D I q
abbrev Jz(C:AD)(f:L0):EX:=fun δ=>(f δ).map fun _=>.inr C
def jf{np cpos}(T:Exc X.K X.mg x C)(hL:Lets X E)(he:DE X.GF e f)(M:X.calm=true:=by rfl)(hg:Gl X x:=by rfl)(hd:IN=false:=by decide) (U:starEach [e] X.env=[Fj]:=by rfl):DX X E (.Raise (some (.Call Iv [e] [] cpos)) none pos) (Jz C f):=by
 obtain⟨t,p,k⟩:=he;refine⟨_,(by
   intro pins s σ H D I h;obtain⟨tl,N,nm,qn,bs,l,sn,sub,ab,col,dd,k0,k1,k2,k3,k5,mN,hC,hN,Z,TL⟩:=pf I.ok.mod.Mj T.q;refine wpAny_Raise_call_subT (nm:=nm) (q:=qn) (N:=N) (bs:=bs) (hdct:=l) (sn:=sn) (sub:=sub) (ab:=ab) (col:=col) (dd:=dd) (k0:=k0) (k1:=k1) (k2:=k2) (k3:=k3) (k5:=k5)
    PySem.F.excBase_ValueError (TL.hasType AC) (I.ok.hd M) (by rw[U];rfl) Z (Hx I hg T.m ⟨rfl,?_⟩ hd)
   rw[U];exact Calls.evalArgs_plain (bM (Aw ((tM p) pins s σ H _ I h) fun u s1 ⟨v,H1,Y,r1,q1⟩=>Calls.spliced_nil (⟨rfl,by show 1<=sizeLine;decide,Y.bk _ _ hC,hN.keeps Y.bk,TL.keeps Y.bk,fun h' ea hm=>hL pins σ H1 s1 h' ea _ _ Y hm q1⟩)))),fun δ r h G0 H0 G H σ D R q=>?_⟩
 obtain⟨y,h1,rfl⟩:=aC.mp h;exact k δ y h1 G0 H0 G H σ [] _ R fun v G' H' R'=>q _ R'.keep
def Q9{k:Nat}{l:TA}(U:∀δ xs,fs δ=some xs->∀G0 H0 G H σ ts Q,Rw G0 H0 G H σ δ ts->(∀vs G' H',Rw G0 H0 G' H' σ δ (xs.zip vs++ts)->vs.length=xs.length->Q vs H')->l σ H Q) (hz:(fs δ).bind m=some r)(R:Rw G0 H0 G H σ δ [])(T:∀x,r=.inl x->∀v G' H',Rw G0 H0 G' H' σ δ [(x,v)]->Q v H')(M:∀C,r=.inr C->∀G' H',Rw G0 H0 G' H' σ δ []->E' Re none H'):l σ H fun vs I=>FN m (vs++[]) I Q E':=by
 obtain⟨xs,h1,h2⟩:=aA.mp hz;refine U δ _ h1 G0 H0 G H σ [] _ R fun vs G1 I R1 Y=>?_;obtain⟨d,R2⟩:=R1.args Y;refine⟨xs,r,G1,h2,by grind,R2.ins,?_⟩;cases r with
 |inl x=>exact fun v G' H' h3 h4 h5 h6 Z=>T x rfl _ _ _ ((R2.lift h3 h4 h5 h6).put Z)
 |inr C=>exact fun H' h=>M C rfl _ _ (R2.on h)
section
variable{k:Nat}{fA:AD}{fd:F0a}{ps:AAT}{m:rW}{x:Str}{st':Stmt}
abbrev EY(m:List PD->Option Xr)(fs:On)(nx:PD->Dv->Ou):EX:=fun δ=>((fs δ).bind m).map fun r=>match r with
 |.inl x=>.inl (nx x δ)
 |.inr C=>.inr C
def pX(T:Fn X.K X.mg x st' ps fA fd)(F:Ah X.prog X.w X.K X.mg X.base (CP X.prog X.w) k fA fd ps (FN m))(hr:Bq k X.A)(hP:Passes (CP X.prog X.w) X E)(ha:DA X.GF (e::es) fs) (U:∀ {t},PE X Cl t->PS X (.Expr Cl l) (RV t)) (hg:Gl X x:=by rfl)(M:IN=false:=by decide)(he:starEach (e::es) X.env=Fj::starEach es X.env:=by rfl)(I:(backTo pos OR).any Fk=false:=by rfl):DX X E (.Expr Cl l) (EY m fs fun _ δ=>.nx δ):=by
 obtain⟨ta,Z,ka⟩:=ha;refine⟨_,U (WX T F hr hg hP (WE Z) M he I),fun δ r h G0 H0 G H σ D R q=>?_⟩;obtain⟨z,h1,rfl⟩:=aC.mp h;refine Q9 (k:=k) ka h1 R (fun x hx v G' H' Y=>?_) (fun C hC G' H' Y=>?_)
 .subst hx;exact q _ _ _ Y.drop
 .subst hC;exact q _ Y.keep
def jB(T:Fn X.K X.mg x st' ps fA fd)(F:Ah X.prog X.w X.K X.mg X.base (CP X.prog X.w) k fA fd ps (FN m))(Z:Bq k X.A)(hP:Passes (CP X.prog X.w) X E) (M:∀ {t},PE X (.Call (.Name x p) [] [] pos) t->PS X (.Expr (.Call (.Name x p) [] [] pos) l) (RV t))(hg:Gl X x:=by rfl)(I:IN=false:=by decide):DX X E (.Expr (.Call (.Name x p) [] [] pos) l) (EY m AB fun _ δ=>.nx δ):=by
 refine⟨_,M (jz F Z hg T.m T.F.kp T.b .nil hP I),fun δ r h G0 H0 G H σ D R q=>?_⟩;obtain⟨z,h1,rfl⟩:=aC.mp h;refine Q9 (k:=k) (fun δ xs h G0 H0 G H σ ts Q R0 k=>by cases h;exact k [] G H Ev rfl) h1 R (fun x Y v G' H' U=>?_) (fun C hC G' H' U=>?_)
 .subst Y;exact q _ _ _ U.drop
 .subst hC;exact q _ U.keep
def rJ{I l}(T:Fn X.K X.mg x st' ps fA fd)(F:Ah X.prog X.w X.K X.mg X.base (CP X.prog X.w) k fA fd ps (FN m))(hr:Bq k X.A)(hP:Passes (CP X.prog X.w) X E)(ha:DA X.GF (e::es) fs) (hN:X.N.Nodup)(M:Loc X.env.scope y)(hi:X.N[i]? = some y:=by rfl)(hg:Gl X x:=by rfl) (Y:IN=false:=by decide)(he:starEach (e::es) X.env=Fj::starEach es X.env:=by rfl)(U:(backTo pos OR).any Fk=false:=by rfl) (hs:swapsWith Cl (some (.Name y I)) l.line X.env=pure false:=by rfl)(hf:X.fn y=true\/X.env.scope.names.lookup y=some .local:=by first|exact .inl rfl|exact .inr rfl|assumption):DX X E (.Assign [.Name y I] (.Call (.Name x p) (e::es) [] pos) l) (EY m fs fun z δ=>.nx (δ.set i (.d z))):=by
 obtain⟨ta,pa,ka⟩:=ha;refine⟨_,Az hN hi M (WX T F hr hg hP (WE pa) Y he U) hs hf,fun δ r h G0 H0 G H σ D R q=>?_⟩;obtain⟨z,h1,rfl⟩:=aC.mp h;refine Q9 (k:=k) ka h1 R (fun x M v G' H' Z=>?_) (fun C hC G' H' Z=>?_)
 .subst M;exact q _ _ _ Z.HR
 .subst hC;exact q _ Z.keep
end
end
def Rw.wk k o (r:Fb):Rw G0 H0 G H (σ.set k o) (δ.set k .no) ts:=by
 have ne:∀j l,l≠.no->(δ.set k .no)[j]? = some l->k≠j/\δ[j]? = some l:=fun j l hl h=>by
  by_cases U:k=j
  .subst U;by_cases hi:k<δ.length
   .rw[List.getElem?_set_self hi]at h;cases h;exact absurd rfl hl
   .rw[List.getElem?_eq_none (by simp;exact Nat.le_of_not_lt ‹_›)]at h;cases h
  .rw[List.getElem?_set_ne U]at h;exact⟨U,h⟩
 refine⟨r.ext,r.new,r.ins,r.keep,by simp[r.len],fun j y h=>?_,fun j zs h=>?_,fun j l us ws T Z Y=>?_,r.BE⟩
 .obtain⟨n,h⟩:=ne j _ BY h;obtain⟨w,M,I⟩:=r.dat j y h;exact⟨w,by rw[List.getElem?_set_ne n];exact M,I⟩
 .obtain⟨n,h⟩:=ne j _ BY h;obtain⟨b,us,M,I⟩:=r.own j zs h;exact⟨b,us,by rw[List.getElem?_set_ne n];exact M,I⟩
 .obtain⟨n1,Z⟩:=ne j _ BY Z;obtain⟨n2,Y⟩:=ne l _ BY Y;rw[List.getElem?_set_ne n1,List.getElem?_set_ne n2];exact r.apart j l us ws T Z Y
section
variable{X:Cx}{a b:Expr}{f:AAF}{pos:Pos}
def vH(T:AD->Option Bool):PD->Option PD
 |.dict [(.int C,.none)]=>(T C.toNat).map .bool
 |_=>none
abbrev TC(T:AD->Option Bool)(f:L0):Dv->Option PD:=fun δ=>(f δ).bind (vH T)
def Jq{p1 l}(hk:∀C b,T C=some b->DQ X.K C/\PySem.W.kitOne X.K Re (D9 cv)=some b)(hn:D9 cv≠.none)(hg:Gl X "isinstance")(hm:X.mg "isinstance" = none)(hT:PE X (.Name M l) (tC cv))(ha:DE X a f) (I:starEach [a,.Name M l] X.env=(false,eval a X.env)::starEach [.Name M l] X.env:=by rfl)(Y:(backTo pos (starEach [.Name M l] X.env)).any Fk=false:=by rfl):DE X (.Call (.Name "isinstance" p1) [a,.Name M l] [] pos) (TC T f):=by
 obtain⟨ta,pa,ka⟩:=ha;refine⟨_,EW fY hg hm PyProof.Rows.boot_isinstance (AV pa (AV hT Av) I) AC AC I Y,fun δ z hz G0 H0 G H σ ts Q R0 k=>?_⟩;obtain⟨x,h1,U⟩:=aA.mp hz;unfold vH at U;split at U
 .obtain⟨bb,h3,rfl⟩:=aC.mp U;refine ka δ _ h1 G0 H0 G H σ ts _ R0 fun u G1 H1 R1=>?_;rcases(R1.BE _ Ch) with ⟨ea,C',Z,rfl,h4⟩|⟨_,_,Z,_⟩|z
  rotate_left
  .simp at Z
  .cases z.1
  have:=by simpa using Z
  subst this;obtain⟨k1,k2⟩:=hk _ _ h3;exact⟨ea,C',cv,bb,rfl,hn,R1.ins _ _ h4,k1,k2,k _ _ _ (R1.drop.put (by rw[Du]))⟩
 .cases U
end
noncomputable def Dl(ps N:AAT)(J:EX)(ds:AAK):Option Xr:=if ds.length=ps.length then(match J (Gh N ds) with
 |some (.inl (.rt x))=>some (.inl x)
 |some (.inl (.nx _))=>some (.inl .none)
 |some (.inl (.rn xs))=>some (.inl (.list xs))
 |some (.inr C)=>some (.inr C)
 |_=>none) else none
section
variable{P:F0b}{w:F0c}{K:Fg}{mg:AAO}{base:Heap}{x:Str}{st:Stmt}{fA:AD}{fd:F0a}{N ps:AAT}{k:Nat}
def vv : Lets (B8 (CP P w) P w K mg base N qual scope fA T A outer s H E) E:=fun _ _ _ _ _ _ _ _ I l M=>qi I l M
def VC:Passes (CP P w) (B8 (CP P w) P w K mg base N qual scope fA l A outer s H E) E:=wu fun _ _ _ z=>z
def zX(T:Fn K mg x st ps fA fd)(S:BX N ps (AZ st)) (hb:∀cdv A outer s H E,Bq k (A.deeper (envOfC x (AZ st) s.heap.objs.size fA cdv))->N7 (B8 (CP P w) P w K mg base N x (AZ st) fA cdv A outer s H E) E (CO st) J):Ah P w K mg base (CP P w) (k+1) fA fd ps (FN (Dl ps N J)):=by
 refine T.F.okW S Of fun cdv A outer s H vs Q E hr h=>?_
 .obtain⟨ds,y,G,l,M,_⟩:=h;unfold Dl at l;split at l
  .rename_i hl;rw[M.len];exact hl
  .cases l
 .obtain⟨ds,y,G,l,M,Z,Y⟩:=h;obtain⟨t,p,U⟩:=hb cdv A outer s H E hr;refine⟨t,p,?_⟩;unfold Dl at l;split at l
  .split at l
   .rename_i z I;cases l;exact U _ _ I G H G H _ _ (Rw.start M Z) fun v G' H' m1 m2 m3 m4 m5=>Y v G' H' m1 m2 m3 m4 m5
   .rename_i δ I;cases l;exact U _ _ I G H G H _ _ (Rw.start M Z) fun σ' G' H' R=>Y .BV G' H' R.ext R.new R.ins R.keep IF
   .rename_i xs I;cases l;exact U _ _ I G H G H _ _ (Rw.start M Z) fun a ys G' H' m1 m2 m3 m4 m5 m6 m7 m8=>let⟨n1,n2,n3,n4⟩:=m9 m1 m2 m3 m5 m6 m7 m8;Y _ _ H' n1 n2 n3 m4 n4
   .rename_i C I;cases l;exact U _ _ I G H G H _ _ (Rw.start M Z) Y
   .cases l
  .cases l
def Ah.to0(F:Ah P w K mg base (CP P w) k fA fd ps sp)(h:∀vs H Q E,l vs H Q E->sp vs H Q fun _ _ _=>False):Ah P w K mg base Ag k fA fd ps l :=
 ⟨fun vs H Q E z=>F.len _ _ _ _ (h _ _ _ _ z),fun A outer s H args us vs Q E T U hb I M=>codeAny_mono (F.run A outer s H args us vs Q _ T U hb I (h _ _ _ _ M)) fun r s' z=>by
  cases r with
  |ok fl=>cases fl<;>exact z
  |error e=>obtain⟨_,_,_,_,_,_,_,z⟩:=z;simp_all⟩
def good(m:rW)(ds:AAK):AAP:=match m ds with
 |some (.inl x)=>some x
 |_=>none
def xC(F:Ah P w K mg base (CP P w) k fA fd ps (FN m)):Ah P w K mg base Ag k fA fd ps (A1 (good m)):=F.to0 fun vs H Q E z=>by
 obtain⟨ds,x,G,l,T,M,I⟩:=z;unfold good at l;split at l
 .rename_i y e;cases l;exact⟨ds,.inl x,G,e,T,M,I⟩
 .cases l
end
abbrev HK(fs:On):DF:=fun δ=>(fs δ).map .rn
abbrev Gb(i:Nat):DF:=fun δ=>(ow i δ).map .rn
section
variable{X:Cx}{a:Expr}{h:AAF}{pos:Pos}
def oP(Y:PE X Iv (IL i)):DS X (.Return (some Iv) pos) (Gb i):=by
 refine⟨_,Dj Y,fun δ r h G0 H0 G H σ D R q=>?_⟩;obtain⟨xs,Z,rfl⟩:=aC.mp h;obtain⟨a,_,U,T,M,I,⟨ys,rfl,l⟩⟩:=R.own i _ (OL Z);exact⟨.ref a,U,q a ys G H R.ext R.new R.ins R.keep M T I l⟩
end
section
variable{X:Cx}{tg elt iter:Expr}{pos:Pos}{ifs:AAU}{scope:Scope}{fs:AAD}{tif:AAG}{f:AAF}{fr:AAk}{set:PD->Dv->Option Dv}{cl:AAD}
 (hc:Qh set tif f fr fs (kD tg) cl)(ht:iD X scope (LG X tg fr) tg set)(hi:DI X tg iter fs)(hif:∀cl C s₀ H₀ fp,eO (BP X scope cl (LG X tg fr) C s₀ H₀ fp) ifs tif)(he:∀cl C s₀ H₀ fp,DE (BP X scope cl (LG X tg fr) C s₀ H₀ fp) elt f)
 (h2:PP)(h3:Iy (LG X tg fr) X.N scope X.env.scope fr 0=true)(h4:fr.length=(LG X tg fr).length)(h5:freeOk X.env.scope scope.names=true)(hs:∀x,foldedSetIterable iter X.env x=pure x)
include hc ht hi hif he h2 h3 h4 h5 hs
theorem pP:DS X (.Return (some (.ListComp elt [⟨tg,iter,ifs,0⟩] scope pos)) I) (HK cl):=by
 obtain⟨t,p,kt⟩:=Yb hc ht hi hif he h2 h3 h4 h5 hs;refine⟨_,Dj p,fun δ r h G0 H0 G H σ D R q=>?_⟩;obtain⟨M,Y,rfl⟩:=aC.mp h;exact kt δ M Y G0 H0 G H σ [] _ R fun D' ys G' H' l n1 U n3 Z T=>q _ _ _ _ l.ext l.new l.ins l.keep n3 U n1 T
end
def QE(ps N:AAT)(F:DF)(ds:AAK):AAB:=if ds.length=ps.length then(match F (Gh N ds) with
 |some (.rn xs)=>some xs
 |_=>none) else none
section
variable{P:F0b}{w:F0c}{K:Fg}{mg:AAO}{base:Heap}{x:Str}{st:Stmt}{fA:AD}{fd:F0a}{N ps:AAT}{k:Nat}
def okN(T:Fn K mg x st ps fA fd)(S:BX N ps (AZ st)) (hb:∀cdv A outer s H E,Bq k (A.deeper (envOfC x (AZ st) s.heap.objs.size fA cdv))->Ku (B8 Ag P w K mg base N x (AZ st) fA cdv A outer s H E).GF (CO st) F):Ah P w K mg base Ag (k+1) fA fd ps (mw (QE ps N F)):=by
 refine T.F.ok S Of fun cdv A outer s H vs Q E U h=>?_
 .obtain⟨ds,y,G,l,I,_⟩:=h;unfold QE at l;split at l
  .rename_i Y;rw[I.len];exact Y
  contradiction
 .obtain⟨ds,y,G,l,I,h3,Z⟩:=h;obtain⟨t,p,M⟩:=hb cdv A outer s H E U;refine⟨t,p,?_⟩;unfold QE at l;split at l
  .split at l
   .rename_i z e1;cases l;exact M _ _ e1 G H G H _ _ (Rw.start I h3) Z
   lia
  lia
def oH(l:ds.length=ps.length)(h:F (Gh N ds)=some (.rn xs)):QE ps N F ds=some xs:=by unfold QE;simp_all
def EG(l:ds.length=ps.length)(h:F (Gh N ds)=some (.rn xs)):A0 ps N F ds=some (.list xs):=by unfold A0;simp_all
def qC(l:ds.length=ps.length)(h:J (Gh N ds)=some (.inl (.rt y))):Dl ps N J ds=some (.inl y):=by unfold Dl;simp_all
def Yr(l:ds.length=ps.length)(h:J (Gh N ds)=some (.inl (.nx δ))):Dl ps N J ds=some (.inl .none):=by unfold Dl;simp_all
def oy(l:ds.length=ps.length)(h:J (Gh N ds)=some (.inl (.rn xs))):Dl ps N J ds=some (.inl (.list xs)):=by unfold Dl;simp_all
def G5(l:ds.length=ps.length)(h:J (Gh N ds)=some (.inr C)):Dl ps N J ds=some (.inr C):=by unfold Dl;simp_all
end
section
variable{J1 J2:EX}{δ δ':Dv}{r:Option Yk}{c:AAG}{fs:AAD}{m:rW}{ds xs:AAK}{f:AAF}{fr:AAk}{g:PD->PD}
def II(h:J1 δ=some (.inl (.nx δ')))(k:J2 δ'=r):B0 J1 J2 δ=r:=by unfold B0;rw[h];exact k
def Ld(h:J1 δ=some (.inr C)):B0 J1 J2 δ=some (.inr C):=by unfold B0;rw[h]
def cQ(h:c δ=some true)(k:J1 δ=r):Qb c J1 J2 δ=r:=by show(c δ).bind _=r;rw[h];exact k
def nv(h:c δ=some false)(k:J2 δ=r):Qb c J1 J2 δ=r:=by show(c δ).bind _=r;rw[h];exact k
def Dz(h:fs δ=some ds)(k:m ds=some (.inl y)):EY m fs nx δ=some (.inl (nx y δ)):=by show((fs δ).bind m).map _=_;rw[h];show(m ds).map _=_;rw[k];rfl
def Gn(h:fs δ=some ds)(k:m ds=some (.inr C)):EY m fs nx δ=some (.inr C):=by show((fs δ).bind m).map _=_;rw[h];show(m ds).map _=_;rw[k];rfl
def gV(l:fs δ=some xs)(I:xs.length<=A9)(h:∀x∈xs,f ((BK fr δ).set ix (.d x))=some (g x)):Bk (CL ix) BW f fr fs δ=some (xs.map g):=by
 have:=comp_map l I h
 simp_all
end
def only(cs:AAh)(m:rW)(ds:AAK):Option Xr:=match m ds with
 |some (.inr C)=>if C∈cs then some (.inr C) else none
 |r=>r
def ZR(h:only cs m ds=some (.inr C)):C∈cs:=by
 unfold only at h;split at h
 .grind
 simp_all
def Lc(h:m ds=some (.inr C))(l:C∈cs):only cs m ds=some (.inr C):=by unfold only;simp_all
def Zj(h:m ds=some (.inl x)):only cs m ds=some (.inl x):=by unfold only;rw[h]
def XT{K} cs (F:Ah P w K mg base CX k f fd ps (FN m)):Ah P w K mg base CX k f fd ps (FN (only cs m)) :=
 F.imp fun vs H Q E z=>by
  obtain⟨ds,r,G,l,I⟩:=z;refine⟨ds,r,G,?_,I⟩;unfold only at l;split at l
  .simp_all
  .exact l
section
variable{xs:AAK}
def add_l(h:a.length+b.length<=A9):Ap (.list a) (.list b)=some (.list (a++b)):=by
 show(match Vu _ _ with|some z=>some z|none=>_)=_;rw[(show Vu (.list a) (.list b)=some _ from if_pos h)]
def vB xs (p:Nat):cutD xs none (some p)=xs.take p:=by
 unfold cutD;rw[HT.MX,HT.JZ];simp
def Wd xs (p:Nat):cutD xs (some p) none=xs.drop p:=by
 unfold cutD;rw[HT.MX,HT.JZ];by_cases h:p<=xs.length
 .rw[Nat.min_eq_left h,List.take_of_length_le BY]
 .rw[Nat.min_eq_right AS,Nat.sub_self,List.take_zero,List.drop_of_length_le AS]
end
section
variable{F F1 F2:DF}{δ δ':Dv}{fs:AAD}{xs:AAK}{set:PD->Dv->Option Dv}{r:Option Ou}
def JT{Q:Dv->Prop}(h:F1 δ=some (.nx δ'))(k:∃l,F2 δ'=some (.nx l)/\Q l):∃l,AL F1 F2 δ=some (.nx l)/\Q l:=let⟨l,a,b⟩:=k;⟨l,AN h a,b⟩
def RD(M:Nat->Dv->Prop)(T:fs δ=some xs)(h0:M 0 δ)(U:∀i x δ,xs[i]? = some x->M i δ->∃I,set x δ=some I/\∃l,F I=some (.nx l)/\M OK l):∃δ',BL fs set F δ=some (.nx δ')/\M xs.length δ':=jn M T h0 fun i x δ a b=>by simp_all
def IG(M:Nat->Dv->Prop)(T:fs δ=some xs)(h0:M 0 δ)(U:∀i x δ,xs[i]? = some x->M i δ->∃I,set x δ=some I/\∃l,F I=some (.nx l)/\M OK l) (k:∀δ',M xs.length δ'->F2 δ'=r):AL (BL fs set F) F2 δ=r:=let⟨δ',Z,Y⟩:=RD M T h0 U;AN Z (k δ' Y)
def F8{Q:Dv->Prop}(M:Nat->Dv->Prop)(T:fs δ=some xs)(h0:M 0 δ)(U:∀i x δ,xs[i]? = some x->M i δ->∃I,set x δ=some I/\∃l,F I=some (.nx l)/\M OK l)(Y:∀δ,M xs.length δ->Q δ):∃δ',BL fs set F δ=some (.nx δ')/\Q δ':=let⟨δ',a,b⟩:=RD M T h0 U;⟨δ',a,Y _ b⟩
def ou(h:f δ=some x)(k:JS x=some xs):A6 f δ=some xs:=by grind
end
abbrev Yc:=List PD ⊕ AD
structure ny(X:Cx)(E:XK)(e:Expr)(f:Dv->Option Xr):Prop where
 ex:∃t,PE X e t/\∀δ r,f δ=some r->∀G0 H0 G H σ ts (Q:VK),Rw G0 H0 G H σ δ ts->(∀x,r=.inl x->∀v G' H',Rw G0 H0 G' H' σ δ ((x,v)::ts)->Q v H')->(∀C,r=.inr C->∀H',AI H0 H'->E Re none H')->t σ H Q
structure fw(X:Cx)(E:XK)(es:List Expr)(f:Dv->Option Yc):Prop where
 ex:∃t,PA X es t/\∀δ r,f δ=some r->∀G0 H0 G H σ ts (Q:List V->Hp->Prop),Rw G0 H0 G H σ δ ts->(∀xs,r=.inl xs->∀vs G' H',Rw G0 H0 G' H' σ δ (xs.zip vs++ts)->vs.length=xs.length->Q vs H')->(∀C,r=.inr C->∀H',AI H0 H'->E Re none H')->t σ H Q
section
variable{X:Cx}{E:XK}{e:Expr}{es:AAU}{f:AAF}{fx:Dv->Option Xr}{gx:Dv->Option Yc}{fs:AAD}{pos p:Pos}
abbrev vV(f:On):Dv->Option Yc:=fun δ=>(f δ).map .inl
def rZ(h:DA X.GF es fs):fw X E es (vV fs):=by
 obtain⟨t,p,k⟩:=h;refine⟨t,WE p,fun δ r h G0 H0 G H σ ts Q R l M=>?_⟩;obtain⟨o,I,rfl⟩:=aC.mp h;exact k δ o I G0 H0 G H σ ts Q R (l o rfl)
def cF(fx:Dv->Option Xr)(gx:Dv->Option Yc)(δ:Dv):Option Yc:=match fx δ with
 |some (.inl x)=>(match gx δ with
  |some (.inl xs)=>some (.inl (x::xs))
  |some (.inr C)=>some (.inr C)
  |none=>none)
 |some (.inr C)=>some (.inr C)
 |none=>none
def kO(ha:ny X E e fx)(hr:fw X E es gx)(hs:starEach (e::es) X.env=Fj::starEach es X.env:=by rfl):fw X E (e::es) (cF fx gx):=by
 obtain⟨ta,pa,U⟩:=ha;obtain⟨tr,pr,kr⟩:=hr;refine⟨_,AV pa pr hs,fun δ r l G0 H0 G H σ ts Q R Z T=>?_⟩;unfold cF at l;cases hf:fx δ with
 |none=>rw[hf]at l;cases l
 |some u=>
  rw[hf]at l;cases u with
  |inr C=>
   cases l;exact U δ _ hf G0 H0 G H σ ts _ R (fun x Y=>by cases Y) fun C' I=>by cases I;exact T C rfl
  |inl x=>
   refine U δ _ hf G0 H0 G H σ ts _ R (fun x' Y v G1 H1 R1=>?_) (fun C I=>by cases I);cases hg:gx δ with
   |none=>rw[hg]at l;cases l
   |some w=>
    rw[hg]at l;refine kr δ _ hg G0 H0 G1 H1 σ _ _ R1 (fun xs M vs G2 H2 R2 hl=>?_) (fun C I H' h'=>?_)
    .subst M;cases l;refine Z _ rfl _ G2 H2 (R2.less fun q hq=>?_) (by simp[hl]);simp at hq ⊢
     lia
    .subst I;cases l;exact T C rfl H' h'
def cE(gx:Dv->Option Yc)(m:rW)(δ:Dv):Option Xr:=match gx δ with
 |some (.inl xs)=>m xs
 |some (.inr C)=>some (.inr C)
 |none=>none
def ig(T:Fn X.K X.mg x st' ps fA fd)(F:Ah X.prog X.w X.K X.mg X.base (CP X.prog X.w) k fA fd ps (FN m))(hr:Bq k X.A)(hP:Passes (CP X.prog X.w) X E)(ha:fw X E (e::es) gx) (hg:Gl X x:=by rfl)(U:IN=false:=by decide)(he:starEach (e::es) X.env=Fj::starEach es X.env:=by rfl)(M:(backTo pos OR).any Fk=false:=by rfl):ny X E Cl (cE gx m):=by
 obtain⟨ta,pa,ka⟩:=ha;refine⟨_,WX T F hr hg hP pa U he M,fun δ r l G0 H0 G H σ ts Q R Z Y=>?_⟩;unfold cE at l;cases hg:gx δ with
 |none=>rw[hg]at l;cases l
 |some w=>
  rw[hg]at l;refine ka δ _ hg G0 H0 G H σ ts _ R (fun xs I vs G1 H1 R1 hv=>?_) (fun C hC H' h'=>?_)
  .subst I;obtain⟨d,R2⟩:=R1.args hv;refine⟨xs,r,G1,l,by grind,R2.ins,?_⟩;cases r with
   |inl y=>exact fun v G' H' h3 h4 h5 h6 h7=>Z y rfl _ _ _ ((R2.lift h3 h4 h5 h6).put h7)
   |inr C=>exact fun H' h=>Y C rfl H' (R2.keep.trans h)
  simp_all
abbrev xE(fx:Dv->Option Xr)(nx:PD->Dv->Ou):EX:=fun δ=>(fx δ).map fun r=>match r with
 |.inl x=>.inl (nx x δ)
 |.inr C=>.inr C
def oS{l}(T:ny X E e fx)(U:X.N.Nodup)(I:Loc X.env.scope y)(hi:X.N[i]? = some y:=by rfl)(M:swapsWith e (some (.Name y l)) pos.line X.env=pure false:=by rfl)(hf:X.fn y=true\/X.env.scope.names.lookup y=some .local:=by first|exact .inl rfl|exact .inr rfl|assumption):DX X E (.Assign [.Name y l] e pos) (xE fx fun x δ=>.nx (δ.set i (.d x))):=by
 obtain⟨t,p,k⟩:=T;refine⟨_,Az U hi I p M hf,fun δ r h G0 H0 G H σ D R q=>?_⟩;obtain⟨z,Z,rfl⟩:=aC.mp h;refine k δ z Z G0 H0 G H σ [] _ R (fun x I v G' H' R'=>?_) (fun C Y H' h'=>?_)
 .subst I;exact q _ _ _ R'.HR
 .subst Y;exact q _ h'
end
def Je(set:PD->Dv->Option Dv)(J:EX):List PD->Dv->Option Yk
 |[],δ=>some (.inl (.nx δ))
 |x::xs,δ=>match (set x δ).bind J with
  |some (.inl (.nx δ'))=>Je set J xs δ'
  |some (.inl (.ct δ'))=>Je set J xs δ'
  |some (.inl (.bk δ'))=>some (.inl (.nx δ'))
  |some (.inl (.rt v))=>some (.inl (.rt v))
  |some (.inl (.rn v))=>some (.inl (.rn v))
  |some (.inr C)=>some (.inr C)
  |none=>none
abbrev cP(fs:On)(set:PD->Dv->Option Dv)(J:EX):EX:=fun δ=>(fs δ).bind fun xs=>Je set J xs δ
def uj{X}{E}{tg e}{sts}{pos}{J}{set}(hp:PassesOwn B1 X.A X.env X.xe)(hc:PP)(hi:DI X tg e fs)(hg:DG X tg set)(hb:N7 X E sts J)(hs:∀x,foldedSetIterable e X.env x=pure x:=by intro _;rfl):DX X E (.For tg e sts [] pos) (cP fs set J):=by
 obtain⟨wi,pi,ki⟩:=hi;obtain⟨g,pg,kg⟩:=hg;obtain⟨tb,pb,kb⟩:=hb;refine⟨_,KN hp hc pi pg pb hs,fun δ r h G0 H0 G H σ D R q=>?_⟩;obtain⟨xs,h1,h2⟩:=aA.mp h;refine ki δ xs h1 G0 H0 G H σ [] _ R fun J' Ga Ha Ra it=>⟨fun i m σ' H'=>m=xs.length-i/\i<=xs.length/\∃δ' G',Je set J (xs.drop i) δ'=some r/\Rw G0 H0 G' H' σ' δ' []/\AI Ga G',⟨xs.length,by simp,Nat.zero_le _,δ,Ga,by simpa using h2,Ra,AI.refl _⟩,?_⟩;rintro i m σ1 H1 ⟨rfl,hi,δ1,G1,f1,R1,s1⟩;have sH:=s1.trans R1.ins;by_cases I:i<xs.length
 .right
  have hx:xs[i]? = some xs[i]:=by simp[I]
  refine⟨it.go i _ H1 hx sH,fun σ' H'=>i+1<=xs.length/\∃δ' G',Je set J (xs.drop OK) δ'=some r/\Rw G0 H0 G' H' σ' δ' []/\AI Ga G',fun σ' H' n=>⟨xs.length-OK,by lia,rfl,n⟩,fun x H' y=>?_⟩;obtain⟨G2,e1,e2,e3,e4,e5⟩:=it.E7 i _ H1 x H' hx sH y G1 s1 R1.ins;have R2:=(R1.lift e1 e2 e3 e4).put e5;have s2:=s1.trans e1;rw[List.drop_eq_getElem_cons I]at f1;unfold Je at f1;cases U:(set xs[i] δ1).bind J with
  |none=>rw[U]at f1;cases f1
  |some o=>
   obtain⟨δ2,k1,k2⟩:=aA.mp U;rw[U]at f1;refine kg δ1 _ δ2 k1 G2 H0 G2 H' σ1 x _ R2.base fun σ3 G3 H3 R3=>kb δ2 o k2 G2 H0 G3 H3 σ3 _ R3 ?_;cases o with
   |inr C=>cases f1;exact q
   |inl o=>
    cases o with
    |nx l=>exact fun T M Z Y=>⟨I,l,M,f1,R2.drop.LN Y,s2.trans Y.ext⟩
    |ct l=>exact fun T M Z Y=>⟨I,l,M,f1,R2.drop.LN Y,s2.trans Y.ext⟩
    |bk l=>cases f1;exact fun T M Z Y=>q T M Z (R2.drop.LN Y)
    |rt v=>cases f1;exact fun w M Z h1 h2 h3 h4 h5=>q w M Z (R2.ext.trans h1) (R2.new.trans h2) h3 h4 h5
    |rn v=>cases f1;exact fun w ys M Z h1 h2=>q w ys M Z (R2.ext.trans h1) (R2.new.trans h2)
 .left
  have e:i=xs.length:=by lia
  subst e;refine⟨it.stop H1 sH,?_⟩;rw[List.drop_length]at f1;cases f1;exact q _ _ _ R1
end L2
namespace L2
open PySem PySem.Spec PyProof.Rows
inductive Vh(X:Cx)(C ea:Addr)(k:Nat):List ExceptHandler->TS->Prop
 |hit {x n:Str} {G:Addr} {np hpos:Pos} {b0:Stmt} {suite:List Stmt} {rest:List ExceptHandler} {t:TS} (hg:Gl X x) (hm:X.mg x=some (.ref G)) (hd:(x==("__debug__" : Str))=false) (hB:HE X.K C G true) (hk:X.N[k]? = some n) (hln:X.env.scope.names.lookup n=some .local) (hb:Ht (X.held ea) (b0::suite) t) :
   Vh X C ea k (.ExceptHandler (some Iv) (some n) (b0::suite) hpos::rest) t
 |miss {x n:Str} {G:Addr} {np hpos:Pos} {b0:Stmt} {suite:List Stmt} {rest:List ExceptHandler} {t:TS} (hg:Gl X x) (hm:X.mg x=some (.ref G)) (hd:(x==("__debug__" : Str))=false) (hB:HE X.K C G false) (r:Vh X C ea k rest t) :
   Vh X C ea k (.ExceptHandler (some Iv) (some n) (b0::suite) hpos::rest) t
def cD(D:Ends)(k:Nat):Ends:={ nx:=fun σ' l=>D.nx (σ'.set k none) l,rt:=fun _ _=>False}
section
variable{X:Cx}{pins:LE}{σ:St}{D:Ends}
def ko{s0 s1}{ea C}{a0}{B}{k}{h5}(hN:X.N.Nodup)(hcalm:PP)(I:Inv X pins σ H0 s0)(F:cH X.prog X.w X.stack H0 s0 ea Re a0 H' s1 B){l}(hrest:X.stack=X.env::l)(hfr:X.env.frame=some X.env.locals) (fl5:Heap.FlyingW B (X.env::l) ea Re a0 h5)(U:s1.heap.UpToSlots h5)(I5:Inv X pins σ H' {s1 with heap:=h5,toks:=s1.toks}):∀ {hs} {t},Vh X C ea k hs t->(H' ea=none->t (cD D k) (σ.set k (some (.ref ea))) (upd H' ea (Sd ea Re)))->wpAny B1 X.A (handleBy (.ref ea) X.env hs) (SP X pins D) X.xe {s1 with heap:=h5,toks:=s1.toks}:=by
 obtain⟨ob,Y,M⟩:=fl5.there;intro hs t Ac q
 induction Ac with
 |miss hg hm hd hB r ih=>
  exact wpAny_handleBy_cons (codeAny_handlers_test (Hx (I5.held ea) hg hm (Wr I5.Fq Y M hB (ih q)) hd)) (by intro q;cases q)
 | @hit x n G np hpos b0 suite rest t hg hm hd hB hk hln hb=>
  refine wpAny_handleBy_cons (codeAny_handlers_test (Hx (I5.held ea) hg hm (Wr (K:=X.K) I5.Fq Y M hB (codeAny_handlers_suite_as (lands_againW fl5 fun h6 Z up6=>?_))) hd)) (by intro q;cases q);obtain⟨oe,ws,e1,e2,e3,_⟩:=Z.first
  obtain⟨T,I7⟩:=xV I F (land I F Z.1 (U.trans up6)) ⟨oe,ws,e1,e2,e3⟩;refine J0 (X:=X.held ea) (I7.held ea) hN hk (.inl hln) (v:=.ref ea) rfl (fun s8 I8=>aV (hb pins s8 _ _ (cD D k) I8 (q T)) (fun fl s9 h9=>?_) fun _ _ z=>z.elim) (.inr hln);cases fl with
  |next=>
   obtain⟨σ9,H9,I9,e9⟩:=h9;exact y8 (I9.si I.ok) hN hk hln fun s' I'=>⟨_,_,I',e9⟩
  |brk=>obtain⟨_,_,_,z⟩:=h9;exact z.elim
  |cont=>obtain⟨_,_,_,z⟩:=h9;exact z.elim
  |ret v=>obtain⟨_,_,_,_,_,z⟩:=h9;exact z.elim
end
def yk(k:Nat):Ou->Option Ou
 |.nx δ=>some (.nx (δ.set k .no))
 |_=>none
end L2
namespace L2
open PySem PySem.Spec PyProof.Rows
def iY(ns:AAS):(ns.map V.int).all JR=true:=by
 rw[List.all_eq_true];intro x l;obtain⟨i,_,rfl⟩:=aI.mp l
 rfl
theorem XA i:∀ns:List Int,nM (.int i) (ns.map V.int)=ns.contains i
 |[]=>rfl
 |n::ns=>by
  have l:=XA i ns;unfold nM at l ⊢;rw[(BM),List.any_cons]
  congr 1
  show(n==i)=_
  lia
end L2
namespace L2
open PySem PySem.Spec PyProof.Rows
def GT(H:Hp)(v:VL)(x:Tr):Prop:=∃a ys,v=.ref a/\H a=some (.tup ys)/\Ts H x ys
def tj(S:AD)(ev:Array (Int×VL))(ep:Nat)(t:SetTable):HO:=.ext fun h=>∃o,h.get? S=some o/\o.ExactSet/\o.data=.set ev ep t
abbrev vD(H:Hp)(p:Int×VL)(q:Int×Tr):Prop:=p.1=q.1/\q.2.deep<8/\GT H p.2 q.2
def kL(H:Hp)(S:AD)(st:TH.ES×SetTable):Prop:=∃ev ep,H S=some (tj S ev ep st.2)/\PySem.Paired (vD H) ev.toList st.1.toList
def GT.same(h:GT H v x)(e:AI H H'):GT H' v x:=let⟨a,ys,M,I,l⟩:=h;⟨a,ys,M,e _ _ I,l.same e⟩
structure nS(w:World)(st:TH.ES×SetTable):Prop where
 fit:st.2.fits st.1.size=true
 plain:st.2.plain=true
 led:st.2.led=!w.params.followText "set-order"
 walk:TH.Qj st.2 st.1.size=true
 small:st.1.size<64
section
variable{X:Cx}{pins:LE}{σ:St}{H:Hp}{s:SD}
def gC(I:BH)(g:GT H v x):∃a l,v=.ref a/\s.heap.IsTuple a l.toArray/\TH.Vs s.heap x l:=by
 obtain⟨a,ys,rfl,T,M⟩:=g;obtain⟨l,r,p,_⟩:=I.tuple (A5.of T);exact⟨a,l,rfl,p,M.vs I r⟩
theorem Xp(I:BH):∀ {t} {ys} {us},Ts H t ys->Vals ys us->t.deep<=8->TH.Jb (GT H) s.heap us t.bs
 |.nil,ys,us,h,r,_=>by
  subst h;cases r;exact .nil
 |.cons b q,ys,us,h,r,hd=>by
  obtain⟨a,l,rest,rfl,Z,Y,U⟩:=h;rw[Tr.deep]at hd;cases r with
  |cons T M=>
   cases T;have g:GT H _ b:=⟨a,l,rfl,Z,Y⟩;exact .cons ⟨by lia,g,gC I g⟩ (Xp I U M AS)
def jx(I:BH)(h:PySem.Paired (vD H) l m):PySem.Paired (TH.Vo (GT H) s.heap) l m :=
 TH.Paired.imp (fun _ _ ⟨a,b,c⟩=>⟨a,b,c,gC I c⟩) h
theorem rg:∀ {us} {ts},PySem.Paired (GT H) us ts->∃zs,Vals zs us/\Ts H (Tr.of ts) zs
 |_,_,.nil=>⟨[],.nil,by rfl⟩
 |_,_,.cons ⟨a,ys,e,T,M⟩ r=>by
  obtain⟨zs,I,l⟩:=rg r;subst e;exact⟨.ref a::zs,.cons rfl I,⟨a,ys,zs,rfl,T,M,l⟩⟩
def vf(w:F0c)(K:Fg):List V->Hp->VK->Prop:=fun xs H Q=>∃p ys t st,xs=[.ref p]/\Am K H p ys/\Ts H t ys/\t.deep<=8/\TH.NI (TH.LW (!w.params.followText "set-order")) t.bs=some st /\
 ∀S H',AI H H'->kL H' S st->Q (.ref S) H'
def eE(hc:PP)(hu:IS):C2 X (.type "set") (vf X.w X.K):=by
 rintro pins s σ H xs us Q I r ⟨p,ys,t,st,rfl,hq,ht,hd,l,q⟩;obtain⟨u,rfl,U⟩:=r.one;cases U;obtain⟨its,T,Y,hz⟩:=I.list hq;refine TH.YK (I.ok.hd hc) Y.isList (Xp I ht T hd) AS l fun h2 tk S2 Z=>?_;obtain⟨o,ev,ep,M,g2,g3,g4⟩:=S2;have es:=Aj (I.Ac.fresh (aG s.heap.objs.size)) (tj s.heap.objs.size ev ep st.2);refine⟨.ref s.heap.objs.size,upd H s.heap.objs.size _,I.laid Z LK ?_,rfl,q _ _ es ⟨ev,ep,AR,TH.Paired.imp (fun _ _ ⟨a,b,c,_⟩=>⟨a,b,c.same es⟩) g4⟩⟩;exact⟨⟨o,M,g2,g3⟩,⟨o,M⟩,fun h1 h2 _ k=>by grind⟩
def p6(I:BH){st}(h:kL H S st)(ok:nS X.w st):∃o ev ep,s.heap.get? S=some o/\TH.E5 X.w o ev ep st.2/\TH.DN (GT H) s.heap ev st.1:=by
 obtain⟨ev,ep,T,M⟩:=h;obtain⟨⟨o,Z,Y,U⟩,_,_⟩:=(I.Ac S _ T);have R:=jx I M;have l:=TH.DN.size R;exact⟨o,ev,ep,Z,⟨Y,U,by rw[l];exact ok.fit,ok.plain,ok.led,by rw[l];exact ok.walk⟩,R⟩
def vc(w:F0c):List V->Hp->VK->Prop:=fun xs H Q=>∃S st,xs=[.ref S]/\kL H S st/\nS w st/\∀l I,H l=none->I.length<64->Ts H (Tr.of (Tr.GV (TH.Rl st)).reverse) I->Q (.ref l) (upd H l (.lst I))
def bw(hc:PP)(hu:IS):C2 X (.builtin "sorted") (vc X.w):=by
 rintro pins s σ H xs us Q I r ⟨S,st,rfl,hS,ok,q⟩;obtain⟨u,rfl,l⟩:=r.one;cases l;obtain⟨o,ev,ep,g1,W,R⟩:=p6 I hS ok;refine TH.dH (I.ok.hd hc) W g1 R ok.small AS fun h' D tk e1 us U Z gD hp hl=>?_;obtain⟨M,l,Y⟩:=rg hp;have T:M.length<64:=by rw[l.length];exact hl
 refine⟨.ref D,upd H D (.lst M),I.laid Z U ⟨aa (aE T AC),us,e1,l,gD⟩,rfl,q D M (I.Ac.fresh U) T Y⟩
end
open PySem PyProof.Rows
section
variable{prog:F0b}{w:F0c}{A:F0d}{E:AAN}{s:SD}
def qN{k}{t}{Q} xs f
    (hf:∀i y st,xs.toArray[i]? = some y->f i st=(do
      let b <-eqBool y (.int k t)
      if b=true then do
          let r <-retInt ↑i
          pure (ForInStep.done (some r,()))
        else pure (ForInStep.yield (none,())))):∀ {vs} {ns},IntsAre vs ns->∀pre,pre++vs=xs->k∈ns ->
    (∀t' s',s'={s with toks:=s'.toks}->s.toks<=s'.toks->Q (some (.done (.ret (.int ((pre.length+ns.idxOf k:Nat)) t'))),()) s') ->
    wpAny As A (forIn (List.range' pre.length vs.length) (none,()) f) Q E s:=by
  intro vs ns hi
  induction hi with
  |nil=>intro _ _ hk;cases hk
  | @cons n u vs ns r ih=>
    intro pre hx hk h
    rw[(FU),List.range'_succ,List.forIn_cons]
    refine Wb ?_
    rw[hf pre.length (.int n u) _ (by rw[<-hx];simp)]
    refine Wb (wpAny_eqBool_int ?_)
    by_cases z:n=k
    . subst z
      rw[if_pos BY]
      refine Wb (Wb (wpAny_mkInt (aB (aB (aB ?_)))))
      have:=h s.toks {s with toks:=s.toks+1} rfl (Nat.le_succ _)
      rw[List.idxOf_cons_self]at this
      exact this
    . rw[if_neg (by simpa using z)]
      refine aB ?_
      have:=ih (pre++[.int n u]) (by rw[<-hx,List.append_assoc];rfl) ((aO.mp hk).resolve_left fun e=>z e.symm) (fun t' s' e1 e2=>by
        have:=h t' s' e1 e2
        rw[List.idxOf_cons,show(n==k)=false by simpa using z]at this
        rw[(Ca),List.length_singleton,Nat.add_assoc,Nat.add_comm 1]
        exact this)
      rw[(Ca)]at this
      exact this
def QC(I:IsTup s.heap l vs.toArray)(hi:IntsAre vs ns) (hk:k∈ns)(h:∀t' s',s'={s with toks:=s'.toks}->s.toks<=s'.toks->Q (.int (ns.idxOf k) t') s'):wpAny As A (call (.builtin "tuple.index") [.ref l,.int k t]) Q E s:=by
 refine aU F.slot_tuple_index I.typeIs F.entry_tuple_index (Wb (aB (Wb (tupleItemsOf_ I (Wb (aB (Wb (aB (Wb ?_))))))))) (F.args_tuple_index_2 _ _);rw[Nat.min_self,Std.Legacy.Range.forIn_eq_forIn_range',(show Std.Legacy.Range.size [0:vs.toArray.size]=vs.length by simp)];refine qN (t:=t) vs _ (fun i y st e=>by simp only[e]) hi [] rfl hk (fun t' s' T M=>aB ⟨_,rfl,?_⟩);rw[List.length_nil,Nat.zero_add];exact(h t' s' T M)
end
end L2
namespace L2
open PySem PySem.Spec PyProof.Rows
def pC(K:Fg):V->List V->Hp->VK->Prop:=fun x xs H Q=>∃(p:AD) (ns:List Int) (k:Int),x=.ref p/\xs=[.int k]/\A5 K H p (List.map V.int ns)/\k∈ns/\Q (.int (ns.idxOf k)) H
structure Own(K:Fg)(a:Addr)(ns:List Int):Prop where
 sq:∀H,A5 K H a (ns.map V.int)
 ty:∃o,K.lookup a=some o/\o.cls=.type "tuple" /\ o.dict=none
section
variable{X:Cx}{a e:Expr}{f:AAF}{pos p:Pos}
def eU:x4 X "tuple.index" (pC X.K):=by
 rintro pins s σ H x xs v us Q I M T ⟨q,ns,k,rfl,rfl,hq,hk,h⟩;cases M;obtain⟨u,rfl,t,rfl⟩:=vals1 T;obtain⟨Z,U,Y,hz⟩:=I.tuple hq;refine QC Y (intsAre_of U) hk fun l s' e1 e2=>?_;rw[e1];exact⟨.int _,H,I.tok _,⟨l,rfl⟩,h⟩
def uT(neg:Bool)(ns:AAS)(x:PD):AAP:=match x with
 |.int i=>some (.bool (if neg then !(ns.contains i) else ns.contains i))
 |_=>none
def vS(ns:AAS)(x:PD):AAP:=match x with
 |.int i=>if i∈ns then some (.int (ns.idxOf i)) else none
 |_=>none
def eW(Y:Cj X (compareOp op) (xt X.K neg))(ha:DE X a f)(hg:Gl X x)(hm:X.mg x=some (.ref c))(hn:Own X.K c ns)(hk:behindInMarks op (.Name x p)=false:=by rfl)(hd:IN=false:=by decide):DT X (.Compare a [op] [.Name x p] pos) (fun δ=>((f δ).bind (uT neg ns)).bind Lm):=by
 obtain⟨ta,M,T⟩:=ha;refine⟨_,Dc Y M (Gu (v:=.ref c) hg hm rfl hd) hk,fun δ z U G0 H0 G H σ ts Q R0 k=>?_⟩;obtain⟨q,h0,Z⟩:=aA.mp U;have:=M9 Z;subst this;obtain⟨y,h1,l⟩:=aA.mp h0;refine T δ y h1 G0 H0 G H σ ts _ R0 fun u G1 H1 I=>?_;unfold uT at l;split at l
 .cases l;have du:=I.BE (_,u) Ch;subst du;refine⟨c,_,rfl,.inr (hn.sq _),rfl,iY ns,?_⟩;rw[XA];exact⟨_,rfl,k _ _ I.drop⟩
 contradiction
def fI{Y ap}(ha:DE X e f)(hg:Gl X x)(hm:X.mg x=some (.ref c))(hn:Own X.K c ns)(hd:IN=false:=by decide) (M:attributeBase (.Name x p) "index" X.env (eval (.Name x p) X.env)=eval (.Name x p) X.env:=by rfl) (T:((backTo Y (starEach [e] X.env)).all (fun x=>!x.1)&&(backToKw Y (keywordEach [] X.env)).all (fun x=>x.1.isSome) && decide (([e]).length+([]:List Keyword).length+(if([]:List Keyword).isEmpty then 0 else 1)<30))=true:=by rfl) (I:(ap.endLine==Y.line)=true:=by rfl)(Z:starEach [e] X.env=Fj::starEach [] X.env:=by rfl)(l:(backTo Y (starEach [] X.env)).any Fk=false:=by rfl):DE X (.Call (.Attribute (.Name x p) "index" ap) [e] [] Y) (fun δ=>(f δ).bind (vS ns)):=by
 obtain⟨ta,pa,ka⟩:=ha;refine⟨_,Qu PySem.F.plainAttrs_tuple PySem.F.slot_tuple_index PySem.F.type_tuple_index eU (Gu (v:=.ref c) hg hm rfl hd) (AV pa Av Z) M T I Z l,fun δ z hz G0 H0 G H σ ts Q R0 k=>?_⟩;obtain⟨y,h1,U⟩:=aA.mp hz;refine⟨.inr (.inl ⟨rfl,hn.ty⟩),ka δ y h1 G0 H0 G H σ ts _ R0 fun u G1 H1 R1=>?_⟩;unfold vS at U;split at U
 .split at U
  .rename_i hi;cases U;have du:=R1.BE (_,u) Ch;subst du;exact⟨c,ns,_,rfl,rfl,hn.sq _,hi,k _ _ _ (R1.drop.put (by rw[Du]))⟩
  .cases U
 contradiction
end
def Qr(led:Bool)(l z:AAg):Bool:=match TH.NI (TH.LW led) l with
 |some st=>decide ((Tr.GV (TH.Rl st)).reverse=z)&&st.2.fits st.1.size&&st.2.plain&&decide (st.2.led=led)&&TH.Qj st.2 st.1.size&&decide (st.1.size<64)
 |none=>false
def jH(h:Qr led l z=true):∃st,TH.NI (TH.LW led) l=some st/\(Tr.GV (TH.Rl st)).reverse=z/\st.2.fits st.1.size=true/\st.2.plain=true/\st.2.led=led/\TH.Qj st.2 st.1.size=true/\st.1.size<64:=by
 unfold Qr at h;split at h
 .simp_all
 .cases h
def cY(l:AAg):AAg:=match TH.NI (TH.LW true) l with
 |some st=>(Tr.GV (TH.Rl st)).reverse
 |none=>[]
def HR(t:Tr):AAP:=if t.deep<=8/\Qr true t.bs (cY t.bs)=true/\Qr false t.bs (cY t.bs)=true then some (.list (Gi (Tr.of (cY t.bs)))) else none
def PZ:PD->Option PD
 |.list ds=>(JQ ds).bind HR
 |_=>none
section
variable{X:Cx}{e:Expr}{f:AAF}{pos p p2 pos2:Pos}
def Zx(hc:PP)(hu:IS)(hg:Gl X "sorted")(hm:X.mg "sorted" = none)(hg2:Gl X "set")(hm2:X.mg "set" = none)(ha:DE X e f) (T:starEach [e] X.env=Fj::starEach [] X.env:=by rfl)(M:starEach [.Call (.Name "set" p2) [e] [] pos2] X.env=(false,eval (.Call (.Name "set" p2) [e] [] pos2) X.env)::starEach [] X.env:=by rfl) (hq1:(backTo pos2 (starEach [] X.env)).any Fk=false:=by rfl)(hq2:(backTo pos (starEach [] X.env)).any Fk=false:=by rfl):DE X (.Call (.Name "sorted" p) [.Call (.Name "set" p2) [e] [] pos2] [] pos) (fun δ=>(f δ).bind PZ):=by
 obtain⟨ta,pa,ka⟩:=ha;refine⟨_,EW (bw hc hu) hg hm PyProof.Rows.boot_sorted (AV (T8 (eE hc hu) hg2 hm2 PyProof.Rows.boot_set (AV pa Av T) AC AC T hq1) Av M) AC AC M hq2,fun δ z hz G0 H0 G H σ ts Q R0 k=>?_⟩;obtain⟨y,h1,Y⟩:=aA.mp hz;refine ka δ y h1 G0 H0 G H σ ts _ R0 fun u G1 H1 Z=>?_;unfold PZ at Y;split at Y
 .obtain⟨t,h3,U⟩:=aA.mp Y;unfold HR at U;split at U
  .rename_i hh;cases U;have du:=Z.BE (_,u) Ch;obtain⟨bb,a,ys,rfl,n1,n2⟩:=Rn du rfl;have n1':=by
    cases bb
    .simpa using (Z.ins _ _ n1)
    .exact absurd n1 (by
      obtain⟨a',ys',e1,e2,_⟩:=du;cases e1;rw[e2]at n1;cases n1)
   rw[(Nl h3)]at n2;obtain⟨st,r1,r2,r3,r4,r5,r6,r7⟩:=jH ((show ∀led,Qr led t.bs (cY t.bs)=true from fun led=>by cases led;exact hh.2.2;exact hh.2.1) (!X.w.params.followText "set-order"));refine⟨a,ys,t,st,rfl,Am.of n1',((Lk n2).same Z.ins),hh.1,r1,fun S H' e1 hS=>⟨S,st,rfl,hS,⟨r3,r4,r5,r6,r7⟩,fun l zs hl hz I=>?_⟩⟩;rw[r2]at I;exact k _ _ _ (((Z.drop.on e1).Bi).N1 (QY I) hl)
  .cases U
 .cases Y
end
end L2
namespace L2
open PySem PySem.Spec PyProof.Rows
theorem S5:∀t ,JQ (Gi t)=some t
 |.nil=>by rfl
 |.cons b r=>by rw[Gi,JQ,FH,S5 b,S5 r];rfl
def iU t:FH (.tuple (Gi t))=some t:=S5 t
def j2(h:MU k=MU l):k=l:=by
 cases k with
 |none=>cases l with
  |none=>rfl
  |some u=>cases h
 |some t=>cases l with
  |none=>cases h
  |some u=>
   have:=af FH h;rw[MU,MU,iU,iU]at this;exact this
def keyOf:PD->Option (Option Tr)
 |.none=>some none
 |d=>(FH d).map some
def Pb(h:keyOf d=some k):d=MU k:=by
 unfold keyOf at h;split at h
 .cases h;rfl
 .obtain⟨t,l,rfl⟩:=aC.mp h;exact Zl l
abbrev KD:=Option Tr×PD
def SX(kvs:List KD)(k:Option Tr):Bool:=(match k with|none=>true|some t=>decide (t.deep<8))&&kvs.all fun q=>decide (TH.Bb q.1≠TH.Bb k)||decide (q.1=k)
def look(kvs:List KD)(k:Option Tr):AAP:=(kvs.find? fun q=>decide (q.1=k)).map (·.2)
def Ly(kvs:List KD)(k:Option Tr)(v:PD):List KD:=if(kvs.find? fun q=>decide (q.1=k)).isSome then kvs.map (fun q=>if q.1=k then(q.1,v) else q) else kvs++[(k,v)]
def W4:List (PD×PD)->Option (List KD)
 |[]=>some []
 |(k,d)::t=>(keyOf k).bind fun l=>(W4 t).map fun r=>(l,d)::r
theorem Yn:∀ {es} {kvs},W4 es=some kvs->es=QW kvs
 |[],kvs,h=>by cases h;rfl
 |(k,d)::t,kvs,h=>by
  obtain⟨l,T,M⟩:=aA.mp h;obtain⟨r,I,rfl⟩:=aC.mp M;rw[Pb T,Yn I];rfl
def PR(G:Hp)(p:KD)(q:KR):Prop:=q.1=p.1/\Ge G q.1 q.2.1/\Du G p.2 q.2.2
theorem W2:∀ {kvs:List KD} {r},J8 G (QW kvs) r->PySem.Paired (PR G) kvs r
 |[],r,h=>by
  subst h;exact .nil
 |(k,d)::t,r,h=>by
  obtain⟨q,U,rfl,T,M,I,l⟩:=h;exact .cons ⟨(j2 T).symm,M,I⟩ (W2 l)
def gO(h:PySem.Paired (PR G) kvs r):J8 G (QW kvs) r:=by
 induction h with
 |nil=>rfl
 | @cons p q l m a _ I=>
  exact⟨q,m,rfl,by rw[a.1],a.2.1,a.2.2,I⟩
def pF(h:PySem.Paired (PR G) kvs r):r.map Fk=kvs.map Fk:=by
 induction h with
 |nil=>rfl
 |cons a _ l=>rw[(BM),(BM),l,a.1]
def ZO(h:PySem.Paired (PR G) kvs r) k:match kvs.find? (fun q=>decide (q.1=k)) with
  |some p=>∃q,r.find? (fun q=>decide (q.1=k))=some q/\Du G p.2 q.2.2
  |none=>r.find? (fun q=>decide (q.1=k))=none:=by
 induction h with
 |nil=>rfl
 | @cons p q l m a _ I=>
  rw[(Jk),(Jk),a.1];by_cases z:p.1=k
  .simp only[decide_eq_true z];exact⟨q,rfl,a.2.2⟩
  .simp only[decide_eq_false z];exact I
def rA(h:PySem.Paired (PR G) kvs r)(hk:Ge G k U)(M:Du G d v):PySem.Paired (PR G) (Ly kvs k d) (Gg r k U v):=by
 have I:=ZO h k;unfold Ly Gg;split at I
 .rename_i p e;obtain⟨q,T,_⟩:=I;rw[T,e];clear e T hk
  induction h with
  |nil=>exact .nil
  | @cons p q l m a _ Y=>
   rw[(BM),(BM)];refine .cons ?_ Y;rw[a.1];by_cases z:p.1=k
   .rw[if_pos z,if_pos z];exact⟨rfl,a.1 ▸ a.2.1,M⟩
   lia
 .rename_i e;rw[I,e];exact h.snoc ⟨rfl,hk,M⟩
def fm(h:(r.map Fk).Nodup):((Gg r k l v).map Fk).Nodup:=by
 unfold Gg;split
 .rw[(show(r.map (fun q=>if q.1=k then(q.1,q.2.1,v) else q)).map _=r.map Fk by
   rw[(BZ)];refine ai fun q _=>?_;show(if q.1=k then(q.1,q.2.1,v) else q).1=q.1;split<;>rfl)];exact h
 grind
def eP(h:Du G (MU k) v)(l:SX kvs k=true):Ge G k v:=by
 unfold SX at l;rw[(HG)]at l;cases k with
 |none=>exact h
 |some t=>
  obtain⟨a,ys,rfl,M,I⟩:=h;exact⟨ak l.1,a,ys,rfl,M,Lk I⟩
def nu(e:AI G H)(ha:H a=some (dN a r))(n:(r.map Fk).Nodup)(h:PySem.Paired (PR G) kvs r)(I:SX kvs k=true):Sk H a r k:=by
 refine⟨ha,fun q l=>?_,n,fun q l Y=>?_⟩
 .obtain⟨p,_,U,T,_⟩:=JV h q l;exact T.same e
 .obtain⟨p,M,U,_⟩:=JV h q l;unfold SX at I;rw[(HG)]at I;have:=av.mp I.2 p M
  simp_all
def od(i:Nat)(δ:Dv):Option (List KD):=match δ[i]? with
 |some (.own (.Ox kvs))=>some kvs
 |_=>none
def nk{i:Nat}{δ:Dv}{kvs:List KD}(h:od i δ=some kvs):δ[i]? = some (.own (.Ox kvs)):=by
 unfold od at h;split at h
 .rename_i y e;cases h;exact e
 .cases h
abbrev mS(i:Nat):DF:=fun δ=>some (.nx (δ.set i (.own (.Ox []))))
abbrev uo(i:Nat)(f g:L0):DF:=fun δ=>(f δ).bind fun y=>(g δ).bind fun n=>(od i δ).bind fun kvs=>(keyOf n).bind fun k=>if SX kvs k=true/\kvs.length<=500 then some (.nx (δ.set i (.own (.Ox (Ly kvs k y))))) else none
def VY:PD->PD->Option PD:=fun x y=>match x with
 |.dict ((.bool true,.none)::es)=>(W4 es).bind fun kvs=>(keyOf y).bind fun k=>if SX kvs k=true then look kvs k else none
 |_=>none
def p7{kvs:List KD}(h:Du G (VV kvs) u):∃a r,u=.ref a/\G a=some (dN a r)/\(r.map Fk).Nodup/\PySem.Paired (PR G) kvs r:=by
 rcases h with ⟨_,_,e,_⟩|⟨_,_,e,_⟩|⟨_,_,a,r,e,M,I,l⟩
 .simp at e
 .simp at e
 .exact⟨a,r,e,M,I,W2 l⟩
section
variable{X:Cx}{a b e:Expr}{f g h:AAF}{pos p dp pos':Pos}
def qJ(U:X.N.Nodup)(hi:X.N[i]? = some x)(I:Loc X.env.scope x)(M:swapsWith (.Dict [] [] dp) (some (.Name x pos')) pos.line X.env=pure false:=by rfl)(hf:X.fn x=true\/X.env.scope.names.lookup x=some .local:=by first|exact .inl rfl|exact .inr rfl|assumption):DS X (.Assign [.Name x pos'] (.Dict [] [] dp) pos) (mS i) :=
 ⟨_,Az U hi I W6 M hf,fun δ r h G0 H0 G H σ D R q=>by
  cases h;exact fun l T=>q _ _ _ (R.Qf ⟨[],rfl,.nil,gO .nil⟩ T)⟩
def jF{i}{x}{np sp}(hv:PE X Iv (IL i))(hk:DE X a g)(he:DE X e f) (hP:∀ {l T U},PE X e l->PE X Iv T->PE X a U->PS X (.Assign [.Subscript Iv a sp] e pos) (WM l (jJ T U ml))):DS X (.Assign [.Subscript Iv a sp] e pos) (uo i f g):=by
 obtain⟨l,pe,ke⟩:=he;obtain⟨tk,pk,kk⟩:=hk;refine⟨_,hP pe hv pk,fun δ r h G0 H0 G H σ D R q=>?_⟩;obtain⟨y,h1,h2⟩:=aA.mp h;obtain⟨n,h3,h4⟩:=aA.mp h2;obtain⟨kvs,h5,h6⟩:=aA.mp h4;obtain⟨k,h7,M⟩:=aA.mp h6;split at M
 .rename_i hc;cases M;have:=Pb h7;subst this;have hi:=nk h5;refine ke δ y h1 G0 H0 G H σ [] _ R fun u G1 H1 R1=>?_;obtain⟨ad,_,I,k2,k3,k4,k5⟩:=R1.own i _ hi;refine⟨.ref ad,I,kk δ _ h3 G0 H0 G1 H1 σ _ _ R1 fun v G2 H2 R2=>?_⟩;have dv:=eP (R2.BE (MU k,v) Ch) hc.1;obtain⟨ad',_,Z,m2,m3,m4,⟨rr,rfl,Y,m6⟩⟩:=R2.own i _ hi;rw[I]at Z;cases Z;have pr:=W2 m6;have hl:=by simpa using (af List.length (pF pr))
  exact⟨ad,rr,k,rfl,dv.same R2.ins,nu R2.ins m4 Y pr hc.1,by lia,q _ _ _ (R2.drop.drop.RT hi I ⟨_,rfl,fm Y,gO (rA pr dv (R2.BE (y,u) (.tail _ Ch)))⟩)⟩
 .cases M
def jm(hu:IS)(ha:DE X a f)(hb:DE X b g)(hs:Xk b):DE X (.Subscript a b pos) (AF VY f g):=by
 obtain⟨ta,Z,ka⟩:=ha;obtain⟨tb,Y,kb⟩:=hb;refine⟨_,Vx hu Z Y hs,fun δ z hz G0 H0 G H σ ts Q R0 k=>?_⟩;obtain⟨x,y,h1,h2,l⟩:=two (x:=.none) (y:=.none) hz;refine ka δ x h1 G0 H0 G H σ ts _ R0 fun u G1 H1 R1=>kb δ y h2 G0 H0 G1 H1 σ _ _ R1 fun v G2 H2 R2=>?_;have du:=R2.BE (x,u) (.tail _ Ch);have dv:=R2.BE (y,v) Ch;unfold VY at l;split at l
 .obtain⟨kvs,h4,h5⟩:=aA.mp l;obtain⟨M,h6,U⟩:=aA.mp h5;split at U
  .rename_i T;have:=Yn h4;subst this;have:=Pb h6;subst this;obtain⟨ad,r,rfl,n1,n2,n3⟩:=p7 du;have hf:=ZO n3 M;obtain⟨p,h8,rfl⟩:=aC.mp U;rw[h8]at hf;obtain⟨q,h9,I⟩:=hf;exact⟨ad,r,M,q,rfl,(eP dv T).same R2.ins,nu R2.ins (R2.ins _ _ n1) n2 n3 T,h9,k _ _ _ (R2.drop.drop.put I)⟩
  lia
 lia
end
mutual
def Ph:PD->Bool
 |.tuple ds=>OP ds
 |.list ds=>OP ds
 |.dict l=>a6 l
 |_=>true
def OP:List PD->Bool
 |[]=>true
 |d::ds=>Ph d&&OP ds
def a6:List (PD×PD)->Bool
 |[(.none,_)]=>true
 |_=>false
end
def uX:dN a r≠.tup xs:=fun h=>by cases h
def iL:dN a r≠.lst xs:=fun h=>by cases h
def tP:dN a r≠.En o u:=fun h=>by cases h
mutual
theorem ZS{G:Hp}{a:AD}{r:List KR}(ha:G a=some (dN a r)):∀ {d:PD} {v:V},Ph d=true->Du G d v->Du (less G a) d v
 |.none,_,_,h=>by rw[Du]at h ⊢;exact h
 |.bool _,_,_,h=>by rw[Du]at h ⊢;exact h
 |.int _,_,_,h=>by rw[Du]at h ⊢;exact h
 |.str _,_,_,h=>by rw[Du]at h ⊢;exact h
 |.tuple ds,_,n,h=>by
  rw[Du]at h ⊢;obtain⟨b,xs,I,l,M⟩:=h;exact⟨b,xs,I,by rw[Cf fun z=>by subst z;rw[ha]at l;exact uX (ag l)];exact l,Lz ha (by simpa[Ph]using n) M⟩
 |.list ds,_,n,h=>by
  rw[Du]at h ⊢;obtain⟨b,xs,I,l,M⟩:=h;exact⟨b,xs,I,by rw[Cf fun z=>by subst z;rw[ha]at l;exact iL (ag l)];exact l,Lz ha (by simpa[Ph]using n) M⟩
 |.dict U,v,n,h=>by
  rw[Du]at h ⊢;rcases h with ⟨ea,C,I,T,l⟩|⟨b,ns,I,T,l⟩|h
  .rw[I]at n;simp[Ph,a6]at n
  .refine .inr (.inl ⟨b,ns,I,T,?_⟩);rcases l with l|⟨o,l⟩
   .exact .inl (by rw[Cf fun z=>by subst z;rw[ha]at l;exact iL (ag l)];exact l)
   .exact .inr ⟨o,by rw[Cf fun z=>by subst z;rw[ha]at l;exact tP (ag l)];exact l⟩
  .exfalso
   cases U with
   |nil=>rw[Qt]at h;exact h
   |cons p t=>
    obtain⟨Y,Z⟩:=p;rw[Qt]at h;rw[h.1]at n;simp[Ph,a6]at n
theorem Lz{G:Hp}{a:AD}{r:List KR}(ha:G a=some (dN a r)):∀ {ds:List PD} {xs:List V},OP ds=true->Ad G ds xs->Ad (less G a) ds xs
 |[],_,_,h=>by rw[Ad]at h ⊢;exact h
 |d::ds,_,n,h=>by
  obtain⟨x,q,rfl,I,l⟩:=h.un;simp only[OP,Bool.and_eq_true]at n;exact .cons (ZS ha n.1 I) (Lz ha n.2 l)
end
def wF:L->Bool
 |.own (.lst xs)=>OP xs
 |.own _=>false
 |_=>true
def alone(i:Nat)(δ:Dv):Bool:=(δ.set i .no).all wF
abbrev mY(i:Nat)(f:L0):Dv->Option PD:=fun δ=>(od i δ).bind fun kvs=>(f (δ.set i (.d (VV kvs)))).bind fun x=>if Ph x=true/\alone i δ=true then some x else none
def pL{X}{e}{f} i (h:DE X e f):DE X e (mY i f):=by
 obtain⟨t,p,k⟩:=h;refine⟨t,p,fun δ z hz G0 H0 G H σ ts Q R q=>?_⟩;obtain⟨kvs,h1,h2⟩:=aA.mp hz;obtain⟨x,h3,Z⟩:=aA.mp h2;split at Z
 .rename_i hc;cases Z;have hi:=nk h1;obtain⟨a,o,k1,k2,k3,k4,k5,R1⟩:=R.letGo hi fun a o h=>gq h;obtain⟨r,rfl,k6,k7⟩:=k5;refine k _ _ h3 (upd G a (dN a r)) H0 _ H σ ts Q R1.base fun v G' H' R2=>q v (less G' a) H' ?_;have ha:=R2.ext _ _ AR;have M:AI G (less G' a):=fun b u hb=>by
   have:b≠a:=fun z=>by subst z;rw[k2]at hb;cases hb
   rw[Cf this];exact R2.ext _ _ (by rw[AM this];exact hb)
  have of:∀b u,less G' a b=some u->b≠a/\G' b=some u:=fun b u hb=>by
   by_cases z:b=a
   .subst z;rw[Gz]at hb;cases hb
   .rw[Cf z]at hb;exact⟨z,hb⟩
  refine⟨R.ext.trans M,fun b u hb=>?_,fun b u hb=>R2.ins _ _ (of b u hb).2,R2.keep,R.len,fun j y I=>?_,fun j c I=>?_,R.apart,fun w Y=>?_⟩
  .obtain⟨nb,hb⟩:=of b u hb;rcases R2.new b u hb with z|z|z
   .rw[AM nb]at z;exact R.new _ _ z
   .exact .inr (.inl z)
   .exact .inr (.inr z)
  .obtain⟨w,U,T⟩:=R.dat j y I;exact⟨w,U,T.same M⟩
  .by_cases z:i=j
   .subst z;rw[hi]at I;cases I;exact⟨a,dN a r,k1,Gz,k3,R2.ins _ _ ha,r,rfl,k6,J8.same M k7⟩
   .obtain⟨b,us,U,T,m3,m4,m5⟩:=R2.own j c (by rw[List.getElem?_set_ne z];exact I);refine⟨b,us,U,?_,m3,m4,?_⟩
    .by_cases w:b=a
     .subst w;exact Gz
     .rw[Cf w];exact T
    .have l:=av.mp hc.2 _ (ba.mpr ⟨j,by rw[List.getElem?_set_ne z];exact I⟩);cases c with
     |lst xs=>
      obtain⟨ys,e1,e2⟩:=m5;exact⟨ys,e1,Lz ha l e2⟩
     |Ej g p=>cases l
     |Ei xs=>cases l
     |Ox xs=>cases l
  .rcases aO.mp Y with rfl|Y
   .exact ZS ha hc.1 (R2.BE _ Ch)
   .exact(R.BE w Y).same M
 .cases Z
end L2
namespace ES
open PySem PyProof.Rows
open AutoSeq1 (wpAny_loadPart')
section
variable{prog:F0b}{w:F0c}{A:F0d}{E:AAN}{s:SD}
def i4 a b:checkBuiltinCall "enumerate.__new__" ⟨[.type "enumerate",a],[(Str.ofString "start",b)]⟩=pure ():=by kernel_rfl
def lK a b c:argsOk "object.__init__" ⟨[a,b],[(Str.ofString "start",c)]⟩:=by
 rfl
def fR(l:AD)(items:Array VL)(n:Nat)(T:Option AD)(sl:Array (Option VL))(t:Tok):Meets (Builtin.«enumerate.__new__» ⟨[.type "enumerate",.ref l],[(Str.ofString "start",.int 2 t)]⟩) (fun _ R s=>s.heap.get? l=some { cls:=.type "list",dict:=T,data:=.seq items n,slots:=sl} /\R (.ok (.ret (.ref (s.heap.push { cls:=.type "list_iterator",data:=.fields #[.ref l,.int 0 0]}).objs.size))) {s with heap:=(s.heap.push { cls:=.type "list_iterator",data:=.fields #[.ref l,.int 0 0]}).push { cls:=.type "enumerate",data:=.fields #[.none,.bool false,.ref s.heap.objs.size,rawInt 2,.none,.none]} }) :=
 .of_wp fun prog w A R s h=>by
  obtain⟨Y,g,d,tk,os⟩:=s;obtain⟨I,h⟩:=h;have U:=sub_enumerate;have M:Heap.IsList (Shared.heap ⟨Y,g,d,tk,os⟩) l items:=⟨_,I,rfl,n,rfl⟩
  wp_walk using wpAny_loadPart' I
  refine wpAny_stack_any fun st=>aB ?_;split
  .rename_i c _ _ _ _ _;cases (c==Value.type "enumerate")
   .wp_walk using wpAny_loadPart' I,wpAny_pyIter_list M
    exact⟨_,rfl,h⟩
   .wp_walk using wpAny_loadPart' I,wpAny_pyIter_list M
    exact⟨_,rfl,h⟩
  .wp_walk using wpAny_loadPart' I,wpAny_pyIter_list M
   exact⟨_,rfl,h⟩
def Zz:Meets (Builtin.«object.__init__» ⟨self::rest,kw⟩) (fun _ R s=>s.TypeIs self "enumerate" /\ R (.ok (.ret .none)) s):=by
 refine Meets.of_wp fun prog w A R s I=>?_;obtain⟨T,l⟩:=I;have M:=F.called_enumerate.init.lookup;have hm:=F.called_enumerate.made;unfold Builtin.«object.__init__»;dsimp only;split
 .repeat (any_goals (first|assumption|wp_step))
  exact⟨_,rfl,l⟩
 .exact aB ⟨_,rfl,l⟩
def b6{l:AD}{items:Array VL}{t:Tok}{Q:AAN}(hL:s.heap.IsList l items) (h:∀h',IsEnum h' Ps s.heap.objs.size 2 .none->h'.IsListIter s.heap.objs.size l 0->h'.objs.size=s.heap.objs.size+2 ->(∀b o,s.heap.get? b=some o->h'.get? b=some o)->Q (.ref Ps) {s with heap:=h'}):wpAny As A (call (.type "enumerate") [.ref l] [(Str.ofString "start",.int 2 t)]) Q E s:=by
 obtain⟨⟨c,dct,dt,sl⟩,hl,hc,n,hd⟩:=hL
 replace hc:c=.type "list" := hc
 replace hd:dt=.seq items n:=hd
 subst hc hd;have T:=F.called_enumerate;obtain⟨c,tl,hmro⟩:=T.mro;have hmade:=T.made;have hsub:=T.sub;have hz:(s.heap.push { cls:=.type "list_iterator",data:=.fields #[.ref l,.int 0 0]}).objs.size=s.heap.objs.size+1:=Heap.size_push ..;refine wpAny_call (codeAny_of_tree ?_);show wpAny _ _ (callAny (.type "enumerate") _) _ _ _;refine aB ⟨Code.quiet_builtin _ (by decide +kernel),(codeAny_builtin F.entry_type_call ?_)⟩;rw[Around.under_plain (weight_type_call_type "enumerate" [.ref l] [(Str.ofString "start",.int 2 t)]) (units_type_call_type _ _ _)];have h1:=T.notType;have h2:=T.canCreate
 repeat (any_goals (first|assumption|wp_step))
 have Y:wants (fun obj M=>M.TypeIs obj "enumerate" /\ Q obj M) E (.ok (.ret (.ref (s.heap.push { cls:=.type "list_iterator",data:=.fields #[.ref l,.int 0 0]}).objs.size))) {s with heap:=(s.heap.push { cls:=.type "list_iterator",data:=.fields #[.ref l,.int 0 0]}).push { cls:=.type "enumerate",data:=.fields #[.none,.bool false,.ref s.heap.objs.size,rawInt 2,.none,.none]} }:=by
  show _/\_;rw[hz];have a1:IsEnum ((s.heap.push { cls:=.type "list_iterator",data:=.fields #[.ref l,.int 0 0]}).push { cls:=.type "enumerate",data:=.fields #[.none,.bool false,.ref s.heap.objs.size,rawInt 2,.none,.none]}) Ps s.heap.objs.size 2 .none:=by
   rw[<-hz];exact aR _ rfl
  refine⟨⟨_,a1,rfl⟩,h _ a1 ⟨_,Heap.get?_push_of_some _ (aR _ rfl),rfl,rfl⟩ (by rw[(LJ),hz]) fun b o e=>aF _ (aF _ e)⟩
 refine codeAny_mono (codeAny_call_builtin T.plain F.entry_enumerate_new (wpAny_of_eq (i4 _ _) (fR l items n dct sl t prog w A.in1 _ s ⟨hl,Y⟩))) fun r M hr=>?_;cases r with
 |error e=>exact hr
 |ok fl=>
  cases fl with
  |ret obj=>
   obtain⟨hT,hq⟩:=hr;have hli:=T.init.lookup;have hbi:=T.init.bind obj
   repeat (any_goals (first|assumption|wp_step))
   refine codeAny_mono (codeAny_call_builtin T.init.plain F.entry_object_init (T.init.check _ _ _ _ _ _ _ _ hT (lK _ _ _) (Zz prog w A.in1 (wants (fun r U=>r=.none/\Q obj U) E) M ⟨hT,rfl,hq⟩))) fun r₂ U I=>?_;cases r₂ with
   |error e=>exact I
   |ok Z=>
    cases Z with
    |ret r=>
     obtain⟨rfl,hq⟩:=I
     repeat (any_goals (first|assumption|wp_step))
    |_=>exact I.elim
  |_=>exact hr.elim
end
end ES
namespace L2
open PySem PySem.Spec PyProof.Rows
abbrev tu(K:Fg)(a:AD):It:=Nz K false 2 a
def WJ (h:wpAny M A (spliced (backTo pos (starEach (e::rest) env))) (fun vs s1=>wpAny M A (evalAll ((backToKw pos (keywordEach l env)).map (·.2))) (fun kvs s2=>wpAny M A (call (.type T) vs (((backToKw pos (keywordEach l env)).filterMap Fk).zip kvs)) Q E s2) E s1) E s) (he:backTo pos (starEach (e::rest) env)=(false,eval e env)::backTo pos (starEach rest env):=by rfl)(I:(backTo pos (starEach (e::rest) env)).any Fk=false:=by rfl) (U:(backToKw pos (keywordEach l env)).all (·.1.isSome)=true:=by rfl)(Y:(backToKw pos (keywordEach l env)).any (·.1.isNone)=false:=by rfl):wpAny M A (callWith pos (.type T) [] (backTo pos (starEach (e::rest) env)) (backToKw pos (keywordEach l env))) Q E s:=by
 refine Wb (aT (aV (show wpAny M A _ (fun a s1=>wpAny M A (call _ ([]++a.pos) a.kw) Q E s1) E s by
  rw[he]at h ⊢;exact evalArgs_kwB U h) (fun a s1 h1=>Wb (wpAny_standAt ?_)) fun _ _ x=>x))
 simp only[I,Y];exact Wb (aB (Wb (aV h1 (fun r s2 Z=>Wb (aT (wpAny_point (aB Z)))) fun _ _ x=>x)))
def rQ(K:Fg)(I:TA):TI:=fun σ H R=>I σ H fun vs l=>∃a,vs=[.ref a]/\(∃xs,Am K l a xs)/\R (tu K a) l
def lM{X}{elts}{x1}{M}{a}{ta}{p pos kp Z}{j}(hg:Gl X "enumerate")(hm:X.mg "enumerate" = none)(ha:PA X [a] ta) (U:backTo pos (starEach [a] X.env)=(false,eval a X.env)::backTo pos (starEach [] X.env):=by rfl)(l:(backTo pos (starEach [a] X.env)).any Fk=false:=by rfl):PI X (.Tuple elts x1 M) (.Call (.Name "enumerate" p) [a] [⟨some "start",.Constant (.int 2) j Z,kp⟩] pos) (rQ X.K ta):=by
 intro pins s σ H R I h;refine bG (FW I hg hm boot_enumerate (WJ (Aw (ha pos pins s σ H _ I h) fun us s1 ⟨vs,H1,Y,r1,q1⟩=>kws_cons (wpAny_Constant_int (kws_nil ?_))) U l));obtain⟨t,e,⟨xs,hq⟩,q⟩:=q1;subst e;cases r1 with
 |cons r rr=>
  cases rr;cases r;obtain⟨its,rv,p',hz⟩:=Y.list hq;refine ES.b6 p'.isList fun h' U hit hsz hk=>wpAny_pyIter_enum U (⟨s1.heap.objs.size+1,[s1.heap.objs.size+1,s1.heap.objs.size],_,_,H1,rfl,(Y.kept hk),Sn (b:=false) t _ _ (show s1.heap.objs.size+1≠s1.heap.objs.size by simp),⟨⟨_,U⟩,hit⟩,fun b hb=>?_,q⟩);have T:s1.heap.objs.size<=b:=by
   have hb2:=by simpa using hb
   rcases hb2 with z|z
   .rw[z];exact Nat.le_succ _
   .rw[z];exact aG _
  exact(Y.tok (s1.toks+1)).QG T ((Y.tok (s1.toks+1)).Ac.fresh T)
def Ny(xs:AAK):AAK:=xs.zipIdx.map fun q=>.tuple [.int ((q.2+2:Nat)),q.1]
def RO{i:Nat}(h:(Ny xs)[i]? = some d):∃x,xs[i]? = some x/\d=.tuple [.int ((i+2:Nat)),x]:=by
 unfold Ny at h;rw[(Ar)]at h;obtain⟨q,l,rfl⟩:=aC.mp h
 simp_all
def lL{K}(ha:G a=some Ix)(d:Ad G xs ys):LI (tu K a) (Ny xs) G where
 stop:=fun H e=>⟨ys,Am.of (e _ _ ha),by rw[d.len];simp[Ny]⟩
 go:=fun i x H hx e=>by
  obtain⟨x',h0,rfl⟩:=RO hx;obtain⟨v,h1,_⟩:=d.get h0;exact⟨ys,v,Am.of (e _ _ ha),h1⟩
 E7:=fun i x H v H' hx e y Gc e1 e2=>by
  obtain⟨x',h0,rfl⟩:=RO hx;obtain⟨p,u,rfl,hp,rfl,y⟩:=y;obtain⟨x2,h2,h3⟩:=d.back (y ys (Am.of (e _ _ ha)));rw[h0]at h2;cases h2;exact Pz e2 hp IF (h3.same e1)
def cw:List PD->Option (List PD)
 |[.list xs]=>some (Ny xs)
 |_=>none
def lB{p pos kp M}{j}{elts}{U}{I}(hg:Gl X "enumerate")(hm:X.mg "enumerate" = none)(ha:DA X [a] fs)(he:backTo pos (starEach [a] X.env)=(false,eval a X.env)::backTo pos (starEach [] X.env):=by rfl)(l:(backTo pos (starEach [a] X.env)).any Fk=false:=by rfl):DI X (.Tuple elts U I) (.Call (.Name "enumerate" p) [a] [⟨some "start",.Constant (.int 2) j M,kp⟩] pos) (fun δ=>(fs δ).bind cw):=by
 obtain⟨t,Y,k⟩:=ha;refine⟨_,lM hg hm Y he l,fun δ xs h G0 H0 G H σ ts R R0 q=>?_⟩;obtain⟨x,h1,T⟩:=aA.mp h;unfold cw at T;split at T
 .cases T;refine k δ _ h1 G0 H0 G H σ ts _ R0 fun vs G' H' R' hv=>?_;obtain⟨d,R2⟩:=R'.args hv;obtain⟨u,rfl,du⟩:=d.Im;obtain⟨a,ys,rfl,n1,Z⟩:=du;exact⟨a,rfl,⟨ys,Am.of (R2.ins _ _ n1)⟩,q _ _ _ R2 (lL n1 Z)⟩
 contradiction
end L2
namespace L2
open PySem PySem.Spec PyProof.Rows
abbrev TB:=St->Hp->(Hp->Prop)->XK->Prop
def mM(X:Cx)(st:Stmt)(t:TB):Prop:=∀pins s (σ:St) H N E,Inv X pins σ H s->t σ H N E->wpAny B1 X.A (exec st X.env) (fun f s'=>f=.next/\∃H',Inv X pins σ H' s'/\N H') (VM X pins σ E) s
def Zh(X:Cx)(sts:AAi)(t:TB):Prop:=∀pins s (σ:St) H N E,Inv X pins σ H s->t σ H N E->wpAny B1 X.A (execs sts X.env) (fun f s'=>f=.next/\∃H',Inv X pins σ H' s'/\N H') (VM X pins σ E) s
section
variable{X:Cx}{st:Stmt}{rest a b:AAi}{t u:TB}{e c:Expr}{pos:Pos}
def kF(U:mM X st t)(T:Zh X rest u):Zh X (st::rest) (fun σ H N E=>t σ H (fun l=>u σ l N E) E):=by
 intro pins s σ H N E I h;refine wpAny_execs_cons (Aw (U pins s σ H _ E I h) fun f s1 q=>?_);obtain⟨rfl,l,Y,M⟩:=q;exact T pins s1 σ l N E Y M
def ql(Y:zd X e M)(U:swapsWith e none pos.line X.env=pure false:=by rfl):mM X (.Expr e pos) (fun σ H N E=>M σ H (fun _ l=>N l) E):=fun pins s σ H N E I h=>wpAny_Expr_any (Aw (Y pins s σ H _ E I h) fun v s1 ⟨x,l,Z,r1,T⟩=>⟨rfl,l,Z,T⟩) I.quiet U
def vi(Y:PT X.GF c U)(ha:Zh X a t)(hb:Zh X b u):mM X (.If c a b pos) (fun σ H N E=>U σ H fun d l=>if d=true then t σ l N E else u σ l N E):=by
 intro pins s σ H N E I h;refine wpAny_If (aV (Y pins s σ H _ (I.Fd _) h) (fun d s1 ⟨l,T,M⟩=>?_) fun _ _ z=>z.elim);cases d with
 |true=>exact ha pins s1 σ l N E T.DJ M
 |false=>exact hb pins s1 σ l N E T.DJ M
def wO(X:Cx)(k:Nat)(l:List ExceptHandler)(t:TB):TS:=fun D σ H=>t σ H (fun I=>D.nx σ I) fun cls _ H'=>∃C,cls=.ref C/\∀ea,∃tb,Vh X C ea k l tb/\(H' ea=none->tb (cD D k) (σ.set k (some (.ref ea))) (upd H' ea (Sd ea cls)))
def pR(he:Zh X body t)(hN:X.N.Nodup)(U:PP)(Y:∃rest,X.stack=X.env::rest)(Z:X.env.frame=some X.env.locals):PS X (.Try body (h0::hs) [] [] pos) (wO X k (h0::hs) t):=by
 intro pins s σ H D I h;refine wpAny_Try_except (aV (he pins s σ H _ _ I h) (fun f s1 q=>?_) fun ev s1 hf=>?_)
 .obtain⟨rfl,H1,I1,q1⟩:=q;exact wpAny_execs_nil ⟨_,H1,I1,q1⟩
 .obtain⟨H0,s0,I,ea,cls,a0,H',B,ee,F,C,hc,q⟩:=hf;subst ee hc;obtain⟨rest,l⟩:=Y;have F1:=F.rO;rw[l]at F1;refine wpAny_looks_onW (show X.A.frames=some _ by rw[<-l];exact I.ok.frames) Z F1 fun h4 T up4=>wpAny_landsW T fun h5 fl5 up5=>?_;have M:=up4.trans up5;obtain⟨tb,q1,q2⟩:=q ea;exact ko hN U I F l Z fl5 M (land I F fl5.1 M) q1 q2
end
abbrev FB:=Dv->Option (Option AD)
def tR(G0 H0:Hp)(σ:St)(δ:Dv)(N:Hp->Prop)(E:XK):Option AD->Prop
 |none=>∀G' H',Rw G0 H0 G' H' σ δ []->N H'
 |some C=>∀G' H',Rw G0 H0 G' H' σ δ []->E Re none H'
def uJ(X:Cx)(st:Stmt)(F:FB):Prop:=∃t,mM X st t/\∀δ r,F δ=some r->∀G0 H0 G H σ N E,Rw G0 H0 G H σ δ []->tR G0 H0 σ δ N E r->t σ H N E
def DB(X:Cx)(sts:AAi)(F:FB):Prop:=∃t,Zh X sts t/\∀δ r,F δ=some r->∀G0 H0 G H σ N E,Rw G0 H0 G H σ δ []->tR G0 H0 σ δ N E r->t σ H N E
def MT:FB:=fun _=>some none
def Nu(I l:FB):FB:=fun δ=>(I δ).bind fun r=>match r with
 |none=>l δ
 |some C=>some (some C)
def OC(m:rW)(fs:AAD):FB:=fun δ=>((fs δ).bind m).map fun r=>match r with
 |.inl _=>none
 |.inr C=>some C
def Zb(c:AAG)(I l:FB):FB:=fun δ=>(c δ).bind fun b=>if b=true then I δ else l δ
section
variable{X:Cx}{st:Stmt}{rest a b:AAi}{e c:Expr}{es:AAU}{fs:AAD}{fc:AAG}{F1 F2:FB}{pos p spos:Pos}
def Wf:DB X [] MT:=⟨_,fun _ _ _ H _ _ I h=>wpAny_execs_nil ⟨rfl,H,I,h⟩,fun δ r h G0 H0 G H σ N E R q=>by cases h;exact q _ _ R⟩
def Tb(h1:uJ X st F1)(h2:DB X rest F2):DB X (st::rest) (Nu F1 F2):=by
 obtain⟨t1,T,Y⟩:=h1;obtain⟨t2,M,U⟩:=h2;refine⟨_,kF T M,fun δ r h G0 H0 G H σ N E R q=>?_⟩;obtain⟨l,Z,I⟩:=aA.mp h;refine Y δ l Z G0 H0 G H σ _ E R ?_;cases l with
 |none=>exact fun G' H' R'=>U δ r I G0 H0 G' H' σ N E R' q
 |some C=>cases I;exact q
def wG(hc:DT X.GF c fc)(ha:DB X a F1)(hb:DB X b F2):uJ X (.If c a b pos) (Zb fc F1 F2):=by
 obtain⟨tc,pc,U⟩:=hc;obtain⟨t1,T,Z⟩:=ha;obtain⟨t2,M,Y⟩:=hb;refine⟨_,vi pc T M,fun δ r h G0 H0 G H σ N E R q=>?_⟩;obtain⟨d,h3,l⟩:=aA.mp h;refine U δ d h3 G0 H0 G H σ [] _ R fun G' H' I=>?_;cases d with
 |true=>exact Z δ r l G0 H0 G' H' σ N E I q
 |false=>exact Y δ r l G0 H0 G' H' σ N E I q
def ZX(T:Fn X.K X.mg x st' ps fA fd)(F:Ah X.prog X.w X.K X.mg X.base (CP X.prog X.w) Z fA fd ps (FN m))(hr:Bq Z X.A)(ha:DA X.GF (e::es) fs) (hg:Gl X x:=by rfl)(U:IN=false:=by decide)(he:starEach (e::es) X.env=Fj::starEach es X.env:=by rfl)(M:(backTo pos OR).any Fk=false:=by rfl) (l:swapsWith Cl none spos.line X.env=pure false:=by rfl):uJ X (.Expr Cl spos) (OC m fs):=by
 obtain⟨ta,pa,ka⟩:=ha;refine⟨_,ql (fun pins s σ H Q E I h=>bG (Hx I hg T.m (PySem.W.callWith_K I.ok.mod.Mj T.F.kp (aV (pa pos pins s σ H _ (I.Fd _) h) (fun us s1 ⟨vs,H1,I1,r,q⟩=>⟨I1.Fq,pM F hr T.b I1.DJ r q⟩) fun _ _ z=>z.elim) he M) U)) l,fun δ r h G0 H0 G H σ N E R q=>?_⟩;obtain⟨w,h1,rfl⟩:=aC.mp h;refine Q9 (k:=Z) ka h1 R (fun x hx v G' H' Y=>?_) (fun C hC G' H' Y=>?_)
 .subst hx;exact q _ _ Y.drop
 .subst hC;exact q _ _ Y
end
abbrev VO(k:Nat)(F:FB)(l:DF):DF:=fun δ=>(F δ).bind fun r=>match r with
 |none=>some (.nx δ)
 |some C=>(l (δ.set k (.d (j5 C)))).bind (yk k)
def qe{X}{k}{F}{Fh}{U n}{np hpos tp}(hb:DB X T F)(hN:X.N.Nodup)(hB:∀δ C,F δ=some (some C)->HE X.K C Gx true)(hm:X.mg U=some (.ref Gx))(hs:∀ea,Ku (X.held ea) (b0::suite) Fh) (l:X.calm=true:=by rfl)(I:∃rest,X.stack=X.env::rest:=by exact⟨_,rfl⟩)(Y:X.env.frame=some X.env.locals:=by rfl)(hg:Gl X U:=by rfl)(hd:(U==("__debug__"))=false:=by decide)(hk:X.N[k]? = some n:=by rfl)(hln:X.env.scope.names.lookup n=some .local:=by rfl):DS X (.Try T [.ExceptHandler (some (.Name U np)) (some n) (b0::suite) hpos] [] [] tp) (VO k F Fh):=by
 obtain⟨tb,pb,kb⟩:=hb;refine⟨_,pR (k:=k) pb hN l I Y,fun δ r h G0 H0 G H σ D R q=>?_⟩;obtain⟨w,h1,h2⟩:=aA.mp h;refine kb δ w h1 G0 H0 G H σ _ _ R ?_;cases w with
 |none=>cases h2;exact fun G' H' R'=>q _ _ _ R'
 |some C=>
  intro G' H' R';refine⟨C,rfl,fun ea=>?_⟩;obtain⟨th,p1,p2⟩:=hs ea;refine⟨th,.hit hg hm hd (hB δ C h1) hk hln p1,fun Z=>?_⟩;obtain⟨o,h3,M⟩:=aA.mp h2;refine p2 _ o h3 G0 H0 _ _ _ _ (((R'.newObj Z).put (show Du _ (j5 C) (.ref ea) by exact .inl ⟨ea,C,rfl,rfl,AR⟩)).HR) ?_;cases o with
  |nx δ'=>cases M;exact fun σ4 G4 H4 R4=>q _ _ _ (R4.wk k none)
  |rt v=>cases M
  |bk v=>cases M
  |ct v=>cases M
  |rn v=>cases M
section
variable{k:Nat}{F F1 F2:FB}{Fh:DF}{δ δ':Dv}{fs:AAD}{m:rW}{ds:AAK}{c:AAG} 
def k9(h:F δ=some none):VO k F Fh δ=some (.nx δ):=by show(F δ).bind _=_;rw[h];rfl
def jD(h:F δ=some (some C))(z:Fh (δ.set k (.d (j5 C)))=some (.nx δ')):VO k F Fh δ=some (.nx (δ'.set k .no)):=by
 show(F δ).bind _=_;rw[h];show(Fh _).bind _=_;rw[z];rfl
def CS(P:AD->Prop)(F:FB):Prop:=∀δ C,F δ=some (some C)->P C
def CS.at(h:CS P F):∀δ C,F δ=some (some C)->P C:=h
variable{P:AD->Prop}
def CS.nil:CS P MT:=fun δ C h=>by cases h
def CS.seq(U:CS P F1)(T:CS P F2):CS P (Nu F1 F2):=fun δ C h=>by
 obtain⟨I,M,l⟩:=aA.mp h;cases I with
 |none=>exact T δ C l
 |some Y=>cases l;exact U δ _ M
def CS.if(M:CS P F1)(I:CS P F2):CS P (Zb c F1 F2):=fun δ C h=>by
 obtain⟨b,_,l⟩:=aA.mp h;cases b with
 |true=>exact M δ C l
 |false=>exact I δ C l
def CS.call(h:∀ds C,m ds=some (.inr C)->P C):CS P (OC m fs):=fun δ C z=>by
 obtain⟨w,M,l⟩:=aC.mp z;obtain⟨ds,_,I⟩:=aA.mp M;cases w with
 |inl y=>cases l
 |inr T=>cases l;exact h ds _ I
end
end L2
namespace L2
open PySem PySem.Spec PyProof.Rows
def nc:PD->PD->Option PD:=fun x y=>(FH x).bind fun t=>(FH y).bind fun u=>if t.deep<=60 then some (.bool (Tr.lt u t)) else none
def VI(h:FH x=some t)(d:Du G x v):Tv G t v:=by
 cases x with
 |tuple ds=>
  have:=Nl h;subst this;obtain⟨a,xs,rfl,I,l⟩:=d;exact⟨a,xs,rfl,I,Lk l⟩
 |_=>simp[FH]at h
def pV(M:IS):DH X (compareOp .Gt) nc:=by
 refine⟨_,oA M,fun x y z l G0 H0 G H σ δ ts u v Q R du Y k=>?_⟩;obtain⟨t,U,l⟩:=aA.mp l;obtain⟨I,T,l⟩:=aA.mp l;split at l
 .rename_i hd;cases l;exact⟨t,I,(VI U du).same R.ins,(VI T Y).same R.ins,hd,k _ _ _ (R.put IF)⟩
 contradiction
end L2
namespace TH
open PySem PyProof.Rows PySem.SeqAt
abbrev N6(d:AD)(ep n i:Nat):Obj:={ cls:=.type "dict_keyiterator",data:=.fields #[.ref d,.int i 0,.int n 0,.int ep 0]}
section
variable{prog:F0b}{w:F0c}{A:F0d}{E:AAN}{s:SD}{d I:AD}{o:Obj}{es:Array DictEntry}{ep i:Nat}
def lO{Q}{e}(T:s.heap.get? d=some o)(hd:o.data=.dict es ep)(M:s.heap.get? I=some (N6 d ep es.size i))(Y:es[i]? = some e) (h:∀h',h'.get? I=some (N6 d ep es.size OK)->Heap.SameBut I s.heap h'->Q (some e.key) {s with heap:=h'}):wpAny As A (pyNext (.ref I)) Q E s:=by
 have l:s.TypeIs (.ref I) "dict_keyiterator" := ⟨_,M,rfl⟩;refine Wb (wpAny_attempt (ae l F.slot_dict_keyiterator_next (aU F.slot_dict_keyiterator_next l F.entry_dict_keyiterator_next ?_ (F.args_dict_keyiterator_next_1 _))));refine Wb (aB (Wb (Wb (Wb (wpAny_typeNameOfWhole_keyiter l (aB (Wb (wpAny_fieldsOf M rfl ?_))))))));have Z:¬(Value.ref d==Value.none)=true:=aN;show wpAny _ _ (if(Value.ref d==Value.none)=true then _ else _) _ _ s;refine Wb (aB (Wb (wpAny_dictEntries T hd ?_)));rw[if_neg BY];refine Wb (aB (Wb (wpAny_dictEpoch T hd ?_)));rw[if_neg BY];refine aB ?_;simp only[(show ¬((i:Int)<0) by simp),if_false,Int.toNat_natCast,Y];refine Wb (Wb (wpAny_typeNameOfWhole_keyiter l (aB (Wb (wpAny_isOneOf_keyiter l ?_)))));show wpAny _ _ (setField (.ref I) 1 (rawInt ((i:Int)+1))>>=_) _ _ s;refine Wb (wpAny_setField M rfl BY ?_);have U:(s.heap.update I (Obj.mapFields (·.setIfInBounds 1 (rawInt ((i:Int)+1))))).get? I=some (N6 d ep es.size OK):=Heap.get?_update_self _ M rfl;refine Wb (aT (Wb (wpAny_isOneOf_keyiter ⟨_,U,rfl⟩ ?_)));exact aB (aB ⟨_,rfl,wpAny_pure (h _ U (aZ ..))⟩)
def kY{Q:Option VL->SD->Prop}(hh:A.handled=none)(Y:s.heap.get? d=some o)(hd:o.data=.dict es ep)(U:s.heap.get? I=some (N6 d ep es.size es.size)) (h:∀h',Heap.ExtBut I s.heap h'->Q none {s with heap:=h'}):wpAny As A (pyNext (.ref I)) Q E s:=by
 have l:s.TypeIs (.ref I) "dict_keyiterator" := ⟨_,U,rfl⟩;unfold pyNext;refine Wb (wpAny_attempt (ae (name:=Str.ofString "__next__") l F.slot_dict_keyiterator_next (aU F.slot_dict_keyiterator_next l F.entry_dict_keyiterator_next ?_ (F.args_dict_keyiterator_next_1 _))));refine Wb (aB (Wb (Wb (Wb (wpAny_typeNameOfWhole_keyiter l (aB ?_))))));refine Wb (wpAny_fieldsOf U rfl ?_);have q0:Builtin.Dict_items.ownsTuple "dict_keyiterator" = false:=by decide
 simp only[q0,Bool.false_eq_true,if_false];have q1:¬(Value.ref d==Value.none)=true:=aN;show wpAny _ _ (if(Value.ref d==Value.none)=true then _ else _) _ _ s;rw[if_neg q1];refine Wb (aB (Wb (wpAny_dictEntries Y hd ?_)));rw[if_neg BY];refine Wb (aB (Wb (wpAny_dictEpoch Y hd ?_)));rw[if_neg BY];refine aB ?_;have q2:¬((es.size:Int)<0):=by simp
 have Z:es[es.size]? = none:=Array.getElem?_eq_none LK;simp only[q2,if_false,Int.toNat_natCast,Z];refine Wb (Wb (wpAny_typeNameOfWhole_keyiter l (aB ?_)));show wpAny _ _ (setField (.ref I) 0 .none>>=_) _ _ s;refine Wb (wpAny_setField U rfl BY ?_);refine Wb ?_;simp only[newExc,newTuple];refine Wb (aj ?_ (by size_fits));refine Wb (m:=firstArgMember _ _) (wpAny_of_eq (a:=Value.none) (by first|rfl|(simp only[firstArgMember];rfl)) (aj ?_ (by size_fits)));simp only[raiseNew];refine Wb (wpAny_handled ?_);have M:A.in1.handled=none:=hh;rw[M];refine Wb (aB (wpAny_throw ?_));refine Wb (wpAny_isInstance (b:=true) (T := "StopIteration") ⟨_,Heap.get?_push_size _ rfl,rfl⟩ isSubtype_stop ?_);exact aB (h _ (((aZ ..).extBut.push _).push _))
def kJ(M:s.heap.get? I=some (N6 d ep es.size i))(h:Q (.ref I) s):wpAny As A (pyIter (.ref I)) Q E s:=by
 have l:s.TypeIs (.ref I) "dict_keyiterator" := ⟨_,M,rfl⟩;exact wpAny_pyIter_slot l F.slot_dict_keyiterator_iter (aU F.slot_dict_keyiterator_iter l F.entry_dict_keyiterator_iter (aB ⟨_,rfl, "dict_keyiterator",_,l,F.slot_dict_keyiterator_next.lookup,h⟩) (F.args_dict_keyiterator_iter_1 _))
def lW(U:(d==sysModules)=false)(l:s.heap.get? d=some o)(T:o.cls=.type "dict")(hd:o.data=.dict es ep)(h:Q Go {s with heap:=s.heap.push (N6 d ep es.size 0)}):wpAny As A (pyIter (.ref d)) Q E s:=by
 have M:s.TypeIs (.ref d) "dict" := ⟨o,l,T⟩;refine wpAny_pyIter_slot M F.slot_dict_iter (aU F.slot_dict_iter M F.entry_dict_iter (Wb (Wb (wpAny_notOrdered_dict M (aB ?_)))) (F.args_dict_iter_1 _));show wpAny _ _ (Builtin.Dict.showsAll d>>=_) _ _ s;unfold Builtin.Dict.showsAll;rw[if_neg (show ¬_=true by lia)];exact Wb (aB (Wb (wpAny_dictEntries l hd (Wb (wpAny_dictEpoch l hd (Wb (aj (aB ⟨_,rfl, "dict_keyiterator",_,⟨_,Heap.get?_push_size _ rfl,rfl⟩,F.slot_dict_keyiterator_next.lookup,h⟩))))))))
def cj(hh:A.handled=none)(hne:d≠I)(hd:o.data=.dict es ep) :
  Walks prog w A I [I,d] [I] es.size (fun i v=>∃e,es[i]? = some e/\v=e.key) (fun i h=>h.get? I=some (N6 d ep es.size i)/\h.get? d=some o) where
 sub:=fun b hb=>by simp_all
 frame:=fun _ _ _ x k=>⟨k I BY _ x.1,k d BY _ x.2⟩
 item:=fun i s Q E hi x hQ=>by
  have hx:=Array.getElem?_eq_getElem hi;refine lO x.2 hd x.1 hx fun h' g sb=>hQ _ h' s.toks ⟨_,hx,rfl⟩ ⟨g,(sb.2 d hne).trans x.2⟩ fun b u hb e=>?_;rw[sb.2 b fun q=>hb (by simp[q])];exact e
 done:=fun s Q E x hQ=>kY hh x.2 hd x.1 fun h' eb=>hQ h' s.toks fun b u hb e=>eb b u (fun q=>hb (by simp[q])) e
 self:=fun _ _ _ _ x hQ=>kJ x.1 hQ
def kf(hs:(d==sysModules)=false)(hc:o.cls=.type "dict")(hd:o.data=.dict es ep):PySem.W.KdlSrc prog w "dict" d d es.size (fun i v=>∃e,es[i]? = some e/\v=e.key) (fun h=>h.get? d=some o) where
 type:=fun _ ho=>⟨o,ho,hc⟩
 there:=fun _ ho=>⟨aH ho,Heap.lt_size ho⟩
 keep:=fun _ _ ho k=>k d (.inl rfl) _ ho
 notList:=by decide
 notTuple:=by decide
 hint:=fun _ _ s _ ho h=>PySem.W.kdl_hint_dict ⟨o,ho,hc⟩ h
 iter:=fun A s hh ho=>⟨N6 d ep es.size 0,_,(fun E Q h=>lW hs ho hc hd h),cj hh (aL (aH ho)) hd,⟨aR _ rfl,Heap.get?_push_of_some _ ho⟩⟩
end
end TH
namespace IT
open PySem PySem.W PyProof.Rows PySem.SeqAt
def XY(h:Heap)(k:AAS)(v:VL):Prop:=∃(a:AD) (l:List VL),v=.ref a/\h.IsTuple a l.toArray/\Is k l/\k≠[]
def XY.ext(e:GS.Ext h h')(x:XY h k v):XY h' k v:=by
 obtain⟨a,i1,rfl,M,I,l⟩:=x;exact⟨a,i1,rfl,TH.om e M,I,l⟩
section
open PySem.MeetsSeq PySem.MeetsSeq2 PySem.MeetsSeq3
variable{prog:F0b}{w:F0c}{A:F0d}{s:SD}
def lt_int(h:Q (decide (x<y)) s):wpAny As A (oneLt' b (.int x t) (.int y u)) Q E s:=by
 cases b with
 |true=>exact oneLt_int h
 |false=>
  exact Wb (wpAny_lt_int (bV h))
theorem gw{b fin}{Q}:∀x y us vs i,Is x us->Is y vs->fin=decide (x.length<y.length)->Q (lt x y) s->KatLex prog w A b fin Q (us.zip vs) i s
 |[],y,us,vs,i,I,l,hf,q=>by
  subst I;cases y with
  |nil=>rw[hf];exact q
  |cons c y=>rw[hf];exact q
 |a::x,[],us,vs,i,I,l,hf,q=>by
  subst l;rw[List.zip_nil_right,hf];exact q
 |a::x,c::y,us,vs,i,I,l,hf,q=>by
  obtain⟨t,us,rfl,I⟩:=I;obtain⟨M,vs,rfl,l⟩:=l;refine kat_cons (EqAt.int_int a t c M prog w _ _ ?_);rw[lt]at q;by_cases e:a=c
  .rw[if_pos e]at q;rw[beq_iff_eq.mpr e];refine kat_yes (gw x y us vs _ I l Rs q)
  .rw[if_neg e]at q;rw[beq_eq_false_iff_ne.mpr e];exact kat_no (lt_int q)
theorem Bi:∀ {us},(∀v∈us,∃x,XY h x v)->∃fs,KatTups h us fs/\fs.length=us.length/\∀v∈fs,∃n t,v=.int n t
 |[],_=>⟨[],KatTups.nil,rfl,fun _ h=>by cases h⟩
 |v::us,e=>by
  obtain⟨fs,Z,h2,h3⟩:=Bi fun v I=>e v (aQ _ I);obtain⟨x,a,T,rfl,M,l,k3⟩:=e v aS;obtain⟨o,U,Y,n,hd⟩:=id M;cases x with
  |nil=>lia
  |cons c x=>
   obtain⟨t,rest,rfl,l⟩:=l;exact⟨.int c t::fs,KatTups.cons U Y hd rfl Z,by grind,fun v I=>by
    grind⟩
def eF{ks:List AAS}(hl:us.length=ks.length)(Z:∀(i:Nat) x u,ks[i]? = some x->us[i]? = some u->XY h0 x u):GS.ZJ ord prog w h0 0 ks us :=
 ⟨hl,fun κ=>∃b,κ=tuples' b,fun A E s Q I h=>by
  obtain⟨fs,t1,t2,t3⟩:=Bi fun v l=>by
   obtain⟨i,hi,rfl⟩:=List.getElem_of_mem l;exact⟨_,(Z i _ _ (ao AS) (ao hi)).ext I⟩
  by_cases Y:us=[]
  .subst Y;exact TH.oo (fun v l=>by cases l) (h _ ⟨_,rfl⟩)
  refine kat_kind (T:=.type "int") t1 (by grind) (fun v l=>?_) AC (h _ ⟨_,rfl⟩);obtain⟨n,t,rfl⟩:=t3 v l;exact Looks.now,
  fun A s κ I hr M E i j x y u v Q h1 h2 h3 h4 q=>by
  obtain⟨b,rfl⟩:=M;obtain⟨a,i1,rfl,k1,k2,k3⟩:=((Z i x u h3 h1).ext I);obtain⟨a',j1,rfl,m1,m2,m3⟩:=((Z j y v h4 h2).ext I);obtain⟨o,ho,hc,n,hd⟩:=id k1;obtain⟨o2,U,hc2,n2,hd2⟩:=id m1;exact kat_lt ho hd U hd2 (gw x y _ _ 0 k2 m2 (by rw[<-k2.length,<-m2.length];simp) q)⟩
end
end IT
namespace GS
open PySem PySem.W PyProof.Rows PySem.SeqAt TH
section
variable{prog:F0b}{w:F0c}{A:F0d}{E:AAN}{s:SD}{us:AAM}
def NN(hs:(d==sysModules)=false)(ho:s.heap.get? d=some o)(hc:o.cls=.type "dict")(T:o.data=.dict es ep)(hA:A.handled=none) (U:es.toList.map (·.key)=us)(hz:us.length<=1000):ID prog w A E s (.ref d) us:=fun Q h=>by
 have hes:es.size=us.length:=by rw[<-U,OF,(WY)]
 refine gather (kf hs hc T) hA ho (by rw[sizeLine_eq];lia) fun h1 tk I Y Z l=>?_;rw[(show I.toList=us by
  rw[<-U];apply bX;intro j;rw[(Ar)];by_cases M:j<I.size
  .obtain⟨e,e2,e3⟩:=l.2 j _ (Array.getElem?_eq_getElem M)
   simp_all
  .rw[List.getElem?_eq_none (by simpa using M),List.getElem?_eq_none (by simpa using (show ¬j<es.size by rw[<-l.1];exact M))]
   rfl)]
 exact h h1 tk Z (aa Y)
end
end GS
namespace L2
open PySem PySem.Spec PyProof.Rows
def mZ(H:Hp)(x:V)(Q:VK):Prop:=∃(a:AD) (kvs:List _) (ps:List (List Int)),x=.ref a/\H a=some (.dT kvs)/\kvs.length<=1000/\(∀prog w,GS.Runs IT.ord prog w ps.reverse)/\(∀p∈ps,p≠[])/\kvs.map Fk=ps.map (·.map Sum.inl) /\
 ∀D (L:List (List Int×AD)),H D=none->(L.map Fk).Perm ps->L.Pairwise (fun p q=>IT.ord.kle q.1 p.1)->(∀l∈L,H l.2=some (.tup (l.1.map V.int)))->Q (.ref D) (upd H D (.lst Pi))
def eL{X:Cx}{pins:LE}{σ:St}{H:Hp}{s:SD}{Q:VK}(I:BH){x:V}{v:VL}(rx:RelV x v)(hu:IS)(hc:PP)(q:mZ H x Q):wpAny B1 X.A (call (.builtin "sorted") [v] [(Str.ofString "reverse",.bool true)]) (EP X pins σ Q) X.xe s:=by
 obtain⟨a,kvs,ps,rfl,ha,hk,hr,hne,hps,q⟩:=q;cases rx;obtain⟨hz,nd,xs,kt,o,es,ep,r1,r2,r3,r4,r5,r6⟩:=VP I.Ac ha;have U:ps.length=kvs.length:=by
  have:=af List.length hps
  simpa using this.symm
 have T:xs.length=kvs.length:=(Paired.length kt).symm
 let M:List (List Int×AD):=ps.zip (xs.map (·.2.1))
 have hL:M.length=kvs.length:=by simp[M,U,T]
 have l1:M.map Fk=ps:=by
  exact List.map_fst_zip (by simp[U,T])
 have l2:M.map (·.2)=xs.map (·.2.1):=by
  exact List.map_snd_zip (by simp[U,T])
 have hkey:es.toList.map (·.key)=M.map fun l=>Value.ref l.2:=by
  have:(M.map fun l=>Value.ref l.2)=(M.map (·.2)).map Value.ref:=by simp
  rw[this,l2];apply bX;intro j;rw[(Ar),(SO),entry_at r4 j,(BZ),(Ar)];cases xs[j]? <;> rfl
 have hin:∀l∈M,H l.2=some (.tup (l.1.map V.int)):=fun l hl=>by
  obtain⟨j,hj⟩:=bT hl;have Z:(M.map Fk)[j]? = some l.1:=by rw[(Ar),hj];rfl
  have h2:(M.map (·.2))[j]? = some l.2:=by rw[(Ar),hj];rfl
  rw[l1]at Z;rw[l2,(Ar)]at h2;obtain⟨y,hy,e⟩:=aC.mp h2;have hjk:j<kvs.length:=by rw[<-T];exact(aD.mp hy).1
  obtain⟨kv,hkv⟩:∃kv,kvs[j]? = some kv:=⟨kvs[j],by simp[hjk]⟩;have Y:=Np kt hkv hy;have h3:kv.1=l.1.map Sum.inl:=by
   have:=af (·[j]?) hps;simp only[List.getElem?_map,hkv,Z]at this;exact ag this
  have h4:H y.2.1=some (.tup (kv.1.map kV)):=Y.1 ▸ Y.2.1
  rw[e,h3,fZ]at h4;exact h4
 refine GS.XD (b:=true) ([]:List Int) (GS.NN (A:=X.A.in1) nd r1 r2.1 r3 (I.ok.hd hc) hkey (by rw[OF,hL];exact hk)) (IT.eF (by rw[OF,hL,U]) fun i x u Z h2=>by
  have Z:(M.map Fk)[i]? = some x:=by rw[l1];exact Z
  rw[(Ar)]at Z h2;obtain⟨l,e1,rfl⟩:=aC.mp Z;rw[e1]at h2;cases h2;have hm:=aJ e1;obtain⟨its,v1,Y,_⟩:=I.tuple (A5.of (K:=X.K) (hin l hm));exact⟨_,its,rfl,Y,RL v1,hne _ (l1 ▸ aI.mpr ⟨l,hm,rfl⟩)⟩) (by rw[OF,hL];exact hk) (hr _ _) AS fun h' D tk ix e1 hD k1 gD Y p2=>?_
 rw[OF]at Y
 let L:List (List Int×AD):=ix.map fun i=>M.getD i ([],0)
 have hix:∀i∈ix,i<M.length:=fun i hi=>bL.mp (Y.mem_iff.mp hi);have hp:L.Perm M:=by
  have:=Y.map fun i=>M.getD i ([],0);refine this.trans (List.Perm.of_eq ?_);apply bX;intro j;rw[(Ar)];by_cases hj:j<M.length
  .simp[hj]
  .rw[List.getElem?_eq_none (by simpa using hj),List.getElem?_eq_none (by simpa using hj)]
   rfl
 have e3:ix.map (fun i=>(M.map fun l=>Value.ref l.2).getD i Value.none)=L.map fun l=>Value.ref l.2:=by
  rw[(BZ)];refine ai fun i hi=>?_;have:=hix i hi;simp[this]
 have e4:ix.map (fun i=>ps.getD i [])=L.map Fk:=by
  rw[<-l1,(BZ)];refine ai fun i hi=>?_;have:=hix i hi;simp[this]
 rw[e3]at gD;simp only[if_true]at p2
 clear_value L
 have e5:(L.map fun l=>Value.ref l.2)=(L.map (·.2)).map Value.ref:=by rw[(BZ)];rfl
 have e6:Pi=(L.map (·.2)).map V.ref:=by rw[(BZ)];rfl
 exact⟨.ref D,upd H D (.lst Pi),I.laid (t':=tk) k1 hD ⟨by rw[OF,hp.length_eq,hL];exact hz,L.map (fun l=>Value.ref l.2),e1,by rw[e5,e6];exact NO _,gD⟩,rfl,q D L (I.Ac.fresh hD) (by rw[<-l1];exact hp.map _) (List.pairwise_map.mp (e4 ▸ (p2))) fun l hl=>hin l (hp.mem_iff.mp hl)⟩
def rF(l:TE):TE:=fun σ H Q=>l σ H fun x I=>mZ I x Q
def iw{p pos kp M}{j}(hu:IS)(hc:PP)(hg:Gl X "sorted")(hm:X.mg "sorted" = none)(ho:PE X o U) (T:backTo pos (starEach [o] X.env)=(false,eval o X.env)::backTo pos (starEach [] X.env):=by rfl)(l:(backTo pos (starEach [o] X.env)).any Fk=false:=by rfl):PE X (.Call (.Name "sorted" p) [o] [⟨some "reverse",.Constant Iz j M,kp⟩] pos) (rF U):=by
 intro pins s σ H Q I h;refine bG (FW I hg hm boot_sorted (callWith_kw ?_ T l) AC AC);rw[T];exact bM (Aw (ho pins s σ H _ I h) fun v s1 ⟨x,H1,I1,Y,Z⟩=>Calls.spliced_nil (kws_cons (Constant_bool (kws_nil (eL I1 Y hu hc Z)))))
end L2
namespace L2
open PySem PySem.Spec PyProof.Rows
def nH(H:Hp)(x:V)(Q:VK):Prop:=∃(a:AD) (kvs:List _) (ps:List (List Int)),x=.ref a/\H a=some (.dT kvs)/\kvs.length<=1000/\(∀prog w,GS.Runs IT.ord prog w ps)/\(∀p∈ps,p≠[])/\kvs.map Fk=ps.map (·.map Sum.inl) /\
 ∀D (L:List (List Int×AD)),H D=none->(L.map Fk).Perm ps->L.Pairwise (fun p q=>IT.ord.kle p.1 q.1)->(∀l∈L,H l.2=some (.tup (l.1.map V.int)))->Q (.ref D) (upd H D (.lst Pi))
def eA{X:Cx}{pins:LE}{σ:St}{H:Hp}{s:SD}{Q:VK}(I:BH){x:V}{v:VL}(rx:RelV x v)(hu:IS)(hc:PP)(q:nH H x Q):wpAny B1 X.A (call (.builtin "sorted") [v]) (EP X pins σ Q) X.xe s:=by
 obtain⟨a,kvs,ps,rfl,ha,hk,hr,hne,hps,q⟩:=q;cases rx;obtain⟨hz,nd,xs,kt,o,es,ep,r1,r2,r3,r4,r5,r6⟩:=VP I.Ac ha;have U:ps.length=kvs.length:=by
  have:=af List.length hps
  simpa using this.symm
 have T:xs.length=kvs.length:=(Paired.length kt).symm
 let M:List (List Int×AD):=ps.zip (xs.map (·.2.1))
 have hL:M.length=kvs.length:=by simp[M,U,T]
 have l1:M.map Fk=ps:=by
  show(ps.zip _).map Prod.fst=ps;exact List.map_fst_zip (by simp[U,T])
 have l2:M.map (·.2)=xs.map (·.2.1):=by
  show(ps.zip _).map Prod.snd=_;exact List.map_snd_zip (by simp[U,T])
 have hkey:es.toList.map (·.key)=M.map fun l=>Value.ref l.2:=by
  have:(M.map fun l=>Value.ref l.2)=(M.map (·.2)).map Value.ref:=by simp
  rw[this,l2];apply bX;intro j;rw[(Ar),(SO),entry_at r4 j,(BZ),(Ar)];cases xs[j]? <;> rfl
 have hin:∀l∈M,H l.2=some (.tup (l.1.map V.int)):=fun l hl=>by
  obtain⟨j,Z⟩:=bT hl;have h1:(M.map Fk)[j]? = some l.1:=by rw[(Ar),Z];rfl
  have h2:(M.map (·.2))[j]? = some l.2:=by rw[(Ar),Z];rfl
  rw[l1]at h1;rw[l2,(Ar)]at h2;obtain⟨y,hy,e⟩:=aC.mp h2;have hjk:j<kvs.length:=by rw[<-T];exact(aD.mp hy).1
  obtain⟨kv,hkv⟩:∃kv,kvs[j]? = some kv:=⟨kvs[j],by simp[hjk]⟩;have Y:=Np kt hkv hy;have h3:kv.1=l.1.map Sum.inl:=by
   have:=af (·[j]?) hps;simp only[List.getElem?_map,hkv,h1]at this;exact ag this
  have h4:H y.2.1=some (.tup (kv.1.map kV)):=Y.1 ▸ Y.2.1
  rw[e,h3,fZ]at h4;exact h4
 refine GS.Vc ([]:List Int) (GS.NN (A:=X.A.in1) nd r1 r2.1 r3 (show X.A.in1.handled=none from I.ok.hd hc) hkey (by rw[OF,hL];exact hk)) (IT.eF (by rw[OF,hL,U]) fun i x u h1 h2=>by
  have h1:(M.map Fk)[i]? = some x:=by rw[l1];exact h1
  rw[(Ar)]at h1 h2;obtain⟨l,e1,rfl⟩:=aC.mp h1;rw[e1]at h2;cases h2;have hm:=aJ e1;obtain⟨its,v1,Y,_⟩:=I.tuple (A5.of (K:=X.K) (hin l hm));exact⟨_,its,rfl,Y,RL v1,hne _ (l1 ▸ aI.mpr ⟨l,hm,rfl⟩)⟩) (by rw[OF,hL];exact hk) (show GS.Runs IT.ord X.prog X.w ps from hr _ _) AS fun h' D tk ix e1 hD k1 gD Y p2=>?_
 rw[OF]at Y
 let L:List (List Int×AD):=ix.map fun i=>M.getD i ([],0)
 have hix:∀i∈ix,i<M.length:=fun i hi=>bL.mp (Y.mem_iff.mp hi);have hp:L.Perm M:=by
  have:=Y.map fun i=>M.getD i ([],0);refine this.trans (List.Perm.of_eq ?_);apply bX;intro j;rw[(Ar)];by_cases Z:j<M.length
  .rw[List.getElem?_range Z];simp[Z]
  .rw[List.getElem?_eq_none (by simpa using Z),List.getElem?_eq_none (by simpa using Z)]
   rfl
 have e3:ix.map (fun i=>(M.map fun l=>Value.ref l.2).getD i Value.none)=L.map fun l=>Value.ref l.2:=by
  rw[(BZ)];refine ai fun i hi=>?_;have:=hix i hi;simp[this]
 have e4:ix.map (fun i=>ps.getD i [])=L.map Fk:=by
  rw[<-l1,(BZ)];refine ai fun i hi=>?_;have:=hix i hi;simp[this]
 rw[e3]at gD
 clear_value L
 have e5:(L.map fun l=>Value.ref l.2)=(L.map (·.2)).map Value.ref:=by rw[(BZ)];rfl
 have e6:Pi=(L.map (·.2)).map V.ref:=by rw[(BZ)];rfl
 exact⟨.ref D,upd H D (.lst Pi),I.laid (t':=tk) k1 hD ⟨by rw[OF,hp.length_eq,hL];exact hz,L.map (fun l=>Value.ref l.2),e1,by rw[e5,e6];exact NO _,gD⟩,rfl,q D L (I.Ac.fresh hD) (by rw[<-l1];exact hp.map _) (List.pairwise_map.mp (e4 ▸ (p2))) fun l hl=>hin l (hp.mem_iff.mp hl)⟩
def YG(M:IS)(T:PP):C2 X (.builtin "sorted") (fun xs H Q=>∃x,xs=[x]/\nH H x Q):=by
 rintro pins s σ H xs us Q I r ⟨x,rfl,q⟩;obtain⟨u,rfl,l⟩:=vals1 r;exact eA I l M T q
def Q4:List Key->Option (List Int)
 |[]=>some []
 |.inl i::r=>(Q4 r).map (i :: ·)
 |_=>none
def LZ:List (List Key)->Option (List (List Int))
 |[]=>some []
 |k::r=>(Q4 k).bind fun p=>(LZ r).map (p :: ·)
theorem Va:∀ {k} {p},Q4 k=some p->k=p.map Sum.inl
 |[],_,h=>by cases h;rfl
 |.inl i::r,p,h=>by
  obtain⟨q,l,rfl⟩:=aC.mp h;rw[Va l];rfl
 |.inr _::_,_,h=>by cases h
theorem T6:∀ {ks} {ps},LZ ks=some ps->ks=ps.map (·.map Sum.inl)
 |[],_,h=>by cases h;rfl
 |k::r,ps,h=>by
  obtain⟨p,M,I⟩:=aA.mp h;obtain⟨q,l,rfl⟩:=aC.mp I;rw[Va M,T6 l];rfl
def NP(p q:AAS):Bool:=!(IT.lt q p)
def sortI(ps:List AAS):List AAS:=ps.mergeSort NP
abbrev tupI(p:List Int):PD:=.tuple (p.map .int)
def Jf(kvs:List (List Key×PD)):AAP:=(LZ (kvs.map Fk)).bind fun ps=>if ps.length<64/\(ps.all fun p=>decide (p≠[]))=true then some (.list ((sortI ps).map tupI)) else none
def Hz:NP p q=true ↔ IT.ord.kle p q:=by
 show(!_)=true ↔ IT.lt q p=false;simp
def gE p q r (h:NP p q=true) (k:NP q r=true):NP p r=true:=Hz.mpr (KeyOrd.kle_trans (Hz.mp h) (Hz.mp k))
def eT p q:(NP p q||NP q p)=true:=by
 unfold NP;cases h:IT.lt q p with
 |false=>rfl
 |true=>
  cases k:IT.lt p q with
  |false=>rfl
  |true=>have:=IT.lt_trans _ _ _ h k;rw[IT.lt_irrefl]at this;assumption
def sortI_perm ps:(sortI ps).Perm ps:=List.mergeSort_perm ps NP
def NJ ps:(sortI ps).Pairwise fun p q=>NP p q=true:=List.pairwise_mergeSort gE eT ps
def jX(h:l.Perm ps)(k:l.Pairwise fun p q=>NP p q=true):l=sortI ps :=
 (h.trans (sortI_perm ps).symm).eq_of_pairwise (fun p q _ _ M I=>IT.D3 _ _ (Hz.mp I) (Hz.mp M)) k (NJ ps)
def Ck.keys:∀ {t} {r},Ck G t r->r.map Fk=t.map Fk
 |[],r,h=>by subst h;rfl
 |q::t,r,h=>by
  obtain⟨u,I,rfl,M,l⟩:=h;rw[(BM),(BM),l.keys]
theorem Xs:∀ {L:List (List Int×AD)},(∀l∈L,H l.2=some (.tup (l.1.map V.int)))->Ad (L2.Bi G H) (L.map fun l=>tupI l.1) Pi
 |[],_=>.nil
 |l::L,h=>by
  refine .cons (⟨l.2,l.1.map V.int,rfl,?_,M8 _⟩) (Xs fun q I=>h q (.tail _ I));unfold L2.Bi;rw[h l Ch]
section
variable{X:Cx}{j:Nat}{y:Str}{np p pos:Pos}
def lY(hu:IS)(hc:PP)(hg:Gl X "sorted")(hm:X.mg "sorted" = none)(hv:PE X (.Name y np) (IL j))(M:starEach [.Name y np] X.env=(false,eval (.Name y np) X.env)::starEach [] X.env:=by rfl)(hpl:(backTo pos (starEach [] X.env)).any Fk=false:=by rfl):DE X (.Call (.Name "sorted" p) [.Name y np] [] pos) (fun δ=>(Ei j δ).bind Jf):=by
 refine⟨_,EW (YG hu hc) hg hm PyProof.Rows.boot_sorted (AV hv Av M) ,fun δ z hz G0 H0 G H σ ts Q R k=>?_⟩;obtain⟨kvs,h1,h2⟩:=aA.mp hz;obtain⟨ad,_,k1,k2,k3,k4,⟨r,rfl,U⟩⟩:=R.own j _ (RB h1);obtain⟨ps,h3,T⟩:=aA.mp h2;split at T
 case isFalse=>cases T
 rename_i I;cases T;have e:=T6 h3;have hl:r.length=ps.length:=by
  simpa[U.len]using (af List.length e)
 refine⟨.ref ad,k1,.ref ad,rfl,ad,r,ps,rfl,k4,by lia,fun _ _=>GS.Hb I.1,fun p hp=>ak (av.mp I.2 p hp),by rw[U.keys];exact e,fun D L hD p1 p2 Z=>?_⟩;have Y:=R.Bi.N1 (Xs Z) hD;rw[<-(show(sortI ps).map tupI=L.map fun l=>tupI l.1 by
  rw[<-jX p1 (List.pairwise_map.mpr (p2.imp fun h=>Hz.mpr h)),(BZ)];rfl)]at Y
 exact k _ _ _ Y
end
end L2
namespace L2
open PySem PySem.Spec PyProof.Rows
def tF{n:Nat}(h:n+64<cLine):n+1<cLine:=by lia
def X9 t l items n dd sl (M:items.isEmpty=false):Meets (Builtin.«tuple.__mul__» { pos:=[.ref l,.int 0 t]}) fun _ R s=>s.heap.get? l=some { cls:=.type "tuple",dict:=dd,data:=.seq items n,slots:=sl}/\R (.ok (.ret Go)) {s with heap:=s.heap.push { cls:=.type "tuple",data:=.seq #[]} } :=
 Meets.of_wp fun prog w A R s h=>let⟨I,h⟩:=h;Wb (Wb (aB (aB (Wb (wpAny_tupleItemsOf I rfl (bS AS (Wb (aj (aB ⟨_,rfl,h⟩) (bC _)))))))))
section
variable{X:Cx}
def rR:R2:=fun x y H Q=>∃a xs,x=.ref a/\y=.int 0/\H a=some KK/\xs≠[]/\∀p,H p=none->Q (.ref p) (upd H p (.tup []))
def lC:Cj X (binaryOp .Mult) rR:=by
 rintro pins s σ H x y v u Q I Z Y ⟨a,xs,rfl,rfl,ha,T,q⟩;cases Z;obtain⟨t,rfl⟩:=Y;obtain⟨l,r1,p1,_⟩:=I.tuple (A5.of ha);obtain⟨⟨cls,U,data,sl⟩,M,hc,n,hd⟩:=id p1;subst hc hd;refine wpAny_binaryOp_repeat_ref AC ⟨_,M,rfl⟩ (fun s'=>rfl) KC F.fills_int_mul F.slot_int_rmul ND F.slot_int_index.lookup
  (call_meets F.slot_int_rmul (typeIs_int s 0 t) F.entry_int_rmul (F.args_int_rmul_2 _ _) (Lu 0 t a l.toArray n U sl) ⟨M,rfl,⟨_,M,rfl⟩,call_meets F.slot_tuple_mul ⟨_,M,rfl⟩ F.entry_tuple_mul (F.args_tuple_mul_2 _ _) (X9 t a l.toArray n U sl (show l.toArray.isEmpty=false by
  cases l with
  |nil=>exact absurd (r1.OZ.mp rfl) T
  |cons=>simp)) ⟨M,⟨.ref s.heap.objs.size,_,I.laid (fun b ob q=>aF _ q) LK ?_,rfl,q _ (I.Ac.fresh LK)⟩⟩⟩)
 exact⟨bC _,[],.nil,IsTup.new _ _⟩
def mz:PD->PD->Option PD:=fun x y=>match x,y with|.tuple a,.int k=>(if a.length≠0/\k=0 then some (.tuple []) else none)|_,_=>none
def GW:PD->PD->Option PD:=PV nV mz
def ik:DH X (binaryOp .Mult) GW:=qq.or (by
  refine⟨_,lC,fun x y z I G0 H0 G H σ δ ts u v Q T du dv k=>?_⟩;unfold mz at I;split at I
  .split at I
   .rename_i U;cases I;obtain⟨p,xs,rfl,Z,Y⟩:=du;subst dv;refine⟨p,xs,rfl,by lia,T.ins _ _ Z,fun z=>U.1 (by rw[<-Y.len,z];rfl),fun l M=>k _ _ _ (T.cW .nil M)⟩
   lia
  lia)
end
end L2
namespace L2
open PySem PySem.Spec PyProof.Rows
section
variable{prog:F0b}{w:F0c}{K:Type}[DecidableEq K]{knd:HeapKind prog w K}{A:F0d}{E:AAN}{s:SD}{d a:AD}{k:K}{xs:List (K×AD×VL)}{dflt:VL}
def a7(h:∀(j:Nat) p,xs[j]?≠some (k,p)):atKey xs k=none:=by
 unfold atKey;rw[Option.map_eq_none_iff,List.find?_eq_none];intro x l z;obtain⟨j,I⟩:=bT l;exact h j x.2 (by rw[I,<-(ak z)])
def il(nd:(xs.map Fk).Nodup){j:Nat}(h:xs[j]? = some (k,p)):atKey xs k=some p:=by
 unfold atKey
 induction xs generalizing j with
 |nil=>simp at h
 |cons x xs l=>
  rw[(Jk)];cases j with
  |zero=>
   simp_all
  |succ j=>
   rw[(BM),List.nodup_cons]at nd;rw[decide_eq_false (fun z=>nd.1 (by rw[z];exact aI.mpr ⟨(k,p),List.mem_of_getElem? h,rfl⟩))];exact l nd.2 h
def Q7(hr:knd.room A)(hk:knd.is s.heap k a)(hd:s.heap.DictOfH knd d xs)(hsz:xs.length<=sizeLine) (hp:∀p,atKey xs k=some p->Q p.2 {s with toks:=s.toks+knd.draws k}) (ha:atKey xs k=none->∀h',h'.DictOfH knd d (xs++[(k,a,dflt)])->Heap.SameBut d s.heap h'->Q dflt {s with heap:=h',toks:=s.toks+knd.draws k}):wpAny As A (dictSetDefault d Jc dflt) Q E s:=by
 obtain⟨o,es,ep,I,h2,U,T,h5,h6⟩:=hd;refine aT (Wb (knd.pyHash hr hk (Wb (wpAny_dictFind_heap hr hk I U T h5 h6 (fun hn=>?_) (fun j p M=>?_)))))
 .refine Wb (ax (Wb (wpAny_updateDictKeys I U (aB ?_) ?_ ?_)))
  .have Y:=aZ s.heap d (Obj.mapDictKeys fun x=>x.push { hash:=knd.hash k,key:=.ref a,val:=dflt});refine ha (a7 hn) _ ?_ Y;obtain⟨oc,od,oda,osl⟩:=o;cases U;refine⟨_,es.push _,ep+1,Heap.get?_update_self _ I rfl,h2,rfl,?_,fun x l=>?_,?_⟩
   .rw[Array.toList_push,T,(DC)];rfl
   .rcases aX.mp l with l|l
    .exact knd.keeps (h5 x l) I rfl Y
    .rw[List.mem_singleton.mp l];exact knd.keeps hk I rfl Y
   .rw[(DC),List.nodup_append];refine⟨h6,by simp,fun y hy z hz=>?_⟩;intro e;rw[e,(show z=k by simpa using hz)]at hy;obtain⟨x,l,Z⟩:=aI.mp hy;obtain⟨j,M⟩:=bT l;exact hn j x.2 (by rw[M,<-Z])
  .have:=by
    simpa using (af List.length T)
   lia
  .simp
 .refine Wb (wpAny_dictEntries I U ?_);rw[(show es[j]? = some (entryOfKey knd (k,p)) by
   rw[<-(SO),T,(Ar),M];rfl)]
  exact Wb (ax (aB (hp p (il h6 M))))
def Oi(M:(d==sysModules)=false):MeetsIn prog w (Builtin.«dict.setdefault» { pos:=[.ref d,.ref a,dflt]}) fun A R s => knd.room A.in1/\∃k xs,knd.is s.heap k a/\s.heap.DictOfH knd d xs/\xs.length<=sizeLine /\(∀p,atKey xs k=some p->R (.ok (.ret p.2)) {s with toks:=s.toks+knd.draws k}) /\(atKey xs k=none->∀h',h'.DictOfH knd d (xs++[(k,a,dflt)])->Heap.SameBut d s.heap h'->R (.ok (.ret dflt)) {s with heap:=h',toks:=s.toks+knd.draws k}):=by
 rintro A R s ⟨U,k,xs,hk,hd,l,Y,ha⟩;refine Wb ((fun h=>by
  exact Wb (wpAny_notOrdered_dict hd.typeIs (Wb (aB (Wb (Wb (aB (Wb (aB (aB (Wb (aB (aB h))))))))))))) ?_)
 dsimp only;rw[if_neg AS];refine Wb (Q7 U hk hd l (fun p h=>?_) fun h h' I T=>?_)
 .exact aB (Y p h)
 .exact aB (ha h h' I T)
end
def jr{σ:St}(hu:A.units+1<cLine)(I:BH)(e:H a=some (.dT kvs))(eb:H b=some (.tup (k.map kV)))(hl:kvs.length<sizeLine)(rz:RelV z r) (hp:∀v Y s',Co kvs k=some v->Inv X pins σ H s'->RelV v Y->Q Y s')(ha:Co kvs k=none->∀s',Inv X pins σ (upd H a (.dT (kvs++[(k,z)]))) s'->Q r s'):wpAny B1 A (call (.builtin "dict.setdefault") [.ref a,.ref b,r]) Q E s:=by
 obtain⟨zz,hd,xs,rel,dd⟩:=VP I.Ac e;have T:=rel.val k;refine call_meetsIn PySem.F.slot_dict_setdefault dd.typeIs PySem.F.entry_dict_setdefault (PySem.F.args_dict_setdefault_3 _ _ _) (Oi hd) ⟨tupleKind_room_in1 hu,k,xs,N2 I.Ac eb,dd,(show xs.length<=sizeLine by rw[<-Paired.length rel];exact zz),fun p h=>?_,fun h h' U sb=>?_⟩
 .rw[h]at T;cases l:Co kvs k with
  |none=>rw[l]at T;exact T.elim
  |some v=>rw[l]at T;exact hp v _ _ l (I.tok _) T
 .have l:Co kvs k=none:=by
   cases l:Co kvs k with
   |none=>rfl
   |some v=>rw[l,h]at T;exact T.elim
  refine ha l _ ?_;obtain⟨q,es,ep,Z,h2,h3,h4,_,h5⟩:=U;have M:=rel.put k eb rz;rw[ir _ l,storedH_new h]at M;refine SY I (by rw[e];exact True.intro) sb ⟨q,Z⟩ ⟨by rw[(Ca)];assumption,hd,_,M.keeps fun c ys ec=>?_,q,es,ep,Z,h2,h3,h4,h5⟩;rw[AM (mB ec e M0)];exact ec
def qU(T ty M:TE):TE:=fun σ H Q=>T σ H fun x I=>∃a,x=.ref a/\rG I a/\ty σ I fun y U=>M σ U fun z l=>∃kvs k b,l a=some (.dT kvs)/\y=.ref b/\l b=some (.tup (k.map kV))/\kvs.length<sizeLine /\
 (∀v,Co kvs k=some v->Q v l)/\(Co kvs k=none->Q z (upd l a (.dT (kvs++[(k,z)]))))
def iO(hu:X.A.units+1<cLine)(ho:PE X o td)(he:PE X e ty)(hf:PE X f Z)(m:M2 X o "setdefault" apos e f cpos):PE X (.Call (.Attribute o "setdefault" apos) [e,f] [] cpos) (qU td ty Z):=by
 intro pins s σ H Q I h;refine wpAny_Call_method m.base m.BA m.line PySem.F.plainAttrs_dict PySem.F.slot_dict_setdefault PySem.F.type_dict_setdefault (Aw (ho pins s σ H _ I h) fun u s1 ⟨x,H1,Y,rx,a,ex,d,q1⟩=>?_);subst ex;obtain rfl:u=Value.ref a:=rx;obtain⟨t1,t2,_⟩:=iK Y d;refine⟨t1,t2,?_⟩;rw[m.trees];refine Calls.callWith_builtin rfl (Calls.evalArgs_plain (bM (Aw (he pins s1 σ H1 _ Y q1) fun iv s2 ⟨y,H2,I2,ry,q2⟩=>
  bM (Aw (hf pins s2 σ H2 _ I2 q2) fun fv s3 ⟨z,H3,I3,U,kvs,k,b,ea,ey,eb,hl,q3,q4⟩=>Calls.spliced_nil ?_))))
 subst ey;obtain rfl:iv=Value.ref b:=ry;exact jr hu I3 ea eb hl U (fun v w' s4 l T M=>⟨v,H3,T,M,q3 v l⟩) fun l s4 T=>⟨z,_,T,U,q4 l⟩
end L2
namespace HT
open PySem PyProof.Rows
def M5{lo hi}(l:IsTup s.heap t items)(U:s.heap.IsSliceOf sl Z Y .none)(pl:IsPart Z lo)(pu:IsPart Y hi) (T:CA items.size 0 lo=0/\CA items.size items.size hi=items.size)(h:Q (.ref t) s):wpAny As A (getItem (.ref t) (.ref sl)) Q E s:=by
 obtain⟨os,I,M,hds⟩:=id U;unfold getItem
 try with_reducible refine aT ?_
 refine Wb (wpAny_sequenceKey l.typeIs AC (Wb (ae l.typeIs bP
  (aU bP l.typeIs entry_tuple_getitem ?_ (args_tuple_getitem _ _)))))
 show wpAny _ _ (Builtin.Tuple.tupleItemsOf (.ref t)>>=_) _ _ s;refine Wb (tupleItemsOf_ l (Wb (wpAny_typeOf (⟨os,I,M⟩) (Wb (Jy U pl pu ?_)))));show wpAny _ _ (if _=true then _ else _) _ _ s;rw[if_pos (by rw[T.1,T.2];simp)];refine Wb (Wb (wpAny_typeOf l.typeIs (aB ?_)))
 first
  |exact Wb (ax (aB ⟨_,rfl,wpAny_pure h⟩))
  |exact Wb _
end HT
namespace L2
open PySem PySem.Spec PyProof.Rows
def nF(K:Fg):V->Option Int->Option Int->Hp->VK->Prop:=fun x lo hi H Q=>∃a xs,x=.ref a/\A5 K H a xs /\
 ((HT.CA xs.length 0 lo=0/\HT.CA xs.length xs.length hi=xs.length)->Q Jc H)/\(¬(HT.CA xs.length 0 lo=0/\HT.CA xs.length xs.length hi=xs.length)->∀p,H p=none->Q (.ref p) (upd H p (.tup (L7 xs lo hi))))
def pI:UI X (nF X.K):=by
 rintro pins s σ H x v vl vu lo hi sl Q I T hs Y U ⟨a,xs,rfl,Z,q1,q2⟩;by_cases M:HT.CA xs.length 0 lo=0/\HT.CA xs.length xs.length hi=xs.length
 .cases T;obtain⟨l,r,ht,hz⟩:=I.tuple Z;exact⟨"tuple",_,PyProof.Rows.slot_tuple_getitem.lookup,ht.typeIs,HT.M5 ht hs Y U (by rw[(show l.toArray.size=xs.length by exact r.length.symm)];assumption) ⟨.ref a,H,I,rfl,q1 M⟩⟩
 .exact iE pins s σ H _ v vl vu lo hi sl Q I T hs Y U ⟨a,xs,rfl,Z,M,q2 M⟩
end L2
namespace L2
open PySem PySem.Spec PyProof.Rows
section
variable{X:Cx}
abbrev Qe(i:Nat)(g h:L0):Dv->Option PD:=fun δ=>(g δ).bind fun k=>(h δ).bind fun u=>(Ei i δ).bind fun kvs=>(MO k).map fun q=>(LD kvs q).getD u
def lG(hu:X.A.units+1<cLine)(l:PE X Iv (IL i))(hk:DE X a g)(hd:DE X c h)(m:M2 X Iv "get" ap a c cp:=by exact⟨rfl,rfl,rfl,rfl⟩):DE X (.Call (.Attribute Iv "get" ap) [a,c] [] cp) (Qe i g h):=by
 obtain⟨tk,Y,kk⟩:=hk;obtain⟨td,Z,kd⟩:=hd;refine⟨_,jA hu l Y Z m,fun δ z hz G0 H0 G H σ ts Q U k=>?_⟩;obtain⟨y,h1,I⟩:=aA.mp hz;obtain⟨u,h3,I⟩:=aA.mp I;obtain⟨kvs,h4,h5⟩:=aA.mp I;obtain⟨ks,h6,rfl⟩:=aC.mp h5;have hi:=RB h4;obtain⟨ad,_,T,k2,k3,k4,⟨r1,rfl,k5⟩⟩:=U.own i _ hi;refine⟨.ref ad,T,ad,rfl,.inr ⟨_,.inl k4⟩,kk δ _ h1 G0 H0 G H σ ts _ U fun v G1 H1 R1=>kd δ _ h3 G0 H0 G1 H1 σ _ _ R1 fun w G2 H2 R2=>?_⟩;obtain⟨b,rfl,hb⟩:=Tg (R2.BE (y,v) (.tail _ Ch)) h6;obtain⟨ad',_,M,m2,m3,m4,⟨r2,rfl,m5⟩⟩:=R2.own i _ hi;rw[T]at M;cases M;refine⟨_,LC.t m4 (R2.ins _ _ hb),k _ _ _ (R2.drop.drop.put ?_)⟩;have l:=m5.val (k:=ks);split at l
 .rename_i d e;obtain⟨v',n1,n2⟩:=l;rw[n1,e];exact n2
 .rename_i e;rw[l,e];exact R2.BE (u,w) Ch
end
def VR(i:Nat)(δ:Dv):Option D6:=match δ[i]? with
 |some (.own (.Ej g _))=>some g
 |_=>none
def tU(h:VR i δ=some g):∃p,δ[i]? = some (.own (.Ej g p)):=by
 unfold VR at h;split at h
 .simp_all
 .cases h
def XI(m:List PD->D6->Option PD):Sp:=fun vs H Q _=>∃ds x G d us g o,vs=us++[.ref d]/\m ds g=some x/\Ad G ds us/\AI G H/\H d=some o/\g.ok G d o/\G d=none /\
 ∀v G' H' o',AI G G'->Nw G H G'->AI G' H'->AI (less H d) H'->H' d=some o'->g.ok G' d o'->G' d=none->Du G' x v->Q v H'
structure fG(X:Cx)(i:Nat)(es:List Expr)(f:Dv->Option (List PyData)):Prop where
 ex:∃t,PA X es t/\∀δ xs,f δ=some xs->∀G0 H0 G H σ ts (Q:List V->Hp->Prop),Rw G0 H0 G H σ δ ts->(∀ad,σ[i]? = some (some (.ref ad))->∀vs G' H',Rw G0 H0 G' H' σ δ (xs.zip vs++ts)->vs.length=xs.length->Q (vs++[.ref ad]) H')->(∃ad,σ[i]? = some (some (.ref ad)))->t σ H Q
section
variable{X:Cx}{e:Expr}{es:AAU}{f:AAF}{fs:AAD}{pos p:Pos}{i:Nat}{y:Str}
def pQ(l:PE X (.Name y p) (IL i))(I:starEach [.Name y p] X.env=(false,eval (.Name y p) X.env)::starEach [] X.env:=by rfl):fG X i [.Name y p] (fun _=>some []) :=
 ⟨_,AV l Av I,fun δ xs h G0 H0 G H σ ts Q M k ⟨ad,ha⟩=>by cases h;exact⟨.ref ad,ha,k ad ha [] G H Rs rfl⟩⟩
def lF(ha:DE X e f)(Z:fG X i es fs)(Y:starEach (e::es) X.env=Fj::starEach es X.env:=by rfl):fG X i (e::es) (fun δ=>(f δ).bind fun x=>(fs δ).map fun xs=>x::xs):=by
 obtain⟨ta,I,T⟩:=ha;obtain⟨tr,pr,M⟩:=Z;refine⟨_,AV I pr Y,fun δ z U G0 H0 G H σ ts Q R0 k hi=>?_⟩;obtain⟨x,h1,h2⟩:=aA.mp U;obtain⟨xs,h3,rfl⟩:=aC.mp h2;refine T δ x h1 G0 H0 G H σ ts _ R0 fun u G1 H1 R1=>M δ xs h3 G0 H0 G1 H1 σ _ _ R1 (fun ad l vs G2 H2 R2 hl=>k ad l (u::vs) G2 H2 (R2.less fun q hq=>?_) (by simp[hl])) hi;simp at hq ⊢
 grind
abbrev J6(i:Nat)(m:List PD->D6->Option PD)(fs:On):Dv->Option PD:=fun δ=>(fs δ).bind fun ds=>(VR i δ).bind fun g=>m ds g
def kE{k}{fA}{x}{st}(T:Fn X.K X.mg x st ps fA fd)(F:Ah X.prog X.w X.K X.mg X.base Ag k fA fd ps (XI m))(hr:Bq k X.A)(hg:Gl X x)(ha:fG X i (e::es) fs) (Z:IN=false:=by decide)(he:starEach (e::es) X.env=Fj::starEach es X.env:=by rfl)(Y:(backTo pos OR).any Fk=false:=by rfl):DE X Cl (J6 i m fs):=by
 obtain⟨ta,pa,ka⟩:=ha;refine⟨_,EJ T F hr hg pa Z he Y,fun δ z hz G0 H0 G H σ ts Q R0 k=>?_⟩;obtain⟨xs,h1,h2⟩:=aA.mp hz;obtain⟨g,h3,h4⟩:=aA.mp h2;obtain⟨pn,hi⟩:=tU h3;obtain⟨a0,_,w1,_⟩:=R0.own i _ hi;refine ka δ _ h1 G0 H0 G H σ ts _ R0 (fun ad l vs G1 H1 R1 hv=>?_) ⟨a0,w1⟩;obtain⟨dv,R2⟩:=R1.args hv;obtain⟨d,o,k1,k2,k3,k4,k5⟩:=R2.own i _ hi;rw[l]at k1;cases k1;refine⟨xs,z,G1,ad,vs,g,o,List.append_nil _,h4,dv,R2.ins,k4,k5.1,k2,fun v G' H' o' I e2 e3 e4 e5 e6 e7 e8=>k _ _ _ (Rw.put ?_ e8)⟩;have hH:∀b u,b≠ad->H1 b=some u->H' b=some u:=fun b u n h=>e4 _ _ (by rw[Cf n];exact h);refine⟨R2.ext.trans I,fun b u h=>?_,e3,fun b u h=>?_,R2.len,fun j u h=>?_,fun j c h=>?_,R2.apart,fun q hq=>(R2.BE q hq).same I⟩
 .rcases e2 b u h with w|w|w
  .exact R2.new b u w
  .right;left
   cases q:H0 b with
   |none=>rfl
   |some _=>rw[R2.keep _ _ q]at w;cases w
  .exact .inr (.inr w)
 .exact hH b u (fun w=>by subst w;rw[k3]at h;cases h) (R2.keep _ _ h)
 .obtain⟨v,n1,U⟩:=R2.dat j u h;exact⟨v,n1,U.same I⟩
 .by_cases w:j=i
  .subst w;rw[hi]at h;cases h;exact⟨ad,o',l,e7,k3,e5,e6,k5.2⟩
  .obtain⟨b,ob,n1,U,n3,M,n5⟩:=R2.own j c h;have nb:b≠ad:=fun q=>by subst q;exact R2.apart j i _ _ w h hi (n1.trans l.symm)
   refine⟨b,ob,n1,?_,n3,hH _ _ nb M,n5.same I⟩;cases q:G' b with
   |none=>rfl
   |some u=>
    rcases e2 b u q with r|r|⟨us,r⟩
    .rw[U]at r;cases r
    .rw[M]at r;cases r
    .have:=e3 _ _ q;rw[hH _ _ nb M,r]at this;cases this;exact n5.QH.elim
abbrev jC(i:Nat)(g:Dv->D6):DF:=fun δ=>some (.nx (δ.set i (.own (.Ej (g δ) none))))
def pN(h0:∀δ G a,(g δ).ok G a (dN a []))(Y:X.N.Nodup)(hi:X.N[i]? = some y)(M:Loc X.env.scope y)(T:swapsWith (.Dict [] [] dp) (some (.Name y I)) pos.line X.env=pure false:=by rfl)(hf:X.fn y=true\/X.env.scope.names.lookup y=some .local:=by first|exact .inl rfl|exact .inr rfl|assumption):DS X (.Assign [.Name y I] (.Dict [] [] dp) pos) (jC i g) :=
 ⟨_,Az Y hi M W6 T hf,fun δ r h G0 H0 G H σ D R q=>by
  cases h;exact fun l U=>q _ _ _ (R.Qf ⟨h0 δ G l,fun _ z=>nomatch z⟩ U)⟩
end
def Vb(N:AAT)(ds:AAK)(g:D6)(d:AD):Dv:=(ds.map .d++[.own (.Ej g (some d))])++List.replicate (N.length-(ds.length+1)) .no
def kz(ps N:AAT)(F:DF)(f:AAF)(ds:AAK)(g:D6)(x:PD):Prop:=ds.length+1=ps.length/\∀d,∃δ,F (Vb N ds g d)=some (.nx δ)/\δ[ds.length]? = some (.own (.Ej g (some d)))/\f δ=some x
open Classical in
def TK(ps N:AAT)(F:DF)(f:AAF)(ds:AAK)(g:D6):AAP:=if h:∃x,kz ps N F f ds g x then some (Classical.choose h) else none
def qf(h:kz ps N F f ds g x):TK ps N F f ds g=some x:=by
 have e:∃x,kz ps N F f ds g x:=⟨x,h⟩;unfold TK;rw[dif_pos e];obtain⟨δ,T,_,M⟩:=h.2 0;obtain⟨δ',I,_,l⟩:=(ah e).2 0
 lia
def Rw.rh{N:AAT}{ds:AAK}{us:AAf}{G H:Hp}{g:D6}{d:AD}{o:HO}(du:Ad G ds us)(e:AI G H)(hd:H d=some o)(hg:g.ok G d o)(hG:G d=none):Rw G (L2.less H d) G H (L2.start N (us++[.ref d])) (Vb N ds g d) []:=by
 have T:=du.len;have Y:AI (L2.less H d) H:=fun b u h=>by
  by_cases n:b=d
  .subst n;rw[Gz]at h;cases h
  .rwa [Cf n]at h
 have at_:∀(i:Nat) (l:L),(Vb N ds g d)[i]? = some l->l=.no\/(∃x v,l=.d x/\(L2.start N (us++[.ref d]))[i]? = some (some v)/\Du G x v)\/i=ds.length/\l=.own (.Ej g (some d))/\(L2.start N (us++[.ref d]))[i]? = some (some (.ref d)):=fun i l h=>by
  unfold Vb at h;unfold L2.start;rw[List.getElem?_append]at h;split at h
  .rename_i I;rw[List.getElem?_append_left (by simpa[T]using I),(Ar)];rw[List.getElem?_append]at h;split at h
   .rename_i M;rw[(Ar)]at h;obtain⟨x,h3,rfl⟩:=aC.mp h;obtain⟨v,U,h5⟩:=du.get h3;exact .inr (.inl ⟨x,v,rfl,by rw[List.getElem?_append_left (aD.mp U).1,U];rfl,h5⟩)
   .rename_i M;have:i=ds.length:=by simp at I M;lia
    subst this;simp at h;exact .inr (.inr ⟨rfl,h.symm,by rw[<-T];simp⟩)
  .rw[(XB)]at h;split at h
   .cases h;exact .inl rfl
   .cases h
 refine⟨AI.refl _,Nw.refl,e,Y,by simp[L2.start,Vb,T],fun i x h=>?_,fun i c h=>?_,fun i j c c' n I M=>?_,fun q Z=>by cases Z⟩
 .rcases at_ i _ h with h|⟨y,v,h,I,M⟩|⟨_,h,_⟩
  .cases h
  .cases h;exact⟨v,I,M⟩
  .cases h
 .rcases at_ i _ h with h|⟨y,v,h,_⟩|⟨_,h,I⟩
  .cases h
  .cases h
  .cases h;exact⟨d,o,I,hG,Gz,hd,hg,fun q z=>by cases z;rfl⟩
 .rcases at_ i _ I with h|⟨y,v,h,_⟩|⟨e1,h,_⟩
  .cases h
  .cases h
  .rcases at_ j _ M with h|⟨y,v,h,_⟩|⟨e2,h,_⟩
   .cases h
   .cases h
   .exact absurd (e1.trans e2.symm) n
structure W3(X:Cx)(sts:List Stmt)(F:DF)(f:Dv->Option PyData):Prop where
 ex:∃t,Ht X sts t/\∀δ δ' x,F δ=some (.nx δ')->f δ'=some x->∀G0 H0 G H σ D,Rw G0 H0 G H σ δ []->(∀σ' v G' H',Rw G0 H0 G' H' σ' δ' [(x,v)]->D.rt v H')->t D σ H
def pS(l:DE X e f):W3 X [.Return (some e) pos] (fun δ=>some (.nx δ)) f:=by
 obtain⟨t,p,k⟩:=l;refine⟨_,A8 (Dj p),fun δ δ' x h I G0 H0 G H σ D R q=>?_⟩;cases h;exact k δ x I G0 H0 G H σ [] _ R fun v G' H' M=>q σ v G' H' M
def jW{st}(h1:DS X st F1)(Z:W3 X sts F2 f):W3 X (st::sts) (AL F1 F2) f:=by
 obtain⟨t1,M,U⟩:=h1;obtain⟨t2,I,T⟩:=Z;refine⟨_,Ai M I,fun δ δ' x h Y G0 H0 G H σ D R k=>?_⟩;unfold AL at h;split at h
 .rename_i l e1;exact U δ _ e1 G0 H0 G H σ _ R fun σ' G' H' R'=>T l δ' x h Y G0 H0 G' H' σ' D R' k
 simp_all
end L2
namespace L2
open PySem PySem.Spec PyProof.Rows
structure At(P:Program)(w:World)(K:Fg)(mg:Str->Option Value)(base:Heap)(x:Str)(st:Stmt)(ps:List Str)(fA:Addr)(fd:FuncData)(CX:Jo)(k:Nat)(sp:Sp):Prop where
 t:Fn K mg x st ps fA fd
 f:Ah P w K mg base CX k fA fd ps sp
section
variable{P:F0b}{w:F0c}{K:Fg}{mg:AAO}{base:Heap}{x:Str}{st:Stmt}{fA:AD}{fd:F0a}{N ps:AAT}{k:Nat}
def At.up(a:At P w K mg base x st ps fA fd CX j sp)(h:j<=k):Ah P w K mg base CX k fA fd ps sp:=a.f.mono h
def Dx{sc}(a:sc.kind=.function:=by rfl)(b:sc.isCoroutine=false:=by rfl)(c:sc.isGenerator=false:=by rfl)(d:N.Nodup:=by decide +kernel)(e:N.take ps.length=ps:=by rfl)(f:∀x∈ps,sc.names.lookup x=some .local\/sc.names.lookup x=some .cell:=by decide +kernel)(g:∀y∈sc.names,y.2≠.free:=by decide +kernel):BX N ps sc:=⟨a,b,c,d,e,f,g⟩
def Za(T:Fn K mg x st ps fA fd):At P w K mg base x st ps fA fd Ag (k+1) (A1 fun _=>none):=⟨T,N5 fun _ _ _ _ ⟨_,_,_,h,_⟩=>by cases h⟩
variable(T:Fn K mg x st ps fA fd)(S:BX N ps (AZ st))
include T S
theorem W8(hb:BX N ps (AZ st)->∀cdv A outer s H E,Bq k (A.deeper (envOfC x (AZ st) s.heap.objs.size fA cdv))->Ku (B8 Ag P w K mg base N x (AZ st) fA cdv A outer s H E).GF (CO st) F):At P w K mg base x st ps fA fd Ag (k+1) (A1 (A0 ps N F)):=⟨T,(by
    refine T.F.ok S Of fun cdv A outer s H vs Q E hr h=>?_
    .obtain⟨ds,y,G,l,I,_⟩:=h;unfold A0 at l;split at l
     .rename_i hl;rw[I.len];exact hl
     .cases l
    .obtain⟨ds,y,G,l,I,Y,h4⟩:=h;obtain⟨t,p,U⟩:=(hb S) cdv A outer s H E hr;refine⟨t,p,?_⟩;unfold A0 at l;split at l
     .split at l
      .rename_i z M;exact U _ _ M G H G H _ _ (Rw.start I Y) fun v G' H' m1 m2 m3 m4 Z=>by grind
      .rename_i δ M;cases l;exact U _ _ M G H G H _ _ (Rw.start I Y) fun σ' G' H' R=>h4 .BV G' H' R.ext R.new R.ins R.keep (by rw[Du])
      .rename_i xs M;cases l;exact U _ _ M G H G H _ _ (Rw.start I Y) fun a ys G' H' m1 m2 m3 m4 Z m6 m7 m8=>let⟨n1,n2,n3,n4⟩:=m9 m1 m2 m3 Z m6 m7 m8;h4 _ _ H' n1 n2 n3 m4 n4
      .cases l
     .cases l)⟩
theorem mkN(hb:BX N ps (AZ st)->∀cdv A outer s H E,Bq k (A.deeper (envOfC x (AZ st) s.heap.objs.size fA cdv))->Ku (B8 Ag P w K mg base N x (AZ st) fA cdv A outer s H E).GF (CO st) F):At P w K mg base x st ps fA fd Ag (k+1) (mw (QE ps N F)):=⟨T,okN T S (hb S)⟩
theorem Ni(hb:BX N ps (AZ st)->∀cdv A outer s H E,Bq k (A.deeper (envOfC x (AZ st) s.heap.objs.size fA cdv))->N7 (B8 (CP P w) P w K mg base N x (AZ st) fA cdv A outer s H E) E (CO st) J):At P w K mg base x st ps fA fd (CP P w) (k+1) (FN (Dl ps N J)):=⟨T,zX T S (hb S)⟩
theorem mkG(hb:BX N ps (AZ st)->∀cdv A outer s H E,Bq k (A.deeper (envOfC x (AZ st) s.heap.objs.size fA cdv))->W3 (B8 Ag P w K mg base N x (AZ st) fA cdv A outer s H E).GF (CO st) F f):At P w K mg base x st ps fA fd Ag (k+1) (XI (TK ps N F f)):=⟨T,(by
    refine T.F.ok S Of fun cdv A outer s H vs Q E hr h=>?_
    .obtain⟨ds,y,G,d,us,g,o,rfl,l,I,_⟩:=h;unfold TK at l;split at l
     .rename_i e;simp[I.len,((ah e).1)]
     .cases l
    .obtain⟨ds,y,G,d,us,g,o,rfl,l,I,h3,h4,h5,h6,h7⟩:=h;obtain⟨t,p,U⟩:=(hb S) cdv A outer s H E hr;refine⟨t,p,?_⟩;unfold TK at l;split at l
     .rename_i e;cases l;obtain⟨δ,e1,hd,e2⟩:=(ah e).2 d;refine U _ _ _ e1 e2 G _ G H _ _ (Rw.rh I h3 h4 h5 h6) fun σ' v G2 H2 R2=>?_;obtain⟨d',o',k1,M,k3,k4,Z,Y⟩:=R2.own _ _ hd;have:=Y d rfl;subst this;refine h7 v G2 H2 o' R2.ext (fun b u z=>?_) R2.ins R2.keep k4 Z M (R2.BE _ Ch);by_cases n:b=d'
      .subst n;rw[M]at z;cases z
      .rcases R2.new b u z with w|w|w
       .exact .inl w
       .rw[Cf n]at w;exact .inr (.inl w)
       .exact .inr (.inr w)
     .cases l)⟩
end
end L2
namespace Q45
open PySem L2
abbrev Iw:Stmt:=top 9
abbrev EO:Stmt:=top 15
abbrev HZ:Stmt:=top 16
abbrev Hj:Stmt:=top 17
abbrev MZ:Stmt:=top 18
abbrev Qd:Stmt:=top 31
abbrev MQ:Stmt:=top 32
abbrev Ji:Stmt:=top 33
abbrev NU:Stmt:=top 57
abbrev S0:Stmt:=top 58
abbrev Mu:Stmt:=top 59
abbrev YE:Stmt:=top 60
abbrev PC:Stmt:=top 83
def dD:Sp:=fun vs H Q _=>∃a b,vs=[.int a,.int b]/\Q (.int (FM.gi a b)) H
def dG:Sp:=fun vs H Q _=>∃t b m,vs=[.int t,.int b]/\b≠0/\m<=9000/\b.natAbs<2^m/\∀l H',AI H H'->H' l=some (.tup (ML (Rat.divInt t b)))->Q (.ref l) H'
section
variable{P:F0b}{w:F0c}{K:Fg}{mg:AAO}{base:Heap}{f g:AD}{fd gd:F0a}
def M1:BX ["one","other","greater","lesser","rest"] Os (AZ EO):=Dx
def yC(σ:St):Nat:=match σ[3]? with|some (some (V.int l))=>l.natAbs|_=>0
def M4(F:Fn K mg "greatest_divisor" EO Os f fd)(JO:mg "abs" = none):Ah P w K mg base Ag 1 f fd Os dD:=by
 have sc:=M1;refine F.F.ok (k:=0) sc Of (fun cdv A outer s H vs Q E Y h=>?_)
 .obtain⟨a,b,rfl,_⟩:=h
  rfl
 obtain⟨a,b,rfl,q⟩:=h;refine⟨_,(Ai (Az (i:=2) sc.nd rfl GE (EW MI rfl JO bc (AV (pv 0) Av)))
 (Ai (Az (i:=3) sc.nd rfl GE (EW MI rfl JO bc (AV (pv 1) Av)))
 (Ai (P6 bF (Dc mO (pv 3) Bt (E6 _))
  (Ai (Az (i:=4) sc.nd rfl GE (DP Ry (pv 2) (pv 3)))
  (Ai (Az (i:=2) sc.nd rfl GE (pv 3))
  (A8 (Az (i:=3) sc.nd rfl GE (pv 4))))))
 (A8 (Dj (pv 2)))))),?_⟩
 refine⟨_,rfl,_,rfl,_,rfl,_,rfl,?_⟩;refine Pj (fun σ H'=>∃g l r,σ=[some (.int a),some (.int b),some (.int g),some (.int l),r]/\H=H'/\Int.gcd g l=Int.gcd a b/\0<=g/\0<=l) (fun σ _=>yC σ) ?_ ?_ ?_
 .exact⟨_,_,_,rfl,rfl,FM.ZG a b,FM.abs_nonneg a,FM.abs_nonneg b⟩
 .rintro σ H' ⟨g,l,r,rfl,rfl,hg,h0,M⟩;refine⟨_,rfl,rfl,_,rfl,MP (fun c=>?_) (fun c=>?_)⟩
  .have I:l≠0:=fun z=>by subst z;simp at c
   refine⟨_,rfl,_,rfl,_,_,rfl,rfl,I,_,rfl,_,rfl,⟨_,_,_,rfl,rfl,?_,M,FM.fmod_nonneg I M⟩,?_⟩
   .rw[FM.V8];exact hg
   .exact FM.UJ g l I
  .have I:l=0:=by simpa using c
   subst I;refine⟨_,rfl,?_⟩;rw[FM.iG hg h0];exact q
 .exact fun σ H Q Z T ⟨v,e,s,k,U,q⟩=>⟨v,e,s,k,U,T _ _ q⟩
def SE:BX ["top","bottom","shared"] ["top","bottom"] (AZ Iw):=Dx
def Sj(F:Fn K mg "fraction_of" Iw ["top","bottom"] f fd)(Bg:Fn K mg "greatest_divisor" EO Os g gd) (Y:Ah P w K mg base Ag 1 g gd Os dD):Ah P w K mg base Ag 2 f fd ["top","bottom"] dG:=by
 have sc:=SE;refine F.F.ok (k:=1) sc Of (fun cdv A outer s H vs Q E T h=>?_)
 .obtain⟨t,b,m,rfl,_⟩:=h
  rfl
 obtain⟨t,b,m,rfl,hb,hm,M,q⟩:=h;refine⟨_,(Ai (IX (Dc mF (pv 1) Bt (E6 _))
  (A8 lI)
  FC)
 (Ai (Az (i:=2) sc.nd rfl GE (EJ Bg Y T rfl (AV (pv 0) (AV (pv 1) Av))))
 (Ai (IX (Dc Z0 (pv 1) Bt (E6 _))
  (A8 (Az (i:=2) sc.nd rfl GE (mx iI (pv 2))))
  FC)
 (A8 (Dj (Nr (AV (DP Gq (pv 0) (pv 2)) (AV (DP Gq (pv 1) (pv 2)) Av)))))))),?_⟩
 refine⟨_,rfl,rfl,_,rfl,MP (fun c=>absurd c (by simpa using hb)) (fun _=>?_)⟩;refine⟨_,rfl,_,rfl,t,b,rfl,?_⟩
 try dsimp only[Cr]
 refine Po (fun σ' H'=>σ'=[some (.int t),some (.int b),some (.int (FM.gs t b))]/\H=H') (fun nx hn=>?_) ?_
 .refine⟨_,rfl,_,_,rfl,rfl,_,rfl,MP (fun c=>?_) (fun c=>?_)⟩
  .have l:b<0:=ak c;refine⟨_,rfl,_,rfl,hn _ _ ⟨?_,rfl⟩⟩;unfold FM.gs;rw[if_pos l]
   rfl
  .have l:¬b<0:=bN (bH.mpr c);refine hn _ _ ⟨?_,rfl⟩;unfold FM.gs;rw[if_neg l]
   rfl
 .rintro σ' H' ⟨rfl,rfl⟩;have h0:FM.gs t b≠0:=FM.nT hb;have I:(FM.gs t b).natAbs<2^m:=aP (FM.l8 hb) M;refine⟨_,rfl,_,rfl,_,_,rfl,rfl,⟨h0,m,hm,I⟩,_,rfl,_,rfl,_,_,rfl,rfl,⟨h0,m,hm,I⟩,mr,fun p U=>?_⟩;refine q p _ (Aj U _) ?_;rw[AR];show some (HO.tup [V.int (t.fdiv (FM.gs t b)),V.int (b.fdiv (FM.gs t b))])=_;rw[FM.Vn hb,FM.Wc hb]
  rfl
end
def nK:Sp:=fun vs H Q _=>∃(a:AD) (bs:List Int) (k:Nat),vs=[.ref a]/\H a=some (.lst (bs.map V.int))/\(∀b∈bs,1<=b/\b.natAbs<2^k)/\k*bs.length<=4000 /\
 ∀c ,1<=c->c.natAbs<2^(k*bs.length+1)->(∀b∈bs,b ∣ c)->Q (.int c) H
def L9{c b:Int}(M:1<=c)(hb:1<=b):1<=c.fdiv (FM.gi c b)*b/\c ∣ c.fdiv (FM.gi c b)*b/\b ∣ c.fdiv (FM.gi c b)*b/\(c.fdiv (FM.gi c b)).natAbs<=c.natAbs:=by
 have hg:0<FM.gi c b:=FM.KI AS;obtain⟨q,l⟩:=FM.K6 c b;obtain⟨r,I⟩:=FM.NK c b;have e:=FM.F7 (bJ hg) l;refine⟨?_,?_,Int.dvd_mul_left _ _,FM.C6 _ _⟩
 .rw[e];exact bY (show 0<q by
   rcases Int.lt_or_le 0 q with h|h
   .exact h
   .have:=Int.mul_nonpos_of_nonneg_of_nonpos (Int.le_of_lt hg) h
    lia) AS
 .rw[e];refine⟨r,?_⟩;rw[I]
  conv=>rhs;rw[l]
  grind
def div_add x y (l:c≠0):Rat.divInt (x+y) c=Rat.divInt x c+Rat.divInt y c:=by
 rw[Rat.divInt_add_divInt _ _ l l,<-Int.add_mul,Rat.divInt_mul_right l]
def div_one(hb:b≠0)(l:c≠0)(h:b ∣ c):Rat.divInt (t*c.fdiv b) c=Rat.divInt t b:=by
 obtain⟨q,rfl⟩:=h;rw[FM.F7 hb rfl,Rat.divInt_mul_right (fun z=>by simp_all)]
theorem Zm(l:c≠0):∀ {ps:List (Int×Int)},(∀p∈ps,p.2≠0/\p.2 ∣ c)->Rat.divInt (ps.map fun p=>p.1*c.fdiv p.2).sum c=(ps.map fun p=>Rat.divInt p.1 p.2).sum
 |[],_=>by simp
 |p::ps,h=>by
  obtain⟨T,M⟩:=h p aS;rw[(BM),(GH),(BM),(GH),div_add _ _ l,div_one T l M,Zm l fun q I=>h q (aQ _ I)]
def cm:Sp:=fun vs H Q _=>∃(b:Int) (p k:Nat),vs=[.int b,.int p]/\b.natAbs<2^k/\k*p<=4000/\Q (.int (b^p)) H
def J9{b:Int}(hb:b.natAbs<2^k)(I:e<=p):(b^e).natAbs<2^(k*p+1):=by
 rw[Int.natAbs_pow];have l:=Nat.pow_le_pow_left (aa hb) e;rw[<-Nat.pow_mul]at l;exact aP l (Nat.pow_lt_pow_right AC (Nat.lt_succ_of_le (aW k I)))
def zo(σ:St):Nat:=match σ[4]? with|some (some (V.int l))=>l.natAbs|_=>0
section
variable{P:F0b}{w:F0c}{K:Fg}{mg:AAO}{base:Heap}{f g:AD}{fd gd:F0a}
def Pq:BX ["bottoms","common","bottom"] ["bottoms"] (AZ HZ):=Dx
def QF(F:Fn K mg "common_bottom" HZ ["bottoms"] f fd)(Bg:Fn K mg "greatest_divisor" EO Os g gd) (FV:Ah P w K mg base Ag 1 g gd Os dD):Ah P w K mg base Ag 2 f fd ["bottoms"] nK:=by
 have sc:=Pq;refine F.F.ok (k:=1) sc Of No
 .obtain⟨a,bs,k,rfl,_⟩:=h
  rfl
 obtain⟨a,bs,k,rfl,ha,hb,hk,q⟩:=h;refine⟨_,(Ai (Az (i:=1) sc.nd rfl GE Bt)
 (Ai (KN bF rfl (E9 (pv 0)) (Df (i:=2) sc.nd rfl GE)
  (A8 (Az (i:=1) sc.nd rfl GE (DP IM (DP Gq (pv 1) (EJ Bg FV hr rfl (AV (pv 1) (AV (pv 2) Av)))) (pv 2)))))
 (A8 (Dj (pv 1))))),?_⟩
 refine⟨_,rfl,a,rfl,⟨_,Am.of ha⟩,Px (xs:=bs.map V.int) (fun i σ H'=>∃(c:Int) (r:Option V),σ=[some Jc,some (.int c),r]/\H=H'/\1<=c/\c.natAbs<2^(k*i+1)/\∀j b,j<i->bs[j]? = some b->b ∣ c) ?_ ?_ ?_ ?_⟩
 .exact⟨1,_,rfl,rfl,by decide,by simp,fun j b h=>absurd h (bI _)⟩
 .rintro i σ H' _ ⟨c,r,rfl,rfl,_⟩;exact Am.of ha
 .rintro i x σ H' T ⟨c,r,rfl,rfl,Y,M,I⟩;have hi:i<bs.length:=by have:=(aD.mp T).1;simpa using this
  rw[(Ar),List.getElem?_eq_getElem hi]at T;cases T;obtain⟨b1,b2⟩:=hb _ (List.getElem_mem hi);obtain⟨s1,s2,s3,Z⟩:=L9 Y b1;have hg:FM.gi c bs[i]≠0:=bJ (FM.KI AS);have hki:k*i+k<=4000:=by
   have:k*OK<=k*bs.length:=aW k hi;rw[Nat.mul_succ]at this
   lia
  have n1:(c.fdiv (FM.gi c bs[i])).natAbs<2^(k*i+1):=aP Z M;refine⟨_,rfl,_,rfl,_,rfl,c,bs[i],rfl,_,_,rfl,rfl,⟨hg,k,by have:k*1<=k*bs.length:=aW k AS;lia,Nat.lt_of_le_of_lt (FM.cy AS) b2⟩,_,rfl,_,_,rfl,rfl,S4 n1 b2 AS,_,_,rfl,rfl,s1,?_,fun j b U l=>?_⟩
  .have:=FM.Bh n1 b2;rw[Nat.mul_succ,show k*i+k+1=k*i+1+k by lia];exact this
  .by_cases z:j=i
   .subst z;rw[List.getElem?_eq_getElem hi]at l;cases l;exact s3
   .exact Int.dvd_trans (I j b AS l) s2
 .rintro σ H' ⟨c,r,rfl,rfl,Y,M,I⟩;rw[OF]at M I;refine⟨_,rfl,q c Y M fun b hb=>?_⟩;obtain⟨j,U⟩:=bT hb;exact I j b (aD.mp U).1 U
def U5:BX ["some","bottom"] ["some"] (AZ Hj):=Dx
def X3:BX ["base","power","product","square","left"] ["base","power"] (AZ MZ):=Dx
def X6(F:Fn K mg "power_of" MZ ["base","power"] f fd):Ah P w K mg base Ag 1 f fd ["base","power"] cm:=by
 have sc:=X3;refine F.F.ok (k:=0) sc Of No
 .obtain⟨b,p,k,rfl,_⟩:=h
  rfl
 obtain⟨b,p,k,rfl,hb,hk,q⟩:=h;refine⟨_,(Ai (Az (i:=2) sc.nd rfl GE Bt)
 (Ai (Az (i:=3) sc.nd rfl GE (pv 0))
 (Ai (Az (i:=4) sc.nd rfl GE (pv 1))
 (Ai (P6 bF (Dc VH (pv 4) Bt (E6 _))
  (Ai (IX (Dc mF (DP tJ (pv 4) Bt) Bt (E6 _))
   (A8 (Az (i:=2) sc.nd rfl GE (DP IM (pv 2) (pv 3))))
   FC)
  (Ai (Az (i:=4) sc.nd rfl GE (DP qp (pv 4) Bt))
  (A8 (IX (Dc VH (pv 4) Bt (E6 _))
   (A8 (Az (i:=3) sc.nd rfl GE (DP IM (pv 3) (pv 3))))
   FC)))))
 (A8 (Dj (pv 2))))))),?_⟩
 refine⟨_,rfl,_,rfl,?_⟩;refine Pj (fun σ H'=>∃e f l:Nat,σ=[some (.int b),some (.int p),some (.int (b^e)),some (.int (b^f)),some (.int l)]/\H=H'/\e+f*l=p) (fun σ _=>zo σ) ?_ ?_ ?_
 .refine⟨0,1,p,?_,rfl,by lia⟩;rw[Int.pow_zero,Int.pow_succ,Int.pow_zero,Int.one_mul]
  rfl
 .rintro σ H' ⟨e,f,l,rfl,rfl,Y⟩;refine⟨_,rfl,_,_,rfl,rfl,_,rfl,MP (fun c=>?_) (fun c=>?_)⟩
  .have Z:0<l:=by have:=ak c;lia
   have I:f<=p:=by
    have:f*1<=f*l:=aW f Z
    lia
   try dsimp only[Cr]
   refine Po (fun σ' H'=>∃T:Nat,σ'=[some (.int b),some (.int p),some (.int (b^T)),some (.int (b^f)),some (.int l)]/\H=H'/\T+f*(2*(l / 2))=p) (fun nx U=>?_) ?_
   .refine⟨_,rfl,_,_,rfl,rfl,(by show(0:Int)<2;decide),rfl,_,rfl,MP (fun c=>?_) (fun c=>?_)⟩
    .have hodd:l % 2=1:=by
      have:((l:Int) % 2)=1:=by simpa using c
      lia
     refine⟨_,rfl,_,rfl,_,_,rfl,rfl,S4 (J9 hb (show e<=p by lia)) (J9 hb I) AS,U _ _ ⟨e+f,?_,rfl,?_⟩⟩
     .show [some (V.int b),some (V.int p),some (V.int (b^e*b^f)),some (V.int (b^f)),some (V.int l)]=_;rw[<-Int.pow_add]
     .have:l=2*(l / 2)+1:=by lia
      rw[<-Y]
      conv=>rhs;rw[this,Nat.mul_add,Nat.mul_one]
      lia
    .have hev:l % 2=0:=by
      have:¬((l:Int) % 2)=1:=by simpa using c
      lia
     refine U _ _ ⟨e,rfl,rfl,?_⟩;rw[show 2*(l / 2)=l by lia];exact Y
   .rintro σ' _ ⟨T,rfl,rfl,M⟩;refine⟨_,rfl,_,_,rfl,rfl,⟨by decide,by decide⟩,?_⟩;have el:((l:Int) / 2)=((l / 2:Nat):Int):=by lia
    refine⟨_,rfl,_,_,rfl,rfl,_,rfl,MP (fun c=>?_) (fun c=>?_)⟩
    .refine⟨_,rfl,_,rfl,_,_,rfl,rfl,S4 (J9 hb I) (J9 hb I) AS,⟨T,f+f,l / 2,?_,rfl,?_⟩,?_⟩
     .show [some (V.int b),some (V.int p),some (V.int (b^T)),some (V.int (b^f*b^f)),some (V.int ((l:Int) / 2))]=_;rw[el,<-Int.pow_add]
     .rw[<-M,<-Nat.two_mul,Nat.mul_assoc,Nat.mul_left_comm]
     .show((l:Int) / 2).natAbs<((l:Nat):Int).natAbs
      lia
    .refine⟨⟨T,f,l / 2,?_,rfl,?_⟩,?_⟩
     .show [some (V.int b),some (V.int p),some (V.int (b^T)),some (V.int (b^f)),some (V.int ((l:Int) / 2))]=_;rw[el]
     .have:l / 2=0:=by have:=bN (bH.mpr c);lia
      rw[this]at M ⊢
      simpa using M
     .show((l:Int) / 2).natAbs<((l:Nat):Int).natAbs
      lia
  .have Z:l=0:=by have:=bN (bH.mpr c);lia
   subst Z;rw[Nat.mul_zero,Nat.add_zero]at Y;subst Y;exact⟨_,rfl,q⟩
 .exact fun σ H Q Q' hq ⟨v,e,s,k,e2,e3,e4,q1,q2⟩=>⟨v,e,s,k,e2,e3,e4,q1,hq _ _ q2⟩
end
def DU(H:Hp)(d:PD)(v:V):Prop:=∃N:Nat,∀l,N<=l->Dt l H d v
def Fl(H:Hp)(ds:AAK)(xs:AAf):Prop:=∃N:Nat,∀l,N<=l->Bz l H ds xs
def Fl.same(h:Fl H d v)(e:AI H H'):Fl H' d v:=let⟨N,k⟩:=h;⟨N,fun l I=>(k l I).same e⟩
def DU.int:DU H (.int i) (.int i):=⟨0,fun _ _=>.int⟩
def DU.bool:DU H (.bool i) (.bl i):=⟨0,fun _ _=>.bool⟩
def DU.BV{H:Hp}:DU H .none .BV:=⟨0,fun _ _=>.BV⟩
def DU.str:DU H (.str x) (.str x):=⟨0,fun _ _=>.str⟩
def Fl.nil{H:Hp}:Fl H [] []:=⟨0,fun _ _=>.nil⟩
def Fl.cons(h:DU H d x)(k:Fl H ds xs):Fl H (d::ds) (x::xs) :=
 let⟨N,a⟩:=h;let⟨M,b⟩:=k;⟨max N M,fun l I=>.cons (a l AS) (b l AS)⟩
def Fl.len(h:Fl H ds xs):xs.length=ds.length:=let⟨N,a⟩:=h;(a N LK).len
def Fl.get{i:Nat}(h:Fl H ds xs)(e:ds[i]? = some d):∃v,xs[i]? = some v/\DU H d v:=by
 have I:=h.len;have hi:i<xs.length:=by rw[I];exact(aD.mp e).1
 have M:xs[i]? = some xs[i]:=by simp
 obtain⟨N,a⟩:=h;refine⟨xs[i],M,N,fun l I=>?_⟩;obtain⟨Y,U,T⟩:=(a l I).get M
 simp_all
def DU.lst(h:H a=some (.lst xs))(k:Fl H ds xs):DU H (.list ds) Jc :=
 let⟨N,b⟩:=k;⟨max N _,fun l I=>.lst (aL (aE (bK a) (aK (Nat.le_max_right _ _) I))) h (b l AS)⟩
def DU.tup(h:H a=some KK)(k:Fl H ds xs):DU H (.tuple ds) Jc :=
 let⟨N,b⟩:=k;⟨max N _,fun l I=>.tup (aL (aE (bK a) (aK (Nat.le_max_right _ _) I))) h (b l AS)⟩
def DU.fU(h:DU H (.list ds) v):∃a xs,v=.ref a/\H a=some (.lst xs)/\Fl H ds xs:=by
 obtain⟨N,b⟩:=h;obtain⟨a,xs,rfl,_,ha,_⟩:=(b N LK);refine⟨a,xs,rfl,ha,N,fun l T=>?_⟩;obtain⟨Y,I,e,_,U,M⟩:=(b l T)
 lia
def DU.xq(h:DU H (.tuple ds) v):∃a xs,v=.ref a/\H a=some KK/\Fl H ds xs:=by
 obtain⟨N,b⟩:=h;obtain⟨a,xs,rfl,_,ha,_⟩:=(b N LK);refine⟨a,xs,rfl,ha,N,fun l T=>?_⟩;obtain⟨Y,I,e,_,U,M⟩:=(b l T)
 lia
def Fl.Jg(h:Fl H [d,e] xs):∃x y,xs=[x,y]/\DU H d x/\DU H e y:=by
 obtain⟨x,I,T⟩:=h.get (i:=0) rfl;obtain⟨y,l,M⟩:=h.get (i:=1) rfl
 match xs,h.len with
 |[a,b],_=>
  simp at I l;subst I l;exact⟨a,b,rfl,T,M⟩
def DU.ints{ps:AAS}(h:DU H (.tuple (ps.map .int)) v):∃a,v=.ref a/\H a=some (.tup (ps.map V.int)):=by
 obtain⟨a,xs,rfl,ha,l⟩:=h.xq;refine⟨a,rfl,?_⟩;rw[ha]
 congr 2
 obtain⟨N,b⟩:=l;have:=b N LK;clear b ha h
 induction ps generalizing xs with
 |nil=>exact this
 |cons p ps M=>
  obtain⟨x,r,rfl,I,T⟩:=this;subst I
  grind
def HY:PD->Bool
 |.tuple [.int a,.int b]=>decide (1<=b)&&(FM.gi a b==1)
 |_=>false
def Ve(h:ds.length≠2\/∃I l,ds=[I,l]/\((Ij I && !HF I)=false\/(Ij l && !HF l)=false)):HY (.tuple ds)=false:=by
 rcases h with h|⟨I,l,rfl,h⟩
 .match ds,h with
  |[],_=>rfl
  |[a],_=>cases a<;>rfl
  |[_,_],h=>exact absurd rfl h
  |a::b::_::_,_=>cases a<;>first|rfl|(cases b<;>rfl)
 .cases I<;>first|rfl|(cases l<;>first|rfl|(rcases h with h|h<;>exact absurd h (by simp[Ij,HF])))
def Nv(h:(Ij d && !HF d)=true):∃i,d=.int i:=by
 cases d<;>first|lia|(exact absurd h (by simp[Ij,HF]))|lia
def Ih:PD->Bool
 |.list ds=>ds.all HY
 |_=>false
def dz(h:Ct d=false):Ih d=false:=by cases d<;>first|rfl|exact absurd h (by simp[Ct])
def QI(h:Ct d=true):∃ds,d=.list ds:=by cases d<;>first|exact⟨_,rfl⟩|exact absurd h (by simp[Ct])
def Pr(h:DK d=true):∃ds,d=.tuple ds:=by cases d<;>first|exact⟨_,rfl⟩|exact absurd h (by simp[DK])
def fJ r:HY (Aq r)=true:=by
 have h:=r.den_nz;rw[Aq,HY,decide_eq_true (show _<=_ by lia)];unfold FM.gi;rw[show r.num.gcd r.den=1 from r.reduced]
 rfl
def ym(h:i<n)(hn:n<=60):i<sizeLine:=aE (show i<60 by exact aE ‹_› ‹_›) AC
def AH(r:AAe):AAK:=r.map Aq
def Tw r:(AH r).length=r.length:=List.length_map _
def DU.rat(h:DU H (Aq q) v):∃p,v=.ref p/\H p=some (.tup (ML q)):=h.ints (ps:=[q.num,_])
section
variable{P:F0b}{w:F0c}{K:Fg}{mg:AAO}{base:Heap}{f g:AD}{fd:F0a}
def Vj:BX ["_law_top","_law_bottom","_law_one","_law_other"] ["_law_top","_law_bottom"] (AZ PC):=Dx
def Wx(F:Fn K mg "_law_frac" PC ["_law_top","_law_bottom"] f fd)(JO:mg "abs" = none):Ah P w K mg base Ag 1 f fd ["_law_top","_law_bottom"] dG:=by
 have sc:=Vj;refine F.F.ok (k:=0) sc Of No
 .obtain⟨t,b,m,rfl,_⟩:=h
  rfl
 obtain⟨t,b,m,rfl,hb,hm,Y,q⟩:=h;refine⟨_,(Ai (Az (i:=2) sc.nd rfl GE (EW MI rfl JO bc (AV (pv 0) Av)))
 (Ai (Az (i:=3) sc.nd rfl GE (EW MI rfl JO bc (AV (pv 1) Av)))
 (Ai (P6 bF (Dc VH (pv 3) Bt (E6 _))
  (A8 (uF (i:=2) (j:=3) rfl sc.nd rfl rfl AC rfl rfl (AV (pv 3) (AV (DP Ry (pv 2) (pv 3)) Av)) rfl)))
 (Ai (IX (Dc Z0 (pv 1) Bt (E6 _))
  (A8 (Az (i:=2) sc.nd rfl GE (DP iH Bt (pv 2))))
  FC)
 (A8 (Dj (Nr (AV (DP Gq (pv 0) (pv 2)) (AV (DP Gq (pv 1) (pv 2)) Av))))))))),?_⟩
 refine⟨_,rfl,_,rfl,_,rfl,_,rfl,?_⟩;refine Pj (fun σ H'=>∃g l,σ=[some (.int t),some (.int b),some (.int g),some (.int l)]/\H=H'/\Int.gcd g l=Int.gcd t b/\0<=g/\0<=l) (fun σ _=>yC σ) ?_ ?_ ?_
 .exact⟨_,_,rfl,rfl,FM.ZG t b,FM.abs_nonneg t,FM.abs_nonneg b⟩
 .rintro σ H' ⟨g,l,rfl,rfl,hg,h0,M⟩;refine⟨_,rfl,_,_,rfl,rfl,_,rfl,MP (fun c=>?_) (fun c=>?_)⟩
  .have T:0<l:=ak c;have I:l≠0:=by exact bJ ‹_›
   refine⟨_,rfl,_,rfl,_,rfl,_,_,rfl,rfl,I,_,_,rfl,⟨_,_,rfl,rfl,?_,M,FM.fmod_nonneg I M⟩,?_⟩
   .rw[FM.V8];exact hg
   .exact FM.UJ g l I
  .have T:¬0<l:=bN (bH.mpr c);have I:l=0:=by lia
   subst I;rw[FM.iG hg h0]
   try dsimp only[Cr]
   refine Po (fun σ' H'=>σ'=[some (.int t),some (.int b),some (.int (FM.gs t b)),some (.int 0)]/\H=H') (fun nx hn=>?_) ?_
   .refine⟨_,rfl,_,_,rfl,rfl,_,rfl,MP (fun c=>?_) (fun c=>?_)⟩
    .have U:b<0:=ak c;refine⟨_,rfl,_,_,rfl,rfl,hn _ _ ⟨?_,rfl⟩⟩;show [some (V.int t),some (V.int b),some (V.int (0-FM.gi t b)),some (V.int 0)]=_;unfold FM.gs;rw[if_pos U,Int.zero_sub]
    .have U:¬b<0:=bN (bH.mpr c);refine hn _ _ ⟨?_,rfl⟩;unfold FM.gs;rw[if_neg U]
   .rintro σ' H' ⟨rfl,rfl⟩;have h0:FM.gs t b≠0:=FM.nT hb;have M:(FM.gs t b).natAbs<2^m:=aP (FM.l8 hb) Y;refine⟨_,rfl,_,rfl,_,_,rfl,rfl,⟨h0,m,hm,M⟩,_,rfl,_,rfl,_,_,rfl,rfl,⟨h0,m,hm,M⟩,mr,fun p hp=>?_⟩;refine q p _ (Aj hp _) ?_;rw[AR];show some (HO.tup [V.int (t.fdiv (FM.gs t b)),V.int (b.fdiv (FM.gs t b))])=_;rw[FM.Vn hb,FM.Wc hb]
    rfl
 .exact fun σ H Q Q' Z ⟨v,e,i,j,e1,e2,k,e3,q⟩=>⟨v,e,i,j,e1,e2,k,e3,Z _ _ q⟩
end
def GB(c b:Int):Int:=c.fdiv (FM.gi c b)*b
def Eu(bs:AAS):Int:=bs.foldl GB 1
theorem Wa:∀(bs:List Int) c n,1<=c->c.natAbs<2^n->(∀b∈bs,1<=b/\b.natAbs<2^k) ->
  1<=bs.foldl GB c/\(bs.foldl GB c).natAbs<2^(n+k*bs.length)/\c ∣ bs.foldl GB c/\∀b∈bs,b ∣ bs.foldl GB c
 |[],c,n,M,I,_=>⟨M,by simpa using I,Int.dvd_refl _,fun _ z=>(List.not_mem_nil z).elim⟩
 |b::bs,c,n,M,I,h=>by
  obtain⟨b1,b2⟩:=h b aS;obtain⟨s1,s2,Y,U⟩:=L9 M b1;obtain⟨r1,r2,T,Z⟩:=Wa bs _ _ s1 (FM.Bh (aP U I) b2) fun y l=>h y (aQ _ l);refine⟨r1,?_,Int.dvd_trans s2 T,fun y l=>?_⟩
  .rw[(FU),show n+_=n+k+k*bs.length by lia];exact r2
  .rcases aO.mp l with rfl|l
   .exact Int.dvd_trans Y T
   .exact Z y l
def ZL(h:∀b∈bs,1<=b/\b.natAbs<2^k):1<=Eu bs/\(Eu bs).natAbs<2^(1+k*bs.length)/\∀b∈bs,b ∣ Eu bs:=let⟨a,b,_,d⟩:=Wa bs 1 1 AC AC h;⟨a,b,d⟩
def iB bs b:Eu (bs++[b])=GB (Eu bs) b:=by
 unfold Eu;simp
def Au(rs:AAe):Int:=Eu (rs.map fun r=>r.den)
def cg{i:Nat}(h:Fl H (AH l) xs)(I:l[i]? = some q):∃p,xs[i]? = some (.ref p)/\H p=some (.tup (ML q)):=by
 obtain⟨v,U,T⟩:=h.get (by rw[AH,(Ar),I];rfl);obtain⟨p,rfl,M⟩:=T.rat;exact⟨p,U,M⟩
def qg{rs:AAe}(h:∀r∈rs,FM.Fits r n):∀b∈rs.map (fun r=>(r.den:Int)),1<=b/\b.natAbs<2^n:=fun b hb=>by
 obtain⟨r,l,rfl⟩:=aI.mp hb;have:=r.den_nz;exact⟨by lia,(h r l).d⟩
abbrev AY:=List Int×Rat
def BQ(m:AY):PD:=.tuple [.tuple (m.1.map .int),Aq m.2]
def AG(us:List AY):PD:=.list (us.map BQ)
def DU.mono(h:DU H (BQ m) v):∃c P F,v=.ref c/\H c=some (.tup [.ref P,.ref F])/\H P=some (.tup (m.1.map V.int))/\H F=some (.tup (ML m.2)):=by
 obtain⟨c,xs,rfl,l,Y⟩:=h.xq;obtain⟨x,y,rfl,U,T⟩:=Y.Jg;obtain⟨P,rfl,I⟩:=U.ints;obtain⟨F,rfl,M⟩:=T.rat;exact⟨c,P,F,rfl,l,I,M⟩
def jc{us:List AY}{i:Nat}(d:Fl H (us.map BQ) xs)(h:us[i]? = some m):∃c P F,xs[i]? = some (.ref c)/\H c=some (.tup [.ref P,.ref F])/\H P=some (.tup (m.1.map V.int))/\H F=some (.tup (ML m.2)):=by
 obtain⟨v,I,l⟩:=d.get (by rw[(Ar),h];rfl);obtain⟨c,P,F,rfl,a,b,e⟩:=l.mono;exact⟨c,P,F,I,a,b,e⟩
def OY(us:List AY):AAS:=us.map fun m=>(m.2.den)
def GY(uss:GM):AAS:=(uss.map OY).flatten
def CC(uss:GM):Int:=Eu (GY uss)
def Dk(m:AY):Int:=m.1.sum
def GK(g:Int)(us:List AY):Int:=us.foldl (fun g m=>if Dk m > g then Dk m else g) g
def E4(uss:GM):Int:=uss.foldl GK 1
def ic:∀(h:∀us∈uss,us.length<=12),(GY uss).length<=12*uss.length:=by
 induction uss with
 |nil=>intro _;simp[GY]
 |cons us uss l=>
  intro h;have T:=h us aS;have M:=l fun y I=>h y (aQ _ I);unfold GY at M ⊢;rw[(BM),List.flatten_cons,(Ca),(FU)];have:(OY us).length=us.length:=List.length_map _
  lia
def iT{uss:GM}(h:uss[i]? = some us):GY (uss.take OK)=GY (uss.take i)++OY us:=by
 unfold GY;rw[(Ir),h];simp
def jQ(h:∀us∈uss,us.length<=12/\∀m∈us,FM.Fits m.2 n):∀b∈GY uss,1<=b/\b.natAbs<2^n:=fun b hb=>by
 obtain⟨l,M,hb⟩:=List.mem_flatten.mp hb;obtain⟨us,I,rfl⟩:=aI.mp M;obtain⟨m,hm,rfl⟩:=aI.mp hb;have:=m.2.den_nz;exact⟨by lia,((h us I).2 m hm).d⟩
def gX(B G:Int)(gr:Nat)(m:AY):AY:=(m.1,((m.2.num*B.fdiv (m.2.den)*G^(gr-(Dk m).toNat):Int)))
def LQ(B G:Int)(gr:Nat)(us:List AY):List AY:=us.map (gX B G gr)
theorem Zd:∀us g,g<=GK g us/\(∀m∈us,Dk m<=GK g us)/\∀c,g<=c->(∀m∈us,Dk m<=c)->GK g us<=c
 |[],g=>⟨Int.le_refl _,fun _ z=>by grind,fun _ h _=>h⟩
 |m::us,g=>by
  obtain⟨M,I,l⟩:=Zd us (if Dk m > g then Dk m else g);have e:GK g (m::us)=GK _ us:=rfl
  grind
theorem Ui:∀(uss:GM) g,g<=uss.foldl GK g/\(∀us∈uss,∀m∈us,Dk m<=uss.foldl GK g)/\∀c,g<=c->(∀us∈uss,∀m∈us,Dk m<=c)->uss.foldl GK g<=c
 |[],g=>⟨Int.le_refl _,fun _ z=>by simp_all,fun _ h _=>h⟩
 |us::uss,g=>by
  obtain⟨a1,a2,a3⟩:=Zd us g;obtain⟨I,U,T⟩:=Ui uss _;refine⟨Int.le_trans a1 I,fun y l m hm=>?_,fun c M hm=>?_⟩
  .rcases aO.mp l with rfl|l
   .exact Int.le_trans (a2 m hm) I
   .exact U y l m hm
  .exact T c (a3 c M (hm us aS)) fun y l=>hm y (aQ _ l)
def je(l:1<=c)(h:∀us∈uss,∀m∈us,Dk m<=c):1<=E4 uss/\E4 uss<=c/\∀us∈uss,∀m∈us,Dk m<=E4 uss:=let⟨T,M,I⟩:=Ui uss 1;⟨T,I c l h,M⟩
def Cm(uss:GM):Nat:=(E4 uss).toNat
def Cv(G:Int)(uss:GM):List (List AY):=uss.map (LQ (CC uss) G (Cm uss))
def Bx(uss:GM)(G:Int):Int:=CC uss*G^(Cm uss-1)
def vC{J:It}{g:TG}{tb:TS}{D:Ends} n (Pv:Nat->St->Hp->Prop) (h0:Pv 0 σ H) (hs:∀i σ H,i<n->Pv i σ H->J.go i H/\∀x H',J.E7 i H x H'->g x σ H' fun l M=>tb {D with nx:=Pv OK,ct:=Pv OK,bk:=D.nx} l M) (hd:∀σ H,Pv n σ H->J.stop n H/\D.nx σ H):∃W:Nat->Nat->St->Hp->Prop,(∃m,W 0 m σ H)/\∀i m σ H,W i m σ H ->(J.stop i H/\D.nx σ H)\/(J.go i H/\∃N ,(∀σ' H',N σ' H'->∃T,T<m/\W OK T σ' H')/\∀x H',J.E7 i H x H'->g x σ H' fun l M=>tb {D with nx:=N,ct:=N,bk:=D.nx} l M):=by
 refine⟨fun i m σ H=>m=n-i/\i<=n/\Pv i σ H,⟨n,by simp,Nat.zero_le _,h0⟩,?_⟩;rintro i m σ H ⟨rfl,hi,p⟩;by_cases I:i<n
 .obtain⟨Z,Y⟩:=hs i σ H I p;exact .inr ⟨Z,Pv _,fun σ' H' U=>⟨n-_,by lia,rfl,I,U⟩,Y⟩
 .have e:i=n:=by lia
  subst e;exact .inl (hd σ H p)
def MA(x:Rat):Nat->Rat
 |0=>1
 |n+1=>MA x n*x
theorem Xh x:∀n,Rat.divInt (x.num^n) (x.den^n)=MA x n
 |0=>by rw[Int.pow_zero,Int.pow_zero];rfl
 |n+1=>by
  rw[Int.pow_succ,Int.pow_succ,MA,<-Xh x n,<-Rat.divInt_mul_divInt,FM.EV]
def F4(zs:List (Int×Rat)):Rat:=zs.foldl (fun a z=>a*MA z.2 z.1.toNat) 1
def cI zs z:F4 (zs++[z])=F4 zs*MA z.2 z.1.toNat:=by unfold F4;simp
def jl{ps:AAS}{x:Rat}(I:ps[i]? = some p)(l:rs[i]? = some x):(ps.zip rs).take OK=(ps.zip rs).take i++[(p,x)]:=by
 rw[List.take_succ,(List.getElem?_zip_eq_some (z:=(p,x))).mpr ⟨I,l⟩]
 rfl
def lR{d:Nat}(h:d≠0) n:(1:Int)<=d^n:=by
 have:0<(d:Int)^n:=Int.pow_pos AS
 lia
def Xm:Sp:=fun vs H Q _=>∃(a:AD) (xs:List V) (ps:List (Int×Int)) (kt k:Nat),vs=[.ref a]/\H a=some (.lst xs)/\xs.length=ps.length/\ps.length<=1000/\(∀(j:Nat) x p,xs[j]? = some x->ps[j]? = some p->∃c,x=.ref c/\H c=some (.tup [.int p.1,.int p.2])) /\
 (∀p∈ps,1<=p.2/\p.1.natAbs<2^kt/\p.2.natAbs<2^k)/\k*ps.length<=4000/\kt<=100000/\∀l H',AI H H'->H' l=some (.tup (ML (ps.map fun p=>Rat.divInt p.1 p.2).sum))->Q (.ref l) H'
structure gY(H:Hp)(S:Addr)(xs:List V)(rs:List Rat)(many k kd:Nat):Prop where
 at_:H S=some (.lst xs)
 du:Fl H (AH rs) xs
 len:rs.length=many
 fit:∀x∈rs,x.num.natAbs<2^k/\((x.den:Int)).natAbs<2^kd
def gY.same(s:gY H S xs rs many k kd)(e:AI H H'):gY H' S xs rs many k kd:=⟨e _ _ s.at_,s.du.same e,s.len,s.fit⟩
def mj:Sp:=fun vs H Q _=>∃(P F S:AD) (ps:List Int) (r:Rat) (rs:List Rat) (xs:List V) (many k kd n nd:Nat),vs=[.ref P,.ref F,.ref S]/\H P=some (.tup (ps.map V.int))/\H F=some (.tup (ML r))/\gY H S xs rs many k kd/\ps.length=many/\many<=4/\k<=1300/\kd<=1300/\n<=20000/\nd<=20000 /\
 (∀p∈ps,0<=p/\p<=3)/\r.num.natAbs<2^n/\((r.den:Int)).natAbs<2^nd/\∀c H' t b,AI H H'->H' c=some (.tup [.int t,.int b])->1<=b->t.natAbs<2^(n+(3*k+1)*4)->b.natAbs<2^(nd+(3*kd+1)*4)->Rat.divInt t b=r*F4 (ps.zip rs)->Q (.ref c) H'
def KO(us:List AY)(rs:AAe):Rat:=(us.map fun m=>m.2*F4 (m.1.zip rs)).sum
def Xo:Sp:=fun vs H Q _=>∃(a S:AD) (xs ys:List V) (us:List AY) (rs:List Rat) (many k kd n nd:Nat),vs=[.ref a,.ref S]/\H a=some (.lst xs)/\Fl H (us.map BQ) xs/\us.length<=12/\(∀m∈us,m.1.length=many/\(∀p∈m.1,0<=p/\p<=3)/\m.2.num.natAbs<2^n/\((m.2.den:Int)).natAbs<2^nd) /\
 gY H S ys rs many k kd/\many<=4/\k<=1300/\kd<=1300/\n<=20000/\(nd+(3*kd+1)*4)*12<=4000/\∀l H',AI H H'->H' l=some (.tup (ML (KO us rs)))->Q (.ref l) H'
section
variable{P:F0b}{w:F0c}{K:Fg}{mg:AAO}{base:Heap}{f g g1 g2:AD}{fd gd gd1 gd2:F0a}
def SK(F:Fn K mg "frac_total" Hj ["some"] f fd)(FO:Fn K mg "common_bottom" HZ ["bottoms"] g1 gd1)(E3:Fn K mg "fraction_of" Iw ["top","bottom"] g2 gd2) (Qy:Ah P w K mg base Ag 2 g1 gd1 ["bottoms"] nK)(Uy:Ah P w K mg base Ag 2 g2 gd2 ["top","bottom"] dG)(VF:mg "sum" = none):Ah P w K mg base Ag 3 f fd ["some"] Xm:=by
 have sc:=U5;refine F.F.ok (k:=2) sc Of No
 .obtain⟨a,xs,ps,kt,k,rfl,_⟩:=h
  rfl
 obtain⟨a,xs,ps,kt,k,rfl,ha,hl,h1000,hx,hp,hk,hkt,q⟩:=h;have hk1:ps≠[]->k<=4000:=fun hne=>by
  have:k*1<=k*ps.length:=aW k (List.length_pos_iff.mpr hne)
  lia
 have at_:∀(i:Nat) (hi:i<xs.length),∃(p:Int×Int) (c:AD),ps[i]? = some p/\xs[i]=.ref c/\H c=some (.tup [.int p.1,.int p.2]):=fun i hi=>by
  have hpi:ps[i]? = some (ps[i]' AS):=ao _;obtain⟨c,Z,h2⟩:=hx i xs[i] _ (ao hi) hpi;exact⟨_,c,hpi,Z,h2⟩
 refine⟨_,(Ai (Az (i:=1) sc.nd rfl (Or.inr rfl) (EJ FO Qy hr rfl (AV (IJ [".0","part"] 1 [none,none] (E9 (pv 0)) (fun _ _ _ _ _=>HB) (fun _ _ _ _ _=>(IY SA (pv 1) Bt (fun _ _=>rfl)))) Av)))
 (A8 (Dj (EJ E3 Uy hr rfl (AV (EW (Wo rfl) rfl VF PyProof.Rows.boot_sum (AV (IJ [".0","part","bottom"] 1 [none,none,some 1] (E9 (pv 0)) (fun _ _ _ _ _=>HB) (fun _ _ _ _ _=>(DP IM (IY SA (pv 1) Bt (fun _ _=>rfl)) (DP Gq (pv 2) (IY SA (pv 1) Bt (fun _ _=>rfl)))))) Av)) (AV (pv 1) Av)))))),?_⟩
 refine⟨_,rfl,a,rfl,⟨_,Am.of ha⟩,fun D hD=>Ja (n:=xs.length) (fun i ys H'=>AI H H'/\ys=((ps.take i).map (·.2)).map V.int) ?_ ?_ ?_⟩
 .exact⟨Aj hD _,rfl⟩
 .rintro i ys H0 hi ⟨T,rfl⟩ Y;obtain⟨p,c,Z,h2,h3⟩:=at_ i hi;refine⟨⟨xs,xs[i],Am.of (T _ _ ha),by simp[hi]⟩,?_,fun x H' y=>?_⟩
  .rw[OF,OF,(Ex)];exact aP (Nat.min_le_left _ _) (aE (show i<1000 by lia) (by rw[sizeLine_eq];decide))
  .obtain⟨rfl,y⟩:=y;have I:=y xs (Am.of (T _ _ ha));rw[List.getElem?_eq_getElem hi,h2]at I;cases I;unfold Kt;refine MF ⟨_,rfl,_,_,_,_,rfl,rfl,A5.of (T _ _ h3),rfl,Y,Gs hi ⟨fun b o z=>?_,?_⟩⟩
   .rw[AM (Af z hD)];exact T _ _ z
   .rw[List.take_succ,Z];simp
 rintro ys H0 ⟨T,rfl⟩ Y;refine⟨⟨xs,Am.of (T _ _ ha),Nat.le_refl _⟩,?_⟩;rw[hl,(Fm)]at Y;refine⟨D,ps.map (·.2),k,rfl,Y,fun b hb=>?_,by rw[OF];exact hk,fun c c1 c2 c3=>?_⟩
 .obtain⟨p,M,rfl⟩:=aI.mp hb;exact⟨(hp p M).1,(hp p M).2.2⟩
 rw[OF]at c2;refine⟨_,rfl,a,rfl,⟨_,Am.of (T _ _ ha)⟩,fun D2 hD2=>Ja (n:=xs.length) (fun i ys H'=>AI H0 H'/\ys=((ps.take i).map fun p=>p.1*c.fdiv p.2).map V.int) ?_ ?_ ?_⟩
 .exact⟨Aj hD2 _,rfl⟩
 .rintro i ys H1 hi ⟨e1,rfl⟩ U;have E1:=T.trans e1;obtain⟨p,d,Z,h2,h3⟩:=at_ i hi;have hpm:=aJ Z;have hkk:=hk1 (List.ne_nil_of_mem hpm);obtain⟨p1,p2,p3⟩:=hp p hpm;refine⟨⟨xs,xs[i],Am.of (E1 _ _ ha),by simp[hi]⟩,?_,fun x H' y=>?_⟩
  .rw[OF,OF,(Ex)];exact aP (Nat.min_le_left _ _) (aE (show i<1000 by lia) (by rw[sizeLine_eq];decide))
  .obtain⟨rfl,y⟩:=y;have I:=y xs (Am.of (E1 _ _ ha));rw[List.getElem?_eq_getElem hi,h2]at I;cases I;unfold Kt;refine MF ⟨_,rfl,_,_,_,_,rfl,rfl,A5.of (E1 _ _ h3),rfl,_,rfl,_,rfl,_,_,_,_,rfl,rfl,A5.of (E1 _ _ h3),rfl,_,_,rfl,rfl,⟨by lia,k,by lia,p3⟩,_,_,rfl,rfl,S4 p2 (aP (FM.C6 c p.2) c2) AS,U,Gs hi ⟨fun b o z=>?_,?_⟩⟩
   .rw[AM (Af z hD2)];exact e1 _ _ z
   .rw[List.take_succ,Z];simp
 rintro ys H1 ⟨e1,rfl⟩ U;refine⟨⟨xs,Am.of ((T.trans e1) _ _ ha),Nat.le_refl _⟩,?_⟩;rw[hl,(Fm)]at U;refine⟨D2,_,rfl,Am.of U,_,rfl,_,c,k*ps.length+1,rfl,by lia,by lia,c2,fun l H' e2 hl'=>?_⟩;refine q l H' (T.trans (e1.trans e2)) ?_;rw[Zm AS fun p M=>⟨by have:=(hp p M).1;lia,c3 _ (List.mem_map_of_mem M)⟩]at hl';exact hl'
def Uw:BX ["powers","part","start","top","bottom","power","place"] ["powers","part","start"] (AZ Ji):=Dx
def SV(F:Fn K mg "term_worth" Ji ["powers","part","start"] f fd)(Fz:Fn K mg "power_of" MZ ["base","power"] g gd) (Qo:Ah P w K mg base Ag 1 g gd ["base","power"] cm)(VW:mg "zip" = none):Ah P w K mg base Ag 2 f fd ["powers","part","start"] mj:=by
 have sc:=Uw;refine F.F.ok (k:=1) sc Of No
 .obtain⟨P,F,S,ps,r,rs,xs,many,k,kd,n,nd,rfl,_⟩:=h
  rfl
 obtain⟨P,F,S,ps,r,rs,xs,many,k,kd,n,nd,rfl,hP,hF,st,I,M,hk,hkd,hn,hnd,hps,rn,rd,q⟩:=h;refine⟨_,(Ai (Az (i:=3) sc.nd rfl GE (IY Jp (pv 1) Bt (fun _ _=>rfl)))
 (Ai (Az (i:=4) sc.nd rfl GE (IY Jp (pv 1) Bt (fun _ _=>rfl)))
 (Ai (KN bF rfl (ei rfl VW (AV (pv 0) (AV (pv 2) Av))) (Nt rfl (EU (Df (i:=5) sc.nd rfl GE) (EU (Df (i:=6) sc.nd rfl GE) LV)))
  (Ai (Az (i:=3) sc.nd rfl GE (DP IM (pv 3) (EJ Fz Qo hr rfl (AV (IY Jp (pv 6) Bt (fun _ _=>rfl)) (AV (pv 5) Av)))))
  (A8 (Az (i:=4) sc.nd rfl GE (DP IM (pv 4) (EJ Fz Qo hr rfl (AV (IY Jp (pv 6) Bt (fun _ _=>rfl)) (AV (pv 5) Av))))))))
 (A8 (Dj (Nr (AV (pv 3) (AV (pv 4) Av)))))))),?_⟩
 refine⟨_,rfl,_,_,_,_,rfl,rfl,A5.of hF,rfl,_,rfl,_,_,_,_,rfl,rfl,A5.of hF,rfl,?_⟩;refine⟨_,rfl,_,rfl,true,false,P,S,rfl,⟨_,hP⟩,⟨_,st.at_⟩,vC many (fun i σ H'=>∃(t b:Int) (r5 r6:Option V),σ=[some (.ref P),some (.ref F),some (.ref S),some (.int t),some (.int b),r5,r6]/\AI H H'/\1<=b/\t.natAbs<2^(n+(3*k+1)*i)/\b.natAbs<2^(nd+(3*kd+1)*i)/\Rat.divInt t b=r*F4 ((ps.zip rs).take i)) ?_ ?_ ?_⟩
 .refine⟨_,_,_,_,rfl,.refl _,?_,rn,rd,?_⟩
  .have:=r.den_nz;show(1:Int)<=(r.den:Int)
   lia
  .show Rat.divInt r.num (r.den:Int)=r*1;rw[FM.EV,Rat.mul_one]
 .rintro i σ H1 hi ⟨t,b,r5,r6,rfl,l,b1,Z,nb,hv⟩;have hp:ps[i]? = some (ps[i]' AS):=ao _;have hx:rs[i]? = some (rs[i]'(by have:=st.len;lia)):=ao _;generalize ps[i]' AS=p at hp;generalize rs[i]'(by have:=st.len;lia)=x at hx;obtain⟨c,U,T⟩:=cg st.du hx;obtain⟨p0,p3⟩:=hps p (aJ hp);obtain⟨xn,xd⟩:=st.fit x (aJ hx);have Y:(ps.map V.int)[i]? = some (.int p):=by rw[(Ar),hp];rfl
  refine⟨⟨_,_,_,_,l _ _ hP,l _ _ st.at_,Y,U⟩,fun v H' y=>?_⟩;obtain⟨pp,x1,x2,rfl,np,rfl,q1,q2⟩:=y;have w1:=q1 _ (l _ _ hP);have w2:=q2 _ (l _ _ st.at_);rw[Y]at w1;rw[U]at w2;cases w1;cases w2;have sp:=Aj np (.tup [.int p,.ref c]);have E:=l.trans sp;obtain⟨pn,rfl⟩:∃pn:Nat,p=(pn:Int):=⟨p.toNat,by lia⟩;have n1:=J9 (k:=k) (e:=pn) (p:=3) xn AS;have n2:=J9 (k:=kd) (e:=pn) (p:=3) xd AS;have ki:(3*k+1)*i<=(3*k+1)*4:=aW _ AS;have kdi:(3*kd+1)*i<=(3*kd+1)*4:=aW _ AS;have kp:k*pn<=k*3:=aW _ AS;have kdp:kd*pn<=kd*3:=aW _ AS;refine⟨pp,_,rfl,A5.of AR,rfl,_,_,rfl,_,_,rfl,rfl,?_⟩;refine⟨_,rfl,_,rfl,_,_,_,_,rfl,rfl,A5.of (E _ _ T),rfl,_,rfl,x.num,pn,k,rfl,xn,by lia,_,_,rfl,rfl,S4 Z n1 AS,?_⟩;refine⟨_,rfl,_,rfl,_,_,_,_,rfl,rfl,A5.of (E _ _ T),rfl,_,rfl,(x.den:Int),pn,kd,rfl,xd,by lia,_,_,rfl,rfl,S4 nb n2 AS,?_⟩;refine⟨_,_,_,_,rfl,E,?_,?_,?_,?_⟩
  .have:=Int.mul_le_mul b1 (lR x.den_nz pn) AC AS
   simpa using this
  .have:=FM.Bh Z n1;refine FM.Fv this ?_;have e:(3*k+1)*OK=(3*k+1)*i+(3*k+1):=Nat.mul_succ _ _
   lia
  .have:=FM.Bh nb n2;refine FM.Fv this ?_;have e:(3*kd+1)*OK=(3*kd+1)*i+(3*kd+1):=Nat.mul_succ _ _
   lia
  .rw[jl hp hx,cI,<-Rat.mul_assoc,<-hv,(TM),<-Xh,Rat.divInt_mul_divInt]
 .rintro σ H1 ⟨t,b,r5,r6,rfl,l,b1,Z,nb,hv⟩;refine⟨⟨_,_,l _ _ hP,l _ _ st.at_,.inl (by rw[OF,I])⟩,_,rfl,_,rfl,Nat.le_trans (show 2<=60 by decide) AC,fun c hc=>?_⟩;rw[List.take_of_length_le (by rw[List.length_zip,st.len,I,Nat.min_self];exact aG _)]at hv;have ki:(3*k+1)*many<=(3*k+1)*4:=aW _ M;have kdi:(3*kd+1)*many<=(3*kd+1)*4:=aW _ M;exact q c _ t b (l.trans (Aj hc _)) AR b1 (FM.Fv Z AS) (FM.Fv nb AS) hv
def YO:BX ["some","start"] ["some","start"] (AZ MQ):=Dx
def WB(F:Fn K mg "worth_at" MQ ["some","start"] f fd)(Dr:Fn K mg "frac_total" Hj ["some"] g1 gd1)(Hh:Fn K mg "term_worth" Ji ["powers","part","start"] g2 gd2) (KQ:Ah P w K mg base Ag 3 g1 gd1 ["some"] Xm)(V1:Ah P w K mg base Ag 3 g2 gd2 ["powers","part","start"] mj):Ah P w K mg base Ag 4 f fd ["some","start"] Xo:=by
 have sc:=YO;refine F.F.ok (k:=3) sc Of No
 .obtain⟨a,S,xs,ys,us,rs,many,k,kd,n,nd,rfl,_⟩:=h
  rfl
 obtain⟨a,S,xs,ys,us,rs,many,k,kd,n,nd,rfl,ha,dx,h12,hus,st,hm4,hk,hkd,hn,hsz,q⟩:=h;have hxl:xs.length=us.length:=by rw[dx.len,OF]
 refine⟨_,(A8 (Dj (EJ Dr KQ hr rfl (AV (iJ [".0","powers","part","start"] 1 2 [none,none,none,some 1] (E9 (pv 0)) (fun _ _ _ _ _=>HB) (fun _ _ _ _ _=>(EJ Hh V1 hr rfl (AV (pv 1) (AV (pv 2) (AV (pv 3) Av)))))) Av)))),?_⟩;refine⟨_,rfl,a,rfl,⟨_,Am.of ha⟩,fun D hD=>kR (n:=xs.length) (fun i Y H'=>AI H H'/\∃T:List (Int×Int),T.length=i/\Y.length=i/\(∀(j:Nat) z p,Y[j]? = some z->T[j]? = some p->∃c,z=.ref c/\H' c=some (.tup [.int p.1,.int p.2]))/\(∀p∈T,1<=p.2/\p.1.natAbs<2^(n+(3*k+1)*4)/\p.2.natAbs<2^(nd+(3*kd+1)*4))/\T.map (fun p=>Rat.divInt p.1 p.2)=(us.take i).map fun m=>m.2*F4 (m.1.zip rs)) ?_ ?_ ?_⟩
 .exact⟨Aj hD _,[],rfl,rfl,fun j z p h=>by simp at h,fun _ z=>(List.not_mem_nil z).elim,rfl⟩
 .rintro i Y H1 hi ⟨U,T,hql,hzl,hz,hb,hv⟩ M;obtain⟨t,ht⟩:∃t,us[i]? = some t:=⟨us[i]' AS,List.getElem?_eq_getElem _⟩;obtain⟨c,P,F,k1,k2,k3,k4⟩:=jc dx ht;obtain⟨u1,u2,u3,u4⟩:=hus t (aJ ht);refine⟨⟨xs,xs[i],Am.of (U _ _ ha),by simp[hi]⟩,ym (n:=60) AS AC,fun x H' y=>?_⟩;obtain⟨rfl,y⟩:=y;have hx:=y xs (Am.of (U _ _ ha));rw[k1]at hx;cases hx;refine⟨c,_,_,rfl,A5.of (U _ _ k2),?_⟩;unfold Kt;refine MF ⟨_,rfl,_,rfl,_,rfl,P,F,S,t.1,t.2,rs,ys,many,k,kd,n,nd,rfl,U _ _ k3,U _ _ k4,st.same U,u1,hm4,hk,hkd,hn,by lia,u2,u3,u4,fun c' H2 tt bb e2 hc' b1 nt nb hv'=>?_⟩;refine⟨e2 _ _ M,Gs hi ⟨fun b o z=>?_,T++[(tt,bb)],by simp[hql],by simp[hzl],fun j z p Z I=>?_,fun p I=>?_,?_⟩⟩
  .rw[AM (Af z hD)];exact e2 _ _ (U _ _ z)
  .by_cases hjl:j<Y.length
   .rw[List.getElem?_append_left hjl]at Z;rw[List.getElem?_append_left AS]at I;obtain⟨c1,rfl,hc1⟩:=hz j z p Z I;refine⟨c1,rfl,?_⟩;rw[AM (fun zz=>by rw[zz,M]at hc1;cases hc1)];exact e2 _ _ hc1
   .rw[List.getElem?_append_right AS]at Z I;have hk:j-Y.length=0:=by
     have:=(aD.mp Z).1;simp at this;assumption
    rw[show j-T.length=0 by lia]at I;rw[hk]at Z;simp at Z I;subst Z I;exact⟨c',rfl,by rw[AM (fun zz=>by rw[zz,e2 _ _ M]at hc';cases hc')];exact hc'⟩
  .rcases aX.mp I with I|I
   .exact hb p I
   .rw[List.mem_singleton.mp I];exact⟨b1,nt,nb⟩
  .rw[(DC),hv,List.take_succ,ht,(DC)];simp only[List.map_cons,List.map_nil,Option.toList_some];rw[hv']
 .rintro Y H1 ⟨U,T,hql,hzl,hz,hb,hv⟩ M;refine⟨⟨xs,Am.of (U _ _ ha),Nat.le_refl _⟩,?_⟩;have hq12:(nd+(3*kd+1)*4)*T.length<=(nd+(3*kd+1)*4)*12:=aW _ AS;refine⟨D,Y,T,n+(3*k+1)*4,nd+(3*kd+1)*4,rfl,M,by lia,by lia,hz,hb,by exact aK ‹_› ‹_›,by lia,fun l H' e2 hl'=>q l H' (U.trans e2) ?_⟩;rw[hv,hxl,(Fm)]at hl';exact hl'
end
def snocInd{α:Type}{P:List α->Prop}(h0:P [])(M:∀l a,P l->P (l++[a])) l:P l:=by
 have:=(show ∀r ,P r.reverse from fun r=>by
  induction r with
  |nil=>exact h0
  |cons a r I=>simp_all) l.reverse
 simp_all
def OD(e:AI H H')(h:H' p=none):H p=none:=by
 cases k:H p with
 |none=>rfl
 |some o=>rw[e _ _ k]at h;assumption
abbrev T3:=List Int×Int×Int
def Cc(ts:List T3):List AAS:=ts.foldl (fun l t=>if t.1∈l then l else l++[t.1]) []
def Fx ts t:Cc (ts++[t])=if t.1∈Cc ts then Cc ts else Cc ts++[t.1]:=by unfold Cc;simp
def Pa:∀ts ,(Cc ts).Nodup:=snocInd .nil fun l t I=>by
 rw[Fx];split
 .exact I
 .rename_i z;exact List.nodup_append.mpr ⟨I,by simp,fun a ha b hb e=>by simp_all⟩
def Nn:∀ts ,k∈Cc ts->∃t∈ts,t.1=k:=snocInd (fun h=>by cases h) fun l t I h=>by
 rw[Fx]at h;split at h
 .obtain⟨u,a,b⟩:=I h;exact⟨u,List.mem_append_left _ a,b⟩
 .rcases aX.mp h with h|h
  .obtain⟨u,a,b⟩:=I h;exact⟨u,List.mem_append_left _ a,b⟩
  .exact⟨t,List.mem_append_right _ Ch,(List.mem_singleton.mp h).symm⟩
def iQ ts:(Cc ts).length<=ts.length:=by
 refine snocInd (P:=fun ts=>(Cc ts).length<=ts.length) LK (fun l t I=>?_) ts;rw[Fx,(Ca)];split
 .exact Nat.le_succ_of_le ‹_›
 simp_all
def Kv(k:AAS)(ts:List T3):List (Int×Int):=(ts.filter fun t=>decide (t.1=k)).map (·.2)
def MW k ts t:Kv k (ts++[t])=if t.1=k then Kv k ts++[t.2] else Kv k ts:=by
 unfold Kv
 grind
def qL(h:k ∉ Cc ts):Kv k ts=[]:=by
 revert h
 refine snocInd (P:=fun ts=>k ∉ Cc ts->Kv k ts=[]) (fun _=>rfl) (fun l t I h=>?_) ts;rw[Fx]at h;rw[MW]
 grind
def Yq(h:p∈Kv k ts):∃t∈ts,t.2=p:=by
 obtain⟨t,I,l⟩:=aI.mp h;exact⟨t,(List.mem_filter.mp I).1,l⟩
def Ob k ts:(Kv k ts).length<=ts.length:=by unfold Kv;rw[OF];exact bg _ _
def sumK(ts:List T3)(k:AAS):Rat:=((Kv k ts).map fun p=>Rat.divInt p.1 p.2).sum
def desc(a b:AAS):Bool:=!IT.lt a b
def JP(ts:List T3):List AAS:=(Cc ts).mergeSort desc
def OV(ts:List T3)(k:AAS):Option AY:=if sumK ts k=0 then none else some (k,sumK ts k)
def ME(ts:List T3):List AY:=(JP ts).filterMap (OV ts)
def j4(p:l.Perm (Cc ts))(s:l.Pairwise fun a b=>IT.ord.kle b a):l=JP ts:=by
 have e:∀a b ,IT.ord.kle b a ↔ desc a b=true:=fun a b=>by
  unfold desc;show IT.lt a b=false ↔ _;simp
 refine List.Perm.eq_of_pairwise (fun a b _ _ M I=>PyProof.Rows.KeyOrd.kle_antisymm I M) s ((List.pairwise_mergeSort (le:=desc) (fun a b c M I=>(e a c).mp (PyProof.Rows.KeyOrd.kle_trans ((e b c).mpr I) ((e a b).mpr M))) (fun a b=>?_) _).imp fun h=>by grind) (p.trans (List.mergeSort_perm _ _).symm);unfold desc;cases h:IT.lt a b with
 |false=>rfl
 |true=>
  cases I:IT.lt b a with
  |false=>rfl
  |true=>have:=IT.lt_trans a b a h I;rw[IT.lt_irrefl]at this;assumption
def WA{α β:Type}{f:α->β}{l:List α}(h:(l.map f).Nodup){a b}(ha:a∈l)(hb:b∈l)(e:f a=f b):a=b:=by
 induction l with
 |nil=>cases ha
 |cons x l I=>
  grind
def Fs(H:Hp)(ps:List (Int×Int))(ys:AAf):Prop:=ys.length=ps.length/\∀(j:Nat) x p,ys[j]? = some x->ps[j]? = some p->∃c,x=.ref c/\H c=some (.tup [.int p.1,.int p.2])
def Fs.but(h:Fs H ps ys)(k:∀xs,H a≠some KK):Fs (upd H a o) ps ys:=⟨h.1,fun j x p l I=>let⟨c,e,q⟩:=h.2 j x p l I;⟨c,e,by rw[AM (fun z=>k _ (z ▸ q))];exact q⟩⟩
def Fs.snoc(h:Fs H ps ys)(k:H F=some (.tup [.int p.1,.int p.2])):Fs H (ps++[p]) (ys++[.ref F]):=by
 refine⟨by rw[(Ca),(Ca),h.1];rfl,fun j x q I l=>?_⟩;by_cases z:j<ps.length
 .rw[List.getElem?_append_left z]at l;rw[List.getElem?_append_left (by rw[h.1];exact z)]at I;exact h.2 j x q I l
 .rw[List.getElem?_append_right AS]at l;rw[List.getElem?_append_right (by rw[h.1];lia),h.1]at I;have:=(aD.mp l).1;rw[List.length_singleton]at this;rw[show j-ps.length=0 by lia]at l I;cases l;cases I;exact⟨F,rfl,k⟩
abbrev kvsOf(kls:List (List Int×AD)):List (List Key×V):=kls.map fun q=>(q.1.map Sum.inl,V.ref q.2)
structure GI(H0:Hp)(A:Addr)(ts:List T3)(H:Hp)(kls:List (List Int×Addr)):Prop where
 at_:H A=some (.dT (kvsOf kls))
 keys:kls.map Fk=Cc ts
 UR:∀q∈kls,∃ys,H q.2=some Ix/\Fs H (Kv q.1 ts) ys
 new:∀q∈kls,H0 q.2=none
 nd:(kls.map (·.2)).Nodup
 same:AI H0 H
def nz{a b:AAS}:a.map (Sum.inl (β:=Str))=b.map Sum.inl ↔ a=b:=⟨fun h=>by
 induction a generalizing b with
 |nil=>simp_all
 |cons x a l=>cases b with
  |nil=>cases h
  |cons y b=>
   grind,fun h=>by rw[h]⟩
theorem OT:∀kls ,Co (kvsOf kls) (k.map Sum.inl)=(kls.find? fun q=>decide (q.1=k)).map fun q=>V.ref q.2
 |[]=>rfl
 |q::kls=>by
  have l:=OT (k:=k) kls;unfold Co at l ⊢;rw[show kvsOf _=(q.1.map Sum.inl,V.ref q.2)::kvsOf kls from rfl,(Jk),(Jk)];by_cases z:q.1=k
  .simp_all
  .rw[decide_eq_false z,decide_eq_false (fun e=>z (nz.mp e))];exact l
def GI.old{H0 H:Hp}{A p F:AD}{ts:List T3}{kls:List (AAS×AD)}{t:T3}{v:V}(g:GI H0 A ts H kls)(hA:H0 A=none)(hp:H p=none)(hF:H F=some (.tup [.int t.2.1,.int t.2.2]))(hv:Co (kvsOf kls) (t.1.map Sum.inl)=some v):∃l ys,v=.ref l/\upd H p NE l=some Ix/\ys.length<=ts.length/\GI H0 A (ts++[t]) (upd (upd H p NE) l (.lst (ys++[.ref F]))) kls:=by
 rw[OT]at hv;obtain⟨q,h1,rfl⟩:=aC.mp hv;have T:=bO h1;have hk:q.1=t.1:=by simpa using List.find?_some h1
 obtain⟨ys,Y,fs⟩:=g.UR q T;have npl:q.2≠p:=Af Y hp;have Z:t.1∈Cc ts:=by rw[<-g.keys,<-hk];exact aI.mpr ⟨q,T,rfl⟩
 have M:=Aj hp NE;have U:upd H p NE q.2=some Ix:=M _ _ Y;have nlA:q.2≠A:=fun z=>by rw[z,g.at_]at Y;cases Y
 refine⟨q.2,ys,rfl,U,by rw[fs.1];exact Ob _ _,?_⟩;have tup:∀xs,upd H p NE q.2≠some KK:=fun xs z=>by rw[U]at z;cases z
 have I:∀ {ps zs},Fs H ps zs->Fs (upd (upd H p NE) q.2 (.lst (ys++[.ref F]))) ps zs:=fun h=>(h.but (fun xs z=>by rw[hp]at z;cases z)).but tup;refine⟨?_,by rw[Fx,if_pos Z];exact g.keys,fun r hr=>?_,g.new,g.nd,fun b o z=>?_⟩
 .rw[AM (Ne.symm nlA)];exact M _ _ g.at_
 .obtain⟨zs,hz,fz⟩:=g.UR r hr;rw[MW];by_cases e:r.2=q.2
  .have er:r=q:=WA g.nd hr T e;subst er;rw[Y]at hz;cases hz;rw[if_pos hk.symm];exact⟨_,by rw[AR],(I fz).snoc (by rw[AM (fun z=>tup _ (z ▸ M _ _ hF))];exact M _ _ hF)⟩
  .rw[if_neg fun z=>e (af Prod.snd (WA (f:=Prod.fst) (by rw[g.keys];exact Pa ts) hr T (z.symm.trans hk.symm)))];exact⟨zs,by rw[AM e];exact M _ _ hz,I fz⟩
 .rw[AM (Af z (g.new q T))];exact M _ _ (g.same _ _ z)
def GI.fresh{H0 H:Hp}{A p F:AD}{ts:List T3}{kls:List (AAS×AD)}{t:T3}(g:GI H0 A ts H kls)(hA:H0 A=none)(I:H p=none)(hF:H F=some (.tup [.int t.2.1,.int t.2.2]))(hv:Co (kvsOf kls) (t.1.map Sum.inl)=none):GI H0 A (ts++[t]) (upd (upd (upd H p NE) A (.dT (kvsOf kls++[(t.1.map Sum.inl,.ref p)]))) p (.lst ([]++[.ref F]))) (kls++[(t.1,p)]):=by
 rw[OT]at hv;have hn:t.1 ∉ Cc ts:=fun z=>by
  rw[<-g.keys]at z;obtain⟨q,h1,h2⟩:=aI.mp z;rw[Option.map_eq_none_iff,List.find?_eq_none]at hv;exact hv q h1 (by simpa using h2)
 have Y:A≠p:=Af g.at_ I;have e1:=Aj I NE;have hA1:=e1 _ _ g.at_;have M:∀xs,upd H p NE A≠some KK:=fun xs z=>by rw[hA1]at z;cases z
 have tupP:∀xs,upd (upd H p NE) A (.dT (kvsOf kls++[(t.1.map Sum.inl,.ref p)])) p≠some KK:=fun xs z=>by rw[AM (Ne.symm Y),AR]at z;cases z
 have Z:∀ {ps U},Fs H ps U->Fs (upd (upd (upd H p NE) A (.dT (kvsOf kls++[(t.1.map Sum.inl,.ref p)]))) p (.lst ([]++[.ref F]))) ps U:=fun h=>((h.but (fun xs z=>by rw[I]at z;cases z)).but M).but tupP;have hF3:(upd (upd (upd H p NE) A (.dT (kvsOf kls++[(t.1.map Sum.inl,.ref p)]))) p (.lst ([]++[.ref F]))) F=some (.tup [.int t.2.1,.int t.2.2]):=by
  rw[AM (fun z=>by subst z;rw[hF]at I;cases I),AM (fun z=>M _ (z ▸ e1 _ _ hF))];exact e1 _ _ hF
 refine⟨?_,?_,fun r l=>?_,fun r l=>?_,?_,fun b o z=>?_⟩
 .rw[AM Y,AR];unfold kvsOf;rw[(DC)];rfl
 .rw[(DC),g.keys,Fx,if_neg hn];rfl
 .rcases aX.mp l with l|l
  .obtain⟨U,T,fz⟩:=g.UR r l;have hr1:r.1∈Cc ts:=by rw[<-g.keys];exact aI.mpr ⟨r,l,rfl⟩
   rw[MW,if_neg fun e:t.1=r.1=>hn (e ▸ hr1)];refine⟨U,?_,Z fz⟩;rw[AM (Af T I),AM (fun e=>by rw[e,g.at_]at T;cases T)];exact e1 _ _ T
  .rw[List.mem_singleton.mp l];refine⟨[]++[.ref F],AR,?_⟩;rw[MW,if_pos rfl,qL hn];exact Fs.snoc (ps:=[]) (ys:=[]) ⟨rfl,fun j x p hx=>by cases hx⟩ hF3
 .rcases aX.mp l with l|l
  .exact g.new r l
  .rw[List.mem_singleton.mp l];exact OD g.same I
 .rw[(DC),List.nodup_append];refine⟨g.nd,by simp,fun a ha b hb e=>?_⟩;obtain⟨r,l,rfl⟩:=aI.mp ha;obtain⟨U,T,_⟩:=g.UR r l;rw[(BM),List.map_nil,List.mem_singleton]at hb;rw[e,hb,I]at T;cases T
 .rw[AM (Af z (OD g.same I)),AM (Af z hA)];exact e1 _ _ (g.same _ _ z)
def Xu(h:n<=1000):n<sizeLine:=aP h AC
def GI.but(g:GI H0 A ts H kls)(e:SameBut S H H')(T:A≠S)(M:∀q∈kls,q.2≠S)(Z:∀xs,H S≠some KK)(h0:H0 S=none):GI H0 A ts H' kls :=
 ⟨e _ _ T g.at_,g.keys,fun q l=>let⟨ys,h1,I⟩:=g.UR q l;⟨ys,e _ _ (M q l) h1,I.1,fun j x p U Y=>let⟨c,a,b⟩:=I.2 j x p U Y;⟨c,a,e _ _ (fun z=>Z _ (z ▸ b)) b⟩⟩,g.new,g.nd,fun b o z=>e _ _ (Af z h0) (g.same _ _ z)⟩
def GI.up(g:GI H0 A ts H kls)(e:AI H H'):GI H0 A ts H' kls :=
 ⟨e _ _ g.at_,g.keys,fun q M=>let⟨ys,U,l⟩:=g.UR q M;⟨ys,e _ _ U,l.1,fun j x p I T=>let⟨c,a,b⟩:=l.2 j x p I T;⟨c,a,e _ _ b⟩⟩,g.new,g.nd,fun b o z=>e _ _ (g.same _ _ z)⟩
def Kh(H:Hp)(ts:List T3)(xs:AAf):Prop:=xs.length=ts.length/\∀(j:Nat) t,ts[j]? = some t->∃c P F,xs[j]? = some (.ref c)/\H c=some (.tup [.ref P,.ref F])/\H P=some (.tup (t.1.map V.int))/\H F=some (.tup [.int t.2.1,.int t.2.2])
def UG(m:AY):T3:=(m.1,m.2.num,(m.2.den))
def Kh.but(h:Kh H ts xs)(e:SameBut S H H')(l:∀xs,H S≠some KK):Kh H' ts xs:=⟨h.1,fun j t I=>let⟨c,P,F,a,b,d,f⟩:=h.2 j t I;⟨c,P,F,a,e _ _ (fun z=>l _ (z ▸ b)) b,e _ _ (fun z=>l _ (z ▸ d)) d,e _ _ (fun z=>l _ (z ▸ f)) f⟩⟩
def Kh.same(h:Kh H ts xs)(e:AI H H'):Kh H' ts xs:=⟨h.1,fun j t l=>let⟨c,P,F,a,b,d,f⟩:=h.2 j t l;⟨c,P,F,a,e _ _ b,e _ _ d,e _ _ f⟩⟩
def Kh.snoc(h:Kh H ts xs)(b:H c=some (.tup [.ref P,.ref F]))(d:H P=some (.tup (t.1.map V.int)))(f:H F=some (.tup [.int t.2.1,.int t.2.2])):Kh H (ts++[t]) (xs++[.ref c]):=by
 refine⟨by rw[(Ca),(Ca),h.1];rfl,fun j u l=>?_⟩;by_cases z:j<ts.length
 .rw[List.getElem?_append_left z]at l;rw[List.getElem?_append_left (by rw[h.1];exact z)];exact h.2 j u l
 .rw[List.getElem?_append_right AS]at l;have:=(aD.mp l).1;rw[List.length_singleton]at this;rw[show j-ts.length=0 by lia]at l;cases l;exact⟨c,P,F,by rw[List.getElem?_append_right (by rw[h.1];lia),h.1,show j-ts.length=0 by lia];rfl,b,d,f⟩
def eV:Sp:=fun vs H Q _=>∃(T:AD) (xs:List V) (ts:List T3) (kt k:Nat),vs=[.ref T]/\H T=some (.lst xs)/\Kh H ts xs/\ts.length<=1000/\(∀t∈ts,t.1≠[]/\1<=t.2.2/\t.2.1.natAbs<2^kt/\t.2.2.natAbs<2^k)/\k*ts.length<=4000/\kt<=100000/\(Cc ts).length<64 /\
 ∀D H' l,AI H H'->H D=none->H' D=some (.lst l)->Kh H' ((ME ts).map UG) l->Q (.ref D) H'
section
variable{P:F0b}{w:F0c}{K:Fg}{mg:AAO}{base:Heap}{f g1:AD}{fd gd1:F0a}
def X5:BX ["terms","alike","powers","part","some","total"] ["terms"] (AZ Qd):=Dx
def YS{k:Nat}(F:Fn K mg "gathered" Qd ["terms"] f fd)(Dr:Fn K mg "frac_total" Hj ["some"] g1 gd1)(KQ:Ah P w K mg base Ag k g1 gd1 ["some"] Xm)(FY:mg "sorted" = none):Ah P w K mg base Ag (k+1) f fd ["terms"] eV:=by
 have sc:=X5;refine F.F.ok (k:=k) sc Of No
 .obtain⟨T,xs,ts,kt,kk,rfl,_⟩:=h
  rfl
 obtain⟨T,xs,ts,kt,kk,rfl,hT,tm,h1000,Ac,hk4,hkt,h64,q⟩:=h;refine⟨_,(Ai (Az (i:=1) sc.nd rfl GE Xd)
  (Ai (KN bF rfl (E9 (pv 0)) (Nt rfl (EU (Df (i:=2) sc.nd rfl GE) (EU (Df (i:=3) sc.nd rfl GE) LV)))
   (A8 (Hy (Qu PySem.F.plainAttrs_list PySem.F.slot_list_append PySem.F.type_list_append Kl (iO (by have:=hr.units;exact aP (Nat.add_le_add_left (show 1<=64 by decide) _) this) (pv 1) (pv 2) (Rt Av) ⟨rfl,rfl,rfl,rfl⟩) (AV (pv 3) Av)))))
  (Ai (Az (i:=4) sc.nd rfl GE (Rt Av))
  (Ai (KN bF rfl (E9 (iw Fa rfl rfl FY (pv 1))) (Df (i:=2) sc.nd rfl GE)
   (Ai (Az (i:=5) sc.nd rfl GE (EJ Dr KQ hr rfl (AV (Yg (by have:=hr.units;exact aP (Nat.add_le_add_left (show 1<=64 by decide) _) this) (pv 1) (pv 2) (fun _ _=>rfl)) Av)))
   (A8 (IX (Dc mO (IY Jp (pv 5) Bt (fun _ _=>rfl)) Bt (E6 _))
    (A8 (Hy (Qu PySem.F.plainAttrs_list PySem.F.slot_list_append PySem.F.type_list_append Kl (pv 4) (AV (Nr (AV (pv 2) (AV (pv 5) Av))) Av))))
    FC))))
  (A8 (Dj (pv 4))))))),?_⟩
 refine fun A hA=>?_;have e1:=Aj hA (.dT []);have g1:GI H A [] (upd H A (.dT [])) []:=⟨AR,rfl,(fun _ z=>(List.not_mem_nil z).elim),(fun _ z=>(List.not_mem_nil z).elim),List.nodup_nil,e1⟩;generalize upd H A (.dT [])=H1 at e1 g1;refine⟨_,rfl,T,rfl,⟨_,Am.of (e1 _ _ hT)⟩,Px (xs:=xs) (fun i σ H'=>∃(Y r3:Option V) (kls:List (List Int×AD)),σ=[some (.ref T),some (.ref A),Y,r3,none,none]/\GI H A (ts.take i) H' kls) ?_ ?_ ?_ ?_⟩
 .exact⟨_,_,[],rfl,g1⟩
 .rintro i σ H' _ ⟨Y,r3,kls,rfl,g⟩;exact Am.of (g.same _ _ hT)
 .rintro i x σ H2 hx ⟨Y,r3,kls,rfl,g⟩;have hi:i<ts.length:=by rw[<-tm.1];exact(aD.mp hx).1
  have hti:ts[i]? = some ts[i]:=by simp[hi]
  obtain⟨c,Pw,Fr,q1,q2,q3,q4⟩:=tm.2 i _ hti;have tk:ts.take OK=ts.take i++[ts[i]]:=by rw[(Ir),hti];rfl
  rw[tk];generalize ts[i]=t at q3 q4;rw[hx]at q1;cases q1;have hkl:kls.length<=i:=by
   have:=af List.length g.keys;rw[OF]at this;have:=iQ (ts.take i);rw[(Ex)]at this
   lia
  refine⟨c,_,rfl,A5.of (g.same _ _ q2),rfl,_,_,rfl,_,_,rfl,rfl,?_⟩;refine⟨_,rfl,A,rfl,.inr ⟨_,.inl g.at_⟩,_,rfl,(by show 0<=sizeLine;decide),fun p hp=>?_⟩;have nAp:A≠p:=Af g.at_ hp;have e3:=Aj hp NE;refine⟨kvsOf kls,t.1.map Sum.inl,Pw,e3 _ _ g.at_,rfl,(by rw[(BZ)];exact e3 _ _ (g.same _ _ q3)),(by rw[OF];exact Xu AS),fun v hv=>?_,fun hv=>?_⟩
  .obtain⟨l,ys,rfl,I,hyl,g'⟩:=g.old hA hp (g.same _ _ q4) hv;refine⟨.inl ⟨rfl,_,Am.of I⟩,_,rfl,l,ys,_,rfl,rfl,I,Xu (by rw[(Ex)]at hyl;lia),?_⟩;exact⟨_,_,kls,rfl,g'⟩
  .have g':=g.fresh hA hp (g.same _ _ q4) hv;have I:upd (upd H2 p NE) A (.dT (kvsOf kls++[(t.1.map Sum.inl,.ref p)])) p=some NE:=by rw[AM (Ne.symm nAp)];exact AR
   refine⟨.inl ⟨rfl,_,Am.of I⟩,_,rfl,p,[],_,rfl,rfl,I,(by show 0<sizeLine;decide),?_⟩;exact⟨_,_,_,rfl,g'⟩
 .rintro σ H2 ⟨Y,r3,kls,rfl,g⟩;rw[tm.1,(Fm)]at g;refine⟨(by show 0<=sizeLine;decide),fun S hS=>?_⟩;have e3:=Aj hS NE;have hS3:upd H2 S NE S=some NE:=AR;have g3:=g.up e3;have nAS:A≠S:=Af g.at_ hS;have nqS:∀q∈kls,q.2≠S:=fun q hq=>let⟨ys,h1,_⟩:=g.UR q hq;Af h1 hS;have hS0:H S=none:=OD g.same hS;generalize upd H2 S NE=H3 at e3 hS3 g3;have hkl:kls.length=(Cc ts).length:=by rw[<-g.keys,OF]
  refine⟨_,rfl,A,kvsOf kls,Cc ts,rfl,g3.at_,(by rw[OF];lia),fun prog w=>GS.Hb (O:=IT.ord) (ks:=(Cc ts).reverse) (aP (Nat.le_of_eq List.length_reverse) h64),fun p hp=>?_,(by rw[(BZ),<-g.keys,(BZ)];rfl),fun D L hD perm pw hL=>?_⟩
  .obtain⟨t,ht,rfl⟩:=Nn ts hp;exact(Ac t ht).1
  have e4:=Aj hD (.lst Pi);have hD4:upd H3 D (.lst Pi) D=some (.lst Pi):=AR;have g4:=g3.up e4;have Z:=e4 _ _ hS3;have nDS:D≠S:=(Af hS3 hD).symm;have hL4:∀l∈L,upd H3 D (.lst Pi) l.2=some (.tup (l.1.map V.int)):=fun l I=>e4 _ _ (hL l I);have hLk:L.map Fk=JP ts:=j4 perm (List.pairwise_map.mpr pw);generalize upd H3 D (.lst Pi)=H4 at e4 hD4 g4 Z hL4;refine⟨D,rfl,⟨_,Am.of hD4⟩,Px (xs:=L.map fun l=>V.ref l.2) (fun i σ H'=>∃(Y r5:Option V) (U:List V),σ=[some (.ref T),some (.ref A),Y,r3,some (.ref S),r5]/\SameBut S H4 H'/\GI H A ts H' kls/\H' S=some (.lst U)/\U.length<=i/\Kh H' ((((JP ts).take i).filterMap (OV ts)).map UG) U) ?_ ?_ ?_ ?_⟩
  .exact⟨_,_,[],rfl,fun _ _ _ z=>z,g4,Z,Nat.le_refl _,rfl,fun j t ht=>by cases ht⟩
  .rintro i σ H' _ ⟨Y,r5,U,rfl,e,_⟩;exact Am.of (e _ _ nDS hD4)
  .rintro i x σ H5 hx ⟨Y,r5,U,rfl,e5,g5,hS5,hzl,tz⟩;rw[(Ar)]at hx;obtain⟨l,I,rfl⟩:=aC.mp hx;have hi:i<L.length:=(aD.mp I).1;have hLm:=aJ I;have hki:(JP ts)[i]? = some l.1:=by rw[<-hLk,(Ar),I];rfl
   have tk:(JP ts).take OK=(JP ts).take i++[l.1]:=by rw[(Ir),hki];rfl
   have hP5:=e5 _ _ (fun z=>by rw[<-z,hL4 l hLm]at Z;cases Z) (hL4 l hLm);have hmem:l.1∈kls.map Fk:=by
    rw[g.keys];have:l.1∈L.map Fk:=aI.mpr ⟨l,hLm,rfl⟩;exact perm.mem_iff.mp this
   obtain⟨kq,hkq,M⟩:=aI.mp hmem;obtain⟨ys,hy,fs⟩:=g5.UR kq hkq;have hval:Co (kvsOf kls) (l.1.map Sum.inl)=some (.ref kq.2):=by
    rw[OT];cases hf:kls.find? fun q=>decide (q.1=l.1) with
    |none=>
     rw[List.find?_eq_none]at hf;exact absurd (by simpa using M) (hf kq hkq)
    |some r=>
     have:=WA (f:=Prod.fst) (by rw[g.keys];exact Pa ts) (bO hf) hkq ((show r.1=l.1 by simpa using List.find?_some hf).trans M.symm);rw[this];rfl
   have hget:LC H5 A (.ref l.2) (some (.ref kq.2)):=by
    have:=LC.t (k:=l.1.map Sum.inl) (b:=l.2) g5.at_ (by rw[(BZ)];exact hP5);rw[hval]at this;exact this
   rw[tk,List.filterMap_append,(DC)];rw[M]at fs;refine⟨_,rfl,_,rfl,A,.ref kq.2,rfl,hget,kq.2,ys,Kv l.1 ts,kt,kk,rfl,hy,fs.1,Nat.le_trans (Ob _ _) h1000,fs.2,fun p hp=>?_,Nat.le_trans (aW _ (Ob _ _)) hk4,hkt,fun Fo H6 e6 hFo=>?_⟩
   .obtain⟨t,ht,rfl⟩:=Yq hp;exact(Ac t ht).2
   have hFo:H6 Fo=some (.tup (ML (sumK ts l.1))):=hFo;have g6:=g5.up e6;have tz6:=tz.same e6;have hS6:=e6 _ _ hS5;have hP6:=e6 _ _ hP5;have sb6:SameBut S H4 H6:=e5.trans (.of e6);refine⟨_,rfl,_,_,_,_,rfl,rfl,A5.of hFo,rfl,rfl,_,rfl,MP (fun cc=>?_) (fun cc=>?_)⟩
   .have hne:sumK ts l.1≠0:=fun z=>by
     rw[z]at cc;simp at cc
    have hgo:OV ts l.1=some (l.1,sumK ts l.1):=if_neg hne;rw[(Sh),hgo];refine⟨_,rfl,.inl ⟨rfl,_,Am.of hS6⟩,_,rfl,_,rfl,(by show 2<=sizeLine;decide),fun c hc=>?_⟩;have e7:=Aj hc (.tup [.ref l.2,.ref Fo]);have hc7:upd H6 c (.tup [.ref l.2,.ref Fo]) c=some (.tup [.ref l.2,.ref Fo]):=AR;generalize upd H6 c (.tup [.ref l.2,.ref Fo])=H7 at e7 hc7;have hS7:=e7 _ _ hS6;refine⟨S,U,_,rfl,rfl,hS7,Xu (by have:L.length<=1000:=(by have:=perm.length_eq;rw[OF]at this;lia);lia),?_⟩;have hSt:∀xs,H7 S≠some KK:=fun xs z=>by rw[hS7]at z;cases z
    refine⟨_,_,U++[.ref c],rfl,sb6.trans ((SameBut.of e7).trans .upd),(g6.up e7).but .upd nAS nqS hSt hS0,AR,by rw[(Ca)];exact Nat.add_le_add_right hzl 1,?_⟩;exact((tz6.same e7).snoc (t:=UG (l.1,sumK ts l.1)) hc7 (e7 _ _ hP6) (e7 _ _ hFo)).but .upd hSt
   .have hz:sumK ts l.1=0:=by
     refine Rat.num_eq_zero.mp (Decidable.byContradiction fun z=>cc ?_)
     simpa using z
    have hgo:OV ts l.1=none:=if_pos hz;rw[(Sh),hgo];refine⟨_,_,U,rfl,sb6,g6,hS6,by lia,?_⟩;rw[show List.filterMap (OV ts) []=[] from rfl,List.map_nil,(MN)];exact tz6
  .rintro σ H5 ⟨Y,r5,U,rfl,e5,g5,hS5,hzl,tz⟩;have hll:(L.map fun l=>V.ref l.2).length=(JP ts).length:=by rw[<-hLk,OF,OF]
   rw[hll,(Fm)]at tz;exact⟨_,rfl,q S H5 U g5.same hS0 hS5 tz⟩
end
mutual
theorem b7{H:Hp}:∀ {d:PD} {v:V},d.canLay0=true->Du H d v->DU H d v
 |.none,_,_,h=>by rw[Du]at h;subst h;exact .BV
 |.bool _,_,_,h=>by rw[Du]at h;subst h;exact .bool
 |.int _,_,_,h=>by rw[Du]at h;subst h;exact .int
 |.str _,_,_,h=>by rw[Du]at h;subst h;exact .str
 |.tuple _,_,c,h=>by
  rw[Du]at h;obtain⟨a,xs,rfl,I,l⟩:=h;exact .tup I (Ti (by simpa only[PyData.canLay0]using c) l)
 |.list _,_,c,h=>by
  rw[Du]at h;obtain⟨a,xs,rfl,I,l⟩:=h;exact .lst I (Ti (by simpa only[PyData.canLay0]using c) l)
 |.dict _,_,c,h=>by simp[PyData.canLay0]at c
theorem Ti{H:Hp}:∀ {ds:List PD} {xs:List V},PyData.canLayAll0 ds=true->Ad H ds xs->Fl H ds xs
 |[],_,_,h=>by rw[h.nil_eq];exact .nil
 |_::_,_,c,h=>by
  obtain⟨x,r,rfl,I,l⟩:=h.un;simp only[PyData.canLayAll0,Bool.and_eq_true]at c;exact .cons (b7 c.1 I) (Ti c.2 l)
end
def lg(T:AI G H)(e:AI H H')(I:H' l=some (.tup vs))(d:Ad G ds vs):∃G',AI G G'/\Nw G H G'/\AI G' H'/\Du G' (.tuple ds) (.ref l):=by
 have M:AI G (upd G l _):=fun a o h=>by
  by_cases ha:a=l
  .subst ha;have:=e _ _ (T _ _ h);rw[I]at this;rw[AR];exact this
  .rw[AM ha];exact h
 refine⟨upd G l _,M,fun a u h=>?_,fun a u h=>?_,?_⟩
 .by_cases ha:a=l
  .subst ha;rw[AR]at h;grind
  .rw[AM ha]at h;exact .inl h
 .by_cases ha:a=l
  .subst ha;rw[AR]at h;rw[I];exact h
  .rw[AM ha]at h;exact e _ _ (T _ _ h)
 .exact⟨l,vs,rfl,AR,d.same M⟩
theorem KW:∀ps:List Int,Ad G (ps.map .int) (ps.map V.int)
 |[]=>.nil
 |p::ps=>.cons IF (KW ps)
theorem ji:∀ps:List Int,PyData.canLayAll0 (ps.map .int)=true
 |[]=>by rfl
 |p::ps=>by rw[(BM)];simp only[PyData.canLayAll0];rw[ji ps];rfl
def Tz(h:∀d∈ds,d.canLay0=true):PyData.canLayAll0 ds=true:=by
 induction ds with
 |nil=>rfl
 |cons d ds l=>simp only[PyData.canLayAll0];rw[h d Ch,l fun e I=>h e (.tail _ I)];rfl
def Rr(h:PyData.canLayAll0 ds=true):∀d∈ds,d.canLay0=true:=by
 induction ds with
 |nil=>simp
 |cons e ds l=>
  simp only[PyData.canLayAll0]at h
  grind
def GZ(h:∀d∈ds,d.canLay0=true):(PyData.list ds).canLay0=true:=Tz h
def VD(h:∀d∈ds,d.canLay0=true):(PyData.tuple ds).canLay0=true:=Tz h
def KA(G H H':Hp):Hp:=fun b=>match H' b with
 |some (.tup xs)=>some KK
 |some o=>if H b=none then some o else G b
 |none=>none
def XU(h:H' a=some KK):KA G H H' a=some KK:=by unfold KA;rw[h]
def tI(h:H' a=some (.lst xs))(h0:H a=none):KA G H H' a=some (.lst xs):=by unfold KA;simp_all
def qu(I:AI G H)(e:AI H H'):AI G (KA G H H')/\Nw G H (KA G H H')/\AI (KA G H H') H':=by
 refine⟨fun a o h=>?_,fun a o h=>?_,fun a o h=>?_⟩
 .have l:=I _ _ h;unfold KA;rw[(e _ _ l)];cases o with
  |tup xs=>rfl
  |_=>simp only[l];exact h
 .unfold KA at h;split at h
  .cases h;simp
  .split at h
   .rename_i z;exact .inr (.inl z)
   .exact .inl h
  .cases h
 .unfold KA at h;cases z:H' a with
  |none=>rw[z]at h;cases h
  |some u=>
   rw[z]at h;cases u with
   |tup xs=>exact h
   |_=>
    simp at h;split at h
    .exact h
    .rw[<-z];exact e _ _ (I _ _ h)
open Classical in
noncomputable def ZP{α:Type}(hand:α->List PD)(ok:α->Prop)(tell:α->PD)(ds:AAK):AAP:=if h:∃a,ds=hand a/\ok a then some (tell (choose h)) else none
def ff{a}(inj:∀b,hand a=hand b->a=b)(h:ok a):ZP hand ok tell (hand a)=some (tell a):=by
 have e:∃b,hand a=hand b/\ok b:=⟨a,rfl,h⟩;unfold ZP
 grind
def vU{ok}{tell}(F:Ah P w K mg base CX k f fd ps sp) (h:∀a,ok a->∀G H vs Q E,Ad G (hand a) vs->AI G H->(∀v G' H',AI G G'->Nw G H G'->AI G' H'->AI H H'->Du G' (tell a) v->Q v H')->sp vs H Q E):Ah P w K mg base CX k f fd ps (A1 (ZP hand ok tell)) :=
 F.imp fun vs H Q E ⟨ds,x,G,hm,d,e,l⟩=>by
  unfold ZP at hm;split at hm
  .rename_i I;cases hm;have c:=ah I;refine h _ c.2 G H vs Q E ?_ e l;rw[<-c.1];exact d
  .cases hm
def HU(t:T3):PD:=.tuple [.tuple (t.1.map .int),.tuple [.int t.2.1,.int t.2.2]]
theorem LA:∀ {a b:List Int},a.map PyData.int=b.map PyData.int->a=b
 |[],[],_=>rfl
 |[],_::_,h=>by cases h
 |_::_,[],h=>by cases h
 |x::a,y::b,h=>by
  injection h with l I
  injection l with l
  rw[l,LA I]
def oY(h:HU a=HU b):a=b:=by
 obtain⟨a1,a2,a3⟩:=a;unfold HU at h;simp at h;rw[LA h.1,h.2.1,h.2.2]
theorem map_inj{α β:Type}{f:α->β}(hf:∀a b,f a=f b->a=b):∀ {a b:List α},a.map f=b.map f->a=b
 |[],[],_=>rfl
 |[],_::_,h=>by cases h
 |_::_,[],h=>by cases h
 |x::a,y::b,h=>by
  injection h with I l
  rw[hf _ _ I,map_inj hf l]
structure lA(ts:List T3):Prop where
 BA:ts.length<=1000
 bnd:∃kt k,(∀t∈ts,t.1≠[]/\1<=t.2.2/\t.2.1.natAbs<2^kt/\t.2.2.natAbs<2^k)/\k*ts.length<=4000/\kt<=100000
 keys:(Cc ts).length<64
abbrev QQ:MD:=ZP (fun ts=>[.list (ts.map HU)]) lA fun ts=>AG (ME ts)
def V0(h:lA ts):QQ [.list (ts.map HU)]=some (AG (ME ts)):=ff (fun b e=>map_inj (fun _ _=>oY) AS) h
def wA(h:Du G (HU t) v):∃c P F,v=.ref c/\G c=some (.tup [.ref P,.ref F])/\G P=some (.tup (t.1.map V.int))/\G F=some (.tup [.int t.2.1,.int t.2.2]):=by
 obtain⟨c,xs,rfl,I,d⟩:=h;obtain⟨x,y,rfl,d1,d2⟩:=d.Jg;obtain⟨P,ps,rfl,M,dp⟩:=d1;obtain⟨F,fs,rfl,T,Z⟩:=d2;obtain⟨u,v,rfl,Y,U⟩:=Z.Jg;subst Y U;refine⟨c,P,F,rfl,I,?_,T⟩;rw[<-(show ∀ {is:List Int} {us:List V},Ad G (is.map .int) us->us=is.map V.int from fun {is}=>by
  induction is with
  |nil=>intro us h;exact h.nil_eq
  |cons i is ih=>
   intro us h;obtain⟨x,r,rfl,l,m2⟩:=h.un;subst l
   grind) dp];exact M
theorem gZ:∀ {ts} {xs},Ad G (ts.map HU) xs->Kh G ts xs
 |[],xs,h=>by rw[h.nil_eq];exact⟨rfl,fun j t M=>by cases M⟩
 |t::ts,xs,h=>by
  obtain⟨x,r,rfl,U,T⟩:=h.un;obtain⟨c,P,F,rfl,a,b,d⟩:=wA U;have l:=gZ T;refine⟨af _ l.1,fun j u I=>?_⟩;cases j with
  |zero=>cases I;exact⟨c,P,F,rfl,a,b,d⟩
  |succ j=>exact l.2 j u I
theorem Wm:∀ {ts} {xs},Kh H' ts xs->Ad (KA G H H') (ts.map HU) xs
 |[],xs,h=>by rw[List.eq_nil_of_length_eq_zero h.1];rfl
 |t::ts,[],h=>by cases h.1
 |t::ts,x::xs,h=>by
  obtain⟨c,P,F,e,a,b,d⟩:=h.2 0 t rfl;cases e;refine .cons (⟨c,_,rfl,XU a,.cons ?_ (.cons ?_ .nil)⟩) (Wm ⟨by simpa using h.1,fun j u l=>h.2 (j+1) u l⟩)
  .exact⟨P,_,rfl,XU b,KW t.1⟩
  .exact⟨F,_,rfl,XU d,KW [t.2.1,t.2.2]⟩
def zA(F:Ah P w K mg base CX k f fd ps eV):Ah P w K mg base CX k f fd ps (A1 QQ):=vU F fun ts o G H vs Q E d e Z=>by
 obtain⟨v,rfl,d1⟩:=d.Im;obtain⟨T,xs,rfl,hT,dx⟩:=d1;obtain⟨kt,l,hb,h4,ht⟩:=o.bnd;refine⟨T,xs,ts,kt,l,rfl,e _ _ hT,(gZ dx).same e,o.BA,hb,h4,ht,o.keys,fun D H' U M hD I tz=>?_⟩;obtain⟨n1,Y,n3⟩:=qu e M;refine Z _ _ H' n1 Y n3 M (⟨D,U,rfl,tI I hD,?_⟩);have:=Wm (G:=G) (H:=H) tz;rw[(BZ)]at this;exact this
section
def Q0:DF :=
 (Al (AE Er (AA (CT (BU 1 2) BW (AF Ap Cb EQ) [none,none,none] (BI zip2 (AA CF SC))) AB)))
def Ce:MD:=A0 ["powers","more"] ["powers","more"] Q0
def cX:DF :=
 (Al (AF Ap (AF Ap (CG CF Bd (Be Cb)) (Aa (AA (AF Ep (AF Ak CF Cb) AT) AB))) (CG CF (Be (AF Ap Cb AT)) Bd)))
def EK:MD:=A0 ["powers","k"] ["powers","k"] cX
def WL(l:MD):DF :=
 (Al (AE l (AA (AF BJ (AF Ak CF By) (AF Ak Cb By)) (AA (AF BJ (AF Ak CF AT) (AF Ak Cb AT)) AB))))
def CH(l:MD):MD:=A0 Os Os (WL l)
def cR(l:MD):DF :=
 (Al (AE l (AA (AF Ap CF Cb) AB)))
def CZ(l:MD):MD:=A0 Os Os (cR l)
def NB(l:MD)(Ce:MD):DF :=
 (AL (Et 2 AB)
 (AL (BL (A6 CF) (BU 3 4)
  (BL (A6 Cb) (BU 5 6)
   (Ed 2 (Aa (AA (AE Ce (AA (nm 3) (AA (nm 5) AB))) (AA (Aa (AA (AF BJ (AF Ak ON By) (AF Ak (nm 6) By)) (AA (AF BJ (AF Ak ON AT) (AF Ak (nm 6) AT)) AB))) AB))))))
 (LB 2 (Al (AE l (AA EQ AB))))))
def Dw(l:MD)(Ce:MD):MD:=A0 Os ["one","other","terms","powers","part","more","share"] (NB l Ce)
def U7(CH:MD):DF :=
 (AL (Bp (Ao (Bv false) (AF Ak Cb By) By)
  (Al (BG AB))
  A2)
 (HK (Bk (BU 1 2) BW (Aa (AA Cb (AA (AE CH (AA EQ KB)) AB))) [none,none,none,some 1] (A6 CF))))
def A7(CH:MD):MD:=A0 ["some","part"] ["some","part"] (U7 CH)
def NZ(CH:MD)(EK:MD):DF :=
 (HK (Bk (BU 1 2) (Ao Id (AF Ak Cb (nm 3)) By) (Aa (AA (AE EK (AA Cb KB)) (AA (AE CH (AA EQ (AA (Aa (AA (AF Ak Cb (nm 3)) SL)) AB))) AB))) [none,none,none,some 1] (A6 CF)))
def B2(CH:MD)(EK:MD):MD:=A0 ["some","k"] ["some","k"] (NZ CH EK)
def Hv(B2:MD)(CZ:MD)(Dw:MD)(De:MD):DF :=
 (AL (Bp (Ao (Bv false) (AE BS SC) By)
  (Al CF)
  A2)
 (AL (AX 2 (BG AB))
 (AL (BL (BI Fu (AA (AF Ak Cb By) AB)) (BU 3 4)
  (AL (AX 5 (AE B2 (AA CF KB)))
  (Bp (Nx (Ao Id (AE BS (AA (nm 5) AB)) By) (Ao Id (AE BS (AA ON AB)) By))
   (AX 2 (AE CZ (AA EQ (AA (AE Dw (AA (AE De (AA (nm 5) (AA (CG Cb (Be AT) Bd) AB))) (AA ON AB))) AB))))
   A2)))
 (Al EQ))))
def De(B2:MD)(CZ:MD)(Dw:MD):Nat->MD
 |0=>fun _=>none
 |n+1=>A0 ["some","boughs"] ["some","boughs","total","k","place","slope"] (Hv B2 CZ Dw (De B2 CZ Dw n))
def X1(A7:MD)(B2:MD)(CZ:MD):DF :=
 (AL (AX 2 (BG AB))
 (AL (BL (BI Fu SC) (BU 3 4)
  (AX 2 (AE CZ (AA EQ (AA (AE A7 (AA (AE B2 (AA CF KB)) (AA ON AB))) AB)))))
 (Al EQ)))
def PQ(A7:MD)(B2:MD)(CZ:MD):MD:=A0 ["some","speeds"] ["some","speeds","total","k","speed"] (X1 A7 B2 CZ)
end
def Mg(d:AD)(H H':Hp):Prop:=∀a o,a≠d->H a=some o->H' a=some o
def Mg.of(e:AI H H'):Mg d H H':=fun a o _ h=>e a o h
def Mg.trans(e:Mg d H M)(l:Mg d M I):Mg d H I:=fun a o n h=>l a o n (e a o n h)
def Xi:dN d r≠.lst xs:=by intro z;cases z
def eo:dN d r≠.tup xs:=by intro z;cases z
structure dJ(Dm:List Tr)(c:Nat):Prop where
 len:Dm.length<=1000
 inj:∀a∈Dm,∀b∈Dm,TH.Bb (some a)=TH.Bb (some b)->a=b
 bs:∀t∈Dm,∀b∈t.bs,b∈Dm
 deep:∀t∈Dm,t.deep<8
 size:∀t∈Dm,c*t.Fy+1<=1000000
theorem NM{α:Type}[DecidableEq α]:∀ {a b:List α},a.Nodup->(∀x∈a,x∈b)->a.length<=b.length
 |[],_,_,_=>by simp
 |x::a,b,hn,h=>by
  obtain⟨M,I⟩:=List.nodup_cons.mp hn;have:=NM I fun y l=>(List.mem_erase_of_ne (show y≠x from fun e=>by lia)).mpr (h y (.tail _ l))
  grind
def Xy r k I v:∃q,(Gg r k I v).find? (fun q=>decide (q.1=k))=some q:=by
 obtain⟨q,M,l⟩:=(show ∃q∈Gg r k I v,q.1=k by
  unfold Gg;split
  .rename_i h;obtain⟨q,T⟩:=Option.isSome_iff_exists.mp h;obtain⟨M,l⟩:=find_key T;exact⟨_,List.mem_map_of_mem M,by rw[if_pos l];exact l⟩
  .exact⟨_,List.mem_append_right _ Ch,rfl⟩)
 cases z:(Gg r k I v).find? _ with
 |some U=>simp
 |none=>exact absurd l (by simpa using List.find?_eq_none.mp z q M)
structure Fp(Dm:List Tr)(B:Tr->PyData)(Γ H:Hp)(d:Addr)(r:List KR):Prop where
 at_:H d=some (dN d r)
 nd:(r.map Fk).Nodup
 all:∀q∈r,∃t:Tr,q.1=some t/\t∈Dm/\Tv Γ t q.2.1/\Du Γ (B t) q.2.2
 out:Γ d=none
 sm:AI Γ H
section
variable{Dm:AAg}{B:Tr->PD}{Γ Γ' H H':Hp}{d:AD}{r:List KR}{c:Nat}
def Fp.ok(h:Fp Dm B Γ H d r)(D:dJ Dm c)(U:t∈Dm):Sk H d r (some t):=by
 refine⟨h.at_,fun q l=>?_,h.nd,fun q l T=>?_⟩
 .obtain⟨u,M,I,Y,_⟩:=h.all q l;rw[M];exact⟨D.deep u I,Y.same h.sm⟩
 .obtain⟨u,M,I,_⟩:=h.all q l;rw[M]at T ⊢;rw[D.inj u I t U T]
def Fp.len(h:Fp Dm B Γ H d r):r.length<=Dm.length:=by
 have:=NM h.nd fun x l=>by
  obtain⟨q,I,rfl⟩:=aI.mp l;obtain⟨u,T,M,_⟩:=h.all q I;rw[T];exact List.mem_map_of_mem M
 simp_all
def Rf(nw:Nw Γ H Γ')(sm:AI Γ' H')(h0:Γ a=none)(h:H a=some o)(h':∀xs,H' a≠some KK):Γ' a=none:=by
 cases z:Γ' a with
 |none=>rfl
 |some u=>
  rcases nw a u z with k|k|⟨xs,rfl⟩
  .lia
  .lia
  .exact absurd (sm _ _ z) (h' xs)
def Fp.up(h:Fp Dm B Γ H d r)(e:AI Γ Γ')(nw:Nw Γ H Γ')(sm:AI Γ' H')(hd:H' d=some (dN d r)):Fp Dm B Γ' H' d r :=
 ⟨hd,h.nd,fun q l=>let⟨t,a,b,c,x⟩:=h.all q l;⟨t,a,b,c.same e,x.same e⟩,Rf nw sm h.out h.at_ (fun xs z=>by rw[hd]at z;injection z with z;exact eo z),sm⟩
def Fi(n1:Nw Γ H I)(M:Nw I H' l)(e:Mg d H H')(hd:H' d=some o):Nw Γ H l:=fun a u h=>by
 rcases M a u h with k|k|k
 .exact n1 a u k
 .refine .inr (.inl ?_);cases z:H a with
  |none=>rfl
  |some v=>
   by_cases n:a=d
   .simp_all
   .rw[e _ _ n z]at k;cases k
 simp_all
def XW(n1:Nw Γ H l)(I:H D=none):Nw Γ H (upd l D o):=fun a u h=>by
 by_cases z:a=D
 .simp_all
 .rw[AM z]at h;exact n1 a u h
def MG(h:AI Γ H)(l:H D=some o):AI (upd Γ D o) H:=fun a u k=>by
 by_cases z:a=D
 .subst z;rw[AR]at k;lia
 .rw[AM z]at k;exact h _ _ k
def Gk(h:AI Γ H)(l:Γ D=none):AI Γ (upd H D o):=fun a u k=>by
 rw[AM (Af k l)];exact h _ _ k
def Fp.put(h:Fp Dm B Γ H d r)(T:t∈Dm)(I:Tv Γ t v)(du:Du Γ (B t) u):Fp Dm B Γ (upd H d (dN d (Gg r (some t) v u))) d (Gg r (some t) v u):=by
 refine⟨AR,?_,fun q l=>?_,h.out,Gk h.sm h.out⟩
 .unfold Gg;split
  .rw[(BZ),show(_ ∘ fun q=>if q.1=some t then(q.1,q.2.1,u) else q)=fun x=>x.1 from funext fun q=>by
    show(if q.1=some t then(q.1,q.2.1,u) else q).1=q.1;split<;>rfl]
   exact h.nd
  .rw[(DC)];refine List.nodup_append.mpr ⟨h.nd,by simp,fun a ha b U=>?_⟩
   grind
 .unfold Gg at l;split at l
  .obtain⟨M,Y,h2⟩:=aI.mp l;obtain⟨s,k1,k2,k3,Z⟩:=h.all M Y
   grind
  .rcases aX.mp l with l|l
   .exact h.all q l
   .rw[List.mem_singleton.mp l];exact⟨t,rfl,T,I,du⟩
end
structure nh(Dm:List Tr)(m:MD)(C:List PyData)(B:Tr->PyData)(BT:Tr->List PyData):Prop where
 is:∀t,B t=.list (BT t)
 len:∀t∈Dm,(BT t).length=C.length
 at_:∀t∈Dm,∀(i:Nat) c,C[i]? = some c->∃x,(BT t)[i]? = some x/\m [c,.list (t.bs.map B)]=some x
 BA:C.length<=100
 bsl:∀t∈Dm,t.bs.length<=100
def gI(Dm:AAg)(B:Tr->PD)(C:AAK)(n:Nat):Sp:=fun vs H Q _=>∃(M v:V) (t:Tr) (d:AD) (r:List KR) (Γ:Hp),vs=[M,v,.ref d]/\Du Γ (.list C) M/\Tv Γ t v/\t∈Dm/\t.deep<n/\Fp Dm B Γ H d r /\
 ∀l H' T I,AI Γ l->Nw Γ H l->Mg d H H'->Fp Dm B l H' d T->Du l (B t) I->Q I H'
theorem OW:∀ {ds} {xs} {i:Nat} {x},Ad Γ ds xs->xs[i]? = some x->∃d,ds[i]? = some d/\Du Γ d x
 |[],xs,i,x,h,e=>by rw[h.nil_eq]at e;cases e
 |d::ds,xs,i,x,h,e=>by
  obtain⟨y,r,rfl,U,M⟩:=h.un;cases i with
  |zero=>simp_all
  |succ i=>
   obtain⟨T,I,l⟩:=OW M e;exact⟨T,I,l⟩
section
variable{P:F0b}{w:F0c}{K:Fg}{mg:AAO}{base:Heap}{f g1:AD}{fd gd1:F0a}
def Ut:BX ["change","tree","known","boughs"] ["change","tree","known"] (AZ NU):=Dx
theorem Me{Dm:List Tr}{c k:Nat}{m:MD}{C:List PD}{B:Tr->PD}{BT:Tr->List PD}(DO:dJ Dm c)(BO:nh Dm m C B BT)(Ef:Fn K mg "bent_polys" NU ["change","tree","known"] f fd)(Dh:Fn K mg "along_boughs" S0 ["some","boughs"] g1 gd1)(Vy:Ah P w K mg base Ag k g1 gd1 ["some","boughs"] (A1 m)) :
  ∀n,Ah P w K mg base Ag (k+n+1) f fd ["change","tree","known"] (gI Dm B C n)
 |0=>N5 fun _ _ _ _ ⟨_,_,_,_,_,_,_,_,_,_,h,_⟩=>absurd h (bI _)
 |n+1=>by
  have sc:=Ut;have Ww:=Me DO BO Ef Dh Vy n;have TJ:=Vy.mono (show k<=k+n+1 by lia);refine Ef.F.ok (k:=k+n+1) sc Of No
  .obtain⟨cv,v,t,d,r,Γ,rfl,_⟩:=h
   rfl
  obtain⟨cv,v,t,d,r,Γ,rfl,dc,tv,Z,hdp,me,q⟩:=h;refine⟨_,(Ai (IX (Dc (fB Fa true) (pv 1) (pv 2) rfl)
   (Ai (Az (i:=3) sc.nd rfl (Or.inr rfl) (IJ [".0","bough","change","known"] 1 [none,none,some 0,some 2] (iP (pv 1)) (fun _ _ _ _ _=>HB) (fun _ _ _ _ _=>(EJ Ef Ww hr rfl (AV (pv 2) (AV (pv 1) (AV (pv 3) Av)))))))
   (A8 (QX (IJ [".0","some","boughs"] 1 [none,none,some 3] (E9 (pv 0)) (fun _ _ _ _ _=>HB) (fun _ _ _ _ _=>(EJ Dh TJ hr rfl (AV (pv 1) (AV (pv 2) Av))))) (Qv (pv 2) (pv 1) (XH Fa)))))
   FC)
   (A8 (Dj (Vx Fa (pv 2) (pv 1) (fun _ _=>rfl))))),?_⟩
  have key:Ge H (some t) v:=⟨DO.deep t Z,tv.same me.sm⟩;cases hz:r.find? (fun q=>decide (q.1=some t)) with
  |some q'=>
   refine⟨_,rfl,_,rfl,d,r,some t,rfl,key,me.ok DO Z,false,by rw[hz];rfl,u7 ?_⟩;obtain⟨hm,hk⟩:=find_key hz;obtain⟨u,h1,h2,h3,h4⟩:=me.all q' hm;rw[hk]at h1;cases h1;exact⟨_,rfl,_,rfl,d,r,some t,q',rfl,key,me.ok DO Z,hz,q Γ H r _ (.refl _) Nw.refl (fun a o _ h=>h) me h4⟩
  |none=>
   refine⟨_,rfl,_,rfl,d,r,some t,rfl,key,me.ok DO Z,true,by rw[hz];rfl,MF ?_⟩;obtain⟨a,ys,rfl,ha,hts⟩:=tv;have hyl:=hts.len;have haH:=me.sm _ _ ha;rw[Du]at dc;obtain⟨R,cs,rfl,hR,dcs⟩:=dc;refine⟨_,rfl,a,rfl,⟨_,A5.of haH⟩,fun D hD=>Ja (n:=ys.length) (fun i us H'=>∃l ρ,AI Γ l/\Nw Γ H l/\Mg d H H'/\Fp Dm B l H' d ρ/\Ad l ((t.bs.take i).map B) us/\l D=none) ?_ ?_ ?_⟩
   .have hDΓ:=OD me.sm hD;exact⟨Γ,r,.refl _,Nw.refl,.of (Aj hD _),me.up (.refl _) Nw.refl (Gk me.sm hDΓ) (Aj hD _ _ _ me.at_),by rw[List.take_zero];exact .nil,hDΓ⟩
   .rintro i us H3 hi ⟨Γ3,ρ,s3,n3,b3,me3,du3,hD3Γ⟩ hD3;have ha3:=me3.sm _ _ (s3 _ _ ha);have hul:us.length<=100:=by
     have h1:=du3.len;have h2:=BO.bsl t Z;rw[OF,(Ex)]at h1
     lia
    refine⟨⟨_,_,A5.of ha3,List.getElem?_eq_getElem hi⟩,Xu AS,fun x H' y=>?_⟩;obtain⟨rfl,y⟩:=y;have hx:=y _ (A5.of ha3);obtain⟨b,hb,tb⟩:=hts.get hx;have hbm:b∈t.bs:=aJ hb;have hbd:=Tr.Vz hbm;unfold Kt;refine MF ⟨_,rfl,_,rfl,_,rfl,.ref R,x,b,d,ρ,Γ3,rfl,by rw[Du];exact⟨R,cs,rfl,s3 _ _ hR,dcs.same s3⟩,tb.same s3,DO.bs t Z b hbm,by lia,me3,fun Γ4 H4 r4 v4 s4 n4 b4 me4 du4=>?_⟩;have nDd:D≠d:=fun z=>by rw[z,me3.at_]at hD3;injection hD3 with z';exact Xi z'
    have hD4:=b4 _ _ nDd hD3;have hD4Γ:=Rf n4 me4.sm hD3Γ hD3 (fun xs z=>by rw[hD4]at z;cases z);refine⟨hD4,Gs hi ⟨Γ4,r4,s3.trans s4,Fi n3 n4 b3 me3.at_,fun c o n z=>?_,me4.up (.refl _) Nw.refl (Gk me4.sm hD4Γ) (by rw[AM (Ne.symm nDd)];exact me4.at_),?_,hD4Γ⟩⟩
    .rw[AM (Af z hD)];exact b4 _ _ n (b3 _ _ n z)
    .rw[(Ir),hb,(DC)];exact(du3.same s4).app (.cons du4 .nil)
   .rintro us H5 ⟨T,ρ,s5,n5,b5,U,du5,hD5Γ⟩ hD5;rw[hyl,(Fm)]at du5;have nDd:D≠d:=fun z=>by rw[z,U.at_]at hD5;injection hD5 with z';exact Xi z'
    have s6:AI T (upd T D (.lst us)):=Aj hD5Γ _;have sm6:AI (upd T D (.lst us)) H5:=MG U.sm hD5;have n6:Nw Γ H (upd T D (.lst us)):=XW n5 hD;have duB:Du (upd T D (.lst us)) (.list (t.bs.map B)) (.ref D):=by rw[Du];exact⟨D,us,rfl,AR,du5.same s6⟩
    have me6:Fp Dm B (upd T D (.lst us)) H5 d ρ:=⟨U.at_,U.nd,fun q hq=>let⟨t,a,b,c,x⟩:=U.all q hq;⟨t,a,b,c.same s6,x.same s6⟩,by rw[AM (Ne.symm nDd)];exact U.out,sm6⟩;have s06:=s5.trans s6;generalize upd T D (.lst us)=Γ6 at s6 sm6 n6 duB me6 s06;have ha5:=sm6 _ _ (s06 _ _ ha);have hR6:=s06 _ _ hR;have dcs6:=dcs.same s06;have hcl:cs.length=C.length:=dcs.len;refine⟨⟨_,A5.of ha5,Nat.le_refl _⟩,_,rfl,R,rfl,⟨_,Am.of (sm6 _ _ hR6)⟩,fun D2 hD2=>Ja (n:=cs.length) (fun j us H'=>∃l,AI Γ6 l/\Nw Γ6 H5 l/\AI H5 H'/\AI l H'/\Ad l ((BT t).take j) us/\l D2=none) ?_ ?_ ?_⟩
    .have:=OD sm6 hD2;exact⟨Γ6,.refl _,Nw.refl,Aj hD2 _,Gk sm6 this,by rw[List.take_zero];exact .nil,this⟩
    .rintro j us H7 hj ⟨Γ7,s7,n7,e7,sm7,du7,hD7Γ⟩ hD7;have hR7:=sm7 _ _ (s7 _ _ hR6);have hul:us.length<=100:=by
      have h1:=du7.len;have h2:=BO.BA;rw[(Ex),BO.len t Z]at h1
      lia
     refine⟨⟨_,_,Am.of hR7,List.getElem?_eq_getElem hj⟩,Xu AS,fun x H' y=>?_⟩;obtain⟨rfl,y⟩:=y;have hx:=y _ (Am.of hR7);obtain⟨cd,hcd,dcd⟩:=OW dcs6 hx;obtain⟨xd,hxd,hm⟩:=BO.at_ t Z j cd hcd;unfold Kt;refine MF ⟨_,rfl,_,rfl,[cd,.list (t.bs.map B)],xd,Γ7,hm,.cons (dcd.same s7) (.cons (duB.same s7) .nil),sm7,fun v G8 H8 a1 a2 a3 a4 a5=>?_⟩;have hD8:=a4 _ _ hD7;have I:=Rf a2 a3 hD7Γ hD7 (fun xs z=>by rw[hD8]at z;cases z);refine⟨hD8,Gs hj ⟨G8,s7.trans a1,Fi (d:=D2) n7 a2 (.of e7) hD7,fun c o z=>?_,Gk a3 I,?_,I⟩⟩
     .rw[AM (Af z hD2)];exact a4 _ _ (e7 _ _ z)
     .rw[(Ir),hxd];exact(du7.same a1).app (.cons a5 .nil)
    .rintro us H8 ⟨M,s8,n8,e8,sm8,du8,I⟩ hD8;rw[hcl,<-BO.len t Z,(Fm)]at du8;have hd8:=e8 _ _ me6.at_;have nD2d:D2≠d:=fun z=>by rw[z,hd8]at hD8;injection hD8 with z';exact Xi z'
     have s9:AI M (upd M D2 (.lst us)):=Aj I _;have sm9:AI (upd M D2 (.lst us)) H8:=MG sm8 hD8;have n9:Nw Γ6 H5 (upd M D2 (.lst us)):=XW n8 hD2;have duT:Du (upd M D2 (.lst us)) (B t) (.ref D2):=by rw[BO.is,Du];exact⟨D2,us,rfl,AR,du8.same s9⟩
     have me9:=me6.up (s8.trans s9) n9 sm9 hd8;have s09:=s06.trans (s8.trans s9);have n09:Nw Γ H (upd M D2 (.lst us)):=Fi n6 n9 b5 U.at_;generalize upd M D2 (.lst us)=Γ9 at s9 sm9 n9 duT me9 s09 n09;have tv9:Tv Γ9 t Jc:=⟨a,ys,rfl,s09 _ _ ha,hts.same s09⟩;refine⟨⟨_,Am.of (sm8 _ _ (s8 _ _ hR6)),Nat.le_refl _⟩,_,rfl,_,rfl,d,ρ,some t,rfl,⟨DO.deep t Z,tv9.same sm9⟩,me9.ok DO Z,Nat.le_trans me9.len DO.len,?_⟩;have Y:=me9.put Z tv9 duT;obtain⟨q',hq'⟩:=Xy ρ (some t) Jc (.ref D2);obtain⟨hm,hk⟩:=find_key hq';obtain⟨u,h1,h2,h3,h4⟩:=Y.all q' hm;rw[hk]at h1;cases h1;refine⟨_,rfl,_,rfl,d,_,some t,q',rfl,⟨DO.deep t Z,tv9.same Y.sm⟩,Y.ok DO Z,hq',?_⟩;exact q Γ9 _ _ _ s09 n09 (fun c o n z=>by rw[AM n];exact e8 _ _ (b5 _ _ n z)) Y h4
end
def qB xs (p:Nat):L7 xs none (some p)=xs.take p:=by
 unfold L7;rw[HT.MX,HT.JZ];simp
def zp{H:Hp}(ha:H a=some KK)(k:∀b H',AI H H'->H' b=some (.tup (xs.take p))->(H b=none\/H b=some (.tup (xs.take p)))->Q (.ref b) H'):nF K Jc none (some p) H Q:=by
 refine⟨a,xs,rfl,A5.of ha,fun l=>?_,fun l c I=>?_⟩
 .have e:xs.take p=xs:=by
   have:=l.2;rw[HT.JZ]at this;exact List.take_of_length_le AS
  exact k a H (.refl _) AS (.inr AS)
 .rw[qB];exact k c _ (Aj I _) AR (.inl I)
theorem YX:∀ {t} {ys} i,Ts H t ys->Ts H (Tr.of (t.bs.take i)) (ys.take i)
 |.nil,ys,i,h=>by
  rw[h,Tr.bs,List.take_nil,List.take_nil]
  rfl
 |.cons b r,ys,0,h=>rfl
 |.cons b r,ys,i+1,h=>by
  obtain⟨a,us,T,rfl,M,I,l⟩:=h;exact⟨a,us,_,rfl,M,I,YX i l⟩
structure mD(Dm:List Tr)(mP mW:MD)(C:List PyData)(S:PyData)(PT WT:Tr->List PyData):Prop where
 nil:PT .nil=C
 ij:∀t∈Dm,(PT t).length=C.length
 push:∀t∈Dm,∀(i:Nat) b,t.bs[i]? = some b->∀(j:Nat) c,(PT (Tr.of (t.bs.take i)))[j]? = some c->∃x,(PT (Tr.of (t.bs.take OK)))[j]? = some x/\mP [c,.list (WT b)]=some x
 vR:∀t∈Dm,(WT t).length=C.length
 worth:∀t∈Dm,∀(j:Nat) c,(PT t)[j]? = some c->∃x,(WT t)[j]? = some x/\mW [c,S]=some x
 BA:C.length<=100
 pre:∀t∈Dm,∀i,Tr.of (t.bs.take i)∈Dm
abbrev pD(PT:Tr->List PD)(t:Tr):PD:=.list (PT t)
def se(Dm:AAg)(PT WT:Tr->List PD)(C:AAK)(S:PD)(n:Nat):Sp:=fun vs H Q _=>∃(T v M:V) (t:Tr) (d:AD) (r:List KR) (Γ:Hp),vs=[T,v,M,.ref d]/\Du Γ (.list C) T/\Tv Γ t v/\Du Γ S M/\t∈Dm/\t.deep<n/\Fp Dm (pD PT) Γ H d r /\
 ∀l H' U I,AI Γ l->Nw Γ H l->Mg d H H'->Fp Dm (pD PT) l H' d U->Du l (.list (WT t)) I->Q I H'
def d8(Γ H:Hp)(D:AD)(xs:AAK)(j:Nat)(us:AAf)(H':Hp):Prop:=∃l,AI Γ l/\Nw Γ H l/\AI H H'/\AI l H'/\Ad l (xs.take j) us/\l D=none
def md(sm:AI Γ H)(l:H D=none):d8 Γ H D xs 0 [] (upd H D NE):=by
 have:=OD sm l;exact⟨Γ,.refl _,Nw.refl,Aj l _,Gk sm this,.nil,this⟩
def Vl(hD:H D=none)(s7:AI Γ l)(n7:Nw Γ H l)(e7:AI H H7)(Z:Ad l (xs.take j) us)(M:l D=none)(T:H7 D=some (.lst us))(a1:AI l U)(a2:Nw l H7 U)(a3:AI U H8)(a4:AI H7 H8)(a5:Du U x v)(hx:xs[j]? = some x):H8 D=some (.lst us)/\d8 Γ H D xs (j+1) (us++[v]) (upd H8 D (.lst (us++[v]))):=by
 have Y:=a4 _ _ T;have I:=Rf a2 a3 M T (fun xs z=>by lia);refine⟨Y,U,s7.trans a1,Fi n7 a2 (.of e7) T,fun c o z=>?_,Gk a3 I,?_,I⟩
 .rw[AM (Af z hD)];exact a4 _ _ (e7 _ _ z)
 .rw[(Ir),hx];exact(Z.same a1).app (.cons a5 .nil)
def YW(h:d8 Γ H D xs j us H')(hj:xs.length<=j)(hD:H D=none)(Y:H' D=some (.lst us)):∃l,AI Γ l/\Nw Γ H l/\AI H H'/\AI l H'/\Du l (.list xs) (.ref D):=by
 obtain⟨I,s8,n8,e8,U,T,M⟩:=h;rw[List.take_of_length_le hj]at T;have Z:AI I (upd I D (.lst us)):=Aj M _;exact⟨upd I D _,s8.trans Z,XW n8 hD,e8,MG U Y,⟨D,us,rfl,AR,T.same Z⟩⟩
section
variable{P:F0b}{w:F0c}{K:Fg}{mg:AAO}{base:Heap}{f g1 g2:AD}{fd gd1 gd2:F0a}
def Se:BX ["change","tree","start","known","pushed","k","bough","ahead","speeds"] ["change","tree","start","known"] (AZ Mu):=Dx
theorem Lb{Dm:List Tr}{c k:Nat}{mP mW:MD}{C:List PD}{S:PD}{PT WT:Tr->List PD}(DO:dJ Dm c)(WO:mD Dm mP mW C S PT WT)(EA:Fn K mg "bent_worths" Mu ["change","tree","start","known"] f fd)(IQ:Fn K mg "pushed_by" YE ["some","speeds"] g1 gd1)(GA:Fn K mg "worth_at" MQ ["some","start"] g2 gd2)(Tu:Ah P w K mg base Ag k g1 gd1 ["some","speeds"] (A1 mP))(XS:Ah P w K mg base Ag k g2 gd2 ["some","start"] (A1 mW))(FD:mg "enumerate" = none) :
  ∀n,Ah P w K mg base Ag (k+n+1) f fd ["change","tree","start","known"] (se Dm PT WT C S n)
 |0=>N5 fun _ _ _ _ ⟨_,_,_,_,_,_,_,_,_,_,_,_,h,_⟩=>absurd h (bI _)
 |n+1=>by
  have sc:=Se;have U2:=Lb DO WO EA IQ GA Tu XS FD n;have X7:=Tu.mono (show k<=k+n+1 by lia);have Z1:=XS.mono (show k<=k+n+1 by lia);refine EA.F.ok (k:=k+n+1) sc Of No
  .obtain⟨cv,v,sv,t,d,r,Γ,rfl,_⟩:=h
   rfl
  obtain⟨cv,v,sv,t,d,r,Γ,rfl,dc,tv,ds,ht,hdp,me,q⟩:=h;refine⟨_,(Ai (Az (i:=4) sc.nd rfl GE (pv 0))
   (Ai (KN bF rfl (Zc rfl FD (AV (pv 1) Av)) (Nt rfl (EU (Df (i:=5) sc.nd rfl GE) (EU (Df (i:=6) sc.nd rfl GE) LV)))
    (Ai (Az (i:=7) sc.nd rfl GE (WH pI (pv 1) ZI (Y8 (DP gU (pv 5) Bt))))
    (Ai (IX (Dc (fB Fa true) (pv 7) (pv 3) rfl)
     (Ai (Az (i:=8) sc.nd rfl (Or.inr rfl) (EJ EA U2 hr rfl (AV (pv 0) (AV (pv 6) (AV (pv 2) (AV (pv 3) Av))))))
     (A8 (QX (IJ [".0","some","speeds"] 1 [none,none,some 8] (E9 (pv 4)) (fun _ _ _ _ _=>HB) (fun _ _ _ _ _=>(EJ IQ X7 hr rfl (AV (pv 1) (AV (pv 2) Av))))) (Qv (pv 3) (pv 7) (XH Fa)))))
     FC)
    (A8 (Az (i:=4) sc.nd rfl GE (Vx Fa (pv 3) (pv 7) (fun _ _=>rfl)))))))
   (A8 (Dj (IJ [".0","some","start"] 1 [none,none,some 2] (E9 (pv 4)) (fun _ _ _ _ _=>HB) (fun _ _ _ _ _=>(EJ GA Z1 hr rfl (AV (pv 1) (AV (pv 2) Av))))))))),?_⟩
  obtain⟨a,ys,rfl,ha,hts⟩:=tv;have hyl:=hts.len;refine⟨_,rfl,?_⟩;refine⟨_,rfl,a,rfl,⟨_,A5.of (me.sm _ _ ha)⟩,iu (xs:=ys) (fun i σ H'=>∃(r5 r6 r7 r8:Option V) (pw:V) (Γ':Hp) (ρ:List KR),σ=[some cv,some Jc,some sv,some (.ref d),some pw,r5,r6,r7,r8]/\AI Γ Γ'/\Nw Γ H Γ'/\Mg d H H'/\Fp Dm (pD PT) Γ' H' d ρ/\Du Γ' (pD PT (Tr.of (t.bs.take i))) pw) ?_ ?_ ?_ ?_⟩
  .exact⟨_,_,_,_,cv,Γ,r,rfl,.refl _,Nw.refl,fun _ _ _ z=>z,me,by rw[List.take_zero];show Du Γ (.list (PT .nil)) cv;rw[WO.nil];exact dc⟩
  .rintro i σ H' _ ⟨r5,r6,r7,r8,pw,Γ',ρ,rfl,s1,n1,b1,I,d1⟩;exact A5.of (I.sm _ _ (s1 _ _ ha))
  .rintro i x σ H1 hx ⟨r5,r6,r7,r8,pw,M,ρ,rfl,s1,n1,b1,I,d1⟩ p hp;have hi:i<ys.length:=(aD.mp hx).1;obtain⟨b,hb,tb⟩:=hts.get hx;have hbm:b∈t.bs:=aJ hb;have hbd:=Tr.Vz hbm;have l:=WO.pre t ht OK;have e2:=Aj hp (.tup [.int (i:Nat),x]);have hp2:upd H1 p (.tup [.int (i:Nat),x]) p=some (.tup [.int (i:Nat),x]):=AR;generalize upd H1 p (.tup [.int (i:Nat),x])=H2 at e2 hp2;have ha2:=e2 _ _ (I.sm _ _ (s1 _ _ ha));refine⟨p,_,rfl,A5.of hp2,rfl,_,_,rfl,_,_,rfl,rfl,?_⟩;refine⟨_,rfl,_,rfl,_,_,rfl,rfl,_,rfl,?_⟩;refine zp (p:=i+1) ha2 fun u H3 e3 hu hnew=>?_;have e13:=e2.trans e3;have hΓu:M u=none\/M u=some (.tup (ys.take OK)):=by
    cases z:M u with
    |none=>exact .inl rfl
    |some o=>
     have:=e13 _ _ (I.sm _ _ z);rw[hu]at this;cases this;exact .inr rfl
   have s3:AI M (upd M u (.tup (ys.take OK))):=fun c o z=>by
    by_cases n:c=u
    .subst n;rcases hΓu with k|k
     .rw[k]at z;cases z
     .rw[k]at z;cases z;exact AR
    .rw[AM n];exact z
   have n3:Nw M H1 (upd M u (.tup (ys.take OK))):=fun c o z=>by
    by_cases n:c=u
    .subst n;rw[AR]at z;cases z;exact .inr (.inr ⟨_,rfl⟩)
    .rw[AM n]at z;exact .inl z
   have sm3:AI (upd M u (.tup (ys.take OK))) H3:=MG (I.sm.trans e13) hu;have T:=I.up s3 n3 sm3 (e13 _ _ I.at_);have tvu:Tv (upd M u (.tup (ys.take OK))) (Tr.of (t.bs.take OK)) (.ref u):=⟨u,_,rfl,AR,(YX OK hts).same (s1.trans s3)⟩;have s03:=s1.trans s3;have n03:Nw Γ H (upd M u (.tup (ys.take OK))):=Fi n1 n3 b1 I.at_;have b03:Mg d H H3:=b1.trans (.of e13);have d3:=d1.same s3;generalize upd M u (.tup (ys.take OK))=Γ3 at s3 n3 sm3 T tvu s03 n03 d3;have key:Ge H3 (some (Tr.of (t.bs.take OK))) (.ref u):=⟨DO.deep _ l,tvu.same sm3⟩;cases hz:ρ.find? (fun q=>decide (q.1=some (Tr.of (t.bs.take OK)))) with
   |some q'=>
    refine⟨_,rfl,_,rfl,d,ρ,some _,rfl,key,T.ok DO l,false,by rw[hz];rfl,u7 ?_⟩;obtain⟨hm,hk⟩:=find_key hz;obtain⟨u',h1,h2,h3,h4⟩:=T.all q' hm;rw[hk]at h1;cases h1;exact⟨_,rfl,_,rfl,d,ρ,some _,q',rfl,key,T.ok DO l,hz,_,_,_,_,_,Γ3,ρ,rfl,s03,n03,b03,T,h4⟩
   |none=>
    refine⟨_,rfl,_,rfl,d,ρ,some _,rfl,key,T.ok DO l,true,by rw[hz];rfl,MF ?_⟩;refine⟨_,rfl,_,rfl,_,rfl,_,rfl,cv,x,sv,b,d,ρ,Γ3,rfl,dc.same s03,tb.same s03,ds.same s03,DO.bs t ht b hbm,by lia,T,fun Γ4 H4 r4 v4 s4 n4 b4 me4 d4=>?_⟩;have d34:=d3.same s4;rw[Du]at d34;obtain⟨R,cs,rfl,hR,dcs⟩:=d34;have hcl:cs.length=(PT (Tr.of (t.bs.take i))).length:=dcs.len;have hpl:(PT (Tr.of (t.bs.take i))).length=C.length:=WO.ij _ (WO.pre t ht i);have hpl':(PT (Tr.of (t.bs.take OK))).length=C.length:=WO.ij _ l;have BA:=WO.BA;refine⟨_,rfl,R,rfl,⟨_,Am.of (me4.sm _ _ hR)⟩,fun D hD=>Ja (n:=cs.length) (d8 Γ4 H4 D (PT (Tr.of (t.bs.take OK)))) (md me4.sm hD) ?_ ?_⟩
    .rintro j us H7 hj ⟨Γ7,s7,n7,e7,sm7,du7,U⟩ hD7;have hR7:=sm7 _ _ (s7 _ _ hR);have hul:us.length<=100:=by
      have h1:=du7.len;rw[(Ex)]at h1
      lia
     refine⟨⟨_,_,Am.of hR7,List.getElem?_eq_getElem hj⟩,Xu AS,fun y H' yy=>?_⟩;obtain⟨rfl,yy⟩:=yy;have hy:=yy _ (Am.of hR7);obtain⟨cd,hcd,dcd⟩:=OW dcs hy;obtain⟨xd,hxd,hm⟩:=WO.push t ht i b hb j cd hcd;unfold Kt;refine MF ⟨_,rfl,_,rfl,[cd,.list (WT b)],xd,Γ7,hm,.cons (dcd.same s7) (.cons (d4.same s7) .nil),sm7,fun v G8 H8 a1 a2 a3 a4 a5=>?_⟩;obtain⟨k1,k2⟩:=Vl hD s7 n7 e7 du7 U hD7 a1 a2 a3 a4 a5 hxd;exact⟨k1,Gs hj k2⟩
    .rintro us H8 hc hD8;obtain⟨Γ9,s9,n9,e9,Z,d9⟩:=YW hc AS hD hD8;have hd9:=e9 _ _ me4.at_;have me9:=me4.up s9 n9 Z hd9;have s09:=s03.trans (s4.trans s9);have n09:Nw Γ H Γ9:=Fi (Fi n03 n4 b03 T.at_) n9 (b03.trans b4) me4.at_;have tv9:=tvu.same (s4.trans s9);refine⟨⟨_,Am.of (Z _ _ (s9 _ _ hR)),Nat.le_refl _⟩,_,rfl,_,rfl,d,r4,some _,rfl,⟨DO.deep _ l,tv9.same Z⟩,me9.ok DO l,Nat.le_trans me9.len DO.len,?_⟩;have Y:=me9.put l tv9 d9;obtain⟨q',hq'⟩:=Xy r4 (some (Tr.of (t.bs.take OK))) (.ref u) (.ref D);obtain⟨hm,hk⟩:=find_key hq';obtain⟨u',h1,h2,h3,h4⟩:=Y.all q' hm;rw[hk]at h1;cases h1;exact⟨_,rfl,_,rfl,d,_,some _,q',rfl,⟨DO.deep _ l,tv9.same Y.sm⟩,Y.ok DO l,hq',_,_,_,_,_,Γ9,_,rfl,s09,n09,(b03.trans (b4.trans (.of e9))).trans (fun c o n z=>by rw[AM n];exact z),Y,h4⟩
  .rintro σ H1 ⟨r5,r6,r7,r8,pw,M,ρ,rfl,s1,n1,b1,I,d1⟩;rw[hyl,(Fm),Tr.VT]at d1;have d1':=d1;unfold pD at d1';rw[Du]at d1';obtain⟨R,cs,rfl,hR,dcs⟩:=d1';have hcl:cs.length=(PT t).length:=dcs.len;have hpl:(PT t).length=C.length:=WO.ij _ ht;have hwl:(WT t).length=C.length:=WO.vR _ ht;have BA:=WO.BA;refine⟨_,rfl,R,rfl,⟨_,Am.of (I.sm _ _ hR)⟩,fun D hD=>Ja (n:=cs.length) (d8 M H1 D (WT t)) (md I.sm hD) ?_ ?_⟩
   .rintro j us H7 hj ⟨Γ7,s7,n7,e7,sm7,du7,U⟩ hD7;have hR7:=sm7 _ _ (s7 _ _ hR);have hul:us.length<=100:=by
     have h1:=du7.len;rw[(Ex)]at h1
     lia
    refine⟨⟨_,_,Am.of hR7,List.getElem?_eq_getElem hj⟩,Xu AS,fun y H' yy=>?_⟩;obtain⟨rfl,yy⟩:=yy;have hy:=yy _ (Am.of hR7);obtain⟨cd,hcd,dcd⟩:=OW dcs hy;obtain⟨xd,hxd,hm⟩:=WO.worth t ht j cd hcd;unfold Kt;refine MF ⟨_,rfl,_,rfl,[cd,S],xd,Γ7,hm,.cons (dcd.same s7) (.cons (ds.same (s1.trans s7)) .nil),sm7,fun v G8 H8 a1 a2 a3 a4 a5=>?_⟩;obtain⟨k1,k2⟩:=Vl hD s7 n7 e7 du7 U hD7 a1 a2 a3 a4 a5 hxd;exact⟨k1,Gs hj k2⟩
   .rintro us H8 hc hD8;obtain⟨Γ9,s9,n9,e9,Z,d9⟩:=YW hc AS hD hD8;exact⟨⟨_,Am.of (Z _ _ (s9 _ _ hR)),Nat.le_refl _⟩,q Γ9 H8 ρ (.ref D) (s1.trans s9) (Fi n1 n9 b1 I.at_) (b1.trans (.of e9)) (I.up s9 n9 Z (e9 _ _ I.at_)) d9⟩
end
def zQ r:(Aq r).canLay0=true:=by rfl
section
variable{P:F0b}{w:F0c}{K:Fg}{mg:AAO}{base:Heap}{CX:Jo}{k:Nat}{f:AD}{fd:F0a}{ps:AAT}
def FP(ds:AAK):AAP:=match ds with
 |[.int t,.int b]=>if b≠0/\b.natAbs<2^400 then some (Aq (Rat.divInt t b)) else none
 |_=>none
def vX(F:Ah P w K mg base CX k f fd ps dG):Ah P w K mg base CX k f fd ps (A1 FP) :=
 SQ F fun ds x hm G H vs Q E d e Z=>by
  unfold FP at hm;split at hm
  .split at hm
   .rename_i M;cases hm;obtain⟨v1,v2,rfl,d1,d2⟩:=d.Jg;subst d1 d2;refine⟨_,_,400,rfl,M.1,by decide,M.2,fun l H' T I=>?_⟩;obtain⟨G',n1,Y,n3,U⟩:=lg e T I (KW [(Rat.divInt _ _).num,_]);exact Z _ G' H' n1 Y n3 T U
   lia
  lia
end
def kx(h:∀d∈ds,Ok n d):nO n ds:=by
 induction ds with
 |nil=>exact⟨by rfl,by simp[PyData.depthAll]⟩
 |cons d ds l=>
  obtain⟨a,b⟩:=h d Ch;obtain⟨T,M⟩:=l fun e I=>h e (.tail _ I);exact⟨by simp only[PyData.canLayAll0];simp_all,by simp only[PyData.depthAll];lia⟩
def y9(h:∀d∈ds,Ok n d):Ok (n+1) (.tuple ds):=.tup (kx h)
def rM r:Ok 1 (Aq r):=y9 fun d hd=>by
 rcases aO.mp hd with rfl|hd
 .exact .int
 .rw[List.mem_singleton.mp hd];exact .int
def IB x y:Bv false (.int x) (.int y)=some (.bool (decide (x=y))):=by
 rfl
def V7(I:i.natAbs<2^n)(l:j.natAbs<2^n)(hn:n<=9000):BJ (.int i) (.int j)=some (.int (i*j)):=Wi (by
 unfold OQ;rw[LY (aE I (aM AC hn)),LY (aE l (aM AC hn))];simp)
def div_is(h:0<j)(l:j.natAbs<2^64):Ds (.int i) (.int j)=some (.int (i / j)):=by
 refine(if_pos ⟨by lia,LY (aE l (aM AC AC))⟩).trans ?_;rw[Int.fdiv_eq_ediv_of_nonneg _ (Int.le_of_lt ‹_›)]
def RN(h:b≠0)(l:b.natAbs<2^400):FP [.int t,.int b]=some (Aq (Rat.divInt t b)):=if_pos ⟨h,l⟩
abbrev tD(t:Tr):PD:=.tuple (L2.Gi t)
def E2(m:Int)(c:Nat)(q:Rat):Prop:=∃a ,q=Rat.divInt a m/\a.natAbs<=c
def E2.mono(h:E2 m c q)(l:c<=d:=by decide):E2 m d q:=let⟨a,e,k⟩:=h;⟨a,e,Nat.le_trans k l⟩
def E2.add(hm:m≠0)(h:E2 m c p)(k:E2 m d q):E2 m (c+d) (p+q):=by
 obtain⟨a,rfl,I⟩:=h;obtain⟨b,rfl,l⟩:=k;exact⟨a+b,by rw[Rat.divInt_add_divInt _ _ hm hm,<-Int.add_mul,Rat.divInt_mul_right hm],by lia⟩
def E2.zero:E2 m c 0:=⟨0,by simp,by simp⟩
def E2.fits(hm:m≠0)(h:E2 m c q)(M:c<2^n)(I:m.natAbs<2^n):FM.Fits q n:=by
 obtain⟨a,rfl,l⟩:=h;exact .uZ hm (aP l M) I
def G9{α:Type}{zs:List α}{a b g:α->PD}(I:fs δ=some (zs.map fun z=>.tuple [a z,b z]))(T:zs.length<=A9) (h:∀z∈zs,f (((BK fr δ).set i (.d (a z))).set j (.d (b z)))=some (g z)):Bk (BU i j) BW f fr fs δ=some (zs.map g):=by
 unfold Bk;rw[I,(C8),(show ∀zs ,(∀z∈zs,f (((BK fr δ).set i (.d (a z))).set j (.d (b z)))=some (g z))->L2.collect _ _=some (zs.map g) from fun zs=>by
  induction zs with
  |nil=>intro _;rfl
  |cons z zs l=>
   intro h;rw[(BM)];unfold L2.collect;rw[l fun y M=>by grind,(show IP _ BW f _ _=some _ by
    unfold IP BU;rw[(C8),h z Ch]
    rfl)];rfl) zs h,(C8),BA,if_pos (by grind)]
def Kc{α:Type}{zs:List α}{a g}(I:fs δ=some (zs.map a))(T:zs.length<=A9) (h:∀z∈zs,f ((BK fr δ).set i (.d (a z)))=some (g z)):Bk (CL i) BW f fr fs δ=some (zs.map g):=by
 unfold Bk;rw[I,(C8),(show ∀zs ,(∀z∈zs,f ((BK fr δ).set i (.d (a z)))=some (g z))->L2.collect (IP _ BW f _) (zs.map a)=some (zs.map g) from fun zs=>by
  induction zs with
  |nil=>intro _;rfl
  |cons z zs l=>
   intro h;rw[(BM)];unfold L2.collect;rw[l fun y M=>by grind,(show IP _ BW f _ _=some _ by
    unfold IP CL;rw[(C8),h z Ch]
    rfl)];rfl) zs h,(C8),BA,if_pos (by grind)]
def Tn{Q:List PD->Prop}(h:I δ=some (.nx δ'))(k:∃xs,l δ'=some (.rn xs)/\Q xs):∃xs,AL I l δ=some (.rn xs)/\Q xs:=let⟨xs,a,b⟩:=k;⟨xs,AN h a,b⟩
def vK{R:Dv->Prop}{Q:List PD->Prop}(h:∃δ',I δ=some (.nx δ')/\R δ')(k:∀δ',R δ'->∃xs,l δ'=some (.rn xs)/\Q xs):∃xs,AL I l δ=some (.rn xs)/\Q xs:=let⟨δ',a,b⟩:=h;Tn a (k δ' b)
def ju n:(List.replicate n [PyData.int 0]).flatten=(List.replicate n 0).map .int:=by
 simp
def fK(h:f δ=some (.list zs))(k:ow i δ=some xs)(l:xs.length+zs.length<=A9):SW i f δ=some (.nx (δ.set i (.own (.lst (xs++zs))))):=by
 show(f δ).bind _=_;rw[h,k];exact if_pos l
def cnt:Nat->Nat
 |0=>1|1=>4|2=>10|3=>20|4=>35|_=>56
def Pw(n D:Nat)(ps:AAS):Prop:=ps.length=n/\(∀p∈ps,0<=p)/\ps.sum<=D
theorem QO:∀ {ps:List Int},(∀p∈ps,0<=p)->0<=ps.sum
 |[],_=>by simp
 |p::ps,h=>by
  have a:=h p Ch;have b:=QO fun q l=>h q (.tail _ l);rw[(GH)];lia
def lT(D:Nat):Nat->List (List Int)
 |0=>[[]]
 |n+1=>(List.range (D+1)).flatMap fun a=>(lT (D-a) n).map fun ps=>a::ps
theorem WR:∀ {n D} {ps},Pw n D ps->ps∈lT D n
 |0,D,ps,h=>by rw[List.eq_nil_of_length_eq_zero h.1];exact .head _
 |n+1,D,[],h=>by cases h.1
 |n+1,D,p::ps,h=>by
  obtain⟨U,I,T⟩:=h;have M:=I p Ch;have s0:=QO fun q l=>I q (.tail _ l);rw[(GH)]at T;exact List.mem_flatMap.mpr ⟨p.toNat,List.mem_range.mpr AS,List.mem_map.mpr ⟨ps,WR ⟨by simpa using U,fun q l=>I q (.tail _ l),by lia⟩,by rw[Int.toNat_of_nonneg M]⟩⟩
def jT:∀n,n<=3->∀D,D<=5->(lT D n).length<=cnt D:=by decide +kernel
def Qn D:cnt D<=56:=by
 unfold cnt;split<;>decide
structure TB(n D K:Nat)(ts:List T3):Prop where
 at_:∀t∈ts,Pw n D t.1/\t.2.2=1/\t.2.1.natAbs<2^K
 BA:ts.length<=1000
structure PB(n D K L:Nat)(us:List AY):Prop where
 at_:∀m∈us,Pw n D m.1/\m.2.den=1/\m.2.num.natAbs<2^K
 BA:us.length<=L
def Pw.mono(h:Pw n D ps)(l:D<=I):Pw n I ps:=⟨h.1,h.2.1,by have:=h.2.2;lia⟩
def PB.up{n D K L I l L'}(h:PB n D K L us)(U:D<=I)(T:K<=l)(M:L<=L'):PB n I l L' us :=
 ⟨fun m hm=>let⟨a,b,c⟩:=h.at_ m hm;⟨a.mono U,b,Nat.lt_of_lt_of_le c (aM AC T)⟩,Nat.le_trans h.BA M⟩
theorem YT:∀ {l:List (Int×Int)},(∀p∈l,p.2=1)->(l.map fun p=>Rat.divInt p.1 p.2).sum=(((l.map Prod.fst).sum))
 |[],_=>rfl
 |p::l,h=>by
  rw[(BM),(BM),(GH),(GH),YT fun q I=>h q (.tail _ I),h p Ch,Rat.intCast_add]
  congr 1
  exact FM.EV (p.1)
theorem ZQ:∀ {l:List (Int×Int)},(∀p∈l,p.1.natAbs<M)->((l.map Prod.fst).sum).natAbs<=l.length*M
 |[],_=>by simp
 |p::l,h=>by
  have a:=h p Ch;have b:=ZQ fun q I=>h q (.tail _ I);rw[(BM),(GH),(FU)];have:=Int.natAbs_add_le p.1 (l.map Prod.fst).sum
  lia
def UE(h:TB n D K ts)(hn:n<=3)(I:D<=5):(Cc ts).length<=cnt D :=
 aK (NM (Pa ts) fun k hk=>by
  obtain⟨t,l,rfl⟩:=Nn ts hk;exact WR (h.at_ t l).1) (jT n hn D I)
def TB.ga(h:TB n D K ts)(T:1<=n)(hn:n<=3)(I:D<=5)(M:K<=90000):lA ts:=by
 have:=UE h hn I;have:=Qn D;refine⟨h.BA,⟨K,1,fun t l=>?_,by have:=h.BA;lia,by lia⟩,by lia⟩;obtain⟨a,b,c⟩:=h.at_ t l;refine⟨fun z=>?_,by lia,c,by simp_all⟩;have:=a.1
 grind
theorem TB.ME(h:TB n D K ts)(hn:n<=3)(U:D<=5):PB n D (K+10) (cnt D) (ME ts):=by
 have I:(JP ts).Perm _:=List.mergeSort_perm _ _;refine⟨fun m hm=>?_,?_⟩
 .obtain⟨k,hk,e⟩:=List.mem_filterMap.mp hm;unfold OV at e;split at e
  .cases e
  .cases e;obtain⟨t,T,rfl⟩:=Nn ts (I.mem_iff.mp hk);have a:∀p∈Kv t.1 ts,p.2=1/\p.1.natAbs<2^K:=fun p I=>by
    obtain⟨u,M,rfl⟩:=Yq I;exact(h.at_ u M).2
   have e:sumK ts t.1=_:=YT fun p I=>(a p I).1;refine⟨(h.at_ t T).1,by rw[e];rfl,?_⟩;rw[e];have l:=Ob t.1 ts;have f:=h.BA;refine aP (ZQ fun p I=>(a p I).2) ?_;rw[Nat.pow_add]
   calc (Kv t.1 ts).length*2^K<=1000*2^K:=Nat.mul_le_mul_right _ (aK ‹_› ‹_›)
    _<2^K*2^10:=by rw[Nat.mul_comm];exact Nat.mul_lt_mul_of_pos_left AC (Nat.pow_pos AC)
 .refine aK (List.length_filterMap_le _ _) ?_;rw[I.length_eq];exact UE h hn U
def PB.tb{n D K L}(h:PB n D K L us)(I:L<=1000):TB n D K (us.map UG):=by
 refine⟨fun t l=>?_,by rw[OF];exact aK h.BA I⟩;obtain⟨m,hm,rfl⟩:=aI.mp l;obtain⟨a,b,c⟩:=h.at_ m hm;exact⟨a,by show(m.2.den:Int)=1;rw[b];rfl,c⟩
def Pk us:AG us=.list ((us.map UG).map HU):=by rw[(BZ)];rfl
abbrev SU:MD:=CZ QQ
section
variable{n D K L1 L2:Nat}{a b:List AY}(h1:1<=n)(hn:n<=3)
include h1 hn
theorem fj(ha:PB n D K L1 a)(hb:PB n D K L2 b)(T:L1+L2<=1000)(I:D<=5)(M:K<=90000):∃r,SU [AG a,AG b]=some (AG r)/\PB n D (K+10) (cnt D) r:=by
 have tb:TB n D K ((a++b).map UG):=⟨fun t l=>by
  rw[(DC)]at l;rcases aX.mp l with l|l
  .exact(ha.tb AS).at_ t l
  .exact(hb.tb AS).at_ t l,by rw[OF,(Ca)];have:=ha.BA;have:=hb.BA;lia⟩
 refine⟨_,BC rfl (CN (AJ (AK ?_ rfl) (V0 (tb.ga h1 hn I M)))),tb.ME hn I⟩;rw[(DC),(DC)];exact AQ rfl rfl ((by rw[Pk,Pk];exact add_l (by rw[OF,OF,OF,OF];have:=ha.BA;have:=hb.BA;unfold A9;lia)))
end
theorem UM:∀a b:List Int,Gj (a.map PyData.int) (b.map PyData.int)=(a.zip b).map fun z=>.tuple [.int z.1,.int z.2]
 |[],_=>rfl
 |_::_,[]=>rfl
 |x::a,y::b=>by
  show PyData.tuple [.int x,.int y]::Gj _ _=_;rw[UM a b];rfl
def MH(a b:AAS):AAS:=(a.zip b).map fun z=>z.1+z.2
def xA(h:a.length<=100):Ce [.tuple (a.map .int),.tuple (b.map .int)]=some (.tuple ((MH a b).map .int)):=by
 refine BC rfl (CN (AJ (xs:=[.list _]) (AK ?_ rfl) rfl));show(Bk _ _ _ _ _ _).map _=_;rw[G9 (by
  show some (Gj _ _)=_;rw[UM]) (by rw[List.length_zip];unfold A9;lia) (fun z _=>rfl)]
 unfold MH;rw[(BZ)];rfl
def lJ(ha:Pw n U a)(hb:Pw n T b):Pw n (U+T) (MH a b):=by
 refine⟨?_,fun p M=>?_,?_⟩
 .unfold MH;rw[OF,List.length_zip,ha.1,hb.1,Nat.min_self]
 .obtain⟨z,l,rfl⟩:=aI.mp M;have:=ha.2.1 z.1 (List.of_mem_zip l).1;have:=hb.2.1 z.2 (List.of_mem_zip l).2
  lia
 .rw[(show ∀ {a b:List Int},a.length=b.length->(MH a b).sum=a.sum+b.sum from fun {a}=>by
   induction a with
   |nil=>intro b hb;rw[List.eq_nil_of_length_eq_zero hb.symm];rfl
   |cons x a I=>
    intro b hb;cases b with
    |nil=>cases hb
    |cons y b=>
     show(x+y+(MH a b).sum)=_;rw[I (by simpa using hb),(GH),(GH)];lia) (ha.1.trans hb.1.symm)]
  have:=ha.2.2;have:=hb.2.2
  lia
def tt(m l:AY):T3:=(MH m.1 l.1,m.2.num*l.2.num,(m.2.den)*(l.2.den))
abbrev mi:MD:=Dw QQ Ce
def Hg(h:f δ=some y)(o:ow i δ=some xs)(l:xs.length<A9):Ed i f δ=some (.nx (δ.set i (.own (.lst (xs++[y]))))):=by
 grind
section
variable{n D1 D2 K1 K2 L1 L2:Nat}{a b:List AY}(h1:1<=n)(hn:n<=3)
include h1 hn
theorem i9(ha:PB n D1 K1 L1 a)(hb:PB n D2 K2 L2 b)(hL:L1*L2<=1000)(hD:D1+D2<=5)(hK1:K1<=4000)(hK2:K2<=4000):∃r,mi [AG a,AG b]=some (AG r)/\PB n (D1+D2) (K1+K2+10) (cnt (D1+D2)) r:=by
 have Y:∀i,((a.take i).flatMap fun m=>b.map (tt m)).length<=i*b.length:=fun i=>by
  have:∀l:List AY,(l.flatMap fun m=>b.map (tt m)).length=l.length*b.length:=fun l=>by
   induction l with
   |nil=>simp
   |cons x l ih=>rw[List.flatMap_cons,(Ca),ih,OF,(FU),Nat.add_mul];lia
  rw[this,(Ex)];exact Nat.mul_le_mul_right _ (Nat.min_le_left _ _)
 have hab:a.length*b.length<=1000:=aK (Nat.mul_le_mul ha.BA hb.BA) hL;have tb:TB n (D1+D2) (K1+K2) (a.flatMap fun m=>b.map (tt m)):=by
  refine⟨fun t ht=>?_,by have:=Y a.length;rw[(Fm)]at this;lia⟩;obtain⟨m,hm,ht⟩:=List.mem_flatMap.mp ht;obtain⟨M,I,rfl⟩:=aI.mp ht;obtain⟨a1,a2,a3⟩:=ha.at_ m hm;obtain⟨b1,b2,b3⟩:=hb.at_ M I;exact⟨lJ a1 b1,by show(m.2.den:Int)*(M.2.den:Int)=1;rw[a2,b2];rfl,FM.Bh a3 b3⟩
 refine⟨_,BC rfl ?_,tb.ME hn hD⟩;unfold NB;refine AN rfl ?_;refine IG (xs:=a.map BQ) (fun i δ=>∃l3 Z U T:L,δ=[.d (AG a),.d (AG b),.own (.lst (((a.take i).flatMap fun m=>b.map (tt m)).map HU)),l3,Z,U,T]) rfl ⟨_,_,_,_,rfl⟩ ?_ ?_
 .rintro i x δ hx ⟨l3,Z,U,T,rfl⟩;rw[(Ar)]at hx;obtain⟨m,hm,rfl⟩:=aC.mp hx;have hi:i<a.length:=(aD.mp hm).1;obtain⟨a1,a2,a3⟩:=ha.at_ m (aJ hm);refine⟨_,rfl,?_⟩;refine F8 (xs:=b.map BQ) (fun j δ=>∃U T:L,δ=[.d (AG a),.d (AG b),.own (.lst ((((a.take i).flatMap fun m=>b.map (tt m))++(b.take j).map (tt m)).map HU)),.d (.tuple (m.1.map .int)),.d (Aq m.2),U,T]) rfl ⟨_,_,by rw[List.take_zero,List.map_nil,(MN)];rfl⟩ ?_ fun δ hδ=>?_
  .rintro j y δ hy ⟨U,T,rfl⟩;rw[(Ar)]at hy;obtain⟨M,I,rfl⟩:=aC.mp hy;have hj:j<b.length:=(aD.mp I).1;obtain⟨b1,b2,b3⟩:=hb.at_ M (aJ I);have hl:((((a.take i).flatMap fun m=>b.map (tt m))++(b.take j).map (tt m)).map HU).length<A9:=by
    rw[OF,(Ca),OF,(Ex)];have h1:=Y i;have h2:i*b.length+b.length<=1000:=by
     have:OK*b.length<=a.length*b.length:=Nat.mul_le_mul_right _ hi
     lia
    unfold A9
    lia
   refine⟨_,rfl,_,Hg (y:=HU (tt m M)) (Dg (AK (AJ rfl (xA (by rw[a1.1];lia))) (AK (Dg (AK (AQ (x:=.int m.2.num) (y:=.int M.2.num) rfl rfl (V7 (aE a3 (aM AC hK1)) (aE b3 (aM AC hK2)) AC)) (AK (AQ (x:=.int (m.2.den:Int)) (y:=.int (M.2.den:Int)) rfl rfl (V7 (n:=10) (by rw[a2];decide) (by rw[b2];decide) AC)) rfl)) (show 2<=1000 by decide)) rfl)) (show 2<=1000 by decide)) rfl hl,.d (.tuple (M.1.map .int)),.d (Aq M.2),?_⟩;have e:((((a.take i).flatMap fun m=>b.map (tt m))++(b.take (j+1)).map (tt m)).map HU)=((((a.take i).flatMap fun m=>b.map (tt m))++(b.take j).map (tt m)).map HU)++[HU (tt m M)]:=by
    rw[(Ir),I];simp
   rw[e]
   rfl
  .obtain⟨U,T,rfl⟩:=hδ;refine⟨.d (.tuple (m.1.map .int)),.d (Aq m.2),U,T,?_⟩;rw[OF,(Fm),(Ir),hm,List.flatMap_append];simp
 .rintro δ ⟨l3,Z,U,T,rfl⟩;rw[OF,(Fm)];exact CN (AJ rfl (V0 (tb.ga h1 hn hD AS)))
end
def Wg{α:Type}{zs:List α}{a b g:α->PD} t (U:fs δ=some (zs.map fun z=>.tuple [a z,b z])) (Y:zs.length<=A9) (I:∀z∈zs,tif (((BK fr δ).set i (.d (a z))).set j (.d (b z)))=some (t z)) (h:∀z∈zs,t z=true->f (((BK fr δ).set i (.d (a z))).set j (.d (b z)))=some (g z)):Bk (BU i j) tif f fr fs δ=some ((zs.filter t).map g):=by
 unfold Bk;rw[U,(C8),(show ∀zs ,(∀z∈zs,tif (((BK fr δ).set i (.d (a z))).set j (.d (b z)))=some (t z))->(∀z∈zs,t z=true->f (((BK fr δ).set i (.d (a z))).set j (.d (b z)))=some (g z))->L2.collect _ _=some ((zs.filter t).map g) from fun zs=>by
  induction zs with
  |nil=>intro _ _;rfl
  |cons z zs T=>
   intro I h;rw[(BM)];unfold L2.collect;rw[T (fun y M=>I y (.tail _ M)) fun y M=>h y (.tail _ M),(show IP _ tif f _ _=some (if t z=true then some _ else none) by
    unfold IP BU;rw[(C8),I z Ch];cases l:t z with
    |true=>rw[h z Ch l];rfl
    |false=>rfl)]
   cases l:t z with
   |true=>rw[List.filter_cons_of_pos l];rfl
   |false=>rw[List.filter_cons_of_neg (by rw[l];decide)];rfl) zs I h,(C8),BA,if_pos (by rw[OF];exact aK (bg _ _) Y)]
def OH(ps:AAS)(k:Nat):AAS:=ps.take k++[ps.getD k 0-1]++ps.drop (k+1)
def nB(h:a.length+b.length<=A9):Ap (.tuple a) (.tuple b)=some (.tuple (a++b)):=by
 show(match QU _ _ with|some z=>some z|none=>_)=_;rw[(show QU (.tuple a) (.tuple b)=some _ from if_pos h)]
def xU{k:Nat}(hk:k<ps.length)(l:ps.length<=100):EK [.tuple (ps.map .int),.int k]=some (.tuple ((OH ps k).map .int)):=by
 refine BC rfl (CN ?_);unfold OH;rw[(DC),(DC)];refine AQ (AQ (show CG CF Bd (Be Cb) [.d (.tuple (ps.map .int)),.d (.int k)]=some (.tuple ((ps.take k).map .int)) by
  refine(if_pos (fun z=>?_)).trans (by rw[vB,List.map_take]);have:=z.2;rw[HT.JZ,OF]at this
  lia) (Dg (AK (AQ (AQ rfl rfl (FF (show(ps.map PyData.int)[k]? = some (.int (ps.getD k 0)) by
  rw[(Ar),(Io),List.getElem?_eq_getElem hk];rfl))) rfl rfl) rfl) (show 1<=1000 by decide)) (nB ?_)) (show CG CF (Be (AF Ap Cb AT)) Bd [.d (.tuple (ps.map .int)),.d (.int (k:Nat))]=some (.tuple ((ps.drop (k+1)).map .int)) by
  show b8 (.tuple (ps.map .int)) _ none=_;rw[show k+1=((k+1:Nat):Int) from rfl];refine(if_pos (fun z=>?_)).trans (by rw[Wd,List.map_drop]);have:=z.1;rw[HT.JZ,OF]at this
  lia) (nB ?_)
 .rw[OF,(Ex)];show _+1<=1000;lia
 .rw[(Ca),OF,(Ex),OF,List.length_drop];show _+1+_<=1000;lia
def qR(h:Pw n (D+1) ps)(hk:k<n)(U:0<ps.getD k 0):Pw n D (OH ps k):=by
 obtain⟨Y,T,M⟩:=h;have I:k<ps.length:=by lia
 refine⟨?_,fun p l=>?_,?_⟩
 .unfold OH;rw[(Ca),(Ca),(Ex),List.length_drop,List.length_singleton]
  lia
 .rcases aX.mp l with l|l
  .rcases aX.mp l with l|l
   .exact T p (List.mem_of_mem_take l)
   .rw[List.mem_singleton.mp l];lia
  .exact T p (List.mem_of_mem_drop l)
 .rw[(show ps=ps.take k++[ps.getD k 0]++ps.drop _ by
  rw[(Io),List.getElem?_eq_getElem I];show ps=ps.take k++[ps[k]]++ps.drop _;rw[List.append_assoc,List.singleton_append,List.getElem_cons_drop,List.take_append_drop])]at M
  unfold OH;simp at M ⊢
  lia
abbrev ZU:MD:=CH FP
abbrev Zn:MD:=B2 ZU EK
def a9(U:r.den=1)(M:r.num.natAbs<2^K)(I:t.natAbs<2^K)(hb:b≠0)(l:b.natAbs<2^400)(T:K<=9000):ZU [Aq r,.tuple [.int t,.int b]]=some (Aq (Rat.divInt (r.num*t) b)):=by
 refine BC rfl (CN (AJ (AK (AQ rfl rfl (V7 M I T)) (AK ((AQ rfl rfl (V7 AS l AC)).trans (by grind)) rfl)) (RN hb l)))
section
variable{n D K L:Nat}{us:List AY}(h1:1<=n)(hn:n<=3)
include h1 hn
theorem Xv(h:PB n D K L us){k:Nat}(hk:k<n)(hD:D<=5)(hK:K<=8000)(hL:L<=1000):∃r,Zn [AG us,.int (k:Nat)]=some (AG r)/\PB n (D-1) (K+3) L r/\(D=0->r=[]):=by
 have l:∀m∈us,(m.1.map PyData.int)[k]? = some (.int (m.1.getD k 0))/\0<=m.1.getD k 0/\m.1.getD k 0<=D:=fun m hm=>by
  obtain⟨⟨a1,a2,a3⟩,_,_⟩:=h.at_ m hm;have I:k<m.1.length:=by lia
  have e:m.1.getD k 0=m.1[k]:=by rw[(Io),List.getElem?_eq_getElem I];rfl
  have mem:m.1[k]∈m.1:=List.getElem_mem I;refine⟨by rw[(Ar),List.getElem?_eq_getElem I,e];rfl,by rw[e];exact a2 _ mem,?_⟩;rw[e];have:∀ {ps:List Int} {p:Int},(∀q∈ps,0<=q)->p∈ps->p<=ps.sum:=fun {ps p} U T=>by
   induction ps with
   |nil=>cases T
   |cons x ps ih=>
    rw[(GH)];have x0:=U x Ch;have s0:=QO fun q h=>U q (.tail _ h);rcases aO.mp T with rfl|T
    .lia
    .have:=ih (fun q h=>U q (.tail _ h)) T;lia
  exact Int.le_trans (this a2 mem) a3
 let g:AY->AY:=fun m=>(OH m.1 k,Rat.divInt (m.2.num*m.1.getD k 0) 1)
 let t:AY->Bool:=fun m=>decide (0<m.1.getD k 0)
 refine⟨(us.filter t).map g,EG rfl ?_,⟨fun m hm=>?_,?_⟩,fun z=>?_⟩
 .unfold NZ;have:=Wg (i:=1) (j:=2) (δ:=[.d (AG us),.d (.int (k:Nat))]) (fs:=A6 CF) (fr:=[none,none,none,some 1]) (f:=(Aa (AA (AE EK (AA Cb KB)) (AA (AE ZU (AA EQ (AA (Aa (AA (AF Ak Cb (nm 3)) SL)) AB))) AB)))) (tif:=(Ao Id (AF Ak Cb (nm 3)) By)) (zs:=us) (a:=fun m=>.tuple (m.1.map .int)) (b:=fun m=>Aq m.2) (g:=fun m=>BQ (g m)) t rfl (aK h.BA hL) (fun m hm=>?_) (fun m hm M=>?_)
  .exact(af (Option.map Ou.rn) this).trans (by rw[Option.map_some,(BZ)];rfl)
  .exact Bu (x:=.int (m.1.getD k 0)) (y:=.int 0) (AQ (x:=.tuple (m.1.map .int)) (y:=.int (k:Nat)) rfl rfl (FF (l m hm).1)) rfl rfl
  .obtain⟨⟨a1,a2,a3⟩,b1,Z⟩:=h.at_ m hm;obtain⟨e1,e2,e3⟩:=l m hm;refine Dg (AK (AJ (xs:=[.tuple (m.1.map .int),.int (k:Nat)]) rfl (xU AS AS)) (AK (AJ (xs:=[Aq m.2,.tuple [.int (m.1.getD k 0),.int 1]]) (AK rfl (AK (Dg (AK (AQ (x:=.tuple (m.1.map .int)) (y:=.int (k:Nat)) rfl rfl (FF e1)) rfl) (show 2<=1000 by decide)) rfl)) (a9 (K:=K+3) b1 (aE Z (aM AC AS)) ?_ AC AC AS)) rfl)) (show 2<=1000 by decide);have:(m.1.getD k 0).natAbs<2^3:=by show _<8;lia
   exact aE this (aM AC AS)
 .obtain⟨m,Y,rfl⟩:=aI.mp hm;clear hm;obtain⟨hm,M⟩:=List.mem_filter.mp Y;have M:0<m.1.getD k 0:=ak M;obtain⟨a,b1,Z⟩:=h.at_ m hm;obtain⟨_,e2,e3⟩:=l m hm;have ed:Rat.divInt (m.2.num*m.1.getD k 0) 1=((m.2.num*m.1.getD k 0:Int):Rat):=FM.EV ((m.2.num*m.1.getD k 0:Int):Rat);refine⟨qR (D:=D-1) (a.mono AS) hk M,by show(Rat.divInt _ 1).den=1;rw[ed];rfl,?_⟩;show(Rat.divInt _ 1).num.natAbs<_;rw[ed];show(m.2.num*m.1.getD k 0).natAbs<_;exact FM.Bh Z (show(m.1.getD k 0).natAbs<2^3 by show _<8;lia)
 .rw[OF];exact aK (bg _ _) h.BA
 .rw[List.filter_eq_nil_iff.mpr fun m hm M=>?_];rfl;have:=(l m hm).2.2
  lia
end
abbrev bD(b:GM):PD:=.list (b.map AG)
abbrev Oq(f:Nat):MD:=De Zn SU mi f
structure BB(n D K:Nat)(b:GM):Prop where
 len:b.length=n
 at_:∀p∈b,PB n D K 56 p
def dn us:Oq (f+1) [AG us,.list []]=some (AG us):=by
 rfl
def xF(h:f δ=some (.list (x::R))):CG f (Be AT) Bd δ=some (.list R):=by
 show(f δ).bind _=_;rw[h];show some (PyData.list (cutD _ (some ((1:Nat))) none))=_;rw[Wd];rfl
section
variable{n D K L:Nat}{us:List AY}(h1:1<=n)(hn:n<=3)
include h1 hn
theorem Ye{f E X L' Db I:Nat}{b:GM}{rest:AAK}(h:PB n D K L us)(hD:D<=5)(hK:K<=8000)(hL:L<=1000)(hb:BB n Db I b) (Z:∀r,PB n (D-1) (K+3) L r->∃r',Oq f [AG r,.list rest]=some (AG r')/\PB n E X L' r')(hL':L'*56<=1000)(hE:E+Db<=5)(hX:X<=4000)(hKb:I<=4000)(hrl:rest.length<=100):∃r,Oq (f+1) [AG us,.list (bD b::rest)]=some (AG r)/\PB n (E+Db) (X+I+40) (cnt (E+Db)) r:=by
 suffices hh:∃r,Hv Zn SU mi (Oq f) [.d (AG us),.d (.list (bD b::rest)),.no,.no,.no,.no]=some (.rt (AG r))/\PB n (E+Db) (X+I+40) (cnt (E+Db)) r by
  obtain⟨r,e,p⟩:=hh;exact⟨r,BC rfl e,p⟩
 have loop:∃δ',BL (BI Fu (AA (AF Ak Cb By) AB)) (BU 3 4)
  (AL (AX 5 (AE Zn (AA CF KB)))
  (Bp (Nx (Ao Id (AE BS (AA (nm 5) AB)) By) (Ao Id (AE BS (AA ON AB)) By))
   (AX 2 (AE SU (AA EQ (AA (AE mi (AA (AE (Oq f) (AA (nm 5) (AA (CG Cb (Be AT) Bd) AB))) (AA ON AB))) AB))))
   A2)) [.d (AG us),.d (.list (bD b::rest)),.d (AG []),.no,.no,.no]=some (.nx δ')/\∃(l:List AY) (Y U T:L2.L),δ'=[.d (AG us),.d (.list (bD b::rest)),.d (AG l),Y,U,T]/\PB n (E+Db) (X+I+10+10*(DM (b.map AG)).length) (cnt (E+Db)) l:=by
  have hx0:BI Fu (AA (AF Ak Cb By) AB) [.d (AG us),.d (.list (bD b::rest)),.d (AG []),.no,.no,.no]=some (DM (b.map AG)):=by
   show(AA _ _ _).bind Fu=_;rw[AK (AQ (x:=.list (bD b::rest)) (y:=.int ((0:Nat):Int)) rfl rfl (FF rfl)) rfl];rfl
  refine RD (xs:=DM (b.map AG)) (fun i δ=>∃(l:List AY) (Y U T:L2.L),δ=[.d (AG us),.d (.list (bD b::rest)),.d (AG l),Y,U,T]/\PB n (E+Db) (X+I+10+10*i) (cnt (E+Db)) l) hx0 ⟨[],_,_,_,rfl,⟨(fun m hm=>by cases hm),Nat.zero_le _⟩⟩ ?_;rintro i x δ hx ⟨l,Y,U,T,rfl,pt⟩;obtain⟨y,hy,rfl⟩:=Ia hx;rw[(Ar)]at hy;obtain⟨M,hpl,rfl⟩:=aC.mp hy;have hi:i<n:=by rw[<-hb.len];exact(aD.mp hpl).1
  have pp:=hb.at_ M (aJ hpl);obtain⟨sl,e1,p1,_⟩:=Xv h1 hn h hi hD hK hL;obtain⟨al,e2,p2⟩:=Z sl p1;obtain⟨ti,e3,p3⟩:=i9 h1 hn p2 pp hL' hE hX hKb;obtain⟨sm,e4,p4⟩:=fj h1 hn pt (p3.up LK (show X+I+10<=X+I+10+10*i by lia) LK) (by have:=Qn (E+Db);lia) hE AS;have p4':=p4.up LK (show X+I+10+10*i+10<=X+I+10+10*(i+1) by lia) LK;have ln:∀(q:List AY) (δ:Dv) (g:L0),g δ=some (AG q)->Ao Id (AE BS (AA g AB)) By δ=some (decide (0<q.length)):=fun q δ g hg=>(Bu (y:=.int 0) (AJ (xs:=[AG q]) (AK hg rfl) rfl) rfl rfl).trans (af some (decide_eq_decide.mpr (by rw[OF];lia)));refine⟨_,rfl,?_⟩;by_cases z:0<sl.length/\0<M.length
  .refine⟨_,AN (AW (AJ (xs:=[AG us,.int (i:Nat)]) rfl e1)) (DR ?_ (AW (AJ (xs:=[AG l,AG ti]) (AK rfl (AK (AJ (xs:=[AG al,AG M]) (AK (AJ (xs:=[AG sl,.list rest]) (AK rfl (AK (xF rfl) rfl)) e2) (AK rfl rfl)) e3) rfl)) e4))),sm,_,_,_,rfl,p4'⟩;show(Ao _ _ _ _).bind _=_;rw[ln sl _ _ rfl,decide_eq_true z.1];rw[(C8),if_pos rfl];exact(ln M _ ON rfl).trans (by rw[decide_eq_true z.2])
  .refine⟨_,AN (AW (AJ (xs:=[AG us,.int (i:Nat)]) rfl e1)) (EI ?_ rfl),l,_,_,_,rfl,pt.up LK AS LK⟩;show(Ao _ _ _ _).bind _=_;rw[ln sl _ _ rfl];by_cases z1:0<sl.length
   .rw[decide_eq_true z1];rw[(C8),if_pos rfl];exact(ln M _ ON rfl).trans (by rw[decide_eq_false fun z2=>z ⟨z1,z2⟩])
   .rw[decide_eq_false z1];rfl
 obtain⟨δ',e,l,Y,U,T,rfl,pt⟩:=loop;have hel:(DM (b.map AG)).length=n:=by unfold DM;rw[OF,List.length_zipIdx,OF,hb.len]
 rw[hel]at pt;refine⟨l,?_,pt.up LK AS LK⟩;unfold Hv;refine AN (EI ?_ rfl) (AN rfl (AN e rfl));exact Bu (y:=.int 0) rfl rfl ((IB _ _).trans (by rw[decide_eq_false (by rw[(FU)];lia)]))
end
abbrev Qs:MD:=A7 ZU
abbrev gM:MD:=PQ Qs Zn SU
def Wn(K:Nat)(r:Rat):Prop:=r.den=1/\r.num.natAbs<2^K
def eZ(h:z.natAbs<2^K):Wn K (Rat.divInt z 1):=by
 rw[show Rat.divInt z 1=_ from FM.EV z];exact⟨rfl,h⟩
def UU{n D K L T}{r}(h:PB n D K L us)(l:Wn T r)(Y:L<=1000)(Z:K+T<=9000):∃U,Qs [AG us,Aq r]=some (AG U)/\PB n D (K+T) L U:=by
 by_cases z:r.num=0
 .exact⟨[],BC rfl (Cq (DR (Bu rfl rfl ((IB _ _).trans (by rw[decide_eq_true z]))) rfl)),⟨(fun m hm=>by cases hm),Nat.zero_le _⟩⟩
 .refine⟨us.map fun m=>(m.1,Rat.divInt (m.2.num*r.num) 1),EG rfl ?_,⟨fun m' hm=>?_,by rw[OF];exact h.BA⟩⟩
  .refine AN (EI (Bu rfl rfl ((IB _ _).trans (by rw[decide_eq_false z]))) rfl) ?_;have:=G9 (i:=1) (j:=2) (δ:=[.d (AG us),.d (Aq r)]) (fs:=A6 CF) (fr:=[none,none,none,some 1]) (f:=(Aa (AA Cb (AA (AE ZU (AA EQ KB)) AB)))) (g:=fun m=>BQ (m.1,Rat.divInt (m.2.num*r.num) 1)) rfl (aK h.BA Y) (fun m hm=>?_)
   .exact(af _ this).trans (by rw[(BZ)];rfl)
   .obtain⟨_,b1,I⟩:=h.at_ m hm;exact Dg (AK rfl (AK (AJ rfl (by rw[(show Aq r=.tuple [.int r.num,.int 1] by unfold Aq;rw[l.1];rfl)];exact a9 b1 (aE I (aM AC (Nat.le_add_right _ _))) (aE l.2 (aM AC (Nat.le_add_left _ _))) AC AC Z)) rfl)) (show 2<=1000 by decide)
  .obtain⟨m,M,rfl⟩:=aI.mp hm;obtain⟨a1,b1,I⟩:=h.at_ m M;exact⟨a1,(eZ (FM.Bh I l.2)).1,(eZ (FM.Bh I l.2)).2⟩
def Z7{n D K L}(h:PB n D K L us)(I:L<=1000)(M:K<=9000)(T:1<=K)(hb:b≠0)(l:b.natAbs<2^400):∃x,Qs [AG us,.tuple [.int 1,.int b]]=some x:=by
 refine⟨_,EG (xs:=us.map fun m=>BQ (m.1,Rat.divInt (m.2.num*1) b)) rfl ?_⟩;have:=G9 (i:=1) (j:=2) (δ:=[.d (AG us),.d (.tuple [.int 1,.int b])]) (fs:=A6 CF) (fr:=[none,none,none,some 1]) (f:=(Aa (AA Cb (AA (AE ZU (AA EQ KB)) AB)))) (g:=fun m=>BQ (m.1,Rat.divInt (m.2.num*1) b)) rfl (aK h.BA I) (fun m hm=>?_)
 .exact af (Option.map Ou.rn) this
 .obtain⟨_,b1,U⟩:=h.at_ m hm;exact Dg (AK rfl (AK (AJ rfl (a9 b1 U (aE (show(1:Int).natAbs<2^1 by decide) (aM AC T)) hb l M)) rfl)) (show 2<=1000 by decide)
section
variable{n D K L:Nat}{us:List AY}(h1:1<=n)(hn:n<=3)
include h1 hn
theorem eR{I}{rs}(h:PB n D K L us)(hD:D<=5)(hK:K+I<=4000)(hL:L<=500)(hl:rs.length=n)(hr:∀r∈rs,Wn I r):∃r,gM [AG us,.list (AH rs)]=some (AG r)/\PB n (D-1) (K+I+40) (cnt (D-1)) r:=by
 obtain⟨δ',e,l,T,M,rfl,pt⟩:=(show ∃δ',BL (BI Fu SC) (BU 3 4)
  (AX 2 (AE SU (AA EQ (AA (AE Qs (AA (AE Zn (AA CF KB)) (AA ON AB))) AB)))) [.d (AG us),.d Kb,.d (AG []),.no,.no]=some (.nx δ')/\∃(l:List AY) (T M:L2.L),δ'=[.d (AG us),.d Kb,.d (AG l),T,M]/\PB n (D-1) (K+I+3+10*(DM (AH rs)).length) (cnt (D-1)) l by
  refine RD (fun i δ=>∃(l:List AY) (T M:L2.L),δ=[.d (AG us),.d Kb,.d (AG l),T,M]/\PB n (D-1) (K+I+3+10*i) (cnt (D-1)) l) rfl ⟨[],_,_,rfl,⟨(fun m hm=>by cases hm),Nat.zero_le _⟩⟩ ?_;rintro i x δ hx ⟨l,T,M,rfl,pt⟩;have Z:=by
   have:=(aD.mp hx).1;unfold DM at this;rw[OF,List.length_zipIdx,Tw,hl]at this;exact this
  obtain⟨y,U,rfl⟩:=Ia hx;unfold AH at U;rw[(Ar)]at U;obtain⟨r,Y,rfl⟩:=aC.mp U;obtain⟨sl,e1,p1,_⟩:=Xv h1 hn h Z hD AS AS;obtain⟨sc,e2,p2⟩:=UU p1 (hr r (aJ Y)) AS AS;obtain⟨sm,e4,p4⟩:=fj h1 hn pt (p2.up LK (show K+3+I<=K+I+3+10*i by lia) LK) (by have:=Qn (D-1);lia) AS AS;exact⟨_,rfl,_,AW (AJ (AK rfl (AK (AJ (AK (AJ rfl e1) rfl) e2) rfl)) e4),sm,_,_,rfl,p4.up LK AS LK⟩)
 rw[(show(DM (AH rs)).length=n by unfold DM;rw[OF,List.length_zipIdx,Tw,hl])]at pt;exact⟨l,BC rfl (AN rfl (AN e rfl)),pt.up LK AS LK⟩
end
theorem cZ:∀zs a,zs.foldl (fun a z=>a*MA z.2 z.1.toNat) a=a*F4 zs
 |[],a=>by unfold F4;simp
 |z::zs,a=>by
  unfold F4;rw[List.foldl_cons,List.foldl_cons,cZ zs,cZ zs _,Rat.one_mul,Rat.mul_assoc]
def cA z zs:F4 (z::zs)=MA z.2 z.1.toNat*F4 zs:=by
 show(z::zs).foldl _ 1=_;rw[List.foldl_cons,cZ,Rat.one_mul]
theorem WN(b:Int):∀n,MA b n=((b^n:Int))
 |0=>by rw[Int.pow_zero];rfl
 |n+1=>by rw[MA,WN b n,Int.pow_succ,Rat.intCast_mul]
def qj(I:1<=c)(hb:1<=b):GB c b=(Int.lcm c b):=by
 have hg:FM.gi c b≠0:=bJ (FM.KI (bJ ‹_›));obtain⟨q,l⟩:=FM.K6 c b;unfold GB;rw[FM.F7 hg l];exact Int.eq_of_mul_eq_mul_left hg (show FM.gi c b*_=FM.gi c b*_ by
  rw[(show _*(Int.lcm c b)=c*b by
  have:((Int.gcd c b*Int.lcm c b:Nat):Int)=((c*b).natAbs):=by rw[(Int.gcd_mul_lcm c b),Int.natAbs_mul]
  rw[Int.natAbs_of_nonneg (Int.mul_nonneg AS AS)]at this;exact this),<-Int.mul_assoc,<-l])
theorem Y6{n:Nat}:∀(bs:List Int) c,1<=c->c ∣ (n:Int)->(∀b∈bs,1<=b/\b ∣ n)->bs.foldl GB c ∣ n
 |[],c,_,h,_=>h
 |b::bs,c,l,h,k=>by
  obtain⟨b1,b2⟩:=k b aS;obtain⟨s1,_,_,_⟩:=L9 l b1;refine Y6 bs _ s1 ?_ fun y I=>k y (aQ _ I);rw[qj l b1];exact Int.ofNat_dvd.mpr (Int.lcm_dvd h b2)
def zH{d:Nat}(h0:d≠0)(l:d<=6):(d:Int) ∣ ((60:Nat)):=by
 match d,h0,l with
 |1,_,_=>simp
 |2,_,_=>simp
 |3,_,_=>simp
 |4,_,_=>simp
 |5,_,_=>simp
 |6,_,_=>simp
def mm(h:∀b∈bs,1<=b/\b<=6):1<=Eu bs/\Eu bs<=60:=⟨((ZL (k:=3) fun b hb=>by grind).1),Int.le_of_dvd AC (Y6 bs 1 AC ⟨60,by decide⟩ fun b hb=>⟨(h b hb).1,by
  obtain⟨a,c⟩:=h b hb;have:=zH (d:=b.toNat) AS AS
  lia⟩)⟩
def CK(ts:AAS):AAe:=ts.map fun t:Int=>t
def RY(ps ts:AAS):Int:=(List.zipWith (fun p t=>t^p.toNat) ps ts).foldr (· * ·) 1
theorem Vq:∀ps ts,F4 (ps.zip (CK ts))=((RY ps ts))
 |[],_=>by rfl
 |_::_,[]=>by rfl
 |p::ps,t::ts=>by
  have l:=Vq ps ts;unfold CK at l ⊢;rw[(BM),List.zip_cons_cons,cA,l,WN];unfold RY;simp
theorem ZE:∀(zs:List Int),(∀z∈zs,z.natAbs<2^n)->zs.sum.natAbs<=zs.length*2^n
 |[],_=>by simp
 |z::zs,h=>by
  have I:=ZE zs fun y l=>h y (aQ _ l);have M:=h z aS;rw[(GH),(FU)];have:=Int.natAbs_add_le z zs.sum
  lia
def fh{zs:AAS}(l:zs.length<=15)(h:∀z∈zs,z.natAbs<2^n):zs.sum.natAbs<2^(n+4):=by
 have M:=ZE zs h;have I:zs.length*2^n<=15*2^n:=Nat.mul_le_mul_right _ l
 grind
theorem QB:∀ps ts,(∀p∈ps,0<=p)->(∀t∈ts,t.natAbs<2^tb)->(RY ps ts).natAbs<2^(tb*ps.sum.toNat+ps.length+1)/\0<=ps.sum
 |[],ts,_,_=>⟨by simp[RY],by simp⟩
 |p::ps,[],I,_=>by
  have U:=(QB (tb:=tb) ps [] (fun y l=>I y (aQ _ l)) fun _ z=>(List.not_mem_nil z).elim).2;have:=I p aS;refine⟨?_,by rw[(GH)];lia⟩;show(1:Int).natAbs<_;exact aE AC (aM AC (show 1<=_ by exact Nat.succ_pos _))
 |p::ps,t::ts,I,M=>by
  obtain⟨Y,U⟩:=QB ps ts (fun y l=>I y (aQ _ l)) fun y l=>M y (aQ _ l);have T:=I p aS;rw[(GH),(FU)];refine⟨FM.Fv (FM.Bh (J9 (M t aS) LK) Y) ?_,by lia⟩;rw[show(p+ps.sum).toNat=p.toNat+ps.sum.toNat by lia,Nat.mul_add]
  lia
def V2(h:Aq p=Aq q):p=q:=by
 unfold Aq at h;simp at h;exact FM.ZN h.1 h.2
def jb(h:BQ a=BQ b):a=b:=by
 obtain⟨a1,a2⟩:=a;unfold BQ at h;simp at h;rw[LA h.1,V2 h.2]
def Wk(h:AG a=AG b):a=b:=map_inj (fun _ _=>jb) (by injection h)
def sr(a:List AY×AAe):Prop:=∃many k kd n nd ,a.1.length<=12/\(∀m∈a.1,m.1.length=many/\(∀p∈m.1,0<=p/\p<=3)/\m.2.num.natAbs<2^n/\((m.2.den:Int)).natAbs<2^nd)/\a.2.length=many/\(∀x∈a.2,x.num.natAbs<2^k/\((x.den:Int)).natAbs<2^kd)/\many<=4/\k<=1300/\kd<=1300/\n<=20000/\(nd+(3*kd+1)*4)*12<=4000
abbrev UP:MD:=ZP (fun a=>[AG a.1,.list (AH a.2)]) sr fun a=>Aq (KO a.1 a.2)
def vA(h:sr (us,rs)):UP [AG us,.list (AH rs)]=some (Aq (KO us rs)):=ff (fun b e=>by
 injection e with I l
 injection l with l
 injection l with l
 exact Prod.ext (Wk I) (map_inj (fun _ _=>V2) l)) h
def kM m:(BQ m).canLay0=true:=VD fun d hd=>by
 rcases aO.mp hd with rfl|hd
 .exact VD fun d hd=>by obtain⟨p,_,rfl⟩:=aI.mp hd;rfl
 .rw[List.mem_singleton.mp hd];rfl
def XF us:(AG us).canLay0=true:=GZ fun d hd=>by obtain⟨p,_,rfl⟩:=aI.mp hd;exact kM p
def Gy(uss:GM):∀d∈uss.map AG,d.canLay0=true:=fun d hd=>by
 obtain⟨us,_,rfl⟩:=aI.mp hd;exact XF us
def Gr rs:∀d∈AH rs,d.canLay0=true:=fun d hd=>by
 obtain⟨p,_,rfl⟩:=aI.mp hd
 rfl
def yo(F:Ah P w K mg base CX k f fd ps Xo):Ah P w K mg base CX k f fd ps (A1 UP):=vU F fun a o G H vs Q E d e kk=>by
 obtain⟨many,k,kd,n,nd,o1,o2,o3,o4,Z,Y,U,T,M⟩:=o;obtain⟨v1,v2,rfl,d1,d2⟩:=d.Jg;obtain⟨A,xs,rfl,hA,dx⟩:=(b7 (XF _) (d1.same e)).fU;obtain⟨S,ss,rfl,hS,dS⟩:=(b7 (GZ (Gr _)) (d2.same e)).fU;refine⟨A,S,xs,ss,a.1,a.2,many,k,kd,n,nd,rfl,hA,dx,o1,o2,⟨hS,dS,o3,o4⟩,Z,Y,U,T,M,fun l H' I hl=>?_⟩;obtain⟨G',n1,n2,n3,n4⟩:=lg e I hl (KW [(KO a.1 a.2).num,_]);exact kk _ G' H' n1 n2 n3 I n4
theorem RX:∀ {ps:List Int} {p},(∀q∈ps,0<=q)->p∈ps->p<=ps.sum
 |x::ps,p,l,I=>by
  rw[(GH)];have M:=l x Ch;have s0:=QO fun q h=>l q (.tail _ h);rcases aO.mp I with rfl|I
  .lia
  .have:=RX (fun q h=>l q (.tail _ h)) I;lia
def k8{n D K L tb}(h:PB n D K L us)(Y:L<=15)(hn:n<=3)(hD:D<=2)(T:∀t∈ts,t.natAbs<2^tb):Wn (K+tb*2+8) (KO us (CK ts)):=by
 rw[(show ∀us ,(∀m∈us,m.2.den=1)->KO us _=(((us.map fun m=>m.2.num*RY m.1 ts).sum)) from fun us=>by
  induction us with
  |nil=>intro _;rfl
  |cons m us l=>
   intro hd;unfold KO at l ⊢;rw[(BM),(BM),(GH),(GH),l fun q U=>hd q (.tail _ U),Vq,Rat.intCast_add,Rat.intCast_mul]
   congr 2
   exact FM.ZN rfl (by rw[(hd m Ch)];rfl)) us fun m hm=>(h.at_ m hm).2.1]
 exact⟨rfl,(fh (by rw[OF];exact aK h.BA Y) (fun z M=>by
  obtain⟨m,hm,rfl⟩:=aI.mp M;obtain⟨⟨a1,a2,a3⟩,_,c⟩:=h.at_ m hm;obtain⟨I,Z⟩:=QB m.1 ts a2 T;refine FM.Fv (FM.Bh c I) ?_;have h2:tb*m.1.sum.toNat<=tb*2:=aW _ (show m.1.sum.toNat<=2 by lia)
  lia))⟩
def xX{n D K L tb}(h:PB n D K L us)(Y:L<=12)(hn:n<=3)(hD:D<=2)(Z:K<=20000)(l:tb<=1300)(T:ts.length=n)(U:∀t∈ts,t.natAbs<2^tb):∃r,UP [AG us,.list (AH (CK ts))]=some (Aq r)/\Wn (K+tb*2+8) r:=by
 refine⟨_,vA ⟨n,tb,1,K,1,Nat.le_trans h.BA Y,fun m hm=>?_,by unfold CK;simp_all,fun x M=>?_,by lia,l,by decide,Z,by decide⟩,k8 h AS hn hD U⟩
 .obtain⟨⟨a1,a2,a3⟩,b,c⟩:=h.at_ m hm;refine⟨a1,fun p I=>⟨a2 p I,?_⟩,c,by simp_all⟩;have:=RX a2 I
  lia
 .obtain⟨t,h1,rfl⟩:=aI.mp M
  simp_all
abbrev T0:Tr:=.nil
abbrev T1:Tr:=.cons .nil .nil
abbrev T2:Tr:=.cons .nil (.cons .nil .nil)
abbrev Yt:Tr:=.cons T1 .nil
abbrev T4:Tr:=.cons T1 (.cons .nil .nil)
abbrev Bo:List Tr:=[T0,T1,T2,Yt,T4]
def Lw(h:t∈Bo):t=T0\/t=T1\/t=T2\/t=Yt\/t=T4:=by simp_all
def yK:dJ Bo 1:=⟨by decide,fun a ha b hb e=>(show ∀a∈Bo,∀b∈Bo,TH.Bb (some a)=TH.Bb (some b)->a=b by decide +kernel) a ha b hb e,by decide +kernel,by decide +kernel,by decide +kernel⟩
def T5(v0 M I l v4:AAK)(t:Tr):AAK:=if t=T1 then M else if t=T2 then I else if t=Yt then l else if t=T4 then v4 else v0
section
variable(v0 v1 v2 v3 v4:AAK)
def js:T5 v0 v1 v2 v3 v4 T0=v0:=rfl
def Zy:T5 v0 v1 v2 v3 v4 T1=v1:=rfl
def cC:T5 v0 v1 v2 v3 v4 T2=v2:=rfl
def dA:T5 v0 v1 v2 v3 v4 Yt=v3:=rfl
def cM:T5 v0 v1 v2 v3 v4 T4=v4:=rfl
end
open Classical in
def G6{P:List AY->List AY->Prop}{U:GM}(h:∀us∈U,∃r,P us r):∃f:List AY->List AY,∀us∈U,P us (f us):=by
 refine⟨fun us=>if k:∃r,P us r then choose k else [],fun us l=>?_⟩;have k:=h us l;show P us (dite _ _ _);rw[dif_pos k];exact choose_spec k
def DL{α β:Type}{f g:α->β}{U:List α}{i:Nat}{c}(h:(U.map f)[i]? = some c):∃u∈U,c=f u/\(U.map g)[i]? = some (g u):=by
 rw[(Ar)]at h;obtain⟨u,l,rfl⟩:=aC.mp h;exact⟨u,List.mem_of_getElem? l,rfl,by simp_all⟩
section
variable{n K:Nat}{U:GM}(h1:1<=n)(hn:n<=3)
include h1 hn
theorem oa(hl:U.length=n)(Z:∀us∈U,PB n 2 K 12 us)(hK:K<=500):∃BT:Tr->List PD,nh Bo (Oq 3) (U.map AG) (fun t=>.list (BT t)) BT/\∀t∈Bo,∃V:List (List AY),BT t=V.map AG/\∀us∈V,PB n 5 4000 56 us:=by
 have bU:BB n 2 K U:=⟨hl,fun p hp=>(Z p hp).up LK LK AC⟩;have one:∀ {D K' Db M:Nat} {us:List AY} {b:GM} {f:Nat},PB n D K' 12 us->D-1+Db<=5->D<=5->K'<=3900->BB n Db M b->M<=4000->∃r,Oq (f+2) [AG us,.list [bD b]]=some (AG r)/\PB n (D-1+Db) (K'+3+M+40) (cnt (D-1+Db)) r:=fun {D K' Db M us b f} h h5 hD5 hK' hb Y=>
  Ye h1 hn (f:=f+1) (E:=D-1) (X:=K'+3) (L':=12) h hD5 AS AC hb (fun r hr=>⟨r,dn r,hr⟩) AC h5 AS Y AC
 obtain⟨f1,T⟩:=G6 fun us l=>one (f:=1) (Z us l) AC AC AS bU AS;have b1:BB n 3 (K+3+K+40) (U.map f1):=⟨by rw[OF];exact hl,fun p hp=>by obtain⟨u,l,rfl⟩:=aI.mp hp;exact(T u l).2.up LK LK AC⟩;have two:∀ {Db M:Nat} {us:List AY} {b:GM},PB n 2 K 12 us->2+Db<=5->BB n Db M b->M<=4000->∃r,Oq 3 [AG us,.list [bD b,bD U]]=some (AG r)/\PB n (2+Db) (K+3+3+K+40+M+40) (cnt (2+Db)) r:=fun {Db M us b} h h5 hb Y=>
  Ye h1 hn (f:=2) (E:=2) (X:=K+3+3+K+40) (L':=10) h AC AS AC hb (fun r hr=>one (D:=1) (f:=0) hr AC AC AS bU AS) AC h5 AS Y (show 1<=100 by decide)
 obtain⟨f2,h_2⟩:=G6 fun us l=>two (Z us l) AC bU AS;obtain⟨f3,h_3⟩:=G6 fun us l=>one (f:=1) (Z us l) AC AC AS b1 AS;obtain⟨f4,h_4⟩:=G6 fun us l=>two (Z us l) AC b1 AS;refine⟨T5 (U.map AG) (U.map fun u=>AG (f1 u)) (U.map fun u=>AG (f2 u)) (U.map fun u=>AG (f3 u)) (U.map fun u=>AG (f4 u)),⟨fun _=>rfl,fun t ht=>?_,fun t ht i c hc=>?_,by rw[OF];lia,by decide +kernel⟩,fun t ht=>?_⟩
 .rcases Lw ht with rfl|rfl|rfl|rfl|rfl<;>simp[js,Zy,cC,dA,cM]
 .have e1:bD (U.map f1)=.list (U.map fun u=>AG (f1 u)):=by unfold bD;rw[(BZ)];rfl
  rcases Lw ht with rfl|rfl|rfl|rfl|rfl
  .obtain⟨u,l,rfl,e⟩:=DL (g:=AG) hc;exact⟨_,e,dn u⟩
  .obtain⟨u,l,rfl,e⟩:=DL (g:=fun u=>AG (f1 u)) hc;exact⟨_,e,(T u l).1⟩
  .obtain⟨u,l,rfl,e⟩:=DL (g:=fun u=>AG (f2 u)) hc;exact⟨_,e,(h_2 u l).1⟩
  .obtain⟨u,l,rfl,e⟩:=DL (g:=fun u=>AG (f3 u)) hc;refine⟨_,e,?_⟩;have:=(h_3 u l).1;rw[e1]at this;exact this
  .obtain⟨u,l,rfl,e⟩:=DL (g:=fun u=>AG (f4 u)) hc;refine⟨_,e,?_⟩;have:=(h_4 u l).1;rw[e1]at this;exact this
 .rcases Lw ht with rfl|rfl|rfl|rfl|rfl
  .exact⟨U,rfl,fun us l=>(Z us l).up AC AS AC⟩
  .exact⟨U.map f1,by rw[Zy,(BZ)];rfl,fun us l=>by obtain⟨u,I,rfl⟩:=aI.mp l;exact(T u I).2.up AC AS AC⟩
  .exact⟨U.map f2,by rw[cC,(BZ)];rfl,fun us l=>by obtain⟨u,I,rfl⟩:=aI.mp l;exact(h_2 u I).2.up AC AS AC⟩
  .exact⟨U.map f3,by rw[dA,(BZ)];rfl,fun us l=>by obtain⟨u,I,rfl⟩:=aI.mp l;exact(h_3 u I).2.up AC AS AC⟩
  .exact⟨U.map f4,by rw[cM,(BZ)];rfl,fun us l=>by obtain⟨u,I,rfl⟩:=aI.mp l;exact(h_4 u I).2.up AC AS AC⟩
end
open Classical in
def LR{P:List AY->Rat->Prop}{U:GM}(h:∀us∈U,∃r,P us r):∃f:List AY->Rat,∀us∈U,P us (f us):=by
 refine⟨fun us=>if k:∃r,P us r then choose k else 0,fun us l=>?_⟩;have k:=h us l;show P us (dite _ _ _);rw[dif_pos k];exact choose_spec k
def yR:∀t∈Bo,∀i,Tr.of (t.bs.take i)∈Bo:=fun t l i=>by
 have all:∀t∈Bo,∀i,i<3->Tr.of (t.bs.take i)∈Bo:=by decide +kernel
 have len:∀t∈Bo,t.bs.length<=2:=by decide +kernel
 by_cases z:i<3
 .exact all t l i z
 .have:=all t l 2 AC;rw[List.take_of_length_le (len t l)]at this;rw[List.take_of_length_le (by have:=len t l;lia)];exact this
section
variable{n K tb:Nat}{U:GM}{ts:AAS}(h1:1<=n)(hn:n<=3)
include h1 hn
theorem dP(hl:U.length=n)(hU:∀us∈U,PB n 2 K 12 us)(hK:K<=200)(htb:tb<=50)(htl:ts.length=n)(M:∀t∈ts,t.natAbs<2^tb):∃PT WT:Tr->List PD,mD Bo gM UP (U.map AG) (.list (AH (CK ts))) PT WT/\∀t∈Bo,∃rs:AAe,WT t=AH rs:=by
 have wo:∀ {D T:Nat} {us:List AY},PB n D T 12 us->D<=2->T<=3000->∃r,UP [AG us,.list (AH (CK ts))]=some (Aq r)/\Wn (T+108) r:=fun h hD hK'=>by
  obtain⟨r,a,b⟩:=xX h AC hn hD AS AS htl M;exact⟨r,a,b.1,Nat.lt_of_lt_of_le b.2 (aM AC AS)⟩
 have pu:∀ {D T Ks:Nat} {us:List AY} {w:List AY->Rat},PB n D T 12 us->D<=2->T+Ks<=4000->(∀u∈U,Wn Ks (w u))->∃r,gM [AG us,.list (AH (U.map w))]=some (AG r)/\PB n (D-1) (T+Ks+40) 12 r:=fun {D T Ks us w} h hD hk hw=>by
  obtain⟨r,a,b⟩:=eR h1 hn (rs:=U.map w) h AS hk AC (by rw[OF];exact hl) (fun r hr=>by obtain⟨u,l,rfl⟩:=aI.mp hr;exact hw u l);refine⟨r,a,b.up LK LK ?_⟩;have:∀D,D<=2->cnt (D-1)<=12:=by decide
  exact this D hD
 obtain⟨Y,g0⟩:=LR fun us l=>wo (hU us l) AC AS;obtain⟨p1,q1⟩:=G6 fun us l=>pu (w:=Y) (hU us l) AC AS (fun u l=>(g0 u l).2);obtain⟨w1,g1⟩:=LR fun us l=>wo (q1 us l).2 AC AS;obtain⟨p2,q2⟩:=G6 fun us l=>pu (w:=Y) (q1 us l).2 AC AS (fun u l=>(g0 u l).2);obtain⟨w2,g2⟩:=LR fun us l=>wo (q2 us l).2 AC AS;obtain⟨p3,q3⟩:=G6 fun us l=>pu (w:=w1) (hU us l) AC AS (fun u l=>(g1 u l).2);obtain⟨w3,g3⟩:=LR fun us l=>wo (q3 us l).2 AC AS;obtain⟨p4,q4⟩:=G6 fun us l=>pu (w:=Y) (q3 us l).2 AC AS (fun u l=>(g0 u l).2);obtain⟨w4,g4⟩:=LR fun us l=>wo (q4 us l).2 AC AS;have Z:∀w:List AY->Rat,AH (U.map w)=U.map fun u=>Aq (w u):=fun w=>by unfold AH;rw[(BZ)];rfl
 refine⟨T5 (U.map AG) (U.map fun u=>AG (p1 u)) (U.map fun u=>AG (p2 u)) (U.map fun u=>AG (p3 u)) (U.map fun u=>AG (p4 u)),T5 (U.map fun u=>Aq (Y u)) (U.map fun u=>Aq (w1 u)) (U.map fun u=>Aq (w2 u)) (U.map fun u=>Aq (w3 u)) (U.map fun u=>Aq (w4 u)),⟨rfl,fun t M=>?_,fun t M i b hb j c I=>?_,fun t M=>?_,fun t M j c I=>?_,by rw[OF];lia,yR⟩,fun t M=>?_⟩
 .rcases Lw M with rfl|rfl|rfl|rfl|rfl<;>simp[js,Zy,cC,dA,cM]
 .simp only[Z]at q1 q2 q3 q4;rcases Lw M with rfl|rfl|rfl|rfl|rfl
  .cases hb
  .match i,hb with
   |0,hb=>
    cases hb;obtain⟨u,l,rfl,e⟩:=DL (g:=fun u=>AG (p1 u)) (show(U.map AG)[j]? = some c from I);exact⟨_,e,(q1 u l).1⟩
  .match i,hb with
   |0,hb=>
    cases hb;obtain⟨u,l,rfl,e⟩:=DL (g:=fun u=>AG (p1 u)) (show(U.map AG)[j]? = some c from I);exact⟨_,e,(q1 u l).1⟩
   |1,hb=>
    cases hb;obtain⟨u,l,rfl,e⟩:=DL (g:=fun u=>AG (p2 u)) (show(U.map fun u=>AG (p1 u))[j]? = some c from I);exact⟨_,e,(q2 u l).1⟩
  .match i,hb with
   |0,hb=>
    cases hb;obtain⟨u,l,rfl,e⟩:=DL (g:=fun u=>AG (p3 u)) (show(U.map AG)[j]? = some c from I);exact⟨_,e,(q3 u l).1⟩
  .match i,hb with
   |0,hb=>
    cases hb;obtain⟨u,l,rfl,e⟩:=DL (g:=fun u=>AG (p3 u)) (show(U.map AG)[j]? = some c from I);exact⟨_,e,(q3 u l).1⟩
   |1,hb=>
    cases hb;obtain⟨u,l,rfl,e⟩:=DL (g:=fun u=>AG (p4 u)) (show(U.map fun u=>AG (p3 u))[j]? = some c from I);exact⟨_,e,(q4 u l).1⟩
 .rcases Lw M with rfl|rfl|rfl|rfl|rfl<;>simp[js,Zy,cC,dA,cM]
 .rcases Lw M with rfl|rfl|rfl|rfl|rfl
  .obtain⟨u,l,rfl,e⟩:=DL (g:=fun u=>Aq (Y u)) (show(U.map AG)[j]? = some c from I);exact⟨_,e,(g0 u l).1⟩
  .obtain⟨u,l,rfl,e⟩:=DL (g:=fun u=>Aq (w1 u)) (show(U.map fun u=>AG (p1 u))[j]? = some c from I);exact⟨_,e,(g1 u l).1⟩
  .obtain⟨u,l,rfl,e⟩:=DL (g:=fun u=>Aq (w2 u)) (show(U.map fun u=>AG (p2 u))[j]? = some c from I);exact⟨_,e,(g2 u l).1⟩
  .obtain⟨u,l,rfl,e⟩:=DL (g:=fun u=>Aq (w3 u)) (show(U.map fun u=>AG (p3 u))[j]? = some c from I);exact⟨_,e,(g3 u l).1⟩
  .obtain⟨u,l,rfl,e⟩:=DL (g:=fun u=>Aq (w4 u)) (show(U.map fun u=>AG (p4 u))[j]? = some c from I);exact⟨_,e,(g4 u l).1⟩
 .rcases Lw M with rfl|rfl|rfl|rfl|rfl
  .exact⟨_,(Z Y).symm⟩
  .exact⟨_,(Z w1).symm⟩
  .exact⟨_,(Z w2).symm⟩
  .exact⟨_,(Z w3).symm⟩
  .exact⟨_,(Z w4).symm⟩
end
def Zk{ι:Type}{sp:ι->Sp}(F:∀i,Ah P w K mg base CX k f fd ps (sp i)):Ah P w K mg base CX k f fd ps (fun vs H Q E=>∃i,sp i vs H Q E) :=
 ⟨fun vs H Q E ⟨i,h⟩=>(F i).len _ _ _ _ h,fun A outer s H args us vs Q E I M hb l ⟨i,h⟩=>(F i).run A outer s H args us vs Q E I M hb l h⟩
section
def XQ(Ab:MD)(l:MD):DF :=
 (AL (AX 1 (AE Ab (AA (CT (CL 1) BW (AF Ak Cb AT) [none,none] (A6 CF)) AB)))
 (Al (AE l (AA (AE Ta (AA (CT (CL 1) BW (AF BJ (AF Ak Cb By) (AF Ds EQ (AF Ak Cb AT))) [none,none,some 1] (A6 CF)) AB)) SC))))
def CD(Ab:MD)(l:MD):MD:=A0 ["some"] ["some","bottom"] (XQ Ab l)
def YA(l:MD):DF :=
 (Al (AE l (AA (AF Ep (AF BJ (AF Ak CF By) (AF Ak Cb AT)) (AF BJ (AF Ak Cb By) (AF Ak CF AT))) (AA (AF BJ (AF Ak CF AT) (AF Ak Cb AT)) AB))))
def FA(l:MD):MD:=A0 Os Os (YA l)
def gP(DV:MD):DF :=
 (AL (Bp (DD (CU (Ip DK CF)))
  (Al Da)
  A2)
 (AL (BL (BI Fu SB) (BU 1 2)
  (AL (Bp (Nx (Ao Id Cb By) (Ao (Bv false) EQ (AF Ak CF (AF Ep Cb AT))))
   wR
   A2)
  (Bp (Ik (DD (CU (AE DV (AA EQ AB)))) (Nx (Ao Id Cb By) (Ao nc EQ (AF Ak CF (AF Ep Cb AT)))))
   (Al Da)
   A2)))
 (Al (fC Iz))))
def DV:Nat->MD
 |0=>fun _=>none
 |n+1=>A0 ["thing"] ["thing","k","bough"] (gP (DV n))
def Pd(DV:MD)(l:AD):EX :=
 (Qb (DD (CU (AE DV SB)))
  (Jz l (fC (.str (Str.ofString "a tree is told by the tuple of its boughs in falling order"))))
  (fun δ=>some (.inl (.nx δ))))
def Cn(DV:MD)(l:AD):rW:=Dl ["thing"] ["thing"] (Pd DV l)
def TY(Bm:MD):DF :=
 (Al (AF Ap AT (AE Ta (AA (CT (CL 1) BW (AE Bm SC) [none,none] (A6 CF)) AB))))
def Bm:Nat->MD
 |0=>fun _=>none
 |n+1=>A0 ["tree"] ["tree"] (TY (Bm n))
def So(Bn:MD):DF :=
 (AL (AX 1 AT)
 (AL (AX 2 By)
 (AL (BL (BI Fu SB) (BU 3 4)
  (AL (Bp (Nx (Ao Id (nm 3) By) (Ao (Bv false) ON (AF Ak CF (AF Ep (nm 3) AT))))
   (AX 2 (AF Ap EQ AT))
   (AX 2 AT))
  (AX 1 (AF BJ (AF BJ Cb EQ) (AE Bn (AA ON AB))))))
 (Al Cb))))
def Bn:Nat->MD
 |0=>fun _=>none
 |n+1=>A0 ["tree"] ["tree","turns","alike","k","bough"] (So (Bn n))
def Rg:DF :=
 (AL (AX 1 AT)
 (AL (BL (BI Md (AA (fC (.int 2)) (AA (AF Ap CF AT) AB))) (Cw 2)
  (AX 1 (AF BJ Cb EQ)))
 (Al Cb)))
def C0:MD:=A0 ["many"] ["many","product","factor"] Rg
def NA:DF :=
 (Al (AE Er (AA (AE (NC true) SB) AB)))
def An:MD:=A0 ["boughs"] ["boughs"] NA
def NR(An:MD)(BN:MD):DF :=
 (AL (Et 1 (AA (AE An (AA (AF Ap CF (Aa (AA (Aa AB) AB))) AB)) AB))
 (AL (BL (BI Fu SB) (BU 2 3)
  (BL (A6 (AE BN KB)) (Cw 4)
   (Ed 1 (AE An (AA (AF Ap (AF Ap (CG CF Bd (Be EQ)) (Aa (AA ON AB))) (CG CF (Be (AF Ap EQ AT)) Bd)) AB)))))
 (Gb 1)))
def BN(An:MD):Nat->MD
 |0=>fun _=>none
 |n+1=>A0 ["tree"] ["tree","larger","k","bough","grown"] (NR An (BN An n))
def Z3(BN:MD)(l:AD):EX :=
 (B0 (Qb (Ik (Ao (CM fun i j=>decide (i<j)) CF AT) (Ao Id CF (fC (.int 7))))
  (Jz l (fC (.str (Str.ofString "trees are listed for 1 to 7 knots"))))
  (fun δ=>some (.inl (.nx δ))))
 (El (AL (AX 1 (BG (AA (Aa AB) AB)))
 (AL (BL (BI Md (AA AT SB)) (Cw 2)
  (AL (Et 3 AB)
  (AL (BL (A6 Cb) (Cw 4)
   (SW 3 (AE BN (AA ON AB))))
  (LB 3 (AX 1 (fun δ=>((nm 3) δ).bind PZ))))))
 (Al Cb)))))
def Bs(BN:MD)(l:AD):rW:=Dl ["many"] ["many","trees","knots","larger","tree"] (Z3 BN l)
def Zw(Bs:rW)(l:AD):EX :=
 (B0 (Qb (Ik (Ao (CM fun i j=>decide (i<j)) CF By) (Ao Id CF (fC (.int 7))))
  (Jz l (fC (.str (Str.ofString "trees are listed up to 0 to 7 knots"))))
  (fun δ=>some (.inl (.nx δ))))
 (El (AL (Et 1 AB)
 (AL (BL (BI Md (AA AT (AA (AF Ap CF AT) AB))) (Cw 2)
  (SW 1 (AE (good Bs) (AA EQ AB))))
 (Gb 1)))))
def F3(Bs:rW)(l:AD):rW:=Dl ["most"] ["most","trees","many"] (Zw Bs l)
def YR:DF :=
 (HK (Bk (CL 1) BW (AF BJ (AF Ak Cb By) (AF Ds EQ (AF Ak Cb AT))) [none,none,some 1] (A6 CF)))
def Ae:MD:=A0 ["some","bottom"] ["some","bottom"] YR
def Us(Ae:MD):DF :=
 (HK (Bk (CL 1) BW (Aa (AA Cb SL)) [none,none] (A6 (AE Ae (AA CF SC)))))
def CJ(Ae:MD):MD:=A0 ["start","grain"] ["start","grain"] (Us Ae)
def FZ(FG:MD)(l:AD):EX :=
 (Qb (DD (CU (AE FG SB)))
  (Jz l (fC (.str (Str.ofString "a change is a list of n polynomials in n unknowns, n from 1 on"))))
  (fun δ=>some (.inl (.nx δ))))
def A3(FG:MD)(l:AD):rW:=Dl ["thing"] ["thing"] (FZ FG l)
def Rz(l:AD):EX :=
 (Jz l (fC (.str (Str.ofString "a start is a list of as many fractions as there are unknowns"))))
def CQ(l:AD):rW:=Dl [] [] (Rz l)
def EZ(Bf:MD)(CQ:rW):EX :=
 (Qb (Ik (DD (CU (AE Bf SB))) (Ao (Bv true) (AE BS SB) Cb))
  (EY CQ AB fun _ δ=>.nx δ)
  (fun δ=>some (.inl (.nx δ))))
def B9(Bf:MD)(CQ:rW):rW:=Dl ["thing","unknowns"] ["thing","unknowns"] (EZ Bf CQ)
def L3(Bf:MD)(l:AD):EX :=
 (Qb (Ik (DD (CU (AE Bf SB))) (CU (fun δ=>((AE BS SB) δ).bind (uT true [0,1,2,4,8,17,37,85]))))
  (Jz l (fC (.str (Str.ofString "a weighing is a list of a fraction for each tree of at most 0 to 7 knots"))))
  (fun δ=>some (.inl (.nx δ))))
def B6(Bf:MD)(l:AD):rW:=Dl ["thing"] ["thing"] (L3 Bf l)
def P7(B6:rW):EX :=
 (B0 (EY B6 SB fun _ δ=>.nx δ)
 (El (Al (fun δ=>((AE BS SB) δ).bind (vS [0,1,2,4,8,17,37,85])))))
def Ay(B6:rW):rW:=Dl ["weighing"] ["weighing"] (P7 B6)
def U4(An:MD)(B5:MD):DF :=
 (AL (Et 1 AB)
 (AL (BL (BI Fu SB) (BU 2 3)
  (AL (Ed 1 (Aa (AA (AF Ap (CG CF Bd (Be EQ)) (CG CF (Be (AF Ap EQ AT)) Bd)) KB)))
  (BL (A6 (AE B5 KB)) (BU 4 5)
   (Ed 1 (Aa (AA (AE An (AA (AF Ap (AF Ap (CG CF Bd (Be EQ)) (Aa (AA ON AB))) (CG CF (Be (AF Ap EQ AT)) Bd)) AB)) (AA (nm 5) AB)))))))
 (Gb 1)))
def B5(An:MD):Nat->MD
 |0=>fun _=>none
 |n+1=>A0 ["tree"] ["tree","ties","k","bough","trunk","part"] (U4 An (B5 An n))
def YI(Cn:rW)(B5:MD):DF :=
 (AL (wQ (AE (good Cn) SB))
 (Al (AE (NC false) (AA (AE B5 SB) AB))))
def FE(Cn:rW)(B5:MD):MD:=A0 ["tree"] ["tree"] (YI Cn B5)
def V9:DF :=
 (AL (Bp (Ao (CM fun i j=>decide (j<=i)) Cb (AE BS SB))
  (Al (Aa (AA By SL)))
  A2)
 (Al (Aa (AA (AF BJ (AF Ak (AF Ak CF Cb) By) (AF Ak EQ By)) (AA (AF BJ (AF Ak (AF Ak CF Cb) AT) (AF Ak EQ AT)) AB)))))
def Ec:MD:=A0 ["trunk_moves","j","number"] ["trunk_moves","j","number"] V9
def U8(CD:MD)(Bm:MD)(Ec:MD)(FE:MD):DF :=
 (AL (AX 2 (AE FE SB))
 (AL (Et 3 AB)
 (AL (BL (BI HM (AA (AF Ep (AE Bm SB) AT) AB)) (Cw 4)
  (AL (AX 5 (CT (BU 1 2) BW (AE Ec (AA (AF VY ON Cb) (AA (nm 3) (AA (AF Ak (AF VY ON EQ) By) AB)))) [none,none,none,some 4,some 1] (A6 EQ)))
  (Ed 3 (AE CD (AA (nm 5) AB)))))
 (Gb 3))))
def EH(CD:MD)(Bm:MD)(Ec:MD)(FE:MD):MD:=A0 ["tree","moves"] ["tree","moves","ties","later","j","shares"] (U8 CD Bm Ec FE)
def SG(CD:MD)(C0:MD):DF :=
 (Al (AE CD (AA (CT (BU 1 2) BW (Aa (AA (AF Ak EQ By) (AA (AF BJ (AF Ak EQ AT) (AE C0 SC)) AB))) [none,none,none] (BI cw SB)) AB)))
def Di(CD:MD)(C0:MD):MD:=A0 ["later"] ["later"] (SG CD C0)
def Mz(FA:MD)(EH:MD)(Di:MD)(F3:rW)(Ay:rW):EX :=
 (B0 (xE (cE (cF (cE (vV SB) Ay) (vV AB)) F3) fun x δ=>.nx (δ.set 1 (.d x)))
 (El (AL (mS 2)
 (AL (BL (BI zip2 (AA Cb SB)) (BU 3 4)
  (AL (AX 5 (mY 2 (AE EH (AA (nm 3) (AA EQ AB)))))
  (uo 2 (AF Ap (BG (AA (AE FA (AA ON (AA (AE Di (AA (nm 5) AB)) AB))) AB)) (nm 5)) (nm 3))))
 (LB 2 (HK (Bk (CL 1) BW (AF Ak (AF VY EQ Cb) By) [none,none,some 2] (A6 Cb))))))))
def CB(FA:MD)(EH:MD)(Di:MD)(F3:rW)(Ay:rW):rW:=Dl ["weighing"] ["weighing","trees","moves","tree","weight","later"] (Mz FA EH Di F3 Ay)
def YB(Bn:MD):DF :=
 (HK (Bk (BU 1 2) BW (Aa (AA (AF Ak EQ By) (AA (AF BJ (AF Ak EQ AT) (AE Bn SC)) AB))) [none,none,none] (BI zip2 (AA CF SC))))
def CY(Bn:MD):MD:=A0 ["trees","weights"] ["trees","weights"] (YB Bn)
def JB(Ab:MD)(l:MD)(Ae:MD):DF :=
 (AL (AX 3 (AE Ab (AA (CT (CL 1) BW (AF Ak Cb AT) [none,none] (A6 CF)) AB)))
 (AL (AX 4 (AF BJ (BG (AA By AB)) (AE BS (AA (AF Ak Cb By) AB))))
 (AL (BL (BI zip2 (AA (AE Ae (AA CF KB)) SC)) (BU 5 6)
  (AX 4 (CT (BU 1 2) BW (AF Ap Cb (AF BJ (nm 3) (AF Ak EQ By))) [none,none,none,some 5] (BI zip2 (AA ON (AA (nm 6) AB))))))
 (HK (Bk (CL 1) BW (AE l (AA Cb (AA (AF BJ EQ (nm 3)) AB))) [none,none,some 3,some 2] (A6 ON))))))
def ED(Ab:MD)(l:MD)(Ae:MD):MD:=A0 ["shares","bends","bottom"] ["shares","bends","bottom","common","totals","top","worths"] (JB Ab l Ae)
def KL(I:List PD->D6->Option PD)(F6:MD)(DY:MD)(A3:rW)(B9:rW)(ED:MD)(CY:MD)(Bs:rW)(Ay:rW)(Bl:MD)(CJ:MD)(l:Dv->D6):EX :=
 (B0 (EY A3 SB fun _ δ=>.nx δ)
 (B0 (EY B9 (AA Cb (AA (AE BS SB) AB)) fun _ δ=>.nx δ)
 (B0 (EY Ay (AA EQ AB) fun z δ=>.nx (δ.set 3 (.d z)))
 (B0 (El (AX 4 (AE F6 SC)))
 (B0 (El (AX 5 (AE Bl (AA CF (AA ON AB)))))
 (B0 (El (AX 6 (AE CJ (AA Cb (AA ON AB)))))
 (B0 (El (AX 7 (AE DY (AA CF (AA ON AB)))))
 (B0 (El (AX 8 (CT (CL 1) BW (BG SC) [none,none] (A6 Cb))))
 (B0 (El (jC 9 l))
 (B0 (El (AX 10 EQ))
 (B0 (El (AX 11 ON))
 (B0 (cP (BI Md (AA AT (AA (AF Ap (nm 3) AT) AB))) (Cw 12)
  (B0 (EY Bs (AA (nm 12) AB) fun z δ=>.nx (δ.set 13 (.d z)))
  (El (AL (AX 14 (HX 4 9 (CL 1) BW (J6 4 I (AA EQ (AA Cb KB))) [none,none,some 5,some 6,some 9] (A6 (nm 13))))
  (AL (AX 11 (AF BJ (nm 11) (nm 7)))
  (AL (AX 15 (AE ED (AA (AE CY (AA (nm 13) (AA (nm 10) AB))) (AA (nm 14) (AA (nm 11) AB)))))
  (AL (AX 8 (CT (BU 1 2) BW (AF Ap Cb (BG (AA EQ AB))) [none,none,none] (BI zip2 (AA (nm 8) (AA (nm 15) AB)))))
  (AX 10 (CG (nm 10) (Be (AE BS (AA (nm 13) AB))) Bd)))))))))
 (El (Al (nm 8)))))))))))))))
def Dq(I:List PD->D6->Option PD)(F6:MD)(DY:MD)(A3:rW)(B9:rW)(ED:MD)(CY:MD)(Bs:rW)(Ay:rW)(Bl:MD)(CJ:MD)(l:Dv->D6):rW:=Dl ["change","start","weighing"] ["change","start","weighing","reach","grain","moving","begin","pace","rows","known","left","bottom","knots","trees","bends","sums"] (KL I F6 DY A3 B9 ED CY Bs Ay Bl CJ l)
def Rv(CY:MD):DF :=
 (HK (Bk (BU 1 2) (Ao (Bv true) (AF Ak EQ By) By) (Aa (AA Cb (AA EQ AB))) [none,none,none] (BI zip2 (AA CF (AA (AE CY (AA CF SC)) AB)))))
def Dd(CY:MD):MD:=A0 ["trees","numbers"] ["trees","numbers"] (Rv CY)
def Xc(l:MD)(A7:MD):DF :=
 (AL (Et 2 AB)
 (AL (BL (BI zip2 (AA CF SC)) (BU 3 4)
  (SW 2 (AE A7 (AA (nm 3) (AA (Aa (AA ON SL)) AB)))))
 (LB 2 (Al (AE l (AA EQ AB))))))
def Cu(l:MD)(A7:MD):MD:=A0 ["polys","tops"] ["polys","tops","terms","some","top"] (Xc l A7)
def GO(l:List PD->D6->Option PD)(Ab:MD)(A7:MD)(Cu:MD)(Ae:MD):DF :=
 (AL (AX 4 (AE Ab (AA (CT (BU 1 2) BW (AF Ak EQ AT) [none,none,none] (A6 Cb)) AB)))
 (AL (AX 5 (AE Ae (AA (CT (BU 1 2) BW EQ [none,none,none] (A6 Cb)) (AA ON AB))))
 (AL (AX 6 (HX 4 3 (BU 1 2) BW (J6 4 l (AA (nm 3) SC)) [none,none,none,some 0,some 3] (A6 Cb)))
 (AL (AX 7 (Aa (AA AT (AA (AF BJ ON EQ) AB))))
 (fun δ=>some (.nx δ))))))
def Oj(l:List PD->D6->Option PD)(Ab:MD)(A7:MD)(Cu:MD)(Ae:MD):AAF:=(CT (CL 1) BW (AE A7 (AA (AE Cu (AA (CT (CL 1) BW (AF Ak Cb EQ) [none,none,some 1] (A6 ON)) KB)) (AA EQ AB))) [none,none,some 7,some 5,some 6] (BI HM (AA (AE BS SB) AB)))
def Cg(l:List PD->D6->Option PD)(Ab:MD)(A7:MD)(Cu:MD)(Ae:MD):List PD->D6->Option PD:=TK ["moving","shared","bottom","known"] ["moving","shared","bottom","known","common","tops","bends","part"] (GO l Ab A7 Cu Ae) (Oj l Ab A7 Cu Ae)
def Ft(Cg:List PD->D6->Option PD)(CB:rW)(DY:MD)(A3:rW)(Dd:MD)(Bs:rW)(Ay:rW)(Bl:MD)(l:Dv->D6):EX :=
 (B0 (EY A3 SB fun _ δ=>.nx δ)
 (B0 (EY CB SC fun z δ=>.nx (δ.set 2 (.d z)))
 (B0 (El (AX 3 (AE Bl (AA CF SL))))
 (B0 (El (AX 4 (AE DY (AA CF SL))))
 (B0 (El (Et 5 AB))
 (B0 (El (jC 6 l))
 (B0 (El (AX 7 AT))
 (B0 (cP (BI Md (AA AT (AA (AF Ap (AE (good Ay) SC) AT) AB))) (Cw 8)
  (B0 (EY Bs (AA (nm 8) AB) fun z δ=>.nx (δ.set 9 (.d z)))
  (El (AL (AX 7 (AF BJ (nm 7) ON))
  (AL (Ed 5 (J6 6 Cg (AA (nm 3) (AA (AE Dd (AA (nm 9) (AA EQ AB))) (AA (nm 7) AB)))))
  (AX 2 (CG EQ (Be (AE BS (AA (nm 9) AB))) Bd)))))))
 (El (Gb 5))))))))))
def B3(Cg:List PD->D6->Option PD)(CB:rW)(DY:MD)(A3:rW)(Dd:MD)(Bs:rW)(Ay:rW)(Bl:MD)(l:Dv->D6):rW:=Dl ["change","weighing"] ["change","weighing","left","moving","pace","changes","known","bottom","knots","trees"] (Ft Cg CB DY A3 Dd Bs Ay Bl l)
def O7:DF :=
 (AL (AX 2 By)
 (AL (Bp (Ao (CM fun i j=>decide (i<j)) Cb (AE BS SB))
  (AX 2 (AF Ak CF Cb))
  A2)
 (AL (Bp (Ao (CM fun i j=>decide (j<=i)) EQ (AF Pl (fC (.int 10)) (fC (.int 18))))
  (Al (AF Cp (AF Ep EQ (AF Pl (fC (.int 10)) (fC (.int 18)))) (AF Pl (fC (.int 10)) (fC (.int 60)))))
  A2)
 (AL (AX 3 (AF Cp (AF Ap (AF Ap (AF BJ EQ (fC (.int 48271))) (AF BJ Cb (fC (.int 69621)))) (fC (.int 11))) (fC (.int 2147483629))))
 (AL (AX 3 (AF Cp (AF BJ (nm 3) (nm 3)) (fC (.int 2147483587))))
 (Al (AF Ap (AF BJ (nm 3) (fC (.int 2147483563))) (AF Cp (AF BJ (nm 3) (nm 3)) (fC (.int 2147483563))))))))))
def A4:MD:=A0 ["_law_script","_law_k"] ["_law_script","_law_k","_law_cell_here","_law_number"] O7
def Zq(l:MD):DF :=
 (Al (AE l (AA (AF Ap (AF BJ (AF Ak CF By) (AF Ak Cb AT)) (AF BJ (AF Ak Cb By) (AF Ak CF AT))) (AA (AF BJ (AF Ak CF AT) (AF Ak Cb AT)) AB))))
def F0(l:MD):MD:=A0 ["_law_one","_law_other"] ["_law_one","_law_other"] (Zq l)
def Kr(F0:MD):DF :=
 (AL (uC 1)
 (AL (BL (A6 CF) (BU 2 3)
  (Wq 1 (AE F0 (AA (Qe 1 EQ (Aa (AA By SL))) KB)) EQ))
 (Al (HX 2 1 (CL 1) (Ao (Bv true) (OE 2 Cb) (Aa (AA By SL))) (Aa (AA Cb (AA (OE 2 Cb) AB))) [none,none,some 1] (A6 (ie (fun δ=>(Ei 1 δ).bind Jf) (Iu AT)))))))
def C5(F0:MD):MD:=A0 ["_law_terms"] ["_law_terms","_law_found","_law_powers_here","_law_worth"] (Kr F0)
def Uz:DF :=
 (AL (Et 1 (AA (AF GW (Aa (AA By AB)) CF) AB))
 (AL (BL (BI HM SB) (Cw 2)
  (AL (AX 3 (AF Ap (AF Ap (AF GW (Aa (AA By AB)) EQ) (Aa SL)) (AF GW (Aa (AA By AB)) (AF Ep (AF Ep CF EQ) AT))))
  (AL (Ed 1 (nm 3))
  (BL (BI Md (AA EQ SB)) (Cw 4)
   (AL (AX 5 (AF Ap (AF Ap (AF GW (Aa (AA By AB)) ON) (Aa SL)) (AF GW (Aa (AA By AB)) (AF Ep (AF Ep CF ON) AT))))
   (Ed 1 (AE Er (AA (CT (CL 1) BW (AF Ap (AF Ak EQ Cb) (AF Ak (nm 3) Cb)) [none,none,some 3,some 5] (BI HM SB)) AB))))))))
 (Gb 1)))
def C9:MD:=A0 ["_law_many"] ["_law_many","_law_found","_law_k","_law_one","_law_j","_law_other"] Uz
def Iq(A4:MD)(l:MD)(C5:MD)(C9:MD):DF :=
 (AL (AX 3 (AF Ap AT (AF Cp (AE A4 (AA CF SC)) EQ)))
 (AL (AX 4 (AE C9 KB))
 (AL (Et 5 AB)
 (AL (BL (BI HM KB) (Cw 6)
  (AL (AX 7 (AE A4 (AA CF (AA (AF Ap (AF Ap Cb AT) (nm 6)) AB))))
  (AL (Et 8 AB)
  (AL (AX 9 (AF Cp (nm 7) (fC (.int 4))))
  (AL (AX 10 (Td (AF (Bv false) (AF Cp (AF Ds (nm 7) (fC (.int 4))) (fC (.int 4))) (fC (.int 3))) (AF (CM fun i j=>decide (i<j)) (nm 3) (fC (.int 3)))))
  (AL (AX 7 (AF Ds (nm 7) (fC (.int 16))))
  (AL (Et 11 AB)
  (AL (BL (BI HM (AA (nm 9) AB)) (Cw 12)
   (AL (Ed 11 (AF Ak ON (AF Cp (nm 7) (AE BS (AA ON AB)))))
   (AX 7 (AF Ds (nm 7) (AE BS (AA ON AB))))))
  (AL (Bp (CU (nm 10))
   (AX 11 ON)
   A2)
  (AL (LB 11 (BL (A6 (nm 11)) (Cw 13)
   (AL (Ed 8 (Aa (AA (nm 13) (AA (AE l (AA (AF Ep (AF Cp (nm 7) (fC (.int 9))) (fC (.int 4))) (AA (AF Ap AT (AF Cp (AF Ds (nm 7) (fC (.int 9))) (fC (.int 3)))) AB))) AB))))
   (AX 7 (AF Ds (nm 7) (fC (.int 27)))))))
  (LB 8 (Ed 5 (AE C5 (AA (nm 8) AB))))))))))))))
 (Gb 5)))))
def EF(A4:MD)(l:MD)(C5:MD)(C9:MD):MD:=A0 ["_law_script","_law_at","_law_most"] ["_law_script","_law_at","_law_most","_law_many","_law_menu","_law_change_here","_law_k","_law_number","_law_terms","_law_count","_law_dense","_law_some","_law_j","_law_powers_here"] (Iq A4 l C5 C9)
def Jl(A4:MD)(l:MD):DF :=
 (AL (AX 3 (AE A4 (AA CF SC)))
 (AL (Et 4 AB)
 (AL (BL (BI HM (AA EQ AB)) (Cw 5)
  (AL (Ed 4 (AE l (AA (AF Ep (AF Cp (nm 3) (fC (.int 7))) (fC (.int 3))) (AA (AF Ap AT (AF Cp (AF Ds (nm 3) (fC (.int 7))) (fC (.int 2)))) AB))))
  (AX 3 (AF Ds (nm 3) (fC (.int 14))))))
 (Gb 4))))
def Ee(A4:MD)(l:MD):MD:=A0 ["_law_script","_law_at","_law_many"] ["_law_script","_law_at","_law_many","_law_number","_law_found","_law_k"] (Jl A4 l)
def YJ:DF :=
 (HK (Bk (CL 1) BW (AE OI SC) [none,none] (A6 CF)))
def GU:RW:=QE ["_law_change_here"] ["_law_change_here"] YJ
def W5(B3:rW)(Dq:rW)(M:AD->Option Bool)(T:AD->Option Bool)(U:AD->Option Bool)(I:AD->Option Bool)(l:AD->Option Bool):DF :=
 (AL (AX 4 (fC .none))
 (AL (VO 5
  (Nu (Zb (CU (nm 3))
  (Nu (OC Dq (AA CF (AA Cb (AA EQ AB))))
   MT)
  (Nu (OC B3 (AA CF (AA EQ AB)))
   MT))
  MT)
  (AX 4 (nm 5)))
 (AL (Bp (Ao (tH false) ON (fC .none))
  (Al (BG AB))
  A2)
 (AL (AX 6 (BG (AA (TC M ON) (AA (TC T ON) (AA (TC I ON) AB)))))
 (Al (AF Ap (nm 6) (BG (AA (TC U ON) (AA (TC l ON) AB)))))))))
def CI(B3:rW)(Dq:rW)(M:AD->Option Bool)(T:AD->Option Bool)(U:AD->Option Bool)(I:AD->Option Bool)(l:AD->Option Bool):MD:=A0 ["_law_change_here","_law_start_here","_law_weighing","_law_whole"] ["_law_change_here","_law_start_here","_law_weighing","_law_whole","_law_kept","e","_law_kinds_here"] (W5 B3 Dq M T U I l)
def JG(l:RW):DF :=
 (AL (AX 2 (AE BS SB))
 (AL (uh 3 l SB)
 (AL (AX 4 (AF Cp (AF Ds Cb (fC (.int 16))) EQ))
 (AL (AX 5 (AF GW (Aa (AA By AB)) EQ))
 (AL (AX 6 (Aa (AA (nm 5) (AA (Aa (AA AT (AA (fC (.int 2)) AB))) AB))))
 (AL (AX 7 (BG (AA (Aa (AA (AF Ap (nm 5) (Aa (AA By AB))) (AA (Aa (AA AT (AA (fC (.int 2)) AB))) AB))) (AA (Aa (AA (CG (nm 5) (Be AT) Bd) (AA (Aa (AA AT (AA (fC (.int 2)) AB))) AB))) (AA (Aa (AA (nm 5) (AA (Aa (AA (fC (.int 2)) (AA (fC (.int 4)) AB))) AB))) (AA (Aa (AA (nm 5) (AA (Aa (AA By SL)) AB))) (AA (Aa (AA (nm 5) SL)) (AA (Aa (AA (nm 5) AB)) AB))))))))
 (AL (AX 7 (AF Ap (nm 7) (BG (AA (Aa (AA (AF Ap (Aa (AA (Iu AT) AB)) (CG (nm 5) (Be AT) Bd)) (AA (Aa (AA AT (AA (fC (.int 2)) AB))) AB))) (AA (Aa (AA (AF Ap (Aa (AA (fC Iz) AB)) (CG (nm 5) (Be AT) Bd)) (AA (Aa (AA AT (AA (fC (.int 2)) AB))) AB))) (AA (Aa (AA (AE OI (AA (nm 5) AB)) (AA (Aa (AA AT (AA (fC (.int 2)) AB))) AB))) (AA (fC .none) AB)))))))
 (AL (AX 8 (AF Cp Cb (fC (.int 16))))
 (AL (Bp (Ao (CM fun i j=>decide (i<j)) (nm 8) (fC (.int 10)))
  (MV 3 (BG (AA (AF Ak (nm 7) (nm 8)) AB)) ON)
  A2)
 (AL (Bp (Ao (Bv false) (nm 8) (fC (.int 10)))
  (MV 3 (BG (AA (nm 6) (AA (nm 6) AB))) ON)
  A2)
 (AL (Bp (Ao (Bv false) (nm 8) (fC (.int 11)))
  (MV 3 (BG (AA (nm 6) (AA (Aa (AA (AF Ap (Aa SL) (CG (nm 5) (Be AT) Bd)) (AA (Aa (AA AT SL)) AB))) AB))) ON)
  A2)
 (AL (Bp (Ao (Bv false) (nm 8) (fC (.int 12)))
  (Ed 3 (BG AB))
  A2)
 (AL (Bp (Ao (Bv false) (nm 8) (fC (.int 13)))
  (MV 3 (Aa (AA (nm 6) AB)) ON)
  A2)
 (AL (Bp (Ao (Bv false) (nm 8) (fC (.int 14)))
  (LB 3 (Al (AE Er KB)))
  A2)
 (AL (Bp (Ao (Bv false) (nm 8) (fC (.int 15)))
  (Al (AF Ak (BG (AA (BG AB) (AA (fC .none) (AA By (AA (fC (.str (Str.ofString "x"))) AB))))) (AF Cp (AF Ds Cb (fC (.int 16))) (fC (.int 4)))))
  A2)
 (Gb 3))))))))))))))))
def Ci(l:RW):MD:=A0 ["_law_change_here","_law_cell_here"] ["_law_change_here","_law_cell_here","_law_many","_law_some","_law_at","_law_nought","_law_term","_law_odd","_law_way"] (JG l)
def lz(Ci:MD)(A4:MD)(EF:MD)(CI:MD)(Ee:MD):DF :=
 (AL (AX 1 (AE EF (AA CF (AA By (AA (fC (.int 3)) AB)))))
 (AL (AX 2 (AE Ee (AA CF (AA (fC (.int 4)) (AA (AE BS SC) AB)))))
 (AL (AX 3 (AE A4 (AA CF (AA (fC (.int 5)) AB))))
 (AL (AX 4 (AE Ci (AA Cb KB)))
 (AL (Et 5 (AA (AF Ap EQ (BG (AA (Aa (AA By SL)) AB))) (AA (CG EQ Bd (Be (Iu AT))) (AA (AE Er (AA EQ AB)) (AA (fC .none) (AA (AF Ap (CG EQ Bd (Be (Iu AT))) (BG (AA (Aa (AA (fC (.int 2)) (AA (fC (.int 4)) AB))) AB))) (AA (AF Ap (CG EQ Bd (Be (Iu AT))) (BG SL)) AB)))))))
 (AL (Ed 5 (AF Ap (CG EQ Bd (Be (Iu AT))) (BG (AA (Aa (AA AT (AA By AB))) AB))))
 (AL (AX 6 (gJ 5 (AF Cp (AF Ds (nm 3) (fC (.int 64))) (fC (.int 7)))))
 (AL (Bp (Ao (Bv false) (AF Cp (nm 3) (fC (.int 16))) (fC (.int 12)))
  (AX 4 (AF Ap Cb (BG (AA (BG (AA (Aa (AA (AF GW (Aa (AA By AB)) (AE BS SC)) (AA (Aa (AA AT SL)) AB))) AB)) AB))))
  A2)
 (AL (Bp (Ao (Bv true) (AE CI (AA ON (AA (nm 6) (AA (AF BJ (BG (AA (Aa (AA By SL)) AB)) (fC (.int 3))) (AA (fC Iz) AB))))) (BG (AA (fC Iz) (AA Da (AA Da (AA Da (AA (fC Iz) AB)))))))
  (Al Da)
  A2)
 (AL (Bp (Ao (Bv true) (AE CI (AA ON (AA EQ (AA (AF BJ (BG (AA (Aa (AA By SL)) AB)) (fC (.int 3))) (AA Da AB))))) (BG (AA (fC Iz) (AA Da (AA Da (AA Da (AA (fC Iz) AB)))))))
  (Al Da)
  A2)
 (AL (Bp (Ao (Bv true) (AE CI (AA Cb (AA (nm 6) (AA (AF BJ (BG (AA (Aa (AA By SL)) AB)) (fC (.int 3))) (AA (fC Iz) AB))))) (BG (AA Da (AA (fC Iz) (AA Da (AA Da (AA (fC Iz) AB)))))))
  (Al Da)
  A2)
 (AL (BL (A6 (BG (AA (fC Iz) (AA Da AB)))) (Cw 7)
  (AL (Bp (Ao (Bv true) (AE CI (AA Cb (AA EQ (AA (AF BJ (BG (AA (Aa (AA By SL)) AB)) (fC (.int 3))) (AA (nm 7) AB))))) (BG (AA Da (AA Da (AA (fC Iz) (AA Da (AA (fC Iz) AB)))))))
   (Al Da)
   A2)
  (Bp (Ao (Bv true) (AE CI (AA Cb (AA EQ (AA (AF BJ (BG (AA (Aa (AA AT (AA (fC (.int 2)) AB))) AB)) (fC (.int 4))) (AA (nm 7) AB))))) (BG AB))
   (Al Da)
   A2)))
 (Al (fC Iz))))))))))))))
def mI(Ci:MD)(A4:MD)(EF:MD)(CI:MD)(Ee:MD):MD:=A0 ["_law_script"] ["_law_script","_law_change_here","_law_start_here","_law_cell_here","_law_bad","_law_odd","_law_late","_law_whole"] (lz Ci A4 EF CI Ee)
end
def cK:PD->Bool
 |.int i=>decide (0<=i)
 |_=>false
def R9(n:Int):PD->Bool
 |.tuple ds=>decide (ds.length=n)&&ds.all cK
 |_=>false
def yl:PD->Int
 |.tuple (.int a::_)=>a
 |_=>0
def IZ(n:Int):PD->Bool
 |.tuple [p,f]=>R9 n p&&(HY f && !decide (yl f=0))
 |_=>false
def intD:PD->Int
 |.int i=>i
 |_=>0
def w5:PD->List Int
 |.tuple ds=>ds.map intD
 |_=>[]
def Yd:PD->List Int
 |.tuple (p::_)=>w5 p
 |_=>[]
def Lf(n:Int)(ds:AAK)(k:Nat):Bool:=match ds[k]? with
 |some d=>IZ n d&&(decide (k=0)||(match ds[k-1]? with
  |some e=>IT.lt (Yd d) (Yd e)
  |none=>true))
 |none=>true
def Ko(n:Int):PD->Bool
 |.list ds=>(List.range ds.length).all (Lf n ds)
 |_=>false
def FI:PD->Bool
 |.list ds=>!decide (ds.length=0)&&ds.all (Ko ds.length)
 |_=>false
def pJ(h:DK d=false):R9 n d=false:=by cases d<;>first|rfl|exact absurd h (by simp[DK])
def kU(h:DK d=false):IZ n d=false:=by cases d<;>first|rfl|exact absurd h (by simp[DK])
def kK(h:Ct d=false):Ko n d=false:=by cases d<;>first|rfl|exact absurd h (by simp[Ct])
def pH(h:Ct d=false):FI d=false:=by cases d<;>first|rfl|exact absurd h (by simp[Ct])
def dW(h:ds.length≠2):IZ n (.tuple ds)=false:=by
 match ds,h with
 |[],_=>rfl
 |[_],_=>rfl
 |[_,_],h=>exact absurd rfl h
 |_::_::_::_,_=>rfl
def Xf(ds:AAK):AAP:=match ds with
 |[.int a,.int b]=>some (.int (FM.gi a b))
 |_=>none
def Z8:PD->PD->Option PD:=fun x y=>match x,y with
 |.tuple ds,.tuple es=>(Gf ds).bind fun ps=>(Gf es).map fun l=>.bool (!IT.lt ps l)
 |_,_=>none
def vG(M:IS):DH X (compareOp .GtE) Z8:=by
 refine⟨_,sM M,fun x y z l G0 H0 G H σ δ ts u v Q R du dv k=>?_⟩;unfold Z8 at l;split at l
 .obtain⟨ps,Y,U⟩:=aA.mp l;obtain⟨I,T,rfl⟩:=aC.mp U;obtain⟨a,xs,rfl,ha,dx⟩:=du;obtain⟨b,ys,rfl,hb,Z⟩:=dv;have:=dx.ints Y;subst this;have:=Z.ints T;subst this;exact⟨a,b,ps,I,rfl,rfl,R.ins _ _ ha,R.ins _ _ hb,k _ _ _ (R.put IF)⟩
 contradiction
section
variable{P:F0b}{w:F0c}{K:Fg}{mg:AAO}{base:Heap}{CX:Jo}{k:Nat}{f:AD}{fd:F0a}{ps:AAT}
def yW(F:Ah P w K mg base CX k f fd ps dD):Ah P w K mg base CX k f fd ps (A1 Xf) :=
 SQ F fun ds x hm G H vs Q E d e l=>by
  unfold Xf at hm;split at hm
  .cases hm;obtain⟨U,T,rfl,M,I⟩:=d.Jg;subst M I;exact⟨_,_,rfl,l _ G H (.refl _) Nw.refl e (.refl _) IF⟩
  contradiction
end
section
def a8:DF :=
 (Al (Td (Ip Ij CF) (sd (Ip HF CF))))
def Cd:MD:=A0 ["thing"] ["thing"] a8
def Ux(l:MD)(Cd:MD):DF :=
 (AL (Bp (Ik (DD (CU (Ip DK CF))) (Ao (Bv true) (AE BS SB) (fC (.int 2))))
  (Al Da)
  A2)
 (AL (Bp (Ik (DD (CU (AE Cd (AA (AF Ak CF By) AB)))) (DD (CU (AE Cd (AA (AF Ak CF AT) AB)))))
  (Al Da)
  A2)
 (Al (Td (AF (CM fun i j=>decide (j<=i)) (AF Ak CF AT) AT) (AF (Bv false) (AE l (AA (AF Ak CF By) (AA (AF Ak CF AT) AB))) AT)))))
def B4(l:MD)(Cd:MD):MD:=A0 ["thing"] ["thing"] (Ux l Cd)
def Q6(B4:MD):DF :=
 (AL (Bp (DD (CU (Ip Ct CF)))
  (Al Da)
  A2)
 (AL (BL (A6 CF) (Cw 1)
  (Bp (DD (CU (AE B4 SC)))
   (Al Da)
   A2))
 (Al (fC Iz))))
def Bf(B4:MD):MD:=A0 ["thing"] ["thing","part"] (Q6 B4)
def Wz(Cd:MD):DF :=
 (AL (Bp (Ik (DD (CU (Ip DK CF))) (Ao (Bv true) (AE BS SB) Cb))
  (Al Da)
  A2)
 (AL (BL (A6 CF) (Cw 2)
  (Bp (Ik (DD (CU (AE Cd (AA EQ AB)))) (Ao (CM fun i j=>decide (i<j)) EQ By))
   (Al Da)
   A2))
 (Al (fC Iz))))
def Eh(Cd:MD):MD:=A0 ["thing","unknowns"] ["thing","unknowns","power"] (Wz Cd)
def dM(Eh:MD)(B4:MD):DF :=
 (AL (Bp (Ik (DD (CU (Ip DK CF))) (Ik (Ao (Bv true) (AE BS SB) (fC (.int 2))) (DD (CU (AE Eh (AA (AF Ak CF By) SC))))))
  (Al Da)
  A2)
 (Al (Td (AE B4 (AA (AF Ak CF AT) AB)) (AF (Bv true) (AF Ak (AF Ak CF AT) By) By))))
def HC(Eh:MD)(B4:MD):MD:=A0 ["thing","unknowns"] ["thing","unknowns"] (dM Eh B4)
def da(HC:MD):DF :=
 (AL (Bp (DD (CU (Ip Ct CF)))
  (Al Da)
  A2)
 (AL (BL (BI Fu SB) (BU 2 3)
  (Bp (Ik (DD (CU (AE HC (AA (nm 3) SC)))) (Nx (Ao Id EQ By) (Ao Z8 (AF Ak (nm 3) By) (AF Ak (AF Ak CF (AF Ep EQ AT)) By))))
   (Al Da)
   A2))
 (Al (fC Iz))))
def Gv(HC:MD):MD:=A0 ["thing","unknowns"] ["thing","unknowns","k","term"] (da HC)
def YM(Gv:MD):DF :=
 (AL (Bp (Ik (DD (CU (Ip Ct CF))) (Ao (Bv false) (AE BS SB) By))
  (Al Da)
  A2)
 (AL (BL (A6 CF) (Cw 1)
  (Bp (DD (CU (AE Gv (AA Cb (AA (AE BS SB) AB)))))
   (Al Da)
   A2))
 (Al (fC Iz))))
def FG(Gv:MD):MD:=A0 ["thing"] ["thing","some"] (YM Gv)
end
def OM x y:Bv true (.int x) (.int y)=some (.bool (!decide (x=y))):=by
 rfl
def RF(e:f δ=some x)(h:x.canLay0=true):Ip q f δ=some (.bool (q x)):=by
 show(f δ).bind _=_;rw[e];cases x<;>first|rfl|simp[PyData.canLay0]at h
def Xg(h:f δ=some (.bool a))(k:a=true->g δ=some (.bool b)):Td f g δ=some (.bool (a&&b)):=by
 show(f δ).bind _=_;rw[h];cases a
 .rfl
 .exact k rfl
def VU{f g:AAG}{δ:Dv}{a b:Bool}(h:f δ=some a)(k:a=false->g δ=some b):Ik f g δ=some (a||b):=by
 show(f δ).bind _=_;rw[h];cases a
 .exact k rfl
 .rfl
def Yu(h:f δ=some a)(k:a=true->g δ=some b):Nx f g δ=some (a&&b):=by
 grind
def u0(h:f δ=some (.bool a)):sd f δ=some (.bool (!a)):=by
 show(f δ).bind _=_;rw[h];rfl
abbrev JK(c:Dv->Option Bool):DF:=Bp c (Al Da) A2
def Sg(h:c δ=some (!b))(k:b=true->F δ=some (.rt (.bool x))):AL (JK c) F δ=some (.rt (.bool (b&&x))):=by
 cases b
 .exact Cq (DR h rfl)
 .exact AN (EI h rfl) (k rfl)
theorem Wl{set}{c}(ok:Nat->Bool)(M:Nat->Dv->Prop):∀xs n δ,M n δ->(∀j,j<n->ok j=true)->(∀i x δ,xs[i]? = some x->M (n+i) δ->(∀j,j<n+i->ok j=true)->∃l,set x δ=some l/\c l=some (!ok (n+i))/\M (n+i+1) l) ->
  ((∃i,i<xs.length/\ok (n+i)=false)/\GL set (JK c) xs δ=some (.rt (.bool false)))\/((∀i,i<xs.length->ok (n+i)=true)/\∃δ',GL set (JK c) xs δ=some (.nx δ'))
 |[],n,δ,_,_,_=>.inr ⟨fun i hi=>absurd hi (bI _),δ,rfl⟩
 |x::xs,n,δ,h,b,k=>by
  obtain⟨l,Z,I,Y⟩:=k 0 x δ rfl h b;rw[Nat.add_zero]at I Y;cases e:ok n with
  |false=>
   rw[e]at I;refine .inl ⟨⟨0,by simp,e⟩,?_⟩;unfold GL;rw[Z,(C8),show JK c l=some _ from DR I rfl]
  |true=>
   rw[e]at I;rw[(show GL set _ _ δ=GL set _ xs l by rw[GL,Z,(C8),show JK c l=some _ from EI I rfl])];have r:∀i,n+1+i=n+OK:=fun i=>by lia
   rcases Wl ok M xs _ l Y (fun j hj=>if z:j=n then z ▸ e else b j AS) (fun i y δ hy U hb=>by
    rw[r]at U hb ⊢;exact k _ y δ hy U hb) with ⟨⟨i,hi,hb⟩,T⟩|⟨T,h6⟩
   .exact .inl ⟨⟨i+1,Nat.succ_lt_succ hi,by rw[<-r];exact hb⟩,T⟩
   .refine .inr ⟨fun i hi=>?_,h6⟩;cases i with
    |zero=>exact e
    |succ i=>rw[<-r];exact T i (Nat.lt_of_succ_lt_succ hi)
def ZV{set} ok (I:Nat->Dv->Prop) (Z:fs δ=some xs) (h0:I 0 δ) (U:∀i x δ,xs[i]? = some x->I i δ->(∀j,j<i->ok j=true)->∃l,set x δ=some l/\c l=some (!ok i)/\I OK l):AL (BL fs set (JK c)) (Al (fC Iz)) δ=some (.rt (.bool ((List.range xs.length).all ok))):=by
 have e:BL fs set (JK c) δ=GL set (JK c) xs δ:=by grind
 rcases Wl ok I xs 0 δ h0 (fun j hj=>by contradiction) (fun i x δ hi M hb=>by rw[Nat.zero_add]at M hb ⊢;exact U i x δ hi M hb) with ⟨⟨i,hi,hb⟩,T⟩|⟨T,δ',Y⟩
 .rw[show(List.range xs.length).all ok=false from bH.mpr fun z=>by
   grind]
  exact Cq (e.trans T)
 .rw[List.all_eq_true.mpr fun i hi=>by grind];exact AN (e.trans Y) rfl
def range_all q (ds:AAK):((List.range ds.length).all fun i=>(ds[i]?).all q)=ds.all q:=by
 refine Bool.eq_iff_iff.mpr ⟨fun h=>av.mpr fun d hd=>?_,fun h=>av.mpr fun i hi=>?_⟩
 .obtain⟨i,hi⟩:=bT hd;have:=av.mp h i (bL.mpr (aD.mp hi).1)
  simp_all
 simp_all
def Pg q (T:fs δ=some xs) (M:∀x∈xs,∀l ,c (δ.set I l |>.set I (.d x))=some (!q x)):AL (BL fs (Cw I) (JK c)) (Al (fC Iz)) δ=some (.rt (.bool (xs.all q))):=by
 refine(ZV _ (fun _ δ'=>∃l ,δ'=δ.set I l\/δ'=δ) T ⟨.no,.inr rfl⟩ fun i x δ' hi U _=>?_).trans (by rw[range_all]);rw[hi];rcases U with ⟨l,rfl|rfl⟩
 .exact⟨_,rfl,M x (aJ hi) l,.d x,.inl (List.set_set ..)⟩
 .exact⟨_,rfl,by have:=M x (aJ hi) (.d x);simp_all,.d x,.inl rfl⟩
abbrev Hc(d:PD):Bool:=Ij d && !HF d
abbrev fi:MD:=Cd
def cV(h:d.canLay0=true):fi [d]=some (.bool (Hc d)):=BC rfl (CN (Xg (RF rfl h) fun _=>u0 (RF rfl h)))
abbrev u6:MD:=B4 Xf fi
def RS{ds:AAK}(h:f δ=some (.int ds.length))(k:g δ=some (.int n)):Ao (Bv true) f g δ=some (!decide ((ds.length:Int)=n)):=Bu h k (OM _ _)
def Li(e:f δ=some d)(h:d.canLay0=true):DD (CU (Ip DK f)) δ=some (!DK d):=C3 (C7 (RF e h))
def Le(e:f δ=some d)(h:d.canLay0=true):DD (CU (Ip Ct f)) δ=some (!Ct d):=C3 (C7 (RF e h))
def LX(h:(PyData.tuple ds).canLay0=true):∀d∈ds,d.canLay0=true:=Rr (by simpa only[PyData.canLay0]using h)
def R6(h:(PyData.list ds).canLay0=true):∀d∈ds,d.canLay0=true:=Rr (by simpa only[PyData.canLay0]using h)
def lx(h:d.canLay0=true):u6 [d]=some (.bool (HY d)):=by
 refine BC rfl ?_;by_cases M:DK d=true
 case neg=>
  rw[show HY d=false by cases d<;>first|rfl|exact absurd rfl M];exact Cq (DR (Og ((Li rfl h).trans (by rw[(R8)]at M;rw[M];rfl))) rfl)
 obtain⟨ds,rfl⟩:=Pr M;have a1:=Li (f:=nm 0) (δ:=[.d (.tuple ds)]) rfl h;by_cases T:ds.length=2
 case neg=>
  rw[Ve (.inl T)];exact Cq (DR (Ka a1 ((RS rfl rfl).trans (by rw[decide_eq_false AS];rfl))) rfl)
 obtain⟨I,l,rfl⟩:∃I l,ds=[I,l]:=by
  match ds,T with
  |[a,b],_=>exact⟨a,b,rfl⟩
 refine AN (EI (Ka a1 (RS (ds:=[I,l]) (n:=2) rfl rfl)) rfl) ?_;have o:=VU (show DD (CU (AE fi (AA (AF Ak CF By) AB))) [.d (.tuple [I,l])]=some (!Hc I) from C3 (C7 (AJ rfl (cV (LX h I Ch))))) fun _=>(show DD (CU (AE fi (AA (AF Ak CF AT) AB))) [.d (.tuple [I,l])]=some (!Hc l) from C3 (C7 (AJ rfl (cV (LX h l (.tail _ Ch))))));by_cases w:Hc I=true/\Hc l=true
 .obtain⟨i,rfl⟩:=Nv w.1;obtain⟨j,rfl⟩:=Nv w.2;exact AN (EI o rfl) (CN (Xg (AQ rfl rfl rfl) fun _=>AQ rfl rfl (IB _ _)))
 .have:Hc I=false\/Hc l=false:=by
   cases h0:Hc I<;>cases U:Hc l<;>simp_all
  rw[Ve (.inr ⟨I,l,rfl,this⟩)];refine Cq (DR (o.trans ?_) rfl);rcases this with e|e<;>rw[e]<;>simp
abbrev eC:MD:=Bf u6
def xW(h:d.canLay0=true):eC [d]=some (.bool (Ih d)):=by
 refine BC rfl ?_;by_cases I:Ct d=true
 case neg=>
  rw[(R8)]at I;rw[dz I];exact Cq (DR ((Le rfl h).trans AS) rfl)
 obtain⟨ds,rfl⟩:=QI I;exact AN (EI (Le rfl h) rfl) (Pg HY rfl fun x M l=>C3 (C7 (AJ rfl (lx (R6 h x M)))))
abbrev yH:MD:=Eh fi
def v8(h:d.canLay0=true):yH [d,.int n]=some (.bool (R9 n d)):=by
 refine BC rfl ?_;by_cases I:DK d=true
 case neg=>
  rw[(R8)]at I;rw[pJ I];exact Cq (DR (Og ((Li rfl h).trans (by rw[I];rfl))) rfl)
 obtain⟨ds,rfl⟩:=Pr I;refine Sg ((VU (Li rfl h) fun _=>rfl).trans rfl) fun _=>Pg cK rfl fun x M l=>(VU (C3 (C7 (AJ rfl (cV (LX h x M))))) (b:=!cK x) fun e=>?_).trans ?_
 .obtain⟨i,rfl⟩:=Nv (by simpa using e);show some (decide _)=some (!decide _);by_cases z:i<0
  .grind
  grind
 .cases x<;>rfl
abbrev sC:MD:=HC yH u6
def wC{n}(h:d.canLay0=true):sC [d,.int n]=some (.bool (IZ n d)):=by
 refine BC rfl ?_;by_cases l:DK d=true
 case neg=>
  rw[(R8)]at l;rw[kU l];exact Cq (DR (Og ((Li rfl h).trans (by rw[l];rfl))) rfl)
 obtain⟨ds,rfl⟩:=Pr l;have a1:=Li (f:=nm 0) (δ:=[.d (.tuple ds),.d (.int n)]) rfl h;by_cases I:ds.length=2
 case neg=>
  rw[dW I];exact Cq (DR (Ka a1 (Og ((RS rfl rfl).trans (by rw[decide_eq_false AS];rfl)))) rfl)
 obtain⟨p,f,rfl⟩:∃p f,ds=[p,f]:=by
  match ds,I with
  |[a,b],_=>exact⟨a,b,rfl⟩
 refine Sg (Ka a1 (Ka (RS (ds:=[p,f]) (n:=2) rfl rfl) (C3 (C7 (AJ rfl (v8 (LX h p Ch))))))) fun _=>CN (Xg (AJ rfl (lx (LX h f (.tail _ Ch)))) fun e=>?_);obtain⟨i,j,rfl⟩:∃i j,f=.tuple [.int i,.int j]:=by
  unfold HY at e;split at e
  .exact⟨_,_,rfl⟩
  .cases e
 exact AQ rfl rfl (OM _ _)
def yh(h:xs[i]? = some x):FX xs ((i:Nat))=some x:=by
 have l:=(aD.mp h).1;unfold FX QZ
 simp_all
abbrev yL:MD:=Gv sC
def Yz(h:IZ n d=true):∃ps f,d=.tuple [.tuple ps,f]/\Gf ps=some (Yd d):=by
 unfold IZ at h;split at h
 .rename_i p f;rw[(HG)]at h;have k:=h.1;unfold R9 at k;split at k
  .rename_i ps;refine⟨ps,f,rfl,?_⟩;rw[(HG)]at k;have a:=av.mp k.2;clear k h
   induction ps with
   |nil=>rfl
   |cons x ps l=>
    have:=a x Ch;cases x with
    |int i=>unfold Gf;rw[l fun y I=>a y (.tail _ I)];rfl
    |_=>cases this
  .cases k
 .cases h
def wb{d}{n:Int}(h:d.canLay0=true):yL [d,.int n]=some (.bool (Ko n d)):=by
 refine BC rfl ?_;by_cases l:Ct d=true
 case neg=>
  rw[(R8)]at l;rw[kK l];exact Cq (DR ((Le rfl h).trans (by rw[l];rfl)) rfl)
 obtain⟨ds,rfl⟩:=QI l;refine AN (EI (Le rfl h) rfl) ((ZV (Lf n ds) (fun _ δ=>∃k t:L,δ=[.d (.list ds),.d (.int n),k,t]) rfl ⟨_,_,rfl⟩ fun i x δ hi Y hb=>?_).trans (by rw[show(DM ds).length=ds.length by simp[DM]];rfl));obtain⟨k,t,rfl⟩:=Y;obtain⟨y,I,rfl⟩:=Ia hi;refine⟨_,rfl,?_,_,_,rfl⟩;have o:∀b:Bool,(IZ n y=true->Nx (Ao Id EQ By) (Ao Z8 (AF Ak (nm 3) By) (AF Ak (AF Ak CF (AF Ep EQ AT)) By)) [.d (.list ds),.d (.int n),.d (.int (i:Nat)),.d y]=some b)->Ik (DD (CU (AE sC (AA (nm 3) SC)))) _ [.d (.list ds),.d (.int n),.d (.int (i:Nat)),.d y]=some (!IZ n y||b):=fun b hb=>VU (C3 (C7 (AJ rfl (wC (R6 h y (aJ I)))))) fun e=>hb (by simpa using e);cases i with
 |zero=>
  refine(o false fun _=>(Yu (a:=false) (b:=false) rfl fun e=>nomatch e)).trans ?_;unfold Lf;rw[I];simp
 |succ i=>
  have M:=hb i (bK _);unfold Lf at M;obtain⟨e,T⟩:∃e,ds[i]? = some e:=⟨_,List.getElem?_eq_getElem (by have:=(aD.mp I).1;exact aa ‹_›)⟩;rw[T]at M;simp only[Bool.and_eq_true]at M;obtain⟨U,g,rfl,Z⟩:=Yz M.1;refine(o (!IT.lt (Yd y) (Yd (.tuple [.tuple U,g]))) fun l=>?_).trans ?_
  .obtain⟨ps,f,rfl,hp⟩:=Yz l;refine Yu (a:=true) (Bu rfl rfl (by show some (PyData.bool (decide ((0:Int)<((i+1:Nat):Int))))=_;rw[decide_eq_true BY])) fun _=>Bu rfl (AQ (AQ (y:=.int (i:Nat)) rfl (by show some (PyData.int (((i+1:Nat):Int)-1))=_;congr 2;simp) (yh T)) rfl rfl) ?_;show(Gf ps).bind _=_;rw[hp,Z];rfl
  .unfold Lf;rw[I,Nat.add_sub_cancel,T];simp
abbrev fX:MD:=FG yL
def wd(h:d.canLay0=true):fX [d]=some (.bool (FI d)):=by
 refine BC rfl ?_;by_cases I:Ct d=true
 case neg=>
  rw[(R8)]at I;rw[pH I];exact Cq (DR (Og ((Le rfl h).trans AS)) rfl)
 obtain⟨ds,rfl⟩:=QI I;exact Sg (Ka (Le rfl h) ((Bu rfl rfl (IB _ _)).trans BY)) fun _=>Pg _ rfl fun x M l=>C3 (C7 (AJ rfl (wb (R6 h x M))))
def vY(h:d.canLay0=true)(e:FI d=b):fX [d]=some (.bool b):=(wd h).trans (by rw[e])
def jP(h:d.canLay0=true)(e:Ih d=b):eC [d]=some (.bool b):=(xW h).trans (by rw[e])
structure JM(uss:GM)(many:Nat):Prop where
 len:uss.length<=4
 Nh:∀us∈uss,us.length<=12/\∀m∈us,FM.Fits m.2 8/\m.2.den<=6/\m.1.length=many/\(∀p∈m.1,(0:Int)<=p/\p<=3)/\0<=Dk m/\Dk m<=2
def JM.great(h:JM uss many):1<=Cm uss/\Cm uss<=2/\∀us∈uss,∀m∈us,(Dk m).toNat<=Cm uss:=by
 obtain⟨a,b,c⟩:=je AC fun us l m hm=>((h.Nh us l).2 m hm).2.2.2.2.2;unfold Cm
 grind
def JM.Q5(h:JM uss many):1<=CC uss/\(CC uss).natAbs<2^6:=by
 obtain⟨a,b⟩:=mm (bs:=GY uss) fun b hb=>by
  obtain⟨l,M,hb⟩:=List.mem_flatten.mp hb;obtain⟨us,I,rfl⟩:=aI.mp M;obtain⟨m,hm,rfl⟩:=aI.mp hb;have:=m.2.den_nz;have:=((h.Nh us I).2 m hm).2.1
  lia
 exact⟨a,by show(Eu _).natAbs<_;lia⟩
section
def Kj(l:MD):DF :=
 (AL (AX 1 AT)
 (AL (BL (A6 CF) (Cw 2)
  (AX 1 (AF BJ (AF Ds Cb (AE l (AA Cb (AA EQ AB)))) EQ)))
 (Al Cb)))
def Ab(l:MD):MD:=A0 ["bottoms"] ["bottoms","common","bottom"] (Kj l)
def cq(Ab:MD):DF :=
 (Al (AE Ab (AA (CT (CL 1) BW (AF Ak Cb AT) [none,none] (A6 CF)) AB)))
def F6(Ab:MD):MD:=A0 ["start"] ["start"] (cq Ab)
def Kf(Ab:MD):DF :=
 (AL (Et 1 AB)
 (AL (BL (A6 CF) (Cw 2)
  (SW 1 (CT (BU 1 2) BW (AF Ak EQ AT) [none,none,none] (A6 EQ))))
 (LB 1 (Al (AE Ab SC)))))
def Bc(Ab:MD):MD:=A0 ["change"] ["change","bottoms","some"] (Kf Ab)
def Jw:DF :=
 (AL (AX 1 AT)
 (AL (BL (A6 CF) (Cw 2)
  (BL (A6 EQ) (BU 3 4)
   (AX 1 (AE Z4 (AA Cb (AA (AE Ta KB) AB))))))
 (Al Cb)))
def BF:MD:=A0 ["change"] ["change","greatest","some","powers","part"] Jw
def Nm(l:MD):DF :=
 (AL (Et 4 AB)
 (AL (BL (A6 CF) (BU 5 6)
  (AL (AX 7 (AF BJ (AF BJ (AF Ak (nm 6) By) (AF Ds Cb (AF Ak (nm 6) AT))) (AE l (AA EQ (AA (AF Ep (nm 3) (AE Ta (AA (nm 5) AB))) AB)))))
  (Ed 4 (Aa (AA (nm 5) (AA (Aa (AA (nm 7) SL)) AB))))))
 (Gb 4)))
def D0(l:MD):MD:=A0 ["some","bottom","grain","greatest"] ["some","bottom","grain","greatest","terms","powers","part","top"] (Nm l)
def Tf(BF:MD)(Bc:MD)(D0:MD):DF :=
 (AL (AX 2 (AE Bc SB))
 (AL (AX 3 (AE BF SB))
 (HK (Bk (CL 1) BW (AE D0 (AA Cb (AA EQ (AA (nm 3) (AA ON AB))))) [none,none,some 2,some 1,some 3] (A6 CF)))))
def Bl(BF:MD)(Bc:MD)(D0:MD):MD:=A0 ["change","grain"] ["change","grain","bottom","greatest"] (Tf BF Bc D0)
def d7(BF:MD)(l:MD)(Bc:MD):DF :=
 (Al (AF BJ (AE Bc SB) (AE l (AA Cb (AA (AF Ep (AE BF SB) AT) AB)))))
def DY(BF:MD)(l:MD)(Bc:MD):MD:=A0 ["change","grain"] ["change","grain"] (d7 BF l Bc)
end
abbrev AO(uss:GM):PD:=.list (uss.map AG)
def Tx(ds:AAK):AAP:=match ds with
 |[.int b,.int p]=>if b.natAbs<2^20/\0<=p/\p<=10 then some (.int (b^p.toNat)) else none
 |_=>none
abbrev Mw:MD:=Ab Xf
def nW{k:Nat}{bs:AAS}(hb:∀b∈bs,1<=b/\b.natAbs<2^k)(hk:k*bs.length<=4000):Mw [.list (bs.map .int)]=some (.int (Eu bs)):=by
 refine BC rfl ?_;unfold Kj;refine AN rfl (IG (xs:=bs.map .int) (fun i δ=>∃l:L,δ=[.d (.list (bs.map .int)),.d (.int (Eu (bs.take i))),l]) rfl ⟨_,rfl⟩ ?_ ?_)
 .rintro i x δ U ⟨l,rfl⟩;rw[(Ar)]at U;obtain⟨b,I,rfl⟩:=aC.mp U;have hi:i<bs.length:=(aD.mp I).1;obtain⟨b1,b2⟩:=hb b (aJ I);obtain⟨c1,Y,_⟩:=ZL (k:=k) (bs:=bs.take i) fun y Z=>hb y (List.mem_of_mem_take Z);rw[(Ex),Nat.min_eq_left (by exact aa ‹_›)]at Y;have M:k*OK<=4000:=aK (aW k hi) hk;rw[Nat.mul_succ]at M;have hg:=FM.KI (a:=Eu (bs.take i)) (b:=b) AS;have T:=FM.cy (a:=Eu (bs.take i)) (b:=b) AS;refine⟨_,rfl,_,AW (AQ (x:=.int ((Eu (bs.take i)).fdiv (FM.gi (Eu (bs.take i)) b))) (y:=.int b) (AQ (x:=.int (Eu (bs.take i))) rfl rfl ?_) rfl (V7 (n:=4001) ?_ ?_ AC)),.d (.int b),?_⟩
  .refine if_pos ⟨by exact bJ ‹_›,LY (aP T (aE b2 (aM AC AS)))⟩
  .exact aP (L9 c1 b1).2.2.2 (aE Y (aM AC AS))
  .exact aE b2 (aM AC AS)
  .rw[(Ir),I,show(some b).toList=[b] from rfl,iB];rfl
 .rintro δ ⟨l,rfl⟩;rw[OF,(Fm)];rfl
abbrev ma:MD:=F6 Mw
abbrev rN:MD:=Bc Mw
abbrev W9:MD:=Bl BF rN (D0 Tx)
abbrev Xq:MD:=DY BF Tx rN
def uy(rs:AAe):Prop:=rs.length<=3/\∀r∈rs,FM.Fits r 3
def xR(h:uy rs):ma [.list (AH rs)]=some (.int (Au rs)):=by
 refine BC rfl (CN (AJ (AK ?_ rfl) (nW (qg h.2) (by rw[OF];have:=h.1;lia))));show(Bk _ _ _ _ _ _).map _=_;rw[Kc rfl (by have:=h.1;unfold A9;lia) fun r l=>rfl,(BZ)];rfl
def lQ(a:List (List AY)×Int):Prop:=(∃many,JM a.1 many)/\a.2.natAbs<2^6
section
variable{uss:GM}{many:Nat}(o:JM uss many)
include o
theorem nU:rN [AO uss]=some (.int (CC uss)):=by
 refine BC rfl ?_;unfold Kf;have hd:∀i,(GY (uss.take i)).length<=12*i:=fun i=>by
  have:=ic (uss:=uss.take i) fun us I=>(o.Nh us (List.mem_of_mem_take I)).1;rw[(Ex)]at this;exact aK this (aW _ (Nat.min_le_left _ _))
 refine AN rfl (IG (xs:=uss.map AG) (fun i δ=>∃l:L,δ=[.d (AO uss),.own (.lst ((GY (uss.take i)).map .int)),l]) rfl ⟨_,rfl⟩ ?_ ?_)
 .rintro i x δ M ⟨l,rfl⟩;rw[(Ar)]at M;obtain⟨us,I,rfl⟩:=aC.mp M;have hi:i<uss.length:=(aD.mp I).1;have U:=(o.Nh us (aJ I)).1;refine⟨_,rfl,_,fK (zs:=(OY us).map .int) ?_ rfl ?_,.d (AG us),?_⟩
  .show(Bk _ _ _ _ _ _).map _=_;rw[G9 (zs:=us) (a:=fun m=>.tuple (m.1.map .int)) (b:=fun m=>Aq m.2) (g:=fun m=>.int (m.2.den:Int)) rfl (by unfold A9;lia) fun m hm=>rfl];unfold OY;rw[(BZ)];rfl
  .have:=hd i;have:=o.len;unfold OY A9;rw[OF,OF,OF];lia
  .rw[iT I,(DC)];rfl
 .rintro δ ⟨l,rfl⟩;rw[OF,(Fm)];have hb:=jQ (n:=8) (uss:=uss) fun us I=>⟨(o.Nh us I).1,fun m hm=>((o.Nh us I).2 m hm).1⟩;exact CN (AJ (xs:=[.list ((GY uss).map .int)]) rfl (nW (k:=8) hb (by have:=hd uss.length;rw[(Fm)]at this;have:=o.len;lia)))
omit o in
theorem la:BF [AO uss]=some (.int (E4 uss)):=by
 have U:∀l:List Int,Gf (l.map .int)=some l:=fun l=>by
  induction l with
  |nil=>rfl
  |cons x l ih=>rw[(BM)];unfold Gf;rw[ih];rfl
 refine BC rfl ?_;unfold Jw;refine AN rfl (IG (xs:=uss.map AG) (fun i δ=>∃T M I:L,δ=[.d (AO uss),.d (.int ((uss.take i).foldl GK 1)),T,M,I]) rfl ⟨_,_,_,rfl⟩ ?_ ?_)
 .rintro i x δ Z ⟨T,M,I,rfl⟩;rw[(Ar)]at Z;obtain⟨us,hu,rfl⟩:=aC.mp Z;refine⟨_,rfl,?_⟩;refine F8 (xs:=us.map BQ) (fun j δ=>∃M I:L,δ=[.d (AO uss),.d (.int (GK ((uss.take i).foldl GK 1) (us.take j))),.d (AG us),M,I]) rfl ⟨_,_,rfl⟩ ?_ fun δ ⟨M,I,e⟩=>⟨.d (AG us),M,I,?_⟩
  .rintro j y δ Y ⟨M,I,rfl⟩;rw[(Ar)]at Y;obtain⟨m,hm,rfl⟩:=aC.mp Y;refine⟨_,rfl,_,AW (AJ (xs:=[.int (GK ((uss.take i).foldl GK 1) (us.take j)),.int (Dk m)]) (AK rfl (AK (AJ (xs:=[.tuple (m.1.map .int)]) rfl (by show(Gf _).map _=_;rw[U];rfl)) rfl)) rfl),.d (.tuple (m.1.map .int)),.d (Aq m.2),?_⟩;rw[(Ir),hm,show GK ((uss.take i).foldl GK 1) (us.take j++(some m).toList)=_ from List.foldl_append];rfl
  .rw[e,OF,(Fm),(Ir),hu,List.foldl_append];rfl
 .rintro δ ⟨T,M,I,rfl⟩;rw[OF,(Fm)];rfl
theorem xB{us:List AY}{G:Int}(hu:us∈uss)(hG:G.natAbs<2^6):D0 Tx [AG us,.int (CC uss),.int G,.int (E4 uss)]=some (AG (LQ (CC uss) G (Cm uss) us)):=by
 obtain⟨l12,ht⟩:=o.Nh us hu;obtain⟨s1,s2⟩:=o.Q5;obtain⟨g1,g2,g3⟩:=o.great;have ge:E4 uss=(Cm uss:Nat):=by unfold Cm at *;lia
 refine EG rfl ?_;unfold Nm;refine AN rfl (IG (xs:=us.map BQ) (fun i δ=>∃U T M:L,δ=[.d (AG us),.d (.int (CC uss)),.d (.int G),.d (.int (E4 uss)),.own (.lst ((LQ (CC uss) G (Cm uss) (us.take i)).map BQ)),U,T,M]) rfl ⟨_,_,_,rfl⟩ ?_ ?_)
 .rintro i x δ hx ⟨U,T,M,rfl⟩;rw[(Ar)]at hx;obtain⟨m,hm,rfl⟩:=aC.mp hx;have hi:i<us.length:=(aD.mp hm).1;have I:=aJ hm;obtain⟨Z,m2,m3,m4,m5,m6⟩:=ht m I;have gm:=g3 us hu m I;have hd:=m.2.den_nz;have e1:(CC uss).fdiv (m.2.den:Int)=CC uss / (m.2.den:Int):=Int.fdiv_eq_ediv_of_nonneg _ AS;have Y:Gf (m.1.map .int)=some m.1:=by
   generalize m.1=l
   induction l with
   |nil=>rfl
   |cons x l ih=>rw[(BM)];unfold Gf;rw[ih];rfl
  have k1:((CC uss).fdiv (m.2.den:Int)).natAbs<2^6:=aP (FM.C6 _ _) s2;have k2:=FM.Bh Z.1 k1;have hp:E4 uss-Dk m=((Cm uss-(Dk m).toNat:Nat):Int):=by lia
  refine⟨_,rfl,_,AN (AW (AQ (x:=.int (m.2.num*(CC uss).fdiv (m.2.den:Int))) (y:=.int (G^(Cm uss-(Dk m).toNat))) (AQ (x:=.int m.2.num) (y:=.int ((CC uss).fdiv (m.2.den:Int))) rfl (AQ (x:=.int (CC uss)) (y:=.int (m.2.den:Int)) rfl rfl (by rw[e1];exact div_is AS (aP (show((m.2.den:Nat):Int).natAbs<=6 by lia) AC))) (L8 (aE Z.1 AC))) (AJ (xs:=[.int G,.int (E4 uss-Dk m)]) (AK rfl (AK (AQ (x:=.int (E4 uss)) (y:=.int (Dk m)) rfl (AJ (xs:=[.tuple (m.1.map .int)]) rfl (by show(Gf _).map _=_;rw[Y];rfl)) rfl) rfl)) (by rw[hp];exact(if_pos ⟨aE hG AC,by lia,by lia⟩).trans (by rw[(TM)]))) (L8 (aE k2 AC)))) (Hg (y:=BQ (gX (CC uss) G (Cm uss) m)) ?_ rfl ?_),.d (.tuple (m.1.map .int)),.d (Aq m.2),.d (.int (m.2.num*(CC uss).fdiv (m.2.den:Int)*G^(Cm uss-(Dk m).toNat))),?_⟩
  .refine Dg (xs:=[.tuple (m.1.map .int),.tuple [.int (m.2.num*(CC uss).fdiv (m.2.den:Int)*G^(Cm uss-(Dk m).toNat)),.int 1]]) (AK rfl (AK (Dg (AK rfl (AK rfl rfl)) (show 2<=1000 by decide)) rfl)) (show 2<=1000 by decide)
  .unfold LQ A9;rw[OF,OF,(Ex)];lia
  .rw[(Ir),hm];unfold LQ;rw[(DC),(DC)];rfl
 .rintro δ ⟨U,T,M,rfl⟩;rw[OF,(Fm)];rfl
end
def ly(h:lQ (uss,G)):W9 [AO uss,.int G]=some (AO (Cv G uss)):=by
 obtain⟨⟨many,(o:JM uss many)⟩,(I:G.natAbs<2^6)⟩:=h;refine EG rfl (AN (AW (AJ rfl (nU o))) (AN (AW (AJ rfl la)) ?_));show(Bk _ _ _ _ _ _).map _=_;rw[Kc rfl (by have:=o.len;exact aK ‹_› AC) fun us l=>AJ rfl (xB o l I)];unfold Cv;rw[(BZ)];rfl
def l0(h:lQ (uss,G)):Xq [AO uss,.int G]=some (.int (Bx uss G)):=by
 obtain⟨⟨many,(o:JM uss many)⟩,(l:G.natAbs<2^6)⟩:=h;obtain⟨s1,s2⟩:=o.Q5;obtain⟨T,M,I⟩:=o.great;refine BC rfl (CN (AQ (AJ rfl (nU o)) (AJ (AK rfl (AK (AQ (AJ rfl la) rfl rfl) rfl)) ?_) (L8 (aE s2 AC))));rw[(show E4 uss-1=((Cm uss-1:Nat)) by unfold Cm at *;lia)];exact(if_pos ⟨aE l AC,Int.natCast_nonneg _,by lia⟩).trans IF
def cU(a:List (List AY)×Tr×(Tr->List PD)):Prop:=nh Bo (Oq 3) (a.1.map AG) (fun t=>.list (a.2.2 t)) a.2.2/\a.2.1∈Bo/\∃V:List _,a.2.2 a.2.1=V.map AG/\V.length=a.1.length/\∀us∈V,PB a.1.length 5 4000 56 us
def wU(Dm:AAg)(B:Tr->PD)(Γ:Hp)(d:AD)(o:HO):Prop:=∃r ,o=dN d r/\(r.map Fk).Nodup/\∀q∈r,∃t ,q.1=some t/\t∈Dm/\Tv Γ t q.2.1/\Du Γ (B t) q.2.2
def ER(Dm:AAg)(B:Tr->PD):D6:=⟨wU Dm B,fun {_ _ _ _} e h=>let⟨r,T,M,I⟩:=h;⟨r,T,M,fun q l=>let⟨t,a,b,c,x⟩:=I q l;⟨t,a,b,c.same e,x.same e⟩⟩,fun {_ _ _} h=>let⟨_,h,_⟩:=h;eo h.symm⟩
def eK G a:(ER Dm B).ok G a (dN a []):=⟨[],rfl,List.nodup_nil,fun q l=>nomatch l⟩
open Classical in
noncomputable def Sm{α:Type}(hand:α->List PD)(gh:α->D6)(ok:α->Prop)(tell:α->PD)(ds:AAK)(g:D6):AAP:=if h:∃b,ds=hand b/\g=gh b/\ok b then some (tell (choose h)) else none
def Xe{a:α}(h:ok a):∃b,hand a=hand b/\gh a=gh b/\ok b/\Sm hand gh ok tell (hand a) (gh a)=some (tell b):=by
 have e:∃b,hand a=hand b/\gh a=gh b/\ok b:=⟨a,rfl,rfl,h⟩;unfold Sm;rw[dif_pos e];exact⟨_,(ah e).1,(ah e).2.1,(ah e).2.2,rfl⟩
abbrev Mv:List PD->D6->Option PD:=Sm (fun a=>[AO a.1,tD a.2.1]) (fun a=>ER Bo fun t=>.list (a.2.2 t)) cU fun a=>.list (a.2.2 a.2.1)
def b9(a:List (List AY)×Tr×AAS×(Tr->List PD)×(Tr->List PD)):Prop:=mD Bo gM UP (a.1.map AG) (.list (AH (CK a.2.2.1))) a.2.2.2.1 a.2.2.2.2/\a.2.1∈Bo/\∃rs ,a.2.2.2.2 a.2.1=AH rs
abbrev Ow:List PD->D6->Option PD:=Sm (fun a=>[AO a.1,tD a.2.1,.list (AH (CK a.2.2.1))]) (fun a=>ER Bo (pD a.2.2.2.1)) b9 fun a=>.list (a.2.2.2.2 a.2.1)
def yE(h:t∈Bo):FH (tD t)=some t/\t.deep<3:=by
 rcases Lw h with rfl|rfl|rfl|rfl|rfl<;>exact⟨by rfl,by decide⟩
section
variable{P:F0b}{w:F0c}{K:Fg}{mg:AAO}{base:Heap}{CX:Jo}{k:Nat}{f:AD}{fd:F0a}{ps:AAT}
def zM(F:∀a,cU a->Ah P w K mg base CX k f fd ps (gI Bo (fun t=>.list (a.2.2 t)) (a.1.map AG) 3)):Ah P w K mg base CX k f fd ps (XI Mv) :=
 (Zk (ι:={a // cU a}) fun i=>F i.1 i.2).imp fun vs H Q E ⟨ds,x,G,d,us,g,o,hv,hm,du,e,hd,hg,hG,M⟩=>by
  unfold Mv Sm at hm;split at hm
  .rename_i T;cases hm;have c:=ah T;generalize Classical.choose T=a at c M;refine⟨⟨a,c.2.2⟩,?_⟩;rw[c.1]at du;rw[c.2.1]at hg M;obtain⟨r,rfl,nd,al⟩:=hg;obtain⟨Y,U,rfl,d1,d2⟩:=du.Jg;obtain⟨t1,t2⟩:=yE c.2.2.2.1;exact⟨Y,U,a.2.1,d,r,G,hv,d1,VI t1 d2,c.2.2.2.1,t2,⟨hd,nd,al,hG,e⟩,fun I H' r' Z s n b l dv=>M Z I H' _ s n l.sm (fun q u z=>by
    by_cases k:q=d
    .subst k;rw[Gz]at z;cases z
    .rw[Cf k]at z;exact b _ _ k z) l.at_ ⟨r',rfl,l.nd,l.all⟩ l.out dv⟩
  .cases hm
def ye(F:∀a,b9 a->Ah P w K mg base CX k f fd ps (se Bo a.2.2.2.1 a.2.2.2.2 (a.1.map AG) (.list (AH (CK a.2.2.1))) 3)):Ah P w K mg base CX k f fd ps (XI Ow) :=
 (Zk (ι:={a // b9 a}) fun i=>F i.1 i.2).imp fun vs H Q E ⟨ds,x,G,d,us,g,o,hv,hm,du,e,hd,hg,hG,M⟩=>by
  unfold Ow Sm at hm;split at hm
  .rename_i T;cases hm;have c:=ah T;generalize Classical.choose T=a at c M;refine⟨⟨a,c.2.2⟩,?_⟩;rw[c.1]at du;rw[c.2.1]at hg M;obtain⟨r,rfl,nd,al⟩:=hg;obtain⟨Z,r1,rfl,d1,du⟩:=du.un;obtain⟨Y,U,rfl,d2,d3⟩:=du.Jg;obtain⟨t1,t2⟩:=yE c.2.2.2.1;exact⟨Z,Y,U,a.2.1,d,r,G,hv,d1,VI t1 d2,d3,c.2.2.2.1,t2,⟨hd,nd,al,hG,e⟩,fun I H' r' v' s n b l dv=>M v' I H' _ s n l.sm (fun q u z=>by
    by_cases k:q=d
    .subst k;rw[Gz]at z;cases z
    .rw[Cf k]at z;exact b _ _ k z) l.at_ ⟨r',rfl,l.nd,l.all⟩ l.out dv⟩
  .cases hm
def yX(F:Ah P w K mg base CX k f fd ps cm):Ah P w K mg base CX k f fd ps (A1 Tx) :=
 SQ F fun ds x hm G H vs Q E d e l=>by
  unfold Tx at hm;split at hm
  .split at hm
   .rename_i I;cases hm;obtain⟨Y,U,rfl,T,M⟩:=d.Jg;subst T M;rename_i b p;refine⟨b,p.toNat,20,?_,I.1,by lia,l _ G H (.refl _) Nw.refl e (.refl _) IF⟩
    grind
   lia
  lia
end
def Rq{α:Type}{zs:List α}{a g}(I:fs δ=some (zs.map a))(M:zs.length<=A9)(h:∀z∈zs,f ((BK fr δ).set ix (.d (a z)))=some (g z)):Bk (CL ix) BW f fr fs δ=some (zs.map g):=by
 rw[gV (g:=fun x=>(f ((BK fr δ).set ix _)).getD .none) I Rs fun x I=>?_,(BZ)]
 .exact af some (ai fun z l=>by show(f _).getD _=_;rw[h z l];rfl)
 .obtain⟨z,l,rfl⟩:=aI.mp I;rw[h z l];rfl
structure Gd(uss:GM)(rs:List Rat)(n:Nat):Prop where
 chg:JM uss n
 n1:1<=n
 n3:n<=3
 ul:uss.length=n
 rl:rs.length=n
 rf:∀r∈rs,FM.Fits r 3/\r.den<=6
 good:FI (AO uss)=true
def yB{G:Int}(h:G.natAbs<2^a)(ha:1<=a):∀ {p},p<=b->(G^p).natAbs<2^(a*b+1):=fun {p} l=>by
 rw[Int.natAbs_pow];refine aP (Nat.pow_le_pow_left (aa h) p) ?_;rw[<-Nat.pow_mul];exact Nat.pow_lt_pow_right AC (Nat.lt_succ_of_le (aW a l))
section
variable{uss:GM}{rs:AAe}{n:Nat}(g:Gd uss rs n)
include g
theorem Gd.whole(Z:G.natAbs<2^6):(Cv G uss).length=n/\∀us∈Cv G uss,PB n 2 27 12 us:=by
 obtain⟨b1,b2⟩:=g.chg.Q5;obtain⟨g1,g2,g3⟩:=g.chg.great;refine⟨by unfold Cv;rw[OF];exact g.ul,fun us T=>?_⟩;obtain⟨vs,M,rfl⟩:=aI.mp T;obtain⟨l,U⟩:=g.chg.Nh vs M;refine⟨fun m hm=>?_,by unfold LQ;rw[OF];exact l⟩;obtain⟨m,I,rfl⟩:=aI.mp hm;obtain⟨c1,c2,c3,c4,c5,c6⟩:=U m I;refine⟨⟨c3,fun p Y=>(c4 p Y).1,?_⟩,Rat.den_intCast _,?_⟩
 .exact c6
 .exact FM.Fv (FM.Bh (FM.Bh c1.1 (aP (FM.C6 _ _) b2)) (show(G^(Cm uss-(Dk m).toNat)).natAbs<2^(6*2+1) from yB Z AC AS)) AC
theorem Gd.vO(I:1<=G)(l:G.natAbs<2^6):1<=Bx uss G/\(Bx uss G).natAbs<2^13:=by
 obtain⟨b1,b2⟩:=g.chg.Q5;obtain⟨U,T,M⟩:=g.chg.great;refine⟨?_,?_⟩
 .exact(bY AS (Int.pow_pos AS))
 .exact FM.Bh b2 (yB (b:=1) l AC AS)
theorem Gd.xi:1<=Au rs/\(Au rs).natAbs<2^6:=by
 obtain⟨a,b⟩:=mm (bs:=rs.map fun r=>r.den) fun b hb=>by
  obtain⟨r,l,rfl⟩:=aI.mp hb;have:=r.den_nz;have:=(g.rf r l).2
  lia
 exact⟨a,by show(Eu _).natAbs<_;lia⟩
theorem Gd.wc(l:G.natAbs<2^6):lQ (uss,G):=⟨⟨n,g.chg⟩,l⟩
end
def IA(rs:AAe)(G:Int):AAS:=rs.map fun r=>r.num*(G / r.den)
section
variable{uss:GM}{rs:AAe}{n:Nat}(g:Gd uss rs n)
include g
theorem Gd.yV G:Ae [.list (AH rs),.int G]=some (.list ((IA rs G).map .int)):=by
 refine EG rfl ?_;have:=Rq (ix:=1) (δ:=[.d (.list _),.d (.int G)]) (fs:=A6 CF) (fr:=[none,none,some 1]) (f:=(AF BJ (AF Ak Cb By) (AF Ds EQ (AF Ak Cb AT)))) (a:=Aq) (g:=fun r=>.int (r.num*(G / r.den))) rfl (by have:=g.rl;have:=g.n3;show rs.length<=1000;lia) (fun r l=>?_)
 .exact(af _ this).trans (by unfold IA;rw[(BZ)];rfl)
 .obtain⟨f1,f2⟩:=g.rf r l;have hd:=r.den_nz;exact AQ rfl (AQ rfl rfl (div_is AS (aP (show(_:Int).natAbs<=6 by lia) AC))) (L8 (aE f1.1 AC))
theorem Gd.start G:CJ Ae [.list (AH rs),.int G]=some (.list (AH (CK (IA rs G)))):=by
 refine EG rfl ?_;have:=Rq (ix:=1) (δ:=[.d Kb,.d (.int G)]) (fs:=A6 (AE Ae (AA CF SC))) (fr:=[none,none]) (f:=(Aa (AA Cb SL))) (zs:=IA rs G) (a:=.int) (g:=fun t=>Aq t) ?_ (by have:=g.rl;have:=g.n3;unfold IA;rw[OF];show rs.length<=1000;lia) (fun t M=>?_)
 .exact(af _ this).trans (by unfold CK AH;rw[(BZ)];rfl)
 .show(AE Ae _ _).bind _=_;rw[AJ rfl (g.yV G)];rfl
 rfl
theorem Gd.zk(T:1<=G)(M:G.natAbs<2^6):∀t∈IA rs G,t.natAbs<2^9:=fun t l=>by
 obtain⟨r,I,rfl⟩:=aI.mp l;obtain⟨f1,f2⟩:=g.rf r I;exact FM.Bh f1.1 (show(G / _).natAbs<2^6 by
  have a:=Int.ediv_nonneg (show 0<=G by lia) (show 0<=(r.den:Int) by lia);have b:=Int.ediv_le_self r.den (show 0<=G by lia)
  lia)
end
def ip(s:PD)(n:Nat):Bool:=match s with
 |.list ss=>decide (ss.length=n)
 |_=>false
def EC(s:PD)(n:Nat):Bool:=Ih s&&ip s n
def Nk(l:c.canLay0=true)(h:FI c=true):A3 fX C [c]=some (.inl .none):=by
 refine Yr (δ:=[.d c]) rfl ?_;unfold FZ;exact nv (C3 (C7 (AJ rfl (vY l h)))) rfl
def iR(l:c.canLay0=true)(h:FI c=false):A3 fX C [c]=some (.inr C):=by
 refine G5 rfl ?_;unfold FZ;exact cQ (C3 (C7 (AJ rfl (vY l h)))) rfl
def nQ:CQ C []=some (.inr C):=by
 rfl
def fH(I:s.canLay0=true)(h:EC s n=true):B9 eC (CQ C) [s,.int n]=some (.inl .none):=by
 unfold EC at h;rw[(HG)]at h;obtain⟨M,l⟩:=h;unfold ip at l;split at l
 .rename_i ss;refine Yr (δ:=[.d (.list ss),.d (.int n)]) rfl ?_;unfold EZ;refine(nv (Ka (C3 (C7 (AJ rfl (jP I M)))) (Bu rfl rfl ?_)) rfl);rw[OM,(ak l)];simp
 contradiction
def fN{ds:AAK}(h:e∈ds)(k:q e=false):ds.all q=false:=by grind
def cJ(h:e∈ds)(k:HY e=false):EC (.list ds) n=false:=by
 unfold EC;rw[show Ih (.list ds)=false from fN h k,Bool.false_and]
def gB(h:ds.length≠n):EC (.list ds) n=false:=by
 unfold EC;rw[show ip (.list ds) n=false from decide_eq_false h,Bool.and_false]
def sy(h:e∈ds)(k:Ko ds.length e=false):FI (.list ds)=false:=by
 rw[FI,fN h k,Bool.and_false]
abbrev Y5:List PD->Option Xr:=A3 fX 61
abbrev mRT:List PD->Option Xr:=Cn (DV 4) 49
abbrev uS:List PD->Option Xr:=B9 eC (CQ 73)
abbrev PF:List PD->Option Xr:=Ay (B6 eC 85)
abbrev zj:MD:=BN An 4
abbrev Kw:List PD->Option Xr:=Bs zj 97
abbrev mTt:List PD->Option Xr:=F3 Kw 97
abbrev tN:MD:=CD Mw FP
abbrev v9:MD:=FE mRT (B5 An 4)
abbrev mLm:MD:=EH tN (Bm 4) Ec v9
abbrev mLw:MD:=Di tN C0
abbrev mn:List PD->Option Xr:=CB (FA FP) mLm mLw mTt PF
abbrev RM:MD:=CY (Bn 4)
abbrev gR:MD:=Dd RM
abbrev pr(a b:Int):PD:=.tuple [.int a,.int b]
abbrev Bw:PD:=.list [pr 1 2,pr 1 2,pr 1 2,pr 1 2]
abbrev Rc:List Tr:=[T0]
abbrev Qc:List Tr:=[T1]
abbrev RQ:List Tr:=[T2,Yt]
def vM:PF [Bw]=some (.inl (.int 3)):=by kernel_rfl
def tL:Kw [.int 1]=some (.inl (.list (Rc.map tD))):=by rfl
def uv:Kw [.int 2]=some (.inl (.list (Qc.map tD))):=by rfl
def uN:Kw [.int 3]=some (.inl (.list (RQ.map tD))):=by rfl
def yU:RM [.list (Rc.map tD),Bw]=some (.list [pr 1 2]):=by rfl
def y7:RM [.list (Qc.map tD),.list [pr 1 2,pr 1 2,pr 1 2]]=some (.list [pr 1 2]):=by rfl
def yr:RM [.list (RQ.map tD),.list [pr 1 2,pr 1 2]]=some (.list [pr 1 4,pr 1 2]):=by rfl
def yz:mn [Bw]=some (.inl (.list [pr 1 2,pr 3 8,pr 13 48,pr 7 24])):=by kernel_rfl
abbrev zu:List (Tr×Int×Int):=[(T0,1,2)]
abbrev zU:List (Tr×Int×Int):=[(T1,3,8)]
abbrev sh3:List (Tr×Int×Int):=[(T2,13,96),(Yt,7,24)]
abbrev Yx(l:List (Tr×Int×Int)):PD:=.list (l.map fun q=>.tuple [tD q.1,pr q.2.1 q.2.2])
theorem MS{P:PD->Prop}:∀ {xs},(∀x∈xs,∃y,one x=some (some y)/\P y)->∃ys,L2.collect one xs=some ys/\ys.length=xs.length/\∀y∈ys,P y
 |[],_=>⟨[],rfl,rfl,fun _ h=>nomatch h⟩
 |x::xs,h=>by
  obtain⟨y,M,Y⟩:=h x Ch;obtain⟨ys,I,U,T⟩:=MS fun z l=>h z (.tail _ l);refine⟨y::ys,by rw[L2.collect,M,I];rfl,by grind,fun z l=>?_⟩
  grind
def WK{set}(h:set x δ=some l)(k:f l=some y):IP set BW f δ x=some (some y):=by
 show(set x δ).bind _=_
 grind
def US{set}{P:PD->Prop}(I:fs δ=some xs)(Y:xs.length<=A9)(h:∀x∈xs,∃l y,set x (BK fr δ)=some l/\f l=some y/\P y):∃ys,Bk set BW f fr fs δ=some ys/\ys.length=xs.length/\∀y∈ys,P y:=by
 obtain⟨ys,a,b,c⟩:=MS fun x I=>let⟨_,y,U,T,M⟩:=h x I;⟨y,WK U T,M⟩;exact⟨ys,by unfold Bk;rw[I,(C8),a,(C8),BA,if_pos AS],b,c⟩
def Il{set}{P:PD->Prop}(I:fs δ=some xs)(M:xs.length<=A9)(h:∀x∈xs,∃l y,set x (BK fr δ)=some l/\f l=some y/\P y):∃ys,CT set BW f fr fs δ=some (.list ys)/\ys.length=xs.length/\∀y∈ys,P y:=let⟨ys,a,b,c⟩:=US I M h;⟨ys,by grind,b,c⟩
def jL{set}{P:PD->Prop}(I:fs δ=some xs)(Z:xs.length<=A9)(M:WW jo δ=some c)(h:∀x∈xs,∃l y,set x ((BK fr δ).set jj (.own c))=some l/\f l=some y/\P y):∃ys,HX jj jo set BW f fr fs δ=some (.list ys)/\ys.length=xs.length/\∀y∈ys,P y:=by
 obtain⟨ys,a,b,k⟩:=MS fun x I=>let⟨_,y,Y,U,T⟩:=h x I;⟨y,WK Y U,T⟩;exact⟨ys,by unfold HX N9;rw[I,(C8),M,(C8),a,(C8),BA,if_pos Rs];rfl,b,k⟩
def OJ(h:d∈Gj xs ys):∃x y,x∈xs/\y∈ys/\d=.tuple [x,y]:=by
 obtain⟨i,hi⟩:=ba.mp h;obtain⟨x,y,I,l,e⟩:=Pe hi;exact⟨x,y,List.mem_of_getElem? I,List.mem_of_getElem? l,e⟩
def Oh(h:xs.length=ys.length):(Gj xs ys).length=xs.length:=by
 unfold Gj
 simp_all
def u9(d:PD):Prop:=∃i ,d=.int i
def isWs(n:Nat)(d:PD):Prop:=∃rs ,d=.list (AH rs)/\rs.length=n
abbrev gn:MD:=ED Mw FP Ae
def xG{sh:List (Int×Int)}{c b:Int}{tp:AAS}{U:AAK}{n:Nat}(hcb:Mw [.list (sh.map fun p=>.int p.2)]=some (.int c))(hto:Ae [.list P3,.int c]=some (.list (tp.map .int)))(ht:∀t∈tp,t.natAbs<2^64)(hc:c≠0)(Y:c.natAbs<2^64)(I:sh.length<=100)(hlt:tp.length<=100) (hn:n<=3)(hw:∀w∈U,isWs n w)(h1:1<=U.length)(hb:b≠0)(hb2:b.natAbs<2^150):∃zs:AAK,gn [.list P3,.list U,.int b]=some (.list zs)/\zs.length=n:=by
 obtain⟨w0,wr,rfl⟩:∃w r,U=w::r:=match U,h1 with|w::r,_=>⟨w,r,rfl⟩
 obtain⟨l,rfl,hr0⟩:=hw w0 Ch;have main:∃zs:List PD,JB Mw FP Ae [.d (.list P3),.d (.list (.list (AH l)::wr)),.d (.int b),.no,.no,.no,.no]=some (.rn zs)/\zs.length=n:=by
  unfold JB;refine Tn (AW (y:=.int c) (AJ (xs:=[.list (sh.map fun p=>.int p.2)]) (AK ?_ rfl) hcb)) ?_
  .show(Bk _ _ _ _ _ _).map _=_;rw[Kc (zs:=sh) (a:=fun p=>pr p.1 p.2) (g:=fun p=>.int p.2) rfl (by unfold A9;lia) (fun _ _=>rfl)];rfl
  refine Tn (AW (y:=.list ((List.replicate n (0:Int)).map .int)) (AQ (x:=.list [.int 0]) (y:=.int (n:Nat)) rfl (AJ (xs:=[.list (AH l)]) (AK (AQ (x:=.list (.list (AH l)::wr)) (y:=.int ((0:Nat):Int)) rfl rfl (FF rfl)) rfl) ?_) ?_)) ?_
  .show some (PyData.int ((AH l).length:Nat))=_;rw[show(AH l).length=n by unfold AH;rw[OF];exact hr0]
  .rw[<-ju];show VZ (.list [.int 0]) (.int (n:Nat))=_;refine(if_pos ⟨?_,by lia,by lia⟩).trans (by rw[(TM)]);rw[(TM)];show 1*n<=1000
   lia
  refine vK (R:=fun δ'=>∃(ts:List PD) (T M:L),δ'=[.d (.list P3),.d (.list (.list (AH l)::wr)),.d (.int b),.d (.int c),.d (.list ts),T,M]/\ts.length=n/\∀t∈ts,u9 t) ?_ ?_
  .refine F8 (xs:=Gj (tp.map .int) (.list (AH l)::wr)) (fun _ δ=>∃(ts:List PD) (T M:L),δ=[.d (.list P3),.d (.list (.list (AH l)::wr)),.d (.int b),.d (.int c),.d (.list ts),T,M]/\ts.length=n/\∀t∈ts,u9 t) ?_ ?_ ?_ ?_
   .show(AA _ _ _).bind zip2=_;rw[AK (x:=.list (tp.map .int)) (AJ (xs:=[.list P3,.int c]) rfl hto) (AK (x:=.list (.list (AH l)::wr)) rfl rfl)]
    rfl
   .exact⟨_,_,_,rfl,by simp,fun t h=>by obtain⟨i,_,rfl⟩:=aI.mp h;exact⟨i,rfl⟩⟩
   .rintro i x δ hx ⟨ts,T,M,rfl,I,hI⟩;obtain⟨x1,x2,m1,m2,rfl⟩:=OJ (aJ hx);obtain⟨t,mt,rfl⟩:=aI.mp m1;obtain⟨rs,rfl,hrs⟩:=hw x2 m2;refine⟨[.d (.list P3),.d (.list (.list (AH l)::wr)),.d (.int b),.d (.int c),.d (.list ts),.d (.int t),.d Kb],rfl,?_⟩;have Z:ts.length=(AH rs).length:=by unfold AH;rw[OF,I,hrs]
    obtain⟨ys,y1,y2,y3⟩:=Il (set:=BU 1 2) (f:=AF Ap Cb (AF BJ (nm 3) (AF Ak EQ By))) (fs:=BI zip2 (AA ON (AA (nm 6) AB))) (fr:=[none,none,none,some 5]) (δ:=[.d (.list P3),.d (.list (.list (AH l)::wr)),.d (.int b),.d (.int c),.d (.list ts),.d (.int t),.d Kb]) (P:=u9) (xs:=Gj ts (AH rs)) rfl (by rw[Oh Z,I];unfold A9;lia) (fun d hd=>by
     obtain⟨u,v,mu,mv,rfl⟩:=OJ hd;obtain⟨j,rfl⟩:=hI u mu;unfold AH at mv;obtain⟨r,_,rfl⟩:=aI.mp mv;exact⟨_,.int (j+t*r.num),rfl,AQ (x:=.int j) (y:=.int (t*r.num)) rfl (AQ (x:=.int t) (y:=.int r.num) rfl rfl (L8 (ht t mt))) rfl,_,rfl⟩)
    exact⟨_,AW y1,ys,_,_,rfl,by rw[y2,Oh Z,I],y3⟩
   .exact fun δ h=>h
  .rintro δ' ⟨ts,T,M,rfl,I,hI⟩;obtain⟨ys,y1,y2,_⟩:=US (set:=CL 1) (f:=AE FP (AA Cb (AA (AF BJ EQ (nm 3)) AB))) (fs:=A6 ON) (fr:=[none,none,some 3,some 2]) (δ:=[.d (.list P3),.d (.list (.list (AH l)::wr)),.d (.int b),.d (.int c),.d (.list ts),T,M]) (P:=fun _=>True) (xs:=ts) rfl (by rw[I];unfold A9;lia) (fun d hd=>by
    obtain⟨j,rfl⟩:=hI d hd;exact⟨_,_,rfl,AJ (xs:=[.int j,.int (c*b)]) (AK rfl (AK (AQ (x:=.int c) (y:=.int b) rfl rfl (L8 Y)) rfl)) (if_pos ⟨Int.mul_ne_zero hc hb,Nat.lt_of_lt_of_le (FM.Bh Y hb2) (aM AC AC)⟩),trivial⟩)
   exact⟨ys,congrArg (Option.map Ou.rn) y1,by rw[y2,I]⟩
 obtain⟨zs,e,Z⟩:=main;exact⟨zs,EG rfl e,Z⟩
theorem TQ{set}{J}(M:Nat->Dv->Prop):∀ {xs} {δ} {k},M k δ->(∀i x δ,xs[i]? = some x->M (k+i) δ->∃I,set x δ=some I/\∃l,J I=some (.inl (.nx l))/\M (k+i+1) l)->∃δ',Je set J xs δ=some (.inl (.nx δ'))/\M (k+xs.length) δ'
 |[],δ,k,h0,_=>⟨δ,rfl,h0⟩
 |x::xs,δ,k,h0,T=>by
  obtain⟨I,e1,l,e2,Z⟩:=T 0 x δ rfl h0;obtain⟨δ',e3,Y⟩:=TQ M Z fun i y δ U hv=>by
   have:=T OK y δ U (by grind);rw[show k+_+1=k+1+i+1 by lia]at this;exact this
  refine⟨δ',?_,by rw[(FU),show k+_=k+1+xs.length by lia];exact Y⟩;rw[Je,e1]
  simp_all
def Yy{set}(l:fs δ=some xs)(h:Je set J xs δ=r):cP fs set J δ=r:=by grind
def G7{Q:Yk->Prop}(h:I δ=some (.inl (.nx δ')))(k:∃x,l δ'=some x/\Q x):∃x,B0 I l δ=some x/\Q x:=let⟨x,a,b⟩:=k;⟨x,II h a,b⟩
def D5(h:F δ=some (.nx δ')):El F δ=some (.inl (.nx δ')):=by grind
def R7(U:GM)(ts:AAS)(PT WT:Tr->List PD):Prop:=mD Bo gM UP (U.map AG) (.list (AH (CK ts))) PT WT/\∀t∈Bo,∃rs ,WT t=AH rs
open Classical in
noncomputable def V3(δ:Dv):D6:=ER Bo (pD (if h:∃PT U ts WT,δ[5]? = some (.d (AO U))/\δ[6]? = some (.d (.list (AH (CK ts))))/\R7 U ts PT WT then choose h else fun _=>[]))
def Kg{U V}(h:AO U=AO V):U=V:=by injection h with h;exact map_inj (fun _ _=>Wk) h
def rp{δ:Dv}{ts:AAS}{PT WT}(Y:δ[5]? = some (.d (AO U)))(T:δ[6]? = some (.d (.list (AH (CK ts)))))(o:R7 U ts PT WT):∃PT WT,V3 δ=ER Bo (pD PT)/\R7 U ts PT WT:=by
 have e:∃PT U ts WT,δ[5]? = some (.d (AO U))/\δ[6]? = some (.d (.list (AH (CK ts))))/\R7 U ts PT WT:=⟨PT,U,ts,WT,Y,T,o⟩;obtain⟨U',Z,M,I,l,⟨k,k7⟩⟩:=ah e;refine⟨Classical.choose e,M,?_,?_⟩
 .unfold V3;rw[dif_pos e]
 .rw[Y]at I;injection I with I;injection I with I
  rw[T]at l;injection l with l;injection l with l
  rw[<-Kg I,<-l]at k;exact⟨k,k7⟩
def xI{PT WT}(o:R7 U ts PT WT)(Z:t∈Bo):∃y,Ow [AO U,tD t,.list (AH (CK ts))] (ER Bo (pD PT))=some y/\isWs U.length y:=by
 obtain⟨⟨U',I,ts',PT',l⟩,hh,_,ok,hm⟩:=Xe (ok:=b9) (a:=(U,t,ts,PT,WT)) ⟨o.1,Z,o.2 t Z⟩;obtain⟨T,M,rs,Y⟩:=ok;refine⟨_,hm,rs,congrArg PyData.list Y,?_⟩
 injection hh with h1 _
 have e:U=U':=Kg h1;subst e;have hl:(l I).length=(U.map AG).length:=T.vR I M;rw[(show l I=AH rs from Y)]at hl;unfold AH at hl
 grind
abbrev iM:EX:=(B0 (EY Kw (AA (nm 12) AB) fun z δ=>.nx (δ.set 13 (.d z)))
  (El (AL (AX 14 (HX 4 9 (CL 1) BW (J6 4 Ow (AA EQ (AA Cb KB))) [none,none,some 5,some 6,some 9] (A6 (nm 13))))
  (AL (AX 11 (AF BJ (nm 11) (nm 7)))
  (AL (AX 15 (AE gn (AA (AE RM (AA (nm 13) (AA (nm 10) AB))) (AA (nm 14) (AA (nm 11) AB)))))
  (AL (AX 8 (CT (BU 1 2) BW (AF Ap Cb (BG (AA EQ AB))) [none,none,none] (BI zip2 (AA (nm 8) (AA (nm 15) AB)))))
  (AX 10 (CG (nm 10) (Be (AE BS (AA (nm 13) AB))) Bd))))))))
def my(h:f δ=some (.list R))(k:g δ=some (.int (n:Nat))):CG f (Be g) Bd δ=some (.list (R.drop n)):=by
 show(f δ).bind _=_;rw[h];show((g δ).bind fun x=>(PN x).map some).bind _=_;rw[k];show some _=_;rw[Wd]
def eM(m:Nat)(d:PD):Prop:=∃xs ,d=.list xs/\xs.length<=m
def Th{c0 c1 c2 c3 c4 s13 s14 s15:L}{U:GM}{ts:AAS}{PT WT:Tr->List PD}{p b K cc:Int}{rows lf:AAK}{trs:AAg}{sh:List (Int×Int)}{tp:AAS}{m B:Nat}(o:R7 U ts PT WT)(hn:U.length<=3)(hp:1<=p)(M:p.natAbs<2^13)(hb:1<=b)(hb2:b.natAbs<2^B)(hB:B+13<=150) (I:rows.length=U.length)(hr:∀r∈rows,eM m r)(hm:m<=10)(hK:Kw [.int K]=some (.inl (.list (trs.map tD))))(htr:∀t∈trs,t∈Bo)(ht1:1<=trs.length)(ht2:trs.length<=10)(hso:RM [.list (trs.map tD),.list lf]=some (.list P3)) (hcb:Mw [.list (sh.map fun p=>.int p.2)]=some (.int cc))(hto:Ae [.list P3,.int cc]=some (.list (tp.map .int)))(ht:∀t∈tp,t.natAbs<2^64)(hc:cc≠0)(hc2:cc.natAbs<2^64)(hl:sh.length<=100)(hlt:tp.length<=100):∃l t13 t14 t15,iM [c0,c1,c2,c3,c4,.d (AO U),.d (.list (AH (CK ts))),.d (.int p),.d (.list rows),.own (.Ej (ER Bo (pD PT)) none),.d (.list lf),.d (.int b),.d (.int K),s13,s14,s15]=some (.inl (.nx [c0,c1,c2,c3,c4,.d (AO U),.d (.list (AH (CK ts))),.d (.int p),.d (.list l),.own (.Ej (ER Bo (pD PT)) none),.d (.list (lf.drop trs.length)),.d (.int (b*p)),.d (.int K),t13,t14,t15]))/\l.length=U.length/\∀r∈l,eM (m+1) r:=by
 obtain⟨ws,w1,w2,w3⟩:=jL (jj:=4) (jo:=9) (set:=CL 1) (f:=J6 4 Ow (AA EQ (AA Cb KB))) (fs:=A6 (nm 13)) (fr:=[none,none,some 5,some 6,some 9]) (δ:=[c0,c1,c2,c3,c4,.d (AO U),.d (.list (AH (CK ts))),.d (.int p),.d (.list rows),.own (.Ej (ER Bo (pD PT)) none),.d (.list lf),.d (.int b),.d (.int K),.d (.list (trs.map tD)),s14,s15]) (xs:=trs.map tD) (P:=isWs U.length) rfl (by rw[OF];unfold A9;lia) rfl fun x hx=>by
  obtain⟨t,mt,rfl⟩:=aI.mp hx;obtain⟨y,Z,Y⟩:=xI o (htr t mt);exact⟨_,y,rfl,Z,Y⟩
 have hbp:1<=b*p:=by have:=bY (show 0<b by lia) (show 0<p by lia);lia
 obtain⟨T,z1,z2⟩:=xG (b:=b*p) hcb hto ht hc hc2 hl hlt hn w3 (by rw[w2,OF];exact ht1) AS (aE (FM.Bh hb2 M) (aM AC hB));have hz:rows.length=T.length:=by rw[I,z2]
 obtain⟨ys,Z,Y,y3⟩:=Il (set:=BU 1 2) (f:=AF Ap Cb (BG (AA EQ AB))) (fs:=BI zip2 (AA (nm 8) (AA (nm 15) AB))) (fr:=[none,none,none]) (δ:=[c0,c1,c2,c3,c4,.d (AO U),.d (.list (AH (CK ts))),.d (.int p),.d (.list rows),.own (.Ej (ER Bo (pD PT)) none),.d (.list lf),.d (.int (b*p)),.d (.int K),.d (.list (trs.map tD)),.d (.list ws),.d (.list T)]) (P:=eM (m+1)) (xs:=Gj rows T) rfl (by rw[Oh hz,I];unfold A9;lia) fun d hd=>by
  obtain⟨u,v,mu,mv,rfl⟩:=OJ hd;obtain⟨xs,rfl,hx⟩:=hr u mu;exact⟨_,.list (xs++[v]),rfl,AQ (x:=.list xs) (y:=.list [v]) rfl rfl (add_l (by show xs.length+1<=1000;lia)),_,rfl,by rw[(Ca)];show xs.length+1<=m+1;lia⟩
 refine⟨ys,.d (.list (trs.map tD)),.d (.list ws),.d (.list T),?_,by rw[Y,Oh hz,I],y3⟩;refine II (Dz (ds:=[.int K]) rfl hK) (D5 ?_);refine AN (AW w1) (AN (AW (AQ (x:=.int b) (y:=.int p) rfl rfl (mul_r (aE M AC)))) (AN (AW (AJ (AK (AJ rfl hso) rfl) z1)) (AN (AW Z) ?_)));exact AW (my (n:=trs.length) (R:=lf) rfl (AJ (m:=BS) (xs:=[.list (trs.map tD)]) rfl (by show some (PyData.int ((trs.map tD).length:Nat))=_;rw[OF])))
abbrev hf:PD:=pr 1 2
def Zp:Nat->List PD
 |0=>[hf,hf,hf,hf]
 |1=>[hf,hf,hf]
 |2=>[hf,hf]
 |_=>[]
section
variable{uss:GM}{rs:AAe}{n:Nat}(g:Gd uss rs n)
include g
theorem Gd.xy:EC Kb (uss.map AG).length=true:=by
 unfold EC;rw[show Ih (.list _)=true from av.mpr fun d hd=>by
  obtain⟨r,_,rfl⟩:=aI.mp hd;exact fJ r]
 show decide _=true;rw[(show(AH rs).length=rs.length by unfold AH;simp),OF,g.ul,g.rl];simp
theorem Gd.gr:∃x,Dq Ow ma Xq Y5 uS gn RM Kw PF W9 (CJ Ae) V3 [AO uss,.list (AH rs),Bw]=some (.inl x):=by
 obtain⟨G1,G2⟩:=g.xi;have hgr:uy rs:=⟨by rw[g.rl];exact g.n3,fun r hr=>(g.rf r hr).1⟩;obtain⟨wl,wp⟩:=g.whole (G:=Au rs) G2;obtain⟨p1,p2⟩:=g.vO (G:=Au rs) G1 G2;have tl:(IA rs (Au rs)).length=n:=by unfold IA;rw[OF];exact g.rl
 obtain⟨PT,WT,WO,hV⟩:=dP (K:=27) (tb:=9) g.n1 g.n3 wl wp AC AC tl (g.zk G1 G2);have rl:(AH rs).length=n:=by unfold AH;rw[OF];exact g.rl
 have main:∃x,KL Ow ma Xq Y5 uS gn RM Kw PF W9 (CJ Ae) V3 [.d (AO uss),.d Kb,.d Bw,.no,.no,.no,.no,.no,.no,.no,.no,.no,.no,.no,.no,.no]=some x/\∃y,x=.inl (.rt y):=by
  unfold KL;refine G7 (Dz (ds:=[AO uss]) rfl (Nk (GZ (Gy _)) g.good)) ?_;refine G7 (Dz (ds:=[.list (AH rs),.int ((uss.map AG).length:Nat)]) rfl (fH (GZ (Gr _)) g.xy)) ?_;refine G7 (Dz (ds:=[Bw]) rfl vM) ?_;refine G7 (D5 (AW (AJ (xs:=[.list (AH rs)]) rfl (xR hgr)))) ?_;refine G7 (D5 (AW (AJ (xs:=[AO uss,.int (Au rs)]) rfl (ly (g.wc G2))))) ?_;refine G7 (D5 (AW (AJ (xs:=[.list (AH rs),.int (Au rs)]) rfl (g.start _)))) ?_;refine G7 (D5 (AW (AJ (xs:=[AO uss,.int (Au rs)]) rfl (l0 (g.wc G2))))) ?_;obtain⟨ys,y1,y2,y3⟩:=Il (set:=CL 1) (f:=BG SC) (fs:=A6 Cb) (fr:=[none,none]) (δ:=[.d (AO uss),.d Kb,.d Bw,.d (.int 3),.d (.int (Au rs)),.d (AO (Cv (Au rs) uss)),.d (.list (AH (CK (IA rs (Au rs))))),.d (.int (Bx uss (Au rs))),.no,.no,.no,.no,.no,.no,.no,.no]) (P:=eM 1) (xs:=AH rs) rfl (by rw[rl];have:=g.n3;unfold A9;exact aK ‹_› AC) fun d _=>⟨_,.list [d],rfl,rfl,_,rfl,Nat.le_refl _⟩;refine G7 (D5 (AW y1)) ?_;obtain⟨PT',WT',eG,oG⟩:=rp (δ:=[.d (AO uss),.d Kb,.d Bw,.d (.int 3),.d (.int (Au rs)),.d (AO (Cv (Au rs) uss)),.d (.list (AH (CK (IA rs (Au rs))))),.d (.int (Bx uss (Au rs))),.d (.list ys),.no,.no,.no,.no,.no,.no,.no]) (U:=Cv (Au rs) uss) (ts:=IA rs (Au rs)) rfl rfl ⟨WO,hV⟩;refine G7 (δ':=[.d (AO uss),.d Kb,.d Bw,.d (.int 3),.d (.int (Au rs)),.d (AO (Cv (Au rs) uss)),.d (.list (AH (CK (IA rs (Au rs))))),.d (.int (Bx uss (Au rs))),.d (.list ys),.own (.Ej (ER Bo (pD PT')) none),.no,.no,.no,.no,.no,.no]) (D5 (by rw[<-eG];rfl)) ?_;refine G7 (D5 (AW (y:=Bw) rfl)) ?_;refine G7 (D5 (AW (y:=.int (Au rs)) rfl)) ?_;have fin:∃δ',Je (Cw 12) iM [.int 1,.int 2,.int 3] _=some (.inl (.nx δ'))/\_:=TQ (fun i δ=>∃(rows:List PD) (b:Int) (Z T M I:L),δ=[.d (AO uss),.d Kb,.d Bw,.d (.int 3),.d (.int (Au rs)),.d (AO (Cv (Au rs) uss)),.d (.list (AH (CK (IA rs (Au rs))))),.d (.int (Bx uss (Au rs))),.d (.list rows),.own (.Ej (ER Bo (pD PT')) none),.d (.list (Zp i)),.d (.int b),Z,T,M,I]/\rows.length=n/\(∀r∈rows,eM OK r)/\1<=b/\b.natAbs<2^(6+13*i)) (k:=0) ⟨ys,Au rs,.no,.no,.no,.no,rfl,by rw[y2,rl],y3,G1,G2⟩ <| by
   rintro i x δ hx ⟨rows,b,Z,T,M,I,rfl,hr,hl,hb,Y⟩;have hU:=wl;have n3:=g.n3;rcases i with _|_|_|i
   .cases hx;obtain⟨l,u13,u14,u15,e1,e2,e3⟩:=Th (K:=1) (trs:=Rc) (sh:=[(1,2)]) (tp:=[1]) (cc:=2) (lf:=Zp 0) (m:=1) (B:=6) (c0:=.d (AO uss)) (c1:=.d Kb) (c2:=.d Bw) (c3:=.d (.int 3)) (c4:=.d (.int (Au rs))) (s13:=T) (s14:=M) (s15:=I) oG AS p1 p2 hb Y AC (by rw[hU];exact hr) hl AC tL AC AC AC yU Eo Eo AC AC AC AC AC;exact⟨_,rfl,_,e1,l,b*Bx uss (Au rs),_,_,_,_,rfl,by rw[e2,hU],e3,by have:=bY (show 0<b by lia) (show 0<Bx uss (Au rs) by lia);lia,FM.Bh Y p2⟩
   .cases hx;obtain⟨l,u13,u14,u15,e1,e2,e3⟩:=Th (K:=2) (trs:=Qc) (sh:=[(1,2)]) (tp:=[1]) (cc:=2) (lf:=Zp 1) (m:=2) (B:=19) (c0:=.d (AO uss)) (c1:=.d Kb) (c2:=.d Bw) (c3:=.d (.int 3)) (c4:=.d (.int (Au rs))) (s13:=T) (s14:=M) (s15:=I) oG AS p1 p2 hb Y AC (by rw[hU];exact hr) hl AC uv AC AC AC y7 Eo Eo AC AC AC AC AC;exact⟨_,rfl,_,e1,l,b*Bx uss (Au rs),_,_,_,_,rfl,by rw[e2,hU],e3,by have:=bY (show 0<b by lia) (show 0<Bx uss (Au rs) by lia);lia,show(b*Bx uss (Au rs)).natAbs<2^(19+13) from FM.Bh (show b.natAbs<2^19 from Y) p2⟩
   .cases hx;obtain⟨l,u13,u14,u15,e1,e2,e3⟩:=Th (K:=3) (trs:=RQ) (sh:=[(1,4),(1,2)]) (tp:=[1,2]) (cc:=4) (lf:=Zp 2) (m:=3) (B:=32) (c0:=.d (AO uss)) (c1:=.d Kb) (c2:=.d Bw) (c3:=.d (.int 3)) (c4:=.d (.int (Au rs))) (s13:=T) (s14:=M) (s15:=I) oG AS p1 p2 hb Y AC (by rw[hU];exact hr) hl AC uN AC AC AC yr Eo Eo AC AC AC AC AC;exact⟨_,rfl,_,e1,l,b*Bx uss (Au rs),_,_,_,_,rfl,by rw[e2,hU],e3,by have:=bY (show 0<b by lia) (show 0<Bx uss (Au rs) by lia);lia,show(b*Bx uss (Au rs)).natAbs<2^(32+13) from FM.Bh (show b.natAbs<2^32 from Y) p2⟩
   .simp at hx
  obtain⟨δ',f1,rows,b,Z,T,M,I,rfl,_⟩:=fin;refine G7 (Yy (xs:=[.int 1,.int 2,.int 3]) rfl f1) ?_;exact⟨_,rfl,_,rfl⟩
 obtain⟨x,e,y,rfl⟩:=main;exact⟨y,qC rfl e⟩
end
theorem PK{α:Type}{g h}:∀ {xs:List α},(∀x∈xs,one (g x)=some (some (h x)))->L2.collect one (xs.map g)=some (xs.map h)
 |[],_=>rfl
 |x::xs,k=>by
  rw[(BM),L2.collect,k x Ch,PK fun y l=>k y (.tail _ l)];rfl
def gA{α:Type}{g h}{set}{xs:List α}(I:fs δ=some (xs.map g))(Y:xs.length<=A9)(M:WW jo δ=some c)(k:∀x∈xs,∃l,set (g x) ((BK fr δ).set jj (.own c))=some l/\f l=some (h x)):HX jj jo set BW f fr fs δ=some (.list (xs.map h)):=by
 unfold HX N9;rw[I,(C8),M,(C8),PK fun x I=>let⟨_,U,T⟩:=k x I;WK U T,(C8),BA,if_pos (by grind)]
 rfl
def yF(n:Nat)(d:PD):Prop:=∃us,d=AG us/\PB n 5 4000 56 us
def sE(n:Nat)(d:PD):Prop:=∃V:List _,d=.list (V.map AG)/\V.length=n/\∀us∈V,PB n 5 4000 56 us
abbrev lZ:MD:=Cu QQ Qs
def wJ{n}(h1:1<=n)(hn:n<=3){ps}{tp:AAS}(hp:∀p∈ps,yF n p)(ht:∀t∈tp,t.natAbs<2^20)(hl:ps.length<=10):∃us,lZ [.list ps,.list (tp.map .int)]=some (AG us)/\PB n 5 4040 56 us:=by
 obtain⟨δ',e,ts,I,l,rfl,tb⟩:=(show ∃δ',BL (BI zip2 (AA CF SC)) (BU 3 4) (SW 2 (AE Qs (AA (nm 3) (AA (Aa (AA ON SL)) AB)))) [.d (.list ps),.d (.list (tp.map .int)),.own NE,.no,.no]=some (.nx δ')/\∃(ts:List T3) (I l:L),δ'=[.d (.list ps),.d (.list (tp.map .int)),.own (.lst (ts.map HU)),I,l]/\TB n 5 4020 ts by
  refine F8 (fun i δ=>∃(ts:List T3) (I l:L),δ=[.d (.list ps),.d (.list (tp.map .int)),.own (.lst (ts.map HU)),I,l]/\TB n 5 4020 ts/\ts.length<=56*i) rfl ⟨[],.no,.no,rfl,⟨fun _ h=>(nomatch h),Nat.zero_le _⟩,Nat.zero_le _⟩ ?_ fun δ ⟨ts,I,l,e,h,_⟩=>⟨ts,I,l,e,h⟩;rintro i x δ U ⟨ts,I,l,rfl,tb,Y⟩;have hi:i<10:=by
   have:=(aD.mp U).1;unfold Gj at this;rw[OF,List.length_zip]at this
   lia
  obtain⟨p,t',m1,m2,rfl⟩:=OJ (aJ U);obtain⟨us,rfl,M⟩:=hp p m1;obtain⟨t,mt,rfl⟩:=aI.mp m2;obtain⟨T,e1,Z⟩:=UU M ⟨Rat.den_intCast t,ht t mt⟩ AC AC;have l56:(T.map UG).length<=56:=by rw[OF];exact Z.BA
  refine⟨[.d (.list ps),.d (.list (tp.map .int)),.own (.lst (ts.map HU)),.d (AG us),.d (.int t)],rfl,_,fK (AJ rfl (e1.trans (by rw[Pk]))) rfl (by rw[OF,OF];unfold A9;lia),ts++T.map UG,_,_,by rw[(DC)];rfl,⟨fun u hu=>?_,by rw[(Ca)];lia⟩,by rw[(Ca)];lia⟩;rcases aX.mp hu with h|h
  .exact tb.at_ u h
  .exact(Z.tb AC).at_ u h)
 exact⟨ME ts,BC rfl (AN rfl (AN e (CN (AJ rfl (V0 (tb.ga h1 hn AC AC)))))),(tb.ME hn AC).up AC AC (Qn 5)⟩
def Nd(U:GM)(BT:Tr->List PD):Prop:=nh Bo (Oq 3) (U.map AG) (fun t=>.list (BT t)) BT/\∀t∈Bo,∃V:List _,BT t=V.map AG/\V.length=U.length/\∀us∈V,PB U.length 5 4000 56 us
def wZ(o:Nd U BT)(l:t∈Bo):∃y,Mv [AO U,tD t] (ER Bo fun t=>.list (BT t))=some y/\sE U.length y:=by
 obtain⟨⟨U',t',BT'⟩,Y,_,ok,hm⟩:=Xe (hand:=fun a=>[AO a.1,tD a.2.1]) (ok:=cU) (a:=(U,t,BT)) ⟨o.1,l,o.2 t l⟩;obtain⟨_,_,V,T,M,I⟩:=ok
 injection Y with Z _
 have e:=Kg Z;subst e;exact⟨_,hm,V,congrArg PyData.list T,M,I⟩
abbrev YY:List PD->D6->Option PD:=Cg Mv Mw Qs lZ Ae
def xj{U:GM}{BT:Tr->List PD}(o:Nd U BT)(h1:1<=U.length)(hn:U.length<=3){sh:List (Tr×Int×Int)}{c b:Int}{tp:AAS}(hs:∀q∈sh,q.1∈Bo)(hl:sh.length<=10)(hcb:Mw [.list (sh.map fun q=>.int q.2.2)]=some (.int c))(Z:Ae [.list (sh.map fun q=>pr q.2.1 q.2.2),.int c]=some (.list (tp.map .int)))(ht:∀t∈tp,t.natAbs<2^20)(hc:c≠0)(M:c.natAbs<2^64)(hb:b≠0)(hb2:b.natAbs<2^150):∃x,YY [AO U,Yx sh,.int b] (ER Bo fun t=>.list (BT t))=some x:=by
 let g:D6:=ER Bo fun t=>.list (BT t)
 let l:Tr->PD:=fun t=>(Mv [AO U,tD t] g).getD .none
 have T:∀t∈Bo,Mv [AO U,tD t] g=some (l t)/\sE U.length (l t):=fun t ht=>by
  obtain⟨y,Y,y2⟩:=wZ o ht;have:l t=y:=by show(Mv [AO U,tD t] g).getD .none=y;rw[show Mv [AO U,tD t] g=some y from Y];rfl
  rw[this];exact⟨Y,y2⟩
 let fin:AD->Dv:=fun d=>[.d (AO U),.d (Yx sh),.d (.int b),.own (.Ej g (some d)),.d (.int c),.d (.list (tp.map .int)),.d (.list (sh.map fun q=>l q.1)),.d (.tuple [.int 1,.int (c*b)])]
 have hrg:BI HM (AA (AE BS SB) AB) (fin 0)=some (Ew 0 U.length):=by
  have:=QJ (δ:=fin 0) (f:=AE BS SB) (j:=(U.length:Nat)) (by show some (PyData.int ((U.map AG).length:Nat))=_;rw[OF]) (by exact Int.natCast_nonneg _) AS;rw[(TM)]at this;exact this
 obtain⟨ys,Y,_⟩:=Il (set:=CL 1) (f:=AE Qs (AA (AE lZ (AA (CT (CL 1) BW (AF Ak Cb EQ) [none,none,some 1] (A6 ON)) KB)) (AA EQ AB))) (fs:=BI HM (AA (AE BS SB) AB)) (fr:=[none,none,some 7,some 5,some 6]) (δ:=fin 0) (xs:=Ew 0 U.length) (P:=fun _=>True) hrg (by unfold Ew;rw[OF,List.length_range];unfold A9;exact aK ‹_› AC) fun x hx=>by
  unfold Ew at hx;obtain⟨k,hk,rfl⟩:=aI.mp hx;have hk:=bL.mp hk;rw[Int.zero_add];refine⟨[.no,.d (.int (k:Nat)),.d (.tuple [.int 1,.int (c*b)]),.d (.list (tp.map .int)),.d (.list (sh.map fun q=>l q.1))],?_⟩;obtain⟨ps,p1,p2,p3⟩:=Il (set:=CL 1) (f:=AF Ak Cb EQ) (fs:=A6 ON) (fr:=[none,none,some 1]) (δ:=[.no,.d (.int (k:Nat)),.d (.tuple [.int 1,.int (c*b)]),.d (.list (tp.map .int)),.d (.list (sh.map fun q=>l q.1))]) (xs:=sh.map fun q=>l q.1) (P:=yF U.length) rfl (by rw[OF];unfold A9;lia) fun y hy=>by
   obtain⟨q,hq,rfl⟩:=aI.mp hy;obtain⟨V,e,v1,v2⟩:=(T q.1 (hs q hq)).2;have I:k<V.length:=by lia
   have:(V.map AG)[k]? = some (AG V[k]):=by rw[(Ar),List.getElem?_eq_getElem I];rfl
   exact⟨_,AG V[k],rfl,AQ (x:=l q.1) (y:=.int (k:Nat)) rfl rfl (by rw[e];exact FF this),V[k],rfl,v2 _ (List.getElem_mem I)⟩
  obtain⟨us,u1,u2⟩:=wJ h1 hn p3 ht (by rw[p2,OF];exact hl);obtain⟨z,hz⟩:=Z7 (b:=c*b) u2 AC AC AC (Int.mul_ne_zero hc hb) (aE (FM.Bh M hb2) (aM AC AC));exact⟨z,rfl,AJ (xs:=[AG us,.tuple [.int 1,.int (c*b)]]) (AK (AJ (xs:=[.list ps,.list (tp.map .int)]) (AK p1 rfl) u1) rfl) hz,trivial⟩
 refine⟨.list ys,qf ⟨rfl,fun d=>⟨fin d,?_,rfl,Y⟩⟩⟩;show GO Mv Mw Qs lZ Ae [.d (AO U),.d (Yx sh),.d (.int b),.own (.Ej g (some d)),.no,.no,.no,.no]=some (.nx (fin d));unfold GO;have c1:CT (BU 1 2) BW (AF Ak EQ AT) [none,none,none] (A6 Cb) [.d (AO U),.d (Yx sh),.d (.int b),.own (.Ej g (some d)),.no,.no,.no,.no]=some (.list (sh.map fun q=>.int q.2.2)):=by
  show(Bk _ _ _ _ _ _).map _=_;rw[G9 (zs:=sh) (a:=fun q=>tD q.1) (b:=fun q=>pr q.2.1 q.2.2) (g:=fun q=>.int q.2.2) rfl (by unfold A9;lia) fun _ _=>rfl];rfl
 have c2:CT (BU 1 2) BW EQ [none,none,none] (A6 Cb) [.d (AO U),.d (Yx sh),.d (.int b),.own (.Ej g (some d)),.d (.int c),.no,.no,.no]=some (.list (sh.map fun q=>pr q.2.1 q.2.2)):=by
  show(Bk _ _ _ _ _ _).map _=_;rw[G9 (zs:=sh) (a:=fun q=>tD q.1) (b:=fun q=>pr q.2.1 q.2.2) (g:=fun q=>pr q.2.1 q.2.2) rfl (by unfold A9;lia) fun _ _=>rfl];rfl
 refine AN (AW (y:=.int c) (AJ (xs:=[.list (sh.map fun q:Tr×Int×Int=>PyData.int q.2.2)]) (AK c1 rfl) hcb)) (AN (AW (y:=.list (tp.map .int)) (AJ (xs:=[.list (sh.map fun q:Tr×Int×Int=>pr q.2.1 q.2.2),.int c]) (AK c2 rfl) Z)) ?_);refine AN (AW (gA (c:=.Ej g (some d)) (xs:=sh) (g:=fun q:Tr×Int×Int=>.tuple [tD q.1,pr q.2.1 q.2.2]) (h:=fun q:Tr×Int×Int=>l q.1) rfl (by unfold A9;lia) rfl fun(q:Tr×Int×Int) hq=>⟨[.no,.d (tD q.1),.d (pr q.2.1 q.2.2),.d (AO U),.own (.Ej g (some d))],rfl,show Mv [AO U,tD q.1] g=some (l q.1) from(T q.1 (hs q hq)).1⟩)) ?_;exact AN (AW (Dg (xs:=[.int 1,.int (c*b)]) (AK rfl (AK (AQ (x:=.int c) (y:=.int b) rfl rfl (L8 M)) rfl)) (by show 2<=1000;decide))) rfl
open Classical in
noncomputable def WQ(δ:Dv):D6:=ER Bo fun t=>.list ((if h:∃BT U,δ[3]? = some (.d (AO U))/\Nd U BT then choose h else fun _=>[]) t)
def vZ(I:δ[3]? = some (.d (AO U)))(o:Nd U BT):∃BT,(WQ δ=ER Bo fun t=>.list (BT t))/\Nd U BT:=by
 have e:∃BT U,δ[3]? = some (.d (AO U))/\Nd U BT:=⟨BT,U,I,o⟩;obtain⟨M,l,k⟩:=ah e;refine⟨Classical.choose e,?_,?_⟩
 .unfold WQ;rw[dif_pos e]
 .rw[I]at l;injection l with l;injection l with l
  rw[Kg l];exact k
abbrev dm:EX:=(B0 (EY Kw (AA (nm 8) AB) fun z δ=>.nx (δ.set 9 (.d z)))
  (El (AL (AX 7 (AF BJ (nm 7) ON))
  (AL (Ed 5 (J6 6 YY (AA (nm 3) (AA (AE gR (AA (nm 9) (AA EQ AB))) (AA (nm 7) AB)))))
  (AX 2 (CG EQ (Be (AE BS (AA (nm 9) AB))) Bd))))))
def Sa{c0 c1 s9:L}{U}{BT}{p b K cc:Int}{rows lf}{trs:AAg}{sh}{tp:AAS}{B:Nat}(o:Nd U BT)(h1:1<=U.length)(hn:U.length<=3)(hp:1<=p)(l:p.natAbs<2^13)(hb:1<=b)(Z:b.natAbs<2^B)(hB:B+13<=150)(hrow:rows.length<100) (hK:Kw [.int K]=some (.inl (.list (trs.map tD))))(M:gR [.list (trs.map tD),.list lf]=some (Yx sh))(hs:∀q∈sh,q.1∈Bo)(hl:sh.length<=10)(T:Mw [.list (sh.map fun q=>.int q.2.2)]=some (.int cc))(I:Ae [.list (sh.map fun q=>pr q.2.1 q.2.2),.int cc]=some (.list (tp.map .int)))(ht:∀t∈tp,t.natAbs<2^20)(hc:cc≠0)(Y:cc.natAbs<2^64):∃y,dm [c0,c1,.d (.list lf),.d (AO U),.d (.int p),.own (.lst rows),.own (.Ej (ER Bo fun t=>.list (BT t)) none),.d (.int b),.d (.int K),s9]=some (.inl (.nx [c0,c1,.d (.list (lf.drop trs.length)),.d (AO U),.d (.int p),.own (.lst (rows++[y])),.own (.Ej (ER Bo fun t=>.list (BT t)) none),.d (.int (b*p)),.d (.int K),.d (.list (trs.map tD))])):=by
 have hbp:=by have:=bY (show 0<b by lia) (show 0<p by lia);assumption
 obtain⟨y,hy⟩:=xj o h1 hn hs hl T I ht hc Y (by exact bJ ‹_›) (aE (FM.Bh Z l) (aM AC hB));refine⟨y,II (Dz rfl hK) (D5 (AN (AW (AQ rfl rfl (mul_r (aE l AC)))) (AN (Hg (y:=y) (xs:=rows) ?_ rfl (by exact aE ‹_› AC)) ?_)))⟩
 .show((AA (nm 3) _ _).bind fun ds=>(VR 6 _).bind fun g=>YY ds g)=_;rw[AK rfl (AK (AJ rfl M) (AK rfl rfl))];exact hy
 .exact AW (my (R:=lf) rfl (AJ (m:=BS) rfl (by show some (PyData.int ((trs.map tD).length:Nat))=_;rw[OF])))
def P8:Nat->List PD
 |0=>[pr 1 2,pr 3 8,pr 13 48,pr 7 24]
 |1=>[pr 3 8,pr 13 48,pr 7 24]
 |2=>[pr 13 48,pr 7 24]
 |_=>[]
section
variable{uss:GM}{rs:AAe}{n:Nat}(g:Gd uss rs n)
include g
theorem Gd.fl:∃x,B3 YY mn Xq Y5 gR Kw PF W9 WQ [AO uss,Bw]=some (.inl x):=by
 obtain⟨wl,wp⟩:=g.whole (G:=1) AC;obtain⟨p1,M⟩:=g.vO (G:=1) AC AC;have n1:=g.n1;have n3:=g.n3;obtain⟨BT0,b1,b2⟩:=oa (K:=27) g.n1 g.n3 wl wp AC;have bo:Nd (Cv 1 uss) BT0:=⟨b1,fun t ht=>by
  obtain⟨V,v1,v2⟩:=b2 t ht;have:=b1.len t ht;rw[v1,OF,OF]at this;exact⟨V,v1,this,by rw[wl];exact v2⟩⟩
 have main:∃x,Ft YY mn Xq Y5 gR Kw PF W9 WQ [.d (AO uss),.d Bw,.no,.no,.no,.no,.no,.no,.no,.no]=some x/\∃y,x=.inl (.rn y):=by
  unfold Ft;refine G7 (Dz (ds:=[AO uss]) rfl (Nk (GZ (Gy _)) g.good)) ?_;refine G7 (Dz (ds:=[Bw]) rfl yz) ?_;refine G7 (D5 (AW (y:=AO (Cv 1 uss)) (AJ (xs:=[AO uss,.int 1]) rfl (ly (g.wc AC))))) ?_;refine G7 (D5 (AW (y:=.int (Bx uss 1)) (AJ (xs:=[AO uss,.int 1]) rfl (l0 (g.wc AC))))) ?_;refine G7 (δ':=[.d (AO uss),.d Bw,.d (.list (P8 0)),.d (AO (Cv 1 uss)),.d (.int (Bx uss 1)),.own NE,.no,.no,.no,.no]) (D5 rfl) ?_;obtain⟨BT,eG,oG⟩:=vZ (δ:=[.d (AO uss),.d Bw,.d (.list (P8 0)),.d (AO (Cv 1 uss)),.d (.int (Bx uss 1)),.own NE,.no,.no,.no,.no]) (U:=Cv 1 uss) rfl bo;refine G7 (δ':=[.d (AO uss),.d Bw,.d (.list (P8 0)),.d (AO (Cv 1 uss)),.d (.int (Bx uss 1)),.own NE,.own (.Ej (ER Bo fun t=>.list (BT t)) none),.no,.no,.no]) (D5 (by rw[<-eG];rfl)) ?_;refine G7 (D5 (AW (y:=.int 1) rfl)) ?_;have fin:∃δ',Je (Cw 8) dm [.int 1,.int 2,.int 3] _=some (.inl (.nx δ'))/\_:=TQ (fun i δ=>∃(rows:List PD) (b:Int) (t8 I:L),δ=[.d (AO uss),.d Bw,.d (.list (P8 i)),.d (AO (Cv 1 uss)),.d (.int (Bx uss 1)),.own (.lst rows),.own (.Ej (ER Bo fun t=>.list (BT t)) none),.d (.int b),t8,I]/\rows.length=i/\1<=b/\b.natAbs<2^(6+13*i)) (k:=0) ⟨[],1,.no,.no,rfl,rfl,by decide,by decide⟩ <| by
   rintro i x δ Z ⟨rows,b,t8,I,rfl,hr,hb,l⟩;rcases i with _|_|_|i
   .cases Z;obtain⟨y,Y⟩:=Sa (K:=1) (trs:=Rc) (sh:=zu) (tp:=[1]) (cc:=2) (lf:=P8 0) (rows:=rows) (B:=6) (c0:=.d (AO uss)) (c1:=.d Bw) (s9:=I) oG AS AS p1 M hb l AC AS tL IF AC AC Eo Eo AC AC AC;exact⟨_,rfl,_,Y,rows++[y],b*Bx uss 1,_,_,rfl,by rw[(Ca),hr];rfl,by have:=bY (show 0<b by lia) (show 0<Bx uss 1 by lia);lia,FM.Bh l M⟩
   .cases Z;obtain⟨y,Y⟩:=Sa (K:=2) (trs:=Qc) (sh:=zU) (tp:=[3]) (cc:=8) (lf:=P8 1) (rows:=rows) (B:=19) (c0:=.d (AO uss)) (c1:=.d Bw) (s9:=I) oG AS AS p1 M hb l AC AS uv IF AC AC Eo Eo AC AC AC;exact⟨_,rfl,_,Y,rows++[y],b*Bx uss 1,_,_,rfl,by rw[(Ca),hr];rfl,by have:=bY (show 0<b by lia) (show 0<Bx uss 1 by lia);lia,show(b*Bx uss 1).natAbs<2^(19+13) from FM.Bh (show b.natAbs<2^19 from l) M⟩
   .cases Z;obtain⟨y,Y⟩:=Sa (K:=3) (trs:=RQ) (sh:=sh3) (tp:=[13,28]) (cc:=96) (lf:=P8 2) (rows:=rows) (B:=32) (c0:=.d (AO uss)) (c1:=.d Bw) (s9:=I) oG AS AS p1 M hb l AC AS uN IF AC AC Eo Eo AC AC AC;exact⟨_,rfl,_,Y,rows++[y],b*Bx uss 1,_,_,rfl,by rw[(Ca),hr];rfl,by have:=bY (show 0<b by lia) (show 0<Bx uss 1 by lia);lia,show(b*Bx uss 1).natAbs<2^(32+13) from FM.Bh (show b.natAbs<2^32 from l) M⟩
   .simp at Z
  obtain⟨δ',f1,rows,b,t8,I,rfl,_⟩:=fin;refine G7 (Yy (xs:=[.int 1,.int 2,.int 3]) ?_ f1) ?_
  .show(AA AT (AA (AF Ap (AE (L2.good PF) SC) AT) AB) _).bind Md=_;rw[AK (x:=.int 1) rfl (AK (x:=.int 4) (AQ (x:=.int 3) (y:=.int 1) (AJ (xs:=[Bw]) rfl (by show L2.good PF [Bw]=_;unfold L2.good;rw[vM])) rfl rfl) rfl)]
   rfl
  .exact⟨_,rfl,_,rfl⟩
 obtain⟨x,e,y,rfl⟩:=main;exact⟨_,oy rfl e⟩
end
def Od(ns:AAS)(k:Nat):∃c,A4 [B7 ns,.int (k:Nat)]=some (.int c):=by
 suffices hh:∃c,O7 [.d (B7 ns),.d (.int (k:Nat)),.no,.no]=some (.rt (.int c)) by
  obtain⟨c,h⟩:=hh;exact⟨c,BC rfl h⟩
 have T:∃l,(Bp (Ao (CM fun i j=>decide (i<j)) Cb (AE BS SB)) (AX 2 (AF Ak CF Cb)) A2) [.d (B7 ns),.d (.int (k:Nat)),.d (.int 0),.no]=some (.nx [.d (B7 ns),.d (.int (k:Nat)),.d (.int l),.no]):=by
  have t:Ao (CM fun i j=>decide (i<j)) Cb (AE BS SB) [.d (B7 ns),.d (.int (k:Nat)),.d (.int 0),.no]=some (decide _):=Bu rfl rfl rfl;rw[OF]at t;by_cases z:k<ns.length
  .rw[decide_eq_true (show(k:Int)<(ns.length:Nat) by lia)]at t;exact⟨ns[k],DR t (AW (AQ (x:=B7 ns) rfl rfl (FF (by rw[(Ar),List.getElem?_eq_getElem z];rfl))))⟩
  .rw[decide_eq_false (show ¬(k:Int)<(ns.length:Nat) by lia)]at t;exact⟨0,EI t rfl⟩
 obtain⟨l,T⟩:=T;have I:AF Pl (fC (.int 10)) (fC (.int 18)) [.d (B7 ns),.d (.int (k:Nat)),.d (.int l),.no]=some (.int ((10:Int)^18)):=AQ (x:=.int 10) (y:=.int 18) rfl rfl (fD (n:=18) AC AC);have M:Ao (CM fun i j=>decide (j<=i)) EQ (AF Pl (fC (.int 10)) (fC (.int 18))) [.d (B7 ns),.d (.int (k:Nat)),.d (.int l),.no]=some (decide ((10:Int)^18<=l)):=Bu (x:=.int l) rfl I rfl;by_cases z:(10:Int)^18<=l
 .rw[decide_eq_true z]at M;exact⟨_,AN rfl (AN T (Cq (DR M (CN (AQ (AQ (x:=.int l) rfl I rfl) (AQ (x:=.int 10) (y:=.int 60) rfl rfl (fD (n:=60) AC AC)) (mod_is (Int.pow_pos AC)))))))⟩
 .rw[decide_eq_false z]at M;have hn:∀(a:Int) (m:Int),0<m->m<2^60->(a % m).natAbs<2^64:=fun a m h0 h1=>by
   have:=Int.emod_nonneg a (by lia:m≠0);have:=Int.emod_lt_of_pos a h0
   lia
  generalize U:(l*48271+(k:Int)*69621+11) % 2147483629=v;have Z:v.natAbs<2^64:=by rw[<-U];exact hn _ _ AC AC
  generalize Y:v*v % 2147483587=u;have u1:u.natAbs<2^64:=by rw[<-Y];exact hn _ _ AC AC
  refine⟨_,AN rfl (AN T (AN (EI M rfl) (AN (AW (y:=.int v) ?_) (AN (AW (y:=.int u) ?_) (CN (AQ (AQ (x:=.int u) rfl rfl (mul_r AC)) (AQ (AQ (x:=.int u) (y:=.int u) rfl rfl (mul_r u1)) rfl (mod_is AC)) rfl))))))⟩
  .refine AQ (AQ (y:=.int 11) (AQ (AQ (x:=.int l) rfl rfl (mul_r AC)) (AQ rfl rfl (mul_r AC)) rfl) rfl rfl) rfl ((mod_is AC).trans ?_);rw[U]
  .refine AQ (AQ (x:=.int v) (y:=.int v) rfl rfl (mul_r Z)) rfl ((mod_is AC).trans ?_);rw[Y]
def Dy(ds:List AY):List (List Key×PD):=ds.map fun t=>(t.1.map Sum.inl,Aq t.2)
def Ly(ds:List AY)(p:AAS)(a:Rat):List AY:=if(ds.any fun t=>decide (t.1=p))=true then ds.map (fun t=>if t.1=p then(t.1,a) else t) else ds++[(p,a)]
def Mc{p q:AAS}:p.map (Sum.inl:Int->Key)=q.map Sum.inl ↔ p=q:=List.map_inj_right fun _ _ h=>Sum.inl.inj h
def og:putD (Dy ds) (p.map Sum.inl) (Aq a)=Dy (Ly ds p a):=by
 unfold putD Ly Dy;rw[(show((ds.map fun t=>(_,Aq t.2)).any fun l=>decide (l.1=p.map Sum.inl))=ds.any fun t=>decide (t.1=p) by
  rw[List.any_map]
  congr 1
  funext t
  simp only[Function.comp_apply,Mc])]
 split
 .rw[(BZ),(BZ)];refine ai fun t _=>?_;simp only[Function.comp_apply,Mc]
  lia
 simp
def Zt ds:LZ ((Dy ds).map Fk)=some (ds.map Fk):=by
 induction ds with
 |nil=>rfl
 |cons t ds l=>
  show LZ (t.1.map Sum.inl::(Dy ds).map _)=_;rw[LZ,(show ∀p ,Q4 _=some p from fun p=>by
  induction p with
  |nil=>rfl
  |cons i p l=>rw[(BM),Q4,l];rfl),l];rfl
theorem Qq:∀p:List Int,Q2 (p.map .int)=some (p.map Sum.inl)
 |[]=>rfl
 |i::p=>by rw[(BM),Q2,Qq p];rfl
def tX{xs:AAK}(l:xs.length=n)(ha:a<n)(h:Ko n y=false):FI (.list (xs.set a y))=false:=by
 show(!decide _&&(xs.set a y).all _)=false;rw[Bool.and_eq_false_iff]
 right
 rw[List.all_eq_false,List.length_set,l];exact⟨y,List.mem_set AS y,by lia⟩
def RE:∀(i:Fin 9) (j:Fin 3),Rat.divInt (i.val-4) (1+j.val)=Rat.divInt ((i.val-4)*(6 / (1+j.val))) 6/\((i.val-4)*(6 / (1+(j.val:Int)))).natAbs<=24:=by decide +kernel
def kA x:E2 6 24 (Rat.divInt (x % 9-4) (1+x / 9 % 3)):=by
 obtain⟨i,I⟩:∃i:Fin 9,x % 9=i.val:=⟨⟨(x % 9).toNat,by lia⟩,by lia⟩;obtain⟨j,l⟩:∃j:Fin 3,x / 9 % 3=j.val:=⟨⟨(x / 9 % 3).toNat,by lia⟩,by lia⟩;rw[I,l];exact⟨_,(RE i j).1,(RE i j).2⟩
def Bj:Nat->List (List Int)
 |1=>[[0],[1],[2]]
 |2=>[[0,0],[1,0],[2,0],[1,1],[0,1],[0,2]]
 |3=>[[0,0,0],[1,0,0],[2,0,0],[1,1,0],[1,0,1],[0,1,0],[0,2,0],[0,1,1],[0,0,1],[0,0,2]]
 |_=>[]
def OX(h:p∈Bj n):p.length=n/\(∀x∈p,0<=x/\x<=3)/\0<=p.sum/\p.sum<=2:=by
 by_cases hn:n<4
 .exact(show ∀n:Fin 4,∀p∈Bj n.val,p.length=n.val/\(∀x∈p,0<=x/\x<=3)/\0<=p.sum/\p.sum<=2 by decide) ⟨n,hn⟩ p h
 .rcases n with _|_|_|_|n
  all_goals first|contradiction|(simp[Bj]at h)
def Wt(I:1<=n)(l:n<=3):1<=(Bj n).length/\(Bj n).length<=10/\(n<3->(Bj n).length<=6):=by
 rcases(show n=1\/n=2\/n=3 by lia) with rfl|rfl|rfl<;>decide
structure Sz(n m:Nat)(ds:List AY):Prop where
 BA:ds.length<=m
 tm:∀t∈ds,t.1∈Bj n/\E2 6 (24*m) t.2
 nd:(ds.map Fk).Nodup
def cur(ds:List AY)(p:AAS):Rat:=((ds.find? fun t=>decide (t.1=p)).map (·.2)).getD 0
def pO ds p:(LD (Dy ds) (p.map Sum.inl)).getD (pr 0 1)=Aq (cur ds p):=by
 unfold LD Dy cur
 induction ds with
 |nil=>rfl
 |cons t ds l=>
  rw[(BM),(Jk),(Jk)];simp only[Mc];by_cases h:t.1=p
  .rw[decide_eq_true h];rfl
  .rw[decide_eq_false h];exact l
def TV(h:Sz n m ds) p:E2 6 (24*m) (cur ds p):=by
 unfold cur;cases e:ds.find? fun t=>decide (t.1=p) with
 |none=>exact E2.zero
 |some t=>exact(h.tm t (bO e)).2
def Sz.put{n m}{a}(h:Sz n m ds)(U:p∈Bj n)(ha:E2 6 (24*(m+1)) a):Sz n (m+1) (Ly ds p a):=by
 unfold Ly;split
 .refine⟨by rw[OF];have:=h.BA;exact Nat.le_succ_of_le ‹_›,fun q l=>?_,?_⟩
  .obtain⟨u,I,rfl⟩:=aI.mp l;by_cases e:u.1=p
   .rw[if_pos e];exact⟨(h.tm u I).1,ha⟩
   .rw[if_neg e];exact⟨(h.tm u I).1,(h.tm u I).2.mono AS⟩
  .rw[(show(ds.map fun t=>if t.1=p then(t.1,a) else t).map Fk=ds.map Fk by
    rw[(BZ)];refine ai fun t _=>?_;simp;split<;>rfl)];exact h.nd
 .rename_i c;refine⟨by have:=h.BA;simp;assumption,fun q l=>?_,?_⟩
  .rcases aX.mp l with l|l
   .exact⟨(h.tm q l).1,(h.tm q l).2.mono AS⟩
   .rw[List.mem_singleton.mp l];exact⟨U,ha⟩
  .rw[(DC),List.nodup_append];refine⟨h.nd,by simp,fun x T y M z=>c ?_⟩;rw[List.any_eq_true];obtain⟨u,I,rfl⟩:=aI.mp T;simp at M;exact⟨u,I,by rw[z,M];simp⟩
def UL(h:E2 6 K r)(l:K<2^20):r.num.natAbs<2^20/\((r.den:Int)).natAbs<2^20:=by
 have f:=h.fits AC l AC;exact⟨f.1,f.d⟩
abbrev nP:MD:=F0 FP
def xP{a b}{K L}(ha:E2 6 K a)(hb:E2 6 L b)(M:K<2^20)(I:L<2^20):nP [Aq a,Aq b]=some (Aq (a+b)):=by
 obtain⟨a1,a2⟩:=UL ha M;obtain⟨b1,b2⟩:=UL hb I;have l:∀ {x:Int},x.natAbs<2^20->x.natAbs<2^64:=fun h=>aE h AC;refine BC rfl (CN (AJ (AK (AQ (AQ rfl rfl (mul_r (l b2))) (AQ rfl rfl (mul_r (l a2))) rfl) (AK (AQ rfl rfl (mul_r (l b2))) rfl)) ?_));rw[RN (FM.pq a b) (aE (FM.Bh a2 b2) (aM AC AC)),FM.sO]
theorem Lj{α:Type}{g h}{t}:∀ {xs:List α},(∀x∈xs,one (g x)=some (if t x=true then some (h x) else none))->L2.collect one (xs.map g)=some ((xs.filter t).map h)
 |[],_=>rfl
 |x::xs,k=>by
  rw[(BM),L2.collect,k x Ch,Lj fun y l=>k y (.tail _ l),List.filter_cons];cases t x<;>rfl
def oD r:Bv true (Aq r) (pr 0 1)=some (.bool (!decide (r=0))):=by
 refine(if_pos (⟨(rM r).shaped AC,by decide⟩)).trans ?_;by_cases z:r=0
 .subst z;rfl
 .rw[decide_eq_false z];simp[PyData.eqv,PyData.eqvAll,Aq,(show ¬r.num=0 from fun e=>by simp_all)]
structure Kq(n:Nat)(us:List AY):Prop where
 BA:us.length<=12
 tm:∀m∈us,m.1∈Bj n/\E2 6 144 m.2/\m.2≠0
 ord:us.Pairwise fun a b=>IT.lt b.1 a.1=true
abbrev sL:MD:=C5 nP
def i5(h:p∈ds.map Fk):LD (Dy ds) (p.map Sum.inl)=some (Aq (cur ds p)):=by
 unfold LD Dy cur
 induction ds with
 |nil=>cases h
 |cons t ds l=>
  rw[(BM),(Jk),(Jk)];simp only[Mc];by_cases e:t.1=p
  .rw[decide_eq_true e];rfl
  .rw[decide_eq_false e];rcases aO.mp h with h|h
   .simp_all
   .exact l h
def key_is p:MO (tupI p)=some (p.map Sum.inl):=Qq p
def wz{n:Nat}(T:1<=n){ts:List AY}(Z:∀t∈ts,t.1∈Bj n/\E2 6 24 t.2)(hl:ts.length<=6):∃us,Kq n us/\sL [.list (ts.map BQ)]=some (AG us):=by
 have fin:∃δ',BL (A6 CF) (BU 2 3) (Wq 1 (AE nP (AA (Qe 1 EQ (Aa (AA By SL))) KB)) EQ) [.d (.list (ts.map BQ)),.own (.Ei []),.no,.no]=some (.nx δ')/\∃(ds:List AY) (s2 l:L),δ'=[.d (.list (ts.map BQ)),.own (.Ei (Dy ds)),s2,l]/\Sz n 6 ds:=by
  refine F8 (xs:=ts.map BQ) (fun i δ=>∃(ds:List AY) (s2 l:L),δ=[.d (.list (ts.map BQ)),.own (.Ei (Dy ds)),s2,l]/\Sz n i ds) rfl ⟨[],.no,.no,rfl,by simp,fun t h=>(nomatch h),by simp⟩ ?_ ?_
  .rintro i x δ M ⟨ds,s2,l,rfl,hd⟩;have hi:i<ts.length:=by have:=(aD.mp M).1;simpa using this
   rw[(Ar),List.getElem?_eq_getElem hi]at M;cases M;obtain⟨q1,Y⟩:=Z ts[i] (List.getElem_mem hi);generalize ts[i]=t at q1 Y;refine⟨[.d (.list (ts.map BQ)),.own (.Ei (Dy ds)),.d (tupI t.1),.d (Aq t.2)],rfl,[.d (.list (ts.map BQ)),.own (.Ei (Dy (Ly ds t.1 (cur ds t.1+t.2)))),.d (tupI t.1),.d (Aq t.2)],?_,_,_,_,rfl,hd.put q1 (((TV hd t.1).add AC Y).mono AS)⟩;have U:Qe 1 EQ (Aa (AA By SL)) [.d (.list (ts.map BQ)),.own (.Ei (Dy ds)),.d (tupI t.1),.d (Aq t.2)]=some (Aq (cur ds t.1)):=by
    show(MO (tupI t.1)).map (fun q=>(LD (Dy ds) q).getD (pr 0 1))=_;rw[key_is,Option.map_some,pO]
   show(AE nP _ _).bind _=_;rw[(AJ (xs:=[Aq (cur ds t.1),Aq t.2]) (AK U rfl) (xP (TV hd t.1) Y AS AC))];show(MO (tupI t.1)).bind _=_;rw[key_is];show(if(Dy ds).length<A9 then _ else none)=_;rw[if_pos (by unfold Dy;rw[OF];have:=hd.BA;show _<1000;lia),og]
   rfl
  .rintro δ ⟨ds,s2,l,e,hd⟩;rw[OF]at hd;exact⟨ds,s2,l,e,by have:=hd.BA;lia,fun t h=>⟨(hd.tm t h).1,(hd.tm t h).2.mono AS⟩,hd.nd⟩
 obtain⟨δ',e,ds,s2,l,rfl,hd⟩:=fin;have mem:∀p,p∈(sortI (ds.map Fk)).reverse->p∈ds.map Fk:=fun p I=>(sortI_perm _).mem_iff.mp (List.mem_reverse.mp I);refine⟨((sortI (ds.map Fk)).reverse.filter fun p=>!decide (cur ds p=0)).map fun p=>(p,cur ds p),⟨?_,fun m hm=>?_,?_⟩,BC rfl ?_⟩
 .rw[OF];have:=bg (fun p=>!decide (cur ds p=0)) (sortI (ds.map Fk)).reverse;rw[(VX),(sortI_perm _).length_eq,OF]at this;have:=hd.BA
  lia
 .obtain⟨p,I,rfl⟩:=aI.mp hm;obtain⟨T,h2⟩:=List.mem_filter.mp I;obtain⟨u,hu,rfl⟩:=aI.mp (mem p T);exact⟨(hd.tm u hu).1,TV hd u.1,by simpa using h2⟩
 .rw[List.pairwise_map];refine List.Pairwise.filter _ ?_;rw[List.pairwise_reverse];have nd:=(sortI_perm (ds.map Fk)).nodup_iff.mpr hd.nd;refine((NJ _).and nd).imp fun {p q} ⟨T,h2⟩=>?_;show IT.lt p q=true;cases e:IT.lt p q with
  |true=>rfl
  |false=>exact absurd (IT.D3 _ _ e (Hz.mp T)) h2
 .unfold Kr;refine AN (rfl) (AN e (CN ?_));have hk:Jf (Dy ds)=some (.list ((sortI (ds.map Fk)).map tupI)):=by
   unfold Jf;rw[Zt];refine if_pos ⟨by rw[OF];have:=hd.BA;lia,List.all_eq_true.mpr fun p I=>?_⟩;obtain⟨t,Z,rfl⟩:=aI.mp I;have:=(OX (hd.tm t Z).1).1;exact decide_eq_true fun z=>by rw[z]at this;simp at this;lia
  have M:A6 (ie (fun δ=>(Ei 1 δ).bind Jf) (Iu AT)) [.d (.list (ts.map BQ)),.own (.Ei (Dy ds)),s2,l]=some ((sortI (ds.map Fk)).reverse.map tupI):=by
   refine ou (x:=.list ((sortI (ds.map Fk)).reverse.map tupI)) (AQ (x:=.list ((sortI (ds.map Fk)).map tupI)) (y:=.int (-1)) hk rfl ?_) rfl;show(if(-1:Int)=-1 then some (PyData.list ((sortI (ds.map Fk)).map tupI).reverse) else none)=_;rw[if_pos rfl,<-List.map_reverse]
  unfold HX N9;rw[M];show(((L2.collect _ ((sortI (ds.map Fk)).reverse.map tupI)).bind BA).map PyData.list)=_;rw[Lj (h:=fun p=>BQ (p,cur ds p)) (t:=fun p=>!decide (cur ds p=0)) fun p I=>?_]
  .show((BA _).map PyData.list)=_;unfold BA;rw[if_pos ?_,Option.map_some]
   .unfold AG;rw[(BZ)];rfl
   .rw[OF];have:=bg (fun p=>!decide (cur ds p=0)) (sortI (ds.map Fk)).reverse;rw[(VX),(sortI_perm _).length_eq,OF]at this;have:=hd.BA;unfold A9
    lia
  .have U:OE 2 Cb [.no,.d (tupI p),.own (.Ei (Dy ds))]=some (Aq (cur ds p)):=by
    show(MO (tupI p)).bind (fun q=>LD (Dy ds) q)=_;rw[key_is];exact i5 (mem p I)
   show((Ao (Bv true) (OE 2 Cb) (Aa (AA By SL)) [.no,.d (tupI p),.own (.Ei (Dy ds))]).bind fun b=>if b=true then((Aa (AA Cb (AA (OE 2 Cb) AB))) [.no,.d (tupI p),.own (.Ei (Dy ds))]).map some else some none)=_;rw[Bu (x:=Aq (cur ds p)) (y:=pr 0 1) U rfl (oD _),(C8)];cases z:!decide (cur ds p=0) with
   |false=>rfl
   |true=>
    rw[if_pos rfl,if_pos rfl,Dg (xs:=[tupI p,Aq (cur ds p)]) (AK rfl (AK U rfl)) (by show 2<=1000;decide)]
    rfl
abbrev xx:MD:=EF A4 FP sL C9
abbrev x8:MD:=Ee A4 FP
def Jm(h:0<b):∃j:Nat,j<b/\x % (b:Int)=j:=by
 have I:=Int.emod_nonneg x (show(b:Int)≠0 by lia);have l:=Int.emod_lt_of_pos x (show(0:Int)<b by lia);exact⟨(x % b).toNat,by lia,by lia⟩
section
variable{ns:AAS}{n:Nat}(h1:1<=n)(h3:n<=3)
abbrev GD(ns:List Int)(n:Nat)(ps:List PD)(t6 I t8 t9 t10 l t12 t13:L):Dv:=[.d (B7 ns),.d (.int 0),.d (.int 3),.d (.int n),.d (.list ((Bj n).map tupI)),.own (.lst ps),t6,I,t8,t9,t10,l,t12,t13]
include h1 h3
theorem qm{ps:AAK}{t6 t8 t10 t12 t13:L}{x:Int}{c:Nat}(hc:c<=3):∃δ',BL (BI HM (AA (nm 9) AB)) (Cw 12) (AL (Ed 11 (AF Ak ON (AF Cp (nm 7) (AE BS (AA ON AB))))) (AX 7 (AF Ds (nm 7) (AE BS (AA ON AB))))) (GD ns n ps t6 (.d (.int x)) t8 (.d (.int (c:Nat))) t10 (.own NE) t12 t13)=some (.nx δ')/\∃(I:Int) (l:List AAS) (t:L),δ'=GD ns n ps t6 (.d (.int I)) t8 (.d (.int (c:Nat))) t10 (.own (.lst (l.map tupI))) t t13/\(∀q∈l,q∈Bj n)/\l.length<=3:=by
 obtain⟨m1,m2,_⟩:=Wt h1 h3;refine F8 (xs:=Ew 0 c) (fun i δ=>∃(I:Int) (l:List (List Int)) (t:L),δ=GD ns n ps t6 (.d (.int I)) t8 (.d (.int (c:Nat))) t10 (.own (.lst (l.map tupI))) t t13/\(∀q∈l,q∈Bj n)/\l.length=i) ?_ ⟨x,[],t12,rfl,fun _ h=>(nomatch h),rfl⟩ ?_ ?_
 .exact QJ (j:=(c:Int)) rfl AS AS
 .rintro i y δ hy ⟨I,l,t,rfl,T,U⟩;obtain⟨rfl,hi⟩:=Tc hy;obtain⟨j,Y,ej⟩:=Jm (x:=I) (b:=(Bj n).length) AS;have em:((Bj n).map tupI)[j]? = some (tupI (Bj n)[j]):=by rw[(Ar),List.getElem?_eq_getElem Y];rfl
  have Z:∀δ:Dv,nm 4 δ=some (.list ((Bj n).map tupI))->AE BS (AA ON AB) δ=some (.int ((Bj n).length:Nat)):=fun δ h=>AJ (m:=BS) (xs:=[.list ((Bj n).map tupI)]) (AK h rfl) (by show some _=_;rw[OF]);refine⟨_,rfl,GD ns n ps t6 (.d (.int (I / ((Bj n).length:Nat)))) t8 (.d (.int (c:Nat))) t10 (.own (.lst ((l++[(Bj n)[j]]).map tupI))) (.d (.int (0+(i:Nat)))) t13,?_,_,_,_,rfl,fun q M=>?_,by rw[(Ca),U];rfl⟩
  .refine AN (Hg (y:=tupI (Bj n)[j]) (xs:=l.map tupI) (AQ (x:=.list ((Bj n).map tupI)) (y:=.int (j:Nat)) rfl (AQ (x:=.int I) (y:=.int ((Bj n).length:Nat)) rfl (Z _ rfl) (by rw[mod_is AS,ej])) (FF em)) rfl (by rw[OF];show _<1000;lia)) ?_;rw[(DC)];exact AW (AQ (x:=.int I) rfl (Z _ rfl) (div_is AS AS))
  .rcases aX.mp M with h|h
   .exact T q h
   .rw[List.mem_singleton.mp h];exact List.getElem_mem Y
 .rintro δ ⟨I,l,t,e,T,U⟩;exact⟨I,l,t,e,T,by rw[U];simp[Ew];exact hc⟩
theorem kG{ps}{t6 t9 t10 t12 t13:L}{x}{I:List AAS}(hq:∀q∈I,q∈Bj n)(hl:I.length<=6):∃δ',BL (A6 (nm 11)) (Cw 13) (AL (Ed 8 (Aa (AA (nm 13) (AA (AE FP (AA (AF Ep (AF Cp (nm 7) (fC (.int 9))) (fC (.int 4))) (AA (AF Ap AT (AF Cp (AF Ds (nm 7) (fC (.int 9))) (fC (.int 3)))) AB))) AB)))) (AX 7 (AF Ds (nm 7) (fC (.int 27))))) (GD ns n ps t6 (.d (.int x)) (.own NE) t9 t10 (.d (.list (I.map tupI))) t12 t13)=some (.nx δ')/\∃(l:Int) (ts:List AY) (t:L),δ'=GD ns n ps t6 (.d (.int l)) (.own (.lst (ts.map BQ))) t9 t10 (.d (.list (I.map tupI))) t12 t/\(∀t∈ts,t.1∈Bj n/\E2 6 24 t.2)/\ts.length<=6:=by
 refine F8 (fun i δ=>∃(l:Int) (ts:List AY) (t:L),δ=GD ns n ps t6 (.d (.int l)) (.own (.lst (ts.map BQ))) t9 t10 (.d (.list (I.map tupI))) t12 t/\(∀t∈ts,t.1∈Bj n/\E2 6 24 t.2)/\ts.length=i) rfl ⟨x,[],t13,rfl,fun _ h=>(nomatch h),rfl⟩ ?_ ?_
 .rintro i y δ U ⟨l,ts,t,rfl,ht,M⟩;obtain⟨q,Y,rfl⟩:=aI.mp (aJ U);have hi:=by simpa using ((aD.mp U).1)
  refine⟨_,rfl,GD ns n ps t6 (.d (.int (l / 27))) (.own (.lst ((ts++[(q,Rat.divInt (l % 9-4) (1+l / 9 % 3))]).map BQ))) t9 t10 (.d (.list (I.map tupI))) t12 (.d (tupI q)),?_,_,_,_,rfl,fun u Z=>?_,by rw[(Ca),M];rfl⟩
  .refine AN (Hg (Dg (AK rfl (AK (AJ (AK (AQ (AQ rfl rfl (mod_is AC)) rfl rfl) (AK (AQ rfl (AQ (AQ rfl rfl (div_is AC AC)) rfl (mod_is AC)) rfl) rfl)) (RN AS (aE (show _<2^3 by lia) (aM AC AC)))) rfl)) (by show 2<=1000;decide)) rfl (by rw[OF];show _<1000;lia)) ?_;rw[(DC)];exact AW (AQ rfl rfl (div_is AC AC))
  .rcases aX.mp Z with h|h
   .exact ht u h
   .rw[List.mem_singleton.mp h];exact⟨hq q Y,kA l⟩
 .rintro δ ⟨l,ts,t,e,h,T⟩;exact⟨l,ts,t,e,h,by rw[T,OF];exact hl⟩
end
def dh(ns:AAS):∃(n:Nat) (uss:GM),1<=n/\n<=3/\uss.length=n/\(∀us∈uss,Kq n us)/\xx [B7 ns,.int 0,.int 3]=some (AO uss):=by
 obtain⟨c0,hc0⟩:=Od ns 0;obtain⟨j0,hj0,ej0⟩:=Jm (x:=c0) (b:=3) AC;obtain⟨n,en,h1,h3⟩:∃n:Nat,1+(j0:Int)=(n:Int)/\1<=n/\n<=3:=⟨1+j0,by lia,by lia,by lia⟩;obtain⟨m1,m2,m3⟩:=Wt h1 h3;have main:∃xs,Iq A4 FP sL C9 [.d (B7 ns),.d (.int 0),.d (.int 3),.no,.no,.no,.no,.no,.no,.no,.no,.no,.no,.no]=some (.rn xs)/\∃ps:List (List AY),xs=ps.map AG/\ps.length=n/\∀us∈ps,Kq n us:=by
  unfold Iq;refine Tn (AW (y:=.int (n:Nat)) (AQ (x:=.int 1) (y:=.int (j0:Nat)) rfl (AQ (x:=.int c0) (y:=.int 3) (AJ (xs:=[B7 ns,.int ((0:Nat):Int)]) rfl hc0) rfl (by rw[mod_is AC,<-ej0];rfl)) (by show some (PyData.int (1+(j0:Int)))=_;rw[en]))) ?_;refine Tn (AW (y:=.list ((Bj n).map tupI)) (AJ (xs:=[.int (n:Nat)]) rfl ((by rcases(show n=1\/n=2\/n=3 by lia) with rfl|rfl|rfl<;>kernel_rfl)))) ?_;refine Tn (show Et 5 AB _=some (.nx (GD ns n [] .no .no .no .no .no .no .no .no)) from rfl) ?_;refine vK (R:=fun δ'=>∃(ps:GM) (t6 t7 t8 Z M T I l:L),δ'=GD ns n (ps.map AG) t6 t7 t8 Z M T I l/\ps.length=n/\∀us∈ps,Kq n us) ?_ fun δ' ⟨ps,t6,t7,t8,Z,M,T,I,l,e,hl,hp⟩=>⟨ps.map AG,by rw[e];rfl,ps,rfl,hl,hp⟩;refine F8 (xs:=Ew 0 n) (fun i δ=>∃(ps:GM) (t6 t7 t8 Z M T I l:L),δ=GD ns n (ps.map AG) t6 t7 t8 Z M T I l/\ps.length=i/\∀us∈ps,Kq n us) ?_ ⟨[],.no,.no,.no,.no,.no,.no,.no,.no,rfl,rfl,fun _ h=>(nomatch h)⟩ ?_ ?_
  .exact QJ (j:=(n:Int)) rfl AS AS
  .rintro i y δ hy ⟨ps,t6,t7,t8,Z,M,T,I,l,rfl,hl,hp⟩;obtain⟨rfl,hi⟩:=Tc hy;refine⟨_,rfl,?_⟩;obtain⟨U,hck⟩:=Od ns (1+i);obtain⟨c,hc,ec⟩:=Jm (x:=U) (b:=4) AC;refine JT (δ':=GD ns n (ps.map AG) (.d (.int (0+(i:Nat)))) (.d (.int U)) t8 Z M T I l) (AW (AJ (xs:=[B7 ns,.int ((1+i:Nat):Int)]) (AK rfl (AK (by show some (PyData.int (0+1+(0+(i:Int))))=_;congr 2;lia) rfl)) hck)) ?_;refine JT (show Et 8 AB _=some (.nx (GD ns n (ps.map AG) (.d (.int (0+(i:Nat)))) (.d (.int U)) (.own NE) Z M T I l)) from rfl) ?_;refine JT (AW (y:=.int (c:Nat)) (AQ (x:=.int U) (y:=.int 4) rfl rfl (by rw[mod_is AC,<-ec];rfl))) ?_;obtain⟨b,hb,eb⟩:∃b:Bool,(b=true->n<3)/\Td (AF (Bv false) (AF Cp (AF Ds (nm 7) (fC (.int 4))) (fC (.int 4))) (fC (.int 3))) (AF (CM fun i j=>decide (i<j)) (nm 3) (fC (.int 3))) (GD ns n (ps.map AG) (.d (.int (0+(i:Nat)))) (.d (.int U)) (.own (.lst [])) (.d (.int (c:Nat))) M T I l)=some (.bool b):=by
    have e1:AF (Bv false) (AF Cp (AF Ds (nm 7) (fC (.int 4))) (fC (.int 4))) (fC (.int 3)) (GD ns n (ps.map AG) (.d (.int (0+(i:Nat)))) (.d (.int U)) (.own NE) (.d (.int (c:Nat))) M T I l)=some (.bool (decide (U / 4 % 4=3))):=AQ (x:=.int (U / 4 % 4)) (y:=.int 3) (AQ (x:=.int (U / 4)) (y:=.int 4) (AQ (x:=.int U) (y:=.int 4) rfl rfl (div_is AC AC)) rfl (mod_is AC)) rfl (IB _ _);by_cases z:U / 4 % 4=3
    .rw[decide_eq_true z]at e1;refine⟨decide ((n:Int)<3),fun h=>by have:=ak h;lia,?_⟩;show(AF (Bv false) _ _ _).bind _=_;rw[e1];rfl
    .rw[decide_eq_false z]at e1;refine⟨false,fun h=>(nomatch h),?_⟩;show(AF (Bv false) _ _ _).bind _=_;rw[e1];rfl
   refine JT (AW eb) ?_;refine JT (AW (y:=.int (U / 16)) (AQ (x:=.int U) (y:=.int 16) rfl rfl (div_is AC AC))) ?_;refine JT (show Et 11 AB _=some (.nx (GD ns n (ps.map AG) (.d (.int (0+(i:Nat)))) (.d (.int (U / 16))) (.own NE) (.d (.int (c:Nat))) (.d (.bool b)) (.own NE) I l)) from rfl) ?_;obtain⟨δ1,e1,x1,qs,t,rfl,hq,hql⟩:=qm (ns:=ns) h1 h3 (ps:=ps.map AG) (t6:=.d (.int (0+(i:Nat)))) (t8:=.own NE) (t10:=.d (.bool b)) (t12:=I) (t13:=l) (x:=U / 16) (c:=c) AS;refine JT e1 ?_;obtain⟨Y,hq',hql',l11,e2,ef⟩:∃Y:List (List Int),(∀q∈Y,q∈Bj n)/\Y.length<=6/\∃l11,Bp (CU (nm 10)) (AX 11 (nm 4)) A2 (GD ns n (ps.map AG) (.d (.int (0+(i:Nat)))) (.d (.int x1)) (.own (.lst [])) (.d (.int (c:Nat))) (.d (.bool b)) (.own (.lst (qs.map tupI))) t l)=some (.nx (GD ns n (ps.map AG) (.d (.int (0+(i:Nat)))) (.d (.int x1)) (.own (.lst [])) (.d (.int (c:Nat))) (.d (.bool b)) l11 t l))/\En 11 (GD ns n (ps.map AG) (.d (.int (0+(i:Nat)))) (.d (.int x1)) (.own (.lst [])) (.d (.int (c:Nat))) (.d (.bool b)) l11 t l)=GD ns n (ps.map AG) (.d (.int (0+(i:Nat)))) (.d (.int x1)) (.own (.lst [])) (.d (.int (c:Nat))) (.d (.bool b)) (.d (.list (Y.map tupI))) t l:=by
    cases b with
    |true=>exact⟨Bj n,fun q h=>h,m3 (hb rfl),_,rfl,rfl⟩
    |false=>exact⟨qs,hq,by lia,_,rfl,rfl⟩
   refine JT e2 ?_;obtain⟨δ2,e3,x2,ts,u,rfl,ht,htl⟩:=kG (ns:=ns) h1 h3 (ps:=ps.map AG) (t6:=.d (.int (0+(i:Nat)))) (t9:=.d (.int (c:Nat))) (t10:=.d (.bool b)) (t12:=t) (t13:=l) (x:=x1) hq' hql';refine JT (by show BL _ _ _ (En 11 _)=_;rw[ef];exact e3) ?_;obtain⟨us,hus,e4⟩:=wz h1 ht htl;refine⟨GD ns n ((ps++[us]).map AG) (.d (.int (0+(i:Nat)))) (.d (.int x2)) (.d (.list (ts.map BQ))) (.d (.int (c:Nat))) (.d (.bool b)) (.d (.list (Y.map tupI))) t u,?_,ps++[us],_,_,_,_,_,_,_,_,rfl,by rw[(Ca),hl];rfl,fun v hv=>?_⟩
   .rw[(DC)];exact Hg (y:=AG us) (xs:=ps.map AG) (δ:=GD ns n (ps.map AG) (.d (.int (0+(i:Nat)))) (.d (.int x2)) (.d (.list (ts.map BQ))) (.d (.int (c:Nat))) (.d (.bool b)) (.d (.list (Y.map tupI))) t u) (AJ (xs:=[.list (ts.map BQ)]) rfl e4) rfl (by rw[OF];show _<1000;lia)
   .rcases aX.mp hv with h|h
    .exact hp v h
    .rw[List.mem_singleton.mp h];exact hus
  .rintro δ ⟨ps,t6,t7,t8,Z,M,T,I,l,e,hl,hp⟩;exact⟨ps,t6,t7,t8,Z,M,T,I,l,e,by rw[hl];simp[Ew],hp⟩
 obtain⟨xs,e,ps,rfl,hl,hp⟩:=main;exact⟨n,ps,h1,h3,hl,hp,EG rfl e⟩
def YH:∀(i:Fin 7) (j:Fin 2),FM.Fits (Rat.divInt (i.val-3) (1+j.val)) 3/\(Rat.divInt (i.val-3) (1+(j.val:Int))).den<=6:=by
 have:∀(i:Fin 7) (j:Fin 2),((Rat.divInt (i.val-3) (1+j.val)).num.natAbs<8/\(Rat.divInt (i.val-3) (1+j.val)).den<8)/\(Rat.divInt (i.val-3) (1+j.val)).den<=6:=by decide +kernel
 exact fun i j=>⟨⟨(this i j).1.1,(this i j).1.2⟩,(this i j).2⟩
def lV(ns:AAS){n:Nat}(h3:n<=3):∃rs:AAe,rs.length=n/\(∀r∈rs,FM.Fits r 3/\r.den<=6)/\x8 [B7 ns,.int 4,.int (n:Nat)]=some Kb:=by
 obtain⟨c,U⟩:=Od ns 4;have main:∃xs,Jl A4 FP [.d (B7 ns),.d (.int 4),.d (.int (n:Nat)),.no,.no,.no]=some (.rn xs)/\∃rs:List Rat,xs=AH rs/\rs.length=n/\∀r∈rs,FM.Fits r 3/\r.den<=6:=by
  unfold Jl;refine Tn (AW (y:=.int c) (AJ (xs:=[B7 ns,.int ((4:Nat):Int)]) rfl U)) ?_;refine Tn (rfl) ?_;refine vK (R:=fun δ'=>∃(x:Int) (rs:List Rat) (t:L),δ'=[.d (B7 ns),.d (.int 4),.d (.int (n:Nat)),.d (.int x),.own (.lst (AH rs)),t]/\rs.length=n/\∀r∈rs,FM.Fits r 3/\r.den<=6) ?_ fun δ' ⟨x,rs,t,e,I,l⟩=>⟨AH rs,by rw[e];rfl,rs,rfl,I,l⟩;refine F8 (xs:=Ew 0 n) (fun i δ=>∃(x:Int) (rs:List Rat) (t:L),δ=[.d (B7 ns),.d (.int 4),.d (.int (n:Nat)),.d (.int x),.own (.lst (AH rs)),t]/\rs.length=i/\∀r∈rs,FM.Fits r 3/\r.den<=6) ?_ ⟨c,[],.no,rfl,rfl,fun _ h=>(nomatch h)⟩ ?_ ?_
  .exact QJ (j:=(n:Int)) rfl AS AS
  .rintro i y δ M ⟨x,rs,t,rfl,I,l⟩;obtain⟨rfl,hi⟩:=Tc M;have Y:AH (rs++[Rat.divInt (x % 7-3) (1+x / 7 % 2)])=AH rs++[Aq (Rat.divInt (x % 7-3) (1+x / 7 % 2))]:=by unfold AH;rw[(DC)];rfl
   refine⟨[.d (B7 ns),.d (.int 4),.d (.int (n:Nat)),.d (.int x),.own (.lst (AH rs)),.d (.int (0+(i:Nat)))],rfl,[.d (B7 ns),.d (.int 4),.d (.int (n:Nat)),.d (.int (x / 14)),.own (.lst (AH (rs++[Rat.divInt (x % 7-3) (1+x / 7 % 2)]))),.d (.int (0+(i:Nat)))],?_,_,_,_,rfl,by rw[(Ca),I];rfl,fun r T=>?_⟩
   .refine AN (Hg (xs:=AH rs) (AJ (xs:=[.int (x % 7-3),.int (1+x / 7 % 2)]) (AK (AQ (x:=.int (x % 7)) (y:=.int 3) (AQ (x:=.int x) (y:=.int 7) rfl rfl (mod_is AC)) rfl rfl) (AK (AQ (x:=.int 1) (y:=.int (x / 7 % 2)) rfl (AQ (x:=.int (x / 7)) (y:=.int 2) (AQ (x:=.int x) (y:=.int 7) rfl rfl (div_is AC AC)) rfl (mod_is AC)) rfl) rfl)) (RN AS (aE (show _<2^3 by show(1+x / 7 % 2).natAbs<8;lia) (aM AC AC)))) rfl (by unfold AH;rw[OF];show _<1000;lia)) ?_;rw[Y];exact AW (AQ (x:=.int x) (y:=.int 14) rfl rfl (div_is AC AC))
   .rcases aX.mp T with h|h
    .exact l r h
    .rw[List.mem_singleton.mp h];obtain⟨a,e1⟩:∃a:Fin 7,x % 7=(a.val:Int):=⟨⟨(x % 7).toNat,by lia⟩,by show x % 7=((x % 7).toNat:Int);lia⟩;obtain⟨b,Z⟩:∃b:Fin 2,x / 7 % 2=(b.val:Int):=⟨⟨(x / 7 % 2).toNat,by lia⟩,by show x / 7 % 2=((x / 7 % 2).toNat:Int);lia⟩;rw[e1,Z];exact YH a b
  .rintro δ ⟨x,rs,t,e,I,l⟩;exact⟨x,rs,t,e,by rw[I];simp[Ew],l⟩
 obtain⟨xs,e,rs,rfl,I,l⟩:=main;exact⟨rs,I,l,EG rfl e⟩
structure nG(n:Nat)(t:AY):Prop where
 len:t.1.length=n
 pos:∀x∈t.1,0<=x
 ne:t.2≠0
def nG.of(h:t.1∈Bj n/\E2 6 144 t.2/\t.2≠0):nG n t:=⟨(OX h.1).1,fun x l=>((OX h.1).2.1 x l).1,h.2.2⟩
def mG t:Yd (BQ t)=t.1:=by
 show(t.1.map PyData.int).map intD=t.1;rw[(BZ)];exact(ai fun _ _=>rfl).trans (List.map_id _)
def qa(h:nG n t):IZ n (BQ t)=true:=by
 show(R9 n _&&(HY _ && !decide (t.2.num=0)))=true;rw[(show R9 n _=true by
  show(decide _&&(t.1.map PyData.int).all cK)=true;rw[decide_eq_true (by rw[OF,h.len]),Bool.true_and,List.all_eq_true];intro d hd;obtain⟨i,hi,rfl⟩:=aI.mp hd;exact decide_eq_true (h.pos i hi)),fJ,decide_eq_false fun z=>h.ne (Rat.num_eq_zero.mp z)];rfl
def gF{n}(h:Kq n ts):Ko n (AG ts)=true:=by
 show(List.range (ts.map BQ).length).all _=true;rw[List.all_eq_true];intro k hk;have hk:=by simpa using hk
 unfold Lf;rw[(Ar),List.getElem?_eq_getElem hk];show(IZ n (BQ ts[k])&&_)=true;rw[qa (nG.of (h.tm _ (List.getElem_mem hk)))];by_cases l:k=0
 .rw[decide_eq_true l];rfl
 .rw[decide_eq_false l,(Ar),List.getElem?_eq_getElem _];show IT.lt _ _=true;rw[mG,mG];exact List.pairwise_iff_getElem.mp h.ord (k-1) k AS hk AS
def jN(pos:1<=ps.length)(I:∀us∈ps,Kq ps.length us):FI (AO ps)=true:=by
 show(!decide _&&(ps.map AG).all _)=true;rw[OF,decide_eq_false (bQ ‹_›),Bool.not_false,Bool.true_and,List.all_eq_true];intro d hd;obtain⟨ts,l,rfl⟩:=aI.mp hd;exact gF (I ts l)
def qY(h:E2 6 K r):r.den<=6:=by
 obtain⟨a,rfl,_⟩:=h;exact FM.fq AC
def wB(h1:1<=n)(h3:n<=3)(M:uss.length=n)(I:∀us∈uss,Kq n us)(rl:rs.length=n)(rf:∀r∈rs,FM.Fits r 3/\r.den<=6):Gd uss rs n :=
 ⟨⟨by lia,fun us l=>⟨(I us l).BA,fun m hm=>by
  obtain⟨a,b,c⟩:=(I us l).tm m hm;obtain⟨Z,Y,U,T⟩:=OX a;exact⟨b.fits AC AC AC,qY b,Z,Y,U,T⟩⟩⟩,h1,h3,M,rl,rf,jN AS (by rw[M];exact I)⟩
def Qk:DF :=
 (AL (Bp (Ao (CM fun i j=>decide (i<j)) (nm 8) (fC (.int 10)))
  (MV 3 (BG (AA (AF Ak (nm 7) (nm 8)) AB)) ON)
  A2)
 (AL (Bp (Ao (Bv false) (nm 8) (fC (.int 10)))
  (MV 3 (BG (AA (nm 6) (AA (nm 6) AB))) ON)
  A2)
 (AL (Bp (Ao (Bv false) (nm 8) (fC (.int 11)))
  (MV 3 (BG (AA (nm 6) (AA (Aa (AA (AF Ap (Aa SL) (CG (nm 5) (Be AT) Bd)) (AA (Aa (AA AT SL)) AB))) AB))) ON)
  A2)
 (AL (Bp (Ao (Bv false) (nm 8) (fC (.int 12)))
  (Ed 3 (BG AB))
  A2)
 (AL (Bp (Ao (Bv false) (nm 8) (fC (.int 13)))
  (MV 3 (Aa (AA (nm 6) AB)) ON)
  A2)
 (AL (Bp (Ao (Bv false) (nm 8) (fC (.int 14)))
  (LB 3 (Al (AE Er KB)))
  A2)
 (AL (Bp (Ao (Bv false) (nm 8) (fC (.int 15)))
  (Al (AF Ak (BG (AA (BG AB) (AA (fC .none) (AA By (AA (fC (.str (Str.ofString "x"))) AB))))) (AF Cp (AF Ds Cb (fC (.int 16))) (fC (.int 4)))))
  A2)
 (Gb 3))))))))
def xD{cs:AAK}(l:cs.length=n)(ha:a<n)(M:∀d∈cs,d.canLay0=true)(I:y.canLay0=true)(h:Ko n y=false):(PyData.list (cs.set a y)).canLay0=true/\FI (.list (cs.set a y))=false :=
 ⟨GZ fun d hd=>by
  grind,tX l ha h⟩
abbrev FJ(n:Nat):List PD:=List.replicate n (.int 0)
def mC(n:Nat):AAK:=[.tuple [.tuple (FJ n++[.int 0]),pr 1 2],.tuple [.tuple (FJ (n-1)),pr 1 2],.tuple [.tuple (FJ n),pr 2 4],.tuple [.tuple (FJ n),pr 0 1],.tuple [.tuple (FJ n),.int 1],.tuple [.tuple (FJ n)],.tuple [.tuple (.int (-1)::FJ (n-1)),pr 1 2],.tuple [.tuple (.bool true::FJ (n-1)),pr 1 2],.tuple [.list (FJ n),pr 1 2],.none]
abbrev dQ(n:Nat):PD:=.tuple [.tuple (FJ n),pr 1 2]
def TU(n:Nat):Nat->PD
 |10=>.list [dQ n,dQ n]
 |11=>.list [dQ n,.tuple [.tuple (.int 1::FJ (n-1)),pr 1 1]]
 |13=>.tuple [dQ n]
 |j=>.list [(mC n).getD j .none]
def sR:∀(n:Fin 3) (j:Fin 14),j.val≠12->(TU (n.val+1) j.val).canLay0=true/\Ko ((n.val+1:Nat)) (TU (n.val+1) j.val)=false:=by decide
abbrev sB(c:PD)(x:Int)(n:Nat)(cs:List PD)(a j:Nat):Dv:=[.d c,.d (.int x),.d (.int n),.own (.lst cs),.d (.int a),.d (.tuple (FJ n)),.d (dQ n),.d (.list (mC n)),.d (.int j)]
def oX(I:j<14)(l:j≠12):Qk (sB c x 1 [c0] 0 j)=some (.rn ([c0].set 0 (TU 1 j))):=by
 rcases j with _|_|_|_|_|_|_|_|_|_|_|_|_|_|j
 all_goals first|lia|rfl
def qI(ha:a<2)(I:j<14)(l:j≠12):Qk (sB c x 2 [c0,c1] a j)=some (.rn ([c0,c1].set a (TU 2 j))):=by
 rcases a with _|_|a
 all_goals rcases j with _|_|_|_|_|_|_|_|_|_|_|_|_|_|j
 all_goals first|lia|rfl
def p9(ha:a<3)(I:j<14)(l:j≠12):Qk (sB c x 3 [c0,c1,c2] a j)=some (.rn ([c0,c1,c2].set a (TU 3 j))):=by
 rcases a with _|_|_|a
 all_goals rcases j with _|_|_|_|_|_|_|_|_|_|_|_|_|_|j
 all_goals first|lia|rfl
def uL(h1:1<=n)(Z:n<=3)(U:cs.length=n)(ha:a<n)(Y:j<14)(M:j≠12):Qk (sB c x n cs a j)=some (.rn (cs.set a (TU n j))):=by
 rcases(show n=1\/n=2\/n=3 by lia) with rfl|rfl|rfl
 .obtain⟨l,rfl⟩:∃l,cs=[l]:=match cs,U with|[l],_=>⟨l,rfl⟩
  obtain rfl:a=0:=by lia
  exact oX Y M
 .obtain⟨l,I,rfl⟩:∃l I,cs=[l,I]:=match cs,U with|[l,I],_=>⟨l,I,rfl⟩
  exact qI ha Y M
 .obtain⟨l,I,T,rfl⟩:∃l I T,cs=[l,I,T]:=match cs,U with|[l,I,T],_=>⟨l,I,T,rfl⟩
  exact p9 ha Y M
def xN(l:cs.length<=3):Qk (sB c x n cs a 12)=some (.rn (cs++[.list []])):=by
 refine AN rfl (AN rfl (AN rfl (AN (DR rfl (Hg rfl rfl (aP ‹_› AC))) ?_)))
 rfl
def wm:Qk (sB c x n cs a 14)=some (.rt (.tuple cs)):=rfl
def vq:∃d,Qk (sB c x n cs a 15)=some (.rt d)/\d.canLay0=true/\FI d=false:=by
 obtain⟨k,hk,l⟩:=Jm (b:=4) AC;have e:∀d,[PyData.list [],.none,.int 0,.str _][k]? = some d->Qk (sB c x n cs a 15)=some _:=fun d hd=>by
  refine AN rfl (AN rfl (AN rfl (AN rfl (AN rfl (AN rfl (Cq (DR rfl (CN (AQ (y:=.int _) rfl (AQ (AQ rfl rfl (div_is AC AC)) rfl (by rw[mod_is AC,<-l];rfl)) (FF hd))))))))))
 rcases k with _|_|_|_|k
 .exact⟨_,e _ rfl,rfl,rfl⟩
 .exact⟨_,e _ rfl,rfl,rfl⟩
 .exact⟨_,e _ rfl,rfl,rfl⟩
 .exact⟨_,e _ rfl,by kernel_rfl,rfl⟩
 .lia
abbrev xw:MD:=Ci GU
def qZ(I:uss.length<=3):GU [AO uss]=some (uss.map AG):=oH rfl (af _ (Kc rfl (aK ‹_› AC) fun us l=>rfl))
def sU{n:Nat}{uss}(T:1<=n)(M:n<=3)(l:uss.length=n)(x:Int){a j:Nat}(ea:x / 16 % (n:Int)=(a:Nat))(I:x % 16=(j:Nat)):JG GU [.d (AO uss),.d (.int x),.no,.no,.no,.no,.no,.no,.no]=Qk (sB (AO uss) x n (uss.map AG) a j):=by
 refine AN (AW (AJ (m:=BS) rfl (by show some (PyData.int ((uss.map AG).length:Nat))=_;rw[OF,l]))) ?_;refine AN (by show((some [AO uss]).bind GU).map _=_;rw[(C8),qZ AS];rfl) ?_;refine AN (AW (AQ (AQ rfl rfl (div_is AC AC)) rfl (by rw[mod_is AS,ea]))) ?_;rcases(show n=1\/n=2\/n=3 by lia) with rfl|rfl|rfl
 all_goals exact AN (AW rfl) (AN (AW rfl) (AN (AW rfl) (AN (AW rfl) (AN (AW (AQ rfl rfl (by rw[mod_is AC,I]))) rfl))))
def uU{n}(Y:1<=n)(U:n<=3)(T:uss.length=n) x:∃bad,xw [AO uss,.int x]=some bad/\(x % 16≠12->bad.canLay0=true/\FI bad=false):=by
 obtain⟨a,ha,ea⟩:=Jm (b:=n) AS;obtain⟨j,hj,Z⟩:=Jm (b:=16) AC;have e:=sU Y U T x ea Z;have hm:(uss.map AG).length=n:=by rw[OF];exact T
 by_cases M:j=14
 .subst M;exact⟨_,BC rfl (e.trans wm),fun _=>⟨VD (Gy uss),rfl⟩⟩
 by_cases I:j=15
 .subst I;obtain⟨d,k1,k2,k3⟩:=vq;exact⟨d,BC rfl (e.trans k1),fun _=>⟨k2,k3⟩⟩
 by_cases l:j=12
 .subst l;exact⟨_,EG rfl (e.trans (xN AS)),fun h=>absurd Z h⟩
 .refine⟨_,EG rfl (e.trans (uL Y U hm ha AS l)),fun _=>?_⟩;have k:=sR ⟨n-1,by lia⟩ ⟨j,by lia⟩ l;rw[show n-1+1=n by lia]at k;exact xD hm ha (Gy uss) k.1 k.2
def iq{n}{uss:GM}(M:1<=n)(I:n<=3)(l:uss.length=n):(PyData.list (uss.map AG++[.list [.tuple [.tuple (FJ n),pr 1 1]]])).canLay0=true/\FI (.list (uss.map AG++[.list [.tuple [.tuple (FJ n),pr 1 1]]]))=false:=by
 refine⟨GZ fun d hd=>?_,sy (aY _ Ch) ?_⟩
 .rcases aX.mp hd with h|h
  .exact Gy uss d h
  .rw[List.mem_singleton.mp h];rcases(show n=1\/n=2\/n=3 by lia) with rfl|rfl|rfl<;>rfl
 .rw[(show(uss.map AG++[PyData.list [.tuple [.tuple (FJ n),pr 1 1]]]).length=n+1 by rw[(Ca),OF,l];rfl)];rcases(show n=1\/n=2\/n=3 by lia) with rfl|rfl|rfl<;>decide
def wH(fs:AAK):AAK:=[.list (fs++[pr 0 1]),.list fs.dropLast,.tuple fs,.none,.list (fs.dropLast++[pr 2 4]),.list (fs.dropLast++[.int 1]),.list (fs.dropLast++[pr 1 0])]
def ox(U:rs.length=n)(Z:1<=n)(Y:j<7):∃d,(wH (AH rs))[j]? = some d/\d.canLay0=true/\EC d n=false:=by
 have hf:(AH rs).length=n:=by unfold AH;rw[OF];exact U
 have hd:(AH rs).dropLast.length=n-1:=by rw[List.length_dropLast,hf]
 have M:=fun e l=>Gr rs e (List.dropLast_subset _ l);have I:∀y:PD,y.canLay0=true->(PyData.list _).canLay0=true:=fun y T=>GZ fun e l=>by
  rcases aX.mp l with h|h
  .exact M e h
  .rw[List.mem_singleton.mp h];exact T
 rcases j with _|_|_|_|_|_|_|j
 .refine⟨_,rfl,GZ fun e l=>?_,gB (by rw[(Ca),hf];show n+1≠n;lia)⟩;rcases aX.mp l with h|h
  .exact Gr rs e h
  .rw[List.mem_singleton.mp h];rfl
 .exact⟨_,rfl,GZ M,gB AS⟩
 .exact⟨_,rfl,VD (Gr rs),by rfl⟩
 .exact⟨_,rfl,rfl,by rfl⟩
 .exact⟨_,rfl,I _ rfl,cJ (aY _ Ch) AC⟩
 .exact⟨_,rfl,I _ rfl,cJ (aY _ Ch) AC⟩
 .exact⟨_,rfl,I _ rfl,cJ (aY _ Ch) AC⟩
 .lia
def K4(c:Nat):AD->Option Bool:=fun(C:Nat)=>if C=61 then some (decide (61=c)) else if C=73 then some (decide (73=c)) else if C=85 then some (decide (85=c)) else none
def gp:AD->Option Bool:=fun(C:Nat)=>if C=61\/C=73\/C=85 then some true else none
def VG(T:DQ K 61)(M:DQ K 73)(I:DQ K 85)(k1:PySem.W.kitOne K (.ref 61) (D9 l)=some (decide (61=c)):=by kernel_rfl)(k2:PySem.W.kitOne K (.ref 73) (D9 l)=some (decide (73=c)):=by kernel_rfl)(k3:PySem.W.kitOne K (.ref 85) (D9 l)=some (decide (85=c)):=by kernel_rfl):∀C z,K4 c C=some z->DQ K C/\PySem.W.kitOne K Re (D9 l)=some z:=fun C z h=>by
 unfold K4 at h
 lia
def vp(T:DQ K 61)(M:DQ K 73)(I:DQ K 85)(k1:PySem.W.kitOne K (.ref 61) (D9 l)=some true:=by kernel_rfl)(k2:PySem.W.kitOne K (.ref 73) (D9 l)=some true:=by kernel_rfl)(k3:PySem.W.kitOne K (.ref 85) (D9 l)=some true:=by kernel_rfl):∀C z,gp C=some z->DQ K C/\PySem.W.kitOne K Re (D9 l)=some z:=fun C z h=>by
 unfold gp at h
 lia
abbrev refs:List AD:=[61,73,85]
abbrev oG:List PD->Option Xr:=only refs (Dq Ow ma Xq Y5 uS gn RM Kw PF W9 (CJ Ae) V3)
abbrev oF:List PD->Option Xr:=only refs (B3 YY mn Xq Y5 gR Kw PF W9 WQ)
abbrev mK:MD:=CI oF oG (K4 61) (K4 73) (K4 49) (K4 85) gp
def Mo(C:Nat):PD:=.list [.bool (decide (C=61)),.bool (decide (C=73)),.bool (decide (C=85)),.bool false,.bool true]
section
variable{c s w y:PD}{C:Nat}
def YV(h:(if wh then oG [c,s,w] else oF [c,w]).map (fun z=>match z with|.inl _=>none|.inr C=>some C)=some r):Nu (Zb (CU (nm 3)) (Nu (OC oG (AA CF (AA Cb (AA EQ AB)))) MT) (Nu (OC oF (AA CF (AA EQ AB))) MT)) MT [.d c,.d s,.d w,.d (.bool wh),.d .none,.no,.no]=some r:=by
 have hb:∀o:Option Xr,o.map _=some r->((o.map (fun z=>match z with|.inl _=>none|.inr C=>some C)).bind fun r=>match r with|none=>MT [.d c,.d s,.d w,.d (.bool wh),.d .none,.no,.no]|some C=>some (some C))=some r:=fun o e=>by
  rw[e];cases r<;>rfl
 show(Zb _ _ _ _).bind _=_;rw[(show Zb _ _ _ [.d c,.d s,.d w,.d (.bool wh),.d .none,.no,.no]=some r by
  cases wh with
  |true=>exact hb _ h
  |false=>exact hb _ h)];cases r<;>rfl
def RJ{wh:Bool}(h:(if wh then oG [c,s,w] else oF [c,w])=some (.inr C))(l:C=61\/C=73\/C=85):mK [c,s,w,.bool wh]=some (Mo C):=by
 refine BC rfl (AN (AW rfl) (AN (jD (YV (by rw[h];rfl)) rfl) ?_));rcases l with rfl|rfl|rfl<;>kernel_rfl
def lq{wh:Bool}(h:(if wh then oG [c,s,w] else oF [c,w])=some (.inl y)):mK [c,s,w,.bool wh]=some (.list []):=BC rfl (AN (AW rfl) (AN (k9 (YV (by rw[h];rfl))) (Cq (DR rfl rfl))))
abbrev w3:PD:=.list [pr 0 1,pr 0 1,pr 0 1]
def iz(T:(PyData.list cs).canLay0=true)(h:FI (.list cs)=true)(M:s.canLay0=true)(I:EC s cs.length=false):oG [.list cs,s,w]=some (.inr 73) :=
 Lc (G5 rfl (II (Dz rfl (Nk T h)) (Ld (Gn rfl ((by
   unfold EC at I;cases l:Ih s with
   |false=>
    refine G5 rfl ?_;unfold EZ;exact(cQ (Og (C3 (C7 (AJ rfl (jP M l))))) (Gn rfl nQ))
   |true=>
    rw[l]at I;cases s with
    |list ss=>
     have U:=bN I;refine G5 rfl ?_;unfold EZ;refine(cQ (Ka (C3 (C7 (AJ rfl (jP M l)))) (Bu rfl rfl ?_)) (Gn rfl nQ));rw[OM,decide_eq_false AS];rfl
    |none=>rfl
    |bool _=>rfl
    |int _=>rfl
    |str _=>rfl
    |tuple _=>rfl
    |dict _=>simp[Ih]at l)))))) (.tail _ Ch)
def zL(I:(PyData.list cs).canLay0=true)(h:FI (.list cs)=true)(l:s.canLay0=true)(M:EC s cs.length=true):oG [.list cs,s,w3]=some (.inr 85) :=
 Lc (G5 rfl (II (Dz rfl (Nk I h)) (II (Dz rfl (fH l M)) (Ld (Gn rfl IF))))) (.tail _ (.tail _ Ch))
def yQ(l:c.canLay0=true)(h:FI c=true):oF [c,w3]=some (.inr 85) :=
 Lc (G5 rfl (II (Dz rfl (Nk l h)) (Ld (Gn rfl IF)))) (.tail _ (.tail _ Ch))
end
def mQ(K:Fg)(a:AD)(ns:AAS):Bool:=match K.lookup a with
 |some o=>(match o.cls with|.type n=>n == "tuple" |_=>false)&&o.dict.isNone&&(match o.data with
  |.seq l _=>decide (l.size<=1000)&&decide (l.toList.map WG=ns.map fun i=>some (V.int i))
  |_=>false)
 |none=>false
theorem XX:∀ {ns:List Int} {us},us.map WG=ns.map (fun i=>some (V.int i))->Vals (ns.map V.int) us
 |[],[],_=>.nil
 |[],u::us,h=>by simp at h
 |n::ns,[],h=>by simp at h
 |n::ns,u::us,h=>by
  rw[(BM),(BM),List.cons.injEq]at h;refine .cons ?_ (XX h.2);cases u with
  |int i t=>
   have:=h.1;simp[WG]at this;subst this;exact⟨t,rfl⟩
  |_=>have:=h.1;simp[WG]at this
def uM(h:mQ K a ns=true):Own K a ns:=by
 unfold mQ at h;split at h
 .rename_i o e;rw[(HG),(HG)]at h;obtain⟨⟨M,U⟩,l⟩:=h;have T:o.cls=.type "tuple" := by
   split at M
   .simp_all
   .cases M
  have Z:=by simpa using U
  split at l
  .rename_i I n Y;rw[(HG),decide_eq_true_eq,decide_eq_true_eq]at l;exact⟨fun H=>.inr ⟨o,I,n,e,T,Y,Nat.le_trans l.1 AC,XX l.2⟩,o,e,T,Z⟩
  .cases l
 .cases h
def jV(h:g δ=some (.int (p:Nat)))(o:ow i δ=some xs)(k:xs[p]? = some y):gJ i g δ=some y:=by
 show(g δ).bind _=_;rw[h,o];exact FF k
def Vm(h:f δ=some (.list R)):CG f Bd (Be (Iu AT)) δ=some (.list R.dropLast):=by
 show(f δ).bind _=_;rw[h];show some _=_;unfold cutD;rw[HT.MX,List.drop_zero,Nat.sub_zero,show HT.CA R.length R.length _=(-1+_).toNat by rfl,show(-1+(R.length:Int)).toNat=R.length-1 by lia,List.dropLast_eq_take]
abbrev uu:MD:=mI xw A4 xx mK x8
def mL:Bv true (Mo 61) (Mo 61)=some (.bool false):=by rfl
def vF(ns:AAS):uu [B7 ns]=some Iz:=by
 obtain⟨n,uss,Z,Y,U,hu,e1⟩:=dh ns;obtain⟨rs,rl,rf,e2⟩:=lV ns Y;have g:=wB Z Y U hu rl rf;obtain⟨x,hx⟩:=Od ns 5;obtain⟨bad,e4,hb⟩:=uU Z Y U x;obtain⟨j7,hj7,ej7⟩:=Jm (x:=x / 64) (b:=7) AC;obtain⟨l,e6,l1,l2⟩:=ox rl Z hj7;obtain⟨yg,eg⟩:=g.gr;obtain⟨yf,ef⟩:=g.fl;have cu:(AO uss).canLay0=true:=GZ (Gy uss);have cf:(PyData.list (AH rs)).canLay0=true:=GZ (Gr rs);have hm:(uss.map AG).length=n:=by rw[OF];exact U
 have hf:(AH rs).length=n:=by unfold AH;rw[OF];exact rl
 have sk:=g.xy;have en:∀δ:Dv,nm 1 δ=some (AO uss)->AE BS SC δ=some (.int (n:Nat)):=fun δ h=>AJ (m:=BS) (xs:=[AO uss]) (AK h rfl) (by show some (PyData.int ((uss.map AG).length:Nat))=_;rw[hm]);refine BC rfl ?_;unfold lz;refine AN (AW (AJ (xs:=[B7 ns,.int 0,.int 3]) rfl e1)) ?_;refine AN (AW (AJ (xs:=[B7 ns,.int 4,.int (n:Nat)]) (AK rfl (AK rfl (AK (en _ rfl) rfl))) e2)) ?_;refine AN (AW (y:=.int x) (AJ (xs:=[B7 ns,.int ((5:Nat):Int)]) rfl hx)) ?_;refine AN (AW (y:=bad) (AJ (xs:=[AO uss,.int x]) rfl e4)) ?_;have lst:∀(y:PD) (δ:Dv),nm 2 δ=some Kb->∀f:Dv->Option PD,f δ=some (.list [y])->AF Ap (CG EQ Bd (Be (Iu AT))) f δ=some (.list ((AH rs).dropLast++[y])):=fun y δ h f M=>AQ (x:=.list (AH rs).dropLast) (y:=.list [y]) (Vm h) M (add_l (by rw[List.length_dropLast,hf];show n-1+1<=1000;lia));have T:Ap Kb (.list [pr 0 1])=some (.list (AH rs++[pr 0 1])):=add_l (by rw[hf];show n+1<=1000;lia)
 let six:List PD:=[.list (AH rs++[pr 0 1]),.list (AH rs).dropLast,.tuple (AH rs),.none,.list ((AH rs).dropLast++[pr 2 4]),.list ((AH rs).dropLast++[.int 1])]
 refine AN (δ':=[.d (B7 ns),.d (AO uss),.d Kb,.d (.int x),.d bad,.own (.lst six),.no,.no]) ?_ ?_
 .have e5:(AA (AF Ap EQ (BG (AA (Aa (AA By SL)) AB))) (AA (CG EQ Bd (Be (Iu AT))) (AA (AE Er (AA EQ AB)) (AA (fC .none) (AA (AF Ap (CG EQ Bd (Be (Iu AT))) (BG (AA (Aa (AA (fC (.int 2)) (AA (fC (.int 4)) AB))) AB))) (AA (AF Ap (CG EQ Bd (Be (Iu AT))) (BG SL)) AB)))))) [.d (B7 ns),.d (AO uss),.d Kb,.d (.int x),.d bad,.no,.no,.no]=some six :=
   AK (AQ (x:=.list (AH rs)) (y:=.list [pr 0 1]) rfl rfl T) (AK (Vm rfl) (AK rfl (AK rfl (AK (lst (pr 2 4) _ rfl _ rfl) (AK (lst (.int 1) _ rfl _ rfl) rfl)))))
  exact(af (fun o:Option (List PD)=>(o.bind BA).map fun ys=>Ou.nx (List.set [.d (B7 ns),.d (AO uss),.d Kb,.d (.int x),.d bad,.no,.no,.no] 5 (.own Ix))) e5).trans rfl
 refine AN (Hg (y:=.list ((AH rs).dropLast++[pr 1 0])) (xs:=six) (lst (pr 1 0) _ rfl _ rfl) rfl (by show 6<1000;decide)) ?_;refine AN (AW (y:=l) (jV (p:=j7) (xs:=six++[.list ((AH rs).dropLast++[pr 1 0])]) (AQ (x:=.int (x / 64)) (y:=.int 7) (AQ (x:=.int x) (y:=.int 64) rfl rfl (div_is AC AC)) rfl (by rw[mod_is AC,<-ej7];rfl)) rfl e6)) ?_;obtain⟨bd,cb,kb,eb⟩:∃bd:PD,bd.canLay0=true/\FI bd=false/\Bp (Ao (Bv false) (AF Cp (nm 3) (fC (.int 16))) (fC (.int 12))) (AX 4 (AF Ap (nm 1) (BG (AA (BG (AA (Aa (AA (AF GW (Aa (AA (fC (.int 0)) AB)) (AE BS (AA (nm 1) AB))) (AA (Aa (AA (fC (.int 1)) (AA (fC (.int 1)) AB))) AB))) AB)) AB)))) A2 [.d (B7 ns),.d (AO uss),.d (.list (AH rs)),.d (.int x),.d bad,.own (.lst (six++[.list ((AH rs).dropLast++[pr 1 0])])),.d l,.no]=some (.nx [.d (B7 ns),.d (AO uss),.d (.list (AH rs)),.d (.int x),.d bd,.own (.lst (six++[.list ((AH rs).dropLast++[pr 1 0])])),.d l,.no]):=by
  have ec:Ao (Bv false) (AF Cp (nm 3) (fC (.int 16))) (fC (.int 12)) [.d (B7 ns),.d (AO uss),.d Kb,.d (.int x),.d bad,.own (.lst (six++[.list ((AH rs).dropLast++[pr 1 0])])),.d l,.no]=some (decide (x % 16=12)):=Bu (x:=.int (x % 16)) (y:=.int 12) (AQ (x:=.int x) (y:=.int 16) rfl rfl (mod_is AC)) rfl (IB _ _);by_cases z:x % 16=12
  .rw[decide_eq_true z]at ec;obtain⟨k1,k2⟩:=iq Z Y U;refine⟨_,k1,k2,DR ec (AW (AQ (x:=AO uss) (y:=.list [.list [.tuple [.tuple (FJ n),pr 1 1]]]) rfl ?_ (add_l (by rw[hm];show n+1<=1000;lia))))⟩;have et:AF GW (Aa (AA By AB)) (AE BS SC) [.d (B7 ns),.d (AO uss),.d Kb,.d (.int x),.d bad,.own (.lst (six++[.list ((AH rs).dropLast++[pr 1 0])])),.d l,.no]=some (.tuple (FJ n)):=AQ (x:=.tuple [.int 0]) (y:=.int (n:Nat)) rfl (en _ rfl) (by rcases(show n=1\/n=2\/n=3 by lia) with rfl|rfl|rfl<;>rfl);exact Yo (AK (Yo (AK (Dg (xs:=[.tuple (FJ n),pr 1 1]) (AK et rfl) (by show 2<=1000;decide)) rfl) (by show 1<=1000;decide)) rfl) (by show 1<=1000;decide)
  .rw[decide_eq_false z]at ec;obtain⟨k1,k2⟩:=hb z;exact⟨bad,k1,k2,EI ec rfl⟩
 refine AN eb ?_;refine AN (EI (Bu (x:=Mo 61) (y:=Mo 61) (AJ (xs:=[bd,l,w3,.bool true]) rfl (RJ (Lc (G5 rfl (Ld (Gn rfl (iR cb kb)))) Ch) (.inl rfl))) rfl mL) rfl) ?_;refine AN (EI (Bu (x:=Mo 61) (y:=Mo 61) (AJ (xs:=[bd,.list (AH rs),w3,.bool false]) rfl (RJ (wh:=false) (Lc (G5 rfl (Ld (Gn rfl (iR cb kb)))) Ch) (.inl rfl))) rfl mL) rfl) ?_;refine AN (EI (Bu (x:=Mo 73) (y:=Mo 73) (AJ (xs:=[AO uss,l,w3,.bool true]) rfl (RJ (iz cu g.good l1 (by rw[hm];exact l2)) (.inr (.inl rfl)))) rfl IF) rfl) ?_;refine IG (xs:=[.bool true,.bool false]) (fun _ δ=>∃t,δ=[.d (B7 ns),.d (AO uss),.d Kb,.d (.int x),.d bd,.own (.lst (six++[.list ((AH rs).dropLast++[pr 1 0])])),.d l,t]) rfl ⟨_,rfl⟩ ?_ ?_
 .rintro i y δ M ⟨t,rfl⟩;obtain⟨I,rfl⟩:∃I:Bool,y=.bool I:=by
   rcases i with _|_|i
   .cases M;exact⟨_,rfl⟩
   .cases M;exact⟨_,rfl⟩
   .simp at M
  have k85:mK [AO uss,.list (AH rs),w3,.bool I]=some (Mo 85):=by
   cases I with
   |true=>exact RJ (zL cu g.good cf sk) (.inr (.inr rfl))
   |false=>exact RJ (wh:=false) (yQ cu g.good) (.inr (.inr rfl))
  have Mj:mK [AO uss,.list (AH rs),Bw,.bool I]=some (.list []):=by
   cases I with
   |true=>exact lq (Zj eg)
   |false=>exact lq (wh:=false) (Zj ef)
  refine⟨_,rfl,_,AN (EI (Bu (x:=Mo 85) (y:=Mo 85) (AJ (xs:=[AO uss,.list (AH rs),w3,.bool I]) rfl k85) rfl IF) rfl) (EI (Bu (x:=.list []) (y:=.list []) (AJ (xs:=[AO uss,.list (AH rs),Bw,.bool I]) rfl Mj) rfl IF) rfl),_,rfl⟩
 .rintro δ ⟨t,rfl⟩
  rfl
def nr(K:Fg):Sp:=fun vs H Q _=>∃(a:AD) (ns:List Int),vs=[.ref a]/\Am K H a (ns.map V.int)/\ns.length<=63/\∀H',Q (.bl true) H'
def qz(I:cS K=true)(F:Ah P w K mg base Ag k f fd ["_law_script"] (A1 uu)):Ah P w K mg base Ag k f fd ["_law_script"] (nr K) :=
 F.imp fun vs H Q E z=>by
  obtain⟨a,ns,rfl,l,hn,q⟩:=z;refine⟨[B7 ns],.bool true,H,vF ns,.cons (tf (uI I l)) .nil,.refl _,fun v G' H' _ _ _ _ M=>?_⟩;subst M
  grind
set_option hygiene false in
local macro_rules|`(tactic| walk_at "g")=>`(tactic| first
 |((with_reducible show DE _ _ _);first
  |exact Dp (pv _)
  |exact q9
  |exact wY
  |exact WD
  |exact gf
  |refine' mh ?_ ?_ ?_
  |refine' xS ?_ ?_ (fun _ _=>rfl)
  |refine' jI (pv _) ?_ (fun _ _=>rfl)
  |refine' jm (by have:=hr.units;exact this) ?_ ?_ (fun _ _=>rfl)
  |refine' pE (tF (by have:=hr.units;exact this)) (pv _) ?_ (fun _ _=>rfl)
  |refine' lE ?_ ?_ ?_
  |refine' rB ?_ ?_
  |refine' tK ?_
  |refine' RG ?_
  |refine' ue ?_
  |refine' su ?_
  |refine' vL ?_ ?_ ?_ (E6 _)
  |refine' uz ?_ ?_
  |refine' de_or ?_ ?_
  |refine' ua ?_
  |refine' Y1 Z9 ?_ ?_ (fun _ _ _ _ _=>?_) (fun _ _ _ _ _=>?_) rfl rfl rfl rfl (fun _=>rfl)
  |refine' Y1 (uP rfl (by decide)) ?_ ?_ (fun _ _ _ _ _=>?_) (fun _ _ _ _ _=>?_) rfl rfl rfl rfl (fun _=>rfl)
  |refine' Jt sf rfl (xJ O) PySem.boot_len ?_
  |refine' Jt dc_abs rfl (JO O) bc ?_
  |refine' Jt (rK rfl) rfl (VF O) PyProof.Rows.boot_sum ?_
  |refine' Jt (uV rfl) rfl (vg O) PyProof.Rows.boot_max ?_
  |refine' Jt (pj Fa) rfl (FY O) PyProof.Rows.boot_sorted ?_
  |refine' Tq jd rfl (Yl O) PyProof.Rows.boot_tuple ?_
  |refine' Tq oJ rfl (gT O) PyProof.Rows.boot_list ?_
  |refine' ky (by have:=hr.units;exact this) rfl (FY O) ?_ (fun h=>jG Fa rfl (FY O) h)
  |refine' Zx rfl Fa rfl (FY O) rfl (xl O) ?_
  |exact lY Fa rfl rfl (FY O) (pv _)
  |refine' lG (tF Fa) (pv _) ?_ ?_
  |refine' Qx (jO _) rfl (Ba O) rfl (Yl O) PyProof.Rows.boot_tuple ?_
  |refine' Qx (j9 _) rfl (Ba O) rfl (gT O) PyProof.Rows.boot_list ?_
  |refine' Qx (jS _) rfl (Ba O) rfl (vz O) PyProof.Rows.boot_int ?_
  |refine' Qx (dj _) rfl (Ba O) rfl (uk O) PyProof.Rows.boot_bool ?_
  |refine' Jq (by assumption) (fun z=>nomatch z) rfl (Ba O) (Gu rfl Ev rfl) ?_
  |refine' Jq (by assumption) (fun z=>nomatch z) rfl (Ba O) (SN rfl (HL O) PyProof.Rows.Boot.«ValueError» rfl) ?_
  |refine' fI ?_ rfl Ev Ev
  |exact jk rfl Ev
  |refine' ZM (At.t Ev) (At.up Ev (by first|exact aq rfl|lia)) hr rfl ?_
  |refine' ZM (At.t Ev) (xC (At.up Ev (by first|exact aq rfl|lia))) hr rfl ?_
  |refine' kE (At.t Ev) (At.up Ev (by first|exact aq rfl|lia)) hr rfl ?_
  |refine' pL _ ?_)
 |((with_reducible show DA _ _ _);first
  |exact Lv
  |refine' Ea ?_ ?_)
 |((with_reducible show fG _ _ _ _);first
  |exact pQ (pv _)
  |refine' lF ?_ ?_)
 |((with_reducible show DO _ _ _);first
  |exact qr
  |refine' oz ?_)
 |((with_reducible show DH _ _ _);first
  |exact hW
  |exact pT
  |exact dq
  |exact qv
  |exact qy
  |exact oM
  |exact ik
  |exact xM Fa
  |exact xb Fa
  |exact wg
  |exact wI
  |exact vG Fa
  |exact xc
  |exact do_le
  |exact nZ
  |exact do_isnot
  |exact pV Fa)
 |((with_reducible show DT _ _ _);first
  |refine' ia ?_ ?_ ?_ (E6 _)
  |refine' uO ?_
  |refine' eW WS ?_ rfl Ev Ev
  |refine' eW op_in_seq ?_ rfl Ev Ev
  |refine' dr ?_
  |refine' DW.dt ?_)
 |((with_reducible show DW _ _ _);first
  |refine' wt ?_ ?_
  |refine' sx ?_ ?_
  |refine' um ?_)
 |((with_reducible show eO _ _ _);first
  |exact qw
  |refine' qW ?_)
 |((with_reducible show DI _ _ _ _);first
  |refine' ib rfl (Zf O) ?_
  |refine' eh rfl (Zf O) ?_
  |refine' sN rfl (VW O) ?_
  |refine' qh rfl (FD O) ?_
  |refine' lB rfl (FD O) ?_
  |refine' rE ?_)
 |((with_reducible show iD _ _ _ _ _);first|exact zO Eo|exact yS Eo Eo rfl)
 |((with_reducible show DG _ _ _);first
  |exact qG (Df sc.nd IF Hq)
  |exact vP (Nt rfl (EU (Df sc.nd IF Hq) (EU (Df sc.nd IF Hq) LV))))
 |((with_reducible show Ku _ _ _);first
  |exact ZF
  |refine' OG ?_
  |refine' Ju ?_ ?_)
 |((with_reducible show W3 _ _ _ _);first
  |refine' pS ?_
  |refine' jW ?_ ?_)
 |((with_reducible show DS _ _ (LB _ _));refine' uQ _ ?_)
 |((with_reducible show DS _ _ _);first
  |refine' QK sc.nd IF Hq ?_
  |refine' sD sc.nd IF Hq ?_
  |refine' Rk Z9 ?_ ?_ (fun _ _ _ _ _=>?_) (fun _ _ _ _ _=>?_) rfl rfl rfl rfl (fun _=>rfl) sc.nd IF IF IF
  |refine' Rk (uP rfl (by decide)) ?_ ?_ (fun _ _ _ _ _=>?_) (fun _ _ _ _ _=>?_) rfl rfl rfl rfl (fun _=>rfl) sc.nd IF IF IF
  |refine' ds_ownC Z9 ?_ ?_ (fun _ _ _ _ _=>?_) (fun _ _ _ _ _=>?_) rfl rfl rfl rfl (fun _=>rfl) sc.nd IF IF IF
  |refine' oT (At.t Ev) (At.up Ev (by first|exact aq rfl|lia)) hr rfl ?_ sc.nd IF Hq
  |exact qJ sc.nd IF Hq
  |exact sQ sc.nd IF Hq
  |exact pN Ev sc.nd IF Hq
  |refine' rH bF rfl ?_ ?_ ?_
  |refine' nI ?_ ?_ ?_
  |refine' ds_while _ bF ?_ ?_
  |exact oP (pv _)
  |refine' pP Z9 ?_ ?_ (fun _ _ _ _ _=>?_) (fun _ _ _ _ _=>?_) rfl rfl rfl rfl (fun _=>rfl)
  |refine' Vd ?_
  |exact pG
  |refine' fE (pv _) ?_ (fun ho ha=>Hy (Qu PySem.F.plainAttrs_list PySem.F.slot_list_append PySem.F.type_list_append Kl ho ha))
  |refine' gc (pv _) ?_ (fun ho ha=>Hy (Qu PySem.F.plainAttrs_list PySem.F.slot_list_extend PySem.F.type_list_extend f7 ho ha))
  |refine' sY (pv _) ?_ ?_ (fun h1 h2 h3=>QX h1 (Qv h2 h3 set_list))
  |refine' jF (pv _) ?_ ?_ (fun h1 h2 h3=>QX h1 (Qv h2 h3 (XH Fa)))
  |refine' qD (pv _) ?_ ?_ (fun h1 h2 h3=>qT (tF Fa) h2 h3 h1 rfl)
  |refine' qt ?_)
 |((with_reducible show N7 _ _ _ _);first
  |exact oQ
  |refine' sj ?_
  |refine' qA ?_
  |refine' jK ?_ ?_)
 |((with_reducible show DX _ _ _ _);first
  |refine' pX (At.t (by assumption)) (At.up (by assumption) (by first|exact aq rfl|lia)) hr VC ?_ (fun h=>Hy h)
  |exact jB (At.t (by assumption)) (At.up (by assumption) (by first|exact aq rfl|lia)) hr VC (fun h=>Hy h)
  |refine' rJ (At.t Ev) (At.up Ev (by first|exact aq rfl|lia)) hr VC ?_ sc.nd Hq
  |refine' oS ?_ sc.nd Hq
  |exact jf Ev vv gf
  |refine' v7 ?_ ?_ ?_
  |refine' uj PassesOwn.leaving rfl ?_ ?_ ?_
  |refine' v5 ?_)
 |((with_reducible show ny _ _ _ _);first
  |refine' ig (At.t Ev) (At.up Ev (by first|exact aq rfl|lia)) hr VC ?_)
 |((with_reducible show fw _ _ _ _);first
  |refine' kO ?_ ?_
  |refine' rZ ?_))
section
open PySem.W
noncomputable abbrev sZ(n:String)(i:Nat)(m:String×Nat)(c:Nat):F0a:=fnOf (Str.ofString n) (Str.ofString n) (HD (top i)) (CO (top i)) (AZ (top i)) .none .none .none (.str (Str.ofString m.1) m.2) none (.ref c) .none
abbrev Op(w:F0c)(mg:Str->Option VL):Prop:=∃h ,(kH w.params).In h/\h.Ns mainGlobals mg
abbrev Ax(w:F0c)(mg:Str->Option VL)(base:Heap)(n:String)(i:Nat)(m:String×Nat)(c:Nat)(ps:List Str)(CX:Jo)(k:Nat)(sp:Sp):Prop:=At Ey.prog w IR mg base (Str.ofString n) (top i) ps (c+1) (sZ n i m c) CX k sp
variable{w:F0c}{mg:AAO}{base:Heap}
def GR:DQ IR 61:=by constructor<;>kernel_rfl
def Hf:DQ IR 73:=by constructor<;>kernel_rfl
def E8:DQ IR 85:=by constructor<;>kernel_rfl
def bb:∀C ,C∈refs->HE IR C 24 true:=fun C h=>by
 rcases aO.mp h with rfl|h
 .constructor<;>kernel_rfl
 rcases aO.mp h with rfl|h
 .constructor<;>kernel_rfl
 rw[List.mem_singleton.mp h];constructor<;>kernel_rfl
def EN:Own IR 403 [0,1,2,4,8,17,37,85]:=uM IF
variable(O:Op w mg)
include O
theorem fnX n i m (c:Nat) ps
  (ha:nsIn IR mainGlobals (Str.ofString n)=some (some (.ref (c+1))):=by kernel_rfl) (l:(kH w.params).lookup (c+1)=some (fO n i m.1 m.2 c):=by kernel_rfl) (I:codeIn IR (.ref c) (Str.ofString n)=true:=by kernel_rfl) (hk:keepIn IR (.ref (c+1))=true:=by kernel_rfl)
  (hb:∀kV doc pm an cdv ct us,us.length=ps.length->bindArgs (fnOf (Str.ofString n) (Str.ofString n) (HD (top i)) (CO (top i)) (AZ (top i)) .none kV doc pm an cdv ct) ⟨us,[]⟩=pure (ps.zip us):=by first|(exact fun _ _ _ _ _ _ us l=>match us,l with|[_],_=>rfl)|(exact fun _ _ _ _ _ _ us l=>match us,l with|[_,_],_=>rfl)|(exact fun _ _ _ _ _ _ us l=>match us,l with|[_,_,_],_=>rfl)|(exact fun _ _ _ _ _ _ us l=>match us,l with|[_,_,_,_],_=>rfl)|(exact fun _ _ _ _ _ _ us l=>match us,l with|[_,_,_,_,_],_=>rfl)|(exact fun _ _ _ _ _ _ us l=>match us,l with|[],_=>rfl)) :
  Fn IR mg (Str.ofString n) (top i) ps (c+1) (sZ n i m c) :=
 let⟨_,X,G⟩:=O
 ⟨eI l I hk,(eI l I hk).binds hb,mg_of X G ha⟩
theorem UC n v (e:nsIn IR mainGlobals (Str.ofString n)=some (some v):=by kernel_rfl):mg (Str.ofString n)=some v:=let⟨_,X,G⟩:=O;mg_of X G e
theorem Jn n (e:nsIn IR mainGlobals (Str.ofString n)=some none:=by kernel_rfl):mg (Str.ofString n)=none:=let⟨_,X,G⟩:=O;mg_none_of X G e
theorem mE{n:String}{i:Nat}{m:String×Nat}{c:Nat}{N ps:AAT}{k:Nat}{F:DF}(hb:BX N ps (AZ (top i))->∀(cdv:VL) (A:F0d) (outer:List Env) (s:SD) (H:Hp) (E:XK),Bq k (A.deeper (PyProof.Rows.envOfC (Str.ofString n) (AZ (top i)) s.heap.objs.size (c+1) cdv))->Ku (B8 Ag Ey.prog w IR mg base N (Str.ofString n) (AZ (top i)) (c+1) cdv A outer s H E).GF (CO (top i)) F) (T:Fn IR mg (Str.ofString n) (top i) ps (c+1) (sZ n i m c):=by exact fnX Ev _ _ _ _ _)(S:BX N ps (AZ (top i)):=by exact Dx):Ax w mg base n i m c ps Ag (k+1) (A1 (A0 ps N F)):=W8 T S hb
theorem xJ:mg "len" = none:=Jn O "len"
theorem Zf:mg "range" = none:=Jn O "range"
theorem JO:mg "abs" = none:=Jn O "abs"
theorem Ba:mg "isinstance" = none:=Jn O "isinstance"
theorem vz:mg "int" = none:=Jn O "int"
theorem uk:mg "bool" = none:=Jn O "bool"
theorem Yl:mg "tuple" = none:=Jn O "tuple"
theorem gT:mg "list" = none:=Jn O "list"
theorem FD:mg "enumerate" = none:=Jn O "enumerate"
theorem VF:mg "sum" = none:=Jn O "sum"
theorem VW:mg "zip" = none:=Jn O "zip"
theorem FY:mg "sorted" = none:=Jn O "sorted"
theorem vg:mg "max" = none:=Jn O "max"
theorem HL:mg "ValueError" = none:=Jn O "ValueError"
theorem xl:mg "set" = none:=Jn O "set"
theorem KH:mg "GroveError" = some (.ref 24):=UC O "GroveError" _
theorem Ma:mg "NoTree" = some (.ref 49):=UC O "NoTree" _
theorem JW:mg "NoChange" = some (.ref 61):=UC O "NoChange" _
theorem Ki:mg "NoStart" = some (.ref 73):=UC O "NoStart" _
theorem HV:mg "NoWeighing" = some (.ref 85):=UC O "NoWeighing" _
theorem dY:mg "TooMany" = some (.ref 97):=UC O "TooMany" _
theorem He:mg "MOST_KNOTS" = some (.int 7 512):=UC O "MOST_KNOTS" _
theorem EL:mg "WEIGHING_LENGTHS" = some (.ref 403):=UC O "WEIGHING_LENGTHS" _
theorem Qa:Exc IR mg "NoChange" 61:=⟨JW O,by kernel_rfl⟩
theorem Ug:Exc IR mg "NoStart" 73:=⟨Ki O,by kernel_rfl⟩
theorem NY:Exc IR mg "NoWeighing" 85:=⟨HV O,by kernel_rfl⟩
theorem Vg:Exc IR mg "NoTree" 49:=⟨Ma O,by kernel_rfl⟩
theorem Kn:Exc IR mg "TooMany" 97:=⟨dY O,by kernel_rfl⟩
def E3:=fnX O "fraction_of" 9 Ez 105 ["top","bottom"]
def Bg:=fnX O "greatest_divisor" 15 Ez 147 Os
def FO:=fnX O "common_bottom" 16 Ez 154 ["bottoms"]
def Dr:=fnX O "frac_total" 17 Ez 159 ["some"]
def Fz:=fnX O "power_of" 18 Ez 166 ["base","power"]
def QT:=fnX O "gathered" 31 D7 244 ["terms"]
def GA:=fnX O "worth_at" 32 D7 249 ["some","start"]
def Hh:=fnX O "term_worth" 33 D7 256 ["powers","part","start"]
def UW:=fnX O "is_tree" 36 Ek 263 ["thing"]
def Ln:=fnX O "knots_within" 41 Ek 296 ["tree"]
def Lh:=fnX O "turns_within" 42 Ek 303 ["tree"]
def Ib:=fnX O "trees_one_larger" 44 Ek 317 ["tree"]
def Ef:=fnX O "bent_polys" 57 Ie 382 ["change","tree","known"]
def Dh:=fnX O "along_boughs" 58 Ie 389 ["some","boughs"]
def EA:=fnX O "bent_worths" 59 Ie 394 ["change","tree","start","known"]
def IQ:=fnX O "pushed_by" 60 Ie 401 ["some","speeds"]
def J7:=fnX O "grove_rows" 66 Uj 421 ["change","start","weighing"]
def My:=fnX O "ties_within" 71 Yv 445 ["tree"]
def Ff:=fnX O "followed_changes" 74 Ho 457 ["change","weighing"]
def O2:=fnX O "_law_frac" 83 FT 505 ["_law_top","_law_bottom"]
def jv:=M4 (P:=Ey.prog) (w:=w) (base:=base) (Bg O) (JO O)
def uw:=Sj (E3 O) (Bg O) (jv O (base:=base))
def lj:=X6 (P:=Ey.prog) (w:=w) (base:=base) (Fz O)
def ve:=QF (FO O) (Bg O) (jv O (base:=base))
def mX:=SK (Dr O) (FO O) (E3 O) (ve O ) (uw O (base:=base)) (VF O)
def zE:=SV (Hh O) (Fz O) (lj O (base:=base)) (VW O)
def zP:=WB (GA O) (Dr O) (Hh O) (mX O (base:=base)) ((zE O ).mono)
def yx:=YS (k:=6) (QT O) (Dr O) ((mX O (base:=base)).mono) (FY O)
def yN:=Wx (P:=Ey.prog) (w:=w) (base:=base) (O2 O) (JO O)
theorem Fw:Ax w mg base "fraction_of" 9 Ez 105 ["top","bottom"] Ag 3 (A1 FP):=⟨(E3 O),((vX (uw O (base:=base))).mono)⟩
theorem Jj:Ax w mg base "_law_frac" 83 FT 505 ["_law_top","_law_bottom"] Ag 2 (A1 FP):=⟨(O2 O),((vX (yN O (base:=base))).mono)⟩
theorem K5:Ax w mg base "gathered" 31 D7 244 ["terms"] Ag 7 (A1 QQ):=⟨(QT O),((zA (yx O (base:=base))).mono)⟩
theorem X2:Ax w mg base "worth_at" 32 D7 249 ["some","start"] Ag 9 (A1 UP):=⟨(GA O),((yo (zP O (base:=base))).mono)⟩
theorem Hl:Ax w mg base "greatest_divisor" 15 Ez 147 Os Ag 1 (A1 Xf):=⟨(Bg O),(yW (jv O (base:=base)))⟩
theorem O3:Ax w mg base "power_of" 18 Ez 166 ["base","power"] Ag 1 (A1 Tx):=⟨(Fz O),(yX (lj O (base:=base)))⟩
abbrev Kk:=Ce
theorem Pn:Ax w mg base "powers_joined" 30 D7 237 ["powers","more"] Ag 1 (A1 Kk):=mE O fun sc cdv A outer s H E hr=>by
 repeat' walk_at "g"
abbrev QL:=EK
theorem YL:Ax w mg base "one_less" 29 D7 232 ["powers","k"] Ag 1 (A1 QL):=mE O fun sc cdv A outer s H E hr=>by
 repeat' walk_at "g"
abbrev J3:=CH FP
theorem Mf:Ax w mg base "frac_times" 11 Ez 119 Os Ag 7 (A1 J3):=mE O fun sc cdv A outer s H E hr=>by
 have a_fraction_of:=Fw O (base:=base)
 repeat' walk_at "g"
abbrev JU:=CZ QQ
theorem Oy:Ax w mg base "poly_sum" 20 D7 173 Os Ag 8 (A1 JU):=mE O fun sc cdv A outer s H E hr=>by
 have a_gathered:=K5 O (base:=base)
 repeat' walk_at "g"
abbrev Jh:=Dw QQ Kk
theorem Uo:Ax w mg base "poly_times" 21 D7 180 Os Ag 8 (A1 Jh):=mE O fun sc cdv A outer s H E hr=>by
 have a_gathered:=K5 O (base:=base);have a_powers_joined:=Pn O (base:=base)
 repeat' walk_at "g"
abbrev GX:=A7 J3
theorem IK:Ax w mg base "poly_scaled" 22 D7 185 ["some","part"] Ag 8 (A1 GX):=mE O fun sc cdv A outer s H E hr=>by
 have a_frac_times:=Mf O (base:=base)
 repeat' walk_at "g"
abbrev HJ:=B2 J3 QL
theorem Mn:Ax w mg base "poly_slope" 23 D7 190 ["some","k"] Ag 8 (A1 HJ):=mE O fun sc cdv A outer s H E hr=>by
 have a_frac_times:=Mf O (base:=base);have a_one_less:=YL O (base:=base)
 repeat' walk_at "g"
theorem Ky:∀n,Ax w mg base "along_boughs" 58 Ie 389 ["some","boughs"] Ag (8+n+1) (A1 (De HJ JU Jh n))
 |0=>Za (Dh O)
 |n+1=>W8 (k:=8+n+1) (Dh O) Dx fun sc cdv A outer s H E hr=>by
  have a_along_boughs:=Ky n;have a_poly_slope:=Mn O (base:=base);have a_poly_sum:=Oy O (base:=base);have a_poly_times:=Uo O (base:=base)
  repeat' walk_at "g"
abbrev Sw:=De HJ JU Jh 3
theorem Ru:Ax w mg base "along_boughs" 58 Ie 389 ["some","boughs"] Ag 12 (A1 Sw):=Ky O 3
abbrev Xz:=PQ GX HJ JU
theorem V6:Ax w mg base "pushed_by" 60 Ie 401 ["some","speeds"] Ag 9 (A1 Xz):=mE O fun sc cdv A outer s H E hr=>by
 have a_poly_scaled:=IK O (base:=base);have a_poly_slope:=Mn O (base:=base);have a_poly_sum:=Oy O (base:=base)
 repeat' walk_at "g"
abbrev MR:=Cd
theorem PU:Ax w mg base "is_whole" 14 Ez 140 ["thing"] Ag 1 (A1 MR):=mE O fun sc cdv A outer s H E hr=>by
 repeat' walk_at "g"
abbrev JA:=B4 Xf MR
theorem LM:Ax w mg base "is_fraction" 12 Ez 126 ["thing"] Ag 3 (A1 JA):=mE O fun sc cdv A outer s H E hr=>by
 have a_greatest_divisor:=Hl O (base:=base);have a_is_whole:=PU O (base:=base)
 repeat' walk_at "g"
abbrev HP:=Bf JA
theorem KU:Ax w mg base "are_fractions" 13 Ez 133 ["thing"] Ag 4 (A1 HP):=mE O fun sc cdv A outer s H E hr=>by
 have a_is_fraction:=LM O (base:=base)
 repeat' walk_at "g"
abbrev M7:=Eh MR
theorem U9:Ax w mg base "are_powers" 26 D7 211 ["thing","unknowns"] Ag 2 (A1 M7):=mE O fun sc cdv A outer s H E hr=>by
 have a_is_whole:=PU O (base:=base)
 repeat' walk_at "g"
abbrev Uk:=HC M7 JA
theorem Zo:Ax w mg base "is_term" 25 D7 204 ["thing","unknowns"] Ag 4 (A1 Uk):=mE O fun sc cdv A outer s H E hr=>by
 have a_are_powers:=U9 O (base:=base);have a_is_fraction:=LM O (base:=base)
 repeat' walk_at "g"
abbrev T9:=Gv Uk
theorem Zu:Ax w mg base "is_poly" 24 D7 197 ["thing","unknowns"] Ag 5 (A1 T9):=mE O fun sc cdv A outer s H E hr=>by
 have a_is_term:=Zo O (base:=base)
 repeat' walk_at "g"
abbrev O8:=FG T9
theorem WZ:Ax w mg base "is_change" 55 Ie 370 ["thing"] Ag 6 (A1 O8):=mE O fun sc cdv A outer s H E hr=>by
 have a_is_poly:=Zu O (base:=base)
 repeat' walk_at "g"
abbrev C4:=Ab Xf
theorem D4:Ax w mg base "common_bottom" 16 Ez 154 ["bottoms"] Ag 3 (A1 C4):=mE O fun sc cdv A outer s H E hr=>by
 have a_greatest_divisor:=Hl O (base:=base)
 repeat' walk_at "g"
abbrev Rj:=F6 C4
theorem X8:Ax w mg base "grain_of" 46 JE 322 ["start"] Ag 4 (A1 Rj):=mE O fun sc cdv A outer s H E hr=>by
 have a_common_bottom:=D4 O (base:=base)
 repeat' walk_at "g"
abbrev HH:=Bc C4
theorem Jx:Ax w mg base "speeds_bottom" 52 JE 356 ["change"] Ag 4 (A1 HH):=mE O fun sc cdv A outer s H E hr=>by
 have a_common_bottom:=D4 O (base:=base)
 repeat' walk_at "g"
abbrev Gm:=BF
theorem JI:Ax w mg base "greatest_power" 53 JE 363 ["change"] Ag 1 (A1 Gm):=mE O fun sc cdv A outer s H E hr=>by
 repeat' walk_at "g"
abbrev Nc:=D0 Tx
theorem Uu:Ax w mg base "whole_poly" 51 JE 351 ["some","bottom","grain","greatest"] Ag 3 (A1 Nc):=mE O fun sc cdv A outer s H E hr=>by
 have a_power_of:=O3 O (base:=base)
 repeat' walk_at "g"
abbrev IC:=Bl Gm HH Nc
theorem KZ:Ax w mg base "whole_change" 50 JE 344 ["change","grain"] Ag 5 (A1 IC):=mE O fun sc cdv A outer s H E hr=>by
 have a_greatest_power:=JI O (base:=base);have a_speeds_bottom:=Jx O (base:=base);have a_whole_poly:=Uu O (base:=base)
 repeat' walk_at "g"
abbrev N8:=DY Gm Tx HH
theorem QP:Ax w mg base "pace_of" 47 JE 329 ["change","grain"] Ag 5 (A1 N8):=mE O fun sc cdv A outer s H E hr=>by
 have a_greatest_power:=JI O (base:=base);have a_power_of:=O3 O (base:=base);have a_speeds_bottom:=Jx O (base:=base)
 repeat' walk_at "g"
abbrev KJ:=CD C4 FP
theorem Mp:Ax w mg base "frac_total" 17 Ez 159 ["some"] Ag 4 (A1 KJ):=mE O fun sc cdv A outer s H E hr=>by
 have a_common_bottom:=D4 O (base:=base);have a_fraction_of:=Fw O (base:=base)
 repeat' walk_at "g"
abbrev Ot:=FA FP
theorem WI:Ax w mg base "frac_less" 10 Ez 112 Os Ag 4 (A1 Ot):=mE O fun sc cdv A outer s H E hr=>by
 have a_fraction_of:=Fw O (base:=base)
 repeat' walk_at "g"
theorem Ql:∀n,Ax w mg base "is_tree" 36 Ek 263 ["thing"] Ag (0+n+1) (A1 (DV n))
 |0=>Za (UW O)
 |n+1=>W8 (k:=0+n+1) (UW O) Dx fun sc cdv A outer s H E hr=>by
  have a_is_tree:=Ql n
  repeat' walk_at "g"
abbrev UY:=DV 4
theorem Zs:Ax w mg base "is_tree" 36 Ek 263 ["thing"] Ag 5 (A1 UY):=Ql O 4
abbrev KG:=Cn UY 49
theorem Om:Ax w mg base "refuse_no_tree" 39 Ek 284 ["thing"] (CP Ey.prog w) 7 (FN KG):=Ni (k:=6) (fnX O _ _ _ _ _) Dx fun sc cdv A outer s H E hr=>by
 have a_is_tree:=Zs O (base:=base);have Vg:=Vg O
 repeat' walk_at "g"
theorem Kd:∀n,Ax w mg base "knots_within" 41 Ek 296 ["tree"] Ag (0+n+1) (A1 (Bm n))
 |0=>Za (Ln O)
 |n+1=>W8 (k:=0+n+1) (Ln O) Dx fun sc cdv A outer s H E hr=>by
  have a_knots_within:=Kd n
  repeat' walk_at "g"
abbrev Ll:=Bm 4
theorem RU:Ax w mg base "knots_within" 41 Ek 296 ["tree"] Ag 5 (A1 Ll):=Kd O 4
theorem Ke:∀n,Ax w mg base "turns_within" 42 Ek 303 ["tree"] Ag (0+n+1) (A1 (Bn n))
 |0=>Za (Lh O)
 |n+1=>W8 (k:=0+n+1) (Lh O) Dx fun sc cdv A outer s H E hr=>by
  have a_turns_within:=Ke n
  repeat' walk_at "g"
abbrev LP:=Bn 4
theorem RI:Ax w mg base "turns_within" 42 Ek 303 ["tree"] Ag 5 (A1 LP):=Ke O 4
abbrev K3:=C0
theorem PX:Ax w mg base "product_up_to" 43 Ek 310 ["many"] Ag 1 (A1 K3):=mE O fun sc cdv A outer s H E hr=>by
 repeat' walk_at "g"
abbrev Cy:=An
theorem Hs:Ax w mg base "in_falling_order" 40 Ek 291 ["boughs"] Ag 1 (A1 Cy):=mE O fun sc cdv A outer s H E hr=>by
 repeat' walk_at "g"
theorem Hm:∀n,Ax w mg base "trees_one_larger" 44 Ek 317 ["tree"] Ag (1+n+1) (A1 (BN Cy n))
 |0=>Za (Ib O)
 |n+1=>W8 (k:=1+n+1) (Ib O) Dx fun sc cdv A outer s H E hr=>by
  have a_trees_one_larger:=Hm n;have a_in_falling_order:=Hs O (base:=base)
  repeat' walk_at "g"
abbrev Ii:=BN Cy 4
theorem M3:Ax w mg base "trees_one_larger" 44 Ek 317 ["tree"] Ag 6 (A1 Ii):=Hm O 4
abbrev JN:=Bs Ii 97
theorem K9:Ax w mg base "trees_of" 37 Ek 270 ["many"] (CP Ey.prog w) 8 (FN JN):=Ni (k:=7) (fnX O _ _ _ _ _) Dx fun sc cdv A outer s H E hr=>by
 have a_trees_one_larger:=M3 O (base:=base);have He:=He O;have Kn:=Kn O
 repeat' walk_at "g"
abbrev RZ:=F3 JN 97
theorem YC:Ax w mg base "trees_to" 38 Ek 277 ["most"] (CP Ey.prog w) 9 (FN RZ):=Ni (k:=8) (fnX O _ _ _ _ _) Dx fun sc cdv A outer s H E hr=>by
 have a_trees_of:=K9 O (base:=base);have He:=He O;have Kn:=Kn O
 repeat' walk_at "g"
abbrev IV:=Ae
theorem KS:Ax w mg base "tops_over" 49 JE 339 ["some","bottom"] Ag 1 (A1 IV):=mE O fun sc cdv A outer s H E hr=>by
 repeat' walk_at "g"
abbrev Mi:=CJ IV
theorem TF:Ax w mg base "whole_start" 48 JE 334 ["start","grain"] Ag 2 (A1 Mi):=mE O fun sc cdv A outer s H E hr=>by
 have a_tops_over:=KS O (base:=base)
 repeat' walk_at "g"
abbrev Fe:=A3 O8 61
theorem Hr:Ax w mg base "refuse_no_change" 56 Ie 377 ["thing"] (CP Ey.prog w) 7 (FN Fe):=Ni (k:=6) (fnX O _ _ _ _ _) Dx fun sc cdv A outer s H E hr=>by
 have a_is_change:=WZ O (base:=base);have Qa:=Qa O
 repeat' walk_at "g"
abbrev Lo:=CQ 73
theorem RC:Ax w mg base "refuse_start" 28 D7 225 [] (CP Ey.prog w) 6 (FN Lo):=Ni (k:=5) (fnX O _ _ _ _ _) Dx fun sc cdv A outer s H E hr=>by
 have Ug:=Ug O
 repeat' walk_at "g"
abbrev JF:=B9 HP Lo
theorem NH:Ax w mg base "refuse_no_start" 27 D7 218 ["thing","unknowns"] (CP Ey.prog w) 7 (FN JF):=Ni (k:=6) (fnX O _ _ _ _ _) Dx fun sc cdv A outer s H E hr=>by
 have a_are_fractions:=KU O (base:=base);have a_refuse_start:=RC O (base:=base)
 repeat' walk_at "g"
abbrev HN:=B6 HP 85
theorem LS:Ax w mg base "refuse_no_weighing" 64 mf 416 ["thing"] (CP Ey.prog w) 7 (FN HN):=Ni (k:=6) (fnX O _ _ _ _ _) Dx fun sc cdv A outer s H E hr=>by
 have a_are_fractions:=KU O (base:=base);have EL:=EL O;have EN:=EN (w:=w);have NY:=NY O
 repeat' walk_at "g"
abbrev Es:=Ay HN
theorem GJ:Ax w mg base "weighing_reach" 63 mf 409 ["weighing"] (CP Ey.prog w) 8 (FN Es):=Ni (k:=7) (fnX O _ _ _ _ _) Dx fun sc cdv A outer s H E hr=>by
 have a_refuse_no_weighing:=LS O (base:=base);have EL:=EL O;have EN:=EN (w:=w)
 repeat' walk_at "g"
theorem Lp:∀n,Ax w mg base "ties_within" 71 Yv 445 ["tree"] Ag (1+n+1) (A1 (B5 Cy n))
 |0=>Za (My O)
 |n+1=>W8 (k:=1+n+1) (My O) Dx fun sc cdv A outer s H E hr=>by
  have a_ties_within:=Lp n;have a_in_falling_order:=Hs O (base:=base)
  repeat' walk_at "g"
abbrev Mh:=B5 Cy 4
theorem Te:Ax w mg base "ties_within" 71 Yv 445 ["tree"] Ag 6 (A1 Mh):=Lp O 4
abbrev PM:=FE KG Mh
theorem Vr:Ax w mg base "tree_ties" 70 Yv 438 ["tree"] Ag 8 (A1 PM):=mE O fun sc cdv A outer s H E hr=>by
 have a_refuse_no_tree:=Om O (base:=base);have a_ties_within:=Te O (base:=base)
 repeat' walk_at "g"
abbrev N0:=Ec
theorem U0:Ax w mg base "move_share" 76 Ho 469 ["trunk_moves","j","number"] Ag 1 (A1 N0):=mE O fun sc cdv A outer s H E hr=>by
 repeat' walk_at "g"
abbrev Mt:=EH KJ Ll N0 PM
theorem Sb:Ax w mg base "later_moves" 75 Ho 462 ["tree","moves"] Ag 10 (A1 Mt):=mE O fun sc cdv A outer s H E hr=>by
 have a_frac_total:=Mp O (base:=base);have a_knots_within:=RU O (base:=base);have a_move_share:=U0 O (base:=base);have a_tree_ties:=Vr O (base:=base)
 repeat' walk_at "g"
abbrev Lr:=Di KJ K3
theorem QV:Ax w mg base "later_weight" 77 Ho 474 ["later"] Ag 5 (A1 Lr):=mE O fun sc cdv A outer s H E hr=>by
 have a_frac_total:=Mp O (base:=base);have a_product_up_to:=PX O (base:=base)
 repeat' walk_at "g"
abbrev Hk:=CB Ot Mt Lr RZ Es
theorem L5:Ax w mg base "followed_weighing" 73 Ho 450 ["weighing"] (CP Ey.prog w) 11 (FN Hk):=Ni (k:=10) (fnX O _ _ _ _ _) Dx fun sc cdv A outer s H E hr=>by
 have a_frac_less:=WI O (base:=base);have a_later_moves:=Sb O (base:=base);have a_later_weight:=QV O (base:=base);have a_trees_to:=YC O (base:=base);have a_weighing_reach:=GJ O (base:=base)
 repeat' walk_at "g"
abbrev K8:=CY LP
theorem OA:Ax w mg base "shares_of" 67 Uj 426 ["trees","weights"] Ag 6 (A1 K8):=mE O fun sc cdv A outer s H E hr=>by
 have a_turns_within:=RI O (base:=base)
 repeat' walk_at "g"
abbrev Mr:=ED C4 FP IV
theorem Si:Ax w mg base "shared_sums" 68 Uj 431 ["shares","bends","bottom"] Ag 5 (A1 Mr):=mE O fun sc cdv A outer s H E hr=>by
 have a_common_bottom:=D4 O (base:=base);have a_fraction_of:=Fw O (base:=base);have a_tops_over:=KS O (base:=base)
 repeat' walk_at "g"
theorem Uq:Ax w mg base "bent_polys" 57 Ie 382 ["change","tree","known"] Ag 16 (XI Mv):=⟨(Ef O),(zM (fun a o=>Me (k:=12) yK o.1 (Ef O) (Dh O) ((Ru O).up AC) 3))⟩
theorem Ss:Ax w mg base "bent_worths" 59 Ie 394 ["change","tree","start","known"] Ag 13 (XI Ow):=⟨(EA O),(ye (fun a o=>Lb (k:=9) yK o.1 (EA O) (IQ O) (GA O) ((V6 O).up AC) ((X2 O).up AC) (FD O) 3))⟩
abbrev HS:=Dq Ow Rj N8 Fe JF Mr K8 JN Es IC Mi V3
theorem U3:Ax w mg base "grove_rows" 66 Uj 421 ["change","start","weighing"] (CP Ey.prog w) 17 (FN HS):=Ni (k:=16) (fnX O _ _ _ _ _) Dx fun sc cdv A outer s H E hr=>by
 have a_bent_worths:=Ss O (base:=base);have a_grain_of:=X8 O (base:=base);have a_pace_of:=QP O (base:=base);have a_refuse_no_change:=Hr O (base:=base);have a_refuse_no_start:=NH O (base:=base);have a_shared_sums:=Si O (base:=base);have a_shares_of:=OA O (base:=base);have a_trees_of:=K9 O (base:=base);have a_weighing_reach:=GJ O (base:=base);have a_whole_change:=KZ O (base:=base);have a_whole_start:=TF O (base:=base);have h_grove_rows:∀(δ:Dv) (G:Hp) (a:AD),(V3 δ).ok G a (dN a []):=fun _ G a=>eK G a
 repeat' walk_at "g"
abbrev LU:=Dd K8
theorem Ro:Ax w mg base "shared_trees" 78 Ho 479 ["trees","numbers"] Ag 7 (A1 LU):=mE O fun sc cdv A outer s H E hr=>by
 have a_shares_of:=OA O (base:=base)
 repeat' walk_at "g"
abbrev NS:=Cu QQ GX
theorem VA:Ax w mg base "topped_sum" 80 Ho 491 ["polys","tops"] Ag 9 (A1 NS):=mE O fun sc cdv A outer s H E hr=>by
 have a_gathered:=K5 O (base:=base);have a_poly_scaled:=IK O (base:=base)
 repeat' walk_at "g"
abbrev JH:=Cg Mv C4 GX NS IV
theorem Nq:Ax w mg base "followed_change" 79 Ho 484 ["moving","shared","bottom","known"] Ag 17 (XI JH):=mkG (k:=16) (fnX O _ _ _ _ _) Dx fun sc cdv A outer s H E hr=>by
 have a_bent_polys:=Uq O (base:=base);have a_common_bottom:=D4 O (base:=base);have a_poly_scaled:=IK O (base:=base);have a_topped_sum:=VA O (base:=base);have a_tops_over:=KS O (base:=base)
 repeat' walk_at "g"
abbrev EM:=B3 JH Hk N8 Fe LU JN Es IC WQ
theorem M6:Ax w mg base "followed_changes" 74 Ho 457 ["change","weighing"] (CP Ey.prog w) 18 (FN EM):=Ni (k:=17) (fnX O _ _ _ _ _) Dx fun sc cdv A outer s H E hr=>by
 have a_followed_change:=Nq O (base:=base);have a_followed_weighing:=L5 O (base:=base);have a_pace_of:=QP O (base:=base);have a_refuse_no_change:=Hr O (base:=base);have a_shared_trees:=Ro O (base:=base);have a_trees_of:=K9 O (base:=base);have a_weighing_reach:=GJ O (base:=base);have a_whole_change:=KZ O (base:=base);have h_followed_changes:∀(δ:Dv) (G:Hp) (a:AD),(WQ δ).ok G a (dN a []):=fun _ G a=>eK G a
 repeat' walk_at "g"
theorem Mm:Ax w mg base "grove_rows" 66 Uj 421 ["change","start","weighing"] (CP Ey.prog w) 17 (FN (only refs HS)):=⟨(J7 O),XT refs (U3 O).f⟩
theorem Hn:Ax w mg base "followed_changes" 74 Ho 457 ["change","weighing"] (CP Ey.prog w) 18 (FN (only refs EM)):=⟨(Ff O),XT refs (M6 O).f⟩
abbrev IW:=A4
theorem Js:Ax w mg base "_law_cell" 82 FT 498 ["_law_script","_law_k"] Ag 1 (A1 IW):=mE O fun sc cdv A outer s H E hr=>by
 repeat' walk_at "g"
abbrev Qi:=F0 FP
theorem YD:Ax w mg base "_law_add" 84 FT 512 ["_law_one","_law_other"] Ag 3 (A1 Qi):=mE O fun sc cdv A outer s H E hr=>by
 have l:=Jj O (base:=base)
 repeat' walk_at "g"
abbrev Kp:=C5 Qi
theorem Pf:Ax w mg base "_law_gathered" 87 FT 531 ["_law_terms"] Ag 4 (A1 Kp):=mE O fun sc cdv A outer s H E hr=>by
 have l:=YD O (base:=base)
 repeat' walk_at "g"
abbrev Mx:=C9
theorem SR:Ax w mg base "_law_powers" 88 FT 536 ["_law_many"] Ag 1 (A1 Mx):=mE O fun sc cdv A outer s H E hr=>by
 repeat' walk_at "g"
abbrev Ms:=EF IW FP Kp Mx
theorem S9:Ax w mg base "_law_change" 89 FT 543 ["_law_script","_law_at","_law_most"] Ag 5 (A1 Ms):=mE O fun sc cdv A outer s H E hr=>by
 have T:=Js O (base:=base);have M:=Jj O (base:=base);have l:=Pf O (base:=base);have I:=SR O (base:=base)
 repeat' walk_at "g"
abbrev NX:=Ee IW FP
theorem Um:Ax w mg base "_law_start" 90 FT 550 ["_law_script","_law_at","_law_many"] Ag 3 (A1 NX):=mE O fun sc cdv A outer s H E hr=>by
 have I:=Js O (base:=base);have l:=Jj O (base:=base)
 repeat' walk_at "g"
abbrev PJ:=GU
theorem XE:Ax w mg base "_law_copy" 91 FT 555 ["_law_change_here"] Ag 1 (mw PJ):=mkN (fnX O "_law_copy" 91 FT 555 ["_law_change_here"]) Dx fun sc cdv A outer s H E hr=>by
 repeat' walk_at "g"
abbrev NW:=CI (only refs EM) (only refs HS) (K4 61) (K4 73) (K4 49) (K4 85) gp
theorem Uv:Ax w mg base "_law_kinds" 92 FT 562 ["_law_change_here","_law_start_here","_law_weighing","_law_whole"] Ag 19 (A1 NW):=mE O fun sc cdv A outer s H E hr=>by
 have Ff:=(Hn O (base:=base)).t;have Nf:=(Hn O (base:=base)).up (show 18<=18 by decide);have J7:=(Mm O (base:=base)).t;have WV:=(Mm O (base:=base)).up (show 17<=18 by decide);have HL:=HL O;have Ba:=Ba O;have KH:=KH O;have JW:=JW O;have Ki:=Ki O;have Ma:=Ma O;have HV:=HV O;have U:∀(C:AD) (b:Bool),(K4 61) C=some b->DQ IR C/\kitOne IR Re (D9 (.ref 61))=some b:=VG (c:=61) GR Hf E8;have Y:∀(C:AD) (b:Bool),(K4 73) C=some b->DQ IR C/\kitOne IR Re (D9 (.ref 73))=some b:=VG (c:=73) GR Hf E8;have Z:∀(C:AD) (b:Bool),(K4 49) C=some b->DQ IR C/\kitOne IR Re (D9 (.ref 49))=some b:=VG (c:=49) GR Hf E8;have T:∀(C:AD) (b:Bool),(K4 85) C=some b->DQ IR C/\kitOne IR Re (D9 (.ref 85))=some b:=VG (c:=85) GR Hf E8;have M:∀(C:AD) (b:Bool),gp C=some b->DQ IR C/\kitOne IR Re (D9 (.ty "ValueError"))=some b:=vp GR Hf E8;have l:∀ds C,only refs EM ds=some (.inr C)->HE IR C 24 true:=fun ds C h=>bb C (ZR h);have I:∀ds C,only refs HS ds=some (.inr C)->HE IR C 24 true:=fun ds C h=>bb C (ZR h);exact(Ju (QK (i:=4) sc.nd rfl GE WD)
 (Ju (qe (k:=5) (Tb (wG (dr (Dp (pv 3))) (Tb (ZX J7 WV hr (by exact(Ea (Dp (pv 0)) (Ea (Dp (pv 1)) (Ea (Dp (pv 2)) Lv)))))
   Wf) (Tb (ZX Ff Nf hr (by exact(Ea (Dp (pv 0)) (Ea (Dp (pv 2)) Lv))))
   Wf))
  Wf) sc.nd (CS.at (P:=fun C=>HE IR C 24 true) (CS.seq (CS.if (CS.seq (CS.call I) CS.nil) (CS.seq (CS.call l) CS.nil)) CS.nil)) KH (fun ea=>(OG (QK (i:=4) sc.nd rfl GE (Dp (pv 5))))))
 (Ju (nI (ia nZ (Dp (pv 4)) WD (E6 _))
  (OG (Vd (RG Lv)))
  ZF)
 (Ju (QK (i:=6) sc.nd rfl GE (RG (Ea (Jq U M0 rfl Ba (Gu (v:=.ref 61) rfl JW rfl) (Dp (pv 4))) (Ea (Jq Y M0 rfl Ba (Gu (v:=.ref 73) rfl Ki rfl) (Dp (pv 4))) (Ea (Jq T M0 rfl Ba (Gu (v:=.ref 85) rfl HV rfl) (Dp (pv 4))) Lv)))))
 (OG (Vd (mh hW (Dp (pv 6)) (RG (Ea (Jq Z M0 rfl Ba (Gu (v:=.ref 49) rfl Ma rfl) (Dp (pv 4))) (Ea (Jq M M0 rfl Ba (SN (v:=.ty "ValueError") rfl HL PyProof.Rows.Boot.«ValueError» rfl) (Dp (pv 4))) Lv))))))))))
abbrev JC:=Ci PJ
theorem N3:Ax w mg base "_law_bad_change" 93 FT 569 ["_law_change_here","_law_cell_here"] Ag 2 (A1 JC):=mE O fun sc cdv A outer s H E hr=>by
 have l:=XE O (base:=base)
 repeat' walk_at "g"
abbrev vm:=mI JC IW Ms NW NX
theorem uD:Ax w mg base "law" 94 FT 576 ["_law_script"] Ag 20 (A1 vm):=mE O fun sc cdv A outer s H E hr=>by
 have l:=N3 O (base:=base);have U:=Js O (base:=base);have I:=S9 O (base:=base);have T:=Uv O (base:=base);have M:=Um O (base:=base)
 repeat' walk_at "g"
end
section
open PySem.W
def yY w mg I h (X:(kH w.params).In h) (G:h.Ns mainGlobals mg) (l:mg "law" = some (.ref I)):∃fd ,(∀s v,BindsTo s fd ⟨[v],[]⟩ [("_law_script",v)])/\∀base ,(kH w.params).In base->base.Ns mainGlobals mg->Ah Ey.prog w IR mg base Ag 20 I fd ["_law_script"] (nr IR):=by
 have e:=l.symm.trans (mg_of X G (v:=.ref 577) Eo);cases e;exact⟨_,fun s v=>.of_eq rfl,fun base _ _=>qz Eo (uD ⟨h,X,G⟩ ).f⟩
def walkX:WalkO qX [] (XL qX []) hX.says Ey.row.toRowW dX [] (fun f vs=>PySem.call f vs) :=
 L2.oh rfl AC rfl ⟨rfl,by decide,by decide⟩ (fun w mg h X G H=>.no (mg_none_of X G IF) (mg_none_of X G IF) H) (fun w h Y=>kIn_of Y) yY (fun _ _ a ns l _ I=>⟨a,ns,rfl,I,l,fun _=>rfl⟩) fun _ _ _ _ _ z=>z
end
end Q45
open PySem PySem.W PyProof.Rows
set_option maxRecDepth 100000 in
theorem PySem.Challenge.cw_stepgrove_k45_refused_sums_holds : PySem.Challenge.rw_stepgrove_k45_refused_sums.Holds := by
  refine Q45.openX ?hw Q45.walkX
  w_witness2
#print axioms PySem.Challenge.cw_stepgrove_k45_refused_sums_holds
